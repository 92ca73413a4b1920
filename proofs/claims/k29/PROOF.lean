import PyProof.Rows.All
import Wide.All
import OpenK.AllK
import Wide.FinOn
import Lean
import PyProof.EqAt
import PyProof.EqKinds
import PyProof.TupleCall
import KE.KTryMore
import PyProof.StationsW
import PyProof.ExcBaseAll.ValueError
import PyProof.ExcClass2
import PyProof.RulesAs
import PyProof.NsDelKeeps
import KE.KIntText
import PyProof.StrWalks
import PyProof.StrBlockH
import PyProof.Rows.StrNews
import PyProof.Rows.StrJoin2
import PyProof.ConsumeWalk
import PyProof.FString
import PyProof.NeData
import KE.IntTextLaws
import PyProof.ExcInit
import PyProof.InstStoreFacts
import OpenK.KMake
import OpenK.KCls
import PyProof.ExcArgs
import PyProof.Rows.Catch
import KE.KDictList
import KE.KDictSum
import KE.KUnpack
import PyProof.MeetsSeq
import PyProof.Rows.StrInSeq3
import PyProof.SumAny
import PyProof.WalksS
import PyProof.EnumMake
import PyProof.EnumStmt
import PyProof.EnumFor
import PyProof.LayNew
import PyProof.Rows.EnumRows
import PyProof.ZipIter
import KE.KTurns
import PyProof.Rows.FactsT2
import PyProof.ConsumeS
import PyProof.WalkInts
import KE.KEqDict
import KE.KTurnsDict
import KE.KPairComp
import PyProof.StrLawsChain
import PyProof.StrLawsFirst
import KE.IntTextText
import PyProof.Rows.CatFin
import PyProof.Rows.StrClose5
import PyProof.Rows.StrFirst2
import PyProof.Ascii
import KE.KBoundM
import KE.KMinKey
import KE.KSuperObj
import PyProof.Rows.CallKwBuiltin
import KE.KRevIter
import PyProof.CollectIter
import KE.KDictOf
import KE.KItemsList
import PySem.Challenge.RW_castoff_k29_ranks
-- CHANGE: your row's module here, as the last of these rows
set_option Elab.async false
set_option linter.all false
set_option maxRecDepth 100000
namespace L2
open PySem PySem.Spec PyProof.Rows

noncomputable abbrev Key := Sum Int Str
noncomputable def keyIs : Key → Value → Bool
  | .inl k, v => Value.isInt k v
  | .inr x, v => Value.isStrOf x v
noncomputable def keyH (w : World) : Key → Int
  | .inl k => hashInt k
  | .inr x => hashStr w x
theorem keyIs_shape : ∀ {k : Key} {v : Value}, keyIs k v = true → (∃ i t, k = Sum.inl i ∧ v = Value.int i t) ∨ (∃ x t, k = Sum.inr x ∧ v = Value.str x t)
  | .inl i, v, h => by
    obtain ⟨t, e⟩ := Value.isInt_shape (k := i) (v := v) h
    exact .inl ⟨i, t, rfl, e⟩
  | .inr x, v, h => by
    obtain ⟨t, e⟩ := Value.isStrOf_shape (x := x) (v := v) h
    exact .inr ⟨x, t, rfl, e⟩
theorem keyIs_int (i : Int) (t : Tok) : keyIs (.inl i) (.int i t) = true := by simp [keyIs, Value.isInt]
theorem keyIs_str (x : Str) (t : Tok) : keyIs (.inr x) (.str x t) = true := by simp [keyIs, Value.isStrOf]
theorem key_ll (a b : Int) : decide ((Sum.inl a : Key) = Sum.inl b) = (a == b) := by
  by_cases e : a = b
  · subst e; simp
  · have h : ¬ (Sum.inl a : Key) = Sum.inl b := fun q => e (Sum.inl.inj q)
    rw [decide_eq_false h]
    exact (beq_eq_false_iff_ne.mpr e).symm
theorem key_rr (a b : Str) : decide ((Sum.inr a : Key) = Sum.inr b) = decide (a = b) := by
  by_cases e : a = b
  · subst e; simp
  · have h : ¬ (Sum.inr a : Key) = Sum.inr b := fun q => e (Sum.inr.inj q)
    rw [decide_eq_false h, decide_eq_false e]
theorem key_lr (a : Int) (b : Str) : decide ((Sum.inl a : Key) = Sum.inr b) = false := decide_eq_false (fun q => nomatch q)
theorem key_rl (a : Str) (b : Int) : decide ((Sum.inr a : Key) = Sum.inl b) = false := decide_eq_false (fun q => nomatch q)

noncomputable def mixKind (prog : Program) (w : World) : PySem.KeyKind prog w Key where
  is := keyIs
  hash := keyH w
  inj := fun v a b ha hb => by
    rcases keyIs_shape ha with ⟨i, t, rfl, rfl⟩ | ⟨x, t, rfl, rfl⟩
    · rcases keyIs_shape hb with ⟨j, u, rfl, e⟩ | ⟨y, u, rfl, e⟩
      · injection e with e1 _; rw [e1]
      · exact nomatch e
    · rcases keyIs_shape hb with ⟨j, u, rfl, e⟩ | ⟨y, u, rfl, e⟩
      · exact nomatch e
      · injection e with e1 _; rw [e1]
  byValue := fun k v h => by
    rcases keyIs_shape h with ⟨i, t, rfl, rfl⟩ | ⟨x, t, rfl, rfl⟩ <;> rfl
  pyHash := fun hv h => by
    rcases keyIs_shape hv with ⟨i, t, rfl, rfl⟩ | ⟨x, t, rfl, rfl⟩
    · exact wpAny_pyHash_int h
    · exact wpAny_pyHash_str h
  eqBool := fun hu hv h => by
    rcases keyIs_shape hu with ⟨i, t, rfl, rfl⟩ | ⟨x, t, rfl, rfl⟩
    · rcases keyIs_shape hv with ⟨j, u, rfl, rfl⟩ | ⟨y, u, rfl, rfl⟩
      · rw [key_ll] at h; exact wpAny_eqBool_int h
      · rw [key_lr] at h; exact SeqAt.EqAt.int_str i t y u _ _ _ _ h
    · rcases keyIs_shape hv with ⟨j, u, rfl, rfl⟩ | ⟨y, u, rfl, rfl⟩
      · rw [key_rl] at h; exact SeqAt.EqAt.str_int x t j u _ _ _ _ h
      · rw [key_rr] at h; exact wpAny_eqBool_str h
  «strs» := fun k x t v h => by
    rcases keyIs_shape h with ⟨i, u, rfl, e⟩ | ⟨y, u, rfl, e⟩
    · exact nomatch e
    · injection e with e1 _
      subst e1
      cases v <;> rfl

theorem mixKind_int (prog : Program) (w : World) (i : Int) (t : Tok) : (mixKind prog w).is (.inl i) (.int i t) = true := keyIs_int i t
theorem mixKind_str (prog : Program) (w : World) (x : Str) (t : Tok) : (mixKind prog w).is (.inr x) (.str x t) = true := keyIs_str x t
end L2

namespace L2
open PySem PySem.Spec PyProof.Rows

inductive V where
  | non | bl (b : Bool) | int (i : Int) | str (x : Str) | byt (b : Array UInt8) | flt (b : UInt64) | ref (a : Addr) | ty (n : String)
  deriving DecidableEq

noncomputable def RelV : V → Value → Prop
  | .non, u => u = Value.none
  | .bl b, u => u = Value.bool b
  | .int i, u => ∃ t, u = Value.int i t
  | .str x, u => ∃ t, u = Value.str x t
  | .byt b, u => ∃ t, u = Value.bytes b t
  | .flt b, u => ∃ t, u = Value.float b t
  | .ref a, u => u = Value.ref a
  | .ty n, u => u = Value.type n

noncomputable abbrev Vals : List V → List Value → Prop := Paired RelV
theorem Vals.length {xs : List V} {us : List Value} (r : Vals xs us) : xs.length = us.length := Paired.length r
theorem Vals.get : ∀ {xs : List V} {us : List Value} {i : Nat} {x : V}, Vals xs us → xs[i]? = some x → ∃ u, us[i]? = some u ∧ RelV x u
  | _, _, _, _, .nil, e => by simp at e
  | _, _, 0, _, .cons r _, e => by simp at e; subst e; exact ⟨_, rfl, r⟩
  | _, _, i + 1, x, .cons _ t, e => by
    obtain ⟨u, h1, h2⟩ := Vals.get (i := i) (x := x) t (by simpa using e)
    exact ⟨u, by simpa using h1, h2⟩
theorem Vals.append : ∀ {xs ys : List V} {us ws : List Value}, Vals xs us → Vals ys ws → Vals (xs ++ ys) (us ++ ws)
  | _, _, _, _, .nil, s => s
  | _, _, _, _, .cons r t, s => .cons r (Vals.append t s)
theorem Vals.take : ∀ {xs : List V} {us : List Value} (n : Nat), Vals xs us → Vals (xs.take n) (us.take n)
  | _, _, 0, _ => .nil
  | _, _, _ + 1, .nil => .nil
  | _, _, n + 1, .cons r t => .cons r (Vals.take n t)
theorem Vals.drop : ∀ {xs : List V} {us : List Value} (n : Nat), Vals xs us → Vals (xs.drop n) (us.drop n)
  | _, _, 0, r => r
  | _, _, _ + 1, .nil => .nil
  | _, _, n + 1, .cons _ t => Vals.drop n t
noncomputable def RelO : Option V → Option Value → Prop
  | some v, some u => RelV v u
  | none, none => True
  | _, _ => False
noncomputable def KV {κ : Type} : List (κ × V) → List (κ × Value) → Prop := Paired fun (p : κ × V) (q : κ × Value) => p.1 = q.1 ∧ RelV p.2 q.2

noncomputable def kV : Key → V
  | .inl i => .int i
  | .inr x => .str x

inductive HO where
  /-- a list -/
  | lst (xs : List V)
  /-- a tuple (never changes) -/
  | tup (xs : List V)
  /-- a dict whose keys are ints and texts; one whose keys are tuples of ints and texts (the empty one is both) -/
  | dK (kvs : List (Key × V)) | dT (kvs : List (List Key × V))
  /-- a set of ints: its members, its size -/
  | set (S : Int → Bool) (n : Nat)
  /-- an instance of the class at C, its dict at dx, its attributes -/
  | ins (C dx : Addr) (fs : List (Str × V))
  /-- the dict of the instance at x -/
  | own (x : Addr)
  /-- the dict of an exception -/
  | xd (fs : List (Str × V))
  /-- a bound method, f of x -/
  | met (f x : Addr)
  /-- a range object lo, lo + 1, .. below hi -/
  | rng (lo hi : Int)
  /-- a thing that is known to the object (the script; a dict while a loop walks it): read, never written while it is so -/
  | frz (o : Obj) (u : HO)
  /-- a code object's table -/
  | tbl (ps : Array Value)
  /-- any other thing, by what is true of its one object (a def of one's own: SetO a S n := HO.ext fun h => ..) -/
  | ext (φ : Heap → Prop)

noncomputable abbrev Hp := Addr → Option HO
noncomputable def upd (H : Hp) (a : Addr) (o : HO) : Hp := fun b => if b = a then some o else H b
theorem upd_same {H : Hp} {a : Addr} {o : HO} : upd H a o a = some o := by unfold upd; rw [if_pos rfl]
theorem upd_ne {H : Hp} {a b : Addr} {o : HO} (h : b ≠ a) : upd H a o b = H b := by unfold upd; rw [if_neg h]
theorem upd_upd {H : Hp} {a : Addr} {o u : HO} : upd (upd H a o) a u = upd H a u := by
  funext b; unfold upd; split <;> rfl
theorem ne_of {H : Hp} {a b : Addr} {o u : HO} (h : H a = some o) (h' : H b = some u) (d : o ≠ u) : a ≠ b := by
  intro e; subst e; rw [h] at h'; exact d (Option.some.inj h')
theorem ne_of_none {H : Hp} {a b : Addr} {o : HO} (h : H a = some o) (h' : H b = none) : a ≠ b := by
  intro e; subst e; rw [h] at h'; cases h'

section
variable (P : Program) (w : World)
noncomputable def ObjOk (H : Hp) (h : Heap) (a : Addr) : HO → Prop
  | .lst xs => xs.length ≤ sizeLine ∧ ∃ (its : List Value) (n : Nat), Vals xs its ∧ h.get? a = some { cls := .type "list", data := .seq its.toArray n }
  | .tup xs => xs.length ≤ sizeLine ∧ ∃ its : List Value, Vals xs its ∧ IsTup h a its.toArray
  | .dK kvs => kvs.length ≤ sizeLine ∧ (a == sysModules) = false ∧ ∃ vs, KV kvs vs ∧ h.DictOf (mixKind P w) a vs
  | .dT kvs => kvs.length ≤ sizeLine ∧ (a == sysModules) = false ∧ ∃ xs : List (List Key × Addr × Value),
      Paired (fun (p : List Key × V) (q : List Key × Addr × Value) => p.1 = q.1 ∧ H q.2.1 = some (.tup (p.1.map kV)) ∧ RelV p.2 q.2.2) kvs xs ∧
      ∃ o es ep, h.get? a = some o ∧ o.ExactDict ∧ o.data = .dict es ep ∧ es.toList = xs.map (entryOfKey (tupleKind (mixKind P w))) ∧ (xs.map (·.1)).Nodup
  | .set S n => h.SetOf (intKind P w) a S n
  | .ins C dx fs => H dx = some (.own a) ∧ fs.length ≤ 1000 ∧ dx ≠ a ∧ h.get? a = some (PySem.W.instObj C dx) ∧
      ∃ mA, h.Ns1 dx mA ∧ (∀ f, RelO (fs.lookup f) (mA f)) ∧ PySem.Within mA (fs.map (·.1))
  | .own _ => ∃ o, h.get? a = some o
  | .xd fs => ∃ mA, h.Ns1 a mA ∧ ∀ f, RelO (fs.lookup f) (mA f)
  | .rng lo hi => ∃ t u v, h.get? a = some { cls := .type "range", data := .fields #[.int lo t, .int hi u, .int 1 v] }
  | .frz o u => h.get? a = some o ∧ ObjOk H h a u
  | .tbl ps => h.get? a = some { cls := .none, data := .fields ps }
  | .met f x => h.get? a = some (PySem.W.methodObj (.ref f) (.ref x))
  | .ext φ => φ h ∧ (∃ o, h.get? a = some o) ∧ ∀ h1 h2 : Heap, φ h1 → (∀ o, h1.get? a = some o → h2.get? a = some o) → φ h2
noncomputable def HOk (H : Hp) (h : Heap) : Prop := ∀ a o, H a = some o → ObjOk P w H h a o
end

section
variable {P : Program} {w : World} {H H' : Hp} {h h' : Heap} {a : Addr} {o : HO}
theorem ObjOk.lt (x : ObjOk P w H h a o) : a < h.objs.size := by
  cases o with
  | lst xs => obtain ⟨_, _, _, _, e⟩ := x; exact Heap.lt_size e
  | tup xs => obtain ⟨_, _, _, p⟩ := x; exact p.lt
  | dK kvs => obtain ⟨_, _, _, _, o, _, _, e, _⟩ := x; exact Heap.lt_size e
  | dT kvs => obtain ⟨_, _, _, _, o, _, _, e, _⟩ := x; exact Heap.lt_size e
  | set S n => obtain ⟨o, _, _, _, e, _⟩ := x; exact Heap.lt_size e
  | ins C dx fs => obtain ⟨_, _, _, e, _⟩ := x; exact Heap.lt_size e
  | own y => obtain ⟨_, e⟩ := x; exact Heap.lt_size e
  | xd fs => obtain ⟨_, ⟨_, _, _, e, _⟩, _⟩ := x; exact Heap.lt_size e
  | rng lo hi => obtain ⟨_, _, _, e⟩ := x; exact Heap.lt_size e
  | frz ob u => obtain ⟨e, _⟩ := x; exact Heap.lt_size e
  | tbl ps => exact Heap.lt_size (show h.get? a = some _ from x)
  | met f y => exact Heap.lt_size (show h.get? a = some _ from x)
  | ext φ => obtain ⟨_, ⟨_, e⟩, _⟩ := x; exact Heap.lt_size e
theorem Paired.mapP {α β : Type} {F G : α → β → Prop} : ∀ {l₁ : List α} {l₂ : List β}, Paired F l₁ l₂ → (∀ a b, F a b → G a b) → Paired G l₁ l₂
  | _, _, .nil, _ => .nil
  | _, _, .cons r t, f => .cons (f _ _ r) (Paired.mapP t f)
theorem ObjOk.stay (x : ObjOk P w H h a o) (k : ∀ b u, (b = a ∨ H b = some (.own a)) → h.get? b = some u → h'.get? b = some u)
    (ho : ∀ b, H b = some (.own a) → H' b = some (.own a)) (ht : ∀ b xs, H b = some (.tup xs) → H' b = some (.tup xs)) : ObjOk P w H' h' a o := by
  induction o with
  | lst xs => obtain ⟨z, its, n, r, e⟩ := x; exact ⟨z, its, n, r, k _ _ (.inl rfl) e⟩
  | tup xs => obtain ⟨z, its, r, ob, e, c⟩ := x; exact ⟨z, its, r, ob, k _ _ (.inl rfl) e, c⟩
  | dK kvs => obtain ⟨z, y, vs, r, ob, es, ep, e, c⟩ := x; exact ⟨z, y, vs, r, ob, es, ep, k _ _ (.inl rfl) e, c⟩
  | dT kvs =>
    obtain ⟨z, y, xs, r, ob, es, ep, e, c⟩ := x
    exact ⟨z, y, xs, Paired.mapP r fun p q z => ⟨z.1, ht _ _ z.2.1, z.2.2⟩, ob, es, ep, k _ _ (.inl rfl) e, c⟩
  | set S n => obtain ⟨ob, es, ep, t, e, c⟩ := x; exact ⟨ob, es, ep, t, k _ _ (.inl rfl) e, c⟩
  | ins C dx fs =>
    obtain ⟨d, z, ne, e, mA, ⟨od, es, ep, e2, c⟩, r⟩ := x
    exact ⟨ho _ d, z, ne, k _ _ (.inl rfl) e, mA, ⟨od, es, ep, k _ _ (.inr d) e2, c⟩, r⟩
  | own y => obtain ⟨ob, e⟩ := x; exact ⟨ob, k _ _ (.inl rfl) e⟩
  | xd fs => obtain ⟨mA, ⟨od, es, ep, e, c⟩, r⟩ := x; exact ⟨mA, ⟨od, es, ep, k _ _ (.inl rfl) e, c⟩, r⟩
  | rng lo hi => obtain ⟨t, u, v, e⟩ := x; exact ⟨t, u, v, k _ _ (.inl rfl) e⟩
  | frz ob u ih => obtain ⟨e, q⟩ := x; exact ⟨k _ _ (.inl rfl) e, ih q⟩
  | tbl ps =>
    have e : h.get? a = some { cls := .none, data := .fields ps } := x
    show h'.get? a = some { cls := .none, data := .fields ps }
    exact k a _ (.inl rfl) e
  | met f y =>
    have e : h.get? a = some (PySem.W.methodObj (.ref f) (.ref y)) := x
    show h'.get? a = some (PySem.W.methodObj (.ref f) (.ref y))
    exact k a _ (.inl rfl) e
  | ext φ => obtain ⟨p, ⟨o, e⟩, st⟩ := x; exact ⟨st _ _ p fun o q => k _ _ (.inl rfl) q, ⟨o, k _ _ (.inl rfl) e⟩, st⟩
theorem HOk.lt (x : HOk P w H h) (e : H a = some o) : a < h.objs.size := (x a o e).lt
theorem HOk.fresh (x : HOk P w H h) (e : h.objs.size ≤ a) : H a = none := by
  cases q : H a with
  | none => rfl
  | some u => exact absurd (Nat.lt_of_lt_of_le (x.lt q) e) (Nat.lt_irrefl _)
theorem HOk.kept (x : HOk P w H h) (k : ∀ b u, h.get? b = some u → h'.get? b = some u) : HOk P w H h' := fun a o e =>
  (x a o e).stay (fun b u _ q => k b u q) (fun _ q => q) fun _ _ q => q
theorem HOk.laid (x : HOk P w H h) (k : ∀ b u, h.get? b = some u → h'.get? b = some u) (hp : h.objs.size ≤ a) (new : ObjOk P w (upd H a o) h' a o) : HOk P w (upd H a o) h' := fun b u e => by
  have hn := x.fresh hp
  by_cases hb : b = a
  · subst hb; rw [upd_same] at e; cases e; exact new
  · rw [upd_ne hb] at e
    exact (x b u e).stay (fun c v _ q => k c v q) (fun c q => by rw [upd_ne (ne_of_none q hn)]; exact q) fun c xs q => by rw [upd_ne (ne_of_none q hn)]; exact q
end

noncomputable def Rd (H : Hp) (a : Addr) (u : HO) : Prop := H a = some u ∨ ∃ o, H a = some (.frz o u)
theorem Rd.ok {P : Program} {w : World} {H : Hp} {h : Heap} {a : Addr} {u : HO} (r : Rd H a u) (x : HOk P w H h) : ObjOk P w H h a u := by
  rcases r with r | ⟨o, r⟩
  · exact x a u r
  · obtain ⟨_, q⟩ := x a _ r
    exact q
noncomputable def Mut : Option HO → Prop
  | some (.lst _) => True
  | some (.dK _) => True
  | some (.dT _) => True
  | some (.set _ _) => True
  | some (.ins _ _ _) => True
  | some (.ext _) => True
  | _ => False
section
variable {P : Program} {w : World} {H : Hp} {h h' : Heap} {x e : Addr} {o' : HO}
theorem HOk.write (ok : HOk P w H h) (mu : Mut (H x)) (he : e = x ∨ H e = some (.own x)) (k : ∀ b u, b ≠ e → h.get? b = some u → h'.get? b = some u) (heo : ∃ u, h'.get? e = some u)
    (new : ObjOk P w (upd H x o') h' x o') : HOk P w (upd H x o') h' := fun b u q => by
  have nown : ∀ c y, H c = some (.own y) → c ≠ x := fun c y r z => by subst z; rw [r] at mu; exact mu
  have ntup : ∀ c xs, H c = some (.tup xs) → c ≠ x := fun c xs r z => by subst z; rw [r] at mu; exact mu
  by_cases hb : b = x
  · subst hb; rw [upd_same] at q; cases q; exact new
  · rw [upd_ne hb] at q
    by_cases hbe : b = e
    · have q' : H b = some (.own x) := by
        rcases he with z | z
        · exact absurd (hbe.trans z) hb
        · rw [hbe]; exact z
      rw [q] at q'; cases q'
      obtain ⟨v, hv⟩ := heo
      exact ⟨v, by rw [hbe]; exact hv⟩
    · refine (ok b u q).stay (fun c v hc r => k c v ?_ r) (fun c r => by rw [upd_ne (nown c b r)]; exact r) fun c xs r => by rw [upd_ne (ntup c xs r)]; exact r
      rcases hc with rfl | hc
      · exact hbe
      · rintro rfl
        rcases he with z | z
        · exact nown c b hc z
        · rw [hc] at z; cases z; exact hb rfl
end

structure Un (fs ex : List Addr) (H H' : Hp) (h h' : Heap) : Prop where
  keep : ∀ b o, h.get? b = some o → H b = none → b ∉ fs → b ∉ ex → h'.get? b = some o
  slot : ∀ b o, h.get? b = some o → H b = none → b ∈ fs → b ∉ ex → ∃ sl, h'.get? b = some { o with slots := sl }
  free : ∀ b o, h.get? b = some o → H b = none → b ∉ ex → H' b = none
  there : ∀ b o, h.get? b = some o → b ∉ ex → ∃ o', h'.get? b = some o'
  tups : ∀ b xs, H b = some (.tup xs) → H' b = some (.tup xs)
  frzs : ∀ b o u, H b = some (.frz o u) → H' b = some (.frz o u)
  tbls : ∀ b ps, H b = some (.tbl ps) → ∃ more, H' b = some (.tbl (ps ++ more))
section
variable {fs fs' ex ex' : List Addr} {H H1 H2 : Hp} {h h1 h2 h' : Heap} {a x e : Addr} {o : HO}
theorem Un.any (u : Un fs ex H H1 h h1) {b : Addr} {ob : Obj} (q : h.get? b = some ob) (n : H b = none) (hx : b ∉ ex) : ∃ sl, h1.get? b = some { ob with slots := sl } := by
  by_cases hb : b ∈ fs
  · exact u.slot b ob q n hb hx
  · exact ⟨ob.slots, u.keep b ob q n hb hx⟩
theorem Un.kept (k : ∀ b u, h.get? b = some u → h'.get? b = some u) : Un fs ex H H h h' :=
  ⟨fun b ob q _ _ _ => k b ob q, fun b ob q _ _ _ => ⟨ob.slots, k b ob q⟩, fun _ _ _ n _ => n, fun b ob q _ => ⟨ob, k b ob q⟩, fun _ _ q => q, fun _ _ _ q => q, fun _ ps q => ⟨#[], by rw [q]; simp⟩⟩
theorem Un.refl : Un fs ex H H h h := Un.kept fun _ _ q => q
theorem Un.laid (k : ∀ b u, h.get? b = some u → h'.get? b = some u) (hp : h.objs.size ≤ a) (hn : H a = none) : Un fs ex H (upd H a o) h h' where
  keep := fun b u q _ _ _ => k b u q
  slot := fun b u q _ _ _ => ⟨u.slots, k b u q⟩
  free := fun b u q n _ => by rw [upd_ne (Nat.ne_of_lt (Nat.lt_of_lt_of_le (Heap.lt_size q) hp))]; exact n
  there := fun b u q _ => ⟨u, k b u q⟩
  tups := fun b xs q => by rw [upd_ne (ne_of_none q hn)]; exact q
  frzs := fun b u xs q => by rw [upd_ne (ne_of_none q hn)]; exact q
  tbls := fun b ps q => ⟨#[], by rw [upd_ne (ne_of_none q hn), q]; simp⟩
theorem Un.write (mu : Mut (H x)) (he : e = x ∨ H e = some (.own x)) (k : ∀ b u, b ≠ e → h.get? b = some u → h'.get? b = some u) (heo : ∃ u, h'.get? e = some u) : Un fs ex H (upd H x o) h h' := by
  have hx : ∀ b, H b = none → b ≠ x := fun b n z => by subst z; rw [n] at mu; exact mu
  have hb : ∀ b, H b = none → b ≠ e := fun b n z => by
    subst z
    rcases he with r | r
    · exact hx b n r
    · rw [n] at r; cases r
  have hm : ∀ b u, H b = some u → ¬ Mut (some u) → b ≠ x := fun b u q nm z => by subst z; rw [q] at mu; exact nm mu
  refine ⟨fun b u q n _ _ => k b u (hb b n) q, fun b u q n _ _ => ⟨u.slots, k b u (hb b n) q⟩, fun b u q n _ => by rw [upd_ne (hx b n)]; exact n, fun b u q _ => ?_,
    fun b xs q => by rw [upd_ne (hm b _ q fun z => z)]; exact q, fun b u xs q => by rw [upd_ne (hm b _ q fun z => z)]; exact q, fun b ps q => ⟨#[], by rw [upd_ne (hm b _ q fun z => z), q]; simp⟩⟩
  by_cases hbe : b = e
  · subst hbe; exact heo
  · exact ⟨u, k b u hbe q⟩
end

noncomputable def trk (h : Heap) (H : Hp) : List Addr := (List.range h.objs.size).filter fun a => (H a).isSome
noncomputable def hidT (h : Heap) (H : Hp) : Heap := PySem.W.hideAll h (trk h H)
theorem hidT_size (h : Heap) (H : Hp) : (hidT h H).objs.size = h.objs.size := PySem.W.hideAll_size _ _
theorem hidT_get {h : Heap} {H : Hp} {b : Addr} {o : Obj} (e : h.get? b = some o) (n : H b = none) : (hidT h H).get? b = some o :=
  PySem.W.hideAll_get _ e fun hm => by
    have q : (H b).isSome = true := (List.mem_filter.mp hm).2
    rw [n] at q; simp at q
theorem of_hidT {h : Heap} {H : Hp} {b : Addr} {o : Obj} (e : (hidT h H).get? b = some o) : h.get? b = some o ∧ H b = none := by
  have e' : h.get? b = some o := PySem.W.of_hideAll (trk h H) e
  refine ⟨e', ?_⟩
  cases q : H b with
  | none => rfl
  | some x =>
    have hm : b ∈ trk h H := List.mem_filter.mpr ⟨List.mem_range.mpr (Heap.lt_size e'), by simp [q]⟩
    have z : (hidT h H).get? b = none := PySem.W.hideAll_none (trk h H) hm
    rw [z] at e; cases e

noncomputable def allNews (g h : Heap) (L : Addr) : List (Addr × Obj) := (List.range h.objs.size).filterMap fun a => if a = L ∨ (g.get? a).isSome = true then none else (h.get? a).map fun o => (a, o)
noncomputable def rest (g h : Heap) (L d : Addr) : List (Addr × Obj) := (allNews g h L).filter fun p => decide (p.1 ≠ d)
end L2

namespace L2
open PySem PySem.Spec PyProof.Rows

structure Mod (K : PySem.W.Frag) (mg : Str → Option Value) (base : Heap) : Prop where
  kin : K.In base
  glob : base.Ns mainGlobals mg
  blt : ∃ mb, base.Ns builtinsNs mb ∧ ∀ x : Str, x ≠ "__name__" → mb x = bootBuiltins x
  nolimit : base.NoLimit

structure Cx where
  prog : Program
  w : World
  K : PySem.W.Frag
  mg : Str → Option Value
  base : Heap
  A : Around
  N : List Str
  s₀ : Shared
  H₀ : Hp
  env : Env
  outer : List Env
  stack : List Env
  ex : List Addr
  fn : Str → Bool
  calm : Bool
  pn : List (Addr × Obj)
  xe : Value → Shared → Prop
noncomputable def frs (l : List Env) : List Addr := l.filterMap (·.frame)
noncomputable abbrev Cx.fs (X : Cx) : List Addr := frs X.outer

noncomputable def Vis (sc : Scope) (x : Str) : Prop := sc.names.lookup x = some .local ∨ sc.names.lookup x = some .cell ∨ sc.names.lookup x = some .free
noncomputable def Loc (sc : Scope) (x : Str) : Prop := sc.names.lookup x = some .local ∨ sc.names.lookup x = some .cell
noncomputable def Look (env : Env) (h : Heap) (m : Str → Option Value) (x : Str) (u : Value) : Prop :=
  (env.kindOf x = some .local ∧ m x = some u) ∨ ((env.kindOf x = some .cell ∨ env.kindOf x = some .free) ∧ ∃ c, env.cells.lookup x = some c ∧ h.IsCell c (some u))

structure Cx.Ok (X : Cx) : Prop where
  mod : Mod X.K X.mg X.base
  kind : X.env.scope.kind = .function
  glob : X.env.globals = mainGlobals
  blt : X.env.builtins = builtinsNs
  above : X.s₀.heap.objs.size ≤ X.env.locals
  inj : ∀ x y c, X.env.cells.lookup x = some c → X.env.cells.lookup y = some c → x = y
  has : ∀ x, (X.env.kindOf x = some .cell ∨ X.env.kindOf x = some .free) → ∃ c, X.env.cells.lookup x = some c
  cab : ∀ x c, X.fn x = true → X.env.cells.lookup x = some c → X.s₀.heap.objs.size ≤ c
  hd : X.calm = true → X.A.handled = none
  frames : X.A.frames = some X.stack
  stk : X.stack = X.outer ∨ (X.stack = X.env :: X.outer ∧ X.env.frame = some X.env.locals)
  exf : ∀ b ∈ X.ex, b ≠ X.env.locals ∧ ∀ x c, X.env.cells.lookup x = some c → c ≠ b
  bs : ∀ b o, X.base.get? b = some o → X.s₀.heap.get? b = some o ∧ X.H₀ b = none
  bsz : X.base.objs.size ≤ X.s₀.heap.objs.size
  noex : ∀ b o, X.base.get? b = some o → b ∉ X.ex
  exfs : ∀ b ∈ X.ex, b ∉ X.fs
  funs : X.s₀.heap.FunFrames X.base X.outer
  frf : ∀ b ∈ X.fs, X.H₀ b = none

structure Inv (X : Cx) (pins : List (Addr × Obj)) (σ : List (Option V)) (H : Hp) (s : Shared) : Prop where
  ok : X.Ok
  os : s.os = X.s₀.os
  bare : AllBare s.gens
  base : Un X.fs X.ex X.H₀ H X.s₀.heap s.heap
  loc : ∃ m, s.heap.Ns X.env.locals m ∧ ∀ (i : Nat) (x : Str) (v : V), X.N[i]? = some x → σ[i]? = some (some v) → Vis X.env.scope x → ∃ u, RelV v u ∧ Look X.env s.heap m x u
  cell : ∀ x c, X.env.cells.lookup x = some c → ∃ v, s.heap.IsCell c v
  free : H X.env.locals = none
  freeC : ∀ x c, X.env.cells.lookup x = some c → H c = none
  pin : ∀ p ∈ X.pn ++ pins, s.heap.get? p.1 = some p.2 ∧ H p.1 = none ∧ p.1 ≠ X.env.locals ∧ p.1 ∉ X.fs ∧ ∀ v, p.2.data ≠ .cell v
  hok : HOk X.prog X.w H s.heap
  len : σ.length = X.N.length

section
variable {X : Cx} {pins : List (Addr × Obj)} {σ : List (Option V)} {H H' : Hp} {s : Shared} {h' : Heap}

theorem Cx.Ok.nofr (ok : X.Ok) {b : Addr} {o : Obj} (e : X.base.get? b = some o) : b ∉ X.fs := fun hb => by
  have := (ok.funs.mem hb).1
  rw [e] at this; cases this
theorem Inv.bs (I : Inv X pins σ H s) : ∀ b o, X.base.get? b = some o → s.heap.get? b = some o ∧ H b = none := fun b o e =>
  ⟨I.base.keep b o (I.ok.bs b o e).1 (I.ok.bs b o e).2 (I.ok.nofr e) (I.ok.noex b o e), I.base.free b o (I.ok.bs b o e).1 (I.ok.bs b o e).2 (I.ok.noex b o e)⟩
theorem Inv.bk (I : Inv X pins σ H s) : ∀ b o, X.base.get? b = some o → s.heap.get? b = some o := fun b o e => (I.bs b o e).1
theorem Inv.mod (I : Inv X pins σ H s) : Mod X.K X.mg X.base := I.ok.mod
theorem Inv.kIn (I : Inv X pins σ H s) : X.K.In s.heap := I.ok.mod.kin.keeps I.bk
theorem Inv.lt (I : Inv X pins σ H s) : X.env.locals < s.heap.objs.size := let ⟨_, hn, _⟩ := I.loc; hn.lt
theorem Inv.sz (I : Inv X pins σ H s) : X.s₀.heap.objs.size ≤ s.heap.objs.size := Nat.le_trans I.ok.above (Nat.le_of_lt I.lt)
theorem Inv.nofs (I : Inv X pins σ H s) {a : Addr} (h : s.heap.objs.size ≤ a) : a ∉ X.fs := fun hb => by
  obtain ⟨_, o, ho, _⟩ := I.ok.funs.mem hb
  exact absurd (Nat.lt_of_lt_of_le (Heap.lt_size ho) (Nat.le_trans I.sz h)) (Nat.lt_irrefl _)
theorem Inv.cne (I : Inv X pins σ H s) : ∀ x c, X.env.cells.lookup x = some c → c ≠ X.env.locals := fun x c e z => by
  obtain ⟨v, o, ho, hd⟩ := I.cell x c e
  obtain ⟨m, ⟨o', es, ep, ho', hd', _⟩, _⟩ := I.loc
  rw [z, ho'] at ho; cases ho; rw [hd'] at hd; cases hd
theorem Inv.funs (I : Inv X pins σ H s) : s.heap.FunFrames X.base X.outer := by
  have all : ∀ (l : List Env), (∀ b ∈ frs l, b ∈ X.fs) → X.s₀.heap.FunFrames X.base l → s.heap.FunFrames X.base l := by
    intro l
    induction l with
    | nil => intro _ _; trivial
    | cons env r ih =>
      intro hs hl
      obtain ⟨hk, ⟨L, o, hf, hn, ho, hd⟩, hr⟩ := hl
      have hL : L ∈ X.fs := hs L (by unfold frs; rw [List.filterMap_cons, hf]; exact List.mem_cons_self)
      obtain ⟨sl, e⟩ := I.base.slot L o ho (I.ok.frf L hL) hL fun z => I.ok.exfs L z hL
      exact ⟨hk, ⟨L, _, hf, hn, e, hd⟩, ih (fun b hb => hs b (by unfold frs; rw [List.filterMap_cons, hf]; exact List.mem_cons_of_mem _ hb)) hr⟩
  exact all X.outer (fun _ hb => hb) I.ok.funs

theorem Inv.stack (I : Inv X pins σ H s) : s.heap.FunFrames X.base X.stack := by
  rcases I.ok.stk with e | ⟨e, hf⟩
  · rw [e]; exact I.funs
  · rw [e]
    obtain ⟨m, hn, _⟩ := I.loc
    refine .cons (by rw [I.ok.kind]; decide) hf hn ?_ I.funs
    exact Heap.get?_none_of_le (Nat.le_trans I.ok.bsz I.ok.above)
theorem Inv.stkSub (I : Inv X pins σ H s) : ∀ b ∈ frs X.stack, b ∈ X.env.locals :: X.fs := fun b hb => by
  rcases I.ok.stk with e | ⟨e, hf⟩
  · rw [e] at hb; exact List.mem_cons_of_mem _ hb
  · rw [e] at hb
    unfold frs at hb
    rw [List.filterMap_cons, hf] at hb
    exact hb
theorem Inv.stkFree (I : Inv X pins σ H s) : ∀ b ∈ frs X.stack, H b = none := fun b hb => by
  rcases List.mem_cons.mp (I.stkSub b hb) with e | hb
  · rw [e]; exact I.free
  · obtain ⟨_, o, ho, _⟩ := I.ok.funs.mem hb
    exact I.base.free b o ho (I.ok.frf b hb) fun z => I.ok.exfs b z hb

theorem Inv.step {g' : Array GenState} {t' : Nat} {d' : Drawn} {ch : List Addr} (I : Inv X pins σ H s)
    (hch : ∀ b ∈ ch, (b ∈ X.ex ∨ X.s₀.heap.objs.size ≤ b) ∧ b ≠ X.env.locals ∧ (∀ x c, X.env.cells.lookup x = some c → c ≠ b) ∧ ∀ p ∈ X.pn ++ pins, p.1 ≠ b)
    (keep : ∀ b o, b ≠ X.env.locals → b ∉ X.fs → b ∉ ch → s.heap.get? b = some o → H b = none → h'.get? b = some o)
    (slot : ∀ b o, b ≠ X.env.locals → b ∈ X.fs → b ∉ ch → s.heap.get? b = some o → H b = none → ∃ sl, h'.get? b = some { o with slots := sl }) (free : ∀ b o, b ∉ ch → s.heap.get? b = some o → H b = none → H' b = none)
    (there : ∀ b o, b ∉ ch → s.heap.get? b = some o → ∃ o', h'.get? b = some o')
    (tups : ∀ b xs, H b = some (.tup xs) → H' b = some (.tup xs)) (frzs : ∀ b o u, H b = some (.frz o u) → H' b = some (.frz o u)) (tbls : ∀ b ps, H b = some (.tbl ps) → ∃ more, H' b = some (.tbl (ps ++ more)))
    (ns : ∀ m, s.heap.Ns X.env.locals m → h'.Ns X.env.locals m) (hok : HOk X.prog X.w H' h') (hg : AllBare g') :
    Inv X pins σ H' { s with heap := h', gens := g', drawn := d', toks := t' } := by
  have neL : ∀ b o, X.s₀.heap.get? b = some o → b ≠ X.env.locals := fun b o e => Nat.ne_of_lt (Nat.lt_of_lt_of_le (Heap.lt_size e) I.ok.above)
  have neC : ∀ b o, X.s₀.heap.get? b = some o → b ∉ X.ex → b ∉ ch := fun b o e hx hb => by
    rcases (hch b hb).1 with z | z
    · exact hx z
    · exact absurd (Nat.lt_of_lt_of_le (Heap.lt_size e) z) (Nat.lt_irrefl _)
  have cellK : ∀ x c, X.env.cells.lookup x = some c → ∀ v, s.heap.IsCell c v → h'.IsCell c v := fun x c e v ⟨o, ho, hd⟩ => by
    have nch : c ∉ ch := fun z => (hch c z).2.2.1 x c e rfl
    by_cases hc : c ∈ X.fs
    · obtain ⟨sl, q⟩ := slot c o (I.cne x c e) hc nch ho (I.freeC x c e)
      exact ⟨_, q, hd⟩
    · exact ⟨o, keep c o (I.cne x c e) hc nch ho (I.freeC x c e), hd⟩
  refine ⟨I.ok, I.os, hg, ⟨fun b o e n hb hx => ?_, fun b o e n hb hx => ?_, fun b o e n hx => ?_, fun b o e hx => ?_, fun b xs e => tups b xs (I.base.tups b xs e), fun b o xs e => frzs b o xs (I.base.frzs b o xs e), fun b ps e => ?_⟩, ?_, fun x c e => ?_, ?_, fun x c e => ?_, fun p hp => ?_, hok, I.len⟩
  · exact keep b o (neL b o e) hb (neC b o e hx) (I.base.keep b o e n hb hx) (I.base.free b o e n hx)
  · obtain ⟨sl, e1⟩ := I.base.slot b o e n hb hx
    obtain ⟨sl', e2⟩ := slot b _ (neL b o e) hb (neC b o e hx) e1 (I.base.free b o e n hx)
    exact ⟨sl', e2⟩
  · obtain ⟨o', e1⟩ := I.base.there b o e hx
    exact free b o' (neC b o e hx) e1 (I.base.free b o e n hx)
  · obtain ⟨o', e1⟩ := I.base.there b o e hx
    exact there b o' (neC b o e hx) e1
  · obtain ⟨m1, e1⟩ := I.base.tbls b ps e
    obtain ⟨m2, e2⟩ := tbls b _ e1
    exact ⟨m1 ++ m2, by rw [e2, Array.append_assoc]⟩
  · obtain ⟨m, hn, hl⟩ := I.loc
    refine ⟨m, ns m hn, fun i x v e1 e2 e3 => ?_⟩
    obtain ⟨u, r, l⟩ := hl i x v e1 e2 e3
    refine ⟨u, r, ?_⟩
    rcases l with l | ⟨k, c, e, z⟩
    · exact .inl l
    · exact .inr ⟨k, c, e, cellK x c e _ z⟩
  · obtain ⟨v, z⟩ := I.cell x c e
    exact ⟨v, cellK x c e v z⟩
  · obtain ⟨m, ⟨o, _, _, ho, _⟩, _⟩ := I.loc
    exact free _ o (fun z => (hch _ z).2.1 rfl) ho I.free
  · obtain ⟨v, o, ho, hd⟩ := I.cell x c e
    exact free c o (fun z => (hch c z).2.2.1 x c e rfl) ho (I.freeC x c e)
  · obtain ⟨e, n, ne, nf, d⟩ := I.pin p hp
    have nch : p.1 ∉ ch := fun z => (hch p.1 z).2.2.2 p hp rfl
    exact ⟨keep p.1 p.2 ne nf nch e n, free p.1 p.2 nch e n, ne, nf, d⟩
theorem Inv.un {t' : Nat} (I : Inv X pins σ H s) (u : Un X.fs [] H H' s.heap h') (hok : HOk X.prog X.w H' h') : Inv X pins σ H' { s with heap := h', toks := t' } := by
  obtain ⟨m, ⟨o, es, ep, ho, r⟩, _⟩ := id I.loc
  obtain ⟨sl, hL⟩ := u.any ho I.free (by simp)
  exact I.step (g' := s.gens) (d' := s.drawn) (ch := []) (fun _ z => nomatch z) (fun b o _ hb _ e n => u.keep b o e n hb (by simp)) (fun b o _ hb _ e n => u.slot b o e n hb (by simp)) (fun b o _ e n => u.free b o e n (by simp)) (fun b o _ e => u.there b o e (by simp)) u.tups u.frzs u.tbls (fun m' hm => by
    obtain ⟨o', es', ep', ho', r'⟩ := hm
    rw [ho] at ho'; cases ho'
    exact ⟨_, es', ep', hL, r'⟩) hok I.bare
theorem Inv.call {g' : Array GenState} {t' : Nat} {d' : Drawn} {ch : List Addr} (I : Inv X pins σ H s) (u : Un (frs X.stack) ch H H' s.heap h') (hok : HOk X.prog X.w H' h') (hg : AllBare g')
    (hch : ∀ b ∈ ch, (b ∈ X.ex ∨ X.s₀.heap.objs.size ≤ b) ∧ b ≠ X.env.locals ∧ (∀ x c, X.env.cells.lookup x = some c → c ≠ b) ∧ ∀ p ∈ X.pn ++ pins, p.1 ≠ b) :
    Inv X pins σ H' { s with heap := h', gens := g', drawn := d', toks := t' } := by
  obtain ⟨m, ⟨o, es, ep, ho, r⟩, _⟩ := id I.loc
  obtain ⟨sl, hL⟩ := u.any ho I.free fun z => (hch _ z).2.1 rfl
  exact I.step (ch := ch) hch (fun b o hL hb hc e n => u.keep b o e n (fun z => (List.mem_cons.mp (I.stkSub b z)).elim hL hb) hc) (fun b o _ _ hc e n => u.any e n hc) (fun b o hc e n => u.free b o e n hc) (fun b o hc e => u.there b o e hc) u.tups u.frzs u.tbls (fun m' hm => by
    obtain ⟨o', es', ep', ho', r'⟩ := hm
    rw [ho] at ho'; cases ho'
    exact ⟨_, es', ep', hL, r'⟩) hok hg
theorem Inv.turned {t' : Nat} {it : Addr} (I : Inv X pins σ H s) (k : ∀ b o, b ≠ it → s.heap.get? b = some o → h'.get? b = some o) (hn : H it = none) (hL : it ≠ X.env.locals)
    (h1 : it ∈ X.ex ∨ X.s₀.heap.objs.size ≤ it) (h2 : ∀ x c, X.env.cells.lookup x = some c → c ≠ it) (h3 : ∀ p ∈ X.pn ++ pins, p.1 ≠ it) : Inv X pins σ H { s with heap := h', toks := t' } := by
  have nit : ∀ b u, H b = some u → b ≠ it := fun b u e z => by rw [z, hn] at e; cases e
  refine I.step (g' := s.gens) (d' := s.drawn) (ch := [it]) (fun b hb => ?_) (fun b o _ _ hc e _ => k b o (fun z => hc (by simp [z])) e) (fun b o _ _ hc e _ => ⟨o.slots, k b o (fun z => hc (by simp [z])) e⟩) (fun _ _ _ _ n => n)
    (fun b o hc e => ⟨o, k b o (fun z => hc (by simp [z])) e⟩) (fun _ _ e => e) (fun _ _ _ e => e) (fun b ps e => ⟨#[], by rw [e]; simp⟩) (fun m hm => ?_) (fun b u e => ?_) I.bare
  · have e : b = it := by simpa using hb
    subst e
    exact ⟨h1, hL, h2, h3⟩
  · obtain ⟨o, es, ep, ho, r⟩ := hm
    exact ⟨o, es, ep, k _ o (Ne.symm hL) ho, r⟩
  · refine (I.hok b u e).stay (fun c v hc q => k c v ?_ q) (fun _ q => q) fun _ _ q => q
    rcases hc with z | z
    · rw [z]; exact nit b u e
    · exact nit c _ z
theorem Inv.tok (I : Inv X pins σ H s) (t : Nat) : Inv X pins σ H { s with toks := t } := I.un (h' := s.heap) (t' := t) Un.refl I.hok
theorem Inv.kept {t' : Nat} (I : Inv X pins σ H s) (k : ∀ b u, s.heap.get? b = some u → h'.get? b = some u) : Inv X pins σ H { s with heap := h', toks := t' } := I.un (Un.kept k) (I.hok.kept k)
theorem Inv.laid {a : Addr} {o : HO} {t' : Nat} (I : Inv X pins σ H s) (k : ∀ b u, s.heap.get? b = some u → h'.get? b = some u) (hp : s.heap.objs.size ≤ a) (new : ObjOk X.prog X.w (upd H a o) h' a o) :
    Inv X pins σ (upd H a o) { s with heap := h', toks := t' } := I.un (Un.laid k hp (I.hok.fresh hp)) (I.hok.laid k hp new)
theorem Inv.write {x e : Addr} {o : HO} {t' : Nat} (I : Inv X pins σ H s) (mu : Mut (H x)) (he : e = x ∨ H e = some (.own x)) (k : ∀ b u, b ≠ e → s.heap.get? b = some u → h'.get? b = some u) (heo : ∃ u, h'.get? e = some u)
    (new : ObjOk X.prog X.w (upd H x o) h' x o) : Inv X pins σ (upd H x o) { s with heap := h', toks := t' } := I.un (Un.write mu he k heo) (I.hok.write mu he k heo new)
theorem Inv.weak {σ' : List (Option V)} (I : Inv X pins σ H s) (hl : σ'.length = σ.length) (w : ∀ (i : Nat) v, σ'[i]? = some (some v) → σ[i]? = some (some v)) : Inv X pins σ' H s :=
  ⟨I.ok, I.os, I.bare, I.base, let ⟨m, hn, hl'⟩ := I.loc; ⟨m, hn, fun i x v e1 e2 e3 => hl' i x v e1 (w i v e2) e3⟩, I.cell, I.free, I.freeC, I.pin, I.hok, hl.trans I.len⟩
theorem Inv.pins_of {pins' : List (Addr × Obj)} (I : Inv X pins σ H s) (h : ∀ p ∈ pins', s.heap.get? p.1 = some p.2 ∧ H p.1 = none ∧ p.1 ≠ X.env.locals ∧ p.1 ∉ X.fs ∧ ∀ v, p.2.data ≠ .cell v) : Inv X pins' σ H s :=
  ⟨I.ok, I.os, I.bare, I.base, I.loc, I.cell, I.free, I.freeC, fun p hp => (List.mem_append.mp hp).elim (fun z => I.pin p (List.mem_append_left _ z)) (h p), I.hok, I.len⟩

theorem nodup_ix {N : List Str} (hN : N.Nodup) {i j : Nat} {x : Str} (a : N[i]? = some x) (b : N[j]? = some x) : i = j := by
  obtain ⟨h1, e1⟩ := List.getElem?_eq_some_iff.mp a
  obtain ⟨h2, e2⟩ := List.getElem?_eq_some_iff.mp b
  exact (List.getElem_inj hN).mp (e1.trans e2.symm)

theorem store_ok2 {M : Model} {A : Around} {E : Value → Shared → Prop} {i : Nat} {x : Str} {v : V} {u : Value} {Q : Unit → Shared → Prop} (I : Inv X pins σ H s) (hN : X.N.Nodup) (hi : X.N[i]? = some x) (hx : Loc X.env.scope x) (r : RelV v u)
    (h : ∀ s', Inv X pins (σ.set i (some v)) H s' → (∃ a, Heap.SameBut a s.heap s'.heap ∧ (a = X.env.locals ∨ X.env.cells.lookup x = some a)) → Q () s') (hf : X.fn x = true ∨ X.env.scope.names.lookup x = some .local := by first | exact .inl rfl | exact .inr rfl | assumption) : wpAny M A (storeName X.env x u) Q E s := by
  obtain ⟨m, hn, hl⟩ := id I.loc
  have hcls : (X.env.scope.kind == .class || (X.env.scope.kind == .module && X.env.locals != X.env.globals)) = false := by rw [I.ok.kind]; rfl
  have hiσ : i < σ.length := by rw [I.len]; exact (List.getElem?_eq_some_iff.mp hi).1
  have cne := I.cne
  have tracked : ∀ {a : Addr} {h' : Heap}, (∃ o, s.heap.get? a = some o ∧ H a = none) → Heap.SameBut a s.heap h' → HOk X.prog X.w H h' := fun {a h'} ha hs b ob e => by
    obtain ⟨_, _, hfree⟩ := ha
    refine (I.hok b ob e).stay (fun c w' hc q => (hs.2 c ?_).trans q) (fun _ q => q) fun _ _ q => q
    rintro rfl
    rcases hc with rfl | hc
    · rw [hfree] at e; cases e
    · rw [hfree] at hc; cases hc
  rcases hx with hk | hk
  · refine wpAny_storeName_local hk hn (fun h' hn' hs => ?_) hcls
    obtain ⟨oL, _, _, hoL, _⟩ := id hn
    refine h _ ⟨I.ok, I.os, I.bare, ⟨fun b o e n hb hx => ?_, fun b o e n hb hx => ?_, I.base.free, fun b o e hx => ?_, I.base.tups, I.base.frzs, I.base.tbls⟩, ⟨_, hn', fun j y v' e1 e2 e3 => ?_⟩, fun y c e => ?_, I.free, I.freeC, fun p hp => ?_, tracked ⟨oL, hoL, I.free⟩ hs, by simpa using I.len⟩ ⟨_, hs, .inl rfl⟩
    · exact (hs.2 b (Nat.ne_of_lt (Nat.lt_of_lt_of_le (Heap.lt_size e) I.ok.above))).trans (I.base.keep b o e n hb hx)
    · obtain ⟨sl, e1⟩ := I.base.slot b o e n hb hx
      exact ⟨sl, (hs.2 b (Nat.ne_of_lt (Nat.lt_of_lt_of_le (Heap.lt_size e) I.ok.above))).trans e1⟩
    · obtain ⟨o', e1⟩ := I.base.there b o e hx
      exact ⟨o', (hs.2 b (Nat.ne_of_lt (Nat.lt_of_lt_of_le (Heap.lt_size e) I.ok.above))).trans e1⟩
    · by_cases hj : j = i
      · subst hj
        rw [hi] at e1; cases e1
        rw [List.getElem?_set_self hiσ] at e2
        cases e2
        exact ⟨u, r, .inl ⟨hk, by simp⟩⟩
      · rw [List.getElem?_set_ne (Ne.symm hj)] at e2
        obtain ⟨u', r', q⟩ := hl j y v' e1 e2 e3
        refine ⟨u', r', ?_⟩
        rcases q with ⟨k, e⟩ | ⟨k, c, e, z⟩
        · refine .inl ⟨k, ?_⟩
          have : y ≠ x := fun e => hj (nodup_ix hN e1 (e ▸ hi))
          simp [this, e]
        · exact .inr ⟨k, c, e, z.sameBut hs (cne y c e)⟩
    · obtain ⟨w', z⟩ := I.cell y c e
      exact ⟨w', z.sameBut hs (cne y c e)⟩
    · obtain ⟨e, n, ne, nf, d⟩ := I.pin p hp
      exact ⟨(hs.2 p.1 ne).trans e, n, ne, nf, d⟩
  · have hfn : X.fn x = true := by
      rcases hf with z | z
      · exact z
      · rw [z] at hk; cases hk
    obtain ⟨c, hc⟩ := I.ok.has x (.inl hk)
    obtain ⟨w', z⟩ := I.cell x c hc
    refine wpAny_storeName_cell I.ok.kind hk hc z (fun h' hc' hs => ?_)
    obtain ⟨oc, hoc, hocd⟩ := id z
    refine h { s with heap := h' } ⟨I.ok, I.os, I.bare, ⟨fun b o e n hb hx => ?_, fun b o e n hb hx => ?_, I.base.free, fun b o e hx => ?_, I.base.tups, I.base.frzs, I.base.tbls⟩, ⟨m, hn.sameBut hs (Ne.symm (cne x c hc)), fun j y v' e1 e2 e3 => ?_⟩, fun y c' e => ?_, I.free, I.freeC, fun p hp => ?_, tracked ⟨oc, hoc, I.freeC x c hc⟩ hs, by simpa using I.len⟩ ⟨c, hs, .inr hc⟩
    · exact (hs.2 b (Nat.ne_of_lt (Nat.lt_of_lt_of_le (Heap.lt_size e) (I.ok.cab x c hfn hc)))).trans (I.base.keep b o e n hb hx)
    · obtain ⟨sl, e1⟩ := I.base.slot b o e n hb hx
      exact ⟨sl, (hs.2 b (Nat.ne_of_lt (Nat.lt_of_lt_of_le (Heap.lt_size e) (I.ok.cab x c hfn hc)))).trans e1⟩
    · obtain ⟨o', e1⟩ := I.base.there b o e hx
      exact ⟨o', (hs.2 b (Nat.ne_of_lt (Nat.lt_of_lt_of_le (Heap.lt_size e) (I.ok.cab x c hfn hc)))).trans e1⟩
    · by_cases hj : j = i
      · subst hj
        rw [hi] at e1; cases e1
        rw [List.getElem?_set_self hiσ] at e2
        cases e2
        exact ⟨u, r, .inr ⟨.inl hk, c, hc, hc'⟩⟩
      · rw [List.getElem?_set_ne (Ne.symm hj)] at e2
        obtain ⟨u', r', q⟩ := hl j y v' e1 e2 e3
        refine ⟨u', r', ?_⟩
        rcases q with q | ⟨k, c', e, z'⟩
        · exact .inl q
        · refine .inr ⟨k, c', e, z'.sameBut hs ?_⟩
          rintro rfl
          exact hj (nodup_ix hN e1 (I.ok.inj _ _ _ e hc ▸ hi))
    · by_cases hcc : c' = c
      · subst hcc; exact ⟨_, hc'⟩
      · obtain ⟨w2, z2⟩ := I.cell y c' e
        exact ⟨w2, z2.sameBut hs hcc⟩
    · obtain ⟨e, n, ne, nf, d⟩ := I.pin p hp
      refine ⟨(hs.2 p.1 ?_).trans e, n, ne, nf, d⟩
      intro q
      rw [q, hoc] at e
      have q' : oc = p.2 := Option.some.inj e
      exact d w' (by rw [← q']; exact hocd)
theorem store_ok {M : Model} {A : Around} {E : Value → Shared → Prop} {i : Nat} {x : Str} {v : V} {u : Value} {Q : Unit → Shared → Prop} (I : Inv X pins σ H s) (hN : X.N.Nodup) (hi : X.N[i]? = some x) (hx : Loc X.env.scope x) (r : RelV v u)
    (h : ∀ s', Inv X pins (σ.set i (some v)) H s' → Q () s') (hf : X.fn x = true ∨ X.env.scope.names.lookup x = some .local := by first | exact .inl rfl | exact .inr rfl | assumption) : wpAny M A (storeName X.env x u) Q E s :=
  store_ok2 I hN hi hx r (fun s' I' _ => h s' I') hf
theorem Inv.call' {s' : Shared} {ch : List Addr} (I : Inv X pins σ H s) (ho : s'.os = s.os) (u : Un (frs X.stack) ch H H' s.heap s'.heap) (hok : HOk X.prog X.w H' s'.heap) (hg : AllBare s'.gens)
    (hch : ∀ b ∈ ch, (b ∈ X.ex ∨ X.s₀.heap.objs.size ≤ b) ∧ b ≠ X.env.locals ∧ (∀ x c, X.env.cells.lookup x = some c → c ≠ b) ∧ ∀ p ∈ X.pn ++ pins, p.1 ≠ b) : Inv X pins σ H' s' := by
  obtain ⟨h', g', d', t', o'⟩ := s'
  have e : o' = s.os := ho
  subst e
  exact I.call (g' := g') (t' := t') (d' := d') u hok hg hch
end

noncomputable abbrev XK := Value → Option Addr → Hp → Prop
noncomputable abbrev St := List (Option V)
noncomputable abbrev VK := V → Hp → Prop
noncomputable abbrev TE := St → Hp → VK → Prop
noncomputable abbrev TT := St → Hp → (Bool → Hp → Prop) → Prop
noncomputable abbrev TA := St → Hp → (List V → Hp → Prop) → Prop
structure Ends where
  nx : St → Hp → Prop
  rt : VK
  bk : St → Hp → Prop := fun _ _ => False
  ct : St → Hp → Prop := fun _ _ => False
noncomputable abbrev TS := Ends → St → Hp → Prop

noncomputable def EP (X : Cx) (pins : List (Addr × Obj)) (σ : St) (Q : VK) (u : Value) (s' : Shared) : Prop := ∃ v H', Inv X pins σ H' s' ∧ RelV v u ∧ Q v H'
noncomputable def TP (X : Cx) (pins : List (Addr × Obj)) (σ : St) (Q : Bool → Hp → Prop) (b : Bool) (s' : Shared) : Prop := ∃ H', Inv X pins σ H' s' ∧ Q b H'
noncomputable def AP (X : Cx) (pins : List (Addr × Obj)) (σ : St) (Q : List V → Hp → Prop) (us : List Value) (s' : Shared) : Prop := ∃ vs H', Inv X pins σ H' s' ∧ Vals vs us ∧ Q vs H'
noncomputable def SP (X : Cx) (pins : List (Addr × Obj)) (D : Ends) (f : Flow) (s' : Shared) : Prop :=
  match f with
  | .next => ∃ σ' H', Inv X pins σ' H' s' ∧ D.nx σ' H'
  | .brk => ∃ σ' H', Inv X pins σ' H' s' ∧ D.bk σ' H'
  | .cont => ∃ σ' H', Inv X pins σ' H' s' ∧ D.ct σ' H'
  | .ret u => ∃ v σ' H', Inv X pins σ' H' s' ∧ RelV v u ∧ D.rt v H'

noncomputable def PE (X : Cx) (e : Expr) (t : TE) : Prop :=
  ∀ (pins : List (Addr × Obj)) (s : Shared) (σ : St) (H : Hp) (Q : VK), Inv X pins σ H s → t σ H Q → wpAny (model X.prog X.w) X.A (eval e X.env) (EP X pins σ Q) X.xe s
noncomputable def PT (X : Cx) (e : Expr) (t : TT) : Prop :=
  ∀ (pins : List (Addr × Obj)) (s : Shared) (σ : St) (H : Hp) (Q : Bool → Hp → Prop), Inv X pins σ H s → t σ H Q → wpAny (model X.prog X.w) X.A (isTrue e X.env (eval e X.env)) (TP X pins σ Q) X.xe s
noncomputable def PW (X : Cx) (e : Expr) (t : TT) : Prop :=
  ∀ (whole : Sem Value) (pins : List (Addr × Obj)) (s : Shared) (σ : St) (H : Hp) (Q : Bool → Hp → Prop), Inv X pins σ H s → t σ H Q → wpAny (model X.prog X.w) X.A (isTrue e X.env whole) (TP X pins σ Q) X.xe s
theorem PW.pt {X : Cx} {e : Expr} {t : TT} (h : PW X e t) : PT X e t := h _
noncomputable def PA (X : Cx) (es : List Expr) (t : TA) : Prop :=
  ∀ (pos : Pos) (pins : List (Addr × Obj)) (s : Shared) (σ : St) (H : Hp) (Q : List V → Hp → Prop), Inv X pins σ H s → t σ H Q → wpAny (model X.prog X.w) X.A (spliced (backTo pos (starEach es X.env))) (AP X pins σ Q) X.xe s
noncomputable def PS (X : Cx) (st : Stmt) (t : TS) : Prop :=
  ∀ (pins : List (Addr × Obj)) (s : Shared) (σ : St) (H : Hp) (D : Ends), Inv X pins σ H s → t D σ H → wpAny (model X.prog X.w) X.A (exec st X.env) (SP X pins D) X.xe s
noncomputable def PSs (X : Cx) (st : List Stmt) (t : TS) : Prop :=
  ∀ (pins : List (Addr × Obj)) (s : Shared) (σ : St) (H : Hp) (D : Ends), Inv X pins σ H s → t D σ H → wpAny (model X.prog X.w) X.A (execs st X.env) (SP X pins D) X.xe s
theorem thn {α : Type} {t : Sem α} {Q Q' : α → Shared → Prop} {M : Model} {A : Around} {E : Value → Shared → Prop} {s : Shared} (h : wpAny M A t Q E s) (hQ : ∀ a s, Q a s → Q' a s) : wpAny M A t Q' E s := wpAny_mono h hQ fun _ _ x => x
end L2

namespace L2
open PySem PySem.Spec PyProof.Rows
section
variable {X : Cx}

noncomputable def tVar (i : Nat) : TE := fun σ H Q => ∃ v, σ[i]? = some (some v) ∧ Q v H
noncomputable def tC (v : V) : TE := fun _ H Q => Q v H
theorem pe_var {i : Nat} {x : Str} {pos : Pos} (hN : X.N[i]? = some x) (hv : Vis X.env.scope x) (hd : (x == ("__debug__" : Str)) = false := by decide) (hcd : (x == ("__classdict__" : Str)) = false := by decide) : PE X (.Name x pos) (tVar i) := by
  intro pins s σ H Q I h
  obtain ⟨v, e, h⟩ := h
  obtain ⟨m, hn, hl⟩ := I.loc
  obtain ⟨u, r, l⟩ := hl i x v hN e hv
  have fin : EP X pins σ Q u s := ⟨v, H, I, r, h⟩
  rcases l with ⟨hk, hm⟩ | ⟨hk, c, hc, hcell⟩
  · exact wpAny_Name (wpAny_loadName_local I.ok.kind hk hn hm fin) hd
  · rcases hk with hk | hk
    · exact wpAny_Name (wpAny_loadName_cell I.ok.kind hk hc hcell fin) hd
    · exact wpAny_Name (wpAny_loadName_free I.ok.kind hk hc hcell fin hcd) hd
theorem pe_int {i j pos} : PE X (.Constant (.int i) j pos) (tC (.int i)) := fun _ _ _ H _ I h => wpAny_Constant_int ⟨.int i, H, I.tok _, ⟨_, rfl⟩, h⟩
theorem pe_bl {b j pos} : PE X (.Constant (.bool b) j pos) (tC (.bl b)) := fun _ _ _ H _ I h => Constant_bool ⟨.bl b, H, I, rfl, h⟩
theorem pe_str {x j pos} : PE X (.Constant (.str x) j pos) (tC (.str x)) := fun _ _ _ H _ I h => Calls.Constant_str ⟨.str x, H, I.tok _, ⟨_, rfl⟩, h⟩

noncomputable def Gl (X : Cx) (x : Str) : Prop := X.env.kindOf x = some .globalImplicit
theorem ld_glob {E : Value → Shared → Prop} {pins : List (Addr × Obj)} {s : Shared} {σ : St} {H : Hp} {x : Str} {u : Value} {pos : Pos} {Q : Value → Shared → Prop} (I : Inv X pins σ H s) (hg : Gl X x) (hm : X.mg x = some u) (h : Q u s)
    (hd : (x == ("__debug__" : Str)) = false := by decide) : wpAny (model X.prog X.w) X.A (eval (.Name x pos) X.env) Q E s :=
  Calls.Name_function_global I.ok.kind hg (Calls.loadGlobal_global (by rw [I.ok.glob]; exact I.mod.glob.keeps I.bk) hm h) hd
theorem ld_blt {E : Value → Shared → Prop} {pins : List (Addr × Obj)} {s : Shared} {σ : St} {H : Hp} {x : Str} {u : Value} {pos : Pos} {Q : Value → Shared → Prop} (I : Inv X pins σ H s) (hg : Gl X x) (hm : X.mg x = none) (hv : bootBuiltins x = some u) (h : Q u s)
    (hn : x ≠ "__name__" := by decide) (hd : (x == ("__debug__" : Str)) = false := by decide) : wpAny (model X.prog X.w) X.A (eval (.Name x pos) X.env) Q E s := by
  obtain ⟨mb, h1, h2⟩ := I.mod.blt
  exact Calls.Name_function_global I.ok.kind hg (Calls.loadGlobal_builtin (by rw [I.ok.glob]; exact I.mod.glob.keeps I.bk) hm (by rw [I.ok.blt]; exact h1.keeps I.bk) ((h2 x hn).trans hv) h) hd
theorem pe_glob {x : Str} {v : V} {u : Value} {pos : Pos} (hg : Gl X x) (hm : X.mg x = some u) (r : RelV v u) (hd : (x == ("__debug__" : Str)) = false := by decide) : PE X (.Name x pos) (tC v) :=
  fun _ _ _ H _ I h => ld_glob I hg hm ⟨v, H, I, r, h⟩ hd
theorem pe_bltn {x : Str} {v : V} {u : Value} {pos : Pos} (hg : Gl X x) (hm : X.mg x = none) (hv : bootBuiltins x = some u) (r : RelV v u) (hn : x ≠ "__name__" := by decide) (hd : (x == ("__debug__" : Str)) = false := by decide) : PE X (.Name x pos) (tC v) :=
  fun _ _ _ H _ I h => ld_blt I hg hm hv ⟨v, H, I, r, h⟩ hn hd

variable {a b : Expr} {ta tb : TE} {pos : Pos}
noncomputable def PC (X : Cx) (op : CmpOp) (a b : Expr) (t : TE) : Prop :=
  ∀ (pins : List (Addr × Obj)) (s : Shared) (σ : St) (H : Hp) (Q : VK), Inv X pins σ H s → t σ H Q →
    wpAny (model X.prog X.w) X.A (eval a X.env) (fun v s₁ => wpAny (model X.prog X.w) X.A (eval b X.env) (fun u s₂ => wpAny (model X.prog X.w) X.A (compareOp op v u) (EP X pins σ Q) X.xe s₂) X.xe s₁) X.xe s
theorem nobehind (b : Expr) {op : CmpOp} (h : op ≠ .In) (h2 : op ≠ .NotIn) : behindInMarks op b = false := by
  have e1 : (op == CmpOp.In) = false := by cases op <;> first | rfl | exact absurd rfl h
  have e2 : (op == CmpOp.NotIn) = false := by cases op <;> first | rfl | exact absurd rfl h2
  cases b <;> simp [behindInMarks, e1, e2]
noncomputable def tB (t : TE) : TT := fun σ H Q => t σ H fun x H1 => ∃ c, x = .bl c ∧ Q c H1
theorem pe_cmp {op : CmpOp} {t : TE} (h : PC X op a b t) (h1 : behindInMarks op b = false := by first | exact nobehind _ (by decide) (by decide) | rfl) : PE X (.Compare a [op] [b] pos) t := fun pins s σ H Q I hw => wpAny_Compare1 (h pins s σ H Q I hw) h1
theorem pt_cmp {op : CmpOp} {t : TE} (h : PC X op a b t) (h1 : behindInMarks op b = false := by first | exact nobehind _ (by decide) (by decide) | rfl) : PT X (.Compare a [op] [b] pos) (tB t) := by
  intro pins s σ H Q I hw
  refine wpAny_isTrue_Compare1 (thn (h pins s σ H _ I hw) fun v s1 h1 => thn h1 fun u s2 h2 => thn h2 fun c s3 ⟨x, H1, I1, r1, q1⟩ => ?_) h1
  obtain ⟨d, rfl, q⟩ := q1
  cases r1
  exact wpAny_truthy_bool ⟨H1, I1, q⟩
theorem pt_val {e : Expr} {t : TE} (h : PE X e t) (he : ∀ whole, isTrue e X.env whole = (do let v ← whole; standAt e.pos; holding [v] (truthy v)) := by intro _; rfl) : PT X e (tB t) := by
  intro pins s σ H Q I hw
  refine isTrue_plain (thn (h pins s σ H _ I hw) fun v s1 ⟨x, H1, I1, r1, q1⟩ => ?_) (he _)
  obtain ⟨d, rfl, q⟩ := q1
  cases r1
  exact wpAny_truthy_bool ⟨H1, I1, q⟩

variable {tA tB' : TT} {rest : List Expr}
noncomputable def tAnd (t u : TT) : TT := fun σ H Q => t σ H fun c H1 => if c = true then u σ H1 Q else Q false H1
noncomputable def tOr (t u : TT) : TT := fun σ H Q => t σ H fun c H1 => if c = true then Q true H1 else u σ H1 Q
noncomputable def tNot (t : TT) : TT := fun σ H Q => t σ H fun c H1 => Q (!c) H1
theorem pw_and1 (ha : PT X a tA) : PW X (.BoolOp .And [a] pos) tA := by
  intro wh pins s σ H Q I h
  refine isTrue_and (thn (ha pins s σ H Q I h) fun c s1 e => ?_)
  cases c with
  | true => exact isTrue_and_nil e
  | false => exact e
theorem pw_or1 (ha : PT X a tA) : PW X (.BoolOp .Or [a] pos) tA := by
  intro wh pins s σ H Q I h
  refine isTrue_or (thn (ha pins s σ H Q I h) fun c s1 e => ?_)
  cases c with
  | false => exact isTrue_or_nil e
  | true => exact e
theorem pw_and (ha : PT X a tA) (hb : PW X (.BoolOp .And (b :: rest) pos) tB') : PW X (.BoolOp .And (a :: b :: rest) pos) (tAnd tA tB') := by
  intro wh pins s σ H Q I h
  refine isTrue_and (thn (ha pins s σ H _ I h) fun c s1 ⟨H1, I1, q1⟩ => ?_)
  cases c with
  | true => exact hb wh pins s1 σ H1 Q I1 q1
  | false => exact ⟨H1, I1, q1⟩
theorem pw_or (ha : PT X a tA) (hb : PW X (.BoolOp .Or (b :: rest) pos) tB') : PW X (.BoolOp .Or (a :: b :: rest) pos) (tOr tA tB') := by
  intro wh pins s σ H Q I h
  refine isTrue_or (thn (ha pins s σ H _ I h) fun c s1 ⟨H1, I1, q1⟩ => ?_)
  cases c with
  | true => exact ⟨H1, I1, q1⟩
  | false => exact hb wh pins s1 σ H1 Q I1 q1
theorem pt_not (ha : PT X a tA) : PT X (.UnaryOp .Not a pos) (tNot tA) := by
  intro pins s σ H Q I h
  exact isTrue_not (ha pins s σ H (fun c H1 => Q (!c) H1) I h)
noncomputable def tAndV (ta tb : TE) : TE := fun σ H Q => ta σ H fun x H1 => ∃ c, x = .bl c ∧ if c = true then tb σ H1 Q else Q (.bl false) H1
noncomputable def tOrV (ta tb : TE) : TE := fun σ H Q => ta σ H fun x H1 => ∃ c, x = .bl c ∧ if c = true then Q (.bl true) H1 else tb σ H1 Q
noncomputable def tNotV (ta : TE) : TE := fun σ H Q => ta σ H fun x H1 => ∃ c, x = .bl c ∧ Q (.bl (!c)) H1
theorem pe_one {op} {t : TE} (h : PE X a t) : PE X (.BoolOp op [a] pos) t := fun pins s σ H Q I hw => BoolOp_one (h pins s σ H Q I hw)
theorem pe_and (ha : PE X a ta) (hb : PE X (.BoolOp .And (b :: rest) pos) tb) : PE X (.BoolOp .And (a :: b :: rest) pos) (tAndV ta tb) := by
  intro pins s σ H Q I h
  refine BoolOp_and (thn (ha pins s σ H _ I h) fun v s1 ⟨x, H1, I1, r1, q1⟩ => ?_)
  obtain ⟨c, rfl, q1⟩ := q1
  cases r1
  refine wpAny_truthy_bool ?_
  cases c with
  | true => exact hb pins s1 σ H1 Q I1 q1
  | false => exact ⟨.bl false, H1, I1, rfl, q1⟩
theorem pe_not (ha : PE X a ta) : PE X (.UnaryOp .Not a pos) (tNotV ta) := by
  intro pins s σ H Q I h
  refine UnaryOp_ (thn (ha pins s σ H _ I h) fun v s1 ⟨x, H1, I1, r1, q1⟩ => ?_)
  obtain ⟨c, rfl, q1⟩ := q1
  cases r1
  exact not_of (wpAny_truthy_bool ⟨.bl (!c), H1, I1, rfl, q1⟩)
noncomputable def tIf (t : TT) (ta tb : TE) : TE := fun σ H Q => t σ H fun c H1 => if c = true then ta σ H1 Q else tb σ H1 Q
end
end L2

namespace L2
open PySem PySem.Spec PyProof.Rows

noncomputable def SqL (K : PySem.W.Frag) (H : Hp) (a : Addr) (xs : List V) : Prop :=
  Rd H a (.lst xs) ∨
    ∃ (o : Obj) (its : Array Value) (n : Nat), K.lookup a = some o ∧ o.cls = .type "list" ∧ o.dict = none ∧ o.data = .seq its n ∧ its.size ≤ sizeLine ∧ Vals xs its.toList
noncomputable def SqT (K : PySem.W.Frag) (H : Hp) (a : Addr) (xs : List V) : Prop :=
  Rd H a (.tup xs) ∨
    ∃ (o : Obj) (its : Array Value) (n : Nat), K.lookup a = some o ∧ o.cls = .type "tuple" ∧ o.data = .seq its n ∧ its.size ≤ sizeLine ∧ Vals xs its.toList
noncomputable def absV : Value → Option V
  | .none => some .non
  | .bool b => some (.bl b)
  | .int i _ => some (.int i)
  | .str x _ => some (.str x)
  | .bytes b _ => some (.byt b)
  | .float b _ => some (.flt b)
  | .ref a => some (.ref a)
  | .type n => some (.ty n)
  | _ => none
theorem RelV.abs {x : V} {u : Value} (r : RelV x u) : absV u = some x := by
  cases x with
  | non => cases r; rfl
  | bl _ => cases r; rfl
  | int _ => obtain ⟨t, rfl⟩ := r; rfl
  | str _ => obtain ⟨t, rfl⟩ := r; rfl
  | byt _ => obtain ⟨t, rfl⟩ := r; rfl
  | flt _ => obtain ⟨t, rfl⟩ := r; rfl
  | ref _ => cases r; rfl
  | ty _ => cases r; rfl
theorem RelV.inj {x y : V} {u : Value} (r : RelV x u) (q : RelV y u) : x = y := Option.some.inj (r.abs.symm.trans q.abs)
theorem Vals.inj : ∀ {xs ys : List V} {us : List Value}, Vals xs us → Vals ys us → xs = ys
  | _, _, _, .nil, .nil => rfl
  | _, _, _, .cons r t, .cons r' t' => by rw [r.inj r', Vals.inj t t']
section
variable {X : Cx} {pins : List (Addr × Obj)} {σ : St} {H : Hp} {s : Shared} {a : Addr} {xs ys : List V}
theorem SqL.of {K : PySem.W.Frag} (h : H a = some (.lst xs)) : SqL K H a xs := .inl (.inl h)
theorem SqT.of {K : PySem.W.Frag} (h : H a = some (.tup xs)) : SqT K H a xs := .inl (.inl h)
theorem Inv.list (I : Inv X pins σ H s) (h : SqL X.K H a xs) : ∃ its : List Value, Vals xs its ∧ PlainL s.heap a its.toArray ∧ xs.length ≤ sizeLine := by
  rcases h with h | ⟨o, its, n, hk, hc, hd, hs, hz, r⟩
  · obtain ⟨z, its, n, r, e⟩ := h.ok I.hok
    exact ⟨its, r, ⟨_, n, e, rfl, rfl, rfl⟩, z⟩
  · refine ⟨its.toList, r, ⟨o, n, I.kIn a o hk, hc, hd, by simpa using hs⟩, ?_⟩
    have e := r.length
    simp only [Array.length_toList] at e
    omega
theorem Inv.tuple (I : Inv X pins σ H s) (h : SqT X.K H a xs) : ∃ its : List Value, Vals xs its ∧ IsTup s.heap a its.toArray ∧ xs.length ≤ sizeLine := by
  rcases h with h | ⟨o, its, n, hk, hc, hs, hz, r⟩
  · obtain ⟨z, its, r, p⟩ := h.ok I.hok
    exact ⟨its, r, p, z⟩
  · refine ⟨its.toList, r, ⟨o, I.kIn a o hk, hc, n, by simpa using hs⟩, ?_⟩
    have e := r.length
    simp only [Array.length_toList] at e
    omega
theorem Inv.list_inj (I : Inv X pins σ H s) (h : SqL X.K H a xs) (h' : SqL X.K H a ys) : xs = ys := by
  obtain ⟨its, r, ⟨o, n, e, _, _, d⟩, _⟩ := I.list h
  obtain ⟨its', r', ⟨o', n', e', _, _, d'⟩, _⟩ := I.list h'
  rw [e] at e'; cases e'
  rw [d] at d'
  injection d' with d1 _
  have : its = its' := by simpa using congrArg Array.toList d1
  subst this
  exact r.inj r'
theorem Inv.tuple_inj (I : Inv X pins σ H s) (h : SqT X.K H a xs) (h' : SqT X.K H a ys) : xs = ys := by
  obtain ⟨its, r, ⟨o, e, _, n, d⟩, _⟩ := I.tuple h
  obtain ⟨its', r', ⟨o', e', _, n', d'⟩, _⟩ := I.tuple h'
  rw [e] at e'; cases e'
  rw [d] at d'
  injection d' with d1 _
  have : its = its' := by simpa using congrArg Array.toList d1
  subst this
  exact r.inj r'
end

noncomputable abbrev Cx.wish (X : Cx) (E : Value → Shared → Prop) : Cx := { X with xe := E }
noncomputable abbrev Cx.nox (X : Cx) : Cx := X.wish fun _ _ => False
theorem Cx.Ok.wish {X : Cx} (ok : X.Ok) (E : Value → Shared → Prop) : (X.wish E).Ok :=
  ⟨ok.mod, ok.kind, ok.glob, ok.blt, ok.above, ok.inj, ok.has, ok.cab, ok.hd, ok.frames, ok.stk, ok.exf, ok.bs, ok.bsz, ok.noex, ok.exfs, ok.funs, ok.frf⟩
theorem Cx.Ok.unwish {X : Cx} {E : Value → Shared → Prop} (ok : (X.wish E).Ok) : X.Ok :=
  ⟨ok.mod, ok.kind, ok.glob, ok.blt, ok.above, ok.inj, ok.has, ok.cab, ok.hd, ok.frames, ok.stk, ok.exf, ok.bs, ok.bsz, ok.noex, ok.exfs, ok.funs, ok.frf⟩
section
variable {X : Cx} {pins : List (Addr × Obj)} {σ : St} {H : Hp} {s : Shared} {E : Value → Shared → Prop}
theorem Inv.wish (I : Inv X pins σ H s) (E : Value → Shared → Prop) : Inv (X.wish E) pins σ H s := ⟨I.ok.wish E, I.os, I.bare, I.base, I.loc, I.cell, I.free, I.freeC, I.pin, I.hok, I.len⟩
theorem Inv.unwish (I : Inv (X.wish E) pins σ H s) : Inv X pins σ H s := ⟨I.ok.unwish, I.os, I.bare, I.base, I.loc, I.cell, I.free, I.freeC, I.pin, I.hok, I.len⟩
theorem SP.unwish {D : Ends} {f : Flow} {s' : Shared} (h : SP (X.wish E) pins D f s') : SP X pins D f s' := by
  cases f with
  | next => obtain ⟨σ', H', I, q⟩ := h; exact ⟨σ', H', I.unwish, q⟩
  | brk => obtain ⟨σ', H', I, q⟩ := h; exact ⟨σ', H', I.unwish, q⟩
  | cont => obtain ⟨σ', H', I, q⟩ := h; exact ⟨σ', H', I.unwish, q⟩
  | ret u => obtain ⟨v, σ', H', I, r, q⟩ := h; exact ⟨v, σ', H', I.unwish, r, q⟩
theorem PSs.nox {st : List Stmt} {t : TS} (h : PSs X.nox st t) : PSs X st t := fun pins s σ H D I hw =>
  wpAny_mono (h pins s σ H D (I.wish _) hw) (fun _ _ q => q.unwish) fun _ _ z => False.elim z
end

section
variable {X : Cx} {st : Stmt} {rest : List Stmt} {t u : TS} {e : Expr} {te : TE} {pos : Pos}
noncomputable def tNext : TS := fun D σ H => D.nx σ H
noncomputable def tSeq (t u : TS) : TS := fun D σ H => t { D with nx := u D } σ H
theorem pss_nil : PSs X [] tNext := fun _ _ σ H _ I h => wpAny_execs_nil ⟨σ, H, I, h⟩
theorem pss_cons (h1 : PS X st t) (h2 : PSs X rest u) : PSs X (st :: rest) (tSeq t u) := by
  intro pins s σ H D I h
  refine wpAny_execs_cons (thn (h1 pins s σ H { D with nx := u D } I h) fun f s1 q => ?_)
  cases f with
  | next =>
    obtain ⟨σ', H', I', q⟩ := q
    exact h2 pins s1 σ' H' D I' q
  | ret v => exact q
  | brk => exact q
  | cont => exact q
theorem pss_one (h1 : PS X st t) : PSs X [st] t := by
  intro pins s σ H D I h
  refine wpAny_execs_cons (thn (h1 pins s σ H D I h) fun f s1 q => ?_)
  cases f with
  | next => exact wpAny_execs_nil q
  | ret v => exact q
  | brk => exact q
  | cont => exact q
noncomputable def tBreak : TS := fun D σ H => D.bk σ H
noncomputable def tCont : TS := fun D σ H => D.ct σ H
theorem ps_pass : PS X (.Pass pos) tNext := fun _ _ σ H _ I h => wpAny_Pass ⟨σ, H, I, h⟩
theorem Inv.quiet {pins : List (Addr × Obj)} {σ : St} {H : Hp} {s : Shared} (I : Inv X pins σ H s) : interactive X.env = false := by simp [interactive, I.ok.kind]
noncomputable def tDrop (te : TE) : TS := fun D σ H => te σ H fun _ H1 => D.nx σ H1
theorem ps_expr (he : PE X e te) (hs : swapsWith e none pos.line X.env = pure false := by rfl) : PS X (.Expr e pos) (tDrop te) := by
  intro pins s σ H D I h
  exact wpAny_Expr_any (thn (he pins s σ H _ I h) fun v s1 ⟨x, H1, I1, r1, q1⟩ => ⟨σ, H1, I1, q1⟩) I.quiet hs
noncomputable def tRet (te : TE) : TS := fun D σ H => te σ H D.rt
theorem ps_ret (he : PE X e te) : PS X (.Return (some e) pos) (tRet te) := by
  intro pins s σ H D I h
  exact wpAny_Return_some (thn (he pins s σ H _ I h) fun v s1 ⟨x, H1, I1, r1, q1⟩ => ⟨x, σ, H1, I1, r1, q1⟩)
noncomputable def tRetN : TS := fun D _ H => D.rt .non H
noncomputable def tIfS (c : TT) (t u : TS) : TS := fun D σ H => c σ H fun b H1 => if b = true then t D σ H1 else u D σ H1
theorem ps_if {c : Expr} {a b : List Stmt} {tc : TT} (hc : PT X c tc) (ha : PSs X a t) (hb : PSs X b u) : PS X (.If c a b pos) (tIfS tc t u) := by
  intro pins s σ H D I h
  refine wpAny_If (thn (hc pins s σ H _ I h) fun d s1 ⟨H1, I1, q1⟩ => ?_)
  cases d with
  | true => exact ha pins s1 σ H1 D I1 q1
  | false => exact hb pins s1 σ H1 D I1 q1
noncomputable def tNever : TS := fun _ _ _ => False
theorem ps_never : PS X st tNever := fun _ _ _ _ _ _ h => h.elim
end

noncomputable abbrev TG := V → St → Hp → (St → Hp → Prop) → Prop
noncomputable abbrev TGs := List V → St → Hp → (St → Hp → Prop) → Prop
noncomputable def PG (X : Cx) (target : Expr) (t : TG) : Prop :=
  ∀ (pins : List (Addr × Obj)) (s : Shared) (σ : St) (H : Hp) (v : V) (u : Value) (Q : St → Hp → Prop), Inv X pins σ H s → RelV v u → t v σ H Q →
    wpAny (model X.prog X.w) X.A (assign target X.env u) (fun _ s' => ∃ σ' H', Inv X pins σ' H' s' ∧ Q σ' H') X.xe s
noncomputable def PGs (X : Cx) (ts : List Expr) (t : TGs) : Prop :=
  ∀ (pins : List (Addr × Obj)) (s : Shared) (σ : St) (H : Hp) (vs : List V) (us : List Value) (Q : St → Hp → Prop), Inv X pins σ H s → Vals vs us → t vs σ H Q →
    wpAny (model X.prog X.w) X.A (assignInOrder ((assignEach ts X.env).map (·.2)) us) (fun _ s' => ∃ σ' H', Inv X pins σ' H' s' ∧ Q σ' H') X.xe s
noncomputable abbrev TSet := V → V → V → Hp → (Hp → Prop) → Prop
noncomputable abbrev TIp := V → V → Hp → VK → Prop
section
variable {X : Cx} {pos : Pos}
noncomputable def gName (i : Nat) : TG := fun v σ H Q => Q (σ.set i (some v)) H
theorem pg_name {i : Nat} {x : Str} (hN : X.N.Nodup) (hi : X.N[i]? = some x) (hx : Loc X.env.scope x) (hf : X.fn x = true ∨ X.env.scope.names.lookup x = some .local := by first | exact .inl rfl | exact .inr rfl | assumption) : PG X (.Name x pos) (gName i) := by
  intro pins s σ H v u Q I r h
  exact wpAny_assign_Name (store_ok I hN hi hx r (fun s' I' => ⟨_, H, I', h⟩) hf)
noncomputable def gNil : TGs := fun vs σ H Q => vs = [] ∧ Q σ H
noncomputable def gCons (t : TG) (u : TGs) : TGs := fun vs σ H Q => ∃ v r, vs = v :: r ∧ t v σ H fun σ' H' => u r σ' H' Q
theorem pgs_nil : PGs X [] gNil := by
  intro pins s σ H vs us Q I r h
  obtain ⟨e, h⟩ := h
  subst e
  cases r
  exact assignInOrder_nil ⟨σ, H, I, h⟩
theorem pgs_cons {e : Expr} {es : List Expr} {t : TG} {u : TGs} (h1 : PG X e t) (h2 : PGs X es u)
    (hs : (assignEach (e :: es) X.env).map (·.2) = assign e X.env :: (assignEach es X.env).map (·.2) := by rfl) : PGs X (e :: es) (gCons t u) := by
  intro pins s σ H vs us Q I r h
  obtain ⟨v, vr, e1, h⟩ := h
  subst e1
  cases r with
  | cons r rr =>
    rw [hs]
    refine assignInOrder_cons (thn (h1 pins s σ H _ _ _ I r h) fun _ s1 ⟨σ1, H1, I1, q1⟩ => ?_)
    exact h2 pins s1 σ1 H1 _ _ Q I1 rr q1
noncomputable def gTup (K : PySem.W.Frag) (n : Nat) (t : TGs) : TG := fun v σ H Q => ∃ a xs, v = .ref a ∧ SqT K H a xs ∧ xs.length = n ∧ t xs σ H Q
theorem pg_tup {es : List Expr} {k : Nat} {t : TGs} {n : Nat} (hc : X.calm = true) (h : PGs X es t)
    (hn : (assignEach es X.env).length = n := by rfl) (hst : (assignEach es X.env).findIdx? (·.1) = none := by rfl) : PG X (.Tuple es k pos) (gTup X.K n t) := by
  intro pins s σ H v u Q I r hw
  obtain ⟨a, xs, e1, hq, hl, hw⟩ := hw
  subst e1
  cases r
  obtain ⟨its, rv, ht, hz⟩ := I.tuple hq
  refine assign_Tuple_tuple (I.ok.hd hc) ht (by simp [hn, ← hl, rv.length]) hst fun h' hx => ?_
  have I1 : Inv X pins σ H { s with heap := h' } := I.kept (t' := s.toks) fun b o e => hx b o (Nat.ne_of_lt (Heap.lt_size e)) e
  exact h pins _ σ H xs _ Q I1 (by simpa using rv) hw
noncomputable def gSub (to ti : TE) (t : TSet) : TG := fun v σ H Q => to σ H fun o H1 => ti σ H1 fun i H2 => t o i v H2 fun H3 => Q σ H3
noncomputable def tAsg (te : TE) (g : TG) : TS := fun D σ H => te σ H fun x H1 => g x σ H1 D.nx
theorem ps_set {i : Nat} {x : Str} {e : Expr} {te : TE} {pos' : Pos} (hN : X.N.Nodup) (hi : X.N[i]? = some x) (hx : Loc X.env.scope x) (he : PE X e te) (hs : swapsWith e (some (.Name x pos')) pos.line X.env = pure false := by rfl) (hf : X.fn x = true ∨ X.env.scope.names.lookup x = some .local := by first | exact .inl rfl | exact .inr rfl | assumption) :
    PS X (.Assign [.Name x pos'] e pos) (tAsg te (gName i)) := by
  intro pins s σ H D I h
  refine wpAny_Assign_Name (thn (he pins s σ H _ I h) fun v s1 ⟨y, H1, I1, r1, q1⟩ => ?_) hs
  exact store_ok I1 hN hi hx r1 (fun s2 I2 => ⟨_, H1, I2, q1⟩) hf
noncomputable def tPar (i j : Nat) (ta : TA) : TS := fun D σ H => ta σ H fun vs H1 => ∃ v w, vs = [v, w] ∧ D.nx ((σ.set i (some v)).set j (some w)) H1
noncomputable def tAug (i : Nat) (te : TE) (ti : TIp) : TS := fun D σ H => ∃ x, σ[i]? = some (some x) ∧ te σ H fun y H1 => ti x y H1 fun z H2 => D.nx (σ.set i (some z)) H2
noncomputable def ipI (f : Int → Int → Int) : TIp := fun x y H Q => ∃ i j, x = .int i ∧ y = .int j ∧ Q (.int (f i j)) H
end

section
variable {X : Cx} {pos : Pos}
noncomputable def tWhile (c : TT) (tb : TS) : TS := fun D σ H => ∃ W : Nat → St → Hp → Prop, (∃ m, W m σ H) ∧ ∀ m σ H, W m σ H →
  c σ H fun b H1 => if b = true then ∃ N : St → Hp → Prop, (∀ σ' H', N σ' H' → ∃ m', m' < m ∧ W m' σ' H') ∧ tb { D with nx := N, ct := N, bk := D.nx } σ H1 else D.nx σ H1
theorem ps_while {c : Expr} {body : List Stmt} {tc : TT} {tb : TS} (hp : PassesOwn (model X.prog X.w) X.A X.env X.xe) (hc : PT X c tc) (hb : PSs X body tb) : PS X (.While c body [] pos) (tWhile tc tb) := by
  intro pins s σ H D I h
  obtain ⟨W, ⟨m0, w0⟩, turn⟩ := h
  refine wpAny_While (codeAny_whileLoop (fun n s' => ∃ σ' H', Inv X pins σ' H' s' ∧ W n σ' H') ?_ m0 ⟨σ, H, I, w0⟩)
  rintro n s1 ⟨σ1, H1, I1, w1⟩
  refine wpAny_passesOwn hp (thn (hc pins s1 σ1 H1 _ I1 (turn n σ1 H1 w1)) fun b s2 ⟨H2, I2, q2⟩ => ?_)
  cases b with
  | true =>
    obtain ⟨N, hN, q2⟩ := q2
    rw [if_pos rfl]
    refine wpAny_passesOwn hp (thn (hb pins s2 σ1 H2 _ I2 q2) fun f s3 q3 => ?_)
    cases f with
    | next =>
      obtain ⟨σ3, H3, I3, n3⟩ := q3
      obtain ⟨m', hm, w3⟩ := hN σ3 H3 n3
      exact ⟨m', hm, σ3, H3, I3, w3⟩
    | cont =>
      obtain ⟨σ3, H3, I3, n3⟩ := q3
      obtain ⟨m', hm, w3⟩ := hN σ3 H3 n3
      exact ⟨m', hm, σ3, H3, I3, w3⟩
    | brk => exact q3
    | ret v => exact q3
  | false =>
    rw [if_neg Bool.false_ne_true]
    exact wpAny_execs_nil ⟨σ1, H2, I2, q2⟩
end

structure It where
  go : Nat → Hp → Prop
  yld : Nat → Hp → V → Hp → Prop
  stop : Nat → Hp → Prop
noncomputable def FpOk (X : Cx) (pins : List (Addr × Obj)) (H : Hp) (b : Addr) : Prop :=
  H b = none ∧ b ≠ X.env.locals ∧ b ∉ X.fs ∧ (b ∈ X.ex ∨ X.s₀.heap.objs.size ≤ b) ∧ (∀ x c, X.env.cells.lookup x = some c → c ≠ b) ∧ ∀ p ∈ X.pn ++ pins, p.1 ≠ b
theorem Inv.fpOk {X : Cx} {pins : List (Addr × Obj)} {σ : St} {H H' : Hp} {s : Shared} {b : Addr} (I : Inv X pins σ H s) (hb : s.heap.objs.size ≤ b) (hn : H' b = none) : FpOk X pins H' b := by
  refine ⟨hn, Nat.ne_of_gt (Nat.lt_of_lt_of_le I.lt hb), I.nofs hb, .inr (Nat.le_trans I.sz hb), fun x c e z => ?_, fun p hp z => ?_⟩
  · obtain ⟨v, q⟩ := I.cell x c e
    exact absurd (Nat.lt_of_lt_of_le q.lt (by rw [z]; exact hb)) (Nat.lt_irrefl _)
  · exact absurd (Nat.lt_of_lt_of_le (Heap.lt_size (I.pin p hp).1) (by rw [z]; exact hb)) (Nat.lt_irrefl _)
structure Turn (P : Program) (w : World) (K : PySem.W.Frag) (tg : Expr) (J : It) (fp : List Addr) (it : Addr) (tn : Nat → Heap → Prop) : Prop where
  mem : it ∈ fp
  obj : ∀ i h, tn i h → ∀ b ∈ fp, ∃ o, h.get? b = some o ∧ ∀ v, o.data ≠ .cell v
  keep : ∀ i h h', tn i h → (∀ b ∈ fp, ∀ o, h.get? b = some o → h'.get? b = some o) → tn i h'
  item : ∀ (X : Cx), X.prog = P → X.w = w → X.K = K → X.calm = true → ∀ (i : Nat) (pins : List (Addr × Obj)) (s : Shared) (σ : St) (H : Hp) (E : Value → Shared → Prop), Inv X pins σ H s → (∀ b ∈ fp, FpOk X pins H b) → tn i s.heap → J.go i H →
    wpAny (model P w) X.A (pyNext (.ref it)) (fun r s1 => ∃ u, r = some u ∧
      wpAny (model P w) X.A (letOwnedTupleGo tg (.ref it) u) (fun _ s2 => ∃ x H', Inv X pins σ H' s2 ∧ RelV x u ∧ J.yld i H x H' ∧ tn (i + 1) s2.heap ∧ ∀ b ∈ fp, H' b = none) E s1) E s
  done : ∀ (X : Cx), X.prog = P → X.w = w → X.K = K → X.calm = true → ∀ (i : Nat) (pins : List (Addr × Obj)) (s : Shared) (σ : St) (H : Hp) (E : Value → Shared → Prop), Inv X pins σ H s → (∀ b ∈ fp, FpOk X pins H b) → tn i s.heap → J.stop i H →
    wpAny (model P w) X.A (pyNext (.ref it)) (fun r s1 => r = none ∧ Inv X pins σ H s1) E s
  self : ∀ (A : Around) (i : Nat) (s : Shared) (Q : Value → Shared → Prop) (E : Value → Shared → Prop), tn i s.heap → Q (.ref it) s → wpAny (model P w) A (pyIter (.ref it)) Q E s
noncomputable abbrev TI := St → Hp → (It → Hp → Prop) → Prop
noncomputable def PIE (X : Cx) (pins : List (Addr × Obj)) (σ : St) (tg : Expr) (R : It → Hp → Prop) (itv : Value) (s2 : Shared) : Prop :=
  ∃ (it : Addr) (fp : List Addr) (tn : Nat → Heap → Prop) (J : It) (H' : Hp), itv = .ref it ∧ Inv X pins σ H' s2 ∧ Turn X.prog X.w X.K tg J fp it tn ∧ tn 0 s2.heap ∧ (∀ b ∈ fp, FpOk X pins H' b) ∧ R J H'
noncomputable def PI (X : Cx) (tg iter : Expr) (wi : TI) : Prop :=
  ∀ (pins : List (Addr × Obj)) (s : Shared) (σ : St) (H : Hp) (R : It → Hp → Prop), Inv X pins σ H s → wi σ H R →
    wpAny (model X.prog X.w) X.A (eval iter X.env) (fun v s1 => wpAny (model X.prog X.w) X.A (pyIter v) (PIE X pins σ tg R) X.xe s1) X.xe s

theorem go_of {M : Model} {A : Around} {E : Value → Shared → Prop} {s : Shared} {tg : Expr} {it : Addr} {u : Value} {o : Obj} {n : String} {vs : Array Value} {Q : Unit → Shared → Prop} (ho : s.heap.get? it = some o) (hc : o.cls = .type n) (hd : o.data = .fields vs)
    (hn : ["enumerate", "zip", "dict_itemiterator", "dict_reverseitemiterator", "odict_iterator", "itertools.zip_longest", "itertools.pairwise"].contains n = false) (hQ : Q () s) : wpAny M A (letOwnedTupleGo tg (.ref it) u) Q E s := by
  unfold letOwnedTupleGo
  cases tg <;> first
    | exact wpAny_pure hQ
    | (cases u <;> first
        | exact wpAny_pure hQ
        | (refine wpAny_bind (wpAny_load ho ?_)
           rw [hc, hd]
           show wpAny M A (if (["enumerate", "zip", "dict_itemiterator", "dict_reverseitemiterator", "odict_iterator", "itertools.zip_longest", "itertools.pairwise"].contains n && vs[0]? == some (rawInt _)) = true then _ else _) Q E s
           rw [if_neg (by intro h; rw [hn, Bool.false_and] at h; cases h)]
           exact wpAny_pure hQ))

noncomputable def Itl (K : PySem.W.Frag) (a : Addr) : It :=
  ⟨fun i H => ∃ xs x, SqL K H a xs ∧ xs[i]? = some x, fun i H x H' => H' = H ∧ ∀ xs, SqL K H a xs → xs[i]? = some x, fun i H => ∃ xs, SqL K H a xs ∧ xs.length ≤ i⟩
noncomputable def Itt (K : PySem.W.Frag) (a : Addr) : It :=
  ⟨fun i H => ∃ xs x, SqT K H a xs ∧ xs[i]? = some x, fun i H x H' => H' = H ∧ ∀ xs, SqT K H a xs → xs[i]? = some x, fun i H => ∃ xs, SqT K H a xs ∧ xs.length ≤ i⟩
noncomputable def Itr (lo : Int) (n : Nat) : It := ⟨fun i _ => i < n, fun i H x H' => H' = H ∧ x = .int (lo + i), fun i _ => n ≤ i⟩
theorem turn_list {P : Program} {w : World} {K : PySem.W.Frag} {tg : Expr} (a it : Addr) : Turn P w K tg (Itl K a) [it] it (fun i h => h.IsListIter it a i) where
  mem := by simp
  obj := fun i h st b hb => by
    have e : b = it := by simpa using hb
    subst e
    obtain ⟨o, e, c, d⟩ := st
    exact ⟨o, e, fun v z => by rw [d] at z; cases z⟩
  keep := fun i h h' st k => st.at fun o e => k it (by simp) o e
  item := by
    intro X hP hw hK hc i pins s σ H E I hf st hg
    subst hP hw hK
    obtain ⟨xs, x, hq, hx⟩ := hg
    obtain ⟨its, rv, p, hz⟩ := I.list hq
    obtain ⟨u, hu, ru⟩ := rv.get hx
    obtain ⟨f0, f1, f2, f3, f4, f5⟩ := hf it (by simp)
    refine wpAny_pyNext_list_item st p.isList (x := u) (by simpa using hu) fun h' st' sb => ?_
    have I1 : Inv X pins σ H { s with heap := h' } := I.turned (t' := s.toks) (fun b o hb e => (sb.2 b hb).trans e) f0 f1 f3 f4 f5
    obtain ⟨o, e, c, d⟩ := id st'
    exact ⟨u, rfl, go_of (s := { s with heap := h' }) e c d (by decide) ⟨x, H, I1, ru, ⟨rfl, fun ys hy => by rw [I.list_inj hy hq]; exact hx⟩, st', fun b hb => (hf b hb).1⟩⟩
  done := by
    intro X hP hw hK hc i pins s σ H E I hf st hg
    subst hP hw hK
    obtain ⟨xs, hq, hx⟩ := hg
    obtain ⟨its, rv, p, hz⟩ := I.list hq
    obtain ⟨f0, f1, f2, f3, f4, f5⟩ := hf it (by simp)
    have hl := rv.length
    exact wpAny_pyNext_list_end (I.ok.hd hc) st p.isList (by simp; omega) fun h' eb => ⟨rfl, I.turned (t' := s.toks) (fun b o hb e => eb b o hb e) f0 f1 f3 f4 f5⟩
  self := fun _ _ _ _ _ st h => wpAny_pyIter_listiter st h
theorem turn_tuple {P : Program} {w : World} {K : PySem.W.Frag} {tg : Expr} (a it : Addr) : Turn P w K tg (Itt K a) [it] it (fun i h => h.IsTupleIter it a i) where
  mem := by simp
  obj := fun i h st b hb => by
    have e : b = it := by simpa using hb
    subst e
    obtain ⟨o, e, c, d⟩ := st
    exact ⟨o, e, fun v z => by rw [d] at z; cases z⟩
  keep := fun i h h' st k => st.at fun o e => k it (by simp) o e
  item := by
    intro X hP hw hK hc i pins s σ H E I hf st hg
    subst hP hw hK
    obtain ⟨xs, x, hq, hx⟩ := hg
    obtain ⟨its, rv, p, hz⟩ := I.tuple hq
    obtain ⟨u, hu, ru⟩ := rv.get hx
    obtain ⟨f0, f1, f2, f3, f4, f5⟩ := hf it (by simp)
    refine wpAny_pyNext_tuple_item st (show s.heap.IsTuple a its.toArray from p) (x := u) (by simpa using hu) fun h' st' sb => ?_
    have I1 : Inv X pins σ H { s with heap := h' } := I.turned (t' := s.toks) (fun b o hb e => (sb.2 b hb).trans e) f0 f1 f3 f4 f5
    obtain ⟨o, e, c, d⟩ := id st'
    exact ⟨u, rfl, go_of (s := { s with heap := h' }) e c d (by decide) ⟨x, H, I1, ru, ⟨rfl, fun ys hy => by rw [I.tuple_inj hy hq]; exact hx⟩, st', fun b hb => (hf b hb).1⟩⟩
  done := by
    intro X hP hw hK hc i pins s σ H E I hf st hg
    subst hP hw hK
    obtain ⟨xs, hq, hx⟩ := hg
    obtain ⟨its, rv, p, hz⟩ := I.tuple hq
    obtain ⟨f0, f1, f2, f3, f4, f5⟩ := hf it (by simp)
    have hl := rv.length
    exact wpAny_pyNext_tuple_end (I.ok.hd hc) st (show s.heap.IsTuple a its.toArray from p) (by simp; omega) fun h' eb => ⟨rfl, I.turned (t' := s.toks) (fun b o hb e => eb b o hb e) f0 f1 f3 f4 f5⟩
  self := fun _ _ _ _ _ st h => wpAny_pyIter_tupleiter st h
theorem turn_range {P : Program} {w : World} {K : PySem.W.Frag} {tg : Expr} (it : Addr) (lo : Int) (n : Nat) : Turn P w K tg (Itr lo n) [it] it (fun i h => IsRangeIter h it (lo + (i : Nat) * 1) ((n : Int) - (i : Nat)) 1) where
  mem := by simp
  obj := fun i h st b hb => by
    have e : b = it := by simpa using hb
    subst e
    exact ⟨_, st, fun v z => by
      have z' : Data.fields _ = Data.cell v := z
      cases z'⟩
  keep := fun i h h' st k => k it (by simp) _ st
  item := by
    intro X hP hw hK hc i pins s σ H E I hf st hg
    subst hP hw hK
    obtain ⟨f0, f1, f2, f3, f4, f5⟩ := hf it (by simp)
    have W := Walks.range (prog := X.prog) (w := X.w) (I.ok.hd hc) it lo 1 n
    refine W.item i s _ _ hg st fun v h' tk hv st' kk => ?_
    obtain ⟨t, rfl⟩ := hv
    have I1 : Inv X pins σ H { s with heap := h', toks := tk } := I.turned (fun b o hb e => kk b o (by simpa using hb) e) f0 f1 f3 f4 f5
    refine ⟨_, rfl, go_of (s := { s with heap := h', toks := tk }) (n := "range_iterator") st' rfl rfl (by decide) ⟨.int (lo + i), H, I1, ⟨t, ?_⟩, ⟨rfl, rfl⟩, st', fun b hb => (hf b hb).1⟩⟩
    rw [Int.mul_one]
  done := by
    intro X hP hw hK hc i pins s σ H E I hf st hg
    subst hP hw hK
    obtain ⟨f0, f1, f2, f3, f4, f5⟩ := hf it (by simp)
    exact wpAny_pyNext_range_end (I.ok.hd hc) st (by have : n ≤ i := hg; omega) fun h' eb => ⟨rfl, I.turned (t' := s.toks) (fun b o hb e => eb b o hb e) f0 f1 f3 f4 f5⟩
  self := fun _ _ _ _ _ st h => wpAny_pyIter_rangeiter st h
end L2

namespace L2
open PySem PySem.Spec PyProof.Rows
section
variable {X : Cx} {tg : Expr}
noncomputable def iList (K : PySem.W.Frag) (tl : TE) : TI := fun σ H R => tl σ H fun x H1 => ∃ a, x = .ref a ∧ (∃ xs, SqL K H1 a xs) ∧ R (Itl K a) H1
noncomputable def iTup (K : PySem.W.Frag) (tl : TE) : TI := fun σ H R => tl σ H fun x H1 => ∃ a, x = .ref a ∧ (∃ xs, SqT K H1 a xs) ∧ R (Itt K a) H1
theorem pi_list {l : Expr} {tl : TE} (hl : PE X l tl) : PI X tg l (iList X.K tl) := by
  intro pins s σ H R I h
  refine thn (hl pins s σ H _ I h) fun v s1 ⟨x, H1, I1, r1, q1⟩ => ?_
  obtain ⟨a, e, ⟨xs, hq⟩, q⟩ := q1
  subst e
  cases r1
  obtain ⟨its, rv, p, hz⟩ := I1.list hq
  refine wpAny_pyIter_list p.isList ?_
  refine ⟨s1.heap.objs.size, [s1.heap.objs.size], _, _, H1, rfl, I1.kept (t' := s1.toks) fun b o e => Heap.get?_push_of_some _ e, turn_list a _, ⟨_, Heap.get?_push_size _ rfl, rfl, rfl⟩, fun b hb => ?_, q⟩
  have e : b = s1.heap.objs.size := by simpa using hb
  subst e
  exact I1.fpOk (Nat.le_refl _) (I1.hok.fresh (Nat.le_refl _))
theorem pi_tup {l : Expr} {tl : TE} (hl : PE X l tl) : PI X tg l (iTup X.K tl) := by
  intro pins s σ H R I h
  refine thn (hl pins s σ H _ I h) fun v s1 ⟨x, H1, I1, r1, q1⟩ => ?_
  obtain ⟨a, e, ⟨xs, hq⟩, q⟩ := q1
  subst e
  cases r1
  obtain ⟨its, rv, p, hz⟩ := I1.tuple hq
  refine wpAny_pyIter_tuple (show s1.heap.IsTuple a its.toArray from p) ?_
  refine ⟨s1.heap.objs.size, [s1.heap.objs.size], _, _, H1, rfl, I1.kept (t' := s1.toks) fun b o e => Heap.get?_push_of_some _ e, turn_tuple a _, ⟨_, Heap.get?_push_size _ rfl, rfl, rfl⟩, fun b hb => ?_, q⟩
  have e : b = s1.heap.objs.size := by simpa using hb
  subst e
  exact I1.fpOk (Nat.le_refl _) (I1.hok.fresh (Nat.le_refl _))
theorem range_it {pins : List (Addr × Obj)} {σ : St} {H : Hp} {s : Shared} {R : It → Hp → Prop} {E : Value → Shared → Prop} {lo hi : Int} {t u v : Tok} {tk : Nat} (I : Inv X pins σ H s) (h1 : -(2 ^ 62) ≤ lo) (h2 : lo < 2 ^ 62) (h3 : -(2 ^ 62) ≤ hi) (h4 : hi < 2 ^ 62)
    (q : R (Itr lo (hi - lo).toNat) H) : wpAny (model X.prog X.w) X.A (pyIter (.ref s.heap.objs.size)) (PIE X pins σ tg R) E { s with heap := s.heap.push { cls := .type "range", data := .fields #[.int lo t, .int hi u, .int 1 v] }, toks := tk } := by
  refine wpAny_pyIter_range (IsRange.new ..) (small_one h1 h2 h3 h4) ?_
  have I1 : Inv X pins σ H { s with heap := s.heap.push { cls := .type "range", data := .fields #[.int lo t, .int hi u, .int 1 v] }, toks := tk } := I.kept fun b o e => Heap.get?_push_of_some _ e
  refine ⟨(s.heap.push { cls := .type "range", data := .fields #[.int lo t, .int hi u, .int 1 v] }).objs.size, [(s.heap.push { cls := .type "range", data := .fields #[.int lo t, .int hi u, .int 1 v] }).objs.size], _, _, H, rfl,
    I1.kept (t' := tk) fun b o e => Heap.get?_push_of_some _ e, turn_range _ lo (hi - lo).toNat, ?_, fun b hb => ?_, q⟩
  · have e1 : lo + ((0 : Nat) : Int) * 1 = lo := by simp
    have e2 : (((hi - lo).toNat : Nat) : Int) - ((0 : Nat) : Int) = Builtin.Range.rangeSize lo hi 1 := by rw [rangeSize_one]; split <;> omega
    show IsRangeIter _ _ (lo + ((0 : Nat) : Int) * 1) ((((hi - lo).toNat : Nat) : Int) - ((0 : Nat) : Int)) 1
    rw [e1, e2]
    exact Heap.get?_push_size _ rfl
  · have e : b = (s.heap.push { cls := .type "range", data := .fields #[.int lo t, .int hi u, .int 1 v] }).objs.size := by simpa using hb
    subst e
    exact I1.fpOk (Nat.le_refl _) (I1.hok.fresh (Nat.le_refl _))
noncomputable def iRng1 (ta : TA) : TI := fun σ H R => ta σ H fun vs H1 => ∃ j : Int, vs = [.int j] ∧ -(2 ^ 62) ≤ j ∧ j < 2 ^ 62 ∧ R (Itr 0 j.toNat) H1
noncomputable def iRng2 (ta : TA) : TI := fun σ H R => ta σ H fun vs H1 => ∃ i j : Int, vs = [.int i, .int j] ∧ (-(2 ^ 62) ≤ i ∧ i < 2 ^ 62 ∧ -(2 ^ 62) ≤ j ∧ j < 2 ^ 62) ∧ R (Itr i (j - i).toNat) H1
theorem pi_range1 {a : Expr} {ta : TA} {p pos : Pos} (hg : Gl X "range") (hm : X.mg "range" = none) (ha : PA X [a] ta) (hs : starEach [a] X.env = [(false, eval a X.env)] := by rfl) : PI X tg (.Call (.Name "range" p) [a] [] pos) (iRng1 ta) := by
  intro pins s σ H R I h
  refine Call_ (ld_blt I hg hm boot_range (PyProof.Rows.callWith_type1 (thn (ha pos pins s σ H _ I h) fun us s1 ⟨vs, H1, I1, r1, q1⟩ => ?_) hs rfl))
  obtain ⟨j, e, q1, q2, q⟩ := q1
  subst e
  cases r1 with
  | cons r rr =>
    cases rr
    obtain ⟨t, rfl⟩ := r
    exact call_range_1 (range_it I1 (by omega) (by omega) q1 q2 (by simpa using q))
theorem pi_range2 {a b : Expr} {ta : TA} {p pos : Pos} (hg : Gl X "range") (hm : X.mg "range" = none) (ha : PA X [a, b] ta) (hs : starEach [a, b] X.env = [(false, eval a X.env), (false, eval b X.env)] := by rfl) (hs2 : starEach [b] X.env = [(false, eval b X.env)] := by rfl) :
    PI X tg (.Call (.Name "range" p) [a, b] [] pos) (iRng2 ta) := by
  intro pins s σ H R I h
  refine Call_ (ld_blt I hg hm boot_range (PyProof.Rows.callWith_type1 (thn (ha pos pins s σ H _ I h) fun us s1 ⟨vs, H1, I1, r1, q1⟩ => ?_) (by rw [hs, hs2]) (by rw [hs2]; rfl)))
  obtain ⟨i, j, e, ⟨q1, q2, q3, q4⟩, q⟩ := q1
  subst e
  cases r1 with
  | cons r rr =>
    cases rr with
    | cons r' rr =>
      cases rr
      obtain ⟨t, rfl⟩ := r
      obtain ⟨t', rfl⟩ := r'
      exact call_range_2 (range_it I1 q1 q2 q3 q4 q)

noncomputable def tFor (wi : TI) (g : TG) (tb : TS) : TS := fun D σ H => wi σ H fun J H1 => ∃ W : Nat → Nat → St → Hp → Prop, (∃ m, W 0 m σ H1) ∧ ∀ i m σ H, W i m σ H →
  (J.stop i H ∧ D.nx σ H) ∨ (J.go i H ∧ ∃ N : St → Hp → Prop, (∀ σ' H', N σ' H' → ∃ m', m' < m ∧ W (i + 1) m' σ' H') ∧ ∀ x H', J.yld i H x H' → g x σ H' fun σ2 H2 => tb { D with nx := N, ct := N, bk := D.nx } σ2 H2)
noncomputable def pinsAt (fp : List Addr) (h : Heap) : List (Addr × Obj) := fp.filterMap fun b => (h.get? b).map fun o => (b, o)
theorem mem_pinsAt {fp : List Addr} {h : Heap} {b : Addr} {o : Obj} (hb : b ∈ fp) (e : h.get? b = some o) : (b, o) ∈ pinsAt fp h := List.mem_filterMap.mpr ⟨b, hb, by rw [e]; rfl⟩
theorem of_pinsAt {fp : List Addr} {h : Heap} {p : Addr × Obj} (hp : p ∈ pinsAt fp h) : p.1 ∈ fp ∧ h.get? p.1 = some p.2 := by
  obtain ⟨b, hb, e⟩ := List.mem_filterMap.mp hp
  cases q : h.get? b with
  | none => rw [q] at e; cases e
  | some o =>
    rw [q] at e
    have e' : (b, o) = p := Option.some.inj e
    subst e'
    exact ⟨hb, q⟩
theorem Inv.pinned {pins : List (Addr × Obj)} {σ : St} {H : Hp} {s : Shared} {fp : List Addr} (I : Inv X pins σ H s) (hf : ∀ b ∈ fp, FpOk X pins H b) (ho : ∀ b ∈ fp, ∃ o, s.heap.get? b = some o ∧ ∀ v, o.data ≠ .cell v) : Inv X (pins ++ pinsAt fp s.heap) σ H s :=
  I.pins_of fun p hp => (List.mem_append.mp hp).elim (fun z => I.pin p (List.mem_append_right _ z)) fun z => by
    obtain ⟨hb, e⟩ := of_pinsAt z
    obtain ⟨f0, f1, f2, _⟩ := hf p.1 hb
    obtain ⟨o, e', d⟩ := ho p.1 hb
    rw [e] at e'; cases e'
    exact ⟨e, f0, f1, f2, d⟩
theorem Inv.unpinned {pins pl : List (Addr × Obj)} {σ : St} {H : Hp} {s : Shared} (I : Inv X (pins ++ pl) σ H s) : Inv X pins σ H s := I.pins_of fun p hp => I.pin p (List.mem_append_right _ (List.mem_append_left _ hp))
theorem ps_for {iter : Expr} {body : List Stmt} {wi : TI} {g : TG} {tb : TS} {pos : Pos} (hp : PassesOwn (model X.prog X.w) X.A X.env X.xe) (hc : X.calm = true) (hi : PI X tg iter wi) (hg : PG X tg g) (hb : PSs X body tb)
    (hs : ∀ x, foldedSetIterable iter X.env x = pure x := by intro _; rfl) : PS X (.For tg iter body [] pos) (tFor wi g tb) := by
  intro pins s σ H D I h
  refine wpAny_For (thn (hi pins s σ H _ I h) fun v s1 h1 => thn h1 fun itv s2 h2 => ?_) hs
  obtain ⟨it, fp, tn, J, H2, e, I2, T, st2, f2, W, ⟨m0, w0⟩, turn⟩ := h2
  subst e
  -- what stays true of the iterator's objects through the loop
  have stat : ∀ {H' : Hp}, (∀ b ∈ fp, H' b = none) → ∀ b ∈ fp, FpOk X pins H' b := fun hn b hb => ⟨hn b hb, (f2 b hb).2⟩
  refine codeAny_forLoop_any (fun n s' => ∃ i σ' H', Inv X pins σ' H' s' ∧ tn i s'.heap ∧ (∀ b ∈ fp, H' b = none) ∧ W i n σ' H') ?_ m0 ⟨0, σ, H2, I2, st2, fun b hb => (f2 b hb).1, w0⟩
  rintro n s3 ⟨i, σ3, H3, I3, st3, fr3, w3⟩
  rcases turn i n σ3 H3 w3 with ⟨stop, qn⟩ | ⟨go, N, hN, step⟩
  · refine wpAny_passesOwn hp (thn (T.done X rfl rfl rfl hc i pins s3 σ3 H3 X.xe I3 (stat fr3) st3 stop) fun r s4 ⟨hr, I4⟩ => ?_)
    subst hr
    exact wpAny_execs_nil ⟨σ3, H3, I4, qn⟩
  · refine wpAny_passesOwn hp (thn (T.item X rfl rfl rfl hc i pins s3 σ3 H3 X.xe I3 (stat fr3) st3 go) fun r s4 ⟨u, hr, h4⟩ => ?_)
    subst hr
    refine wpAny_passesOwn hp (thn h4 fun _ s5 ⟨x, H5, I5, r5, y5, st5, fr5⟩ => ?_)
    have I5' := I5.pinned (stat fr5) (T.obj _ _ st5)
    refine wpAny_passesOwn hp (thn (hg _ s5 σ3 H5 x u _ I5' r5 (step x H5 y5)) fun _ s6 ⟨σ6, H6, I6, q6⟩ => ?_)
    refine wpAny_passesOwn hp (thn (hb _ s6 σ6 H6 _ I6 q6) fun f s7 q7 => ?_)
    have again : ∀ {σ7 : St} {H7 : Hp}, Inv X (pins ++ pinsAt fp s5.heap) σ7 H7 s7 → N σ7 H7 → ∃ m, m < n ∧ ∃ i σ' H', Inv X pins σ' H' s7 ∧ tn i s7.heap ∧ (∀ b ∈ fp, H' b = none) ∧ W i m σ' H' := fun {σ7 H7} I7 n7 => by
      obtain ⟨m', hm, w7⟩ := hN σ7 H7 n7
      refine ⟨m', hm, i + 1, σ7, H7, I7.unpinned, T.keep _ _ _ st5 fun b hb o e => (I7.pin (b, o) (List.mem_append_right _ (List.mem_append_right _ (mem_pinsAt hb e)))).1, fun b hb => ?_, w7⟩
      obtain ⟨o, e, d⟩ := T.obj _ _ st5 b hb
      exact (I7.pin (b, o) (List.mem_append_right _ (List.mem_append_right _ (mem_pinsAt hb e)))).2.1
    cases f with
    | next => obtain ⟨σ7, H7, I7, n7⟩ := q7; exact again I7 n7
    | cont => obtain ⟨σ7, H7, I7, n7⟩ := q7; exact again I7 n7
    | brk => obtain ⟨σ7, H7, I7, q7⟩ := q7; exact ⟨σ7, H7, I7.unpinned, q7⟩
    | ret v => obtain ⟨x7, σ7, H7, I7, r7, q7⟩ := q7; exact ⟨x7, σ7, H7, I7.unpinned, r7, q7⟩
end

theorem for_list {K : PySem.W.Frag} {a : Addr} {xs : List V} {g : TG} {tb : TS} {D : Ends} {σ : St} {H : Hp} (Pv : Nat → St → Hp → Prop) (h0 : Pv 0 σ H) (hl : ∀ i σ H, i ≤ xs.length → Pv i σ H → SqL K H a xs)
    (hs : ∀ i x σ H, xs[i]? = some x → Pv i σ H → g x σ H fun σ2 H2 => tb { D with nx := Pv (i + 1), ct := Pv (i + 1), bk := D.nx } σ2 H2) (hd : ∀ σ H, Pv xs.length σ H → D.nx σ H) :
    ∃ W : Nat → Nat → St → Hp → Prop, (∃ m, W 0 m σ H) ∧ ∀ i m σ H, W i m σ H →
      ((Itl K a).stop i H ∧ D.nx σ H) ∨ ((Itl K a).go i H ∧ ∃ N : St → Hp → Prop, (∀ σ' H', N σ' H' → ∃ m', m' < m ∧ W (i + 1) m' σ' H') ∧ ∀ x H', (Itl K a).yld i H x H' → g x σ H' fun σ2 H2 => tb { D with nx := N, ct := N, bk := D.nx } σ2 H2) := by
  refine ⟨fun i m σ H => m = xs.length - i ∧ i ≤ xs.length ∧ Pv i σ H, ⟨xs.length, by simp, Nat.zero_le _, h0⟩, ?_⟩
  rintro i m σ H ⟨rfl, hi, p⟩
  have q := hl i σ H hi p
  by_cases hlt : i < xs.length
  · refine .inr ⟨⟨xs, xs[i], q, by simp [hlt]⟩, Pv (i + 1), fun σ' H' p' => ⟨xs.length - (i + 1), by omega, rfl, hlt, p'⟩, fun x H' y => ?_⟩
    obtain ⟨e, y⟩ := y
    subst e
    exact hs i x σ _ (y xs q) p
  · have e : i = xs.length := by omega
    subst e
    exact .inl ⟨⟨xs, q, Nat.le_refl _⟩, hd σ H p⟩
theorem for_tup {K : PySem.W.Frag} {a : Addr} {xs : List V} {g : TG} {tb : TS} {D : Ends} {σ : St} {H : Hp} (Pv : Nat → St → Hp → Prop) (h0 : Pv 0 σ H) (hl : ∀ i σ H, i ≤ xs.length → Pv i σ H → SqT K H a xs)
    (hs : ∀ i x σ H, xs[i]? = some x → Pv i σ H → g x σ H fun σ2 H2 => tb { D with nx := Pv (i + 1), ct := Pv (i + 1), bk := D.nx } σ2 H2) (hd : ∀ σ H, Pv xs.length σ H → D.nx σ H) :
    ∃ W : Nat → Nat → St → Hp → Prop, (∃ m, W 0 m σ H) ∧ ∀ i m σ H, W i m σ H →
      ((Itt K a).stop i H ∧ D.nx σ H) ∨ ((Itt K a).go i H ∧ ∃ N : St → Hp → Prop, (∀ σ' H', N σ' H' → ∃ m', m' < m ∧ W (i + 1) m' σ' H') ∧ ∀ x H', (Itt K a).yld i H x H' → g x σ H' fun σ2 H2 => tb { D with nx := N, ct := N, bk := D.nx } σ2 H2) := by
  refine ⟨fun i m σ H => m = xs.length - i ∧ i ≤ xs.length ∧ Pv i σ H, ⟨xs.length, by simp, Nat.zero_le _, h0⟩, ?_⟩
  rintro i m σ H ⟨rfl, hi, p⟩
  have q := hl i σ H hi p
  by_cases hlt : i < xs.length
  · refine .inr ⟨⟨xs, xs[i], q, by simp [hlt]⟩, Pv (i + 1), fun σ' H' p' => ⟨xs.length - (i + 1), by omega, rfl, hlt, p'⟩, fun x H' y => ?_⟩
    obtain ⟨e, y⟩ := y
    subst e
    exact hs i x σ _ (y xs q) p
  · have e : i = xs.length := by omega
    subst e
    exact .inl ⟨⟨xs, q, Nat.le_refl _⟩, hd σ H p⟩
theorem for_range {lo : Int} {n : Nat} {g : TG} {tb : TS} {D : Ends} {σ : St} {H : Hp} (Pv : Nat → St → Hp → Prop) (h0 : Pv 0 σ H)
    (hs : ∀ i σ H, i < n → Pv i σ H → g (.int (lo + i)) σ H fun σ2 H2 => tb { D with nx := Pv (i + 1), ct := Pv (i + 1), bk := D.nx } σ2 H2) (hd : ∀ σ H, Pv n σ H → D.nx σ H) :
    ∃ W : Nat → Nat → St → Hp → Prop, (∃ m, W 0 m σ H) ∧ ∀ i m σ H, W i m σ H →
      ((Itr lo n).stop i H ∧ D.nx σ H) ∨ ((Itr lo n).go i H ∧ ∃ N : St → Hp → Prop, (∀ σ' H', N σ' H' → ∃ m', m' < m ∧ W (i + 1) m' σ' H') ∧ ∀ x H', (Itr lo n).yld i H x H' → g x σ H' fun σ2 H2 => tb { D with nx := N, ct := N, bk := D.nx } σ2 H2) := by
  refine ⟨fun i m σ H => m = n - i ∧ i ≤ n ∧ Pv i σ H, ⟨n, by simp, Nat.zero_le _, h0⟩, ?_⟩
  rintro i m σ H ⟨rfl, hi, p⟩
  by_cases hlt : i < n
  · refine .inr ⟨hlt, Pv (i + 1), fun σ' H' p' => ⟨n - (i + 1), by omega, rfl, hlt, p'⟩, fun x H' y => ?_⟩
    obtain ⟨e, y⟩ := y
    subst e y
    exact hs i σ _ hlt p
  · have e : i = n := by omega
    subst e
    exact .inl ⟨Nat.le_refl _, hd σ H p⟩
end L2

namespace L2
open PySem PySem.Spec PyProof.Rows

noncomputable abbrev R2 := V → V → Hp → VK → Prop
noncomputable def OpR (X : Cx) (f : Value → Value → Sem Value) (r : R2) : Prop :=
  ∀ (pins : List (Addr × Obj)) (s : Shared) (σ : St) (H : Hp) (x y : V) (v u : Value) (Q : VK), Inv X pins σ H s → RelV x v → RelV y u → r x y H Q →
    wpAny (model X.prog X.w) X.A (f v u) (EP X pins σ Q) X.xe s
noncomputable def CallR (X : Cx) (f : Value) (r : List V → Hp → VK → Prop) : Prop :=
  ∀ (pins : List (Addr × Obj)) (s : Shared) (σ : St) (H : Hp) (xs : List V) (us : List Value) (Q : VK), Inv X pins σ H s → Vals xs us → r xs H Q →
    wpAny (model X.prog X.w) X.A (call f us) (EP X pins σ Q) X.xe s
noncomputable def tOp (r : R2) (ta tb : TE) : TE := fun σ H Q => ta σ H fun x H1 => tb σ H1 fun y H2 => r x y H2 Q
noncomputable def tUn (r : V → Hp → VK → Prop) (ta : TE) : TE := fun σ H Q => ta σ H fun x H1 => r x H1 Q
noncomputable def rI (C : Int → Int → Prop) (g : Int → Int → V) : R2 := fun x y H Q => ∃ i j, x = .int i ∧ y = .int j ∧ C i j ∧ Q (g i j) H
noncomputable def rI0 (g : Int → Int → V) : R2 := fun x y H Q => ∃ i j, x = .int i ∧ y = .int j ∧ Q (g i j) H
noncomputable def rU (g : Int → V) : V → Hp → VK → Prop := fun x H Q => ∃ i, x = .int i ∧ Q (g i) H

section
variable {X : Cx} {a b c : Expr} {ta tb tc : TE} {pos : Pos}

theorem binT (ha : PE X a ta) (hb : PE X b tb) {pins : List (Addr × Obj)} {s : Shared} {σ : St} {H : Hp} {R : V → V → Hp → Prop} (I : Inv X pins σ H s)
    (h : ta σ H fun x H1 => tb σ H1 fun y H2 => R x y H2) {Q : Value → Shared → Prop} {f : Value → Value → Sem Value}
    (hf : ∀ v u s2 x y H2, Inv X pins σ H2 s2 → RelV x v → RelV y u → R x y H2 → wpAny (model X.prog X.w) X.A (f v u) Q X.xe s2) :
    wpAny (model X.prog X.w) X.A (eval a X.env) (fun v s₁ => wpAny (model X.prog X.w) X.A (eval b X.env) (fun u s₂ => wpAny (model X.prog X.w) X.A (f v u) Q X.xe s₂) X.xe s₁) X.xe s := by
  refine thn (ha pins s σ H _ I h) fun v s1 ⟨x, H1, I1, r1, q1⟩ => ?_
  refine thn (hb pins s1 σ H1 _ I1 q1) fun u s2 ⟨y, H2, I2, r2, q2⟩ => ?_
  exact hf v u s2 x y H2 I2 r1 r2 q2

theorem pe_op {op : Operator} {r : R2} (ho : OpR X (binaryOp op) r) (ha : PE X a ta) (hb : PE X b tb) : PE X (.BinOp a op b pos) (tOp r ta tb) := by
  intro pins s σ H Q I h
  exact wpAny_BinOp (binT ha hb I h fun v u s2 x y H2 I2 rx ry q => ho pins s2 σ H2 x y v u Q I2 rx ry q)
theorem opI {f : Value → Value → Sem Value} {C : Int → Int → Prop} {g : Int → Int → Int}
    (rule : ∀ (i j : Int) (t u : Tok) (s : Shared) (Q : Value → Shared → Prop) (E : Value → Shared → Prop), C i j → Q (.int (g i j) s.toks) { s with toks := s.toks + 1 } → wpAny (model X.prog X.w) X.A (f (.int i t) (.int j u)) Q E s) :
    OpR X f (rI C fun i j => .int (g i j)) := by
  intro pins s σ H x y v u Q I rx ry h
  obtain ⟨i, j, rfl, rfl, hc, q⟩ := h
  obtain ⟨t, rfl⟩ := rx
  obtain ⟨t', rfl⟩ := ry
  exact rule i j t t' s _ _ hc ⟨.int (g i j), H, I.tok _, ⟨_, rfl⟩, q⟩
theorem opI0 {f : Value → Value → Sem Value} {g : Int → Int → Int}
    (rule : ∀ (i j : Int) (t u : Tok) (s : Shared) (Q : Value → Shared → Prop) (E : Value → Shared → Prop), Q (.int (g i j) s.toks) { s with toks := s.toks + 1 } → wpAny (model X.prog X.w) X.A (f (.int i t) (.int j u)) Q E s) :
    OpR X f (rI0 fun i j => .int (g i j)) := by
  intro pins s σ H x y v u Q I rx ry h
  obtain ⟨i, j, rfl, rfl, q⟩ := h
  obtain ⟨t, rfl⟩ := rx
  obtain ⟨t', rfl⟩ := ry
  exact rule i j t t' s _ _ ⟨.int (g i j), H, I.tok _, ⟨_, rfl⟩, q⟩
theorem opB0 {f : Value → Value → Sem Value} {g : Int → Int → Bool}
    (rule : ∀ (i j : Int) (t u : Tok) (s : Shared) (Q : Value → Shared → Prop) (E : Value → Shared → Prop), Q (.bool (g i j)) s → wpAny (model X.prog X.w) X.A (f (.int i t) (.int j u)) Q E s) :
    OpR X f (rI0 fun i j => .bl (g i j)) := by
  intro pins s σ H x y v u Q I rx ry h
  obtain ⟨i, j, rfl, rfl, q⟩ := h
  obtain ⟨t, rfl⟩ := rx
  obtain ⟨t', rfl⟩ := ry
  exact rule i j t t' s _ _ ⟨.bl (g i j), H, I, rfl, q⟩

noncomputable def CDiv (i j : Int) : Prop := 0 < j ∧ j < 1073741824
noncomputable def CPow (i j : Int) : Prop := 0 ≤ j ∧ j ≤ 1000000 ∧ i.natAbs < 2 ^ 64
noncomputable def CMul (i j : Int) : Prop := (-(2 ^ 64) < i ∧ i < 2 ^ 64) ∨ (-(2 ^ 64) < j ∧ j < 2 ^ 64)
theorem CMul.ok {i j : Int} (h : CMul i j) : IntMulOk i j := by
  rcases h with ⟨h1, h2⟩ | ⟨h1, h2⟩
  · exact .of_left (intBits_le_64 h1 h2)
  · exact .of_right (intBits_le_64 h1 h2)
theorem op_add : OpR X (binaryOp .Add) (rI0 fun i j => .int (i + j)) := opI0 fun _ _ _ _ _ _ _ q => add_int q
theorem op_sub : OpR X (binaryOp .Sub) (rI0 fun i j => .int (i - j)) := opI0 fun _ _ _ _ _ _ _ q => sub_int q
theorem op_mul : OpR X (binaryOp .Mult) (rI CMul fun i j => .int (i * j)) := opI fun _ _ _ _ _ _ _ hc q => mul_int q hc.ok
theorem op_fdiv : OpR X (binaryOp .FloorDiv) (rI CDiv fun i j => .int (i / j)) := opI fun i j _ _ _ _ _ hc q => by
  have h1 : (0 : Int) < j := hc.1
  have h2 : j < 1073741824 := hc.2
  exact floordiv_int (by omega) (by rw [Int.fdiv_eq_ediv_of_nonneg i (by omega)]; exact q) (.inl (PyProof.noPylong_small (by omega)))
theorem op_mod : OpR X (binaryOp .Mod) (rI (fun _ j => 0 < j) fun i j => .int (i % j)) := opI fun i j _ _ _ _ _ hc q => by
  have h1 : (0 : Int) < j := hc
  exact mod_int' (by omega) (by rw [Int.fmod_eq_emod_of_nonneg i (by omega)]; exact q)
theorem op_pow : OpR X (binaryOp .Pow) (rI CPow fun i j => .int (i ^ j.toNat)) := opI fun _ _ _ _ _ _ _ hc q => pow_int_small hc.1 hc.2.1 hc.2.2 q
end

noncomputable def scal : V → V → Bool
  | .non, .non => true | .non, .int _ => true | .int _, .non => true | .non, .bl _ => true | .bl _, .non => true | .non, .str _ => true | .str _, .non => true
  | .int _, .int _ => true | .bl _, .bl _ => true | .str _, .str _ => true | .byt _, .byt _ => true
  | .int _, .str _ => true | .str _, .int _ => true | .bl _, .str _ => true | .str _, .bl _ => true
  | _, _ => false
noncomputable def rEq : R2 := fun x y H Q => scal x y = true ∧ Q (.bl (decide (x = y))) H
noncomputable def rNe : R2 := fun x y H Q => scal x y = true ∧ Q (.bl (!decide (x = y))) H

theorem dec_int {i j : Int} : decide (V.int i = V.int j) = (i == j) := by
  rw [Bool.eq_iff_iff]
  simp
theorem dec_bl {i j : Bool} : decide (V.bl i = V.bl j) = (i == j) := by
  rw [Bool.eq_iff_iff]
  simp
theorem dec_str {i j : Str} : decide (V.str i = V.str j) = (i == j) := by
  rw [Bool.eq_iff_iff]
  simp
theorem dec_byt {i j : Array UInt8} : decide (V.byt i = V.byt j) = (i.toList == j.toList) := by
  rw [Bool.eq_iff_iff]
  cases i
  cases j
  simp

section
variable {X : Cx} {a b c : Expr} {ta tb tc : TE} {pos : Pos}
theorem fin_bl {pins : List (Addr × Obj)} {σ : St} {H : Hp} {s : Shared} {Q : VK} {k k' : Bool} (I : Inv X pins σ H s) (q : Q (.bl k) H) (e : k = k') : EP X pins σ Q (.bool k') s := by
  subst e
  exact ⟨.bl k, H, I, rfl, q⟩
theorem op_eq : OpR X (compareOp .Eq) rEq := by
  intro pins s σ H x y v u Q I rx ry h
  obtain ⟨hs, q⟩ := h
  cases x with
  | non =>
    cases rx
    cases y with
    | non => cases ry; exact PySem.EqNone.eq_none_none (fin_bl I q (by simp))
    | bl j => cases ry; exact PySem.EqNone.eq_none_bool (fin_bl I q (by simp))
    | int j => obtain ⟨t', rfl⟩ := ry; exact PySem.EqNone.eq_none_int (fin_bl I q (by simp))
    | str j => obtain ⟨t', rfl⟩ := ry; exact PySem.EqNone.eq_none_str (fin_bl I q (by simp))
    | _ => exact absurd (show false = true from hs) Bool.false_ne_true
  | bl i =>
    cases rx
    cases y with
    | non => cases ry; exact PySem.EqNone.eq_bool_none (fin_bl I q (by simp))
    | bl j => cases ry; exact eq_bool (fin_bl I q dec_bl)
    | str j => obtain ⟨t', rfl⟩ := ry; exact PySem.EqMixed.eq_bool_str (fin_bl I q (by simp))
    | _ => exact absurd (show false = true from hs) Bool.false_ne_true
  | int i =>
    obtain ⟨t, rfl⟩ := rx
    cases y with
    | non => cases ry; exact PySem.EqNone.eq_int_none (fin_bl I q (by simp))
    | int j => obtain ⟨t', rfl⟩ := ry; exact eq_int (fin_bl I q dec_int)
    | str j => obtain ⟨t', rfl⟩ := ry; exact PySem.EqMixed.eq_int_str (fin_bl I q (by simp))
    | _ => exact absurd (show false = true from hs) Bool.false_ne_true
  | str i =>
    obtain ⟨t, rfl⟩ := rx
    cases y with
    | non => cases ry; exact PySem.EqNone.eq_str_none (fin_bl I q (by simp))
    | bl j => cases ry; exact PySem.EqMixed.eq_str_bool (fin_bl I q (by simp))
    | int j => obtain ⟨t', rfl⟩ := ry; exact PySem.EqMixed.eq_str_int (fin_bl I q (by simp))
    | str j => obtain ⟨t', rfl⟩ := ry; exact eq_str (fin_bl I q dec_str)
    | _ => exact absurd (show false = true from hs) Bool.false_ne_true
  | byt i =>
    obtain ⟨t, rfl⟩ := rx
    cases y with
    | byt j => obtain ⟨t', rfl⟩ := ry; exact PySem.W.eq_bytes (fin_bl I q dec_byt)
    | _ => exact absurd (show false = true from hs) Bool.false_ne_true
  | _ => cases y <;> exact absurd (show false = true from hs) Bool.false_ne_true
theorem op_lt : OpR X (compareOp .Lt) (rI0 fun i j => .bl (decide (i < j))) := opB0 fun _ _ _ _ _ _ _ q => lt_int q
theorem op_le : OpR X (compareOp .LtE) (rI0 fun i j => .bl (decide (i ≤ j))) := opB0 fun _ _ _ _ _ _ _ q => le_int q
theorem op_gt : OpR X (compareOp .Gt) (rI0 fun i j => .bl (decide (j < i))) := opB0 fun _ _ _ _ _ _ _ q => gt_int q
theorem op_in_str : OpR X (compareOp .In) (fun x y H Q => ∃ i j, x = .str i ∧ y = .str j ∧ Q (.bl (!(Builtin.Str.occurrences j i 0 j.length 1).isEmpty)) H) := by
  intro pins s σ H x y v u Q I rx ry h
  obtain ⟨i, j, rfl, rfl, q⟩ := h
  obtain ⟨t, rfl⟩ := rx
  obtain ⟨t', rfl⟩ := ry
  exact in_str (fin_bl I q rfl)

theorem nomark (b : Expr) {op : CmpOp} (h : op ≠ .In := by decide) (h2 : op ≠ .NotIn := by decide) : behindInMarks op b = false := by
  have e1 : (op == CmpOp.In) = false := by cases op <;> first | rfl | exact absurd rfl h
  have e2 : (op == CmpOp.NotIn) = false := by cases op <;> first | rfl | exact absurd rfl h2
  cases b <;> simp [behindInMarks, e1, e2]
theorem pe_cmpR {op : CmpOp} {r : R2} (ho : OpR X (compareOp op) r) (ha : PE X a ta) (hb : PE X b tb) (hm : behindInMarks op b = false) : PE X (.Compare a [op] [b] pos) (tOp r ta tb) := by
  intro pins s σ H Q I h
  exact wpAny_Compare1 (binT ha hb I h fun v u s2 x y H2 I2 rx ry q => ho pins s2 σ H2 x y v u Q I2 rx ry q) hm
noncomputable def tTest (t : TE) : TT := fun σ H Q => t σ H fun x H' => ∃ k, x = .bl k ∧ Q k H'
theorem pt_cmpR {op : CmpOp} {r : R2} (ho : OpR X (compareOp op) r) (ha : PE X a ta) (hb : PE X b tb) (hm : behindInMarks op b = false) : PT X (.Compare a [op] [b] pos) (tTest (tOp r ta tb)) := by
  intro pins s σ H Q I h
  refine wpAny_isTrue_Compare1 (thn (ha pins s σ H _ I h) fun v s1 ⟨x, H1, I1, r1, q1⟩ => thn (hb pins s1 σ H1 _ I1 q1) fun u s2 ⟨y, H2, I2, r2, q2⟩ =>
    thn (ho pins s2 σ H2 x y v u _ I2 r1 r2 q2) fun c s3 ⟨z, H3, I3, r3, k, e, q3⟩ => ?_) hm
  subst e
  cases r3
  exact wpAny_truthy_bool ⟨H3, I3, q3⟩
noncomputable def tChain (r r' : R2) (ta tb tc : TE) : TE := fun σ H Q => ta σ H fun x H1 => tb σ H1 fun y H2 => r x y H2 fun z H3 => ∃ k, z = .bl k ∧
  (if k = true then tc σ H3 fun w' H4 => r' y w' H4 Q else Q (.bl false) H3)
theorem pe_chain {op op' : CmpOp} {r r' : R2} (ho : OpR X (compareOp op) r) (ho' : OpR X (compareOp op') r') (ha : PE X a ta) (hb : PE X b tb) (hc : PE X c tc)
    (hm : lastMarks [op, op'] [b, c] = false := by with_unfolding_all rfl) : PE X (.Compare a [op, op'] [b, c] pos) (tChain r r' ta tb tc) := by
  intro pins s σ H Q I h
  refine Compare_chain (thn (ha pins s σ H _ I h) fun v s1 ⟨x, H1, I1, r1, q1⟩ => chain_link (thn (hb pins s1 σ H1 _ I1 q1) fun u s2 ⟨y, H2, I2, r2, q2⟩ =>
    thn (ho pins s2 σ H2 x y v u _ I2 r1 r2 q2) fun d s3 ⟨z, H3, I3, r3, k, e, q3⟩ => ?_)) hm
  subst e
  cases r3
  refine wpAny_truthy_bool ?_
  cases k with
  | false => exact ite_ff ⟨.bl false, H3, I3, rfl, q3⟩
  | true => exact ite_tt (chain_last (thn (hc pins s3 σ H3 _ I3 q3) fun w' s4 ⟨z', H4, I4, r4, q4⟩ => ho' pins s4 σ H4 y z' u w' Q I4 r2 r4 q4))
theorem line63 : (sizeLine : Nat) < 2 ^ 63 := by rw [sizeLine_eq]; decide
theorem op_add_str : OpR X (binaryOp .Add) (fun x y H Q => ∃ i j, x = .str i ∧ y = .str j ∧ i.length + j.length ≤ sizeLine ∧ Q (.str (i ++ j)) H) := by
  intro pins s σ H x y v u Q I rx ry h
  obtain ⟨i, j, rfl, rfl, hz, q⟩ := h
  obtain ⟨t, rfl⟩ := rx
  obtain ⟨t', rfl⟩ := ry
  exact add_str (fun t' tk => ⟨.str (i ++ j), H, I.tok _, ⟨_, rfl⟩, q⟩) hz
theorem vals1 {x : V} {us : List Value} (r : Vals [x] us) : ∃ u, us = [u] ∧ RelV x u := by
  cases r with
  | cons r1 r2 => cases r2; exact ⟨_, rfl, r1⟩
theorem vals2 {x y : V} {us : List Value} (r : Vals [x, y] us) : ∃ u w', us = [u, w'] ∧ RelV x u ∧ RelV y w' := by
  cases r with
  | cons r1 r2 =>
    cases r2 with
    | cons r3 r4 => cases r4; exact ⟨_, _, rfl, r1, r3⟩
end
end L2

namespace L2
open PySem PySem.Spec PyProof.Rows

structure ObjM (h : Heap) (x dx C : Addr) (mA : Str → Option Value) : Prop where
  obj : h.get? x = some (PySem.W.instObj C dx)
  ns : h.Ns1 dx mA
  ne : dx ≠ x

theorem lookIn_ns {h : Heap} {dx : Addr} {mA : Str → Option Value} (n : h.Ns1 dx mA) : ∃ od, h.get? dx = some od ∧ ∀ name, PySem.W.lookIn name od = some (mA name) := by
  obtain ⟨o, es, ep, ho, hd, hk, _, hm⟩ := n
  refine ⟨o, ho, fun name => ?_⟩
  have e := hm name
  unfold nsFind findBy at e
  rw [← Array.find?_toList] at e
  unfold PySem.W.lookIn
  rw [hd]
  dsimp only
  split
  · rename_i y q
    rw [q] at e
    exact congrArg some e
  · rename_i q
    rw [q] at e
    have a : es.toList.any (·.refKey) = false := by
      rw [List.any_eq_false]
      intro y hy
      obtain ⟨z, t, hkey⟩ := hk y (Array.mem_toList_iff.mp hy)
      simp [DictEntry.refKey, hkey]
    have a' : ¬ es.toList.any (·.refKey) = true := by rw [a]; exact Bool.false_ne_true
    rw [if_neg a']
    exact congrArg some e

theorem ObjM.look {h : Heap} {x dx C : Addr} {mA : Str → Option Value} (I : ObjM h x dx C mA) : ∃ od, PySem.W.InstAt h x (PySem.W.instObj C dx) C (some od) ∧ ∀ name, PySem.W.lookIn name od = some (mA name) :=
  let ⟨od, ho, hl⟩ := lookIn_ns I.ns
  ⟨od, ⟨I.obj, rfl, rfl, ho⟩, hl⟩

section
variable {prog : Program} {w : World} {A : Around} {E : Value → Shared → Prop} {s : Shared} {K : PySem.W.Frag} {x dx C f : Addr} {mA : Str → Option Value} {name : Str} {v : Value}

theorem get_map {expr : Bool} {Q : Value → Shared → Prop} (X : K.In s.heap) (I : ObjM s.heap x dx C mA) (hg : PySem.W.plainGet K C name = true) (hh : PySem.W.hasDictIn K C = true)
    (ha : PySem.W.findIn K (.ref C) name = some none) (hv : mA name = some v) (hv' : PySem.W.handedIn v = true) (h : Q v { s with toks := s.toks + 1 }) :
    wpAny (model prog w) A (getAttr (.ref x) name expr) Q E s := by
  obtain ⟨od, J, hl⟩ := I.look
  exact PySem.W.get_value X J (PySem.W.plainGet_of hg).1 (PySem.W.findObj_own hh ha rfl (by rw [hl, hv])) hv' h

theorem get_meth {pl : Sem Bool} {Q : Value × List Value → Shared → Prop} (X : K.In s.heap) (I : ObjM s.heap x dx C mA) (hg : PySem.W.plainGet K C name = true)
    (hf : PySem.W.findIn K (.ref C) name = some (some (.ref f))) (ht : PySem.W.isFn K (.ref f) = true) (hv : mA name = none) (h : Q (.ref f, [.ref x]) s) :
    wpAny (model prog w) A (getMethod (.ref x) name pl) Q E s := by
  obtain ⟨od, J, hl⟩ := I.look
  exact PySem.W.method_fn X J (PySem.W.plainGet_of hg).1 (PySem.W.plainGet_of hg).2 hf (beq_iff_eq.mp ht) (by show (PySem.W.lookIn name od).map (·.isSome) = some false; rw [hl, hv]; rfl) h

theorem set_map {ns : List Str} {Q : Unit → Shared → Prop} (X : K.In s.heap) (I : ObjM s.heap x dx C mA)
    (hs : PySem.W.findIn K (.ref C) "__setattr__" = some (some (.builtin "object.__setattr__"))) (hp : PySem.W.plainOver K C = true) (ht : PySem.W.takerIn K C name = some none) (hh : PySem.W.hasDictIn K C = true)
    (hw : PySem.Within mA ns) (hsz : ns.length ≤ sizeLine)
    (h : ∀ h', ObjM h' x dx C (fun y => if y = name then some v else mA y) → Heap.SameBut dx s.heap h' → Q () { s with heap := h', toks := s.toks + 2 }) :
    wpAny (model prog w) A (setAttr (.ref x) name v) Q E s := by
  obtain ⟨od, J, hl⟩ := I.look
  refine PySem.W.set_plain X J hs (PySem.W.osa_open (s := { s with toks := s.toks + 1 }) (r := none) X J hp ht fun b => ?_)
  obtain ⟨cd, hc, hd'⟩ := PySem.W.any_some hh
  have hx : s.heap.get? x = some ⟨.ref C, some dx, .plain, #[]⟩ := I.obj
  refine wpAny_bind (wpAny_pure (wpAny_bind (wpAny_bind (wpAny_loadPart hx (wpAny_bind (PySem.W.Looks.here (s := { s with toks := s.toks + 1 }) (PySem.W.looks_clsIn X hc) ?_))))))
  rw [hd']
  refine wpAny_pure (a := some dx) (wpAny_bind (wpAny_pure (wpAny_bind ?_)))
  refine wpAny_nsSet1 (s := { s with toks := s.toks + 1 }) I.ns fun h' hn2 hs2 => ?_
  obtain ⟨oD, esD, epD, hoD, hdD, hcD⟩ := hn2.count (PySem.Within.cons name v hw)
  refine wpAny_bind (wpAny_lookBehind hoD (by rw [hdD]; exact pastItsLine_dict (Nat.le_trans hcD (by rw [List.length_cons]; omega))) ?_)
  exact wpAny_pure (h _ ⟨(hs2.2 _ (Ne.symm I.ne)).trans I.obj, hn2, I.ne⟩ hs2)

theorem make_map {R : Result → Shared → Prop} {vs : List Value} {kw : List (Str × Value)} (X : K.In s.heap) (hm : PySem.W.makesIn K C = true)
    (hi : PySem.W.findIn K (.ref C) "__init__" = some (some (.ref f))) (hf : PySem.W.typeIn K (.ref f) = some (.type "function"))
    (h : codeAny (model prog w) (A.under (.builtin "type.__call__" ⟨.ref C :: vs, kw⟩)) (.call (.ref f) ⟨.ref (s.heap.objs.size + 1) :: vs, kw⟩) (PySem.W.InitBack (s.heap.objs.size + 1) R)
      { s with heap := (s.heap.push PySem.W.emptyDict).push (PySem.W.instObj C s.heap.objs.size) }) :
    codeAny (model prog w) A (.call (.ref C) ⟨vs, kw⟩) R s := by
  obtain ⟨hh, g, d, t, os⟩ := s
  exact PySem.W.make_core (PySem.W.makes_of X hm) (PySem.W.looks_findIn X hi) (fun self => PySem.W.bind_fn X self hf) (.inl rfl) h
end

noncomputable def putF (f : Str) (v : V) : List (Str × V) → List (Str × V)
  | [] => [(f, v)]
  | (g, x) :: r => if g = f then (g, v) :: r else (g, x) :: putF f v r
theorem lookup_putF (f g : Str) (v : V) : ∀ fs : List (Str × V), (putF f v fs).lookup g = if g = f then some v else fs.lookup g
  | [] => by
    show List.lookup g [(f, v)] = _
    by_cases h : g = f
    · have hb : (g == f) = true := beq_iff_eq.mpr h
      simp only [List.lookup, hb, if_pos h]
    · have hb : (g == f) = false := beq_eq_false_iff_ne.mpr h
      simp only [List.lookup, hb, if_neg h]
  | (k, x) :: r => by
    have ih := lookup_putF f g v r
    rw [show putF f v ((k, x) :: r) = (if k = f then (k, v) :: r else (k, x) :: putF f v r) from rfl]
    by_cases hk : k = f
    · rw [if_pos hk]
      by_cases h : g = k
      · have hb : (g == k) = true := beq_iff_eq.mpr h
        simp only [List.lookup, hb, if_pos (h.trans hk)]
      · have hb : (g == k) = false := beq_eq_false_iff_ne.mpr h
        simp only [List.lookup, hb, if_neg (fun e : g = f => h (e.trans hk.symm))]
    · rw [if_neg hk]
      by_cases h : g = k
      · have hb : (g == k) = true := beq_iff_eq.mpr h
        simp only [List.lookup, hb, if_neg (fun e : g = f => hk (h.symm.trans e))]
      · have hb : (g == k) = false := beq_eq_false_iff_ne.mpr h
        simp only [List.lookup, hb]
        exact ih
theorem keys_putF (f : Str) (v : V) : ∀ fs : List (Str × V), f ∈ (putF f v fs).map (·.1) ∧ ∀ g, g ∈ fs.map (·.1) → g ∈ (putF f v fs).map (·.1)
  | [] => ⟨by simp [putF], fun g h => by simp at h⟩
  | (k, x) :: r => by
    obtain ⟨i1, i2⟩ := keys_putF f v r
    rw [show putF f v ((k, x) :: r) = (if k = f then (k, v) :: r else (k, x) :: putF f v r) from rfl]
    by_cases hk : k = f
    · rw [if_pos hk]
      subst hk
      exact ⟨by simp, fun g h => by simpa using h⟩
    · rw [if_neg hk]
      refine ⟨?_, fun g h => ?_⟩
      · rw [List.map_cons]
        exact List.mem_cons_of_mem _ i1
      · rw [List.map_cons] at h ⊢
        rcases List.mem_cons.mp h with e | e
        · exact List.mem_cons.mpr (.inl e)
        · exact List.mem_cons_of_mem _ (i2 g e)
theorem length_putF (f : Str) (v : V) : ∀ fs : List (Str × V), (putF f v fs).length ≤ fs.length + 1
  | [] => by simp [putF]
  | (k, x) :: r => by
    have ih := length_putF f v r
    rw [show putF f v ((k, x) :: r) = (if k = f then (k, v) :: r else (k, x) :: putF f v r) from rfl]
    by_cases hk : k = f
    · rw [if_pos hk, List.length_cons, List.length_cons]; omega
    · rw [if_neg hk, List.length_cons, List.length_cons]; omega

theorem RelO.some_of {v : V} {o : Option Value} (r : RelO (some v) o) : ∃ u, o = some u ∧ RelV v u := by
  cases o with
  | none => exact (show False from r).elim
  | some u => exact ⟨u, rfl, r⟩
theorem RelO.none_of {o : Option Value} (r : RelO none o) : o = none := by
  cases o with
  | none => rfl
  | some u => exact (show False from r).elim
theorem handed_of {v : V} {u : Value} (r : RelV v u) : PySem.W.handedIn u = true := by
  cases v with
  | non => cases (show u = Value.none from r); rfl
  | bl b => cases (show u = Value.bool b from r); rfl
  | int i => obtain ⟨t, e⟩ := (show ∃ t, u = Value.int i t from r); cases e; rfl
  | str x => obtain ⟨t, e⟩ := (show ∃ t, u = Value.str x t from r); cases e; rfl
  | byt b => obtain ⟨t, e⟩ := (show ∃ t, u = Value.bytes b t from r); cases e; rfl
  | flt b => obtain ⟨t, e⟩ := (show ∃ t, u = Value.float b t from r); cases e; rfl
  | ref a => cases (show u = Value.ref a from r); rfl
  | ty n => cases (show u = Value.type n from r); rfl

section
variable {P : Program} {w : World} {H H' : Hp} {h h' : Heap} {a C dx : Addr} {fs fs' : List (Str × V)}
theorem ins_get (hok : HOk P w H h) (e : H a = some (.ins C dx fs)) : ∃ mA, ObjM h a dx C mA ∧ (∀ f, RelO (fs.lookup f) (mA f)) ∧ PySem.Within mA (fs.map (·.1)) ∧ fs.length ≤ 1000 ∧ H dx = some (.own a) := by
  obtain ⟨d, z, ne, ob, mA, n, r, q⟩ := (show ObjOk P w H h a (.ins C dx fs) from hok a _ e)
  exact ⟨mA, ⟨ob, n, ne⟩, r, q, z, d⟩
end

structure Cls (K : PySem.W.Frag) (C : Addr) : Prop where
  pg : PySem.W.plainGet K C Str.empty = true
  hd : PySem.W.hasDictIn K C = true
  po : PySem.W.plainOver K C = true
  sa : PySem.W.findIn K (.ref C) "__setattr__" = some (some (.builtin "object.__setattr__"))
theorem Cls.get {K : PySem.W.Frag} {C : Addr} (c : Cls K C) (f : Str) : PySem.W.plainGet K C f = true := c.pg
noncomputable def NoAttr (K : PySem.W.Frag) (C : Addr) (f : Str) : Prop := PySem.W.findIn K (.ref C) f = some none
theorem NoAttr.taker {K : PySem.W.Frag} {C : Addr} {f : Str} (n : NoAttr K C f) : PySem.W.takerIn K C f = some none := by
  unfold PySem.W.takerIn
  rw [show PySem.W.findIn K (.ref C) f = some none from n]
  rfl
structure Con (K : PySem.W.Frag) (C : Addr) (f : Str) (v : V) (u : Value) : Prop where
  at_ : PySem.W.findIn K (.ref C) f = some (some u)
  rel : RelV v u
  get : PySem.W.specialIn K u "__get__" = some none
  cp : PySem.W.copiedNames.contains f = false
structure Meth (K : PySem.W.Frag) (C : Addr) (m : Str) (f : Addr) : Prop where
  at_ : PySem.W.findIn K (.ref C) m = some (some (.ref f))
  fn : PySem.W.isFn K (.ref f) = true
  kp : PySem.W.keepIn K (.ref f) = true

section
variable {X : Cx} {pins : List (Addr × Obj)} {σ : St} {H : Hp} {s : Shared} {a C dx : Addr} {fs : List (Str × V)} {f : Str} {v : V} {A : Around} {E : Value → Shared → Prop}

theorem getattr_ok {b : Bool} {Q : Value → Shared → Prop} (I : Inv X pins σ H s) (e : H a = some (.ins C dx fs)) (c : Cls X.K C) (n : NoAttr X.K C f) (l : fs.lookup f = some v)
    (h : ∀ u s', Inv X pins σ H s' → RelV v u → Q u s') : wpAny (model X.prog X.w) A (getAttr (.ref a) f b) Q E s := by
  obtain ⟨mA, O, r, _, _, _⟩ := ins_get I.hok e
  obtain ⟨u, hu, ru⟩ := RelO.some_of (v := v) (o := mA f) (by rw [← l]; exact r f)
  exact get_map I.kIn O (c.get f) c.hd n hu (handed_of ru) (h u _ (I.tok _) ru)

theorem getmeth_ok {m : Str} {g : Addr} {pl : Sem Bool} {Q : Value × List Value → Shared → Prop} (I : Inv X pins σ H s) (e : H a = some (.ins C dx fs)) (c : Cls X.K C) (k : Meth X.K C m g) (l : fs.lookup m = none)
    (h : Q (.ref g, [.ref a]) s) : wpAny (model X.prog X.w) A (getMethod (.ref a) m pl) Q E s := by
  obtain ⟨mA, O, r, _, _, _⟩ := ins_get I.hok e
  have hn : mA m = none := RelO.none_of (by rw [← l]; exact r m)
  exact get_meth I.kIn O (c.get m) k.at_ k.fn hn h

theorem setattr_ok {y : V} {u : Value} {Q : Unit → Shared → Prop} (I : Inv X pins σ H s) (e : H a = some (.ins C dx fs)) (c : Cls X.K C) (n : NoAttr X.K C f) (hl : fs.length < 1000) (ry : RelV y u)
    (h : ∀ s', Inv X pins σ (upd H a (.ins C dx (putF f y fs))) s' → Q () s') : wpAny (model X.prog X.w) A (setAttr (.ref a) f u) Q E s := by
  obtain ⟨mA, O, r, wi, _, ho⟩ := ins_get I.hok e
  have hz : (fs.map (·.1)).length ≤ sizeLine := by rw [List.length_map, sizeLine_eq]; omega
  refine set_map I.kIn O c.sa c.po n.taker c.hd wi hz fun h' O' sb => h _ ?_
  have hd : ∃ o, h'.get? dx = some o := let ⟨o, _, _, e', _⟩ := O'.ns; ⟨o, e'⟩
  refine I.write (x := a) (e := dx) (by rw [e]; exact True.intro) (.inr ho) (fun b q hb z => (sb.2 b hb).trans z) hd ?_
  refine ⟨by rw [upd_ne O.ne]; exact ho, ?_, O.ne, O'.obj, _, O'.ns, fun g => ?_, fun g hg => ?_⟩
  · have := length_putF f y fs; omega
  · show RelO ((putF f y fs).lookup g) (if g = f then some u else mA g)
    rw [lookup_putF]
    by_cases q : g = f
    · rw [if_pos q, if_pos q]; exact ry
    · rw [if_neg q, if_neg q]; exact r g
  · by_cases q : g = f
    · rw [q]; exact (keys_putF f y fs).1
    · refine (keys_putF f y fs).2 g (wi g fun z => hg ?_)
      show (if g = f then some u else mA g) = none
      rw [if_neg q]; exact z

theorem Inv.made (I : Inv X pins σ H s) : Inv X pins σ (upd (upd H s.heap.objs.size (.own (s.heap.objs.size + 1))) (s.heap.objs.size + 1) (.ins C s.heap.objs.size []))
    { s with heap := (s.heap.push PySem.W.emptyDict).push (PySem.W.instObj C s.heap.objs.size) } := by
  have e1 : (s.heap.push PySem.W.emptyDict).get? s.heap.objs.size = some PySem.W.emptyDict := Heap.get?_push_size s.heap rfl
  have e2 : ((s.heap.push PySem.W.emptyDict).push (PySem.W.instObj C s.heap.objs.size)).get? (s.heap.objs.size + 1) = some (PySem.W.instObj C s.heap.objs.size) := by
    have := Heap.get?_push_size (s.heap.push PySem.W.emptyDict) (o := PySem.W.instObj C s.heap.objs.size) rfl
    rwa [Heap.size_push] at this
  have e3 : (s.heap.push PySem.W.emptyDict).Ns s.heap.objs.size (fun _ => none) := ⟨PySem.W.emptyDict, #[], _, e1, rfl, (fun e he => absurd he (by simp)), fun _ => rfl⟩
  have I1 := I.laid (a := s.heap.objs.size) (o := .own (s.heap.objs.size + 1)) (h' := s.heap.push PySem.W.emptyDict) (t' := s.toks) (fun b u q => Heap.get?_push_of_some _ q) (Nat.le_refl _) ⟨_, e1⟩
  refine I1.laid (a := s.heap.objs.size + 1) (o := .ins C s.heap.objs.size []) (t' := s.toks) (fun b u q => Heap.get?_push_of_some _ q) (Nat.le_of_eq (Heap.size_push _ _)) ?_
  have ne : s.heap.objs.size ≠ s.heap.objs.size + 1 := Nat.ne_of_lt (Nat.lt_succ_self _)
  refine ⟨by rw [upd_ne ne, upd_same], Nat.zero_le _, ne, e2, fun _ => none, (Heap.Ns1.of_empty e3).at fun o q => Heap.get?_push_of_some _ q, fun _ => True.intro, fun y hy => absurd rfl hy⟩

theorem attr_of {prog : Program} {w : World} {env : Env} {e : Expr} {f : Str} {pos : Pos} {s : Shared} {Q : Value → Shared → Prop} (hb : attributeBase e f env (eval e env) = eval e env)
    (h : wpAny (model prog w) A (eval e env) (fun o s₁ => wpAny (model prog w) A (getAttr o f true) Q E s₁) E s) : wpAny (model prog w) A (eval (.Attribute e f pos) env) Q E s :=
  Attribute_any_ h (by rw [arm_eval_Attribute, hb])
end

noncomputable def tFld (K : PySem.W.Frag) (ta : TE) (f : Str) : TE := fun σ H Q => ta σ H fun x H1 => ∃ a C dx fs v, x = .ref a ∧ H1 a = some (.ins C dx fs) ∧ Cls K C ∧ NoAttr K C f ∧ fs.lookup f = some v ∧ Q v H1
noncomputable def sFld (K : PySem.W.Frag) (ta tv : TE) (f : Str) : TS := fun D σ H => tv σ H fun y H1 => ta σ H1 fun x H2 => ∃ a C dx fs, x = .ref a ∧ H2 a = some (.ins C dx fs) ∧ Cls K C ∧ NoAttr K C f ∧ fs.length < 1000 ∧
  D.nx σ (upd H2 a (.ins C dx (putF f y fs)))
noncomputable def InOp (X : Cx) (op : Operator) (rd : V → V → Hp → VK → Prop) : Prop :=
  ∀ (pins : List (Addr × Obj)) (s : Shared) (σ : St) (H : Hp) (x y : V) (u v : Value) (Q : VK), Inv X pins σ H s → RelV x u → RelV y v → rd x y H Q → wpAny (model X.prog X.w) X.A (inplaceOp op u v) (EP X pins σ Q) X.xe s
noncomputable def sFldAug (K : PySem.W.Frag) (ta tv : TE) (rd : V → V → Hp → VK → Prop) (f : Str) : TS := fun D σ H => ta σ H fun x H1 => ∃ a C dx fs v, x = .ref a ∧ H1 a = some (.ins C dx fs) ∧ Cls K C ∧ NoAttr K C f ∧ fs.lookup f = some v ∧
  tv σ H1 fun y H2 => rd v y H2 fun z H3 => ∃ dx' fs', H3 a = some (.ins C dx' fs') ∧ fs'.length < 1000 ∧ D.nx σ (upd H3 a (.ins C dx' (putF f z fs')))

section
variable {X : Cx} {o e value : Expr} {f : Str} {pos pos' tpos : Pos} {ta tv : TE}
theorem pe_fld (he : PE X e ta) (hb : attributeBase e f X.env (eval e X.env) = eval e X.env) : PE X (.Attribute e f pos) (tFld X.K ta f) := by
  intro pins s σ H Q I h
  refine attr_of hb (thn (he pins s σ H _ I h) fun u s1 ⟨x, H1, I1, rx, a, C, dx, fs, v, ex, ea, c, n, l, q⟩ => ?_)
  subst ex
  obtain rfl : u = Value.ref a := rx
  exact getattr_ok I1 ea c n l fun u' s2 I2 ru => ⟨v, H1, I2, ru, q⟩
theorem ps_fld (ha : PE X o ta) (hv : PE X value tv) (hs : swapsWith value (some (.Attribute o f pos')) pos.line X.env = pure false) : PS X (.Assign [.Attribute o f pos'] value pos) (sFld X.K ta tv f) := by
  intro pins s σ H D I h
  refine plainObj_wpAny_Assign_Attribute (thn (hv pins s σ H _ I h) fun u s1 ⟨y, H1, I1, ry, q⟩ => thn (ha pins s1 σ H1 _ I1 q) fun ov s2 ⟨x, H2, I2, rx, a, C, dx, fs, ex, ea, c, n, l, q2⟩ => ?_) hs
  subst ex
  obtain rfl : ov = Value.ref a := rx
  exact setattr_ok I2 ea c n l ry fun s3 I3 => ⟨σ, _, I3, q2⟩
theorem ps_fldaug {op : Operator} {rd : V → V → Hp → VK → Prop} (ha : PE X o ta) (hv : PE X value tv) (hop : InOp X op rd) : PS X (.AugAssign (.Attribute o f tpos) op value pos) (sFldAug X.K ta tv rd f) := by
  intro pins s σ H D I h
  refine wpAny_AugAssign_AttributeAny (thn (ha pins s σ H _ I h) fun ov s1 ⟨x, H1, I1, rx, a, C, dx, fs, v, ex, ea, c, n, l, q⟩ => ?_)
  subst ex
  obtain rfl : ov = Value.ref a := rx
  refine getattr_ok I1 ea c n l fun u s2 I2 ru => thn (hv pins s2 σ H1 _ I2 q) fun w3 s3 ⟨y, H2, I3, ry, q3⟩ => thn (hop pins s3 σ H2 v y u w3 _ I3 ru ry q3) fun w4 s4 ⟨z, H3, I4, rz, dx', fs', ea', l', q4⟩ => ?_
  exact setattr_ok I4 ea' c n l' rz fun s5 I5 => ⟨σ, _, I5, q4⟩
noncomputable def rAdd : V → V → Hp → VK → Prop := fun x y H Q => ∃ i j, x = .int i ∧ y = .int j ∧ Q (.int (i + j)) H
theorem in_add : InOp X .Add rAdd := by
  rintro pins s σ H x y u v Q I rx ry ⟨i, j, rfl, rfl, q⟩
  obtain ⟨t, rfl⟩ := (show ∃ t, u = Value.int i t from rx)
  obtain ⟨t', rfl⟩ := (show ∃ t', v = Value.int j t' from ry)
  exact PyProof.Rows.iadd_int ⟨.int (i + j), H, I.tok _, ⟨_, rfl⟩, q⟩
end

section
variable {X : Cx} {pins : List (Addr × Obj)} {σ : St} {H : Hp} {s : Shared} {A : Around} {E : Value → Shared → Prop} {Q : Value → Shared → Prop} {c : Value} {b : Bool}
inductive TyOf (K : PySem.W.Frag) (H : Hp) : V → Value → Prop where
  | non : TyOf K H .non (.type "NoneType")
  | bl (x : Bool) : TyOf K H (.bl x) (.type "bool")
  | int (i : Int) : TyOf K H (.int i) (.type "int")
  | str (x : Str) : TyOf K H (.str x) (.type "str")
  | flt (x : UInt64) : TyOf K H (.flt x) (.type "float")
  | lst {a : Addr} {xs : List V} (e : H a = some (.lst xs)) : TyOf K H (.ref a) (.type "list")
  | frz {a : Addr} {o : Obj} {xs : List V} (e : H a = some (.frz o (.lst xs))) : TyOf K H (.ref a) (.type "list")
  | tup {a : Addr} {xs : List V} (e : H a = some (.tup xs)) : TyOf K H (.ref a) (.type "tuple")
  | dK {a : Addr} {kvs : List (Key × V)} (e : H a = some (.dK kvs)) : TyOf K H (.ref a) (.type "dict")
  | dT {a : Addr} {kvs : List (List Key × V)} (e : H a = some (.dT kvs)) : TyOf K H (.ref a) (.type "dict")
  | ins {a C dx : Addr} {fs : List (Str × V)} (e : H a = some (.ins C dx fs)) (cl : Cls K C) (ha : PySem.W.findIn K (.ref C) "__class__" = some (some (.builtin "object.__class__")))
      (hn : PySem.W.specialIn K (.builtin "object.__class__") "__get__" = some (some (.builtin "getset_descriptor.__get__"))) (htk : PySem.W.takesIn K (.builtin "object.__class__") = some true)
      (hm : PySem.W.mroIn K C (.type "object") = some true) : TyOf K H (.ref a) (.ref C)
theorem isinst_ok {x : V} {u t : Value} (I : Inv X pins σ H s) (rx : RelV x u) (ty : TyOf X.K H x t) (e : PySem.W.kitOne X.K t c = some b) (h : ∀ tk, Q (.bool b) { s with toks := tk }) :
    wpAny (model X.prog X.w) A (call (.builtin "isinstance") [u, c]) Q E s := by
  cases ty with
  | non => cases (show u = Value.none from rx); exact PySem.W.kia_one PySem.W.kitx_none I.kIn True.intro e (fun z => nomatch z) h
  | bl y => cases (show u = Value.bool y from rx); exact PySem.W.kia_one PySem.W.kitx_bool I.kIn True.intro e (fun z => nomatch z) h
  | int i => obtain ⟨t, q⟩ := (show ∃ t, u = Value.int i t from rx); cases q; exact PySem.W.kia_one PySem.W.kitx_int I.kIn True.intro e (fun z => nomatch z) h
  | str y => obtain ⟨t, q⟩ := (show ∃ t, u = Value.str y t from rx); cases q; exact PySem.W.kia_one PySem.W.kitx_str I.kIn True.intro e (fun z => nomatch z) h
  | flt y => obtain ⟨t, q⟩ := (show ∃ t, u = Value.float y t from rx); cases q; exact PySem.W.kia_one PySem.W.kitx_float I.kIn True.intro e (fun z => nomatch z) h
  | @lst a xs ea =>
    cases (show u = Value.ref a from rx)
    obtain ⟨_, _, n, _, h1⟩ := (show ObjOk X.prog X.w H s.heap a (.lst xs) from I.hok a _ ea)
    exact PySem.W.kia_one PySem.W.kitx_list I.kIn ⟨_, h1, rfl⟩ e (fun z => nomatch z) h
  | @frz a ob xs ea =>
    cases (show u = Value.ref a from rx)
    obtain ⟨_, _, _, n, _, h1⟩ := (show ObjOk X.prog X.w H s.heap a (.frz ob (.lst xs)) from I.hok a _ ea)
    exact PySem.W.kia_one PySem.W.kitx_list I.kIn ⟨_, h1, rfl⟩ e (fun z => nomatch z) h
  | @tup a xs ea =>
    cases (show u = Value.ref a from rx)
    obtain ⟨_, _, _, p⟩ := (show ObjOk X.prog X.w H s.heap a (.tup xs) from I.hok a _ ea)
    obtain ⟨o, h1, h2, _⟩ := p
    exact PySem.W.kia_one PySem.W.kitx_tuple I.kIn ⟨o, h1, h2⟩ e (fun z => nomatch z) h
  | @dK a kvs ea =>
    cases (show u = Value.ref a from rx)
    obtain ⟨_, _, vs, _, p⟩ := (show ObjOk X.prog X.w H s.heap a (.dK kvs) from I.hok a _ ea)
    obtain ⟨o, es, ep, h1, h2, _⟩ := p
    exact PySem.W.kia_one PySem.W.kitx_dict I.kIn ⟨o, h1, h2.1⟩ e (fun z => nomatch z) h
  | @dT a kvs ea =>
    cases (show u = Value.ref a from rx)
    obtain ⟨_, _, xs, _, o, es, ep, h1, h2, _⟩ := (show ObjOk X.prog X.w H s.heap a (.dT kvs) from I.hok a _ ea)
    exact PySem.W.kia_one PySem.W.kitx_dict I.kIn ⟨o, h1, h2.1⟩ e (fun z => nomatch z) h
  | @ins a C dx fs ea cl ha hn htk hm =>
    cases (show u = Value.ref a from rx)
    obtain ⟨mA, O, _⟩ := ins_get I.hok ea
    obtain ⟨od, J, _⟩ := O.look
    exact PySem.W.kia_one (PySem.W.kitx_own (cl.get _) cl.hd ha hn htk hm) I.kIn J e (fun z => nomatch z) h
end
end L2

namespace L2
open PySem PySem.Spec PyProof.Rows

structure Room (k : Nat) (A : Around) : Prop where
  hd : A.handled = none
  dp : A.depth + 3 * k + 5 < recursionLimit
  un : A.units + 16 * k + 200 < cLine
theorem Room.mono {j k : Nat} {A : Around} (r : Room k A) (h : j ≤ k) : Room j A := ⟨r.hd, by have := r.dp; omega, by have := r.un; omega⟩
theorem Room.deeper {k : Nat} {A : Around} (r : Room (k + 1) A) (env : Env) : Room k (A.deeper env) :=
  ⟨r.hd, by have := r.dp; show A.depth + 1 + 3 * k + 5 < _; omega, by have := r.un; show A.units + 3 + 16 * k + 200 < _; omega⟩
theorem Room.in1 {k : Nat} {A : Around} (r : Room (k + 1) A) : Room k A.in1 :=
  ⟨r.hd, by have := r.dp; show A.depth + 3 * k + 5 < _; omega, by have := r.un; show A.units + 1 + 16 * k + 200 < _; omega⟩
theorem make_depth {A : Around} {C : Addr} {us : List Value} {kw : List (Str × Value)} : (A.under (.builtin "type.__call__" ⟨.ref C :: us, kw⟩)).depth = A.depth + 1 := by
  first | rfl | simp [Around.under, Code.weight, Code.isCreation, Code.isGuard, Code.isCaller, Code.frames, Code.isFrame, guardIds]
theorem make_units {A : Around} {C : Addr} {us : List Value} {kw : List (Str × Value)} : (A.under (.builtin "type.__call__" ⟨.ref C :: us, kw⟩)).units = A.units + 1 := by
  first | rfl | simp [Around.under, Code.cUnits, Code.frames, Code.isFrame]
theorem Room.make {k : Nat} {A : Around} (r : Room (k + 1) A) (C : Addr) (us : List Value) (kw : List (Str × Value)) : Room k (A.under (.builtin "type.__call__" ⟨.ref C :: us, kw⟩)) :=
  ⟨r.hd, by have := r.dp; rw [make_depth]; omega, by have := r.un; rw [make_units]; omega⟩
theorem Room.depth {k : Nat} {A : Around} (r : Room k A) : A.depth < recursionLimit := by have := r.dp; omega
theorem Room.units {k : Nat} {A : Around} (r : Room k A) : A.units + 64 < cLine := by have := r.un; omega
noncomputable def tNil : TA := fun _ H Q => Q [] H
noncomputable def tCons (ta : TE) (tr : TA) : TA := fun σ H Q => ta σ H fun x H1 => tr σ H1 fun xs H2 => Q (x :: xs) H2
section
variable {X : Cx} {e : Expr} {es : List Expr} {te : TE} {t : TA} {pos : Pos}
theorem pa_nil : PA X [] tNil := fun _ _ _ _ H Q I h => Calls.spliced_nil ⟨[], H, I, .nil, h⟩
theorem pa_cons (ha : PE X e te) (hr : PA X es t) (hs : starEach (e :: es) X.env = (false, eval e X.env) :: starEach es X.env := by rfl) : PA X (e :: es) (tCons te t) := by
  intro pos pins s σ H Q I h
  rw [hs]
  show wpAny _ _ (spliced ((false, eval e X.env) :: backTo pos (starEach es X.env))) _ _ s
  refine Calls.spliced_cons (thn (ha pins s σ H _ I h) fun u s1 ⟨x, H1, I1, r1, q1⟩ => ?_)
  exact thn (hr pos pins s1 σ H1 _ I1 q1) fun us s2 ⟨xs, H2, I2, r2, q2⟩ => ⟨x :: xs, H2, I2, .cons r1 r2, q2⟩

noncomputable def tTup (t : TA) : TE := fun σ H Q => t σ H fun xs H1 => xs.length ≤ sizeLine ∧ ∀ p, H1 p = none → Q (.ref p) (upd H1 p (.tup xs))
noncomputable def tLst (t : TA) : TE := fun σ H Q => t σ H fun xs H1 => xs.length ≤ sizeLine ∧ ∀ p, H1 p = none → Q (.ref p) (upd H1 p (.lst xs))
theorem pe_tup {x1} (h : PA X es t) : PE X (.Tuple es x1 pos) (tTup t) := by
  intro pins s σ H Q I hq
  refine wpAny_Tuple_spliced (thn (h pos pins s σ H _ I hq) fun us s1 ⟨xs, H1, I1, r, z, q⟩ => ⟨by rw [← r.length]; exact z, ?_⟩)
  have hf : H1 s1.heap.objs.size = none := I1.hok.fresh (Nat.le_refl _)
  refine ⟨.ref s1.heap.objs.size, upd H1 s1.heap.objs.size (.tup xs), I1.laid (t' := s1.toks) (fun b u e => Heap.get?_push_of_some _ e) (Nat.le_refl _) ?_, rfl, q _ hf⟩
  exact ⟨z, us, r, ⟨_, Heap.get?_push_size _ rfl, rfl, _, rfl⟩⟩
theorem pe_lst (h : PA X es t) : PE X (.List es pos) (tLst t) := by
  intro pins s σ H Q I hq
  refine wpAny_List_spliced (thn (h pos pins s σ H _ I hq) fun us s1 ⟨xs, H1, I1, r, z, q⟩ => ⟨by rw [← r.length]; exact z, ?_⟩)
  have hf : H1 s1.heap.objs.size = none := I1.hok.fresh (Nat.le_refl _)
  refine ⟨.ref s1.heap.objs.size, upd H1 s1.heap.objs.size (.lst xs), I1.laid (t' := s1.toks) (fun b u e => Heap.get?_push_of_some _ e) (Nat.le_refl _) ?_, rfl, q _ hf⟩
  exact ⟨z, us, 0, r, Heap.get?_push_size _ rfl⟩
end

noncomputable abbrev Sp := List V → Hp → VK → XK → Prop
noncomputable abbrev CXT := List Env → Hp → Shared → XK → Value → Shared → Prop

structure Env0 (P : Program) (w : World) (K : PySem.W.Frag) (mg : Str → Option Value) (base : Heap) (A : Around) (outer : List Env) (s : Shared) (H : Hp) : Prop where
  frames : A.frames = some outer
  mod : Mod K mg base
  bs : ∀ b o, base.get? b = some o → s.heap.get? b = some o ∧ H b = none
  bsz : base.objs.size ≤ s.heap.objs.size
  funs : s.heap.FunFrames base outer
  frf : ∀ b ∈ frs outer, H b = none
  hok : HOk P w H s.heap
  bare : AllBare s.gens
noncomputable def CE (outer : List Env) (P : Program) (w : World) (H : Hp) (s : Shared) (Q : VK) (u : Value) (s' : Shared) : Prop :=
  ∃ v H', s'.os = s.os ∧ AllBare s'.gens ∧ Un (frs outer) [] H H' s.heap s'.heap ∧ HOk P w H' s'.heap ∧ RelV v u ∧ Q v H'
noncomputable def CR (CX : CXT) (outer : List Env) (P : Program) (w : World) (H : Hp) (s : Shared) (Q : VK) (E : XK) (r : Result) (s' : Shared) : Prop :=
  match r with
  | .ok (.ret u) => CE outer P w H s Q u s'
  | .ok _ => False
  | .error e => CX outer H s E e s'
structure FnOk (P : Program) (w : World) (K : PySem.W.Frag) (mg : Str → Option Value) (base : Heap) (CX : CXT) (k : Nat) (f : Addr) (fd : FuncData) (ps : List Str) (sp : Sp) : Prop where
  len : ∀ vs H Q E, sp vs H Q E → vs.length = ps.length
  run : ∀ (A : Around) (outer : List Env) (s : Shared) (H : Hp) (args : Args) (us : List Value) (vs : List V) (Q : VK) (E : XK), Room k A → Env0 P w K mg base A outer s H → BindsTo s fd args (ps.zip us) → Vals vs us → sp vs H Q E →
    codeAny (model P w) A (.call (.ref f) args) (CR CX outer P w H s Q E) s
theorem FnOk.mono {P : Program} {w : World} {K : PySem.W.Frag} {mg : Str → Option Value} {base : Heap} {CX : CXT} {j k : Nat} {f : Addr} {fd : FuncData} {ps : List Str} {sp : Sp} (F : FnOk P w K mg base CX j f fd ps sp) (h : j ≤ k) :
    FnOk P w K mg base CX k f fd ps sp := ⟨F.len, fun A outer s H args us vs Q E hr => F.run A outer s H args us vs Q E (hr.mono h)⟩
theorem Env0.make {P : Program} {w : World} {K : PySem.W.Frag} {mg : Str → Option Value} {base : Heap} {A : Around} {outer : List Env} {s : Shared} {H : Hp} (e : Env0 P w K mg base A outer s H) (C : Addr) (us : List Value) (kw : List (Str × Value)) :
    Env0 P w K mg base (A.under (.builtin "type.__call__" ⟨.ref C :: us, kw⟩)) outer s H := ⟨by first | exact e.frames | (simpa [Around.under, Code.envs, Code.isFrame, pushEnvs] using e.frames), e.mod, e.bs, e.bsz, e.funs, e.frf, e.hok, e.bare⟩
theorem Env0.in1 {P : Program} {w : World} {K : PySem.W.Frag} {mg : Str → Option Value} {base : Heap} {A : Around} {outer : List Env} {s : Shared} {H : Hp} (e : Env0 P w K mg base A outer s H) :
    Env0 P w K mg base A.in1 outer s H := ⟨e.frames, e.mod, e.bs, e.bsz, e.funs, e.frf, e.hok, e.bare⟩

section
variable {X : Cx} {pins : List (Addr × Obj)} {σ : St} {H : Hp} {s s' : Shared}
theorem Inv.env0 (I : Inv X pins σ H s) : Env0 X.prog X.w X.K X.mg X.base X.A X.stack s H :=
  ⟨I.ok.frames, I.ok.mod, I.bs, Nat.le_trans I.ok.bsz I.sz, I.stack, I.stkFree, I.hok, I.bare⟩
theorem Inv.after {Q : VK} {u : Value} (I : Inv X pins σ H s) (h : CE X.stack X.prog X.w H s Q u s') : EP X pins σ Q u s' := by
  obtain ⟨v, H', os, bare, un, hok, r, q⟩ := h
  obtain ⟨hh, g, d, t, os'⟩ := s'
  obtain rfl : os' = s.os := os
  exact ⟨v, H', I.call (h' := hh) (g' := g) (d' := d) (t' := t) (ch := []) un hok bare (fun b z => absurd z (by simp)), r, q⟩
end

noncomputable def tCall (sp : Sp) (dvs : List V) (E : XK) (t : TA) : TE := fun σ H Q => t σ H fun vs H1 => sp (vs ++ dvs) H1 Q E
noncomputable def Binds (K : PySem.W.Frag) (fd : FuncData) (ps : List Str) (ds : List Value) : Prop :=
  ∀ (s : Shared) (us : List Value), K.In s.heap → (us ++ ds).length = ps.length → BindsTo s fd ⟨us, []⟩ (ps.zip (us ++ ds))
theorem Binds.all {K : PySem.W.Frag} {fd : FuncData} {ps : List Str} (h : ∀ us : List Value, us.length = ps.length → bindArgs fd ⟨us, []⟩ = pure (ps.zip us)) : Binds K fd ps [] := fun s us _ hl => by
  rw [List.append_nil] at hl ⊢
  exact .of_eq (h us hl)

noncomputable def Passes (CX : CXT) (X : Cx) (E : XK) : Prop := ∀ (pins : List (Addr × Obj)) (σ : St) (H : Hp) (s : Shared) (e : Value) (s' : Shared), Inv X pins σ H s → CX X.stack H s E e s' → X.xe e s'

section
variable {X : Cx} {CX : CXT} {k : Nat} {f C : Addr} {fd : FuncData} {ps : List Str} {sp : Sp} {dvs : List V} {ds : List Value} {E : XK} {x m : Str} {p pos apos : Pos} {e o : Expr} {es : List Expr} {ta : TE} {t : TA}

theorem run_fn {pins : List (Addr × Obj)} {σ : St} {H : Hp} {s : Shared} {Q : VK} {us : List Value} {vs : List V} (F : FnOk X.prog X.w X.K X.mg X.base CX k f fd ps sp) (hr : Room k X.A) (hb : Binds X.K fd ps ds) (hd : Vals dvs ds) (hx : Passes CX X E)
    (I : Inv X pins σ H s) (r : Vals vs us) (h : sp (vs ++ dvs) H Q E) : wpAny (model X.prog X.w) X.A (call (.ref f) us) (EP X pins σ Q) X.xe s := by
  have r2 : Vals (vs ++ dvs) (us ++ ds) := r.append hd
  have hl : (us ++ ds).length = ps.length := by rw [← r2.length]; exact F.len _ _ _ _ h
  refine wpAny_call (codeAny_mono (F.run X.A X.stack s H ⟨us, []⟩ (us ++ ds) (vs ++ dvs) Q E hr I.env0 (hb s us I.kIn hl) r2 h) fun r s' hq => ?_)
  cases r with
  | error e => exact hx pins σ H s e s' I hq
  | ok fl =>
    cases fl with
    | ret u => exact I.after hq
    | next => exact False.elim hq
    | brk => exact False.elim hq
    | cont => exact False.elim hq

theorem pe_call (F : FnOk X.prog X.w X.K X.mg X.base CX k f fd ps sp) (hr : Room k X.A) (hg : Gl X x) (hm : X.mg x = some (.ref f)) (hk : PySem.W.keepIn X.K (.ref f) = true) (hb : Binds X.K fd ps ds) (hd : Vals dvs ds) (hx : Passes CX X E)
    (ha : PA X (e :: es) t) (hdb : (x == ("__debug__" : Str)) = false := by decide) (he : starEach (e :: es) X.env = (false, eval e X.env) :: starEach es X.env := by rfl) (hpl : (backTo pos (starEach es X.env)).any (·.1) = false := by rfl) :
    PE X (.Call (.Name x p) (e :: es) [] pos) (tCall sp dvs E t) := by
  intro pins s σ H Q I h
  refine wpAny_Call_Name_kw (ld_glob I hg hm ?_ hdb)
  refine PySem.W.callWith_K (h₀ := X.base) I.ok.mod.kin hk (thn (ha pos pins s σ H _ I h) fun us s1 ⟨vs, H1, I1, r, q⟩ => ⟨I1.kIn, ?_⟩) he hpl
  exact run_fn F hr hb hd hx I1 r q
structure Mk (K : PySem.W.Frag) (C f : Addr) : Prop where
  makes : PySem.W.makesIn K C = true
  init : PySem.W.findIn K (.ref C) "__init__" = some (some (.ref f))
  fn : PySem.W.isFn K (.ref f) = true
  kp : PySem.W.keepIn K (.ref C) = true

end

section
variable {X : Cx} {CX : CXT} {k : Nat} {f C : Addr} {fd : FuncData} {ps ks : List Str} {sp : Sp} {E : XK} {x m : Str} {p pos apos kpos : Pos} {e o : Expr} {es : List Expr} {kws : List Keyword} {te ta : TE} {t tk : TA} {nm : Option Str}
structure KBinds (K : PySem.W.Frag) (fd : FuncData) (ps ks : List Str) (g : List Value → List Value → List Value) (gV : List V → List V → List V) : Prop where
  to : ∀ (s : Shared) (us ws : List Value), K.In s.heap → (g us ws).length = ps.length → BindsTo s fd ⟨us, ks.zip ws⟩ (ps.zip (g us ws))
  rel : ∀ {vs : List V} {us : List Value} {zs : List V} {ws : List Value}, Vals vs us → Vals zs ws → Vals (gV vs zs) (g us ws)
variable {g : List Value → List Value → List Value} {gV : List V → List V → List V}
end

structure FnScope (N P : List Str) (sc : Scope) : Prop where
  kind : sc.kind = .function
  co : sc.isCoroutine = false
  gen : sc.isGenerator = false
  nd : N.Nodup
  pre : N.take P.length = P
  par : ∀ x ∈ P, sc.names.lookup x = some .local ∨ sc.names.lookup x = some .cell
  nofree : ∀ y ∈ sc.names, y.2 ≠ .free

theorem bindL_out {kindOf : Str → Option NameKind} {x : Str} : ∀ {binds : List (Str × Value)} {m : Str → Option Value}, (∀ v, (x, v) ∉ binds) → bindL kindOf binds m x = m x
  | [], _, _ => rfl
  | (n, v) :: r, m, h => by
    unfold bindL
    rw [bindL_out fun w hw => h w (List.mem_cons_of_mem _ hw)]
    split
    · have : x ≠ n := by rintro rfl; exact h v List.mem_cons_self
      simp [this]
    · rfl
theorem bindC_out {kindOf : Str → Option NameKind} {x : Str} : ∀ {binds : List (Str × Value)} {m : Str → Option Value}, (∀ v, (x, v) ∉ binds) → bindC kindOf binds m x = m x
  | [], _, _ => rfl
  | (n, v) :: r, m, h => by
    unfold bindC
    rw [bindC_out fun w hw => h w (List.mem_cons_of_mem _ hw)]
    split
    · rfl
    · have : x ≠ n := by rintro rfl; exact h v List.mem_cons_self
      simp [this]
theorem bindL_get {kindOf : Str → Option NameKind} {x : Str} {v : Value} : ∀ {P : List Str} {vs : List Value} {i : Nat} {m : Str → Option Value}, P.Nodup → P[i]? = some x → vs[i]? = some v → kindOf x = some .local →
    bindL kindOf (P.zip vs) m x = some v
  | [], _, _, _, _, h, _, _ => by simp at h
  | _ :: _, [], _, _, _, _, h, _ => by simp at h
  | p :: P, w :: vs, 0, m, nd, h1, h2, hk => by
    simp at h1 h2; subst h1; subst h2
    show bindL kindOf ((p, w) :: P.zip vs) m p = _
    unfold bindL
    rw [bindL_out fun v hv => (List.nodup_cons.mp nd).1 (List.of_mem_zip hv).1, if_pos hk]
    simp
  | p :: P, w :: vs, i + 1, m, nd, h1, h2, hk => by
    show bindL kindOf ((p, w) :: P.zip vs) m x = _
    unfold bindL
    exact bindL_get (i := i) (List.nodup_cons.mp nd).2 (by simpa using h1) (by simpa using h2) hk
theorem bindC_get {kindOf : Str → Option NameKind} {x : Str} {v : Value} : ∀ {P : List Str} {vs : List Value} {i : Nat} {m : Str → Option Value}, P.Nodup → P[i]? = some x → vs[i]? = some v → kindOf x ≠ some .local →
    bindC kindOf (P.zip vs) m x = some v
  | [], _, _, _, _, h, _, _ => by simp at h
  | _ :: _, [], _, _, _, _, h, _ => by simp at h
  | p :: P, w :: vs, 0, m, nd, h1, h2, hk => by
    simp at h1 h2; subst h1; subst h2
    show bindC kindOf ((p, w) :: P.zip vs) m p = _
    unfold bindC
    rw [bindC_out fun v hv => (List.nodup_cons.mp nd).1 (List.of_mem_zip hv).1, if_neg hk]
    simp
  | p :: P, w :: vs, i + 1, m, nd, h1, h2, hk => by
    show bindC kindOf ((p, w) :: P.zip vs) m x = _
    unfold bindC
    exact bindC_get (i := i) (List.nodup_cons.mp nd).2 (by simpa using h1) (by simpa using h2) hk

noncomputable def start (N : List Str) (vs : List V) : St := vs.map some ++ List.replicate (N.length - vs.length) none

noncomputable def cxOf (CX : CXT) (P : Program) (w : World) (K : PySem.W.Frag) (mg : Str → Option Value) (base : Heap) (N : List Str) (qual : Str) (scope : Scope) (f : Addr) (cd : Value) (A : Around) (outer : List Env) (s : Shared) (H : Hp) (E : XK) : Cx where
  prog := P
  w := w
  K := K
  mg := mg
  base := base
  A := A.deeper (envOfC qual scope s.heap.objs.size f cd)
  N := N
  s₀ := s
  H₀ := H
  env := envOfC qual scope s.heap.objs.size f cd
  outer := outer
  stack := envOfC qual scope s.heap.objs.size f cd :: outer
  ex := []
  calm := true
  fn := fun _ => true
  pn := []
  xe := fun e s' => wpAny (model P w) (A.deeper (envOfC qual scope s.heap.objs.size f cd)) (leaving (envOfC qual scope s.heap.objs.size f cd) e) (fun _ s'' => CX outer H s E e s'') (fun e' s'' => CX outer H s E e' s'') s'

theorem cell_has {sc : Scope} {n : Nat} {x : Str} (h : sc.names.lookup x = some .cell) : ∃ c, (cellsFrom n sc.names []).lookup x = some c := by
  have q := PySem.W.cellsFrom_some sc.names n [] (.inl h)
  exact Option.isSome_iff_exists.mp q

theorem inv_start {CX : CXT} {P : Program} {w : World} {K : PySem.W.Frag} {mg : Str → Option Value} {base : Heap} {N ps : List Str} {qual : Str} {scope : Scope} {f : Addr} {cd : Value} {A : Around} {outer : List Env} {s s1 : Shared} {H : Hp} {E : XK} {us : List Value} {vs : List V}
    (S : FnScope N ps scope) (hd : A.handled = none) (e0 : Env0 P w K mg base A outer s H) (hl : vs.length = ps.length) (r : Vals vs us)
    (x : InCallC s s.heap.objs.size (bindL (envOfC qual scope s.heap.objs.size f cd).kindOf (ps.zip us) fun _ => none) (cellsFrom (s.heap.objs.size + 1) scope.names []) (bindC (envOfC qual scope s.heap.objs.size f cd).kindOf (ps.zip us) fun _ => none) s1) :
    Inv (cxOf CX P w K mg base N qual scope f cd A outer s H E) [] (start N vs) H s1 := by
  have hpl : ps.length ≤ N.length := by have := congrArg List.length S.pre; rw [List.length_take] at this; omega
  obtain ⟨h1, tk, rfl, hk⟩ := x.done
  have noA : ∀ b : Addr, b ∉ (cxOf CX P w K mg base N qual scope f cd A outer s H E).ex := fun b z => absurd (show b ∈ ([] : List Addr) from z) (by simp)
  refine ⟨⟨e0.mod, S.kind, rfl, rfl, Nat.le_refl _, fun y z c h1 h2 => ?_, fun y hy => ?_, fun y c _ h => ?_, fun _ => hd, Around.frames_deeper e0.frames, .inr ⟨rfl, rfl⟩, fun b z => absurd z (noA b), e0.bs, e0.bsz, fun b _ _ => noA b, fun b z => absurd z (noA b), e0.funs, e0.frf⟩,
    rfl, e0.bare, Un.kept hk, ⟨_, x.toInCall.ns, fun i y v h1 h2 h3 => ?_⟩, fun y c h => ⟨_, x.cell y c h⟩, e0.hok.fresh (Nat.le_refl _), fun y c h => ?_, fun p hp => absurd (show p ∈ ([] : List (Addr × Obj)) from hp) (by simp), e0.hok.kept hk, ?_⟩
  · exact name_of_addr x.apart (PySem.mem_of_lookup h1) (PySem.mem_of_lookup h2)
  · have hy : scope.names.lookup y = some .cell ∨ scope.names.lookup y = some .free := hy
    rcases hy with hy | hy
    · exact cell_has hy
    · exact absurd rfl (S.nofree _ (PySem.mem_of_lookup hy))
  · exact Nat.le_of_lt (x.above y c (PySem.mem_of_lookup h))
  · have hi : i < vs.length := by
      unfold start at h2
      by_cases hi : i < vs.length
      · exact hi
      · rw [List.getElem?_append_right (by simpa using hi)] at h2
        rw [List.getElem?_replicate] at h2
        split at h2 <;> cases h2
    have ha : vs[i]? = some v := by
      unfold start at h2
      rw [List.getElem?_append_left (by simpa using hi), List.getElem?_map] at h2
      cases e : vs[i]? with
      | none => rw [e] at h2; cases h2
      | some a => rw [e] at h2; cases h2; rfl
    obtain ⟨u, hu, rv⟩ := r.get ha
    have hp : ps[i]? = some y := by
      rw [← S.pre, List.getElem?_take_of_lt (by omega)]; exact h1
    have ndP : ps.Nodup := by rw [← S.pre]; exact S.nd.sublist (List.take_sublist _ _)
    refine ⟨u, rv, ?_⟩
    rcases S.par y (List.mem_of_getElem? hp) with k | k
    · exact .inl ⟨k, bindL_get ndP hp hu k⟩
    · obtain ⟨c, e⟩ := cell_has (n := s.heap.objs.size + 1) k
      refine .inr ⟨.inl k, c, e, ?_⟩
      have q := x.cell y c e
      rw [bindC_get ndP hp hu (by show scope.names.lookup y ≠ _; rw [k]; decide)] at q
      exact q
  · exact e0.hok.fresh (Nat.le_of_lt (x.above y c (PySem.mem_of_lookup h)))
  · unfold start
    show _ = N.length
    rw [List.length_append, List.length_map, List.length_replicate]
    omega

theorem fn_of {CX : CXT} {P : Program} {w : World} {K : PySem.W.Frag} {mg : Str → Option Value} {base : Heap} {k : Nat} {f : Addr} {name qual : Str} {params : Arguments} {body : List Stmt} {scope : Scope} {dV kV doc pm cdv ct oc : Value} {an od : Option Addr}
    {osl : Array (Option Value)} {N ps : List Str} {sp : Sp} (lk : K.lookup f = some ⟨oc, od, .func (PySem.W.fnOf name qual params body scope dV kV doc pm an cdv ct), osl⟩) (hcd : PySem.W.codeIn K cdv qual = true) (S : FnScope N ps scope)
    (len : ∀ vs H Q E, sp vs H Q E → vs.length = ps.length)
    (hbody : ∀ (A : Around) (outer : List Env) (s : Shared) (H : Hp) (vs : List V) (Q : VK) (E : XK), Room k (A.deeper (envOfC qual scope s.heap.objs.size f cdv)) → sp vs H Q E →
      ∃ t, PSs (cxOf CX P w K mg base N qual scope f cdv A outer s H E) body t ∧ t { nx := fun _ H' => Q .non H', rt := Q } (start N vs) H) :
    FnOk P w K mg base CX (k + 1) f (PySem.W.fnOf name qual params body scope dV kV doc pm an cdv ct) ps sp := by
  refine ⟨len, fun A outer s H args us vs Q E hr e0 hb r hsp => ?_⟩
  have hl := len _ _ _ _ hsp
  have KX : K.In s.heap := e0.mod.kin.keeps fun b o e => (e0.bs b o e).1
  have lim : s.heap.NoLimit := e0.mod.nolimit.keeps fun b o e => (e0.bs b o e).1
  have hkind : ∀ y ∈ ps.zip us, scope.names.lookup y.1 = some .local ∨ (scope.names.lookup y.1 = some .cell ∧ ((cellsFrom (s.heap.objs.size + 1) scope.names []).lookup y.1).isSome = true) := fun ⟨n, v⟩ hy => by
    rcases S.par n (List.of_mem_zip hy).1 with q | q
    · exact .inl q
    · exact .inr ⟨q, PySem.W.cellsFrom_some _ _ _ (.inl q)⟩
  refine codeAny_call_function hr.depth (KX _ _ lk) rfl S.co S.gen rfl (PySem.W.codeRec_of KX hcd) (hb _ _ _ _ ?_)
  refine wpAny_newFunctionEnv_cells S.kind hkind fun env he s1 x => ?_
  subst he
  refine ⟨lim.keeps x.toInCall.keep, codeAny_func ?_⟩
  obtain ⟨t, ht, hq⟩ := hbody A outer s H vs Q E (hr.deeper _) hsp
  have I : Inv (cxOf CX P w K mg base N qual scope f cdv A outer s H E) [] (start N vs) H s1 := inv_start S hr.hd e0 hl r x
  refine wpAny_mono (ht [] s1 (start N vs) H _ I hq) (fun fl s' hs => ?_) fun e s' hs => hs
  have fin : ∀ {σ' : St} {H' : Hp} {v : V} {u : Value}, Inv (cxOf CX P w K mg base N qual scope f cdv A outer s H E) [] σ' H' s' → RelV v u → Q v H' → CE outer P w H s Q u s' :=
    fun {σ' H' v u} J rv q => ⟨v, H', J.os, J.bare, J.base, J.hok, rv, q⟩
  cases fl with
  | ret u =>
    obtain ⟨v, σ', H', J, rv, q⟩ := hs
    exact fin J rv q
  | next =>
    obtain ⟨σ', H', J, q⟩ := hs
    exact fin (v := V.non) (u := Value.none) J rfl q
  | brk =>
    obtain ⟨_, _, _, q⟩ := hs
    exact False.elim q
  | cont =>
    obtain ⟨_, _, _, q⟩ := hs
    exact False.elim q
end L2

namespace L2
open PySem PySem.Spec PyProof.Rows
section
variable {X : Cx} {x : Str} {p pos : Pos} {e : Expr} {es : List Expr} {t : TA} {id T : String} {r : List V → Hp → VK → Prop}

noncomputable def tCB (r : List V → Hp → VK → Prop) (t : TA) : TE := fun σ H Q => t σ H fun vs H1 => r vs H1 Q
theorem pe_callB (hc : CallR X (.builtin id) r) (hg : Gl X x) (hm : X.mg x = none) (hv : bootBuiltins x = some (.builtin id)) (ha : PA X (e :: es) t) (hn : x ≠ "__name__" := by decide) (hdb : (x == ("__debug__" : Str)) = false := by decide)
    (he : starEach (e :: es) X.env = (false, eval e X.env) :: starEach es X.env := by rfl) (hpl : (backTo pos (starEach es X.env)).any (·.1) = false := by rfl) : PE X (.Call (.Name x p) (e :: es) [] pos) (tCB r t) := by
  intro pins s σ H Q I h
  refine wpAny_Call_Name_kw (ld_blt I hg hm hv ?_ hn hdb)
  exact PyProof.Rows.callWith_builtin1 (thn (ha pos pins s σ H _ I h) fun us s1 ⟨vs, H1, I1, r1, q1⟩ => hc pins s1 σ H1 vs us Q I1 r1 q1) he hpl
theorem pe_callTy (hc : CallR X (.type T) r) (hg : Gl X x) (hm : X.mg x = none) (hv : bootBuiltins x = some (.type T)) (ha : PA X (e :: es) t) (hn : x ≠ "__name__" := by decide) (hdb : (x == ("__debug__" : Str)) = false := by decide)
    (he : starEach (e :: es) X.env = (false, eval e X.env) :: starEach es X.env := by rfl) (hpl : (backTo pos (starEach es X.env)).any (·.1) = false := by rfl) : PE X (.Call (.Name x p) (e :: es) [] pos) (tCB r t) := by
  intro pins s σ H Q I h
  refine wpAny_Call_Name_kw (ld_blt I hg hm hv ?_ hn hdb)
  exact PyProof.Rows.callWith_type1 (thn (ha pos pins s σ H _ I h) fun us s1 ⟨vs, H1, I1, r1, q1⟩ => hc pins s1 σ H1 vs us Q I1 r1 q1) he hpl
end
end L2

namespace HT
open PySem PyProof.Rows

noncomputable def lexLt : List Int → List Int → Bool
  | [], [] => false
  | [], _ :: _ => true
  | _ :: _, [] => false
  | x :: xs, y :: ys => if x = y then lexLt xs ys else decide (x < y)
theorem lexLt_cons (x y : Int) (xs ys : List Int) : lexLt (x :: xs) (y :: ys) = if x = y then lexLt xs ys else decide (x < y) := rfl
theorem lexLt_nil_nil : lexLt [] [] = false := rfl
theorem lexLt_nil_cons (y : Int) (ys : List Int) : lexLt [] (y :: ys) = true := rfl
theorem lexLt_cons_nil (x : Int) (xs : List Int) : lexLt (x :: xs) [] = false := rfl

theorem eqAt_int (A : Around) (s : Shared) (a : Int) (t : Tok) (c : Int) (u : Tok) : ∃ e, SeqAt.EqAt A s (.int a t) (.int c u) e ∧ (e = true ↔ a = c) :=
  ⟨(a == c), SeqAt.EqAt.int_int a t c u, by simp⟩
theorem rcLt_int (A : Around) (s : Shared) (a : Int) (t : Tok) (c : Int) (u : Tok) (prog : Program) (w : World) (E : Value → Shared → Prop) (Q : Value → Shared → Prop) (h : Q (.bool (decide (a < c))) s) :
    wpAny (model prog w) A (richCompare .Lt (.int a t) (.int c u)) Q E s :=
  (PyProof.Rows.lt_int h : wpAny (model prog w) A (compareOp .Lt (.int a t) (.int c u)) Q E s)

section
open PySem.SeqAt
open PySem.AutoSeq1 (wpAny_loadPart')
open PySem.MeetsSeq PySem.MeetsSeq2 PySem.MeetsSeq3

theorem tuple_lt_ints (l b : Addr) (items items2 : Array Value) (n n2 : Nat) (dd dd2 : Option Addr) (sl sl2 : Array (Option Value)) (ns ms : List Int) (hi : IntsAre items.toList ns) (hj : IntsAre items2.toList ms) :
    Meets (Builtin.«tuple.__lt__» ⟨[.ref l, .ref b], []⟩)
      (fun _ R s => s.heap.get? l = some { cls := .type "tuple", dict := dd, data := .seq items n, slots := sl } ∧ s.heap.get? b = some { cls := .type "tuple", dict := dd2, data := .seq items2 n2, slots := sl2 } ∧
        R (.ok (.ret (.bool (lexLt ns ms)))) s) :=
  .of_wp fun prog w A R s h => by
    obtain ⟨hp, g, d, tk, os⟩ := s; obtain ⟨hl, hb, h⟩ := h
    have f2 := AutoSeq1.sub_tuple_tuple
    have z1 : items.size = ns.length := by rw [← hi.length]; simp
    have z2 : items2.size = ms.length := by rw [← hj.length]; simp
    wp_walk using wpAny_loadPart' hl, wpAny_loadPart' hb, wpAny_forIn_list _ (fun rest b s' => b.1 = none ∧ s' = ⟨hp, g, d, tk, os⟩ ∧ ∃ (vs ws : List Value) (ns' ms' : List Int), rest = vs.zip ws ∧
      IntsAre vs ns' ∧ IntsAre ws ms' ∧ ns'.length + items2.size = ms'.length + items.size ∧ R (.ok (.ret (.bool (lexLt ns' ms')))) ⟨hp, g, d, tk, os⟩) _
    case turn =>
      rintro ⟨y, x⟩ rest b s' ⟨hb', rfl, vs, ws, ns', ms', hz, hvi, hwi, hlen, hR⟩
      cases hvi with
      | nil => rw [List.zip_nil_left] at hz; cases hz
      | cons a t hvi' =>
        cases hwi with
        | nil => rw [List.zip_nil_right] at hz; cases hz
        | cons c u hwi' =>
          rw [List.zip_cons_cons] at hz
          injection hz with hyx hrest
          injection hyx with hy hx
          subst hy hx
          rw [lexLt_cons] at hR
          simp only [List.length_cons] at hlen
          obtain ⟨e, he, hiff⟩ := eqAt_int A.in1 ⟨hp, g, d, tk, os⟩ a t c u
          refine wpAny_bind (he prog w _ _ ?_)
          cases e with
          | true =>
            rw [if_pos (hiff.mp rfl)] at hR
            wp_walk
            exact ⟨rfl, rfl, _, _, _, _, hrest, hvi', hwi', by omega, hR⟩
          | false =>
            rw [if_neg (fun q => absurd (hiff.mpr q) Bool.false_ne_true)] at hR
            have hri := rcLt_int A.in1 ⟨hp, g, d, tk, os⟩ a t c u prog w
            wp_walk using hri
            exact ⟨_, rfl, by simpa using hR⟩
    case fin =>
      rintro ⟨b1, b2⟩ s' ⟨hb', rfl, vs, ws, ns', ms', hz, hvi, hwi, hlen, hR⟩
      simp only at hb'
      subst hb'
      have hv : lexLt ns' ms' = decide (items.size < items2.size) := by
        cases hvi with
        | nil =>
          cases hwi with
          | nil =>
            simp only [List.length_nil] at hlen
            rw [lexLt_nil_nil]
            exact (decide_eq_false (by omega)).symm
          | cons c u hw =>
            simp only [List.length_nil, List.length_cons] at hlen
            rw [lexLt_nil_cons]
            exact (decide_eq_true (by omega)).symm
        | cons a t hv =>
          cases hwi with
          | nil =>
            simp only [List.length_nil, List.length_cons] at hlen
            rw [lexLt_cons_nil]
            exact (decide_eq_false (by omega)).symm
          | cons c u hw =>
            rw [List.zip_cons_cons] at hz
            cases hz
      rw [hv] at hR
      wp_walk
      exact ⟨_, rfl, by simpa [Builtin.Tuple.tupleCompareSizes] using hR⟩
    case h =>
      exact ⟨rfl, rfl, items.toList, items2.toList, ns, ms, rfl, hi, hj, by omega, h⟩
end

section
variable {prog : Program} {w : World} {A : Around} {E : Value → Shared → Prop} {s : Shared}

theorem lt_tupInts {l b : Addr} {items items2 : Array Value} {ns ms : List Int} {Q : Value → Shared → Prop} (hl : IsTup s.heap l items) (hb : IsTup s.heap b items2) (hi : IntsAre items.toList ns) (hj : IntsAre items2.toList ms)
    (hu : A.units < cLine) (h : Q (.bool (lexLt ns ms)) s) : wpAny (model prog w) A (compareOp .Lt (.ref l) (.ref b)) Q E s := by
  obtain ⟨⟨cls, dd, data, sl⟩, ho, hc, n, hd⟩ := id hl
  obtain ⟨⟨cls2, dd2, data2, sl2⟩, ho2, hc2, n2, hd2⟩ := id hb
  simp only at hc hd hc2 hd2
  subst hc hd hc2 hd2
  exact richCompare_meets_room (op := .Lt) ⟨_, ho, rfl⟩ ⟨_, ho2, rfl⟩ PySem.F.slot_tuple_lt PySem.F.entry_tuple_lt (PySem.F.args_tuple_lt_2 _ _) (tuple_lt_ints l b items items2 n n2 dd dd2 sl sl2 ns ms hi hj)
    ⟨ho, ho2, show Value.bool (lexLt ns ms) ≠ Value.notImplemented ∧ Q (.bool (lexLt ns ms)) s from ⟨(fun x => nomatch x), h⟩⟩ hu

noncomputable def sIx (n d : Nat) : Option Int → Nat
  | none => d
  | some v => if v < 0 then (v + (n : Int)).toNat else min v.toNat n
theorem sIx_nat (n d k : Nat) : sIx n d (some (k : Int)) = min k n := by
  show (if (k : Int) < 0 then ((k : Int) + (n : Int)).toNat else min (k : Int).toNat n) = min k n
  rw [if_neg (by omega), Int.toNat_natCast]
end
end HT

namespace L2
open PySem PySem.Spec PyProof.Rows

noncomputable abbrev TO := St → Hp → (Option Int → Hp → Prop) → Prop
noncomputable def PO (X : Cx) (e : Option Expr) (t : TO) : Prop :=
  ∀ (pins : List (Addr × Obj)) (s : Shared) (σ : St) (H : Hp) (Q : Option Int → Hp → Prop), Inv X pins σ H s → t σ H Q →
    wpAny (model X.prog X.w) X.A (evalPart e X.env) (fun u s' => ∃ o H', Inv X pins σ H' s' ∧ IsPart u o ∧ Q o H') X.xe s
noncomputable def tNoPart : TO := fun _ H Q => Q none H
noncomputable def tPart (t : TE) : TO := fun σ H Q => t σ H fun x H1 => ∃ i, x = .int i ∧ Q (some i) H1

theorem intsAre_of {ns : List Int} : ∀ {us : List Value}, Vals (ns.map V.int) us → IntsAre us ns := by
  induction ns with
  | nil => intro us r; rw [List.map_nil] at r; cases r; exact .nil
  | cons n ns ih =>
    intro us r
    rw [List.map_cons] at r
    cases r with
    | cons r1 r2 =>
      obtain ⟨t, e⟩ := r1
      subst e
      exact .cons n t (ih r2)

section
variable {X : Cx} {e : Expr} {te : TE} {lo hi : Option Expr} {tl th : TO} {pos p2 : Pos}

theorem po_none : PO X none tNoPart := by
  intro pins s σ H Q I h
  rw [evalPart_none]
  exact wpAny_pure ⟨none, H, I, .none, h⟩
theorem po_some (h : PE X e te) : PO X (some e) (tPart te) := by
  intro pins s σ H Q I hw
  rw [evalPart_some]
  refine thn (h pins s σ H _ I hw) fun u s1 ⟨x, H1, I1, r1, q1⟩ => ?_
  obtain ⟨i, rfl, q⟩ := q1
  obtain ⟨t, rfl⟩ := r1
  exact ⟨some i, H1, I1, .int i t, q⟩

noncomputable def SlR (X : Cx) (r : V → Option Int → Option Int → Hp → VK → Prop) : Prop :=
  ∀ (pins : List (Addr × Obj)) (s : Shared) (σ : St) (H : Hp) (x : V) (v vl vu : Value) (lo hi : Option Int) (sl : Addr) (Q : VK), Inv X pins σ H s → RelV x v → s.heap.IsSliceOf sl vl vu .none → IsPart vl lo → IsPart vu hi → r x lo hi H Q →
    ∃ T id, typeLookup (.type T) "__getitem__" = pure (some (.builtin id)) ∧ s.TypeIs v T ∧ wpAny (model X.prog X.w) X.A (getItem v (.ref sl)) (EP X pins σ Q) X.xe s
noncomputable def tSl (r : V → Option Int → Option Int → Hp → VK → Prop) (te : TE) (tl th : TO) : TE := fun σ H Q => te σ H fun x H1 => tl σ H1 fun l H2 => th σ H2 fun u H3 => r x l u H3 Q
theorem pe_slice {r : V → Option Int → Option Int → Hp → VK → Prop} (hr : SlR X r) (he : PE X e te) (hl : PO X lo tl) (hu : PO X hi th) : PE X (.Subscript e (.Slice lo hi none p2) pos) (tSl r te tl th) := by
  intro pins s σ H Q I h
  refine Subscript_ (thn (he pins s σ H _ I h) fun v s1 ⟨x, H1, I1, r1, q1⟩ => ?_)
  refine wpAny_Slice (thn (hl pins s1 σ H1 _ I1 q1) fun vl s2 ⟨l, H2, I2, pl, q2⟩ => thn (hu pins s2 σ H2 _ I2 q2) fun vu s3 ⟨u, H3, I3, pu, q3⟩ => ?_)
  rw [evalPart_none]
  refine wpAny_pure ?_
  have I4 : Inv X pins σ H3 { s3 with heap := s3.heap.push { cls := .type "slice", data := .fields #[vl, vu, .none] } } := I3.kept (t' := s3.toks) fun b ob q => Heap.get?_push_of_some _ q
  obtain ⟨T, id, hT, ht, hg⟩ := hr pins { s3 with heap := s3.heap.push { cls := .type "slice", data := .fields #[vl, vu, .none] } } σ H3 x v vl vu l u s3.heap.objs.size Q I4 r1 (Heap.IsSliceOf.new ..) pl pu q3
  show wpAny (model X.prog X.w) X.A (subscriptTail e (.Slice lo hi none p2) v (.ref s3.heap.objs.size)) (EP X pins σ Q) X.xe { s3 with heap := s3.heap.push { cls := .type "slice", data := .fields #[vl, vu, .none] } }
  exact tail_any (ops := [.ref s3.heap.objs.size, v]) ht hT hg (by with_unfolding_all rfl)

noncomputable def cutV (xs : List V) (lo hi : Option Int) : List V := (xs.drop (HT.sIx xs.length 0 lo)).take (HT.sIx xs.length xs.length hi - HT.sIx xs.length 0 lo)
theorem cutV_length (xs : List V) (lo hi : Option Int) : (cutV xs lo hi).length ≤ xs.length := by
  unfold cutV
  rw [List.length_take, List.length_drop]
  omega
noncomputable def rLtT (K : PySem.W.Frag) : R2 := fun x y H Q => ∃ a b ns ms, x = .ref a ∧ y = .ref b ∧ SqT K H a (ns.map V.int) ∧ SqT K H b (ms.map V.int) ∧ Q (.bl (HT.lexLt ns ms)) H
theorem op_ltT (hu : X.A.units < cLine) : OpR X (compareOp .Lt) (rLtT X.K) := by
  intro pins s σ H x y v u Q I rx ry h
  obtain ⟨a, b, ns, ms, rfl, rfl, ha, hb, q⟩ := h
  cases rx
  cases ry
  obtain ⟨its, r1, p1, _⟩ := I.tuple ha
  obtain ⟨its2, r2, p2, _⟩ := I.tuple hb
  have i1 : IntsAre its.toArray.toList ns := intsAre_of r1
  have i2 : IntsAre its2.toArray.toList ms := intsAre_of r2
  exact HT.lt_tupInts p1 p2 i1 i2 hu ⟨.bl (HT.lexLt ns ms), H, I, rfl, q⟩
end
end L2

namespace L2
open PySem PySem.Spec PyProof.Rows

noncomputable def ixN (n : Nat) (i : Int) : Option Nat := if 0 ≤ i then (if i < n then some i.toNat else none) else if -(n : Int) ≤ i then some (i + n).toNat else none
noncomputable def atI {α : Type} (xs : List α) (i : Int) : Option α := (ixN xs.length i).bind fun j => xs[j]?
theorem ixN_seq {n : Nat} {i : Int} {j : Nat} (h : ixN n i = some j) : seqIndex? i n = some j ∧ j < n ∧ -(n : Int) ≤ i ∧ i < n := by
  unfold ixN at h
  by_cases h0 : 0 ≤ i
  · rw [if_pos h0] at h
    by_cases h1 : i < n
    · rw [if_pos h1] at h
      have e : i.toNat = j := Option.some.inj h
      exact ⟨by rw [seqIndex_of h0 h1, e], by omega, by omega, h1⟩
    · rw [if_neg h1] at h; cases h
  · rw [if_neg h0] at h
    by_cases h1 : -(n : Int) ≤ i
    · rw [if_pos h1] at h
      have e : (i + n).toNat = j := Option.some.inj h
      exact ⟨by rw [seqIndex_neg (by omega) h1, e], by omega, h1, by omega⟩
    · rw [if_neg h1] at h; cases h
theorem atI_get {α : Type} {xs : List α} {i : Int} {v : α} (h : atI xs i = some v) : ∃ j, seqIndex? i xs.length = some j ∧ xs[j]? = some v ∧ j < xs.length ∧ -(xs.length : Int) ≤ i ∧ i < xs.length := by
  unfold atI at h
  cases e : ixN xs.length i with
  | none => rw [e] at h; cases h
  | some j =>
    rw [e] at h
    obtain ⟨h1, h2, h3, h4⟩ := ixN_seq e
    exact ⟨j, h1, h, h2, h3, h4⟩
theorem atI_nat {α : Type} {xs : List α} {j : Nat} {v : α} (h : xs[j]? = some v) : atI xs (j : Int) = some v := by
  have hj : j < xs.length := (List.getElem?_eq_some_iff.mp h).1
  have e : ixN xs.length (j : Int) = some j := by
    unfold ixN
    rw [if_pos (by omega), if_pos (by omega)]; simp
  unfold atI; rw [e]; exact h
noncomputable def PlainIx (b : Expr) : Prop := ∀ o i, subscripted b false o i = operate [o, i] (getItem o i)
noncomputable def IxR (X : Cx) (r : R2) : Prop :=
  ∀ (value slice : Expr) (pins : List (Addr × Obj)) (s : Shared) (σ : St) (H : Hp) (x y : V) (v u : Value) (Q : VK), Inv X pins σ H s → RelV x v → RelV y u → r x y H Q →
    subscripted slice false v u = operate [v, u] (getItem v u) → wpAny (model X.prog X.w) X.A (subscriptTail value slice v u) (EP X pins σ Q) X.xe s
noncomputable def MtR (X : Cx) (id : String) (r : V → List V → Hp → VK → Prop) : Prop :=
  ∀ (pins : List (Addr × Obj)) (s : Shared) (σ : St) (H : Hp) (x : V) (xs : List V) (v : Value) (us : List Value) (Q : VK), Inv X pins σ H s → RelV x v → Vals xs us → r x xs H Q →
    wpAny (model X.prog X.w) X.A (call (.builtin id) (v :: us)) (EP X pins σ Q) X.xe s
section
variable {X : Cx} {a b : Expr} {ta tb : TE} {pos : Pos}
theorem pe_ix {r : R2} (hr : IxR X r) (ha : PE X a ta) (hb : PE X b tb) (hs : PlainIx b) : PE X (.Subscript a b pos) (tOp r ta tb) := by
  intro pins s σ H Q I h
  exact Subscript_ (binT ha hb I h fun v u s2 x y H2 I2 rx ry q => hr a b pins s2 σ H2 x y v u Q I2 rx ry q (hs _ _))

noncomputable def rIxL (K : PySem.W.Frag) : R2 := fun x y H Q => ∃ p xs i v, x = .ref p ∧ y = .int i ∧ SqL K H p xs ∧ atI xs i = some v ∧ Q v H
noncomputable def rIxT (K : PySem.W.Frag) : R2 := fun x y H Q => ∃ p xs i v, x = .ref p ∧ y = .int i ∧ SqT K H p xs ∧ atI xs i = some v ∧ Q v H
noncomputable def rIxS : R2 := fun x y H Q => ∃ z i c, x = .str z ∧ y = .int i ∧ z.length ≤ sizeLine ∧ atI z.cps.toList i = some c ∧ Q (.str ⟨#[c]⟩) H
theorem ix_list : IxR X (rIxL X.K) := by
  intro value slice pins s σ H x y v u Q I rx ry h hs
  obtain ⟨p, xs, i, z, rfl, rfl, hq, he, q⟩ := h
  cases rx
  obtain ⟨t, rfl⟩ := ry
  obtain ⟨its, r, pl, hz⟩ := I.list hq
  obtain ⟨j, h1, h2, h3, h4, h5⟩ := atI_get he
  obtain ⟨w, ew, rw'⟩ := r.get h2
  have hl := r.length
  have hn := line63
  have fin : EP X pins σ Q w s := ⟨z, H, I, rw', q⟩
  by_cases h0 : 0 ≤ i
  · have hj : i.toNat = j := by
      rw [seqIndex_of h0 h5] at h1
      exact Option.some.inj h1
    exact item_listR pl.isList h0 (by omega) (by rw [hj]; simpa using ew) fin hs
  · have hj : (i + (its.toArray.size : Int)).toNat = j := by
      rw [seqIndex_neg (by omega) h4] at h1
      rw [List.size_toArray, ← hl]
      exact Option.some.inj h1
    exact subscriptTail_builtinR (x := w) pl.isList.typeIs slot_list_getitem.lookup
      (wpAny_getItem_list_neg (Q := fun r s' => r = w ∧ EP X pins σ Q r s') pl.isList (by omega) (by rw [List.size_toArray] <;> omega) (by omega) (by rw [hj]; simpa using ew) ⟨rfl, fin⟩) hs
theorem ix_tup : IxR X (rIxT X.K) := by
  intro value slice pins s σ H x y v u Q I rx ry h hs
  obtain ⟨p, xs, i, z, rfl, rfl, hq, he, q⟩ := h
  cases rx
  obtain ⟨t, rfl⟩ := ry
  obtain ⟨its, r, pl, hz⟩ := I.tuple hq
  obtain ⟨j, h1, h2, h3, h4, h5⟩ := atI_get he
  obtain ⟨w, ew, rw'⟩ := r.get h2
  have hl := r.length
  have hn := line63
  have fin : EP X pins σ Q w s := ⟨z, H, I, rw', q⟩
  exact subscriptTail_builtinR (x := w) pl.typeIs slot_tuple_getitem.lookup
    (getItem_tuple (j := j) (Q := fun r s' => r = w ∧ EP X pins σ Q r s') pl (by omega) (by omega) (by rw [List.size_toArray, ← hl]; exact h1) (by simpa using ew) ⟨rfl, fin⟩) hs
theorem ix_str : IxR X rIxS := by
  intro value slice pins s σ H x y v u Q I rx ry h hs
  obtain ⟨z, i, c, rfl, rfl, hz, he, q⟩ := h
  obtain ⟨t, rfl⟩ := rx
  obtain ⟨t', rfl⟩ := ry
  obtain ⟨j, h1, h2, h3, h4, h5⟩ := atI_get he
  have hl : z.cps.toList.length = z.length := by simp [Str.length]
  rw [hl] at h1 h4 h5
  have hn := line63
  exact tail_any (typeIs_str s z t) slot_str_getitem.lookup (getItem_str (c := c) (by
    have e1 : decide (i < -(2 ^ 63 : Int)) = false := decide_eq_false (by omega)
    have e2 : decide (i ≥ 2 ^ 63) = false := decide_eq_false (by omega)
    rw [e1, e2, Bool.or_false]) (by rw [h1]; simpa using h2) ⟨.str ⟨#[c]⟩, H, I.tok _, ⟨_, rfl⟩, q⟩) hs
noncomputable def rSetL : V → V → V → Hp → (Hp → Prop) → Prop := fun o i v H Q => ∃ p xs k j, o = .ref p ∧ i = .int k ∧ H p = some (.lst xs) ∧ ixN xs.length k = some j ∧ Q (upd H p (.lst (xs.set j v)))
theorem slice_bounds (lo hi : Option Int) (n : Nat) : (sliceBounds lo hi none n).1 = ((HT.sIx n 0 lo : Nat) : Int) ∧ (sliceBounds lo hi none n).2.1 = ((HT.sIx n n hi : Nat) : Int) ∧ (sliceBounds lo hi none n).2.2 = 1 := by
  refine ⟨?_, ?_, rfl⟩
  · cases lo with
    | none => simp [sliceBounds, HT.sIx]
    | some i =>
      simp only [sliceBounds, HT.sIx, Option.getD_none, show (1 : Int) > 0 by decide, if_true]
      by_cases h : i < 0
      · simp only [h, if_true] <;> omega
      · simp only [h, if_false] <;> omega
  · cases hi with
    | none => simp [sliceBounds, HT.sIx]
    | some i =>
      simp only [sliceBounds, HT.sIx, Option.getD_none, show (1 : Int) > 0 by decide, if_true]
      by_cases h : i < 0
      · simp only [h, if_true] <;> omega
      · simp only [h, if_false] <;> omega
theorem slicePick_cut (its : List Value) (lo hi : Option Int) : slicePick its.toArray lo hi none = ((its.drop (HT.sIx its.length 0 lo)).take (HT.sIx its.length its.length hi - HT.sIx its.length 0 lo)).toArray := by
  obtain ⟨h1, h2, h3⟩ := slice_bounds lo hi its.toArray.size
  unfold slicePick
  rw [h1, h2, h3]
  simp only [sliceRange_one, pick_run, List.size_toArray] <;> rfl
noncomputable def rSlL (K : PySem.W.Frag) : V → Option Int → Option Int → Hp → VK → Prop := fun x lo hi H Q => ∃ a xs, x = .ref a ∧ SqL K H a xs ∧ ∀ p, H p = none → Q (.ref p) (upd H p (.lst (cutV xs lo hi)))
theorem sl_list : SlR X (rSlL X.K) := by
  intro pins s σ H x v vl vu lo hi sl Q I rx hs pl pu h
  obtain ⟨a, xs, rfl, hx, q⟩ := h
  cases rx
  obtain ⟨its, r, ht, hz⟩ := I.list hx
  have hlen := r.length
  refine ⟨"list", _, slot_list_getitem.lookup, ht.isList.typeIs, ?_⟩
  refine wpAny_getItem_list_slice ht.isList hs pl pu .none (by simp) ?_ (by rw [List.size_toArray] <;> omega)
  rw [slicePick_cut, ← hlen]
  refine ⟨.ref s.heap.objs.size, _, I.laid (t' := s.toks) (o := .lst (cutV xs lo hi)) (fun b ob q => Heap.get?_push_of_some _ q) (Nat.le_refl _) ?_, rfl, q _ (I.hok.fresh (Nat.le_refl _))⟩
  exact ⟨Nat.le_trans (cutV_length xs lo hi) hz, _, 0, (r.drop (HT.sIx xs.length 0 lo)).take (HT.sIx xs.length xs.length hi - HT.sIx xs.length 0 lo), Heap.get?_push_size _ rfl⟩

noncomputable def flatV : V → Bool
  | .non => true
  | .bl _ => true
  | .int _ => true
  | .str _ => true
  | _ => false
noncomputable def eqV : V → V → Bool
  | .non, .non => true
  | .bl a, .bl b => a == b
  | .bl a, .int b => (if a then 1 else 0) == b
  | .int a, .bl b => a == (if b then 1 else 0)
  | .int a, .int b => a == b
  | .str a, .str b => a == b
  | _, _ => false
theorem eqAt_V {A : Around} {s : Shared} {y x : V} {u v : Value} (ry : RelV y u) (rx : RelV x v) (fy : flatV y = true) (fx : flatV x = true) : SeqAt.EqAt A s u v (eqV y x) := by
  cases y with
  | non =>
    cases ry
    cases x with
    | non => cases rx; exact SeqAt.EqAt.same _
    | bl b => cases rx; exact SeqAt.EqAt.none_bool b
    | int b => obtain ⟨t, rfl⟩ := rx; exact SeqAt.EqAt.none_int b t
    | str b => obtain ⟨t, rfl⟩ := rx; exact SeqAt.EqAt.none_str b t
    | _ => exact absurd (show false = true from fx) Bool.false_ne_true
  | bl a =>
    cases ry
    cases x with
    | non => cases rx; exact SeqAt.EqAt.bool_none a
    | bl b => cases rx; exact SeqAt.EqAt.bool_bool a b
    | int b => obtain ⟨t, rfl⟩ := rx; exact SeqAt.EqAt.bool_int a b t
    | str b => obtain ⟨t, rfl⟩ := rx; exact SeqAt.EqAt.bool_str a b t
    | _ => exact absurd (show false = true from fx) Bool.false_ne_true
  | int a =>
    obtain ⟨t', rfl⟩ := ry
    cases x with
    | non => cases rx; exact SeqAt.EqAt.int_none a t'
    | bl b => cases rx; exact SeqAt.EqAt.int_bool a t' b
    | int b => obtain ⟨t, rfl⟩ := rx; exact SeqAt.EqAt.int_int a t' b t
    | str b => obtain ⟨t, rfl⟩ := rx; exact SeqAt.EqAt.int_str a t' b t
    | _ => exact absurd (show false = true from fx) Bool.false_ne_true
  | str a =>
    obtain ⟨t', rfl⟩ := ry
    cases x with
    | non => cases rx; exact SeqAt.EqAt.str_none a t'
    | bl b => cases rx; exact SeqAt.EqAt.str_bool a t' b
    | int b => obtain ⟨t, rfl⟩ := rx; exact SeqAt.EqAt.str_int a t' b t
    | str b => obtain ⟨t, rfl⟩ := rx; exact SeqAt.EqAt.str_str a t' b t
    | _ => exact absurd (show false = true from fx) Bool.false_ne_true
  | _ => exact absurd (show false = true from fy) Bool.false_ne_true
noncomputable def eqU (x : V) (u : Value) : Bool := match u with
  | .none => eqV .non x
  | .bool b => eqV (.bl b) x
  | .int i _ => eqV (.int i) x
  | .str z _ => eqV (.str z) x
  | _ => false
theorem eqU_of {x y : V} {u : Value} (r : RelV y u) (f : flatV y = true) : eqU x u = eqV y x := by
  cases y with
  | non => cases r; rfl
  | bl b => cases r; rfl
  | int i => obtain ⟨t, rfl⟩ := r; rfl
  | str z => obtain ⟨t, rfl⟩ := r; rfl
  | _ => exact absurd (show false = true from f) Bool.false_ne_true
theorem any_eqU {x : V} : ∀ {xs : List V} {us : List Value}, Vals xs us → xs.all flatV = true → us.any (eqU x) = xs.any fun y => eqV y x
  | _, _, .nil, _ => rfl
  | y :: xs, u :: us, .cons r t, f => by
    rw [List.all_cons, Bool.and_eq_true] at f
    rw [List.any_cons, List.any_cons, eqU_of r f.1, any_eqU t f.2]
theorem mem_eqAt {A : Around} {s : Shared} {x : V} {v : Value} (rx : RelV x v) (fx : flatV x = true) : ∀ {xs : List V} {us : List Value}, Vals xs us → xs.all flatV = true → ∀ u ∈ us, SeqAt.EqAt A s u v (eqU x u)
  | _, _, .nil, _ => fun u hu => by cases hu
  | y :: xs, u :: us, .cons r t, f => fun u' hu => by
    rw [List.all_cons, Bool.and_eq_true] at f
    rcases List.mem_cons.mp hu with rfl | hu
    · rw [eqU_of r f.1]; exact eqAt_V r rx f.1 fx
    · exact mem_eqAt rx fx t f.2 u' hu
noncomputable def inV (x : V) (xs : List V) : Bool := xs.any fun y => eqV y x
noncomputable def rIn (K : PySem.W.Frag) (neg : Bool) : R2 := fun x y H Q => ∃ p xs, y = .ref p ∧ (SqL K H p xs ∨ SqT K H p xs) ∧ flatV x = true ∧ xs.all flatV = true ∧ Q (.bl (if neg then !inV x xs else inV x xs)) H
theorem op_notIn_seq : OpR X (compareOp .NotIn) (rIn X.K true) := by
  intro pins s σ H x y v u Q I rx ry h
  obtain ⟨p, xs, rfl, hq, fx, fs, q⟩ := h
  cases ry
  rcases hq with hq | hq
  · obtain ⟨its, r, pl, hz⟩ := I.list hq
    refine SeqAt.notIn_listAt (eqU x) pl.isList (fun w hw => mem_eqAt rx fx r fs w (by simpa using hw)) ⟨.bl _, H, I, rfl, ?_⟩
    rw [show its.toArray.any (eqU x) = its.any (eqU x) by simp, any_eqU r fs]
    exact q
  · obtain ⟨its, r, pl, hz⟩ := I.tuple hq
    refine SeqAt.notIn_tupleAt (eqU x) pl (fun w hw => mem_eqAt rx fx r fs w (by simpa using hw)) ⟨.bl _, H, I, rfl, ?_⟩
    rw [show its.toArray.any (eqU x) = its.any (eqU x) by simp, any_eqU r fs]
    exact q
theorem call_len_seq : CallR X (.builtin "len") (fun xs H Q => ∃ p ys, xs = [.ref p] ∧ (SqL X.K H p ys ∨ SqT X.K H p ys) ∧ Q (.int ys.length) H) := by
  intro pins s σ H xs us Q I r h
  obtain ⟨p, ys, rfl, hq, q⟩ := h
  obtain ⟨u, rfl, rx⟩ := vals1 r
  cases rx
  have hn := line63
  rcases hq with hq | hq
  · obtain ⟨its, r', pl, hz⟩ := I.list hq
    have hlen := r'.length
    exact Calls.call_len_list pl.isList (by simp only [List.size_toArray] <;> omega) ⟨.int ys.length, H, I.tok _, ⟨s.toks + 1, by rw [List.size_toArray, hlen]⟩, q⟩
  · obtain ⟨its, r', pl, hz⟩ := I.tuple hq
    have hlen := r'.length
    exact len_tuple pl (by simp only [List.size_toArray] <;> omega) ⟨.int ys.length, H, I.tok _, ⟨s.toks + 1, by rw [List.size_toArray, hlen]⟩, q⟩
theorem call_len_str : CallR X (.builtin "len") (fun xs H Q => ∃ z, xs = [.str z] ∧ z.length ≤ sizeLine ∧ Q (.int z.length) H) := by
  intro pins s σ H xs us Q I r h
  obtain ⟨z, rfl, hz, q⟩ := h
  obtain ⟨u, rfl, t, rfl⟩ := vals1 r
  have hn := line63
  exact len_str (by omega) ⟨.int z.length, H, I.tok _, ⟨_, rfl⟩, q⟩
theorem call_list_of : CallR X (.type "list") (fun xs H Q => ∃ p ys, xs = [.ref p] ∧ (SqL X.K H p ys ∨ SqT X.K H p ys) ∧ ∀ l, H l = none → Q (.ref l) (upd H l (.lst ys))) := by
  intro pins s σ H xs us Q I r h
  obtain ⟨p, ys, rfl, hq, q⟩ := h
  obtain ⟨u, rfl, rx⟩ := vals1 r
  cases rx
  have fin : ∀ (its : List Value), Vals ys its → ys.length ≤ sizeLine → ∀ (h' : Heap) (c' : Nat), (∀ b o', s.heap.get? b = some o' → h'.get? b = some o') →
      h'.get? s.heap.objs.size = some { cls := .type "list", dict := none, data := .seq its.toArray c', slots := #[] } → EP X pins σ Q (.ref s.heap.objs.size) { s with heap := h' } := fun its r' hz h' c' kp e =>
    ⟨.ref s.heap.objs.size, _, I.laid (t' := s.toks) kp (Nat.le_refl _) (show ObjOk X.prog X.w _ h' _ (.lst ys) from ⟨hz, its, c', r', e⟩), rfl, q _ (I.hok.fresh (Nat.le_refl _))⟩
  rcases hq with hq | hq
  · obtain ⟨its, r', pl, hz⟩ := I.list hq
    have hlen := r'.length
    obtain ⟨o, ho, hc, n, hd⟩ := pl.isList
    exact call_list_seq p (.inl rfl) ho hc hd (fun h' c' kp e => fin its r' hz h' c' kp e) (by simp only [List.size_toArray] <;> omega)
  · obtain ⟨its, r', pl, hz⟩ := I.tuple hq
    have hlen := r'.length
    obtain ⟨o, ho, hc, n, hd⟩ := pl
    exact call_list_seq p (.inr rfl) ho hc hd (fun h' c' kp e => fin its r' hz h' c' kp e) (by simp only [List.size_toArray] <;> omega)
noncomputable def tyV (K : PySem.W.Frag) (T : String) (x : V) (H : Hp) : Prop := match x with
  | .str _ => T = "str"
  | .int _ => T = "int"
  | .ref p => (T = "list" ∧ ∃ xs, SqL K H p xs) ∨ (T = "tuple" ∧ ∃ o, K.lookup p = some o ∧ o.cls = .type "tuple" ∧ o.dict = none) ∨
      (T = "dict" ∧ ((∃ kvs, H p = some (.dK kvs)) ∨ ∃ kvs, H p = some (.dT kvs))) ∨ (T = "set" ∧ ∃ S n, H p = some (.set S n))
  | _ => False
theorem tyV_is {pins : List (Addr × Obj)} {σ : St} {H : Hp} {s : Shared} {T : String} {x : V} {v : Value} (I : Inv X pins σ H s) (r : RelV x v) (ty : tyV X.K T x H) :
    s.TypeIs v T ∧ ∀ a, v = .ref a → ∃ ob, s.heap.get? a = some ob ∧ ob.dict = none := by
  cases x with
  | str z =>
    obtain ⟨t, rfl⟩ := r
    cases (show T = "str" from ty)
    exact ⟨typeIs_str s z t, fun _ e => nomatch e⟩
  | int i =>
    obtain ⟨t, rfl⟩ := r
    cases (show T = "int" from ty)
    exact ⟨typeIs_int s i t, fun _ e => nomatch e⟩
  | ref p =>
    cases r
    rcases ty with ⟨rfl, xs, hq⟩ | ⟨rfl, o, hk, hc, hd⟩ | ⟨rfl, hk⟩ | ⟨rfl, S, n, hk⟩
    · obtain ⟨its, _, pl, _⟩ := I.list hq
      refine ⟨pl.isList.typeIs, fun a e => ?_⟩
      cases e
      obtain ⟨o, n, e, c, hd, _⟩ := pl
      exact ⟨o, e, hd⟩
    · refine ⟨⟨o, I.kIn p o hk, hc⟩, fun a e => ?_⟩
      cases e
      exact ⟨o, I.kIn _ o hk, hd⟩
    · have z : ∃ o, s.heap.get? p = some o ∧ o.ExactDict := by
        rcases hk with ⟨kvs, hk⟩ | ⟨kvs, hk⟩
        · obtain ⟨_, _, _, _, o, _, _, e, ex, _⟩ := I.hok p _ hk
          exact ⟨o, e, ex⟩
        · obtain ⟨_, _, _, _, o, _, _, e, ex, _⟩ := I.hok p _ hk
          exact ⟨o, e, ex⟩
      obtain ⟨o, e, ex⟩ := z
      refine ⟨⟨o, e, ex.1⟩, fun a e2 => ?_⟩
      cases e2
      exact ⟨o, e, ex.2.1⟩
    · obtain ⟨o, _, _, _, e, ex, _⟩ := I.hok p _ hk
      refine ⟨⟨o, e, ex.1⟩, fun a e2 => ?_⟩
      cases e2
      exact ⟨o, e, ex.2.1⟩
  | _ => exact False.elim ty
noncomputable def tBM0 (K : PySem.W.Frag) (T : String) (r : V → List V → Hp → VK → Prop) (to : TE) : TE := fun σ H Q => to σ H fun x H1 => tyV K T x H1 ∧ r x [] H1 Q
noncomputable def tBM (K : PySem.W.Frag) (T : String) (r : V → List V → Hp → VK → Prop) (to : TE) (t : TA) : TE := fun σ H Q => to σ H fun x H1 => tyV K T x H1 ∧ t σ H1 fun xs H2 => r x xs H2 Q
variable {o e : Expr} {es : List Expr} {to : TE} {t : TA} {name : Str} {apos cpos : Pos} {T id : String} {r : V → List V → Hp → VK → Prop}
theorem pe_bm (pa : PlainAttrs T) (slot : Slot T name id) (hty : typeOf (.builtin id) = pure (.type "method_descriptor")) (hm : MtR X id r) (ho : PE X o to) (ha : PA X (e :: es) t)
    (hbase : attributeBase o name X.env (eval o X.env) = eval o X.env := by rfl)
    (hfew : ((backTo cpos (starEach (e :: es) X.env)).all (fun x => !x.1) && (backToKw cpos (keywordEach [] X.env)).all (fun x => x.1.isSome)
      && decide ((e :: es).length + ([] : List Keyword).length + (if ([] : List Keyword).isEmpty then 0 else 1) < 30)) = true := by rfl)
    (hline : (apos.endLine == cpos.line) = true := by rfl) (hs : starEach (e :: es) X.env = (false, eval e X.env) :: starEach es X.env := by rfl) (hplain : (backTo cpos (starEach es X.env)).any (·.1) = false := by rfl) :
    PE X (.Call (.Attribute o name apos) (e :: es) [] cpos) (tBM X.K T r to t) := by
  intro pins s σ H Q I h
  refine wpAny_Call_method_late hbase hfew hline rfl (thn (ho pins s σ H _ I h) fun v s1 ⟨x, H1, I1, r1, ty, q1⟩ => ?_)
  obtain ⟨h1, h2⟩ := tyV_is I1 r1 ty
  refine ⟨T, id, pa, slot, hty, h1, h2, ?_⟩
  have hA := ha cpos pins s1 σ H1 _ I1 q1
  rw [hs] at hA ⊢
  refine Calls.callWith_builtin (by show (false || (backTo cpos (starEach es X.env)).any (·.1)) = false; rw [hplain] <;> rfl) (Calls.evalArgs_plain ?_)
  exact thn hA fun us s2 ⟨vs, H2, I2, r2, q2⟩ => hm pins s2 σ H2 x vs v us Q I2 r1 r2 q2
end
end L2

namespace L2
open PySem PySem.Spec PyProof.Rows

noncomputable def MtM (X : Cx) (id : String) (r : V → List V → Hp → VK → Prop) : Prop :=
  ∀ (pins : List (Addr × Obj)) (s : Shared) (σ : St) (H : Hp) (x : V) (xs : List V) (v : Value) (us : List Value) (Q : VK), Inv X pins σ H s → RelV x v → Vals xs us → r x xs H Q →
    wpAny (model X.prog X.w) X.A (call (.builtin id) (v :: us)) (EP X pins σ Q) X.xe s

theorem Vals.one : ∀ {x : V} {us : List Value}, Vals [x] us → ∃ u, us = [u] ∧ RelV x u
  | _, _, .cons r .nil => ⟨_, rfl, r⟩
theorem Vals.eraseIdx : ∀ {xs : List V} {us : List Value} (i : Nat), Vals xs us → Vals (xs.eraseIdx i) (us.eraseIdx i)
  | _, _, _, .nil => .nil
  | _, _, 0, .cons _ t => t
  | _, _, i + 1, .cons r t => .cons r (Vals.eraseIdx i t)
section
variable {X : Cx} {pins : List (Addr × Obj)} {σ : St} {H : Hp} {s : Shared} {l b : Addr} {xs ys zs : List V}

theorem Inv.lset {its its' : List Value} {n : Nat} {f : Array Value → Array Value} {t' : Nat} (I : Inv X pins σ H s) (hH : H l = some (.lst xs))
    (e : s.heap.get? l = some { cls := .type "list", data := .seq its.toArray n }) (hf : f its.toArray = its'.toArray) (hv : Vals ys its') (hz : ys.length ≤ sizeLine) :
    Inv X pins σ (upd H l (.lst ys)) { s with heap := s.heap.update l (Obj.mapSeq f), toks := t' } := by
  have q := PySem.IsL.update e f
  rw [hf] at q
  refine I.write (x := l) (e := l) (by rw [hH]; exact trivial) (.inl rfl) (fun b' u hb hu => (Heap.get?_update_other s.heap (Obj.mapSeq f) (Ne.symm hb)).trans hu) ⟨_, q⟩ ?_
  exact ⟨hz, its', _, hv, q⟩
theorem Inv.lnew {its : List Value} {t' : Nat} (I : Inv X pins σ H s) (hv : Vals ys its) (hz : ys.length ≤ sizeLine) :
    Inv X pins σ (upd H s.heap.objs.size (.lst ys)) { s with heap := s.heap.push { cls := .type "list", data := .seq its.toArray }, toks := t' } :=
  I.laid (fun _ _ q => Heap.get?_push_of_some _ q) (Nat.le_refl _) ⟨hz, its, 0, hv, Heap.get?_push_size _ rfl⟩
theorem Inv.fresh (I : Inv X pins σ H s) : H s.heap.objs.size = none := I.hok.fresh (Nat.le_refl _)
theorem Inv.lstM (I : Inv X pins σ H s) (hH : H l = some (.lst xs)) : xs.length ≤ sizeLine ∧ ∃ (its : List Value) (n : Nat), Vals xs its ∧ xs.length = its.length ∧ s.heap.get? l = some { cls := .type "list", data := .seq its.toArray n } := by
  obtain ⟨z, its, n, r, e⟩ := I.hok l _ hH
  exact ⟨z, its, n, r, r.length, e⟩

end

section
variable {X : Cx}

noncomputable def rAppend : V → List V → Hp → VK → Prop := fun x vs H Q => ∃ l xs y, x = .ref l ∧ vs = [y] ∧ H l = some (.lst xs) ∧ xs.length < sizeLine ∧ Q .non (upd H l (.lst (xs ++ [y])))
theorem mt_append : MtM X "list.append" rAppend := by
  intro pins s σ H x vs v us Q I rx rv h
  obtain ⟨l, xs, y, rfl, rfl, hH, hz, q⟩ := h
  cases rx
  obtain ⟨u, rfl, ru⟩ := rv.one
  obtain ⟨z, its, n, r, hl, e⟩ := I.lstM hH
  refine call_meets F.slot_list_append ⟨_, e, rfl⟩ F.entry_list_append (F.args_list_append_2 _ _) (PySem.list_append l its.toArray n u (by rw [List.size_toArray]; omega)) ⟨e, ?_⟩
  refine ⟨.non, _, I.lset (its' := its ++ [u]) hH e (by simp) (r.append (.cons ru .nil)) ?_, rfl, q⟩
  rw [List.length_append, List.length_singleton]
  omega

noncomputable def rPopAt : V → List V → Hp → VK → Prop := fun x vs H Q => ∃ l xs i k y, x = .ref l ∧ vs = [.int i] ∧ H l = some (.lst xs) ∧ -(2 ^ 63) ≤ i ∧ i < 2 ^ 63 ∧ seqIndex? i xs.length = some k ∧ xs[k]? = some y ∧ Q y (upd H l (.lst (xs.eraseIdx k)))
noncomputable def rCat : R2 := fun x y H Q => ∃ l b xs zs, x = .ref l ∧ y = .ref b ∧ H l = some (.lst xs) ∧ H b = some (.lst zs) ∧ xs.length + zs.length ≤ sizeLine ∧ ∀ p, H p = none → Q (.ref p) (upd H p (.lst (xs ++ zs)))
theorem op_cat : OpR X (binaryOp .Add) rCat := by
  intro pins s σ H x y v u Q I rx ry h
  obtain ⟨l, b, xs, zs, rfl, rfl, hH, hB, hz, q⟩ := h
  cases rx
  cases ry
  obtain ⟨z, its, n, r, hl, e⟩ := I.lstM hH
  obtain ⟨z2, its2, n2, r2, hl2, e2⟩ := I.lstM hB
  refine PySem.P.add_list e e2 ?_ (by rw [List.size_toArray, List.size_toArray]; omega)
  have ea : its.toArray ++ its2.toArray = (its ++ its2).toArray := by simp
  rw [ea]
  exact ⟨.ref _, _, I.lnew (t' := s.toks) (r.append r2) (by rw [List.length_append]; omega), rfl, q _ I.fresh⟩
end

section
variable {prog : Program} {w : World} {A : Around} {E : Value → Shared → Prop} {s : Shared}
end

section
variable {X : Cx}
end
end L2

namespace Att
open PySem PySem.W PySem.Calls PyProof.Rows

theorem ints_of_wellAll {P : Params} {h : Heap} : ∀ (ns : List Int) (vs : List Value), WellAll P h vs (ns.map WData.int) → IntsAre vs ns := by
  intro ns
  induction ns with
  | nil =>
    intro vs w
    rw [List.map_nil] at w
    cases w
    exact .nil
  | cons n ns ih =>
    intro vs w
    rw [List.map_cons] at w
    cases w with
    | cons a b =>
      cases a
      exact .cons _ _ (ih _ b)

theorem script_of {l : OpenLaw} {n : Nat} (hn : l.most = some n) {P : Params} {h : Heap} {args : List WData} {vals : List Value}
    (hpre : l.row.toRowW.claim.pre args = true) (hwl : WellAll P h vals args) :
    ∃ a vs ns, vals = [Value.ref a] ∧ args = [WData.list (ns.map WData.int)] ∧ h.get? a = some { cls := .type "list", data := .seq vs.toArray } ∧ IntsAre vs ns ∧ ns.length ≤ n := by
  have hsh : WShape.hasAll [] args [.list .int] = true := (pre_splitW hpre).1
  have hc : l.pre.holds [] { args := args } = true := (pre_splitW hpre).2
  obtain ⟨d, r, rfl, h1, h2⟩ := hasAllW_cons hsh
  obtain rfl := hasAllW_nil h2
  obtain ⟨xs, rfl, h3⟩ := hasW_list h1
  obtain ⟨ns, rfl⟩ := items_int h3
  have hlen : ns.length ≤ n := by
    unfold OpenLaw.pre at hc
    have h4 : (WTm.not (.lt (.lit (.int (n : Int))) (.len (.arg 0)))).holds [] { args := [.list (ns.map .int)] } = true := by
      have h4 := (holds_andW hc).1
      rw [hn] at h4
      exact h4
    have h5 := condW_of h4 (w_not (w_lt w_lit (w_len_list (w_arg rfl))))
    rw [List.length_map] at h5
    refine Nat.le_of_not_lt fun q => ?_
    have q' : (n : Int) < ((ns.length : Nat) : Int) := by omega
    first
      | (rw [decide_eq_true q'] at h5; exact absurd h5 (by decide))
      | (simp at h5; omega)
  cases hwl with
  | cons w1 w2 =>
    cases w2
    cases w1 with
    | list ho hall => exact ⟨_, _, ns, rfl, rfl, ho, ints_of_wellAll ns _ hall, hlen⟩

theorem post_true (l : OpenLaw) (args : List WData) : l.row.toRowW.claim.post args (.bool true) args = true :=
  postW_of (r := l.row.toRowW) (X := (true == true))
    (show WShape.has [] (.bool true) .bool = true by first | rfl | decide | simp [WShape.has, WShape.arms, WShape.armsAll])
    (show (WTm.eq .res (.lit (.bool true))).value [] { args := args, res := some (.bool true), after := args } = some (.bool (true == true)) from w_eq_bool (w_res rfl) w_lit) rfl

theorem attach_call {l : OpenLaw} {n : Nat} {q : Program} {loose : List Str} {XP : (Str → Option Value) → Heap → Prop} {YP : World → Heap → Prop} {d : DefRec}
    (hn : l.most = some n) (hdf : d.params.defaults = [])
    (call : ∀ (w : World) (s₀ s₁ : Shared) (mg mb : Str → Option Value) (fa : Addr) (o : Obj) (pm cd doc : Value) (a : Addr) (vs : List Value) (ns : List Int),
      Ground q loose [] XP w s₀ mg mb s₁.heap → YP w s₁.heap →
      s₁.heap.get? fa = some o → o.data = .func (docDef d.name d.params d.body d.scope pm cd doc) → s₁.heap.CodeRec cd d.name → mg d.name = some (.ref fa) →
      s₁.heap.get? a = some { cls := .type "list", data := .seq vs.toArray } → IntsAre vs ns → ns.length ≤ n → s₁.gens = #[] →
      codeAny (model l.prog w) callerA (.call (.ref fa) ⟨[.ref a], []⟩) (fun r s' => r = .ok (.ret (.bool true)) ∧ OldK s₁.heap s'.heap ∧ s'.os = s₁.os ∧ AllBare s'.gens) s₁) :
    WalkO q loose XP YP l.row.toRowW d [] (fun f vs => PySem.call f vs) := by
  intro w s₀ s₁ mg mb G Y fa o pm cd doc dV kV ho hd hcd hD hmg hg args vals as hpre hlay hrd hwl hlo
  obtain rfl : dV = .none := Dflts.none hD hdf
  obtain rfl : kV = .none := Dflts.noKw hD
  obtain ⟨a, vs, ns, rfl, rfl, hobj, hints, hlen⟩ := script_of hn hpre hwl
  refine enter_call (codeAny_mono (call w s₀ s₁ mg mb fa o pm cd doc a vs ns G Y ho (fd_plain hd) hcd hmg hobj hints hlen hg) fun r s' hq => ?_)
  obtain ⟨rfl, h2, h3, h4⟩ := hq
  exact ⟨.inl ⟨.bool true, .bool true, [], rfl, fun _ => rfl, .bool true, post_true l _, fun _ => ⟨List.Pairwise.nil, fun _ hm => (nomatch hm)⟩⟩, h2, h3, h4⟩

section
variable {prog : Program} {w : World} {A : Around} {E : Value → Shared → Prop} {s : Shared} {K : Frag}

end
end Att

namespace L2
open PySem PySem.Spec PyProof.Rows

theorem vals_ints : ∀ {vs : List Value} {ns : List Int}, IntsAre vs ns → Vals (ns.map V.int) vs
  | _, _, .nil => .nil
  | _, _, .cons n t h => .cons ⟨t, rfl⟩ (vals_ints h)

noncomputable def Only (H : Hp) : Prop := ∀ b, H b = none ∨ ∃ o xs, H b = some (.frz o (.lst xs))

theorem law_call {P : Program} {w : World} {K : PySem.W.Frag} {mg mb : Str → Option Value} {CX : CXT} {k : Nat} {fa a : Addr} {fd : FuncData} {x : Str} {sp : Sp} {s₁ : Shared} {vs : List Value} {ns : List Int}
    (KX : K.In s₁.heap) (hns : s₁.heap.Ns mainGlobals mg) (hb : s₁.heap.Ns builtinsNs mb) (hbb : ∀ x : Str, x ≠ "__name__" → mb x = bootBuiltins x) (hlim : s₁.heap.NoLimit) (hg : s₁.gens = #[])
    (ha : s₁.heap.get? a = some { cls := .type "list", data := .seq vs.toArray }) (hi : IntsAre vs ns) (hl : ns.length ≤ sizeLine) (hr : Room k callerA)
    (F : ∀ base : Heap, K.In base → base.Ns mainGlobals mg → FnOk P w K mg base CX k fa fd [x] sp) (hbind : ∀ (s : Shared) (u : Value), BindsTo s fd ⟨[u], []⟩ [(x, u)])
    (hsp : ∀ H : Hp, Only H → SqL K H a (ns.map V.int) → sp [.ref a] H (fun v _ => v = .bl true) fun _ _ _ => False)
    (hCX : ∀ H e s', CX [] H s₁ (fun _ _ _ => False) e s' → False) :
    codeAny (model P w) callerA (.call (.ref fa) ⟨[.ref a], []⟩) (fun r s' => r = .ok (.ret (.bool true)) ∧ OldK s₁.heap s'.heap ∧ s'.os = s₁.os ∧ AllBare s'.gens) s₁ := by
  have rv := vals_ints hi
  have lenV := hi.length
  -- from an abstract heap in which nothing but the script may be tracked
  have core : ∀ H : Hp, Only H → SqL K H a (ns.map V.int) → HOk P w H s₁.heap → (∀ b, H b ≠ none → b = a) → (H a ≠ none → K.lookup a = none) →
      codeAny (model P w) callerA (.call (.ref fa) ⟨[.ref a], []⟩) (fun r s' => r = .ok (.ret (.bool true)) ∧ OldK s₁.heap s'.heap ∧ s'.os = s₁.os ∧ AllBare s'.gens) s₁ := by
    intro H hO hS hok hA hK
    have base_of : ∀ {b : Addr} {o : Obj}, s₁.heap.get? b = some o → H b = none → (hidT s₁.heap H).get? b = some o := fun e n => hidT_get e n
    have noA : ∀ {b : Addr} {o : Obj} {es : Array DictEntry} {ep : Nat}, s₁.heap.get? b = some o → o.data = .dict es ep → H b = none := fun {b o es ep} e d => by
      cases q : H b with
      | none => rfl
      | some u =>
        have e' : b = a := hA b (by rw [q]; simp)
        subst e'
        rw [ha] at e; cases e
        have d' : Data.seq vs.toArray _ = Data.dict es ep := d
        cases d'
    have nsK : ∀ {b : Addr} {m : Str → Option Value}, s₁.heap.Ns b m → (hidT s₁.heap H).Ns b m := fun {b m} ⟨o, es, ep, e, d, r⟩ => ⟨o, es, ep, base_of e (noA e d), d, r⟩
    have hKb : K.In (hidT s₁.heap H) := fun b o e => base_of (KX b o e) (by
      cases q : H b with
      | none => rfl
      | some u =>
        have e' : b = a := hA b (by rw [q]; simp)
        subst e'
        rw [hK (by rw [q]; simp)] at e; cases e)
    have hM : Mod K mg (hidT s₁.heap H) := ⟨hKb, nsK hns, ⟨mb, nsK hb, hbb⟩, let ⟨mc, h1, h2⟩ := hlim; ⟨mc, nsK h1, h2⟩⟩
    have e0 : Env0 P w K mg (hidT s₁.heap H) callerA [] s₁ H := ⟨rfl, hM, fun b o e => of_hidT e, Nat.le_of_eq (hidT_size _ _), trivial, fun b hb => absurd (show b ∈ ([] : List Addr) from hb) (by simp), hok, .of_eq hg⟩
    refine codeAny_mono ((F _ hKb (nsK hns)).run callerA [] s₁ H ⟨[.ref a], []⟩ [.ref a] [.ref a] _ _ hr e0 (hbind s₁ (.ref a)) (.cons rfl .nil) (hsp H hO hS)) fun r s' h => ?_
    cases r with
    | error e => exact (hCX H e s' h).elim
    | ok fl =>
      cases fl with
      | next => exact False.elim h
      | brk => exact False.elim h
      | cont => exact False.elim h
      | ret u =>
        obtain ⟨v, H', os, bare, un, hok', r', q⟩ := h
        have q' : v = .bl true := q
        subst q'
        obtain rfl : u = Value.bool true := r'
        refine ⟨rfl, OldK.of_keep fun b o e => ?_, os, bare⟩
        cases q : H b with
        | none => exact un.keep b o e q (by intro z; exact absurd (show b ∈ ([] : List Addr) from z) (by simp)) (by simp)
        | some u =>
          rcases hO b with z | ⟨ob, xs, z⟩
          · rw [q] at z; cases z
          · have z2 := un.frzs b ob _ z
            obtain ⟨e1, _⟩ := hok b _ z
            obtain ⟨e2, _⟩ := hok' b _ z2
            rw [e] at e1; cases e1
            exact e2
  cases hk : K.lookup a with
  | some o =>
    -- the script is one of the module's own objects
    have e := KX a o hk
    rw [ha] at e
    cases e
    refine core (fun _ => none) (fun _ => .inl rfl) (.inr ⟨_, vs.toArray, _, hk, rfl, rfl, rfl, by rw [List.size_toArray, lenV]; exact hl, by simpa using rv⟩) (fun b u z => by have z' : (none : Option HO) = some u := z; cases z') (fun b z => absurd rfl z) fun z => absurd rfl z
  | none =>
    refine core (fun b => if b = a then some (.frz { cls := .type "list", data := .seq vs.toArray } (.lst (ns.map V.int))) else none) (fun b => ?_) (.inl (.inr ⟨{ cls := .type "list", data := .seq vs.toArray }, if_pos rfl⟩)) (fun b u z => ?_) (fun b z => ?_) fun _ => hk
    · by_cases hb : b = a
      · exact .inr ⟨_, _, if_pos hb⟩
      · exact .inl (if_neg hb)
    · by_cases hb : b = a
      · have z' := (if_pos hb).symm.trans z
        cases z'
        subst hb
        exact ⟨ha, by rw [List.length_map]; exact hl, vs, _, rv, ha⟩
      · have z' := (if_neg hb).symm.trans z
        cases z'
    · by_cases hb : b = a
      · exact hb
      · exact absurd (if_neg hb) z
end L2

namespace L2
open PySem PySem.Spec PyProof.Rows

theorem walk_of {l : PySem.W.OpenLaw} {n k : Nat} {q : Program} {loose : List Str} {XP : (Str → Option Value) → Heap → Prop} {YP : World → Heap → Prop} {d : DefRec} {K : Params → PySem.W.Frag} {CX : World → CXT} {sp : World → Sp} {x : Str}
    (hn : l.most = some n) (hn2 : n ≤ sizeLine) (hdf : d.params.defaults = []) (hr : Room k callerA)
    (hY : ∀ (w : World) (h : Heap), YP w h → (K w.params).In h)
    (F : ∀ (w : World) (mg : Str → Option Value) (fa : Addr) (h : Heap), (K w.params).In h → h.Ns mainGlobals mg → mg d.name = some (.ref fa) →
      ∃ fd : FuncData, (∀ (s : Shared) (u : Value), BindsTo s fd ⟨[u], []⟩ [(x, u)]) ∧
        ∀ base : Heap, (K w.params).In base → base.Ns mainGlobals mg → FnOk l.prog w (K w.params) mg base (CX w) k fa fd [x] (sp w))
    (hsp : ∀ (w : World) (H : Hp) (a : Addr) (ns : List Int), ns.length ≤ n → Only H → SqL (K w.params) H a (ns.map V.int) → sp w [.ref a] H (fun v _ => v = .bl true) fun _ _ _ => False)
    (hCX : ∀ (w : World) (H : Hp) (s : Shared) (e : Value) (s' : Shared), CX w [] H s (fun _ _ _ => False) e s' → False) :
    PySem.W.WalkO q loose XP YP l.row.toRowW d [] (fun f vs => PySem.call f vs) := by
  refine Att.attach_call hn hdf fun w s₀ s₁ mg mb fa o pm cd doc a vs ns G Y ho hd hcd hmg hobj hints hlen hg => ?_
  have KX := hY w _ Y
  obtain ⟨fd, hb, hF⟩ := F w mg fa _ KX G.T.g hmg
  exact law_call KX G.T.g G.T.b G.T.builtins G.T.nolimit hg hobj hints (Nat.le_trans hlen hn2) hr hF hb (fun H hO hS => hsp w H a ns hlen hO hS) fun H e s' => hCX w H s₁ e s'
theorem walk_ofK {l : PySem.W.OpenLaw} {n k : Nat} {q : Program} {loose : List Str} {XP : (Str → Option Value) → Heap → Prop} {YP : World → Heap → Prop} {d : DefRec} {K : Params → PySem.W.Frag} {CX : CXT} {sp : PySem.W.Frag → Sp} {x : Str}
    (hn : l.most = some n) (hn2 : n ≤ sizeLine) (hdf : d.params.defaults = []) (hr : Room k callerA)
    (hY : ∀ (w : World) (h : Heap), YP w h → (K w.params).In h)
    (F : ∀ (w : World) (mg : Str → Option Value) (fa : Addr) (h : Heap), (K w.params).In h → h.Ns mainGlobals mg → mg d.name = some (.ref fa) →
      ∃ fd : FuncData, (∀ (s : Shared) (u : Value), BindsTo s fd ⟨[u], []⟩ [(x, u)]) ∧
        ∀ base : Heap, (K w.params).In base → base.Ns mainGlobals mg → FnOk l.prog w (K w.params) mg base CX k fa fd [x] (sp (K w.params)))
    (hsp : ∀ (K : PySem.W.Frag) (H : Hp) (a : Addr) (ns : List Int), ns.length ≤ n → Only H → SqL K H a (ns.map V.int) → sp K [.ref a] H (fun v _ => v = .bl true) fun _ _ _ => False)
    (hCX : ∀ (H : Hp) (s : Shared) (e : Value) (s' : Shared), CX [] H s (fun _ _ _ => False) e s' → False) :
    PySem.W.WalkO q loose XP YP l.row.toRowW d [] (fun f vs => PySem.call f vs) :=
  walk_of (K := K) (CX := fun _ => CX) (sp := fun w => sp (K w.params)) hn hn2 hdf hr hY F (fun w H a ns h1 h2 h3 => hsp (K w.params) H a ns h1 h2 h3) fun _ H s e s' => hCX H s e s'
end L2

namespace L2
open PySem PySem.Spec PyProof.Rows

noncomputable def inClass (s : Stmt) (j : Nat) : Stmt := match s with
  | .ClassDef _ _ _ body _ _ _ _ _ _ _ => body.getD j (.Pass ⟨0, 0, 0, 0⟩)
  | _ => .Pass ⟨0, 0, 0, 0⟩
noncomputable def defArgs (s : Stmt) : Arguments := match s with
  | .FunctionDef _ a _ _ _ _ _ _ _ _ => a
  | _ => { posonlyargs := [], args := [], vararg := none, kwonlyargs := [], kw_defaults := [], kwarg := none, defaults := [] }
noncomputable def defBody (s : Stmt) : List Stmt := match s with
  | .FunctionDef _ _ b _ _ _ _ _ _ _ => b
  | _ => []
noncomputable def defScope (s : Stmt) : Scope := match s with
  | .FunctionDef _ _ _ _ _ _ sc _ _ _ => sc
  | _ => { kind := .function, names := [], isGenerator := false, isCoroutine := false }

noncomputable abbrev CX0 : CXT := fun _ _ _ _ _ _ => False
noncomputable abbrev E0 : XK := fun _ _ _ => False
theorem pass0 {X : Cx} : Passes CX0 X E0 := fun _ _ _ _ _ _ _ h => h.elim

structure Fun (K : PySem.W.Frag) (x qual : Str) (st : Stmt) (f : Addr) (fd : FuncData) : Prop where
  ex : ∃ (oc : Value) (od : Option Addr) (kV doc pm : Value) (an : Option Addr) (cdv ct : Value) (osl : Array (Option Value)),
    fd = PySem.W.fnOf x qual (defArgs st) (defBody st) (defScope st) .none kV doc pm an cdv ct ∧ K.lookup f = some ⟨oc, od, .func fd, osl⟩ ∧ PySem.W.codeIn K cdv qual = true
  kp : PySem.W.keepIn K (.ref f) = true
section
variable {P : Program} {w : World} {K : PySem.W.Frag} {mg : Str → Option Value} {base : Heap}
theorem Fun.ok {x qual : Str} {st : Stmt} {f : Addr} {fd : FuncData} {N ps : List Str} {k : Nat} {sp : Sp} (F : Fun K x qual st f fd) (S : FnScope N ps (defScope st)) (len : ∀ vs H Q E, sp vs H Q E → vs.length = ps.length)
    (hbody : ∀ (cdv : Value) (A : Around) (outer : List Env) (s : Shared) (H : Hp) (vs : List V) (Q : VK) (E : XK), Room k (A.deeper (envOfC qual (defScope st) s.heap.objs.size f cdv)) → sp vs H Q E →
      ∃ t, PSs (cxOf CX0 P w K mg base N qual (defScope st) f cdv A outer s H E).nox (defBody st) t ∧ t { nx := fun _ H' => Q .non H', rt := Q } (start N vs) H) : FnOk P w K mg base CX0 (k + 1) f fd ps sp := by
  obtain ⟨oc, od, kV, doc, pm, an, cdv, ct, osl, rfl, lk, hcd⟩ := F.ex
  refine fn_of lk hcd S len fun A outer s H vs Q E hr hsp => ?_
  obtain ⟨t, h, q⟩ := hbody cdv A outer s H vs Q E hr hsp
  exact ⟨t, h.nox, q⟩
theorem Fun.binds {x qual : Str} {st : Stmt} {f : Addr} {fd : FuncData} {ps : List Str} (F : Fun K x qual st f fd)
    (h : ∀ (kV doc pm : Value) (an : Option Addr) (cdv ct : Value) (us : List Value), us.length = ps.length → bindArgs (PySem.W.fnOf x qual (defArgs st) (defBody st) (defScope st) .none kV doc pm an cdv ct) ⟨us, []⟩ = pure (ps.zip us)) : Binds K fd ps [] := by
  obtain ⟨oc, od, kV, doc, pm, an, cdv, ct, osl, rfl, lk, hcd⟩ := F.ex
  exact .all (h kV doc pm an cdv ct)
theorem fun_mk {x qual : Str} {st : Stmt} {f : Addr} {oc : Value} {od an : Option Addr} {osl : Array (Option Value)} {kV doc pm cdv ct : Value} (l : K.lookup f = some ⟨oc, od, .func (PySem.W.fnOf x qual (defArgs st) (defBody st) (defScope st) .none kV doc pm an cdv ct), osl⟩)
    (c : PySem.W.codeIn K cdv qual = true) (k : PySem.W.keepIn K (.ref f) = true) : Fun K x qual st f (PySem.W.fnOf x qual (defArgs st) (defBody st) (defScope st) .none kV doc pm an cdv ct) := ⟨⟨oc, od, kV, doc, pm, an, cdv, ct, osl, rfl, l, c⟩, k⟩
end
theorem hu_of {A : Around} {k : Nat} (hr : Room k A) : A.units + 1 < cLine := Nat.lt_of_le_of_lt (Nat.add_le_add_left (by decide : 1 ≤ 64) _) hr.units
section
variable {X : Cx}
theorem pv (i : Nat) {x : Str} {pos : Pos} (hN : X.N[i]? = some x := by rfl) (hv : Vis X.env.scope x := by first | exact Or.inl rfl | exact Or.inr (Or.inl rfl) | exact Or.inr (Or.inr rfl)) (hd : (x == ("__debug__" : Str)) = false := by decide)
    (hcd : (x == ("__classdict__" : Str)) = false := by decide) : PE X (.Name x pos) (tVar i) := pe_var hN hv hd hcd
end

noncomputable def Same (H H' : Hp) : Prop := ∀ b o, H b = some o → H' b = some o
theorem Same.refl (H : Hp) : Same H H := fun _ _ h => h
theorem Same.trans {H H1 H2 : Hp} (a : Same H H1) (b : Same H1 H2) : Same H H2 := fun c o h => b c o (a c o h)
theorem Same.seq {K : PySem.W.Frag} {H H' : Hp} {a : Addr} {xs : List V} (e : Same H H') (h : SqL K H a xs) : SqL K H' a xs := by
  rcases h with (h | ⟨o, h⟩) | h
  · exact .inl (.inl (e _ _ h))
  · exact .inl (.inr ⟨o, e _ _ h⟩)
  · exact .inr h

end L2

set_option Elab.async false
set_option linter.all false
set_option maxRecDepth 100000
namespace L2
open PySem PySem.Spec PyProof.Rows

section
variable {κ : Type} [DecidableEq κ]
noncomputable def valV (kvs : List (κ × V)) (k : κ) : Option V := (kvs.find? fun kv => decide (kv.1 = k)).map (·.2)
noncomputable def putK (kvs : List (κ × V)) (k : κ) (v : V) : List (κ × V) :=
  if (kvs.any fun kv => decide (kv.1 = k)) = true then kvs.map (fun kv => if kv.1 = k then (kv.1, v) else kv) else kvs ++ [(k, v)]
noncomputable def dropK (kvs : List (κ × V)) (k : κ) : List (κ × V) := kvs.filter fun kv => decide (kv.1 ≠ k)

theorem valV_pos {p : κ × V} {r : List (κ × V)} {k : κ} (e : p.1 = k) : valV (p :: r) k = some p.2 := by simp [valV, List.find?_cons, e]
theorem valV_neg {p : κ × V} {r : List (κ × V)} {k : κ} (e : ¬ p.1 = k) : valV (p :: r) k = valV r k := by simp [valV, List.find?_cons, e]
theorem valV_any (k : κ) : ∀ kvs : List (κ × V), (kvs.any fun kv => decide (kv.1 = k)) = (valV kvs k).isSome
  | [] => rfl
  | p :: r => by
    rw [List.any_cons]
    by_cases e : p.1 = k
    · simp only [valV_pos e, decide_eq_true e, Bool.true_or, Option.isSome_some]
    · rw [valV_neg e, decide_eq_false e, Bool.false_or]; exact valV_any k r
theorem valV_map (k j : κ) (y : V) : ∀ kvs : List (κ × V), valV (kvs.map fun kv => if kv.1 = k then (kv.1, y) else kv) j = (valV kvs j).map fun x => if j = k then y else x
  | [] => rfl
  | p :: r => by
    have ih := valV_map k j y r
    rw [List.map_cons]
    by_cases h : p.1 = k
    · rw [if_pos h]
      by_cases e : p.1 = j
      · rw [valV_pos (p := (p.1, y)) e, valV_pos e, Option.map_some, if_pos (e.symm.trans h)]
      · rw [valV_neg (p := (p.1, y)) e, valV_neg e, ih]
    · rw [if_neg h]
      by_cases e : p.1 = j
      · rw [valV_pos (p := p) e, valV_pos e, Option.map_some, if_neg (fun z => h (e.trans z))]
      · rw [valV_neg (p := p) e, valV_neg e, ih]
theorem valV_snoc (k j : κ) (y : V) : ∀ kvs : List (κ × V), valV kvs k = none → valV (kvs ++ [(k, y)]) j = if j = k then some y else valV kvs j
  | [], _ => by
    by_cases e : k = j
    · rw [if_pos e.symm]; exact valV_pos (p := (k, y)) e
    · rw [if_neg (fun z => e z.symm)]; exact valV_neg (p := (k, y)) e
  | p :: r, hn => by
    rw [List.cons_append]
    have hk : ¬ p.1 = k := fun z => by rw [valV_pos z] at hn; cases hn
    rw [valV_neg hk] at hn
    have ih := valV_snoc k j y r hn
    by_cases e : p.1 = j
    · rw [valV_pos e, valV_pos e, if_neg (fun z => hk (e.trans z))]
    · rw [valV_neg e, valV_neg e, ih]
theorem valV_put (kvs : List (κ × V)) (k j : κ) (y : V) : valV (putK kvs k y) j = if j = k then some y else valV kvs j := by
  unfold putK
  by_cases a : (kvs.any fun kv => decide (kv.1 = k)) = true
  · rw [if_pos a, valV_map]
    rw [valV_any] at a
    by_cases e : j = k
    · obtain ⟨x, hx⟩ := Option.isSome_iff_exists.mp a
      rw [if_pos e, e, hx, Option.map_some, if_pos rfl]
    · rw [if_neg e]
      cases valV kvs j with
      | none => rfl
      | some x => rw [Option.map_some, if_neg e]
  · rw [if_neg a]
    refine valV_snoc k j y kvs ?_
    rw [valV_any] at a
    cases q : valV kvs k with
    | none => rfl
    | some x => rw [q] at a; exact (a rfl).elim
theorem length_putK (kvs : List (κ × V)) (k : κ) (v : V) : (putK kvs k v).length ≤ kvs.length + 1 := by
  unfold putK
  split
  · rw [List.length_map]; omega
  · rw [List.length_append, List.length_cons, List.length_nil]; omega
theorem putK_new {kvs : List (κ × V)} {k : κ} (v : V) (h : valV kvs k = none) : putK kvs k v = kvs ++ [(k, v)] := by
  unfold putK
  rw [valV_any, h]
  exact if_neg (by decide)

theorem RelO.isSome_eq {o : Option V} {u : Option Value} (r : RelO o u) : o.isSome = u.isSome := by
  cases o with
  | none => cases u with
    | none => rfl
    | some _ => exact (show False from r).elim
  | some _ => cases u with
    | none => exact (show False from r).elim
    | some _ => rfl
theorem RelO.getD {o : Option V} {u : Option Value} {d : V} {d' : Value} (r : RelO o u) (rd : RelV d d') : RelV (o.getD d) (u.getD d') := by
  cases o with
  | none => cases u with
    | none => exact rd
    | some _ => exact (show False from r).elim
  | some _ => cases u with
    | none => exact (show False from r).elim
    | some _ => exact r

theorem KV.val {kvs : List (κ × V)} {vs : List (κ × Value)} (r : KV kvs vs) (k : κ) : RelO (valV kvs k) (valueAt vs k) := by
  unfold KV at r
  induction r with
  | nil => exact True.intro
  | @cons p q ps qs h t ih =>
    obtain ⟨h1, h2⟩ := h
    by_cases e : p.1 = k
    · have e' : q.1 = k := h1.symm.trans e
      have b : valueAt (q :: qs) k = some q.2 := by simp [valueAt, List.find?_cons, e']
      rw [valV_pos e, b]; exact h2
    · have e' : ¬ q.1 = k := fun z => e (h1.trans z)
      have b : valueAt (q :: qs) k = valueAt qs k := by simp [valueAt, List.find?_cons, e']
      rw [valV_neg e, b]; exact ih
theorem KV.any {kvs : List (κ × V)} {vs : List (κ × Value)} (r : KV kvs vs) (k : κ) : (kvs.any fun kv => decide (kv.1 = k)) = vs.any fun kv => decide (kv.1 = k) := by
  unfold KV at r
  induction r with
  | nil => rfl
  | cons h t ih => rw [List.any_cons, List.any_cons, ih, h.1]
theorem KV.repl {kvs : List (κ × V)} {vs : List (κ × Value)} (r : KV kvs vs) (k : κ) {y : V} {u : Value} (ry : RelV y u) :
    KV (kvs.map fun kv => if kv.1 = k then (kv.1, y) else kv) (vs.map fun kv => if kv.1 = k then (kv.1, u) else kv) := by
  unfold KV at r ⊢
  induction r with
  | nil => exact .nil
  | @cons p q ps qs h t ih =>
    rw [List.map_cons, List.map_cons]
    refine .cons ?_ ih
    obtain ⟨h1, h2⟩ := h
    by_cases e : p.1 = k
    · rw [if_pos e, if_pos (h1.symm.trans e)]; exact ⟨h1, ry⟩
    · rw [if_neg e, if_neg (fun z => e (h1.trans z))]; exact ⟨h1, h2⟩
theorem KV.put {kvs : List (κ × V)} {vs : List (κ × Value)} (r : KV kvs vs) (k : κ) {y : V} {u : Value} (ry : RelV y u) : KV (putK kvs k y) (stored vs k u) := by
  unfold putK stored
  rw [r.any k]
  by_cases e : (vs.any fun kv => decide (kv.1 = k)) = true
  · rw [if_pos e, if_pos e]; exact r.repl k ry
  · rw [if_neg e, if_neg e]; exact Paired.snoc r ⟨rfl, ry⟩
theorem KV.length {kvs : List (κ × V)} {vs : List (κ × Value)} (r : KV kvs vs) : kvs.length = vs.length := Paired.length r
end


theorem kV_is {P : Program} {w : World} {k : Key} {u : Value} (r : RelV (kV k) u) : (mixKind P w).is k u = true := by
  cases k with
  | inl i => obtain ⟨t, e⟩ := (show ∃ t, u = Value.int i t from r); subst e; exact mixKind_int P w i t
  | inr x => obtain ⟨t, e⟩ := (show ∃ t, u = Value.str x t from r); subst e; exact mixKind_str P w x t
theorem items_are {P : Program} {w : World} : ∀ {ks : List Key} {us : List Value}, Vals (ks.map kV) us → ItemsAre (mixKind P w) ks us
  | [], _, r => by rw [List.map_nil] at r; cases r; exact .nil
  | k :: ks, _, r => by
    rw [List.map_cons] at r
    cases r with
    | cons h t => exact .cons (kV_is h) (items_are t)

noncomputable abbrev KT (H : Hp) : List (List Key × V) → List (List Key × Addr × Value) → Prop := Paired fun p q => p.1 = q.1 ∧ H q.2.1 = some (.tup (p.1.map kV)) ∧ RelV p.2 q.2.2
theorem KT.val {H : Hp} {kvs : List (List Key × V)} {xs : List (List Key × Addr × Value)} (r : KT H kvs xs) (k : List Key) : RelO (valV kvs k) ((atKey xs k).map (·.2)) := by
  induction r with
  | nil => exact True.intro
  | @cons p q ps qs h t ih =>
    obtain ⟨h1, _, h2⟩ := h
    by_cases e : p.1 = k
    · have e' : q.1 = k := h1.symm.trans e
      have b : atKey (q :: qs) k = some q.2 := by simp [atKey, List.find?_cons, e']
      rw [valV_pos e, b]; exact h2
    · have e' : ¬ q.1 = k := fun z => e (h1.trans z)
      have b : atKey (q :: qs) k = atKey qs k := by simp [atKey, List.find?_cons, e']
      rw [valV_neg e, b]; exact ih
theorem KT.repl {H : Hp} {kvs : List (List Key × V)} {xs : List (List Key × Addr × Value)} (r : KT H kvs xs) (k : List Key) {y : V} {u : Value} (ry : RelV y u) :
    KT H (kvs.map fun kv => if kv.1 = k then (kv.1, y) else kv) (xs.map (putAt k u)) := by
  induction r with
  | nil => exact .nil
  | @cons p q ps qs h t ih =>
    rw [List.map_cons, List.map_cons]
    refine .cons ?_ ih
    obtain ⟨h1, h2, h3⟩ := h
    unfold putAt
    by_cases e : p.1 = k
    · rw [if_pos e, if_pos (h1.symm.trans e)]; exact ⟨h1, h2, ry⟩
    · rw [if_neg e, if_neg (fun z => e (h1.trans z))]; exact ⟨h1, h2, h3⟩
theorem KT.put {H : Hp} {kvs : List (List Key × V)} {xs : List (List Key × Addr × Value)} (r : KT H kvs xs) (k : List Key) {b : Addr} {y : V} {u : Value} (hb : H b = some (.tup (k.map kV))) (ry : RelV y u) :
    KT H (putK kvs k y) (storedH xs k b u) := by
  have e : (kvs.any fun kv => decide (kv.1 = k)) = (atKey xs k).isSome := by
    rw [valV_any, (r.val k).isSome_eq, Option.isSome_map]
  unfold putK storedH
  rw [e]
  by_cases q : (atKey xs k).isSome = true
  · rw [if_pos q, if_pos q]; exact r.repl k ry
  · rw [if_neg q, if_neg q]; exact Paired.snoc r ⟨rfl, hb, ry⟩
theorem KT.keeps {H H' : Hp} {kvs : List (List Key × V)} {xs : List (List Key × Addr × Value)} (r : KT H kvs xs) (ht : ∀ b ys, H b = some (.tup ys) → H' b = some (.tup ys)) : KT H' kvs xs :=
  Paired.mapP r fun _ _ z => ⟨z.1, ht _ _ z.2.1, z.2.2⟩

section
variable {P : Program} {w : World} {H : Hp} {h : Heap} {a : Addr}
theorem rd_of {u : HO} (ok : HOk P w H h) (e : Rd H a u) : ObjOk P w H h a u := e.ok ok
theorem dk_rd {kvs : List (Key × V)} (ok : HOk P w H h) (e : Rd H a (.dK kvs)) : kvs.length ≤ sizeLine ∧ (a == sysModules) = false ∧ ∃ vs, KV kvs vs ∧ h.DictOf (mixKind P w) a vs :=
  show ObjOk P w H h a (.dK kvs) from rd_of ok e
theorem dk_of {kvs : List (Key × V)} (ok : HOk P w H h) (e : H a = some (.dK kvs)) : kvs.length ≤ sizeLine ∧ (a == sysModules) = false ∧ ∃ vs, KV kvs vs ∧ h.DictOf (mixKind P w) a vs := dk_rd ok (.inl e)
theorem key_of {ks : List Key} (ok : HOk P w H h) (e : H a = some (.tup (ks.map kV))) : (tupleKind (mixKind P w)).is h ks a := by
  obtain ⟨_, its, r, o, h1, h2, n, h3⟩ := (show ObjOk P w H h a (.tup (ks.map kV)) from ok a _ e)
  exact ⟨o, its.toArray, n, h1, h2, h3, by simpa using items_are r⟩
theorem dt_rd {kvs : List (List Key × V)} (ok : HOk P w H h) (e : Rd H a (.dT kvs)) : kvs.length ≤ sizeLine ∧ (a == sysModules) = false ∧
    ∃ xs, KT H kvs xs ∧ h.DictOfH (tupleKind (mixKind P w)) a xs := by
  obtain ⟨z, y, xs, r, o, es, ep, h1, h2, h3, h4, h5⟩ := (show ObjOk P w H h a (.dT kvs) from rd_of ok e)
  refine ⟨z, y, xs, r, o, es, ep, h1, h2, h3, h4, fun x hx => ?_, h5⟩
  have all : ∀ {l : List (List Key × V)} {m : List (List Key × Addr × Value)}, KT H l m → ∀ x ∈ m, (tupleKind (mixKind P w)).is h x.1 x.2.1 := by
    intro l m q
    induction q with
    | nil => intro x hx; exact nomatch hx
    | @cons p q ps qs hq t ih =>
      intro x hx
      rcases List.mem_cons.mp hx with e | hx
      · subst e
        exact key_of ok (by rw [← hq.1]; exact hq.2.1)
      · exact ih x hx
  exact all r x hx
theorem dt_of {kvs : List (List Key × V)} (ok : HOk P w H h) (e : H a = some (.dT kvs)) : kvs.length ≤ sizeLine ∧ (a == sysModules) = false ∧
    ∃ xs, KT H kvs xs ∧ h.DictOfH (tupleKind (mixKind P w)) a xs := dt_rd ok (.inl e)
end

noncomputable def DGet (H : Hp) (a : Addr) (y : V) (r : Option V) : Prop :=
  (∃ kvs k, Rd H a (.dK kvs) ∧ y = kV k ∧ r = valV kvs k) ∨ ∃ kvs k b, Rd H a (.dT kvs) ∧ y = .ref b ∧ H b = some (.tup (k.map kV)) ∧ r = valV kvs k
noncomputable def DPut (H : Hp) (a : Addr) (y v : V) (H' : Hp) : Prop :=
  (∃ kvs k, H a = some (.dK kvs) ∧ y = kV k ∧ kvs.length < sizeLine ∧ H' = upd H a (.dK (putK kvs k v))) ∨
  ∃ kvs k b, H a = some (.dT kvs) ∧ y = .ref b ∧ H b = some (.tup (k.map kV)) ∧ kvs.length < sizeLine ∧ H' = upd H a (.dT (putK kvs k v))
theorem DGet.k {H : Hp} {a : Addr} {kvs : List (Key × V)} {k : Key} (e : H a = some (.dK kvs)) : DGet H a (kV k) (valV kvs k) := .inl ⟨kvs, k, .inl e, rfl, rfl⟩
theorem DPut.k {H : Hp} {a : Addr} {kvs : List (Key × V)} {k : Key} {v : V} (e : H a = some (.dK kvs)) (hl : kvs.length < sizeLine) : DPut H a (kV k) v (upd H a (.dK (putK kvs k v))) := .inl ⟨kvs, k, e, rfl, hl, rfl⟩
section
variable {X : Cx} {pins : List (Addr × Obj)} {σ : St} {H : Hp} {s : Shared} {a : Addr} {y v : V} {u r : Value} {o : Option V} {A : Around} {E : Value → Shared → Prop}

theorem Inv.big (I : Inv X pins σ H s) : sysModules < s.heap.objs.size := by
  have h : mainGlobals < s.heap.objs.size := (I.mod.glob.keeps I.bk).lt
  exact Nat.lt_trans (by decide) h

theorem d_getItem {Q : Value → Shared → Prop} (hu : A.units + 1 < cLine) (I : Inv X pins σ H s) (g : DGet H a y (some v)) (ry : RelV y u) (h : ∀ w' s', Inv X pins σ H s' → RelV v w' → Q w' s') :
    wpAny (model X.prog X.w) A (getItem (.ref a) u) Q E s := by
  rcases g with ⟨kvs, k, e, ey, l⟩ | ⟨kvs, k, b, e, ey, eb, l⟩
  · subst ey
    obtain ⟨z, hd, vs, rel, dd⟩ := dk_rd I.hok e
    obtain ⟨w', hw, rw'⟩ := RelO.some_of (v := v) (o := valueAt vs k) (by rw [l]; exact rel.val k)
    exact wpAny_getItem_of (kV_is ry) dd.mapOf hw (h w' _ (I.tok _) rw')
  · subst ey
    cases (show u = Value.ref b from ry)
    obtain ⟨z, hd, xs, rel, dd⟩ := dt_rd I.hok e
    obtain ⟨w', hw, rw'⟩ := RelO.some_of (v := v) (o := (atKey xs k).map (·.2)) (by rw [l]; exact rel.val k)
    obtain ⟨p, hp, hp2⟩ := Option.map_eq_some_iff.mp hw
    refine wpAny_getItem_heap (tupleKind_room_in1 hu) (key_of I.hok eb) dd hp ?_
    rw [hp2]
    exact h w' _ (I.tok _) rw'
theorem d_in {Q : Value → Shared → Prop} (hu : A.units + 1 < cLine) (I : Inv X pins σ H s) (g : DGet H a y o) (ry : RelV y u) (h : ∀ s', Inv X pins σ H s' → Q (.bool o.isSome) s') :
    wpAny (model X.prog X.w) A (compareOp .In u (.ref a)) Q E s := by
  rcases g with ⟨kvs, k, e, ey, l⟩ | ⟨kvs, k, b, e, ey, eb, l⟩
  · subst ey
    obtain ⟨z, hd, vs, rel, dd⟩ := dk_rd I.hok e
    refine wpAny_in_of (kV_is ry) hd dd.mapOf ?_
    rw [← (rel.val k).isSome_eq, ← l]
    exact h _ (I.tok _)
  · subst ey
    cases (show u = Value.ref b from ry)
    obtain ⟨z, hd, xs, rel, dd⟩ := dt_rd I.hok e
    refine wpAny_in_heap (tupleKind_room_in1 hu) (key_of I.hok eb) hd dd ?_
    have q := (rel.val k).isSome_eq
    rw [Option.isSome_map] at q
    rw [← q, ← l]
    exact h _ (I.tok _)
theorem d_notIn {Q : Value → Shared → Prop} (hu : A.units + 1 < cLine) (I : Inv X pins σ H s) (g : DGet H a y o) (ry : RelV y u) (h : ∀ s', Inv X pins σ H s' → Q (.bool (!o.isSome)) s') :
    wpAny (model X.prog X.w) A (compareOp .NotIn u (.ref a)) Q E s := by
  rcases g with ⟨kvs, k, e, ey, l⟩ | ⟨kvs, k, b, e, ey, eb, l⟩
  · subst ey
    obtain ⟨z, hd, vs, rel, dd⟩ := dk_rd I.hok e
    refine wpAny_notIn_of (kV_is ry) hd dd.mapOf ?_
    rw [← (rel.val k).isSome_eq, ← l]
    exact h _ (I.tok _)
  · subst ey
    cases (show u = Value.ref b from ry)
    obtain ⟨z, hd, xs, rel, dd⟩ := dt_rd I.hok e
    refine wpAny_notIn_heap (tupleKind_room_in1 hu) (key_of I.hok eb) hd dd ?_
    have q := (rel.val k).isSome_eq
    rw [Option.isSome_map] at q
    rw [← q, ← l]
    exact h _ (I.tok _)
theorem d_write {h' : Heap} {t' : Nat} {ob : HO} (I : Inv X pins σ H s) (mu : Mut (H a)) (hs : Heap.SameBut a s.heap h') (he : ∃ q, h'.get? a = some q) (new : ObjOk X.prog X.w (upd H a ob) h' a ob) :
    Inv X pins σ (upd H a ob) { s with heap := h', toks := t' } :=
  I.write (x := a) (e := a) mu (.inl rfl) (fun b q hb z => (hs.2 b hb).trans z) he new
theorem dk_new {P : Program} {w : World} {H' : Hp} {h' : Heap} {kvs : List (Key × V)} {vs : List (Key × Value)} (z : kvs.length ≤ sizeLine) (hd : (a == sysModules) = false) (rel : KV kvs vs) (dd : h'.DictOf (mixKind P w) a vs) :
    ObjOk P w H' h' a (.dK kvs) := ⟨z, hd, vs, rel, dd⟩
theorem d_setItem {H' : Hp} {Q : Unit → Shared → Prop} (hu : A.units + 1 < cLine) (I : Inv X pins σ H s) (g : DPut H a y v H') (ry : RelV y u) (rv : RelV v r) (h : ∀ s', Inv X pins σ H' s' → Q () s') :
    wpAny (model X.prog X.w) A (setItem (.ref a) u r) Q E s := by
  rcases g with ⟨kvs, k, e, ey, l, eH⟩ | ⟨kvs, k, b, e, ey, eb, l, eH⟩
  · subst ey eH
    obtain ⟨z, hd, vs, rel, dd⟩ := dk_of I.hok e
    have hz : vs.length ≤ sizeLine := by rw [← rel.length]; exact z
    have hl : (putK kvs k v).length ≤ sizeLine := by have := length_putK kvs k v; omega
    refine wpAny_setItem_pairs (hsz := hz) (kV_is ry) dd fun h' dd' hs => h _ ?_
    have he : ∃ q, h'.get? a = some q := let ⟨q, _, _, hq, _⟩ := dd'; ⟨q, hq⟩
    exact d_write I (by rw [e]; exact True.intro) hs he (dk_new hl hd (rel.put k rv) dd')
  · subst ey eH
    cases (show u = Value.ref b from ry)
    obtain ⟨z, hd, xs, rel, dd⟩ := dt_of I.hok e
    have hz : xs.length ≤ sizeLine := by rw [← Paired.length rel]; exact z
    have hl : (putK kvs k v).length ≤ sizeLine := by have := length_putK kvs k v; omega
    refine wpAny_setItem_heap (hsz := hz) (tupleKind_room_in1 hu) (key_of I.hok eb) dd fun h' dd' hs => h _ ?_
    obtain ⟨q, es, ep, hq, h2, h3, h4, _, h5⟩ := dd'
    refine d_write I (by rw [e]; exact True.intro) hs ⟨q, hq⟩ ⟨hl, hd, _, (rel.put k eb rv).keeps fun c ys ec => ?_, q, es, ep, hq, h2, h3, h4, h5⟩
    rw [upd_ne (ne_of ec e (fun z => nomatch z))]
    exact ec
end

section
variable {X : Cx} {pins : List (Addr × Obj)} {σ : St} {H : Hp} {s : Shared} {a : Addr} {kvs : List (Key × V)} {k : Key} {u : Value} {A : Around} {E : Value → Shared → Prop}
theorem d_len {Q : Value → Shared → Prop} (I : Inv X pins σ H s) (e : Rd H a (.dK kvs)) (h : ∀ t s', Inv X pins σ H s' → Q (.int kvs.length t) s') : wpAny (model X.prog X.w) A (call (.builtin "len") [.ref a]) Q E s := by
  obtain ⟨z, hd, vs, rel, dd⟩ := dk_rd I.hok e
  refine call_len_dict hd dd (by rw [← rel.length]; rw [sizeLine_eq] at z; omega) ?_
  rw [← rel.length]
  exact h _ _ (I.tok _)
end


noncomputable def NoSl (i : Expr) : Prop := ∀ ov iv, subscripted i false ov iv = operate [ov, iv] (getItem ov iv)
theorem subD_of {prog : Program} {w : World} {A : Around} {E : Value → Shared → Prop} {s : Shared} {env : Env} {value slice : Expr} {pos : Pos} {T id : String} {Q : Value → Shared → Prop}
    (hl : typeLookup (.type T) "__getitem__" = pure (some (.builtin id))) (hs : NoSl slice)
    (h : wpAny (model prog w) A (eval value env) (fun o s₁ => wpAny (model prog w) A (eval slice env) (fun i s₂ => s₂.TypeIs o T ∧ wpAny (model prog w) A (getItem o i) Q E s₂) E s₁) E s) :
    wpAny (model prog w) A (eval (.Subscript value slice pos) env) Q E s := by
  refine Subscript_ (wpAny_mono h (fun o s₁ h₁ => wpAny_mono h₁ (fun i s₂ h₂ => ?_) fun _ _ x => x) fun _ _ x => x)
  obtain ⟨hT, h₂⟩ := h₂
  unfold subscriptTail
  refine wpAny_bind ?_
  rw [getitemInPython_of_ne hT.not_modules]
  refine wpAny_bind (wpAny_specialOf hT hl ?_)
  have fin : wpAny (model prog w) A (subscripted slice false o i) (fun r s₃ => wpAny (model prog w) A (letTemporaryGo value o r >>= fun _ => pure r) Q E s₃) E s₂ := by
    rw [hs o i]
    exact wpAny_operating (wpAny_mono h₂ (fun r s₃ h₃ => wpAny_bind (wpAny_letTemporaryGo (wpAny_pure h₃))) fun _ _ x => x)
  first
    | exact wpAny_pure (wpAny_bind fin)
    | exact wpAny_bind (wpAny_pure (wpAny_bind fin))
    | exact wpAny_bind fin

theorem dict_typeIs {X : Cx} {pins : List (Addr × Obj)} {σ : St} {H : Hp} {s : Shared} {a : Addr} {y : V} {o : Option V} (I : Inv X pins σ H s) (g : DGet H a y o) : s.TypeIs (.ref a) "dict" := by
  rcases g with ⟨kvs, k, e, _, _⟩ | ⟨kvs, k, b, e, _, _, _⟩
  · obtain ⟨_, _, vs, _, dd⟩ := dk_rd I.hok e
    exact dd.typeIs
  · obtain ⟨_, _, xs, _, dd⟩ := dt_rd I.hok e
    exact dd.typeIs
noncomputable def tDGet (td ty : TE) : TE := fun σ H Q => td σ H fun x H1 => ty σ H1 fun y H2 => ∃ a v, x = .ref a ∧ DGet H2 a y (some v) ∧ Q v H2
noncomputable def tDIn (ty td : TE) : TE := fun σ H Q => ty σ H fun y H1 => td σ H1 fun x H2 => ∃ a o, x = .ref a ∧ DGet H2 a y o ∧ Q (.bl o.isSome) H2
noncomputable def tDNotIn (ty td : TE) : TE := fun σ H Q => ty σ H fun y H1 => td σ H1 fun x H2 => ∃ a o, x = .ref a ∧ DGet H2 a y o ∧ Q (.bl (!o.isSome)) H2
noncomputable def sDPut (td ty tv : TE) : TS := fun D σ H => tv σ H fun v H1 => td σ H1 fun x H2 => ty σ H2 fun y H3 => ∃ a H4, x = .ref a ∧ DPut H3 a y v H4 ∧ D.nx σ H4
section
variable {X : Cx} {o i e value : Expr} {pos pos' tpos : Pos} {td ty tv : TE}
theorem pe_dget (hu : X.A.units + 1 < cLine) (ho : PE X o td) (hi : PE X i ty) (hs : NoSl i) : PE X (.Subscript o i pos) (tDGet td ty) := by
  intro pins s σ H Q I h
  refine subD_of PySem.F.slot_dict_getitem.lookup hs (thn (ho pins s σ H _ I h) fun u s1 ⟨x, H1, I1, rx, q1⟩ => thn (hi pins s1 σ H1 _ I1 q1) fun iv s2 ⟨y, H2, I2, ry, a, v, ex, g, q2⟩ => ?_)
  subst ex
  obtain rfl : u = Value.ref a := rx
  exact ⟨dict_typeIs I2 g, d_getItem hu I2 g ry fun w' s3 I3 rw' => ⟨v, H2, I3, rw', q2⟩⟩
theorem pc_din (hu : X.A.units + 1 < cLine) (hi : PE X i ty) (ho : PE X o td) : PC X .In i o (tDIn ty td) := by
  intro pins s σ H Q I h
  refine thn (hi pins s σ H _ I h) fun iv s1 ⟨y, H1, I1, ry, q1⟩ => thn (ho pins s1 σ H1 _ I1 q1) fun u s2 ⟨x, H2, I2, rx, a, ov, ex, g, q2⟩ => ?_
  subst ex
  obtain rfl : u = Value.ref a := rx
  exact d_in hu I2 g ry fun s3 I3 => ⟨.bl ov.isSome, H2, I3, rfl, q2⟩
theorem pc_dnotin (hu : X.A.units + 1 < cLine) (hi : PE X i ty) (ho : PE X o td) : PC X .NotIn i o (tDNotIn ty td) := by
  intro pins s σ H Q I h
  refine thn (hi pins s σ H _ I h) fun iv s1 ⟨y, H1, I1, ry, q1⟩ => thn (ho pins s1 σ H1 _ I1 q1) fun u s2 ⟨x, H2, I2, rx, a, ov, ex, g, q2⟩ => ?_
  subst ex
  obtain rfl : u = Value.ref a := rx
  exact d_notIn hu I2 g ry fun s3 I3 => ⟨.bl (!ov.isSome), H2, I3, rfl, q2⟩
theorem ps_dput (hu : X.A.units + 1 < cLine) (ho : PE X o td) (hi : PE X i ty) (hv : PE X value tv) (hs : swapsWith value (some (.Subscript o i pos')) pos.line X.env = pure false) :
    PS X (.Assign [.Subscript o i pos'] value pos) (sDPut td ty tv) := by
  intro pins s σ H D I h
  refine wpAny_Assign_Subscript (thn (hv pins s σ H _ I h) fun r s1 ⟨v, H1, I1, rv, q1⟩ => thn (ho pins s1 σ H1 _ I1 q1) fun u s2 ⟨x, H2, I2, rx, q2⟩ => thn (hi pins s2 σ H2 _ I2 q2) fun iv s3 ⟨y, H3, I3, ry, a, H4, ex, g, q3⟩ => ?_) hs
  subst ex
  obtain rfl : u = Value.ref a := rx
  exact d_setItem hu I3 g ry rv fun s4 I4 => ⟨σ, H4, I4, q3⟩
end


theorem dk_empty {P : Program} {w : World} {H : Hp} (h : Heap) (hb : sysModules < h.objs.size) : ObjOk P w H (h.push { cls := .type "dict", data := .dict #[] }) h.objs.size (.dK []) :=
  ⟨Nat.zero_le _, beq_eq_false_iff_ne.mpr (Ne.symm (Nat.ne_of_lt hb)), [], .nil, Heap.DictOf.new h⟩
noncomputable def tDNewK : TE := fun _ H Q => ∀ p, H p = none → Q (.ref p) (upd H p (.dK []))
section
variable {X : Cx} {pos : Pos}
theorem pe_dnewK : PE X (.Dict [] [] pos) tDNewK := fun pins s σ H Q I h =>
  wpAny_Dict_empty ⟨.ref s.heap.objs.size, _, I.laid (a := s.heap.objs.size) (o := .dK []) (t' := s.toks) (fun _ _ q => Heap.get?_push_of_some _ q) (Nat.le_refl _) (dk_empty s.heap I.big), rfl, h _ (I.hok.fresh (Nat.le_refl _))⟩
end

structure M1 (X : Cx) (o : Expr) (m : Str) (apos : Pos) (e : Expr) (cpos : Pos) : Prop where
  base : attributeBase o m X.env (eval o X.env) = eval o X.env
  few : ((backTo cpos (starEach [e] X.env)).all (fun x => !x.1) && (backToKw cpos (keywordEach [] X.env)).all (fun x => x.1.isSome)
    && decide (([e] : List Expr).length + ([] : List Keyword).length + (if ([] : List Keyword).isEmpty then 0 else 1) < 30)) = true
  line : (apos.endLine == cpos.line) = true
  trees : backTo cpos (starEach [e] X.env) = [(false, eval e X.env)]
structure M2 (X : Cx) (o : Expr) (m : Str) (apos : Pos) (e f : Expr) (cpos : Pos) : Prop where
  base : attributeBase o m X.env (eval o X.env) = eval o X.env
  few : ((backTo cpos (starEach [e, f] X.env)).all (fun x => !x.1) && (backToKw cpos (keywordEach [] X.env)).all (fun x => x.1.isSome)
    && decide (([e, f] : List Expr).length + ([] : List Keyword).length + (if ([] : List Keyword).isEmpty then 0 else 1) < 30)) = true
  line : (apos.endLine == cpos.line) = true
  trees : backTo cpos (starEach [e, f] X.env) = [(false, eval e X.env), (false, eval f X.env)]

noncomputable def IsD (H : Hp) (a : Addr) : Prop := (∃ kvs, Rd H a (.dK kvs)) ∨ ∃ kvs, Rd H a (.dT kvs)
theorem isD_at {X : Cx} {pins : List (Addr × Obj)} {σ : St} {H : Hp} {s : Shared} {a : Addr} (I : Inv X pins σ H s) (d : IsD H a) :
    s.TypeIs (.ref a) "dict" ∧ (∀ b, Value.ref a = .ref b → ∃ ob, s.heap.get? b = some ob ∧ ob.dict = none) ∧ (a == sysModules) = false := by
  rcases d with ⟨kvs, e⟩ | ⟨kvs, e⟩
  · obtain ⟨_, hd, vs, _, dd⟩ := dk_rd I.hok e
    refine ⟨dd.typeIs, fun b q => ?_, hd⟩
    cases q
    obtain ⟨ob, _, _, h1, h2, _⟩ := dd
    exact ⟨ob, h1, h2.2.1⟩
  · obtain ⟨_, hd, xs, _, dd⟩ := dt_rd I.hok e
    refine ⟨dd.typeIs, fun b q => ?_, hd⟩
    cases q
    obtain ⟨ob, _, _, h1, h2, _⟩ := dd
    exact ⟨ob, h1, h2.2.1⟩

section
variable {X : Cx} {pins : List (Addr × Obj)} {σ : St} {H : Hp} {s : Shared} {a : Addr} {y d : V} {u r : Value} {o : Option V} {A : Around} {E : Value → Shared → Prop}
theorem d_get2 {Q : Value → Shared → Prop} (hu : A.units + 1 < cLine) (I : Inv X pins σ H s) (g : DGet H a y o) (ry : RelV y u) (rd : RelV d r) (h : ∀ w' s', Inv X pins σ H s' → RelV (o.getD d) w' → Q w' s') :
    wpAny (model X.prog X.w) A (call (.builtin "dict.get") [.ref a, u, r]) Q E s := by
  rcases g with ⟨kvs, k, e, ey, l⟩ | ⟨kvs, k, b, e, ey, eb, l⟩
  · subst ey
    obtain ⟨z, hd, vs, rel, dd⟩ := dk_rd I.hok e
    refine call_meetsIn PySem.F.slot_dict_get dd.typeIs PySem.F.entry_dict_get (PySem.F.args_dict_get_3 _ _ _) (meets_dict_get_default (mixKind X.prog X.w) a (kV_is ry) hd r) ⟨_, dd.mapOf, h _ _ (I.tok _) ?_⟩
    rw [l]
    exact (rel.val k).getD rd
  · subst ey
    cases (show u = Value.ref b from ry)
    obtain ⟨z, hd, xs, rel, dd⟩ := dt_rd I.hok e
    refine call_meetsIn PySem.F.slot_dict_get dd.typeIs PySem.F.entry_dict_get (PySem.F.args_dict_get_3 _ _ _) (meetsH_dict_get_default (tupleKind (mixKind X.prog X.w)) a b hd r) ⟨tupleKind_room_in1 hu, k, xs, key_of I.hok eb, dd, h _ _ (I.tok _) ?_⟩
    rw [l]
    exact (rel.val k).getD rd
end

noncomputable def tDGet1 (td ty : TE) : TE := fun σ H Q => td σ H fun x H1 => ∃ a, x = .ref a ∧ IsD H1 a ∧ ty σ H1 fun y H2 => ∃ o, DGet H2 a y o ∧ Q (o.getD .non) H2
noncomputable def tDGet2 (td ty tx : TE) : TE := fun σ H Q => td σ H fun x H1 => ∃ a, x = .ref a ∧ IsD H1 a ∧ ty σ H1 fun y H2 => tx σ H2 fun z H3 => ∃ o, DGet H3 a y o ∧ Q (o.getD z) H3
noncomputable def tDPop1 (td ty : TE) : TE := fun σ H Q => td σ H fun x H1 => ∃ a, x = .ref a ∧ IsD H1 a ∧ ty σ H1 fun y H2 => ∃ kvs k v, H2 a = some (.dK kvs) ∧ y = kV k ∧ valV kvs k = some v ∧ Q v (upd H2 a (.dK (dropK kvs k)))
section
variable {X : Cx} {o e f : Expr} {apos cpos : Pos} {td ty tx : TE}
theorem pe_dget2 (hu : X.A.units + 1 < cLine) (ho : PE X o td) (he : PE X e ty) (hf : PE X f tx) (m : M2 X o "get" apos e f cpos) : PE X (.Call (.Attribute o "get" apos) [e, f] [] cpos) (tDGet2 td ty tx) := by
  intro pins s σ H Q I h
  refine wpAny_Call_method m.base m.few m.line PySem.F.plainAttrs_dict PySem.F.slot_dict_get PySem.F.type_dict_get (thn (ho pins s σ H _ I h) fun u s1 ⟨x, H1, I1, rx, a, ex, d, q1⟩ => ?_)
  subst ex
  obtain rfl : u = Value.ref a := rx
  obtain ⟨t1, t2, _⟩ := isD_at I1 d
  refine ⟨t1, t2, ?_⟩
  rw [m.trees]
  refine Calls.callWith_builtin rfl (Calls.evalArgs_plain (Calls.spliced_cons (thn (he pins s1 σ H1 _ I1 q1) fun iv s2 ⟨y, H2, I2, ry, q2⟩ =>
    Calls.spliced_cons (thn (hf pins s2 σ H2 _ I2 q2) fun fv s3 ⟨z, H3, I3, rz, ov, g, q3⟩ => Calls.spliced_nil ?_))))
  exact d_get2 hu I3 g ry rz fun w' s4 I4 rw' => ⟨_, H3, I4, rw', q3⟩
end

section
variable {X : Cx} {pins : List (Addr × Obj)} {σ : St} {H : Hp} {s : Shared} {a : Addr} {kvs : List (Key × V)} {A : Around} {E : Value → Shared → Prop}
end


section
variable {X : Cx} {pins : List (Addr × Obj)} {σ : St} {H : Hp} {s : Shared} {a : Addr} {y : V} {u : Value} {A : Around} {E : Value → Shared → Prop}
end
end L2

namespace L2
open PySem PySem.Spec PyProof.Rows
section
variable {X : Cx}
theorem call_lenD : CallR X (.builtin "len") (fun xs H Q => ∃ a kvs, xs = [V.ref a] ∧ H a = some (.dK kvs) ∧ Q (.int kvs.length) H) := by
  intro pins s σ H xs us Q I r h
  obtain ⟨a, kvs, rfl, ha, q⟩ := h
  obtain ⟨u, rfl, ru⟩ := vals1 r
  cases ru
  exact d_len I (.inl ha) fun t s' I' => ⟨.int kvs.length, H, I', ⟨t, rfl⟩, q⟩
end
section
variable {κ : Type} [DecidableEq κ]
theorem valV_not {kvs : List (κ × V)} {k : κ} (h : valV kvs k = none) : ¬ k ∈ kvs.map (·.1) := by
  intro m
  obtain ⟨p, hp, e⟩ := List.mem_map.mp m
  have q : (kvs.any fun kv => decide (kv.1 = k)) = true := List.any_eq_true.mpr ⟨p, hp, decide_eq_true e⟩
  rw [valV_any, h] at q
  exact absurd q (by simp)
theorem valV_in {kvs : List (κ × V)} {k : κ} {v : V} (h : valV kvs k = some v) : k ∈ kvs.map (·.1) := by
  have q : (kvs.any fun kv => decide (kv.1 = k)) = true := by
    rw [valV_any, h]
    all_goals rfl
  obtain ⟨p, hp, e⟩ := List.any_eq_true.mp q
  exact List.mem_map.mpr ⟨p, hp, of_decide_eq_true e⟩
end
end L2

set_option Elab.async false
set_option linter.all false
set_option maxRecDepth 100000
set_option maxHeartbeats 4000000
namespace L2
open PySem PySem.Spec PyProof.Rows

structure Def (P : Program) (w : World) (K : PySem.W.Frag) (mg : Str → Option Value) (base : Heap) (CX : CXT) (k : Nat) (x : Str) (ps : List Str) (sp : Sp) : Prop where
  ex : ∃ (f : Addr) (fd : FuncData), FnOk P w K mg base CX k f fd ps sp ∧ mg x = some (.ref f) ∧ PySem.W.keepIn K (.ref f) = true ∧ Binds K fd ps []
noncomputable def tCallD (sp : Sp) (E : XK) (t : TA) : TE := fun σ H Q => t σ H fun vs H1 => sp vs H1 Q E
section
variable {X : Cx} {CX : CXT} {k j : Nat} {ps : List Str} {sp : Sp} {E : XK} {x : Str} {p pos : Pos} {e : Expr} {es : List Expr} {t : TA}
theorem pe_callD (D : Def X.prog X.w X.K X.mg X.base CX j x ps sp) (hr : Room k X.A) (hg : Gl X x) (hx : Passes CX X E) (ha : PA X (e :: es) t) (hj : j ≤ k := by decide)
    (hdb : (x == ("__debug__" : Str)) = false := by decide) (he : starEach (e :: es) X.env = (false, eval e X.env) :: starEach es X.env := by rfl) (hpl : (backTo pos (starEach es X.env)).any (·.1) = false := by rfl) :
    PE X (.Call (.Name x p) (e :: es) [] pos) (tCallD sp E t) := by
  obtain ⟨f, fd, F, hm, hk, hb⟩ := D.ex
  intro pins s σ H Q I h
  refine pe_call (F.mono hj) hr hg hm hk hb .nil hx ha hdb he hpl pins s σ H Q I ?_
  show t σ H fun vs H1 => sp (vs ++ []) H1 Q E
  have z : (fun (vs : List V) (H1 : Hp) => sp (vs ++ []) H1 Q E) = fun vs H1 => sp vs H1 Q E := by funext vs H1; rw [List.append_nil]
  rw [z]
  exact h
end

noncomputable def CBig (i j : Int) : Prop := i.natAbs < 10 ^ 100 ∧ j.natAbs < 10 ^ 100
theorem big_pow : (10 : Nat) ^ 100 ≤ 2 ^ 1000 := by decide +kernel
theorem bits_of {i : Int} (h : i.natAbs < 10 ^ 100) : Builtin.Int.intBits i ≤ 2 ^ 20 := by
  have h1 : Builtin.Int.intBits i ≤ 1000 := by
    unfold Builtin.Int.intBits
    split
    · omega
    · rename_i hne
      have := (Nat.log2_lt (n := i.natAbs) (k := 1000) (by simpa using hne)).mpr (Nat.lt_of_lt_of_le h big_pow)
      omega
  exact Nat.le_trans h1 (by decide)
section
variable {X : Cx}
theorem op_mulB : OpR X (binaryOp .Mult) (rI CBig fun i j => .int (i * j)) := opI fun _ _ _ _ _ _ _ hc q => mul_int q (.of_bits (bits_of hc.1) (bits_of hc.2))
end

noncomputable def Isi (K : PySem.W.Frag) (H : Hp) (x : V) (n : String) (b : Bool) : Prop := ∃ t, TyOf K H x t ∧ PySem.W.kitOne K t (.type n) = some b
section
variable {X : Cx}
theorem call_isinst : CallR X (.builtin "isinstance") (fun xs H Q => ∃ x n b, xs = [x, .ty n] ∧ Isi X.K H x n b ∧ Q (.bl b) H) := by
  intro pins s σ H xs us Q I r h
  obtain ⟨x, n, b, rfl, ⟨t, ty, e⟩, q⟩ := h
  obtain ⟨u, c, rfl, r1, r2⟩ := vals2 r
  cases r2
  exact isinst_ok I r1 ty e fun tk => ⟨.bl b, H, I.tok _, rfl, q⟩
end
section
variable {K : PySem.W.Frag} {H : Hp}
theorem isi_ii {i : Int} : Isi K H (.int i) "int" true := ⟨_, .int i, rfl⟩
theorem isi_ib {i : Int} : Isi K H (.int i) "bool" false := ⟨_, .int i, by with_unfolding_all rfl⟩
theorem isi_is {i : Int} : Isi K H (.int i) "str" false := ⟨_, .int i, by with_unfolding_all rfl⟩
theorem isi_bb {i : Bool} : Isi K H (.bl i) "bool" true := ⟨_, .bl i, rfl⟩
theorem isi_bi {i : Bool} : Isi K H (.bl i) "int" true := ⟨_, .bl i, by with_unfolding_all rfl⟩
theorem isi_bs {i : Bool} : Isi K H (.bl i) "str" false := ⟨_, .bl i, by with_unfolding_all rfl⟩
theorem isi_ss {i : Str} : Isi K H (.str i) "str" true := ⟨_, .str i, rfl⟩
theorem isi_si {i : Str} : Isi K H (.str i) "int" false := ⟨_, .str i, by with_unfolding_all rfl⟩
theorem isi_sb {i : Str} : Isi K H (.str i) "bool" false := ⟨_, .str i, by with_unfolding_all rfl⟩
theorem isi_ni : Isi K H .non "int" false := ⟨_, .non, by with_unfolding_all rfl⟩
theorem isi_ns : Isi K H .non "str" false := ⟨_, .non, by with_unfolding_all rfl⟩
theorem isi_lstl {a : Addr} {xs : List V} (e : H a = some (.lst xs)) : Isi K H (.ref a) "list" true := ⟨_, .lst e, rfl⟩
theorem isi_lsts {a : Addr} {xs : List V} (e : H a = some (.lst xs)) : Isi K H (.ref a) "str" false := ⟨_, .lst e, by with_unfolding_all rfl⟩
theorem isi_lsti {a : Addr} {xs : List V} (e : H a = some (.lst xs)) : Isi K H (.ref a) "int" false := ⟨_, .lst e, by with_unfolding_all rfl⟩
theorem isi_lstt {a : Addr} {xs : List V} (e : H a = some (.lst xs)) : Isi K H (.ref a) "tuple" false := ⟨_, .lst e, by with_unfolding_all rfl⟩
theorem isi_tupt {a : Addr} {xs : List V} (e : H a = some (.tup xs)) : Isi K H (.ref a) "tuple" true := ⟨_, .tup e, rfl⟩
theorem isi_tups {a : Addr} {xs : List V} (e : H a = some (.tup xs)) : Isi K H (.ref a) "str" false := ⟨_, .tup e, by with_unfolding_all rfl⟩
theorem isi_tupi {a : Addr} {xs : List V} (e : H a = some (.tup xs)) : Isi K H (.ref a) "int" false := ⟨_, .tup e, by with_unfolding_all rfl⟩
theorem isi_tupl {a : Addr} {xs : List V} (e : H a = some (.tup xs)) : Isi K H (.ref a) "list" false := ⟨_, .tup e, by with_unfolding_all rfl⟩
theorem isi_go {x : V} {n : String} {b : Bool} {R : Bool → Prop} (h : Isi K H x n b) (q : R b) : ∃ b, Isi K H x n b ∧ R b := ⟨b, h, q⟩
theorem len_goL {p : Addr} {xs : List V} {R : List V → Prop} (h : SqL K H p xs) (q : R xs) : ∃ ys, (SqL K H p ys ∨ SqT K H p ys) ∧ R ys := ⟨xs, .inl h, q⟩
theorem len_goT {p : Addr} {xs : List V} {R : List V → Prop} (h : SqT K H p xs) (q : R xs) : ∃ ys, (SqL K H p ys ∨ SqT K H p ys) ∧ R ys := ⟨xs, .inr h, q⟩
theorem ixT_of {p : Addr} {xs : List V} {i : Int} {v : V} {Q : VK} (h : SqT K H p xs) (e : atI xs i = some v) (q : Q v H) : rIxT K (.ref p) (.int i) H Q := ⟨p, xs, i, v, rfl, rfl, h, e, q⟩
theorem ixL_of {p : Addr} {xs : List V} {i : Int} {v : V} {Q : VK} (h : SqL K H p xs) (e : atI xs i = some v) (q : Q v H) : rIxL K (.ref p) (.int i) H Q := ⟨p, xs, i, v, rfl, rfl, h, e, q⟩
end

theorem while_d {c : TT} {tb : TS} {D : Ends} {σ : St} {H : Hp} {m0 : Nat} (Pv : Nat → St → Hp → Prop) (h0 : Pv m0 σ H)
    (hs : ∀ m σ H, Pv m σ H → c σ H fun b H1 => if b = true then ∃ N : St → Hp → Prop, (∀ σ' H', N σ' H' → ∃ m', m' < m ∧ Pv m' σ' H') ∧ tb { D with nx := N, ct := N, bk := D.nx } σ H1 else D.nx σ H1) : tWhile c tb D σ H := ⟨Pv, ⟨m0, h0⟩, hs⟩
theorem atI_of {α : Type} {xs : List α} {i : Int} {v : α} (h0 : 0 ≤ i) (h : xs[i.toNat]? = some v) : atI xs i = some v := by
  unfold atI ixN
  have hl : i.toNat < xs.length := (List.getElem?_eq_some_iff.mp h).1
  rw [if_pos h0, if_pos (show i < xs.length by omega)]
  exact h
theorem cxOf_K {CX : CXT} {P : Program} {w : World} {K : PySem.W.Frag} {mg : Str → Option Value} {base : Heap} {N : List Str} {qual : Str} {scope : Scope} {f : Addr} {cd : Value} {A : Around} {outer : List Env} {s : Shared} {H : Hp} {E : XK} :
    (cxOf CX P w K mg base N qual scope f cd A outer s H E).K = K := rfl
theorem getMap {ns : List Int} {k : Nat} (h : k < ns.length) : (ns.map V.int)[k]? = some (V.int (ns.getD k 0)) := by
  rw [List.getElem?_map, List.getD_eq_getElem?_getD, List.getElem?_eq_getElem h]; rfl
theorem Same.tup {K : PySem.W.Frag} {H H' : Hp} {a : Addr} {xs : List V} (e : Same H H') (h : SqT K H a xs) : SqT K H' a xs := by
  rcases h with (h | ⟨o, h⟩) | h
  · exact .inl (.inl (e _ _ h))
  · exact .inl (.inr ⟨o, e _ _ h⟩)
  · exact .inr h
theorem Same.new {H : Hp} {p : Addr} {o : HO} (h : H p = none) : Same H (upd H p o) := fun b u e => by
  rw [upd_ne (ne_of_none e h)]; exact e

section
variable {σ : St} {H : Hp} {Q : VK} {QT : Bool → Hp → Prop} {QA : List V → Hp → Prop} {D : Ends} {K : PySem.W.Frag}
theorem rd_asg {te : TE} {g : TG} : tAsg te g D σ H = te σ H fun x H1 => g x σ H1 D.nx := rfl
theorem rd_var {i : Nat} : tVar i σ H Q = ∃ v, σ[i]? = some (some v) ∧ Q v H := rfl
theorem rd_c {v : V} : tC v σ H Q = Q v H := rfl
theorem rd_op {r : R2} {ta tb : TE} : tOp r ta tb σ H Q = ta σ H fun x H1 => tb σ H1 fun y H2 => r x y H2 Q := rfl
theorem rd_I0 {g : Int → Int → V} {x y : V} : rI0 g x y H Q = ∃ i j, x = .int i ∧ y = .int j ∧ Q (g i j) H := rfl
theorem rd_I {C : Int → Int → Prop} {g : Int → Int → V} {x y : V} : rI C g x y H Q = ∃ i j, x = .int i ∧ y = .int j ∧ C i j ∧ Q (g i j) H := rfl
theorem rd_U {g : Int → V} {x : V} : rU g x H Q = ∃ i, x = .int i ∧ Q (g i) H := rfl
theorem rd_name {i : Nat} {v : V} {N : St → Hp → Prop} : gName i v σ H N = N (σ.set i (some v)) H := rfl
theorem rd_ifS {c : TT} {t u : TS} : tIfS c t u D σ H = c σ H fun b H1 => if b = true then t D σ H1 else u D σ H1 := rfl
theorem rd_test {t : TE} : tTest t σ H QT = t σ H fun x H' => ∃ k, x = .bl k ∧ QT k H' := rfl
theorem rd_b {t : TE} : tB t σ H QT = t σ H fun x H1 => ∃ c, x = .bl c ∧ QT c H1 := rfl
theorem rd_ret {te : TE} : tRet te D σ H = te σ H D.rt := rfl
theorem rd_retN : tRetN D σ H = D.rt .non H := rfl
theorem rd_next : tNext D σ H = D.nx σ H := rfl
theorem rd_break : tBreak D σ H = D.bk σ H := rfl
theorem rd_cont : tCont D σ H = D.ct σ H := rfl
theorem rd_cb {r : List V → Hp → VK → Prop} {t : TA} : tCB r t σ H Q = t σ H fun vs H1 => r vs H1 Q := rfl
theorem rd_cons {ta : TE} {tr : TA} : tCons ta tr σ H QA = ta σ H fun x H1 => tr σ H1 fun xs H2 => QA (x :: xs) H2 := rfl
theorem rd_nil : tNil σ H QA = QA [] H := rfl
theorem rd_call {sp : Sp} {E : XK} {t : TA} : tCallD sp E t σ H Q = t σ H fun vs H1 => sp vs H1 Q E := rfl
theorem rd_not {t : TT} : tNot t σ H QT = t σ H fun c H1 => QT (!c) H1 := rfl
theorem rd_or {t u : TT} : tOr t u σ H QT = t σ H fun c H1 => if c = true then QT true H1 else u σ H1 QT := rfl
theorem rd_and {t u : TT} : tAnd t u σ H QT = t σ H fun c H1 => if c = true then u σ H1 QT else QT false H1 := rfl
theorem rd_andV {ta tb : TE} : tAndV ta tb σ H Q = ta σ H fun x H1 => ∃ c, x = .bl c ∧ if c = true then tb σ H1 Q else Q (.bl false) H1 := rfl
theorem rd_orV {ta tb : TE} : tOrV ta tb σ H Q = ta σ H fun x H1 => ∃ c, x = .bl c ∧ if c = true then Q (.bl true) H1 else tb σ H1 Q := rfl
theorem rd_notV {ta : TE} : tNotV ta σ H Q = ta σ H fun x H1 => ∃ c, x = .bl c ∧ Q (.bl (!c)) H1 := rfl
theorem rd_if {t : TT} {ta tb : TE} : tIf t ta tb σ H Q = t σ H fun c H1 => if c = true then ta σ H1 Q else tb σ H1 Q := rfl
theorem rd_un {r : V → Hp → VK → Prop} {ta : TE} : tUn r ta σ H Q = ta σ H fun x H1 => r x H1 Q := rfl
theorem rd_eq {x y : V} : rEq x y H Q = (scal x y = true ∧ Q (.bl (decide (x = y))) H) := rfl
theorem rd_ne {x y : V} : rNe x y H Q = (scal x y = true ∧ Q (.bl (!decide (x = y))) H) := rfl
theorem rd_par {i j : Nat} {ta : TA} : tPar i j ta D σ H = ta σ H fun vs H1 => ∃ v w, vs = [v, w] ∧ D.nx ((σ.set i (some v)).set j (some w)) H1 := rfl
theorem rd_tup {t : TA} : tTup t σ H Q = t σ H fun xs H1 => xs.length ≤ sizeLine ∧ ∀ p, H1 p = none → Q (.ref p) (upd H1 p (.tup xs)) := rfl
theorem rd_lst {t : TA} : tLst t σ H Q = t σ H fun xs H1 => xs.length ≤ sizeLine ∧ ∀ p, H1 p = none → Q (.ref p) (upd H1 p (.lst xs)) := rfl
theorem rd_never : tNever D σ H = False := rfl
theorem rd_drop {te : TE} : tDrop te D σ H = te σ H fun _ H1 => D.nx σ H1 := rfl
theorem rd_gcons {t : TG} {u : TGs} {vs : List V} {N : St → Hp → Prop} : gCons t u vs σ H N = ∃ v r, vs = v :: r ∧ t v σ H fun σ' H' => u r σ' H' N := rfl
theorem rd_gnil {vs : List V} {N : St → Hp → Prop} : gNil vs σ H N = (vs = [] ∧ N σ H) := rfl
theorem rd_gsub {to ti : TE} {t : TSet} {v : V} {N : St → Hp → Prop} : gSub to ti t v σ H N = to σ H fun o H1 => ti σ H1 fun i H2 => t o i v H2 fun H3 => N σ H3 := rfl
theorem rd_chain {r r' : R2} {ta tb tc : TE} : tChain r r' ta tb tc σ H Q = ta σ H fun x H1 => tb σ H1 fun y H2 => r x y H2 fun z H3 => ∃ k, z = .bl k ∧
  (if k = true then tc σ H3 fun w' H4 => r' y w' H4 Q else Q (.bl false) H3) := rfl
theorem rd_rng1 {ta : TA} {R : It → Hp → Prop} : iRng1 ta σ H R = ta σ H fun vs H1 => ∃ j : Int, vs = [.int j] ∧ -(2 ^ 62) ≤ j ∧ j < 2 ^ 62 ∧ R (Itr 0 j.toNat) H1 := rfl
theorem rd_rng2 {ta : TA} {R : It → Hp → Prop} : iRng2 ta σ H R = ta σ H fun vs H1 => ∃ i j : Int, vs = [.int i, .int j] ∧ (-(2 ^ 62) ≤ i ∧ i < 2 ^ 62 ∧ -(2 ^ 62) ≤ j ∧ j < 2 ^ 62) ∧ R (Itr i (j - i).toNat) H1 := rfl
theorem rd_ilist {tl : TE} {R : It → Hp → Prop} : iList K tl σ H R = tl σ H fun x H1 => ∃ a, x = .ref a ∧ (∃ xs, SqL K H1 a xs) ∧ R (Itl K a) H1 := rfl
theorem rd_itup {tl : TE} {R : It → Hp → Prop} : iTup K tl σ H R = tl σ H fun x H1 => ∃ a, x = .ref a ∧ (∃ xs, SqT K H1 a xs) ∧ R (Itt K a) H1 := rfl
noncomputable def ForTail (g : TG) (tb : TS) (D : Ends) (σ : St) : It → Hp → Prop := fun J H1 => ∃ W : Nat → Nat → St → Hp → Prop, (∃ m, W 0 m σ H1) ∧ ∀ i m σ H, W i m σ H →
  (J.stop i H ∧ D.nx σ H) ∨ (J.go i H ∧ ∃ N : St → Hp → Prop, (∀ σ' H', N σ' H' → ∃ m', m' < m ∧ W (i + 1) m' σ' H') ∧ ∀ x H', J.yld i H x H' → g x σ H' fun σ2 H2 => tb { D with nx := N, ct := N, bk := D.nx } σ2 H2)
theorem rd_for' {wi : TI} {g : TG} {tb : TS} : tFor wi g tb D σ H = wi σ H (ForTail g tb D σ) := rfl
theorem forR_by {lo : Int} {n : Nat} {g : TG} {tb : TS} (Pv : Nat → St → Hp → Prop) (h0 : Pv 0 σ H)
    (hs : ∀ i σ H, i < n → Pv i σ H → g (.int (lo + i)) σ H fun σ2 H2 => tb { D with nx := Pv (i + 1), ct := Pv (i + 1), bk := D.nx } σ2 H2) (hd : ∀ σ H, Pv n σ H → D.nx σ H) : ForTail g tb D σ (Itr lo n) H := for_range Pv h0 hs hd
theorem forL_by {a : Addr} {xs : List V} {g : TG} {tb : TS} (Pv : Nat → St → Hp → Prop) (h0 : Pv 0 σ H) (hl : ∀ i σ H, i ≤ xs.length → Pv i σ H → SqL K H a xs)
    (hs : ∀ i x σ H, xs[i]? = some x → Pv i σ H → g x σ H fun σ2 H2 => tb { D with nx := Pv (i + 1), ct := Pv (i + 1), bk := D.nx } σ2 H2) (hd : ∀ σ H, Pv xs.length σ H → D.nx σ H) : ForTail g tb D σ (Itl K a) H := for_list Pv h0 hl hs hd
theorem forT_by {a : Addr} {xs : List V} {g : TG} {tb : TS} (Pv : Nat → St → Hp → Prop) (h0 : Pv 0 σ H) (hl : ∀ i σ H, i ≤ xs.length → Pv i σ H → SqT K H a xs)
    (hs : ∀ i x σ H, xs[i]? = some x → Pv i σ H → g x σ H fun σ2 H2 => tb { D with nx := Pv (i + 1), ct := Pv (i + 1), bk := D.nx } σ2 H2) (hd : ∀ σ H, Pv xs.length σ H → D.nx σ H) : ForTail g tb D σ (Itt K a) H := for_tup Pv h0 hl hs hd
theorem seq_go {t u : TS} (h : ∀ rest : St → Hp → Prop, rest = u D → t { D with nx := rest } σ H) : tSeq t u D σ H := h _ rfl
theorem leaf_go {rest r : St → Hp → Prop} (h : rest = r) (q : r σ H) : rest σ H := by rw [h]; exact q
theorem cell_go {a : Addr} {ns : List Int} {k : Int} {R : List Int → Prop} (h : SqL K H a (ns.map V.int)) (h0 : 0 ≤ k) (hl : ns.length ≤ 63) (q : R ns) : ∃ x : List Int, SqL K H a (x.map V.int) ∧ 0 ≤ k ∧ x.length ≤ 63 ∧ R x := ⟨ns, h, h0, hl, q⟩
theorem cdiv_of {i j : Int} (h1 : 0 < j) (h2 : j < 1073741824) : CDiv i j := ⟨h1, h2⟩
theorem cpow_of {i j : Int} (h1 : 0 ≤ j) (h2 : j ≤ 1000000) (h3 : i.natAbs < 2 ^ 64) : CPow i j := ⟨h1, h2, h3⟩
theorem cmul_l {i j : Int} (h1 : -(2 ^ 64) < i) (h2 : i < 2 ^ 64) : CMul i j := .inl ⟨h1, h2⟩
theorem cmul_r {i j : Int} (h1 : -(2 ^ 64) < j) (h2 : j < 2 ^ 64) : CMul i j := .inr ⟨h1, h2⟩
end
end L2

set_option Elab.async false
set_option linter.all false
set_option maxRecDepth 100000
set_option maxHeartbeats 4000000
namespace L2
open PySem PySem.Spec PyProof.Rows

section
variable {P : Program} {w : World} {H : Hp} {h : Heap} {a : Addr} {o : HO}
end

noncomputable def Spares (fs : List Addr) (H' : Hp) (g h B : Heap) : Prop := ∀ b o, h.get? b = some o → b ∉ fs → (H' b ≠ none ∨ ∃ u, g.get? b = some u) → B.get? b = some o
section
variable {P : Program} {w : World}
end
section
variable {X : Cx} {pins : List (Addr × Obj)} {σ : St} {H1 H2 : Hp} {s1 : Shared} {h2 h3 B : Heap}
end

section
variable {P : Program} {w : World} {K : PySem.W.Frag} {mg : Str → Option Value} {base : Heap} {N : List Str} {qual : Str} {scope : Scope} {f : Addr} {cd : Value} {A : Around} {outer : List Env} {s : Shared} {H : Hp} {E : XK}
end
end L2

set_option Elab.async false
set_option linter.all false
set_option maxRecDepth 100000
set_option maxHeartbeats 4000000
namespace L2
open PySem PySem.Spec PyProof.Rows

structure ExcC (K : PySem.W.Frag) (C : Addr) : Prop where
  at_ : ∀ h : Heap, K.In h → ∃ (nm q : Str) (N : Addr) (bs bm : List Value) (hdct : Bool) (sn : List Str) (sub : List Value) (ab : Bool) (col : Option Bool) (dd : Option Addr) (k0 k1 k2 k3 k5 : Option Value) (mN : Str → Option Value),
    h.get? C = some (excClassObj nm q C N bs bm hdct sn sub ab col dd k0 k1 k2 k3 k5 "ValueError.__new__") ∧ h.Ns N mN ∧ mN "__init__" = none ∧
    OwnTail h [.type "ValueError", .type "Exception", .type "BaseException", .type "object"] bm
section
variable {X : Cx} {EE : St → XK} {C : Addr} {x : Str} {np cpos pos : Pos} {e : Expr} {es : List Expr} {t : TA}
end
section
variable {P : Program} {w : World} {K : PySem.W.Frag} {mg : Str → Option Value} {base : Heap} {N : List Str} {qual : Str} {scope : Scope} {f : Addr} {cd : Value} {A : Around} {outer : List Env} {s : Shared} {H : Hp} {E : XK}
end

noncomputable def PassesS (CX : CXT) (X : Cx) (EE : St → XK) : Prop := ∀ (pins : List (Addr × Obj)) (σ : St) (H : Hp) (s : Shared) (e : Value) (s' : Shared), Inv X pins σ H s → CX X.stack H s (EE σ) e s' → X.xe e s'
section
variable {X : Cx} {CX : CXT} {k j : Nat} {ps : List Str} {sp : Sp} {EE : St → XK} {x : Str} {p pos : Pos} {e : Expr} {es : List Expr} {t : TA}
end

structure Air (X : Cx) (pins : List (Addr × Obj)) (σ : St) (H : Hp) (x : Addr) (cls : Value) (s : Shared) : Prop where
  ex : ∃ (H0 : Hp) (s0 : Shared) (a0 : Value) (B : Heap), Inv X pins σ H0 s0 ∧ s.os = s0.os ∧ AllBare s.gens ∧ Un (frs X.stack) [] H0 H s0.heap s.heap ∧ HOk X.prog X.w H s.heap ∧
    Heap.FlyingW B X.stack x cls a0 s.heap ∧ Spares (frs X.stack) H s0.heap s.heap B ∧ H x = none ∧ s0.heap.get? x = none
section
variable {X : Cx} {pins : List (Addr × Obj)} {σ : St} {H : Hp} {x : Addr} {cls : Value} {s : Shared}
end
section
variable {X : Cx} {pins : List (Addr × Obj)} {σ : St} {H : Hp} {x : Addr} {cls : Value} {s : Shared}
end

noncomputable abbrev TH := Value → Addr → TS
section
variable {X : Cx} {C : Str} {c : Value} {np pos : Pos} {b₀ : Stmt} {suite : List Stmt} {rest : List ExceptHandler} {ts : TS} {tr : TH}
end

section
variable {X : Cx} {pins : List (Addr × Obj)} {σ : St} {H : Hp} {x : Addr} {cls : Value} {s : Shared}
end
section
variable {X : Cx} {C n : Str} {c : Value} {i : Nat} {np pos : Pos} {b₀ : Stmt} {suite : List Stmt} {rest : List ExceptHandler} {ts : TS} {tr : TH}
end

section
variable {X : Cx} {body : List Stmt} {h₀ : ExceptHandler} {hs : List ExceptHandler} {pos : Pos} {tb : (St → XK) → TS} {th : TH} {pins : List (Addr × Obj)} {σ : St} {H : Hp} {s : Shared} {pn : List (Addr × Obj)} {xe : Value → Shared → Prop}
end
end L2

set_option Elab.async false
set_option linter.all false
set_option maxRecDepth 100000
set_option maxHeartbeats 4000000
namespace L2
open PySem PySem.Spec PyProof.Rows PySem.W

section
variable {X : Cx}
end

section
variable {σ : St} {H : Hp} {Q : VK} {D : Ends} {K : Frag}
end

end L2

set_option Elab.async false
set_option linter.all false
set_option maxRecDepth 100000
set_option maxHeartbeats 4000000
namespace L2
open PySem PySem.Spec PyProof.Rows

theorem compLoop_any {prog : Program} {w : World} {A : Around} {R : Result → Shared → Prop} {s : Shared} {elt target iter : Expr} {ifs : List Expr} {scope : Scope} {pos : Pos} {it acc : Value} {env : Env} (I : Nat → Shared → Prop)
    (turn : ∀ n s, I n s → wpAny (model prog w) A (pyNext it) (fun r s₁ => match r with
      | none => R (.ok .next) s₁
      | some v => wpAny (model prog w) A (letOwnedTupleGo target it v) (fun _ s₁ => wpAny (model prog w) A (assign target env v) (fun _ s₂ =>
          wpAny (model prog w) A (forIn ifs true fun c r => if r = true then do let ok ← isTrue c env (eval c env); pure (ForInStep.yield ok) else pure (ForInStep.yield r)) (fun ok s₃ =>
            if ok = true then wpAny (model prog w) A (eval elt env) (fun x s₄ =>
              wpAny (model prog w) A (call (.builtin "list.append") [acc, x]) (fun _ s₅ => ∃ m, m < n ∧ I m s₅) (notedBy (model prog w) A env fun e s' => R (.error e) s') s₄) (notedBy (model prog w) A env fun e s' => R (.error e) s') s₃
            else ∃ m, m < n ∧ I m s₃) (notedBy (model prog w) A env fun e s' => R (.error e) s') s₂) (notedBy (model prog w) A env fun e s' => R (.error e) s') s₁) (notedBy (model prog w) A env fun e s' => R (.error e) s') s₁) (notedBy (model prog w) A env fun e s' => R (.error e) s') s)
    (n : Nat) (h : I n s) :
    codeAny (model prog w) A (.compLoop (.ListComp elt [⟨target, iter, ifs, 0⟩] scope pos) 0 it acc env) R s := by
  refine codeAny_loop rfl I (fun n s hI => ?_) n h
  show wpAny _ A ((compTurn (.ListComp elt [⟨target, iter, ifs, 0⟩] scope pos) 0 it acc env).onRaise (fun x => do noteFrame x env; theTreesLotGoes x)) _ _ s
  refine wpAny_noted ?_
  rw [compTurn_list]
  refine wpAny_bind (wpAny_standAt (wpAny_bind (wpAny_mono (turn n s hI) (fun r s₁ h₁ => ?_) fun _ _ h' => h')))
  cases r with
  | none => exact wpAny_pure h₁
  | some v =>
    refine wpAny_bind (wpAny_mono h₁ (fun _ s₁ h₁ => ?_) fun _ _ h' => h')
    refine wpAny_bind (wpAny_mono h₁ (fun _ s₂ h₂ => wpAny_bind (wpAny_mono h₂ (fun ok s₃ h₃ => ?_) fun _ _ h' => h')) fun _ _ h' => h')
    cases ok with
    | false => exact wpAny_pure ⟨rfl, h₃⟩
    | true =>
      exact wpAny_bind (wpAny_bind (wpAny_mono h₃ (fun x s₄ h₄ => wpAny_bind (wpAny_mono h₄ (fun _ s₅ h₅ => wpAny_pure (wpAny_pure ⟨rfl, h₅⟩)) fun _ _ h' => h')) fun _ _ h' => h'))

noncomputable def clo (env : Env) : List (Str × NameKind) → List (Str × Addr) → List (Str × Addr)
  | [], cs => cs
  | (n, k) :: r, cs => clo env r (if (k == .free) = true then (match env.cells.lookup n with | some c => (n, c) :: cs | none => cs) else cs)
theorem clo_loop {env : Env} : ∀ (names : List (Str × NameKind)) (cs : List (Str × Addr)), (∀ y ∈ names, y.2 = .free → ∃ c, env.cells.lookup y.1 = some c) →
    (forIn (m := Sem) names cs fun (x : Str × NameKind) (r : List (Str × Addr)) => match x with | (name, kind) => if (kind == .free) = true then do let c ← cellOf env name; pure (ForInStep.yield ((name, c) :: r)) else pure (ForInStep.yield r)) = pure (clo env names cs)
  | [], cs, _ => rfl
  | (n, k) :: r, cs, h => by
    rw [List.forIn_cons]
    have ih := fun cs => clo_loop r cs fun y hy => h y (List.mem_cons_of_mem _ hy)
    by_cases hk : (k == NameKind.free) = true
    · obtain ⟨c, hc⟩ := h (n, k) List.mem_cons_self (by simpa using hk)
      have e : cellOf env n = pure c := by unfold cellOf; rw [show env.cells.lookup n = some c from hc]
      simp only [hk, if_true, e, clo]
      rw [show env.cells.lookup n = some c from hc]
      exact ih _
    · simp only [hk, clo]
      exact ih _
theorem clo_closure {scope : Scope} {env : Env} (h : ∀ y ∈ scope.names, y.2 = .free → ∃ c, env.cells.lookup y.1 = some c) : closureFor scope env = pure (clo env scope.names []) := by
  unfold closureFor
  show (forIn (m := Sem) scope.names ([] : List (Str × Addr)) _ >>= fun r => pure r) = _
  rw [clo_loop scope.names [] h]
  rfl

theorem clo_cells {env : Env} {x : Str} {c : Addr} : ∀ (names : List (Str × NameKind)) (cs : List (Str × Addr)), (clo env names cs).lookup x = some c → env.cells.lookup x = some c ∨ cs.lookup x = some c
  | [], cs, h => .inr h
  | (n, k) :: r, cs, h => by
    unfold clo at h
    rcases clo_cells r _ h with q | q
    · exact .inl q
    · split at q
      · split at q
        · rename_i c' hc
          rw [List.lookup_cons] at q
          cases hx : x == n with
          | true =>
            rw [hx] at q
            have e : x = n := by simpa using hx
            subst e
            simp only [Option.some.injEq] at q
            subst q
            exact .inl hc
          | false => rw [hx] at q; exact .inr q
        · exact .inr q
      · exact .inr q
theorem clo_has {env : Env} {x : Str} {c : Addr} (hc : env.cells.lookup x = some c) : ∀ (names : List (Str × NameKind)) (cs : List (Str × Addr)), (cs.lookup x = some c ∨ (cs.lookup x = none ∧ (x, NameKind.free) ∈ names)) → (clo env names cs).lookup x = some c
  | [], cs, h => by
    rcases h with h | ⟨_, h⟩
    · exact h
    · cases h
  | (n, k) :: r, cs, h => by
    unfold clo
    refine clo_has hc r _ ?_
    by_cases hx : x = n
    · subst hx
      by_cases hk : (k == NameKind.free) = true
      · rw [if_pos hk, hc]
        exact .inl (by simp [List.lookup_cons])
      · rw [if_neg hk]
        rcases h with h | ⟨h1, h2⟩
        · exact .inl h
        · refine .inr ⟨h1, ?_⟩
          rcases List.mem_cons.mp h2 with e | e
          · cases e; exact absurd rfl hk
          · exact e
    · have hb : (x == n) = false := by simpa using hx
      have key : ∀ cs' : List (Str × Addr), cs'.lookup x = cs.lookup x → (cs'.lookup x = some c ∨ (cs'.lookup x = none ∧ (x, NameKind.free) ∈ r)) := fun cs' e => by
        rw [e]
        rcases h with h | ⟨h1, h2⟩
        · exact .inl h
        · refine .inr ⟨h1, ?_⟩
          rcases List.mem_cons.mp h2 with e | e
          · cases e; exact absurd rfl hx
          · exact e
      refine key _ ?_
      split
      · split
        · simp [List.lookup_cons, hb]
        · rfl
      · rfl
theorem relabel_kind {env : Env} {k' : NameKind} : ∀ {names : List (Str × NameKind)} {x : Str}, (∀ y ∈ names, y.2 ≠ .cell) →
    (names.map fun (n, k) => if (k == NameKind.free && env.scope.kind == .function && env.kindOf n == some .cell) then (n, NameKind.cell) else (n, k)).lookup x = some k' → (k' = .cell ∨ k' = .free) → (x, NameKind.free) ∈ names
  | [], _, _, h, _ => by simp at h
  | (n, k) :: r, x, hc, h, hk => by
    have ih := @relabel_kind env k' r x (fun y hy => hc y (List.mem_cons_of_mem _ hy))
    have h' : List.lookup x ((if (k == NameKind.free && env.scope.kind == .function && env.kindOf n == some .cell) = true then (n, NameKind.cell) else (n, k)) :: (r.map fun (n, k) => if (k == NameKind.free && env.scope.kind == .function && env.kindOf n == some .cell) then (n, NameKind.cell) else (n, k))) = some k' := h
    by_cases hx : x = n
    · subst hx
      by_cases q : (k == NameKind.free && env.scope.kind == .function && env.kindOf x == some .cell) = true
      · have : k = .free := by simp only [Bool.and_eq_true, beq_iff_eq] at q; exact q.1.1
        subst this
        exact List.mem_cons_self
      · rw [if_neg q, List.lookup_cons] at h'
        simp only [beq_self_eq_true] at h'
        have e : k = k' := Option.some.inj h'
        rcases hk with z | z
        · exact absurd (e.trans z) (hc (x, k) List.mem_cons_self)
        · rw [e.trans z]; exact List.mem_cons_self
    · have hb : (x == n) = false := by simpa using hx
      refine List.mem_cons_of_mem _ (ih ?_ hk)
      split at h'
      · rw [List.lookup_cons, hb] at h'; exact h'
      · rw [List.lookup_cons, hb] at h'; exact h'
theorem lookup_relabel_free {env : Env} : ∀ {names : List (Str × NameKind)} {x : Str}, names.lookup x = some .free →
    (names.map fun (n, k) => if (k == NameKind.free && env.scope.kind == .function && env.kindOf n == some .cell) then (n, NameKind.cell) else (n, k)).lookup x = some .cell ∨
    (names.map fun (n, k) => if (k == NameKind.free && env.scope.kind == .function && env.kindOf n == some .cell) then (n, NameKind.cell) else (n, k)).lookup x = some .free
  | [], _, h => by simp at h
  | (n, k) :: r, x, h => by
    have ih := @lookup_relabel_free env r x
    show List.lookup x ((if (k == NameKind.free && env.scope.kind == .function && env.kindOf n == some .cell) = true then (n, NameKind.cell) else (n, k)) :: _) = _ ∨ List.lookup x ((if (k == NameKind.free && env.scope.kind == .function && env.kindOf n == some .cell) = true then (n, NameKind.cell) else (n, k)) :: _) = _
    cases hx : x == n with
    | true =>
      simp only [List.lookup_cons, hx] at h
      cases h
      split
      · left; simp [List.lookup_cons, hx]
      · right; simp [List.lookup_cons, hx]
    | false =>
      simp only [List.lookup_cons, hx] at h
      split
      · simp only [List.lookup_cons, hx]; exact ih h
      · simp only [List.lookup_cons, hx]; exact ih h

structure Blk where
  s : Shared
  H : Hp
  C : Addr
  fp : List Addr
noncomputable abbrev Cx.blk (X : Cx) (scope : Scope) (N' : List Str) (b : Blk) : Cx :=
  { X with N := N', s₀ := b.s, H₀ := b.H, env := compEnvC scope (clo X.env scope.names []) b.C X.env, outer := X.stack, ex := b.fp, fn := fun _ => false, pn := [], xe := fun _ _ => False }
noncomputable def around (N : List Str) (fs : List Nat) : List Str := fs.map fun j => N.getD j ""
noncomputable def compOkB (N : List Str) (esc scope : Scope) (xs : List Str) (fs : List Nat) : Bool :=
  decide (xs ++ around N fs).Nodup && (match scope.kind with | .function => true | _ => false) && xs.all (fun x => decide (scope.names.lookup x = some .local)) &&
  scope.names.all (fun y => decide (y.2 ≠ .cell) && (!decide (y.2 = .local) || decide (scope.names.lookup y.1 = some .local)) && (!decide (y.2 = .free) || decide (esc.names.lookup y.1 = some .cell) || decide (esc.names.lookup y.1 = some .free))) &&
  fs.all fun j => decide (j < N.length) && decide (scope.names.lookup (N.getD j "") = some .free)
structure CompOk (N : List Str) (esc scope : Scope) (xs : List Str) (fs : List Nat) : Prop where
  nd : (xs ++ around N fs).Nodup
  kind : scope.kind = .function
  own : ∀ x ∈ xs, scope.names.lookup x = some .local
  cell : ∀ y ∈ scope.names, y.2 ≠ .cell
  names : ∀ y ∈ scope.names, y.2 = .local → scope.names.lookup y.1 = some .local
  free : ∀ y ∈ scope.names, y.2 = .free → esc.names.lookup y.1 = some .cell ∨ esc.names.lookup y.1 = some .free
  fs : ∀ j ∈ fs, j < N.length ∧ scope.names.lookup (N.getD j "") = some .free
theorem compOk_of {N : List Str} {esc scope : Scope} {xs : List Str} {fs : List Nat} (h : compOkB N esc scope xs fs = true) : CompOk N esc scope xs fs := by
  unfold compOkB at h
  simp only [Bool.and_eq_true, decide_eq_true_eq, List.all_eq_true] at h
  obtain ⟨⟨⟨⟨h1, h2⟩, h3⟩, h4⟩, h5⟩ := h
  refine ⟨h1, ?_, h3, fun y hy => (h4 y hy).1.1, fun y hy e => ?_, fun y hy e => ?_, h5⟩
  · split at h2
    · assumption
    · cases h2
  · have := (h4 y hy).1.2
    simpa [e] using this
  · have := (h4 y hy).2
    simpa [e] using this

section
variable {X : Cx} {pins : List (Addr × Obj)} {σ : St} {H : Hp} {s : Shared} {scope : Scope} {xs : List Str} {fs : List Nat} {fp : List Addr} {C : Addr}
theorem blk_ok (I : Inv X pins σ H s) (O : CompOk X.N X.env.scope scope xs fs) (hf : ∀ b ∈ fp, FpOk X pins H b) (hC : s.heap.objs.size ≤ C) (hfp : ∀ b ∈ fp, b < s.heap.objs.size) : (X.blk scope (xs ++ around X.N fs) ⟨s, H, C, fp⟩).Ok := by
  have hcl : ∀ x c, (clo X.env scope.names []).lookup x = some c → X.env.cells.lookup x = some c := fun x c e => by
    rcases clo_cells _ _ e with q | q
    · exact q
    · cases q
  have hsz : ∀ b o, X.base.get? b = some o → b < X.s₀.heap.objs.size := fun b o e => Nat.lt_of_lt_of_le (Heap.lt_size e) I.ok.bsz
  refine ⟨I.ok.mod, O.kind, I.ok.glob, I.ok.blt, hC, fun x y c h1 h2 => I.ok.inj x y c (hcl x c h1) (hcl y c h2), fun x hx => ?_, fun x c z => (by cases z), I.ok.hd, I.ok.frames, .inl rfl, fun b hb => ⟨Nat.ne_of_lt (Nat.lt_of_lt_of_le (hfp b hb) hC), fun x c e => (hf b hb).2.2.2.2.1 x c (hcl x c e)⟩, I.bs, Nat.le_trans I.ok.bsz I.sz, fun b o e hb => ?_, fun b hb hs => ?_, I.stack, I.stkFree⟩
  · have hm : (x, NameKind.free) ∈ scope.names := by
      rcases hx with hx | hx
      · exact relabel_kind (env := X.env) O.cell (show (scope.names.map _).lookup x = some NameKind.cell from hx) (.inl rfl)
      · exact relabel_kind (env := X.env) O.cell (show (scope.names.map _).lookup x = some NameKind.free from hx) (.inr rfl)
    obtain ⟨c, hc⟩ := I.ok.has x (O.free _ hm rfl)
    exact ⟨c, clo_has hc _ _ (.inr ⟨rfl, hm⟩)⟩
  · obtain ⟨_, _, _, h4, _⟩ := hf b hb
    rcases h4 with h4 | h4
    · exact I.ok.noex b o e h4
    · exact absurd (Nat.lt_of_lt_of_le (hsz b o e) h4) (Nat.lt_irrefl _)
  · obtain ⟨_, h2, h3, _⟩ := hf b hb
    exact (List.mem_cons.mp (I.stkSub b hs)).elim h2 h3
theorem blk_in {h1 : Heap} {t : Nat} {D : Addr} {m : Str → Option Value} (I : Inv X pins σ H s) (O : CompOk X.N X.env.scope scope xs fs) (hf : ∀ b ∈ fp, FpOk X pins H b) (hD : s.heap.objs.size ≤ D) (hC : s.heap.objs.size ≤ C) (hfp : ∀ b ∈ fp, b < s.heap.objs.size) (hDC : D ≠ C)
    (k : ∀ b u, s.heap.get? b = some u → h1.get? b = some u) (hDo : h1.get? D = some { cls := .type "list", data := .seq #[] 0 }) (hn : h1.Ns C m) :
    Inv (X.blk scope (xs ++ around X.N fs) ⟨s, H, C, fp⟩) [] (xs.map (fun _ => none) ++ fs.map fun j => σ.getD j none) (upd H D (.lst [])) { s with heap := h1, toks := t } := by
  have hcl : ∀ x c, (clo X.env scope.names []).lookup x = some c → X.env.cells.lookup x = some c := fun x c e => by
    rcases clo_cells _ _ e with q | q
    · exact q
    · cases q
  have ok := blk_ok (C := C) I O hf hC hfp
  have hnD : H D = none := I.hok.fresh hD
  refine ⟨ok, rfl, I.bare, Un.laid k hD hnD, ⟨m, hn, fun i x v e1 e2 e3 => ?_⟩, fun x c e => ?_, ?_, fun x c e => ?_, fun p hp => absurd (show p ∈ ([] : List (Addr × Obj)) from hp) (by simp), I.hok.laid k hD ⟨Nat.zero_le _, [], 0, .nil, hDo⟩, by simp [around]⟩
  · by_cases hi : i < xs.length
    · rw [List.getElem?_append_left (by simpa using hi), List.getElem?_map] at e2
      cases q : xs[i]? with
      | none => rw [q] at e2; cases e2
      | some a => rw [q] at e2; cases e2
    · have hi : xs.length ≤ i := Nat.le_of_not_lt hi
      rw [List.getElem?_append_right (by simpa using hi)] at e1 e2
      unfold around at e1
      rw [List.length_map] at e2
      rw [List.getElem?_map] at e1 e2
      cases q : fs[i - xs.length]? with
      | none => rw [q] at e2; cases e2
      | some j =>
        rw [q] at e1 e2
        simp only [Option.map_some, Option.some.injEq] at e1 e2
        obtain ⟨hj, hl⟩ := O.fs j (List.mem_of_getElem? q)
        obtain ⟨m0, _, hl0⟩ := I.loc
        have e1' : X.N[j]? = some x := by rw [← e1, List.getD_eq_getElem?_getD, List.getElem?_eq_getElem hj]; rfl
        have e2' : σ[j]? = some (some v) := by
          rw [List.getD_eq_getElem?_getD] at e2
          cases z : σ[j]? with
          | none => rw [z] at e2; cases e2
          | some y => rw [z] at e2; simp only [Option.getD_some] at e2; rw [e2]
        rw [e1] at hl
        have hm : (x, NameKind.free) ∈ scope.names := PySem.mem_of_lookup hl
        have hk := O.free _ hm rfl
        obtain ⟨u, r, l⟩ := hl0 j x v e1' e2' (hk.elim (fun z => .inr (.inl z)) fun z => .inr (.inr z))
        refine ⟨u, r, ?_⟩
        rcases l with ⟨z, _⟩ | ⟨_, c, hc, cell⟩
        · have z' : X.env.scope.names.lookup x = some .local := z
          rcases hk with hk | hk <;> (rw [z'] at hk; cases hk)
        · refine .inr ⟨?_, c, clo_has hc _ _ (.inr ⟨rfl, hm⟩), ?_⟩
          · exact lookup_relabel_free (env := X.env) hl
          · obtain ⟨o, ho, hd⟩ := cell
            exact ⟨o, k _ _ ho, hd⟩
  · obtain ⟨v, o, ho, hd⟩ := I.cell x c (hcl x c e)
    exact ⟨v, o, k _ _ ho, hd⟩
  · show upd H D (.lst []) C = none
    rw [upd_ne (Ne.symm hDC)]; exact I.hok.fresh hC
  · obtain ⟨v, q⟩ := I.cell x c (hcl x c e)
    rw [upd_ne (Nat.ne_of_lt (Nat.lt_of_lt_of_le q.lt hD))]
    exact I.freeC x c (hcl x c e)
theorem blk_out {N' : List Str} {σ' : St} {H' : Hp} {s' : Shared} {h2 : Heap} {pl : List (Addr × Obj)} (I : Inv X pins σ H s) (hf : ∀ b ∈ fp, FpOk X pins H b) (hC : s.heap.objs.size ≤ C) (J : Inv (X.blk scope N' ⟨s, H, C, fp⟩) pl σ' H' s') (sb : Heap.SameBut C s'.heap h2) :
    Inv X pins σ H' { s' with heap := h2 } := by
  have u := J.base
  have ne : ∀ b o, s.heap.get? b = some o → b ≠ C := fun b o e => Nat.ne_of_lt (Nat.lt_of_lt_of_le (Heap.lt_size e) hC)
  refine I.call' (ch := fp) J.os ⟨fun b o e n h1 h2 => (sb.2 b (ne b o e)).trans (u.keep b o e n h1 h2), fun b o e n h1 h2 => ?_, u.free, fun b o e hx => ?_, u.tups, u.frzs, u.tbls⟩ (fun a o e => ?_) J.bare fun b hb => ?_
  · obtain ⟨sl, q⟩ := u.slot b o e n h1 h2
    exact ⟨sl, (sb.2 b (ne b o e)).trans q⟩
  · obtain ⟨o', q⟩ := u.there b o e hx
    exact ⟨o', (sb.2 b (ne b o e)).trans q⟩
  · have fr : H' C = none := J.free
    refine (J.hok a o e).stay (fun b v hc q => (sb.2 b ?_).trans q) (fun _ q => q) fun _ _ q => q
    rcases hc with rfl | hc
    · exact ne_of_none e fr
    · exact ne_of_none hc fr
  · obtain ⟨_, h2, h3, h4, h5, h6⟩ := hf b hb
    exact ⟨h4, h2, h5, h6⟩
end
end L2

set_option Elab.async false
set_option linter.all false
set_option maxRecDepth 100000
set_option maxHeartbeats 4000000
namespace L2
open PySem PySem.Spec PyProof.Rows

noncomputable def Kept (σ σ' : St) : Prop := ∀ (i : Nat) (v : V), σ[i]? = some (some v) → σ'[i]? = some (some v)
noncomputable def PTs (X : Cx) (ifs : List Expr) (t : TT) : Prop :=
  ∀ (pins : List (Addr × Obj)) (s : Shared) (σ : St) (H : Hp) (Q : Bool → Hp → Prop), Inv X pins σ H s → t σ H Q →
    wpAny (model X.prog X.w) X.A (forIn ifs true fun c r => if r = true then do let ok ← isTrue c X.env (eval c X.env); pure (ForInStep.yield ok) else pure (ForInStep.yield r)) (TP X pins σ Q) X.xe s
noncomputable def tYes : TT := fun _ H Q => Q true H
theorem pts_nil {X : Cx} : PTs X [] tYes := fun _ _ _ H _ I h => wpAny_tests_nil ⟨H, I, h⟩
noncomputable def CompTail (σ0 : St) (g : Blk → TG) (tt : Blk → TT) (te : Blk → TE) (Q : VK) (J : It) (H1 : Hp) : Prop := ∀ (b : Blk) (D : Addr), H1 D = none → ∃ W : Nat → Nat → List V → Hp → Prop, (∃ m, W 0 m [] (upd H1 D (.lst []))) ∧ ∀ i m ys H2, W i m ys H2 → H2 D = some (.lst ys) ∧
  ((J.stop i H2 ∧ Q (.ref D) H2) ∨ (J.go i H2 ∧ ∀ x H3, J.yld i H2 x H3 → g b x σ0 H3 fun σ6 H6 => Kept σ0 σ6 ∧ tt b σ6 H6 fun ok H7 =>
    if ok = true then te b σ6 H7 fun y H8 => H8 D = some (.lst ys) ∧ ys.length < sizeLine ∧ ∃ m', m' < m ∧ W (i + 1) m' (ys ++ [y]) (upd H8 D (.lst (ys ++ [y])))
    else ∃ m', m' < m ∧ W (i + 1) m' ys H7))
noncomputable def tComp (wi : TI) (n : Nat) (fs : List Nat) (g : Blk → TG) (tt : Blk → TT) (te : Blk → TE) : TE := fun σ H Q => wi σ H (CompTail (List.replicate n none ++ fs.map fun j => σ.getD j none) g tt te Q)

section
variable {X : Cx} {pins : List (Addr × Obj)} {σ : St} {scope : Scope} {xs : List Str} {fs : List Nat} {elt tg iter : Expr} {ifs : List Expr} {pos : Pos} {wi : TI} {g : Blk → TG} {tt : Blk → TT} {te : Blk → TE}
theorem turned_of {H : Hp} {s : Shared} {C : Addr} {h2 : Heap} (I : Inv X pins σ H s) (F : FpOk X pins H C) (sb : Heap.SameBut C s.heap h2) : Inv X pins σ H { s with heap := h2 } :=
  I.turned (t' := s.toks) (fun b o hb e => (sb.2 b hb).trans e) F.1 F.2.1 F.2.2.2.1 F.2.2.2.2.1 F.2.2.2.2.2
theorem comp_run {Q : VK} {itv : Value} {s2 : Shared} {E : Value → Shared → Prop} {RR : Value → Addr → Result → Shared → Prop} (hc : X.calm = true) (O : CompOk X.N X.env.scope scope xs fs)
    (hg : ∀ b, PG (X.blk scope (xs ++ around X.N fs) b) tg (g b)) (ht : ∀ b, PTs (X.blk scope (xs ++ around X.N fs) b) ifs (tt b)) (he : ∀ b, PE (X.blk scope (xs ++ around X.N fs) b) elt (te b))
    (h : PIE X pins σ tg (CompTail (List.replicate xs.length none ++ fs.map fun j => σ.getD j none) g tt te Q) itv s2)
    (hR : ∀ D C s' m H', s'.heap.Ns C m → Inv X pins σ H' s' → Q (.ref D) H' → FpOk X pins H' C → RR (.ref D) C (.ok .next) s') :
    wpAny (model X.prog X.w) X.A (newList []) (fun acc s₃ => wpAny (model X.prog X.w) X.A (newFunctionEnv scope X.env.globals (clo X.env scope.names []) [] X.env.qual none .none (some X.env)) (fun cenv s₄ =>
      codeAny (model X.prog X.w) X.A (.compStart (.ListComp elt [⟨tg, iter, ifs, 0⟩] scope pos) 0 itv acc { cenv with scope := relabel scope X.env }) (RR acc cenv.locals) s₄) E s₃) E s2 := by
  obtain ⟨it, fp, tn, J, H2, rfl, I2, T, st2, f2, rd⟩ := h
  have hfp : ∀ b ∈ fp, b < s2.heap.objs.size := fun b hb => by
    obtain ⟨o, e, _⟩ := T.obj _ _ st2 b hb
    exact Heap.lt_size e
  refine wpAny_newObj_type (wpAny_newFunctionEnv O.cell (by intro y hy; simp at hy) (fun h₁ hns₁ hsb₁ => ?_) O.kind)
  dsimp only at hns₁ hsb₁ ⊢
  generalize hH2 : s2.heap.push { cls := .type "list", dict := none, data := .seq ([] : List Value).toArray } = HH at hns₁ hsb₁ ⊢
  have hC : HH.objs.size = s2.heap.objs.size + 1 := by rw [← hH2, Heap.size_push]
  have hDC : s2.heap.objs.size ≠ HH.objs.size := by rw [hC]; exact Nat.ne_of_lt (Nat.lt_succ_self _)
  have hCle : s2.heap.objs.size ≤ HH.objs.size := by rw [hC]; exact Nat.le_succ _
  have old : ∀ b o, s2.heap.get? b = some o → h₁.get? b = some o := fun b o e => hsb₁.extBut b o (by rw [hC]; exact Nat.ne_of_lt (Nat.lt_succ_of_lt (Heap.lt_size e))) (Heap.get?_push_of_some _ (hH2 ▸ Heap.get?_push_of_some _ e))
  have hacc : h₁.get? s2.heap.objs.size = some { cls := .type "list", data := .seq #[] 0 } := hsb₁.extBut _ _ hDC (Heap.get?_push_of_some _ (hH2 ▸ Heap.get?_push_size _ rfl))
  obtain ⟨W, ⟨m0, w0⟩, turn⟩ := rd ⟨s2, H2, HH.objs.size, fp⟩ s2.heap.objs.size I2.fresh
  have I3 := blk_in (t := s2.toks + ([] : List (Str × Value)).length) I2 O f2 (Nat.le_refl _) hCle hfp hDC old hacc hns₁
  rw [show xs.map (fun _ => (none : Option V)) = List.replicate xs.length none from List.map_const' ..] at I3
  generalize hX : X.blk scope (xs ++ around X.N fs) ⟨s2, H2, HH.objs.size, fp⟩ = X' at I3
  have stat : ∀ {H' : Hp}, (∀ b ∈ fp, H' b = none) → ∀ b ∈ fp, FpOk X' [] H' b := fun hn b hb => by
    subst hX
    refine ⟨hn b hb, ?_, ?_, .inl hb, fun x c e => ?_, fun p hp => absurd hp (by simp)⟩
    · exact (I3.ok.exf b hb).1
    · exact I3.ok.exfs b hb
    · exact (I3.ok.exf b hb).2 x c e
  have fr3 : ∀ b ∈ fp, upd H2 s2.heap.objs.size (.lst []) b = none := fun b hb => by
    rw [upd_ne (Nat.ne_of_lt (hfp b hb))]; exact (f2 b hb).1
  have ccell : ∀ y c, X.env.cells.lookup y = some c → c ≠ HH.objs.size := fun y c e => by
    obtain ⟨v, q⟩ := I2.cell y c e
    exact Nat.ne_of_lt (Nat.lt_of_lt_of_le q.lt hCle)
  have cloc : HH.objs.size ≠ X.env.locals := (Nat.ne_of_lt (Nat.lt_of_lt_of_le I2.lt hCle)).symm
  have eP : X'.prog = X.prog := by rw [← hX]
  have ew : X'.w = X.w := by rw [← hX]
  have eK : X'.K = X.K := by rw [← hX]
  have eA : X'.A = X.A := by rw [← hX]
  have ec : X'.calm = true := by rw [← hX]; exact hc
  have ex : X'.xe = fun _ _ => False := by rw [← hX]
  have een : X'.env = compEnvC scope (clo X.env scope.names []) HH.objs.size X.env := by rw [← hX]
  have hg' := hg ⟨s2, H2, HH.objs.size, fp⟩
  have ht' := ht ⟨s2, H2, HH.objs.size, fp⟩
  have he' := he ⟨s2, H2, HH.objs.size, fp⟩
  rw [hX] at hg' ht' he'
  have st1 : tn 0 h₁ := T.keep _ _ _ st2 fun b hb o e => old b o e
  have loop : ∀ s₃ : Shared, s₃ = { s2 with heap := h₁, toks := s2.toks + ([] : List (Str × Value)).length } →
      codeAny (model X.prog X.w) X.A (.compLoop (.ListComp elt [⟨tg, iter, ifs, 0⟩] scope pos) 0 (.ref it) (.ref s2.heap.objs.size) (compEnvC scope (clo X.env scope.names []) HH.objs.size X.env))
        (RR (.ref s2.heap.objs.size) HH.objs.size) s₃ := by
    rintro s₃ rfl
    refine compLoop_any (fun n s' => ∃ i ys H', Inv X' [] (List.replicate xs.length none ++ fs.map fun j => σ.getD j none) H' s' ∧ tn i s'.heap ∧ (∀ b ∈ fp, H' b = none) ∧ W i n ys H') ?_ m0 ⟨0, [], _, I3, st1, fr3, w0⟩
    rintro n s4 ⟨i, ys, H4, I4, st4, fr4, w4⟩
    obtain ⟨hD4, tn4⟩ := turn i n ys H4 w4
    rcases tn4 with ⟨stop, qn⟩ | ⟨go, step⟩
    · have td := T.done X' eP ew eK ec i [] s4 _ H4 (notedBy (model X.prog X.w) X.A (compEnvC scope (clo X.env scope.names []) HH.objs.size X.env) fun e s' => RR (.ref s2.heap.objs.size) HH.objs.size (.error e) s') I4 (stat fr4) st4 stop
      rw [eA] at td
      refine thn td fun r s5 ⟨hr, I5⟩ => ?_
      subst hr
      obtain ⟨m5, hn5, _⟩ := I5.loc
      rw [een] at hn5
      have fr5 : H4 HH.objs.size = none := by have := I5.free; rw [een] at this; exact this
      rw [← hX] at I5
      exact hR _ _ _ m5 H4 hn5 (blk_out I2 f2 hCle I5 (Heap.SameBut.refl ..)) qn (I2.fpOk hCle fr5)
    · have ti := T.item X' eP ew eK ec i [] s4 _ H4 (notedBy (model X.prog X.w) X.A (compEnvC scope (clo X.env scope.names []) HH.objs.size X.env) fun e s' => RR (.ref s2.heap.objs.size) HH.objs.size (.error e) s') I4 (stat fr4) st4 go
      rw [eA] at ti
      refine thn ti fun r s5 ⟨u, hr, h5⟩ => ?_
      subst hr
      refine thn h5 fun _ s6 ⟨x, H6, I6, r6, y6, st6, fr6⟩ => ?_
      have I6' := I6.pinned (stat fr6) (T.obj _ _ st6)
      have g1 := hg' _ s6 _ H6 x u _ I6' r6 (step x H6 y6)
      rw [eP, ew, eA, een, ex] at g1
      refine wpAny_mono g1 (fun _ s7 ⟨σ7, H7, I7, kp7, q7⟩ => ?_) fun _ _ z => z.elim
      have t1 := ht' _ s7 σ7 H7 _ I7 q7
      rw [eP, ew, eA, een, ex] at t1
      have back : ∀ {H9 : Hp} {s9 : Shared}, Inv X' ([] ++ pinsAt fp s6.heap) σ7 H9 s9 → Inv X' [] (List.replicate xs.length none ++ fs.map fun j => σ.getD j none) H9 s9 ∧ tn (i + 1) s9.heap ∧ ∀ b ∈ fp, H9 b = none := fun {H9 s9} I9 => by
        refine ⟨I9.unpinned.weak ?_ kp7, T.keep _ _ _ st6 fun b hb o e => (I9.pin (b, o) (List.mem_append_right _ (List.mem_append_right _ (mem_pinsAt hb e)))).1, fun b hb => ?_⟩
        · rw [I9.len, I4.len]
        · obtain ⟨o, e, d⟩ := T.obj _ _ st6 b hb
          exact (I9.pin (b, o) (List.mem_append_right _ (List.mem_append_right _ (mem_pinsAt hb e)))).2.1
      refine wpAny_mono t1 (fun ok s8 ⟨H8, I8, q8⟩ => ?_) fun _ _ z => z.elim
      cases ok with
      | false =>
        rw [if_neg Bool.false_ne_true] at q8 ⊢
        obtain ⟨m', hm, w8⟩ := q8
        obtain ⟨b1, b2, b3⟩ := back I8
        exact ⟨m', hm, i + 1, ys, H8, b1, b2, b3, w8⟩
      | true =>
        rw [if_pos rfl] at q8 ⊢
        have e1 := he' _ s8 σ7 H8 _ I8 q8
        rw [eP, ew, eA, een, ex] at e1
        refine wpAny_mono e1 (fun uy s9 ⟨y, H9, I9, r9, hD9, hz, m', hm, w9⟩ => ?_) fun _ _ z => z.elim
        have a1 := mt_append (X := X') (pins := [] ++ pinsAt fp s6.heap) (s := s9) (σ := σ7) (H := H9) (x := .ref s2.heap.objs.size) (xs := [y]) (v := .ref s2.heap.objs.size) (us := [uy]) (Q := fun _ H' => H' = upd H9 s2.heap.objs.size (.lst (ys ++ [y]))) I9 rfl (.cons r9 .nil) ⟨_, ys, y, rfl, rfl, hD9, hz, rfl⟩
        rw [eP, ew, eA, ex] at a1
        refine wpAny_mono a1 (fun _ s10 ⟨_, H10, I10, _, e10⟩ => ?_) fun _ _ z => z.elim
        subst e10
        obtain ⟨b1, b2, b3⟩ := back I10
        exact ⟨m', hm, i + 1, _, _, b1, b2, b3, w9⟩
  exact codeAny_compStart_list (loop _ rfl) (T.self _ 0 _ _ _ st1 (loop _ rfl))
theorem pe_compG (hc : X.calm = true) (hok : compOkB X.N X.env.scope scope xs fs = true) (hi : PI X tg iter wi)
    (hg : ∀ b, PG (X.blk scope (xs ++ around X.N fs) b) tg (g b)) (ht : ∀ b, PTs (X.blk scope (xs ++ around X.N fs) b) ifs (tt b)) (he : ∀ b, PE (X.blk scope (xs ++ around X.N fs) b) elt (te b))
    (hs : ∀ x, foldedSetIterable iter X.env x = pure x := by intro _; rfl) :
    PE X (.ListComp elt [⟨tg, iter, ifs, 0⟩] scope pos) (tComp wi xs.length fs g tt te) := by
  intro pins s σ H Q I h
  have O := compOk_of hok
  rw [eval_ListComp]
  refine wpAny_comprehension_free (use := none) rfl hs (clo_closure fun y hy hf => I.ok.has _ (O.free y hy hf)) O.kind O.names (thn (hi pins s σ H _ I h) fun v s1 h1 => thn h1 fun itv s2 h2 => ?_)
  exact comp_run (RR := fun acc C => compPost (model X.prog X.w) X.A X.xe none (EP X pins σ Q) acc C) hc O hg ht he h2 fun D C s' m H' hn I' q F => ⟨m, hn, fun h2 sb => ⟨.ref D, H', turned_of I' F sb, rfl, q⟩⟩
theorem ps_comp {y : Str} {py : Pos} {i : Nat} (hN : X.N.Nodup) (hy : X.N[i]? = some y) (hyl : X.env.kindOf y = some .local) (hc : X.calm = true) (hok : compOkB X.N X.env.scope scope xs fs = true) (hi : PI X tg iter wi)
    (hg : ∀ b, PG (X.blk scope (xs ++ around X.N fs) b) tg (g b)) (ht : ∀ b, PTs (X.blk scope (xs ++ around X.N fs) b) ifs (tt b)) (he : ∀ b, PE (X.blk scope (xs ++ around X.N fs) b) elt (te b)) {spos : Pos}
    (hsw : swapsWith (.ListComp elt [⟨tg, iter, ifs, 0⟩] scope pos) (some (.Name y py)) spos.line X.env = pure true := by rfl)
    (hs : ∀ x, foldedSetIterable iter X.env x = pure x := by intro _; rfl) :
    PS X (.Assign [.Name y py] (.ListComp elt [⟨tg, iter, ifs, 0⟩] scope pos) spos) (tAsg (tComp wi xs.length fs g tt te) (gName i)) := by
  intro pins s σ H D I h
  have O := compOk_of hok
  rw [exec_Assign_Name_used _ _ _ _ hsw]
  refine wpAny_bind (wpAny_standAt (wpAny_bind ?_))
  show wpAny _ X.A (do let _ ← comprehension (.ListComp elt [⟨tg, iter, ifs, 0⟩] scope pos) scope X.env _ (newList []) false (eval iter X.env) (some (assign (.Name y py) X.env))) _ _ s
  refine wpAny_bind (wpAny_mono (wpAny_comprehension_free (use := some (assign (.Name y py) X.env)) (Q := fun _ s' => SP X pins D .next s') rfl hs (clo_closure fun y hy hf => I.ok.has _ (O.free y hy hf)) O.kind O.names
    (thn (hi pins s σ H _ I h) fun v s1 h1 => thn h1 fun itv s2 h2 => ?_)) (fun _ s' hq => wpAny_pure (wpAny_pure hq)) fun _ _ e => e)
  refine comp_run (RR := fun acc C => compPost (model X.prog X.w) X.A X.xe (some (assign (.Name y py) X.env)) (fun _ s' => SP X pins D .next s') acc C) hc O hg ht he h2 fun D' C s' m H' hn I0 q0 F => ?_
  show wpAny _ X.A (assign (.Name y py) X.env (.ref D')) _ _ _
  refine wpAny_assign_Name (store_ok2 I0 hN hy (.inl hyl) (v := .ref D') rfl (fun s3 I3 hsb => ?_) (.inr hyl))
  obtain ⟨a, sb3, ha⟩ := hsb
  have haC : C ≠ a := by
    rcases ha with rfl | ha
    · exact F.2.1
    · exact (F.2.2.2.2.1 y a ha).symm
  exact ⟨m, hn.sameBut sb3 haC, fun h4 sb4 => ⟨_, H', turned_of I3 F sb4, q0⟩⟩
end
end L2

set_option Elab.async false
set_option linter.all false
set_option maxRecDepth 100000
set_option maxHeartbeats 4000000
namespace L2
open PySem PySem.Spec PyProof.Rows

noncomputable def Its (z : Str) : It := ⟨fun i _ => i < z.cps.size, fun i H x H' => H' = H ∧ ∃ c, z.cps[i]? = some c ∧ x = .str ⟨#[c]⟩, fun i _ => z.cps.size ≤ i⟩
noncomputable def iStr (tl : TE) : TI := fun σ H R => tl σ H fun x H1 => ∃ z, x = .str z ∧ R (Its z) H1
section
variable {P : Program} {w : World} {K : PySem.W.Frag} {tg : Expr}
theorem turn_str (ty : String) (hty : ty = "str_ascii_iterator" ∨ ty = "str_iterator") (z : Str) (t : Tok) (it : Addr) : Turn P w K tg (Its z) [it] it (fun i h => i ≤ z.cps.size ∧ h.IsStrIter it ty z t i) where
  mem := by simp
  obj := fun i h st b hb => by
    have e : b = it := by simpa using hb
    subst e
    obtain ⟨o, e, c, d⟩ := st.2
    exact ⟨o, e, fun v z => by rw [d] at z; cases z⟩
  keep := fun i h h' st k => ⟨st.1, by obtain ⟨o, e, r⟩ := st.2; exact ⟨o, k it (by simp) o e, r⟩⟩
  item := by
    intro X hP hw hK hc i pins s σ H E I hf st hg
    subst hP hw hK
    obtain ⟨f0, f1, f2, f3, f4, f5⟩ := hf it (by simp)
    have W : Walks X.prog X.w X.A it [it] [it] z.cps.size (SignAt z) (fun i h => h.IsStrIter it ty z t i) := by
      rcases hty with rfl | rfl
      · exact Walks.strAscii (I.ok.hd hc) it z t
      · exact Walks.strWide (I.ok.hd hc) it z t
    refine W.item i s _ _ hg st.2 fun v h' tk hv st' kk => ?_
    obtain ⟨c, u, hcc, rfl⟩ := hv
    have I1 : Inv X pins σ H { s with heap := h', toks := tk } := I.turned (fun b o hb e => kk b o (by simpa using hb) e) f0 f1 f3 f4 f5
    obtain ⟨o, e, cc, d⟩ := id st'
    refine ⟨_, rfl, go_of (s := { s with heap := h', toks := tk }) (n := ty) e cc d (by rcases hty with rfl | rfl <;> decide) ⟨.str ⟨#[c]⟩, H, I1, ⟨u, rfl⟩, ⟨rfl, c, hcc, rfl⟩, ⟨hg, st'⟩, fun b hb => (hf b hb).1⟩⟩
  done := by
    intro X hP hw hK hc i pins s σ H E I hf st hg
    subst hP hw hK
    obtain ⟨f0, f1, f2, f3, f4, f5⟩ := hf it (by simp)
    have W : Walks X.prog X.w X.A it [it] [it] z.cps.size (SignAt z) (fun i h => h.IsStrIter it ty z t i) := by
      rcases hty with rfl | rfl
      · exact Walks.strAscii (I.ok.hd hc) it z t
      · exact Walks.strWide (I.ok.hd hc) it z t
    have hi : i = z.cps.size := Nat.le_antisymm st.1 hg
    subst hi
    exact W.done s _ _ st.2 fun h' tk kk => ⟨rfl, I.turned (fun b o hb e => kk b o (by simpa using hb) e) f0 f1 f3 f4 f5⟩
  self := fun _ _ _ _ _ st h => by
    rcases hty with rfl | rfl
    · exact wpAny_pyIter_striter_ascii st.2 h
    · exact wpAny_pyIter_striter_wide st.2 h
end
section
variable {X : Cx} {tg : Expr}
theorem pi_str {l : Expr} {tl : TE} (hl : PE X l tl) : PI X tg l (iStr tl) := by
  intro pins s σ H R I h
  refine thn (hl pins s σ H _ I h) fun v s1 ⟨x, H1, I1, r1, q1⟩ => ?_
  obtain ⟨z, e, q⟩ := q1
  subst e
  obtain ⟨t, rfl⟩ := r1
  have fin : ∀ ty, (ty = "str_ascii_iterator" ∨ ty = "str_iterator") → PIE X pins σ tg R (.ref s1.heap.objs.size) { s1 with heap := s1.heap.push { cls := .type ty, data := .fields #[.str z t, .int 0 0] } } := fun ty hty => by
    refine ⟨s1.heap.objs.size, [s1.heap.objs.size], _, _, H1, rfl, I1.kept (t' := s1.toks) fun b o e => Heap.get?_push_of_some _ e, turn_str ty hty z t _, ⟨Nat.zero_le _, _, Heap.get?_push_size _ rfl, rfl, rfl⟩, fun b hb => ?_, q⟩
    have e : b = s1.heap.objs.size := by simpa using hb
    subst e
    exact I1.fpOk (Nat.le_refl _) I1.fresh
  cases ha : z.cps.all (· < 128)
  · exact wpAny_pyIter_wide ha (fin _ (.inr rfl))
  · exact wpAny_pyIter_ascii ha (fin _ (.inl rfl))

noncomputable def rSlS : V → Option Int → Option Int → Hp → VK → Prop := fun x lo hi H Q => ∃ z, x = .str z ∧ z.length ≤ sizeLine ∧ Q (.str (Txt.slice z lo hi)) H
theorem sl_str : SlR X rSlS := by
  intro pins s σ H x v vl vu lo hi sl Q I rx hs pl pu h
  obtain ⟨z, rfl, hz, q⟩ := h
  obtain ⟨t, rfl⟩ := rx
  obtain ⟨o, ho, hc, hd⟩ := hs
  refine ⟨"str", _, F.slot_str_getitem.lookup, typeIs_str _ _ _, ?_⟩
  have fin : ∀ (l u : Option (Int × Tok)), s.heap.IsSlice sl l u none → l.map (·.1) = lo → u.map (·.1) = hi → wpAny (model X.prog X.w) X.A (getItem (.str z t) (.ref sl)) (EP X pins σ Q) X.xe s := fun l u hsl hl hu => by
    subst hl hu
    exact wpAny_getItem_str_slice (l := l) (u := u) (st := none) hsl rfl (post_val_or_str ⟨Nat.le_trans (Txt.slice_le z _ _) hz, fun t' k => ⟨.str _, H, I.tok k, ⟨t', rfl⟩, q⟩⟩)
  cases pl <;> cases pu
  · exact fin none none ⟨o, ho, hc, hd⟩ rfl rfl
  · exact fin none (some (_, _)) ⟨o, ho, hc, hd⟩ rfl rfl
  · exact fin (some (_, _)) none ⟨o, ho, hc, hd⟩ rfl rfl
  · exact fin (some (_, _)) (some (_, _)) ⟨o, ho, hc, hd⟩ rfl rfl

theorem strsAre_of : ∀ {ys : List Str} {us : List Value}, Vals (ys.map V.str) us → StrsAre us ys
  | [], _, r => by rw [List.map_nil] at r; cases r; exact .nil
  | y :: ys, us, r => by
    rw [List.map_cons] at r
    cases r with
    | cons r1 r2 =>
      obtain ⟨t, e⟩ := r1
      subst e
      exact .cons y t (strsAre_of r2)
noncomputable def rJoin (K : PySem.W.Frag) : V → List V → Hp → VK → Prop := fun x vs H Q => ∃ z p ys, x = .str z ∧ vs = [.ref p] ∧ SqL K H p (ys.map V.str) ∧ (ys.map (·.length)).sum + ys.length * z.length ≤ 16777216 ∧ Q (.str (Txt.join z ys)) H
theorem mt_join : MtR X "str.join" (rJoin X.K) := by
  intro pins s σ H x vs v us Q I rx rv h
  obtain ⟨z, p, ys, rfl, rfl, hp, hw, q⟩ := h
  obtain ⟨t, rfl⟩ := rx
  obtain ⟨u, rfl, ru⟩ := rv.one
  cases ru
  obtain ⟨its, r, pl, hz⟩ := I.list hp
  exact join_list pl.isList (by simpa using strsAre_of r) hw fun t' k => ⟨.str _, H, I.tok k, ⟨t', rfl⟩, q⟩
noncomputable def rFind : V → List V → Hp → VK → Prop := fun x vs H Q => ∃ z y, x = .str z ∧ vs = [.str y] ∧ Q (.int (Txt.find z y)) H
noncomputable def rSplit : V → List V → Hp → VK → Prop := fun x vs H Q => ∃ z y, x = .str z ∧ vs = [.str y] ∧ (y.length == 0) = false ∧ z.length + 2 ≤ sizeLine ∧ ∀ p, H p = none → Q (.ref p) (upd H p (.lst ((Txt.split z y).map V.str)))
noncomputable def rMulS : R2 := fun x y H Q => ∃ z n, x = .str z ∧ y = .int n ∧ MulOk z n ∧ Q (.str (Txt.mul z n)) H
noncomputable def rAll (K : PySem.W.Frag) : List V → Hp → VK → Prop := fun xs H Q => ∃ (p : Addr) (bs : List Bool), xs = [.ref p] ∧ SqL K H p (bs.map V.bl) ∧ Q (.bl (bs.all id)) H
theorem call_all (hc : X.calm = true) : CallR X (.builtin "all") (rAll X.K) := by
  intro pins s σ H xs us Q I r h
  obtain ⟨p, bs, rfl, hp, q⟩ := h
  obtain ⟨u, rfl, ru⟩ := vals1 r
  cases ru
  obtain ⟨its, r, pl, hz⟩ := I.list hp
  have hlt : p < s.heap.objs.size := by obtain ⟨o, n, e, _⟩ := pl; exact Heap.lt_size e
  refine call_all_walk (wpAny_pyIter_list pl.isList ⟨s.heap.objs.size, _, _, _, _, _, fun i => bs.getD i true, rfl, Walks.list (show X.A.in1.handled = none from I.ok.hd hc) s.heap.objs.size p (Nat.ne_of_lt hlt) its.toArray, ⟨⟨_, Heap.get?_push_size _ rfl, rfl, rfl⟩, pl.isList.push _⟩, ?_, fun h' tk kk => ?_⟩)
  · intro i v s' Q' E' hP hQ'
    have hP : its.toArray[i]? = some v := hP
    have hlen := r.length
    rw [List.length_map] at hlen
    have hi : i < bs.length := by
      have := (Array.getElem?_eq_some_iff.mp hP).1
      rw [List.size_toArray] at this
      omega
    obtain ⟨u, hu, ru⟩ := r.get (i := i) (x := V.bl (bs[i])) (by simp [hi])
    have e : u = v := by
      have : its[i]? = some v := by simpa using hP
      rw [hu] at this; exact Option.some.inj this
    subst e
    cases ru
    dsimp only at hQ'
    rw [List.getD_eq_getElem?_getD, List.getElem?_eq_getElem hi] at hQ'
    exact wpAny_pure hQ'
  · refine ⟨.bl _, H, I.kept (t' := tk) fun b o e => kk b o ?_ (Heap.get?_push_of_some _ e), rfl, ?_⟩
    · simpa using Nat.ne_of_lt (Heap.lt_size e)
    · have hlen := r.length
      rw [List.length_map] at hlen
      have : ((List.range its.toArray.size).all fun i => bs.getD i true) = bs.all id := by
        rw [List.size_toArray, ← hlen]
        rw [Bool.eq_iff_iff, List.all_eq_true, List.all_eq_true]
        constructor
        · intro h x hx
          obtain ⟨i, hi, rfl⟩ := List.mem_iff_getElem.mp hx
          have := h i (by simpa using hi)
          simpa [List.getD_eq_getElem?_getD, List.getElem?_eq_getElem hi] using this
        · intro h i hi
          have hi : i < bs.length := by simpa using hi
          rw [List.getD_eq_getElem?_getD, List.getElem?_eq_getElem hi]
          exact h _ (List.getElem_mem hi)
      rw [this]; exact q
end
noncomputable abbrev TJ := Str → St → Hp → (Str → Hp → Prop) → Prop
noncomputable def jNil : TJ := fun acc _ H Q => Q acc H
noncomputable def jCons (te : TE) (tr : TJ) : TJ := fun acc σ H Q => te σ H fun x H1 => ∃ y, x = .str y ∧ (acc ++ y).length ≤ sizeLine ∧ tr (acc ++ y) σ H1 Q
noncomputable def tFstr (t : TJ) : TE := fun σ H Q => t Str.empty σ H fun out H1 => out.length ≤ sizeLine ∧ Q (.str out) H1
noncomputable def tFmt (te : TE) : TE := fun σ H Q => te σ H fun x H1 => (∃ z, x = .str z ∧ z.length ≤ sizeLine ∧ Q (.str z) H1) ∨ ∃ i, x = .int i ∧ i.natAbs.log2 < 1920 ∧ Q (.str (toString i)) H1
noncomputable def tFmtR (te : TE) : TE := fun σ H Q => te σ H fun x H1 => ∃ z, x = .str z ∧ (PySem.reprText z).length ≤ sizeLine ∧ Q (.str (PySem.reprText z)) H1
section
variable {X : Cx} {e v₁ v₂ : Expr} {es : List Expr} {te : TE} {tr t : TJ} {pos : Pos}
end
end L2

set_option Elab.async false
set_option linter.all false
set_option maxRecDepth 100000
set_option maxHeartbeats 4000000
namespace L2
open PySem PySem.Spec PyProof.Rows

noncomputable abbrev tComp1 (wi : TI) (fs : List Nat) (te : Blk → TE) : TE := tComp wi 1 fs (fun _ => gName 0) (fun _ => tYes) te
section
variable {X : Cx} {scope : Scope} {x : Str} {px : Pos} {fs : List Nat} {elt iter : Expr} {pos : Pos} {wi : TI} {te : Blk → TE}
theorem pg_own (hok : compOkB X.N X.env.scope scope [x] fs = true) (b : Blk) : PG (X.blk scope ([x] ++ around X.N fs) b) (.Name x px) (gName 0) :=
  pg_name (compOk_of hok).nd rfl (.inl (lookup_relabel_local ((compOk_of hok).own x (by simp)))) (.inr (lookup_relabel_local ((compOk_of hok).own x (by simp))))
theorem pe_comp1 (x : Str) (fs : List Nat) (hc : X.calm = true) (hok : compOkB X.N X.env.scope scope [x] fs = true) (hi : PI X (.Name x px) iter wi) (he : ∀ b, PE (X.blk scope ([x] ++ around X.N fs) b) elt (te b))
    (hs : ∀ x, foldedSetIterable iter X.env x = pure x := by intro _; rfl) : PE X (.ListComp elt [⟨.Name x px, iter, [], 0⟩] scope pos) (tComp1 wi fs te) :=
  pe_compG (xs := [x]) (g := fun _ => gName 0) (tt := fun _ => tYes) hc hok hi (pg_own hok) (fun _ => pts_nil) he hs
theorem ps_comp1 {y : Str} {py : Pos} {i : Nat} {spos : Pos} (x : Str) (fs : List Nat) (hN : X.N.Nodup) (hy : X.N[i]? = some y) (hyl : X.env.kindOf y = some .local) (hc : X.calm = true) (hok : compOkB X.N X.env.scope scope [x] fs = true) (hi : PI X (.Name x px) iter wi) (he : ∀ b, PE (X.blk scope ([x] ++ around X.N fs) b) elt (te b))
    (hsw : swapsWith (.ListComp elt [⟨.Name x px, iter, [], 0⟩] scope pos) (some (.Name y py)) spos.line X.env = pure true := by rfl)
    (hs : ∀ x, foldedSetIterable iter X.env x = pure x := by intro _; rfl) : PS X (.Assign [.Name y py] (.ListComp elt [⟨.Name x px, iter, [], 0⟩] scope pos) spos) (tAsg (tComp1 wi fs te) (gName i)) :=
  ps_comp (xs := [x]) (g := fun _ => gName 0) (tt := fun _ => tYes) hN hy hyl hc hok hi (pg_own hok) (fun _ => pts_nil) he hsw hs
end
theorem kept0 {x : Option V} {r : St} : Kept (none :: r) (x :: r) := fun i v e => by
  cases i with
  | zero => cases e
  | succ i => exact e

section
variable {K : PySem.W.Frag} {tail : St} {te : Blk → TE} {Q : VK} {H1 : Hp}
noncomputable def CompNext (D : Addr) (n i : Nat) (ys : List V) (Pv : Nat → List V → Hp → Prop) : VK := fun y H4 => H4 D = some (.lst ys) ∧ ys.length < sizeLine ∧ ∃ m', m' < n - i ∧ (m' = n - (i + 1) ∧ i + 1 ≤ n ∧ Pv (i + 1) (ys ++ [y]) (upd H4 D (.lst (ys ++ [y]))))
theorem compNext {D : Addr} {n i : Nat} {ys : List V} {Pv : Nat → List V → Hp → Prop} {y : V} {H4 : Hp} (h1 : H4 D = some (.lst ys)) (h2 : ys.length < sizeLine) (h3 : i < n) (h4 : Pv (i + 1) (ys ++ [y]) (upd H4 D (.lst (ys ++ [y])))) : CompNext D n i ys Pv y H4 :=
  ⟨h1, h2, n - (i + 1), by omega, rfl, h3, h4⟩
theorem comp_by {J : It} (n : Nat)
    (h : ∀ (b : Blk) (D : Addr), H1 D = none → ∃ Pv : Nat → List V → Hp → Prop, Pv 0 [] (upd H1 D (.lst [])) ∧ (∀ i ys H, Pv i ys H → H D = some (.lst ys)) ∧ (∀ ys H, Pv n ys H → J.stop n H ∧ Q (.ref D) H) ∧
      ∀ i ys H, i < n → Pv i ys H → J.go i H ∧ ∀ x H3, J.yld i H x H3 → te b (some x :: tail) H3 (CompNext D n i ys Pv)) : CompTail (none :: tail) (fun _ => gName 0) (fun _ => tYes) te Q J H1 := by
  intro b D hD
  obtain ⟨Pv, p0, p1, p2, p3⟩ := h b D hD
  refine ⟨fun i m ys H => m = n - i ∧ i ≤ n ∧ Pv i ys H, ⟨n, rfl, Nat.zero_le _, p0⟩, ?_⟩
  rintro i m ys H ⟨rfl, hi, p⟩
  refine ⟨p1 i ys H p, ?_⟩
  by_cases hlt : i < n
  · obtain ⟨go, st⟩ := p3 i ys H hlt p
    refine .inr ⟨go, fun x H3 y => ⟨kept0, ?_⟩⟩
    exact st x H3 y
  · have e : i = n := by omega
    subst e
    exact .inl (p2 ys H p)
theorem same_new {D : Addr} {o : HO} (h : H1 D = none) : Same H1 (upd H1 D o) := fun b u e => by rw [upd_ne (ne_of_none e h)]; exact e
theorem compS_pure {z : Str} (f : Nat → V) (hz : z.cps.size ≤ sizeLine) (he : ∀ b c H Q', c ∈ z.cps.toList → Same H1 H → Q' (f c) H → te b (some (.str ⟨#[c]⟩) :: tail) H Q')
    (q : ∀ D, H1 D = none → Q (.ref D) (upd H1 D (.lst (z.cps.toList.map f)))) : CompTail (none :: tail) (fun _ => gName 0) (fun _ => tYes) te Q (Its z) H1 := by
  refine comp_by z.cps.size (fun b D hD => ⟨fun i ys H => i ≤ z.cps.size ∧ ys = (z.cps.toList.take i).map f ∧ H = upd H1 D (.lst ys), ⟨Nat.zero_le _, rfl, rfl⟩, ?_, ?_, ?_⟩)
  · rintro i ys H ⟨hi, rfl, rfl⟩
    exact upd_same
  · rintro ys H ⟨_, rfl, rfl⟩
    refine ⟨Nat.le_refl _, ?_⟩
    have e : z.cps.toList.take z.cps.size = z.cps.toList := List.take_of_length_le (by simp)
    rw [e]; exact q D hD
  · rintro i ys H hi ⟨_, rfl, rfl⟩
    refine ⟨hi, fun x H3 ⟨e3, c, hc, ex⟩ => ?_⟩
    subst e3 ex
    have hc' : z.cps.toList[i]? = some c := by simpa using hc
    refine he b c _ _ (List.mem_of_getElem? hc') (same_new hD) (compNext upd_same (by rw [List.length_map, List.length_take, Array.length_toList]; omega) hi ⟨hi, ?_, ?_⟩)
    · rw [List.take_add_one, hc']; simp
    · funext a; by_cases ha : a = D <;> simp [upd, ha]
theorem compL_pure {a : Addr} {xs : List V} (f : V → V) (hS : SqL K H1 a xs) (hz : xs.length ≤ sizeLine) (he : ∀ b x H Q', x ∈ xs → Same H1 H → Q' (f x) H → te b (some x :: tail) H Q')
    (q : ∀ D, H1 D = none → Q (.ref D) (upd H1 D (.lst (xs.map f)))) : CompTail (none :: tail) (fun _ => gName 0) (fun _ => tYes) te Q (Itl K a) H1 := by
  refine comp_by xs.length (fun b D hD => ⟨fun i ys H => i ≤ xs.length ∧ ys = (xs.take i).map f ∧ H = upd H1 D (.lst ys), ⟨Nat.zero_le _, rfl, rfl⟩, ?_, ?_, ?_⟩)
  · rintro i ys H ⟨hi, rfl, rfl⟩
    exact upd_same
  · rintro ys H ⟨_, rfl, rfl⟩
    refine ⟨⟨xs, (same_new hD).seq hS, Nat.le_refl _⟩, ?_⟩
    rw [List.take_length]; exact q D hD
  · rintro i ys H hi ⟨_, rfl, rfl⟩
    refine ⟨⟨xs, xs[i], (same_new hD).seq hS, by simp [hi]⟩, fun x H3 ⟨e3, ex⟩ => ?_⟩
    subst e3
    have hc' := ex xs ((same_new hD).seq hS)
    refine he b x _ _ (List.mem_of_getElem? hc') (same_new hD) (compNext upd_same (by rw [List.length_map, List.length_take]; omega) hi ⟨hi, ?_, ?_⟩)
    · rw [List.take_add_one, hc']; simp
    · funext a; by_cases ha : a = D <;> simp [upd, ha]
theorem compR_pure {lo : Int} {n : Nat} (f : Int → V) (hz : n ≤ sizeLine) (he : ∀ b (i : Nat) H Q', i < n → Same H1 H → Q' (f (lo + i)) H → te b (some (.int (lo + i)) :: tail) H Q')
    (q : ∀ D, H1 D = none → Q (.ref D) (upd H1 D (.lst ((List.range n).map fun (i : Nat) => f (lo + (i : Int)))))) : CompTail (none :: tail) (fun _ => gName 0) (fun _ => tYes) te Q (Itr lo n) H1 := by
  refine comp_by n (fun b D hD => ⟨fun i ys H => i ≤ n ∧ ys = (List.range i).map (fun (i : Nat) => f (lo + (i : Int))) ∧ H = upd H1 D (.lst ys), ⟨Nat.zero_le _, rfl, rfl⟩, ?_, ?_, ?_⟩)
  · rintro i ys H ⟨hi, rfl, rfl⟩
    exact upd_same
  · rintro ys H ⟨_, rfl, rfl⟩
    exact ⟨Nat.le_refl _, q D hD⟩
  · rintro i ys H hi ⟨_, rfl, rfl⟩
    refine ⟨hi, fun x H3 ⟨e3, ex⟩ => ?_⟩
    subst e3 ex
    refine he b i _ _ hi (same_new hD) (compNext upd_same (by rw [List.length_map, List.length_range]; omega) hi ⟨hi, ?_, ?_⟩)
    · rw [List.range_succ]; simp
    · funext a; by_cases ha : a = D <;> simp [upd, ha]
end

section
variable {σ : St} {H : Hp} {Q : VK} {D : Ends} {K : PySem.W.Frag}
theorem rd_comp {wi : TI} {fs : List Nat} {te : Blk → TE} : tComp1 wi fs te σ H Q = wi σ H (CompTail (none :: fs.map fun j => σ.getD j none) (fun _ => gName 0) (fun _ => tYes) te Q) := rfl
theorem rd_istr {tl : TE} {R : It → Hp → Prop} : iStr tl σ H R = tl σ H fun x H1 => ∃ z, x = .str z ∧ R (Its z) H1 := rfl
theorem rd_sl {r : V → Option Int → Option Int → Hp → VK → Prop} {te : TE} {tl th : TO} : tSl r te tl th σ H Q = te σ H fun x H1 => tl σ H1 fun l H2 => th σ H2 fun u H3 => r x l u H3 Q := rfl
theorem rd_noPart {QO : Option Int → Hp → Prop} : tNoPart σ H QO = QO none H := rfl
theorem rd_part {t : TE} {QO : Option Int → Hp → Prop} : tPart t σ H QO = t σ H fun x H1 => ∃ i, x = .int i ∧ QO (some i) H1 := rfl
theorem rd_slS {x : V} {lo hi : Option Int} : rSlS x lo hi H Q = ∃ z, x = .str z ∧ z.length ≤ sizeLine ∧ Q (.str (Txt.slice z lo hi)) H := rfl
theorem rd_slL {x : V} {lo hi : Option Int} : rSlL K x lo hi H Q = ∃ a xs, x = .ref a ∧ SqL K H a xs ∧ ∀ p, H p = none → Q (.ref p) (upd H p (.lst (cutV xs lo hi))) := rfl
theorem rd_bm {T : String} {r : V → List V → Hp → VK → Prop} {to : TE} {t : TA} : tBM K T r to t σ H Q = to σ H fun x H1 => tyV K T x H1 ∧ t σ H1 fun xs H2 => r x xs H2 Q := rfl
theorem rd_bm0 {T : String} {r : V → List V → Hp → VK → Prop} {to : TE} : tBM0 K T r to σ H Q = to σ H fun x H1 => tyV K T x H1 ∧ r x [] H1 Q := rfl
theorem tyV_str {z : Str} : tyV K "str" (.str z) H = True := eq_true rfl
theorem rd_join {x : V} {vs : List V} : rJoin K x vs H Q = ∃ z p ys, x = .str z ∧ vs = [.ref p] ∧ SqL K H p (ys.map V.str) ∧ (ys.map (·.length)).sum + ys.length * z.length ≤ 16777216 ∧ Q (.str (Txt.join z ys)) H := rfl
theorem rd_find {x : V} {vs : List V} : rFind x vs H Q = ∃ z y, x = .str z ∧ vs = [.str y] ∧ Q (.int (Txt.find z y)) H := rfl
theorem rd_split {x : V} {vs : List V} : rSplit x vs H Q = ∃ z y, x = .str z ∧ vs = [.str y] ∧ (y.length == 0) = false ∧ z.length + 2 ≤ sizeLine ∧ ∀ p, H p = none → Q (.ref p) (upd H p (.lst ((Txt.split z y).map V.str))) := rfl
theorem rd_all {xs : List V} : rAll K xs H Q = ∃ (p : Addr) (bs : List Bool), xs = [.ref p] ∧ SqL K H p (bs.map V.bl) ∧ Q (.bl (bs.all id)) H := rfl
theorem rd_mulS {x y : V} : rMulS x y H Q = ∃ z n, x = .str z ∧ y = .int n ∧ MulOk z n ∧ Q (.str (Txt.mul z n)) H := rfl
theorem rd_jnil {acc : Str} {QS : Str → Hp → Prop} : jNil acc σ H QS = QS acc H := rfl
theorem rd_jcons {te : TE} {tr : TJ} {acc : Str} {QS : Str → Hp → Prop} : jCons te tr acc σ H QS = te σ H fun x H1 => ∃ y, x = .str y ∧ (acc ++ y).length ≤ sizeLine ∧ tr (acc ++ y) σ H1 QS := rfl
theorem rd_fstr {t : TJ} : tFstr t σ H Q = t Str.empty σ H fun out H1 => out.length ≤ sizeLine ∧ Q (.str out) H1 := rfl
theorem rd_fmtR {te : TE} : tFmtR te σ H Q = te σ H fun x H1 => ∃ z, x = .str z ∧ (PySem.reprText z).length ≤ sizeLine ∧ Q (.str (PySem.reprText z)) H1 := rfl
theorem rd_fmt {te : TE} : tFmt te σ H Q = te σ H fun x H1 => (∃ z, x = .str z ∧ z.length ≤ sizeLine ∧ Q (.str z) H1) ∨ ∃ i, x = .int i ∧ i.natAbs.log2 < 1920 ∧ Q (.str (toString i)) H1 := rfl
theorem rd_dnewK : tDNewK σ H Q = ∀ p, H p = none → Q (.ref p) (upd H p (.dK [])) := rfl
theorem ixS_of {z : Str} {i : Int} {c : Nat} (hz : z.length ≤ sizeLine) (e : atI z.cps.toList i = some c) (q : Q (.str ⟨#[c]⟩) H) : rIxS (.str z) (.int i) H Q := ⟨z, i, c, rfl, rfl, hz, e, q⟩
theorem blk_K {X : Cx} {scope : Scope} {N' : List Str} {b : Blk} : (X.blk scope N' b).K = X.K := rfl
end
section
variable {X : Cx} {x : Str} {pos : Pos}
theorem pe_gint {i : Int} (hg : Gl X x) (hm : ∃ t, X.mg x = some (.int i t)) (hd : (x == ("__debug__" : Str)) = false := by decide) : PE X (.Name x pos) (tC (.int i)) := by
  obtain ⟨t, hm⟩ := hm
  exact pe_glob hg hm ⟨t, rfl⟩ hd
theorem pe_gstr {z : Str} (hg : Gl X x) (hm : ∃ t, X.mg x = some (.str z t)) (hd : (x == ("__debug__" : Str)) = false := by decide) : PE X (.Name x pos) (tC (.str z)) := by
  obtain ⟨t, hm⟩ := hm
  exact pe_glob hg hm ⟨t, rfl⟩ hd
end
theorem line_val : sizeLine = 16777216 := by decide
theorem len_app {a b : Str} : (a ++ b).length = a.length + b.length := strLen_append a b
theorem len_one {c : Nat} : (⟨#[c]⟩ : Str).length = 1 := rfl
theorem str_len {z : Str} : z.cps.toList.length = z.length := by simp [Str.length]
theorem app_list {a b : Str} : (a ++ b).cps.toList = a.cps.toList ++ b.cps.toList := by
  show (a.cps ++ b.cps).toList = _
  simp
theorem atI_in {α : Type} {xs : List α} {i : Int} (h0 : 0 ≤ i) (h1 : i < xs.length) : ∃ v, atI xs i = some v ∧ v ∈ xs := by
  refine ⟨xs[i.toNat], ?_, List.getElem_mem (by omega)⟩
  exact atI_of h0 (by rw [List.getElem?_eq_getElem (by omega)])
theorem script_go {K : PySem.W.Frag} {H : Hp} {a : Addr} {ns : List Int} {R : List Int → Prop} (h : SqL K H a (ns.map V.int)) (hl : ns.length ≤ 63) (q : R ns) : ∃ x : List Int, SqL K H a (x.map V.int) ∧ x.length ≤ 63 ∧ R x := ⟨ns, h, hl, q⟩
noncomputable def hasS (z y : Str) : Bool := !(Builtin.Str.occurrences z y 0 z.length 1).isEmpty
theorem hasS_one {z : Str} {c : Nat} : hasS z ⟨#[c]⟩ = decide (c ∈ z.cps.toList) := StrLaws.found_one z c
noncomputable def rInS : R2 := fun x y H Q => ∃ i j, x = .str i ∧ y = .str j ∧ Q (.bl (hasS j i)) H
noncomputable def rNotInS : R2 := fun x y H Q => ∃ i j, x = .str i ∧ y = .str j ∧ Q (.bl (!hasS j i)) H
theorem op_inS {X : Cx} : OpR X (compareOp .In) rInS := op_in_str
theorem rd_inS {x y : V} {H : Hp} {Q : VK} : rInS x y H Q = ∃ i j, x = .str i ∧ y = .str j ∧ Q (.bl (hasS j i)) H := rfl
theorem rd_notinS {x y : V} {H : Hp} {Q : VK} : rNotInS x y H Q = ∃ i j, x = .str i ∧ y = .str j ∧ Q (.bl (!hasS j i)) H := rfl
theorem at_0 {α : Type} {c : α} {r : List α} : atI (c :: r) 0 = some c := atI_of (by decide) rfl
end L2

set_option Elab.async false
set_option linter.all false
set_option maxRecDepth 100000
set_option maxHeartbeats 4000000
namespace L2
open PySem PySem.Spec PyProof.Rows

noncomputable def flatEq (xs ys : List V) : Bool := match xs, ys with
  | [], [] => true
  | x :: xs, y :: ys => eqV x y && flatEq xs ys
  | _, _ => false
theorem flatEq_len : ∀ {xs ys : List V}, xs.length ≠ ys.length → flatEq xs ys = false
  | [], [], h => absurd rfl h
  | [], _ :: _, _ => rfl
  | _ :: _, [], _ => rfl
  | x :: xs, y :: ys, h => by
    unfold flatEq
    rw [flatEq_len (fun e => h (by simp [e])), Bool.and_false]
theorem flatEq_all : ∀ {xs ys : List V}, xs.length = ys.length → flatEq xs ys = (List.range xs.length).all fun i => eqV (xs.getD i .non) (ys.getD i .non)
  | [], [], _ => rfl
  | [], _ :: _, h => by cases h
  | _ :: _, [], h => by cases h
  | x :: xs, y :: ys, h => by
    unfold flatEq
    rw [flatEq_all (by simpa using h), List.length_cons, List.range_succ_eq_map, List.all_cons, List.all_map]
    rfl
theorem eqV_str {x y : Str} : eqV (.str x) (.str y) = decide (x = y) := rfl
noncomputable def EqQ (K : PySem.W.Frag) (H : Hp) (x y : V) (r : Bool) : Prop := ∃ a b xs ys, x = .ref a ∧ y = .ref b ∧ ((SqL K H a xs ∧ SqL K H b ys) ∨ (SqT K H a xs ∧ SqT K H b ys)) ∧ xs.all flatV = true ∧ ys.all flatV = true ∧ r = flatEq xs ys
section
variable {X : Cx} {pins : List (Addr × Obj)} {σ : St} {H : Hp} {s : Shared}
theorem flat_items {xs ys : List V} {us ws : List Value} {A : Around} (rx : Vals xs us) (ry : Vals ys ws) (fx : xs.all flatV = true) (fy : ys.all flatV = true) :
    ∀ j (h1 : j < us.toArray.size) (h2 : j < ws.toArray.size), SeqAt.EqAt A s us.toArray[j] ws.toArray[j] (eqV (xs.getD j .non) (ys.getD j .non)) := by
  intro j h1 h2
  have lx := rx.length
  have ly := ry.length
  rw [List.size_toArray] at h1 h2
  have hx : j < xs.length := by omega
  have hy : j < ys.length := by omega
  obtain ⟨u, hu, ru⟩ := rx.get (i := j) (x := xs[j]) (by simp [hx])
  obtain ⟨w, hw, rw'⟩ := ry.get (i := j) (x := ys[j]) (by simp [hy])
  have eu : us.toArray[j] = u := by
    have := List.getElem?_eq_getElem h1
    rw [this] at hu
    simpa using hu
  have ew : ws.toArray[j] = w := by
    have := List.getElem?_eq_getElem h2
    rw [this] at hw
    simpa using hw
  rw [eu, ew, List.getD_eq_getElem?_getD, List.getD_eq_getElem?_getD, List.getElem?_eq_getElem hx, List.getElem?_eq_getElem hy]
  exact eqAt_V ru rw' (List.all_eq_true.mp fx _ (List.getElem_mem hx)) (List.all_eq_true.mp fy _ (List.getElem_mem hy))
theorem eqQ_ne {x y : V} {u v : Value} {r : Bool} {A : Around} (I : Inv X pins σ H s) (rx : RelV x u) (ry : RelV y v) (h : EqQ X.K H x y r) (hu : A.units < cLine) : SeqAt.RcNeAt A s u v (!r) := by
  obtain ⟨a, b, xs, ys, rfl, rfl, hq, fx, fy, rfl⟩ := h
  cases rx
  cases ry
  rcases hq with ⟨h1, h2⟩ | ⟨h1, h2⟩
  · obtain ⟨us, r1, p1, z1⟩ := I.list h1
    obtain ⟨ws, r2, p2, z2⟩ := I.list h2
    have lx := r1.length
    have ly := r2.length
    by_cases hl : xs.length = ys.length
    · rw [flatEq_all hl]
      have := SeqAt.RcNeAt.lists p1.isList p2.isList (by simp; omega) hu (flat_items r1 r2 fx fy)
      rw [List.size_toArray, ← lx] at this
      exact this
    · rw [flatEq_len hl]
      exact SeqAt.RcNeAt.lists_lengths p1.isList p2.isList (by simp; omega) hu
  · obtain ⟨us, r1, p1, z1⟩ := I.tuple h1
    obtain ⟨ws, r2, p2, z2⟩ := I.tuple h2
    have lx := r1.length
    have ly := r2.length
    have := SeqAt.RcNeAt.tuples (show s.heap.IsTuple a us.toArray from p1) (show s.heap.IsTuple b ws.toArray from p2) hu (flat_items r1 r2 fx fy)
    rw [List.size_toArray, List.size_toArray, ← lx, ← ly] at this
    by_cases hl : xs.length = ys.length
    · rw [flatEq_all hl]
      rw [hl, Nat.min_self, beq_self_eq_true, Bool.and_true] at this
      rw [hl]; exact this
    · rw [flatEq_len hl]
      rw [beq_eq_false_iff_ne.mpr hl, Bool.and_false] at this
      exact this
noncomputable def rEqQ (K : PySem.W.Frag) : R2 := fun x y H Q => ∃ r, EqQ K H x y r ∧ Q (.bl r) H
noncomputable def rNeQ (K : PySem.W.Frag) : R2 := fun x y H Q => ∃ r, EqQ K H x y r ∧ Q (.bl (!r)) H
theorem op_neQ {k : Nat} (hr : Room k X.A) : OpR X (compareOp .NotEq) (rNeQ X.K) := by
  intro pins s σ H x y v u Q I rx ry h
  obtain ⟨r, e, q⟩ := h
  exact eqQ_ne I rx ry e (Nat.lt_of_le_of_lt (by omega) hr.un) X.prog X.w X.xe _ ⟨.bl (!r), H, I, rfl, q⟩
end
section
variable {K : PySem.W.Frag} {H : Hp} {Q : VK} {x y : V}
theorem rd_eqQ : rEqQ K x y H Q = ∃ r, EqQ K H x y r ∧ Q (.bl r) H := rfl
theorem rd_neQ : rNeQ K x y H Q = ∃ r, EqQ K H x y r ∧ Q (.bl (!r)) H := rfl
theorem all_strs {xs : List Str} : (xs.map V.str).all flatV = true := by
  rw [List.all_map]
  exact List.all_eq_true.mpr fun _ _ => rfl
end
end L2

set_option Elab.async false
set_option linter.all false
set_option maxRecDepth 100000
set_option maxHeartbeats 4000000
namespace L2
open PySem PySem.Spec PyProof.Rows

structure TryB where
  pn : List (Addr × Obj)
  xe : Value → Shared → Prop
  EE : St → XK
section
variable {X : Cx} {C n : Str} {c : Value} {i : Nat} {np pos : Pos} {b₀ : Stmt} {suite : List Stmt} {rest : List ExceptHandler} {ts : Addr → TS} {tr : TH}
end
section
variable {σ : St} {H : Hp} {D : Ends} {K : PySem.W.Frag}
end
end L2

set_option Elab.async false
set_option linter.all false
set_option maxRecDepth 100000
set_option maxHeartbeats 4000000
namespace L2
open PySem PySem.Spec PyProof.Rows

structure DefM (P : Program) (w : World) (K : PySem.W.Frag) (mg : Str → Option Value) (base : Heap) (CX : CXT) (k : Nat) (C : Addr) (m : Str) (ps : List Str) (sp : Sp) : Prop where
  ex : ∃ (f : Addr) (fd : FuncData), FnOk P w K mg base CX k f fd ps sp ∧ Meth K C m f ∧ Binds K fd ps []
structure DefI (P : Program) (w : World) (K : PySem.W.Frag) (mg : Str → Option Value) (base : Heap) (CX : CXT) (k : Nat) (x : Str) (C : Addr) (ps : List Str) (sp : Sp) : Prop where
  ex : ∃ (f : Addr) (fd : FuncData), FnOk P w K mg base CX k f fd ps sp ∧ Mk K C f ∧ mg x = some (.ref C) ∧ Binds K fd ps []
noncomputable def tMethE (C : Addr) (m : Str) (sp : Sp) (EE : St → XK) (ta : TE) (t : TA) : TE := fun σ H Q => ta σ H fun x H1 => ∃ a dx fs, x = .ref a ∧ H1 a = some (.ins C dx fs) ∧ fs.lookup m = none ∧ t σ H1 fun vs H2 => sp (x :: vs) H2 Q (EE σ)
noncomputable def tMakeE (C : Addr) (sp : Sp) (EE : St → XK) (t : TA) : TE := fun σ H Q => t σ H fun vs H1 => ∀ x dx, H1 x = none → H1 dx = none → dx ≠ x → sp (.ref x :: vs) (upd (upd H1 dx (.own x)) x (.ins C dx [])) (fun v H2 => v = .non ∧ Q (.ref x) H2) (EE σ)
section
variable {X : Cx} {CX : CXT} {k j : Nat} {f C : Addr} {fd : FuncData} {ps : List Str} {sp : Sp} {EE : St → XK} {E : XK} {x m : Str} {p pos apos : Pos} {e o : Expr} {es : List Expr} {ta : TE} {t : TA}
theorem passS (h : Passes CX X E) : PassesS CX X fun _ => E := fun pins σ H s e s' I hc => h pins σ H s e s' I hc
theorem run_fnS {pins : List (Addr × Obj)} {σ : St} {H : Hp} {s : Shared} {Q : VK} {us : List Value} {vs : List V} (F : FnOk X.prog X.w X.K X.mg X.base CX k f fd ps sp) (hr : Room k X.A) (hb : Binds X.K fd ps []) (hx : PassesS CX X EE)
    (I : Inv X pins σ H s) (r : Vals vs us) (h : sp vs H Q (EE σ)) : wpAny (model X.prog X.w) X.A (call (.ref f) us) (EP X pins σ Q) X.xe s := by
  have hl : us.length = ps.length := by rw [← r.length]; exact F.len _ _ _ _ h
  have hb' := hb s us I.kIn (by simpa using hl)
  rw [List.append_nil] at hb'
  refine wpAny_call (codeAny_mono (F.run X.A X.stack s H ⟨us, []⟩ us vs Q (EE σ) hr I.env0 hb' r h) fun r s' hq => ?_)
  cases r with
  | error e => exact hx pins σ H s e s' I hq
  | ok fl =>
    cases fl with
    | ret u => exact I.after hq
    | next => exact False.elim hq
    | brk => exact False.elim hq
    | cont => exact False.elim hq
theorem pe_methS {pl : Sem Bool} (D : DefM X.prog X.w X.K X.mg X.base CX j C m ps sp) (c : Cls X.K C) (hr : Room k X.A) (hx : PassesS CX X EE) (he : PE X o ta) (ha : PA X (e :: es) t) (hj : j ≤ k := by decide)
    (hst : starEach (e :: es) X.env = (false, eval e X.env) :: starEach es X.env := by rfl) (hpl : (backTo pos (starEach es X.env)).any (·.1) = false := by rfl)
    (ht : eval (.Call (.Attribute o m apos) (e :: es) [] pos) X.env = (do
      let ov ← eval o X.env
      standAt apos.atName
      let (f, first) ← holding [ov] (getMethod ov m pl)
      callWith pos f first (backTo pos (starEach (e :: es) X.env)) (backToKw pos (keywordEach [] X.env))) := by rfl) :
    PE X (.Call (.Attribute o m apos) (e :: es) [] pos) (tMethE C m sp EE ta t) := by
  obtain ⟨f, fd, F, hm, hb⟩ := D.ex
  intro pins s σ H Q I h
  refine PySem.W.methodCall_KW (pl := pl) (thn (he pins s σ H _ I h) fun u s1 ⟨x, H1, I1, rx, a, dx, fs, ex, ea, l, q⟩ => ?_) ht
  subst ex
  obtain rfl : u = Value.ref a := rx
  refine getmeth_ok I1 ea c hm l ?_
  refine PySem.W.callWith_K (first := [.ref a]) (h₀ := X.base) I.ok.mod.kin hm.kp (thn (ha pos pins s1 σ H1 _ I1 q) fun us s2 ⟨vs, H2, I2, r, q2⟩ => ⟨I2.kIn, ?_⟩) hst hpl
  exact run_fnS (us := .ref a :: us) (vs := .ref a :: vs) (F.mono hj) hr hb hx I2 (.cons rfl r) q2
theorem pe_methS0 {pl : Sem Bool} (D : DefM X.prog X.w X.K X.mg X.base CX j C m ps sp) (c : Cls X.K C) (hr : Room k X.A) (hx : PassesS CX X EE) (he : PE X o ta) (hj : j ≤ k := by decide)
    (ht : eval (.Call (.Attribute o m apos) [] [] pos) X.env = (do
      let ov ← eval o X.env
      standAt apos.atName
      let (f, first) ← holding [ov] (getMethod ov m pl)
      callWith pos f first (backTo pos (starEach [] X.env)) (backToKw pos (keywordEach [] X.env))) := by rfl) :
    PE X (.Call (.Attribute o m apos) [] [] pos) (tMethE C m sp EE ta tNil) := by
  obtain ⟨f, fd, F, hm, hb⟩ := D.ex
  intro pins s σ H Q I h
  refine PySem.W.methodCall_KW (pl := pl) (thn (he pins s σ H _ I h) fun u s1 ⟨x, H1, I1, rx, a, dx, fs, ex, ea, l, q⟩ => ?_) ht
  subst ex
  obtain rfl : u = Value.ref a := rx
  refine getmeth_ok I1 ea c hm l ?_
  exact PySem.W.callWith_K0 (first := [.ref a]) I1.kIn hm.kp (run_fnS (us := [.ref a]) (vs := [.ref a]) (F.mono hj) hr hb hx I1 (.cons rfl .nil) q)
theorem pe_makeS (D : DefI X.prog X.w X.K X.mg X.base CX j x C ps sp) (hr : Room k X.A) (hg : Gl X x) (hx : PassesS CX X EE) (ha : PA X (e :: es) t) (hj : j + 1 ≤ k := by decide) (hdb : (x == ("__debug__" : Str)) = false := by decide)
    (he : starEach (e :: es) X.env = (false, eval e X.env) :: starEach es X.env := by rfl) (hpl : (backTo pos (starEach es X.env)).any (·.1) = false := by rfl) :
    PE X (.Call (.Name x p) (e :: es) [] pos) (tMakeE C sp EE t) := by
  obtain ⟨f, fd, F, M, hm, hb⟩ := D.ex
  intro pins s0 σ H0 Q I0 h
  refine wpAny_Call_Name_kw (ld_glob I0 hg hm ?_ hdb)
  refine PySem.W.callWith_K (h₀ := X.base) I0.ok.mod.kin M.kp (thn (ha pos pins s0 σ H0 _ I0 h) fun us s ⟨vs, H, I, r, q⟩ => ⟨I.kIn, ?_⟩) he hpl
  have hq := q (s.heap.objs.size + 1) s.heap.objs.size (I.hok.fresh (Nat.le_succ _)) (I.hok.fresh (Nat.le_refl _)) (Nat.ne_of_lt (Nat.lt_succ_self _))
  have I2 := Inv.made (C := C) I
  have r2 : Vals (V.ref (s.heap.objs.size + 1) :: vs) (Value.ref (s.heap.objs.size + 1) :: us) := .cons rfl r
  have hl : (Value.ref (s.heap.objs.size + 1) :: us).length = ps.length := by
    rw [← r2.length]; exact F.len _ _ _ _ hq
  have hb' := fun s' (h' : X.K.In s'.heap) => hb s' (Value.ref (s.heap.objs.size + 1) :: us) h' (by simpa using hl)
  have hr' : Room (j + 1) X.A := hr.mono hj
  refine wpAny_call (make_map (f := f) I.kIn M.makes M.init (beq_iff_eq.mp M.fn) (codeAny_mono (F.run _ X.stack _ _ ⟨Value.ref (s.heap.objs.size + 1) :: us, []⟩ (Value.ref (s.heap.objs.size + 1) :: us) _ _ (EE σ) (hr'.make C us [])
    (I2.env0.make C us []) (by have := hb' _ I2.kIn; rw [List.append_nil] at this; exact this) r2 hq) fun r s' hq' => ?_))
  cases r with
  | error e => exact hx pins σ _ _ e s' I2 hq'
  | ok fl =>
    cases fl with
    | ret u =>
      obtain ⟨v, H', I3, rv, ev, q3⟩ := I2.after hq'
      subst ev
      exact ⟨rv, ⟨V.ref (s.heap.objs.size + 1), H', I3, rfl, q3⟩⟩
    | next => exact False.elim hq'
    | brk => exact False.elim hq'
    | cont => exact False.elim hq'
end
section
variable {σ : St} {H : Hp} {Q : VK} {D : Ends} {K : PySem.W.Frag}
theorem rd_methE {C : Addr} {m : Str} {sp : Sp} {EE : St → XK} {ta : TE} {t : TA} : tMethE C m sp EE ta t σ H Q = ta σ H fun x H1 => ∃ a dx fs, x = .ref a ∧ H1 a = some (.ins C dx fs) ∧ fs.lookup m = none ∧ t σ H1 fun vs H2 => sp (x :: vs) H2 Q (EE σ) := rfl
theorem rd_makeE {C : Addr} {sp : Sp} {EE : St → XK} {t : TA} : tMakeE C sp EE t σ H Q = t σ H fun vs H1 => ∀ x dx, H1 x = none → H1 dx = none → dx ≠ x → sp (.ref x :: vs) (upd (upd H1 dx (.own x)) x (.ins C dx [])) (fun v H2 => v = .non ∧ Q (.ref x) H2) (EE σ) := rfl
theorem rd_fld {ta : TE} {f : Str} : tFld K ta f σ H Q = ta σ H fun x H1 => ∃ a C dx fs v, x = .ref a ∧ H1 a = some (.ins C dx fs) ∧ Cls K C ∧ NoAttr K C f ∧ fs.lookup f = some v ∧ Q v H1 := rfl
theorem rd_sfld {ta tv : TE} {f : Str} : sFld K ta tv f D σ H = tv σ H fun y H1 => ta σ H1 fun x H2 => ∃ a C dx fs, x = .ref a ∧ H2 a = some (.ins C dx fs) ∧ Cls K C ∧ NoAttr K C f ∧ fs.length < 1000 ∧ D.nx σ (upd H2 a (.ins C dx (putF f y fs))) := rfl
theorem rd_din {ty td : TE} : tDIn ty td σ H Q = ty σ H fun y H1 => td σ H1 fun x H2 => ∃ a o, x = .ref a ∧ DGet H2 a y o ∧ Q (.bl o.isSome) H2 := rfl
theorem rd_dnotin {ty td : TE} : tDNotIn ty td σ H Q = ty σ H fun y H1 => td σ H1 fun x H2 => ∃ a o, x = .ref a ∧ DGet H2 a y o ∧ Q (.bl (!o.isSome)) H2 := rfl
theorem rd_dget {td ty : TE} : tDGet td ty σ H Q = td σ H fun x H1 => ty σ H1 fun y H2 => ∃ a v, x = .ref a ∧ DGet H2 a y (some v) ∧ Q v H2 := rfl
theorem rd_dput {td ty tv : TE} : sDPut td ty tv D σ H = tv σ H fun v H1 => td σ H1 fun x H2 => ty σ H2 fun y H3 => ∃ a H4, x = .ref a ∧ DPut H3 a y v H4 ∧ D.nx σ H4 := rfl
theorem rd_gtup {n : Nat} {t : TGs} {v : V} {N : St → Hp → Prop} : gTup K n t v σ H N = ∃ a xs, v = .ref a ∧ SqT K H a xs ∧ xs.length = n ∧ t xs σ H N := rfl
end
theorem le_app {a b : Str} {n : Nat} (h1 : a.length ≤ n / 2) (h2 : b.length ≤ n / 2) : (a ++ b).length ≤ n := by
  rw [len_app]; omega
end L2

set_option linter.all false
set_option maxHeartbeats 1000000
namespace N1
open PySem L2
noncomputable def letters : List Nat := List.range' 97 26
noncomputable def figures : List Nat := List.range' 48 10
theorem let_list : (Str.ofString "abcdefghijklmnopqrstuvwxyz").cps.toList = letters := by decide +kernel
theorem fig_list : (Str.ofString "0123456789").cps.toList = figures := by decide +kernel
theorem both_list : (Str.ofString "abcdefghijklmnopqrstuvwxyz0123456789").cps.toList = letters ++ figures := by decide +kernel
theorem both_len : (letters ++ figures).length = 36 := by decide
noncomputable def headIn (l : List Nat) (s : List Nat) : Bool := match l with
  | [] => false
  | c :: _ => decide (c ∈ s)
noncomputable def nameB (l : List Nat) : Bool := decide (1 ≤ l.length) && decide (l.length ≤ 8) && headIn l letters && l.all fun c => decide (c ∈ letters ++ figures)
end N1

set_option linter.all false
set_option maxHeartbeats 1000000
namespace N1
open PySem L2
end N1

set_option linter.all false
set_option maxHeartbeats 1000000
namespace N1
open PySem L2
noncomputable def tx (l : List Nat) : Str := ⟨l.toArray⟩
theorem T_list {l : List Nat} : (tx l).cps.toList = l := by simp [tx]
theorem T_eq {z : Str} : tx z.cps.toList = z := by cases z; simp [tx]
theorem T_inj {a b : List Nat} (h : tx a = tx b) : a = b := by rw [← T_list (l := a), h, T_list]
theorem T_app {a b : List Nat} : tx a ++ tx b = tx (a ++ b) := by
  have h := app_list (a := tx a) (b := tx b)
  rw [T_list, T_list] at h
  rw [← T_eq (z := tx a ++ tx b), h]
theorem T_len {l : List Nat} : (tx l).length = l.length := by rw [← str_len, T_list]
theorem T_one {c : Nat} : (⟨#[c]⟩ : Str) = tx [c] := rfl
theorem T_nil : Str.ofString "" = tx [] := by decide +kernel
theorem T_empty : Str.empty = tx [] := by decide +kernel
noncomputable def grow (ps : List (List Nat)) (d : Nat) : List (List Nat) := ps.dropLast ++ [ps.getLastD [] ++ [d]]
inductive AskR where
  | ok (ps : List (List Nat))
  | many
  | noname
theorem both_length : (Str.ofString "abcdefghijklmnopqrstuvwxyz0123456789").length = 36 := by decide +kernel
noncomputable def bc (i : Int) : Nat := (letters ++ figures).getD i.toNat 0
theorem ix_bc (i : Int) {k : Int} (h0 : 0 < k) (h1 : k ≤ 36) : atI (Str.ofString "abcdefghijklmnopqrstuvwxyz0123456789").cps.toList (i % k) = some (bc (i % k)) := by
  have h2 := Int.emod_lt_of_pos i h0
  have h3 := Int.emod_nonneg i (show k ≠ 0 by omega)
  refine atI_of h3 ?_
  have h4 : (i % k).toNat < (letters ++ figures).length := by rw [both_len]; omega
  unfold bc
  rw [both_list, List.getD_eq_getElem?_getD, List.getElem?_eq_getElem h4]
  rfl
end N1

set_option linter.all false
set_option maxHeartbeats 1000000
namespace N1
open PySem PySem.Spec PyProof.Rows L2
noncomputable def sp_cell (K : PySem.W.Frag) : Sp := fun vs H Q _ => ∃ (a : Addr) (ns : List Int) (k : Int), vs = [.ref a, .int k] ∧ SqL K H a (ns.map V.int) ∧ 0 ≤ k ∧ ns.length ≤ 63 ∧ Q (.int (ns.getD k.toNat 0)) H
noncomputable def sp_made : Sp := fun vs H Q _ => ∃ (z w : Str), vs = [.str z, .str w] ∧ z.length ≤ sizeLine ∧ ∀ H', Same H H' → Q (.bl (z.cps.toList.all fun c => decide (c ∈ w.cps.toList))) H'
noncomputable def sp_is_name (K : PySem.W.Frag) : Sp := fun vs H Q _ => ∃ (x : V), vs = [x] ∧ ((∃ z : Str, x = .str z ∧ z.length ≤ sizeLine ∧ ∀ H', Same H H' → Q (.bl (nameB z.cps.toList)) H') ∨ (Isi K H x "str" false ∧ Q (.bl false) H))
noncomputable def sp_law (K : PySem.W.Frag) : Sp := fun vs H Q _ => ∃ (a : Addr) (ns : List Int), vs = [.ref a] ∧ SqL K H a (ns.map V.int) ∧ ns.length ≤ 63 ∧ ∀ H', Q (.bl true) H'
end N1

set_option linter.all false
set_option maxHeartbeats 1000000
namespace N1
open PySem PySem.Spec PyProof.Rows L2
inductive StE where
  | noname | twice | nonum | many
noncomputable def nOk : V → Bool
  | .str z => nameB z.cps.toList
  | _ => false
noncomputable def sOf : V → Str
  | .str z => z
  | _ => Str.empty
noncomputable def wIn (lo hi : Int) : V → Bool
  | .int i => decide (lo ≤ i) && decide (i ≤ hi)
  | _ => false
noncomputable abbrev Rw := Addr × V × V × V
noncomputable def rowR (ks : List Str) (n c r : V) : Option StE := if nOk n = false then some .noname else if sOf n ∈ ks then some .twice else if wIn 0 (10 ^ 30) c = false then some .nonum else if wIn 1 1000 r = false then some .nonum else none
noncomputable def stockR (ks : List Str) : List Rw → Option StE
  | [] => none
  | t :: rs => match rowR ks t.2.1 t.2.2.1 t.2.2.2 with
    | some e => some e
    | none => stockR (ks ++ [sOf t.2.1]) rs
noncomputable def initR (rs : List Rw) : Option StE := if 60 < rs.length then some .many else stockR [] rs
theorem num_isi {K : PySem.W.Frag} {H : Hp} {v : V} (h : flatV v = true) : ∃ b c, Isi K H v "int" b ∧ (b = true → Isi K H v "bool" c) ∧ ((b && !c) = true → ∃ i, v = .int i) ∧ ((b && !c) = false → ∀ i, v ≠ .int i) := by
  cases v with
  | non => exact ⟨false, false, isi_ni, fun h => by (cases h), fun h => by (cases h), fun _ i h => by cases h⟩
  | bl b => exact ⟨true, true, isi_bi, fun _ => isi_bb, fun h => by (cases h), fun _ i h => by cases h⟩
  | int i => exact ⟨true, false, isi_ii, fun _ => isi_ib, fun _ => ⟨i, rfl⟩, fun h => by cases h⟩
  | str z => exact ⟨false, false, isi_si, fun h => by (cases h), fun h => by (cases h), fun _ i h => by cases h⟩
  | _ => cases h
noncomputable def sp_is_whole (K : PySem.W.Frag) : Sp := fun vs H Q _ => ∃ (x : V) (b c : Bool), vs = [x] ∧ Isi K H x "int" b ∧ (b = true → Isi K H x "bool" c) ∧ Q (.bl (b && !c)) H
noncomputable def sp_within (K : PySem.W.Frag) : Sp := fun vs H Q _ => ∃ (v : V) (lo hi : Int), vs = [v, .int lo, .int hi] ∧ flatV v = true ∧ Q (.bl (wIn lo hi v)) H
noncomputable def SameBut (p : Addr) (H H' : Hp) : Prop := ∀ b o, H b = some o → b ≠ p → H' b = some o
theorem SameBut.trans {p : Addr} {H H1 H2 : Hp} (h1 : SameBut p H H1) (h2 : SameBut p H1 H2) : SameBut p H H2 := fun b o e n => h2 b o (h1 b o e n) n
theorem sameBut_upd {p : Addr} {H : Hp} {o : HO} : SameBut p H (upd H p o) := fun b u e n => by rw [upd_ne n]; exact e
noncomputable abbrev Th := Str × Int × Int
noncomputable def flds (d : Addr) : List (Str × V) := putF "things" (.ref d) []
structure StockAt (K : PySem.W.Frag) (C : Addr) (H : Hp) (p : Addr) (ts : List Th) : Prop where
  ex : ∃ (dx d : Addr) (kvs : List (Key × V)), H p = some (.ins C dx (flds d)) ∧ H d = some (.dK kvs) ∧ kvs.map (·.1) = ts.map (fun t => Sum.inr t.1) ∧
    ∀ (i : Nat) (t : Th), ts[i]? = some t → ∃ a, kvs[i]? = some (Sum.inr t.1, .ref a) ∧ SqT K H a [.int i, .int t.2.1, .int t.2.2]
theorem StockAt.same {K : PySem.W.Frag} {C : Addr} {H H' : Hp} {p : Addr} {ts : List Th} (s : Same H H') (h : StockAt K C H p ts) : StockAt K C H' p ts := by
  obtain ⟨dx, d, kvs, h1, h2, h3, h4⟩ := h.ex
  refine ⟨dx, d, kvs, s _ _ h1, s _ _ h2, h3, fun i t e => ?_⟩
  obtain ⟨a, e1, e2⟩ := h4 i t e
  exact ⟨a, e1, s.tup e2⟩
noncomputable def iOf : V → Int
  | .int i => i
  | _ => 0
noncomputable def thOf (t : Rw) : Th := (sOf t.2.1, iOf t.2.2.1, iOf t.2.2.2)
theorem SqT.but {K : PySem.W.Frag} {H H' : Hp} {p a C dx : Addr} {fs : List (Str × V)} {xs : List V} (s : SameBut p H H') (hp : H p = some (.ins C dx fs)) (h : SqT K H a xs) : SqT K H' a xs := by
  rcases h with (h | ⟨o, h⟩) | h
  · exact .inl (.inl (s _ _ h (ne_of h hp (by intro z; cases z))))
  · exact .inl (.inr ⟨o, s _ _ h (ne_of h hp (by intro z; cases z))⟩)
  · exact .inr h
theorem SqL.but {K : PySem.W.Frag} {H H' : Hp} {p a C dx : Addr} {fs : List (Str × V)} {xs : List V} (s : SameBut p H H') (hp : H p = some (.ins C dx fs)) (h : SqL K H a xs) : SqL K H' a xs := by
  rcases h with (h | ⟨o, h⟩) | h
  · exact .inl (.inl (s _ _ h (ne_of h hp (by intro z; cases z))))
  · exact .inl (.inr ⟨o, s _ _ h (ne_of h hp (by intro z; cases z))⟩)
  · exact .inr h
theorem key_mem {kvs : List (Key × V)} {ks : List Str} {z : Str} (h : kvs.map (·.1) = ks.map Sum.inr) : (valV kvs (Sum.inr z)).isSome = decide (z ∈ ks) := by
  have e : (Sum.inr z : Key) ∈ kvs.map (·.1) ↔ z ∈ ks := by
    rw [h, List.mem_map]
    constructor
    · rintro ⟨a, ha, e⟩; injection e with e; subst e; exact ha
    · intro h; exact ⟨z, h, rfl⟩
  cases hv : valV kvs (Sum.inr z : Key) with
  | none => rw [decide_eq_false fun q => valV_not hv (e.mpr q)]; rfl
  | some v => rw [decide_eq_true (e.mp (valV_in hv))]; rfl
theorem flds_things {d : Addr} : (flds d).lookup ("things" : Str) = some (V.ref d) := by
  unfold flds
  rw [lookup_putF, if_pos rfl]
theorem rowR_none {ks : List Str} {n co r : V} (h : rowR ks n co r = none) : ∃ z c q, n = .str z ∧ co = .int c ∧ r = .int q ∧ ¬ z ∈ ks ∧ nameB z.cps.toList = true ∧ 0 ≤ c ∧ c ≤ 10 ^ 30 ∧ 1 ≤ q ∧ q ≤ 1000 := by
  unfold rowR at h
  split at h
  · cases h
  rename_i h1
  split at h
  · cases h
  rename_i h2
  split at h
  · cases h
  rename_i h3
  split at h
  · cases h
  rename_i h4
  cases n with
  | str z =>
    cases co with
    | int c =>
      cases r with
      | int q =>
        simp only [wIn, Bool.and_eq_false_iff, decide_eq_false_iff_not, not_or, Decidable.not_not] at h3 h4
        exact ⟨z, c, q, rfl, rfl, rfl, h2, by simpa [nOk] using h1, h3.1, h3.2, h4.1, h4.2⟩
      | _ => exact absurd rfl h4
    | _ => exact absurd rfl h3
  | _ => exact absurd rfl h1
theorem stockR_step {ks : List Str} {rs : List Rw} {i : Nat} {t : Rw} (h : rs[i]? = some t) : stockR ks (rs.drop i) = match rowR ks t.2.1 t.2.2.1 t.2.2.2 with
    | some e => some e
    | none => stockR (ks ++ [sOf t.2.1]) (rs.drop (i + 1)) := by
  have e : rs.drop i = t :: rs.drop (i + 1) := by
    obtain ⟨hi, rfl⟩ := List.getElem?_eq_some_iff.mp h
    exact List.drop_eq_getElem_cons hi
  rw [e]
  rfl
noncomputable def nmsOf (rs : List Rw) : List Str := rs.map fun t => sOf t.2.1
structure MidAt (K : PySem.W.Frag) (H : Hp) (d : Addr) (rs : List Rw) : Prop where
  ex : ∃ kvs : List (Key × V), H d = some (.dK kvs) ∧ kvs.map (·.1) = (nmsOf rs).map Sum.inr ∧ ∀ (j : Nat) (t : Rw), rs[j]? = some t → ∃ a, kvs[j]? = some (Sum.inr (sOf t.2.1), .ref a) ∧ SqT K H a [.int j, .int (iOf t.2.2.1), .int (iOf t.2.2.2)]
theorem MidAt.snoc {K : PySem.W.Frag} {H : Hp} {d a : Addr} {rs : List Rw} {t : Rw} {kvs : List (Key × V)} {c q : Int} {z : Str} (h1 : H d = some (.dK kvs)) (h2 : kvs.map (·.1) = (nmsOf rs).map Sum.inr)
    (h3 : ∀ (j : Nat) (t : Rw), rs[j]? = some t → ∃ a, kvs[j]? = some (Sum.inr (sOf t.2.1), .ref a) ∧ SqT K H a [.int j, .int (iOf t.2.2.1), .int (iOf t.2.2.2)])
    (e1 : t.2.1 = .str z) (e2 : t.2.2.1 = .int c) (e3 : t.2.2.2 = .int q) (nz : ¬ z ∈ nmsOf rs) (ha : H a = some (.tup [.int kvs.length, .int c, .int q])) :
    MidAt K (upd H d (.dK (putK kvs (Sum.inr z) (.ref a)))) d (rs ++ [t]) := by
  have hl : kvs.length = rs.length := by
    have := congrArg List.length h2
    simpa [nmsOf] using this
  have hv : valV kvs (Sum.inr z : Key) = none := by
    have := key_mem (z := z) h2
    rw [decide_eq_false nz] at this
    cases h : valV kvs (Sum.inr z : Key) with
    | none => rfl
    | some v => rw [h] at this; cases this
  have keep2 : ∀ {b : Addr} {xs : List V} {o : List (Key × V)}, SqT K H b xs → SqT K (upd H d (.dK o)) b xs := fun {b xs o} h => by
    rcases h with (h | ⟨o', h⟩) | h
    · exact .inl (.inl (by rw [upd_ne (ne_of h h1 (by intro z; cases z))]; exact h))
    · exact .inl (.inr ⟨_, by rw [upd_ne (ne_of h h1 (by intro z; cases z))]; exact h⟩)
    · exact .inr h
  refine ⟨_, upd_same, ?_, fun j t' hj => ?_⟩
  · rw [putK_new _ hv, List.map_append, h2]
    simp [nmsOf, e1, sOf]
  · rw [putK_new _ hv]
    by_cases hlt : j < rs.length
    · rw [List.getElem?_append_left hlt] at hj
      obtain ⟨b, e, hb⟩ := h3 j t' hj
      exact ⟨b, by rw [List.getElem?_append_left (by omega)]; exact e, keep2 hb⟩
    · rw [List.getElem?_append_right (by omega)] at hj
      have hj0 : j - rs.length = 0 := by
        have := (List.getElem?_eq_some_iff.mp hj).1
        simp at this; omega
      rw [hj0] at hj
      cases hj
      have ej : j = rs.length := by omega
      subst ej
      refine ⟨a, ?_, ?_⟩
      · rw [← hl, List.getElem?_append_right (by omega)]; simp [e1, sOf]
      · rw [e2, e3]
        refine keep2 (SqT.of ?_)
        rw [ha, hl]; rfl
end N1

set_option linter.all false
set_option maxHeartbeats 1000000
namespace L2
open PySem PySem.Spec PyProof.Rows
section
variable {X : Cx} {pins : List (Addr × Obj)} {σ : St} {H : Hp} {s : Shared}
theorem pa_consK {c : Const} {j pos} {es : List Expr} {te : TE} {t : TA} (ha : PE X (.Constant c j pos) te) (hr : PA X es t) : PA X (.Constant c j pos :: es) (tCons te t) := pa_cons ha hr rfl
theorem pa_consB {o j} {a b : Expr} {es : List Expr} {te : TE} {t : TA} (ha : PE X (.BinOp a o b j) te) (hr : PA X es t) : PA X (.BinOp a o b j :: es) (tCons te t) := pa_cons ha hr rfl
end
theorem rd_setL {o i v : V} {H : Hp} {Q : Hp → Prop} : rSetL o i v H Q = ∃ p xs k j, o = .ref p ∧ i = .int k ∧ H p = some (.lst xs) ∧ ixN xs.length k = some j ∧ Q (upd H p (.lst (xs.set j v))) := rfl
end L2
namespace N5
open PySem PySem.Spec PyProof.Rows L2 N1
noncomputable def md (j : Nat) : Int := if j = 0 then 26 else 36
noncomputable def sgn (F : Nat → Int) (at' : Int) (k j : Nat) : Nat := bc ((F j + if (j : Int) = at' then (k : Int) else 0) % md j)
noncomputable def nmL (F : Nat → Int) (at' : Int) (long k : Nat) : List Nat := (List.range long).map (sgn F at' k)
theorem bc_let {i : Int} : bc (i % 26) ∈ letters := by
  have h1 := Int.emod_nonneg i (show (26 : Int) ≠ 0 by decide)
  have h2 := Int.emod_lt_of_pos i (show (0 : Int) < 26 by decide)
  unfold bc
  generalize i % 26 = x at *
  have h3 : x.toNat < letters.length := by simp [letters]; omega
  rw [List.getD_eq_getElem?_getD, List.getElem?_append_left h3, List.getElem?_eq_getElem h3]
  exact List.getElem_mem h3
theorem bc_both {i : Int} : bc (i % 36) ∈ letters ++ figures := by
  have h1 := Int.emod_nonneg i (show (36 : Int) ≠ 0 by decide)
  have h2 := Int.emod_lt_of_pos i (show (0 : Int) < 36 by decide)
  unfold bc
  generalize i % 36 = x at *
  have h3 : x.toNat < (letters ++ figures).length := by rw [both_len]; omega
  rw [List.getD_eq_getElem?_getD, List.getElem?_eq_getElem h3]
  exact List.getElem_mem h3
theorem bc_inj {x y : Int} (hx0 : 0 ≤ x) (hx : x < 36) (hy0 : 0 ≤ y) (hy : y < 36) (h : bc x = bc y) : x = y := by
  have key : ∀ a : Fin 36, ∀ b : Fin 36, (letters ++ figures).getD a.val 0 = (letters ++ figures).getD b.val 0 → a = b := by decide +kernel
  have := key ⟨x.toNat, by omega⟩ ⟨y.toNat, by omega⟩ h
  have := congrArg Fin.val this
  simp at this
  omega
theorem nmL_name {F : Nat → Int} {at' : Int} {long k : Nat} (h1 : 1 ≤ long) (h2 : long ≤ 8) : nameB (nmL F at' long k) = true := by
  obtain ⟨n, rfl⟩ : ∃ n, long = n + 1 := ⟨long - 1, by omega⟩
  have hall : ∀ c ∈ nmL F at' (n + 1) k, c ∈ letters ++ figures := by
    intro c hc
    obtain ⟨j, _, rfl⟩ := List.mem_map.mp hc
    have hm : md j = 26 ∨ md j = 36 := by unfold md; split <;> simp
    unfold sgn
    rcases hm with hm | hm <;> rw [hm]
    · exact List.mem_append_left _ bc_let
    · exact bc_both
  have hl : (nmL F at' (n + 1) k).length = n + 1 := by simp [nmL]
  have hh : headIn (nmL F at' (n + 1) k) letters = true := by
    unfold nmL
    rw [List.range_succ_eq_map, List.map_cons]
    show decide (sgn F at' k 0 ∈ letters) = true
    rw [decide_eq_true_eq]
    unfold sgn md
    rw [if_pos rfl]
    exact bc_let
  unfold nameB
  rw [hl, hh, decide_eq_true h1, decide_eq_true h2]
  simp only [Bool.true_and]
  exact List.all_eq_true.mpr fun c hc => decide_eq_true (hall c hc)
noncomputable def nms (F : Nat → Int) (at' : Int) (long m : Nat) : List Str := (List.range m).map fun k => tx (nmL F at' long k)
structure Good (ys : List Str) (i : Nat) (t : Rw) : Prop where
  n : ∃ z, ys[i]? = some z ∧ t.2.1 = .str z
  c : ∃ c, t.2.2.1 = .int c ∧ 0 ≤ c ∧ c ≤ 10 ^ 30
  r : ∃ r, t.2.2.2 = .int r ∧ 1 ≤ r ∧ r ≤ 1000
structure Kind (ys : List Str) (i : Nat) (ways : Int) (t : Rw) : Prop where
  n1 : ways % 2 = 1 → nOk t.2.1 = false
  n2 : ways % 2 = 0 → ways / 2 % 2 = 1 ∧ 0 < i → ∃ j z, j < i ∧ ys[j]? = some z ∧ t.2.1 = .str z
  n3 : ways % 2 = 0 → ¬ (ways / 2 % 2 = 1 ∧ 0 < i) → ∃ z, ys[i]? = some z ∧ t.2.1 = .str z
  c1 : ways / 4 % 2 = 1 → wIn 0 (10 ^ 30) t.2.2.1 = false
  c2 : ways / 4 % 2 = 0 → wIn 0 (10 ^ 30) t.2.2.1 = true
  r1 : ways / 8 % 2 = 1 → wIn 1 1000 t.2.2.2 = false
  r2 : ways / 8 % 2 = 0 → wIn 1 1000 t.2.2.2 = true
theorem ne1 : Str.ofString "no name" ≠ Str.ofString "nothing" := by decide +kernel
theorem SqT.butL {K : PySem.W.Frag} {H H' : Hp} {p a : Addr} {zs : List V} {xs : List V} (s : SameBut p H H') (hp : H p = some (.lst zs)) (h : SqT K H a xs) : SqT K H' a xs := by
  rcases h with (h | ⟨o, h⟩) | h
  · exact .inl (.inl (s _ _ h (ne_of h hp (by intro z; cases z))))
  · exact .inl (.inr ⟨o, s _ _ h (ne_of h hp (by intro z; cases z))⟩)
  · exact .inr h
theorem same_made {H H' : Hp} {x dx C : Addr} (hx : H x = none) (hd : H dx = none) (s : SameBut x (upd (upd H dx (.own x)) x (.ins C dx [])) H') : Same H H' := fun b o e => by
  have n1 := ne_of_none e hx
  have n2 := ne_of_none e hd
  exact s b o (by rw [upd_ne n1, upd_ne n2]; exact e) n1
theorem name_len {z : Str} (h : nameB z.cps.toList = true) : z.length ≤ 8 := by
  unfold nameB at h
  simp only [Bool.and_eq_true, decide_eq_true_eq] at h
  have := h.1.1.2
  rw [str_len] at this; exact this
end N5

set_option Elab.async false
set_option linter.all false
set_option maxRecDepth 100000
set_option maxHeartbeats 4000000
namespace L2
open PySem PySem.Spec PyProof.Rows
open Sem (wp)

section
variable {Pg : Program} {w : World} {A : Around} {E : Value → Shared → Prop} {h : Heap} {g : Array GenState} {d : Drawn} {t : Nat} {os : OsState}
variable {nm q : Str} {C N : Addr} {bs bm bmB : List Value} {hd : Bool} {sn : List Str} {su : List Value} {ab : Bool} {co : Option Bool} {dd : Option Addr} {k0 k1 k2 k3 k5 : Option Value} {B nw ni : String}
noncomputable abbrev bareExc (h : Heap) (C : Addr) : Obj := { cls := .ref C, data := .fields #[.ref h.objs.size, .none, .none, .none, .bool false, .none] }
noncomputable abbrev twoMore (h : Heap) (C : Addr) (rest : List Value) : Heap := (h.push { cls := .type "tuple", data := .seq rest.toArray }).push (bareExc h C)
theorem keep2 {rest : List Value} : ∀ b o, h.get? b = some o → (twoMore h C rest).get? b = some o := fun _ _ e => Heap.get?_push_of_some _ (Heap.get?_push_of_some _ e)
end
section
open PySem.W PySem.Builtin PySem.Builtin.ObjectAttr
variable {Pg : Program} {w : World} {A : Around} {R : Result → Shared → Prop} {s : Shared} {K : Frag} {x C B : Addr} {ox : Obj} {od : Option Obj} {cd : ClassData} {f : Str} {tk : Tok} {v : Value}
noncomputable abbrev veTail : List Value := [.type "ValueError", .type "Exception", .type "BaseException", .type "object"]
end
noncomputable def exO (n : Bool) (x C : Addr) (od : Option Addr) : HO := .ext fun h => ∃ vs sl, h.get? x = some ⟨.ref C, od, .fields vs, sl⟩ ∧ (n = true → ∃ t, vs = #[.ref t, .none, .none, .none, .bool false, .none])
section
variable {X : Cx} {pins : List (Addr × Obj)} {σ : St} {H : Hp} {x : Addr} {s : Shared} {h' : Heap} {o : HO} {t' : Nat}
end
section
variable {X : Cx} {C : Addr} {x : Str} {p pos : Pos} {e : Expr} {es : List Expr} {t : TA}
end
structure ExcG (K : PySem.W.Frag) (C : Addr) : Prop where
  ga : PySem.W.findIn K (.ref C) "__getattribute__" = some (some (.builtin "BaseException.__getattribute__"))
  gh : PySem.W.findIn K (.ref C) "__getattr__" = some none
structure ExcQ (K : PySem.W.Frag) (C B : Addr) : Prop extends ExcG K C where
  cd : ∃ cd : ClassData, PySem.W.clsIn K C = some cd ∧ cd.mro = .ref C :: .ref B :: veTail ∧ cd.hasDict = true
  sa : PySem.W.findIn K (.ref C) "__setattr__" = some (some (.builtin "object.__setattr__"))
section
variable {X : Cx} {pins : List (Addr × Obj)} {σ : St} {H : Hp} {s : Shared} {nw : Bool} {a dx C B : Addr} {fs : List (Str × V)} {f : Str} {v : V} {A : Around} {E : Value → Shared → Prop}
end
section
variable {X : Cx} {pins : List (Addr × Obj)} {σ : St} {H H1 : Hp} {s s1 : Shared} {x : Addr} {o : HO}
end
section
variable {X : Cx} {CX : CXT} {k j : Nat} {C B : Addr} {ps : List Str} {sp : Sp} {EE : St → XK} {f m : Str} {pos pos' apos : Pos} {e o value : Expr} {ta tv : TE}
end
structure MkX (K : PySem.W.Frag) (C f : Addr) : Prop where
  at_ : ∀ h : Heap, K.In h → ∃ (nm q : Str) (N : Addr) (bs bm : List Value) (hd : Bool) (sn : List Str) (su : List Value) (ab : Bool) (co : Option Bool) (dd : Option Addr) (k0 k1 k2 k3 k5 : Option Value) (mN : Str → Option Value),
    h.get? C = some (excClassObj nm q C N bs bm hd sn su ab co dd k0 k1 k2 k3 k5 "ValueError.__new__") ∧ h.Ns N mN ∧ mN "__init__" = some (.ref f) ∧ OwnTail h veTail bm
  fn : ∃ oI : Obj, K.lookup f = some oI ∧ oI.cls = .type "function"
  kp : PySem.W.keepIn K (.ref C) = true
structure DefX (P : Program) (w : World) (K : PySem.W.Frag) (mg : Str → Option Value) (base : Heap) (CX : CXT) (k : Nat) (x : Str) (C : Addr) (ps : List Str) (sp : Sp) : Prop where
  ex : ∃ (f : Addr) (fd : FuncData), FnOk P w K mg base CX k f fd ps sp ∧ MkX K C f ∧ mg x = some (.ref C) ∧ Binds K fd ps []
section
variable {X : Cx} {CX : CXT} {k j : Nat} {C : Addr} {ps : List Str} {sp : Sp} {EE : St → XK} {x : Str} {p pos : Pos} {e : Expr} {es : List Expr} {t : TA}
end
end L2

set_option Elab.async false
set_option linter.all false
set_option maxRecDepth 100000
set_option maxHeartbeats 4000000
namespace L2
open PySem PySem.Spec PyProof.Rows
open Sem (wp)

section
variable {M : Model} {A : Around} {E : Value → Shared → Prop} {s : Shared} {base : Heap} {env : Env} {outer l : List Env} {L x C : Addr} {od : Option Addr} {vs : Array Value} {sl : Array (Option Value)} {a0 fl : Value} {Q : Unit → Shared → Prop}
end

section
variable {X : Cx} {pins : List (Addr × Obj)} {σ : St} {H2 : Hp} {s2 : Shared} {h3 : Heap} {n : Bool} {x C : Addr} {od : Option Addr}
end
section
variable {P : Program} {w : World} {K : PySem.W.Frag} {mg : Str → Option Value} {base : Heap} {N : List Str} {qual : Str} {scope : Scope} {f : Addr} {cd : Value} {A : Around} {outer : List Env} {s : Shared} {H : Hp} {E : XK}
end

structure ExK (K : PySem.W.Frag) (C : Addr) : Prop where
  at_ : ∀ h : Heap, K.In h → ∃ (nm q : Str) (N : Addr) (bs bm : List Value) (hd : Bool) (sn : List Str) (su : List Value) (ab : Bool) (co : Option Bool) (dd : Option Addr) (k0 k1 k2 k3 k5 : Option Value) (nw : String),
    h.get? C = some (excClassObj nm q C N bs bm hd sn su ab co dd k0 k1 k2 k3 k5 nw) ∧ bm.contains (.type "BaseException") = true
section
variable {X : Cx} {H₀ : Hp} {EE : St → XK} {C : Addr} {e : Expr} {ta : TE} {pos : Pos}
end
noncomputable def pI (C : Addr) (H₀ : Hp) (EE : St → XK) : St → Addr → Hp → Prop := fun σ x H2 => ∃ od, H2 x = some (exO true x C od) ∧ H₀ x = none ∧ EE σ (.ref C) (some x) (upd H2 x (exO false x C od))
section
variable {X : Cx} {H₀ : Hp} {CX : CXT} {EE : St → XK} {k j : Nat} {C : Addr} {ps : List Str} {sp : Sp} {x : Str} {np cpos pos : Pos} {e : Expr} {es : List Expr} {t : TA}
end
section
variable {σ : St} {H H₀ : Hp} {Q : VK} {D : Ends} {K : PySem.W.Frag} {C : Addr} {EE : St → XK} {t : TA} {sp : Sp}
end

section
variable {X : Cx} {pins : List (Addr × Obj)} {σ : St} {H : Hp} {x C : Addr} {od : Option Addr} {s : Shared}
end
section
variable {X : Cx} {Cn n : Str} {c : Value} {i : Nat} {np pos : Pos} {b₀ : Stmt} {suite : List Stmt} {rest : List ExceptHandler} {ts : Addr → TS} {tr : TH}
end
section
variable {σ : St} {H : Hp} {D : Ends} {K : PySem.W.Frag}
end
section
open PySem.W
end
section
open PySem.W
variable {K : Frag} {C N A f : Addr} {nm q : Str} {bs : List Value} {hdct : Bool} {sn : List Str} {sub : List Value} {ab : Bool} {col : Option Bool} {dd : Option Addr} {k0 k1 k2 k3 k5 : Option Value} {oc c0 oc2 : Value} {od dA od2 : Option Addr} {es es2 : Array DictEntry} {ep ep2 : Nat} {sl slA sl2 : Array (Option Value)} {cdA : ClassData} {nw : String}
end
end L2

set_option Elab.async false
set_option linter.all false
set_option maxRecDepth 100000
set_option maxHeartbeats 4000000
namespace L2
open PySem PySem.Spec PyProof.Rows

theorem kV_of {P : Program} {w : World} {k : Key} {u : Value} (h : (mixKind P w).is k u = true) : RelV (kV k) u := by
  cases k with
  | inl i =>
    cases u <;> first | (exact absurd h (by intro z; cases z)) | skip
    rename_i j t
    have e : j = i := by simpa [mixKind, keyIs, Value.isInt] using h
    exact ⟨t, by rw [e]⟩
  | inr x =>
    cases u <;> first | (exact absurd h (by intro z; cases z)) | skip
    rename_i j t
    have e : j = x := by simpa [mixKind, keyIs, Value.isStrOf] using h
    exact ⟨t, by rw [e]⟩
theorem vals_get : ∀ {xs : List V} {us : List Value}, Vals xs us → ∀ {i : Nat} {u : Value}, us[i]? = some u → ∃ x, xs[i]? = some x ∧ RelV x u
  | _, _, .cons r t, 0, u, e => by cases e; exact ⟨_, rfl, r⟩
  | _, _, .cons r t, i + 1, u, e => vals_get t (i := i) e
theorem vals_at : ∀ {xs : List V} {us : List Value}, xs.length = us.length → (∀ (j : Nat) (u : Value), us[j]? = some u → ∃ x, xs[j]? = some x ∧ RelV x u) → Vals xs us
  | [], [], _, _ => .nil
  | x :: xs, u :: us, hl, h => by
    obtain ⟨y, e, r⟩ := h 0 u rfl
    cases e
    exact .cons r (vals_at (by simpa using hl) fun j v e => h (j + 1) v e)
theorem paired_get {α β : Type} {F : α → β → Prop} : ∀ {l : List α} {m : List β}, Paired F l m → ∀ {i : Nat} {b : β}, m[i]? = some b → ∃ a, l[i]? = some a ∧ F a b
  | _, _, .cons r t, 0, b, e => by cases e; exact ⟨_, rfl, r⟩
  | _, _, .cons r t, i + 1, b, e => paired_get t (i := i) e
theorem erase_map {α β : Type} (f : α → β) : ∀ (l : List α) (i : Nat), (l.map f).eraseIdx i = (l.eraseIdx i).map f
  | [], _ => rfl
  | _ :: _, 0 => rfl
  | a :: l, i + 1 => by rw [List.map_cons, List.eraseIdx_cons_succ, List.eraseIdx_cons_succ, List.map_cons, erase_map f l i]
theorem erase_at (z : Str) : ∀ l : List Str, l.eraseIdx (l.idxOf z) = l.erase z
  | [] => rfl
  | a :: l => by
    by_cases h : a = z
    · subst h; simp
    · have e : (a :: l).idxOf z = l.idxOf z + 1 := by rw [List.idxOf_cons, show (a == z) = false from beq_false_of_ne h]; rfl
      rw [e, List.eraseIdx_cons_succ, erase_at z l, List.erase_cons_tail (by simpa using h)]
noncomputable def viewO (v d : Addr) : HO := .ext fun h => h.IsValuesView v d
noncomputable def rListD : List V → Hp → VK → Prop := fun xs H Q => ∃ a kvs, xs = [.ref a] ∧ H a = some (.dK kvs) ∧ ∀ l, H l = none → Q (.ref l) (upd H l (.lst (kvs.map fun p => kV p.1)))
noncomputable def rValues : V → List V → Hp → VK → Prop := fun x vs H Q => ∃ a kvs, x = .ref a ∧ vs = [] ∧ H a = some (.dK kvs) ∧ ∀ v, H v = none → Q (.ref v) (upd H v (viewO v a))
noncomputable def rSumV : List V → Hp → VK → Prop := fun xs H Q => ∃ (v d : Addr) (kvs : List (Key × V)) (is : List Int), xs = [.ref v] ∧ H v = some (viewO v d) ∧ H d = some (.dK kvs) ∧ kvs.map (·.2) = is.map V.int ∧ Q (.int is.sum) H
noncomputable def rRemove : V → List V → Hp → VK → Prop := fun x vs H Q => ∃ (l : Addr) (ys : List Str) (z : Str), x = .ref l ∧ vs = [.str z] ∧ H l = some (.lst (ys.map V.str)) ∧ z ∈ ys ∧ Q .non (upd H l (.lst ((ys.erase z).map V.str)))
section
variable {X : Cx}
theorem call_listD (hc : X.calm = true) : CallR X (.type "list") rListD := by
  intro pins s σ H xs us Q I r h
  obtain ⟨a, kvs, rfl, ha, q⟩ := h
  obtain ⟨u, rfl, rx⟩ := vals1 r
  cases rx
  obtain ⟨z, lo, ws, rel, ob, es, ep, e1, e2⟩ := I.hok a _ ha
  have dat : s.heap.DictAt (mixKind X.prog X.w) a ws ep := ⟨ob, es, e1, e2⟩
  refine PySem.W.kdl_call (PySem.W.kdl_dict (knd := mixKind X.prog X.w) (kvs := ws) (ep := ep) lo) (I.ok.hd hc) dat (by rw [← rel.length]; exact z) fun h' tk acc c' kp e hi => ?_
  have hv : Vals (kvs.map fun p => kV p.1) acc.toList := by
    have h1 := hi.1
    have h2 := rel.length
    refine vals_at (by rw [List.length_map]; exact h2.trans (h1.symm.trans (Array.length_toList (xs := acc)).symm)) fun j u ej => ?_
    obtain ⟨k, x, ek, hk⟩ := hi.2 j u (by rw [← Array.getElem?_toList]; exact ej)
    obtain ⟨p, ep', hp⟩ := paired_get rel ek
    exact ⟨kV p.1, by rw [List.getElem?_map, ep']; rfl, by rw [hp.1]; exact kV_of hk⟩
  refine ⟨.ref s.heap.objs.size, _, I.laid (t' := tk) kp (Nat.le_refl _) (show ObjOk X.prog X.w _ h' _ (.lst (kvs.map fun p => kV p.1)) from ⟨by rw [List.length_map]; exact z, acc.toList, c', hv, ?_⟩), rfl, q _ I.fresh⟩
  rw [Array.toArray_toList]; exact e
theorem mt_remove : MtM X "list.remove" rRemove := by
  intro pins s σ H x vs v us Q I rx rv h
  obtain ⟨l, ys, z, rfl, rfl, hH, hz, q⟩ := h
  cases rx
  obtain ⟨u, rfl, ru⟩ := rv.one
  obtain ⟨t, rfl⟩ := ru
  obtain ⟨hs, its, n, r, hl, e⟩ := I.lstM hH
  have hj : ys.idxOf z < ys.length := List.idxOf_lt_length_iff.mpr hz
  have at_ : ∀ (m : Nat) (u : Value), its[m]? = some u → ∃ y t, ys[m]? = some y ∧ u = .str y t := fun m u em => by
    obtain ⟨x, ex, rx⟩ := vals_get r em
    rw [List.getElem?_map] at ex
    cases hy : ys[m]? with
    | none => rw [hy] at ex; cases ex
    | some y =>
      rw [hy] at ex
      cases ex
      obtain ⟨t, e⟩ := rx
      exact ⟨y, t, rfl, e⟩
  have ev : ∀ y, y ∈ its.toArray → MeetsSeq.EqGives y (.str z t) (PyProof.Rows.isStrOf z y) := fun y hy => by
    obtain ⟨m, hm⟩ := List.mem_iff_getElem?.mp (by simpa using hy)
    obtain ⟨y', t', _, rfl⟩ := at_ m y hm
    exact eqGives_str y' z t' t
  have hit : ∀ (m : Nat) (hm : m < its.toArray.size), ∃ y t, ys[m]? = some y ∧ its.toArray[m] = .str y t := fun m hm => at_ m _ (by simp)
  refine call_meets F.slot_list_remove ⟨_, e, rfl⟩ F.entry_list_remove (F.args_list_remove_2 _ _) (MeetsSeq.list_remove l its.toArray n (.str z t) (isStrOf z) ev (ys.idxOf z) (by rw [List.size_toArray, ← hl, List.length_map]; exact hj) ?_ ?_ (by rw [List.size_toArray]; omega)) ⟨e, ?_⟩
  · obtain ⟨y, t', h1, h2⟩ := hit (ys.idxOf z) (by rw [List.size_toArray, ← hl, List.length_map]; exact hj)
    rw [h2]
    have e3 : ys[ys.idxOf z]? = some z := by rw [List.getElem?_eq_getElem hj, List.getElem_idxOf hj]
    rw [e3] at h1; cases h1
    simp [isStrOf]
  · intro m hm hlt
    obtain ⟨y, t', h1, h2⟩ := hit m hm
    rw [h2]
    have e3 : (ys[m]'(by omega) == z) = false := List.not_of_lt_findIdx hlt
    rw [List.getElem?_eq_getElem (by omega)] at h1
    cases h1
    exact e3
  · refine ⟨.non, _, I.lset (its' := its.eraseIdx (ys.idxOf z)) hH e ?_ (ys := (ys.erase z).map V.str) ?_ ?_, rfl, q⟩
    · rw [List.eraseIdxIfInBounds_toArray]
    · have := r.eraseIdx (ys.idxOf z)
      have e5 : (ys.map V.str).eraseIdx (ys.idxOf z) = (ys.erase z).map V.str := by
        rw [erase_map, erase_at]
      rw [e5] at this
      exact this
    · have := List.length_erase_le (a := z) (l := ys)
      rw [List.length_map] at hs ⊢
      omega
noncomputable def rIsNB : R2 := fun x y H Q => ∃ a b, x = .bl a ∧ y = .bl b ∧ Q (.bl (!(a == b))) H
end
section
variable {σ : St} {H : Hp} {Q : VK} {xs : List V} {x y : V}
theorem rd_dpop1 {td ty : TE} : tDPop1 td ty σ H Q = td σ H fun x H1 => ∃ a, x = .ref a ∧ IsD H1 a ∧ ty σ H1 fun y H2 => ∃ kvs k v, H2 a = some (.dK kvs) ∧ y = kV k ∧ valV kvs k = some v ∧ Q v (upd H2 a (.dK (dropK kvs k))) := rfl
theorem rd_dget2 {td ty tx : TE} : tDGet2 td ty tx σ H Q = td σ H fun x H1 => ∃ a, x = .ref a ∧ IsD H1 a ∧ ty σ H1 fun y H2 => tx σ H2 fun z H3 => ∃ o, DGet H3 a y o ∧ Q (o.getD z) H3 := rfl
theorem rd_popAt : rPopAt x xs H Q = ∃ l ys i k y, x = .ref l ∧ xs = [.int i] ∧ H l = some (.lst ys) ∧ -(2 ^ 63) ≤ i ∧ i < 2 ^ 63 ∧ seqIndex? i ys.length = some k ∧ ys[k]? = some y ∧ Q y (upd H l (.lst (ys.eraseIdx k))) := rfl
theorem rd_listD : rListD xs H Q = ∃ a kvs, xs = [.ref a] ∧ H a = some (.dK kvs) ∧ ∀ l, H l = none → Q (.ref l) (upd H l (.lst (kvs.map fun p => kV p.1))) := rfl
theorem rd_values : rValues x xs H Q = ∃ a kvs, x = .ref a ∧ xs = [] ∧ H a = some (.dK kvs) ∧ ∀ v, H v = none → Q (.ref v) (upd H v (viewO v a)) := rfl
theorem rd_sumV : rSumV xs H Q = ∃ (v d : Addr) (kvs : List (Key × V)) (is : List Int), xs = [.ref v] ∧ H v = some (viewO v d) ∧ H d = some (.dK kvs) ∧ kvs.map (·.2) = is.map V.int ∧ Q (.int is.sum) H := rfl
theorem rd_remove : rRemove x xs H Q = ∃ (l : Addr) (ys : List Str) (z : Str), x = .ref l ∧ xs = [.str z] ∧ H l = some (.lst (ys.map V.str)) ∧ z ∈ ys ∧ Q .non (upd H l (.lst ((ys.erase z).map V.str))) := rfl
theorem rd_isnB : rIsNB x y H Q = ∃ a b, x = .bl a ∧ y = .bl b ∧ Q (.bl (!(a == b))) H := rfl
end
section
variable {i j : Int} {a b : Bool} {x y : Str}
end
end L2

set_option linter.all false
set_option maxHeartbeats 1000000
namespace L2
open PySem PySem.Spec PyProof.Rows N1 N5
section
variable {K : PySem.W.Frag} {tail : St} {te : Blk → TE} {Q : VK} {H1 : Hp}
theorem compL_ix {a : Addr} {xs : List V} (f : Nat → V) (hS : SqL K H1 a xs) (hz : xs.length ≤ sizeLine) (he : ∀ b i x H Q', xs[i]? = some x → Same H1 H → Q' (f i) H → te b (some x :: tail) H Q')
    (q : ∀ D, H1 D = none → Q (.ref D) (upd H1 D (.lst ((List.range xs.length).map f)))) : CompTail (none :: tail) (fun _ => gName 0) (fun _ => tYes) te Q (Itl K a) H1 := by
  refine comp_by xs.length (fun b D hD => ⟨fun i ys H => i ≤ xs.length ∧ ys = (List.range i).map f ∧ H = upd H1 D (.lst ys), ⟨Nat.zero_le _, rfl, rfl⟩, ?_, ?_, ?_⟩)
  · rintro i ys H ⟨hi, rfl, rfl⟩
    exact upd_same
  · rintro ys H ⟨_, rfl, rfl⟩
    exact ⟨⟨xs, (same_new hD).seq hS, Nat.le_refl _⟩, q D hD⟩
  · rintro i ys H hi ⟨_, rfl, rfl⟩
    refine ⟨⟨xs, xs[i], (same_new hD).seq hS, by simp [hi]⟩, fun x H3 ⟨e3, ex⟩ => ?_⟩
    subst e3
    refine he b i x _ _ (ex xs ((same_new hD).seq hS)) (same_new hD) (compNext upd_same (by rw [List.length_map, List.length_range]; omega) hi ⟨hi, ?_, ?_⟩)
    · rw [List.range_succ]; simp
    · funext a; by_cases ha : a = D <;> simp [upd, ha]
noncomputable def OffLists (P : V → Hp → Prop) : Prop := ∀ y H H' l zs, P y H → H l = some (.lst zs) → SameBut l H H' → P y H'
theorem compR_mk {lo : Int} {n : Nat} (P : Nat → V → Hp → Prop) (hP : ∀ i, OffLists (P i)) (hz : n ≤ sizeLine) (he : ∀ b (i : Nat) H Q', i < n → Same H1 H → (∀ y H', Same H H' → P i y H' → Q' y H') → te b (some (.int (lo + i)) :: tail) H Q')
    (q : ∀ D ys H', H1 D = none → Same H1 H' → H' D = some (.lst ys) → ys.length = n → (∀ i y, ys[i]? = some y → P i y H') → Q (.ref D) H') : CompTail (none :: tail) (fun _ => gName 0) (fun _ => tYes) te Q (Itr lo n) H1 := by
  refine comp_by n (fun b D hD => ⟨fun i ys H => i ≤ n ∧ ys.length = i ∧ H D = some (.lst ys) ∧ Same H1 H ∧ ∀ j y, ys[j]? = some y → P j y H, ⟨Nat.zero_le _, rfl, upd_same, same_new hD, fun j y e => by simp at e⟩, ?_, ?_, ?_⟩)
  · rintro i ys H ⟨hi, _, h, _⟩
    exact h
  · rintro ys H ⟨_, hl, h, sm, hall⟩
    exact ⟨Nat.le_refl _, q D ys H hD sm h hl hall⟩
  · rintro i ys H hi ⟨_, hl, h, sm, hall⟩
    refine ⟨hi, fun x H3 ⟨e3, ex⟩ => ?_⟩
    subst e3 ex
    refine he b i _ _ hi sm fun y H4 sm4 py => ?_
    have h4 := sm4 _ _ h
    have sb : SameBut D H4 (upd H4 D (.lst (ys ++ [y]))) := sameBut_upd
    refine compNext h4 (by omega) hi ⟨hi, by rw [List.length_append, hl]; rfl, upd_same, fun c o e => ?_, fun j y' e => ?_⟩
    · rw [upd_ne (ne_of_none e hD)]; exact sm4 _ _ (sm _ _ e)
    · by_cases hj : j < ys.length
      · rw [List.getElem?_append_left hj] at e
        have := hall j y' e
        exact hP j _ _ _ _ _ this h fun c o e n => by rw [upd_ne n]; exact sm4 _ _ e
      · rw [List.getElem?_append_right (by omega)] at e
        have hj0 : j = i := by have := (List.getElem?_eq_some_iff.mp e).1; simp at this; omega
        subst hj0
        rw [show j - ys.length = 0 by omega] at e
        cases e
        exact hP j _ _ _ _ _ py h4 sb
end
end L2
namespace N4
open PySem PySem.Spec PyProof.Rows L2 N1 N5
noncomputable def sp_checkG (K : PySem.W.Frag) : Sp := fun vs H Q _ => ∃ (n co r : V) (e : Addr) (kvs : List (Key × V)) (ks : List Str), vs = [n, co, r, .ref e] ∧ H e = some (.dK kvs) ∧ kvs.map (·.1) = ks.map Sum.inr ∧ rowR ks n co r = none ∧ ∀ H', Same H H' → Q .non H'
noncomputable def sp_initG (K : PySem.W.Frag) (C : Addr) : Sp := fun vs H Q _ => ∃ (p dx ra : Addr) (rs : List Rw), vs = [.ref p, .ref ra] ∧ H p = some (.ins C dx []) ∧ SqL K H ra (rs.map fun t => V.ref t.1) ∧ (∀ t ∈ rs, SqT K H t.1 [t.2.1, t.2.2.1, t.2.2.2]) ∧ initR rs = none ∧
  ∀ H', SameBut p H H' → StockAt K C H' p (rs.map thOf) → Q .non H'
theorem initR_none {rs : List Rw} (h : initR rs = none) : rs.length ≤ 60 ∧ stockR [] rs = none := by
  unfold initR at h
  split at h
  · cases h
  · exact ⟨by omega, h⟩
theorem wIn_ok {lo hi c : Int} (h1 : lo ≤ c) (h2 : c ≤ hi) : wIn lo hi (.int c) = true := by
  show (decide (lo ≤ c) && decide (c ≤ hi)) = true
  rw [decide_eq_true h1, decide_eq_true h2]; rfl
theorem stockR_ok : ∀ (rs : List Rw) (ks : List Str), (∀ t ∈ rs, ∃ z c q, t.2.1 = .str z ∧ t.2.2.1 = .int c ∧ t.2.2.2 = .int q ∧ nameB z.cps.toList = true ∧ 0 ≤ c ∧ c ≤ 10 ^ 30 ∧ 1 ≤ q ∧ q ≤ 1000) → (ks ++ rs.map fun t => sOf t.2.1).Nodup → stockR ks rs = none
  | [], _, _, _ => rfl
  | t :: rs, ks, h, nd => by
    obtain ⟨z, c, q, e1, e2, e3, hn, h1, h2, h3, h4⟩ := h t (List.mem_cons_self ..)
    have hz : ¬ z ∈ ks := fun hz => by
      rw [List.map_cons, List.nodup_append] at nd
      exact nd.2.2 z hz (sOf t.2.1) (List.mem_cons_self ..) (by rw [e1]; rfl)
    have r0 : rowR ks t.2.1 t.2.2.1 t.2.2.2 = none := by
      unfold rowR
      rw [e1, e2, e3]
      rw [if_neg (by show ¬ nameB z.cps.toList = false; rw [hn]; decide), if_neg (show ¬ sOf (.str z) ∈ ks from hz), if_neg (by rw [wIn_ok h1 h2]; decide), if_neg (by rw [wIn_ok h3 h4]; decide)]
    unfold stockR
    rw [r0]
    refine stockR_ok rs _ (fun t' ht => h t' (List.mem_cons_of_mem _ ht)) ?_
    rw [List.append_assoc]
    exact nd
theorem valV_nth {kvs : List (Key × V)} {i : Nat} {k : Key} {v : V} (nd : (kvs.map (·.1)).Nodup) (e : kvs[i]? = some (k, v)) : valV kvs k = some v := by
  induction kvs generalizing i with
  | nil => rw [List.getElem?_nil] at e; cases e
  | cons p r ih =>
    cases i with
    | zero => cases e; exact valV_pos rfl
    | succ i =>
      rw [List.map_cons, List.nodup_cons] at nd
      have hm : (k, v) ∈ r := List.mem_of_getElem? e
      rw [valV_neg (fun z => nd.1 (by rw [z]; exact List.mem_map_of_mem (f := (·.1)) hm))]
      exact ih nd.2 e
theorem inr_nodup {ks : List Str} (h : ks.Nodup) : (ks.map (Sum.inr : Str → Key)).Nodup := by
  unfold List.Nodup at *
  rw [List.pairwise_map]
  exact h.imp fun n e => n (by injection e)
section
variable {K : PySem.W.Frag} {C : Addr} {H H' : Hp} {p : Addr} {ts : List Th} {z : Str}
theorem StockAt.has (h : StockAt K C H p ts) : ∃ dx d kvs, H p = some (.ins C dx (flds d)) ∧ H d = some (.dK kvs) ∧ (kvs.map fun q => kV q.1) = ts.map (fun t => V.str t.1) ∧ (∀ z, (valV kvs (Sum.inr z)).isSome = decide (z ∈ ts.map (·.1))) ∧
    ((ts.map (·.1)).Nodup → ∀ (i : Nat) (t : Th), ts[i]? = some t → ∃ a, valV kvs (Sum.inr t.1) = some (.ref a) ∧ SqT K H a [.int i, .int t.2.1, .int t.2.2]) := by
  obtain ⟨dx, d, kvs, h1, h2, h3, h4⟩ := h.ex
  have h3' : kvs.map (·.1) = (ts.map (·.1)).map Sum.inr := by rw [h3, List.map_map]; rfl
  refine ⟨dx, d, kvs, h1, h2, ?_, fun z => key_mem h3', fun nd i t e => ?_⟩
  · have := congrArg (List.map kV) h3
    rw [List.map_map, List.map_map] at this
    exact this
  · obtain ⟨a, e1, e2⟩ := h4 i t e
    exact ⟨a, valV_nth (by rw [h3']; exact inr_nodup nd) e1, e2⟩
end
noncomputable def pick (w : Nat) (i : Nat) (t : Th) : Int := if w = 0 then i else if w = 1 then t.2.1 else t.2.2
noncomputable def sp_has (K : PySem.W.Frag) (C : Addr) : Sp := fun vs H Q _ => ∃ (p : Addr) (ts : List Th) (z : Str), vs = [.ref p, .str z] ∧ StockAt K C H p ts ∧ Q (.bl (decide (z ∈ ts.map (·.1)))) H
noncomputable def sp_nms (K : PySem.W.Frag) (C : Addr) : Sp := fun vs H Q _ => ∃ (p : Addr) (ts : List Th), vs = [.ref p] ∧ StockAt K C H p ts ∧ ∀ l, H l = none → Q (.ref l) (upd H l (.lst ((ts.map (·.1)).map V.str)))
theorem mem_nth {ts : List Th} {z : Str} (h : z ∈ ts.map (·.1)) : ∃ (i : Nat) (t : Th), ts[i]? = some t ∧ t.1 = z := by
  obtain ⟨t, ht, e⟩ := List.mem_map.mp h
  obtain ⟨i, hi⟩ := List.mem_iff_getElem?.mp ht
  exact ⟨i, t, hi, e⟩
end N4

set_option linter.all false
set_option maxHeartbeats 1000000
namespace N4
open PySem PySem.Spec PyProof.Rows L2 N1 N5
theorem md_two {j : Nat} : md j = 26 ∨ md j = 36 := by unfold md; split <;> simp
theorem bc_mod {x y : Int} {j : Nat} (h : bc (x % md j) = bc (y % md j)) : x % md j = y % md j := by
  rcases md_two (j := j) with hm | hm <;> rw [hm] at h ⊢
  · exact bc_inj (by omega) (by omega) (by omega) (by omega) h
  · exact bc_inj (by omega) (by omega) (by omega) (by omega) h
noncomputable def nm1 (c : Int) (G : Nat → Int) (k : Nat) : List Nat := bc ((c + k / 8) % 26) :: ((List.range 7).map fun j => bc (G j % 36)).take (k % 8)
theorem nm1_name {c : Int} {G : Nat → Int} {k : Nat} : nameB (nm1 c G k) = true := by
  have hall : ∀ x ∈ nm1 c G k, x ∈ letters ++ figures := by
    intro x hx
    rcases List.mem_cons.mp hx with rfl | hx
    · exact List.mem_append_left _ bc_let
    · obtain ⟨j, _, rfl⟩ := List.mem_map.mp (List.mem_of_mem_take hx)
      exact bc_both
  have hl : (nm1 c G k).length ≤ 8 := by simp [nm1]; omega
  have hl1 : 1 ≤ (nm1 c G k).length := by simp [nm1]
  unfold nameB
  rw [decide_eq_true hl1, decide_eq_true hl]
  simp only [Bool.true_and]
  rw [show headIn (nm1 c G k) letters = true from decide_eq_true bc_let, Bool.true_and]
  exact List.all_eq_true.mpr fun x hx => decide_eq_true (hall x hx)
theorem nm1_inj {c : Int} {G : Nat → Int} {k k' : Nat} (hk : k < 61) (hk' : k' < 61) (h : nm1 c G k = nm1 c G k') : k = k' := by
  unfold nm1 at h
  injection h with h1 h2
  have e1 := bc_inj (by omega) (by omega) (by omega) (by omega) h1
  have e2 := congrArg List.length h2
  simp only [List.length_take, List.length_map, List.length_range] at e2
  omega
theorem tx_nodup {f : Nat → List Nat} {m : Nat} (h : ∀ a b, a < m → b < m → f a = f b → a = b) : ((List.range m).map fun k => tx (f k)).Nodup := by
  unfold List.Nodup
  rw [List.pairwise_map]
  refine List.Pairwise.imp_of_mem (R := fun a b => a ≠ b) ?_ List.nodup_range
  intro a b ha hb ne e
  exact ne (h a b (List.mem_range.mp ha) (List.mem_range.mp hb) (T_inj e))
structure RowsAt (K : PySem.W.Frag) (H : Hp) (r : Addr) (as : List Addr) (ts : List Th) : Prop where
  l : SqL K H r (as.map V.ref)
  n : as.length = ts.length
  m : ts.length ≤ 60
  at_ : ∀ (i : Nat) (a : Addr) (t : Th), as[i]? = some a → ts[i]? = some t → SqT K H a [.str t.1, .int t.2.1, .int t.2.2]
  ok : ∀ t ∈ ts, nameB t.1.cps.toList = true ∧ 0 ≤ t.2.1 ∧ t.2.1 ≤ 10 ^ 30 ∧ 1 ≤ t.2.2 ∧ t.2.2 ≤ 1000
  nd : (ts.map (·.1)).Nodup
theorem RowsAt.same {K : PySem.W.Frag} {H H' : Hp} {r : Addr} {as : List Addr} {ts : List Th} (s : Same H H') (h : RowsAt K H r as ts) : RowsAt K H' r as ts :=
  ⟨s.seq h.l, h.n, h.m, fun i a t e1 e2 => s.tup (h.at_ i a t e1 e2), h.ok, h.nd⟩
theorem slice_to {l : List Nat} {n : Int} (h0 : 0 ≤ n) (h1 : n ≤ l.length) : Txt.slice (tx l) none (some n) = tx (l.take n.toNat) := by
  have h := slice_closes_toL (x := tx l) h0 (by rw [T_len]; exact h1)
  rw [beq_iff_eq.mp h, T_list]
  show tx _ = tx _
  rw [show (0 : Int).toNat = 0 from rfl, List.drop_zero, Int.sub_zero]
noncomputable def rwOf (a : Addr) (t : Th) : Rw := (a, .str t.1, .int t.2.1, .int t.2.2)
theorem RowsAt.init {K : PySem.W.Frag} {H : Hp} {r : Addr} {as : List Addr} {ts : List Th} (h : RowsAt K H r as ts) : ∃ rs : List Rw, rs.map (fun t => V.ref t.1) = as.map V.ref ∧ (∀ t ∈ rs, SqT K H t.1 [t.2.1, t.2.2.1, t.2.2.2]) ∧ initR rs = none ∧ rs.map thOf = ts := by
  have hn := h.n
  have gt : ∀ (i : Nat) (x : Addr × Th), (as.zip ts)[i]? = some x → as[i]? = some x.1 ∧ ts[i]? = some x.2 := fun i x e => by
    rw [List.getElem?_zip_eq_some] at e; exact e
  have e1 : ((as.zip ts).map fun x => rwOf x.1 x.2).map thOf = ts := by
    rw [List.map_map]
    have : (thOf ∘ fun x : Addr × Th => rwOf x.1 x.2) = Prod.snd := by funext x; rfl
    rw [this, List.map_snd_zip (by omega)]
  refine ⟨(as.zip ts).map fun x => rwOf x.1 x.2, ?_, ?_, ?_, e1⟩
  · rw [List.map_map]
    have : ((fun t : Rw => V.ref t.1) ∘ fun x : Addr × Th => rwOf x.1 x.2) = V.ref ∘ Prod.fst := by funext x; rfl
    rw [this, ← List.map_map, List.map_fst_zip (by omega)]
  · intro t ht
    obtain ⟨x, hx, rfl⟩ := List.mem_map.mp ht
    obtain ⟨i, hi⟩ := List.mem_iff_getElem?.mp hx
    obtain ⟨h1, h2⟩ := gt i x hi
    exact h.at_ i x.1 x.2 h1 h2
  · unfold initR
    rw [if_neg (by rw [List.length_map, List.length_zip]; have := h.m; omega)]
    refine stockR_ok _ _ (fun t ht => ?_) ?_
    · obtain ⟨x, hx, rfl⟩ := List.mem_map.mp ht
      obtain ⟨i, hi⟩ := List.mem_iff_getElem?.mp hx
      obtain ⟨h1, h2⟩ := gt i x hi
      obtain ⟨o1, o2, o3, o4, o5⟩ := h.ok x.2 (List.mem_of_getElem? h2)
      exact ⟨x.2.1, x.2.2.1, x.2.2.2, rfl, rfl, rfl, o1, o2, o3, o4, o5⟩
    · rw [List.nil_append, List.map_map]
      have : ((fun t : Rw => sOf t.2.1) ∘ fun x : Addr × Th => rwOf x.1 x.2) = (fun t : Th => t.1) ∘ Prod.snd := by funext x; rfl
      rw [this, ← List.map_map, List.map_snd_zip (by omega)]
      exact h.nd
end N4

set_option linter.all false
set_option maxHeartbeats 1000000
namespace L2
open PySem PySem.Spec PyProof.Rows PySem.W
noncomputable def rSumL (K : PySem.W.Frag) : List V → Hp → VK → Prop := fun xs H Q => ∃ (p : Addr) (is : List Int), xs = [.ref p] ∧ SqL K H p (is.map V.int) ∧ Q (.int is.sum) H
theorem preSum_is (is : List Int) : preSum (fun i => is.getD i 0) is.length = is.sum := by
  have key : ∀ n, n ≤ is.length → preSum (fun i => is.getD i 0) n = (is.take n).sum := by
    intro n
    induction n with
    | zero => intro _; rfl
    | succ n ih =>
      intro h
      have e : is.take (n + 1) = is.take n ++ [is.getD n 0] := by
        rw [List.take_add_one, List.getD_eq_getElem?_getD, List.getElem?_eq_getElem (by omega)]
        rfl
      rw [preSum, ih (by omega), e, List.sum_append]
      simp
  have := key is.length (Nat.le_refl _)
  rwa [List.take_length] at this
section
variable {X : Cx}
theorem call_sumL (hc : X.calm = true) : CallR X (.builtin "sum") (rSumL X.K) := by
  intro pins s σ H xs us Q I r h
  obtain ⟨p, is, rfl, hp, q⟩ := h
  obtain ⟨u, rfl, ru⟩ := vals1 r
  cases ru
  obtain ⟨its, r, pl, hz⟩ := I.list hp
  have hlt : p < s.heap.objs.size := by obtain ⟨o, n, e, _⟩ := pl; exact Heap.lt_size e
  have hlen := r.length
  rw [List.length_map] at hlen
  refine call_sum_walkAnyS (wpAny_pyIter_list pl.isList ⟨s.heap.objs.size, _, _, _, _, _, _, fun i => is.getD i 0, rfl, (Walks.list (show X.A.in1.handled = none from I.ok.hd hc) s.heap.objs.size p (Nat.ne_of_lt hlt) its.toArray).toS, ⟨⟨_, Heap.get?_push_size _ rfl, rfl, rfl⟩, pl.isList.push _⟩, fun b hb => ?_, fun i v hP => ?_, fun s' t' hmv => ?_⟩)
  · show b < (s.heap.push _).objs.size
    rw [Heap.size_push]
    rcases List.mem_cons.mp hb with e | hb
    · rw [e]; exact Nat.lt_succ_self _
    · rw [List.mem_singleton.mp hb]; exact Nat.lt_succ_of_lt hlt
  · have hP : its.toArray[i]? = some v := hP
    have hi : i < is.length := by
      have := (Array.getElem?_eq_some_iff.mp hP).1
      rw [List.size_toArray] at this
      omega
    obtain ⟨u, hu, ru⟩ := r.get (i := i) (x := V.int (is[i])) (by simp [hi])
    have e : u = v := by
      have : its[i]? = some v := by simpa using hP
      rw [hu] at this; exact Option.some.inj this
    subst e
    show ∃ t, u = Value.int (is.getD i 0) t
    rw [List.getD_eq_getElem?_getD, List.getElem?_eq_getElem hi]
    exact ru
  · have hk : ∀ b o, s.heap.get? b = some o → s'.heap.get? b = some o := fun b o e =>
      hmv.heap b o (fun hI => absurd (Heap.lt_size e) (by rw [List.mem_singleton.mp hI]; exact Nat.lt_irrefl _)) (Heap.get?_push_of_some _ e)
    rw [Moved.eq_with hmv]
    refine ⟨.int is.sum, H, I.kept (t' := s'.toks) hk, ⟨t', ?_⟩, q⟩
    rw [List.size_toArray, ← hlen, preSum_is]
end
section
variable {σ : St} {H : Hp} {Q : VK} {D : Ends} {K : PySem.W.Frag} {xs : List V} {x y : V}
theorem rd_sumL : rSumL K xs H Q = ∃ (p : Addr) (is : List Int), xs = [.ref p] ∧ SqL K H p (is.map V.int) ∧ Q (.int is.sum) H := rfl
theorem rd_ipI {f : Int → Int → Int} : ipI f x y H Q = ∃ i j, x = .int i ∧ y = .int j ∧ Q (.int (f i j)) H := rfl
end
section
open PySem.W
variable {K : Frag} {C D : Addr} {cd : ClassData}
end
end L2
namespace N31
open PySem PySem.Spec PyProof.Rows L2 N1 N5
noncomputable def fldN (l : Addr) : List (Str × V) := putF "numbers" (.ref l) []
structure SumsAt (C : Addr) (H : Hp) (p l : Addr) (is : List Int) : Prop where
  o : ∃ dx, H p = some (.ins C dx (fldN l))
  l : H l = some (.lst (is.map V.int))
end N31

set_option Elab.async false
set_option linter.all false
set_option maxRecDepth 100000
set_option maxHeartbeats 4000000
namespace L2
open PySem PySem.Spec PyProof.Rows

theorem Inv.turned2 {X : Cx} {pins : List (Addr × Obj)} {σ : St} {H : Hp} {s : Shared} {h' : Heap} {t' : Nat} {fp : List Addr} (I : Inv X pins σ H s) (k : ∀ b o, b ∉ fp → s.heap.get? b = some o → h'.get? b = some o) (hf : ∀ it ∈ fp, FpOk X pins H it) :
    Inv X pins σ H { s with heap := h', toks := t' } := by
  have nit : ∀ b u, H b = some u → b ∉ fp := fun b u e z => by rw [(hf b z).1] at e; cases e
  refine I.step (g' := s.gens) (d' := s.drawn) (ch := fp) (fun b hb => ?_) (fun b o _ _ hc e _ => k b o hc e) (fun b o _ _ hc e _ => ⟨o.slots, k b o hc e⟩) (fun _ _ _ _ n => n)
    (fun b o hc e => ⟨o, k b o hc e⟩) (fun _ _ e => e) (fun _ _ _ e => e) (fun b ps e => ⟨#[], by rw [e]; simp⟩) (fun m hm => ?_) (fun b u e => ?_) I.bare
  · obtain ⟨_, h1, _, h2, h3, h4⟩ := hf b hb
    exact ⟨h2, h1, h3, h4⟩
  · obtain ⟨o, es, ep, ho, r⟩ := hm
    exact ⟨o, es, ep, k _ o (fun z => (hf _ z).2.1 rfl) ho, r⟩
  · refine (I.hok b u e).stay (fun c v hc q => k c v ?_ q) (fun _ q => q) fun _ _ q => q
    rcases hc with z | z
    · rw [z]; exact nit b u e
    · exact nit c _ z
noncomputable def Ite (K : PySem.W.Frag) (a : Addr) : It :=
  ⟨fun i H => ∃ xs x, SqL K H a xs ∧ xs[i]? = some x, fun i H y H' => ∃ t x, y = .ref t ∧ H t = none ∧ H' = upd H t (.tup [.int i, x]) ∧ ∀ xs, SqL K H a xs → xs[i]? = some x, fun i H => ∃ xs, SqL K H a xs ∧ xs.length ≤ i⟩
noncomputable def tnE (e it a : Addr) (i : Nat) (h : Heap) : Prop := (∃ old, IsEnum h e it i old) ∧ h.IsListIter it a i
theorem turn_enum {P : Program} {w : World} {K : PySem.W.Frag} {es : List Expr} {k : Nat} {pos : Pos} (a e it : Addr) (ne : e ≠ it) : Turn P w K (.Tuple es k pos) (Ite K a) [e, it] e (tnE e it a) where
  mem := by simp
  obj := fun i h st b hb => by
    obtain ⟨⟨old, h1⟩, o, h2, c, d⟩ := st
    have hb : b = e ∨ b = it := by simpa using hb
    rcases hb with rfl | rfl
    · exact ⟨_, h1, fun v z => by cases z⟩
    · exact ⟨o, h2, fun v z => by rw [d] at z; cases z⟩
  keep := fun i h h' st kk => by
    obtain ⟨⟨old, h1⟩, h2⟩ := st
    exact ⟨⟨old, kk e (by simp) _ h1⟩, h2.at fun o q => kk it (by simp) o q⟩
  item := by
    intro X hP hw hK hc i pins s σ H E I hf st hg
    subst hP hw hK
    obtain ⟨xs, x, hq, hx⟩ := hg
    obtain ⟨its, rv, p, hz⟩ := I.list hq
    obtain ⟨u, hu, ru⟩ := rv.get hx
    obtain ⟨⟨old, h1⟩, h2⟩ := st
    have hlt : e < s.heap.objs.size := Heap.lt_size h1
    have hit : it < s.heap.objs.size := by obtain ⟨o, q, _⟩ := id h2; exact Heap.lt_size q
    refine wpAny_pyNext_enum_item h1 h2 p.isList (x := u) (by simpa using hu) ne fun h' eo it' ht hs hk => ?_
    refine ⟨_, rfl, wpAny_letOwnedTupleGo_enum (s := { s with heap := h', toks := s.toks + 1 }) eo fun h3 e3 sb => ?_⟩
    have hf0 : H s.heap.objs.size = none := I.hok.fresh (Nat.le_refl _)
    have nt : ∀ b ∈ [e, it], b ≠ s.heap.objs.size := fun b hb => by
      have hb : b = e ∨ b = it := by simpa using hb
      rcases hb with rfl | rfl
      · exact Nat.ne_of_lt hlt
      · exact Nat.ne_of_lt hit
    have I0 : Inv X pins σ (upd H s.heap.objs.size (.tup [.int i, x])) { s with heap := s.heap.push { cls := .type "tuple", data := .seq #[.int i s.toks, u] }, toks := s.toks + 1 } :=
      I.laid (fun b u e => Heap.get?_push_of_some _ e) (Nat.le_refl _) ⟨by simp [sizeLine]; try decide, [.int i s.toks, u], .cons ⟨_, rfl⟩ (.cons ru .nil), ⟨_, Heap.get?_push_size _ rfl, rfl, _, rfl⟩⟩
    have hfp : ∀ b ∈ [e, it], FpOk X pins (upd H s.heap.objs.size (.tup [.int i, x])) b := fun b hb => by
      obtain ⟨f0, f1, f2, f3, f4, f5⟩ := hf b hb
      exact ⟨by rw [upd_ne (nt b hb)]; exact f0, f1, f2, f3, f4, f5⟩
    have I1 : Inv X pins σ (upd H s.heap.objs.size (.tup [.int i, x])) { s with heap := h3, toks := s.toks + 1 } := by
      refine Inv.turned2 (s := { s with heap := s.heap.push { cls := .type "tuple", data := .seq #[.int i s.toks, u] }, toks := s.toks + 1 }) (t' := s.toks + 1) I0 (fun b o hb q => ?_) hfp
      have hb' : b ≠ e ∧ b ≠ it := by simpa using hb
      refine (sb.2 b hb'.1).trans ?_
      rcases Heap.get?_push_cases q with ⟨rfl, rfl⟩ | q2
      · exact ht
      · exact hk b o hb'.1 hb'.2 q2
    refine ⟨.ref s.heap.objs.size, upd H s.heap.objs.size (.tup [.int i, x]), I1, rfl, ⟨_, x, rfl, hf0, rfl, fun ys hy => by rw [I.list_inj hy hq]; exact hx⟩, ⟨⟨u, ?_⟩, ?_⟩, fun b hb => (hfp b hb).1⟩
    · show IsEnum h3 e it ((i + 1 : Nat) : Int) u
      rw [show ((i + 1 : Nat) : Int) = (i : Int) + 1 from rfl]
      exact e3
    · exact it'.at fun o q => (sb.2 it (Ne.symm ne)).trans q
  done := by
    intro X hP hw hK hc i pins s σ H E I hf st hg
    subst hP hw hK
    obtain ⟨xs, hq, hx⟩ := hg
    obtain ⟨its, rv, p, hz⟩ := I.list hq
    obtain ⟨⟨old, h1⟩, h2⟩ := st
    have hl := rv.length
    exact wpAny_pyNext_enum_end (I.ok.hd hc) h1 h2 p.isList (by simp; omega) fun h' eb => ⟨rfl, Inv.turned2 (t' := s.toks) I (fun b o hb q => eb b o (fun z => hb (by simp [z])) q) hf⟩
  self := fun _ _ _ _ _ st h => wpAny_pyIter_enum st.1.choose_spec h
section
variable {X : Cx}
noncomputable def iEnum (K : PySem.W.Frag) (ta : TA) : TI := fun σ H R => ta σ H fun vs H1 => ∃ a, vs = [.ref a] ∧ (∃ xs, SqL K H1 a xs) ∧ R (Ite K a) H1
theorem pi_enum {l : Expr} {ta : TA} {p pos pp : Pos} {es : List Expr} {k : Nat} (hg : Gl X "enumerate") (hm : X.mg "enumerate" = none) (ha : PA X [l] ta) (hs : starEach [l] X.env = [(false, eval l X.env)] := by rfl) : PI X (.Tuple es k pp) (.Call (.Name "enumerate" p) [l] [] pos) (iEnum X.K ta) := by
  intro pins s σ H R I h
  refine Call_ (ld_blt I hg hm boot_enumerate (PyProof.Rows.callWith_type1 (thn (ha pos pins s σ H _ I h) fun us s1 ⟨vs, H1, I1, r1, q1⟩ => ?_) hs rfl))
  obtain ⟨a, e, ⟨xs, hq⟩, q⟩ := q1
  subst e
  cases r1 with
  | cons r rr =>
    cases rr
    cases r
    obtain ⟨its, rv, p', hz⟩ := I1.list hq
    refine call_enumerate_list p'.isList fun h' h1 h2 h3 h4 => ?_
    refine wpAny_pyIter_enum h1 ?_
    refine ⟨_, [s1.heap.objs.size + 1, s1.heap.objs.size], _, _, H1, rfl, I1.kept (t' := s1.toks) h4, turn_enum a _ _ (Nat.succ_ne_self _), ⟨⟨_, h1⟩, h2⟩, fun b hb => ?_, q⟩
    have hb : b = s1.heap.objs.size + 1 ∨ b = s1.heap.objs.size := by simpa using hb
    rcases hb with rfl | rfl
    · exact I1.fpOk (Nat.le_succ _) (I1.hok.fresh (Nat.le_succ _))
    · exact I1.fpOk (Nat.le_refl _) (I1.hok.fresh (Nat.le_refl _))
end
section
variable {K : PySem.W.Frag} {σ : St} {H : Hp} {D : Ends}
theorem rd_ienum {ta : TA} {R : It → Hp → Prop} : iEnum K ta σ H R = ta σ H fun vs H1 => ∃ a, vs = [.ref a] ∧ (∃ xs, SqL K H1 a xs) ∧ R (Ite K a) H1 := rfl
theorem forE_by {a : Addr} {xs : List V} {g : TG} {tb : TS} (Pv : Nat → St → Hp → Prop) (h0 : Pv 0 σ H) (hl : ∀ i σ H, i ≤ xs.length → Pv i σ H → SqL K H a xs)
    (hs : ∀ i x σ H t, xs[i]? = some x → Pv i σ H → H t = none → g (.ref t) σ (upd H t (.tup [.int i, x])) fun σ2 H2 => tb { D with nx := Pv (i + 1), ct := Pv (i + 1), bk := D.nx } σ2 H2) (hd : ∀ σ H, Pv xs.length σ H → D.nx σ H) : ForTail g tb D σ (Ite K a) H := by
  refine ⟨fun i m σ H => i ≤ xs.length ∧ m = xs.length - i ∧ Pv i σ H, ⟨_, Nat.zero_le _, rfl, h0⟩, fun i m σ H ⟨hi, hm, hP⟩ => ?_⟩
  have hq := hl i σ H hi hP
  cases hx : xs[i]? with
  | none =>
    have hn : xs.length ≤ i := by simpa using hx
    have e : i = xs.length := Nat.le_antisymm hi hn
    subst e
    exact .inl ⟨⟨xs, hq, Nat.le_refl _⟩, hd σ H hP⟩
  | some x =>
    have hlt : i < xs.length := (List.getElem?_eq_some_iff.mp hx).1
    refine .inr ⟨⟨xs, x, hq, hx⟩, Pv (i + 1), fun σ' H' h => ⟨xs.length - (i + 1), by omega, by omega, rfl, h⟩, ?_⟩
    rintro y H' ⟨t, x', rfl, ht, rfl, hy⟩
    have e := (hy xs hq).symm.trans hx
    cases e
    exact hs i x σ H t hx hP ht
end
end L2

set_option Elab.async false
set_option linter.all false
set_option maxRecDepth 100000
set_option maxHeartbeats 4000000
namespace L2
open PySem PySem.Spec PyProof.Rows
noncomputable def Itz (K : PySem.W.Frag) (a b : Addr) : It :=
  ⟨fun i H => ∃ xs ys x y, SqL K H a xs ∧ SqL K H b ys ∧ xs[i]? = some x ∧ ys[i]? = some y, fun i H v H' => ∃ t x y, v = .ref t ∧ H t = none ∧ H' = upd H t (.tup [x, y]) ∧ (∀ xs, SqL K H a xs → xs[i]? = some x) ∧ ∀ ys, SqL K H b ys → ys[i]? = some y,
    fun i H => ∃ xs ys, SqL K H a xs ∧ SqL K H b ys ∧ (xs.length ≤ i ∨ ys.length ≤ i)⟩
section
variable {X : Cx}
noncomputable def iZip (K : PySem.W.Frag) (ta : TA) : TI := fun σ H R => ta σ H fun vs H1 => ∃ a b, vs = [.ref a, .ref b] ∧ (∃ xs, SqL K H1 a xs) ∧ (∃ ys, SqL K H1 b ys) ∧ R (Itz K a b) H1
end
section
variable {K : PySem.W.Frag} {σ : St} {H : Hp} {D : Ends}
theorem rd_izip {ta : TA} {R : It → Hp → Prop} : iZip K ta σ H R = ta σ H fun vs H1 => ∃ a b, vs = [.ref a, .ref b] ∧ (∃ xs, SqL K H1 a xs) ∧ (∃ ys, SqL K H1 b ys) ∧ R (Itz K a b) H1 := rfl
end
end L2

set_option Elab.async false
set_option linter.all false
set_option maxRecDepth 100000
set_option maxHeartbeats 1000000
namespace N32
open PySem PySem.Spec PyProof.Rows L2 N1 N5 N31
noncomputable def lastIx (ys : List Str) (z : Str) : Nat → Option Nat
  | 0 => none
  | n + 1 => if ys.getD n Str.empty = z then some n else lastIx ys z n
noncomputable def ear (ys : List Str) (i : Nat) : Option Nat := lastIx ys (ys.getD i Str.empty) i
noncomputable def W (R : Str → Int) (ys : List Str) (n j : Nat) : Int := if lastIx ys (ys.getD j Str.empty) n = some j then R (ys.getD j Str.empty) else 0
noncomputable def tl (f : Nat → Int) (b n : Nat) : Int := ((List.range' b (n - b)).map f).sum
noncomputable def dep (R : Str → Int) (ys : List Str) (n : Nat) : Option Int := (ear ys n).map fun b => tl (W R ys n) b n
end N32
namespace N32
open PySem PySem.Spec PyProof.Rows L2 N1 N5 N31 N4
noncomputable def rm (ts : List Th) (z : Str) : Int := ((ts.find? fun t => decide (t.1 = z)).map (·.2.2)).getD 0
theorem rm_at {ts : List Th} (nd : (ts.map (·.1)).Nodup) {i : Nat} {t : Th} (h : ts[i]? = some t) : rm ts t.1 = t.2.2 := by
  induction ts generalizing i with
  | nil => simp at h
  | cons u r ih =>
    rw [List.map_cons, List.nodup_cons] at nd
    cases i with
    | zero =>
      rw [List.getElem?_cons_zero] at h
      cases h
      simp [rm]
    | succ i =>
      rw [List.getElem?_cons_succ] at h
      have ne : ¬ u.1 = t.1 := fun e => nd.1 (by rw [e]; exact List.mem_map.mpr ⟨t, List.mem_of_getElem? h, rfl⟩)
      have := ih nd.2 h
      unfold rm at this ⊢
      rw [List.find?_cons_of_neg (by simpa using ne)]
      exact this
noncomputable def sp32_check : Sp := fun vs H Q _ => ∃ (i : Int), vs = [.int i] ∧ 1 ≤ i ∧ i ≤ 1000000 ∧ Q .non H
noncomputable def sp32_thing (K : PySem.W.Frag) (C : Addr) : Sp := fun vs H Q _ => ∃ (p : Addr) (ts : List Th) (z : Str), vs = [.ref p, .str z] ∧ StockAt K C H p ts ∧ (ts.map (·.1)).Nodup ∧ z ∈ ts.map (·.1) ∧ ∀ (i : Nat) (t : Th), ts[i]? = some t → t.1 = z → ∀ a, SqT K H a [.int i, .int t.2.1, .int t.2.2] → Q (.ref a) H
noncomputable def sp32_room (K : PySem.W.Frag) (C : Addr) : Sp := fun vs H Q _ => ∃ (p : Addr) (ts : List Th) (z : Str), vs = [.ref p, .str z] ∧ StockAt K C H p ts ∧ (ts.map (·.1)).Nodup ∧ z ∈ ts.map (·.1) ∧ Q (.int (rm ts z)) H
section
variable {K : PySem.W.Frag} {σ : L2.St} {H : Hp} {Q : VK}
theorem rd_dget1 {td ty : TE} : tDGet1 td ty σ H Q = td σ H fun x H1 => ∃ a, x = .ref a ∧ IsD H1 a ∧ ty σ H1 fun y H2 => ∃ o, DGet H2 a y o ∧ Q (o.getD .non) H2 := rfl
end
end N32
namespace N32
open PySem PySem.Spec PyProof.Rows L2 N1 N5 N31 N4
end N32
namespace N32
open PySem PySem.Spec PyProof.Rows L2 N1 N5 N31 N4
noncomputable def rmK (ns : List Int) (mo : Int) (j : Nat) : Int := 1 + (ns.getD 2 0 / 2).fdiv ((j : Int) + 1) % mo
end N32

set_option linter.all false
namespace K03
end K03

set_option Elab.async false
set_option linter.all false
set_option maxRecDepth 100000
set_option maxHeartbeats 1000000
open PySem PySem.Spec PyProof.Rows L2 N1 N5 N31 N4 N32
namespace N41
noncomputable def seg (T : List Int) (a b : Nat) : Int := ((T.take b).drop a).sum
noncomputable def leastAt (c r : Str → Int) (T : List Int) (S : Int) (ys : List Str) (n : Nat) : Int :=
  match ear ys n with
  | none => c (ys.getD n Str.empty) * S
  | some e => min (c (ys.getD n Str.empty) * S) (r (ys.getD n Str.empty) * seg T (e + 1) n)
noncomputable def fl (c r : Str → Int) (T : List Int) (S P : Int) (ys : List Str) : Nat → Int
  | 0 => 0
  | n + 1 => fl c r T S P ys n + (leastAt c r T S ys n - T.getD n 0 * (P - r (ys.getD n Str.empty)))
noncomputable def sm (f : Str → Int) (L : List Str) : Int := (L.map f).sum
theorem sm_nil (f : Str → Int) : sm f [] = 0 := rfl
theorem sm_cons (f : Str → Int) (x : Str) (L : List Str) : sm f (x :: L) = f x + sm f L := by unfold sm; rw [List.map_cons, List.sum_cons]
theorem sm_app (f : Str → Int) (L M : List Str) : sm f (L ++ M) = sm f L + sm f M := by unfold sm; rw [List.map_append, List.sum_append]
theorem sm_erase {f : Str → Int} {L : List Str} {z : Str} (h : z ∈ L) : sm f (L.erase z) = sm f L - f z := by
  induction L with
  | nil => cases h
  | cons x r ih =>
    by_cases e : x = z
    · subst e; rw [List.erase_cons_head, sm_cons]; omega
    · rw [List.erase_cons_tail (by simpa using e), sm_cons, sm_cons, ih ((List.mem_cons.mp h).resolve_left fun k => e k.symm)]; omega
noncomputable def cr (r : Str → Int) (T : List Int) (ys : List Str) (n : Nat) (y : Str) : Int :=
  match lastIx ys y n with
  | none => 0
  | some j => r y * seg T (j + 1) n
structure Pays (c r : Str → Int) (T : List Int) (S P : Int) (ys : List Str) (n : Nat) (L : List Str) (paid : Int) : Prop where
  nd : L.Nodup
  fit : sm r L ≤ P
  asked : ∀ y ∈ L, (lastIx ys y n).isSome = true
  le : fl c r T S P ys n + sm (cr r T ys n) L ≤ paid * S
section
variable {c r : Str → Int} {T : List Int} {S P : Int} {ys : List Str} {n : Nat} {L M : List Str} {paid : Int}
end
end N41
namespace N41
structure PrAt (K : PySem.W.Frag) (H : Hp) (p : Addr) (ps : List (Int × Int)) : Prop where
  ex : ∃ as : List Addr, SqL K H p (as.map V.ref) ∧ as.length = ps.length ∧ ∀ (i : Nat) (a : Addr) (q : Int × Int), as[i]? = some a → ps[i]? = some q → SqT K H a [.int q.1, .int q.2]
noncomputable def sp41_asks (K : PySem.W.Frag) (C : Addr) : Sp := fun vs H Q _ => ∃ (p a : Addr) (pl : Int) (ts : List Th) (ys : List Str), vs = [.ref p, .ref a, .int pl] ∧ StockAt K C H p ts ∧ (ts.map (·.1)).Nodup ∧ SqL K H a (ys.map V.str) ∧ ys.length ≤ 200 ∧ (∀ y ∈ ys, y ∈ ts.map (·.1)) ∧ (∀ y ∈ ys, rm ts y ≤ pl) ∧ 1 ≤ pl ∧ pl ≤ 1000000 ∧ ∀ H', Same H H' → Q (.bl true) H'
end N41

set_option Elab.async false
set_option linter.all false
set_option maxRecDepth 100000
set_option maxHeartbeats 4000000
namespace L2
open PySem PySem.Spec PyProof.Rows
noncomputable abbrev tComp1I (wi : TI) (fs : List Nat) (tt : Blk → TT) (te : Blk → TE) : TE := tComp wi 1 fs (fun _ => gName 0) tt te
noncomputable abbrev g2 (K : PySem.W.Frag) : Blk → TG := fun _ => gTup K 2 (gCons (gName 0) (gCons (gName 1) gNil))
noncomputable abbrev tComp2 (K : PySem.W.Frag) (wi : TI) (fs : List Nat) (tt : Blk → TT) (te : Blk → TE) : TE := tComp wi 2 fs (g2 K) tt te
section
variable {X : Cx} {scope : Scope} {x y : Str} {px py pt : Pos} {n : Nat} {fs : List Nat} {elt iter c : Expr} {pos : Pos} {wi : TI} {tt : Blk → TT} {te : Blk → TE}
end
section
variable {K : PySem.W.Frag} {tail : St} {tt : Blk → TT} {te : Blk → TE} {Q : VK} {H1 : Hp} {σ : St} {H : Hp}
theorem rd_compI {wi : TI} {fs : List Nat} : tComp1I wi fs tt te σ H Q = wi σ H (CompTail (none :: fs.map fun j => σ.getD j none) (fun _ => gName 0) tt te Q) := rfl
theorem rd_comp2 {wi : TI} {fs : List Nat} : tComp2 K wi fs tt te σ H Q = wi σ H (CompTail (none :: none :: fs.map fun j => σ.getD j none) (g2 K) tt te Q) := rfl
end
end L2
namespace L2
open PySem PySem.Spec PyProof.Rows
section
variable {X : Cx}
end
end L2
namespace L2
open PySem PySem.Spec PyProof.Rows
section
variable {X : Cx} {scope : Scope} {x y v : Str} {px py pt pv' : Pos} {n i : Nat} {fs : List Nat} {elt iter c : Expr} {pos spos : Pos} {wi : TI} {tt : Blk → TT} {te : Blk → TE}
end
end L2

set_option linter.all false
set_option maxHeartbeats 1000000
namespace L2
open PySem PySem.Spec PyProof.Rows PySem.W
noncomputable def rMaxL (K : PySem.W.Frag) : List V → Hp → VK → Prop := fun xs H Q => ∃ (p : Addr) (is : List Int), xs = [.ref p] ∧ SqL K H p (is.map V.int) ∧ is ≠ [] ∧ ∀ v ∈ is, (∀ x ∈ is, x ≤ v) → Q (.int v) H
theorem best_gt (val : Nat → Int) : ∀ k, argBest (fun i j => decide (val i > val j)) k ≤ k ∧ ∀ j, j ≤ k → val j ≤ val (argBest (fun i j => decide (val i > val j)) k) := by
  intro k
  induction k with
  | zero => exact ⟨Nat.le_refl _, fun j hj => by rw [Nat.le_zero.mp hj]; exact Int.le_refl _⟩
  | succ k ih =>
    unfold argBest
    split
    · rename_i h
      have h := of_decide_eq_true h
      refine ⟨Nat.le_refl _, fun j hj => ?_⟩
      by_cases e : j = k + 1
      · rw [e]; exact Int.le_refl _
      · have := ih.2 j (by omega); omega
    · rename_i h
      have h : ¬ (val (k + 1) > _) := fun z => h (decide_eq_true z)
      refine ⟨Nat.le_succ_of_le ih.1, fun j hj => ?_⟩
      by_cases e : j = k + 1
      · rw [e]; omega
      · exact ih.2 j (by omega)
theorem best_lt (val : Nat → Int) : ∀ k, argBest (fun i j => decide (val i < val j)) k ≤ k ∧ ∀ j, j ≤ k → val (argBest (fun i j => decide (val i < val j)) k) ≤ val j := by
  intro k
  induction k with
  | zero => exact ⟨Nat.le_refl _, fun j hj => by rw [Nat.le_zero.mp hj]; exact Int.le_refl _⟩
  | succ k ih =>
    unfold argBest
    split
    · rename_i h
      have h := of_decide_eq_true h
      refine ⟨Nat.le_refl _, fun j hj => ?_⟩
      by_cases e : j = k + 1
      · rw [e]; exact Int.le_refl _
      · have := ih.2 j (by omega); omega
    · rename_i h
      have h : ¬ (val (k + 1) < _) := fun z => h (decide_eq_true z)
      refine ⟨Nat.le_succ_of_le ih.1, fun j hj => ?_⟩
      by_cases e : j = k + 1
      · rw [e]; omega
      · exact ih.2 j (by omega)
section
variable {X : Cx}
theorem ints_at {is : List Int} {its : List Value} (r : Vals (is.map V.int) its) {i : Nat} {v : Value} (hP : its.toArray[i]? = some v) : i < is.length ∧ ∃ t, v = Value.int (is.getD i 0) t := by
  have hlen := r.length
  rw [List.length_map] at hlen
  have hi : i < is.length := by
    have := (Array.getElem?_eq_some_iff.mp hP).1
    rw [List.size_toArray] at this
    omega
  obtain ⟨u, hu, ru⟩ := r.get (i := i) (x := V.int (is[i])) (by simp [hi])
  have e : u = v := by
    have : its[i]? = some v := by simpa using hP
    rw [hu] at this; exact Option.some.inj this
  subst e
  refine ⟨hi, ?_⟩
  rw [List.getD_eq_getElem?_getD, List.getElem?_eq_getElem hi]
  exact ru
theorem call_maxL (hc : X.calm = true) : CallR X (.builtin "max") (rMaxL X.K) := by
  intro pins s σ H xs us Q I r h
  obtain ⟨p, is, rfl, hp, hne, q⟩ := h
  obtain ⟨u, rfl, ru⟩ := vals1 r
  cases ru
  obtain ⟨its, r, pl, hz⟩ := I.list hp
  have hlt : p < s.heap.objs.size := by obtain ⟨o, n, e, _⟩ := pl; exact Heap.lt_size e
  have hlen := r.length
  rw [List.length_map] at hlen
  have hpos : 0 < is.length := List.length_pos_iff.mpr hne
  have hb := best_gt (fun i => is.getD i 0) (is.length - 1)
  refine call_max_walkS (wpAny_pyIter_list pl.isList ⟨s.heap.objs.size, _, _, _, _, _, _, fun i j => decide (is.getD i 0 > is.getD j 0), rfl, (Walks.list (show X.A.in1.handled = none from I.ok.hd hc) s.heap.objs.size p (Nat.ne_of_lt hlt) its.toArray).toS, ⟨⟨_, Heap.get?_push_size _ rfl, rfl, rfl⟩, pl.isList.push _⟩, fun b hb => ?_, by rw [List.size_toArray]; omega, CmpOf.ints_gt (fun i => is.getD i 0) (fun i v hP => (ints_at r hP).2), fun v s' hP hmv => ?_⟩)
  · show b < (s.heap.push _).objs.size
    rw [Heap.size_push]
    rcases List.mem_cons.mp hb with e | hb
    · rw [e]; exact Nat.lt_succ_self _
    · rw [List.mem_singleton.mp hb]; exact Nat.lt_succ_of_lt hlt
  · have hk : ∀ b o, s.heap.get? b = some o → s'.heap.get? b = some o := fun b o e =>
      hmv.heap b o (fun hI => absurd (Heap.lt_size e) (by rw [List.mem_singleton.mp hI]; exact Nat.lt_irrefl _)) (Heap.get?_push_of_some _ e)
    rw [Moved.eq_with hmv]
    rw [List.size_toArray, ← hlen] at hP
    obtain ⟨hi, t, rfl⟩ := ints_at r hP
    refine ⟨V.int _, H, I.kept (t' := s'.toks) hk, ⟨t, rfl⟩, q _ ?_ fun x hx => ?_⟩
    · rw [List.getD_eq_getElem?_getD, List.getElem?_eq_getElem hi]; exact List.getElem_mem hi
    · obtain ⟨j, hj⟩ := List.mem_iff_getElem?.mp hx
      have hjl := (List.getElem?_eq_some_iff.mp hj).1
      have := hb.2 j (by omega)
      rw [show is.getD j 0 = x by rw [List.getD_eq_getElem?_getD, hj]; rfl] at this
      exact this
end
section
variable {K : PySem.W.Frag} {H : Hp} {Q : VK} {xs : List V}
theorem rd_maxL : rMaxL K xs H Q = ∃ (p : Addr) (is : List Int), xs = [.ref p] ∧ SqL K H p (is.map V.int) ∧ is ≠ [] ∧ ∀ v ∈ is, (∀ x ∈ is, x ≤ v) → Q (.int v) H := rfl
end
section
variable {X : Cx}
end
end L2

set_option Elab.async false
set_option linter.all false
set_option maxRecDepth 100000
set_option maxHeartbeats 4000000
namespace L2
open PySem PySem.Spec PyProof.Rows
noncomputable def itemsO (v d : Addr) : HO := .ext fun h => h.IsItemsView v d
noncomputable def Iti (o : Obj) (d : Addr) : It :=
  ⟨fun i H => ∃ kvs p, H d = some (.frz o (.dK kvs)) ∧ kvs[i]? = some p, fun i H v H' => ∃ t k x, v = .ref t ∧ H t = none ∧ H' = upd H t (.tup [kV k, x]) ∧ ∀ kvs, H d = some (.frz o (.dK kvs)) → kvs[i]? = some (k, x),
    fun i H => ∃ kvs, H d = some (.frz o (.dK kvs)) ∧ kvs.length ≤ i⟩
section
variable {X : Cx}
noncomputable def rItems : V → List V → Hp → VK → Prop := fun x vs H Q => ∃ a kvs, x = .ref a ∧ vs = [] ∧ H a = some (.dK kvs) ∧ ∀ v, H v = none → Q (.ref v) (upd H v (itemsO v a))
noncomputable def iView (tv : TE) : TI := fun σ H R => tv σ H fun x H1 => ∃ v d kvs, x = .ref v ∧ H1 v = some (itemsO v d) ∧ H1 d = some (.dK kvs) ∧ ∀ o, R (Iti o d) (upd H1 d (.frz o (.dK kvs)))
end
section
variable {K : PySem.W.Frag} {tail : St} {te : Blk → TE} {Q : VK} {H1 : Hp} {σ : St} {H : Hp}
theorem rd_items {x : V} {vs : List V} : rItems x vs H Q = ∃ a kvs, x = .ref a ∧ vs = [] ∧ H a = some (.dK kvs) ∧ ∀ v, H v = none → Q (.ref v) (upd H v (itemsO v a)) := rfl
theorem rd_iview {tv : TE} {R : It → Hp → Prop} : iView tv σ H R = tv σ H fun x H1 => ∃ v d kvs, x = .ref v ∧ H1 v = some (itemsO v d) ∧ H1 d = some (.dK kvs) ∧ ∀ o, R (Iti o d) (upd H1 d (.frz o (.dK kvs))) := rfl
end
end L2

set_option Elab.async false
set_option linter.all false
set_option maxRecDepth 100000
set_option maxHeartbeats 1000000
namespace L2
open PySem PySem.Spec PyProof.Rows
theorem rd_augN {σ : St} {H : Hp} {D : Ends} {i : Nat} {te : TE} {ti : TIp} : tAug i te ti D σ H = ∃ x, σ[i]? = some (some x) ∧ te σ H fun y H1 => ti x y H1 fun z H2 => D.nx (σ.set i (some z)) H2 := rfl
end L2
namespace N41
open PySem PySem.Spec PyProof.Rows L2 N1 N5 N31 N4 N32
theorem getD_s {ys : List Str} {k : Nat} (h : k < ys.length) : ys[k]? = some (ys.getD k Str.empty) := by rw [List.getD_eq_getElem?_getD, List.getElem?_eq_getElem h]; rfl
structure PrI (K : PySem.W.Frag) (H : Hp) (as : List Addr) (ps : List (Int × Int)) : Prop where
  n : as.length = ps.length
  it : ∀ (i : Nat) (a : Addr) (q : Int × Int), as[i]? = some a → ps[i]? = some q → SqT K H a [.int q.1, .int q.2]
end N41
namespace L2
open PySem PySem.Spec PyProof.Rows
end L2

set_option linter.all false
set_option maxHeartbeats 1000000
namespace N6
open PySem PySem.Spec PyProof.Rows L2 N1 N5 N4
noncomputable def sfl (p d : Addr) (n : Int) : List (Str × V) := putF "rooms" (.ref d) (putF "places" (.int n) (putF "stock" (.ref p) []))
noncomputable abbrev Ly := List (Str × Int)
noncomputable def lyK (ls : Ly) : List (Key × V) := ls.map fun x => (Sum.inr x.1, .int x.2)
noncomputable def lyN (ls : Ly) : List Str := ls.map (·.1)
noncomputable def lyS (ls : Ly) : Int := (ls.map (·.2)).sum
structure ShelfAt (S : Addr) (H : Hp) (q p d : Addr) (n : Int) (ls : Ly) : Prop where
  o : ∃ dx, H q = some (.ins S dx (sfl p d n))
  d : H d = some (.dK (lyK ls))
  nd : (lyN ls).Nodup
structure StockX (K : PySem.W.Frag) (C : Addr) (H : Hp) (p : Addr) (ts : List Th) (d : Addr) : Prop where
  ex : ∃ (dx e : Addr) (kvs : List (Key × V)), e ≠ d ∧ H p = some (.ins C dx (flds e)) ∧ H e = some (.dK kvs) ∧ kvs.map (·.1) = ts.map (fun t => Sum.inr t.1) ∧
    ∀ (i : Nat) (t : Th), ts[i]? = some t → ∃ a, kvs[i]? = some (Sum.inr t.1, .ref a) ∧ SqT K H a [.int i, .int t.2.1, .int t.2.2]
section
variable {K : PySem.W.Frag} {C S : Addr} {H H' : Hp} {p q d : Addr} {ts : List Th} {n : Int} {ls : Ly} {z : Str}
theorem lyK_map : (lyK ls).map (·.1) = (lyN ls).map Sum.inr := by unfold lyK lyN; rw [List.map_map, List.map_map]; rfl
theorem lyK_mem : (valV (lyK ls) (Sum.inr z)).isSome = decide (z ∈ lyN ls) := key_mem lyK_map
theorem lyK_put {r : Int} (h : ¬ z ∈ lyN ls) : putK (lyK ls) (Sum.inr z) (.int r) = lyK (ls ++ [(z, r)]) := by
  have hv : valV (lyK ls) (Sum.inr z : Key) = none := by
    have := lyK_mem (ls := ls) (z := z)
    rw [decide_eq_false h] at this
    cases hv : valV (lyK ls) (Sum.inr z : Key) with
    | none => rfl
    | some v => rw [hv] at this; cases this
  rw [putK_new _ hv]
  unfold lyK
  rw [List.map_append]
  rfl
noncomputable def lyD (ls : Ly) (z : Str) : Ly := ls.filter fun x => decide (x.1 ≠ z)
end
noncomputable def sp_sinit (S : Addr) : Sp := fun vs H Q _ => ∃ (q dx p : Addr) (n : Int), vs = [.ref q, .ref p, .int n] ∧ H q = some (.ins S dx []) ∧ 1 ≤ n ∧ n ≤ 1000000 ∧ ∀ H' d, SameBut q H H' → H d = none → ShelfAt S H' q p d n [] → Q .non H'
noncomputable def sp_lying (S : Addr) : Sp := fun vs H Q _ => ∃ (q p d : Addr) (n : Int) (ls : Ly), vs = [.ref q] ∧ ShelfAt S H q p d n ls ∧ ∀ l, H l = none → Q (.ref l) (upd H l (.lst ((lyN ls).map V.str)))
noncomputable def sp_holds (S : Addr) : Sp := fun vs H Q _ => ∃ (q p d : Addr) (n : Int) (ls : Ly) (z : Str), vs = [.ref q, .str z] ∧ ShelfAt S H q p d n ls ∧ Q (.bl (decide (z ∈ lyN ls))) H
noncomputable def sp_left (S : Addr) : Sp := fun vs H Q _ => ∃ (q p d : Addr) (n : Int) (ls : Ly), vs = [.ref q] ∧ ShelfAt S H q p d n ls ∧ ∀ H', Same H H' → Q (.int (n - lyS ls)) H'
end N6

set_option linter.all false
set_option maxHeartbeats 1000000
namespace N6
open PySem PySem.Spec PyProof.Rows L2 N1 N5 N4
theorem inV_strs {z : Str} {ys : List Str} : inV (.str z) (ys.map V.str) = decide (z ∈ ys) := by
  unfold inV
  induction ys with
  | nil => rfl
  | cons y ys ih =>
    rw [List.map_cons, List.any_cons, ih, eqV_str]
    by_cases h : y = z
    · subst h; simp
    · have h' : ¬ z = y := fun e => h e.symm
      simp [h, h']
theorem notin_go {K : PySem.W.Frag} {H : Hp} {p : Addr} {z : Str} {ys : List Str} {Q : VK} (h : SqL K H p (ys.map V.str)) (q : Q (.bl (!decide (z ∈ ys))) H) : rIn K true (.str z) (.ref p) H Q := by
  refine ⟨p, _, rfl, .inl h, rfl, all_strs, ?_⟩
  rw [if_pos rfl, inV_strs]
  exact q
theorem bc_fig {k : Int} (h0 : 0 ≤ k) (h1 : k < 10) : bc (26 + k) ∈ letters ++ figures := by
  have := bc_both (i := 26 + k)
  rwa [Int.emod_eq_of_lt (by omega) (by omega)] at this
theorem name_more {l : List Nat} {c : Nat} (h : nameB l = true) (hl : l.length < 8) (hc : c ∈ letters ++ figures) : nameB (l ++ [c]) = true := by
  unfold nameB at h ⊢
  simp only [Bool.and_eq_true, decide_eq_true_eq, List.all_eq_true] at h ⊢
  obtain ⟨⟨⟨h1, h2⟩, h3⟩, h4⟩ := h
  refine ⟨⟨⟨by simp, by simp; omega⟩, ?_⟩, fun x hx => ?_⟩
  · cases l with
    | nil => simp at h1
    | cons a r => exact h3
  · rcases List.mem_append.mp hx with hx | hx
    · exact h4 x hx
    · rw [List.mem_singleton.mp hx]; exact hc
theorem nmL_len {F : Nat → Int} {at' : Int} {long k : Nat} : (nmL F at' long k).length = long := by simp [nmL]
theorem nmL_near {F : Nat → Int} {at' : Int} {long k k' : Nat} (h0 : 0 ≤ at') (h1 : at' < long) (hk : k < k' + 26) (hk' : k' < k + 26) (h : nmL F at' long k = nmL F at' long k') : k = k' := by
  have hl : at'.toNat < long := by omega
  have e := congrArg (fun l => l[at'.toNat]?) h
  simp only [nmL, List.getElem?_map, List.getElem?_range hl, Option.map_some, Option.some.injEq] at e
  unfold sgn at e
  rw [if_pos (by omega), if_pos (by omega)] at e
  have e2 := bc_mod e
  rcases md_two (j := at'.toNat) with hm | hm <;> rw [hm] at e2 <;> omega
noncomputable def nm3 (F : Nat → Int) (at' : Int) (long k : Nat) : List Nat := nmL F at' long k ++ if 25 < k then [bc (26 + (k : Int) / 26)] else []
theorem nm3_name {F : Nat → Int} {at' : Int} {long k : Nat} (h1 : 1 ≤ long) (h2 : long ≤ 8) (h3 : 25 < k → long ≤ 7) (hk : k < 61) : nameB (nm3 F at' long k) = true := by
  unfold nm3
  split
  · rename_i h
    exact name_more (nmL_name h1 h2) (by rw [nmL_len]; have := h3 h; omega) (bc_fig (by omega) (by omega))
  · rw [List.append_nil]; exact nmL_name h1 h2
theorem nm3_inj {F : Nat → Int} {at' : Int} {long k k' : Nat} (h0 : 0 ≤ at') (h1 : at' < long) (hk : k < 61) (hk' : k' < 61) (h : nm3 F at' long k = nm3 F at' long k') : k = k' := by
  have hl := congrArg List.length h
  unfold nm3 at h hl
  rw [List.length_append, List.length_append, nmL_len, nmL_len] at hl
  obtain ⟨e1, e2⟩ := List.append_inj h (by rw [nmL_len, nmL_len])
  by_cases c1 : 25 < k
  · by_cases c2 : 25 < k'
    · rw [if_pos c1, if_pos c2] at e2
      injection e2 with e3
      have e4 := bc_inj (by omega) (by omega) (by omega) (by omega) e3
      exact nmL_near h0 h1 (by omega) (by omega) e1
    · rw [if_pos c1, if_neg c2] at hl; simp at hl
  · by_cases c2 : 25 < k'
    · rw [if_neg c1, if_pos c2] at hl; simp at hl
    · exact nmL_near h0 h1 (by omega) (by omega) e1
noncomputable def aOf : V → Addr
  | .ref a => a
  | _ => 0
theorem cut_to (ys : List Str) (m : Nat) (h : m ≤ ys.length) : cutV (ys.map V.str) none (some (m : Int)) = (ys.take m).map V.str := by
  unfold cutV
  rw [← List.map_drop, ← List.map_take, List.length_map]
  congr 1
  unfold HT.sIx
  simp only [Option.getD_none, Option.getD_some]
  first
    | (rw [if_neg (show ¬ ((m : Int) < 0) by omega)]; simp; omega)
    | (rw [if_neg (show ¬ ((m : Int) < 0) by omega)]; simp [Nat.min_eq_left h])
noncomputable def sp_mix : Sp := fun vs H Q _ => ∃ c k : Int, vs = [.int c, .int k] ∧ 0 ≤ k ∧ k ≤ 1000 ∧ ∀ v : Int, 0 ≤ v → Q (.int v) H
end N6

set_option Elab.async false
set_option linter.all false
set_option maxHeartbeats 1000000
namespace N6
open PySem PySem.Spec PyProof.Rows L2 N1 N5 N4
noncomputable def sp_thingG (K : PySem.W.Frag) (C : Addr) : Sp := fun vs H Q _ => ∃ (p : Addr) (ts : List Th) (z : Str), vs = [.ref p, .str z] ∧ StockAt K C H p ts ∧ (ts.map (·.1)).Nodup ∧ z ∈ ts.map (·.1) ∧ ∀ (i : Nat) (t : Th), ts[i]? = some t → t.1 = z → ∀ a, SqT K H a [.int i, .int t.2.1, .int t.2.2] → Q (.ref a) H
noncomputable def sp_roomG (K : PySem.W.Frag) (C : Addr) : Sp := fun vs H Q _ => ∃ (p : Addr) (ts : List Th) (z : Str), vs = [.ref p, .str z] ∧ StockAt K C H p ts ∧ (ts.map (·.1)).Nodup ∧ z ∈ ts.map (·.1) ∧ ∀ (i : Nat) (t : Th), ts[i]? = some t → t.1 = z → Q (.int t.2.2) H
noncomputable def sp_putG (K : PySem.W.Frag) (C S : Addr) : Sp := fun vs H Q _ => ∃ (q p d : Addr) (n : Int) (ls : Ly) (ts : List Th) (z : Str) (r : Int), vs = [.ref q, .str z] ∧ ShelfAt S H q p d n ls ∧ StockX K C H p ts d ∧ (ts.map (·.1)).Nodup ∧ ls.length ≤ 1000 ∧
  z ∈ ts.map (·.1) ∧ (∀ t ∈ ts, t.1 = z → t.2.2 = r) ∧ ¬ z ∈ lyN ls ∧ r ≤ n - lyS ls ∧ ∀ H', SameBut d H H' → ShelfAt S H' q p d n (ls ++ [(z, r)]) → Q .non H'
noncomputable def sp_castG (S : Addr) : Sp := fun vs H Q _ => ∃ (q p d : Addr) (n : Int) (ls : Ly) (z : Str), vs = [.ref q, .str z] ∧ ShelfAt S H q p d n ls ∧ z ∈ lyN ls ∧ ∀ H', SameBut d H H' → ShelfAt S H' q p d n (lyD ls z) → Q .non H'
end N6

set_option Elab.async false
set_option linter.all false
set_option maxRecDepth 100000
set_option maxHeartbeats 4000000
namespace L2
open PySem PySem.Spec PyProof.Rows

section
variable {M : Model} {A : Around} {E : Value → Shared → Prop} {s : Shared} {base : Heap} {env : Env} {outer l : List Env} {L e : Addr} {cls a0 fl : Value}
end

section
variable {X : Cx} {pins : List (Addr × Obj)} {σ : St} {scope : Scope} {xs : List Str} {fs : List Nat} {elt tg iter : Expr} {ifs : List Expr} {pos : Pos} {wi : TI} {g : Blk → TG} {tt : Blk → TT} {te : Blk → TE}
end
end L2

set_option linter.all false
set_option maxHeartbeats 1000000
namespace N08
open PySem PySem.Builtin PySem.Builtin.Str PySem.StrLaws
section
variable (x y : Str)
end
open PySem.NumText
end N08

namespace L2
open PySem PySem.Spec PyProof.Rows N1 N5
theorem eqV_self {x : V} (h : flatV x = true) : eqV x x = true := by
  cases x with
  | non => rfl
  | bl b => cases b <;> rfl
  | int i => exact beq_self_eq_true i
  | str z => rw [eqV_str]; simp
  | _ => cases h
theorem flatEq_self : ∀ {xs : List V}, xs.all flatV = true → flatEq xs xs = true
  | [], _ => rfl
  | x :: xs, h => by
    rw [List.all_cons, Bool.and_eq_true] at h
    show (eqV x x && flatEq xs xs) = true
    rw [eqV_self h.1, flatEq_self h.2]; rfl
section
variable {X : Cx}
end
section
variable {K : PySem.W.Frag} {tail : St} {te : Blk → TE} {Q : VK} {H1 : Hp}
end
section
variable {K : PySem.W.Frag} {tail : St} {te : Blk → TE} {Q : VK} {H1 : Hp}
end
section
variable {K : PySem.W.Frag} {H : Hp} {Q : VK} {xs : List V} {x y : V}
end
end L2
namespace N8
open PySem PySem.Spec PyProof.Rows L2 N1 N5 N08
inductive Pc where
  | line | num | ok (t : Th)
inductive R8 where
  | line | num | st (e : StE) | ok (ts : List Th)
noncomputable def rwOf (a : Addr) (t : Th) : Rw := (a, .str t.1, .int t.2.1, .int t.2.2)
end N8
namespace N8
open PySem PySem.Spec PyProof.Rows L2 N1 N5 N08
theorem valV_at {kvs : List (Key × V)} {k : Key} {v : V} : ∀ {i : Nat}, (kvs.map (·.1)).Nodup → kvs[i]? = some (k, v) → valV kvs k = some v := by
  induction kvs with
  | nil => intro i _ e; simp at e
  | cons p r ih =>
    intro i nd e
    cases i with
    | zero => cases e; exact valV_pos rfl
    | succ i =>
      rw [List.map_cons, List.nodup_cons] at nd
      have hm : (k, v) ∈ r := List.mem_of_getElem? e
      rw [valV_neg (fun z => nd.1 (by rw [z]; exact List.mem_map_of_mem (f := (·.1)) hm))]
      exact ih nd.2 e
section
variable {K : PySem.W.Frag} {C : Addr} {H H' : Hp} {p : Addr} {ts : List Th} {z : Str}
end
end N8
namespace L2
open PySem PySem.Spec PyProof.Rows
noncomputable abbrev g3 (K : PySem.W.Frag) : Blk → TG := fun _ => gTup K 3 (gCons (gName 0) (gCons (gName 1) (gCons (gName 2) gNil)))
noncomputable abbrev tComp3 (K : PySem.W.Frag) (wi : TI) (fs : List Nat) (te : Blk → TE) : TE := tComp wi 3 fs (g3 K) (fun _ => tYes) te
section
variable {X : Cx} {scope : Scope} {x y z : Str} {px py pz pt : Pos} {n : Nat} {fs : List Nat} {elt iter : Expr} {pos : Pos} {wi : TI} {te : Blk → TE}
end
section
variable {K : PySem.W.Frag} {tail : St} {te : Blk → TE} {Q : VK} {H1 : Hp} {σ : St} {H : Hp}
theorem rd_comp3 {wi : TI} {fs : List Nat} : tComp3 K wi fs te σ H Q = wi σ H (CompTail (none :: none :: none :: fs.map fun j => σ.getD j none) (g3 K) (fun _ => tYes) te Q) := rfl
end
end L2
namespace N8
open PySem PySem.Spec PyProof.Rows L2 N1 N5 N08
open PySem.Builtin.Str (strSub strKind)
end N8
namespace N8
open PySem PySem.Spec PyProof.Rows L2 N1 N5 N08
end N8
namespace N8
open PySem PySem.Spec PyProof.Rows L2 N1 N5 N08
end N8
namespace N8
open PySem PySem.Spec PyProof.Rows L2 N1 N5 N08
end N8
namespace N8
open PySem PySem.Spec PyProof.Rows L2 N1 N5 N08
end N8
namespace N8
open PySem PySem.Spec PyProof.Rows L2 N1 N5 N08
end N8
namespace N8
open PySem PySem.Spec PyProof.Rows L2 N1 N5 N08
end N8
namespace N8
open PySem PySem.Spec PyProof.Rows L2 N1 N5 N08
end N8

set_option Elab.async false
set_option linter.all false
set_option maxRecDepth 100000
set_option maxHeartbeats 1000000
namespace L2
open PySem PySem.Spec PyProof.Rows N1 N5
section
variable {X : Cx}
end
section
variable {K : PySem.W.Frag} {tail : St} {te : Blk → TE} {Q : VK} {H1 : Hp}
end
end L2
namespace N12
open PySem PySem.Spec PyProof.Rows L2 N1 N5 N4 N6
noncomputable def sp12_names : Sp := fun vs H Q _ => ∃ (i : Int) (m : Nat), vs = [.int i, .int m] ∧ m ≤ 26 ∧ ∀ (p : Addr) (ys : List Str) (H' : Hp), H p = none → Same H H' → H' p = some (.lst (ys.map V.str)) → ys.length ≤ m → m ≤ ys.length → ys.Nodup → (∀ y ∈ ys, nameB y.cps.toList = true) → Q (.ref p) H'
noncomputable def rmOf (ts : List Th) (z : Str) : Int := match ts.find? (fun t => decide (t.1 = z)) with
  | some t => t.2.2
  | none => 0
theorem rmOf_is {ts : List Th} (nd : (ts.map (·.1)).Nodup) {t : Th} (h : t ∈ ts) : rmOf ts t.1 = t.2.2 := by
  unfold rmOf
  induction ts with
  | nil => cases h
  | cons a ts ih =>
    rw [List.map_cons, List.nodup_cons] at nd
    by_cases e : a.1 = t.1
    · rw [List.find?_cons_of_pos (by simpa using e)]
      rcases List.mem_cons.mp h with rfl | h'
      · rfl
      · exact absurd (List.mem_map.mpr ⟨t, h', e.symm⟩) nd.1
    · rw [List.find?_cons_of_neg (by simpa using e)]
      rcases List.mem_cons.mp h with rfl | h'
      · exact absurd rfl e
      · exact ih nd.2 h'
theorem rm_some {ts : List Th} {z : Str} (h : z ∈ ts.map (·.1)) : valV (ts.map fun t => ((Sum.inr t.1 : Key), V.int t.2.2)) (Sum.inr z) = some (.int (rmOf ts z)) := by
  unfold rmOf
  induction ts with
  | nil => cases h
  | cons a ts ih =>
    by_cases e : a.1 = z
    · subst e
      rw [List.find?_cons_of_pos (by simp)]
      simp [valV]
    · rw [List.find?_cons_of_neg (by simpa using e)]
      have h2 := ih ((List.mem_cons.mp (by rw [List.map_cons] at h; exact h)).resolve_left fun z => e z.symm)
      rw [← h2]
      simp [valV, e]
end N12

set_option Elab.async false
set_option linter.all false
set_option maxRecDepth 100000
set_option maxHeartbeats 1000000
namespace N41
open PySem PySem.Spec PyProof.Rows L2 N1 N5 N31 N4 N32
structure PaysA (c r : Str → Int) (P : Int) (ys : List Str) (n : Nat) (L : List Str) (paid : Int) : Prop where
  nd : L.Nodup
  fit : sm r L ≤ P
  asked : ∀ y ∈ L, (lastIx ys y n).isSome = true
  all : ∀ (T : List Int) (S : Int), (∀ t ∈ T, 0 ≤ t) → T.length = ys.length → Pays c r T S P ys n L paid
section
variable {c r : Str → Int} {P : Int} {ys : List Str} {n : Nat} {L M : List Str} {paid : Int}
end
theorem nd_len {L ys : List Str} (nd : L.Nodup) (h : ∀ u ∈ L, u ∈ ys) : L.length ≤ ys.length := List.Nodup.length_le_of_subset nd h
theorem erase_map {M : List Str} {k : Nat} : (M.map V.str).eraseIdx k = (M.eraseIdx k).map V.str := by
  induction M generalizing k with
  | nil => rfl
  | cons u r ih =>
    cases k with
    | zero => rfl
    | succ k => show V.str u :: (r.map V.str).eraseIdx k = _; rw [ih]; rfl
end N41

set_option Elab.async false
set_option linter.all false
set_option maxRecDepth 100000
set_option maxHeartbeats 4000000
namespace L2
open PySem PySem.Spec PyProof.Rows
noncomputable def LikeN (K : PySem.W.Frag) : Nat → Hp → V → V → Prop
  | 0, _, x, y => x = y ∧ flatV x = true
  | n + 1, H, x, y => LikeN K n H x y ∨ ∃ a b xs ys, x = .ref a ∧ y = .ref b ∧ ((SqL K H a xs ∧ SqL K H b ys) ∨ (SqT K H a xs ∧ SqT K H b ys)) ∧ xs.length = ys.length ∧ ∀ (i : Nat) (x' y' : V), xs[i]? = some x' → ys[i]? = some y' → LikeN K n H x' y'
noncomputable def LikeR (K : PySem.W.Frag) (n : Nat) (H : Hp) (x y : V) : Prop := ∃ a b xs ys, x = .ref a ∧ y = .ref b ∧ ((SqL K H a xs ∧ SqL K H b ys) ∨ (SqT K H a xs ∧ SqT K H b ys)) ∧ xs.length = ys.length ∧ ∀ (i : Nat) (x' y' : V), xs[i]? = some x' → ys[i]? = some y' → LikeN K n H x' y'
section
variable {X : Cx} {pins : List (Addr × Obj)} {σ : St} {H : Hp} {s : Shared}
noncomputable def rNeN (K : PySem.W.Frag) (n : Nat) : R2 := fun x y H Q => LikeR K n H x y ∧ Q (.bl false) H
theorem rd_neN {K : PySem.W.Frag} {H : Hp} {Q : VK} {x y : V} {n : Nat} : rNeN K n x y H Q = (LikeR K n H x y ∧ Q (.bl false) H) := rfl
end
end L2

set_option linter.all false
set_option maxHeartbeats 1000000
namespace L2
open PySem PySem.Spec PyProof.Rows PySem.W
noncomputable def rMaxV : List V → Hp → VK → Prop := fun xs H Q => ∃ (v d : Addr) (kvs : List (Key × V)) (is : List Int), xs = [.ref v] ∧ H v = some (viewO v d) ∧ H d = some (.dK kvs) ∧ kvs.map (·.2) = is.map V.int ∧ is ≠ [] ∧ ∀ m ∈ is, (∀ x ∈ is, x ≤ m) → Q (.int m) H
section
variable {X : Cx}
theorem rd_maxV {xs : List V} {H : Hp} {Q : VK} : rMaxV xs H Q = ∃ (v d : Addr) (kvs : List (Key × V)) (is : List Int), xs = [.ref v] ∧ H v = some (viewO v d) ∧ H d = some (.dK kvs) ∧ kvs.map (·.2) = is.map V.int ∧ is ≠ [] ∧ ∀ m ∈ is, (∀ x ∈ is, x ≤ m) → Q (.int m) H := rfl
end
end L2

set_option Elab.async false
set_option linter.all false
set_option maxRecDepth 100000
set_option maxHeartbeats 1000000
namespace N14
open PySem PySem.Spec PyProof.Rows L2 N1 N5 N4 N6 N12 N32
noncomputable abbrev Row := Str × Bool × List Str
noncomputable def lyDs (ls : Ly) (gone : List Str) : Ly := gone.foldl lyD ls
noncomputable def okG (z : Str) : Ly → List Str → Prop
  | _, [] => True
  | ls, o :: r => o ≠ z ∧ o ∈ lyN ls ∧ okG z (lyD ls o) r
noncomputable def okRow (R : Str → Int) (n : Int) (ls : Ly) (z : Str) (row : Row) : Prop := row.1 = z ∧ row.2.1 = decide (z ∈ lyN ls) ∧ okG z ls row.2.2 ∧ (z ∉ lyN ls → R z ≤ n - lyS (lyDs ls row.2.2))
noncomputable def stepL (R : Str → Int) (ls : Ly) (z : Str) (gone : List Str) : Ly := if z ∈ lyN ls then lyDs ls gone else lyDs ls gone ++ [(z, R z)]
noncomputable def lastL (R : Str → Int) : Ly → List (Str × List Str) → Ly
  | ls, [] => ls
  | ls, (z, g) :: r => lastL R (stepL R ls z g) r
structure BookAt (K : PySem.W.Frag) (H : Hp) (b : Addr) (as gs : List Addr) (rs : List Row) : Prop where
  l : SqL K H b (as.map V.ref)
  n : as.length = rs.length
  m : gs.length = rs.length
  t : ∀ (i : Nat) (a g : Addr) (r : Row), as[i]? = some a → gs[i]? = some g → rs[i]? = some r → SqT K H a [.str r.1, .bl r.2.1, .ref g] ∧ SqL K H g (r.2.2.map V.str)
noncomputable def zipG (ys : List Str) (rs : List Row) : List (Str × List Str) := ys.zip (rs.map (·.2.2))
noncomputable def stL (R : Str → Int) (ys : List Str) (rs : List Row) (i : Nat) : Ly := lastL R [] ((zipG ys rs).take i)
structure Lawful (R : Str → Int) (n : Int) (ys : List Str) (rs : List Row) : Prop where
  len : ys.length = rs.length
  row : ∀ {i : Nat} {z : Str} {r : Row}, ys[i]? = some z → rs[i]? = some r → okRow R n (stL R ys rs i) z r
structure Told (H H' : Hp) (l : Addr) (qs : List Addr) (W : Nat → Ly) (n : Nat) : Prop where
  L : H' l = some (.lst (qs.map V.ref))
  N : qs.length = n
  d : (l :: qs).Nodup
  q : ∀ (j : Nat) (q : Addr), qs[j]? = some q → H q = none ∧ H' q = some (.lst ((lyN (W (j + 1))).map V.str))
theorem new_none {H : Hp} {x dx d : Addr} {o1 o2 : HO} (h : upd (upd H dx o1) x o2 d = none) : H d = none := by
  by_cases e1 : d = x
  · rw [e1, upd_same] at h; cases h
  rw [upd_ne e1] at h
  by_cases e2 : d = dx
  · rw [e2, upd_same] at h; cases h
  rw [upd_ne e2] at h; exact h
theorem same_none {H H' : Hp} {d : Addr} (s : Same H H') (h : H' d = none) : H d = none := by
  cases e : H d with
  | none => rfl
  | some o => rw [s _ _ e] at h; cases h
structure OkL (R : Str → Int) (ns : List Str) (ls : Ly) : Prop where
  nd : (lyN ls).Nodup
  r : ∀ x ∈ ls, x.2 = R x.1
  s : ∀ u ∈ lyN ls, u ∈ ns
noncomputable def Kp (M : List Addr) (H H' : Hp) : Prop := ∀ b o, b ∉ M → H b = some o → H' b = some o
theorem Kp.trans {M : List Addr} {H H1 H2 : Hp} (h1 : Kp M H H1) (h2 : Kp M H1 H2) : Kp M H H2 := fun b o n e => h2 b o n (h1 b o n e)
theorem Kp.of {M : List Addr} {H H1 : Hp} (h : Same H H1) : Kp M H H1 := fun b o _ e => h b o e
theorem Kp.upd {M : List Addr} {H H1 : Hp} {p : Addr} {o : HO} (h : Kp M H H1) (hp : p ∈ M) : Kp M H (upd H1 p o) := fun b u n e => by
  have hb : b ≠ p := fun e2 => n (by rw [e2]; exact hp)
  rw [upd_ne hb]; exact h b u n e
structure RunAt (M : List Addr) (H : Hp) (as gs es : List Addr) (R : Str → Int) (ys : List Str) (rs : List Row) : Prop where
  n : as.length = rs.length
  m : gs.length = rs.length
  k : es.length = rs.length
  t : ∀ (i : Nat) (a g : Addr) (r : Row), as[i]? = some a → gs[i]? = some g → rs[i]? = some r → a ∉ M ∧ g ∉ M ∧ H a = some (.tup [.str r.1, .bl r.2.1, .ref g]) ∧ H g = some (.lst (r.2.2.map V.str))
  q : ∀ (j : Nat) (x : Addr), es[j]? = some x → x ∉ M ∧ H x = some (.lst ((lyN (stL R ys rs (j + 1))).map V.str))
structure Beh (H : Hp) (l : Addr) (es : List Addr) (W : Nat → Ly) (n : Nat) : Prop where
  L : H l = some (.lst (es.map V.ref))
  N : es.length = n
  q : ∀ (j : Nat) (x : Addr), es[j]? = some x → H x = some (.lst ((lyN (W (j + 1))).map V.str))
structure New (H H' : Hp) (h : Addr) (as gs : List Addr) (rs : List Row) : Prop where
  L : H' h = some (.lst (as.map V.ref))
  f : H h = none
  n : as.length = rs.length
  m : gs.length = rs.length
  t : ∀ (i : Nat) (a g : Addr) (r : Row), as[i]? = some a → gs[i]? = some g → rs[i]? = some r → H a = none ∧ H g = none ∧ g ≠ h ∧ H' a = some (.tup [.str r.1, .bl r.2.1, .ref g]) ∧ H' g = some (.lst (r.2.2.map V.str))
end N14

set_option Elab.async false
set_option linter.all false
set_option maxRecDepth 100000
set_option maxHeartbeats 1000000
namespace L2
open PySem PySem.Spec PyProof.Rows
structure DefB (P : Program) (w : World) (K : PySem.W.Frag) (mg : Str → Option Value) (base : Heap) (CX : CXT) (k : Nat) (x : Str) (C : Addr) (ps : List Str) (sp : Sp) : Prop where
  ex : ∃ (f : Addr) (fd : FuncData), FnOk P w K mg base CX k f fd ps sp ∧ Mk K C f ∧ mg x = some (.ref C) ∧ Binds K fd ps [] ∧ PySem.W.findCls K (.ref C) (.type "type") "__init__" = some (.val (.ref f)) ∧ PySem.W.keepIn K (.ref f) = true
  sp : PySem.W.specialIn K (.ref C) "__getattribute__" = some (some (.builtin "type.__getattribute__"))
  rd : PySem.W.readsIn K C (.type "type") = true
theorem DefB.toI {P : Program} {w : World} {K : PySem.W.Frag} {mg : Str → Option Value} {base : Heap} {CX : CXT} {k : Nat} {x : Str} {C : Addr} {ps : List Str} {sp : Sp} (D : DefB P w K mg base CX k x C ps sp) : DefI P w K mg base CX k x C ps sp :=
  let ⟨f, fd, a, b, c, d, _⟩ := D.ex; ⟨f, fd, a, b, c, d⟩
noncomputable def tCallS (sp : Sp) (EE : St → XK) (t : TA) : TE := fun σ H Q => t σ H fun vs H1 => sp vs H1 Q (EE σ)
section
variable {X : Cx} {CX : CXT} {k j : Nat} {C : Addr} {ps : List Str} {sp : Sp} {EE : St → XK} {x : Str} {pos apos : Pos} {e o : Expr} {es : List Expr} {t : TA}
theorem pe_initC {pl : Sem Bool} (D : DefB X.prog X.w X.K X.mg X.base CX j x C ps sp) (hr : Room k X.A) (hx : PassesS CX X EE) (he : PE X o (tC (.ref C))) (ha : PA X (e :: es) t) (hj : j ≤ k := by decide)
    (hst : starEach (e :: es) X.env = (false, eval e X.env) :: starEach es X.env := by rfl) (hpl : (backTo pos (starEach es X.env)).any (·.1) = false := by rfl)
    (ht : eval (.Call (.Attribute o "__init__" apos) (e :: es) [] pos) X.env = (do
      let ov ← eval o X.env
      standAt apos.atName
      let (f, first) ← holding [ov] (getMethod ov "__init__" pl)
      callWith pos f first (backTo pos (starEach (e :: es) X.env)) (backToKw pos (keywordEach [] X.env))) := by rfl) :
    PE X (.Call (.Attribute o "__init__" apos) (e :: es) [] pos) (tCallS sp EE t) := by
  obtain ⟨f, fd, F, M, hm, hb, hc, hk⟩ := D.ex
  intro pins s σ H Q I h
  refine PySem.W.methodCall_KW (pl := pl) (thn (he pins s σ H (fun v H1 => v = .ref C ∧ t σ H1 fun vs H2 => sp vs H2 Q (EE σ)) I ⟨rfl, h⟩) fun u s1 ⟨x, H1, I1, rx, q⟩ => ?_) ht
  obtain ⟨rfl, q⟩ := q
  obtain rfl : u = Value.ref C := rx
  refine PySem.W.method_cls I1.kIn D.sp (PySem.W.cls_value I1.kIn D.rd hc rfl ?_)
  have I2 := I1.tok (s1.toks + 1)
  exact PySem.W.callWith_K (first := []) (h₀ := X.base) I.ok.mod.kin hk (thn (ha pos pins _ σ H1 _ I2 q) fun us s2 ⟨vs, H2, I3, r, q2⟩ => ⟨I3.kIn, run_fnS (us := us) (vs := vs) (F.mono hj) hr hb hx I3 r q2⟩) hst hpl
theorem rd_callS {σ : St} {H : Hp} {Q : VK} : tCallS sp EE t σ H Q = t σ H fun vs H1 => sp vs H1 Q (EE σ) := rfl
end
end L2
namespace L2
open PySem PySem.Spec PyProof.Rows
end L2

set_option Elab.async false
set_option linter.all false
set_option maxRecDepth 100000
set_option maxHeartbeats 1000000
namespace L2
open PySem PySem.Spec PyProof.Rows
section
variable {X : Cx} {pins : List (Addr × Obj)} {σ : St} {H : Hp} {s : Shared} {a C dx g : Addr} {fs : List (Str × V)} {m : Str} {A : Around} {E : Value → Shared → Prop}
theorem getbound_ok {b : Bool} {Q : Value → Shared → Prop} (I : Inv X pins σ H s) (e : H a = some (.ins C dx fs)) (c : Cls X.K C) (k : Meth X.K C m g) (l : fs.lookup m = none)
    (hgf : PySem.W.specialIn X.K (.ref g) "__get__" = some (some (.builtin "function.__get__"))) (ht : PySem.W.takesIn X.K (.ref g) = some false) (hc : PySem.W.copiedNames.contains m = false)
    (h : Q (.ref s.heap.objs.size) { s with heap := s.heap.push (PySem.W.methodObj (.ref g) (.ref a)), toks := s.toks + 1 }) : wpAny (model X.prog X.w) A (getAttr (.ref a) m b) Q E s := by
  obtain ⟨mA, O, r, _, _, _⟩ := ins_get I.hok e
  have hn : mA m = none := RelO.none_of (by rw [← l]; exact r m)
  obtain ⟨od, J, hl⟩ := O.look
  have hK : X.K.In ({ s with toks := s.toks + 1 } : Shared).heap := I.kIn
  exact PySem.W.get_bind I.kIn J (PySem.W.plainGet_of (c.get m)).1 (PySem.W.findObj_fn c.hd k.at_ hgf ht hc (by rw [hl, hn])) (PySem.W.plainGet_of (c.get m)).2
    (wpAny_call (PySem.W.fn_get (s := { s with toks := s.toks + 1 }) hK (beq_iff_eq.mp k.fn) (PySem.W.handed_on rfl h)))
end
section
variable {X : Cx} {CX : CXT} {k : Nat} {f a q : Addr} {fd : FuncData} {ps : List Str} {sp : Sp} {EE : St → XK}
end
end L2

set_option Elab.async false
set_option linter.all false
set_option maxRecDepth 100000
set_option maxHeartbeats 1000000
namespace L2
open PySem PySem.Spec PyProof.Rows
section
variable {X : Cx} {k : Nat} {f a q : Addr} {fd : FuncData} {ps : List Str} {sp : Sp}
theorem run_bound0 {pins : List (Addr × Obj)} {σ : St} {H : Hp} {s : Shared} {Q : VK} {us : List Value} {vs : List V} {E : Value → Shared → Prop} (F : FnOk X.prog X.w X.K X.mg X.base CX0 k f fd ps sp) (hr : Room (k + 1) X.A) (hb : Binds X.K fd ps [])
    (I : Inv X pins σ H s) (r : Vals vs us) (hq : s.heap.get? q = some (PySem.W.methodObj (.ref f) (.ref a))) (h : sp (.ref a :: vs) H Q E0) : wpAny (model X.prog X.w) X.A.in1 (call (.ref q) us) (EP X pins σ Q) E s := by
  have r' : Vals (V.ref a :: vs) (Value.ref a :: us) := .cons rfl r
  have hl : (Value.ref a :: us).length = ps.length := by rw [← r'.length]; exact F.len _ _ _ _ h
  have hb' := hb s (Value.ref a :: us) I.kIn (by simpa using hl)
  rw [List.append_nil] at hb'
  refine wpAny_call (ks_codeAny_call_bound (a := ⟨us, []⟩) hq (codeAny_mono (F.run X.A.in1 X.stack s H ⟨Value.ref a :: us, []⟩ (Value.ref a :: us) (V.ref a :: vs) Q E0 hr.in1 (Env0.in1 I.env0) hb' r' h) fun r s' hq => ?_))
  cases r with
  | error e => exact False.elim hq
  | ok fl =>
    cases fl with
    | ret u => exact I.after hq
    | next => exact False.elim hq
    | brk => exact False.elim hq
    | cont => exact False.elim hq
end
noncomputable def btK (kf : Nat → List Int) : Nat → Nat → Bool := fun i j => HT.lexLt (kf i) (kf j)
section
variable {X : Cx} {pins : List (Addr × Obj)} {σ : St} {k : Nat} {g a q mo it S : Addr} {fd : FuncData} {ps : List Str} {sp : Sp} {H0 : Hp} {xs : List V} {kf : Nat → List Int} {R : Result → Shared → Prop}
theorem Inv.turn1 {H : Hp} {s : Shared} {b : Addr} {h' : Heap} {t' : Nat} (I : Inv X pins σ H s) (fp : FpOk X pins H b) (hk : ∀ c o, c ≠ b → s.heap.get? c = some o → h'.get? c = some o) : Inv X pins σ H { s with heap := h', toks := t' } :=
  I.turned hk fp.1 fp.2.1 fp.2.2.2.1 fp.2.2.2.2.1 fp.2.2.2.2.2
theorem FpOk.at {H H' : Hp} {b : Addr} (h : FpOk X pins H b) (hn : H' b = none) : FpOk X pins H' b := ⟨hn, h.2⟩
theorem minK_loop (F : FnOk X.prog X.w X.K X.mg X.base CX0 k g fd ps sp) (hr : Room (k + 1) X.A) (hb : Binds X.K fd ps []) (hq : SqL X.K H0 a xs) (hai : a ≠ it)
    (turn : ∀ i v, xs[i]? = some v → ∀ H', Same H0 H' → sp [.ref q, v] H' (fun u H'' => Same H' H'' ∧ ∃ t, u = .ref t ∧ H'' t = some (.tup ((kf i).map V.int))) E0)
    (hR : ∀ v u H' s', Same H0 H' → Inv X pins σ H' s' → RelV v u → xs[argBest (btK kf) (xs.length - 1)]? = some v → R (.ok (.ret u)) s')
    (nmi : mo ≠ it) (nms : mo ≠ S) (nis : it ≠ S) :
    ∀ (r j : Nat) (s : Shared) (H : Hp) (vb : Value) (t : Addr) (c : Nat) (v0 : V), xs.length - (j + 1) = r → j + 1 ≤ xs.length → Inv X pins σ H s → Same H0 H → FpOk X pins H mo → FpOk X pins H it → FpOk X pins H S →
      s.heap.get? mo = some (PySem.W.methodObj (.ref g) (.ref q)) → s.heap.get? S = some (seqObj "list" #[vb, .ref t] c) → s.heap.IsListIter it a (j + 1) →
      xs[argBest (btK kf) j]? = some v0 → RelV v0 vb → H t = some (.tup ((kf (argBest (btK kf) j)).map V.int)) →
      codeAny (model X.prog X.w) X.A (.builtin "min.loop" ⟨[.ref it, .ref mo, .ref S], []⟩) R s := by
  have hname : (toString "min" ++ toString ".loop" : String) = "min.loop" := by decide
  have hh : X.A.in1.handled = none := hr.hd
  intro r
  induction r with
  | zero =>
    intro j s H vb t c v0 hrr hj I sm fm fi fs gm gS hit hx0 rv0 ht
    obtain ⟨its, rv, p, hz⟩ := I.list (sm.seq hq)
    have hln := rv.length
    have W := Walks.list (prog := X.prog) (w := X.w) (A := X.A.in1) hh it a hai its.toArray
    have hsz : its.toArray.size = xs.length := by rw [List.size_toArray, hln]
    have hin : j + 1 = xs.length := by omega
    refine codeAny_builtin PySem.F.entry_min_loop ?_
    rw [Around.under_plainId PySem.F.plain_min_loop _]
    show wpAny _ X.A.in1 (seqItems? (.ref S) >>= _) _ _ _
    refine wpAny_bind (wpAny_seqItems gS rfl ?_)
    show wpAny _ X.A.in1 (tryCatch (pyNext (.ref it)) _ >>= _) _ _ _
    refine wpAny_bind (wpAny_tryCatch (W.done _ _ _ ⟨by rw [hsz, ← hin]; exact hit, p.isList⟩ fun h' tk' hk' => ?_))
    have hk2 : ∀ b o, b ≠ it → s.heap.get? b = some o → h'.get? b = some o := fun b o e => hk' b o (by simpa using e)
    have I1 : Inv X pins σ H { s with heap := h', toks := tk' } := I.turn1 fi hk2
    have gS' := hk2 S _ (Ne.symm nis) gS
    have s1 := Heap.SameBut.update h' S (Obj.mapSeq fun _ => (#[] : Array Value))
    show wpAny _ X.A.in1 (updateSeq S (fun _ => #[]) >>= _) _ _ _
    refine wpAny_bind ?_
    refine wpAny_updateSeq gS' rfl (wpAny_bind (wpAny_letGo (wpAny_pure ?_)))
    refine hR v0 vb H _ sm (I1.turn1 (t' := tk') fs fun b o e e2 => (s1.2 b e).trans e2) rv0 ?_
    rw [show xs.length - 1 = j by omega]
    exact hx0
  | succ r ih =>
    intro j s H vb t c v0 hrr hj I sm fm fi fs gm gS hit hx0 rv0 ht
    obtain ⟨its, rv, p, hz⟩ := I.list (sm.seq hq)
    have hln := rv.length
    have W := Walks.list (prog := X.prog) (w := X.w) (A := X.A.in1) hh it a hai its.toArray
    have hsz : its.toArray.size = xs.length := by rw [List.size_toArray, hln]
    have hlt : j + 1 < xs.length := by omega
    refine codeAny_builtin PySem.F.entry_min_loop ?_
    rw [Around.under_plainId PySem.F.plain_min_loop _]
    show wpAny _ X.A.in1 (seqItems? (.ref S) >>= _) _ _ _
    refine wpAny_bind (wpAny_seqItems gS rfl ?_)
    show wpAny _ X.A.in1 (tryCatch (pyNext (.ref it)) _ >>= _) _ _ _
    refine wpAny_bind (wpAny_tryCatch (W.item (j + 1) _ _ _ (by rw [hsz]; exact hlt) ⟨hit, p.isList⟩ fun v h' tk' hP hst' hk' => ?_))
    have hk2 : ∀ b o, b ≠ it → s.heap.get? b = some o → h'.get? b = some o := fun b o e => hk' b o (by simpa using e)
    have hxj := List.getElem?_eq_getElem hlt
    obtain ⟨v', hv', rv'⟩ := rv.get hxj
    have hvv : v' = v := by
      have : its[j + 1]? = some v := by simpa using hP
      rw [hv'] at this; exact Option.some.inj this
    subst hvv
    obtain ⟨oI', hoI', hoc, hod⟩ := id hst'.1
    have I1 : Inv X pins σ H { s with heap := h', toks := tk' } := I.turn1 fi hk2
    have gS' := hk2 S _ (Ne.symm nis) gS
    have gm' := hk2 mo _ nmi gm
    have I1p : Inv X (pins ++ [(mo, PySem.W.methodObj (.ref g) (.ref q)), (S, seqObj "list" #[vb, .ref t] c), (it, oI')]) σ H { s with heap := h', toks := tk' } := I1.pins_of fun p hp => by
      rcases List.mem_append.mp hp with hp | hp
      · exact I1.pin p (List.mem_append_right _ hp)
      · simp only [List.mem_cons, List.not_mem_nil, or_false] at hp
        rcases hp with rfl | rfl | rfl
        · exact ⟨gm', fm.1, fm.2.1, fm.2.2.1, fun v e => by cases e⟩
        · exact ⟨gS', fs.1, fs.2.1, fs.2.2.1, fun v e => by cases e⟩
        · exact ⟨hoI', fi.1, fi.2.1, fi.2.2.1, fun v e => by rw [hod] at e; cases e⟩
    show wpAny _ X.A.in1 (tryCatch (holding [v'] (call (.ref mo) [v'])) _ >>= _) _ _ _
    refine wpAny_bind (wpAny_tryCatch (wpAny_holding (thn (run_bound0 (vs := [xs[j + 1]]) F hr hb I1p (.cons rv' .nil) gm' (turn (j + 1) _ hxj H sm)) fun x s2 he => ?_)))
    obtain ⟨y, H2, I2p, ry, sm2, t2, rfl, ht2⟩ := he
    obtain rfl : x = Value.ref t2 := ry
    have P2 := fun p hp => I2p.pin p (List.mem_append_right _ (List.mem_append_right _ hp))
    have pm := P2 (mo, PySem.W.methodObj (.ref g) (.ref q)) (by simp)
    have pS := P2 (S, seqObj "list" #[vb, .ref t] c) (by simp)
    have pI := P2 (it, oI') (by simp)
    have I2 : Inv X pins σ H2 s2 := I2p.pins_of fun p hp => I2p.pin p (List.mem_append_right _ (List.mem_append_left _ hp))
    have hit2 : s2.heap.IsListIter it a (j + 1 + 1) := ⟨oI', pI.1, hoc, hod⟩
    have smx := sm.trans sm2
    have ht' := sm2 _ _ ht
    obtain ⟨us1, r1, p1, _⟩ := I2.tuple (SqT.of ht2)
    obtain ⟨us2, r2, p2, _⟩ := I2.tuple (SqT.of ht')
    have hu : X.A.in1.units < cLine := Nat.lt_of_le_of_lt (by omega) hr.in1.un
    show wpAny _ X.A.in1 (tryCatch (holding [v', .ref t2] (richCompare .Lt (.ref t2) (.ref t) >>= _)) _ >>= _) _ _ _
    refine wpAny_bind (wpAny_tryCatch (wpAny_holding (wpAny_bind (HT.lt_tupInts p1 p2 (intsAre_of r1) (intsAre_of r2) hu ?_))))
    refine wpAny_bind (wpAny_holding (wpAny_truthy_bool ?_))
    refine wpAny_bind (wpAny_letGo (wpAny_pure ?_))
    have eB : argBest (btK kf) (j + 1) = if HT.lexLt (kf (j + 1)) (kf (argBest (btK kf) j)) = true then j + 1 else argBest (btK kf) j := rfl
    by_cases hb' : HT.lexLt (kf (j + 1)) (kf (argBest (btK kf) j)) = true
    · have s1 := Heap.SameBut.update s2.heap S (Obj.mapSeq fun _ => #[v', .ref t2])
      obtain ⟨c2, hc2⟩ : ∃ c2, (s2.heap.update S (Obj.mapSeq fun _ => #[v', .ref t2])).get? S = some (seqObj "list" #[v', .ref t2] c2) := ⟨_, get?_update_seq pS.1 fun _ => #[v', .ref t2]⟩
      rw [if_pos hb'] at eB
      simp only [hb', if_true]
      refine wpAny_bind ?_
      refine wpAny_updateSeq pS.1 rfl (wpAny_bind (wpAny_letGo ?_))
      rw [hname]
      have I3 : Inv X pins σ H2 { s2 with heap := s2.heap.update S (Obj.mapSeq fun _ => #[v', .ref t2]), toks := s2.toks } := I2.turn1 (fs.at pS.2.1) fun b o e e2 => (s1.2 b e).trans e2
      exact wpAny_pure ⟨plainId_quiet PySem.F.plain_min_loop _, ih (j + 1) _ H2 v' t2 c2 _ (by omega) hlt I3 smx (fm.at pm.2.1) (fi.at pI.2.1) (fs.at pS.2.1) ((s1.2 mo nms).trans pm.1) hc2 ⟨oI', (s1.2 it nis).trans pI.1, hoc, hod⟩ (by rw [eB]; exact hxj) rv' (by rw [eB]; exact ht2)⟩
    · rw [if_neg hb'] at eB
      simp only [hb', Bool.false_eq_true, if_false]
      refine wpAny_bind (wpAny_letGo ?_)
      rw [hname]
      exact wpAny_pure ⟨plainId_quiet PySem.F.plain_min_loop _, ih (j + 1) s2 H2 vb t c v0 (by omega) hlt I2 smx (fm.at pm.2.1) (fi.at pI.2.1) (fs.at pS.2.1) pm.1 pS.1 hit2 (by rw [eB]; exact hx0) rv0 (by rw [eB]; exact ht')⟩
end
section
variable {X : Cx} {pins : List (Addr × Obj)} {σ : St} {k : Nat} {g a q mo : Addr} {fd : FuncData} {ps : List Str} {sp : Sp} {H : Hp} {s : Shared} {xs : List V} {kf : Nat → List Int} {Q : VK}
theorem minK_call (F : FnOk X.prog X.w X.K X.mg X.base CX0 k g fd ps sp) (hr : Room (k + 1) X.A) (hb : Binds X.K fd ps []) (I : Inv X pins σ H s) (hq : SqL X.K H a xs) (hne : xs ≠ [])
    (gm : s.heap.get? mo = some (PySem.W.methodObj (.ref g) (.ref q))) (fm : FpOk X pins H mo)
    (turn : ∀ i v, xs[i]? = some v → ∀ H', Same H H' → sp [.ref q, v] H' (fun u H'' => Same H' H'' ∧ ∃ t, u = .ref t ∧ H'' t = some (.tup ((kf i).map V.int))) E0)
    (hQ : ∀ v H', Same H H' → xs[argBest (btK kf) (xs.length - 1)]? = some v → Q v H') :
    wpAny (model X.prog X.w) X.A (call (.builtin "min") [.ref a] [(Str.ofString "key", .ref mo)]) (EP X pins σ Q) X.xe s := by
  have hname : (toString "min" ++ toString ".loop" : String) = "min.loop" := by decide
  have hh : X.A.in1.handled = none := hr.hd
  obtain ⟨its, rv, p, hz⟩ := I.list hq
  have hln := rv.length
  have hpos : 0 < xs.length := List.length_pos_iff.mpr hne
  have hla : a < s.heap.objs.size := by obtain ⟨o, n, e, _⟩ := p; exact Heap.lt_size e
  have hlm : mo < s.heap.objs.size := Heap.lt_size gm
  refine kmk_tree PySem.F.kind_min PySem.F.plain_min PySem.F.entry_min (kmk_min_key _ _) ?_
  show wpAny _ X.A.in1 (Builtin.Builtins.bindParams "min" ["key", "default"] 0 ⟨[], [(Str.ofString "key", .ref mo)]⟩ >>= _) _ _ s
  refine wpAny_bind (wpAny_of_eq (show Builtin.Builtins.bindParams "min" ["key", "default"] 0 ⟨[], [(Str.ofString "key", .ref mo)]⟩ = pure [some (.ref mo), none] from rfl) ?_)
  refine wpAny_bind (wpAny_pure ?_)
  refine wpAny_bind (wpAny_pyIter_list p.isList ?_)
  refine wpAny_bind (wpAny_newList ?_ (Nat.zero_le _))
  rw [hname]
  refine wpAny_pure ⟨plainId_quiet PySem.F.plain_min_loop _, ?_⟩
  have hS : (s.heap.push { cls := .type "list_iterator", data := .fields #[.ref a, .int 0 0] }).objs.size = s.heap.objs.size + 1 := size_push' ..
  generalize hSe : (s.heap.push { cls := .type "list_iterator", data := .fields #[.ref a, .int 0 0] }).objs.size = S at hS
  have hai : a ≠ s.heap.objs.size := Nat.ne_of_lt hla
  have nmi : mo ≠ s.heap.objs.size := Nat.ne_of_lt hlm
  have nms : mo ≠ S := by rw [hS]; exact Nat.ne_of_lt (Nat.lt_succ_of_lt hlm)
  have nis : s.heap.objs.size ≠ S := by rw [hS]; exact Nat.ne_of_lt (Nat.lt_succ_self _)
  have k1 : ∀ b o, s.heap.get? b = some o → ((s.heap.push { cls := .type "list_iterator", data := .fields #[.ref a, .int 0 0] }).push (seqObj "list" #[] 0)).get? b = some o := fun b o e => Heap.get?_push_of_some _ (Heap.get?_push_of_some _ e)
  have fi : FpOk X pins H s.heap.objs.size := I.fpOk (Nat.le_refl _) (I.hok.fresh (Nat.le_refl _))
  have fs : FpOk X pins H S := I.fpOk (by rw [hS]; exact Nat.le_succ _) (I.hok.fresh (by rw [hS]; exact Nat.le_succ _))
  have gI : ((s.heap.push { cls := .type "list_iterator", data := .fields #[.ref a, .int 0 0] }).push (seqObj "list" #[] 0)).get? s.heap.objs.size = some { cls := .type "list_iterator", data := .fields #[.ref a, .int 0 0] } := Heap.get?_push_of_some _ (Heap.get?_push_size _ rfl)
  have gS : ((s.heap.push { cls := .type "list_iterator", data := .fields #[.ref a, .int 0 0] }).push (seqObj "list" #[] 0)).get? S = some (seqObj "list" #[] 0) := by rw [← hSe]; exact Heap.get?_push_size _ rfl
  have gm1 := k1 _ _ gm
  have I1 : Inv X pins σ H { s with heap := (s.heap.push { cls := .type "list_iterator", data := .fields #[.ref a, .int 0 0] }).push (seqObj "list" #[] 0), toks := s.toks } := I.kept k1
  obtain ⟨its', rv1, p1, _⟩ := I1.list hq
  have hln1 := rv1.length
  have W := Walks.list (prog := X.prog) (w := X.w) (A := X.A.in1) hh s.heap.objs.size a hai its'.toArray
  have hsz : its'.toArray.size = xs.length := by rw [List.size_toArray, hln1]
  refine codeAny_builtin PySem.F.entry_min_loop ?_
  rw [Around.under_plainId PySem.F.plain_min_loop _]
  show wpAny _ X.A.in1 (seqItems? (.ref S) >>= _) _ _ _
  refine wpAny_bind (wpAny_seqItems gS rfl ?_)
  show wpAny _ X.A.in1 (tryCatch (pyNext (.ref s.heap.objs.size)) _ >>= _) _ _ _
  refine wpAny_bind (wpAny_tryCatch (W.item 0 _ _ _ (by rw [hsz]; exact hpos) ⟨⟨_, gI, rfl, rfl⟩, p1.isList⟩ fun v h' tk' hP hst' hk' => ?_))
  have hk2 : ∀ b o, b ≠ s.heap.objs.size → ((s.heap.push { cls := .type "list_iterator", data := .fields #[.ref a, .int 0 0] }).push (seqObj "list" #[] 0)).get? b = some o → h'.get? b = some o := fun b o e => hk' b o (by simpa using e)
  have hx0 := List.getElem?_eq_getElem hpos
  obtain ⟨v', hv', rv'⟩ := rv1.get hx0
  have hvv : v' = v := by
    have : its'[0]? = some v := by simpa using hP
    rw [hv'] at this; exact Option.some.inj this
  subst hvv
  obtain ⟨oI', hoI', hoc, hod⟩ := id hst'.1
  have I2 : Inv X pins σ H { s with heap := h', toks := tk' } := I1.turn1 fi hk2
  have gS' := hk2 S _ (Ne.symm nis) gS
  have gm' := hk2 mo _ nmi gm1
  have I2p : Inv X (pins ++ [(mo, PySem.W.methodObj (.ref g) (.ref q)), (S, seqObj "list" #[] 0), (s.heap.objs.size, oI')]) σ H { s with heap := h', toks := tk' } := I2.pins_of fun p hp => by
    rcases List.mem_append.mp hp with hp | hp
    · exact I2.pin p (List.mem_append_right _ hp)
    · simp only [List.mem_cons, List.not_mem_nil, or_false] at hp
      rcases hp with rfl | rfl | rfl
      · exact ⟨gm', fm.1, fm.2.1, fm.2.2.1, fun v e => by cases e⟩
      · exact ⟨gS', fs.1, fs.2.1, fs.2.2.1, fun v e => by cases e⟩
      · exact ⟨hoI', fi.1, fi.2.1, fi.2.2.1, fun v e => by rw [hod] at e; cases e⟩
  show wpAny _ X.A.in1 (tryCatch (holding [v'] (call (.ref mo) [v'])) _ >>= _) _ _ _
  refine wpAny_bind (wpAny_tryCatch (wpAny_holding (thn (run_bound0 (vs := [xs[0]]) F hr hb I2p (.cons rv' .nil) gm' (turn 0 _ hx0 H (Same.refl H))) fun x s2 he => ?_)))
  obtain ⟨y, H2, I3p, ry, sm2, t2, rfl, ht2⟩ := he
  obtain rfl : x = Value.ref t2 := ry
  have P2 := fun p hp => I3p.pin p (List.mem_append_right _ (List.mem_append_right _ hp))
  have pm := P2 (mo, PySem.W.methodObj (.ref g) (.ref q)) (by simp)
  have pS := P2 (S, seqObj "list" #[] 0) (by simp)
  have pI := P2 (s.heap.objs.size, oI') (by simp)
  have I3 : Inv X pins σ H2 s2 := I3p.pins_of fun p hp => I3p.pin p (List.mem_append_right _ (List.mem_append_left _ hp))
  have s1 := Heap.SameBut.update s2.heap S (Obj.mapSeq fun _ => #[v', .ref t2])
  obtain ⟨c2, hc2⟩ : ∃ c2, (s2.heap.update S (Obj.mapSeq fun _ => #[v', .ref t2])).get? S = some (seqObj "list" #[v', .ref t2] c2) := ⟨_, get?_update_seq pS.1 fun _ => #[v', .ref t2]⟩
  show wpAny _ X.A.in1 (updateSeq S (fun _ => #[v', .ref t2]) >>= _) _ _ _
  refine wpAny_bind ?_
  refine wpAny_updateSeq pS.1 rfl ?_
  rw [hname]
  have I4 : Inv X pins σ H2 { s2 with heap := s2.heap.update S (Obj.mapSeq fun _ => #[v', .ref t2]), toks := s2.toks } := I3.turn1 (fs.at pS.2.1) fun b o e e2 => (s1.2 b e).trans e2
  refine wpAny_pure ⟨plainId_quiet PySem.F.plain_min_loop _, minK_loop (H0 := H) (kf := kf) (xs := xs) (a := a) F hr hb hq hai turn (fun v u H' s' smH I' ru hv => ?_) nmi nms nis _ 0 _ H2 v' t2 c2 xs[0] rfl hpos I4 sm2 (fm.at pm.2.1) (fi.at pI.2.1) (fs.at pS.2.1) ((s1.2 mo nms).trans pm.1) hc2 ⟨oI', (s1.2 _ nis).trans pI.1, hoc, hod⟩ hx0 rv' ht2⟩
  exact ⟨v, H', I', ru, hQ v H' smH hv⟩
end
structure DefV (P : Program) (w : World) (K : PySem.W.Frag) (mg : Str → Option Value) (base : Heap) (k : Nat) (C : Addr) (m : Str) (ps : List Str) (sp : Sp) : Prop where
  ex : ∃ (f : Addr) (fd : FuncData), FnOk P w K mg base CX0 k f fd ps sp ∧ Meth K C m f ∧ Binds K fd ps [] ∧ PySem.W.specialIn K (.ref f) "__get__" = some (some (.builtin "function.__get__")) ∧ PySem.W.takesIn K (.ref f) = some false
theorem DefV.toM {P : Program} {w : World} {K : PySem.W.Frag} {mg : Str → Option Value} {base : Heap} {k : Nat} {C : Addr} {m : Str} {ps : List Str} {sp : Sp} (D : DefV P w K mg base k C m ps sp) : DefM P w K mg base CX0 k C m ps sp :=
  let ⟨f, fd, a, b, c, _⟩ := D.ex; ⟨f, fd, a, b, c⟩
noncomputable def tMinK (K : PySem.W.Frag) (C : Addr) (m : Str) (sp : Sp) (ta : TA) (to : TE) : TE := fun σ H Q => ta σ H fun vs H1 => to σ H1 fun o H2 => ∃ (a q dx : Addr) (fs : List (Str × V)) (xs : List V) (kf : Nat → List Int), vs = [.ref a] ∧ o = .ref q ∧ H2 q = some (.ins C dx fs) ∧ fs.lookup m = none ∧ SqL K H2 a xs ∧ xs ≠ [] ∧
  (∀ i v, xs[i]? = some v → ∀ H', Same H2 H' → sp [.ref q, v] H' (fun u H'' => Same H' H'' ∧ ∃ t, u = .ref t ∧ H'' t = some (.tup ((kf i).map V.int))) E0) ∧ ∀ v H', Same H2 H' → xs[argBest (btK kf) (xs.length - 1)]? = some v → Q v H'
section
variable {X : Cx} {k j : Nat} {C : Addr} {ps : List Str} {sp : Sp} {m : Str} {x : Str} {p pos apos kp : Pos} {e o : Expr} {t : TA} {to : TE}
theorem pe_minK (D : DefV X.prog X.w X.K X.mg X.base j C m ps sp) (c : Cls X.K C) (hr : Room k X.A) (hg : Gl X x) (hm : X.mg x = none) (hv : bootBuiltins x = some (.builtin "min")) (ha : PA X [e] t) (ho : PE X o to) (hba : attributeBase o m X.env (eval o X.env) = eval o X.env) (hcn : PySem.W.copiedNames.contains m = false := by decide +kernel) (hj : j + 1 ≤ k := by decide) (hn : x ≠ "__name__" := by decide) (hdb : (x == ("__debug__" : Str)) = false := by decide)
    (he : backTo pos (starEach [e] X.env) = (false, eval e X.env) :: backTo pos (starEach [] X.env) := by rfl) (hpl : (backTo pos (starEach [e] X.env)).any (·.1) = false := by rfl) :
    PE X (.Call (.Name x p) [e] [⟨some (Str.ofString "key"), .Attribute o m apos, kp⟩] pos) (tMinK X.K C m sp t to) := by
  obtain ⟨g, fd, F, M, hb, hgf, htk⟩ := D.ex
  intro pins s σ H Q I h
  refine wpAny_Call_Name_kw (ld_blt I hg hm hv ?_ hn hdb)
  refine callWith_kw (thn (ha pos pins s σ H _ I h) fun us s1 ⟨vs, H1, I1, r1, q1⟩ => ?_) he hpl
  refine kws_cons (attr_of hba (thn (ho pins s1 σ H1 _ I1 q1) fun u s2 ⟨y, H2, I2, ry, a, q, dx, fs, xs, kf, ev, ey, hq, hl, hx, hne, turn, fin⟩ => ?_))
  subst ev ey
  obtain rfl : u = Value.ref q := ry
  obtain ⟨u, rfl, ru⟩ := vals1 r1
  obtain rfl : u = Value.ref a := ru
  refine getbound_ok I2 hq c M hl hgf htk hcn (kws_nil ?_)
  have I3 : Inv X pins σ H2 { s2 with heap := s2.heap.push (PySem.W.methodObj (.ref g) (.ref q)), toks := s2.toks + 1 } := I2.kept fun b o e => Heap.get?_push_of_some _ e
  exact minK_call (q := q) (g := g) (F.mono (show j ≤ j from Nat.le_refl j)) (hr.mono hj) hb I3 hx hne (Heap.get?_push_size _ rfl) (I2.fpOk (Nat.le_refl _) (I2.hok.fresh (Nat.le_refl _))) turn fin
theorem rd_minK {K : PySem.W.Frag} {σ : St} {H : Hp} {Q : VK} : tMinK K C m sp t to σ H Q = t σ H fun vs H1 => to σ H1 fun o H2 => ∃ (a q dx : Addr) (fs : List (Str × V)) (xs : List V) (kf : Nat → List Int), vs = [.ref a] ∧ o = .ref q ∧ H2 q = some (.ins C dx fs) ∧ fs.lookup m = none ∧ SqL K H2 a xs ∧ xs ≠ [] ∧
  (∀ i v, xs[i]? = some v → ∀ H', Same H2 H' → sp [.ref q, v] H' (fun u H'' => Same H' H'' ∧ ∃ t, u = .ref t ∧ H'' t = some (.tup ((kf i).map V.int))) E0) ∧ ∀ v H', Same H2 H' → xs[argBest (btK kf) (xs.length - 1)]? = some v → Q v H' := rfl
end
end L2

set_option Elab.async false
set_option linter.all false
set_option maxRecDepth 100000
set_option maxHeartbeats 1000000
namespace N20
open PySem PySem.Spec PyProof.Rows L2 N1 N5 N4 N6 N12 N32 N14
theorem join_nilL : ∀ (l : List Nat), Str.join (Str.ofString "") (l.map fun c => (⟨#[c]⟩ : Str)) = tx l
  | [] => T_empty
  | [c] => rfl
  | c :: d :: r => by
    have ih := join_nilL (d :: r)
    show (⟨#[c]⟩ : Str) ++ Str.ofString "" ++ Str.join (Str.ofString "") ((d :: r).map fun c => (⟨#[c]⟩ : Str)) = tx (c :: d :: r)
    rw [ih, T_one, T_nil, T_app, T_app]
    rfl
theorem join_ones (l : List Nat) : Txt.join (Str.ofString "") (l.map fun c => (⟨#[c]⟩ : Str)) = tx l := by
  rw [← join_nilL]
  exact StrLaws.glued_eq_join _ _
theorem slice_from {l : List Nat} {n : Int} (h0 : 0 ≤ n) (h1 : n ≤ l.length) : Txt.slice (tx l) (some n) none = tx (l.drop n.toNat) := by
  rw [PyProof.Rows.slice_from_eq (b := ((tx l).length : Int)) h0 (by rw [T_len]; exact h1) rfl]
  show tx _ = tx _
  rw [T_list, T_len, List.take_of_length_le (by rw [List.length_drop]; omega)]
noncomputable def nm3 (B : List Nat) (at' : Nat) (e : Int) (k : Nat) : List Nat := B.take at' ++ [bc ((e + k) % 26)] ++ B.drop (at' + 1) ++ List.replicate (k / 26) 122
theorem nm3_len {B : List Nat} {at' : Nat} {e : Int} {k : Nat} (h : at' < B.length) : (nm3 B at' e k).length = B.length + k / 26 := by
  unfold nm3
  simp only [List.length_append, List.length_take, List.length_drop, List.length_cons, List.length_nil, List.length_replicate]
  omega
theorem nm3_at {B : List Nat} {at' : Nat} {e : Int} {k : Nat} (h : at' < B.length) : (nm3 B at' e k)[at']? = some (bc ((e + k) % 26)) := by
  unfold nm3
  rw [List.append_assoc, List.append_assoc, List.getElem?_append_right (by rw [List.length_take]; omega)]
  rw [List.length_take, show at' - min at' B.length = 0 by omega]
  rfl
theorem nm3_inj {B : List Nat} {at' : Nat} {e : Int} {k k' : Nat} (h : at' < B.length) (he : nm3 B at' e k = nm3 B at' e k') : k = k' := by
  have e1 := congrArg List.length he
  rw [nm3_len h, nm3_len h] at e1
  have e2 := nm3_at (e := e) (k := k) h
  rw [he, nm3_at h] at e2
  have e3 := bc_inj (by omega) (by omega) (by omega) (by omega) (Option.some.inj e2)
  omega
theorem nm3_name {B : List Nat} {at' : Nat} {e : Int} {k : Nat} (h : at' < B.length) (h6 : B.length ≤ 6) (hk : k < 78) (hB : ∀ c ∈ B, c ∈ letters ++ figures) (hh : ∃ c r, B = c :: r ∧ c ∈ letters) : nameB (nm3 B at' e k) = true := by
  have hall : ∀ x ∈ nm3 B at' e k, x ∈ letters ++ figures := by
    intro x hx
    unfold nm3 at hx
    rcases List.mem_append.mp hx with hx | hx
    · rcases List.mem_append.mp hx with hx | hx
      · rcases List.mem_append.mp hx with hx | hx
        · exact hB x (List.mem_of_mem_take hx)
        · rw [List.mem_singleton.mp hx]; exact List.mem_append_left _ bc_let
      · exact hB x (List.mem_of_mem_drop hx)
    · rw [List.eq_of_mem_replicate hx]; decide
  have hl := nm3_len (e := e) (k := k) h
  have hl1 : 1 ≤ (nm3 B at' e k).length := by omega
  have hl8 : (nm3 B at' e k).length ≤ 8 := by omega
  have hhd : headIn (nm3 B at' e k) letters = true := by
    obtain ⟨c, r, rfl, hc⟩ := hh
    cases at' with
    | zero => exact decide_eq_true bc_let
    | succ n => exact decide_eq_true hc
  unfold nameB
  rw [decide_eq_true hl1, decide_eq_true hl8, hhd]
  simp only [Bool.true_and]
  exact List.all_eq_true.mpr fun x hx => decide_eq_true (hall x hx)
noncomputable def sp20_stream : Sp := fun vs H Q _ => ∃ (c : Int) (m : Nat), vs = [.int c, .int m] ∧ m ≤ 1000 ∧ ∀ (p : Addr) (xs : List Int) (H' : Hp), H p = none → Same H H' → H' p = some (.lst (xs.map V.int)) → xs.length = m → (∀ x ∈ xs, 0 ≤ x) → Q (.ref p) H'
noncomputable def sp20_names : Sp := fun vs H Q _ => ∃ (c : Int) (m : Nat), vs = [.int c, .int m] ∧ m ≤ 60 ∧ ∀ (p : Addr) (ys : List Str) (H' : Hp), H p = none → Same H H' → H' p = some (.lst (ys.map V.str)) → ys.length = m → ys.Nodup → (∀ y ∈ ys, nameB y.cps.toList = true) → Q (.ref p) H'
noncomputable def sp20_rows (K : PySem.W.Frag) : Sp := fun vs H Q _ => ∃ (a : Addr) (ns : List Int), vs = [.ref a] ∧ SqL K H a (ns.map V.int) ∧ ns.length ≤ 63 ∧
  ∀ (r : Addr) (as : List Addr) (ts : List Th) (H' : Hp), Same H H' → H' r = some (.lst (as.map V.ref)) → RowsAt K H' r as ts → 1 ≤ ts.length → Q (.ref r) H'
noncomputable def sp20_places (K : PySem.W.Frag) : Sp := fun vs H Q _ => ∃ (r : Addr) (c : Int) (as : List Addr) (ts : List Th), vs = [.ref r, .int c] ∧ RowsAt K H r as ts ∧ 1 ≤ ts.length ∧ ∀ (n : Int) (H' : Hp), Same H H' → 1 ≤ n → n ≤ 1000000 → (∀ t ∈ ts, t.2.2 ≤ n) → Q (.int n) H'
noncomputable def sp20_asks (K : PySem.W.Frag) : Sp := fun vs H Q _ => ∃ (a r : Addr) (ns : List Int) (as : List Addr) (ts : List Th), vs = [.ref a, .ref r] ∧ SqL K H a (ns.map V.int) ∧ ns.length ≤ 63 ∧ RowsAt K H r as ts ∧ 1 ≤ ts.length ∧
  ∀ (p : Addr) (ys : List Str) (H' : Hp), Same H H' → H' p = some (.lst (ys.map V.str)) → ys.length ≤ 200 → (∀ y ∈ ys, y ∈ ts.map (·.1)) → Q (.ref p) H'
noncomputable def rmK (ts : List Th) : List (Key × V) := ts.map fun t => (Sum.inr t.1, .int t.2.2)
noncomputable def sp20_rooms (K : PySem.W.Frag) : Sp := fun vs H Q _ => ∃ (r : Addr) (as : List Addr) (ts : List Th), vs = [.ref r] ∧ RowsAt K H r as ts ∧ ∀ (e : Addr) (H' : Hp), Same H H' → H' e = some (.dK (rmK ts)) → Q (.ref e) H'
noncomputable def sp20_same (K : PySem.W.Frag) : Sp := fun vs H Q _ => ∃ (x y : Addr) (as gs as2 gs2 : List Addr) (rs : List N14.Row), vs = [.ref x, .ref y] ∧ H x = some (.lst (as.map V.ref)) ∧ (∀ (i : Nat) a, as[i]? = some a → ∃ xs, H a = some (.tup xs)) ∧ BookAt K H x as gs rs ∧ BookAt K H y as2 gs2 rs ∧ rs.length ≤ 200 ∧ ∀ H', Same H H' → Q (.bl true) H'
end N20
namespace N20
open PySem PySem.Spec PyProof.Rows L2 N1 N5 N4 N6 N12 N32 N14
noncomputable def th0 : Th := (Str.empty, 0, 0)
theorem th_at {ts : List Th} {i : Nat} (h : i < ts.length) : ts[i]? = some (ts.getD i th0) := by
  rw [List.getD_eq_getElem?_getD, List.getElem?_eq_getElem h]; rfl
theorem rows_ts {K : PySem.W.Frag} {H : Hp} {D : Addr} {yl : List V} {ts : List Th} (hD : H D = some (.lst yl)) (hl : yl.length = ts.length) (hm : ts.length ≤ 60) (nd : (ts.map (·.1)).Nodup) (hn : ∀ t ∈ ts, nameB t.1.cps.toList = true ∧ 0 ≤ t.2.1 ∧ t.2.1 ≤ 10 ^ 30 ∧ 1 ≤ t.2.2 ∧ t.2.2 ≤ 1000)
    (hall : ∀ i y, yl[i]? = some y → ∃ t, y = V.ref t ∧ SqT K H t [.str (ts.getD i th0).1, .int (ts.getD i th0).2.1, .int (ts.getD i th0).2.2]) : ∃ as, yl = as.map V.ref ∧ RowsAt K H D as ts := by
  have e : yl = (yl.map aOf).map V.ref := by
    rw [List.map_map]
    refine (List.map_id yl).symm.trans (List.map_congr_left fun y hy => ?_)
    obtain ⟨i, hi⟩ := List.mem_iff_getElem?.mp hy
    obtain ⟨t, rfl, _⟩ := hall i y hi
    rfl
  refine ⟨yl.map aOf, e, ⟨by rw [← e]; exact SqL.of hD, by rw [List.length_map, hl], hm, fun i a t h1 h2 => ?_, hn, nd⟩⟩
  rw [List.getElem?_map] at h1
  have hi : i < ts.length := (List.getElem?_eq_some_iff.mp h2).1
  rw [th_at hi] at h2
  cases h2
  cases hy' : yl[i]? with
  | none => rw [hy'] at h1; cases h1
  | some y =>
    rw [hy'] at h1
    obtain ⟨t, rfl, hs⟩ := hall i y hy'
    cases h1
    exact hs
noncomputable def lyOf (ts : List Th) : Ly := ts.map fun t => (t.1, t.2.2)
theorem lyOf_names (ts : List Th) : lyN (lyOf ts) = ts.map (·.1) := by unfold lyOf lyN; rw [List.map_map]; rfl
theorem lyOf_K (ts : List Th) : lyK (lyOf ts) = rmK ts := by unfold lyOf lyK rmK; rw [List.map_map]; rfl
noncomputable def mkTs (ys : List Str) (xs : List Int) (m : Nat) (w : Int) : List Th := (List.range m).map fun k => (ys.getD k Str.empty, xs.getD k 0 % 1000, 1 + xs.getD (m + k) 0 % w)
theorem mkTs_len {ys : List Str} {xs : List Int} {m : Nat} {w : Int} : (mkTs ys xs m w).length = m := by unfold mkTs; rw [List.length_map, List.length_range]
theorem mkTs_at {ys : List Str} {xs : List Int} {m : Nat} {w : Int} {k : Nat} (h : k < m) : (mkTs ys xs m w).getD k th0 = (ys.getD k Str.empty, xs.getD k 0 % 1000, 1 + xs.getD (m + k) 0 % w) := by
  unfold mkTs
  rw [List.getD_eq_getElem?_getD, List.getElem?_map, List.getElem?_range h]; rfl
theorem mkTs_names {ys : List Str} {xs : List Int} {m : Nat} {w : Int} (h : ys.length = m) : (mkTs ys xs m w).map (·.1) = ys := by
  unfold mkTs
  rw [List.map_map, ← h]
  refine List.ext_getElem? fun i => ?_
  rw [List.getElem?_map]
  by_cases hi : i < ys.length
  · rw [List.getElem?_range hi, List.getElem?_eq_getElem hi]
    show some (ys.getD i Str.empty) = _
    rw [List.getD_eq_getElem?_getD, List.getElem?_eq_getElem hi]; rfl
  · rw [List.getElem?_eq_none (by rw [List.length_range]; omega), List.getElem?_eq_none (by omega)]; rfl
theorem cat_ints (a b : List Int) : a.map V.int ++ b.map V.int = (a ++ b).map V.int := (List.map_append ..).symm
theorem sum_bounds : ∀ {l : List Int}, (∀ x ∈ l, 1 ≤ x ∧ x ≤ 1000) → (l.length : Int) ≤ l.sum ∧ l.sum ≤ 1000 * (l.length : Int)
  | [], _ => by simp
  | x :: r, h => by
    have h1 := h x (List.mem_cons_self ..)
    have h2 := sum_bounds (l := r) fun y hy => h y (List.mem_cons_of_mem _ hy)
    rw [List.sum_cons, List.length_cons]
    omega
theorem cut_8_68 (ns : List Int) : ∃ cs : List Int, cutV (ns.map V.int) (some 8) (some 68) = cs.map V.int ∧ cs.length ≤ ns.length - 8 := by
  unfold cutV
  rw [← List.map_drop, ← List.map_take]
  refine ⟨_, rfl, ?_⟩
  rw [List.length_take, List.length_drop, List.length_map]
  have e : HT.sIx ns.length 0 (some 8) = min 8 ns.length := HT.sIx_nat _ _ 8
  rw [e]
  omega
noncomputable def pick1 (ts : List Th) (c : Int) : Str := (ts.getD (c % (ts.length : Int)).toNat th0).1
noncomputable def pickV (ts : List Th) : V → V
  | .int c => .str (pick1 ts c)
  | _ => .non
theorem pickV_list {ts : List Th} {cs : List Int} : (cs.map V.int).map (pickV ts) = (cs.map (pick1 ts)).map V.str := by
  rw [List.map_map, List.map_map]; rfl
theorem zz_slice {k : Nat} (h : k < 78) : Txt.slice (Str.ofString "zz") none (some ((k : Int) / 26)) = tx (List.replicate (k / 26) 122) := by
  have e : Str.ofString "zz" = tx [122, 122] := by decide +kernel
  rw [e, slice_to (by omega) (by simp only [List.length_cons, List.length_nil]; omega), show ((k : Int) / 26).toNat = k / 26 by omega]
  have hq : k / 26 = 0 ∨ k / 26 = 1 ∨ k / 26 = 2 := by omega
  rcases hq with e | e | e <;> rw [e] <;> rfl
theorem int_at {xs : List Int} {i : Nat} (h : i < xs.length) : xs[i]? = some (xs.getD i 0) := by
  rw [List.getD_eq_getElem?_getD, List.getElem?_eq_getElem h]; rfl
end N20

set_option Elab.async false
set_option linter.all false
set_option maxRecDepth 100000
set_option maxHeartbeats 1000000
namespace N71
open PySem PySem.Spec PyProof.Rows L2 N1 N5 N4 N6 N12
structure TwA where
  st : Addr
  si : Addr
  ro : Addr
  he : Addr
  la : Addr
  so : Addr
  en : Addr
  fi : Addr
structure Tfs (x : TwA) (pd : Int) (fs : List (Str × V)) : Prop where
  st : fs.lookup (Str.ofString "stock") = some (.ref x.st)
  si : fs.lookup (Str.ofString "sizes") = some (.ref x.si)
  ro : fs.lookup (Str.ofString "row") = some (.ref x.ro)
  he : fs.lookup (Str.ofString "held") = some (.ref x.he)
  la : fs.lookup (Str.ofString "late") = some (.ref x.la)
  so : fs.lookup (Str.ofString "store") = some (.ref x.so)
  en : fs.lookup (Str.ofString "entries") = some (.ref x.en)
  fi : fs.lookup (Str.ofString "finds") = some (.ref x.fi)
  pd : fs.lookup (Str.ofString "paid") = some (.int pd)
  n : fs.length < 500
  m : ∀ m ∈ [Str.ofString "levels", Str.ofString "stored", Str.ofString "shelf_of", Str.ofString "fetch", Str.ofString "come", Str.ofString "fall_off", Str.ofString "write", Str.ofString "settle", Str.ofString "read", Str.ofString "keep", Str.ofString "rest", Str.ofString "ahead", Str.ofString "diary", Str.ofString "found", Str.ofString "spent"], fs.lookup m = none
structure TwS where
  zs : List Int
  R : List Str
  kh : List (Key × V)
  kl : List (Key × V)
  ks : List (Key × V)
  es : List V
  ff : List Int
  pd : Int
structure TwAt (C : Addr) (H : Hp) (t : Addr) (x : TwA) (s : TwS) : Prop where
  o : ∃ dx fs, H t = some (.ins C dx fs) ∧ Tfs x s.pd fs
  si : H x.si = some (.lst (s.zs.map V.int))
  ro : H x.ro = some (.lst (s.R.map V.str))
  he : H x.he = some (.dK s.kh)
  la : H x.la = some (.dK s.kl)
  so : H x.so = some (.dK s.ks)
  en : H x.en = some (.lst s.es)
  fi : H x.fi = some (.lst (s.ff.map V.int))
  d1 : x.he ≠ x.la
  d2 : x.he ≠ x.so
  d3 : x.la ≠ x.so
  l1 : x.ro ≠ x.si
  l2 : x.ro ≠ x.en
  l3 : x.ro ≠ x.fi
  l4 : x.si ≠ x.en
  l5 : x.si ≠ x.fi
  l6 : x.en ≠ x.fi
noncomputable def own (t : Addr) (x : TwA) : List Addr := [t, x.ro, x.he, x.la, x.so, x.en, x.fi]
section
variable {C : Addr} {H : Hp} {t : Addr} {x : TwA} {s : TwS}
end
structure StockT (K : PySem.W.Frag) (S : Addr) (H : Hp) (p : Addr) (ts : List Th) (L : List Addr) : Prop where
  ex : ∃ (dx d : Addr) (kvs : List (Key × V)), H p = some (.ins S dx (flds d)) ∧ H d = some (.dK kvs) ∧ p ∉ L ∧ d ∉ L ∧ kvs.map (·.1) = ts.map (fun t => Sum.inr t.1) ∧
    ∀ (i : Nat) (t : Th), ts[i]? = some t → ∃ a, kvs[i]? = some (Sum.inr t.1, .ref a) ∧ ((Rd H a (.tup [.int i, .int t.2.1, .int t.2.2]) ∧ a ∉ L) ∨ ∀ H', SqT K H' a [.int i, .int t.2.1, .int t.2.2])
structure TwL (s : TwS) (B : Nat) (hd : Str → Prop) : Prop where
  h : ∀ y, hd y → ∃ i : Int, valV s.kh (Sum.inr y) = some (.int i)
  l : ∀ y, (valV s.kl (Sum.inr y)).isSome = true → hd y
  st : ∀ y v, valV s.ks (Sum.inr y) = some v → ∃ i : Int, v = .int i
  n1 : s.kh.length ≤ B
  n2 : s.kl.length ≤ B
  n3 : s.ks.length ≤ B
  n4 : s.es.length ≤ B
  b : B ≤ 100000
noncomputable def pre (zs : List Int) (i : Nat) : Int := (zs.take i).sum
structure Tow (K : PySem.W.Frag) (C S : Addr) (H : Hp) (t : Addr) (x : TwA) (s : TwS) (ts : List Th) (B : Nat) : Prop where
  tw : TwAt C H t x s
  sk : StockT K S H x.st ts (own t x)
  l : TwL s B (fun y => y ∈ s.R)
  nd : s.R.Nodup
  rs : (s.R.length : Int) ≤ s.zs.sum
  z1 : 1 ≤ s.zs.length
  zl : s.zs.length ≤ 6
  zz : ∀ z ∈ s.zs, 1 ≤ z ∧ z ≤ 1000000
  rn : ∀ y ∈ s.R, y ∈ ts.map (·.1)
  tn : (ts.map (·.1)).Nodup
  tl : ts.length ≤ 59
  ff : s.ff.length = s.zs.length + 1
noncomputable def f1 (x : TwA) : List (Str × V) := putF (Str.ofString "sizes") (.ref x.si) (putF (Str.ofString "stock") (.ref x.st) [])
noncomputable def f3 (x : TwA) : List (Str × V) := putF (Str.ofString "late") (.ref x.la) (putF (Str.ofString "held") (.ref x.he) (putF (Str.ofString "row") (.ref x.ro) (f1 x)))
noncomputable def f6 (x : TwA) : List (Str × V) := putF (Str.ofString "paid") (.int 0) (putF (Str.ofString "finds") (.ref x.fi) (putF (Str.ofString "entries") (.ref x.en) (putF (Str.ofString "store") (.ref x.so) (f3 x))))
end N71
namespace L2
open PySem PySem.Spec PyProof.Rows
end L2
namespace L2
open PySem PySem.Spec PyProof.Rows
section
variable {K : PySem.W.Frag} {σ : St} {H : Hp} {D : Ends} {Q : VK}
theorem rd_fldaug {ta tv : TE} {rd : V → V → Hp → VK → Prop} {f : Str} : sFldAug K ta tv rd f D σ H = ta σ H fun x H1 => ∃ a C dx fs v, x = .ref a ∧ H1 a = some (.ins C dx fs) ∧ Cls K C ∧ NoAttr K C f ∧ fs.lookup f = some v ∧
  tv σ H1 fun y H2 => rd v y H2 fun z H3 => ∃ dx' fs', H3 a = some (.ins C dx' fs') ∧ fs'.length < 1000 ∧ D.nx σ (upd H3 a (.ins C dx' (putF f z fs'))) := rfl
end
end L2
namespace L2
open PySem PySem.Spec PyProof.Rows N1 N5
section
variable {X : Cx}
end
end L2
namespace N71
open PySem PySem.Spec PyProof.Rows L2 N1 N5 N4 N6 N12
end N71

set_option Elab.async false
set_option linter.all false
set_option maxRecDepth 100000
set_option maxHeartbeats 1000000
namespace L2
open PySem PySem.Spec PyProof.Rows
section
variable {X : Cx}
end
end L2
namespace N53
open PySem PySem.Spec PyProof.Rows L2 N1 N5
noncomputable def lst1 (m : Int) (y : Str) (s : Nat × List Str) : Nat × List Str :=
  let t := if s.1 = 0 ∨ (y ∉ s.2 ∧ (s.2.length : Int) = m) then (s.1 + 1, []) else s
  (t.1, if y ∈ t.2 then t.2 else t.2 ++ [y])
noncomputable def lst (m : Int) (ys : List Str) : Nat → Nat × List Str
  | 0 => (0, [])
  | i + 1 => lst1 m (ys.getD i Str.empty) (lst m ys i)
end N53
namespace N53
open PySem PySem.Spec PyProof.Rows L2 N1 N5
theorem put_both {kvs : List (Key × V)} {ks : List Str} {z : Str} {v : V} (h : kvs.map (·.1) = ks.map Sum.inr) : (putK kvs (Sum.inr z) v).map (·.1) = (if z ∈ ks then ks else ks ++ [z]).map Sum.inr := by
  have hm := key_mem (z := z) h
  by_cases hz : z ∈ ks
  · rw [if_pos hz, ← h]
    unfold putK
    rw [valV_any, hm, decide_eq_true hz, if_pos rfl, List.map_map]
    refine List.map_congr_left fun e _ => ?_
    show (if e.1 = Sum.inr z then (e.1, v) else e).1 = e.1
    split <;> rfl
  · rw [if_neg hz, putK_new v (by rw [decide_eq_false hz] at hm; simpa using hm), List.map_append, List.map_append, h]
    rfl
end N53

set_option linter.all false
set_option maxRecDepth 100000
set_option maxHeartbeats 1000000
namespace L2
open PySem PySem.Spec PyProof.Rows PySem.W
section
variable {prog : Program} {w : World} {A : Around} {E : Value → Shared → Prop} {s : Shared}
end
section
variable {X : Cx}
end
end L2

set_option Elab.async false
set_option linter.all false
set_option maxRecDepth 100000
set_option maxHeartbeats 1000000
namespace L2
open PySem PySem.Spec PyProof.Rows
section
variable {K : PySem.W.Frag} {D : Ends} {σ : St} {H : Hp}
end
end L2
namespace N18
open PySem PySem.Spec PyProof.Rows L2 N1 N5 N4 N6 N12 N32 N14
noncomputable abbrev Row := N14.Row
noncomputable def UpTo (R : Str → Int) (n : Int) (ys : List Str) (rs : List Row) (i : Nat) : Prop := ∀ (j : Nat) (z : Str) (r : Row), j < i → ys[j]? = some z → rs[j]? = some r → okRow R n (stL R ys rs j) z r
structure Fault (R : Str → Int) (n : Int) (ys : List Str) (rs : List Row) (i : Nat) : Prop where
  u : UpTo R n ys rs i
  l : i ≤ ys.length
  m : i ≤ rs.length
  b : (∃ z r, ys[i]? = some z ∧ rs[i]? = some r ∧ ¬ okRow R n (stL R ys rs i) z r) ∨ ((ys.length ≤ i ∨ rs.length ≤ i) ∧ ys.length ≠ rs.length)
structure Bk (H : Hp) (b : Addr) (as gs : List Addr) (rs : List Row) : Prop where
  L : H b = some (.lst (as.map V.ref))
  n : as.length = rs.length
  m : gs.length = rs.length
  t : ∀ (i : Nat) (a g : Addr) (r : Row), as[i]? = some a → gs[i]? = some g → rs[i]? = some r → g ≠ b ∧ H a = some (.tup [.str r.1, .bl r.2.1, .ref g]) ∧ H g = some (.lst (r.2.2.map V.str))
end N18
namespace N18
open PySem PySem.Spec PyProof.Rows L2 N1 N5 N4 N6 N12 N32 N14
structure RunB (M : List Addr) (H : Hp) (as gs : List Addr) (rs : List Row) : Prop where
  n : as.length = rs.length
  m : gs.length = rs.length
  t : ∀ (i : Nat) (a g : Addr) (r : Row), as[i]? = some a → gs[i]? = some g → rs[i]? = some r → a ∉ M ∧ g ∉ M ∧ H a = some (.tup [.str r.1, .bl r.2.1, .ref g]) ∧ H g = some (.lst (r.2.2.map V.str))
end N18

set_option Elab.async false
set_option linter.all false
set_option maxRecDepth 100000
set_option maxHeartbeats 1000000
namespace N25
open PySem PySem.Spec PyProof.Rows L2 N1 N5 N4 N6 N12 N32 N14 N20
noncomputable def hgo (R : Str → Int) (n need : Int) : Nat → List Str → List Str → List Str → List Str × List Str × List Str
  | 0, L, D, w => (L, D, w)
  | _ + 1, [], D, w => ([], D, w)
  | k + 1, f :: r, D, w => if need ≤ n - N41.sm R (f :: r) then (f :: r, D, w) else if f ∈ D then hgo R n need k (r ++ [f]) (D.erase f) w else hgo R n need k r D (w ++ [f])
noncomputable def hfin (R : Str → Int) (n need : Int) (L D w : List Str) : List Str × List Str × List Str := hgo R n need (L.length + D.length) L D w
section
variable {R : Str → Int} {n need : Int} {L D w r : List Str} {f : Str}
end
noncomputable def mkD (D : List Str) (z : Str) : List Str := if z ∈ D then D else D ++ [z]
structure HI (ns L D : List Str) : Prop where
  ln : L.Nodup
  dn : D.Nodup
  s : ∀ z ∈ D, z ∈ L
  i : ∀ z ∈ L, z ∈ ns
noncomputable def hask (R : Str → Int) (n : Int) (s : List Str × List Str) (z : Str) : (List Str × List Str) × N14.Row :=
  if z ∈ s.1 then ((s.1, mkD s.2 z), (z, true, [])) else (((hfin R n (R z) s.1 s.2 []).1 ++ [z], mkD (hfin R n (R z) s.1 s.2 []).2.1 z), (z, false, (hfin R n (R z) s.1 s.2 []).2.2))
noncomputable def hst (R : Str → Int) (n : Int) (ys : List Str) (i : Nat) : List Str × List Str := (ys.take i).foldl (fun s z => (hask R n s z).1) ([], [])
noncomputable def hrow (R : Str → Int) (n : Int) (ys : List Str) (i : Nat) : N14.Row := (hask R n (hst R n ys i) (ys.getD i Str.empty)).2
noncomputable def hfl (p od md : Addr) (n : Int) : List (Str × V) := putF "marked" (.ref md) (putF "order" (.ref od) (putF "places" (.int n) (putF "stock" (.ref p) [])))
noncomputable def MkAt (kvs : List (Key × V)) (D : List Str) : Prop := ∀ z : Str, (valV kvs (Sum.inr z)).isSome = decide (z ∈ D)
theorem inr_ne' {y z : Str} (h : y ≠ z) : (Sum.inr y : Key) ≠ Sum.inr z := fun e => h (by injection e)
structure HandAt (C : Addr) (H : Hp) (q p od md : Addr) (n : Int) (L D : List Str) (B : Nat) : Prop where
  o : ∃ dx, H q = some (.ins C dx (hfl p od md n))
  l : H od = some (.lst (L.map V.str))
  m : ∃ kvs, H md = some (.dK kvs) ∧ MkAt kvs D ∧ kvs.length ≤ B
section
variable {C : Addr} {H H' : Hp} {q p od md : Addr} {n : Int} {L D : List Str} {B : Nat}
end
structure RunS (K : PySem.W.Frag) (C S G : Addr) (H : Hp) (q p od md sh d : Addr) (n : Int) (ts : List Th) (ls : Ly) (L D : List Str) (B : Nat) : Prop where
  h : HandAt G H q p od md n L D B
  s : ShelfAt S H sh p d n ls
  x : StockX K C H p ts d
  y : StockX K C H p ts md
  ne : d ≠ md
  pm : (lyN ls).Perm L
  ok : OkL (rm ts) (ts.map (·.1)) ls
section
variable {K : PySem.W.Frag} {C S G : Addr} {H H' : Hp} {q p od md sh d : Addr} {n : Int} {ts : List Th} {ls : Ly} {L D : List Str} {B : Nat}
end
end N25
namespace N25
open PySem PySem.Spec PyProof.Rows L2 N1 N5 N4 N6 N12 N32 N14 N20
section
variable {K : PySem.W.Frag} {C S G : Addr} {H H' H1 H2 : Hp} {q p od md sh d w : Addr} {n : Int} {ts : List Th} {ls : Ly} {L D : List Str} {B : Nat}
end
end N25
namespace N25
open PySem PySem.Spec PyProof.Rows L2 N1 N5 N4 N6 N12 N32 N14 N20
theorem nd_len {L M : List Str} (h : L.Nodup) (hs : ∀ z ∈ L, z ∈ M) : L.length ≤ M.length := by
  induction L generalizing M with
  | nil => exact Nat.zero_le _
  | cons x r ih =>
    obtain ⟨hx, hr⟩ := List.nodup_cons.mp h
    have hm := hs x (List.mem_cons_self ..)
    have := ih (M := M.erase x) hr fun z hz => (List.mem_erase_of_ne (fun e => hx (by rw [← e]; exact hz))).mpr (hs z (List.mem_cons_of_mem _ hz))
    rw [List.length_erase_of_mem hm] at this
    have hp : 0 < M.length := List.length_pos_of_mem hm
    rw [List.length_cons]
    omega
end N25
namespace N25
open PySem PySem.Spec PyProof.Rows L2 N1 N5 N4 N6 N12 N32 N14 N20
theorem rmK_val {ts : List Th} {z : Str} (nd : (ts.map (·.1)).Nodup) (h : z ∈ ts.map (·.1)) : valV (N20.rmK ts) (Sum.inr z) = some (.int (rm ts z)) := by
  have e := rm_some h
  obtain ⟨i, t, ht, rfl⟩ := mem_nth h
  unfold N20.rmK
  rw [e, rmOf_is nd (List.mem_of_getElem? ht), rm_at nd ht]
structure MkL (kvs : List (Key × V)) (L D : List Str) (B : Nat) : Prop where
  v : ∀ z ∈ L, valV kvs (Sum.inr z) = some (.bl (decide (z ∈ D)))
  k : ∃ ks : List Str, kvs.map (·.1) = ks.map Sum.inr ∧ ks.length ≤ B
end N25
namespace N25
open PySem PySem.Spec PyProof.Rows L2 N1 N5 N4 N6 N12 N32 N14 N20 N18
end N25
namespace N25
open PySem PySem.Spec PyProof.Rows L2
end N25

set_option Elab.async false
set_option linter.all false
set_option maxRecDepth 100000
set_option maxHeartbeats 1000000
namespace NR
open PySem PySem.Spec PyProof.Rows L2 N1 N5 N4 N6 N12 N32 N14 N20 N18 N25
structure RuleT where
  C : Addr
  St : Type
  At : Hp → List Addr → Addr → Addr → Int → St → Prop
  asked : Int → St → Str → St
  pick : Int → St → List Str → St × Str
  gone : Int → St → Str → St
  came : Int → St → Str → St
  inv : List Str → Int → St → List Str → Prop
  mid : List Str → Int → Str → St → List Str → Prop
  dep : ∀ {H H' : Hp} {M : List Addr} {q p : Addr} {n : Int} {s : St}, (∀ m ∈ M, ∀ o, H m = some o → H' m = some o) → At H M q p n s → At H' M q p n s
  live : ∀ {H : Hp} {M : List Addr} {q p : Addr} {n : Int} {s : St}, At H M q p n s → ∀ m ∈ M, H m ≠ none
  obj : ∀ {H : Hp} {M : List Addr} {q p : Addr} {n : Int} {s : St}, At H M q p n s → ∃ dx fs, H q = some (.ins C dx fs) ∧ fs.lookup ("stock" : Str) = some (.ref p) ∧ fs.lookup ("places" : Str) = some (.int n) ∧ fs.lookup ("asked" : Str) = none ∧ fs.lookup ("choice" : Str) = none ∧ fs.lookup ("gone" : Str) = none ∧ fs.lookup ("came" : Str) = none ∧ fs.lookup ("nests" : Str) = none
  i_hit : ∀ {ns : List Str} {n : Int} {s : St} {l : List Str} {z : Str}, inv ns n s l → z ∈ ns → z ∈ l → inv ns n (asked n s z) l
  i_mid : ∀ {ns : List Str} {n : Int} {s : St} {l : List Str} {z : Str}, inv ns n s l → z ∈ ns → z ∉ l → mid ns n z (asked n s z) l
  i_pick : ∀ {ns : List Str} {n : Int} {s : St} {l : List Str} {z : Str}, mid ns n z s l → l ≠ [] → (pick n s l).2 ∈ l ∧ mid ns n z (gone n (pick n s l).1 (pick n s l).2) (l.erase (pick n s l).2)
  i_came : ∀ {ns : List Str} {n : Int} {s : St} {l : List Str} {z : Str}, mid ns n z s l → z ∈ ns → z ∉ l → inv ns n (came n s z) (l ++ [z])
  cnt : St → Nat := fun _ => 0
  c_ask : ∀ n s z, cnt (asked n s z) ≤ cnt s + 1 := by exact fun _ _ _ => Nat.zero_le _
  c_pick : ∀ n s l, cnt (pick n s l).1 ≤ cnt s := by exact fun _ _ _ => Nat.zero_le _
  c_gone : ∀ n s z, cnt (gone n s z) ≤ cnt s := by exact fun _ _ _ => Nat.zero_le _
  c_came : ∀ n s z, cnt (came n s z) ≤ cnt s := by exact fun _ _ _ => Nat.zero_le _
noncomputable def gfin (T : RuleT) (R : Str → Int) (n need : Int) : Nat → T.St → List Str → List Str → T.St × List Str × List Str
  | 0, s, l, w => (s, l, w)
  | k + 1, s, l, w => if need ≤ n - N41.sm R l then (s, l, w) else gfin T R n need k (T.gone n (T.pick n s l).1 (T.pick n s l).2) (l.erase (T.pick n s l).2) (w ++ [(T.pick n s l).2])
noncomputable def gf (T : RuleT) (R : Str → Int) (n need : Int) (s : T.St) (l w : List Str) : T.St × List Str × List Str := gfin T R n need l.length s l w
section
variable {T : RuleT} {R : Str → Int} {n need : Int} {s : T.St} {l w ns : List Str} {z : Str}
end
noncomputable def gask (T : RuleT) (R : Str → Int) (n : Int) (s : T.St × List Str) (z : Str) : (T.St × List Str) × N14.Row :=
  if z ∈ s.2 then ((T.asked n s.1 z, s.2), (z, true, []))
  else ((T.came n (gf T R n (R z) (T.asked n s.1 z) s.2 []).1 z, (gf T R n (R z) (T.asked n s.1 z) s.2 []).2.1 ++ [z]), (z, false, (gf T R n (R z) (T.asked n s.1 z) s.2 []).2.2))
noncomputable def gst (T : RuleT) (R : Str → Int) (n : Int) (s0 : T.St) (ys : List Str) (i : Nat) : T.St × List Str := (ys.take i).foldl (fun s z => (gask T R n s z).1) (s0, [])
noncomputable def grow (T : RuleT) (R : Str → Int) (n : Int) (s0 : T.St) (ys : List Str) (i : Nat) : N14.Row := (gask T R n (gst T R n s0 ys i) (ys.getD i Str.empty)).2
noncomputable def grows (T : RuleT) (R : Str → Int) (n : Int) (s0 : T.St) (ys : List Str) (i : Nat) : List N14.Row := (List.range i).map (grow T R n s0 ys)
section
variable {T : RuleT} {R : Str → Int} {n : Int} {s0 : T.St} {ys ns : List Str} {i : Nat} {z : Str}
theorem mem_eq {u v : Str} {l : List Str} (e : u = v) (h : u ∈ l) : v ∈ l := e ▸ h
structure GI (T : RuleT) (ns : List Str) (n : Int) (s : T.St × List Str) : Prop where
  i : T.inv ns n s.1 s.2
  nd : s.2.Nodup
  s : ∀ u ∈ s.2, u ∈ ns
end
structure RunG (T : RuleT) (K : PySem.W.Frag) (C S : Addr) (H0 H : Hp) (q p sh d : Addr) (M : List Addr) (n : Int) (ts : List Th) (ls : Ly) (s : T.St) : Prop where
  h : T.At H M q p n s
  shf : ShelfAt S H sh p d n ls
  st : StockAt K C H0 p ts
  sm : Same H0 H
  n0 : ∀ m ∈ M, H0 m = none
  nd : H0 d = none
  nsh : sh ∉ M
  ndm : d ∉ M
  ok : OkL (rm ts) (ts.map (·.1)) ls
section
variable {T : RuleT} {K : PySem.W.Frag} {C S : Addr} {H0 H H' H1 H2 : Hp} {q p sh d w : Addr} {M : List Addr} {n : Int} {ts : List Th} {ls : Ly} {s s' : T.St}
theorem at_same (e : Same H H') (h : T.At H M q p n s) : T.At H' M q p n s := T.dep (fun m _ o => e m o) h
theorem at_but (e : SameBut d H H') (hd : d ∉ M) (h : T.At H M q p n s) : T.At H' M q p n s := T.dep (fun m hm o e1 => e m o e1 (fun e2 => hd (e2 ▸ hm))) h
end
noncomputable def spR_nests (T : RuleT) (b : Bool) : Sp := fun vs H Q _ => ∃ (q : Addr), vs = [.ref q] ∧ Q (.bl b) H
noncomputable def spR_asked (T : RuleT) : Sp := fun vs H Q _ => ∃ (q p : Addr) (n : Int) (M : List Addr) (s : T.St) (l ns : List Str) (z : Str), vs = [.ref q, .str z] ∧ T.At H M q p n s ∧ T.inv ns n s l ∧ z ∈ ns ∧ ns.length ≤ 60 ∧ ∀ H', Kp M H H' → T.At H' M q p n (T.asked n s z) → Q .non H'
noncomputable def spR_choice (T : RuleT) (K : PySem.W.Frag) : Sp := fun vs H Q _ => ∃ (q p a : Addr) (n : Int) (M : List Addr) (s : T.St) (l ns : List Str) (z : Str), vs = [.ref q, .ref a] ∧ T.At H M q p n s ∧ T.mid ns n z s l ∧ l ≠ [] ∧ H a = some (.lst (l.map V.str)) ∧ a ∉ M ∧ ns.length ≤ 60 ∧ l.length ≤ 60 ∧ T.cnt s ≤ 300 ∧ ∀ H', Kp M H H' → T.At H' M q p n (T.pick n s l).1 → Q (.str (T.pick n s l).2) H'
noncomputable def spR_gone (T : RuleT) : Sp := fun vs H Q _ => ∃ (q p : Addr) (n : Int) (M : List Addr) (s : T.St) (l ns : List Str) (z : Str), vs = [.ref q, .str (T.pick n s l).2] ∧ T.At H M q p n (T.pick n s l).1 ∧ T.mid ns n z s l ∧ l ≠ [] ∧ ns.length ≤ 60 ∧ ∀ H', Kp M H H' → T.At H' M q p n (T.gone n (T.pick n s l).1 (T.pick n s l).2) → Q .non H'
noncomputable def spR_came (T : RuleT) : Sp := fun vs H Q _ => ∃ (q p : Addr) (n : Int) (M : List Addr) (s : T.St) (l ns : List Str) (z : Str), vs = [.ref q, .str z] ∧ T.At H M q p n s ∧ T.mid ns n z s l ∧ z ∈ ns ∧ z ∉ l ∧ ns.length ≤ 60 ∧ ∀ H', Kp M H H' → T.At H' M q p n (T.came n s z) → Q .non H'
noncomputable def spR_room (T : RuleT) (K : PySem.W.Frag) (C S : Addr) : Sp := fun vs H Q _ => ∃ (H0 : Hp) (q p sh d : Addr) (M : List Addr) (n need : Int) (ts : List Th) (ls : Ly) (s : T.St) (z : Str), vs = [.ref q, .ref sh, .int need] ∧ RunG T K C S H0 H q p sh d M n ts ls s ∧ T.mid (ts.map (·.1)) n z s (lyN ls) ∧ need ≤ n ∧ ls.length ≤ 60 ∧ ts.length ≤ 60 ∧ T.cnt s ≤ 300 ∧
  ∀ (w : Addr) (ls' : Ly) (H' : Hp), Kp (d :: M) H H' → H w = none → H' w = some (.lst ((gf T (rm ts) n need s (lyN ls) []).2.2.map V.str)) → lyN ls' = (gf T (rm ts) n need s (lyN ls) []).2.1 → RunG T K C S H0 H' q p sh d M n ts ls' (gf T (rm ts) n need s (lyN ls) []).1 → Q (.ref w) H'
noncomputable def spR_row (T : RuleT) (K : PySem.W.Frag) (C S : Addr) : Sp := fun vs H Q _ => ∃ (H0 : Hp) (q p sh d : Addr) (M : List Addr) (n : Int) (ts : List Th) (ls : Ly) (s : T.St) (z : Str), vs = [.ref q, .ref sh, .str z] ∧ RunG T K C S H0 H q p sh d M n ts ls s ∧ T.inv (ts.map (·.1)) n s (lyN ls) ∧ (ts.map (·.1)).Nodup ∧ ts.length ≤ 60 ∧ z ∈ ts.map (·.1) ∧ rm ts z ≤ n ∧ T.cnt s ≤ 299 ∧
  ∀ (t g : Addr) (ls' : Ly) (H' : Hp), Kp (d :: M) H H' → H t = none → H g = none → H' t = some (.tup [.str (gask T (rm ts) n (s, lyN ls) z).2.1, .bl (gask T (rm ts) n (s, lyN ls) z).2.2.1, .ref g]) → H' g = some (.lst ((gask T (rm ts) n (s, lyN ls) z).2.2.2.map V.str)) → lyN ls' = (gask T (rm ts) n (s, lyN ls) z).1.2 → RunG T K C S H0 H' q p sh d M n ts ls' (gask T (rm ts) n (s, lyN ls) z).1.1 → Q (.ref t) H'
noncomputable def spR_book (T : RuleT) (K : PySem.W.Frag) (C S : Addr) : Sp := fun vs H Q _ => ∃ (H0 : Hp) (q p a : Addr) (M : List Addr) (n : Int) (ts : List Th) (ys : List Str) (s0 : T.St), vs = [.ref q, .ref a] ∧ T.At H M q p n s0 ∧ T.inv (ts.map (·.1)) n s0 [] ∧ StockAt K C H0 p ts ∧ Same H0 H ∧ (∀ m ∈ M, H0 m = none) ∧ (ts.map (·.1)).Nodup ∧ ts.length ≤ 60 ∧ SqL K H a (ys.map V.str) ∧ a ∉ M ∧ ys.length ≤ 200 ∧ (∀ y ∈ ys, y ∈ ts.map (·.1)) ∧ (∀ y ∈ ys, rm ts y ≤ n) ∧ 1 ≤ n ∧ n ≤ 1000000 ∧ T.cnt s0 ≤ 50 ∧
  ∀ (b : Addr) (as gs : List Addr) (H' : Hp), Kp M H H' → H' b = some (.lst (as.map V.ref)) → (∀ (i : Nat) a, as[i]? = some a → ∃ xs, H' a = some (.tup xs)) → BookAt K H' b as gs (grows T (rm ts) n s0 ys ys.length) → T.At H' M q p n (gst T (rm ts) n s0 ys ys.length).1 → Q (.ref b) H'
end NR

set_option Elab.async false
set_option linter.all false
set_option maxRecDepth 100000
set_option maxHeartbeats 1000000
namespace L2
open PySem PySem.Spec PyProof.Rows
section
variable {X : Cx} {CX : CXT} {k j : Nat} {C : Bool → Addr} {ps : List Str} {sp : Bool → Sp} {EE : St → XK} {m : Str} {pos apos : Pos} {e o : Expr} {es : List Expr} {ta : TE} {t : TA}
end
end L2
namespace N22
open PySem PySem.Spec PyProof.Rows L2 N1 N5 N4 N6 N12 N32 N14 N20 N18 N25 NR
noncomputable def rf0 (p : Addr) (n : Int) : List (Str × V) := putF "places" (.int n) (putF "stock" (.ref p) [])
noncomputable def rf1 (p : Addr) (n k : Int) (la pa : Addr) : List (Str × V) := putF "put_at" (.ref pa) (putF "last" (.ref la) (putF "present" (.int k) (rf0 p n)))
theorem headD_mem {l : List Str} (h : l ≠ []) : l.headD Str.empty ∈ l := by
  cases l with
  | nil => exact absurd rfl h
  | cons x r => exact List.mem_cons_self ..
structure S1 where
  k : Int
  la : List (Key × V)
  pu : List (Key × V)
noncomputable def pv (s : S1) (z : Str) : Int := match valV s.pu (Sum.inr z) with
  | some (.int i) => i
  | _ => 0
noncomputable def KeysIn (kvs : List (Key × V)) (ns : List Str) : Prop := ∃ ks : List Str, kvs.map (·.1) = ks.map Sum.inr ∧ ks.Nodup ∧ ∀ z ∈ ks, z ∈ ns
theorem KeysIn.nil {ns : List Str} : KeysIn [] ns := ⟨[], rfl, List.nodup_nil, by simp⟩
theorem KeysIn.len {kvs : List (Key × V)} {ns : List Str} (h : KeysIn kvs ns) : kvs.length ≤ ns.length := by
  obtain ⟨ks, e, nd, s⟩ := h
  have := congrArg List.length e
  rw [List.length_map, List.length_map] at this
  have := nd_len nd s
  omega
theorem KeysIn.put {kvs : List (Key × V)} {ns : List Str} {z : Str} {v : V} (h : KeysIn kvs ns) (hz : z ∈ ns) : KeysIn (putK kvs (Sum.inr z) v) ns := by
  obtain ⟨ks, e, nd, s⟩ := h
  refine ⟨if z ∈ ks then ks else ks ++ [z], N53.put_both e, ?_, ?_⟩
  · split
    · exact nd
    · rename_i hn
      rw [List.nodup_append]
      exact ⟨nd, by simp, fun a ha b hb e2 => hn (mem_eq (e2.trans (List.mem_singleton.mp hb)) ha)⟩
  · intro u hu
    split at hu
    · exact s u hu
    · rcases List.mem_append.mp hu with hu | hu
      · exact s u hu
      · rw [List.mem_singleton.mp hu]; exact hz
structure FI (ns : List Str) (s : S1) (l : List Str) (B : Int) : Prop where
  a : KeysIn s.la ns
  b : KeysIn s.pu ns
  v : ∀ z ∈ l, ∃ i, valV s.pu (Sum.inr z) = some (.int i) ∧ i ≤ B
  o : l.Pairwise fun x y => pv s x < pv s y
theorem pv_at {s : S1} {z : Str} {i : Int} (h : valV s.pu (Sum.inr z) = some (.int i)) : pv s z = i := by unfold pv; rw [h]
noncomputable def f1ask (s : S1) (z : Str) : S1 := ⟨s.k + 1, putK s.la (Sum.inr z) (.int (s.k + 1)), s.pu⟩
noncomputable def f1came (s : S1) (z : Str) : S1 := ⟨s.k, s.la, putK s.pu (Sum.inr z) (.int s.k)⟩
theorem FI.ask {ns : List Str} {s : S1} {l : List Str} {z : Str} {B : Int} (h : FI ns s l B) (hz : z ∈ ns) : FI ns (f1ask s z) l B := ⟨h.a.put hz, h.b, h.v, h.o⟩
theorem FI.mono {ns : List Str} {s : S1} {l : List Str} {B B' : Int} (h : FI ns s l B) (hb : B ≤ B') : FI ns s l B' := ⟨h.a, h.b, fun z hz => (h.v z hz).imp fun _ e => ⟨e.1, Int.le_trans e.2 hb⟩, h.o⟩
theorem FI.drop {ns : List Str} {s : S1} {l : List Str} {z : Str} {B : Int} (h : FI ns s l B) : FI ns s (l.erase z) B :=
  ⟨h.a, h.b, fun u hu => h.v u (List.mem_of_mem_erase hu), h.o.sublist List.erase_sublist⟩
theorem FI.came {ns : List Str} {s : S1} {l : List Str} {z : Str} (h : FI ns s l (s.k - 1)) (hz : z ∈ ns) (hn : z ∉ l) : FI ns (f1came s z) (l ++ [z]) s.k := by
  have hne : ∀ u ∈ l, (Sum.inr u : Key) ≠ Sum.inr z := fun u hu e => hn (by injection e with e; rw [← e]; exact hu)
  have hold : ∀ u ∈ l, valV (putK s.pu (Sum.inr z) (.int s.k)) (Sum.inr u) = valV s.pu (Sum.inr u) := fun u hu => by rw [valV_put, if_neg (hne u hu)]
  have hnew : valV (putK s.pu (Sum.inr z) (.int s.k)) (Sum.inr z) = some (.int s.k) := by rw [valV_put, if_pos rfl]
  have pold : ∀ u ∈ l, pv (f1came s z) u = pv s u := fun u hu => by
    unfold pv f1came
    simp only
    rw [hold u hu]
  refine ⟨h.a, h.b.put hz, fun u hu => ?_, ?_⟩
  · rcases List.mem_append.mp hu with hu | hu
    · obtain ⟨i, e, hi⟩ := h.v u hu
      exact ⟨i, (hold u hu).trans e, by omega⟩
    · rw [List.mem_singleton.mp hu]
      exact ⟨s.k, hnew, Int.le_refl _⟩
  · rw [List.pairwise_append]
    refine ⟨?_, List.pairwise_singleton .., fun u hu y hy => ?_⟩
    · exact h.o.imp_of_mem fun hx hy hxy => by rw [pold _ hx, pold _ hy]; exact hxy
    · rw [List.mem_singleton] at hy
      rw [hy, pold u hu]
      obtain ⟨i, e, hi⟩ := h.v u hu
      rw [pv_at e, pv_at (s := f1came s z) hnew]
      omega
noncomputable def FAt (C : Addr) (H : Hp) (M : List Addr) (q p : Addr) (n : Int) (s : S1) : Prop := ∃ la pa, M = [q, la, pa] ∧ la ≠ pa ∧ (∃ dx, H q = some (.ins C dx (rf1 p n s.k la pa))) ∧ H la = some (.dK s.la) ∧ H pa = some (.dK s.pu)
noncomputable def T1 (C : Addr) : RuleT where
  C := C
  St := S1
  At := FAt C
  asked := fun _ s z => f1ask s z
  pick := fun _ s l => (s, l.headD Str.empty)
  gone := fun _ s _ => s
  came := fun _ s z => f1came s z
  inv := fun ns _ s l => FI ns s l s.k
  mid := fun ns _ _ s l => FI ns s l (s.k - 1)
  dep := fun e ⟨la, pa, hM, d, ⟨dx, ho⟩, h1, h2⟩ => by
    rw [hM] at e
    exact ⟨la, pa, hM, d, ⟨dx, e _ (by simp) _ ho⟩, e _ (by simp) _ h1, e _ (by simp) _ h2⟩
  live := fun ⟨la, pa, hM, d, ⟨dx, ho⟩, h1, h2⟩ m hm e => by
    rw [hM] at hm
    simp only [List.mem_cons, List.not_mem_nil, or_false] at hm
    rcases hm with e1 | e1 | e1
    · rw [e1, ho] at e; cases e
    · rw [e1, h1] at e; cases e
    · rw [e1, h2] at e; cases e
  obj := fun ⟨la, pa, hM, d, ⟨dx, ho⟩, h1, h2⟩ => ⟨dx, _, ho, by rfl, by rfl, by rfl, by rfl, by rfl, by rfl, by rfl⟩
  i_hit := fun {ns n s l z} h hz _ => (FI.ask h hz).mono (show s.k ≤ s.k + 1 by omega)
  i_mid := fun {ns n s l z} h hz _ => (FI.ask h hz).mono (show s.k ≤ s.k + 1 - 1 by omega)
  i_pick := fun h hl => ⟨headD_mem hl, FI.drop h⟩
  i_came := fun h hz hn => FI.came h hz hn
theorem best_head {kf : Nat → List Int} {v : Nat → Int} {m : Nat} (hk : ∀ i, i ≤ m → kf i = [v i]) (ho : ∀ i, i ≤ m → v 0 ≤ v i) : argBest (btK kf) m = 0 := by
  have : ∀ j, j ≤ m → argBest (btK kf) j = 0 := by
    intro j
    induction j with
    | zero => intro _; rfl
    | succ j ih =>
      intro hj
      show (if btK kf (j + 1) (argBest (btK kf) j) = true then j + 1 else argBest (btK kf) j) = 0
      rw [ih (by omega)]
      have : btK kf (j + 1) 0 = false := by
        unfold btK
        rw [hk _ hj, hk 0 (by omega)]
        show (if v (j + 1) = v 0 then false else decide (v (j + 1) < v 0)) = false
        have := ho (j + 1) hj
        split
        · rfl
        · exact decide_eq_false (by omega)
      rw [this]; rfl
  exact this m (Nat.le_refl _)
noncomputable def sp22_init (C : Addr) : Sp := fun vs H Q _ => ∃ (q dx p : Addr) (n : Int), vs = [.ref q, .ref p, .int n] ∧ H q = some (.ins C dx []) ∧ 1 ≤ n ∧ n ≤ 1000000 ∧ ∀ H' la pa, SameBut q H H' → H la = none → H pa = none → FAt C H' [q, la, pa] q p n ⟨0, [], []⟩ → Q .non H'
noncomputable def sp22_number (C : Addr) : Sp := fun vs H Q _ => ∃ (q p : Addr) (n : Int) (M : List Addr) (s : S1) (z : Str), vs = [.ref q, .str z] ∧ FAt C H M q p n s ∧ s.la.length ≤ 1000 ∧ ∀ H', Kp M H H' → FAt C H' M q p n (f1ask s z) → Q .non H'
noncomputable def spR2_room (T : Bool → RuleT) (K : PySem.W.Frag) (C S : Addr) : Sp := fun vs H Q E => ∃ b, spR_room (T b) K C S vs H Q E
noncomputable def spR2_row (T : Bool → RuleT) (K : PySem.W.Frag) (C S : Addr) : Sp := fun vs H Q E => ∃ b, spR_row (T b) K C S vs H Q E
noncomputable def spR2_book (T : Bool → RuleT) (K : PySem.W.Frag) (C S : Addr) : Sp := fun vs H Q E => ∃ b, spR_book (T b) K C S vs H Q E
section
variable {p la pa : Addr} {n k k' : Int}
theorem rf1_len : (rf1 p n k la pa).length = 5 := by rfl
theorem rf1_present : (rf1 p n k la pa).lookup ("present" : Str) = some (V.int k) := by rfl
theorem rf1_last : (rf1 p n k la pa).lookup ("last" : Str) = some (V.ref la) := by rfl
theorem rf1_put : (rf1 p n k la pa).lookup ("put_at" : Str) = some (V.ref pa) := by rfl
end
end N22

set_option Elab.async false
set_option linter.all false
set_option maxRecDepth 100000
set_option maxHeartbeats 1000000
namespace N21
open PySem PySem.Spec PyProof.Rows L2 N1 N5 N4 N6 N12 N32 N14 N20 N18 N25 NR N22
structure S2 where
  k : Int
  la : List (Key × V)
noncomputable def lv (s : S2) (z : Str) : Int := match valV s.la (Sum.inr z) with
  | some (.int i) => i
  | _ => 0
theorem lv_at {s : S2} {z : Str} {i : Int} (h : valV s.la (Sum.inr z) = some (.int i)) : lv s z = i := by unfold lv; rw [h]
noncomputable def lmin (v : Str → Int) (l : List Str) : Str := l.getD (argBest (fun i j => decide (v (l.getD i Str.empty) < v (l.getD j Str.empty))) (l.length - 1)) Str.empty
theorem lmin_ok {v : Str → Int} {l : List Str} (h : l ≠ []) : lmin v l ∈ l ∧ ∀ u ∈ l, v (lmin v l) ≤ v u := by
  have hl0 : 0 < l.length := List.length_pos_iff.mpr h
  have hb := best_lt (fun i => v (l.getD i Str.empty)) (l.length - 1)
  unfold lmin
  generalize argBest (fun i j => decide (v (l.getD i Str.empty) < v (l.getD j Str.empty))) (l.length - 1) = m at hb
  have hm : m < l.length := by omega
  refine ⟨?_, fun u hu => ?_⟩
  · rw [List.getD_eq_getElem?_getD, List.getElem?_eq_getElem hm]; exact List.getElem_mem hm
  · obtain ⟨j, hj⟩ := List.mem_iff_getElem?.mp hu
    have hjl := (List.getElem?_eq_some_iff.mp hj).1
    have := hb.2 j (by omega)
    rw [show l.getD j Str.empty = u by rw [List.getD_eq_getElem?_getD, hj]; rfl] at this
    exact this
structure LI (ns : List Str) (s : S2) (l : List Str) : Prop where
  a : KeysIn s.la ns
  v : ∀ z ∈ l, ∃ i, valV s.la (Sum.inr z) = some (.int i) ∧ i ≤ s.k
  o : l.Pairwise fun x y => lv s x ≠ lv s y
noncomputable def ask2 (s : S2) (z : Str) : S2 := ⟨s.k + 1, putK s.la (Sum.inr z) (.int (s.k + 1))⟩
theorem ask_old {s : S2} {z u : Str} (h : u ≠ z) : valV (ask2 s z).la (Sum.inr u) = valV s.la (Sum.inr u) := by
  unfold ask2; simp only; rw [valV_put, if_neg (inr_ne' h)]
theorem ask_new {s : S2} {z : Str} : valV (ask2 s z).la (Sum.inr z) = some (.int (s.k + 1)) := by
  unfold ask2; simp only; rw [valV_put, if_pos rfl]
theorem lv_old {s : S2} {z u : Str} (h : u ≠ z) : lv (ask2 s z) u = lv s u := by unfold lv; rw [ask_old h]
theorem lv_new {s : S2} {z : Str} : lv (ask2 s z) z = s.k + 1 := lv_at ask_new
theorem LI.le {ns : List Str} {s : S2} {l : List Str} (h : LI ns s l) : ∀ z ∈ l, lv s z ≤ s.k := fun z hz => by
  obtain ⟨i, e, hi⟩ := h.v z hz
  rw [lv_at e]; exact hi
theorem LI.ask {ns : List Str} {s : S2} {l : List Str} {z : Str} (h : LI ns s l) (hz : z ∈ ns) : LI ns (ask2 s z) l := by
  refine ⟨h.a.put hz, fun u hu => ?_, h.o.imp_of_mem fun {x y} hx hy hxy => ?_⟩
  · by_cases e : u = z
    · rw [e]; exact ⟨_, ask_new, Int.le_refl _⟩
    · obtain ⟨i, e1, e2⟩ := h.v u hu
      exact ⟨i, (ask_old e).trans e1, by show i ≤ s.k + 1; omega⟩
  · have lx := h.le x hx
    have ly := h.le y hy
    by_cases ex : x = z
    · by_cases ey : y = z
      · exact absurd (by rw [ex, ey]) hxy
      · rw [ex, lv_new, lv_old ey]; omega
    · by_cases ey : y = z
      · rw [ey, lv_new, lv_old ex]; omega
      · rw [lv_old ex, lv_old ey]; exact hxy
theorem LI.drop {ns : List Str} {s : S2} {l : List Str} {z : Str} (h : LI ns s l) : LI ns s (l.erase z) :=
  ⟨h.a, fun u hu => h.v u (List.mem_of_mem_erase hu), h.o.sublist List.erase_sublist⟩
structure LM (ns : List Str) (z : Str) (s : S2) (l : List Str) : Prop where
  i : LI ns s l
  z : valV s.la (Sum.inr z) = some (.int s.k)
  b : ∀ u ∈ l, lv s u < s.k
theorem LI.mid {ns : List Str} {s : S2} {l : List Str} {z : Str} (h : LI ns s l) (hz : z ∈ ns) (hn : z ∉ l) : LM ns z (ask2 s z) l :=
  ⟨h.ask hz, ask_new, fun u hu => by
    have := h.le u hu
    have e : lv (ask2 s z) u = lv s u := lv_old (fun e => hn (by rw [← e]; exact hu))
    show lv (ask2 s z) u < s.k + 1
    omega⟩
theorem LM.came {ns : List Str} {s : S2} {l : List Str} {z : Str} (h : LM ns z s l) : LI ns s (l ++ [z]) := by
  refine ⟨h.i.a, fun u hu => ?_, ?_⟩
  · rcases List.mem_append.mp hu with hu | hu
    · exact h.i.v u hu
    · rw [List.mem_singleton.mp hu]; exact ⟨_, h.z, Int.le_refl _⟩
  · rw [List.pairwise_append]
    refine ⟨h.i.o, List.pairwise_singleton .., fun u hu y hy => ?_⟩
    rw [List.mem_singleton.mp hy, lv_at h.z]
    have := h.b u hu
    omega
noncomputable def rf2 (p : Addr) (n k : Int) (la : Addr) : List (Str × V) := putF "last" (.ref la) (putF "present" (.int k) (rf0 p n))
noncomputable def OAt (C : Addr) (H : Hp) (M : List Addr) (q p : Addr) (n : Int) (s : S2) : Prop := ∃ la, M = [q, la] ∧ (∃ dx, H q = some (.ins C dx (rf2 p n s.k la))) ∧ H la = some (.dK s.la)
noncomputable def T2 (C : Addr) : RuleT where
  C := C
  St := S2
  At := OAt C
  asked := fun _ s z => ask2 s z
  pick := fun _ s l => (s, lmin (lv s) l)
  gone := fun _ s _ => s
  came := fun _ s _ => s
  inv := fun ns _ s l => LI ns s l
  mid := fun ns _ z s l => LM ns z s l
  dep := fun e ⟨la, hM, ⟨dx, ho⟩, h1⟩ => by
    rw [hM] at e
    exact ⟨la, hM, ⟨dx, e _ (by simp) _ ho⟩, e _ (by simp) _ h1⟩
  live := fun ⟨la, hM, ⟨dx, ho⟩, h1⟩ m hm e => by
    rw [hM] at hm
    simp only [List.mem_cons, List.not_mem_nil, or_false] at hm
    rcases hm with e1 | e1
    · rw [e1, ho] at e; cases e
    · rw [e1, h1] at e; cases e
  obj := fun ⟨la, hM, ⟨dx, ho⟩, h1⟩ => ⟨dx, _, ho, by rfl, by rfl, by rfl, by rfl, by rfl, by rfl, by rfl⟩
  i_hit := fun h hz _ => LI.ask h hz
  i_mid := fun h hz hn => LI.mid h hz hn
  i_pick := fun h hl => ⟨(lmin_ok hl).1, LI.drop h.i, h.z, fun u hu => h.b u (List.mem_of_mem_erase hu)⟩
  i_came := fun h _ _ => LM.came h
noncomputable def RT2 (c1 c2 : Addr) (b : Bool) : RuleT := bif b then T2 c1 else T2 c2
structure Sim (T T' : RuleT) (f : T.St → T'.St) : Prop where
  a : ∀ n s z, T'.asked n (f s) z = f (T.asked n s z)
  p1 : ∀ n s l, (T'.pick n (f s) l).1 = f (T.pick n s l).1
  p2 : ∀ n s l, (T'.pick n (f s) l).2 = (T.pick n s l).2
  g : ∀ n s z, T'.gone n (f s) z = f (T.gone n s z)
  c : ∀ n s z, T'.came n (f s) z = f (T.came n s z)
section
variable {T T' : RuleT} {f : T.St → T'.St} {R : Str → Int} {n : Int}
end
noncomputable def s20 : S2 := ⟨0, []⟩
noncomputable def st2 (c1 c2 : Addr) : (b : Bool) → (T2 c1).St → (RT2 c1 c2 b).St
  | true, s => s
  | false, s => s
section
variable {p la : Addr} {n k k' : Int}
theorem rf2_len : (rf2 p n k la).length = 4 := by rfl
theorem rf2_present : (rf2 p n k la).lookup ("present" : Str) = some (V.int k) := by rfl
theorem rf2_last : (rf2 p n k la).lookup ("last" : Str) = some (V.ref la) := by rfl
end
noncomputable def sp21_number (C : Addr) : Sp := fun vs H Q _ => ∃ (q p : Addr) (n : Int) (M : List Addr) (s : S2) (z : Str), vs = [.ref q, .str z] ∧ OAt C H M q p n s ∧ s.la.length ≤ 1000 ∧ ∀ H', Kp M H H' → OAt C H' M q p n (ask2 s z) → Q .non H'
theorem bt_one {v : Nat → Int} : btK (fun i => [v i]) = fun i j => decide (v i < v j) := by
  funext i j
  show (if v i = v j then false else decide (v i < v j)) = decide (v i < v j)
  split
  · rename_i e; rw [e]; exact (decide_eq_false (Int.lt_irrefl _)).symm
  · rfl
structure LineI (s : S2) (l line : List Str) : Prop where
  p : line.Perm l
  o : line.Pairwise fun x y => lv s x < lv s y
end N21

set_option Elab.async false
set_option linter.all false
set_option maxRecDepth 100000
set_option maxHeartbeats 1000000
namespace N24
open PySem PySem.Spec PyProof.Rows L2 N1 N5 N4 N6 N12 N32 N14 N20 N18 N25 NR N22 N21
noncomputable def nx (ys : List Str) (j : Nat) (z : Str) : Nat := min (j + (ys.drop j).findIdx fun y => decide (y = z)) ys.length
theorem nx_at {ys : List Str} {j t : Nat} {z : Str} (h : ys[j + t]? = some z) (hno : ∀ u, u < t → ys[j + u]? ≠ some z) : nx ys j z = j + t := by
  unfold nx
  have hl := (List.getElem?_eq_some_iff.mp h).1
  have hd : t < (ys.drop j).length := by rw [List.length_drop]; omega
  have e : (ys.drop j).findIdx (fun y => decide (y = z)) = t := by
    rw [List.findIdx_eq hd]
    refine ⟨?_, fun u hu => ?_⟩
    · have := (List.getElem?_eq_some_iff.mp h).2
      rw [List.getElem_drop]; exact decide_eq_true this
    · have := hno u hu
      rw [List.getElem?_eq_getElem (show j + u < ys.length by omega)] at this
      rw [List.getElem_drop]; exact decide_eq_false (fun e => this (by rw [e]))
  rw [e]; omega
theorem nx_end {ys : List Str} {j : Nat} {z : Str} (hno : ∀ u, j + u < ys.length → ys[j + u]? ≠ some z) : nx ys j z = ys.length := by
  unfold nx
  have e : (ys.drop j).findIdx (fun y => decide (y = z)) = (ys.drop j).length := by
    rw [List.findIdx_eq_length]
    intro y hy
    obtain ⟨u, hu⟩ := List.mem_iff_getElem?.mp hy
    rw [List.getElem?_drop] at hu
    have hl := (List.getElem?_eq_some_iff.mp hu).1
    exact decide_eq_false (fun e => hno u hl (by rw [hu, e]))
  rw [e, List.length_drop]; omega
noncomputable def rkF (ys : List Str) (s : S2) (z : Str) : List Int := [0 - ((nx ys s.k.toNat z : Int) + 1), lv s z]
noncomputable def fmin (ys : List Str) (s : S2) (l : List Str) : Str := l.getD (argBest (btK fun i => rkF ys s (l.getD i Str.empty)) (l.length - 1)) Str.empty
theorem lex2 {a b c d : Int} : HT.lexLt [a, b] [c, d] = decide (a < c ∨ (a = c ∧ b < d)) := by
  show (if a = c then (if b = d then false else decide (b < d)) else decide (a < c)) = _
  by_cases h : a = c
  · rw [if_pos h]
    by_cases h2 : b = d
    · rw [if_pos h2]; symm; exact decide_eq_false (by omega)
    · rw [if_neg h2]
      by_cases h3 : b < d
      · rw [decide_eq_true h3]; symm; exact decide_eq_true (by omega)
      · rw [decide_eq_false h3]; symm; exact decide_eq_false (by omega)
  · rw [if_neg h]
    by_cases h3 : a < c
    · rw [decide_eq_true h3]; symm; exact decide_eq_true (by omega)
    · rw [decide_eq_false h3]; symm; exact decide_eq_false (by omega)
theorem best2 (a b : Nat → Int) : ∀ k, argBest (btK fun i => [a i, b i]) k ≤ k ∧ ∀ j, j ≤ k → ¬ (a j < a (argBest (btK fun i => [a i, b i]) k) ∨ (a j = a (argBest (btK fun i => [a i, b i]) k) ∧ b j < b (argBest (btK fun i => [a i, b i]) k))) := by
  intro k
  induction k with
  | zero => exact ⟨Nat.le_refl _, fun j hj => by rw [Nat.le_zero.mp hj]; show ¬ (a 0 < a 0 ∨ (a 0 = a 0 ∧ b 0 < b 0)); omega⟩
  | succ k ih =>
    have e : argBest (btK fun i => [a i, b i]) (k + 1) = if HT.lexLt [a (k + 1), b (k + 1)] [a (argBest (btK fun i => [a i, b i]) k), b (argBest (btK fun i => [a i, b i]) k)] = true then k + 1 else argBest (btK fun i => [a i, b i]) k := rfl
    rw [e, lex2]
    generalize argBest (btK fun i => [a i, b i]) k = m at ih
    split
    · rename_i h
      have h := of_decide_eq_true h
      refine ⟨Nat.le_refl _, fun j hj => ?_⟩
      by_cases e : j = k + 1
      · rw [e]; omega
      · have := ih.2 j (by omega); omega
    · rename_i h
      have h : ¬ (a (k + 1) < a m ∨ (a (k + 1) = a m ∧ b (k + 1) < b m)) := fun z => h (decide_eq_true z)
      refine ⟨Nat.le_succ_of_le ih.1, fun j hj => ?_⟩
      by_cases e : j = k + 1
      · rw [e]; exact h
      · exact ih.2 j (by omega)
theorem fmin_ok {ys : List Str} {s : S2} {l : List Str} (h : l ≠ []) : fmin ys s l ∈ l ∧ ∀ u ∈ l, nx ys s.k.toNat u < nx ys s.k.toNat (fmin ys s l) ∨ (nx ys s.k.toNat u = nx ys s.k.toNat (fmin ys s l) ∧ lv s (fmin ys s l) ≤ lv s u) := by
  have hl0 : 0 < l.length := List.length_pos_iff.mpr h
  have hb := best2 (fun i => 0 - ((nx ys s.k.toNat (l.getD i Str.empty) : Int) + 1)) (fun i => lv s (l.getD i Str.empty)) (l.length - 1)
  unfold fmin
  have e : (fun i => rkF ys s (l.getD i Str.empty)) = fun i => [0 - ((nx ys s.k.toNat (l.getD i Str.empty) : Int) + 1), lv s (l.getD i Str.empty)] := rfl
  rw [e]
  generalize argBest (btK fun i => [0 - ((nx ys s.k.toNat (l.getD i Str.empty) : Int) + 1), lv s (l.getD i Str.empty)]) (l.length - 1) = m at hb
  have hm : m < l.length := by omega
  refine ⟨?_, fun u hu => ?_⟩
  · rw [List.getD_eq_getElem?_getD, List.getElem?_eq_getElem hm]; exact List.getElem_mem hm
  · obtain ⟨j, hj⟩ := List.mem_iff_getElem?.mp hu
    have hjl := (List.getElem?_eq_some_iff.mp hj).1
    have := hb.2 j (by omega)
    rw [show l.getD j Str.empty = u by rw [List.getD_eq_getElem?_getD, hj]; rfl] at this
    omega
noncomputable def rf3 (p : Addr) (n k : Int) (la ak : Addr) : List (Str × V) := putF "asks" (.ref ak) (rf2 p n k la)
noncomputable def QAt (C : Addr) (ys : List Str) (H : Hp) (M : List Addr) (q p : Addr) (n : Int) (s : S2) : Prop := ∃ la ak, M = [q, la, ak] ∧ (∃ dx, H q = some (.ins C dx (rf3 p n s.k la ak))) ∧ H la = some (.dK s.la) ∧ H ak = some (.lst (ys.map V.str))
noncomputable def T3 (C : Addr) (ys : List Str) : RuleT where
  C := C
  St := S2
  At := QAt C ys
  asked := fun _ s z => ask2 s z
  pick := fun _ s l => (s, fmin ys s l)
  gone := fun _ s _ => s
  came := fun _ s _ => s
  inv := fun ns _ s l => LI ns s l ∧ 0 ≤ s.k
  mid := fun ns _ z s l => LM ns z s l ∧ 0 ≤ s.k
  dep := fun e ⟨la, ak, hM, ⟨dx, ho⟩, h1, h2⟩ => by
    rw [hM] at e
    exact ⟨la, ak, hM, ⟨dx, e _ (by simp) _ ho⟩, e _ (by simp) _ h1, e _ (by simp) _ h2⟩
  live := fun ⟨la, ak, hM, ⟨dx, ho⟩, h1, h2⟩ m hm e => by
    rw [hM] at hm
    simp only [List.mem_cons, List.not_mem_nil, or_false] at hm
    rcases hm with e1 | e1 | e1
    · rw [e1, ho] at e; cases e
    · rw [e1, h1] at e; cases e
    · rw [e1, h2] at e; cases e
  obj := fun ⟨la, ak, hM, ⟨dx, ho⟩, h1, h2⟩ => ⟨dx, _, ho, by rfl, by rfl, by rfl, by rfl, by rfl, by rfl, by rfl⟩
  i_hit := fun {ns n s l z} h hz _ => ⟨LI.ask h.1 hz, by show 0 ≤ s.k + 1; have := h.2; omega⟩
  i_mid := fun {ns n s l z} h hz hn => ⟨LI.mid h.1 hz hn, by show 0 ≤ s.k + 1; have := h.2; omega⟩
  i_pick := fun h hl => ⟨(fmin_ok hl).1, ⟨LI.drop h.1.i, h.1.z, fun u hu => h.1.b u (List.mem_of_mem_erase hu)⟩, h.2⟩
  i_came := fun h _ _ => ⟨LM.came h.1, h.2⟩
  cnt := fun s => s.k.toNat
  c_ask := fun n s z => by show (s.k + 1).toNat ≤ s.k.toNat + 1; omega
  c_pick := fun n s l => Nat.le_refl _
  c_gone := fun n s z => Nat.le_refl _
  c_came := fun n s z => Nat.le_refl _
section
variable {p la ak : Addr} {n k k' : Int}
theorem rf3_len : (rf3 p n k la ak).length = 5 := by rfl
theorem rf3_present : (rf3 p n k la ak).lookup ("present" : Str) = some (V.int k) := by rfl
theorem rf3_last : (rf3 p n k la ak).lookup ("last" : Str) = some (V.ref la) := by rfl
theorem rf3_asks : (rf3 p n k la ak).lookup ("asks" : Str) = some (V.ref ak) := by rfl
end
noncomputable def sp24_init (K : PySem.W.Frag) (S C : Addr) : Sp := fun vs H Q _ => ∃ (q dx p a : Addr) (n : Int) (ts : List Th) (ys : List Str), vs = [.ref q, .ref p, .int n, .ref a] ∧ H q = some (.ins C dx []) ∧ StockAt K S H p ts ∧ (ts.map (·.1)).Nodup ∧ SqL K H a (ys.map V.str) ∧ ys.length ≤ 200 ∧ (∀ y ∈ ys, y ∈ ts.map (·.1)) ∧ (∀ y ∈ ys, rm ts y ≤ n) ∧ 1 ≤ n ∧ n ≤ 1000000 ∧ a ≠ q ∧ ∀ H' la ak, SameBut q H H' → H la = none → H ak = none → QAt C ys H' [q, la, ak] q p n s20 → Q .non H'
noncomputable def sp24_number (C : Addr) : Sp := fun vs H Q _ => ∃ (q p : Addr) (n : Int) (M : List Addr) (s : S2) (z : Str) (ys : List Str), vs = [.ref q, .str z] ∧ QAt C ys H M q p n s ∧ s.la.length ≤ 1000 ∧ ∀ H', Kp M H H' → QAt C ys H' M q p n (ask2 s z) → Q .non H'
noncomputable def sp24_coming (C : Addr) : Sp := fun vs H Q _ => ∃ (q p : Addr) (n : Int) (M : List Addr) (s : S2) (z : Str) (ys : List Str), vs = [.ref q, .str z] ∧ QAt C ys H M q p n s ∧ 0 ≤ s.k ∧ s.k ≤ 1000000 ∧ ys.length ≤ 1000 ∧ Q (.int ((nx ys s.k.toNat z : Int) + 1)) H
structure LawD (ys : List Str) (i : Nat) (s : S2) (l : List Str) (kc kl : List (Key × V)) : Prop where
  k : s.k = (i : Int)
  c : ∀ z ∈ l, valV kc (Sum.inr z) = some (.int (nx ys i z : Int))
  m : ∀ z ∈ l, valV kl (Sum.inr z) = some (.int (lv s z - 1))
end N24

set_option Elab.async false
set_option linter.all false
set_option maxRecDepth 100000
set_option maxHeartbeats 4000000
namespace L2
open PySem PySem.Spec PyProof.Rows
noncomputable def rDictOf : List V → Hp → VK → Prop := fun xs H Q => ∃ a kvs, xs = [.ref a] ∧ H a = some (.dK kvs) ∧ ∀ l, H l = none → Q (.ref l) (upd H l (.dK kvs))
section
variable {X : Cx}
theorem call_dictOf : CallR X (.type "dict") rDictOf := by
  intro pins s σ H xs us Q I r h
  obtain ⟨a, kvs, rfl, ha, q⟩ := h
  obtain ⟨u, rfl, rx⟩ := vals1 r
  cases rx
  obtain ⟨z, lo, ws, rel, dd⟩ := I.hok a _ ha
  refine kt_call_dict (knd := mixKind X.prog X.w) lo dd (by rw [← rel.length]; exact z) fun h' hd hs => ?_
  have hk : ∀ b o, s.heap.get? b = some o → h'.get? b = some o := fun b o e => (hs.2 b (Nat.ne_of_lt (Heap.lt_size e))).trans (Heap.get?_push_of_some _ e)
  have nm : (s.heap.objs.size == sysModules) = false := beq_false_of_ne (Nat.ne_of_gt I.big)
  exact ⟨.ref s.heap.objs.size, _, I.laid (t' := s.toks) hk (Nat.le_refl _) (show ObjOk X.prog X.w _ h' _ (.dK kvs) from ⟨z, nm, ws, rel, hd⟩), rfl, q _ I.fresh⟩
end
section
variable {H : Hp} {Q : VK} {x : V} {xs : List V}
theorem rd_dictOf : rDictOf xs H Q = ∃ a kvs, xs = [.ref a] ∧ H a = some (.dK kvs) ∧ ∀ l, H l = none → Q (.ref l) (upd H l (.dK kvs)) := rfl
end
end L2

set_option Elab.async false
set_option linter.all false
set_option maxRecDepth 100000
set_option maxHeartbeats 4000000
namespace L2
open PySem PySem.Spec PyProof.Rows
structure FunD (K : PySem.W.Frag) (x qual : Str) (st : Stmt) (f : Addr) (fd : FuncData) (dv : List Value) : Prop where
  ex : ∃ (oc : Value) (od : Option Addr) (dT : Addr) (ob : Obj) (n : Nat) (kV doc pm : Value) (an : Option Addr) (cdv ct : Value) (osl : Array (Option Value)),
    fd = PySem.W.fnOf x qual (defArgs st) (defBody st) (defScope st) (.ref dT) kV doc pm an cdv ct ∧ K.lookup f = some ⟨oc, od, .func fd, osl⟩ ∧ PySem.W.codeIn K cdv qual = true ∧ K.lookup dT = some ob ∧ ob.data = .seq dv.toArray n
  kp : PySem.W.keepIn K (.ref f) = true
section
variable {P : Program} {w : World} {K : PySem.W.Frag} {mg : Str → Option Value} {base : Heap} {x qual : Str} {st : Stmt} {f : Addr} {fd : FuncData} {dv : List Value} {N ps : List Str} {k : Nat} {sp : Sp}
theorem FunD.ok (F : FunD K x qual st f fd dv) (S : FnScope N ps (defScope st)) (len : ∀ vs H Q E, sp vs H Q E → vs.length = ps.length)
    (hbody : ∀ (cdv : Value) (A : Around) (outer : List Env) (s : Shared) (H : Hp) (vs : List V) (Q : VK) (E : XK), Room k (A.deeper (envOfC qual (defScope st) s.heap.objs.size f cdv)) → sp vs H Q E →
      ∃ t, PSs (cxOf CX0 P w K mg base N qual (defScope st) f cdv A outer s H E).nox (defBody st) t ∧ t { nx := fun _ H' => Q .non H', rt := Q } (start N vs) H) : FnOk P w K mg base CX0 (k + 1) f fd ps sp := by
  obtain ⟨oc, od, dT, ob, n, kV, doc, pm, an, cdv, ct, osl, rfl, lk, hcd, _⟩ := F.ex
  refine fn_of lk hcd S len fun A outer s H vs Q E hr hsp => ?_
  obtain ⟨t, h, q⟩ := hbody cdv A outer s H vs Q E hr hsp
  exact ⟨t, h.nox, q⟩
theorem FunD.binds {p1 p2 p3 p4 : Str} {d : Value} (F : FunD K x qual st f fd [d])
    (h : ∀ (dT : Addr) (kV doc pm : Value) (an : Option Addr) (cdv ct a b c : Value), ∃ k, bindArgs (PySem.W.fnOf x qual (defArgs st) (defBody st) (defScope st) (.ref dT) kV doc pm an cdv ct) ⟨[a, b, c], []⟩ = seqItems? (.ref dT) >>= k ∧ k (some [d].toArray) = pure [(p1, a), (p2, b), (p3, c), (p4, d)]) : Binds K fd [p1, p2, p3, p4] [d] := by
  obtain ⟨oc, od, dT, ob, n, kV, doc, pm, an, cdv, ct, osl, rfl, lk, hcd, hT, hs⟩ := F.ex
  intro s us X hl
  have hl' : us.length = 3 := by simpa using hl
  match us, hl' with
  | [a, b, c], _ =>
    obtain ⟨k, h1, h2⟩ := h dT kV doc pm an cdv ct a b c
    exact PySem.W.binds_K X rfl hT hs h1 h2
noncomputable def g31 : List Value → List Value → List Value
  | [a, b, c], [d] => [a, b, c, d]
  | _, _ => []
noncomputable def gV31 : List V → List V → List V
  | [a, b, c], [d] => [a, b, c, d]
  | _, _ => []
theorem gV31_at {a b c d : V} : gV31 [a, b, c] [d] = [a, b, c, d] := rfl
theorem g31_rel {vs zs : List V} {us ws : List Value} (r : Vals vs us) (rz : Vals zs ws) : Vals (gV31 vs zs) (g31 us ws) := by
  cases r with
  | nil => exact .nil
  | cons r1 r => cases r with
    | nil => exact .nil
    | cons r2 r => cases r with
      | nil => exact .nil
      | cons r3 r => cases r with
        | nil => cases rz with
          | nil => exact .nil
          | cons r4 rz => cases rz with
            | nil => exact .cons r1 (.cons r2 (.cons r3 (.cons r4 .nil)))
            | cons r5 rz => exact .nil
        | cons r5 r => cases rz <;> exact .nil
theorem FunD.kbinds {p1 p2 p3 p4 : Str} {d0 : Value} (F : FunD K x qual st f fd [d0])
    (h : ∀ (dT : Addr) (kV doc pm : Value) (an : Option Addr) (cdv ct a b c d : Value), ∃ k, bindArgs (PySem.W.fnOf x qual (defArgs st) (defBody st) (defScope st) (.ref dT) kV doc pm an cdv ct) ⟨[a, b, c], [(p4, d)]⟩ = seqItems? (.ref dT) >>= k ∧ k (some [d0].toArray) = pure [(p1, a), (p2, b), (p3, c), (p4, d)]) : KBinds K fd [p1, p2, p3, p4] [p4] g31 gV31 := by
  obtain ⟨oc, od, dT, ob, n, kV, doc, pm, an, cdv, ct, osl, rfl, lk, hcd, hT, hs⟩ := F.ex
  refine ⟨fun s us ws X hl => ?_, g31_rel⟩
  match us, ws, hl with
  | [a, b, c], [d], _ =>
    obtain ⟨k, h1, h2⟩ := h dT kV doc pm an cdv ct a b c d
    exact PySem.W.binds_K X rfl hT hs h1 h2
theorem FunD.full {p1 p2 p3 p4 : Str} {d0 : Value} (F : FunD K x qual st f fd [d0])
    (h : ∀ (dT : Addr) (kV doc pm : Value) (an : Option Addr) (cdv ct a b c d : Value), ∃ k, bindArgs (PySem.W.fnOf x qual (defArgs st) (defBody st) (defScope st) (.ref dT) kV doc pm an cdv ct) ⟨[a, b, c, d], []⟩ = seqItems? (.ref dT) >>= k ∧ k (some [d0].toArray) = pure [(p1, a), (p2, b), (p3, c), (p4, d)]) : Binds K fd [p1, p2, p3, p4] [] := by
  obtain ⟨oc, od, dT, ob, n, kV, doc, pm, an, cdv, ct, osl, rfl, lk, hcd, hT, hs⟩ := F.ex
  intro s us X hl
  have hl' : us.length = 4 := by simpa using hl
  match us, hl' with
  | [a, b, c, d], _ =>
    obtain ⟨k, h1, h2⟩ := h dT kV doc pm an cdv ct a b c d
    exact PySem.W.binds_K X rfl hT hs h1 h2
theorem funD_mk {oc : Value} {od an : Option Addr} {osl : Array (Option Value)} {dT : Addr} {kV doc pm cdv ct : Value} {ob : Obj} {n : Nat} (l : K.lookup f = some ⟨oc, od, .func (PySem.W.fnOf x qual (defArgs st) (defBody st) (defScope st) (.ref dT) kV doc pm an cdv ct), osl⟩)
    (c : PySem.W.codeIn K cdv qual = true) (k : PySem.W.keepIn K (.ref f) = true) (hT : K.lookup dT = some ob) (hs : ob.data = .seq dv.toArray n) : FunD K x qual st f (PySem.W.fnOf x qual (defArgs st) (defBody st) (defScope st) (.ref dT) kV doc pm an cdv ct) dv := ⟨⟨oc, od, dT, ob, n, kV, doc, pm, an, cdv, ct, osl, rfl, l, c, hT, hs⟩, k⟩
end
structure DefIK (P : Program) (w : World) (K : PySem.W.Frag) (mg : Str → Option Value) (base : Heap) (CX : CXT) (k : Nat) (x : Str) (C : Addr) (ps : List Str) (kn : Str) (dvs : List V) (sp : Sp) : Prop where
  ex : ∃ (f : Addr) (fd : FuncData) (ds : List Value), FnOk P w K mg base CX k f fd ps sp ∧ Mk K C f ∧ mg x = some (.ref C) ∧ Vals dvs ds ∧ Binds K fd ps ds ∧ KBinds K fd ps [kn] g31 gV31 ∧ Binds K fd ps []
theorem DefIK.toI {P : Program} {w : World} {K : PySem.W.Frag} {mg : Str → Option Value} {base : Heap} {CX : CXT} {k : Nat} {x : Str} {C : Addr} {ps : List Str} {kn : Str} {dvs : List V} {sp : Sp} (D : DefIK P w K mg base CX k x C ps kn dvs sp) : DefI P w K mg base CX k x C ps sp :=
  let ⟨f, fd, _, a, b, c, _, _, _, d⟩ := D.ex; ⟨f, fd, a, b, c, d⟩
noncomputable def tMakeD (C : Addr) (sp : Sp) (dvs : List V) (EE : St → XK) (t : TA) : TE := fun σ H Q => t σ H fun vs H1 => ∀ x dx, H1 x = none → H1 dx = none → dx ≠ x → sp (.ref x :: (vs ++ dvs)) (upd (upd H1 dx (.own x)) x (.ins C dx [])) (fun v H2 => v = .non ∧ Q (.ref x) H2) (EE σ)
noncomputable def tMakeK (C : Addr) (sp : Sp) (EE : St → XK) (t tk : TA) : TE := fun σ H Q => t σ H fun vs H1 => tk σ H1 fun zs H2 => ∀ x dx, H2 x = none → H2 dx = none → dx ≠ x → sp (gV31 (.ref x :: vs) zs) (upd (upd H2 dx (.own x)) x (.ins C dx [])) (fun v H3 => v = .non ∧ Q (.ref x) H3) (EE σ)
section
variable {X : Cx} {CX : CXT} {k j : Nat} {f C : Addr} {fd : FuncData} {ps : List Str} {sp : Sp} {EE : St → XK} {x kn : Str} {p pos kpos : Pos} {e ke : Expr} {es : List Expr} {kws : List Keyword} {t tk : TA} {te : TE} {dvs : List V}
theorem rd_makeD {σ : St} {H : Hp} {Q : VK} : tMakeD C sp dvs EE t σ H Q = t σ H fun vs H1 => ∀ x dx, H1 x = none → H1 dx = none → dx ≠ x → sp (.ref x :: (vs ++ dvs)) (upd (upd H1 dx (.own x)) x (.ins C dx [])) (fun v H2 => v = .non ∧ Q (.ref x) H2) (EE σ) := rfl
theorem rd_makeK {σ : St} {H : Hp} {Q : VK} : tMakeK C sp EE t tk σ H Q = t σ H fun vs H1 => tk σ H1 fun zs H2 => ∀ x dx, H2 x = none → H2 dx = none → dx ≠ x → sp (gV31 (.ref x :: vs) zs) (upd (upd H2 dx (.own x)) x (.ins C dx [])) (fun v H3 => v = .non ∧ Q (.ref x) H3) (EE σ) := rfl
end
end L2

set_option Elab.async false
set_option linter.all false
set_option maxRecDepth 100000
set_option maxHeartbeats 1000000
namespace N23
open PySem PySem.Spec PyProof.Rows L2 N1 N5 N4 N6 N12 N32 N14 N20 N18 N25 NR N22 N21 N24
noncomputable def tvK (d : List (Key × V)) (k : Key) : Int := match valV d k with
  | some (.int i) => i
  | _ => 0
theorem tvK_at {d : List (Key × V)} {k : Key} {i : Int} (h : valV d k = some (.int i)) : tvK d k = i := by unfold tvK; rw [h]
noncomputable def stepH (d : List (Key × V)) (k : Key) : List (Key × V) := putK d k (.int (tvK d k / 2))
noncomputable def hvi (d : List (Key × V)) (i : Nat) : List (Key × V) := ((d.map (·.1)).take i).foldl stepH d
noncomputable def hvd (d : List (Key × V)) : List (Key × V) := hvi d d.length
theorem hvi_succ {d : List (Key × V)} {i : Nat} {k : Key} (h : (d.map (·.1))[i]? = some k) : hvi d (i + 1) = stepH (hvi d i) k := by
  unfold hvi
  rw [List.take_add_one, h, List.foldl_append]; rfl
structure TI (ns : List Str) (d : List (Key × V)) : Prop where
  k : KeysIn d ns
  v : ∀ k v, valV d k = some v → ∃ i : Int, v = .int i
theorem TI.nil {ns : List Str} : TI ns [] := ⟨KeysIn.nil, fun k v h => by cases h⟩
theorem TI.put {ns : List Str} {d : List (Key × V)} {z : Str} {i : Int} (h : TI ns d) (hz : z ∈ ns) : TI ns (putK d (Sum.inr z) (.int i)) :=
  ⟨h.k.put hz, fun k v e => by
    rw [valV_put] at e
    split at e
    · cases e; exact ⟨i, rfl⟩
    · exact h.v k v e⟩
theorem TI.keys {ns : List Str} {d : List (Key × V)} (h : TI ns d) : ∃ ks : List Str, d.map (·.1) = ks.map Sum.inr ∧ (∀ z ∈ ks, z ∈ ns) := let ⟨ks, a, _, b⟩ := h.k; ⟨ks, a, b⟩
theorem valV_some {d : List (Key × V)} {k : Key} (h : k ∈ d.map (·.1)) : ∃ v, valV d k = some v := by
  have : (valV d k).isSome = true := by
    rw [← valV_any]
    obtain ⟨p, hp, e⟩ := List.mem_map.mp h
    exact List.any_eq_true.mpr ⟨p, hp, decide_eq_true e⟩
  exact Option.isSome_iff_exists.mp this
theorem hvi_ok {ns : List Str} {d : List (Key × V)} (h : TI ns d) : ∀ i, TI ns (hvi d i) ∧ ∀ k, (∃ j : Int, valV d k = some (.int j)) → ∃ j : Int, valV (hvi d i) k = some (.int j) := by
  obtain ⟨ks, e, hin⟩ := h.keys
  intro i
  induction i with
  | zero => exact ⟨h, fun k hk => hk⟩
  | succ i ih =>
    cases hk : (d.map (·.1))[i]? with
    | none =>
      have : hvi d (i + 1) = hvi d i := by unfold hvi; rw [List.take_add_one, hk, Option.toList_none, List.append_nil]
      rw [this]; exact ih
    | some k =>
      rw [hvi_succ hk]
      obtain ⟨z, hz, rfl⟩ : ∃ z, z ∈ ks ∧ Sum.inr z = k := by
        have := List.mem_of_getElem? hk
        rw [e] at this
        exact List.mem_map.mp this
      refine ⟨ih.1.put (hin z hz), fun k hk' => ?_⟩
      unfold stepH
      rw [valV_put]
      split
      · exact ⟨_, rfl⟩
      · exact ih.2 k hk'
theorem TI.at_ {ns : List Str} {d : List (Key × V)} {z : Str} (h : TI ns d) (hz : Sum.inr z ∈ d.map (·.1)) (i : Nat) : valV (hvi d i) (Sum.inr z) = some (.int (tvK (hvi d i) (Sum.inr z))) := by
  obtain ⟨v, hv⟩ := valV_some hz
  obtain ⟨j, rfl⟩ := h.v _ _ hv
  obtain ⟨j2, h2⟩ := (hvi_ok h i).2 _ ⟨j, hv⟩
  rw [tvK_at h2]; exact h2
theorem TI.get {ns : List Str} {d : List (Key × V)} {k : Key} (h : TI ns d) : (valV d k).getD (V.int 0) = V.int (tvK d k) := by
  unfold tvK
  cases e : valV d k with
  | none => rfl
  | some v => obtain ⟨i, rfl⟩ := h.v _ _ e; rfl
theorem keys_str {d : List (Key × V)} {ks : List Str} (h : d.map (·.1) = ks.map Sum.inr) : d.map (fun p => kV p.1) = ks.map V.str := by
  have : d.map (fun p => kV p.1) = (d.map (·.1)).map kV := by rw [List.map_map]; rfl
  rw [this, h, List.map_map]; rfl
noncomputable def tbl (e k : Int) (d : List (Key × V)) : List (Key × V) := if k % e = 0 then hvd d else d
noncomputable def cnt4 (e k : Int) (d : List (Key × V)) (z : Str) : List (Key × V) := putK (tbl e k d) (Sum.inr z) (.int (tvK (tbl e k d) (Sum.inr z) + 1))
theorem tbl_ok {ns : List Str} {d : List (Key × V)} {e k : Int} (h : TI ns d) : TI ns (tbl e k d) ∧ ∀ q, (∃ j : Int, valV d q = some (.int j)) → ∃ j : Int, valV (tbl e k d) q = some (.int j) := by
  unfold tbl
  split
  · exact hvi_ok h _
  · exact ⟨h, fun _ x => x⟩
theorem cnt4_ok {ns : List Str} {d : List (Key × V)} {e k : Int} {z : Str} (h : TI ns d) (hz : z ∈ ns) : TI ns (cnt4 e k d z) ∧ (∀ u : Str, (∃ j : Int, valV d (Sum.inr u) = some (.int j)) → ∃ j : Int, valV (cnt4 e k d z) (Sum.inr u) = some (.int j)) ∧ ∃ j : Int, valV (cnt4 e k d z) (Sum.inr z) = some (.int j) := by
  obtain ⟨a, b⟩ := tbl_ok (e := e) (k := k) h
  refine ⟨a.put hz, fun u hu => ?_, ?_⟩
  · unfold cnt4
    rw [valV_put]
    split
    · exact ⟨_, rfl⟩
    · exact b _ hu
  · unfold cnt4
    rw [valV_put, if_pos rfl]; exact ⟨_, rfl⟩
structure S4 where
  b : S2
  ta : List (Key × V)
  e : Int
noncomputable def ask4 (s : S4) (z : Str) : S4 := ⟨ask2 s.b z, cnt4 s.e s.b.k s.ta z, s.e⟩
noncomputable def rkH (s : S4) (z : Str) : List Int := [tvK s.ta (Sum.inr z), lv s.b z]
noncomputable def hmin (s : S4) (l : List Str) : Str := l.getD (argBest (btK fun i => rkH s (l.getD i Str.empty)) (l.length - 1)) Str.empty
theorem hmin_ok {s : S4} {l : List Str} (h : l ≠ []) : hmin s l ∈ l ∧ ∀ u ∈ l, tvK s.ta (Sum.inr (hmin s l)) < tvK s.ta (Sum.inr u) ∨ (tvK s.ta (Sum.inr (hmin s l)) = tvK s.ta (Sum.inr u) ∧ lv s.b (hmin s l) ≤ lv s.b u) := by
  have hl0 : 0 < l.length := List.length_pos_iff.mpr h
  have hb := best2 (fun i => tvK s.ta (Sum.inr (l.getD i Str.empty))) (fun i => lv s.b (l.getD i Str.empty)) (l.length - 1)
  unfold hmin
  have e : (fun i => rkH s (l.getD i Str.empty)) = fun i => [tvK s.ta (Sum.inr (l.getD i Str.empty)), lv s.b (l.getD i Str.empty)] := rfl
  rw [e]
  generalize argBest (btK fun i => [tvK s.ta (Sum.inr (l.getD i Str.empty)), lv s.b (l.getD i Str.empty)]) (l.length - 1) = m at hb
  have hm : m < l.length := by omega
  refine ⟨?_, fun u hu => ?_⟩
  · rw [List.getD_eq_getElem?_getD, List.getElem?_eq_getElem hm]; exact List.getElem_mem hm
  · obtain ⟨j, hj⟩ := List.mem_iff_getElem?.mp hu
    have hjl := (List.getElem?_eq_some_iff.mp hj).1
    have := hb.2 j (by omega)
    rw [show l.getD j Str.empty = u by rw [List.getD_eq_getElem?_getD, hj]; rfl] at this
    omega
structure CI (ns : List Str) (s : S4) (l : List Str) : Prop where
  t : TI ns s.ta
  v : ∀ z ∈ l, ∃ j : Int, valV s.ta (Sum.inr z) = some (.int j)
  e1 : 1 ≤ s.e
  e2 : s.e ≤ 200
theorem CI.ask {ns : List Str} {s : S4} {l : List Str} {z : Str} (h : CI ns s l) (hz : z ∈ ns) : CI ns (ask4 s z) l :=
  let c := cnt4_ok (e := s.e) (k := s.b.k) h.t hz
  ⟨c.1, fun u hu => c.2.1 u (h.v u hu), h.e1, h.e2⟩
theorem CI.drop {ns : List Str} {s : S4} {l : List Str} {z : Str} (h : CI ns s l) : CI ns s (l.erase z) := ⟨h.t, fun u hu => h.v u (List.mem_of_mem_erase hu), h.e1, h.e2⟩
noncomputable def rf4 (p : Addr) (n k : Int) (la : Addr) (e : Int) (ta : Addr) : List (Str × V) := putF "tally" (.ref ta) (putF "turn" (.int e) (rf2 p n k la))
noncomputable def GAt (C : Addr) (H : Hp) (M : List Addr) (q p : Addr) (n : Int) (s : S4) : Prop := ∃ la ta, M = [q, la, ta] ∧ (∃ dx, H q = some (.ins C dx (rf4 p n s.b.k la s.e ta))) ∧ H la = some (.dK s.b.la) ∧ H ta = some (.dK s.ta) ∧ la ≠ ta
noncomputable def T4 (C : Addr) : RuleT where
  C := C
  St := S4
  At := GAt C
  asked := fun _ s z => ask4 s z
  pick := fun _ s l => (s, hmin s l)
  gone := fun _ s _ => s
  came := fun _ s _ => s
  inv := fun ns _ s l => LI ns s.b l ∧ CI ns s l
  mid := fun ns _ z s l => LM ns z s.b l ∧ CI ns s l ∧ ∃ j : Int, valV s.ta (Sum.inr z) = some (.int j)
  dep := fun e ⟨la, ta, hM, ⟨dx, ho⟩, h1, h2, hne⟩ => by
    rw [hM] at e
    exact ⟨la, ta, hM, ⟨dx, e _ (by simp) _ ho⟩, e _ (by simp) _ h1, e _ (by simp) _ h2, hne⟩
  live := fun ⟨la, ta, hM, ⟨dx, ho⟩, h1, h2, hne⟩ m hm e => by
    rw [hM] at hm
    simp only [List.mem_cons, List.not_mem_nil, or_false] at hm
    rcases hm with e1 | e1 | e1
    · rw [e1, ho] at e; cases e
    · rw [e1, h1] at e; cases e
    · rw [e1, h2] at e; cases e
  obj := fun ⟨la, ta, hM, ⟨dx, ho⟩, h1, h2, hne⟩ => ⟨dx, _, ho, by rfl, by rfl, by rfl, by rfl, by rfl, by rfl, by rfl⟩
  i_hit := fun {ns n s l z} h hz _ => ⟨LI.ask h.1 hz, h.2.ask hz⟩
  i_mid := fun {ns n s l z} h hz hn => ⟨LI.mid h.1 hz hn, h.2.ask hz, (cnt4_ok (e := s.e) (k := s.b.k) h.2.t hz).2.2⟩
  i_pick := fun h hl => ⟨(hmin_ok hl).1, ⟨LI.drop h.1.i, h.1.z, fun u hu => h.1.b u (List.mem_of_mem_erase hu)⟩, h.2.1.drop, h.2.2⟩
  i_came := fun {ns n s l z} h _ _ => ⟨LM.came h.1, h.2.1.t, fun u hu => (List.mem_append.mp hu).elim (h.2.1.v u) (fun e => by rw [List.mem_singleton.mp e]; exact h.2.2), h.2.1.e1, h.2.1.e2⟩
section
variable {p la ta : Addr} {n k k' e : Int}
theorem rf4_len : (rf4 p n k la e ta).length = 6 := by rfl
theorem rf4_present : (rf4 p n k la e ta).lookup ("present" : Str) = some (V.int k) := by rfl
theorem rf4_last : (rf4 p n k la e ta).lookup ("last" : Str) = some (V.ref la) := by rfl
theorem rf4_turn : (rf4 p n k la e ta).lookup ("turn" : Str) = some (V.int e) := by rfl
theorem rf4_tally : (rf4 p n k la e ta).lookup ("tally" : Str) = some (V.ref ta) := by rfl
end
noncomputable def s40 (e : Int) : S4 := ⟨s20, [], e⟩
noncomputable def sp23_init (C : Addr) : Sp := fun vs H Q _ => ∃ (q dx p : Addr) (n e : Int), vs = [.ref q, .ref p, .int n, .int e] ∧ H q = some (.ins C dx []) ∧ 1 ≤ n ∧ n ≤ 1000000 ∧ 1 ≤ e ∧ e ≤ 200 ∧ ∀ H' la ta, SameBut q H H' → H la = none → H ta = none → GAt C H' [q, la, ta] q p n (s40 e) → Q .non H'
noncomputable def sp23_halve (C : Addr) : Sp := fun vs H Q _ => ∃ (q p : Addr) (n : Int) (M : List Addr) (s : S4) (ns : List Str), vs = [.ref q] ∧ GAt C H M q p n s ∧ TI ns s.ta ∧ ns.length ≤ 1000 ∧ ∀ H', Kp M H H' → GAt C H' M q p n ⟨s.b, hvd s.ta, s.e⟩ → Q .non H'
noncomputable def sp23_number (C : Addr) : Sp := fun vs H Q _ => ∃ (q p : Addr) (n : Int) (M : List Addr) (s : S4) (z : Str), vs = [.ref q, .str z] ∧ GAt C H M q p n s ∧ s.b.la.length ≤ 1000 ∧ ∀ H', Kp M H H' → GAt C H' M q p n ⟨ask2 s.b z, s.ta, s.e⟩ → Q .non H'
noncomputable def sp23_counts (C : Addr) : Sp := fun vs H Q _ => ∃ (q p : Addr) (n : Int) (M : List Addr) (s : S4), vs = [.ref q] ∧ GAt C H M q p n s ∧ ∀ r, H r = none → Q (.ref r) (upd H r (.dK s.ta))
structure LawH (i : Nat) (s : S4) (l : List Str) (kl : List (Key × V)) : Prop where
  k : s.b.k = (i : Int)
  m : ∀ z ∈ l, valV kl (Sum.inr z) = some (.int (lv s.b z - 1))
  c : i = 0 → s.ta = []
theorem inv40 {C : Addr} {ns : List Str} {n e : Int} (h1 : 1 ≤ e) (h2 : e ≤ 200) : (T4 C).inv ns n (s40 e) [] := ⟨⟨KeysIn.nil, by simp, List.Pairwise.nil⟩, ⟨TI.nil, by simp, h1, h2⟩⟩
theorem TI.int {ns : List Str} {d : List (Key × V)} {v : V} (ht : TI ns d) (h : v ∈ d.map (·.2)) : ∃ j : Int, v = .int j := by
  obtain ⟨p, hp, rfl⟩ := List.mem_map.mp h
  obtain ⟨i, hi⟩ := List.mem_iff_getElem?.mp hp
  obtain ⟨ks', hks', nd, _⟩ := ht.k
  exact ht.v p.1 _ (N8.valV_at (by rw [hks']; exact List.Pairwise.map Sum.inr (fun a b h e => h (Sum.inr.inj e)) nd) hi)
end N23

set_option Elab.async false
set_option linter.all false
set_option maxRecDepth 100000
set_option maxHeartbeats 1000000
namespace L2
open PySem PySem.Spec PyProof.Rows
noncomputable def tMethI {ι : Type} (C : ι → Addr) (m : Str) (sp : ι → Sp) (EE : St → XK) (ta : TE) (t : TA) : TE := fun σ H Q => ta σ H fun x H1 => ∃ b a dx fs, x = .ref a ∧ H1 a = some (.ins (C b) dx fs) ∧ fs.lookup m = none ∧ t σ H1 fun vs H2 => sp b (x :: vs) H2 Q (EE σ)
section
variable {ι : Type} {X : Cx} {CX : CXT} {k j : Nat} {C : ι → Addr} {ps : List Str} {sp : ι → Sp} {EE : St → XK} {m : Str} {pos apos : Pos} {e o : Expr} {es : List Expr} {ta : TE} {t : TA}
theorem pe_methI {pl : Sem Bool} (D : ∀ b, DefM X.prog X.w X.K X.mg X.base CX j (C b) m ps (sp b)) (c : ∀ b, Cls X.K (C b)) (hr : Room k X.A) (hx : PassesS CX X EE) (he : PE X o ta) (ha : PA X (e :: es) t) (hj : j ≤ k := by decide)
    (hst : starEach (e :: es) X.env = (false, eval e X.env) :: starEach es X.env := by rfl) (hpl : (backTo pos (starEach es X.env)).any (·.1) = false := by rfl)
    (ht : eval (.Call (.Attribute o m apos) (e :: es) [] pos) X.env = (do
      let ov ← eval o X.env
      standAt apos.atName
      let (f, first) ← holding [ov] (getMethod ov m pl)
      callWith pos f first (backTo pos (starEach (e :: es) X.env)) (backToKw pos (keywordEach [] X.env))) := by rfl) :
    PE X (.Call (.Attribute o m apos) (e :: es) [] pos) (tMethI C m sp EE ta t) := by
  intro pins s σ H Q I h
  refine PySem.W.methodCall_KW (pl := pl) (thn (he pins s σ H _ I h) fun u s1 ⟨x, H1, I1, rx, b, a, dx, fs, ex, ea, l, q⟩ => ?_) ht
  obtain ⟨f, fd, F, hm, hb⟩ := (D b).ex
  subst ex
  obtain rfl : u = Value.ref a := rx
  refine getmeth_ok I1 ea (c b) hm l ?_
  refine PySem.W.callWith_K (first := [.ref a]) (h₀ := X.base) I.ok.mod.kin hm.kp (thn (ha pos pins s1 σ H1 _ I1 q) fun us s2 ⟨vs, H2, I2, r, q2⟩ => ⟨I2.kIn, ?_⟩) hst hpl
  exact run_fnS (us := .ref a :: us) (vs := .ref a :: vs) (F.mono hj) hr hb hx I2 (.cons rfl r) q2
theorem rd_methI {σ : St} {H : Hp} {Q : VK} : tMethI C m sp EE ta t σ H Q = ta σ H fun x H1 => ∃ b a dx fs, x = .ref a ∧ H1 a = some (.ins (C b) dx fs) ∧ fs.lookup m = none ∧ t σ H1 fun vs H2 => sp b (x :: vs) H2 Q (EE σ) := rfl
end
noncomputable def rNeDD : R2 := fun x y H Q => ∃ a b kvs, x = .ref a ∧ y = .ref b ∧ H a = some (.dK kvs) ∧ H b = some (.dK kvs) ∧ (∀ p ∈ kvs, flatV p.2 = true) ∧ Q (.bl false) H
section
variable {X : Cx}
theorem op_neDD {k : Nat} (hr : Room k X.A) : OpR X (compareOp .NotEq) rNeDD := by
  intro pins s σ H x y v u Q I rx ry h
  obtain ⟨a, b, kvs, rfl, rfl, h1, h2, fl, q⟩ := h
  cases rx
  cases ry
  obtain ⟨z1, l1, vs, r1, d1⟩ := I.hok a _ h1
  obtain ⟨z2, l2, ws, r2, d2⟩ := I.hok b _ h2
  have e1 := r1.length
  have e2 := r2.length
  have hu : X.A.units < cLine := Nat.lt_of_le_of_lt (by omega) hr.un
  have hn : (ws.map (·.1)).Nodup := let ⟨_, _, _, _, _, _, _, _, hn⟩ := d2; hn
  have hits : ∀ (n : Nat), n ≤ vs.length → PySem.W.KeqHits X.A.in1 s ws (vs.drop (vs.length - n)) true := by
    intro n
    induction n with
    | zero => intro _; rw [Nat.sub_zero, List.drop_length]; exact .nil
    | succ n ih =>
      intro hle
      have hi : vs.length - (n + 1) < vs.length := by omega
      rw [List.drop_eq_getElem_cons hi, show vs.length - (n + 1) + 1 = vs.length - n by omega]
      have hv := List.getElem?_eq_getElem hi
      obtain ⟨p, hp, hpk, hpv⟩ := paired_get r1 hv
      have hj : vs.length - (n + 1) < ws.length := by omega
      have hw := List.getElem?_eq_getElem hj
      obtain ⟨p2, hp2, hpk2, hpv2⟩ := paired_get r2 hw
      rw [hp] at hp2
      cases hp2
      have f := fl p (List.mem_of_getElem? hp)
      have heq := eqAt_V (A := X.A.in1) (s := s) hpv hpv2 f f
      rw [eqV_self f] at heq
      have hva : valueAt ws (vs[vs.length - (n + 1)]).1 = some (ws[vs.length - (n + 1)]).2 := by
        refine valueAt_of_get hn (i := vs.length - (n + 1)) ?_
        rw [hw, ← hpk, hpk2]
      exact PySem.W.KeqHits.hit (e := true) (b := true) hva heq (ih (by omega))
  have hh := hits vs.length (Nat.le_refl _)
  rw [Nat.sub_self, List.drop_zero] at hh
  refine PySem.W.keq_ne (r := true) l1 l2 d1 d2 hu (fun _ => hh) ?_
  refine ⟨.bl false, H, I, ?_, q⟩
  show Value.bool _ = Value.bool _
  rw [show (vs.length == ws.length) = true from beq_iff_eq.mpr (by omega)]
  rfl
theorem rd_neDD {x y : V} {H : Hp} {Q : VK} : rNeDD x y H Q = ∃ a b kvs, x = .ref a ∧ y = .ref b ∧ H a = some (.dK kvs) ∧ H b = some (.dK kvs) ∧ (∀ p ∈ kvs, flatV p.2 = true) ∧ Q (.bl false) H := rfl
theorem rd_ltT {K : PySem.W.Frag} {x y : V} {H : Hp} {Q : VK} : rLtT K x y H Q = ∃ a b ns ms, x = .ref a ∧ y = .ref b ∧ SqT K H a (ns.map V.int) ∧ SqT K H b (ms.map V.int) ∧ Q (.bl (HT.lexLt ns ms)) H := rfl
theorem op_ltTr {k : Nat} (hr : Room k X.A) : OpR X (compareOp .Lt) (rLtT X.K) := op_ltT (Nat.lt_of_le_of_lt (by omega) hr.un)
end
end L2

set_option Elab.async false
set_option linter.all false
set_option maxRecDepth 100000
set_option maxHeartbeats 1000000
namespace N29
open PySem PySem.Spec PyProof.Rows L2 N1 N5 N4 N6 N12 N32 N14 N20 N18 N25 NR N22 N21 N24 N23
inductive W5 where
  | ra | ol | fi | ha | fa
structure C5 where
  ra : Addr
  ol : Addr
  fi : Addr
  ha : Addr
  fa : Addr
noncomputable def W5.C (c : C5) : W5 → Addr
  | .ra => c.ra
  | .ol => c.ol
  | .fi => c.fi
  | .ha => c.ha
  | .fa => c.fa
noncomputable def W5.i : W5 → Int
  | .ra => 0
  | .ol => 1
  | .fi => 2
  | .ha => 3
  | .fa => 4
noncomputable def T5 (c : C5) (ys : List Str) : W5 → RuleT
  | .ra => T2 c.ra
  | .ol => T2 c.ol
  | .fi => T1 c.fi
  | .ha => T4 c.ha
  | .fa => T3 c.fa ys
noncomputable def rk5 (c : C5) (ys : List Str) : (w : W5) → (T5 c ys w).St → Str → List Int
  | .ra, (s : S2), z => [lv s z]
  | .ol, (s : S2), z => [lv s z]
  | .fi, (s : S1), z => [N22.pv s z]
  | .ha, (s : S4), z => rkH s z
  | .fa, (s : S2), z => rkF ys s z
noncomputable def TJ (c : C5) (ys ns : List Str) : (w : W5) → (T5 c ys w).St → Prop
  | .ra, (s : S2) => TI ns s.la
  | .ol, (s : S2) => TI ns s.la
  | .fi, (s : S1) => TI ns s.pu
  | .ha, (s : S4) => TI ns s.b.la ∧ TI ns s.ta
  | .fa, (s : S2) => TI ns s.la ∧ 0 ≤ s.k ∧ s.k ≤ 1000
theorem lv_get {s : S2} {ns : List Str} {z : Str} (h : TI ns s.la) : (valV s.la (Sum.inr z)).getD (V.int 0) = V.int (lv s z) := h.get
theorem pv_get {s : S1} {ns : List Str} {z : Str} (h : TI ns s.pu) : (valV s.pu (Sum.inr z)).getD (V.int 0) = V.int (N22.pv s z) := h.get
theorem min5 {c : C5} {ys ns : List Str} {w : W5} {n : Int} {z : Str} {s : (T5 c ys w).St} {l : List Str} (hm : (T5 c ys w).mid ns n z s l) (hl : l ≠ []) : ∀ u ∈ l, HT.lexLt (rk5 c ys w s u) (rk5 c ys w s ((T5 c ys w).pick n s l).2) = false := by
  have one : ∀ a b : Int, b ≤ a → HT.lexLt [a] [b] = false := fun a b h => by
    show (if a = b then false else decide (a < b)) = false
    split
    · rfl
    · exact decide_eq_false (by omega)
  cases w with
  | ra => exact fun u hu => one _ _ ((lmin_ok (v := lv s) hl).2 u hu)
  | ol => exact fun u hu => one _ _ ((lmin_ok (v := lv s) hl).2 u hu)
  | fi =>
    intro u hu
    refine one _ _ ?_
    have hm' : FI ns s l (S1.k s - 1) := hm
    show N22.pv s (l.headD Str.empty) ≤ N22.pv s u
    cases l with
    | nil => cases hu
    | cons x r =>
      rcases List.mem_cons.mp hu with e | e
      · rw [e]; exact Int.le_refl _
      · exact Int.le_of_lt ((List.pairwise_cons.mp hm'.o).1 u e)
  | ha =>
    intro u hu
    have := (hmin_ok (s := s) hl).2 u hu
    show HT.lexLt [_, _] [_, _] = false
    rw [lex2]
    exact decide_eq_false (by
      show ¬ (tvK (S4.ta s) (Sum.inr u) < tvK (S4.ta s) (Sum.inr (hmin s l)) ∨ (tvK (S4.ta s) (Sum.inr u) = tvK (S4.ta s) (Sum.inr (hmin s l)) ∧ lv (S4.b s) u < lv (S4.b s) (hmin s l)))
      omega)
  | fa =>
    intro u hu
    have := (fmin_ok (ys := ys) (s := s) hl).2 u hu
    show HT.lexLt [_, _] [_, _] = false
    rw [lex2]
    exact decide_eq_false (by
      show ¬ (0 - ((nx ys (S2.k s).toNat u : Int) + 1) < 0 - ((nx ys (S2.k s).toNat (fmin ys s l) : Int) + 1) ∨ (0 - ((nx ys (S2.k s).toNat u : Int) + 1) = 0 - ((nx ys (S2.k s).toNat (fmin ys s l) : Int) + 1) ∧ lv s u < lv s (fmin ys s l)))
      omega)
structure L5 where
  k : Int
  la : List (Key × V)
  pu : List (Key × V)
  ta : List (Key × V)
  e : Int
noncomputable def L5.ask (L : L5) (z : Str) : L5 := ⟨L.k + 1, putK L.la (Sum.inr z) (.int (L.k + 1)), L.pu, cnt4 L.e L.k L.ta z, L.e⟩
noncomputable def L5.came (L : L5) (z : Str) : L5 := { L with pu := putK L.pu (Sum.inr z) (.int L.k) }
noncomputable def proj (c : C5) (ys : List Str) : (w : W5) → L5 → (T5 c ys w).St
  | .ra, L => (⟨L.k, L.la⟩ : S2)
  | .ol, L => (⟨L.k, L.la⟩ : S2)
  | .fi, L => (⟨L.k, L.la, L.pu⟩ : S1)
  | .ha, L => (⟨⟨L.k, L.la⟩, L.ta, L.e⟩ : S4)
  | .fa, L => (⟨L.k, L.la⟩ : S2)
section
variable {c : C5} {ys ns l : List Str} {w : W5} {n : Int} {z : Str} {L : L5}
theorem p_ask : (T5 c ys w).asked n (proj c ys w L) z = proj c ys w (L.ask z) := by cases w <;> rfl
theorem p_came : (T5 c ys w).came n (proj c ys w L) z = proj c ys w (L.came z) := by cases w <;> rfl
theorem p_pick : ((T5 c ys w).pick n (proj c ys w L) l).1 = proj c ys w L := by cases w <;> rfl
theorem p_gone : (T5 c ys w).gone n (proj c ys w L) z = proj c ys w L := by cases w <;> rfl
theorem p_gone' {s : (T5 c ys w).St} (h : s = proj c ys w L) : (T5 c ys w).gone n s z = proj c ys w L := by rw [h]; exact p_gone
structure LJ (ns : List Str) (L : L5) : Prop where
  la : TI ns L.la
  pu : TI ns L.pu
  ta : TI ns L.ta
  k0 : 0 ≤ L.k
  e1 : 1 ≤ L.e
  e2 : L.e ≤ 200
theorem LJ.tj (h : LJ ns L) (hk : L.k ≤ 1000) : TJ c ys ns w (proj c ys w L) := by
  cases w with
  | ra => exact h.la
  | ol => exact h.la
  | fi => exact h.pu
  | ha => exact ⟨h.la, h.ta⟩
  | fa => exact ⟨h.la, h.k0, hk⟩
theorem LJ.ask (h : LJ ns L) (hz : z ∈ ns) : LJ ns (L.ask z) := ⟨h.la.put hz, h.pu, (cnt4_ok h.ta hz).1, by show 0 ≤ L.k + 1; have := h.k0; omega, h.e1, h.e2⟩
theorem LJ.came (h : LJ ns L) (hz : z ∈ ns) : LJ ns (L.came z) := ⟨h.la, h.pu.put hz, h.ta, h.k0, h.e1, h.e2⟩
noncomputable def l50 (e : Int) : L5 := ⟨0, [], [], [], e⟩
theorem lj0 {e : Int} (h1 : 1 ≤ e) (h2 : e ≤ 200) : LJ ns (l50 e) := ⟨TI.nil, TI.nil, TI.nil, Int.le_refl _, h1, h2⟩
theorem inv50 {e : Int} (h1 : 1 ≤ e) (h2 : e ≤ 200) : (T5 c ys w).inv ns n (proj c ys w (l50 e)) [] := by
  have li : LI ns s20 [] := ⟨KeysIn.nil, by simp, List.Pairwise.nil⟩
  cases w with
  | ra => exact li
  | ol => exact li
  | fi => exact ⟨KeysIn.nil, KeysIn.nil, by simp, List.Pairwise.nil⟩
  | ha => exact inv40 h1 h2
  | fa => exact ⟨li, Int.le_refl _⟩
noncomputable def dueR (ys : List Str) (L : L5) (z : Str) : W5 → List Int
  | .ra => [tvK L.la (Sum.inr z)]
  | .ol => [tvK L.la (Sum.inr z)]
  | .fi => [tvK L.pu (Sum.inr z)]
  | .ha => [tvK L.ta (Sum.inr z), tvK L.la (Sum.inr z)]
  | .fa => [0 - ((nx ys L.k.toNat z : Int) + 1), tvK L.la (Sum.inr z)]
theorem due_rk : dueR ys L z w = rk5 c ys w (proj c ys w L) z := by cases w <;> rfl
end
theorem obj5 {c : C5} {ys : List Str} {w : W5} {H : Hp} {M : List Addr} {q p : Addr} {n : Int} {s : (T5 c ys w).St} (h : (T5 c ys w).At H M q p n s) : ∃ dx fs, H q = some (.ins (w.C c) dx fs) ∧ ∀ m ∈ [Str.ofString "asked", Str.ofString "rank", Str.ofString "choice", Str.ofString "gone", Str.ofString "came", Str.ofString "counts"], fs.lookup m = none := by
  have nn : ∀ (fs : List (Str × V)), fs.lookup (Str.ofString "asked") = none → fs.lookup (Str.ofString "rank") = none → fs.lookup (Str.ofString "choice") = none → fs.lookup (Str.ofString "gone") = none → fs.lookup (Str.ofString "came") = none → fs.lookup (Str.ofString "counts") = none → ∀ m ∈ [Str.ofString "asked", Str.ofString "rank", Str.ofString "choice", Str.ofString "gone", Str.ofString "came", Str.ofString "counts"], fs.lookup m = none := by
    intro fs a1 a2 a3 a4 a5 a6 m hm
    simp only [List.mem_cons, List.not_mem_nil, or_false] at hm
    rcases hm with e | e | e | e | e | e <;> rw [e] <;> assumption
  cases w with
  | ra => obtain ⟨la, _, ⟨dx, ho⟩, _⟩ := (h : OAt c.ra H M q p n s); exact ⟨dx, _, ho, nn _ rfl rfl rfl rfl rfl rfl⟩
  | ol => obtain ⟨la, _, ⟨dx, ho⟩, _⟩ := (h : OAt c.ol H M q p n s); exact ⟨dx, _, ho, nn _ rfl rfl rfl rfl rfl rfl⟩
  | fi => obtain ⟨la, pa, _, _, ⟨dx, ho⟩, _⟩ := (h : FAt c.fi H M q p n s); exact ⟨dx, _, ho, nn _ rfl rfl rfl rfl rfl rfl⟩
  | ha => obtain ⟨la, ta, _, ⟨dx, ho⟩, _⟩ := (h : GAt c.ha H M q p n s); exact ⟨dx, _, ho, nn _ rfl rfl rfl rfl rfl rfl⟩
  | fa => obtain ⟨la, ak, _, ⟨dx, ho⟩, _⟩ := (h : QAt c.fa ys H M q p n s); exact ⟨dx, _, ho, nn _ rfl rfl rfl rfl rfl rfl⟩
theorem dueR_len {ys : List Str} {L : L5} {z : Str} {w : W5} : (dueR ys L z w).length ≤ 2 := by cases w <;> simp [dueR]
noncomputable def sp29_asked (c : C5) (w : W5) : Sp := fun vs H Q E => ∃ ys : List Str, ys.length ≤ 1000 ∧ spR_asked (T5 c ys w) vs H Q E
noncomputable def sp29_gone (c : C5) (w : W5) : Sp := fun vs H Q E => ∃ ys : List Str, ys.length ≤ 1000 ∧ spR_gone (T5 c ys w) vs H Q E
noncomputable def sp29_came (c : C5) (w : W5) : Sp := fun vs H Q E => ∃ ys : List Str, ys.length ≤ 1000 ∧ spR_came (T5 c ys w) vs H Q E
noncomputable def sp29_rank (c : C5) (w : W5) : Sp := fun vs H Q _ => ∃ (ys : List Str) (q p : Addr) (n : Int) (M : List Addr) (s : (T5 c ys w).St) (z : Str) (ns : List Str), ys.length ≤ 1000 ∧ vs = [.ref q, .str z] ∧ (T5 c ys w).At H M q p n s ∧ TJ c ys ns w s ∧ ∀ t, H t = none → Q (.ref t) (upd H t (.tup ((rk5 c ys w s z).map V.int)))
noncomputable def sp29_choice (c : C5) (w : W5) (K : PySem.W.Frag) : Sp := fun vs H Q E => ∃ (ys : List Str) (q p a : Addr) (n : Int) (M : List Addr) (s : (T5 c ys w).St) (l ns : List Str) (z : Str), ys.length ≤ 1000 ∧ vs = [.ref q, .ref a] ∧ (T5 c ys w).At H M q p n s ∧ (T5 c ys w).mid ns n z s l ∧ TJ c ys ns w s ∧ l ≠ [] ∧ H a = some (.lst (l.map V.str)) ∧ a ∉ M ∧ ns.length ≤ 60 ∧ l.length ≤ 60 ∧ ∀ H', Kp M H H' → (T5 c ys w).At H' M q p n ((T5 c ys w).pick n s l).1 → Q (.str ((T5 c ys w).pick n s l).2) H'
noncomputable def sp29_rinit (c : C5) : Sp := fun vs H Q _ => ∃ (w : W5) (q dx p : Addr) (n : Int), vs = [.ref q, .ref p, .int n] ∧ H q = some (.ins (w.C c) dx []) ∧ 1 ≤ n ∧ n ≤ 1000000 ∧ ∀ H', SameBut q H H' → H' q = some (.ins (w.C c) dx (rf0 p n)) → Q .non H'
noncomputable def sp29_kinit (c : C5) : Sp := fun vs H Q _ => ∃ (w : W5) (q dx p : Addr) (n : Int), vs = [.ref q, .ref p, .int n] ∧ H q = some (.ins (w.C c) dx []) ∧ 1 ≤ n ∧ n ≤ 1000000 ∧ ∀ H' la, SameBut q H H' → H la = none → la ≠ q → H' q = some (.ins (w.C c) dx (rf2 p n 0 la)) → H' la = some (.dK []) → Q .non H'
noncomputable def sp29_last2 (C : Addr) : Sp := fun vs H Q _ => ∃ (q p : Addr) (n : Int) (M : List Addr) (s : S2) (z : Str) (ns : List Str), vs = [.ref q, .str z] ∧ OAt C H M q p n s ∧ TI ns s.la ∧ Q (.int (lv s z)) H
noncomputable def sp29_last4 (C : Addr) : Sp := fun vs H Q _ => ∃ (q p : Addr) (n : Int) (M : List Addr) (s : S4) (z : Str) (ns : List Str), vs = [.ref q, .str z] ∧ GAt C H M q p n s ∧ TI ns s.b.la ∧ Q (.int (lv s.b z)) H
noncomputable def sp29_last3 (C : Addr) : Sp := fun vs H Q _ => ∃ (ys : List Str) (q p : Addr) (n : Int) (M : List Addr) (s : S2) (z : Str) (ns : List Str), vs = [.ref q, .str z] ∧ QAt C ys H M q p n s ∧ TI ns s.la ∧ Q (.int (lv s z)) H
noncomputable def KeAt (H : Hp) (ke d0 d1 d2 : Addr) (L : L5) : Prop := H ke = some (.lst [.ref d0, .ref d1, .ref d2]) ∧ H d0 = some (.dK L.la) ∧ H d1 = some (.dK L.pu) ∧ H d2 = some (.dK L.ta) ∧ d0 ≠ d1 ∧ d0 ≠ d2 ∧ d1 ≠ d2
theorem KeAt.same {H H' : Hp} {ke d0 d1 d2 : Addr} {L : L5} (h : KeAt H ke d0 d1 d2 L) (m : Same H H') : KeAt H' ke d0 d1 d2 L := ⟨m _ _ h.1, m _ _ h.2.1, m _ _ h.2.2.1, m _ _ h.2.2.2.1, h.2.2.2.2⟩
theorem ke_new {H : Hp} {d0 d1 d2 ke : Addr} {e : Int} (h0 : H d0 = none) (h1 : upd H d0 (.dK []) d1 = none) (h2 : upd (upd H d0 (.dK [])) d1 (.dK []) d2 = none) (h3 : upd (upd (upd H d0 (.dK [])) d1 (.dK [])) d2 (.dK []) ke = none) :
    Same H (upd (upd (upd (upd H d0 (.dK [])) d1 (.dK [])) d2 (.dK [])) ke (.lst [.ref d0, .ref d1, .ref d2])) ∧ KeAt (upd (upd (upd (upd H d0 (.dK [])) d1 (.dK [])) d2 (.dK [])) ke (.lst [.ref d0, .ref d1, .ref d2])) ke d0 d1 d2 (l50 e) ∧ ∀ m ∈ [d0, d1, d2, ke], H m = none := by
  have m0 : Same H (upd H d0 (.dK [])) := Same.new h0
  have m1 := Same.new (o := .dK []) h1
  have m2 := Same.new (o := .dK []) h2
  have m3 := Same.new (o := .lst [.ref d0, .ref d1, .ref d2]) h3
  have u0 : upd H d0 (.dK []) d0 = some (.dK []) := upd_same
  have u1 : upd (upd H d0 (.dK [])) d1 (.dK []) d1 = some (.dK []) := upd_same
  have u2 : upd (upd (upd H d0 (.dK [])) d1 (.dK [])) d2 (.dK []) d2 = some (.dK []) := upd_same
  refine ⟨((m0.trans m1).trans m2).trans m3, ⟨upd_same, m3 _ _ (m2 _ _ (m1 _ _ u0)), m3 _ _ (m2 _ _ u1), m3 _ _ u2, ne_of_none u0 h1, ne_of_none (m1 _ _ u0) h2, ne_of_none u1 h2⟩, fun m hm => ?_⟩
  simp only [List.mem_cons, List.not_mem_nil, or_false] at hm
  rcases hm with e | e | e | e <;> rw [e]
  · exact h0
  · exact same_none m0 h1
  · exact same_none (m0.trans m1) h2
  · exact same_none ((m0.trans m1).trans m2) h3
theorem cut_60 (ys : List Str) : cutV (ys.map V.str) none (some 60) = (ys.take 60).map V.str := by
  by_cases h : 60 ≤ ys.length
  · exact cut_to ys 60 h
  · unfold cutV
    have e : HT.sIx (ys.map V.str).length (ys.map V.str).length (some (60 : Int)) = ys.length := by rw [List.length_map, show (60 : Int) = ((60 : Nat) : Int) from rfl, HT.sIx_nat]; exact Nat.min_eq_right (by omega)
    have e0 : HT.sIx (ys.map V.str).length 0 none = 0 := rfl
    rw [e, e0, List.drop_zero, Nat.sub_zero, List.take_of_length_le (by rw [List.length_map]; omega), List.take_of_length_le (by omega)]
theorem w5_of (x : Int) : ∃ w : W5, x % 5 = w.i := by
  have h : x % 5 = 0 ∨ x % 5 = 1 ∨ x % 5 = 2 ∨ x % 5 = 3 ∨ x % 5 = 4 := by omega
  rcases h with h | h | h | h | h <;> rw [h]
  · exact ⟨.ra, rfl⟩
  · exact ⟨.ol, rfl⟩
  · exact ⟨.fi, rfl⟩
  · exact ⟨.ha, rfl⟩
  · exact ⟨.fa, rfl⟩
theorem rmK_strs {ts : List Th} : (N20.rmK ts).map (fun p => kV p.1) = (ts.map (·.1)).map V.str := by
  unfold N20.rmK; rw [List.map_map, List.map_map]; rfl
theorem KeAt.kp {H H' : Hp} {ke d0 d1 d2 : Addr} {L : L5} {M : List Addr} (h : KeAt H ke d0 d1 d2 L) (k : Kp M H H') (n : ∀ m ∈ [d0, d1, d2, ke], m ∉ M) : KeAt H' ke d0 d1 d2 L :=
  ⟨k _ _ (n _ (by simp)) h.1, k _ _ (n _ (by simp)) h.2.1, k _ _ (n _ (by simp)) h.2.2.1, k _ _ (n _ (by simp)) h.2.2.2.1, h.2.2.2.2⟩
noncomputable def sp29_made (c : C5) (K : PySem.W.Frag) (S : Addr) : Sp := fun vs H Q _ => ∃ (w : W5) (st a : Addr) (n e : Int) (ts : List Th) (ys : List Str), vs = [.int w.i, .ref st, .int n, .ref a, .int e] ∧ StockAt K S H st ts ∧ (ts.map (·.1)).Nodup ∧ H a = some (.lst (ys.map V.str)) ∧ ys.length ≤ 200 ∧ (∀ y ∈ ys, y ∈ ts.map (·.1)) ∧ (∀ y ∈ ys, rm ts y ≤ n) ∧ 1 ≤ n ∧ n ≤ 1000000 ∧ 1 ≤ e ∧ e ≤ 200 ∧
  ∀ (q : Addr) (M : List Addr) (H' : Hp), Same H H' → (∀ m ∈ M, H m = none) → (T5 c ys w).At H' M q st n (proj c ys w (l50 e)) → Q (.ref q) H'
noncomputable def sp29_next (K : PySem.W.Frag) : Sp := fun vs H Q _ => ∃ (a : Addr) (ys : List Str) (z : Str) (k : Nat), vs = [.ref a, .str z, .int k] ∧ SqL K H a (ys.map V.str) ∧ ys.length ≤ 1000 ∧ k ≤ 1000 ∧ Q (.int ((nx ys k z : Int) + 1)) H
noncomputable def sp29_due (K : PySem.W.Frag) : Sp := fun vs H Q _ => ∃ (w : W5) (ke d0 d1 d2 a : Addr) (L : L5) (ys ns : List Str) (z : Str), vs = [.int w.i, .ref ke, .ref a, .str z, .int L.k] ∧ KeAt H ke d0 d1 d2 L ∧ LJ ns L ∧ L.k ≤ 1000 ∧ SqL K H a (ys.map V.str) ∧ ys.length ≤ 1000 ∧ ∀ t, H t = none → Q (.ref t) (upd H t (.tup ((dueR ys L z w).map V.int)))
noncomputable def sp29_lrank (K : PySem.W.Frag) : Sp := fun vs H Q _ => ∃ (f d : Addr) (is : List Int), vs = [.ref f, .ref d] ∧ H f = some (.tup (is.map V.int)) ∧ H d = some (.tup (is.map V.int)) ∧ is.length ≤ 10 ∧ Q (.bl true) H
noncomputable def sp29_all (c : C5) (K : PySem.W.Frag) : Sp := fun vs H Q _ => ∃ (w : W5) (q p ke d0 d1 d2 a b : Addr) (M : List Addr) (n : Int) (L : L5) (ys ns zs : List Str), vs = [.ref q, .int w.i, .ref ke, .ref a, .int L.k, .ref b] ∧ (T5 c ys w).At H M q p n (proj c ys w L) ∧ KeAt H ke d0 d1 d2 L ∧ LJ ns L ∧ L.k ≤ 1000 ∧ SqL K H a (ys.map V.str) ∧ ys.length ≤ 1000 ∧ H b = some (.lst (zs.map V.str)) ∧ ∀ H', Same H H' → Q (.bl true) H'
noncomputable def sp29_counted : Sp := fun vs H Q _ => ∃ (ke d0 d1 d2 : Addr) (L : L5) (ns : List Str) (z : Str), vs = [.ref ke, .str z, .int (L.k + 1), .int L.e] ∧ KeAt H ke d0 d1 d2 L ∧ LJ ns L ∧ ns.length ≤ 60 ∧ z ∈ ns ∧ (L.k = 0 → L.ta = []) ∧ ∀ H', Kp [d0, d2] H H' → KeAt H' ke d0 d1 d2 (L.ask z) → Q .non H'
noncomputable def sp29_least (c : C5) (K : PySem.W.Frag) : Sp := fun vs H Q _ => ∃ (w : W5) (q p b : Addr) (M : List Addr) (n : Int) (L : L5) (ys ns l : List Str) (z : Str), vs = [.ref q, .str ((T5 c ys w).pick n (proj c ys w L) l).2, .ref b] ∧ (T5 c ys w).At H M q p n (proj c ys w L) ∧ (T5 c ys w).mid ns n z (proj c ys w L) l ∧ LJ ns L ∧ L.k ≤ 1000 ∧ ys.length ≤ 1000 ∧ l ≠ [] ∧ H b = some (.lst (l.map V.str)) ∧ ∀ H', Same H H' → Q (.bl true) H'
noncomputable def sp29_led (c : C5) (K : PySem.W.Frag) : Sp := fun vs H Q _ => ∃ (w : W5) (q p a rm' : Addr) (M : List Addr) (n e : Int) (ts : List Th) (ys : List Str), vs = [.ref q, .int w.i, .ref a, .ref rm', .int n, .int e] ∧ (T5 c ys w).At H M q p n (proj c ys w (l50 e)) ∧ H rm' = some (.dK (N20.rmK ts)) ∧ rm' ∉ M ∧ (ts.map (·.1)).Nodup ∧ ts.length ≤ 60 ∧ H a = some (.lst (ys.map V.str)) ∧ a ∉ M ∧ ys.length ≤ 60 ∧ (∀ y ∈ ys, y ∈ ts.map (·.1)) ∧ (∀ y ∈ ys, rm ts y ≤ n) ∧ 1 ≤ e ∧ e ≤ 200 ∧ ∀ H', Q (.bl true) H'
end N29

set_option Elab.async false
set_option linter.all false
set_option maxRecDepth 100000
set_option maxHeartbeats 4000000

namespace K29
open PySem PySem.Spec PyProof.Rows L2 N1 N5 N4 N6 N12 N32 N14 N20 N18 N25 NR N22 N21 N24 N23 N29
local macro_rules | `(tactic| walk_at "rd") => `(tactic| simp only [rd_asg, rd_var, rd_c, rd_op, rd_I0, rd_I, rd_U, rd_name, rd_ifS, rd_test, rd_b, rd_ret, rd_retN, rd_next, rd_break, rd_cont, rd_cb, rd_cons, rd_nil, rd_call, rd_not, rd_or, rd_and, rd_andV, rd_orV, rd_notV, rd_if, rd_un, rd_eq, rd_ne, rd_par, rd_tup, rd_lst, rd_never, rd_drop, rd_gcons, rd_gnil, rd_gsub, rd_chain, rd_rng1, rd_rng2, rd_ilist, rd_itup, rd_for', scal, rd_comp, rd_istr, rd_sl, rd_noPart, rd_part, rd_slS, rd_slL, rd_bm, rd_bm0, tyV_str, rd_join, rd_find, rd_split, rd_all, rd_mulS, rd_jnil, rd_jcons, rd_fstr, rd_fmt, rd_fmtR, rd_dnewK, true_implies, false_implies, Bool.false_and, Bool.true_and, Bool.and_true, Bool.and_false, Bool.false_or, Bool.true_or, Bool.or_true, Bool.or_false, rd_eqQ, rd_neQ, rd_methE, rd_makeE, rd_fld, rd_sfld, rd_din, rd_dnotin, rd_dget, rd_dput, rd_gtup, rd_inS, rd_notinS, hasS_one, blk_K, Int.zero_add, Int.toNat_natCast, upd_upd, List.map_cons, List.map_nil, List.getD_cons_zero, List.getD_cons_succ, cxOf_K, List.length_cons, List.length_nil, List.getElem?_cons_zero, List.getElem?_cons_succ, List.set_cons_zero, List.set_cons_succ, Option.some.injEq, V.int.injEq, V.bl.injEq, V.str.injEq, V.ref.injEq, V.ty.injEq, exists_eq_left', exists_eq_left, exists_and_left, exists_eq, exists_eq', List.cons.injEq, and_true, true_and, decide_eq_true_eq, Bool.not_eq_true', decide_eq_false_iff_not, reduceCtorEq, exists_const, Bool.true_eq_false, Bool.false_eq_true, if_true, if_false, ite_true, ite_false, Bool.not_true, Bool.not_false, decide_true, decide_false, Bool.not_not, false_and, and_false, exists_false, false_or, or_false, true_or, or_true, and_assoc, not_true_eq_false, not_false_eq_true, Int.reduceToNat, Nat.reduceAdd, sp_cell, sp_made, sp_is_name, sp_law, sp_is_whole, sp_within, sp_checkG, sp_initG, sp_has, sp_thingG, sp_roomG, sp32_room, sp32_thing, sp32_check, N41.sp41_asks, sp_putG, sp_castG, rd_listD, rd_values, rd_sumV, rd_remove, rd_dpop1, sp_nms, sp_sinit, sp_lying, sp_holds, sp_left, rd_ienum, rd_izip, sp_mix, sp12_names, rd_items, rd_iview, rd_comp3, rd_popAt, rd_compI, rd_comp2, rd_maxL, rd_maxV, rd_neN, rd_setL, rd_dget1, sp20_stream, sp20_names, sp20_rows, sp20_places, sp20_asks, sp20_rooms, sp20_same, rd_callS, rd_sumL, rd_minK, spR_nests, spR_asked, spR_choice, spR_gone, spR_came, spR2_room, spR2_row, spR2_book, spR_room, spR_row, spR_book, rd_popAt, rd_fldaug, rd_dget2, rAdd, rd_augN, rd_ipI, sp_nms, rd_isnB, sp29_rinit, sp29_kinit, sp21_number, sp22_number, sp22_init, sp23_init, sp23_halve, sp23_number, sp23_counts, sp24_init, sp24_number, sp24_coming, sp29_last2, sp29_last3, sp29_last4, sp29_asked, sp29_gone, sp29_came, sp29_rank, sp29_choice, sp29_made, sp29_next, sp29_due, sp29_lrank, sp29_all, sp29_counted, sp29_least, sp29_led, rd_ienum, rd_makeD, rd_makeK, gV31_at, rd_dictOf, rd_methI, rd_neDD, rd_ltT, List.cons_append, List.nil_append])
local macro_rules | `(tactic| walk_at "hp") => `(tactic| first | with_reducible assumption | exact upd_same | (rw [upd_ne (by first | with_reducible assumption | exact ne_of_none (by with_reducible assumption) (by with_reducible assumption))]; first | with_reducible assumption | exact upd_same))
local macro_rules | `(tactic| walk_at "sq") => `(tactic| (repeat' first | with_reducible assumption | exact SqT.of upd_same | exact SqL.of upd_same | refine' Same.tup (Same.new (by with_reducible assumption)) ?_ | refine' Same.seq (Same.new (by with_reducible assumption)) ?_))
local macro_rules | `(tactic| walk_at "isi") => `(tactic| first | exact isi_ii | exact isi_ib | exact isi_bb | exact isi_is | exact isi_ss | exact isi_si | exact isi_sb | exact isi_bi | exact isi_bs | exact isi_ni | exact isi_ns | exact isi_tupt (by walk_at "hp") | exact isi_lstl (by walk_at "hp") | exact isi_tupl (by walk_at "hp") | exact isi_lstt (by walk_at "hp") | exact isi_tups (by walk_at "hp") | exact isi_lsts (by walk_at "hp") | exact isi_tupi (by walk_at "hp") | exact isi_lsti (by walk_at "hp"))
local macro_rules | `(tactic| walk_at "slen") => `(tactic| first | omega | decide +kernel | (refine le_app ?_ ?_ <;> walk_at "slen"))
local macro_rules | `(tactic| walk_at "side") => `(tactic| first | with_reducible assumption | with_reducible exact cdiv_of (by omega) (by omega) | with_reducible exact cpow_of (by decide) (by decide) (by decide) | with_reducible exact cmul_l (by omega) (by omega) | with_reducible exact cmul_r (by omega) (by omega) | omega | decide | decide +kernel | (have := line_val; omega) | (simp only [len_app, len_one, line_val]; omega) | (rw [line_val]; walk_at "slen"; done))
local macro_rules | `(tactic| walk_at "go1") => `(tactic| first | walk_at "rd" | ((with_reducible refine And.intro ?_ ?_); (focus (walk_at "side"; done))) | ((with_reducible apply isi_go); (focus (walk_at "isi"; done))) | ((with_reducible apply ixT_of); (focus (walk_at "sq"; done)); (focus rfl)) | ((with_reducible apply ixL_of); (focus (walk_at "sq"; done)); (focus rfl)) | ((with_reducible apply len_goT); (focus (walk_at "sq"; done))) | ((with_reducible apply len_goL); (focus (walk_at "sq"; done))) | ((with_reducible apply script_go); (focus (walk_at "sq"; done)); (focus (assumption; done))) | ((with_reducible apply cell_go); (focus (walk_at "sq"; done)); (focus (decide; done)); (focus (assumption; done))) | (intro (_ : List (Addr × PySem.Obj)) (_ : PySem.Value → PySem.Shared → Prop)) | with_reducible refine seq_go fun _ _ => ?_ | (refine leaf_go (by with_reducible assumption) ?_; subst_vars))
local macro_rules | `(tactic| walk_at "go") => `(tactic| repeat walk_at "go1")

noncomputable def top (i : Nat) : Stmt := PySem.Challenge.pw_castoff_k29_ranks.main.body.getD i (.Pass ⟨0, 0, 0, 0⟩)
structure Txt (K : PySem.W.Frag) (mg : Str → Option Value) (xStock xRule xRanked xOldest xFirst xHalving xFarthest : Addr) : Prop where
  c_Stock : mg "Stock" = some (.ref xStock)
  cl_Stock : Cls K xStock
  n_Stock_things : NoAttr K xStock "things"
  c_Rule : mg "Rule" = some (.ref xRule)
  cl_Rule : Cls K xRule
  c_Ranked : mg "Ranked" = some (.ref xRanked)
  cl_Ranked : Cls K xRanked
  n_Ranked_stock : NoAttr K xRanked "stock"
  n_Ranked_places : NoAttr K xRanked "places"
  n_Ranked_present : NoAttr K xRanked "present"
  n_Ranked_last : NoAttr K xRanked "last"
  c_Oldest : mg "Oldest" = some (.ref xOldest)
  cl_Oldest : Cls K xOldest
  n_Oldest_stock : NoAttr K xOldest "stock"
  n_Oldest_places : NoAttr K xOldest "places"
  n_Oldest_present : NoAttr K xOldest "present"
  n_Oldest_last : NoAttr K xOldest "last"
  c_First : mg "First" = some (.ref xFirst)
  cl_First : Cls K xFirst
  n_First_stock : NoAttr K xFirst "stock"
  n_First_places : NoAttr K xFirst "places"
  n_First_present : NoAttr K xFirst "present"
  n_First_last : NoAttr K xFirst "last"
  n_First_put_at : NoAttr K xFirst "put_at"
  c_Halving : mg "Halving" = some (.ref xHalving)
  cl_Halving : Cls K xHalving
  n_Halving_stock : NoAttr K xHalving "stock"
  n_Halving_places : NoAttr K xHalving "places"
  n_Halving_present : NoAttr K xHalving "present"
  n_Halving_last : NoAttr K xHalving "last"
  n_Halving_turn : NoAttr K xHalving "turn"
  n_Halving_tally : NoAttr K xHalving "tally"
  c_Farthest : mg "Farthest" = some (.ref xFarthest)
  cl_Farthest : Cls K xFarthest
  n_Farthest_stock : NoAttr K xFarthest "stock"
  n_Farthest_places : NoAttr K xFarthest "places"
  n_Farthest_present : NoAttr K xFarthest "present"
  n_Farthest_last : NoAttr K xFarthest "last"
  n_Farthest_asks : NoAttr K xFarthest "asks"
  z_len : mg "len" = none
  z_isinstance : mg "isinstance" = none
  z_int : mg "int" = none
  z_bool : mg "bool" = none
  z_str : mg "str" = none
  z_list : mg "list" = none
  z_tuple : mg "tuple" = none
  z_all : mg "all" = none
  z_range : mg "range" = none
  z_sum : mg "sum" = none
  z_enumerate : mg "enumerate" = none
  z_zip : mg "zip" = none
  z_max : mg "max" = none
  z_min : mg "min" = none
  z_dict : mg "dict" = none
  g_LETTERS : ∃ t, mg "LETTERS" = some (.str "abcdefghijklmnopqrstuvwxyz" t)
  g_FIGURES : ∃ t, mg "FIGURES" = some (.str "0123456789" t)
  g_MOST_SIGNS : ∃ t, mg "MOST_SIGNS" = some (.int 8 t)
  g_MOST_THINGS : ∃ t, mg "MOST_THINGS" = some (.int 60 t)
  g_MOST_ROOM : ∃ t, mg "MOST_ROOM" = some (.int 1000 t)
  g_MOST_PLACES : ∃ t, mg "MOST_PLACES" = some (.int 1000000 t)
  g_MOST_ASKS : ∃ t, mg "MOST_ASKS" = some (.int 200 t)
  g_MOST_TURN : ∃ t, mg "MOST_TURN" = some (.int 200 t)
section
variable {P : Program} {w : World} {K : PySem.W.Frag} {mg : Str → Option Value} {base : Heap} {xStock xRule xRanked xOldest xFirst xHalving xFarthest : Addr}
noncomputable abbrev s_made_of : Stmt := top 21
noncomputable abbrev s_is_name : Stmt := top 22
noncomputable abbrev s_is_whole : Stmt := top 10
noncomputable abbrev s_is_within : Stmt := top 11
noncomputable abbrev s_check_places : Stmt := top 14
noncomputable abbrev s_check_thing : Stmt := top 23
noncomputable abbrev s_Stock_init : Stmt := inClass (top 24) 0
noncomputable abbrev s_Stock_has : Stmt := inClass (top 24) 2
noncomputable abbrev s_Stock_thing_of : Stmt := inClass (top 24) 3
noncomputable abbrev s_Stock_room_of : Stmt := inClass (top 24) 6
noncomputable abbrev s_check_asks : Stmt := top 27
noncomputable abbrev s_Rule_init : Stmt := inClass (top 30) 0
noncomputable abbrev s_Ranked_init : Stmt := inClass (top 31) 0
noncomputable abbrev s_Oldest_init : Stmt := inClass (top 31) 0
noncomputable abbrev s_First_init : Stmt := inClass (top 33) 0
noncomputable abbrev s_Halving_init : Stmt := inClass (top 34) 0
noncomputable abbrev s_Farthest_init : Stmt := inClass (top 35) 0
noncomputable abbrev s_Ranked_number_ask : Stmt := inClass (top 31) 2
noncomputable abbrev s_Ranked_asked : Stmt := inClass (top 31) 1
noncomputable abbrev s_Ranked_last_of : Stmt := inClass (top 31) 3
noncomputable abbrev s_Ranked_rank : Stmt := inClass (top 31) 4
noncomputable abbrev s_Ranked_choice : Stmt := inClass (top 31) 5
noncomputable abbrev s_Ranked_gone : Stmt := inClass (top 30) 4
noncomputable abbrev s_Ranked_came : Stmt := inClass (top 30) 5
noncomputable abbrev s_Oldest_number_ask : Stmt := inClass (top 31) 2
noncomputable abbrev s_Oldest_asked : Stmt := inClass (top 31) 1
noncomputable abbrev s_Oldest_last_of : Stmt := inClass (top 31) 3
noncomputable abbrev s_Oldest_rank : Stmt := inClass (top 31) 4
noncomputable abbrev s_Oldest_choice : Stmt := inClass (top 31) 5
noncomputable abbrev s_Oldest_gone : Stmt := inClass (top 30) 4
noncomputable abbrev s_Oldest_came : Stmt := inClass (top 30) 5
noncomputable abbrev s_First_number_ask : Stmt := inClass (top 31) 2
noncomputable abbrev s_First_asked : Stmt := inClass (top 31) 1
noncomputable abbrev s_First_rank : Stmt := inClass (top 33) 2
noncomputable abbrev s_First_choice : Stmt := inClass (top 31) 5
noncomputable abbrev s_First_gone : Stmt := inClass (top 30) 4
noncomputable abbrev s_First_came : Stmt := inClass (top 33) 1
noncomputable abbrev s_Halving_halve : Stmt := inClass (top 34) 2
noncomputable abbrev s_Halving_number_ask : Stmt := inClass (top 31) 2
noncomputable abbrev s_Halving_counts : Stmt := inClass (top 34) 4
noncomputable abbrev s_Halving_asked : Stmt := inClass (top 34) 3
noncomputable abbrev s_Halving_last_of : Stmt := inClass (top 31) 3
noncomputable abbrev s_Halving_rank : Stmt := inClass (top 34) 5
noncomputable abbrev s_Halving_choice : Stmt := inClass (top 31) 5
noncomputable abbrev s_Halving_gone : Stmt := inClass (top 30) 4
noncomputable abbrev s_Halving_came : Stmt := inClass (top 30) 5
noncomputable abbrev s_Farthest_number_ask : Stmt := inClass (top 31) 2
noncomputable abbrev s_Farthest_last_of : Stmt := inClass (top 31) 3
noncomputable abbrev s_Farthest_coming_of : Stmt := inClass (top 35) 2
noncomputable abbrev s_Farthest_rank : Stmt := inClass (top 35) 3
noncomputable abbrev s_Farthest_asked : Stmt := inClass (top 31) 1
noncomputable abbrev s_Farthest_choice : Stmt := inClass (top 31) 5
noncomputable abbrev s_Farthest_gone : Stmt := inClass (top 30) 4
noncomputable abbrev s_Farthest_came : Stmt := inClass (top 30) 5
noncomputable abbrev s_l_cell : Stmt := top 37
noncomputable abbrev s_l_stream : Stmt := top 38
noncomputable abbrev s_l_names : Stmt := top 39
noncomputable abbrev s_l_rows : Stmt := top 40
noncomputable abbrev s_l_places : Stmt := top 41
noncomputable abbrev s_l_asks : Stmt := top 42
noncomputable abbrev s_l_rooms : Stmt := top 43
noncomputable abbrev s_l_made : Stmt := top 51
noncomputable abbrev s_l_next : Stmt := top 44
noncomputable abbrev s_l_due : Stmt := top 45
noncomputable abbrev s_l_rank : Stmt := top 46
noncomputable abbrev s_l_all_ranks : Stmt := top 47
noncomputable abbrev s_l_counted : Stmt := top 48
noncomputable abbrev s_l_least : Stmt := top 49
noncomputable abbrev s_l_led : Stmt := top 50
noncomputable abbrev s_law : Stmt := top 52
theorem ok_made_of {f : Addr} {fd : FuncData} (F : Fun K "made_of" "made_of" s_made_of f fd) (T : Txt K mg xStock xRule xRanked xOldest xFirst xHalving xFarthest)  : FnOk P w K mg base CX0 1 f fd ["text", "signs"] (sp_made) := by
  have sc : FnScope ["text", "signs"] ["text", "signs"] (defScope s_made_of) := ⟨rfl, rfl, rfl, by decide +kernel, rfl, by decide +kernel, by decide +kernel⟩
  refine F.ok sc (fun vs H Q E h => ?_) (fun cdv A outer s H vs Q E hr h => ?_)
  · obtain ⟨z, w, rfl, hz, q⟩ := h; rfl
  obtain ⟨z, w, rfl, hz, q⟩ := h
  refine ⟨_, (@pss_one _ _ _ (@ps_ret _ _ _ _ (pe_callB (call_all rfl) rfl T.z_all (by first | rfl | decide +kernel) (pa_cons (pe_comp1 "sign" [1] rfl rfl (pi_str (pv 0)) (fun b => (pe_cmpR op_inS (pv 0) (pv 1) (by with_unfolding_all rfl)))) pa_nil)))), ?_⟩
  rw [show start ["text", "signs"] [V.str z, V.str w] = [some (V.str z), some (V.str w)] from rfl]
  walk_at "go"
  refine compS_pure (fun c => V.bl (decide (c ∈ w.cps.toList))) hz (fun b c H' Q' hc sm q' => ?_) fun D hD => ?_
  · walk_at "go"
    exact q'
  · refine ⟨_, rfl, z.cps.toList.map fun c => decide (c ∈ w.cps.toList), ?_, ?_⟩
    · rw [List.map_map]; exact SqL.of upd_same
    · rw [List.all_map]; exact q _ (Same.new hD)
theorem ok_is_name {f : Addr} {fd : FuncData} (F : Fun K "is_name" "is_name" s_is_name f fd) (T : Txt K mg xStock xRule xRanked xOldest xFirst xHalving xFarthest) (D_made_of : Def P w K mg base CX0 1 "made_of" ["text", "signs"] (sp_made)) : FnOk P w K mg base CX0 2 f fd ["thing"] (sp_is_name K) := by
  have sc : FnScope ["thing"] ["thing"] (defScope s_is_name) := ⟨rfl, rfl, rfl, by decide +kernel, rfl, by decide +kernel, by decide +kernel⟩
  refine F.ok sc (fun vs H Q E h => ?_) (fun cdv A outer s H vs Q E hr h => ?_)
  · obtain ⟨x, rfl, hx⟩ := h; rfl
  obtain ⟨x, rfl, hx⟩ := h
  refine ⟨_, (@pss_cons _ _ _ _ _ (ps_if (pt_not (pt_val (pe_callB call_isinst rfl T.z_isinstance (by first | rfl | decide +kernel) (pa_cons (pv 0) (pa_cons (pe_bltn (v := .ty "str") rfl T.z_str (by first | rfl | decide +kernel) rfl) pa_nil)))))
      (@pss_one _ _ _ (@ps_ret _ _ _ _ pe_bl))
      pss_nil)
    (@pss_cons _ _ _ _ _ (ps_if (PW.pt (pw_or (pt_cmpR op_lt (pe_callB call_len_str rfl T.z_len PySem.boot_len (pa_cons (pv 0) pa_nil)) pe_int (nomark _)) (pw_or1 (pt_cmpR op_gt (pe_callB call_len_str rfl T.z_len PySem.boot_len (pa_cons (pv 0) pa_nil)) (pe_gint rfl T.g_MOST_SIGNS) (nomark _)))))
      (@pss_one _ _ _ (@ps_ret _ _ _ _ pe_bl))
      pss_nil)
    (@pss_one _ _ _ (@ps_ret _ _ _ _ (pe_and (pe_cmpR op_inS (@pe_ix _ _ _ _ _ _ _ ix_str (pv 0) pe_int (fun _ _ => rfl)) (pe_gstr rfl T.g_LETTERS) (by with_unfolding_all rfl)) (pe_one (pe_callD D_made_of hr rfl pass0 (pa_cons (pv 0) (pa_cons (pe_op op_add_str (pe_gstr rfl T.g_LETTERS) (pe_gstr rfl T.g_FIGURES)) pa_nil))))))))), ?_⟩
  rw [show start ["thing"] [x] = [some (x)] from rfl]
  rcases hx with ⟨z, rfl, hz, q⟩ | ⟨hi, q⟩
  · walk_at "go"
    have hl := str_len (z := z)
    split
    · rename_i h1
      have e : nameB z.cps.toList = false := by unfold nameB; rw [decide_eq_false (show ¬ 1 ≤ z.cps.toList.length by omega)]; rfl
      rw [e] at q; exact q _ (Same.refl H)
    · rename_i h1
      refine ⟨hz, ?_⟩
      split
      · have e : nameB z.cps.toList = false := by unfold nameB; rw [decide_eq_false (show ¬ z.cps.toList.length ≤ 8 by omega), Bool.and_false]; rfl
        rw [e] at q; exact q _ (Same.refl H)
      · rename_i h2
        obtain ⟨c, r, hcr⟩ : ∃ c r, z.cps.toList = c :: r := by
          cases h : z.cps.toList with
          | nil => rw [h] at hl; simp at hl; omega
          | cons c r => exact ⟨c, r, rfl⟩
        have hn : nameB z.cps.toList = (decide (c ∈ letters) && z.cps.toList.all fun c => decide (c ∈ letters ++ figures)) := by
          unfold nameB; rw [decide_eq_true (show 1 ≤ z.cps.toList.length by omega), decide_eq_true (show z.cps.toList.length ≤ 8 by omega)]; rw [hcr]; rfl
        rw [hn] at q
        walk_at "go"
        refine ixS_of hz (by rw [hcr]; exact at_0) ?_
        walk_at "go"
        rw [let_list]
        split
        · rename_i hc
          rw [decide_eq_true hc, Bool.true_and] at q
          walk_at "go"
          rw [app_list, let_list, fig_list]
          exact q
        · rename_i hc
          rw [decide_eq_false hc, Bool.false_and] at q
          exact q _ (Same.refl H)
  · walk_at "go"
    refine ⟨_, hi, ?_⟩
    walk_at "go"
    exact q
theorem ok_is_whole {f : Addr} {fd : FuncData} (F : Fun K "is_whole" "is_whole" s_is_whole f fd) (T : Txt K mg xStock xRule xRanked xOldest xFirst xHalving xFarthest)  : FnOk P w K mg base CX0 1 f fd ["thing"] (sp_is_whole K) := by
  have sc : FnScope ["thing"] ["thing"] (defScope s_is_whole) := ⟨rfl, rfl, rfl, by decide +kernel, rfl, by decide +kernel, by decide +kernel⟩
  refine F.ok sc (fun vs H Q E h => ?_) (fun cdv A outer s H vs Q E hr h => ?_)
  · obtain ⟨x, b, c, rfl, h1, h2, q⟩ := h; rfl
  obtain ⟨x, b, c, rfl, h1, h2, q⟩ := h
  refine ⟨_, (@pss_one _ _ _ (@ps_ret _ _ _ _ (pe_and (pe_callB call_isinst rfl T.z_isinstance (by first | rfl | decide +kernel) (pa_cons (pv 0) (pa_cons (pe_bltn (v := .ty "int") rfl T.z_int (by first | rfl | decide +kernel) rfl) pa_nil))) (pe_one (pe_not (pe_callB call_isinst rfl T.z_isinstance (by first | rfl | decide +kernel) (pa_cons (pv 0) (pa_cons (pe_bltn (v := .ty "bool") rfl T.z_bool (by first | rfl | decide +kernel) rfl) pa_nil)))))))), ?_⟩
  rw [show start ["thing"] [x] = [some (x)] from rfl]
  walk_at "go"
  refine ⟨_, h1, ?_⟩
  cases b
  · walk_at "go"
    exact q
  · walk_at "go"
    refine ⟨_, h2 rfl, ?_⟩
    walk_at "go"
    exact q
theorem ok_is_within {f : Addr} {fd : FuncData} (F : Fun K "is_within" "is_within" s_is_within f fd) (T : Txt K mg xStock xRule xRanked xOldest xFirst xHalving xFarthest) (D_is_whole : Def P w K mg base CX0 1 "is_whole" ["thing"] (sp_is_whole K)) : FnOk P w K mg base CX0 2 f fd ["thing", "least", "most"] (sp_within K) := by
  have sc : FnScope ["thing", "least", "most"] ["thing", "least", "most"] (defScope s_is_within) := ⟨rfl, rfl, rfl, by decide +kernel, rfl, by decide +kernel, by decide +kernel⟩
  refine F.ok sc (fun vs H Q E h => ?_) (fun cdv A outer s H vs Q E hr h => ?_)
  · obtain ⟨v, lo, hi, rfl, hv, q⟩ := h; rfl
  obtain ⟨v, lo, hi, rfl, hv, q⟩ := h
  refine ⟨_, (@pss_one _ _ _ (@ps_ret _ _ _ _ (pe_and (pe_callD D_is_whole hr rfl pass0 (pa_cons (pv 0) pa_nil)) (pe_one (pe_chain op_le op_le (pv 1) (pv 0) (pv 2)))))), ?_⟩
  rw [show start ["thing", "least", "most"] [v, V.int lo, V.int hi] = [some (v), some (V.int lo), some (V.int hi)] from rfl]
  obtain ⟨b, c, h1, h2, h3, h4⟩ := num_isi (K := K) (H := H) hv
  walk_at "go"
  refine ⟨b, h1, c, h2, ?_⟩
  split
  · rename_i h
    obtain ⟨i, rfl⟩ := h3 h
    simp only [wIn] at q
    walk_at "go"
    split
    · rename_i h'
      rw [decide_eq_true h', Bool.true_and] at q; exact q
    · rename_i h'
      rw [decide_eq_false h', Bool.false_and] at q; exact q
  · rename_i h
    have e : wIn lo hi v = false := by
      cases v with
      | int i => exact absurd rfl (h4 (by simpa using h) i)
      | _ => rfl
    rw [e] at q; exact q
theorem ok_check_places {f : Addr} {fd : FuncData} (F : Fun K "check_places" "check_places" s_check_places f fd) (T : Txt K mg xStock xRule xRanked xOldest xFirst xHalving xFarthest) (D_is_within : Def P w K mg base CX0 2 "is_within" ["thing", "least", "most"] (sp_within K)) : FnOk P w K mg base CX0 3 f fd ["places"] (sp32_check) := by
  have sc : FnScope ["places"] ["places"] (defScope s_check_places) := ⟨rfl, rfl, rfl, by decide +kernel, rfl, by decide +kernel, by decide +kernel⟩
  refine F.ok sc (fun vs H Q E h => ?_) (fun cdv A outer s H vs Q E hr h => ?_)
  · obtain ⟨i, rfl, h1, h2, q⟩ := h; rfl
  obtain ⟨i, rfl, h1, h2, q⟩ := h
  refine ⟨_, (@pss_one _ _ _ (ps_if (pt_not (pt_val (pe_callD D_is_within hr rfl pass0 (pa_cons (pv 0) (pa_cons pe_int (pa_cons (pe_gint rfl T.g_MOST_PLACES) pa_nil))))))
      (@pss_one _ _ _ ps_never)
      pss_nil)), ?_⟩
  rw [show start ["places"] [V.int i] = [some (V.int i)] from rfl]
  walk_at "go"
  rw [if_neg (by rw [wIn_ok h1 h2]; decide)]
  exact ⟨rfl, q⟩
theorem ok_check_thing {f : Addr} {fd : FuncData} (F : Fun K "check_thing" "check_thing" s_check_thing f fd) (T : Txt K mg xStock xRule xRanked xOldest xFirst xHalving xFarthest) (D_is_name : Def P w K mg base CX0 2 "is_name" ["thing"] (sp_is_name K)) (D_is_within : Def P w K mg base CX0 2 "is_within" ["thing", "least", "most"] (sp_within K)) : FnOk P w K mg base CX0 3 f fd ["name", "cost", "room", "earlier"] (sp_checkG K) := by
  have sc : FnScope ["name", "cost", "room", "earlier"] ["name", "cost", "room", "earlier"] (defScope s_check_thing) := ⟨rfl, rfl, rfl, by decide +kernel, rfl, by decide +kernel, by decide +kernel⟩
  refine F.ok sc (fun vs H Q E h => ?_) (fun cdv A outer s H vs Q E hr h => ?_)
  · obtain ⟨n, co, r, e, kvs, ks, rfl, he, hk, hrow, q⟩ := h; rfl
  obtain ⟨n, co, r, e, kvs, ks, rfl, he, hk, hrow, q⟩ := h
  refine ⟨_, (@pss_cons _ _ _ _ _ (ps_if (pt_not (pt_val (pe_callD D_is_name hr rfl pass0 (pa_cons (pv 0) pa_nil))))
      (@pss_one _ _ _ ps_never)
      pss_nil)
    (@pss_cons _ _ _ _ _ (ps_if (pt_cmp (pc_din (hu_of hr) (pv 0) (pv 3)))
      (@pss_one _ _ _ ps_never)
      pss_nil)
    (@pss_cons _ _ _ _ _ (ps_if (pt_not (pt_val (pe_callD D_is_within hr rfl pass0 (pa_cons (pv 1) (pa_cons pe_int (pa_cons (pe_op op_pow pe_int pe_int) pa_nil))))))
      (@pss_one _ _ _ ps_never)
      pss_nil)
    (@pss_one _ _ _ (ps_if (pt_not (pt_val (pe_callD D_is_within hr rfl pass0 (pa_cons (pv 2) (pa_cons pe_int (pa_cons (pe_gint rfl T.g_MOST_ROOM) pa_nil))))))
      (@pss_one _ _ _ ps_never)
      pss_nil))))), ?_⟩
  rw [show start ["name", "cost", "room", "earlier"] [n, co, r, V.ref e] = [some (n), some (co), some (r), some (V.ref e)] from rfl]
  obtain ⟨z, c, w, rfl, rfl, rfl, nz, hb, h1, h2, h3, h4⟩ := rowR_none hrow
  have line := line_val
  have hz8 := name_len hb
  walk_at "go"
  intro H1 sm1
  rw [hb]
  have he1 := sm1 _ _ he
  walk_at "go"
  refine ⟨_, DGet.k (k := Sum.inr z) he1, ?_⟩
  rw [key_mem hk, decide_eq_false nz]
  walk_at "go"
  refine ⟨rfl, ?_⟩
  split
  · rename_i h
    exact absurd h (by rw [wIn_ok h1 h2]; decide)
  · walk_at "go"
    refine ⟨rfl, ?_⟩
    split
    · rename_i h
      exact absurd h (by rw [wIn_ok h3 h4]; decide)
    · walk_at "go"
      exact q _ sm1
theorem ok_Stock_init {f : Addr} {fd : FuncData} (F : Fun K "__init__" "Stock.__init__" s_Stock_init f fd) (T : Txt K mg xStock xRule xRanked xOldest xFirst xHalving xFarthest) (D_check_thing : Def P w K mg base CX0 3 "check_thing" ["name", "cost", "room", "earlier"] (sp_checkG K)) : FnOk P w K mg base CX0 4 f fd ["self", "rows"] (sp_initG K xStock) := by
  have sc : FnScope ["self", "rows", "name", "cost", "room"] ["self", "rows"] (defScope s_Stock_init) := ⟨rfl, rfl, rfl, by decide +kernel, rfl, by decide +kernel, by decide +kernel⟩
  refine F.ok sc (fun vs H Q E h => ?_) (fun cdv A outer s H vs Q E hr h => ?_)
  · obtain ⟨p, dx, ra, rs, rfl, hp, hrs, hall, er, q⟩ := h; rfl
  obtain ⟨p, dx, ra, rs, rfl, hp, hrs, hall, er, q⟩ := h
  refine ⟨_, (@pss_cons _ _ _ _ _ (ps_if (pt_cmpR op_gt (pe_callB call_len_seq rfl T.z_len PySem.boot_len (pa_cons (pv 1) pa_nil)) (pe_gint rfl T.g_MOST_THINGS) (nomark _))
      (@pss_one _ _ _ ps_never)
      pss_nil)
    (@pss_cons _ _ _ _ _ (ps_fld (pv 0) pe_dnewK rfl)
    (@pss_one _ _ _ (ps_for PassesOwn.never rfl (pi_list (pv 1)) (pg_tup rfl (pgs_cons (pg_name (i := 2) sc.nd rfl (Or.inl rfl)) (pgs_cons (pg_name (i := 3) sc.nd rfl (Or.inl rfl)) (pgs_cons (pg_name (i := 4) sc.nd rfl (Or.inl rfl)) pgs_nil))))
      (@pss_cons _ _ _ _ _ (ps_expr (pe_callD D_check_thing hr rfl pass0 (pa_cons (pv 2) (pa_cons (pv 3) (pa_cons (pv 4) (pa_cons (pe_fld (pv 0) rfl) pa_nil))))))
      (@pss_one _ _ _ (ps_dput (hu_of hr) (pe_fld (pv 0) rfl) (pv 2) (pe_tup (pa_cons (pe_callB call_lenD rfl T.z_len PySem.boot_len (pa_cons (pe_fld (pv 0) rfl) pa_nil)) (pa_cons (pv 3) (pa_cons (pv 4) pa_nil)))) rfl))))))), ?_⟩
  rw [show start ["self", "rows", "name", "cost", "room"] [V.ref p, V.ref ra] = [some (V.ref p), some (V.ref ra), none, none, none] from rfl]
  have line := line_val
  obtain ⟨hl60, hstk⟩ := initR_none er
  walk_at "go"
  rw [List.length_map]
  split
  · rename_i h
    exact absurd h (by omega)
  · rename_i h
    walk_at "go"
    intro d hd
    have npd : p ≠ d := ne_of_none hp hd
    walk_at "go"
    refine ⟨xStock, dx, [], by rw [upd_ne npd]; exact hp, T.cl_Stock, T.n_Stock_things, by decide, ?_⟩
    have sb0 : SameBut p H (upd (upd H d (.dK [])) p (.ins xStock dx (flds d))) := fun b o e n => by rw [upd_ne n, upd_ne (ne_of_none e hd)]; exact e
    have hp0 : upd (upd H d (.dK [])) p (.ins xStock dx (flds d)) p = some (.ins xStock dx (flds d)) := upd_same
    have hd0 : upd (upd H d (.dK [])) p (.ins xStock dx (flds d)) d = some (.dK []) := by rw [upd_ne npd.symm, upd_same]
    unfold flds at sb0 hp0 hd0
    generalize upd (upd H d (HO.dK [])) p (HO.ins xStock dx (putF (Str.ofString "things") (V.ref d) [])) = H0 at sb0 hp0 hd0 ⊢
    walk_at "go"
    refine ⟨⟨_, SqL.but sb0 hp hrs⟩, ?_⟩
    refine forL_by (xs := rs.map fun t => V.ref t.1) (fun i σ H' => ∃ v1 v2 v3, σ = [some (V.ref p), some (V.ref ra), v1, v2, v3] ∧ SameBut p H H' ∧ H' p = some (.ins xStock dx (flds d)) ∧ MidAt K H' d (rs.take i) ∧ stockR (nmsOf (rs.take i)) (rs.drop i) = none) ⟨none, none, none, rfl, sb0, hp0, ⟨[], hd0, rfl, fun j t e => by simp at e⟩, by rw [List.take_zero, List.drop_zero]; exact hstk⟩ (fun i σ H' _ h_ => by obtain ⟨v1, v2, v3, _, sb, _⟩ := h_; exact SqL.but sb hp hrs) ?_ ?_
    · rintro i x σ H' hx ⟨v1, v2, v3, rfl, sb, hp', ⟨kvs, hd', hk, hm⟩, hst⟩
      rw [List.getElem?_map] at hx
      cases ht : rs[i]? with
      | none => rw [ht] at hx; cases hx
      | some t =>
        rw [ht] at hx
        simp only [Option.map_some, Option.some.injEq] at hx
        subst hx
        have hi : i < rs.length := (List.getElem?_eq_some_iff.mp ht).1
        have r1 := SqT.but sb hp (hall t (List.mem_of_getElem? ht))
        rw [stockR_step ht] at hst
        have hkl : kvs.length = i := by
          have := congrArg List.length hk
          simp [nmsOf] at this; omega
        cases hrow : rowR (nmsOf (rs.take i)) t.2.1 t.2.2.1 t.2.2.2 with
        | some e => rw [hrow] at hst; cases hst
        | none =>
          rw [hrow] at hst
          obtain ⟨z, c, q', e1, e2, e3, nz, hb, _⟩ := rowR_none hrow
          walk_at "go"
          refine ⟨_, r1, rfl, ?_⟩
          walk_at "go"
          refine ⟨xStock, dx, flds d, hp', T.cl_Stock, T.n_Stock_things, _, flds_things, d, rfl, kvs, hd', _, hk, hrow, fun H1 sm1 => ?_⟩
          rw [e1, e2, e3]
          have hp1 := sm1 _ _ hp'
          have hd1 := sm1 _ _ hd'
          walk_at "go"
          refine ⟨xStock, dx, flds d, hp1, T.cl_Stock, T.n_Stock_things, _, flds_things, ?_⟩
          walk_at "go"
          refine ⟨kvs, hd1, by omega, fun t2 ht2 => ?_⟩
          have np2 : p ≠ t2 := ne_of_none hp1 ht2
          have nd2 : d ≠ t2 := ne_of_none hd1 ht2
          have hd2 : upd H1 t2 (.tup [.int kvs.length, .int c, .int q']) d = some (.dK kvs) := by rw [upd_ne nd2]; exact hd1
          refine ⟨xStock, dx, flds d, by rw [upd_ne np2]; exact hp1, T.cl_Stock, T.n_Stock_things, _, flds_things, d, rfl, _, DPut.k (k := Sum.inr z) hd2 (by omega), ?_, ?_, ?_, ?_⟩
          · intro b o eb nb
            have h1 := sm1 _ _ (sb b o eb nb)
            rw [upd_ne (ne_of_none eb hd), upd_ne (ne_of_none h1 ht2)]
            exact h1
          · rw [upd_ne npd, upd_ne np2]; exact hp1
          · rw [List.take_add_one, ht]
            refine MidAt.snoc hd2 hk (fun j t' e => ?_) e1 e2 e3 nz upd_same
            obtain ⟨a, q1, q2⟩ := hm j t' e
            exact ⟨a, q1, (sm1.trans (Same.new ht2)).tup q2⟩
          · rw [List.take_add_one, ht]
            have e : nmsOf (rs.take kvs.length ++ (some t).toList) = nmsOf (rs.take kvs.length) ++ [sOf t.2.1] := by unfold nmsOf; simp
            rw [e]; exact hst
    · rintro σ H' ⟨v1, v2, v3, rfl, sb, hp', ⟨kvs, hd', hk, hm⟩, hst⟩
      simp only [List.length_map, List.take_length, List.drop_length] at hk hm hst
      show Q V.non H'
      refine q _ sb ⟨dx, d, kvs, hp', hd', ?_, fun i t ht => ?_⟩
      · rw [hk]; unfold nmsOf; rw [List.map_map, List.map_map]; rfl
      · rw [List.getElem?_map] at ht
        cases hr : rs[i]? with
        | none => rw [hr] at ht; cases ht
        | some t' =>
          rw [hr] at ht
          simp only [Option.map_some, Option.some.injEq] at ht
          subst ht
          exact hm i t' hr
theorem ok_Stock_has {f : Addr} {fd : FuncData} (F : Fun K "has" "Stock.has" s_Stock_has f fd) (T : Txt K mg xStock xRule xRanked xOldest xFirst xHalving xFarthest)  : FnOk P w K mg base CX0 1 f fd ["self", "name"] (sp_has K xStock) := by
  have sc : FnScope ["self", "name"] ["self", "name"] (defScope s_Stock_has) := ⟨rfl, rfl, rfl, by decide +kernel, rfl, by decide +kernel, by decide +kernel⟩
  refine F.ok sc (fun vs H Q E h => ?_) (fun cdv A outer s H vs Q E hr h => ?_)
  · obtain ⟨p, ts, z, rfl, hs, q⟩ := h; rfl
  obtain ⟨p, ts, z, rfl, hs, q⟩ := h
  refine ⟨_, (@pss_one _ _ _ (@ps_ret _ _ _ _ (pe_cmp (pc_din (hu_of hr) (pv 1) (pe_fld (pv 0) rfl))))), ?_⟩
  rw [show start ["self", "name"] [V.ref p, V.str z] = [some (V.ref p), some (V.str z)] from rfl]
  obtain ⟨dx, d, kvs, h1, h2, h3, h4, h5⟩ := StockAt.has hs
  walk_at "go"
  refine ⟨xStock, dx, flds d, h1, T.cl_Stock, T.n_Stock_things, _, flds_things, d, rfl, _, DGet.k (k := Sum.inr z) h2, ?_⟩
  rw [h4]
  exact q
theorem ok_Stock_thing_of {f : Addr} {fd : FuncData} (F : Fun K "thing_of" "Stock.thing_of" s_Stock_thing_of f fd) (T : Txt K mg xStock xRule xRanked xOldest xFirst xHalving xFarthest)  : FnOk P w K mg base CX0 1 f fd ["self", "name"] (sp32_thing K xStock) := by
  have sc : FnScope ["self", "name"] ["self", "name"] (defScope s_Stock_thing_of) := ⟨rfl, rfl, rfl, by decide +kernel, rfl, by decide +kernel, by decide +kernel⟩
  refine F.ok sc (fun vs H Q E h => ?_) (fun cdv A outer s H vs Q E hr h => ?_)
  · obtain ⟨p, ts, z, rfl, hs, nd, hz, q⟩ := h; rfl
  obtain ⟨p, ts, z, rfl, hs, nd, hz, q⟩ := h
  refine ⟨_, (@pss_cons _ _ _ _ _ (ps_if (pt_cmp (pc_dnotin (hu_of hr) (pv 1) (pe_fld (pv 0) rfl)))
      (@pss_one _ _ _ ps_never)
      pss_nil)
    (@pss_one _ _ _ (@ps_ret _ _ _ _ (pe_dget (hu_of hr) (pe_fld (pv 0) rfl) (pv 1) (fun _ _ => rfl))))), ?_⟩
  rw [show start ["self", "name"] [V.ref p, V.str z] = [some (V.ref p), some (V.str z)] from rfl]
  obtain ⟨dx, d, kvs, h1, h2, h3, h4, h5⟩ := StockAt.has hs
  have line := line_val
  walk_at "go"
  refine ⟨xStock, dx, flds d, h1, T.cl_Stock, T.n_Stock_things, _, flds_things, d, rfl, _, DGet.k (k := Sum.inr z) h2, ?_⟩
  rw [h4, decide_eq_true hz]
  obtain ⟨i, t, ht, rfl⟩ := mem_nth hz
  obtain ⟨a, e1, e2⟩ := h5 nd i t ht
  walk_at "go"
  refine ⟨xStock, dx, flds d, h1, T.cl_Stock, T.n_Stock_things, _, flds_things, ?_⟩
  walk_at "go"
  refine ⟨V.ref a, by rw [← e1]; exact DGet.k (k := Sum.inr t.1) h2, ?_⟩
  exact q i t ht rfl a e2
theorem ok_Stock_room_of {f : Addr} {fd : FuncData} (F : Fun K "room_of" "Stock.room_of" s_Stock_room_of f fd) (T : Txt K mg xStock xRule xRanked xOldest xFirst xHalving xFarthest) (D_Stock_thing_of : DefM P w K mg base CX0 1 xStock "thing_of" ["self", "name"] (sp32_thing K xStock)) : FnOk P w K mg base CX0 2 f fd ["self", "name"] (sp32_room K xStock) := by
  have sc : FnScope ["self", "name"] ["self", "name"] (defScope s_Stock_room_of) := ⟨rfl, rfl, rfl, by decide +kernel, rfl, by decide +kernel, by decide +kernel⟩
  refine F.ok sc (fun vs H Q E h => ?_) (fun cdv A outer s H vs Q E hr h => ?_)
  · obtain ⟨p, ts, z, rfl, hs, nd, hz, q⟩ := h; rfl
  obtain ⟨p, ts, z, rfl, hs, nd, hz, q⟩ := h
  refine ⟨_, (@pss_one _ _ _ (@ps_ret _ _ _ _ (@pe_ix _ _ _ _ _ _ _ ix_tup (pe_methS D_Stock_thing_of T.cl_Stock hr (passS pass0) (pv 0) (pa_cons (pv 1) pa_nil)) pe_int (fun _ _ => rfl)))), ?_⟩
  rw [show start ["self", "name"] [V.ref p, V.str z] = [some (V.ref p), some (V.str z)] from rfl]
  obtain ⟨dx, d, kvs, h1, h2, h3, h4, h5⟩ := StockAt.has hs
  walk_at "go"
  refine ⟨dx, flds d, h1, by rfl, ?_⟩
  walk_at "go"
  refine ⟨ts, hs, nd, hz, fun i t ht e a ha => ?_⟩
  subst e
  refine ixT_of ha rfl ?_
  rw [rm_at nd ht] at q
  exact q
theorem ok_check_asks {f : Addr} {fd : FuncData} (F : Fun K "check_asks" "check_asks" s_check_asks f fd) (T : Txt K mg xStock xRule xRanked xOldest xFirst xHalving xFarthest) (D_check_places : Def P w K mg base CX0 3 "check_places" ["places"] (sp32_check)) (D_Stock_has : DefM P w K mg base CX0 1 xStock "has" ["self", "name"] (sp_has K xStock)) (D_Stock_room_of : DefM P w K mg base CX0 2 xStock "room_of" ["self", "name"] (sp32_room K xStock)) : FnOk P w K mg base CX0 4 f fd ["stock", "asks", "places"] (N41.sp41_asks K xStock) := by
  have sc : FnScope ["stock", "asks", "places", "number", "name"] ["stock", "asks", "places"] (defScope s_check_asks) := ⟨rfl, rfl, rfl, by decide +kernel, rfl, by decide +kernel, by decide +kernel⟩
  refine F.ok sc (fun vs H Q E h => ?_) (fun cdv A outer s H vs Q E hr h => ?_)
  · obtain ⟨p, a, pl, ts, ys, rfl, hs, nd, hS, hl, hin, hw, h1, h2, q⟩ := h; rfl
  obtain ⟨p, a, pl, ts, ys, rfl, hs, nd, hS, hl, hin, hw, h1, h2, q⟩ := h
  refine ⟨_, (@pss_cons _ _ _ _ _ (ps_expr (pe_callD D_check_places hr rfl pass0 (pa_cons (pv 2) pa_nil)))
    (@pss_cons _ _ _ _ _ (ps_if (pt_cmpR op_gt (pe_callB call_len_seq rfl T.z_len PySem.boot_len (pa_cons (pv 1) pa_nil)) (pe_gint rfl T.g_MOST_ASKS) (nomark _))
      (@pss_one _ _ _ ps_never)
      pss_nil)
    (@pss_cons _ _ _ _ _ (ps_for PassesOwn.never rfl (pi_enum rfl T.z_enumerate (pa_cons (pv 1) pa_nil)) (pg_tup rfl (pgs_cons (pg_name (i := 3) sc.nd rfl (Or.inl rfl)) (pgs_cons (pg_name (i := 4) sc.nd rfl (Or.inl rfl)) pgs_nil)))
      (@pss_cons _ _ _ _ _ (ps_if (pt_not (pt_val (pe_methS D_Stock_has T.cl_Stock hr (passS pass0) (pv 0) (pa_cons (pv 4) pa_nil))))
        (@pss_one _ _ _ ps_never)
        pss_nil)
      (@pss_one _ _ _ (ps_if (pt_cmpR op_gt (pe_methS D_Stock_room_of T.cl_Stock hr (passS pass0) (pv 0) (pa_cons (pv 4) pa_nil)) (pv 2) (nomark _))
        (@pss_one _ _ _ ps_never)
        pss_nil))))
    (@pss_one _ _ _ (@ps_ret _ _ _ _ pe_bl))))), ?_⟩
  rw [show start ["stock", "asks", "places", "number", "name"] [V.ref p, V.ref a, V.int pl] = [some (V.ref p), some (V.ref a), some (V.int pl), none, none] from rfl]
  have line := line_val
  walk_at "go"
  rw [List.length_map, if_neg (by omega)]
  walk_at "go"
  refine ⟨⟨_, hS⟩, ?_⟩
  rename_i rest hrest
  refine forE_by (xs := ys.map V.str) (fun i σ H' => ∃ v3 v4, σ = [some (V.ref p), some (V.ref a), some (V.int pl), v3, v4] ∧ Same H H') ⟨none, none, rfl, Same.refl _⟩ (fun i σ H' _ ⟨v3, v4, _, sm⟩ => sm.seq hS) ?_ ?_
  · rintro i x σ H' t hx ⟨v3, v4, rfl, sm⟩ ht
    rw [List.getElem?_map] at hx
    cases hy : ys[i]? with
    | none => rw [hy] at hx; cases hx
    | some y =>
      rw [hy] at hx
      cases hx
      have hyin := hin y (List.mem_of_getElem? hy)
      walk_at "go"
      refine ⟨_, SqT.of upd_same, rfl, _, _, rfl, _, _, rfl, rfl, ?_⟩
      have sm2 := sm.trans (Same.new (o := .tup [.int i, .str y]) ht)
      generalize upd H' t (.tup [.int i, .str y]) = H2 at sm2 ⊢
      have hs2 := StockAt.same sm2 hs
      obtain ⟨dx, d, kvs, g1, g2, _⟩ := StockAt.has hs2
      walk_at "go"
      refine ⟨dx, flds d, g1, by rfl, ts, hs2, ?_⟩
      rw [if_neg (fun h => h hyin)]
      walk_at "go"
      refine ⟨dx, flds d, g1, by rfl, ts, hs2, nd, hyin, ?_⟩
      rw [if_neg (by have := hw y (List.mem_of_getElem? hy); omega)]
      exact sm2
  · rintro σ H' ⟨v3, v4, rfl, sm⟩
    walk_at "go"
    exact q _ sm
theorem ok_Rule_init {f : Addr} {fd : FuncData} (F : Fun K "__init__" "Rule.__init__" s_Rule_init f fd) (T : Txt K mg xStock xRule xRanked xOldest xFirst xHalving xFarthest) (D_check_places : Def P w K mg base CX0 3 "check_places" ["places"] (sp32_check)) : FnOk P w K mg base CX0 4 f fd ["self", "stock", "places"] (sp29_rinit (C5.mk xRanked xOldest xFirst xHalving xFarthest)) := by
  have sc : FnScope ["self", "stock", "places"] ["self", "stock", "places"] (defScope s_Rule_init) := ⟨rfl, rfl, rfl, by decide +kernel, rfl, by decide +kernel, by decide +kernel⟩
  refine F.ok sc (fun vs H Q E h => ?_) (fun cdv A outer s H vs Q E hr h => ?_)
  · obtain ⟨w5, q', dx, p, n, rfl, hq, h1, h2, q⟩ := h; rfl
  obtain ⟨w5, q', dx, p, n, rfl, hq, h1, h2, q⟩ := h
  refine ⟨_, (@pss_cons _ _ _ _ _ (ps_expr (pe_callD D_check_places hr rfl pass0 (pa_cons (pv 2) pa_nil)))
    (@pss_cons _ _ _ _ _ (ps_fld (pv 0) (pv 1) rfl)
    (@pss_one _ _ _ (ps_fld (pv 0) (pv 2) rfl)))), ?_⟩
  rw [show start ["self", "stock", "places"] [V.ref q', V.ref p, V.int n] = [some (V.ref q'), some (V.ref p), some (V.int n)] from rfl]
  have hcl : ∀ w, Cls K (W5.C (C5.mk xRanked xOldest xFirst xHalving xFarthest) w) := fun w => by cases w; exact T.cl_Ranked; exact T.cl_Oldest; exact T.cl_First; exact T.cl_Halving; exact T.cl_Farthest
  have hn_stock : ∀ w, NoAttr K (W5.C (C5.mk xRanked xOldest xFirst xHalving xFarthest) w) "stock" := fun w => by cases w; exact T.n_Ranked_stock; exact T.n_Oldest_stock; exact T.n_First_stock; exact T.n_Halving_stock; exact T.n_Farthest_stock
  have hn_places : ∀ w, NoAttr K (W5.C (C5.mk xRanked xOldest xFirst xHalving xFarthest) w) "places" := fun w => by cases w; exact T.n_Ranked_places; exact T.n_Oldest_places; exact T.n_First_places; exact T.n_Halving_places; exact T.n_Farthest_places
  walk_at "go"
  refine ⟨_, dx, [], hq, hcl w5, hn_stock w5, by decide, ?_⟩
  walk_at "go"
  refine ⟨_, dx, _, upd_same, hcl w5, hn_places w5, by simp [putF], ?_⟩
  walk_at "go"
  exact q _ (fun b o e nb => by rw [upd_ne nb]; exact e) upd_same
theorem ok_Ranked_init {f : Addr} {fd : FuncData} (F : Fun K "__init__" "Ranked.__init__" s_Ranked_init f fd) (T : Txt K mg xStock xRule xRanked xOldest xFirst xHalving xFarthest) (D_Rule_init : DefB P w K mg base CX0 4 "Rule" xRule ["self", "stock", "places"] (sp29_rinit (C5.mk xRanked xOldest xFirst xHalving xFarthest))) : FnOk P w K mg base CX0 5 f fd ["self", "stock", "places"] (sp29_kinit (C5.mk xRanked xOldest xFirst xHalving xFarthest)) := by
  have sc : FnScope ["self", "stock", "places"] ["self", "stock", "places"] (defScope s_Ranked_init) := ⟨rfl, rfl, rfl, by decide +kernel, rfl, by decide +kernel, by decide +kernel⟩
  refine F.ok sc (fun vs H Q E h => ?_) (fun cdv A outer s H vs Q E hr h => ?_)
  · obtain ⟨w5, q', dx, p, n, rfl, hq, h1, h2, q⟩ := h; rfl
  obtain ⟨w5, q', dx, p, n, rfl, hq, h1, h2, q⟩ := h
  refine ⟨_, (@pss_cons _ _ _ _ _ (ps_expr (pe_initC D_Rule_init hr (passS pass0) (pe_glob (v := .ref xRule) rfl T.c_Rule rfl) (pa_cons (pv 0) (pa_cons (pv 1) (pa_cons (pv 2) pa_nil)))))
    (@pss_cons _ _ _ _ _ (ps_fld (pv 0) pe_int rfl)
    (@pss_one _ _ _ (ps_fld (pv 0) pe_dnewK rfl)))), ?_⟩
  rw [show start ["self", "stock", "places"] [V.ref q', V.ref p, V.int n] = [some (V.ref q'), some (V.ref p), some (V.int n)] from rfl]
  have line := line_val
  have hcl : ∀ w, Cls K (W5.C (C5.mk xRanked xOldest xFirst xHalving xFarthest) w) := fun w => by cases w; exact T.cl_Ranked; exact T.cl_Oldest; exact T.cl_First; exact T.cl_Halving; exact T.cl_Farthest
  have hn_present : ∀ w, NoAttr K (W5.C (C5.mk xRanked xOldest xFirst xHalving xFarthest) w) "present" := fun w => by cases w; exact T.n_Ranked_present; exact T.n_Oldest_present; exact T.n_First_present; exact T.n_Halving_present; exact T.n_Farthest_present
  have hn_last : ∀ w, NoAttr K (W5.C (C5.mk xRanked xOldest xFirst xHalving xFarthest) w) "last" := fun w => by cases w; exact T.n_Ranked_last; exact T.n_Oldest_last; exact T.n_First_last; exact T.n_Halving_last; exact T.n_Farthest_last
  walk_at "go"
  refine ⟨w5, dx, hq, h1, h2, fun H1 sb1 hq1 => ?_⟩
  have hcl5 := hcl w5
  have hpr5 := hn_present w5
  have hla5 := hn_last w5
  generalize W5.C (C5.mk xRanked xOldest xFirst xHalving xFarthest) w5 = X5 at hcl5 hpr5 hla5 hq hq1 q ⊢
  rename_i rest hrest
  subst hrest
  walk_at "go"
  refine ⟨X5, dx, _, hq1, hcl5, hpr5, by rw [show (rf0 p n).length = 2 from rfl]; decide, ?_⟩
  have sb2 : SameBut q' H1 (upd H1 q' (.ins X5 dx (putF "present" (V.int 0) (rf0 p n)))) := fun b o e nb => by rw [upd_ne nb]; exact e
  have hq2 : upd H1 q' (.ins X5 dx (putF "present" (V.int 0) (rf0 p n))) q' = some (.ins X5 dx (putF "present" (V.int 0) (rf0 p n))) := upd_same
  generalize upd H1 q' (.ins X5 dx (putF "present" (V.int 0) (rf0 p n))) = H2 at sb2 hq2 ⊢
  rename_i rest hrest
  subst hrest
  walk_at "go"
  intro la hla
  have n1 : la ≠ q' := fun e => by rw [e, hq2] at hla; cases hla
  refine ⟨X5, dx, _, by rw [upd_ne n1.symm]; exact hq2, hcl5, hla5, by rw [show (putF "present" (V.int 0) (rf0 p n)).length = 3 from rfl]; decide, ?_⟩
  have sb12 := sb1.trans sb2
  have hla0 : H la = none := by
    cases e2 : H la with
    | none => rfl
    | some o => rw [sb12 _ _ e2 n1] at hla; cases hla
  walk_at "go"
  exact q _ la (fun b o e nb => by rw [upd_ne nb, upd_ne (fun e2 => by rw [e2, hla0] at e; cases e)]; exact sb12 _ _ e nb) hla0 n1 upd_same (by rw [upd_ne n1, upd_same])
theorem ok_Oldest_init {f : Addr} {fd : FuncData} (F : Fun K "__init__" "Ranked.__init__" s_Oldest_init f fd) (T : Txt K mg xStock xRule xRanked xOldest xFirst xHalving xFarthest) (D_Rule_init : DefB P w K mg base CX0 4 "Rule" xRule ["self", "stock", "places"] (sp29_rinit (C5.mk xRanked xOldest xFirst xHalving xFarthest))) : FnOk P w K mg base CX0 5 f fd ["self", "stock", "places"] (sp29_kinit (C5.mk xRanked xOldest xFirst xHalving xFarthest)) := by
  have sc : FnScope ["self", "stock", "places"] ["self", "stock", "places"] (defScope s_Oldest_init) := ⟨rfl, rfl, rfl, by decide +kernel, rfl, by decide +kernel, by decide +kernel⟩
  refine F.ok sc (fun vs H Q E h => ?_) (fun cdv A outer s H vs Q E hr h => ?_)
  · obtain ⟨w5, q', dx, p, n, rfl, hq, h1, h2, q⟩ := h; rfl
  obtain ⟨w5, q', dx, p, n, rfl, hq, h1, h2, q⟩ := h
  refine ⟨_, (@pss_cons _ _ _ _ _ (ps_expr (pe_initC D_Rule_init hr (passS pass0) (pe_glob (v := .ref xRule) rfl T.c_Rule rfl) (pa_cons (pv 0) (pa_cons (pv 1) (pa_cons (pv 2) pa_nil)))))
    (@pss_cons _ _ _ _ _ (ps_fld (pv 0) pe_int rfl)
    (@pss_one _ _ _ (ps_fld (pv 0) pe_dnewK rfl)))), ?_⟩
  rw [show start ["self", "stock", "places"] [V.ref q', V.ref p, V.int n] = [some (V.ref q'), some (V.ref p), some (V.int n)] from rfl]
  have line := line_val
  have hcl : ∀ w, Cls K (W5.C (C5.mk xRanked xOldest xFirst xHalving xFarthest) w) := fun w => by cases w; exact T.cl_Ranked; exact T.cl_Oldest; exact T.cl_First; exact T.cl_Halving; exact T.cl_Farthest
  have hn_present : ∀ w, NoAttr K (W5.C (C5.mk xRanked xOldest xFirst xHalving xFarthest) w) "present" := fun w => by cases w; exact T.n_Ranked_present; exact T.n_Oldest_present; exact T.n_First_present; exact T.n_Halving_present; exact T.n_Farthest_present
  have hn_last : ∀ w, NoAttr K (W5.C (C5.mk xRanked xOldest xFirst xHalving xFarthest) w) "last" := fun w => by cases w; exact T.n_Ranked_last; exact T.n_Oldest_last; exact T.n_First_last; exact T.n_Halving_last; exact T.n_Farthest_last
  walk_at "go"
  refine ⟨w5, dx, hq, h1, h2, fun H1 sb1 hq1 => ?_⟩
  have hcl5 := hcl w5
  have hpr5 := hn_present w5
  have hla5 := hn_last w5
  generalize W5.C (C5.mk xRanked xOldest xFirst xHalving xFarthest) w5 = X5 at hcl5 hpr5 hla5 hq hq1 q ⊢
  rename_i rest hrest
  subst hrest
  walk_at "go"
  refine ⟨X5, dx, _, hq1, hcl5, hpr5, by rw [show (rf0 p n).length = 2 from rfl]; decide, ?_⟩
  have sb2 : SameBut q' H1 (upd H1 q' (.ins X5 dx (putF "present" (V.int 0) (rf0 p n)))) := fun b o e nb => by rw [upd_ne nb]; exact e
  have hq2 : upd H1 q' (.ins X5 dx (putF "present" (V.int 0) (rf0 p n))) q' = some (.ins X5 dx (putF "present" (V.int 0) (rf0 p n))) := upd_same
  generalize upd H1 q' (.ins X5 dx (putF "present" (V.int 0) (rf0 p n))) = H2 at sb2 hq2 ⊢
  rename_i rest hrest
  subst hrest
  walk_at "go"
  intro la hla
  have n1 : la ≠ q' := fun e => by rw [e, hq2] at hla; cases hla
  refine ⟨X5, dx, _, by rw [upd_ne n1.symm]; exact hq2, hcl5, hla5, by rw [show (putF "present" (V.int 0) (rf0 p n)).length = 3 from rfl]; decide, ?_⟩
  have sb12 := sb1.trans sb2
  have hla0 : H la = none := by
    cases e2 : H la with
    | none => rfl
    | some o => rw [sb12 _ _ e2 n1] at hla; cases hla
  walk_at "go"
  exact q _ la (fun b o e nb => by rw [upd_ne nb, upd_ne (fun e2 => by rw [e2, hla0] at e; cases e)]; exact sb12 _ _ e nb) hla0 n1 upd_same (by rw [upd_ne n1, upd_same])
theorem ok_First_init {f : Addr} {fd : FuncData} (F : Fun K "__init__" "First.__init__" s_First_init f fd) (T : Txt K mg xStock xRule xRanked xOldest xFirst xHalving xFarthest) (D_Ranked_init : DefB P w K mg base CX0 5 "Ranked" xRanked ["self", "stock", "places"] (sp29_kinit (C5.mk xRanked xOldest xFirst xHalving xFarthest))) : FnOk P w K mg base CX0 6 f fd ["self", "stock", "places"] (sp22_init xFirst) := by
  have sc : FnScope ["self", "stock", "places"] ["self", "stock", "places"] (defScope s_First_init) := ⟨rfl, rfl, rfl, by decide +kernel, rfl, by decide +kernel, by decide +kernel⟩
  refine F.ok sc (fun vs H Q E h => ?_) (fun cdv A outer s H vs Q E hr h => ?_)
  · obtain ⟨q', dx, p, n, rfl, hq, h1, h2, q⟩ := h; rfl
  obtain ⟨q', dx, p, n, rfl, hq, h1, h2, q⟩ := h
  refine ⟨_, (@pss_cons _ _ _ _ _ (ps_expr (pe_initC D_Ranked_init hr (passS pass0) (pe_glob (v := .ref xRanked) rfl T.c_Ranked rfl) (pa_cons (pv 0) (pa_cons (pv 1) (pa_cons (pv 2) pa_nil)))))
    (@pss_one _ _ _ (ps_fld (pv 0) pe_dnewK rfl))), ?_⟩
  rw [show start ["self", "stock", "places"] [V.ref q', V.ref p, V.int n] = [some (V.ref q'), some (V.ref p), some (V.int n)] from rfl]
  have line := line_val
  walk_at "go"
  refine ⟨W5.fi, dx, hq, h1, h2, fun H1 la sb1 hla n1 hq1' hl1 => ?_⟩
  have hq1 : H1 q' = some (.ins xFirst dx (putF "last" (V.ref la) (putF "present" (V.int 0) (rf0 p n)))) := hq1'
  clear hq1'
  rename_i rest hrest
  subst hrest
  walk_at "go"
  intro pa hpa
  have n2 : pa ≠ q' := fun e => by rw [e, hq1] at hpa; cases hpa
  have n3 : la ≠ pa := fun e => by rw [← e, hl1] at hpa; cases hpa
  refine ⟨xFirst, dx, _, by rw [upd_ne n2.symm]; exact hq1, T.cl_First, T.n_First_put_at, by rw [show (putF "last" (V.ref la) (putF "present" (V.int 0) (rf0 p n))).length = 4 from rfl]; decide, ?_⟩
  have hpa0 : H pa = none := by
    cases e2 : H pa with
    | none => rfl
    | some o => rw [sb1 _ _ e2 n2] at hpa; cases hpa
  walk_at "go"
  exact q _ la pa (fun b o e nb => by rw [upd_ne nb, upd_ne (fun e2 => by rw [e2, hpa0] at e; cases e)]; exact sb1 _ _ e nb) hla hpa0 ⟨la, pa, rfl, n3, ⟨dx, upd_same⟩, by rw [upd_ne n1, upd_ne n3]; exact hl1, by rw [upd_ne n2, upd_same]⟩
theorem ok_Halving_init {dtk : Tok} {f : Addr} {fd : FuncData} (F : FunD K "__init__" "Halving.__init__" s_Halving_init f fd [.int 8 dtk]) (T : Txt K mg xStock xRule xRanked xOldest xFirst xHalving xFarthest) (D_is_within : Def P w K mg base CX0 2 "is_within" ["thing", "least", "most"] (sp_within K)) (D_Ranked_init : DefB P w K mg base CX0 5 "Ranked" xRanked ["self", "stock", "places"] (sp29_kinit (C5.mk xRanked xOldest xFirst xHalving xFarthest))) : FnOk P w K mg base CX0 6 f fd ["self", "stock", "places", "turn"] (sp23_init xHalving) := by
  have sc : FnScope ["self", "stock", "places", "turn"] ["self", "stock", "places", "turn"] (defScope s_Halving_init) := ⟨rfl, rfl, rfl, by decide +kernel, rfl, by decide +kernel, by decide +kernel⟩
  refine F.ok sc (fun vs H Q E h => ?_) (fun cdv A outer s H vs Q E hr h => ?_)
  · obtain ⟨q', dx, p, n, e, rfl, hq, h1, h2, h3, h4, q⟩ := h; rfl
  obtain ⟨q', dx, p, n, e, rfl, hq, h1, h2, h3, h4, q⟩ := h
  refine ⟨_, (@pss_cons _ _ _ _ _ (ps_expr (pe_initC D_Ranked_init hr (passS pass0) (pe_glob (v := .ref xRanked) rfl T.c_Ranked rfl) (pa_cons (pv 0) (pa_cons (pv 1) (pa_cons (pv 2) pa_nil)))))
    (@pss_cons _ _ _ _ _ (ps_if (pt_not (pt_val (pe_callD D_is_within hr rfl pass0 (pa_cons (pv 3) (pa_cons pe_int (pa_cons (pe_gint rfl T.g_MOST_TURN) pa_nil))))))
      (@pss_one _ _ _ ps_never)
      pss_nil)
    (@pss_cons _ _ _ _ _ (ps_fld (pv 0) (pv 3) rfl)
    (@pss_one _ _ _ (ps_fld (pv 0) pe_dnewK rfl))))), ?_⟩
  rw [show start ["self", "stock", "places", "turn"] [V.ref q', V.ref p, V.int n, V.int e] = [some (V.ref q'), some (V.ref p), some (V.int n), some (V.int e)] from rfl]
  have line := line_val
  walk_at "go"
  refine ⟨W5.ha, dx, hq, h1, h2, fun H1 la sb1 hla n1 hq1 hl1 => ?_⟩
  have hq1' : H1 q' = some (.ins xHalving dx (rf2 p n 0 la)) := hq1
  clear hq1
  rename_i rest hrest
  subst hrest
  walk_at "go"
  rw [if_neg (by rw [wIn_ok h3 h4]; decide)]
  refine ⟨rfl, ?_⟩
  walk_at "go"
  refine ⟨xHalving, dx, _, hq1', T.cl_Halving, T.n_Halving_turn, by rw [rf2_len]; decide, ?_⟩
  have sb2 : SameBut q' H1 (upd H1 q' (.ins xHalving dx (putF "turn" (V.int e) (rf2 p n 0 la)))) := fun b o e nb => by rw [upd_ne nb]; exact e
  have hq2 : upd H1 q' (.ins xHalving dx (putF "turn" (V.int e) (rf2 p n 0 la))) q' = some (.ins xHalving dx (putF "turn" (V.int e) (rf2 p n 0 la))) := upd_same
  have hl2 : upd H1 q' (.ins xHalving dx (putF "turn" (V.int e) (rf2 p n 0 la))) la = some (.dK []) := by rw [upd_ne n1]; exact hl1
  generalize upd H1 q' (.ins xHalving dx (putF "turn" (V.int e) (rf2 p n 0 la))) = H2 at sb2 hq2 hl2 ⊢
  rename_i rest hrest
  subst hrest
  walk_at "go"
  intro ta hta
  have n2 : ta ≠ q' := fun e => by rw [e, hq2] at hta; cases hta
  have n3 : la ≠ ta := fun e => by rw [← e, hl2] at hta; cases hta
  refine ⟨xHalving, dx, _, by rw [upd_ne n2.symm]; exact hq2, T.cl_Halving, T.n_Halving_tally, by rw [show (putF "turn" (V.int e) (rf2 p n 0 la)).length = 5 from rfl]; decide, ?_⟩
  have sb12 := sb1.trans sb2
  have hta0 : H ta = none := by
    cases e2 : H ta with
    | none => rfl
    | some o => rw [sb12 _ _ e2 n2] at hta; cases hta
  walk_at "go"
  exact q _ la ta (fun b o e nb => by rw [upd_ne nb, upd_ne (fun e2 => by rw [e2, hta0] at e; cases e)]; exact sb12 _ _ e nb) hla hta0 ⟨la, ta, rfl, ⟨dx, upd_same⟩, by rw [upd_ne n1, upd_ne n3]; exact hl2, by rw [upd_ne n2, upd_same]; rfl, n3⟩
theorem ok_Farthest_init {f : Addr} {fd : FuncData} (F : Fun K "__init__" "Farthest.__init__" s_Farthest_init f fd) (T : Txt K mg xStock xRule xRanked xOldest xFirst xHalving xFarthest) (D_check_asks : Def P w K mg base CX0 4 "check_asks" ["stock", "asks", "places"] (N41.sp41_asks K xStock)) (D_Ranked_init : DefB P w K mg base CX0 5 "Ranked" xRanked ["self", "stock", "places"] (sp29_kinit (C5.mk xRanked xOldest xFirst xHalving xFarthest))) : FnOk P w K mg base CX0 6 f fd ["self", "stock", "places", "asks"] (sp24_init K xStock xFarthest) := by
  have sc : FnScope ["self", "stock", "places", "asks"] ["self", "stock", "places", "asks"] (defScope s_Farthest_init) := ⟨rfl, rfl, rfl, by decide +kernel, rfl, by decide +kernel, by decide +kernel⟩
  refine F.ok sc (fun vs H Q E h => ?_) (fun cdv A outer s H vs Q E hr h => ?_)
  · obtain ⟨q', dx, p, a, n, ts, ys, rfl, hq, hsto, nd, ha, hlen, hin, hrm, h1, h2, naq, q⟩ := h; rfl
  obtain ⟨q', dx, p, a, n, ts, ys, rfl, hq, hsto, nd, ha, hlen, hin, hrm, h1, h2, naq, q⟩ := h
  refine ⟨_, (@pss_cons _ _ _ _ _ (ps_expr (pe_callD D_check_asks hr rfl pass0 (pa_cons (pv 1) (pa_cons (pv 3) (pa_cons (pv 2) pa_nil)))))
    (@pss_cons _ _ _ _ _ (ps_expr (pe_initC D_Ranked_init hr (passS pass0) (pe_glob (v := .ref xRanked) rfl T.c_Ranked rfl) (pa_cons (pv 0) (pa_cons (pv 1) (pa_cons (pv 2) pa_nil)))))
    (@pss_one _ _ _ (ps_fld (pv 0) (pe_callTy call_list_of rfl T.z_list (by first | rfl | decide +kernel) (pa_cons (pv 3) pa_nil)) rfl)))), ?_⟩
  rw [show start ["self", "stock", "places", "asks"] [V.ref q', V.ref p, V.int n, V.ref a] = [some (V.ref q'), some (V.ref p), some (V.int n), some (V.ref a)] from rfl]
  have line := line_val
  walk_at "go"
  refine ⟨ts, hsto, nd, ys, ha, hlen, hin, hrm, h1, h2, fun H0 sm0 => ?_⟩
  have hq0 := sm0 _ _ hq
  have ha0 := sm0.seq ha
  rename_i rest hrest
  subst hrest
  walk_at "go"
  refine ⟨W5.fa, dx, hq0, h1, h2, fun H1 la sb1 hla n1 hq1' hl1 => ?_⟩
  have hq1 : H1 q' = some (.ins xFarthest dx (putF "last" (V.ref la) (putF "present" (V.int 0) (rf0 p n)))) := hq1'
  clear hq1'
  have ha1 : SqL K H1 a (ys.map V.str) := by
    rcases ha0 with (h | ⟨o, h⟩) | h
    · exact .inl (.inl (sb1 _ _ h naq))
    · exact .inl (.inr ⟨o, sb1 _ _ h naq⟩)
    · exact .inr h
  rename_i rest hrest
  subst hrest
  walk_at "go"
  intro ak hak
  have n2 : ak ≠ q' := fun e => by rw [e, hq1] at hak; cases hak
  have n3 : la ≠ ak := fun e => by rw [← e, hl1] at hak; cases hak
  refine ⟨xFarthest, dx, _, by rw [upd_ne n2.symm]; exact hq1, T.cl_Farthest, T.n_Farthest_asks, by rw [show (putF "last" (V.ref la) (putF "present" (V.int 0) (rf0 p n))).length = 4 from rfl]; decide, ?_⟩
  have hak0 : H ak = none := by
    cases e2 : H ak with
    | none => rfl
    | some o => rw [sb1 _ _ (sm0 _ _ e2) n2] at hak; cases hak
  exact q _ la ak (fun b o e nb => by rw [upd_ne nb, upd_ne (fun e2 => by rw [e2, hak0] at e; cases e)]; exact sb1 _ _ (sm0 _ _ e) nb) (same_none sm0 hla) hak0 ⟨la, ak, rfl, ⟨dx, upd_same⟩, by rw [upd_ne n1, upd_ne n3]; exact hl1, by rw [upd_ne n2, upd_same]⟩
theorem ok_Ranked_number_ask {f : Addr} {fd : FuncData} (F : Fun K "number_ask" "Ranked.number_ask" s_Ranked_number_ask f fd) (T : Txt K mg xStock xRule xRanked xOldest xFirst xHalving xFarthest)  : FnOk P w K mg base CX0 1 f fd ["self", "name"] (sp21_number xRanked) := by
  have sc : FnScope ["self", "name"] ["self", "name"] (defScope s_Ranked_number_ask) := ⟨rfl, rfl, rfl, by decide +kernel, rfl, by decide +kernel, by decide +kernel⟩
  refine F.ok sc (fun vs H Q E h => ?_) (fun cdv A outer s H vs Q E hr h => ?_)
  · obtain ⟨q', p, n, M, s, z, rfl, hh, hl, q⟩ := h; rfl
  obtain ⟨q', p, n, M, s, z, rfl, hh, hl, q⟩ := h
  refine ⟨_, (@pss_cons _ _ _ _ _ (ps_fldaug (pv 0) pe_int in_add)
    (@pss_one _ _ _ (ps_dput (hu_of hr) (pe_fld (pv 0) rfl) (pv 1) (pe_fld (pv 0) rfl) rfl))), ?_⟩
  rw [show start ["self", "name"] [V.ref q', V.str z] = [some (V.ref q'), some (V.str z)] from rfl]
  have line := line_val
  obtain ⟨la, hM, ⟨dx, ho⟩, hla⟩ := hh
  have hM2 : M = [q', la] ∧ True := ⟨hM, trivial⟩
  clear hM
  have nq1 : q' ≠ la := fun e => by rw [e, hla] at ho; cases ho
  walk_at "go"
  refine ⟨xRanked, dx, _, ho, T.cl_Ranked, T.n_Ranked_present, _, rf2_present, s.k, rfl, dx, _, ho, by rw [rf2_len]; decide, ?_⟩
  have ho1 : upd H q' (.ins xRanked dx (rf2 p n (s.k + 1) la)) q' = some (.ins xRanked dx (rf2 p n (s.k + 1) la)) := upd_same
  have hla1 : upd H q' (.ins xRanked dx (rf2 p n (s.k + 1) la)) la = some (.dK s.la) := by rw [upd_ne nq1.symm]; exact hla
  have kp1 : Kp M H (upd H q' (.ins xRanked dx (rf2 p n (s.k + 1) la))) := (Kp.of (Same.refl H)).upd (by rw [hM2.1]; simp)
  rename_i rest hrest
  show rest _ (upd H q' (.ins xRanked dx (rf2 p n (s.k + 1) la)))
  generalize upd H q' (.ins xRanked dx (rf2 p n (s.k + 1) la)) = H1 at ho1 hla1 kp1 ⊢
  have hlp := length_putK s.la (Sum.inr z : Key) (V.int (s.k + 1))
  subst hrest
  walk_at "go"
  exact ⟨xRanked, dx, _, ho1, T.cl_Ranked, T.n_Ranked_present, _, rf2_present, xRanked, dx, _, ho1, T.cl_Ranked, T.n_Ranked_last, _, rf2_last, la, rfl, _, DPut.k (k := Sum.inr z) hla1 (by omega), q _ (kp1.upd (by rw [hM2.1]; simp)) ⟨la, hM2.1, ⟨dx, by rw [upd_ne nq1]; exact ho1⟩, upd_same⟩⟩
theorem ok_Ranked_asked {f : Addr} {fd : FuncData} (F : Fun K "asked" "Ranked.asked" s_Ranked_asked f fd) (T : Txt K mg xStock xRule xRanked xOldest xFirst xHalving xFarthest) (D_Ranked_number_ask : DefM P w K mg base CX0 1 xRanked "number_ask" ["self", "name"] (sp21_number xRanked)) : FnOk P w K mg base CX0 2 f fd ["self", "name"] (sp29_asked (C5.mk xRanked xOldest xFirst xHalving xFarthest) .ra) := by
  have sc : FnScope ["self", "name"] ["self", "name"] (defScope s_Ranked_asked) := ⟨rfl, rfl, rfl, by decide +kernel, rfl, by decide +kernel, by decide +kernel⟩
  refine F.ok sc (fun vs H Q E h => ?_) (fun cdv A outer s H vs Q E hr h => ?_)
  · obtain ⟨ys, hyl, q', p, n, M, s, l, ns, z, rfl, hh, hi, hz, hns, q⟩ := h; rfl
  obtain ⟨ys, hyl, q', p, n, M, s, l, ns, z, rfl, hh, hi, hz, hns, q⟩ := h
  refine ⟨_, (@pss_one _ _ _ (ps_expr (pe_methS D_Ranked_number_ask T.cl_Ranked hr (passS pass0) (pv 0) (pa_cons (pv 1) pa_nil)))), ?_⟩
  rw [show start ["self", "name"] [V.ref q', V.str z] = [some (V.ref q'), some (V.str z)] from rfl]
  have line := line_val
  have hh' : OAt xRanked H M q' p n s := hh
  obtain ⟨la, hM, ⟨dx, ho⟩, hla⟩ := id hh'
  have hi' : LI ns s l := hi
  have hlen := hi'.a.len
  walk_at "go"
  exact ⟨dx, _, ho, by rfl, p, n, M, s, hh', by omega, fun H1 kp1 h1 => q H1 kp1 h1⟩
theorem ok_Ranked_last_of {f : Addr} {fd : FuncData} (F : Fun K "last_of" "Ranked.last_of" s_Ranked_last_of f fd) (T : Txt K mg xStock xRule xRanked xOldest xFirst xHalving xFarthest)  : FnOk P w K mg base CX0 1 f fd ["self", "name"] (sp29_last2 xRanked) := by
  have sc : FnScope ["self", "name"] ["self", "name"] (defScope s_Ranked_last_of) := ⟨rfl, rfl, rfl, by decide +kernel, rfl, by decide +kernel, by decide +kernel⟩
  refine F.ok sc (fun vs H Q E h => ?_) (fun cdv A outer s H vs Q E hr h => ?_)
  · obtain ⟨q', p, n, M, s, z, ns, rfl, hh, ht, q⟩ := h; rfl
  obtain ⟨q', p, n, M, s, z, ns, rfl, hh, ht, q⟩ := h
  refine ⟨_, (@pss_one _ _ _ (@ps_ret _ _ _ _ (pe_dget2 (hu_of hr) (pe_fld (pv 0) rfl) (pv 1) pe_int ⟨rfl, rfl, rfl, rfl⟩))), ?_⟩
  rw [show start ["self", "name"] [V.ref q', V.str z] = [some (V.ref q'), some (V.str z)] from rfl]
  have line := line_val
  obtain ⟨la, hM, ⟨dx, ho⟩, hla⟩ := hh
  clear hM
  walk_at "go"
  exact ⟨xRanked, dx, _, ho, T.cl_Ranked, T.n_Ranked_last, _, rf2_last, la, rfl, .inl ⟨_, .inl hla⟩, _, DGet.k (k := Sum.inr z) hla, by rw [lv_get ht]; exact q⟩
theorem ok_Ranked_rank {f : Addr} {fd : FuncData} (F : Fun K "rank" "Ranked.rank" s_Ranked_rank f fd) (T : Txt K mg xStock xRule xRanked xOldest xFirst xHalving xFarthest) (D_Ranked_last_of : DefM P w K mg base CX0 1 xRanked "last_of" ["self", "name"] (sp29_last2 xRanked)) : FnOk P w K mg base CX0 2 f fd ["self", "name"] (sp29_rank (C5.mk xRanked xOldest xFirst xHalving xFarthest) .ra) := by
  have sc : FnScope ["self", "name"] ["self", "name"] (defScope s_Ranked_rank) := ⟨rfl, rfl, rfl, by decide +kernel, rfl, by decide +kernel, by decide +kernel⟩
  refine F.ok sc (fun vs H Q E h => ?_) (fun cdv A outer s H vs Q E hr h => ?_)
  · obtain ⟨ys, q', p, n, M, s, z, ns, hyl, rfl, hh, ht, q⟩ := h; rfl
  obtain ⟨ys, q', p, n, M, s, z, ns, hyl, rfl, hh, ht, q⟩ := h
  refine ⟨_, (@pss_one _ _ _ (@ps_ret _ _ _ _ (pe_tup (pa_cons (pe_methS D_Ranked_last_of T.cl_Ranked hr (passS pass0) (pv 0) (pa_cons (pv 1) pa_nil)) pa_nil)))), ?_⟩
  rw [show start ["self", "name"] [V.ref q', V.str z] = [some (V.ref q'), some (V.str z)] from rfl]
  have line := line_val
  have hh' : OAt xRanked H M q' p n s := hh
  obtain ⟨la, hM, ⟨dx, ho⟩, hla⟩ := id hh'
  clear hM
  walk_at "go"
  exact ⟨dx, _, ho, by rfl, p, n, M, s, hh', ns, ht, by omega, fun t ht => q t ht⟩
theorem ok_Ranked_choice {f : Addr} {fd : FuncData} (F : Fun K "choice" "Ranked.choice" s_Ranked_choice f fd) (T : Txt K mg xStock xRule xRanked xOldest xFirst xHalving xFarthest) (D_Ranked_rank : DefV P w K mg base 2 xRanked "rank" ["self", "name"] (sp29_rank (C5.mk xRanked xOldest xFirst xHalving xFarthest) .ra)) : FnOk P w K mg base CX0 4 f fd ["self", "lying"] (sp29_choice (C5.mk xRanked xOldest xFirst xHalving xFarthest) .ra K) := by
  have sc : FnScope ["self", "lying"] ["self", "lying"] (defScope s_Ranked_choice) := ⟨rfl, rfl, rfl, by decide +kernel, rfl, by decide +kernel, by decide +kernel⟩
  refine F.ok sc (fun vs H Q E h => ?_) (fun cdv A outer s H vs Q E hr h => ?_)
  · obtain ⟨ys, q', p, a, n, M, s, l, ns, z, hyl, rfl, hh, hm, ht, hl, ha, ham, hns, hll, q⟩ := h; rfl
  obtain ⟨ys, q', p, a, n, M, s, l, ns, z, hyl, rfl, hh, hm, ht, hl, ha, ham, hns, hll, q⟩ := h
  refine ⟨_, (@pss_one _ _ _ (@ps_ret _ _ _ _ (pe_minK D_Ranked_rank T.cl_Ranked hr rfl T.z_min (by first | rfl | decide +kernel) (pa_cons (pv 1) pa_nil) (pv 0) rfl))), ?_⟩
  rw [show start ["self", "lying"] [V.ref q', V.ref a] = [some (V.ref q'), some (V.ref a)] from rfl]
  have line := line_val
  have hh' : OAt xRanked H M q' p n s := hh
  obtain ⟨la, hM, ⟨dx, ho⟩, hla⟩ := id hh'
  clear hM
  have q2 : ∀ H', Kp M H H' → OAt xRanked H' M q' p n s → Q (.str (lmin (lv s) l)) H' := q
  clear q
  walk_at "go"
  refine ⟨dx, _, ho, by rfl, l.map V.str, SqL.of ha, by simpa using hl, fun i => [lv s (l.getD i Str.empty)], fun i v hv H1 sm1 => ?_, fun v H1 sm1 hv => ?_⟩
  · rw [List.getElem?_map] at hv
    cases hz : l[i]? with
    | none => rw [hz] at hv; cases hv
    | some u =>
    rw [hz] at hv
    cases hv
    refine ⟨ys, hyl, p, n, M, s, u, rfl, (T2 xRanked).dep (fun m _ o => sm1 m o) hh', ns, ht, fun t ht => ⟨Same.new ht, ?_⟩⟩
    rw [upd_same]
    show _ = some (HO.tup [V.int (lv s (l.getD i Str.empty))])
    rw [List.getD_eq_getElem?_getD, hz]
    rfl
  · rw [bt_one, List.length_map, List.getElem?_map] at hv
    have hb := best_lt (fun i => lv s (l.getD i Str.empty)) (l.length - 1)
    have hl0 : 0 < l.length := List.length_pos_iff.mpr hl
    have hlt : argBest (fun i j => decide (lv s (l.getD i Str.empty) < lv s (l.getD j Str.empty))) (l.length - 1) < l.length := by omega
    have e : v = V.str (lmin (lv s) l) := by
      unfold lmin
      rw [List.getD_eq_getElem?_getD, List.getElem?_eq_getElem hlt]
      rw [List.getElem?_eq_getElem hlt] at hv
      exact (Option.some.inj hv).symm
    rw [e]
    exact q2 _ (Kp.of sm1) ((T2 xRanked).dep (fun m _ o => sm1 m o) hh')
theorem ok_Ranked_gone {f : Addr} {fd : FuncData} (F : Fun K "gone" "Rule.gone" s_Ranked_gone f fd) (T : Txt K mg xStock xRule xRanked xOldest xFirst xHalving xFarthest)  : FnOk P w K mg base CX0 1 f fd ["self", "name"] (sp29_gone (C5.mk xRanked xOldest xFirst xHalving xFarthest) .ra) := by
  have sc : FnScope ["self", "name"] ["self", "name"] (defScope s_Ranked_gone) := ⟨rfl, rfl, rfl, by decide +kernel, rfl, by decide +kernel, by decide +kernel⟩
  refine F.ok sc (fun vs H Q E h => ?_) (fun cdv A outer s H vs Q E hr h => ?_)
  · obtain ⟨ys, hyl, q', p, n, M, s, l, ns, z, rfl, hh, hm, hl, hns, q⟩ := h; rfl
  obtain ⟨ys, hyl, q', p, n, M, s, l, ns, z, rfl, hh, hm, hl, hns, q⟩ := h
  refine ⟨_, (@pss_one _ _ _ ps_pass), ?_⟩
  rw [show start ["self", "name"] [V.ref q', V.str (RuleT.pick (T5 (C5.mk xRanked xOldest xFirst xHalving xFarthest) ys .ra) n s l).2] = [some (V.ref q'), some (V.str (RuleT.pick (T5 (C5.mk xRanked xOldest xFirst xHalving xFarthest) ys .ra) n s l).2)] from rfl]
  walk_at "go"
  exact q _ (Kp.of (Same.refl _)) hh
theorem ok_Ranked_came {f : Addr} {fd : FuncData} (F : Fun K "came" "Rule.came" s_Ranked_came f fd) (T : Txt K mg xStock xRule xRanked xOldest xFirst xHalving xFarthest)  : FnOk P w K mg base CX0 1 f fd ["self", "name"] (sp29_came (C5.mk xRanked xOldest xFirst xHalving xFarthest) .ra) := by
  have sc : FnScope ["self", "name"] ["self", "name"] (defScope s_Ranked_came) := ⟨rfl, rfl, rfl, by decide +kernel, rfl, by decide +kernel, by decide +kernel⟩
  refine F.ok sc (fun vs H Q E h => ?_) (fun cdv A outer s H vs Q E hr h => ?_)
  · obtain ⟨ys, hyl, q', p, n, M, s, l, ns, z, rfl, hh, hm, hz, hzl, hns, q⟩ := h; rfl
  obtain ⟨ys, hyl, q', p, n, M, s, l, ns, z, rfl, hh, hm, hz, hzl, hns, q⟩ := h
  refine ⟨_, (@pss_one _ _ _ ps_pass), ?_⟩
  rw [show start ["self", "name"] [V.ref q', V.str z] = [some (V.ref q'), some (V.str z)] from rfl]
  walk_at "go"
  exact q _ (Kp.of (Same.refl _)) hh
theorem ok_Oldest_number_ask {f : Addr} {fd : FuncData} (F : Fun K "number_ask" "Ranked.number_ask" s_Oldest_number_ask f fd) (T : Txt K mg xStock xRule xRanked xOldest xFirst xHalving xFarthest)  : FnOk P w K mg base CX0 1 f fd ["self", "name"] (sp21_number xOldest) := by
  have sc : FnScope ["self", "name"] ["self", "name"] (defScope s_Oldest_number_ask) := ⟨rfl, rfl, rfl, by decide +kernel, rfl, by decide +kernel, by decide +kernel⟩
  refine F.ok sc (fun vs H Q E h => ?_) (fun cdv A outer s H vs Q E hr h => ?_)
  · obtain ⟨q', p, n, M, s, z, rfl, hh, hl, q⟩ := h; rfl
  obtain ⟨q', p, n, M, s, z, rfl, hh, hl, q⟩ := h
  refine ⟨_, (@pss_cons _ _ _ _ _ (ps_fldaug (pv 0) pe_int in_add)
    (@pss_one _ _ _ (ps_dput (hu_of hr) (pe_fld (pv 0) rfl) (pv 1) (pe_fld (pv 0) rfl) rfl))), ?_⟩
  rw [show start ["self", "name"] [V.ref q', V.str z] = [some (V.ref q'), some (V.str z)] from rfl]
  have line := line_val
  obtain ⟨la, hM, ⟨dx, ho⟩, hla⟩ := hh
  have hM2 : M = [q', la] ∧ True := ⟨hM, trivial⟩
  clear hM
  have nq1 : q' ≠ la := fun e => by rw [e, hla] at ho; cases ho
  walk_at "go"
  refine ⟨xOldest, dx, _, ho, T.cl_Oldest, T.n_Oldest_present, _, rf2_present, s.k, rfl, dx, _, ho, by rw [rf2_len]; decide, ?_⟩
  have ho1 : upd H q' (.ins xOldest dx (rf2 p n (s.k + 1) la)) q' = some (.ins xOldest dx (rf2 p n (s.k + 1) la)) := upd_same
  have hla1 : upd H q' (.ins xOldest dx (rf2 p n (s.k + 1) la)) la = some (.dK s.la) := by rw [upd_ne nq1.symm]; exact hla
  have kp1 : Kp M H (upd H q' (.ins xOldest dx (rf2 p n (s.k + 1) la))) := (Kp.of (Same.refl H)).upd (by rw [hM2.1]; simp)
  rename_i rest hrest
  show rest _ (upd H q' (.ins xOldest dx (rf2 p n (s.k + 1) la)))
  generalize upd H q' (.ins xOldest dx (rf2 p n (s.k + 1) la)) = H1 at ho1 hla1 kp1 ⊢
  have hlp := length_putK s.la (Sum.inr z : Key) (V.int (s.k + 1))
  subst hrest
  walk_at "go"
  exact ⟨xOldest, dx, _, ho1, T.cl_Oldest, T.n_Oldest_present, _, rf2_present, xOldest, dx, _, ho1, T.cl_Oldest, T.n_Oldest_last, _, rf2_last, la, rfl, _, DPut.k (k := Sum.inr z) hla1 (by omega), q _ (kp1.upd (by rw [hM2.1]; simp)) ⟨la, hM2.1, ⟨dx, by rw [upd_ne nq1]; exact ho1⟩, upd_same⟩⟩
theorem ok_Oldest_asked {f : Addr} {fd : FuncData} (F : Fun K "asked" "Ranked.asked" s_Oldest_asked f fd) (T : Txt K mg xStock xRule xRanked xOldest xFirst xHalving xFarthest) (D_Oldest_number_ask : DefM P w K mg base CX0 1 xOldest "number_ask" ["self", "name"] (sp21_number xOldest)) : FnOk P w K mg base CX0 2 f fd ["self", "name"] (sp29_asked (C5.mk xRanked xOldest xFirst xHalving xFarthest) .ol) := by
  have sc : FnScope ["self", "name"] ["self", "name"] (defScope s_Oldest_asked) := ⟨rfl, rfl, rfl, by decide +kernel, rfl, by decide +kernel, by decide +kernel⟩
  refine F.ok sc (fun vs H Q E h => ?_) (fun cdv A outer s H vs Q E hr h => ?_)
  · obtain ⟨ys, hyl, q', p, n, M, s, l, ns, z, rfl, hh, hi, hz, hns, q⟩ := h; rfl
  obtain ⟨ys, hyl, q', p, n, M, s, l, ns, z, rfl, hh, hi, hz, hns, q⟩ := h
  refine ⟨_, (@pss_one _ _ _ (ps_expr (pe_methS D_Oldest_number_ask T.cl_Oldest hr (passS pass0) (pv 0) (pa_cons (pv 1) pa_nil)))), ?_⟩
  rw [show start ["self", "name"] [V.ref q', V.str z] = [some (V.ref q'), some (V.str z)] from rfl]
  have line := line_val
  have hh' : OAt xOldest H M q' p n s := hh
  obtain ⟨la, hM, ⟨dx, ho⟩, hla⟩ := id hh'
  have hi' : LI ns s l := hi
  have hlen := hi'.a.len
  walk_at "go"
  exact ⟨dx, _, ho, by rfl, p, n, M, s, hh', by omega, fun H1 kp1 h1 => q H1 kp1 h1⟩
theorem ok_Oldest_last_of {f : Addr} {fd : FuncData} (F : Fun K "last_of" "Ranked.last_of" s_Oldest_last_of f fd) (T : Txt K mg xStock xRule xRanked xOldest xFirst xHalving xFarthest)  : FnOk P w K mg base CX0 1 f fd ["self", "name"] (sp29_last2 xOldest) := by
  have sc : FnScope ["self", "name"] ["self", "name"] (defScope s_Oldest_last_of) := ⟨rfl, rfl, rfl, by decide +kernel, rfl, by decide +kernel, by decide +kernel⟩
  refine F.ok sc (fun vs H Q E h => ?_) (fun cdv A outer s H vs Q E hr h => ?_)
  · obtain ⟨q', p, n, M, s, z, ns, rfl, hh, ht, q⟩ := h; rfl
  obtain ⟨q', p, n, M, s, z, ns, rfl, hh, ht, q⟩ := h
  refine ⟨_, (@pss_one _ _ _ (@ps_ret _ _ _ _ (pe_dget2 (hu_of hr) (pe_fld (pv 0) rfl) (pv 1) pe_int ⟨rfl, rfl, rfl, rfl⟩))), ?_⟩
  rw [show start ["self", "name"] [V.ref q', V.str z] = [some (V.ref q'), some (V.str z)] from rfl]
  have line := line_val
  obtain ⟨la, hM, ⟨dx, ho⟩, hla⟩ := hh
  clear hM
  walk_at "go"
  exact ⟨xOldest, dx, _, ho, T.cl_Oldest, T.n_Oldest_last, _, rf2_last, la, rfl, .inl ⟨_, .inl hla⟩, _, DGet.k (k := Sum.inr z) hla, by rw [lv_get ht]; exact q⟩
theorem ok_Oldest_rank {f : Addr} {fd : FuncData} (F : Fun K "rank" "Ranked.rank" s_Oldest_rank f fd) (T : Txt K mg xStock xRule xRanked xOldest xFirst xHalving xFarthest) (D_Oldest_last_of : DefM P w K mg base CX0 1 xOldest "last_of" ["self", "name"] (sp29_last2 xOldest)) : FnOk P w K mg base CX0 2 f fd ["self", "name"] (sp29_rank (C5.mk xRanked xOldest xFirst xHalving xFarthest) .ol) := by
  have sc : FnScope ["self", "name"] ["self", "name"] (defScope s_Oldest_rank) := ⟨rfl, rfl, rfl, by decide +kernel, rfl, by decide +kernel, by decide +kernel⟩
  refine F.ok sc (fun vs H Q E h => ?_) (fun cdv A outer s H vs Q E hr h => ?_)
  · obtain ⟨ys, q', p, n, M, s, z, ns, hyl, rfl, hh, ht, q⟩ := h; rfl
  obtain ⟨ys, q', p, n, M, s, z, ns, hyl, rfl, hh, ht, q⟩ := h
  refine ⟨_, (@pss_one _ _ _ (@ps_ret _ _ _ _ (pe_tup (pa_cons (pe_methS D_Oldest_last_of T.cl_Oldest hr (passS pass0) (pv 0) (pa_cons (pv 1) pa_nil)) pa_nil)))), ?_⟩
  rw [show start ["self", "name"] [V.ref q', V.str z] = [some (V.ref q'), some (V.str z)] from rfl]
  have line := line_val
  have hh' : OAt xOldest H M q' p n s := hh
  obtain ⟨la, hM, ⟨dx, ho⟩, hla⟩ := id hh'
  clear hM
  walk_at "go"
  exact ⟨dx, _, ho, by rfl, p, n, M, s, hh', ns, ht, by omega, fun t ht => q t ht⟩
theorem ok_Oldest_choice {f : Addr} {fd : FuncData} (F : Fun K "choice" "Ranked.choice" s_Oldest_choice f fd) (T : Txt K mg xStock xRule xRanked xOldest xFirst xHalving xFarthest) (D_Oldest_rank : DefV P w K mg base 2 xOldest "rank" ["self", "name"] (sp29_rank (C5.mk xRanked xOldest xFirst xHalving xFarthest) .ol)) : FnOk P w K mg base CX0 4 f fd ["self", "lying"] (sp29_choice (C5.mk xRanked xOldest xFirst xHalving xFarthest) .ol K) := by
  have sc : FnScope ["self", "lying"] ["self", "lying"] (defScope s_Oldest_choice) := ⟨rfl, rfl, rfl, by decide +kernel, rfl, by decide +kernel, by decide +kernel⟩
  refine F.ok sc (fun vs H Q E h => ?_) (fun cdv A outer s H vs Q E hr h => ?_)
  · obtain ⟨ys, q', p, a, n, M, s, l, ns, z, hyl, rfl, hh, hm, ht, hl, ha, ham, hns, hll, q⟩ := h; rfl
  obtain ⟨ys, q', p, a, n, M, s, l, ns, z, hyl, rfl, hh, hm, ht, hl, ha, ham, hns, hll, q⟩ := h
  refine ⟨_, (@pss_one _ _ _ (@ps_ret _ _ _ _ (pe_minK D_Oldest_rank T.cl_Oldest hr rfl T.z_min (by first | rfl | decide +kernel) (pa_cons (pv 1) pa_nil) (pv 0) rfl))), ?_⟩
  rw [show start ["self", "lying"] [V.ref q', V.ref a] = [some (V.ref q'), some (V.ref a)] from rfl]
  have line := line_val
  have hh' : OAt xOldest H M q' p n s := hh
  obtain ⟨la, hM, ⟨dx, ho⟩, hla⟩ := id hh'
  clear hM
  have q2 : ∀ H', Kp M H H' → OAt xOldest H' M q' p n s → Q (.str (lmin (lv s) l)) H' := q
  clear q
  walk_at "go"
  refine ⟨dx, _, ho, by rfl, l.map V.str, SqL.of ha, by simpa using hl, fun i => [lv s (l.getD i Str.empty)], fun i v hv H1 sm1 => ?_, fun v H1 sm1 hv => ?_⟩
  · rw [List.getElem?_map] at hv
    cases hz : l[i]? with
    | none => rw [hz] at hv; cases hv
    | some u =>
    rw [hz] at hv
    cases hv
    refine ⟨ys, hyl, p, n, M, s, u, rfl, (T2 xOldest).dep (fun m _ o => sm1 m o) hh', ns, ht, fun t ht => ⟨Same.new ht, ?_⟩⟩
    rw [upd_same]
    show _ = some (HO.tup [V.int (lv s (l.getD i Str.empty))])
    rw [List.getD_eq_getElem?_getD, hz]
    rfl
  · rw [bt_one, List.length_map, List.getElem?_map] at hv
    have hb := best_lt (fun i => lv s (l.getD i Str.empty)) (l.length - 1)
    have hl0 : 0 < l.length := List.length_pos_iff.mpr hl
    have hlt : argBest (fun i j => decide (lv s (l.getD i Str.empty) < lv s (l.getD j Str.empty))) (l.length - 1) < l.length := by omega
    have e : v = V.str (lmin (lv s) l) := by
      unfold lmin
      rw [List.getD_eq_getElem?_getD, List.getElem?_eq_getElem hlt]
      rw [List.getElem?_eq_getElem hlt] at hv
      exact (Option.some.inj hv).symm
    rw [e]
    exact q2 _ (Kp.of sm1) ((T2 xOldest).dep (fun m _ o => sm1 m o) hh')
theorem ok_Oldest_gone {f : Addr} {fd : FuncData} (F : Fun K "gone" "Rule.gone" s_Oldest_gone f fd) (T : Txt K mg xStock xRule xRanked xOldest xFirst xHalving xFarthest)  : FnOk P w K mg base CX0 1 f fd ["self", "name"] (sp29_gone (C5.mk xRanked xOldest xFirst xHalving xFarthest) .ol) := by
  have sc : FnScope ["self", "name"] ["self", "name"] (defScope s_Oldest_gone) := ⟨rfl, rfl, rfl, by decide +kernel, rfl, by decide +kernel, by decide +kernel⟩
  refine F.ok sc (fun vs H Q E h => ?_) (fun cdv A outer s H vs Q E hr h => ?_)
  · obtain ⟨ys, hyl, q', p, n, M, s, l, ns, z, rfl, hh, hm, hl, hns, q⟩ := h; rfl
  obtain ⟨ys, hyl, q', p, n, M, s, l, ns, z, rfl, hh, hm, hl, hns, q⟩ := h
  refine ⟨_, (@pss_one _ _ _ ps_pass), ?_⟩
  rw [show start ["self", "name"] [V.ref q', V.str (RuleT.pick (T5 (C5.mk xRanked xOldest xFirst xHalving xFarthest) ys .ol) n s l).2] = [some (V.ref q'), some (V.str (RuleT.pick (T5 (C5.mk xRanked xOldest xFirst xHalving xFarthest) ys .ol) n s l).2)] from rfl]
  walk_at "go"
  exact q _ (Kp.of (Same.refl _)) hh
theorem ok_Oldest_came {f : Addr} {fd : FuncData} (F : Fun K "came" "Rule.came" s_Oldest_came f fd) (T : Txt K mg xStock xRule xRanked xOldest xFirst xHalving xFarthest)  : FnOk P w K mg base CX0 1 f fd ["self", "name"] (sp29_came (C5.mk xRanked xOldest xFirst xHalving xFarthest) .ol) := by
  have sc : FnScope ["self", "name"] ["self", "name"] (defScope s_Oldest_came) := ⟨rfl, rfl, rfl, by decide +kernel, rfl, by decide +kernel, by decide +kernel⟩
  refine F.ok sc (fun vs H Q E h => ?_) (fun cdv A outer s H vs Q E hr h => ?_)
  · obtain ⟨ys, hyl, q', p, n, M, s, l, ns, z, rfl, hh, hm, hz, hzl, hns, q⟩ := h; rfl
  obtain ⟨ys, hyl, q', p, n, M, s, l, ns, z, rfl, hh, hm, hz, hzl, hns, q⟩ := h
  refine ⟨_, (@pss_one _ _ _ ps_pass), ?_⟩
  rw [show start ["self", "name"] [V.ref q', V.str z] = [some (V.ref q'), some (V.str z)] from rfl]
  walk_at "go"
  exact q _ (Kp.of (Same.refl _)) hh
theorem ok_First_number_ask {f : Addr} {fd : FuncData} (F : Fun K "number_ask" "Ranked.number_ask" s_First_number_ask f fd) (T : Txt K mg xStock xRule xRanked xOldest xFirst xHalving xFarthest)  : FnOk P w K mg base CX0 1 f fd ["self", "name"] (sp22_number xFirst) := by
  have sc : FnScope ["self", "name"] ["self", "name"] (defScope s_First_number_ask) := ⟨rfl, rfl, rfl, by decide +kernel, rfl, by decide +kernel, by decide +kernel⟩
  refine F.ok sc (fun vs H Q E h => ?_) (fun cdv A outer s H vs Q E hr h => ?_)
  · obtain ⟨q', p, n, M, s, z, rfl, hh, hl, q⟩ := h; rfl
  obtain ⟨q', p, n, M, s, z, rfl, hh, hl, q⟩ := h
  refine ⟨_, (@pss_cons _ _ _ _ _ (ps_fldaug (pv 0) pe_int in_add)
    (@pss_one _ _ _ (ps_dput (hu_of hr) (pe_fld (pv 0) rfl) (pv 1) (pe_fld (pv 0) rfl) rfl))), ?_⟩
  rw [show start ["self", "name"] [V.ref q', V.str z] = [some (V.ref q'), some (V.str z)] from rfl]
  have line := line_val
  obtain ⟨la, pa, hM, d, ⟨dx, ho⟩, hla, hpa⟩ := hh
  have hM2 : M = [q', la, pa] ∧ True := ⟨hM, trivial⟩
  clear hM
  have nq1 : q' ≠ la := fun e => by rw [e, hla] at ho; cases ho
  have nq2 : q' ≠ pa := fun e => by rw [e, hpa] at ho; cases ho
  walk_at "go"
  refine ⟨xFirst, dx, _, ho, T.cl_First, T.n_First_present, _, rf1_present, s.k, rfl, dx, _, ho, by rw [rf1_len]; decide, ?_⟩
  have ho1 : upd H q' (.ins xFirst dx (rf1 p n (s.k + 1) la pa)) q' = some (.ins xFirst dx (rf1 p n (s.k + 1) la pa)) := upd_same
  have hla1 : upd H q' (.ins xFirst dx (rf1 p n (s.k + 1) la pa)) la = some (.dK s.la) := by rw [upd_ne nq1.symm]; exact hla
  have hpa1 : upd H q' (.ins xFirst dx (rf1 p n (s.k + 1) la pa)) pa = some (.dK s.pu) := by rw [upd_ne nq2.symm]; exact hpa
  have kp1 : Kp M H (upd H q' (.ins xFirst dx (rf1 p n (s.k + 1) la pa))) := (Kp.of (Same.refl H)).upd (by rw [hM2.1]; simp)
  rename_i rest hrest
  show rest _ (upd H q' (.ins xFirst dx (rf1 p n (s.k + 1) la pa)))
  generalize upd H q' (.ins xFirst dx (rf1 p n (s.k + 1) la pa)) = H1 at ho1 hla1 hpa1 kp1 ⊢
  have hlp := length_putK s.la (Sum.inr z : Key) (V.int (s.k + 1))
  subst hrest
  walk_at "go"
  exact ⟨xFirst, dx, _, ho1, T.cl_First, T.n_First_present, _, rf1_present, xFirst, dx, _, ho1, T.cl_First, T.n_First_last, _, rf1_last, la, rfl, _, DPut.k (k := Sum.inr z) hla1 (by omega), q _ (kp1.upd (by rw [hM2.1]; simp)) ⟨la, pa, hM2.1, d, ⟨dx, by rw [upd_ne nq1]; exact ho1⟩, upd_same, by rw [upd_ne d.symm]; exact hpa1⟩⟩
theorem ok_First_asked {f : Addr} {fd : FuncData} (F : Fun K "asked" "Ranked.asked" s_First_asked f fd) (T : Txt K mg xStock xRule xRanked xOldest xFirst xHalving xFarthest) (D_First_number_ask : DefM P w K mg base CX0 1 xFirst "number_ask" ["self", "name"] (sp22_number xFirst)) : FnOk P w K mg base CX0 2 f fd ["self", "name"] (sp29_asked (C5.mk xRanked xOldest xFirst xHalving xFarthest) .fi) := by
  have sc : FnScope ["self", "name"] ["self", "name"] (defScope s_First_asked) := ⟨rfl, rfl, rfl, by decide +kernel, rfl, by decide +kernel, by decide +kernel⟩
  refine F.ok sc (fun vs H Q E h => ?_) (fun cdv A outer s H vs Q E hr h => ?_)
  · obtain ⟨ys, hyl, q', p, n, M, s, l, ns, z, rfl, hh, hi, hz, hns, q⟩ := h; rfl
  obtain ⟨ys, hyl, q', p, n, M, s, l, ns, z, rfl, hh, hi, hz, hns, q⟩ := h
  refine ⟨_, (@pss_one _ _ _ (ps_expr (pe_methS D_First_number_ask T.cl_First hr (passS pass0) (pv 0) (pa_cons (pv 1) pa_nil)))), ?_⟩
  rw [show start ["self", "name"] [V.ref q', V.str z] = [some (V.ref q'), some (V.str z)] from rfl]
  have line := line_val
  have hh' : FAt xFirst H M q' p n s := hh
  obtain ⟨la, pa, hM, d, ⟨dx, ho⟩, hla, hpa⟩ := id hh'
  have hi' : FI ns s l (S1.k s) := hi
  have hlen := hi'.a.len
  walk_at "go"
  exact ⟨dx, _, ho, by rfl, p, n, M, s, hh', by omega, fun H1 kp1 h1 => q H1 kp1 h1⟩
theorem ok_First_rank {f : Addr} {fd : FuncData} (F : Fun K "rank" "First.rank" s_First_rank f fd) (T : Txt K mg xStock xRule xRanked xOldest xFirst xHalving xFarthest)  : FnOk P w K mg base CX0 2 f fd ["self", "name"] (sp29_rank (C5.mk xRanked xOldest xFirst xHalving xFarthest) .fi) := by
  have sc : FnScope ["self", "name"] ["self", "name"] (defScope s_First_rank) := ⟨rfl, rfl, rfl, by decide +kernel, rfl, by decide +kernel, by decide +kernel⟩
  refine F.ok sc (fun vs H Q E h => ?_) (fun cdv A outer s H vs Q E hr h => ?_)
  · obtain ⟨ys, q', p, n, M, s, z, ns, hyl, rfl, hh, ht, q⟩ := h; rfl
  obtain ⟨ys, q', p, n, M, s, z, ns, hyl, rfl, hh, ht, q⟩ := h
  refine ⟨_, (@pss_one _ _ _ (@ps_ret _ _ _ _ (pe_tup (pa_cons (pe_dget2 (hu_of hr) (pe_fld (pv 0) rfl) (pv 1) pe_int ⟨rfl, rfl, rfl, rfl⟩) pa_nil)))), ?_⟩
  rw [show start ["self", "name"] [V.ref q', V.str z] = [some (V.ref q'), some (V.str z)] from rfl]
  have line := line_val
  have hh' : FAt xFirst H M q' p n s := hh
  obtain ⟨la, pa, hM, d, ⟨dx, ho⟩, hla, hpa⟩ := hh'
  clear hM
  walk_at "go"
  exact ⟨xFirst, dx, _, ho, T.cl_First, T.n_First_put_at, _, rf1_put, pa, rfl, .inl ⟨_, .inl hpa⟩, _, DGet.k (k := Sum.inr z) hpa, by omega, fun t ht' => by rw [pv_get ht]; exact q t ht'⟩
theorem ok_First_choice {f : Addr} {fd : FuncData} (F : Fun K "choice" "Ranked.choice" s_First_choice f fd) (T : Txt K mg xStock xRule xRanked xOldest xFirst xHalving xFarthest) (D_First_rank : DefV P w K mg base 2 xFirst "rank" ["self", "name"] (sp29_rank (C5.mk xRanked xOldest xFirst xHalving xFarthest) .fi)) : FnOk P w K mg base CX0 4 f fd ["self", "lying"] (sp29_choice (C5.mk xRanked xOldest xFirst xHalving xFarthest) .fi K) := by
  have sc : FnScope ["self", "lying"] ["self", "lying"] (defScope s_First_choice) := ⟨rfl, rfl, rfl, by decide +kernel, rfl, by decide +kernel, by decide +kernel⟩
  refine F.ok sc (fun vs H Q E h => ?_) (fun cdv A outer s H vs Q E hr h => ?_)
  · obtain ⟨ys, q', p, a, n, M, s, l, ns, z, hyl, rfl, hh, hm, ht, hl, ha, ham, hns, hll, q⟩ := h; rfl
  obtain ⟨ys, q', p, a, n, M, s, l, ns, z, hyl, rfl, hh, hm, ht, hl, ha, ham, hns, hll, q⟩ := h
  refine ⟨_, (@pss_one _ _ _ (@ps_ret _ _ _ _ (pe_minK D_First_rank T.cl_First hr rfl T.z_min (by first | rfl | decide +kernel) (pa_cons (pv 1) pa_nil) (pv 0) rfl))), ?_⟩
  rw [show start ["self", "lying"] [V.ref q', V.ref a] = [some (V.ref q'), some (V.ref a)] from rfl]
  have line := line_val
  have hh' : FAt xFirst H M q' p n s := hh
  obtain ⟨la, pa, hM, d, ⟨dx, ho⟩, hla, hpa⟩ := id hh'
  clear hM
  have hm' : FI ns s l (S1.k s - 1) := hm
  have q2 : ∀ H', Kp M H H' → FAt xFirst H' M q' p n s → Q (.str (l.headD Str.empty)) H' := q
  clear q hm
  walk_at "go"
  refine ⟨dx, _, ho, by rfl, l.map V.str, SqL.of ha, by simpa using hl, fun i => [N22.pv s (l.getD i Str.empty)], fun i v hv H1 sm1 => ?_, fun v H1 sm1 hv => ?_⟩
  · rw [List.getElem?_map] at hv
    cases hz : l[i]? with
    | none => rw [hz] at hv; cases hv
    | some u =>
    rw [hz] at hv
    cases hv
    refine ⟨ys, hyl, p, n, M, s, u, rfl, (T1 xFirst).dep (fun m _ o => sm1 m o) hh', ns, ht, fun t ht => ⟨Same.new ht, ?_⟩⟩
    rw [upd_same]
    show _ = some (HO.tup [V.int (N22.pv s (l.getD i Str.empty))])
    rw [List.getD_eq_getElem?_getD, hz]
    rfl
  · have hb : argBest (btK fun i => [N22.pv s (l.getD i Str.empty)]) ((l.map V.str).length - 1) = 0 := by
      rw [List.length_map]
      refine best_head (v := fun i => N22.pv s (l.getD i Str.empty)) (fun i _ => rfl) (fun i hi => ?_)
      have hl0 : 0 < l.length := List.length_pos_iff.mpr hl
      by_cases e : i = 0
      · rw [e]; exact Int.le_refl _
      · have := (List.pairwise_iff_getElem.mp hm'.o) 0 i hl0 (by omega) (by omega)
        rw [List.getD_eq_getElem?_getD, List.getD_eq_getElem?_getD, List.getElem?_eq_getElem hl0, List.getElem?_eq_getElem (show i < l.length by omega)]
        exact Int.le_of_lt this
    rw [hb] at hv
    cases l with
    | nil => exact absurd rfl hl
    | cons x r =>
      cases hv
      exact q2 _ (Kp.of sm1) ((T1 xFirst).dep (fun m _ o => sm1 m o) hh')
theorem ok_First_gone {f : Addr} {fd : FuncData} (F : Fun K "gone" "Rule.gone" s_First_gone f fd) (T : Txt K mg xStock xRule xRanked xOldest xFirst xHalving xFarthest)  : FnOk P w K mg base CX0 1 f fd ["self", "name"] (sp29_gone (C5.mk xRanked xOldest xFirst xHalving xFarthest) .fi) := by
  have sc : FnScope ["self", "name"] ["self", "name"] (defScope s_First_gone) := ⟨rfl, rfl, rfl, by decide +kernel, rfl, by decide +kernel, by decide +kernel⟩
  refine F.ok sc (fun vs H Q E h => ?_) (fun cdv A outer s H vs Q E hr h => ?_)
  · obtain ⟨ys, hyl, q', p, n, M, s, l, ns, z, rfl, hh, hm, hl, hns, q⟩ := h; rfl
  obtain ⟨ys, hyl, q', p, n, M, s, l, ns, z, rfl, hh, hm, hl, hns, q⟩ := h
  refine ⟨_, (@pss_one _ _ _ ps_pass), ?_⟩
  rw [show start ["self", "name"] [V.ref q', V.str (RuleT.pick (T5 (C5.mk xRanked xOldest xFirst xHalving xFarthest) ys .fi) n s l).2] = [some (V.ref q'), some (V.str (RuleT.pick (T5 (C5.mk xRanked xOldest xFirst xHalving xFarthest) ys .fi) n s l).2)] from rfl]
  walk_at "go"
  exact q _ (Kp.of (Same.refl _)) hh
theorem ok_First_came {f : Addr} {fd : FuncData} (F : Fun K "came" "First.came" s_First_came f fd) (T : Txt K mg xStock xRule xRanked xOldest xFirst xHalving xFarthest)  : FnOk P w K mg base CX0 1 f fd ["self", "name"] (sp29_came (C5.mk xRanked xOldest xFirst xHalving xFarthest) .fi) := by
  have sc : FnScope ["self", "name"] ["self", "name"] (defScope s_First_came) := ⟨rfl, rfl, rfl, by decide +kernel, rfl, by decide +kernel, by decide +kernel⟩
  refine F.ok sc (fun vs H Q E h => ?_) (fun cdv A outer s H vs Q E hr h => ?_)
  · obtain ⟨ys, hyl, q', p, n, M, s, l, ns, z, rfl, hh, hm, hz, hzl, hns, q⟩ := h; rfl
  obtain ⟨ys, hyl, q', p, n, M, s, l, ns, z, rfl, hh, hm, hz, hzl, hns, q⟩ := h
  refine ⟨_, (@pss_one _ _ _ (ps_dput (hu_of hr) (pe_fld (pv 0) rfl) (pv 1) (pe_fld (pv 0) rfl) rfl)), ?_⟩
  rw [show start ["self", "name"] [V.ref q', V.str z] = [some (V.ref q'), some (V.str z)] from rfl]
  have line := line_val
  have hh' : FAt xFirst H M q' p n s := hh
  obtain ⟨la, pa, hM, d, ⟨dx, ho⟩, hla, hpa⟩ := id hh'
  have hM2 : M = [q', la, pa] ∧ True := ⟨hM, trivial⟩
  clear hM
  have hm' : FI ns s l (S1.k s - 1) := hm
  have hlen := hm'.b.len
  have nq2 : q' ≠ pa := fun e => by rw [e, hpa] at ho; cases ho
  have q2 : ∀ H', Kp M H H' → FAt xFirst H' M q' p n (f1came s z) → Q .non H' := q
  clear q
  have hlp := length_putK (S1.pu s) (Sum.inr z : Key) (V.int (S1.k s))
  walk_at "go"
  refine ⟨xFirst, dx, _, ho, T.cl_First, T.n_First_present, _, rf1_present, xFirst, dx, _, ho, T.cl_First, T.n_First_put_at, _, rf1_put, pa, rfl, _, DPut.k (k := Sum.inr z) hpa (by omega), q2 _ ((Kp.of (Same.refl H)).upd (by rw [hM2.1]; simp)) ⟨la, pa, hM2.1, d, ⟨dx, by rw [upd_ne nq2]; exact ho⟩, by rw [upd_ne d]; exact hla, upd_same⟩⟩
theorem ok_Halving_halve {f : Addr} {fd : FuncData} (F : Fun K "halve" "Halving.halve" s_Halving_halve f fd) (T : Txt K mg xStock xRule xRanked xOldest xFirst xHalving xFarthest)  : FnOk P w K mg base CX0 1 f fd ["self"] (sp23_halve xHalving) := by
  have sc : FnScope ["self", "name"] ["self"] (defScope s_Halving_halve) := ⟨rfl, rfl, rfl, by decide +kernel, rfl, by decide +kernel, by decide +kernel⟩
  refine F.ok sc (fun vs H Q E h => ?_) (fun cdv A outer s H vs Q E hr h => ?_)
  · obtain ⟨q', p, n, M, s, ns, rfl, hh, ht, hns, q⟩ := h; rfl
  obtain ⟨q', p, n, M, s, ns, rfl, hh, ht, hns, q⟩ := h
  refine ⟨_, (@pss_one _ _ _ (ps_for PassesOwn.never rfl (pi_list (pe_callTy (call_listD rfl) rfl T.z_list (by first | rfl | decide +kernel) (pa_cons (pe_fld (pv 0) rfl) pa_nil))) (pg_name (i := 1) sc.nd rfl (Or.inl rfl))
      (@pss_one _ _ _ (ps_dput (hu_of hr) (pe_fld (pv 0) rfl) (pv 1) (pe_op op_fdiv (pe_dget (hu_of hr) (pe_fld (pv 0) rfl) (pv 1) (fun _ _ => rfl)) pe_int) rfl)))), ?_⟩
  rw [show start ["self", "name"] [V.ref q'] = [some (V.ref q'), none] from rfl]
  have line := line_val
  obtain ⟨la, ta, hM, ⟨dx, ho⟩, hla, hta, hne⟩ := hh
  have hM2 : M = [q', la, ta] ∧ True := ⟨hM, trivial⟩
  clear hM
  have nq1 : q' ≠ la := fun e => by rw [e, hla] at ho; cases ho
  have nq2 : q' ≠ ta := fun e => by rw [e, hta] at ho; cases ho
  obtain ⟨ks, hks, hin⟩ := ht.keys
  have hkl : s.ta.length = ks.length ∧ True := ⟨by have := congrArg List.length hks; simpa using this, trivial⟩
  have hlen := ht.k.len
  walk_at "go"
  refine ⟨xHalving, dx, _, ho, T.cl_Halving, T.n_Halving_tally, _, rf4_tally, ta, rfl, _, hta, fun l hl => ?_⟩
  rw [keys_str hks]
  have sml : Same H (upd H l (.lst (ks.map V.str))) := Same.new hl
  have hll : upd H l (.lst (ks.map V.str)) l = some (.lst (ks.map V.str)) := upd_same
  have ho1 := sml _ _ ho
  have hla1 := sml _ _ hla
  have hta1 := sml _ _ hta
  have nlt : l ≠ ta := fun e => by rw [e, hta] at hl; cases hl
  generalize upd H l (.lst (ks.map V.str)) = H1 at sml hll ho1 hla1 hta1 ⊢
  refine ⟨⟨_, SqL.of hll⟩, ?_⟩
  refine forL_by (xs := ks.map V.str) (fun i σ H' => ∃ (v1 : Option V), σ = [some (V.ref q'), v1] ∧ Kp M H H' ∧ H' l = some (.lst (ks.map V.str)) ∧ H' q' = some (.ins xHalving dx (rf4 p n s.b.k la s.e ta)) ∧ H' la = some (.dK s.b.la) ∧ H' ta = some (.dK (hvi s.ta i))) ⟨none, rfl, Kp.of sml, hll, ho1, hla1, hta1⟩ (fun i σ H' _ ⟨_, _, _, h, _⟩ => SqL.of h) ?_ ?_
  · rintro i v σ H' hu ⟨v1, rfl, kp, hL, hO, hLa, hTa⟩
    rw [List.getElem?_map] at hu
    cases hz : ks[i]? with
    | none => rw [hz] at hu; cases hu
    | some z =>
    rw [hz] at hu
    cases hu
    have hkz : (s.ta.map (·.1))[i]? = some (Sum.inr z) := by rw [hks, List.getElem?_map, hz]; rfl
    have hval := ht.at_ (List.mem_of_getElem? hkz) i
    have hsu : hvi s.ta (i + 1) = putK (hvi s.ta i) (Sum.inr z) (.int (tvK (hvi s.ta i) (Sum.inr z) / 2)) ∧ True := ⟨hvi_succ hkz, trivial⟩
    have hln := (hvi_ok ht i).1.k.len
    clear hkz
    have nqt : q' ≠ ta := nq2
    walk_at "go"
    refine ⟨xHalving, dx, _, hO, T.cl_Halving, T.n_Halving_tally, _, rf4_tally, ta, rfl, _, by rw [← hval]; exact DGet.k (k := Sum.inr z) hTa, _, rfl, cdiv_of (by decide) (by decide), xHalving, dx, _, hO, T.cl_Halving, T.n_Halving_tally, _, rf4_tally, ta, rfl, _, DPut.k (k := Sum.inr z) hTa (by omega), kp.upd (by rw [hM2.1]; simp), by rw [upd_ne nlt]; exact hL, by rw [upd_ne nqt]; exact hO, by rw [upd_ne hne]; exact hLa, by rw [upd_same, hsu.1]⟩
  · rintro σ H' ⟨v1, rfl, kp, hL, hO, hLa, hTa⟩
    rw [List.length_map, ← hkl.1] at hTa
    walk_at "go"
    exact q H' kp ⟨la, ta, hM2.1, ⟨dx, hO⟩, hLa, hTa, hne⟩
theorem ok_Halving_number_ask {f : Addr} {fd : FuncData} (F : Fun K "number_ask" "Ranked.number_ask" s_Halving_number_ask f fd) (T : Txt K mg xStock xRule xRanked xOldest xFirst xHalving xFarthest)  : FnOk P w K mg base CX0 1 f fd ["self", "name"] (sp23_number xHalving) := by
  have sc : FnScope ["self", "name"] ["self", "name"] (defScope s_Halving_number_ask) := ⟨rfl, rfl, rfl, by decide +kernel, rfl, by decide +kernel, by decide +kernel⟩
  refine F.ok sc (fun vs H Q E h => ?_) (fun cdv A outer s H vs Q E hr h => ?_)
  · obtain ⟨q', p, n, M, s, z, rfl, hh, hl, q⟩ := h; rfl
  obtain ⟨q', p, n, M, s, z, rfl, hh, hl, q⟩ := h
  refine ⟨_, (@pss_cons _ _ _ _ _ (ps_fldaug (pv 0) pe_int in_add)
    (@pss_one _ _ _ (ps_dput (hu_of hr) (pe_fld (pv 0) rfl) (pv 1) (pe_fld (pv 0) rfl) rfl))), ?_⟩
  rw [show start ["self", "name"] [V.ref q', V.str z] = [some (V.ref q'), some (V.str z)] from rfl]
  have line := line_val
  obtain ⟨la, ta, hM, ⟨dx, ho⟩, hla, hta, hne⟩ := hh
  have hM2 : M = [q', la, ta] ∧ True := ⟨hM, trivial⟩
  clear hM
  have nq1 : q' ≠ la := fun e => by rw [e, hla] at ho; cases ho
  have nq2 : q' ≠ ta := fun e => by rw [e, hta] at ho; cases ho
  walk_at "go"
  refine ⟨xHalving, dx, _, ho, T.cl_Halving, T.n_Halving_present, _, rf4_present, s.b.k, rfl, dx, _, ho, by rw [rf4_len]; decide, ?_⟩
  have ho1 : upd H q' (.ins xHalving dx (rf4 p n (s.b.k + 1) la s.e ta)) q' = some (.ins xHalving dx (rf4 p n (s.b.k + 1) la s.e ta)) := upd_same
  have hla1 : upd H q' (.ins xHalving dx (rf4 p n (s.b.k + 1) la s.e ta)) la = some (.dK s.b.la) := by rw [upd_ne nq1.symm]; exact hla
  have hta1 : upd H q' (.ins xHalving dx (rf4 p n (s.b.k + 1) la s.e ta)) ta = some (.dK s.ta) := by rw [upd_ne nq2.symm]; exact hta
  have kp1 : Kp M H (upd H q' (.ins xHalving dx (rf4 p n (s.b.k + 1) la s.e ta))) := (Kp.of (Same.refl H)).upd (by rw [hM2.1]; simp)
  rename_i rest hrest
  show rest _ (upd H q' (.ins xHalving dx (rf4 p n (s.b.k + 1) la s.e ta)))
  generalize upd H q' (.ins xHalving dx (rf4 p n (s.b.k + 1) la s.e ta)) = H1 at ho1 hla1 hta1 kp1 ⊢
  have hlp := length_putK s.b.la (Sum.inr z : Key) (V.int (s.b.k + 1))
  subst hrest
  walk_at "go"
  exact ⟨xHalving, dx, _, ho1, T.cl_Halving, T.n_Halving_present, _, rf4_present, xHalving, dx, _, ho1, T.cl_Halving, T.n_Halving_last, _, rf4_last, la, rfl, _, DPut.k (k := Sum.inr z) hla1 (by omega), q _ (kp1.upd (by rw [hM2.1]; simp)) ⟨la, ta, hM2.1, ⟨dx, by rw [upd_ne nq1]; exact ho1⟩, upd_same, by rw [upd_ne hne.symm]; exact hta1, hne⟩⟩
theorem ok_Halving_counts {f : Addr} {fd : FuncData} (F : Fun K "counts" "Halving.counts" s_Halving_counts f fd) (T : Txt K mg xStock xRule xRanked xOldest xFirst xHalving xFarthest)  : FnOk P w K mg base CX0 1 f fd ["self"] (sp23_counts xHalving) := by
  have sc : FnScope ["self"] ["self"] (defScope s_Halving_counts) := ⟨rfl, rfl, rfl, by decide +kernel, rfl, by decide +kernel, by decide +kernel⟩
  refine F.ok sc (fun vs H Q E h => ?_) (fun cdv A outer s H vs Q E hr h => ?_)
  · obtain ⟨q', p, n, M, s, rfl, hh, q⟩ := h; rfl
  obtain ⟨q', p, n, M, s, rfl, hh, q⟩ := h
  refine ⟨_, (@pss_one _ _ _ (@ps_ret _ _ _ _ (pe_callTy call_dictOf rfl T.z_dict (by first | rfl | decide +kernel) (pa_cons (pe_fld (pv 0) rfl) pa_nil)))), ?_⟩
  rw [show start ["self"] [V.ref q'] = [some (V.ref q')] from rfl]
  have line := line_val
  obtain ⟨la, ta, hM, ⟨dx, ho⟩, hla, hta, hne⟩ := hh
  clear hM
  walk_at "go"
  exact ⟨xHalving, dx, _, ho, T.cl_Halving, T.n_Halving_tally, _, rf4_tally, ta, rfl, _, hta, q⟩
theorem ok_Halving_asked {f : Addr} {fd : FuncData} (F : Fun K "asked" "Halving.asked" s_Halving_asked f fd) (T : Txt K mg xStock xRule xRanked xOldest xFirst xHalving xFarthest) (D_Halving_halve : DefM P w K mg base CX0 1 xHalving "halve" ["self"] (sp23_halve xHalving)) (D_Halving_number_ask : DefM P w K mg base CX0 1 xHalving "number_ask" ["self", "name"] (sp23_number xHalving)) : FnOk P w K mg base CX0 2 f fd ["self", "name"] (sp29_asked (C5.mk xRanked xOldest xFirst xHalving xFarthest) .ha) := by
  have sc : FnScope ["self", "name"] ["self", "name"] (defScope s_Halving_asked) := ⟨rfl, rfl, rfl, by decide +kernel, rfl, by decide +kernel, by decide +kernel⟩
  refine F.ok sc (fun vs H Q E h => ?_) (fun cdv A outer s H vs Q E hr h => ?_)
  · obtain ⟨ys, hyl, q', p, n, M, s, l, ns, z, rfl, hh, hi, hz, hns, q⟩ := h; rfl
  obtain ⟨ys, hyl, q', p, n, M, s, l, ns, z, rfl, hh, hi, hz, hns, q⟩ := h
  refine ⟨_, (@pss_cons _ _ _ _ _ (ps_if (pt_cmpR op_eq (pe_op op_mod (pe_fld (pv 0) rfl) (pe_fld (pv 0) rfl)) pe_int (nomark _))
      (@pss_one _ _ _ (ps_expr (pe_methS0 D_Halving_halve T.cl_Halving hr (passS pass0) (pv 0))))
      pss_nil)
    (@pss_cons _ _ _ _ _ (ps_expr (pe_methS D_Halving_number_ask T.cl_Halving hr (passS pass0) (pv 0) (pa_cons (pv 1) pa_nil)))
    (@pss_one _ _ _ (ps_dput (hu_of hr) (pe_fld (pv 0) rfl) (pv 1) (pe_op op_add (pe_dget2 (hu_of hr) (pe_fld (pv 0) rfl) (pv 1) pe_int ⟨rfl, rfl, rfl, rfl⟩) pe_int) rfl)))), ?_⟩
  rw [show start ["self", "name"] [V.ref q', V.str z] = [some (V.ref q'), some (V.str z)] from rfl]
  have line := line_val
  obtain ⟨s, rfl⟩ : ∃ s' : S4, s = s' := ⟨s, rfl⟩
  have hh' : GAt xHalving H M q' p n s := hh
  have hi' : LI ns s.b l ∧ CI ns s l := hi
  obtain ⟨la, ta, hM, ⟨dx, ho⟩, hla, hta, hne⟩ := id hh'
  have hM2 : M = [q', la, ta] ∧ True := ⟨hM, trivial⟩
  clear hM
  have hlen := hi'.1.a.len
  have hci : CI ns s l := hi'.2
  have he1 := hci.e1
  walk_at "go"
  refine ⟨xHalving, dx, _, ho, T.cl_Halving, T.n_Halving_present, _, rf4_present, xHalving, dx, _, ho, T.cl_Halving, T.n_Halving_turn, _, rf4_turn, s.b.k, rfl, s.e, rfl, by omega, ?_⟩
  rename_i rest hrest
  have key : ∀ H1, Kp M H H1 → GAt xHalving H1 M q' p n ⟨s.b, tbl s.e s.b.k s.ta, s.e⟩ → rest [some (V.ref q'), some (V.str z)] H1 := by
    intro H1 kp1 h1
    have hti := (tbl_ok (e := s.e) (k := s.b.k) hci.t).1
    have htl := hti.k.len
    obtain ⟨la1, ta1, hM1, ⟨dx1, ho1⟩, hla1, hta1, hne1⟩ := id h1
    clear hM1 hla1 hta1 hne1
    subst hrest
    walk_at "go"
    refine ⟨dx1, _, ho1, by rfl, p, n, M, _, h1, by show s.b.la.length ≤ 1000; omega, fun H2 kp2 h2 => ?_⟩
    obtain ⟨la2, ta2, hM3, ⟨dx2, ho2⟩, hla2, hta2, hne2⟩ := id h2
    have hM4 : M = [q', la2, ta2] ∧ True := ⟨hM3, trivial⟩
    clear hM3
    rename_i rest hrest
    subst hrest
    have nq2' : q' ≠ ta2 := fun e => by rw [e, hta2] at ho2; cases ho2
    have hlp := length_putK (tbl s.e s.b.k s.ta) (Sum.inr z : Key) (V.int (tvK (tbl s.e s.b.k s.ta) (Sum.inr z) + 1))
    walk_at "go"
    exact ⟨xHalving, dx2, _, ho2, T.cl_Halving, T.n_Halving_tally, _, rf4_tally, ta2, rfl, .inl ⟨_, .inl hta2⟩, _, DGet.k (k := Sum.inr z) hta2, _, hti.get, xHalving, dx2, _, ho2, T.cl_Halving, T.n_Halving_tally, _, rf4_tally, ta2, rfl, _, DPut.k (k := Sum.inr z) hta2 (by show (tbl s.e s.b.k s.ta).length < _; omega), q _ ((kp1.trans kp2).upd (by rw [hM4.1]; simp)) ⟨la2, ta2, hM4.1, ⟨dx2, by rw [upd_ne nq2']; exact ho2⟩, by rw [upd_ne hne2]; exact hla2, upd_same, hne2⟩⟩
  clear hrest
  by_cases hk : s.b.k % s.e = 0
  · rw [if_pos hk]
    refine ⟨dx, _, ho, by rfl, p, n, M, s, hh', ns, hci.t, by omega, fun H1 kp1 h1 => key H1 kp1 ?_⟩
    unfold tbl
    rw [if_pos hk]; exact h1
  · rw [if_neg hk]
    refine key H (Kp.of (Same.refl H)) ?_
    unfold tbl
    rw [if_neg hk]; exact hh'
theorem ok_Halving_last_of {f : Addr} {fd : FuncData} (F : Fun K "last_of" "Ranked.last_of" s_Halving_last_of f fd) (T : Txt K mg xStock xRule xRanked xOldest xFirst xHalving xFarthest)  : FnOk P w K mg base CX0 1 f fd ["self", "name"] (sp29_last4 xHalving) := by
  have sc : FnScope ["self", "name"] ["self", "name"] (defScope s_Halving_last_of) := ⟨rfl, rfl, rfl, by decide +kernel, rfl, by decide +kernel, by decide +kernel⟩
  refine F.ok sc (fun vs H Q E h => ?_) (fun cdv A outer s H vs Q E hr h => ?_)
  · obtain ⟨q', p, n, M, s, z, ns, rfl, hh, ht, q⟩ := h; rfl
  obtain ⟨q', p, n, M, s, z, ns, rfl, hh, ht, q⟩ := h
  refine ⟨_, (@pss_one _ _ _ (@ps_ret _ _ _ _ (pe_dget2 (hu_of hr) (pe_fld (pv 0) rfl) (pv 1) pe_int ⟨rfl, rfl, rfl, rfl⟩))), ?_⟩
  rw [show start ["self", "name"] [V.ref q', V.str z] = [some (V.ref q'), some (V.str z)] from rfl]
  have line := line_val
  obtain ⟨la, ta, hM, ⟨dx, ho⟩, hla, hta, hne⟩ := hh
  clear hM
  walk_at "go"
  exact ⟨xHalving, dx, _, ho, T.cl_Halving, T.n_Halving_last, _, rf4_last, la, rfl, .inl ⟨_, .inl hla⟩, _, DGet.k (k := Sum.inr z) hla, by rw [lv_get ht]; exact q⟩
theorem ok_Halving_rank {f : Addr} {fd : FuncData} (F : Fun K "rank" "Halving.rank" s_Halving_rank f fd) (T : Txt K mg xStock xRule xRanked xOldest xFirst xHalving xFarthest) (D_Halving_last_of : DefM P w K mg base CX0 1 xHalving "last_of" ["self", "name"] (sp29_last4 xHalving)) : FnOk P w K mg base CX0 2 f fd ["self", "name"] (sp29_rank (C5.mk xRanked xOldest xFirst xHalving xFarthest) .ha) := by
  have sc : FnScope ["self", "name"] ["self", "name"] (defScope s_Halving_rank) := ⟨rfl, rfl, rfl, by decide +kernel, rfl, by decide +kernel, by decide +kernel⟩
  refine F.ok sc (fun vs H Q E h => ?_) (fun cdv A outer s H vs Q E hr h => ?_)
  · obtain ⟨ys, q', p, n, M, s, z, ns, hyl, rfl, hh, ht, q⟩ := h; rfl
  obtain ⟨ys, q', p, n, M, s, z, ns, hyl, rfl, hh, ht, q⟩ := h
  refine ⟨_, (@pss_one _ _ _ (@ps_ret _ _ _ _ (pe_tup (pa_cons (pe_dget2 (hu_of hr) (pe_fld (pv 0) rfl) (pv 1) pe_int ⟨rfl, rfl, rfl, rfl⟩) (pa_cons (pe_methS D_Halving_last_of T.cl_Halving hr (passS pass0) (pv 0) (pa_cons (pv 1) pa_nil)) pa_nil))))), ?_⟩
  rw [show start ["self", "name"] [V.ref q', V.str z] = [some (V.ref q'), some (V.str z)] from rfl]
  have line := line_val
  have hh' : GAt xHalving H M q' p n s := hh
  have ht' : TI ns (S4.b s).la ∧ TI ns (S4.ta s) := ht
  obtain ⟨la, ta, hM, ⟨dx, ho⟩, hla, hta, hne⟩ := id hh'
  clear hM
  walk_at "go"
  exact ⟨xHalving, dx, _, ho, T.cl_Halving, T.n_Halving_tally, _, rf4_tally, ta, rfl, .inl ⟨_, .inl hta⟩, _, DGet.k (k := Sum.inr z) hta, dx, _, ho, by rfl, p, n, M, s, hh', ns, ht'.1, by omega, fun t htt => by rw [ht'.2.get]; exact q t htt⟩
theorem ok_Halving_choice {f : Addr} {fd : FuncData} (F : Fun K "choice" "Ranked.choice" s_Halving_choice f fd) (T : Txt K mg xStock xRule xRanked xOldest xFirst xHalving xFarthest) (D_Halving_rank : DefV P w K mg base 2 xHalving "rank" ["self", "name"] (sp29_rank (C5.mk xRanked xOldest xFirst xHalving xFarthest) .ha)) : FnOk P w K mg base CX0 4 f fd ["self", "lying"] (sp29_choice (C5.mk xRanked xOldest xFirst xHalving xFarthest) .ha K) := by
  have sc : FnScope ["self", "lying"] ["self", "lying"] (defScope s_Halving_choice) := ⟨rfl, rfl, rfl, by decide +kernel, rfl, by decide +kernel, by decide +kernel⟩
  refine F.ok sc (fun vs H Q E h => ?_) (fun cdv A outer s H vs Q E hr h => ?_)
  · obtain ⟨ys, q', p, a, n, M, s, l, ns, z, hyl, rfl, hh, hm, ht, hl, ha, ham, hns, hll, q⟩ := h; rfl
  obtain ⟨ys, q', p, a, n, M, s, l, ns, z, hyl, rfl, hh, hm, ht, hl, ha, ham, hns, hll, q⟩ := h
  refine ⟨_, (@pss_one _ _ _ (@ps_ret _ _ _ _ (pe_minK D_Halving_rank T.cl_Halving hr rfl T.z_min (by first | rfl | decide +kernel) (pa_cons (pv 1) pa_nil) (pv 0) rfl))), ?_⟩
  rw [show start ["self", "lying"] [V.ref q', V.ref a] = [some (V.ref q'), some (V.ref a)] from rfl]
  have line := line_val
  have hh' : GAt xHalving H M q' p n s := hh
  obtain ⟨la, ta, hM, ⟨dx, ho⟩, hla, hta, hne⟩ := id hh'
  clear hM
  have q2 : ∀ H', Kp M H H' → GAt xHalving H' M q' p n s → Q (.str (hmin s l)) H' := q
  clear q hm
  walk_at "go"
  refine ⟨dx, _, ho, by rfl, l.map V.str, SqL.of ha, by simpa using hl, fun i => rkH s (l.getD i Str.empty), fun i v hv H1 sm1 => ?_, fun v H1 sm1 hv => ?_⟩
  · rw [List.getElem?_map] at hv
    cases hz : l[i]? with
    | none => rw [hz] at hv; cases hv
    | some u =>
    rw [hz] at hv
    cases hv
    refine ⟨ys, hyl, p, n, M, s, u, rfl, (T4 xHalving).dep (fun m _ o => sm1 m o) hh', ns, ht, fun t ht => ⟨Same.new ht, ?_⟩⟩
    rw [upd_same]
    show _ = some (HO.tup ((rkH s (l.getD i Str.empty)).map V.int))
    rw [List.getD_eq_getElem?_getD, hz]; rfl
  · rw [List.length_map, List.getElem?_map] at hv
    have hl0 : 0 < l.length := List.length_pos_iff.mpr hl
    have hb := best2 (fun i => tvK (S4.ta s) (Sum.inr (l.getD i Str.empty))) (fun i => lv (S4.b s) (l.getD i Str.empty)) (l.length - 1)
    have hlt : argBest (btK fun i => rkH s (l.getD i Str.empty)) (l.length - 1) < l.length := Nat.lt_of_le_of_lt hb.1 (by omega)
    have e : v = V.str (hmin s l) := by
      unfold hmin
      rw [List.getD_eq_getElem?_getD, List.getElem?_eq_getElem hlt]
      rw [List.getElem?_eq_getElem hlt] at hv
      exact (Option.some.inj hv).symm
    rw [e]
    exact q2 _ (Kp.of sm1) ((T4 xHalving).dep (fun m _ o => sm1 m o) hh')
theorem ok_Halving_gone {f : Addr} {fd : FuncData} (F : Fun K "gone" "Rule.gone" s_Halving_gone f fd) (T : Txt K mg xStock xRule xRanked xOldest xFirst xHalving xFarthest)  : FnOk P w K mg base CX0 1 f fd ["self", "name"] (sp29_gone (C5.mk xRanked xOldest xFirst xHalving xFarthest) .ha) := by
  have sc : FnScope ["self", "name"] ["self", "name"] (defScope s_Halving_gone) := ⟨rfl, rfl, rfl, by decide +kernel, rfl, by decide +kernel, by decide +kernel⟩
  refine F.ok sc (fun vs H Q E h => ?_) (fun cdv A outer s H vs Q E hr h => ?_)
  · obtain ⟨ys, hyl, q', p, n, M, s, l, ns, z, rfl, hh, hm, hl, hns, q⟩ := h; rfl
  obtain ⟨ys, hyl, q', p, n, M, s, l, ns, z, rfl, hh, hm, hl, hns, q⟩ := h
  refine ⟨_, (@pss_one _ _ _ ps_pass), ?_⟩
  rw [show start ["self", "name"] [V.ref q', V.str (RuleT.pick (T5 (C5.mk xRanked xOldest xFirst xHalving xFarthest) ys .ha) n s l).2] = [some (V.ref q'), some (V.str (RuleT.pick (T5 (C5.mk xRanked xOldest xFirst xHalving xFarthest) ys .ha) n s l).2)] from rfl]
  walk_at "go"
  exact q _ (Kp.of (Same.refl _)) hh
theorem ok_Halving_came {f : Addr} {fd : FuncData} (F : Fun K "came" "Rule.came" s_Halving_came f fd) (T : Txt K mg xStock xRule xRanked xOldest xFirst xHalving xFarthest)  : FnOk P w K mg base CX0 1 f fd ["self", "name"] (sp29_came (C5.mk xRanked xOldest xFirst xHalving xFarthest) .ha) := by
  have sc : FnScope ["self", "name"] ["self", "name"] (defScope s_Halving_came) := ⟨rfl, rfl, rfl, by decide +kernel, rfl, by decide +kernel, by decide +kernel⟩
  refine F.ok sc (fun vs H Q E h => ?_) (fun cdv A outer s H vs Q E hr h => ?_)
  · obtain ⟨ys, hyl, q', p, n, M, s, l, ns, z, rfl, hh, hm, hz, hzl, hns, q⟩ := h; rfl
  obtain ⟨ys, hyl, q', p, n, M, s, l, ns, z, rfl, hh, hm, hz, hzl, hns, q⟩ := h
  refine ⟨_, (@pss_one _ _ _ ps_pass), ?_⟩
  rw [show start ["self", "name"] [V.ref q', V.str z] = [some (V.ref q'), some (V.str z)] from rfl]
  walk_at "go"
  exact q _ (Kp.of (Same.refl _)) hh
theorem ok_Farthest_number_ask {f : Addr} {fd : FuncData} (F : Fun K "number_ask" "Ranked.number_ask" s_Farthest_number_ask f fd) (T : Txt K mg xStock xRule xRanked xOldest xFirst xHalving xFarthest)  : FnOk P w K mg base CX0 1 f fd ["self", "name"] (sp24_number xFarthest) := by
  have sc : FnScope ["self", "name"] ["self", "name"] (defScope s_Farthest_number_ask) := ⟨rfl, rfl, rfl, by decide +kernel, rfl, by decide +kernel, by decide +kernel⟩
  refine F.ok sc (fun vs H Q E h => ?_) (fun cdv A outer s H vs Q E hr h => ?_)
  · obtain ⟨q', p, n, M, s, z, ys, rfl, hh, hl, q⟩ := h; rfl
  obtain ⟨q', p, n, M, s, z, ys, rfl, hh, hl, q⟩ := h
  refine ⟨_, (@pss_cons _ _ _ _ _ (ps_fldaug (pv 0) pe_int in_add)
    (@pss_one _ _ _ (ps_dput (hu_of hr) (pe_fld (pv 0) rfl) (pv 1) (pe_fld (pv 0) rfl) rfl))), ?_⟩
  rw [show start ["self", "name"] [V.ref q', V.str z] = [some (V.ref q'), some (V.str z)] from rfl]
  have line := line_val
  obtain ⟨la, ak, hM, ⟨dx, ho⟩, hla, hak⟩ := hh
  have hM2 : M = [q', la, ak] ∧ True := ⟨hM, trivial⟩
  clear hM
  have nq1 : q' ≠ la := fun e => by rw [e, hla] at ho; cases ho
  have nq2 : q' ≠ ak := fun e => by rw [e, hak] at ho; cases ho
  have nla : la ≠ ak := fun e => by rw [e, hak] at hla; cases hla
  walk_at "go"
  refine ⟨xFarthest, dx, _, ho, T.cl_Farthest, T.n_Farthest_present, _, rf3_present, s.k, rfl, dx, _, ho, by rw [rf3_len]; decide, ?_⟩
  have ho1 : upd H q' (.ins xFarthest dx (rf3 p n (s.k + 1) la ak)) q' = some (.ins xFarthest dx (rf3 p n (s.k + 1) la ak)) := upd_same
  have hla1 : upd H q' (.ins xFarthest dx (rf3 p n (s.k + 1) la ak)) la = some (.dK s.la) := by rw [upd_ne nq1.symm]; exact hla
  have hak1 : upd H q' (.ins xFarthest dx (rf3 p n (s.k + 1) la ak)) ak = some (.lst (ys.map V.str)) := by rw [upd_ne nq2.symm]; exact hak
  have kp1 : Kp M H (upd H q' (.ins xFarthest dx (rf3 p n (s.k + 1) la ak))) := (Kp.of (Same.refl H)).upd (by rw [hM2.1]; simp)
  rename_i rest hrest
  show rest _ (upd H q' (.ins xFarthest dx (rf3 p n (s.k + 1) la ak)))
  generalize upd H q' (.ins xFarthest dx (rf3 p n (s.k + 1) la ak)) = H1 at ho1 hla1 hak1 kp1 ⊢
  have hlp := length_putK s.la (Sum.inr z : Key) (V.int (s.k + 1))
  subst hrest
  walk_at "go"
  exact ⟨xFarthest, dx, _, ho1, T.cl_Farthest, T.n_Farthest_present, _, rf3_present, xFarthest, dx, _, ho1, T.cl_Farthest, T.n_Farthest_last, _, rf3_last, la, rfl, _, DPut.k (k := Sum.inr z) hla1 (by omega), q _ (kp1.upd (by rw [hM2.1]; simp)) ⟨la, ak, hM2.1, ⟨dx, by rw [upd_ne nq1]; exact ho1⟩, upd_same, by rw [upd_ne nla.symm]; exact hak1⟩⟩
theorem ok_Farthest_last_of {f : Addr} {fd : FuncData} (F : Fun K "last_of" "Ranked.last_of" s_Farthest_last_of f fd) (T : Txt K mg xStock xRule xRanked xOldest xFirst xHalving xFarthest)  : FnOk P w K mg base CX0 1 f fd ["self", "name"] (sp29_last3 xFarthest) := by
  have sc : FnScope ["self", "name"] ["self", "name"] (defScope s_Farthest_last_of) := ⟨rfl, rfl, rfl, by decide +kernel, rfl, by decide +kernel, by decide +kernel⟩
  refine F.ok sc (fun vs H Q E h => ?_) (fun cdv A outer s H vs Q E hr h => ?_)
  · obtain ⟨ys, q', p, n, M, s, z, ns, rfl, hh, ht, q⟩ := h; rfl
  obtain ⟨ys, q', p, n, M, s, z, ns, rfl, hh, ht, q⟩ := h
  refine ⟨_, (@pss_one _ _ _ (@ps_ret _ _ _ _ (pe_dget2 (hu_of hr) (pe_fld (pv 0) rfl) (pv 1) pe_int ⟨rfl, rfl, rfl, rfl⟩))), ?_⟩
  rw [show start ["self", "name"] [V.ref q', V.str z] = [some (V.ref q'), some (V.str z)] from rfl]
  have line := line_val
  obtain ⟨la, ak, hM, ⟨dx, ho⟩, hla, hak⟩ := hh
  clear hM
  walk_at "go"
  exact ⟨xFarthest, dx, _, ho, T.cl_Farthest, T.n_Farthest_last, _, rf3_last, la, rfl, .inl ⟨_, .inl hla⟩, _, DGet.k (k := Sum.inr z) hla, by rw [lv_get ht]; exact q⟩
theorem ok_Farthest_coming_of {f : Addr} {fd : FuncData} (F : Fun K "coming_of" "Farthest.coming_of" s_Farthest_coming_of f fd) (T : Txt K mg xStock xRule xRanked xOldest xFirst xHalving xFarthest)  : FnOk P w K mg base CX0 1 f fd ["self", "name"] (sp24_coming xFarthest) := by
  have sc : FnScope ["self", "name", "before"] ["self", "name"] (defScope s_Farthest_coming_of) := ⟨rfl, rfl, rfl, by decide +kernel, rfl, by decide +kernel, by decide +kernel⟩
  refine F.ok sc (fun vs H Q E h => ?_) (fun cdv A outer s H vs Q E hr h => ?_)
  · obtain ⟨q', p, n, M, s, z, ys, rfl, hh, hk0, hk1, hlen, q⟩ := h; rfl
  obtain ⟨q', p, n, M, s, z, ys, rfl, hh, hk0, hk1, hlen, q⟩ := h
  refine ⟨_, (@pss_cons _ _ _ _ _ (ps_for PassesOwn.never rfl (pi_range2 rfl T.z_range (pa_cons (pe_fld (pv 0) rfl) (pa_cons (pe_callB call_len_seq rfl T.z_len PySem.boot_len (pa_cons (pe_fld (pv 0) rfl) pa_nil)) pa_nil))) (pg_name (i := 2) sc.nd rfl (Or.inl rfl))
      (@pss_one _ _ _ (ps_if (pt_cmpR op_eq (@pe_ix _ _ _ _ _ _ _ ix_list (pe_fld (pv 0) rfl) (pv 2) (fun _ _ => rfl)) (pv 1) (nomark _))
        (@pss_one _ _ _ (@ps_ret _ _ _ _ (pe_op op_add (pv 2) pe_int)))
        pss_nil)))
    (@pss_one _ _ _ (@ps_ret _ _ _ _ (pe_op op_add (pe_callB call_len_seq rfl T.z_len PySem.boot_len (pa_cons (pe_fld (pv 0) rfl) pa_nil)) pe_int)))), ?_⟩
  rw [show start ["self", "name", "before"] [V.ref q', V.str z] = [some (V.ref q'), some (V.str z), none] from rfl]
  have line := line_val
  obtain ⟨la, ak, hM, ⟨dx, ho⟩, hla, hak⟩ := hh
  clear hM
  walk_at "go"
  refine ⟨xFarthest, dx, _, ho, T.cl_Farthest, T.n_Farthest_present, _, rf3_present, xFarthest, dx, _, ho, T.cl_Farthest, T.n_Farthest_asks, _, rf3_asks, ?_⟩
  refine ⟨ak, rfl, _, .inl (SqL.of hak), s.k, rfl, by omega, by omega, by rw [List.length_map]; omega, by rw [List.length_map]; omega, ?_⟩
  rw [List.length_map]
  have hkn : s.k = ((s.k.toNat : Nat) : Int) ∧ True := ⟨by omega, trivial⟩
  rename_i rest hrest
  refine forR_by (fun i σ H' => ∃ v2 : Option V, σ = [some (V.ref q'), some (V.str z), v2] ∧ H' = H ∧ ∀ u, u < i → ys[s.k.toNat + u]? ≠ some z) ⟨none, rfl, rfl, fun u hu => absurd hu (Nat.not_lt_zero _)⟩ ?_ ?_
  · clear hrest
    rintro i σ H' hi ⟨v2, rfl, rfl, hno⟩
    have hil : s.k.toNat + i < ys.length := by omega
    have hy := List.getElem?_eq_getElem hil
    generalize ys[s.k.toNat + i] = y at hy
    walk_at "go"
    refine ⟨xFarthest, dx, _, ho, T.cl_Farthest, T.n_Farthest_asks, _, rf3_asks, ixL_of (SqL.of hak) (v := V.str y) (by rw [show s.k + (i : Int) = ((s.k.toNat + i : Nat) : Int) by omega]; exact atI_nat (by rw [List.getElem?_map, hy]; rfl)) ?_⟩
    refine ⟨rfl, ?_⟩
    by_cases e : y = z
    · rw [if_pos (by rw [e])]
      rw [e] at hy
      rw [nx_at hy hno] at q
      rw [show s.k + (i : Int) + 1 = ((s.k.toNat + i : Nat) : Int) + 1 by omega]
      exact q
    · rw [if_neg (fun h => e (by injection h))]
      refine ⟨rfl, fun u hu => ?_⟩
      by_cases eu : u = i
      · rw [eu, hy]; exact fun h => e (Option.some.inj h)
      · exact hno u (by omega)
  · rintro σ H' ⟨v2, rfl, rfl, hno⟩
    rw [nx_end (fun u hu => hno u (by omega))] at q
    subst hrest
    walk_at "go"
    refine ⟨xFarthest, dx, _, ho, T.cl_Farthest, T.n_Farthest_asks, _, rf3_asks, ak, rfl, _, .inl (SqL.of hak), ?_⟩
    rw [List.length_map]
    exact q
theorem ok_Farthest_rank {f : Addr} {fd : FuncData} (F : Fun K "rank" "Farthest.rank" s_Farthest_rank f fd) (T : Txt K mg xStock xRule xRanked xOldest xFirst xHalving xFarthest) (D_Farthest_coming_of : DefM P w K mg base CX0 1 xFarthest "coming_of" ["self", "name"] (sp24_coming xFarthest)) (D_Farthest_last_of : DefM P w K mg base CX0 1 xFarthest "last_of" ["self", "name"] (sp29_last3 xFarthest)) : FnOk P w K mg base CX0 2 f fd ["self", "name"] (sp29_rank (C5.mk xRanked xOldest xFirst xHalving xFarthest) .fa) := by
  have sc : FnScope ["self", "name"] ["self", "name"] (defScope s_Farthest_rank) := ⟨rfl, rfl, rfl, by decide +kernel, rfl, by decide +kernel, by decide +kernel⟩
  refine F.ok sc (fun vs H Q E h => ?_) (fun cdv A outer s H vs Q E hr h => ?_)
  · obtain ⟨ys, q', p, n, M, s, z, ns, hyl, rfl, hh, ht, q⟩ := h; rfl
  obtain ⟨ys, q', p, n, M, s, z, ns, hyl, rfl, hh, ht, q⟩ := h
  refine ⟨_, (@pss_one _ _ _ (@ps_ret _ _ _ _ (pe_tup (pa_cons (pe_op op_sub pe_int (pe_methS D_Farthest_coming_of T.cl_Farthest hr (passS pass0) (pv 0) (pa_cons (pv 1) pa_nil))) (pa_cons (pe_methS D_Farthest_last_of T.cl_Farthest hr (passS pass0) (pv 0) (pa_cons (pv 1) pa_nil)) pa_nil))))), ?_⟩
  rw [show start ["self", "name"] [V.ref q', V.str z] = [some (V.ref q'), some (V.str z)] from rfl]
  have line := line_val
  have hh' : QAt xFarthest ys H M q' p n s := hh
  have ht' : TI ns (S2.la s) ∧ 0 ≤ S2.k s ∧ S2.k s ≤ 1000 := ht
  obtain ⟨la, ak, hM, ⟨dx, ho⟩, hla, hak⟩ := id hh'
  clear hM
  walk_at "go"
  exact ⟨dx, _, ho, by rfl, p, n, M, s, ys, hh', ht'.2.1, by omega, hyl, dx, _, ho, by rfl, ys, p, n, M, s, hh', ns, ht'.1, by omega, fun t htt => q t htt⟩
theorem ok_Farthest_asked {f : Addr} {fd : FuncData} (F : Fun K "asked" "Ranked.asked" s_Farthest_asked f fd) (T : Txt K mg xStock xRule xRanked xOldest xFirst xHalving xFarthest) (D_Farthest_number_ask : DefM P w K mg base CX0 1 xFarthest "number_ask" ["self", "name"] (sp24_number xFarthest)) : FnOk P w K mg base CX0 2 f fd ["self", "name"] (sp29_asked (C5.mk xRanked xOldest xFirst xHalving xFarthest) .fa) := by
  have sc : FnScope ["self", "name"] ["self", "name"] (defScope s_Farthest_asked) := ⟨rfl, rfl, rfl, by decide +kernel, rfl, by decide +kernel, by decide +kernel⟩
  refine F.ok sc (fun vs H Q E h => ?_) (fun cdv A outer s H vs Q E hr h => ?_)
  · obtain ⟨ys, hyl, q', p, n, M, s, l, ns, z, rfl, hh, hi, hz, hns, q⟩ := h; rfl
  obtain ⟨ys, hyl, q', p, n, M, s, l, ns, z, rfl, hh, hi, hz, hns, q⟩ := h
  refine ⟨_, (@pss_one _ _ _ (ps_expr (pe_methS D_Farthest_number_ask T.cl_Farthest hr (passS pass0) (pv 0) (pa_cons (pv 1) pa_nil)))), ?_⟩
  rw [show start ["self", "name"] [V.ref q', V.str z] = [some (V.ref q'), some (V.str z)] from rfl]
  have line := line_val
  have hh' : QAt xFarthest ys H M q' p n s := hh
  obtain ⟨la, ak, hM, ⟨dx, ho⟩, hla, hak⟩ := id hh'
  have hi' : LI ns s l ∧ 0 ≤ S2.k s := hi
  have hlen := hi'.1.a.len
  walk_at "go"
  exact ⟨dx, _, ho, by rfl, p, n, M, s, ys, hh', by omega, fun H1 kp1 h1 => q H1 kp1 h1⟩
theorem ok_Farthest_choice {f : Addr} {fd : FuncData} (F : Fun K "choice" "Ranked.choice" s_Farthest_choice f fd) (T : Txt K mg xStock xRule xRanked xOldest xFirst xHalving xFarthest) (D_Farthest_rank : DefV P w K mg base 2 xFarthest "rank" ["self", "name"] (sp29_rank (C5.mk xRanked xOldest xFirst xHalving xFarthest) .fa)) : FnOk P w K mg base CX0 4 f fd ["self", "lying"] (sp29_choice (C5.mk xRanked xOldest xFirst xHalving xFarthest) .fa K) := by
  have sc : FnScope ["self", "lying"] ["self", "lying"] (defScope s_Farthest_choice) := ⟨rfl, rfl, rfl, by decide +kernel, rfl, by decide +kernel, by decide +kernel⟩
  refine F.ok sc (fun vs H Q E h => ?_) (fun cdv A outer s H vs Q E hr h => ?_)
  · obtain ⟨ys, q', p, a, n, M, s, l, ns, z, hyl, rfl, hh, hm, ht, hl, ha, ham, hns, hll, q⟩ := h; rfl
  obtain ⟨ys, q', p, a, n, M, s, l, ns, z, hyl, rfl, hh, hm, ht, hl, ha, ham, hns, hll, q⟩ := h
  refine ⟨_, (@pss_one _ _ _ (@ps_ret _ _ _ _ (pe_minK D_Farthest_rank T.cl_Farthest hr rfl T.z_min (by first | rfl | decide +kernel) (pa_cons (pv 1) pa_nil) (pv 0) rfl))), ?_⟩
  rw [show start ["self", "lying"] [V.ref q', V.ref a] = [some (V.ref q'), some (V.ref a)] from rfl]
  have line := line_val
  have hh' : QAt xFarthest ys H M q' p n s := hh
  obtain ⟨la, ak, hM, ⟨dx, ho⟩, hla, hak⟩ := id hh'
  clear hM
  have q2 : ∀ H', Kp M H H' → QAt xFarthest ys H' M q' p n s → Q (.str (fmin ys s l)) H' := q
  clear q hm
  walk_at "go"
  refine ⟨dx, _, ho, by rfl, l.map V.str, SqL.of ha, by simpa using hl, fun i => rkF ys s (l.getD i Str.empty), fun i v hv H1 sm1 => ?_, fun v H1 sm1 hv => ?_⟩
  · rw [List.getElem?_map] at hv
    cases hz : l[i]? with
    | none => rw [hz] at hv; cases hv
    | some u =>
    rw [hz] at hv
    cases hv
    refine ⟨ys, hyl, p, n, M, s, u, rfl, (T3 xFarthest ys).dep (fun m _ o => sm1 m o) hh', ns, ht, fun t ht => ⟨Same.new ht, ?_⟩⟩
    rw [upd_same]
    show _ = some (HO.tup ((rkF ys s (l.getD i Str.empty)).map V.int))
    rw [List.getD_eq_getElem?_getD, hz]; rfl
  · rw [List.length_map, List.getElem?_map] at hv
    have hl0 : 0 < l.length := List.length_pos_iff.mpr hl
    have hb := best2 (fun i => 0 - ((nx ys (S2.k s).toNat (l.getD i Str.empty) : Int) + 1)) (fun i => lv s (l.getD i Str.empty)) (l.length - 1)
    have hlt : argBest (btK fun i => rkF ys s (l.getD i Str.empty)) (l.length - 1) < l.length := Nat.lt_of_le_of_lt hb.1 (by omega)
    have e : v = V.str (fmin ys s l) := by
      unfold fmin
      rw [List.getD_eq_getElem?_getD, List.getElem?_eq_getElem hlt]
      rw [List.getElem?_eq_getElem hlt] at hv
      exact (Option.some.inj hv).symm
    rw [e]
    exact q2 _ (Kp.of sm1) ((T3 xFarthest ys).dep (fun m _ o => sm1 m o) hh')
theorem ok_Farthest_gone {f : Addr} {fd : FuncData} (F : Fun K "gone" "Rule.gone" s_Farthest_gone f fd) (T : Txt K mg xStock xRule xRanked xOldest xFirst xHalving xFarthest)  : FnOk P w K mg base CX0 1 f fd ["self", "name"] (sp29_gone (C5.mk xRanked xOldest xFirst xHalving xFarthest) .fa) := by
  have sc : FnScope ["self", "name"] ["self", "name"] (defScope s_Farthest_gone) := ⟨rfl, rfl, rfl, by decide +kernel, rfl, by decide +kernel, by decide +kernel⟩
  refine F.ok sc (fun vs H Q E h => ?_) (fun cdv A outer s H vs Q E hr h => ?_)
  · obtain ⟨ys, hyl, q', p, n, M, s, l, ns, z, rfl, hh, hm, hl, hns, q⟩ := h; rfl
  obtain ⟨ys, hyl, q', p, n, M, s, l, ns, z, rfl, hh, hm, hl, hns, q⟩ := h
  refine ⟨_, (@pss_one _ _ _ ps_pass), ?_⟩
  rw [show start ["self", "name"] [V.ref q', V.str (RuleT.pick (T5 (C5.mk xRanked xOldest xFirst xHalving xFarthest) ys .fa) n s l).2] = [some (V.ref q'), some (V.str (RuleT.pick (T5 (C5.mk xRanked xOldest xFirst xHalving xFarthest) ys .fa) n s l).2)] from rfl]
  walk_at "go"
  exact q _ (Kp.of (Same.refl _)) hh
theorem ok_Farthest_came {f : Addr} {fd : FuncData} (F : Fun K "came" "Rule.came" s_Farthest_came f fd) (T : Txt K mg xStock xRule xRanked xOldest xFirst xHalving xFarthest)  : FnOk P w K mg base CX0 1 f fd ["self", "name"] (sp29_came (C5.mk xRanked xOldest xFirst xHalving xFarthest) .fa) := by
  have sc : FnScope ["self", "name"] ["self", "name"] (defScope s_Farthest_came) := ⟨rfl, rfl, rfl, by decide +kernel, rfl, by decide +kernel, by decide +kernel⟩
  refine F.ok sc (fun vs H Q E h => ?_) (fun cdv A outer s H vs Q E hr h => ?_)
  · obtain ⟨ys, hyl, q', p, n, M, s, l, ns, z, rfl, hh, hm, hz, hzl, hns, q⟩ := h; rfl
  obtain ⟨ys, hyl, q', p, n, M, s, l, ns, z, rfl, hh, hm, hz, hzl, hns, q⟩ := h
  refine ⟨_, (@pss_one _ _ _ ps_pass), ?_⟩
  rw [show start ["self", "name"] [V.ref q', V.str z] = [some (V.ref q'), some (V.str z)] from rfl]
  walk_at "go"
  exact q _ (Kp.of (Same.refl _)) hh
theorem ok_l_cell {f : Addr} {fd : FuncData} (F : Fun K "_law_cell" "_law_cell" s_l_cell f fd) (T : Txt K mg xStock xRule xRanked xOldest xFirst xHalving xFarthest)  : FnOk P w K mg base CX0 1 f fd ["_law_script", "_law_k"] (sp_cell K) := by
  have sc : FnScope ["_law_script", "_law_k"] ["_law_script", "_law_k"] (defScope s_l_cell) := ⟨rfl, rfl, rfl, by decide +kernel, rfl, by decide +kernel, by decide +kernel⟩
  refine F.ok sc (fun vs H Q E h => ?_) (fun cdv A outer s H vs Q E hr h => ?_)
  · obtain ⟨a, ns, k, rfl, hS, h0, hl, q⟩ := h; rfl
  obtain ⟨a, ns, k, rfl, hS, h0, hl, q⟩ := h
  refine ⟨_, (@pss_cons _ _ _ _ _ (ps_if (pt_cmpR op_lt (pv 1) (pe_callB call_len_seq rfl T.z_len PySem.boot_len (pa_cons (pv 0) pa_nil)) (nomark _))
      (@pss_one _ _ _ (@ps_ret _ _ _ _ (@pe_ix _ _ _ _ _ _ _ ix_list (pv 0) (pv 1) (fun _ _ => rfl))))
      pss_nil)
    (@pss_one _ _ _ (@ps_ret _ _ _ _ pe_int))), ?_⟩
  rw [show start ["_law_script", "_law_k"] [V.ref a, V.int k] = [some (V.ref a), some (V.int k)] from rfl]
  walk_at "go"
  rw [List.length_map]
  split
  · rename_i hk
    exact ixL_of hS (atI_of h0 (getMap (by omega))) q
  · rename_i hk
    rw [List.getD_eq_getElem?_getD, List.getElem?_eq_none (by omega)] at q
    walk_at "go"
    exact q
theorem ok_l_stream {f : Addr} {fd : FuncData} (F : Fun K "_law_stream" "_law_stream" s_l_stream f fd) (T : Txt K mg xStock xRule xRanked xOldest xFirst xHalving xFarthest)  : FnOk P w K mg base CX0 1 f fd ["_law_cell_here", "_law_many"] (sp20_stream) := by
  have sc : FnScope ["_law_cell_here", "_law_many", "_law_found", "_law_number", "_law_k"] ["_law_cell_here", "_law_many"] (defScope s_l_stream) := ⟨rfl, rfl, rfl, by decide +kernel, rfl, by decide +kernel, by decide +kernel⟩
  refine F.ok sc (fun vs H Q E h => ?_) (fun cdv A outer s H vs Q E hr h => ?_)
  · obtain ⟨c, m, rfl, hm, q⟩ := h; rfl
  obtain ⟨c, m, rfl, hm, q⟩ := h
  refine ⟨_, (@pss_cons _ _ _ _ _ (ps_set (i := 2) sc.nd rfl (Or.inl rfl) (@pe_lst _ _ _ _ pa_nil))
    (@pss_cons _ _ _ _ _ (ps_set (i := 3) sc.nd rfl (Or.inl rfl) (pe_op op_add (pe_op op_mod (pv 0) pe_int) pe_int))
    (@pss_cons _ _ _ _ _ (ps_for PassesOwn.never rfl (pi_range1 rfl T.z_range (pa_cons (pv 1) pa_nil)) (pg_name (i := 4) sc.nd rfl (Or.inl rfl))
      (@pss_cons _ _ _ _ _ (ps_set (i := 3) sc.nd rfl (Or.inl rfl) (pe_op op_mod (pe_op op_add (pe_op op_add (pe_op op_mul (pv 3) pe_int) (pe_op op_mul pe_int (pv 4))) pe_int) pe_int))
      (@pss_one _ _ _ (ps_expr (pe_bm PySem.F.plainAttrs_list PySem.F.slot_list_append PySem.F.type_list_append mt_append (pv 2) (pa_cons (pe_op op_fdiv (pv 3) pe_int) pa_nil))))))
    (@pss_one _ _ _ (@ps_ret _ _ _ _ (pv 2)))))), ?_⟩
  rw [show start ["_law_cell_here", "_law_many", "_law_found", "_law_number", "_law_k"] [V.int c, V.int m] = [some (V.int c), some (V.int m), none, none, none] from rfl]
  have line := line_val
  have hx0 := Int.emod_nonneg c (show (2147483629 : Int) ≠ 0 by decide)
  have hx1 := Int.emod_lt_of_pos c (show (0 : Int) < 2147483629 by decide)
  walk_at "go"
  intro p hp
  rename_i rest hrest
  subst hrest
  walk_at "go"
  refine forR_by (fun k σ H' => ∃ (nu : Int) (v4 : Option V) (xs : List Int), σ = [some (V.int c), some (V.int m), some (V.ref p), some (V.int nu), v4] ∧ 0 ≤ nu ∧ nu < 10 ^ 10 ∧ H' = upd H p (.lst (xs.map V.int)) ∧ xs.length ≤ k ∧ k ≤ xs.length ∧ ∀ x ∈ xs, 0 ≤ x) ⟨_, none, [], rfl, by omega, by omega, rfl, Nat.le_refl _, Nat.le_refl _, by simp⟩ ?_ ?_
  · rintro k σ H' hk ⟨nu, v4, xs, rfl, h0, h1, rfl, hl1, hl2, hxs⟩
    walk_at "go"
    have hy0 := Int.emod_nonneg (nu * 48271 + 7919 * (k : Int) + 1) (show (2147483647 : Int) ≠ 0 by decide)
    have hy1 := Int.emod_lt_of_pos (nu * 48271 + 7919 * (k : Int) + 1) (show (0 : Int) < 2147483647 by decide)
    generalize (nu * 48271 + 7919 * (k : Int) + 1) % 2147483647 = u at hy0 hy1 ⊢
    refine ⟨.inl ⟨rfl, _, SqL.of upd_same⟩, cdiv_of (by decide) (by decide), p, _, _, rfl, rfl, upd_same, by rw [List.length_map]; omega, by omega, by omega, xs ++ [u / 5], ?_, by rw [List.length_append]; simp only [List.length_cons, List.length_nil]; omega, by rw [List.length_append]; simp only [List.length_cons, List.length_nil]; omega, fun x hx => ?_⟩
    · rw [upd_upd, List.map_append]; rfl
    · rcases List.mem_append.mp hx with hx | hx
      · exact hxs x hx
      · rw [List.mem_singleton.mp hx]; omega
  · rintro σ H' ⟨nu, v4, xs, rfl, h0, h1, rfl, hl1, hl2, hxs⟩
    walk_at "go"
    exact q p xs _ hp (Same.new hp) upd_same (by omega) hxs
theorem ok_l_names {f : Addr} {fd : FuncData} (F : Fun K "_law_names" "_law_names" s_l_names f fd) (T : Txt K mg xStock xRule xRanked xOldest xFirst xHalving xFarthest)  : FnOk P w K mg base CX0 1 f fd ["_law_cell_here", "_law_many"] (sp20_names) := by
  have sc : FnScope ["_law_cell_here", "_law_many", "_law_signs", "_law_tail", "_law_size", "_law_at", "_law_base", "_law_names_here", "_law_k", "_law_sign"] ["_law_cell_here", "_law_many"] (defScope s_l_names) := ⟨rfl, rfl, rfl, by decide +kernel, rfl, by decide +kernel, by decide +kernel⟩
  refine F.ok sc (fun vs H Q E h => ?_) (fun cdv A outer s H vs Q E hr h => ?_)
  · obtain ⟨c, m, rfl, hm, q⟩ := h; rfl
  obtain ⟨c, m, rfl, hm, q⟩ := h
  refine ⟨_, (@pss_cons _ _ _ _ _ (ps_set (i := 2) sc.nd rfl (Or.inr rfl) pe_str)
    (@pss_cons _ _ _ _ _ (ps_set (i := 3) sc.nd rfl (Or.inr rfl) (pe_bm PySem.F.plainAttrs_str PySem.F.slot_str_join PySem.F.type_str_join mt_join pe_str (pa_cons (pe_comp1 "_law_k" [2, 0] rfl rfl (pi_range2 rfl T.z_range (pa_cons pe_int (pa_cons pe_int pa_nil))) (fun b => (@pe_ix _ _ _ _ _ _ _ ix_str (pv 1) (pe_op op_mod (pe_op op_add (pe_op op_fdiv (pv 2) pe_int) (pe_op op_mulB (pe_op op_mul pe_int (pv 0)) (pv 0))) pe_int) (fun _ _ => rfl)))) pa_nil)))
    (@pss_cons _ _ _ _ _ (ps_if (pt_cmpR op_eq (pe_op op_mod (pv 0) pe_int) pe_int (nomark _))
      (@pss_one _ _ _ (@ps_ret _ _ _ _ (pe_comp1 "_law_k" [2, 3, 0] rfl rfl (pi_range1 rfl T.z_range (pa_cons (pv 1) pa_nil)) (fun b => (pe_op op_add_str (@pe_ix _ _ _ _ _ _ _ ix_str (pv 1) (pe_op op_mod (pe_op op_add (pe_op op_fdiv (pv 3) pe_int) (pe_op op_fdiv (pv 0) pe_int)) pe_int) (fun _ _ => rfl)) (pe_slice sl_str (pv 2) po_none (po_some (pe_op op_mod (pv 0) pe_int))))))))
      pss_nil)
    (@pss_cons _ _ _ _ _ (ps_set (i := 4) sc.nd rfl (Or.inl rfl) (pe_op op_add pe_int (pe_op op_mod (pe_op op_fdiv (pv 0) pe_int) pe_int)))
    (@pss_cons _ _ _ _ _ (ps_set (i := 5) sc.nd rfl (Or.inl rfl) (pe_op op_mod (pe_op op_fdiv (pv 0) pe_int) (pv 4)))
    (@pss_cons _ _ _ _ _ (ps_set (i := 6) sc.nd rfl (Or.inl rfl) (pe_op op_add_str (@pe_ix _ _ _ _ _ _ _ ix_str (pv 2) (pe_op op_mod (pe_op op_fdiv (pv 0) pe_int) pe_int) (fun _ _ => rfl)) (pe_slice sl_str (pv 3) po_none (po_some (pe_op op_sub (pv 4) pe_int)))))
    (@pss_cons _ _ _ _ _ (ps_set (i := 7) sc.nd rfl (Or.inl rfl) (@pe_lst _ _ _ _ pa_nil))
    (@pss_cons _ _ _ _ _ (ps_for PassesOwn.never rfl (pi_range1 rfl T.z_range (pa_cons (pv 1) pa_nil)) (pg_name (i := 8) sc.nd rfl (Or.inl rfl))
      (@pss_cons _ _ _ _ _ (ps_set (i := 9) sc.nd rfl (Or.inl rfl) (@pe_ix _ _ _ _ _ _ _ ix_str (pv 2) (pe_op op_mod (pe_op op_add (pe_op op_fdiv (pv 0) pe_int) (pv 8)) pe_int) (fun _ _ => rfl)))
      (@pss_one _ _ _ (ps_expr (pe_bm PySem.F.plainAttrs_list PySem.F.slot_list_append PySem.F.type_list_append mt_append (pv 7) (pa_cons (pe_op op_add_str (pe_op op_add_str (pe_op op_add_str (pe_slice sl_str (pv 6) po_none (po_some (pv 5))) (pv 9)) (pe_slice sl_str (pv 6) (po_some (pe_op op_add (pv 5) pe_int)) po_none)) (pe_slice sl_str pe_str po_none (po_some (pe_op op_fdiv (pv 8) pe_int)))) pa_nil))))))
    (@pss_one _ _ _ (@ps_ret _ _ _ _ (pv 7))))))))))), ?_⟩
  rw [show start ["_law_cell_here", "_law_many", "_law_signs", "_law_tail", "_law_size", "_law_at", "_law_base", "_law_names_here", "_law_k", "_law_sign"] [V.int c, V.int m] = [some (V.int c), some (V.int m), none, none, none, none, none, none, none, none] from rfl]
  have line := line_val
  have bl := both_length
  walk_at "go"
  refine compR_pure (n := 7) (fun k => V.str ⟨#[bc ((c / 36 + 5 * k * k) % 36)]⟩) (by omega) (fun b k H' Q' hk sm q' => ?_) fun D hD => ?_
  · walk_at "go"
    refine ⟨⟨by omega, by omega⟩, by decide, ixS_of (by omega) (ix_bc _ (by decide) (by decide)) q'⟩
  have etl : (List.range 7).map (fun i : Nat => V.str ⟨#[bc ((c / 36 + 5 * (1 + (i : Int)) * (1 + (i : Int))) % 36)]⟩) = (((List.range 7).map fun j : Nat => bc ((c / 36 + 5 * (1 + (j : Int)) * (1 + (j : Int))) % 36)).map fun c => (⟨#[c]⟩ : Str)).map V.str := by
    rw [List.map_map, List.map_map]; rfl
  rw [etl]
  clear etl
  have htl : ((List.range 7).map fun j : Nat => bc ((c / 36 + 5 * (1 + (j : Int)) * (1 + (j : Int))) % 36)).length = 7 ∧ True := ⟨by rw [List.length_map, List.length_range], trivial⟩
  have hnm1 : ∀ k, nm1 (c / 4) (fun j : Nat => c / 36 + 5 * (1 + (j : Int)) * (1 + (j : Int))) k = bc ((c / 4 + k / 8) % 26) :: ((List.range 7).map fun j : Nat => bc ((c / 36 + 5 * (1 + (j : Int)) * (1 + (j : Int))) % 36)).take (k % 8) := fun k => rfl
  have hnd : ((List.range m).map fun k => tx (nm1 (c / 4) (fun j : Nat => c / 36 + 5 * (1 + (j : Int)) * (1 + (j : Int))) k)).Nodup := tx_nodup fun a b ha hb e => nm1_inj (by omega) (by omega) e
  have hnn : ∀ k, nameB (nm1 (c / 4) (fun j : Nat => c / 36 + 5 * (1 + (j : Int)) * (1 + (j : Int))) k) = true := fun k => nm1_name
  have htc : ∀ x ∈ (List.range 7).map (fun j : Nat => bc ((c / 36 + 5 * (1 + (j : Int)) * (1 + (j : Int))) % 36)), x ∈ letters ++ figures := fun x hx => by
    obtain ⟨j, _, rfl⟩ := List.mem_map.mp hx
    exact bc_both
  generalize nm1 (c / 4) (fun j : Nat => c / 36 + 5 * (1 + (j : Int)) * (1 + (j : Int))) = N at hnm1 hnd hnn
  generalize (List.range 7).map (fun j : Nat => bc ((c / 36 + 5 * (1 + (j : Int)) * (1 + (j : Int))) % 36)) = tl at htl hnm1 htc ⊢
  have hsum : ((tl.map fun c => (⟨#[c]⟩ : Str)).map (·.length)).sum ≤ 7 := by
    rw [List.map_map, show ((·.length) ∘ fun c => (⟨#[c]⟩ : Str)) = fun _ => 1 from rfl, List.map_const', htl.1]
    decide
  refine ⟨D, rfl, tl.map fun c => (⟨#[c]⟩ : Str), SqL.of upd_same, ?_, ?_⟩
  · have e0 : (Str.ofString "").length = 0 := by decide +kernel
    rw [e0]; omega
  rw [N20.join_ones]
  have smD : Same H (upd H D (.lst ((tl.map fun c => (⟨#[c]⟩ : Str)).map V.str))) := Same.new hD
  generalize upd H D (.lst ((tl.map fun c => (⟨#[c]⟩ : Str)).map V.str)) = H1 at smD ⊢
  clear hD hsum
  rename_i rest hrest
  subst hrest
  walk_at "go"
  split
  · walk_at "go"
    have hzl : (tx tl).length = 7 ∧ True := ⟨by rw [T_len]; exact htl.1, trivial⟩
    refine compR_pure (fun k => V.str (tx (N k.toNat))) (by omega) (fun b k H' Q' hk sm q' => ?_) fun D hD => ?_
    · have hl7 := htl.1
      walk_at "go"
      refine ixS_of (by omega) (ix_bc _ (by decide) (by decide)) ⟨by decide, by omega, _, rfl, ?_⟩
      rw [slice_to (by omega) (by omega)]
      refine ⟨by rw [len_one, T_len, List.length_take]; omega, ?_⟩
      rw [T_one, T_app, show ((k : Int) % 8).toNat = k % 8 by omega]
      rw [Int.zero_add, Int.toNat_natCast, hnm1] at q'
      exact q'
    · have e : (List.range m).map (fun k : Nat => V.str (tx (N (0 + (k : Int)).toNat))) = ((List.range m).map fun k => tx (N k)).map V.str := by
        rw [List.map_map]
        refine List.map_congr_left fun k _ => ?_
        rw [Int.zero_add, Int.toNat_natCast]
        rfl
      rw [e]
      refine q D ((List.range m).map fun k => tx (N k)) _ (same_none smD hD) (smD.trans (Same.new hD)) upd_same (by simp) hnd fun y hy => ?_
      obtain ⟨k, _, rfl⟩ := List.mem_map.mp hy
      rw [T_list]
      exact hnn k
  · clear hnm1 hnd hnn N
    have hs1 : 1 ≤ (1 + c / 4 % 6).toNat := by omega
    have hs6 : (1 + c / 4 % 6).toNat ≤ 6 := by omega
    have h8 : (1 + c / 4 % 6) = ((1 + c / 4 % 6).toNat : Int) := by omega
    walk_at "go"
    rw [h8]
    clear h8
    generalize (1 + c / 4 % 6).toNat = sz at hs1 hs6 ⊢
    have ha0 := Int.emod_nonneg (c / 24) (show (sz : Int) ≠ 0 by omega)
    have ha1 := Int.emod_lt_of_pos (c / 24) (show (0 : Int) < sz by omega)
    generalize c / 24 % (sz : Int) = at0 at ha0 ha1 ⊢
    obtain ⟨at', rfl⟩ : ∃ at' : Nat, at0 = at' := ⟨at0.toNat, by omega⟩
    have hl7 := htl.1
    have hzl : (tx tl).length = 7 ∧ True := ⟨by rw [T_len]; exact htl.1, trivial⟩
    refine ixS_of (by omega) (ix_bc _ (by decide) (by decide)) ⟨by omega, _, rfl, ?_⟩
    rw [slice_to (by omega) (by omega), show ((sz : Int) - 1).toNat = sz - 1 by omega]
    refine ⟨by rw [len_one, T_len, List.length_take]; omega, ?_⟩
    rw [T_one, T_app]
    have hBl : ([bc (c / 36 % 26)] ++ tl.take (sz - 1)).length = sz ∧ True := ⟨by rw [List.length_append, List.length_take]; simp only [List.length_cons, List.length_nil]; omega, trivial⟩
    have hBc : ∀ x ∈ [bc (c / 36 % 26)] ++ tl.take (sz - 1), x ∈ letters ++ figures := fun x hx => by
      rcases List.mem_append.mp hx with hx | hx
      · rw [List.mem_singleton.mp hx]; exact List.mem_append_left _ bc_let
      · exact htc x (List.mem_of_mem_take hx)
    have hBh : ∃ d r, [bc (c / 36 % 26)] ++ tl.take (sz - 1) = d :: r ∧ d ∈ letters := ⟨_, _, rfl, bc_let⟩
    generalize [bc (c / 36 % 26)] ++ tl.take (sz - 1) = B at hBl hBc hBh ⊢
    have hB1 := hBl.1
    rename_i rest hrest
    subst hrest
    walk_at "go"
    intro p hp
    rename_i rest hrest
    subst hrest
    walk_at "go"
    rename_i rest hrest
    refine forR_by (fun k σ H' => ∃ (v8 v9 : Option V), σ = [some (V.int c), some (V.int m), some (V.str (Str.ofString "abcdefghijklmnopqrstuvwxyz0123456789")), some (V.str (tx tl)), some (V.int sz), some (V.int at'), some (V.str (tx B)), some (V.ref p), v8, v9] ∧ H' = upd H1 p (.lst (((List.range k).map fun k => tx (nm3 B at' (c / 1296) k)).map V.str))) ⟨none, none, rfl, rfl⟩ ?_ ?_
    · clear hrest
      rintro k σ H' hk ⟨v8, v9, rfl, rfl⟩
      have hlen : (((List.range k).map fun k => tx (nm3 B at' (c / 1296) k)).map V.str).length = k ∧ True := ⟨by simp, trivial⟩
      have hlen1 := hlen.1
      have hBt : (tx B).length = sz ∧ True := ⟨by rw [T_len]; exact hB1, trivial⟩
      have hBt1 := hBt.1
      rw [List.range_succ, List.map_append, List.map_append]
      generalize hz : (((List.range k).map fun k => tx (nm3 B at' (c / 1296) k)).map V.str) = zs at hlen1 ⊢
      clear hz hlen hBt
      walk_at "go"
      refine ixS_of (by omega) (ix_bc _ (by decide) (by decide)) ?_
      rename_i rest hrest
      subst hrest
      walk_at "go"
      have e1 : Txt.slice (tx B) none (some (at' : Int)) = tx (B.take at') := slice_to (by omega) (by omega)
      have e2 : Txt.slice (tx B) (some ((at' : Int) + 1)) none = tx (B.drop (at' + 1)) := by
        have := slice_from (l := B) (n := (at' : Int) + 1) (by omega) (by omega)
        rw [show ((at' : Int) + 1).toNat = at' + 1 by omega] at this
        exact this
      have e3 : Txt.slice (Str.ofString "zz") none (some ((k : Int) / 26)) = tx (List.replicate (k / 26) 122) := zz_slice (by omega)
      rw [e1, e2, e3]
      have z2 : (Str.ofString "zz").length = 2 := by decide +kernel
      have l1 : (tx (B.take at')).length ≤ 6 := by rw [T_len, List.length_take]; omega
      have l2 : (tx (B.drop (at' + 1))).length ≤ 6 := by rw [T_len, List.length_drop]; omega
      have l3 : (tx (List.replicate (k / 26) 122)).length ≤ 6 := by rw [T_len, List.length_replicate]; omega
      refine ⟨.inl ⟨rfl, _, SqL.of upd_same⟩, by omega, by rw [len_one]; omega, by omega, by rw [len_app, len_one]; omega, cdiv_of (by decide) (by decide), by omega, by rw [len_app, len_app, len_one]; omega, p, _, _, rfl, rfl, upd_same, by omega, ?_⟩
      rw [upd_upd, T_one, T_app, T_app, T_app]
      rfl
    · rintro σ H' ⟨v8, v9, rfl, rfl⟩
      subst hrest
      walk_at "go"
      exact q p ((List.range m).map fun k => tx (nm3 B at' (c / 1296) k)) _ (same_none smD hp) (smD.trans (Same.new hp)) upd_same (by simp) (tx_nodup fun a b ha hb e => nm3_inj (by omega) e) (fun y hy => by
        obtain ⟨k, hk, rfl⟩ := List.mem_map.mp hy
        rw [T_list]
        exact nm3_name (by omega) (by omega) (by have := List.mem_range.mp hk; omega) hBc hBh)
theorem ok_l_rows {f : Addr} {fd : FuncData} (F : Fun K "_law_rows" "_law_rows" s_l_rows f fd) (T : Txt K mg xStock xRule xRanked xOldest xFirst xHalving xFarthest) (D_l_cell : Def P w K mg base CX0 1 "_law_cell" ["_law_script", "_law_k"] (sp_cell K)) (D_l_names : Def P w K mg base CX0 1 "_law_names" ["_law_cell_here", "_law_many"] (sp20_names)) (D_l_stream : Def P w K mg base CX0 1 "_law_stream" ["_law_cell_here", "_law_many"] (sp20_stream)) : FnOk P w K mg base CX0 2 f fd ["_law_script"] (sp20_rows K) := by
  have sc : FnScope ["_law_script", "_law_cell_here", "_law_many", "_law_names_here", "_law_wide", "_law_xs"] ["_law_script"] (defScope s_l_rows) := ⟨rfl, rfl, rfl, by decide +kernel, rfl, by decide +kernel, by decide +kernel⟩
  refine F.ok sc (fun vs H Q E h => ?_) (fun cdv A outer s H vs Q E hr h => ?_)
  · obtain ⟨a, ns, rfl, hS, hl, q⟩ := h; rfl
  obtain ⟨a, ns, rfl, hS, hl, q⟩ := h
  refine ⟨_, (@pss_cons _ _ _ _ _ (ps_set (i := 1) sc.nd rfl (Or.inl rfl) (pe_callD D_l_cell hr rfl pass0 (pa_cons (pv 0) (pa_cons pe_int pa_nil))))
    (@pss_cons _ _ _ _ _ (ps_set (i := 2) sc.nd rfl (Or.inr rfl) (pe_op op_add pe_int (pe_op op_mod (pv 1) pe_int)))
    (@pss_cons _ _ _ _ _ (ps_if (pt_cmpR op_eq (pe_op op_mod (pe_op op_fdiv (pv 1) pe_int) pe_int) pe_int (nomark _))
      (@pss_one _ _ _ (ps_set (i := 2) sc.nd rfl (Or.inr rfl) (pe_op op_add pe_int (pe_op op_mod (pe_op op_fdiv (pv 1) pe_int) pe_int))))
      pss_nil)
    (@pss_cons _ _ _ _ _ (ps_set (i := 3) sc.nd rfl (Or.inr rfl) (pe_callD D_l_names hr rfl pass0 (pa_cons (pe_callD D_l_cell hr rfl pass0 (pa_cons (pv 0) (pa_cons pe_int pa_nil))) (pa_cons (pv 2) pa_nil))))
    (@pss_cons _ _ _ _ _ (ps_set (i := 4) sc.nd rfl (Or.inr rfl) (@pe_ix _ _ _ _ _ _ _ ix_list (@pe_lst _ _ _ _ (pa_cons pe_int (pa_cons pe_int (pa_cons pe_int pa_nil)))) (pe_op op_mod (pe_callD D_l_cell hr rfl pass0 (pa_cons (pv 0) (pa_cons pe_int pa_nil))) pe_int) (fun _ _ => rfl)))
    (@pss_cons _ _ _ _ _ (ps_set (i := 5) sc.nd rfl (Or.inr rfl) (pe_callD D_l_stream hr rfl pass0 (pa_cons (pe_callD D_l_cell hr rfl pass0 (pa_cons (pv 0) (pa_cons pe_int pa_nil))) (pa_cons (pe_op op_mul pe_int (pv 2)) pa_nil))))
    (@pss_one _ _ _ (@ps_ret _ _ _ _ (pe_comp1 "_law_k" [3, 5, 4, 2] rfl rfl (pi_range1 rfl T.z_range (pa_cons (pv 2) pa_nil)) (fun b => (pe_tup (pa_cons (@pe_ix _ _ _ _ _ _ _ ix_list (pv 1) (pv 0) (fun _ _ => rfl)) (pa_cons (pe_op op_mod (@pe_ix _ _ _ _ _ _ _ ix_list (pv 2) (pv 0) (fun _ _ => rfl)) pe_int) (pa_cons (pe_op op_add pe_int (pe_op op_mod (@pe_ix _ _ _ _ _ _ _ ix_list (pv 2) (pe_op op_add (pv 4) (pv 0)) (fun _ _ => rfl)) (pv 3))) pa_nil)))))))))))))), ?_⟩
  rw [show start ["_law_script", "_law_cell_here", "_law_many", "_law_names_here", "_law_wide", "_law_xs"] [V.ref a] = [some (V.ref a), none, none, none, none, none] from rfl]
  have line := line_val
  walk_at "go"
  rename_i rest hrest
  have key : ∀ m : Nat, 1 ≤ m → m ≤ 60 → rest [some (V.ref a), some (V.int (ns.getD 0 0)), some (V.int m), none, none, none] H := by
    intro m hm1 hm2
    subst hrest
    walk_at "go"
    refine ⟨m, rfl, hm2, fun np ys H1 hnp sm1 hny hyl ynd hyn => ?_⟩
    have hyl1 := Nat.le_of_eq hyl
    have hyl2 := Nat.le_of_eq hyl.symm
    have hnames : ∀ xs w, (mkTs ys xs m w).map (·.1) = ys := fun xs w => mkTs_names hyl
    clear hyl
    have hS1 := sm1.seq hS
    rename_i rest hrest
    subst hrest
    walk_at "go"
    intro wp hwp
    refine ⟨ns, (Same.new hwp).seq hS1, by decide, hl, by decide, ?_⟩
    obtain ⟨v, hv, hM⟩ := atI_in (xs := [V.int 1, V.int 4, V.int 1000]) (i := ns.getD 2 0 % 3) (by omega) (by simp; omega)
    refine ixL_of (SqL.of upd_same) hv ?_
    obtain ⟨mo, rfl, hmo1, hmo2⟩ : ∃ mo : Int, v = V.int mo ∧ 1 ≤ mo ∧ mo ≤ 1000 := by
      simp only [List.mem_cons, List.not_mem_nil, or_false] at hM
      rcases hM with rfl | rfl | rfl
      · exact ⟨1, rfl, by decide, by decide⟩
      · exact ⟨4, rfl, by decide, by decide⟩
      · exact ⟨1000, rfl, by decide, by decide⟩
    have sm2 := sm1.trans (Same.new (o := .lst [V.int 1, V.int 4, V.int 1000]) hwp)
    have hny2 := Same.new (o := .lst [V.int 1, V.int 4, V.int 1000]) hwp _ _ hny
    generalize upd H1 wp (.lst [V.int 1, V.int 4, V.int 1000]) = H2 at sm2 hny2 ⊢
    clear hv hM hny hS1 sm1 hwp hnp
    have hS2 := sm2.seq hS
    rename_i rest hrest
    subst hrest
    walk_at "go"
    refine ⟨2 * m, by omega, by omega, fun xp xs H3 hxp sm3 hx3 hxl hx0 => ?_⟩
    have hxl2 := Nat.le_of_eq hxl.symm
    clear hxl
    have sm03 := sm2.trans sm3
    have hny3 := sm3 _ _ hny2
    rename_i rest hrest
    subst hrest
    walk_at "go"
    refine compR_mk (n := m) (fun i y H => ∃ t, y = V.ref t ∧ SqT K H t [.str ((mkTs ys xs m mo).getD i th0).1, .int ((mkTs ys xs m mo).getD i th0).2.1, .int ((mkTs ys xs m mo).getD i th0).2.2]) (fun i y H H' l zs ⟨t, e, h⟩ hl sb => ⟨t, e, SqT.butL sb hl h⟩) (by omega) (fun b i H4 Q' hi sm4 q' => ?_) fun D yl H4 hD sm4 hD4 hyl4 hall => ?_
    · have hny4 := sm4 _ _ hny3
      have hx4 := sm4 _ _ hx3
      rw [mkTs_at hi] at q'
      have g1 := N41.getD_s (ys := ys) (k := i) (by omega)
      have g2 := int_at (xs := xs) (i := i) (by omega)
      have g3 := int_at (xs := xs) (i := m + i) (by omega)
      walk_at "go"
      refine ixL_of (SqL.of hny4) (v := V.str (ys.getD i Str.empty)) (atI_nat (by rw [List.getElem?_map, g1]; rfl)) ?_
      refine ixL_of (SqL.of hx4) (v := V.int (xs.getD i 0)) (atI_nat (by rw [List.getElem?_map, g2]; rfl)) ⟨_, rfl, by decide, ?_⟩
      rw [show (m : Int) + (i : Int) = ((m + i : Nat) : Int) by omega]
      refine ixL_of (SqL.of hx4) (v := V.int (xs.getD (m + i) 0)) (atI_nat (by rw [List.getElem?_map, g3]; rfl)) ⟨_, rfl, by omega, by omega, fun p hp => ?_⟩
      exact q' _ _ (Same.new hp) ⟨p, rfl, SqT.of upd_same⟩
    · have hok : ∀ t ∈ mkTs ys xs m mo, nameB t.1.cps.toList = true ∧ 0 ≤ t.2.1 ∧ t.2.1 ≤ 10 ^ 30 ∧ 1 ≤ t.2.2 ∧ t.2.2 ≤ 1000 := fun t ht => by
        have hin : t.1 ∈ ys := by rw [← hnames xs mo]; exact List.mem_map.mpr ⟨t, ht, rfl⟩
        have hnn := hyn _ hin
        unfold mkTs at ht
        obtain ⟨k, _, rfl⟩ := List.mem_map.mp ht
        have f0 := Int.emod_nonneg (xs.getD (m + k) 0) (show mo ≠ 0 by omega)
        have f1 := Int.emod_lt_of_pos (xs.getD (m + k) 0) (show 0 < mo by omega)
        exact ⟨hnn, by show 0 ≤ xs.getD k 0 % 1000; omega, by show xs.getD k 0 % 1000 ≤ 10 ^ 30; omega, by show 1 ≤ 1 + xs.getD (m + k) 0 % mo; omega, by show 1 + xs.getD (m + k) 0 % mo ≤ 1000; omega⟩
      obtain ⟨as, rfl, hR⟩ := rows_ts (K := K) hD4 (by rw [hyl4, mkTs_len]) (by rw [mkTs_len]; exact hm2) (by rw [hnames]; exact ynd) hok hall
      exact q D as _ _ (sm03.trans sm4) hD4 hR (by rw [mkTs_len]; exact hm1)
  clear hrest
  split
  · have k := key (20 + ns.getD 0 0 / 72 % 41).toNat (by omega) (by omega)
    rw [show (((20 + ns.getD 0 0 / 72 % 41).toNat : Nat) : Int) = 20 + ns.getD 0 0 / 72 % 41 by omega] at k
    exact ⟨cdiv_of (by decide) (by decide), by decide, k⟩
  · have k := key (1 + ns.getD 0 0 % 8).toNat (by omega) (by omega)
    rw [show (((1 + ns.getD 0 0 % 8).toNat : Nat) : Int) = 1 + ns.getD 0 0 % 8 by omega] at k
    exact k
theorem ok_l_places {f : Addr} {fd : FuncData} (F : Fun K "_law_places" "_law_places" s_l_places f fd) (T : Txt K mg xStock xRule xRanked xOldest xFirst xHalving xFarthest)  : FnOk P w K mg base CX0 1 f fd ["_law_rows_here", "_law_cell_here"] (sp20_places K) := by
  have sc : FnScope ["_law_rows_here", "_law_cell_here", "_law_rooms_here"] ["_law_rows_here", "_law_cell_here"] (defScope s_l_places) := ⟨rfl, rfl, rfl, by decide +kernel, rfl, by decide +kernel, by decide +kernel⟩
  refine F.ok sc (fun vs H Q E h => ?_) (fun cdv A outer s H vs Q E hr h => ?_)
  · obtain ⟨r, c, as, ts, rfl, hR, h1, q⟩ := h; rfl
  obtain ⟨r, c, as, ts, rfl, hR, h1, q⟩ := h
  refine ⟨_, (@pss_cons _ _ _ _ _ (ps_comp1 (i := 2) "_law_row" [] sc.nd rfl rfl rfl rfl (pi_list (pv 0)) (fun b => (@pe_ix _ _ _ _ _ _ _ ix_tup (pv 0) pe_int (fun _ _ => rfl))))
    (@pss_cons _ _ _ _ _ (ps_if (pt_cmpR op_eq (pe_op op_mod (pe_op op_fdiv (pv 1) pe_int) pe_int) pe_int (nomark _))
      (@pss_one _ _ _ (@ps_ret _ _ _ _ (pe_op op_pow pe_int pe_int)))
      pss_nil)
    (@pss_one _ _ _ (@ps_ret _ _ _ _ (pe_op op_add (pe_callB (call_maxL rfl) rfl T.z_max (by first | rfl | decide +kernel) (pa_cons (pv 2) pa_nil)) (pe_op op_mod (pv 1) (pe_callB (call_sumL rfl) rfl T.z_sum (by first | rfl | decide +kernel) (pa_cons (pv 2) pa_nil)))))))), ?_⟩
  rw [show start ["_law_rows_here", "_law_cell_here", "_law_rooms_here"] [V.ref r, V.int c] = [some (V.ref r), some (V.int c), none] from rfl]
  have line := line_val
  have hn := hR.n
  have hm := hR.m
  walk_at "go"
  refine ⟨⟨_, hR.l⟩, ?_⟩
  refine compL_ix (fun i => V.int (ts.getD i th0).2.2) hR.l (by rw [List.length_map]; omega) (fun b i x H' Q' hx sm q' => ?_) fun D hD => ?_
  · rw [List.getElem?_map] at hx
    cases ha : as[i]? with
    | none => rw [ha] at hx; cases hx
    | some p =>
    rw [ha] at hx
    cases hx
    have hi : i < ts.length := by rw [← hn]; exact (List.getElem?_eq_some_iff.mp ha).1
    have hT := sm.tup (hR.at_ i p _ ha (th_at hi))
    walk_at "go"
    exact q'
  have eD : (List.range (as.map V.ref).length).map (fun i => V.int (ts.getD i th0).2.2) = (ts.map (·.2.2)).map V.int := by
    rw [List.length_map, hn, List.map_map]
    refine List.ext_getElem? fun i => ?_
    rw [List.getElem?_map, List.getElem?_map]
    by_cases hi : i < ts.length
    · rw [List.getElem?_range hi, th_at hi]; rfl
    · rw [List.getElem?_eq_none (by rw [List.length_range]; omega), List.getElem?_eq_none (by omega)]; rfl
  rw [eD]
  clear eD
  have smD : Same H (upd H D (.lst ((ts.map (·.2.2)).map V.int))) := Same.new hD
  have hDD : upd H D (.lst ((ts.map (·.2.2)).map V.int)) D = some (.lst ((ts.map (·.2.2)).map V.int)) := upd_same
  generalize upd H D (.lst ((ts.map (·.2.2)).map V.int)) = H1 at smD hDD ⊢
  clear hD
  have hrb : ∀ x ∈ ts.map (·.2.2), 1 ≤ x ∧ x ≤ 1000 := fun x hx => by
    obtain ⟨t, ht, rfl⟩ := List.mem_map.mp hx
    exact (hR.ok t ht).2.2.2
  have hsum : (ts.map (·.2.2)).sum ≤ 60000 ∧ 1 ≤ (ts.map (·.2.2)).sum := by
    have hlen : (ts.map (·.2.2)).length = ts.length := List.length_map ..
    have := sum_bounds hrb
    omega
  rename_i rest hrest
  subst hrest
  walk_at "go"
  split
  · refine ⟨cpow_of (by decide) (by decide) (by decide), ?_⟩
    refine q _ _ smD ?_ ?_ ?_
    · decide
    · decide
    · intro t ht
      have := (hR.ok t ht).2.2.2.2
      show t.2.2 ≤ 1000000
      omega
  · rename_i rest hrest
    walk_at "go"
    refine ⟨ts.map (·.2.2), SqL.of hDD, fun e => by have := congrArg List.length e; rw [List.length_map, List.length_nil] at this; omega, fun v hv hmax => ⟨ts.map (·.2.2), SqL.of hDD, by omega, ?_⟩⟩
    have hvb := hrb v hv
    have f0 := Int.emod_nonneg c (show (ts.map (·.2.2)).sum ≠ 0 by omega)
    have f1 := Int.emod_lt_of_pos c (show 0 < (ts.map (·.2.2)).sum by omega)
    exact q _ _ smD (by omega) (by omega) (fun t ht => by have := hmax _ (List.mem_map.mpr ⟨t, ht, rfl⟩); omega)
theorem ok_l_asks {f : Addr} {fd : FuncData} (F : Fun K "_law_asks" "_law_asks" s_l_asks f fd) (T : Txt K mg xStock xRule xRanked xOldest xFirst xHalving xFarthest) (D_l_cell : Def P w K mg base CX0 1 "_law_cell" ["_law_script", "_law_k"] (sp_cell K)) (D_l_stream : Def P w K mg base CX0 1 "_law_stream" ["_law_cell_here", "_law_many"] (sp20_stream)) : FnOk P w K mg base CX0 2 f fd ["_law_script", "_law_rows_here"] (sp20_asks K) := by
  have sc : FnScope ["_law_script", "_law_rows_here", "_law_most", "_law_picks"] ["_law_script", "_law_rows_here"] (defScope s_l_asks) := ⟨rfl, rfl, rfl, by decide +kernel, rfl, by decide +kernel, by decide +kernel⟩
  refine F.ok sc (fun vs H Q E h => ?_) (fun cdv A outer s H vs Q E hr h => ?_)
  · obtain ⟨a, r, ns, as, ts, rfl, hS, hl, hR, h1, q⟩ := h; rfl
  obtain ⟨a, r, ns, as, ts, rfl, hS, hl, hR, h1, q⟩ := h
  refine ⟨_, (@pss_cons _ _ _ _ _ (ps_set (i := 2) sc.nd rfl (Or.inl rfl) pe_int)
    (@pss_cons _ _ _ _ _ (ps_if (pt_cmpR op_eq (pe_op op_mod (pe_callD D_l_cell hr rfl pass0 (pa_cons (pv 0) (pa_cons pe_int pa_nil))) pe_int) pe_int (nomark _))
      (@pss_one _ _ _ (ps_set (i := 2) sc.nd rfl (Or.inl rfl) pe_int))
      pss_nil)
    (@pss_cons _ _ _ _ _ (ps_set (i := 3) sc.nd rfl (Or.inl rfl) (pe_op op_cat (pe_slice sl_list (pv 0) (po_some pe_int) (po_some pe_int)) (pe_callD D_l_stream hr rfl pass0 (pa_cons (pe_callD D_l_cell hr rfl pass0 (pa_cons (pv 0) (pa_cons pe_int pa_nil))) (pa_cons (pe_op op_mod (pe_callD D_l_cell hr rfl pass0 (pa_cons (pv 0) (pa_cons pe_int pa_nil))) (pv 2)) pa_nil)))))
    (@pss_one _ _ _ (@ps_ret _ _ _ _ (pe_comp1 "_law_pick" [1] rfl rfl (pi_list (pv 3)) (fun b => (@pe_ix _ _ _ _ _ _ _ ix_tup (@pe_ix _ _ _ _ _ _ _ ix_list (pv 1) (pe_op op_mod (pv 0) (pe_callB call_len_seq rfl T.z_len PySem.boot_len (pa_cons (pv 1) pa_nil))) (fun _ _ => rfl)) pe_int (fun _ _ => rfl))))))))), ?_⟩
  rw [show start ["_law_script", "_law_rows_here", "_law_most", "_law_picks"] [V.ref a, V.ref r] = [some (V.ref a), some (V.ref r), none, none] from rfl]
  have line := line_val
  have hn := hR.n
  have hm := hR.m
  walk_at "go"
  rename_i rest hrest
  have key : ∀ mo : Int, 1 ≤ mo → mo ≤ 139 → rest [some (V.ref a), some (V.ref r), some (V.int mo), none] H := by
    intro mo hm1 hm2
    subst hrest
    walk_at "go"
    obtain ⟨cs, hcs, hcl⟩ := cut_8_68 ns
    refine ⟨_, hS, fun p hp => ?_⟩
    rw [hcs]
    have s1 : Same H (upd H p (.lst (cs.map V.int))) := Same.new hp
    have k1 : upd H p (.lst (cs.map V.int)) p = some (.lst (cs.map V.int)) := upd_same
    generalize upd H p (.lst (cs.map V.int)) = H1 at s1 k1 ⊢
    have f0 := Int.emod_nonneg (ns.getD 5 0) (show mo ≠ 0 by omega)
    have f1 := Int.emod_lt_of_pos (ns.getD 5 0) (show 0 < mo by omega)
    refine ⟨ns, s1.seq hS, by decide, hl, ns, s1.seq hS, by decide, hl, by omega, (ns.getD 5 0 % mo).toNat, by omega, by omega, fun p1 xs H2 hp1 s2 k2 hxl hx0 => ?_⟩
    have hxl1 : xs.length ≤ 138 := by rw [hxl]; omega
    clear hxl
    refine ⟨p, p1, _, _, rfl, rfl, s2 _ _ k1, k2, by rw [List.length_map, List.length_map]; omega, fun p2 hp2 => ?_⟩
    rw [cat_ints]
    have hpl : (cs ++ xs).length ≤ 200 := by rw [List.length_append]; omega
    have s3 := (s1.trans s2).trans (Same.new (o := .lst ((cs ++ xs).map V.int)) hp2)
    have k3 : upd H2 p2 (.lst ((cs ++ xs).map V.int)) p2 = some (.lst ((cs ++ xs).map V.int)) := upd_same
    generalize upd H2 p2 (.lst ((cs ++ xs).map V.int)) = H3 at s3 k3 ⊢
    generalize cs ++ xs = ps at hpl k3
    clear k1 k2 s1 s2 hp2 hp hcs
    have hR3 := hR.same s3
    rename_i rest hrest
    subst hrest
    walk_at "go"
    refine ⟨⟨_, SqL.of k3⟩, ?_⟩
    refine compL_pure (pickV ts) (SqL.of k3) (by rw [List.length_map]; omega) (fun b x H4 Q' hx sm4 q' => ?_) fun D hD => ?_
    · obtain ⟨c, hc, rfl⟩ := List.mem_map.mp hx
      have hR4 := hR3.same sm4
      have g0 := Int.emod_nonneg c (show (ts.length : Int) ≠ 0 by omega)
      have g1 := Int.emod_lt_of_pos c (show (0 : Int) < ts.length by omega)
      have ht := th_at (ts := ts) (i := (c % (ts.length : Int)).toNat) (by omega)
      have ha := List.getElem?_eq_getElem (l := as) (i := (c % (ts.length : Int)).toNat) (by omega)
      have hT := hR4.at_ _ _ _ ha ht
      walk_at "go"
      refine ⟨_, .inl hR4.l, ?_⟩
      rw [List.length_map, hn]
      refine ⟨by omega, ?_⟩
      refine ixL_of hR4.l (v := V.ref _) (by rw [show c % (ts.length : Int) = (((c % (ts.length : Int)).toNat : Nat) : Int) by omega]; exact atI_nat (by rw [List.getElem?_map, ha]; rfl)) ?_
      exact ⟨_, _, 0, _, rfl, rfl, hT, rfl, q'⟩
    · rw [pickV_list]
      exact q D _ _ (s3.trans (Same.new hD)) upd_same (by rw [List.length_map]; exact hpl) (fun y hy => by
        obtain ⟨c, hc, rfl⟩ := List.mem_map.mp hy
        have g0 := Int.emod_nonneg c (show (ts.length : Int) ≠ 0 by omega)
        have g1 := Int.emod_lt_of_pos c (show (0 : Int) < ts.length by omega)
        exact List.mem_map.mpr ⟨_, List.mem_of_getElem? (th_at (ts := ts) (i := (c % (ts.length : Int)).toNat) (by omega)), rfl⟩)
  clear hrest
  split
  · exact key 139 (by decide) (by decide)
  · exact key 30 (by decide) (by decide)
theorem ok_l_rooms {f : Addr} {fd : FuncData} (F : Fun K "_law_rooms" "_law_rooms" s_l_rooms f fd) (T : Txt K mg xStock xRule xRanked xOldest xFirst xHalving xFarthest)  : FnOk P w K mg base CX0 1 f fd ["_law_rows_here"] (sp20_rooms K) := by
  have sc : FnScope ["_law_rows_here", "_law_rooms_here", "_law_name", "_law_cost", "_law_room"] ["_law_rows_here"] (defScope s_l_rooms) := ⟨rfl, rfl, rfl, by decide +kernel, rfl, by decide +kernel, by decide +kernel⟩
  refine F.ok sc (fun vs H Q E h => ?_) (fun cdv A outer s H vs Q E hr h => ?_)
  · obtain ⟨r, as, ts, rfl, hR, q⟩ := h; rfl
  obtain ⟨r, as, ts, rfl, hR, q⟩ := h
  refine ⟨_, (@pss_cons _ _ _ _ _ (ps_set (i := 1) sc.nd rfl (Or.inl rfl) pe_dnewK)
    (@pss_cons _ _ _ _ _ (ps_for PassesOwn.never rfl (pi_list (pv 0)) (pg_tup rfl (pgs_cons (pg_name (i := 2) sc.nd rfl (Or.inl rfl)) (pgs_cons (pg_name (i := 3) sc.nd rfl (Or.inl rfl)) (pgs_cons (pg_name (i := 4) sc.nd rfl (Or.inl rfl)) pgs_nil))))
      (@pss_one _ _ _ (ps_dput (hu_of hr) (pv 1) (pv 2) (pv 4) rfl)))
    (@pss_one _ _ _ (@ps_ret _ _ _ _ (pv 1))))), ?_⟩
  rw [show start ["_law_rows_here", "_law_rooms_here", "_law_name", "_law_cost", "_law_room"] [V.ref r] = [some (V.ref r), none, none, none, none] from rfl]
  have line := line_val
  have hn := hR.n
  have hm := hR.m
  walk_at "go"
  intro e he
  have sme : Same H (upd H e (.dK [])) := Same.new he
  have hee : upd H e (.dK []) e = some (.dK []) := upd_same
  generalize upd H e (.dK []) = H1 at sme hee ⊢
  rename_i rest hrest
  subst hrest
  walk_at "go"
  refine ⟨⟨_, sme.seq hR.l⟩, ?_⟩
  rename_i rest hrest
  refine forL_by (xs := as.map V.ref) (fun i σ H' => ∃ (v2 v3 v4 : Option V), σ = [some (V.ref r), some (V.ref e), v2, v3, v4] ∧ Same H H' ∧ H' e = some (.dK (lyK (lyOf (ts.take i))))) ⟨none, none, none, rfl, sme, hee⟩ (fun i σ H' _ ⟨_, _, _, _, sm, _⟩ => sm.seq hR.l) ?_ ?_
  · clear hrest
    rintro i u σ H' hu ⟨v2, v3, v4, rfl, sm, hE⟩
    rw [List.getElem?_map] at hu
    cases ha : as[i]? with
    | none => rw [ha] at hu; cases hu
    | some p =>
    rw [ha] at hu
    cases hu
    have hi : i < ts.length := by rw [← hn]; exact (List.getElem?_eq_some_iff.mp ha).1
    have ht := th_at hi
    have hT := sm.tup (hR.at_ i p _ ha ht)
    have hno : ¬ (ts.getD i th0).1 ∈ lyN (lyOf (ts.take i)) := by
      rw [lyOf_names]
      intro hmem
      have nd := hR.nd
      rw [← List.take_append_drop i ts, List.map_append, List.nodup_append] at nd
      refine nd.2.2 _ hmem _ ?_ rfl
      rw [List.drop_eq_getElem_cons hi, List.map_cons]
      rw [List.getElem?_eq_getElem hi] at ht
      rw [← Option.some.inj ht]
      exact List.mem_cons_self ..
    generalize ts.getD i th0 = t at hT hno ht
    walk_at "go"
    refine ⟨_, hT, rfl, _, _, rfl, _, _, rfl, _, _, rfl, rfl, ?_⟩
    walk_at "go"
    refine ⟨_, DPut.k (k := Sum.inr t.1) hE (by unfold lyK lyOf; rw [List.length_map, List.length_map, List.length_take]; omega), fun b o e' => by rw [upd_ne (ne_of_none e' he)]; exact sm _ _ e', ?_⟩
    rw [upd_same, lyK_put hno, List.take_add_one, ht]
    unfold lyOf
    rw [List.map_append]
    rfl
  · rintro σ H' ⟨v2, v3, v4, rfl, sm, hE⟩
    rw [List.length_map, hn, List.take_length, lyOf_K] at hE
    subst hrest
    walk_at "go"
    exact q e H' sm hE
theorem ok_l_made {f : Addr} {fd : FuncData} (F : Fun K "_law_made" "_law_made" s_l_made f fd) (T : Txt K mg xStock xRule xRanked xOldest xFirst xHalving xFarthest) (D_Ranked_init : DefB P w K mg base CX0 5 "Ranked" xRanked ["self", "stock", "places"] (sp29_kinit (C5.mk xRanked xOldest xFirst xHalving xFarthest))) (D_Oldest_init : DefI P w K mg base CX0 5 "Oldest" xOldest ["self", "stock", "places"] (sp29_kinit (C5.mk xRanked xOldest xFirst xHalving xFarthest))) (D_First_init : DefI P w K mg base CX0 6 "First" xFirst ["self", "stock", "places"] (sp22_init xFirst)) (D_Halving_init : DefIK P w K mg base CX0 6 "Halving" xHalving ["self", "stock", "places", "turn"] "turn" [V.int 8] (sp23_init xHalving)) (D_Farthest_init : DefI P w K mg base CX0 6 "Farthest" xFarthest ["self", "stock", "places", "asks"] (sp24_init K xStock xFarthest)) : FnOk P w K mg base CX0 8 f fd ["_law_which", "_law_stock", "_law_places_here", "_law_asks_here", "_law_turn"] (sp29_made (C5.mk xRanked xOldest xFirst xHalving xFarthest) K xStock) := by
  have sc : FnScope ["_law_which", "_law_stock", "_law_places_here", "_law_asks_here", "_law_turn"] ["_law_which", "_law_stock", "_law_places_here", "_law_asks_here", "_law_turn"] (defScope s_l_made) := ⟨rfl, rfl, rfl, by decide +kernel, rfl, by decide +kernel, by decide +kernel⟩
  refine F.ok sc (fun vs H Q E h => ?_) (fun cdv A outer s H vs Q E hr h => ?_)
  · obtain ⟨w5, st, a, n, e, ts, ys, rfl, hst, nd, ha, hyl, hin, hrm, h1, h2, h3, h4, q⟩ := h; rfl
  obtain ⟨w5, st, a, n, e, ts, ys, rfl, hst, nd, ha, hyl, hin, hrm, h1, h2, h3, h4, q⟩ := h
  refine ⟨_, (@pss_cons _ _ _ _ _ (ps_if (pt_cmpR op_eq (pv 0) pe_int (nomark _))
      (@pss_one _ _ _ (@ps_ret _ _ _ _ (pe_makeS D_Ranked_init.toI hr rfl (passS pass0) (pa_cons (pv 1) (pa_cons (pv 2) pa_nil)))))
      pss_nil)
    (@pss_cons _ _ _ _ _ (ps_if (pt_cmpR op_eq (pv 0) pe_int (nomark _))
      (@pss_one _ _ _ (@ps_ret _ _ _ _ (pe_makeS D_Oldest_init hr rfl (passS pass0) (pa_cons (pv 1) (pa_cons (pv 2) pa_nil)))))
      pss_nil)
    (@pss_cons _ _ _ _ _ (ps_if (pt_cmpR op_eq (pv 0) pe_int (nomark _))
      (@pss_one _ _ _ (@ps_ret _ _ _ _ (pe_makeS D_First_init hr rfl (passS pass0) (pa_cons (pv 1) (pa_cons (pv 2) pa_nil)))))
      pss_nil)
    (@pss_cons _ _ _ _ _ (ps_if (pt_cmpR op_eq (pv 0) pe_int (nomark _))
      (@pss_one _ _ _ (@ps_ret _ _ _ _ (pe_makeS D_Halving_init.toI hr rfl (passS pass0) (pa_cons (pv 1) (pa_cons (pv 2) (pa_cons (pv 4) pa_nil))))))
      pss_nil)
    (@pss_one _ _ _ (@ps_ret _ _ _ _ (pe_makeS D_Farthest_init hr rfl (passS pass0) (pa_cons (pv 1) (pa_cons (pv 2) (pa_cons (pv 3) pa_nil)))))))))), ?_⟩
  rw [show start ["_law_which", "_law_stock", "_law_places_here", "_law_asks_here", "_law_turn"] [V.int w5.i, V.ref st, V.int n, V.ref a, V.int e] = [some (V.int w5.i), some (V.ref st), some (V.int n), some (V.ref a), some (V.int e)] from rfl]
  have line := line_val
  cases w5 with
  | ra =>
    rw [show W5.ra.i = 0 from rfl]
    walk_at "go"
    intro x dx hx hdx ne
    refine ⟨W5.ra, dx, upd_same, h1, h2, fun H' la sb hla nla hq hl => ?_⟩
    exact q x [x, la] H' (same_made hx hdx sb) (fun m hm => by
      simp only [List.mem_cons, List.not_mem_nil, or_false] at hm
      rcases hm with e | e
      · rw [e]; exact hx
      · rw [e]; exact new_none hla) ⟨la, rfl, ⟨dx, hq⟩, hl⟩
  | ol =>
    rw [show W5.ol.i = 1 from rfl]
    walk_at "go"
    intro x dx hx hdx ne
    refine ⟨W5.ol, dx, upd_same, h1, h2, fun H' la sb hla nla hq hl => ?_⟩
    exact q x [x, la] H' (same_made hx hdx sb) (fun m hm => by
      simp only [List.mem_cons, List.not_mem_nil, or_false] at hm
      rcases hm with e | e
      · rw [e]; exact hx
      · rw [e]; exact new_none hla) ⟨la, rfl, ⟨dx, hq⟩, hl⟩
  | fi =>
    rw [show W5.fi.i = 2 from rfl]
    walk_at "go"
    intro x dx hx hdx ne
    refine ⟨dx, upd_same, h1, h2, fun H' la pa sb hla hpa hh => ?_⟩
    exact q x [x, la, pa] H' (same_made hx hdx sb) (fun m hm => by
      simp only [List.mem_cons, List.not_mem_nil, or_false] at hm
      rcases hm with e | e | e
      · rw [e]; exact hx
      · rw [e]; exact new_none hla
      · rw [e]; exact new_none hpa) hh
  | ha =>
    rw [show W5.ha.i = 3 from rfl]
    walk_at "go"
    intro x dx hx hdx ne
    refine ⟨dx, upd_same, h1, h2, h3, h4, fun H' la pa sb hla hpa hh => ?_⟩
    exact q x [x, la, pa] H' (same_made hx hdx sb) (fun m hm => by
      simp only [List.mem_cons, List.not_mem_nil, or_false] at hm
      rcases hm with e | e | e
      · rw [e]; exact hx
      · rw [e]; exact new_none hla
      · rw [e]; exact new_none hpa) hh
  | fa =>
    rw [show W5.fa.i = 4 from rfl]
    walk_at "go"
    intro x dx hx hdx ne
    have smx : Same H (upd (upd H dx (.own x)) x (.ins xFarthest dx [])) := fun b o e => by rw [upd_ne (ne_of_none e hx), upd_ne (ne_of_none e hdx)]; exact e
    refine ⟨dx, upd_same, ts, hst.same smx, nd, ys, SqL.of (smx _ _ ha), hyl, hin, hrm, h1, h2, ne_of_none ha hx, fun H' la pa sb hla hpa hh => ?_⟩
    exact q x [x, la, pa] H' (same_made hx hdx sb) (fun m hm => by
      simp only [List.mem_cons, List.not_mem_nil, or_false] at hm
      rcases hm with e | e | e
      · rw [e]; exact hx
      · rw [e]; exact new_none hla
      · rw [e]; exact new_none hpa) hh
theorem ok_l_next {f : Addr} {fd : FuncData} (F : Fun K "_law_next" "_law_next" s_l_next f fd) (T : Txt K mg xStock xRule xRanked xOldest xFirst xHalving xFarthest)  : FnOk P w K mg base CX0 1 f fd ["_law_asks_here", "_law_name", "_law_now"] (sp29_next K) := by
  have sc : FnScope ["_law_asks_here", "_law_name", "_law_now", "_law_k"] ["_law_asks_here", "_law_name", "_law_now"] (defScope s_l_next) := ⟨rfl, rfl, rfl, by decide +kernel, rfl, by decide +kernel, by decide +kernel⟩
  refine F.ok sc (fun vs H Q E h => ?_) (fun cdv A outer s H vs Q E hr h => ?_)
  · obtain ⟨a, ys, z, k, rfl, ha, hyl, hk, q⟩ := h; rfl
  obtain ⟨a, ys, z, k, rfl, ha, hyl, hk, q⟩ := h
  refine ⟨_, (@pss_cons _ _ _ _ _ (ps_for PassesOwn.never rfl (pi_range2 rfl T.z_range (pa_cons (pv 2) (pa_cons (pe_callB call_len_seq rfl T.z_len PySem.boot_len (pa_cons (pv 0) pa_nil)) pa_nil))) (pg_name (i := 3) sc.nd rfl (Or.inl rfl))
      (@pss_one _ _ _ (ps_if (pt_cmpR op_eq (@pe_ix _ _ _ _ _ _ _ ix_list (pv 0) (pv 3) (fun _ _ => rfl)) (pv 1) (nomark _))
        (@pss_one _ _ _ (@ps_ret _ _ _ _ (pe_op op_add (pv 3) pe_int)))
        pss_nil)))
    (@pss_one _ _ _ (@ps_ret _ _ _ _ (pe_op op_add (pe_callB call_len_seq rfl T.z_len PySem.boot_len (pa_cons (pv 0) pa_nil)) pe_int)))), ?_⟩
  rw [show start ["_law_asks_here", "_law_name", "_law_now", "_law_k"] [V.ref a, V.str z, V.int k] = [some (V.ref a), some (V.str z), some (V.int k), none] from rfl]
  have line := line_val
  walk_at "go"
  rw [List.length_map]
  refine ⟨by omega, ?_⟩
  rename_i rest hrest
  refine forR_by (fun i σ H' => ∃ v3 : Option V, σ = [some (V.ref a), some (V.str z), some (V.int k), v3] ∧ H' = H ∧ ∀ u, u < i → ys[k + u]? ≠ some z) ⟨none, rfl, rfl, fun u hu => absurd hu (Nat.not_lt_zero _)⟩ ?_ ?_
  · clear hrest
    rintro i σ H' hi ⟨v3, rfl, rfl, hno⟩
    have hil : k + i < ys.length := by omega
    have hy := List.getElem?_eq_getElem hil
    generalize ys[k + i] = y at hy
    walk_at "go"
    refine ixL_of ha (v := V.str y) (by rw [show (k : Int) + (i : Int) = ((k + i : Nat) : Int) by omega]; exact atI_nat (by rw [List.getElem?_map, hy]; rfl)) ⟨rfl, ?_⟩
    by_cases e : y = z
    · rw [if_pos (by rw [e])]
      rw [e] at hy
      rw [nx_at hy hno] at q
      rw [show (k : Int) + (i : Int) + 1 = ((k + i : Nat) : Int) + 1 by omega]
      exact q
    · rw [if_neg (fun h => e (by injection h))]
      refine ⟨rfl, fun u hu => ?_⟩
      by_cases eu : u = i
      · rw [eu, hy]; exact fun h => e (Option.some.inj h)
      · exact hno u (by omega)
  · rintro σ H' ⟨v3, rfl, rfl, hno⟩
    rw [nx_end (fun u hu => hno u (by omega))] at q
    subst hrest
    walk_at "go"
    rw [List.length_map]
    exact q
theorem ok_l_due {f : Addr} {fd : FuncData} (F : Fun K "_law_due" "_law_due" s_l_due f fd) (T : Txt K mg xStock xRule xRanked xOldest xFirst xHalving xFarthest) (D_l_next : Def P w K mg base CX0 1 "_law_next" ["_law_asks_here", "_law_name", "_law_now"] (sp29_next K)) : FnOk P w K mg base CX0 2 f fd ["_law_which", "_law_kept", "_law_asks_here", "_law_name", "_law_now"] (sp29_due K) := by
  have sc : FnScope ["_law_which", "_law_kept", "_law_asks_here", "_law_name", "_law_now", "_law_last"] ["_law_which", "_law_kept", "_law_asks_here", "_law_name", "_law_now"] (defScope s_l_due) := ⟨rfl, rfl, rfl, by decide +kernel, rfl, by decide +kernel, by decide +kernel⟩
  refine F.ok sc (fun vs H Q E h => ?_) (fun cdv A outer s H vs Q E hr h => ?_)
  · obtain ⟨w5, ke, d0, d1, d2, a, L, ys, ns, z, rfl, hke, hL, hk, ha, hyl, q⟩ := h; rfl
  obtain ⟨w5, ke, d0, d1, d2, a, L, ys, ns, z, rfl, hke, hL, hk, ha, hyl, q⟩ := h
  refine ⟨_, (@pss_cons _ _ _ _ _ (ps_set (i := 5) sc.nd rfl (Or.inl rfl) (pe_dget2 (hu_of hr) (@pe_ix _ _ _ _ _ _ _ ix_list (pv 1) pe_int (fun _ _ => rfl)) (pv 3) pe_int ⟨rfl, rfl, rfl, rfl⟩))
    (@pss_cons _ _ _ _ _ (ps_if (pt_cmpR op_lt (pv 0) pe_int (nomark _))
      (@pss_one _ _ _ (@ps_ret _ _ _ _ (pe_tup (pa_cons (pv 5) pa_nil))))
      pss_nil)
    (@pss_cons _ _ _ _ _ (ps_if (pt_cmpR op_eq (pv 0) pe_int (nomark _))
      (@pss_one _ _ _ (@ps_ret _ _ _ _ (pe_tup (pa_cons (pe_dget2 (hu_of hr) (@pe_ix _ _ _ _ _ _ _ ix_list (pv 1) pe_int (fun _ _ => rfl)) (pv 3) pe_int ⟨rfl, rfl, rfl, rfl⟩) pa_nil))))
      pss_nil)
    (@pss_cons _ _ _ _ _ (ps_if (pt_cmpR op_eq (pv 0) pe_int (nomark _))
      (@pss_one _ _ _ (@ps_ret _ _ _ _ (pe_tup (pa_cons (pe_dget2 (hu_of hr) (@pe_ix _ _ _ _ _ _ _ ix_list (pv 1) pe_int (fun _ _ => rfl)) (pv 3) pe_int ⟨rfl, rfl, rfl, rfl⟩) (pa_cons (pv 5) pa_nil)))))
      pss_nil)
    (@pss_one _ _ _ (@ps_ret _ _ _ _ (pe_tup (pa_cons (pe_op op_sub pe_int (pe_callD D_l_next hr rfl pass0 (pa_cons (pv 2) (pa_cons (pv 3) (pa_cons (pv 4) pa_nil))))) (pa_cons (pv 5) pa_nil))))))))), ?_⟩
  rw [show start ["_law_which", "_law_kept", "_law_asks_here", "_law_name", "_law_now", "_law_last"] [V.int w5.i, V.ref ke, V.ref a, V.str z, V.int L.k] = [some (V.int w5.i), some (V.ref ke), some (V.ref a), some (V.str z), some (V.int L.k), none] from rfl]
  have line := line_val
  obtain ⟨k1, k2, k3, k4, k5, k6, k7⟩ := hke
  walk_at "go"
  refine ixL_of (SqL.of k1) (v := V.ref d0) rfl ⟨d0, rfl, .inl ⟨_, .inl k2⟩, _, DGet.k (k := Sum.inr z) k2, ?_⟩
  rw [hL.la.get]
  rename_i rest hrest
  subst hrest
  cases w5 with
  | ra =>
    rw [show W5.ra.i = 0 from rfl]
    walk_at "go"
    rw [if_pos (by decide)]
    exact ⟨by omega, q⟩
  | ol =>
    rw [show W5.ol.i = 1 from rfl]
    walk_at "go"
    rw [if_pos (by decide)]
    exact ⟨by omega, q⟩
  | fi =>
    rw [show W5.fi.i = 2 from rfl]
    walk_at "go"
    refine ixL_of (SqL.of k1) (v := V.ref d1) rfl ⟨d1, rfl, .inl ⟨_, .inl k3⟩, _, DGet.k (k := Sum.inr z) k3, by omega, ?_⟩
    rw [hL.pu.get]
    exact q
  | ha =>
    rw [show W5.ha.i = 3 from rfl]
    walk_at "go"
    refine ixL_of (SqL.of k1) (v := V.ref d2) rfl ⟨d2, rfl, .inl ⟨_, .inl k4⟩, _, DGet.k (k := Sum.inr z) k4, by omega, ?_⟩
    rw [hL.ta.get]
    exact q
  | fa =>
    rw [show W5.fa.i = 4 from rfl]
    have hkk := hL.k0
    walk_at "go"
    exact ⟨ys, L.k.toNat, by omega, ha, hyl, by omega, by omega, q⟩
theorem ok_l_rank {f : Addr} {fd : FuncData} (F : Fun K "_law_rank" "_law_rank" s_l_rank f fd) (T : Txt K mg xStock xRule xRanked xOldest xFirst xHalving xFarthest)  : FnOk P w K mg base CX0 1 f fd ["_law_found", "_law_due_here"] (sp29_lrank K) := by
  have sc : FnScope ["_law_found", "_law_due_here", "_law_number"] ["_law_found", "_law_due_here"] (defScope s_l_rank) := ⟨rfl, rfl, rfl, by decide +kernel, rfl, by decide +kernel, by decide +kernel⟩
  refine F.ok sc (fun vs H Q E h => ?_) (fun cdv A outer s H vs Q E hr h => ?_)
  · obtain ⟨f, d, is, rfl, hf, hd, hl, q⟩ := h; rfl
  obtain ⟨f, d, is, rfl, hf, hd, hl, q⟩ := h
  refine ⟨_, (@pss_cons _ _ _ _ _ (ps_if (PW.pt (pw_or (pt_not (pt_val (pe_callB call_isinst rfl T.z_isinstance (by first | rfl | decide +kernel) (pa_cons (pv 0) (pa_cons (pe_bltn (v := .ty "tuple") rfl T.z_tuple (by first | rfl | decide +kernel) rfl) pa_nil))))) (pw_or1 (pt_cmpR (op_neQ hr) (pv 0) (pv 1) (nomark _)))))
      (@pss_one _ _ _ (@ps_ret _ _ _ _ pe_bl))
      pss_nil)
    (@pss_cons _ _ _ _ _ (ps_for PassesOwn.never rfl (pi_tup (pv 0)) (pg_name (i := 2) sc.nd rfl (Or.inl rfl))
      (@pss_one _ _ _ (ps_if (PW.pt (pw_or (pt_not (pt_val (pe_callB call_isinst rfl T.z_isinstance (by first | rfl | decide +kernel) (pa_cons (pv 2) (pa_cons (pe_bltn (v := .ty "int") rfl T.z_int (by first | rfl | decide +kernel) rfl) pa_nil))))) (pw_or1 (pt_val (pe_callB call_isinst rfl T.z_isinstance (by first | rfl | decide +kernel) (pa_cons (pv 2) (pa_cons (pe_bltn (v := .ty "bool") rfl T.z_bool (by first | rfl | decide +kernel) rfl) pa_nil)))))))
        (@pss_one _ _ _ (@ps_ret _ _ _ _ pe_bl))
        pss_nil)))
    (@pss_one _ _ _ (@ps_ret _ _ _ _ pe_bl)))), ?_⟩
  rw [show start ["_law_found", "_law_due_here", "_law_number"] [V.ref f, V.ref d] = [some (V.ref f), some (V.ref d), none] from rfl]
  have line := line_val
  have hfl : (is.map V.int).all flatV = true := by rw [List.all_eq_true]; intro v hv; obtain ⟨i, _, rfl⟩ := List.mem_map.mp hv; rfl
  walk_at "go"
  refine ⟨_, ⟨f, d, _, _, rfl, rfl, .inr ⟨SqT.of hf, SqT.of hd⟩, hfl, hfl, rfl⟩, ?_⟩
  rw [flatEq_self hfl, if_neg (by decide)]
  rename_i rest hrest
  subst hrest
  walk_at "go"
  refine ⟨⟨_, SqT.of hf⟩, ?_⟩
  rename_i rest hrest
  refine forT_by (xs := is.map V.int) (fun i σ H' => ∃ v2 : Option V, σ = [some (V.ref f), some (V.ref d), v2] ∧ H' = H) ⟨none, rfl, rfl⟩ (fun i σ H' _ ⟨_, _, e⟩ => by rw [e]; exact SqT.of hf) ?_ ?_
  · clear hrest
    rintro i v σ H' hu ⟨v2, rfl, rfl⟩
    obtain ⟨j, _, rfl⟩ := List.mem_map.mp (List.mem_of_getElem? hu)
    walk_at "go"
  · rintro σ H' ⟨v2, rfl, rfl⟩
    subst hrest
    walk_at "go"
    exact q
theorem ok_l_all_ranks {f : Addr} {fd : FuncData} (F : Fun K "_law_all_ranks" "_law_all_ranks" s_l_all_ranks f fd) (T : Txt K mg xStock xRule xRanked xOldest xFirst xHalving xFarthest) (D_l_rank : Def P w K mg base CX0 1 "_law_rank" ["_law_found", "_law_due_here"] (sp29_lrank K)) (D_l_due : Def P w K mg base CX0 2 "_law_due" ["_law_which", "_law_kept", "_law_asks_here", "_law_name", "_law_now"] (sp29_due K)) (D_Ranked_rank : DefV P w K mg base 2 xRanked "rank" ["self", "name"] (sp29_rank (C5.mk xRanked xOldest xFirst xHalving xFarthest) .ra)) (D_Oldest_rank : DefV P w K mg base 2 xOldest "rank" ["self", "name"] (sp29_rank (C5.mk xRanked xOldest xFirst xHalving xFarthest) .ol)) (D_First_rank : DefV P w K mg base 2 xFirst "rank" ["self", "name"] (sp29_rank (C5.mk xRanked xOldest xFirst xHalving xFarthest) .fi)) (D_Halving_rank : DefV P w K mg base 2 xHalving "rank" ["self", "name"] (sp29_rank (C5.mk xRanked xOldest xFirst xHalving xFarthest) .ha)) (D_Farthest_rank : DefV P w K mg base 2 xFarthest "rank" ["self", "name"] (sp29_rank (C5.mk xRanked xOldest xFirst xHalving xFarthest) .fa)) : FnOk P w K mg base CX0 3 f fd ["_law_rule", "_law_which", "_law_kept", "_law_asks_here", "_law_now", "_law_names_here"] (sp29_all (C5.mk xRanked xOldest xFirst xHalving xFarthest) K) := by
  have sc : FnScope ["_law_rule", "_law_which", "_law_kept", "_law_asks_here", "_law_now", "_law_names_here", "_law_name"] ["_law_rule", "_law_which", "_law_kept", "_law_asks_here", "_law_now", "_law_names_here"] (defScope s_l_all_ranks) := ⟨rfl, rfl, rfl, by decide +kernel, rfl, by decide +kernel, by decide +kernel⟩
  refine F.ok sc (fun vs H Q E h => ?_) (fun cdv A outer s H vs Q E hr h => ?_)
  · obtain ⟨w5, q', p, ke, d0, d1, d2, a, b, M, n, L, ys, ns, zs, rfl, hh, hke, hL, hk, ha, hyl, hb, q⟩ := h; rfl
  obtain ⟨w5, q', p, ke, d0, d1, d2, a, b, M, n, L, ys, ns, zs, rfl, hh, hke, hL, hk, ha, hyl, hb, q⟩ := h
  refine ⟨_, (@pss_cons _ _ _ _ _ (ps_for PassesOwn.never rfl (pi_list (pv 5)) (pg_name (i := 6) sc.nd rfl (Or.inl rfl))
      (@pss_one _ _ _ (ps_if (pt_not (pt_val (pe_callD D_l_rank hr rfl pass0 (pa_cons (pe_methI (C := fun w => w.C (C5.mk xRanked xOldest xFirst xHalving xFarthest)) (sp := fun w => sp29_rank (C5.mk xRanked xOldest xFirst xHalving xFarthest) w) (fun w => by cases w; exact D_Ranked_rank.toM; exact D_Oldest_rank.toM; exact D_First_rank.toM; exact D_Halving_rank.toM; exact D_Farthest_rank.toM) (fun w => by cases w; exact T.cl_Ranked; exact T.cl_Oldest; exact T.cl_First; exact T.cl_Halving; exact T.cl_Farthest) hr (passS pass0) (pv 0) (pa_cons (pv 6) pa_nil)) (pa_cons (pe_callD D_l_due hr rfl pass0 (pa_cons (pv 1) (pa_cons (pv 2) (pa_cons (pv 3) (pa_cons (pv 6) (pa_cons (pv 4) pa_nil)))))) pa_nil)))))
        (@pss_one _ _ _ (@ps_ret _ _ _ _ pe_bl))
        pss_nil)))
    (@pss_one _ _ _ (@ps_ret _ _ _ _ pe_bl))), ?_⟩
  rw [show start ["_law_rule", "_law_which", "_law_kept", "_law_asks_here", "_law_now", "_law_names_here", "_law_name"] [V.ref q', V.int w5.i, V.ref ke, V.ref a, V.int L.k, V.ref b] = [some (V.ref q'), some (V.int w5.i), some (V.ref ke), some (V.ref a), some (V.int L.k), some (V.ref b), none] from rfl]
  have line := line_val
  walk_at "go"
  refine ⟨⟨_, SqL.of hb⟩, ?_⟩
  rename_i rest hrest
  refine forL_by (xs := zs.map V.str) (fun i σ H' => ∃ (v6 : Option V), σ = [some (V.ref q'), some (V.int w5.i), some (V.ref ke), some (V.ref a), some (V.int L.k), some (V.ref b), v6] ∧ Same H H') ⟨none, rfl, Same.refl H⟩ (fun i σ H' _ ⟨_, _, sm⟩ => SqL.of (sm _ _ hb)) ?_ ?_
  · clear hrest
    rintro i v σ H' hu ⟨v6, rfl, sm⟩
    rw [List.getElem?_map] at hu
    cases hz : zs[i]? with
    | none => rw [hz] at hu; cases hu
    | some z =>
    rw [hz] at hu
    cases hu
    have hh2 := at_same sm hh
    have hke2 := hke.same sm
    have ha2 := sm.seq ha
    obtain ⟨dx, fs, ho, hno⟩ := obj5 hh2
    walk_at "go"
    refine ⟨w5, dx, fs, ho, hno _ (by simp), ys, hyl, p, n, M, _, hh2, ns, hL.tj hk, fun t ht => ?_⟩
    rw [← due_rk]
    have smt : Same H' (upd H' t (.tup ((dueR ys L z w5).map V.int))) := Same.new ht
    have htt : upd H' t (.tup ((dueR ys L z w5).map V.int)) t = some (.tup ((dueR ys L z w5).map V.int)) := upd_same
    generalize upd H' t (.tup ((dueR ys L z w5).map V.int)) = H2 at smt htt ⊢
    refine ⟨w5, rfl, d0, d1, d2, L, rfl, hke2.same smt, ys, ns, hL, hk, smt.seq ha2, hyl, fun t1 ht1 => ?_⟩
    have sm1 : Same H2 (upd H2 t1 (.tup ((dueR ys L z w5).map V.int))) := Same.new ht1
    have hdl := dueR_len (ys := ys) (L := L) (z := z) (w := w5)
    exact ⟨dueR ys L z w5, sm1 _ _ htt, upd_same, by omega, (sm.trans smt).trans sm1⟩
  · rintro σ H' ⟨v6, rfl, sm⟩
    subst hrest
    walk_at "go"
    exact q H' sm
theorem ok_l_counted {f : Addr} {fd : FuncData} (F : Fun K "_law_counted" "_law_counted" s_l_counted f fd) (T : Txt K mg xStock xRule xRanked xOldest xFirst xHalving xFarthest)  : FnOk P w K mg base CX0 1 f fd ["_law_kept", "_law_name", "_law_now", "_law_turn"] (sp29_counted) := by
  have sc : FnScope ["_law_kept", "_law_name", "_law_now", "_law_turn", "_law_other"] ["_law_kept", "_law_name", "_law_now", "_law_turn"] (defScope s_l_counted) := ⟨rfl, rfl, rfl, by decide +kernel, rfl, by decide +kernel, by decide +kernel⟩
  refine F.ok sc (fun vs H Q E h => ?_) (fun cdv A outer s H vs Q E hr h => ?_)
  · obtain ⟨ke, d0, d1, d2, L, ns, z, rfl, hke, hL, hns, hz, hk0, q⟩ := h; rfl
  obtain ⟨ke, d0, d1, d2, L, ns, z, rfl, hke, hL, hns, hz, hk0, q⟩ := h
  refine ⟨_, (@pss_cons _ _ _ _ _ (ps_if (PW.pt (pw_and (pt_cmpR op_gt (pv 2) pe_int (nomark _)) (pw_and1 (pt_cmpR op_eq (pe_op op_mod (pe_op op_sub (pv 2) pe_int) (pv 3)) pe_int (nomark _)))))
      (@pss_one _ _ _ (ps_for PassesOwn.never rfl (pi_list (pe_callTy (call_listD rfl) rfl T.z_list (by first | rfl | decide +kernel) (pa_cons (@pe_ix _ _ _ _ _ _ _ ix_list (pv 0) pe_int (fun _ _ => rfl)) pa_nil))) (pg_name (i := 4) sc.nd rfl (Or.inl rfl))
        (@pss_one _ _ _ (ps_dput (hu_of hr) (@pe_ix _ _ _ _ _ _ _ ix_list (pv 0) pe_int (fun _ _ => rfl)) (pv 4) (pe_op op_fdiv (pe_dget (hu_of hr) (@pe_ix _ _ _ _ _ _ _ ix_list (pv 0) pe_int (fun _ _ => rfl)) (pv 4) (fun _ _ => rfl)) pe_int) rfl))))
      pss_nil)
    (@pss_cons _ _ _ _ _ (ps_dput (hu_of hr) (@pe_ix _ _ _ _ _ _ _ ix_list (pv 0) pe_int (fun _ _ => rfl)) (pv 1) (pv 2) rfl)
    (@pss_one _ _ _ (ps_dput (hu_of hr) (@pe_ix _ _ _ _ _ _ _ ix_list (pv 0) pe_int (fun _ _ => rfl)) (pv 1) (pe_op op_add (pe_dget2 (hu_of hr) (@pe_ix _ _ _ _ _ _ _ ix_list (pv 0) pe_int (fun _ _ => rfl)) (pv 1) pe_int ⟨rfl, rfl, rfl, rfl⟩) pe_int) rfl)))), ?_⟩
  rw [show start ["_law_kept", "_law_name", "_law_now", "_law_turn", "_law_other"] [V.ref ke, V.str z, V.int (L.k + 1), V.int L.e] = [some (V.ref ke), some (V.str z), some (V.int (L.k + 1)), some (V.int L.e), none] from rfl]
  have line := line_val
  obtain ⟨k1, k2, k3, k4, k5, k6, k7⟩ := hke
  have hti := (tbl_ok (e := L.e) (k := L.k) hL.ta).1
  have htl := hti.k.len
  have hll := hL.la.k.len
  have he1 := hL.e1
  have hkk := hL.k0
  walk_at "go"
  rename_i rest hrest
  have key : ∀ (H1 : Hp) (v4 : Option V), Kp [d0, d2] H H1 → H1 ke = some (.lst [.ref d0, .ref d1, .ref d2]) → H1 d0 = some (.dK L.la) → H1 d1 = some (.dK L.pu) → H1 d2 = some (.dK (tbl L.e L.k L.ta)) → rest [some (V.ref ke), some (V.str z), some (V.int (L.k + 1)), some (V.int L.e), v4] H1 := by
    intro H1 v4 kp1 c1 c2 c3 c4
    have hlp := length_putK (tbl L.e L.k L.ta) (Sum.inr z : Key) (V.int (tvK (tbl L.e L.k L.ta) (Sum.inr z) + 1))
    have hlq := length_putK L.la (Sum.inr z : Key) (V.int (L.k + 1))
    have nk0 : ke ≠ d0 := ne_of c1 c2 (by intro z; cases z)
    have nk2 : ke ≠ d2 := ne_of c1 c4 (by intro z; cases z)
    subst hrest
    walk_at "go"
    refine ixL_of (SqL.of c1) (v := V.ref d0) rfl ⟨d0, rfl, _, DPut.k (k := Sum.inr z) c2 (by omega), ?_⟩
    have f1 : upd H1 d0 (.dK (putK L.la (Sum.inr z) (.int (L.k + 1)))) ke = some (.lst [.ref d0, .ref d1, .ref d2]) := by rw [upd_ne nk0]; exact c1
    have f2 : upd H1 d0 (.dK (putK L.la (Sum.inr z) (.int (L.k + 1)))) d0 = some (.dK (putK L.la (Sum.inr z) (.int (L.k + 1)))) := upd_same
    have f3 : upd H1 d0 (.dK (putK L.la (Sum.inr z) (.int (L.k + 1)))) d1 = some (.dK L.pu) := by rw [upd_ne k5.symm]; exact c3
    have f4 : upd H1 d0 (.dK (putK L.la (Sum.inr z) (.int (L.k + 1)))) d2 = some (.dK (tbl L.e L.k L.ta)) := by rw [upd_ne k6.symm]; exact c4
    have kp2 : Kp [d0, d2] H (upd H1 d0 (.dK (putK L.la (Sum.inr z) (.int (L.k + 1))))) := kp1.upd (by simp)
    generalize upd H1 d0 (.dK (putK L.la (Sum.inr z) (.int (L.k + 1)))) = H2 at f1 f2 f3 f4 kp2 ⊢
    rename_i rest hrest
    subst hrest
    walk_at "go"
    refine ixL_of (SqL.of f1) (v := V.ref d2) rfl ⟨d2, rfl, .inl ⟨_, .inl f4⟩, _, DGet.k (k := Sum.inr z) f4, ?_⟩
    rw [hti.get]
    refine ⟨_, rfl, ixL_of (SqL.of f1) (v := V.ref d2) rfl ⟨d2, rfl, _, DPut.k (k := Sum.inr z) f4 (by omega), ?_⟩⟩
    exact q _ (kp2.upd (by simp)) ⟨by rw [upd_ne nk2]; exact f1, by rw [upd_ne k6]; exact f2, by rw [upd_ne k7]; exact f3, upd_same, k5, k6, k7⟩
  clear hrest
  have hsame : L.k % L.e ≠ 0 ∨ L.k = 0 → tbl L.e L.k L.ta = L.ta := fun h => by
    unfold tbl
    rcases h with h | h
    · rw [if_neg h]
    · rw [hk0 h]; split <;> rfl
  by_cases hk : L.k = 0
  · rw [if_neg (by omega)]
    exact key H none (Kp.of (Same.refl H)) k1 k2 k3 (by rw [hsame (.inr hk)]; exact k4)
  rw [if_pos (by omega)]
  refine ⟨by omega, ?_⟩
  rw [show L.k + 1 - 1 = L.k by omega]
  by_cases hm : L.k % L.e = 0
  · rw [if_pos hm]
    have ht2 : tbl L.e L.k L.ta = hvd L.ta := by unfold tbl; rw [if_pos hm]
    rw [ht2] at key
    clear ht2 hsame hti htl
    have ht := hL.ta
    obtain ⟨ks, hks, hin⟩ := ht.keys
    have hkl : L.ta.length = ks.length ∧ True := ⟨by have := congrArg List.length hks; simpa using this, trivial⟩
    refine ixL_of (SqL.of k1) (v := V.ref d2) rfl ⟨d2, rfl, L.ta, k4, fun l hl => ?_⟩
    rw [keys_str hks]
    have sml : Same H (upd H l (.lst (ks.map V.str))) := Same.new hl
    have hll' : upd H l (.lst (ks.map V.str)) l = some (.lst (ks.map V.str)) := upd_same
    have c1 := sml _ _ k1
    have c2 := sml _ _ k2
    have c3 := sml _ _ k3
    have c4 := sml _ _ k4
    have nlc : l ≠ d2 := fun e => by rw [e, k4] at hl; cases hl
    have nkc : ke ≠ d2 := ne_of k1 k4 (by intro z; cases z)
    generalize upd H l (.lst (ks.map V.str)) = H1 at sml hll' c1 c2 c3 c4 ⊢
    refine ⟨⟨_, SqL.of hll'⟩, ?_⟩
    refine forL_by (xs := ks.map V.str) (fun i σ H' => ∃ (v1 : Option V), σ = [some (V.ref ke), some (V.str z), some (V.int (L.k + 1)), some (V.int L.e), v1] ∧ Kp [d0, d2] H H' ∧ H' l = some (.lst (ks.map V.str)) ∧ H' ke = some (.lst [.ref d0, .ref d1, .ref d2]) ∧ H' d0 = some (.dK L.la) ∧ H' d1 = some (.dK L.pu) ∧ H' d2 = some (.dK (hvi L.ta i))) ⟨none, rfl, Kp.of sml, hll', c1, c2, c3, c4⟩ (fun i σ H' _ ⟨_, _, _, h, _⟩ => SqL.of h) ?_ ?_
    · rintro i v σ H' hu ⟨v1, rfl, kp, hL', e1, e2, e3, e4⟩
      rw [List.getElem?_map] at hu
      cases hz' : ks[i]? with
      | none => rw [hz'] at hu; cases hu
      | some y =>
      rw [hz'] at hu
      cases hu
      have hkz : (L.ta.map (·.1))[i]? = some (Sum.inr y) := by rw [hks, List.getElem?_map, hz']; rfl
      have hval := ht.at_ (List.mem_of_getElem? hkz) i
      have hsu : hvi L.ta (i + 1) = putK (hvi L.ta i) (Sum.inr y) (.int (tvK (hvi L.ta i) (Sum.inr y) / 2)) ∧ True := ⟨hvi_succ hkz, trivial⟩
      have hln := (hvi_ok ht i).1.k.len
      clear hkz
      walk_at "go"
      refine ixL_of (SqL.of e1) (v := V.ref d2) rfl ⟨d2, rfl, _, by rw [← hval]; exact DGet.k (k := Sum.inr y) e4, _, rfl, cdiv_of (by decide) (by decide), ?_⟩
      exact ixL_of (SqL.of e1) (v := V.ref d2) rfl ⟨d2, rfl, _, DPut.k (k := Sum.inr y) e4 (by omega), kp.upd (by simp), by rw [upd_ne nlc]; exact hL', by rw [upd_ne nkc]; exact e1, by rw [upd_ne k6]; exact e2, by rw [upd_ne k7]; exact e3, by rw [upd_same, hsu.1]⟩
    · rintro σ H' ⟨v1, rfl, kp, hL', e1, e2, e3, e4⟩
      rw [List.length_map, ← hkl.1] at e4
      exact key H' v1 kp e1 e2 e3 e4
  · rw [if_neg hm]
    exact key H none (Kp.of (Same.refl H)) k1 k2 k3 (by rw [hsame (.inl hm)]; exact k4)
theorem ok_l_least {f : Addr} {fd : FuncData} (F : Fun K "_law_least" "_law_least" s_l_least f fd) (T : Txt K mg xStock xRule xRanked xOldest xFirst xHalving xFarthest) (D_Ranked_rank : DefV P w K mg base 2 xRanked "rank" ["self", "name"] (sp29_rank (C5.mk xRanked xOldest xFirst xHalving xFarthest) .ra)) (D_Oldest_rank : DefV P w K mg base 2 xOldest "rank" ["self", "name"] (sp29_rank (C5.mk xRanked xOldest xFirst xHalving xFarthest) .ol)) (D_First_rank : DefV P w K mg base 2 xFirst "rank" ["self", "name"] (sp29_rank (C5.mk xRanked xOldest xFirst xHalving xFarthest) .fi)) (D_Halving_rank : DefV P w K mg base 2 xHalving "rank" ["self", "name"] (sp29_rank (C5.mk xRanked xOldest xFirst xHalving xFarthest) .ha)) (D_Farthest_rank : DefV P w K mg base 2 xFarthest "rank" ["self", "name"] (sp29_rank (C5.mk xRanked xOldest xFirst xHalving xFarthest) .fa)) : FnOk P w K mg base CX0 3 f fd ["_law_rule", "_law_pick", "_law_lying"] (sp29_least (C5.mk xRanked xOldest xFirst xHalving xFarthest) K) := by
  have sc : FnScope ["_law_rule", "_law_pick", "_law_lying", "_law_name"] ["_law_rule", "_law_pick", "_law_lying"] (defScope s_l_least) := ⟨rfl, rfl, rfl, by decide +kernel, rfl, by decide +kernel, by decide +kernel⟩
  refine F.ok sc (fun vs H Q E h => ?_) (fun cdv A outer s H vs Q E hr h => ?_)
  · obtain ⟨w5, q', p, b, M, n, L, ys, ns, l, z, rfl, hh, hm, hL, hk, hyl, hl, hb, q⟩ := h; rfl
  obtain ⟨w5, q', p, b, M, n, L, ys, ns, l, z, rfl, hh, hm, hL, hk, hyl, hl, hb, q⟩ := h
  refine ⟨_, (@pss_cons _ _ _ _ _ (ps_if (pt_cmpR op_notIn_seq (pv 1) (pv 2) (by with_unfolding_all rfl))
      (@pss_one _ _ _ (@ps_ret _ _ _ _ pe_bl))
      pss_nil)
    (@pss_cons _ _ _ _ _ (ps_for PassesOwn.never rfl (pi_list (pv 2)) (pg_name (i := 3) sc.nd rfl (Or.inl rfl))
      (@pss_one _ _ _ (ps_if (pt_cmpR (op_ltTr hr) (pe_methI (C := fun w => w.C (C5.mk xRanked xOldest xFirst xHalving xFarthest)) (sp := fun w => sp29_rank (C5.mk xRanked xOldest xFirst xHalving xFarthest) w) (fun w => by cases w; exact D_Ranked_rank.toM; exact D_Oldest_rank.toM; exact D_First_rank.toM; exact D_Halving_rank.toM; exact D_Farthest_rank.toM) (fun w => by cases w; exact T.cl_Ranked; exact T.cl_Oldest; exact T.cl_First; exact T.cl_Halving; exact T.cl_Farthest) hr (passS pass0) (pv 0) (pa_cons (pv 3) pa_nil)) (pe_methI (C := fun w => w.C (C5.mk xRanked xOldest xFirst xHalving xFarthest)) (sp := fun w => sp29_rank (C5.mk xRanked xOldest xFirst xHalving xFarthest) w) (fun w => by cases w; exact D_Ranked_rank.toM; exact D_Oldest_rank.toM; exact D_First_rank.toM; exact D_Halving_rank.toM; exact D_Farthest_rank.toM) (fun w => by cases w; exact T.cl_Ranked; exact T.cl_Oldest; exact T.cl_First; exact T.cl_Halving; exact T.cl_Farthest) hr (passS pass0) (pv 0) (pa_cons (pv 1) pa_nil)) (nomark _))
        (@pss_one _ _ _ (@ps_ret _ _ _ _ pe_bl))
        pss_nil)))
    (@pss_one _ _ _ (@ps_ret _ _ _ _ pe_bl)))), ?_⟩
  rw [show start ["_law_rule", "_law_pick", "_law_lying", "_law_name"] [V.ref q', V.str ((T5 (C5.mk xRanked xOldest xFirst xHalving xFarthest) ys w5).pick n (proj (C5.mk xRanked xOldest xFirst xHalving xFarthest) ys w5 L) l).2, V.ref b] = [some (V.ref q'), some (V.str ((T5 (C5.mk xRanked xOldest xFirst xHalving xFarthest) ys w5).pick n (proj (C5.mk xRanked xOldest xFirst xHalving xFarthest) ys w5 L) l).2), some (V.ref b), none] from rfl]
  have line := line_val
  have hpk := ((T5 (C5.mk xRanked xOldest xFirst xHalving xFarthest) ys w5).i_pick hm hl).1
  have hmin := min5 hm hl
  generalize ((T5 (C5.mk xRanked xOldest xFirst xHalving xFarthest) ys w5).pick n (proj (C5.mk xRanked xOldest xFirst xHalving xFarthest) ys w5 L) l).2 = pk at hpk hmin ⊢
  walk_at "go"
  refine notin_go (SqL.of hb) ⟨_, rfl, ?_⟩
  rw [if_neg (by simp [hpk])]
  rename_i rest hrest
  subst hrest
  walk_at "go"
  refine ⟨⟨_, SqL.of hb⟩, ?_⟩
  rename_i rest hrest
  refine forL_by (xs := l.map V.str) (fun i σ H' => ∃ (v3 : Option V), σ = [some (V.ref q'), some (V.str pk), some (V.ref b), v3] ∧ Same H H') ⟨none, rfl, Same.refl H⟩ (fun i σ H' _ ⟨_, _, sm⟩ => SqL.of (sm _ _ hb)) ?_ ?_
  · clear hrest
    rintro i v σ H' hu ⟨v3, rfl, sm⟩
    rw [List.getElem?_map] at hu
    cases hz : l[i]? with
    | none => rw [hz] at hu; cases hu
    | some u =>
    rw [hz] at hu
    cases hu
    have hh2 := at_same sm hh
    have hmu := hmin u (List.mem_of_getElem? hz)
    obtain ⟨dx, fs, ho, hno⟩ := obj5 hh2
    walk_at "go"
    refine ⟨w5, dx, fs, ho, hno _ (by simp), ys, hyl, p, n, M, _, hh2, ns, hL.tj hk, fun t ht => ?_⟩
    have smt : Same H' (upd H' t (.tup ((rk5 (C5.mk xRanked xOldest xFirst xHalving xFarthest) ys w5 (proj (C5.mk xRanked xOldest xFirst xHalving xFarthest) ys w5 L) u).map V.int))) := Same.new ht
    have htt : upd H' t (.tup ((rk5 (C5.mk xRanked xOldest xFirst xHalving xFarthest) ys w5 (proj (C5.mk xRanked xOldest xFirst xHalving xFarthest) ys w5 L) u).map V.int)) t = some (.tup ((rk5 (C5.mk xRanked xOldest xFirst xHalving xFarthest) ys w5 (proj (C5.mk xRanked xOldest xFirst xHalving xFarthest) ys w5 L) u).map V.int)) := upd_same
    generalize upd H' t (.tup ((rk5 (C5.mk xRanked xOldest xFirst xHalving xFarthest) ys w5 (proj (C5.mk xRanked xOldest xFirst xHalving xFarthest) ys w5 L) u).map V.int)) = H2 at smt htt ⊢
    have hh3 := at_same smt hh2
    refine ⟨w5, dx, fs, smt _ _ ho, hno _ (by simp), ys, hyl, p, n, M, _, hh3, ns, hL.tj hk, fun t1 ht1 => ?_⟩
    have sm1 : Same H2 (upd H2 t1 (.tup ((rk5 (C5.mk xRanked xOldest xFirst xHalving xFarthest) ys w5 (proj (C5.mk xRanked xOldest xFirst xHalving xFarthest) ys w5 L) pk).map V.int))) := Same.new ht1
    refine ⟨_, SqT.of (sm1 _ _ htt), _, SqT.of upd_same, ?_⟩
    rw [hmu, if_neg (by decide)]
    exact (sm.trans smt).trans sm1
  · rintro σ H' ⟨v3, rfl, sm⟩
    subst hrest
    walk_at "go"
    exact q H' sm
theorem ok_l_led {f : Addr} {fd : FuncData} (F : Fun K "_law_led" "_law_led" s_l_led f fd) (T : Txt K mg xStock xRule xRanked xOldest xFirst xHalving xFarthest) (D_l_counted : Def P w K mg base CX0 1 "_law_counted" ["_law_kept", "_law_name", "_law_now", "_law_turn"] (sp29_counted)) (D_l_all_ranks : Def P w K mg base CX0 3 "_law_all_ranks" ["_law_rule", "_law_which", "_law_kept", "_law_asks_here", "_law_now", "_law_names_here"] (sp29_all (C5.mk xRanked xOldest xFirst xHalving xFarthest) K)) (D_l_least : Def P w K mg base CX0 3 "_law_least" ["_law_rule", "_law_pick", "_law_lying"] (sp29_least (C5.mk xRanked xOldest xFirst xHalving xFarthest) K)) (D_Halving_counts : DefM P w K mg base CX0 1 xHalving "counts" ["self"] (sp23_counts xHalving)) (D_Ranked_asked : DefM P w K mg base CX0 2 xRanked "asked" ["self", "name"] (sp29_asked (C5.mk xRanked xOldest xFirst xHalving xFarthest) .ra)) (D_Oldest_asked : DefM P w K mg base CX0 2 xOldest "asked" ["self", "name"] (sp29_asked (C5.mk xRanked xOldest xFirst xHalving xFarthest) .ol)) (D_First_asked : DefM P w K mg base CX0 2 xFirst "asked" ["self", "name"] (sp29_asked (C5.mk xRanked xOldest xFirst xHalving xFarthest) .fi)) (D_Halving_asked : DefM P w K mg base CX0 2 xHalving "asked" ["self", "name"] (sp29_asked (C5.mk xRanked xOldest xFirst xHalving xFarthest) .ha)) (D_Farthest_asked : DefM P w K mg base CX0 2 xFarthest "asked" ["self", "name"] (sp29_asked (C5.mk xRanked xOldest xFirst xHalving xFarthest) .fa)) (D_Ranked_choice : DefM P w K mg base CX0 4 xRanked "choice" ["self", "lying"] (sp29_choice (C5.mk xRanked xOldest xFirst xHalving xFarthest) .ra K)) (D_Oldest_choice : DefM P w K mg base CX0 4 xOldest "choice" ["self", "lying"] (sp29_choice (C5.mk xRanked xOldest xFirst xHalving xFarthest) .ol K)) (D_First_choice : DefM P w K mg base CX0 4 xFirst "choice" ["self", "lying"] (sp29_choice (C5.mk xRanked xOldest xFirst xHalving xFarthest) .fi K)) (D_Halving_choice : DefM P w K mg base CX0 4 xHalving "choice" ["self", "lying"] (sp29_choice (C5.mk xRanked xOldest xFirst xHalving xFarthest) .ha K)) (D_Farthest_choice : DefM P w K mg base CX0 4 xFarthest "choice" ["self", "lying"] (sp29_choice (C5.mk xRanked xOldest xFirst xHalving xFarthest) .fa K)) (D_Ranked_gone : DefM P w K mg base CX0 1 xRanked "gone" ["self", "name"] (sp29_gone (C5.mk xRanked xOldest xFirst xHalving xFarthest) .ra)) (D_Oldest_gone : DefM P w K mg base CX0 1 xOldest "gone" ["self", "name"] (sp29_gone (C5.mk xRanked xOldest xFirst xHalving xFarthest) .ol)) (D_First_gone : DefM P w K mg base CX0 1 xFirst "gone" ["self", "name"] (sp29_gone (C5.mk xRanked xOldest xFirst xHalving xFarthest) .fi)) (D_Halving_gone : DefM P w K mg base CX0 1 xHalving "gone" ["self", "name"] (sp29_gone (C5.mk xRanked xOldest xFirst xHalving xFarthest) .ha)) (D_Farthest_gone : DefM P w K mg base CX0 1 xFarthest "gone" ["self", "name"] (sp29_gone (C5.mk xRanked xOldest xFirst xHalving xFarthest) .fa)) (D_Ranked_came : DefM P w K mg base CX0 1 xRanked "came" ["self", "name"] (sp29_came (C5.mk xRanked xOldest xFirst xHalving xFarthest) .ra)) (D_Oldest_came : DefM P w K mg base CX0 1 xOldest "came" ["self", "name"] (sp29_came (C5.mk xRanked xOldest xFirst xHalving xFarthest) .ol)) (D_First_came : DefM P w K mg base CX0 1 xFirst "came" ["self", "name"] (sp29_came (C5.mk xRanked xOldest xFirst xHalving xFarthest) .fi)) (D_Halving_came : DefM P w K mg base CX0 1 xHalving "came" ["self", "name"] (sp29_came (C5.mk xRanked xOldest xFirst xHalving xFarthest) .ha)) (D_Farthest_came : DefM P w K mg base CX0 1 xFarthest "came" ["self", "name"] (sp29_came (C5.mk xRanked xOldest xFirst xHalving xFarthest) .fa)) : FnOk P w K mg base CX0 5 f fd ["_law_rule", "_law_which", "_law_asks_here", "_law_rooms_here", "_law_places_here", "_law_turn"] (sp29_led (C5.mk xRanked xOldest xFirst xHalving xFarthest) K) := by
  have sc : FnScope ["_law_rule", "_law_which", "_law_asks_here", "_law_rooms_here", "_law_places_here", "_law_turn", "_law_kept", "_law_lying", "_law_left", "_law_k", "_law_name", "_law_pick"] ["_law_rule", "_law_which", "_law_asks_here", "_law_rooms_here", "_law_places_here", "_law_turn"] (defScope s_l_led) := ⟨rfl, rfl, rfl, by decide +kernel, rfl, by decide +kernel, by decide +kernel⟩
  refine F.ok sc (fun vs H Q E h => ?_) (fun cdv A outer s H vs Q E hr h => ?_)
  · obtain ⟨w5, q', p, a, rd, M, n, e, ts, ys, rfl, hh, hrd, hrdM, nd, htl, ha, haM, hyl, hin, hrm, he1, he2, q⟩ := h; rfl
  obtain ⟨w5, q', p, a, rd, M, n, e, ts, ys, rfl, hh, hrd, hrdM, nd, htl, ha, haM, hyl, hin, hrm, he1, he2, q⟩ := h
  refine ⟨_, (@pss_cons _ _ _ _ _ (ps_set (i := 6) sc.nd rfl (Or.inl rfl) (@pe_lst _ _ _ _ (pa_cons pe_dnewK (pa_cons pe_dnewK (pa_cons pe_dnewK pa_nil)))))
    (@pss_cons _ _ _ _ _ (ps_set (i := 7) sc.nd rfl (Or.inl rfl) (@pe_lst _ _ _ _ pa_nil))
    (@pss_cons _ _ _ _ _ (ps_set (i := 8) sc.nd rfl (Or.inl rfl) (pv 4))
    (@pss_cons _ _ _ _ _ (ps_for PassesOwn.never rfl (pi_enum rfl T.z_enumerate (pa_cons (pv 2) pa_nil)) (pg_tup rfl (pgs_cons (pg_name (i := 9) sc.nd rfl (Or.inl rfl)) (pgs_cons (pg_name (i := 10) sc.nd rfl (Or.inl rfl)) pgs_nil)))
      (@pss_cons _ _ _ _ _ (ps_expr (pe_callD D_l_counted hr rfl pass0 (pa_cons (pv 6) (pa_cons (pv 10) (@pa_consB _ _ _ _ _ _ _ _ (pe_op op_add (pv 9) pe_int) (pa_cons (pv 5) pa_nil))))))
      (@pss_cons _ _ _ _ _ (ps_expr (pe_methI (C := fun w => w.C (C5.mk xRanked xOldest xFirst xHalving xFarthest)) (sp := fun w => sp29_asked (C5.mk xRanked xOldest xFirst xHalving xFarthest) w) (fun w => by cases w; exact D_Ranked_asked; exact D_Oldest_asked; exact D_First_asked; exact D_Halving_asked; exact D_Farthest_asked) (fun w => by cases w; exact T.cl_Ranked; exact T.cl_Oldest; exact T.cl_First; exact T.cl_Halving; exact T.cl_Farthest) hr (passS pass0) (pv 0) (pa_cons (pv 10) pa_nil)))
      (@pss_cons _ _ _ _ _ (ps_if (PW.pt (pw_and (pt_cmpR op_eq (pv 1) pe_int (nomark _)) (pw_and1 (pt_cmpR (op_neDD hr) (pe_methS0 D_Halving_counts T.cl_Halving hr (passS pass0) (pv 0)) (@pe_ix _ _ _ _ _ _ _ ix_list (pv 6) pe_int (fun _ _ => rfl)) (nomark _)))))
        (@pss_one _ _ _ (@ps_ret _ _ _ _ pe_bl))
        pss_nil)
      (@pss_cons _ _ _ _ _ (ps_if (pt_not (pt_val (pe_callD D_l_all_ranks hr rfl pass0 (pa_cons (pv 0) (pa_cons (pv 1) (pa_cons (pv 6) (pa_cons (pv 2) (@pa_consB _ _ _ _ _ _ _ _ (pe_op op_add (pv 9) pe_int) (pa_cons (pe_callTy (call_listD rfl) rfl T.z_list (by first | rfl | decide +kernel) (pa_cons (pv 3) pa_nil)) pa_nil)))))))))
        (@pss_one _ _ _ (@ps_ret _ _ _ _ pe_bl))
        pss_nil)
      (@pss_cons _ _ _ _ _ (ps_while PassesOwn.never (PW.pt (pw_and (pt_cmpR op_notIn_seq (pv 10) (pv 7) (by with_unfolding_all rfl)) (pw_and1 (pt_cmpR op_lt (pv 8) (pe_dget (hu_of hr) (pv 3) (pv 10) (fun _ _ => rfl)) (nomark _)))))
        (@pss_cons _ _ _ _ _ (ps_set (i := 11) sc.nd rfl (Or.inl rfl) (pe_methI (C := fun w => w.C (C5.mk xRanked xOldest xFirst xHalving xFarthest)) (sp := fun w => sp29_choice (C5.mk xRanked xOldest xFirst xHalving xFarthest) w K) (fun w => by cases w; exact D_Ranked_choice; exact D_Oldest_choice; exact D_First_choice; exact D_Halving_choice; exact D_Farthest_choice) (fun w => by cases w; exact T.cl_Ranked; exact T.cl_Oldest; exact T.cl_First; exact T.cl_Halving; exact T.cl_Farthest) hr (passS pass0) (pv 0) (pa_cons (pe_callTy call_list_of rfl T.z_list (by first | rfl | decide +kernel) (pa_cons (pv 7) pa_nil)) pa_nil)))
        (@pss_cons _ _ _ _ _ (ps_if (pt_not (pt_val (pe_callD D_l_least hr rfl pass0 (pa_cons (pv 0) (pa_cons (pv 11) (pa_cons (pv 7) pa_nil))))))
          (@pss_one _ _ _ (@ps_ret _ _ _ _ pe_bl))
          pss_nil)
        (@pss_cons _ _ _ _ _ (ps_expr (pe_bm PySem.F.plainAttrs_list PySem.F.slot_list_remove PySem.F.type_list_remove mt_remove (pv 7) (pa_cons (pv 11) pa_nil)))
        (@pss_cons _ _ _ _ _ (ps_set (i := 8) sc.nd rfl (Or.inl rfl) (pe_op op_add (pv 8) (pe_dget (hu_of hr) (pv 3) (pv 11) (fun _ _ => rfl))))
        (@pss_one _ _ _ (ps_expr (pe_methI (C := fun w => w.C (C5.mk xRanked xOldest xFirst xHalving xFarthest)) (sp := fun w => sp29_gone (C5.mk xRanked xOldest xFirst xHalving xFarthest) w) (fun w => by cases w; exact D_Ranked_gone; exact D_Oldest_gone; exact D_First_gone; exact D_Halving_gone; exact D_Farthest_gone) (fun w => by cases w; exact T.cl_Ranked; exact T.cl_Oldest; exact T.cl_First; exact T.cl_Halving; exact T.cl_Farthest) hr (passS pass0) (pv 0) (pa_cons (pv 11) pa_nil)))))))))
      (@pss_one _ _ _ (ps_if (pt_cmpR op_notIn_seq (pv 10) (pv 7) (by with_unfolding_all rfl))
        (@pss_cons _ _ _ _ _ (ps_expr (pe_bm PySem.F.plainAttrs_list PySem.F.slot_list_append PySem.F.type_list_append mt_append (pv 7) (pa_cons (pv 10) pa_nil)))
        (@pss_cons _ _ _ _ _ (ps_set (i := 8) sc.nd rfl (Or.inl rfl) (pe_op op_sub (pv 8) (pe_dget (hu_of hr) (pv 3) (pv 10) (fun _ _ => rfl))))
        (@pss_cons _ _ _ _ _ (ps_expr (pe_methI (C := fun w => w.C (C5.mk xRanked xOldest xFirst xHalving xFarthest)) (sp := fun w => sp29_came (C5.mk xRanked xOldest xFirst xHalving xFarthest) w) (fun w => by cases w; exact D_Ranked_came; exact D_Oldest_came; exact D_First_came; exact D_Halving_came; exact D_Farthest_came) (fun w => by cases w; exact T.cl_Ranked; exact T.cl_Oldest; exact T.cl_First; exact T.cl_Halving; exact T.cl_Farthest) hr (passS pass0) (pv 0) (pa_cons (pv 10) pa_nil)))
        (@pss_one _ _ _ (ps_dput (hu_of hr) (@pe_ix _ _ _ _ _ _ _ ix_list (pv 6) pe_int (fun _ _ => rfl)) (pv 10) (pe_op op_add (pv 9) pe_int) rfl)))))
        pss_nil))))))))
    (@pss_one _ _ _ (@ps_ret _ _ _ _ pe_bl)))))), ?_⟩
  rw [show start ["_law_rule", "_law_which", "_law_asks_here", "_law_rooms_here", "_law_places_here", "_law_turn", "_law_kept", "_law_lying", "_law_left", "_law_k", "_law_name", "_law_pick"] [V.ref q', V.int w5.i, V.ref a, V.ref rd, V.int n, V.int e] = [some (V.ref q'), some (V.int w5.i), some (V.ref a), some (V.ref rd), some (V.int n), some (V.int e), none, none, none, none, none, none] from rfl]
  have line := line_val
  walk_at "go"
  intro d0 h0 d1 h1 d2 h2
  refine ⟨by omega, fun ke h3 => ?_⟩
  obtain ⟨smk, hke, hfr⟩ := ke_new (e := e) h0 h1 h2 h3
  generalize upd (upd (upd (upd H d0 (.dK [])) d1 (.dK [])) d2 (.dK [])) ke (.lst [.ref d0, .ref d1, .ref d2]) = H1 at smk hke ⊢
  have nM : ∀ m ∈ [d0, d1, d2, ke], m ∉ M := fun m hm h => RuleT.live _ hh m h (hfr m hm)
  have hh1 := at_same smk hh
  have hrd1 := smk _ _ hrd
  have ha1 := smk _ _ ha
  clear h0 h1 h2 h3
  rename_i rest hrest
  subst hrest
  walk_at "go"
  intro ly hly
  have sml : Same H1 (upd H1 ly (.lst [])) := Same.new hly
  have gly : upd H1 ly (.lst []) ly = some (.lst (([] : List Str).map V.str)) := upd_same
  have nly : ly ∉ M := fun h => RuleT.live _ hh1 ly h hly
  have nlk : ∀ m ∈ [d0, d1, d2, ke], m ≠ ly := fun m hm e => by
    simp only [List.mem_cons, List.not_mem_nil, or_false] at hm
    rcases hm with z | z | z | z <;> rw [← e, z] at hly
    · rw [hke.2.1] at hly; cases hly
    · rw [hke.2.2.1] at hly; cases hly
    · rw [hke.2.2.2.1] at hly; cases hly
    · rw [hke.1] at hly; cases hly
  have nrl : rd ≠ ly := ne_of_none hrd1 hly
  have nal : a ≠ ly := ne_of_none ha1 hly
  generalize upd H1 ly (.lst []) = H2 at sml gly ⊢
  have hh2 := at_same sml hh1
  have hke2 := hke.same sml
  have hrd2 := sml _ _ hrd1
  have ha2 := sml _ _ ha1
  have nrk : ∀ m ∈ [d0, d1, d2, ke], rd ≠ m := fun m hm e => by rw [e, hfr m hm] at hrd; cases hrd
  have nak : ∀ m ∈ [d0, d1, d2, ke], a ≠ m := fun m hm e => by rw [e, hfr m hm] at ha; cases ha
  clear sml hly hh1 hke hrd1 ha1 smk hh hrd ha hfr
  rename_i rest hrest
  subst hrest
  walk_at "go"
  refine ⟨⟨_, SqL.of ha2⟩, ?_⟩
  rename_i rest hrest
  have hnsl : (ts.map (·.1)).length ≤ 60 := by rw [List.length_map]; exact htl
  refine forE_by (xs := ys.map V.str) (fun i σ H' => ∃ (L : L5) (l : List Str) (v9 v10 v11 : Option V), σ = [some (V.ref q'), some (V.int w5.i), some (V.ref a), some (V.ref rd), some (V.int n), some (V.int e), some (V.ref ke), some (V.ref ly), some (V.int (n - N41.sm (rm ts) l)), v9, v10, v11] ∧ H' rd = some (.dK (N20.rmK ts)) ∧ H' a = some (.lst (ys.map V.str)) ∧ (T5 (C5.mk xRanked xOldest xFirst xHalving xFarthest) ys w5).At H' M q' p n (proj (C5.mk xRanked xOldest xFirst xHalving xFarthest) ys w5 L) ∧ KeAt H' ke d0 d1 d2 L ∧ H' ly = some (.lst (l.map V.str)) ∧ LJ (ts.map (·.1)) L ∧ (L.k = (i : Int) ∧ L.e = e) ∧ (T5 (C5.mk xRanked xOldest xFirst xHalving xFarthest) ys w5).inv (ts.map (·.1)) n (proj (C5.mk xRanked xOldest xFirst xHalving xFarthest) ys w5 L) l ∧ l.Nodup ∧ (∀ u ∈ l, u ∈ ts.map (·.1)) ∧ (i = 0 → L.ta = []))
    ⟨l50 e, [], none, none, none, by show _ = [_, _, _, _, _, _, _, _, some (V.int (n - 0)), _, _, _]; rw [Int.sub_zero], hrd2, ha2, hh2, hke2, gly, lj0 he1 he2, ⟨rfl, rfl⟩, inv50 he1 he2, List.nodup_nil, by simp, fun _ => rfl⟩
    (fun i σ H' _ h_ => by obtain ⟨_, _, _, _, _, _, _, h, _⟩ := h_; exact SqL.of h) ?_ ?_
  · clear hrest hrd2 ha2 hh2 hke2 gly
    rintro i u σ H' t hu ⟨L, l, v9, v10, v11, rfl, hrd, ha, hh, hke, hly, hL, hLk, hinv, hnd, hsub, hta0⟩ ht
    rw [List.getElem?_map] at hu
    cases hz : ys[i]? with
    | none => rw [hz] at hu; cases hu
    | some z =>
    rw [hz] at hu
    cases hu
    have hi := (List.getElem?_eq_some_iff.mp hz).1
    have hzm := List.mem_of_getElem? hz
    have hzn := hin z hzm
    have hlk := hLk.1
    have smt : Same H' (upd H' t (.tup [V.int i, V.str z])) := Same.new ht
    have htt : upd H' t (.tup [V.int i, V.str z]) t = some (.tup [V.int i, V.str z]) := upd_same
    generalize upd H' t (.tup [V.int i, V.str z]) = H3 at smt htt ⊢
    have hrd3 := smt _ _ hrd
    have ha3 := smt _ _ ha
    have hh3 := at_same smt hh
    have hke3 := hke.same smt
    have hly3 := smt _ _ hly
    clear smt hrd ha hh hke hly ht
    walk_at "go"
    refine ⟨_, SqT.of htt, rfl, _, _, rfl, _, _, rfl, rfl, ?_⟩
    walk_at "go"
    refine ⟨d0, d1, d2, L, by omega, hLk.2.symm, hke3, _, hL, hnsl, hzn, fun h => hta0 (by omega), fun H4 kp4 hke4 => ?_⟩
    have nd0 := nM d0 (by simp)
    have nd2 := nM d2 (by simp)
    have hh4 : (T5 (C5.mk xRanked xOldest xFirst xHalving xFarthest) ys w5).At H4 M q' p n (proj (C5.mk xRanked xOldest xFirst xHalving xFarthest) ys w5 L) := (T5 (C5.mk xRanked xOldest xFirst xHalving xFarthest) ys w5).dep (fun m hm o e => kp4 _ _ (fun h => by
      simp only [List.mem_cons, List.not_mem_nil, or_false] at h
      rcases h with z | z
      · exact nd0 (by rw [← z]; exact hm)
      · exact nd2 (by rw [← z]; exact hm)) e) hh3
    have hrd4 := kp4 _ _ (by simp [nrk d0 (by simp), nrk d2 (by simp)]) hrd3
    have ha4 := kp4 _ _ (by simp [nak d0 (by simp), nak d2 (by simp)]) ha3
    have hly4 := kp4 _ _ (by simp [(nlk d0 (by simp)).symm, (nlk d2 (by simp)).symm]) hly3
    clear hrd3 ha3 hh3 hke3 hly3 kp4 htt
    obtain ⟨dx, fs, ho, hno⟩ := obj5 hh4
    rename_i rest hrest
    subst hrest
    walk_at "go"
    refine ⟨w5, dx, fs, ho, hno _ (by simp), ys, by omega, p, n, M, _, hh4, l, _, hinv, hzn, hnsl, fun H5 kp5 hh5' => ?_⟩
    have hh5 : (T5 (C5.mk xRanked xOldest xFirst xHalving xFarthest) ys w5).At H5 M q' p n (proj (C5.mk xRanked xOldest xFirst xHalving xFarthest) ys w5 (L.ask z)) := by rw [← p_ask (n := n)]; exact hh5'
    have hke5 := hke4.kp kp5 nM
    have hrd5 := kp5 _ _ hrdM hrd4
    have ha5 := kp5 _ _ haM ha4
    have hly5 := kp5 _ _ nly hly4
    have hL5 := hL.ask hzn
    have hk5 : (L.ask z).k = ((i + 1 : Nat) : Int) ∧ (L.ask z).e = e := ⟨by show L.k + 1 = _; omega, hLk.2⟩
    have hhit : z ∈ l → (T5 (C5.mk xRanked xOldest xFirst xHalving xFarthest) ys w5).inv (ts.map (·.1)) n (proj (C5.mk xRanked xOldest xFirst xHalving xFarthest) ys w5 (L.ask z)) l := fun h => by rw [← p_ask (n := n)]; exact (T5 (C5.mk xRanked xOldest xFirst xHalving xFarthest) ys w5).i_hit hinv hzn h
    have hmid : z ∉ l → (T5 (C5.mk xRanked xOldest xFirst xHalving xFarthest) ys w5).mid (ts.map (·.1)) n z (proj (C5.mk xRanked xOldest xFirst xHalving xFarthest) ys w5 (L.ask z)) l := fun h => by rw [← p_ask (n := n)]; exact (T5 (C5.mk xRanked xOldest xFirst xHalving xFarthest) ys w5).i_mid hinv hzn h
    clear hh5' hke4 hrd4 ha4 hly4 hh4 kp5 ho hno hinv hL hLk hta0
    generalize hLL : L.ask z = Lz at hh5 hke5 hL5 hk5 hhit hmid
    clear hLL
    have hk51 := hk5.1
    rename_i rest hrest
    subst hrest
    walk_at "go"
    rename_i rest hrest
    have key : ∀ H6, Same H5 H6 → rest [some (V.ref q'), some (V.int w5.i), some (V.ref a), some (V.ref rd), some (V.int n), some (V.int e), some (V.ref ke), some (V.ref ly), some (V.int (n - N41.sm (rm ts) l)), some (V.int (i : Int)), some (V.str z), v11] H6 := by
      intro H6 sm6
      have hh6 := at_same sm6 hh5
      have hke6 := hke5.same sm6
      have hrd6 := sm6 _ _ hrd5
      have ha6 := sm6 _ _ ha5
      have hly6 := sm6 _ _ hly5
      clear hh5 hke5 hrd5 ha5 hly5 sm6
      subst hrest
      walk_at "go"
      refine ⟨_, hrd6, fun l1 hl1 => ?_⟩
      rw [rmK_strs]
      have sm7 : Same H6 (upd H6 l1 (.lst ((ts.map (·.1)).map V.str))) := Same.new hl1
      have hl7 : upd H6 l1 (.lst ((ts.map (·.1)).map V.str)) l1 = some (.lst ((ts.map (·.1)).map V.str)) := upd_same
      generalize upd H6 l1 (.lst ((ts.map (·.1)).map V.str)) = H7 at sm7 hl7 ⊢
      refine ⟨w5, rfl, p, d0, d1, d2, l1, M, n, Lz, by omega, rfl, ys, at_same sm7 hh6, hke6.same sm7, _, hL5, by omega, SqL.of (sm7 _ _ ha6), by omega, _, hl7, fun H8 sm8 => ?_⟩
      have sm68 := sm7.trans sm8
      have hh8 := at_same sm68 hh6
      have hke8 := hke6.same sm68
      have hrd8 := sm68 _ _ hrd6
      have ha8 := sm68 _ _ ha6
      have hly8 := sm68 _ _ hly6
      clear hh6 hke6 hrd6 ha6 hly6 sm68 sm7 sm8 hl1 hl7
      have hRz := rmK_val nd hzn
      have hzn' := hzn
      rename_i rest hrest
      subst hrest
      walk_at "go"
      rename_i rest hrest
      refine while_d (m0 := l.length) (fun m σ H9 => ∃ (l' : List Str) (w11 : Option V), σ = [some (V.ref q'), some (V.int w5.i), some (V.ref a), some (V.ref rd), some (V.int n), some (V.int e), some (V.ref ke), some (V.ref ly), some (V.int (n - N41.sm (rm ts) l')), some (V.int (i : Int)), some (V.str z), w11] ∧ H9 rd = some (.dK (N20.rmK ts)) ∧ H9 a = some (.lst (ys.map V.str)) ∧ (T5 (C5.mk xRanked xOldest xFirst xHalving xFarthest) ys w5).At H9 M q' p n (proj (C5.mk xRanked xOldest xFirst xHalving xFarthest) ys w5 Lz) ∧ KeAt H9 ke d0 d1 d2 Lz ∧ H9 ly = some (.lst (l'.map V.str)) ∧ (z ∈ l' → (T5 (C5.mk xRanked xOldest xFirst xHalving xFarthest) ys w5).inv (ts.map (·.1)) n (proj (C5.mk xRanked xOldest xFirst xHalving xFarthest) ys w5 Lz) l') ∧ (z ∉ l' → (T5 (C5.mk xRanked xOldest xFirst xHalving xFarthest) ys w5).mid (ts.map (·.1)) n z (proj (C5.mk xRanked xOldest xFirst xHalving xFarthest) ys w5 Lz) l') ∧ l'.Nodup ∧ (∀ u ∈ l', u ∈ ts.map (·.1)) ∧ m = l'.length) ⟨l, v11, rfl, hrd8, ha8, hh8, hke8, hly8, hhit, hmid, hnd, hsub, rfl⟩ ?_
      clear hrd8 ha8 hh8 hke8 hly8 hhit hmid hnd hsub
      rintro m' σ H9 ⟨l', w11, rfl, hrd9, ha9, hh9, hke9, hly9, hhit9, hmid9, hnd9, hsub9, rfl⟩
      have hll9 := nd_len hnd9 hsub9
      have hRz9 := hrm z hzm
      walk_at "go"
      refine notin_go (SqL.of hly9) ?_
      by_cases hzl : z ∈ l'
      · refine ⟨_, rfl, ?_⟩
        rw [if_neg (by simp [hzl])]
        subst hrest
        walk_at "go"
        refine notin_go (SqL.of hly9) ?_
        rw [decide_eq_true hzl]
        refine ⟨_, rfl, ?_⟩
        rw [if_neg (by decide)]
        exact ⟨Lz, l', rfl, hrd9, ha9, hh9, hke9, hly9, hL5, hk5.1, hk5.2, hhit9 hzl, hnd9, hsub9⟩
      · refine ⟨_, rfl, ?_⟩
        rw [if_pos (by simp [hzl])]
        refine ⟨_, by rw [← hRz]; exact DGet.k (k := Sum.inr z) hrd9, _, rfl, ?_⟩
        have hmid := hmid9 hzl
        by_cases hlt : rm ts z ≤ n - N41.sm (rm ts) l'
        · rw [if_neg (by omega)]
          subst hrest
          walk_at "go"
          refine notin_go (SqL.of hly9) ?_
          rw [decide_eq_false hzl]
          refine ⟨_, rfl, ?_⟩
          rw [if_pos (by decide)]
          walk_at "go"
          refine ⟨.inl ⟨rfl, _, SqL.of hly9⟩, ly, _, _, rfl, rfl, hly9, by rw [List.length_map]; omega, ?_⟩
          rw [show l'.map V.str ++ [V.str z] = (l' ++ [z]).map V.str by rw [List.map_append]; rfl]
          have sb10 : SameBut ly H9 (upd H9 ly (.lst ((l' ++ [z]).map V.str))) := fun b o e nb => by rw [upd_ne nb]; exact e
          have hly10 : upd H9 ly (.lst ((l' ++ [z]).map V.str)) ly = some (.lst ((l' ++ [z]).map V.str)) := upd_same
          generalize upd H9 ly (.lst ((l' ++ [z]).map V.str)) = H10 at sb10 hly10 ⊢
          have hh10 := at_but sb10 nly hh9
          have hrd10 := sb10 _ _ hrd9 nrl
          have ha10 := sb10 _ _ ha9 nal
          have hke10 : KeAt H10 ke d0 d1 d2 Lz := ⟨sb10 _ _ hke9.1 (nlk ke (by simp)), sb10 _ _ hke9.2.1 (nlk d0 (by simp)), sb10 _ _ hke9.2.2.1 (nlk d1 (by simp)), sb10 _ _ hke9.2.2.2.1 (nlk d2 (by simp)), hke9.2.2.2.2⟩
          clear sb10 hly9 hh9 hrd9 ha9 hke9
          obtain ⟨dx9, fs9, ho9, hno9⟩ := obj5 hh10
          rename_i rest hrest
          subst hrest
          walk_at "go"
          refine ⟨_, by rw [← hRz]; exact DGet.k (k := Sum.inr z) hrd10, _, rfl, ?_⟩
          rename_i rest hrest
          subst hrest
          walk_at "go"
          refine ⟨w5, dx9, fs9, ho9, hno9 _ (by simp), ys, by omega, p, n, M, _, hh10, l', _, hmid, hzn, hzl, hnsl, fun H11 kp11 hh11' => ?_⟩
          have hh11 : (T5 (C5.mk xRanked xOldest xFirst xHalving xFarthest) ys w5).At H11 M q' p n (proj (C5.mk xRanked xOldest xFirst xHalving xFarthest) ys w5 (Lz.came z)) := by rw [← p_came (n := n)]; exact hh11'
          have hke11 := hke10.kp kp11 nM
          have hrd11 := kp11 _ _ hrdM hrd10
          have ha11 := kp11 _ _ haM ha10
          have hly11 := kp11 _ _ nly hly10
          clear hh11' hke10 hrd10 ha10 hly10 hh10 kp11 ho9 hno9
          have hpl := hL5.pu.k.len
          have hlp := length_putK Lz.pu (Sum.inr z : Key) (V.int Lz.k)
          rename_i rest hrest
          subst hrest
          walk_at "go"
          refine ixL_of (SqL.of hke11.1) (v := V.ref d1) rfl ⟨d1, rfl, _, DPut.k (k := Sum.inr z) hke11.2.2.1 (by omega), ?_⟩
          rw [show (i : Int) + 1 = Lz.k by omega]
          have nd1 := nM d1 (by simp)
          have sb12 : SameBut d1 H11 (upd H11 d1 (.dK (putK Lz.pu (Sum.inr z) (.int Lz.k)))) := fun b o e nb => by rw [upd_ne nb]; exact e
          have nk1 : ke ≠ d1 := ne_of hke11.1 hke11.2.2.1 (by intro z; cases z)
          have hkc := hke11.2.2.2.2
          refine ⟨Lz.came z, l' ++ [z], by rw [N41.sm_app, N41.sm_cons, N41.sm_nil]; omega, sb12 _ _ hrd11 (nrk d1 (by simp)), sb12 _ _ ha11 (nak d1 (by simp)), at_but sb12 nd1 hh11, ⟨sb12 _ _ hke11.1 nk1, sb12 _ _ hke11.2.1 hkc.1, upd_same, sb12 _ _ hke11.2.2.2.1 hkc.2.2.symm, hkc⟩, sb12 _ _ hly11 (nlk d1 (by simp)).symm, hL5.came hzn, hk5.1, hk5.2, ?_, ?_, ?_⟩
          · rw [← p_came (n := n)]; exact (T5 (C5.mk xRanked xOldest xFirst xHalving xFarthest) ys w5).i_came hmid hzn hzl
          · exact List.nodup_append.mpr ⟨hnd9, List.nodup_cons.mpr ⟨by simp, List.nodup_nil⟩, fun x hx y hy e => by rw [List.mem_singleton] at hy; rw [hy] at e; exact hzl (e ▸ hx)⟩
          · intro u hu
            rcases List.mem_append.mp hu with h | h
            · exact hsub9 u h
            · rw [List.mem_singleton.mp h]; exact hzn
        · rw [if_pos (by omega)]
          clear hrest
          refine ⟨_, fun σ' H7 h => h, ?_⟩
          have hne : l' ≠ [] := fun e => hlt (by rw [e, N41.sm_nil]; omega)
          obtain ⟨dx9, fs9, ho9, hno9⟩ := obj5 hh9
          walk_at "go"
          refine ⟨w5, dx9, fs9, ho9, hno9 _ (by simp), _, .inl (SqL.of hly9), fun c1 hc1 => ?_⟩
          have sm10 : Same H9 (upd H9 c1 (.lst (l'.map V.str))) := Same.new hc1
          have hc10 : upd H9 c1 (.lst (l'.map V.str)) c1 = some (.lst (l'.map V.str)) := upd_same
          have ncM : c1 ∉ M := fun h => RuleT.live _ hh9 c1 h hc1
          generalize upd H9 c1 (.lst (l'.map V.str)) = H10 at sm10 hc10 ⊢
          have hh10 := at_same sm10 hh9
          have hke10 := hke9.same sm10
          have hrd10 := sm10 _ _ hrd9
          have ha10 := sm10 _ _ ha9
          have hly10 := sm10 _ _ hly9
          refine ⟨ys, by omega, p, n, M, _, hh10, l', _, z, hmid, hL5.tj (by omega), hne, hc10, ncM, hnsl, by omega, fun H11 kp11 hh11 => ?_⟩
          obtain ⟨hpk, hmid2⟩ := (T5 (C5.mk xRanked xOldest xFirst xHalving xFarthest) ys w5).i_pick hmid hne
          have hke11 := hke10.kp kp11 nM
          have hrd11 := kp11 _ _ hrdM hrd10
          have ha11 := kp11 _ _ haM ha10
          have hly11 := kp11 _ _ nly hly10
          have hh11p : (T5 (C5.mk xRanked xOldest xFirst xHalving xFarthest) ys w5).At H11 M q' p n (proj (C5.mk xRanked xOldest xFirst xHalving xFarthest) ys w5 Lz) := by rw [← p_pick (n := n) (l := l')]; exact hh11
          clear hh10 hke10 hrd10 ha10 hly10 kp11 hc10 sm10 hc1 hh9 hke9 hrd9 ha9 hly9 ho9 hno9 hh11
          rename_i rest hrest
          subst hrest
          walk_at "go"
          refine ⟨w5, p, ly, M, n, Lz, ys, ts.map (·.1), l', rfl, rfl, hh11p, z, hmid, hL5, by omega, by omega, hne, hly11, fun H12 sm12 => ?_⟩
          have hke12 := hke11.same sm12
          have hrd12 := sm12 _ _ hrd11
          have ha12 := sm12 _ _ ha11
          have hly12 := sm12 _ _ hly11
          have hh12 := at_same sm12 hh11p
          clear hke11 hrd11 ha11 hly11 hh11p sm12
          have hpn := hsub9 _ hpk
          have hRp := rmK_val nd hpn
          have hsm := N41.sm_erase (f := rm ts) hpk
          have hel := List.length_erase_of_mem hpk
          have hl0 : 0 < l'.length := List.length_pos_of_mem hpk
          rw [p_gone' p_pick] at hmid2
          have hpe : ((T5 (C5.mk xRanked xOldest xFirst xHalving xFarthest) ys w5).pick n (proj (C5.mk xRanked xOldest xFirst xHalving xFarthest) ys w5 Lz) l').2 = ((T5 (C5.mk xRanked xOldest xFirst xHalving xFarthest) ys w5).pick n (proj (C5.mk xRanked xOldest xFirst xHalving xFarthest) ys w5 Lz) l').2 ∧ True := ⟨rfl, trivial⟩
          rename_i rest hrest
          subst hrest
          walk_at "go"
          refine ⟨.inl ⟨rfl, _, SqL.of hly12⟩, l', hly12, hpk, ?_⟩
          have sb13 : SameBut ly H12 (upd H12 ly (.lst ((l'.erase ((T5 (C5.mk xRanked xOldest xFirst xHalving xFarthest) ys w5).pick n (proj (C5.mk xRanked xOldest xFirst xHalving xFarthest) ys w5 Lz) l').2).map V.str))) := fun b o e nb => by rw [upd_ne nb]; exact e
          have hly13 : upd H12 ly (.lst ((l'.erase ((T5 (C5.mk xRanked xOldest xFirst xHalving xFarthest) ys w5).pick n (proj (C5.mk xRanked xOldest xFirst xHalving xFarthest) ys w5 Lz) l').2).map V.str)) ly = some (.lst ((l'.erase ((T5 (C5.mk xRanked xOldest xFirst xHalving xFarthest) ys w5).pick n (proj (C5.mk xRanked xOldest xFirst xHalving xFarthest) ys w5 Lz) l').2).map V.str)) := upd_same
          generalize upd H12 ly (.lst ((l'.erase ((T5 (C5.mk xRanked xOldest xFirst xHalving xFarthest) ys w5).pick n (proj (C5.mk xRanked xOldest xFirst xHalving xFarthest) ys w5 Lz) l').2).map V.str)) = H13 at sb13 hly13 ⊢
          have hh13 := at_but sb13 nly hh12
          have hrd13 := sb13 _ _ hrd12 nrl
          have ha13 := sb13 _ _ ha12 nal
          have hke13 : KeAt H13 ke d0 d1 d2 Lz := ⟨sb13 _ _ hke12.1 (nlk ke (by simp)), sb13 _ _ hke12.2.1 (nlk d0 (by simp)), sb13 _ _ hke12.2.2.1 (nlk d1 (by simp)), sb13 _ _ hke12.2.2.2.1 (nlk d2 (by simp)), hke12.2.2.2.2⟩
          clear sb13 hly12 hh12 hrd12 ha12 hke12
          obtain ⟨dx13, fs13, ho13, hno13⟩ := obj5 hh13
          rename_i rest hrest
          subst hrest
          walk_at "go"
          refine ⟨_, by rw [← hRp]; exact DGet.k (k := Sum.inr _) hrd13, _, rfl, ?_⟩
          rename_i rest hrest
          subst hrest
          walk_at "go"
          refine ⟨w5, dx13, fs13, ho13, hno13 _ (by simp), ys, by omega, p, n, M, proj (C5.mk xRanked xOldest xFirst xHalving xFarthest) ys w5 Lz, l', rfl, by rw [p_pick]; exact hh13, ts.map (·.1), z, hmid, hne, hnsl, fun H14 kp14 hh14' => ?_⟩
          rw [p_gone' p_pick] at hh14'
          refine ⟨(l'.erase ((T5 (C5.mk xRanked xOldest xFirst xHalving xFarthest) ys w5).pick n (proj (C5.mk xRanked xOldest xFirst xHalving xFarthest) ys w5 Lz) l').2).length, by omega, l'.erase ((T5 (C5.mk xRanked xOldest xFirst xHalving xFarthest) ys w5).pick n (proj (C5.mk xRanked xOldest xFirst xHalving xFarthest) ys w5 Lz) l').2, by omega, kp14 _ _ hrdM hrd13, kp14 _ _ haM ha13, hh14', hke13.kp kp14 nM, kp14 _ _ nly hly13, fun h => absurd (List.mem_of_mem_erase h) hzl, fun _ => hmid2, hnd9.erase _, fun u hu => hsub9 u (List.mem_of_mem_erase hu), rfl⟩
    clear hrest
    have hflat : ∀ p ∈ Lz.ta, flatV p.2 = true := fun p hp => by
      obtain ⟨j, hj⟩ := hL5.ta.int (List.mem_map.mpr ⟨p, hp, rfl⟩)
      rw [hj]; rfl
    cases w5 with
    | ra => rw [if_neg (by decide)]; exact key H5 (Same.refl H5)
    | ol => rw [if_neg (by decide)]; exact key H5 (Same.refl H5)
    | fi => rw [if_neg (by decide)]; exact key H5 (Same.refl H5)
    | fa => rw [if_neg (by decide)]; exact key H5 (Same.refl H5)
    | ha =>
      rw [if_pos (by decide)]
      have hg : GAt xHalving H5 M q' p n ⟨⟨Lz.k, Lz.la⟩, Lz.ta, Lz.e⟩ := hh5
      obtain ⟨la, ta, hM0, ⟨dx, ho⟩, hx⟩ := id hg
      clear hM0 hx
      refine ⟨dx, _, ho, by rfl, p, n, M, _, hg, fun r hr => ?_⟩
      have smr : Same H5 (upd H5 r (.dK Lz.ta)) := Same.new hr
      exact ixL_of (SqL.of (smr _ _ hke5.1)) (v := V.ref d2) rfl ⟨d2, rfl, _, upd_same, smr _ _ hke5.2.2.2.1, hflat, key _ smr⟩
  · rintro σ H' ⟨L, l, v9, v10, v11, rfl, hrd, ha, hh, hke, hly, hL, hLk, hinv, hnd, hsub, hta0⟩
    subst hrest
    walk_at "go"
    exact q _
theorem ok_law {f : Addr} {fd : FuncData} (F : Fun K "law" "law" s_law f fd) (T : Txt K mg xStock xRule xRanked xOldest xFirst xHalving xFarthest) (D_l_cell : Def P w K mg base CX0 1 "_law_cell" ["_law_script", "_law_k"] (sp_cell K)) (D_l_rows : Def P w K mg base CX0 2 "_law_rows" ["_law_script"] (sp20_rows K)) (D_l_places : Def P w K mg base CX0 1 "_law_places" ["_law_rows_here", "_law_cell_here"] (sp20_places K)) (D_l_asks : Def P w K mg base CX0 2 "_law_asks" ["_law_script", "_law_rows_here"] (sp20_asks K)) (D_l_rooms : Def P w K mg base CX0 1 "_law_rooms" ["_law_rows_here"] (sp20_rooms K)) (D_Stock_init : DefI P w K mg base CX0 4 "Stock" xStock ["self", "rows"] (sp_initG K xStock)) (D_l_made : Def P w K mg base CX0 8 "_law_made" ["_law_which", "_law_stock", "_law_places_here", "_law_asks_here", "_law_turn"] (sp29_made (C5.mk xRanked xOldest xFirst xHalving xFarthest) K xStock)) (D_l_all_ranks : Def P w K mg base CX0 3 "_law_all_ranks" ["_law_rule", "_law_which", "_law_kept", "_law_asks_here", "_law_now", "_law_names_here"] (sp29_all (C5.mk xRanked xOldest xFirst xHalving xFarthest) K)) (D_l_led : Def P w K mg base CX0 5 "_law_led" ["_law_rule", "_law_which", "_law_asks_here", "_law_rooms_here", "_law_places_here", "_law_turn"] (sp29_led (C5.mk xRanked xOldest xFirst xHalving xFarthest) K)) : FnOk P w K mg base CX0 9 f fd ["_law_script"] (sp_law K) := by
  have sc : FnScope ["_law_script", "_law_rows_here", "_law_rooms_here", "_law_places_here", "_law_asks_here", "_law_turn", "_law_stock", "_law_which", "_law_rule"] ["_law_script"] (defScope s_law) := ⟨rfl, rfl, rfl, by decide +kernel, rfl, by decide +kernel, by decide +kernel⟩
  refine F.ok sc (fun vs H Q E h => ?_) (fun cdv A outer s H vs Q E hr h => ?_)
  · obtain ⟨a, ns, rfl, hS, hl, q⟩ := h; rfl
  obtain ⟨a, ns, rfl, hS, hl, q⟩ := h
  refine ⟨_, (@pss_cons _ _ _ _ _ (ps_set (i := 1) sc.nd rfl (Or.inl rfl) (pe_callD D_l_rows hr rfl pass0 (pa_cons (pv 0) pa_nil)))
    (@pss_cons _ _ _ _ _ (ps_set (i := 2) sc.nd rfl (Or.inl rfl) (pe_callD D_l_rooms hr rfl pass0 (pa_cons (pv 1) pa_nil)))
    (@pss_cons _ _ _ _ _ (ps_set (i := 3) sc.nd rfl (Or.inl rfl) (pe_callD D_l_places hr rfl pass0 (pa_cons (pv 1) (pa_cons (pe_callD D_l_cell hr rfl pass0 (pa_cons (pv 0) (pa_cons pe_int pa_nil))) pa_nil))))
    (@pss_cons _ _ _ _ _ (ps_set (i := 4) sc.nd rfl (Or.inl rfl) (pe_slice sl_list (pe_callD D_l_asks hr rfl pass0 (pa_cons (pv 0) (pa_cons (pv 1) pa_nil))) po_none (po_some pe_int)))
    (@pss_cons _ _ _ _ _ (ps_set (i := 5) sc.nd rfl (Or.inl rfl) (pe_op op_add pe_int (pe_op op_mod (pe_callD D_l_cell hr rfl pass0 (pa_cons (pv 0) (pa_cons pe_int pa_nil))) pe_int)))
    (@pss_cons _ _ _ _ _ (ps_set (i := 6) sc.nd rfl (Or.inl rfl) (pe_makeS D_Stock_init hr rfl (passS pass0) (pa_cons (pe_callTy call_list_of rfl T.z_list (by first | rfl | decide +kernel) (pa_cons (pv 1) pa_nil)) pa_nil)))
    (@pss_cons _ _ _ _ _ (ps_set (i := 7) sc.nd rfl (Or.inl rfl) (pe_op op_mod (pe_callD D_l_cell hr rfl pass0 (pa_cons (pv 0) (pa_cons pe_int pa_nil))) pe_int))
    (@pss_cons _ _ _ _ _ (ps_set (i := 8) sc.nd rfl (Or.inl rfl) (pe_callD D_l_made hr rfl pass0 (pa_cons (pv 7) (pa_cons (pv 6) (pa_cons (pv 3) (pa_cons (pe_callTy call_list_of rfl T.z_list (by first | rfl | decide +kernel) (pa_cons (pv 4) pa_nil)) (pa_cons (pv 5) pa_nil)))))))
    (@pss_cons _ _ _ _ _ (ps_if (pt_not (pt_val (pe_callD D_l_all_ranks hr rfl pass0 (pa_cons (pv 8) (pa_cons (pv 7) (pa_cons (@pe_lst _ _ _ _ (pa_cons pe_dnewK (pa_cons pe_dnewK (pa_cons pe_dnewK pa_nil)))) (pa_cons (pv 4) (@pa_consK _ _ _ _ _ _ _ pe_int (pa_cons (pe_callTy (call_listD rfl) rfl T.z_list (by first | rfl | decide +kernel) (pa_cons (pv 2) pa_nil)) pa_nil)))))))))
      (@pss_one _ _ _ (@ps_ret _ _ _ _ pe_bl))
      pss_nil)
    (@pss_one _ _ _ (@ps_ret _ _ _ _ (pe_callD D_l_led hr rfl pass0 (pa_cons (pv 8) (pa_cons (pv 7) (pa_cons (pv 4) (pa_cons (pv 2) (pa_cons (pv 3) (pa_cons (pv 5) pa_nil)))))))))))))))))), ?_⟩
  rw [show start ["_law_script", "_law_rows_here", "_law_rooms_here", "_law_places_here", "_law_asks_here", "_law_turn", "_law_stock", "_law_which", "_law_rule"] [V.ref a] = [some (V.ref a), none, none, none, none, none, none, none, none] from rfl]
  have line := line_val
  walk_at "go"
  intro r as ts H1 sm1 hr1 hR1 ht1
  have hS1 := sm1.seq hS
  have htl := hR1.m
  rename_i rest hrest
  subst hrest
  walk_at "go"
  refine ⟨as, ts, hR1, fun e H2 sm2 he => ?_⟩
  have hR2 := hR1.same sm2
  have hr2 := sm2 _ _ hr1
  have hS2 := sm2.seq hS1
  clear hR1 hr1 hS1
  rename_i rest hrest
  subst hrest
  walk_at "go"
  refine ⟨as, ts, hR2, ht1, fun n H3 sm3 hn1 hn2 hnt => ?_⟩
  have hR3 := hR2.same sm3
  have hr3 := sm3 _ _ hr2
  have hS3 := sm3.seq hS2
  have he3 := sm3 _ _ he
  clear hR2 hr2 hS2 he
  rename_i rest hrest
  subst hrest
  walk_at "go"
  refine ⟨as, ts, hR3, ht1, fun ap ys' H4 sm4 hap hyl hyin => ?_⟩
  have hR4 := hR3.same sm4
  have hr4 := sm4 _ _ hr3
  have he4 := sm4 _ _ he3
  have hS4 := sm4.seq hS3
  have nd := hR4.nd
  have hrm' : ∀ y ∈ ys', rm ts y ≤ n := fun y hy => by
    obtain ⟨i, t, ht, rfl⟩ := mem_nth (hyin y hy)
    rw [rm_at nd ht]
    exact hnt t (List.mem_of_getElem? ht)
  clear hR3 hr3 hS3 he3 sm1 sm2 sm3 sm4 hnt
  refine ⟨_, SqL.of hap, fun aq haq => ?_⟩
  rw [cut_60]
  have hyin2 : ∀ y ∈ ys'.take 60, y ∈ ts.map (·.1) := fun y hy => hyin y (List.mem_of_mem_take hy)
  have hrm2 : ∀ y ∈ ys'.take 60, rm ts y ≤ n := fun y hy => hrm' y (List.mem_of_mem_take hy)
  have hyl2 : (ys'.take 60).length ≤ 60 := by rw [List.length_take]; omega
  generalize ys'.take 60 = ys at hyin2 hrm2 hyl2 ⊢
  have sm5 : Same H4 (upd H4 aq (.lst (ys.map V.str))) := Same.new haq
  have ha5 : upd H4 aq (.lst (ys.map V.str)) aq = some (.lst (ys.map V.str)) := upd_same
  generalize upd H4 aq (.lst (ys.map V.str)) = H5 at sm5 ha5 ⊢
  have hR5 := hR4.same sm5
  have he5 := sm5 _ _ he4
  have hS5 := sm5.seq hS4
  clear hR4 hr4 he4 hS4 sm5 haq hap hyin hrm' hyl
  rename_i rest hrest
  subst hrest
  walk_at "go"
  have hev1 : 1 ≤ 1 + ns.getD 7 0 % 9 := by omega
  have hev2 : 1 + ns.getD 7 0 % 9 ≤ 200 := by omega
  generalize 1 + ns.getD 7 0 % 9 = ev at hev1 hev2 ⊢
  refine ⟨_, .inl hR5.l, fun D hD => ?_⟩
  have smD : Same H5 (upd H5 D (.lst (as.map V.ref))) := Same.new hD
  have hDD : upd H5 D (.lst (as.map V.ref)) D = some (.lst (as.map V.ref)) := upd_same
  generalize upd H5 D (.lst (as.map V.ref)) = H6 at smD hDD ⊢
  have hR6 := hR5.same smD
  have hRD : RowsAt K H6 D as ts := ⟨SqL.of hDD, hR6.n, hR6.m, hR6.at_, hR6.ok, hR6.nd⟩
  obtain ⟨rws, e1, e2, e3, e4⟩ := hRD.init
  intro st dx hst hdx ne1
  have smx : Same H6 (upd (upd H6 dx (.own st)) st (.ins xStock dx [])) := fun b o e => by rw [upd_ne (ne_of_none e hst), upd_ne (ne_of_none e hdx)]; exact e
  refine ⟨dx, upd_same, rws, by rw [e1]; exact smx.seq hRD.l, fun t ht => smx.tup (e2 t ht), e3, fun H7 sb7 stk => ?_⟩
  rw [e4] at stk
  have sm67 : Same H6 H7 := same_made hst hdx sb7
  have sm57 : Same H5 H7 := smD.trans sm67
  clear smx hRD e1 e2 e3 e4 sb7 hst hdx ne1 smD hD hR6 hDD sm67 hR5
  have ha7 := sm57 _ _ ha5
  have he7 := sm57 _ _ he5
  have hS7 := sm57.seq hS5
  clear ha5 he5 hS5 sm57
  rename_i rest hrest
  subst hrest
  walk_at "go"
  obtain ⟨w5, hw5⟩ := w5_of (ns.getD 6 0)
  rw [hw5]
  rename_i rest hrest
  subst hrest
  walk_at "go"
  refine ⟨_, .inl (SqL.of ha7), fun ea hea => ?_⟩
  have sme : Same H7 (upd H7 ea (.lst (ys.map V.str))) := Same.new hea
  have hea8 : upd H7 ea (.lst (ys.map V.str)) ea = some (.lst (ys.map V.str)) := upd_same
  generalize upd H7 ea (.lst (ys.map V.str)) = H8 at sme hea8 ⊢
  have ha8 := sme _ _ ha7
  have he8 := sme _ _ he7
  refine ⟨w5, rfl, ts, stk.same sme, nd, ys, hea8, by omega, hyin2, hrm2, hn1, hn2, hev1, hev2, fun qh M H9 sm9 hM hh => ?_⟩
  have ha9 := sm9 _ _ ha8
  have he9 := sm9 _ _ he8
  have hkk : (l50 ev).k = 0 := rfl
  have haM : aq ∉ M := fun h => by have := hM aq h; rw [ha8] at this; cases this
  have heM : e ∉ M := fun h => by have := hM e h; rw [he8] at this; cases this
  clear ha7 he7 hS7 hea hea8 sme ha8 he8 stk
  walk_at "go"
  intro d0 h0 d1 h1 d2 h2
  refine ⟨by omega, fun ke h3 => ?_⟩
  obtain ⟨smk, hke, hfr⟩ := ke_new (e := ev) h0 h1 h2 h3
  generalize upd (upd (upd (upd H9 d0 (.dK [])) d1 (.dK [])) d2 (.dK [])) ke (.lst [.ref d0, .ref d1, .ref d2]) = H10 at smk hke ⊢
  clear h0 h1 h2 h3
  have he10 := smk _ _ he9
  refine ⟨_, he10, fun l1 hl1 => ?_⟩
  rw [rmK_strs]
  have sm11 : Same H10 (upd H10 l1 (.lst ((ts.map (·.1)).map V.str))) := Same.new hl1
  have hl11 : upd H10 l1 (.lst ((ts.map (·.1)).map V.str)) l1 = some (.lst ((ts.map (·.1)).map V.str)) := upd_same
  generalize upd H10 l1 (.lst ((ts.map (·.1)).map V.str)) = H11 at sm11 hl11 ⊢
  have sm911 := smk.trans sm11
  refine ⟨w5, rfl, st, d0, d1, d2, l1, M, n, l50 ev, rfl, rfl, ys, at_same sm911 hh, hke.same sm11, ts.map (·.1), lj0 hev1 hev2, by omega, SqL.of (sm911 _ _ ha9), by omega, _, hl11, fun H12 sm12 => ?_⟩
  have sm912 := sm911.trans sm12
  rename_i rest hrest
  subst hrest
  walk_at "go"
  refine ⟨w5, rfl, st, M, ts, ys, at_same sm912 hh, sm912 _ _ he9, heM, nd, htl, sm912 _ _ ha9, haM, hyl2, hyin2, hrm2, hev1, hev2, fun H13 => ?_⟩
  exact q _
end
theorem all_mk {l : PySem.W.OpenLaw} {w : World} {K : PySem.W.Frag} {h : Heap} {mg : Str → Option Value} {fa f0 f1 f2 f3 f4 f5 f6 f7 f8 f9 f10 f11 f12 f13 f14 f15 f16 f17 f18 f19 f20 f21 f22 f23 f24 f25 f26 f27 f28 f29 f30 f31 f32 f33 f34 f35 f36 f37 f38 f39 f40 f41 f42 f43 f44 f45 f46 f47 f48 f49 f50 f51 f52 f53 f54 f55 f56 f57 f58 f59 f60 f61 f62 f63 f64 f65 f66 f67 f68 f69 xStock xRule xRanked xOldest xFirst xHalving xFarthest : Addr} (X : K.In h) (G : h.Ns mainGlobals mg) (hfa : mg "law" = some (.ref fa))
    {od0 an0 od1 an1 od2 an2 od3 an3 od4 an4 od5 an5 od6 an6 od7 an7 od8 an8 od9 an9 od10 an10 od11 an11 od12 an12 od13 an13 od14 an14 od15 an15 od16 an16 od17 an17 od18 an18 od19 an19 od20 an20 od21 an21 od22 an22 od23 an23 od24 an24 od25 an25 od26 an26 od27 an27 od28 an28 od29 an29 od30 an30 od31 an31 od32 an32 od33 an33 od34 an34 od35 an35 od36 an36 od37 an37 od38 an38 od39 an39 od40 an40 od41 an41 od42 an42 od43 an43 od44 an44 od45 an45 od46 an46 od47 an47 od48 an48 od49 an49 od50 an50 od51 an51 od52 an52 od53 an53 od54 an54 od55 an55 od56 an56 od57 an57 od58 an58 od59 an59 od60 an60 od61 an61 od62 an62 od63 an63 od64 an64 od65 an65 od66 an66 od67 an67 od68 an68 od69 an69 : Option Addr} {sl0 sl1 sl2 sl3 sl4 sl5 sl6 sl7 sl8 sl9 sl10 sl11 sl12 sl13 sl14 sl15 sl16 sl17 sl18 sl19 sl20 sl21 sl22 sl23 sl24 sl25 sl26 sl27 sl28 sl29 sl30 sl31 sl32 sl33 sl34 sl35 sl36 sl37 sl38 sl39 sl40 sl41 sl42 sl43 sl44 sl45 sl46 sl47 sl48 sl49 sl50 sl51 sl52 sl53 sl54 sl55 sl56 sl57 sl58 sl59 sl60 sl61 sl62 sl63 sl64 sl65 sl66 sl67 sl68 sl69 : Array (Option Value)} {oc0 kV0 dc0 pm0 cd0 ct0 oc1 kV1 dc1 pm1 cd1 ct1 oc2 kV2 dc2 pm2 cd2 ct2 oc3 kV3 dc3 pm3 cd3 ct3 oc4 kV4 dc4 pm4 cd4 ct4 oc5 kV5 dc5 pm5 cd5 ct5 oc6 kV6 dc6 pm6 cd6 ct6 oc7 kV7 dc7 pm7 cd7 ct7 oc8 kV8 dc8 pm8 cd8 ct8 oc9 kV9 dc9 pm9 cd9 ct9 oc10 kV10 dc10 pm10 cd10 ct10 oc11 kV11 dc11 pm11 cd11 ct11 oc12 kV12 dc12 pm12 cd12 ct12 oc13 kV13 dc13 pm13 cd13 ct13 oc14 kV14 dc14 pm14 cd14 ct14 oc15 kV15 dc15 pm15 cd15 ct15 oc16 kV16 dc16 pm16 cd16 ct16 oc17 kV17 dc17 pm17 cd17 ct17 oc18 kV18 dc18 pm18 cd18 ct18 oc19 kV19 dc19 pm19 cd19 ct19 oc20 kV20 dc20 pm20 cd20 ct20 oc21 kV21 dc21 pm21 cd21 ct21 oc22 kV22 dc22 pm22 cd22 ct22 oc23 kV23 dc23 pm23 cd23 ct23 oc24 kV24 dc24 pm24 cd24 ct24 oc25 kV25 dc25 pm25 cd25 ct25 oc26 kV26 dc26 pm26 cd26 ct26 oc27 kV27 dc27 pm27 cd27 ct27 oc28 kV28 dc28 pm28 cd28 ct28 oc29 kV29 dc29 pm29 cd29 ct29 oc30 kV30 dc30 pm30 cd30 ct30 oc31 kV31 dc31 pm31 cd31 ct31 oc32 kV32 dc32 pm32 cd32 ct32 oc33 kV33 dc33 pm33 cd33 ct33 oc34 kV34 dc34 pm34 cd34 ct34 oc35 kV35 dc35 pm35 cd35 ct35 oc36 kV36 dc36 pm36 cd36 ct36 oc37 kV37 dc37 pm37 cd37 ct37 oc38 kV38 dc38 pm38 cd38 ct38 oc39 kV39 dc39 pm39 cd39 ct39 oc40 kV40 dc40 pm40 cd40 ct40 oc41 kV41 dc41 pm41 cd41 ct41 oc42 kV42 dc42 pm42 cd42 ct42 oc43 kV43 dc43 pm43 cd43 ct43 oc44 kV44 dc44 pm44 cd44 ct44 oc45 kV45 dc45 pm45 cd45 ct45 oc46 kV46 dc46 pm46 cd46 ct46 oc47 kV47 dc47 pm47 cd47 ct47 oc48 kV48 dc48 pm48 cd48 ct48 oc49 kV49 dc49 pm49 cd49 ct49 oc50 kV50 dc50 pm50 cd50 ct50 oc51 kV51 dc51 pm51 cd51 ct51 oc52 kV52 dc52 pm52 cd52 ct52 oc53 kV53 dc53 pm53 cd53 ct53 oc54 kV54 dc54 pm54 cd54 ct54 oc55 kV55 dc55 pm55 cd55 ct55 oc56 kV56 dc56 pm56 cd56 ct56 oc57 kV57 dc57 pm57 cd57 ct57 oc58 kV58 dc58 pm58 cd58 ct58 oc59 kV59 dc59 pm59 cd59 ct59 oc60 kV60 dc60 pm60 cd60 ct60 oc61 kV61 dc61 pm61 cd61 ct61 oc62 kV62 dc62 pm62 cd62 ct62 oc63 kV63 dc63 pm63 cd63 ct63 oc64 kV64 dc64 pm64 cd64 ct64 oc65 kV65 dc65 pm65 cd65 ct65 oc66 kV66 dc66 pm66 cd66 ct66 oc67 kV67 dc67 pm67 cd67 ct67 oc68 kV68 dc68 pm68 cd68 ct68 oc69 kV69 dc69 pm69 cd69 ct69 : Value}
    (a0 : PySem.W.nsIn K mainGlobals "made_of" = some (some (.ref f0))) (l0 : K.lookup f0 = some ⟨oc0, od0, .func (PySem.W.fnOf "made_of" "made_of" (defArgs s_made_of) (defBody s_made_of) (defScope s_made_of) .none kV0 dc0 pm0 an0 cd0 ct0), sl0⟩) (c0 : PySem.W.codeIn K cd0 "made_of" = true) (k0 : PySem.W.keepIn K (.ref f0) = true)
    (a1 : PySem.W.nsIn K mainGlobals "is_name" = some (some (.ref f1))) (l1 : K.lookup f1 = some ⟨oc1, od1, .func (PySem.W.fnOf "is_name" "is_name" (defArgs s_is_name) (defBody s_is_name) (defScope s_is_name) .none kV1 dc1 pm1 an1 cd1 ct1), sl1⟩) (c1 : PySem.W.codeIn K cd1 "is_name" = true) (k1 : PySem.W.keepIn K (.ref f1) = true)
    (a2 : PySem.W.nsIn K mainGlobals "is_whole" = some (some (.ref f2))) (l2 : K.lookup f2 = some ⟨oc2, od2, .func (PySem.W.fnOf "is_whole" "is_whole" (defArgs s_is_whole) (defBody s_is_whole) (defScope s_is_whole) .none kV2 dc2 pm2 an2 cd2 ct2), sl2⟩) (c2 : PySem.W.codeIn K cd2 "is_whole" = true) (k2 : PySem.W.keepIn K (.ref f2) = true)
    (a3 : PySem.W.nsIn K mainGlobals "is_within" = some (some (.ref f3))) (l3 : K.lookup f3 = some ⟨oc3, od3, .func (PySem.W.fnOf "is_within" "is_within" (defArgs s_is_within) (defBody s_is_within) (defScope s_is_within) .none kV3 dc3 pm3 an3 cd3 ct3), sl3⟩) (c3 : PySem.W.codeIn K cd3 "is_within" = true) (k3 : PySem.W.keepIn K (.ref f3) = true)
    (a4 : PySem.W.nsIn K mainGlobals "check_places" = some (some (.ref f4))) (l4 : K.lookup f4 = some ⟨oc4, od4, .func (PySem.W.fnOf "check_places" "check_places" (defArgs s_check_places) (defBody s_check_places) (defScope s_check_places) .none kV4 dc4 pm4 an4 cd4 ct4), sl4⟩) (c4 : PySem.W.codeIn K cd4 "check_places" = true) (k4 : PySem.W.keepIn K (.ref f4) = true)
    (a5 : PySem.W.nsIn K mainGlobals "check_thing" = some (some (.ref f5))) (l5 : K.lookup f5 = some ⟨oc5, od5, .func (PySem.W.fnOf "check_thing" "check_thing" (defArgs s_check_thing) (defBody s_check_thing) (defScope s_check_thing) .none kV5 dc5 pm5 an5 cd5 ct5), sl5⟩) (c5 : PySem.W.codeIn K cd5 "check_thing" = true) (k5 : PySem.W.keepIn K (.ref f5) = true)
    (a6 : PySem.W.findIn K (.ref xStock) "__init__" = some (some (.ref f6))) (l6 : K.lookup f6 = some ⟨oc6, od6, .func (PySem.W.fnOf "__init__" "Stock.__init__" (defArgs s_Stock_init) (defBody s_Stock_init) (defScope s_Stock_init) .none kV6 dc6 pm6 an6 cd6 ct6), sl6⟩) (c6 : PySem.W.codeIn K cd6 "Stock.__init__" = true) (n6 : PySem.W.isFn K (.ref f6) = true) (k6 : PySem.W.keepIn K (.ref xStock) = true) (m6 : PySem.W.makesIn K xStock = true) (kf6 : PySem.W.keepIn K (.ref f6) = true)
    (a7 : PySem.W.findIn K (.ref xStock) "has" = some (some (.ref f7))) (l7 : K.lookup f7 = some ⟨oc7, od7, .func (PySem.W.fnOf "has" "Stock.has" (defArgs s_Stock_has) (defBody s_Stock_has) (defScope s_Stock_has) .none kV7 dc7 pm7 an7 cd7 ct7), sl7⟩) (c7 : PySem.W.codeIn K cd7 "Stock.has" = true) (n7 : PySem.W.isFn K (.ref f7) = true) (k7 : PySem.W.keepIn K (.ref f7) = true)
    (a8 : PySem.W.findIn K (.ref xStock) "thing_of" = some (some (.ref f8))) (l8 : K.lookup f8 = some ⟨oc8, od8, .func (PySem.W.fnOf "thing_of" "Stock.thing_of" (defArgs s_Stock_thing_of) (defBody s_Stock_thing_of) (defScope s_Stock_thing_of) .none kV8 dc8 pm8 an8 cd8 ct8), sl8⟩) (c8 : PySem.W.codeIn K cd8 "Stock.thing_of" = true) (n8 : PySem.W.isFn K (.ref f8) = true) (k8 : PySem.W.keepIn K (.ref f8) = true)
    (a9 : PySem.W.findIn K (.ref xStock) "room_of" = some (some (.ref f9))) (l9 : K.lookup f9 = some ⟨oc9, od9, .func (PySem.W.fnOf "room_of" "Stock.room_of" (defArgs s_Stock_room_of) (defBody s_Stock_room_of) (defScope s_Stock_room_of) .none kV9 dc9 pm9 an9 cd9 ct9), sl9⟩) (c9 : PySem.W.codeIn K cd9 "Stock.room_of" = true) (n9 : PySem.W.isFn K (.ref f9) = true) (k9 : PySem.W.keepIn K (.ref f9) = true)
    (a10 : PySem.W.nsIn K mainGlobals "check_asks" = some (some (.ref f10))) (l10 : K.lookup f10 = some ⟨oc10, od10, .func (PySem.W.fnOf "check_asks" "check_asks" (defArgs s_check_asks) (defBody s_check_asks) (defScope s_check_asks) .none kV10 dc10 pm10 an10 cd10 ct10), sl10⟩) (c10 : PySem.W.codeIn K cd10 "check_asks" = true) (k10 : PySem.W.keepIn K (.ref f10) = true)
    (a11 : PySem.W.findIn K (.ref xRule) "__init__" = some (some (.ref f11))) (l11 : K.lookup f11 = some ⟨oc11, od11, .func (PySem.W.fnOf "__init__" "Rule.__init__" (defArgs s_Rule_init) (defBody s_Rule_init) (defScope s_Rule_init) .none kV11 dc11 pm11 an11 cd11 ct11), sl11⟩) (c11 : PySem.W.codeIn K cd11 "Rule.__init__" = true) (n11 : PySem.W.isFn K (.ref f11) = true) (k11 : PySem.W.keepIn K (.ref xRule) = true) (m11 : PySem.W.makesIn K xRule = true) (kf11 : PySem.W.keepIn K (.ref f11) = true)
    (fc11 : PySem.W.findCls K (.ref xRule) (.type "type") "__init__" = some (.val (.ref f11))) (sc11 : PySem.W.specialIn K (.ref xRule) "__getattribute__" = some (some (.builtin "type.__getattribute__"))) (rc11 : PySem.W.readsIn K xRule (.type "type") = true)
    (a12 : PySem.W.findIn K (.ref xRanked) "__init__" = some (some (.ref f12))) (l12 : K.lookup f12 = some ⟨oc12, od12, .func (PySem.W.fnOf "__init__" "Ranked.__init__" (defArgs s_Ranked_init) (defBody s_Ranked_init) (defScope s_Ranked_init) .none kV12 dc12 pm12 an12 cd12 ct12), sl12⟩) (c12 : PySem.W.codeIn K cd12 "Ranked.__init__" = true) (n12 : PySem.W.isFn K (.ref f12) = true) (k12 : PySem.W.keepIn K (.ref xRanked) = true) (m12 : PySem.W.makesIn K xRanked = true) (kf12 : PySem.W.keepIn K (.ref f12) = true)
    (fc12 : PySem.W.findCls K (.ref xRanked) (.type "type") "__init__" = some (.val (.ref f12))) (sc12 : PySem.W.specialIn K (.ref xRanked) "__getattribute__" = some (some (.builtin "type.__getattribute__"))) (rc12 : PySem.W.readsIn K xRanked (.type "type") = true)
    (a13 : PySem.W.findIn K (.ref xOldest) "__init__" = some (some (.ref f13))) (l13 : K.lookup f13 = some ⟨oc13, od13, .func (PySem.W.fnOf "__init__" "Ranked.__init__" (defArgs s_Oldest_init) (defBody s_Oldest_init) (defScope s_Oldest_init) .none kV13 dc13 pm13 an13 cd13 ct13), sl13⟩) (c13 : PySem.W.codeIn K cd13 "Ranked.__init__" = true) (n13 : PySem.W.isFn K (.ref f13) = true) (k13 : PySem.W.keepIn K (.ref xOldest) = true) (m13 : PySem.W.makesIn K xOldest = true) (kf13 : PySem.W.keepIn K (.ref f13) = true)
    (a14 : PySem.W.findIn K (.ref xFirst) "__init__" = some (some (.ref f14))) (l14 : K.lookup f14 = some ⟨oc14, od14, .func (PySem.W.fnOf "__init__" "First.__init__" (defArgs s_First_init) (defBody s_First_init) (defScope s_First_init) .none kV14 dc14 pm14 an14 cd14 ct14), sl14⟩) (c14 : PySem.W.codeIn K cd14 "First.__init__" = true) (n14 : PySem.W.isFn K (.ref f14) = true) (k14 : PySem.W.keepIn K (.ref xFirst) = true) (m14 : PySem.W.makesIn K xFirst = true) (kf14 : PySem.W.keepIn K (.ref f14) = true)
    {dt15 : Addr} {dk15 : Tok} {dn15 : Nat} {dq15 : Value} {de15 : Option Addr} {ds15 : Array (Option Value)}
    (a15 : PySem.W.findIn K (.ref xHalving) "__init__" = some (some (.ref f15))) (l15 : K.lookup f15 = some ⟨oc15, od15, .func (PySem.W.fnOf "__init__" "Halving.__init__" (defArgs s_Halving_init) (defBody s_Halving_init) (defScope s_Halving_init) (.ref dt15) kV15 dc15 pm15 an15 cd15 ct15), sl15⟩) (c15 : PySem.W.codeIn K cd15 "Halving.__init__" = true) (ld15 : K.lookup dt15 = some ⟨dq15, de15, .seq #[.int 8 dk15] dn15, ds15⟩) (n15 : PySem.W.isFn K (.ref f15) = true) (k15 : PySem.W.keepIn K (.ref xHalving) = true) (m15 : PySem.W.makesIn K xHalving = true) (kf15 : PySem.W.keepIn K (.ref f15) = true)
    (a16 : PySem.W.findIn K (.ref xFarthest) "__init__" = some (some (.ref f16))) (l16 : K.lookup f16 = some ⟨oc16, od16, .func (PySem.W.fnOf "__init__" "Farthest.__init__" (defArgs s_Farthest_init) (defBody s_Farthest_init) (defScope s_Farthest_init) .none kV16 dc16 pm16 an16 cd16 ct16), sl16⟩) (c16 : PySem.W.codeIn K cd16 "Farthest.__init__" = true) (n16 : PySem.W.isFn K (.ref f16) = true) (k16 : PySem.W.keepIn K (.ref xFarthest) = true) (m16 : PySem.W.makesIn K xFarthest = true) (kf16 : PySem.W.keepIn K (.ref f16) = true)
    (a17 : PySem.W.findIn K (.ref xRanked) "number_ask" = some (some (.ref f17))) (l17 : K.lookup f17 = some ⟨oc17, od17, .func (PySem.W.fnOf "number_ask" "Ranked.number_ask" (defArgs s_Ranked_number_ask) (defBody s_Ranked_number_ask) (defScope s_Ranked_number_ask) .none kV17 dc17 pm17 an17 cd17 ct17), sl17⟩) (c17 : PySem.W.codeIn K cd17 "Ranked.number_ask" = true) (n17 : PySem.W.isFn K (.ref f17) = true) (k17 : PySem.W.keepIn K (.ref f17) = true)
    (a18 : PySem.W.findIn K (.ref xRanked) "asked" = some (some (.ref f18))) (l18 : K.lookup f18 = some ⟨oc18, od18, .func (PySem.W.fnOf "asked" "Ranked.asked" (defArgs s_Ranked_asked) (defBody s_Ranked_asked) (defScope s_Ranked_asked) .none kV18 dc18 pm18 an18 cd18 ct18), sl18⟩) (c18 : PySem.W.codeIn K cd18 "Ranked.asked" = true) (n18 : PySem.W.isFn K (.ref f18) = true) (k18 : PySem.W.keepIn K (.ref f18) = true)
    (a19 : PySem.W.findIn K (.ref xRanked) "last_of" = some (some (.ref f19))) (l19 : K.lookup f19 = some ⟨oc19, od19, .func (PySem.W.fnOf "last_of" "Ranked.last_of" (defArgs s_Ranked_last_of) (defBody s_Ranked_last_of) (defScope s_Ranked_last_of) .none kV19 dc19 pm19 an19 cd19 ct19), sl19⟩) (c19 : PySem.W.codeIn K cd19 "Ranked.last_of" = true) (n19 : PySem.W.isFn K (.ref f19) = true) (k19 : PySem.W.keepIn K (.ref f19) = true)
    (a20 : PySem.W.findIn K (.ref xRanked) "rank" = some (some (.ref f20))) (l20 : K.lookup f20 = some ⟨oc20, od20, .func (PySem.W.fnOf "rank" "Ranked.rank" (defArgs s_Ranked_rank) (defBody s_Ranked_rank) (defScope s_Ranked_rank) .none kV20 dc20 pm20 an20 cd20 ct20), sl20⟩) (c20 : PySem.W.codeIn K cd20 "Ranked.rank" = true) (n20 : PySem.W.isFn K (.ref f20) = true) (k20 : PySem.W.keepIn K (.ref f20) = true)
    (gv20 : PySem.W.specialIn K (.ref f20) "__get__" = some (some (.builtin "function.__get__"))) (tv20 : PySem.W.takesIn K (.ref f20) = some false)
    (a21 : PySem.W.findIn K (.ref xRanked) "choice" = some (some (.ref f21))) (l21 : K.lookup f21 = some ⟨oc21, od21, .func (PySem.W.fnOf "choice" "Ranked.choice" (defArgs s_Ranked_choice) (defBody s_Ranked_choice) (defScope s_Ranked_choice) .none kV21 dc21 pm21 an21 cd21 ct21), sl21⟩) (c21 : PySem.W.codeIn K cd21 "Ranked.choice" = true) (n21 : PySem.W.isFn K (.ref f21) = true) (k21 : PySem.W.keepIn K (.ref f21) = true)
    (a22 : PySem.W.findIn K (.ref xRanked) "gone" = some (some (.ref f22))) (l22 : K.lookup f22 = some ⟨oc22, od22, .func (PySem.W.fnOf "gone" "Rule.gone" (defArgs s_Ranked_gone) (defBody s_Ranked_gone) (defScope s_Ranked_gone) .none kV22 dc22 pm22 an22 cd22 ct22), sl22⟩) (c22 : PySem.W.codeIn K cd22 "Rule.gone" = true) (n22 : PySem.W.isFn K (.ref f22) = true) (k22 : PySem.W.keepIn K (.ref f22) = true)
    (a23 : PySem.W.findIn K (.ref xRanked) "came" = some (some (.ref f23))) (l23 : K.lookup f23 = some ⟨oc23, od23, .func (PySem.W.fnOf "came" "Rule.came" (defArgs s_Ranked_came) (defBody s_Ranked_came) (defScope s_Ranked_came) .none kV23 dc23 pm23 an23 cd23 ct23), sl23⟩) (c23 : PySem.W.codeIn K cd23 "Rule.came" = true) (n23 : PySem.W.isFn K (.ref f23) = true) (k23 : PySem.W.keepIn K (.ref f23) = true)
    (a24 : PySem.W.findIn K (.ref xOldest) "number_ask" = some (some (.ref f24))) (l24 : K.lookup f24 = some ⟨oc24, od24, .func (PySem.W.fnOf "number_ask" "Ranked.number_ask" (defArgs s_Oldest_number_ask) (defBody s_Oldest_number_ask) (defScope s_Oldest_number_ask) .none kV24 dc24 pm24 an24 cd24 ct24), sl24⟩) (c24 : PySem.W.codeIn K cd24 "Ranked.number_ask" = true) (n24 : PySem.W.isFn K (.ref f24) = true) (k24 : PySem.W.keepIn K (.ref f24) = true)
    (a25 : PySem.W.findIn K (.ref xOldest) "asked" = some (some (.ref f25))) (l25 : K.lookup f25 = some ⟨oc25, od25, .func (PySem.W.fnOf "asked" "Ranked.asked" (defArgs s_Oldest_asked) (defBody s_Oldest_asked) (defScope s_Oldest_asked) .none kV25 dc25 pm25 an25 cd25 ct25), sl25⟩) (c25 : PySem.W.codeIn K cd25 "Ranked.asked" = true) (n25 : PySem.W.isFn K (.ref f25) = true) (k25 : PySem.W.keepIn K (.ref f25) = true)
    (a26 : PySem.W.findIn K (.ref xOldest) "last_of" = some (some (.ref f26))) (l26 : K.lookup f26 = some ⟨oc26, od26, .func (PySem.W.fnOf "last_of" "Ranked.last_of" (defArgs s_Oldest_last_of) (defBody s_Oldest_last_of) (defScope s_Oldest_last_of) .none kV26 dc26 pm26 an26 cd26 ct26), sl26⟩) (c26 : PySem.W.codeIn K cd26 "Ranked.last_of" = true) (n26 : PySem.W.isFn K (.ref f26) = true) (k26 : PySem.W.keepIn K (.ref f26) = true)
    (a27 : PySem.W.findIn K (.ref xOldest) "rank" = some (some (.ref f27))) (l27 : K.lookup f27 = some ⟨oc27, od27, .func (PySem.W.fnOf "rank" "Ranked.rank" (defArgs s_Oldest_rank) (defBody s_Oldest_rank) (defScope s_Oldest_rank) .none kV27 dc27 pm27 an27 cd27 ct27), sl27⟩) (c27 : PySem.W.codeIn K cd27 "Ranked.rank" = true) (n27 : PySem.W.isFn K (.ref f27) = true) (k27 : PySem.W.keepIn K (.ref f27) = true)
    (gv27 : PySem.W.specialIn K (.ref f27) "__get__" = some (some (.builtin "function.__get__"))) (tv27 : PySem.W.takesIn K (.ref f27) = some false)
    (a28 : PySem.W.findIn K (.ref xOldest) "choice" = some (some (.ref f28))) (l28 : K.lookup f28 = some ⟨oc28, od28, .func (PySem.W.fnOf "choice" "Ranked.choice" (defArgs s_Oldest_choice) (defBody s_Oldest_choice) (defScope s_Oldest_choice) .none kV28 dc28 pm28 an28 cd28 ct28), sl28⟩) (c28 : PySem.W.codeIn K cd28 "Ranked.choice" = true) (n28 : PySem.W.isFn K (.ref f28) = true) (k28 : PySem.W.keepIn K (.ref f28) = true)
    (a29 : PySem.W.findIn K (.ref xOldest) "gone" = some (some (.ref f29))) (l29 : K.lookup f29 = some ⟨oc29, od29, .func (PySem.W.fnOf "gone" "Rule.gone" (defArgs s_Oldest_gone) (defBody s_Oldest_gone) (defScope s_Oldest_gone) .none kV29 dc29 pm29 an29 cd29 ct29), sl29⟩) (c29 : PySem.W.codeIn K cd29 "Rule.gone" = true) (n29 : PySem.W.isFn K (.ref f29) = true) (k29 : PySem.W.keepIn K (.ref f29) = true)
    (a30 : PySem.W.findIn K (.ref xOldest) "came" = some (some (.ref f30))) (l30 : K.lookup f30 = some ⟨oc30, od30, .func (PySem.W.fnOf "came" "Rule.came" (defArgs s_Oldest_came) (defBody s_Oldest_came) (defScope s_Oldest_came) .none kV30 dc30 pm30 an30 cd30 ct30), sl30⟩) (c30 : PySem.W.codeIn K cd30 "Rule.came" = true) (n30 : PySem.W.isFn K (.ref f30) = true) (k30 : PySem.W.keepIn K (.ref f30) = true)
    (a31 : PySem.W.findIn K (.ref xFirst) "number_ask" = some (some (.ref f31))) (l31 : K.lookup f31 = some ⟨oc31, od31, .func (PySem.W.fnOf "number_ask" "Ranked.number_ask" (defArgs s_First_number_ask) (defBody s_First_number_ask) (defScope s_First_number_ask) .none kV31 dc31 pm31 an31 cd31 ct31), sl31⟩) (c31 : PySem.W.codeIn K cd31 "Ranked.number_ask" = true) (n31 : PySem.W.isFn K (.ref f31) = true) (k31 : PySem.W.keepIn K (.ref f31) = true)
    (a32 : PySem.W.findIn K (.ref xFirst) "asked" = some (some (.ref f32))) (l32 : K.lookup f32 = some ⟨oc32, od32, .func (PySem.W.fnOf "asked" "Ranked.asked" (defArgs s_First_asked) (defBody s_First_asked) (defScope s_First_asked) .none kV32 dc32 pm32 an32 cd32 ct32), sl32⟩) (c32 : PySem.W.codeIn K cd32 "Ranked.asked" = true) (n32 : PySem.W.isFn K (.ref f32) = true) (k32 : PySem.W.keepIn K (.ref f32) = true)
    (a33 : PySem.W.findIn K (.ref xFirst) "rank" = some (some (.ref f33))) (l33 : K.lookup f33 = some ⟨oc33, od33, .func (PySem.W.fnOf "rank" "First.rank" (defArgs s_First_rank) (defBody s_First_rank) (defScope s_First_rank) .none kV33 dc33 pm33 an33 cd33 ct33), sl33⟩) (c33 : PySem.W.codeIn K cd33 "First.rank" = true) (n33 : PySem.W.isFn K (.ref f33) = true) (k33 : PySem.W.keepIn K (.ref f33) = true)
    (gv33 : PySem.W.specialIn K (.ref f33) "__get__" = some (some (.builtin "function.__get__"))) (tv33 : PySem.W.takesIn K (.ref f33) = some false)
    (a34 : PySem.W.findIn K (.ref xFirst) "choice" = some (some (.ref f34))) (l34 : K.lookup f34 = some ⟨oc34, od34, .func (PySem.W.fnOf "choice" "Ranked.choice" (defArgs s_First_choice) (defBody s_First_choice) (defScope s_First_choice) .none kV34 dc34 pm34 an34 cd34 ct34), sl34⟩) (c34 : PySem.W.codeIn K cd34 "Ranked.choice" = true) (n34 : PySem.W.isFn K (.ref f34) = true) (k34 : PySem.W.keepIn K (.ref f34) = true)
    (a35 : PySem.W.findIn K (.ref xFirst) "gone" = some (some (.ref f35))) (l35 : K.lookup f35 = some ⟨oc35, od35, .func (PySem.W.fnOf "gone" "Rule.gone" (defArgs s_First_gone) (defBody s_First_gone) (defScope s_First_gone) .none kV35 dc35 pm35 an35 cd35 ct35), sl35⟩) (c35 : PySem.W.codeIn K cd35 "Rule.gone" = true) (n35 : PySem.W.isFn K (.ref f35) = true) (k35 : PySem.W.keepIn K (.ref f35) = true)
    (a36 : PySem.W.findIn K (.ref xFirst) "came" = some (some (.ref f36))) (l36 : K.lookup f36 = some ⟨oc36, od36, .func (PySem.W.fnOf "came" "First.came" (defArgs s_First_came) (defBody s_First_came) (defScope s_First_came) .none kV36 dc36 pm36 an36 cd36 ct36), sl36⟩) (c36 : PySem.W.codeIn K cd36 "First.came" = true) (n36 : PySem.W.isFn K (.ref f36) = true) (k36 : PySem.W.keepIn K (.ref f36) = true)
    (a37 : PySem.W.findIn K (.ref xHalving) "halve" = some (some (.ref f37))) (l37 : K.lookup f37 = some ⟨oc37, od37, .func (PySem.W.fnOf "halve" "Halving.halve" (defArgs s_Halving_halve) (defBody s_Halving_halve) (defScope s_Halving_halve) .none kV37 dc37 pm37 an37 cd37 ct37), sl37⟩) (c37 : PySem.W.codeIn K cd37 "Halving.halve" = true) (n37 : PySem.W.isFn K (.ref f37) = true) (k37 : PySem.W.keepIn K (.ref f37) = true)
    (a38 : PySem.W.findIn K (.ref xHalving) "number_ask" = some (some (.ref f38))) (l38 : K.lookup f38 = some ⟨oc38, od38, .func (PySem.W.fnOf "number_ask" "Ranked.number_ask" (defArgs s_Halving_number_ask) (defBody s_Halving_number_ask) (defScope s_Halving_number_ask) .none kV38 dc38 pm38 an38 cd38 ct38), sl38⟩) (c38 : PySem.W.codeIn K cd38 "Ranked.number_ask" = true) (n38 : PySem.W.isFn K (.ref f38) = true) (k38 : PySem.W.keepIn K (.ref f38) = true)
    (a39 : PySem.W.findIn K (.ref xHalving) "counts" = some (some (.ref f39))) (l39 : K.lookup f39 = some ⟨oc39, od39, .func (PySem.W.fnOf "counts" "Halving.counts" (defArgs s_Halving_counts) (defBody s_Halving_counts) (defScope s_Halving_counts) .none kV39 dc39 pm39 an39 cd39 ct39), sl39⟩) (c39 : PySem.W.codeIn K cd39 "Halving.counts" = true) (n39 : PySem.W.isFn K (.ref f39) = true) (k39 : PySem.W.keepIn K (.ref f39) = true)
    (a40 : PySem.W.findIn K (.ref xHalving) "asked" = some (some (.ref f40))) (l40 : K.lookup f40 = some ⟨oc40, od40, .func (PySem.W.fnOf "asked" "Halving.asked" (defArgs s_Halving_asked) (defBody s_Halving_asked) (defScope s_Halving_asked) .none kV40 dc40 pm40 an40 cd40 ct40), sl40⟩) (c40 : PySem.W.codeIn K cd40 "Halving.asked" = true) (n40 : PySem.W.isFn K (.ref f40) = true) (k40 : PySem.W.keepIn K (.ref f40) = true)
    (a41 : PySem.W.findIn K (.ref xHalving) "last_of" = some (some (.ref f41))) (l41 : K.lookup f41 = some ⟨oc41, od41, .func (PySem.W.fnOf "last_of" "Ranked.last_of" (defArgs s_Halving_last_of) (defBody s_Halving_last_of) (defScope s_Halving_last_of) .none kV41 dc41 pm41 an41 cd41 ct41), sl41⟩) (c41 : PySem.W.codeIn K cd41 "Ranked.last_of" = true) (n41 : PySem.W.isFn K (.ref f41) = true) (k41 : PySem.W.keepIn K (.ref f41) = true)
    (a42 : PySem.W.findIn K (.ref xHalving) "rank" = some (some (.ref f42))) (l42 : K.lookup f42 = some ⟨oc42, od42, .func (PySem.W.fnOf "rank" "Halving.rank" (defArgs s_Halving_rank) (defBody s_Halving_rank) (defScope s_Halving_rank) .none kV42 dc42 pm42 an42 cd42 ct42), sl42⟩) (c42 : PySem.W.codeIn K cd42 "Halving.rank" = true) (n42 : PySem.W.isFn K (.ref f42) = true) (k42 : PySem.W.keepIn K (.ref f42) = true)
    (gv42 : PySem.W.specialIn K (.ref f42) "__get__" = some (some (.builtin "function.__get__"))) (tv42 : PySem.W.takesIn K (.ref f42) = some false)
    (a43 : PySem.W.findIn K (.ref xHalving) "choice" = some (some (.ref f43))) (l43 : K.lookup f43 = some ⟨oc43, od43, .func (PySem.W.fnOf "choice" "Ranked.choice" (defArgs s_Halving_choice) (defBody s_Halving_choice) (defScope s_Halving_choice) .none kV43 dc43 pm43 an43 cd43 ct43), sl43⟩) (c43 : PySem.W.codeIn K cd43 "Ranked.choice" = true) (n43 : PySem.W.isFn K (.ref f43) = true) (k43 : PySem.W.keepIn K (.ref f43) = true)
    (a44 : PySem.W.findIn K (.ref xHalving) "gone" = some (some (.ref f44))) (l44 : K.lookup f44 = some ⟨oc44, od44, .func (PySem.W.fnOf "gone" "Rule.gone" (defArgs s_Halving_gone) (defBody s_Halving_gone) (defScope s_Halving_gone) .none kV44 dc44 pm44 an44 cd44 ct44), sl44⟩) (c44 : PySem.W.codeIn K cd44 "Rule.gone" = true) (n44 : PySem.W.isFn K (.ref f44) = true) (k44 : PySem.W.keepIn K (.ref f44) = true)
    (a45 : PySem.W.findIn K (.ref xHalving) "came" = some (some (.ref f45))) (l45 : K.lookup f45 = some ⟨oc45, od45, .func (PySem.W.fnOf "came" "Rule.came" (defArgs s_Halving_came) (defBody s_Halving_came) (defScope s_Halving_came) .none kV45 dc45 pm45 an45 cd45 ct45), sl45⟩) (c45 : PySem.W.codeIn K cd45 "Rule.came" = true) (n45 : PySem.W.isFn K (.ref f45) = true) (k45 : PySem.W.keepIn K (.ref f45) = true)
    (a46 : PySem.W.findIn K (.ref xFarthest) "number_ask" = some (some (.ref f46))) (l46 : K.lookup f46 = some ⟨oc46, od46, .func (PySem.W.fnOf "number_ask" "Ranked.number_ask" (defArgs s_Farthest_number_ask) (defBody s_Farthest_number_ask) (defScope s_Farthest_number_ask) .none kV46 dc46 pm46 an46 cd46 ct46), sl46⟩) (c46 : PySem.W.codeIn K cd46 "Ranked.number_ask" = true) (n46 : PySem.W.isFn K (.ref f46) = true) (k46 : PySem.W.keepIn K (.ref f46) = true)
    (a47 : PySem.W.findIn K (.ref xFarthest) "last_of" = some (some (.ref f47))) (l47 : K.lookup f47 = some ⟨oc47, od47, .func (PySem.W.fnOf "last_of" "Ranked.last_of" (defArgs s_Farthest_last_of) (defBody s_Farthest_last_of) (defScope s_Farthest_last_of) .none kV47 dc47 pm47 an47 cd47 ct47), sl47⟩) (c47 : PySem.W.codeIn K cd47 "Ranked.last_of" = true) (n47 : PySem.W.isFn K (.ref f47) = true) (k47 : PySem.W.keepIn K (.ref f47) = true)
    (a48 : PySem.W.findIn K (.ref xFarthest) "coming_of" = some (some (.ref f48))) (l48 : K.lookup f48 = some ⟨oc48, od48, .func (PySem.W.fnOf "coming_of" "Farthest.coming_of" (defArgs s_Farthest_coming_of) (defBody s_Farthest_coming_of) (defScope s_Farthest_coming_of) .none kV48 dc48 pm48 an48 cd48 ct48), sl48⟩) (c48 : PySem.W.codeIn K cd48 "Farthest.coming_of" = true) (n48 : PySem.W.isFn K (.ref f48) = true) (k48 : PySem.W.keepIn K (.ref f48) = true)
    (a49 : PySem.W.findIn K (.ref xFarthest) "rank" = some (some (.ref f49))) (l49 : K.lookup f49 = some ⟨oc49, od49, .func (PySem.W.fnOf "rank" "Farthest.rank" (defArgs s_Farthest_rank) (defBody s_Farthest_rank) (defScope s_Farthest_rank) .none kV49 dc49 pm49 an49 cd49 ct49), sl49⟩) (c49 : PySem.W.codeIn K cd49 "Farthest.rank" = true) (n49 : PySem.W.isFn K (.ref f49) = true) (k49 : PySem.W.keepIn K (.ref f49) = true)
    (gv49 : PySem.W.specialIn K (.ref f49) "__get__" = some (some (.builtin "function.__get__"))) (tv49 : PySem.W.takesIn K (.ref f49) = some false)
    (a50 : PySem.W.findIn K (.ref xFarthest) "asked" = some (some (.ref f50))) (l50 : K.lookup f50 = some ⟨oc50, od50, .func (PySem.W.fnOf "asked" "Ranked.asked" (defArgs s_Farthest_asked) (defBody s_Farthest_asked) (defScope s_Farthest_asked) .none kV50 dc50 pm50 an50 cd50 ct50), sl50⟩) (c50 : PySem.W.codeIn K cd50 "Ranked.asked" = true) (n50 : PySem.W.isFn K (.ref f50) = true) (k50 : PySem.W.keepIn K (.ref f50) = true)
    (a51 : PySem.W.findIn K (.ref xFarthest) "choice" = some (some (.ref f51))) (l51 : K.lookup f51 = some ⟨oc51, od51, .func (PySem.W.fnOf "choice" "Ranked.choice" (defArgs s_Farthest_choice) (defBody s_Farthest_choice) (defScope s_Farthest_choice) .none kV51 dc51 pm51 an51 cd51 ct51), sl51⟩) (c51 : PySem.W.codeIn K cd51 "Ranked.choice" = true) (n51 : PySem.W.isFn K (.ref f51) = true) (k51 : PySem.W.keepIn K (.ref f51) = true)
    (a52 : PySem.W.findIn K (.ref xFarthest) "gone" = some (some (.ref f52))) (l52 : K.lookup f52 = some ⟨oc52, od52, .func (PySem.W.fnOf "gone" "Rule.gone" (defArgs s_Farthest_gone) (defBody s_Farthest_gone) (defScope s_Farthest_gone) .none kV52 dc52 pm52 an52 cd52 ct52), sl52⟩) (c52 : PySem.W.codeIn K cd52 "Rule.gone" = true) (n52 : PySem.W.isFn K (.ref f52) = true) (k52 : PySem.W.keepIn K (.ref f52) = true)
    (a53 : PySem.W.findIn K (.ref xFarthest) "came" = some (some (.ref f53))) (l53 : K.lookup f53 = some ⟨oc53, od53, .func (PySem.W.fnOf "came" "Rule.came" (defArgs s_Farthest_came) (defBody s_Farthest_came) (defScope s_Farthest_came) .none kV53 dc53 pm53 an53 cd53 ct53), sl53⟩) (c53 : PySem.W.codeIn K cd53 "Rule.came" = true) (n53 : PySem.W.isFn K (.ref f53) = true) (k53 : PySem.W.keepIn K (.ref f53) = true)
    (a54 : PySem.W.nsIn K mainGlobals "_law_cell" = some (some (.ref f54))) (l54 : K.lookup f54 = some ⟨oc54, od54, .func (PySem.W.fnOf "_law_cell" "_law_cell" (defArgs s_l_cell) (defBody s_l_cell) (defScope s_l_cell) .none kV54 dc54 pm54 an54 cd54 ct54), sl54⟩) (c54 : PySem.W.codeIn K cd54 "_law_cell" = true) (k54 : PySem.W.keepIn K (.ref f54) = true)
    (a55 : PySem.W.nsIn K mainGlobals "_law_stream" = some (some (.ref f55))) (l55 : K.lookup f55 = some ⟨oc55, od55, .func (PySem.W.fnOf "_law_stream" "_law_stream" (defArgs s_l_stream) (defBody s_l_stream) (defScope s_l_stream) .none kV55 dc55 pm55 an55 cd55 ct55), sl55⟩) (c55 : PySem.W.codeIn K cd55 "_law_stream" = true) (k55 : PySem.W.keepIn K (.ref f55) = true)
    (a56 : PySem.W.nsIn K mainGlobals "_law_names" = some (some (.ref f56))) (l56 : K.lookup f56 = some ⟨oc56, od56, .func (PySem.W.fnOf "_law_names" "_law_names" (defArgs s_l_names) (defBody s_l_names) (defScope s_l_names) .none kV56 dc56 pm56 an56 cd56 ct56), sl56⟩) (c56 : PySem.W.codeIn K cd56 "_law_names" = true) (k56 : PySem.W.keepIn K (.ref f56) = true)
    (a57 : PySem.W.nsIn K mainGlobals "_law_rows" = some (some (.ref f57))) (l57 : K.lookup f57 = some ⟨oc57, od57, .func (PySem.W.fnOf "_law_rows" "_law_rows" (defArgs s_l_rows) (defBody s_l_rows) (defScope s_l_rows) .none kV57 dc57 pm57 an57 cd57 ct57), sl57⟩) (c57 : PySem.W.codeIn K cd57 "_law_rows" = true) (k57 : PySem.W.keepIn K (.ref f57) = true)
    (a58 : PySem.W.nsIn K mainGlobals "_law_places" = some (some (.ref f58))) (l58 : K.lookup f58 = some ⟨oc58, od58, .func (PySem.W.fnOf "_law_places" "_law_places" (defArgs s_l_places) (defBody s_l_places) (defScope s_l_places) .none kV58 dc58 pm58 an58 cd58 ct58), sl58⟩) (c58 : PySem.W.codeIn K cd58 "_law_places" = true) (k58 : PySem.W.keepIn K (.ref f58) = true)
    (a59 : PySem.W.nsIn K mainGlobals "_law_asks" = some (some (.ref f59))) (l59 : K.lookup f59 = some ⟨oc59, od59, .func (PySem.W.fnOf "_law_asks" "_law_asks" (defArgs s_l_asks) (defBody s_l_asks) (defScope s_l_asks) .none kV59 dc59 pm59 an59 cd59 ct59), sl59⟩) (c59 : PySem.W.codeIn K cd59 "_law_asks" = true) (k59 : PySem.W.keepIn K (.ref f59) = true)
    (a60 : PySem.W.nsIn K mainGlobals "_law_rooms" = some (some (.ref f60))) (l60 : K.lookup f60 = some ⟨oc60, od60, .func (PySem.W.fnOf "_law_rooms" "_law_rooms" (defArgs s_l_rooms) (defBody s_l_rooms) (defScope s_l_rooms) .none kV60 dc60 pm60 an60 cd60 ct60), sl60⟩) (c60 : PySem.W.codeIn K cd60 "_law_rooms" = true) (k60 : PySem.W.keepIn K (.ref f60) = true)
    (a61 : PySem.W.nsIn K mainGlobals "_law_made" = some (some (.ref f61))) (l61 : K.lookup f61 = some ⟨oc61, od61, .func (PySem.W.fnOf "_law_made" "_law_made" (defArgs s_l_made) (defBody s_l_made) (defScope s_l_made) .none kV61 dc61 pm61 an61 cd61 ct61), sl61⟩) (c61 : PySem.W.codeIn K cd61 "_law_made" = true) (k61 : PySem.W.keepIn K (.ref f61) = true)
    (a62 : PySem.W.nsIn K mainGlobals "_law_next" = some (some (.ref f62))) (l62 : K.lookup f62 = some ⟨oc62, od62, .func (PySem.W.fnOf "_law_next" "_law_next" (defArgs s_l_next) (defBody s_l_next) (defScope s_l_next) .none kV62 dc62 pm62 an62 cd62 ct62), sl62⟩) (c62 : PySem.W.codeIn K cd62 "_law_next" = true) (k62 : PySem.W.keepIn K (.ref f62) = true)
    (a63 : PySem.W.nsIn K mainGlobals "_law_due" = some (some (.ref f63))) (l63 : K.lookup f63 = some ⟨oc63, od63, .func (PySem.W.fnOf "_law_due" "_law_due" (defArgs s_l_due) (defBody s_l_due) (defScope s_l_due) .none kV63 dc63 pm63 an63 cd63 ct63), sl63⟩) (c63 : PySem.W.codeIn K cd63 "_law_due" = true) (k63 : PySem.W.keepIn K (.ref f63) = true)
    (a64 : PySem.W.nsIn K mainGlobals "_law_rank" = some (some (.ref f64))) (l64 : K.lookup f64 = some ⟨oc64, od64, .func (PySem.W.fnOf "_law_rank" "_law_rank" (defArgs s_l_rank) (defBody s_l_rank) (defScope s_l_rank) .none kV64 dc64 pm64 an64 cd64 ct64), sl64⟩) (c64 : PySem.W.codeIn K cd64 "_law_rank" = true) (k64 : PySem.W.keepIn K (.ref f64) = true)
    (a65 : PySem.W.nsIn K mainGlobals "_law_all_ranks" = some (some (.ref f65))) (l65 : K.lookup f65 = some ⟨oc65, od65, .func (PySem.W.fnOf "_law_all_ranks" "_law_all_ranks" (defArgs s_l_all_ranks) (defBody s_l_all_ranks) (defScope s_l_all_ranks) .none kV65 dc65 pm65 an65 cd65 ct65), sl65⟩) (c65 : PySem.W.codeIn K cd65 "_law_all_ranks" = true) (k65 : PySem.W.keepIn K (.ref f65) = true)
    (a66 : PySem.W.nsIn K mainGlobals "_law_counted" = some (some (.ref f66))) (l66 : K.lookup f66 = some ⟨oc66, od66, .func (PySem.W.fnOf "_law_counted" "_law_counted" (defArgs s_l_counted) (defBody s_l_counted) (defScope s_l_counted) .none kV66 dc66 pm66 an66 cd66 ct66), sl66⟩) (c66 : PySem.W.codeIn K cd66 "_law_counted" = true) (k66 : PySem.W.keepIn K (.ref f66) = true)
    (a67 : PySem.W.nsIn K mainGlobals "_law_least" = some (some (.ref f67))) (l67 : K.lookup f67 = some ⟨oc67, od67, .func (PySem.W.fnOf "_law_least" "_law_least" (defArgs s_l_least) (defBody s_l_least) (defScope s_l_least) .none kV67 dc67 pm67 an67 cd67 ct67), sl67⟩) (c67 : PySem.W.codeIn K cd67 "_law_least" = true) (k67 : PySem.W.keepIn K (.ref f67) = true)
    (a68 : PySem.W.nsIn K mainGlobals "_law_led" = some (some (.ref f68))) (l68 : K.lookup f68 = some ⟨oc68, od68, .func (PySem.W.fnOf "_law_led" "_law_led" (defArgs s_l_led) (defBody s_l_led) (defScope s_l_led) .none kV68 dc68 pm68 an68 cd68 ct68), sl68⟩) (c68 : PySem.W.codeIn K cd68 "_law_led" = true) (k68 : PySem.W.keepIn K (.ref f68) = true)
    (a69 : PySem.W.nsIn K mainGlobals "law" = some (some (.ref f69))) (l69 : K.lookup f69 = some ⟨oc69, od69, .func (PySem.W.fnOf "law" "law" (defArgs s_law) (defBody s_law) (defScope s_law) .none kV69 dc69 pm69 an69 cd69 ct69), sl69⟩) (c69 : PySem.W.codeIn K cd69 "law" = true) (k69 : PySem.W.keepIn K (.ref f69) = true)
    (z_len : PySem.W.nsIn K mainGlobals "len" = some none)
    (z_isinstance : PySem.W.nsIn K mainGlobals "isinstance" = some none)
    (z_int : PySem.W.nsIn K mainGlobals "int" = some none)
    (z_bool : PySem.W.nsIn K mainGlobals "bool" = some none)
    (z_str : PySem.W.nsIn K mainGlobals "str" = some none)
    (z_list : PySem.W.nsIn K mainGlobals "list" = some none)
    (z_tuple : PySem.W.nsIn K mainGlobals "tuple" = some none)
    (z_all : PySem.W.nsIn K mainGlobals "all" = some none)
    (z_range : PySem.W.nsIn K mainGlobals "range" = some none)
    (z_sum : PySem.W.nsIn K mainGlobals "sum" = some none)
    (z_enumerate : PySem.W.nsIn K mainGlobals "enumerate" = some none)
    (z_zip : PySem.W.nsIn K mainGlobals "zip" = some none)
    (z_max : PySem.W.nsIn K mainGlobals "max" = some none)
    (z_min : PySem.W.nsIn K mainGlobals "min" = some none)
    (z_dict : PySem.W.nsIn K mainGlobals "dict" = some none)
    {tk_LETTERS : Tok} (g_LETTERS : PySem.W.nsIn K mainGlobals "LETTERS" = some (some (.str "abcdefghijklmnopqrstuvwxyz" tk_LETTERS)))
    {tk_FIGURES : Tok} (g_FIGURES : PySem.W.nsIn K mainGlobals "FIGURES" = some (some (.str "0123456789" tk_FIGURES)))
    {tk_MOST_SIGNS : Tok} (g_MOST_SIGNS : PySem.W.nsIn K mainGlobals "MOST_SIGNS" = some (some (.int 8 tk_MOST_SIGNS)))
    {tk_MOST_THINGS : Tok} (g_MOST_THINGS : PySem.W.nsIn K mainGlobals "MOST_THINGS" = some (some (.int 60 tk_MOST_THINGS)))
    {tk_MOST_ROOM : Tok} (g_MOST_ROOM : PySem.W.nsIn K mainGlobals "MOST_ROOM" = some (some (.int 1000 tk_MOST_ROOM)))
    {tk_MOST_PLACES : Tok} (g_MOST_PLACES : PySem.W.nsIn K mainGlobals "MOST_PLACES" = some (some (.int 1000000 tk_MOST_PLACES)))
    {tk_MOST_ASKS : Tok} (g_MOST_ASKS : PySem.W.nsIn K mainGlobals "MOST_ASKS" = some (some (.int 200 tk_MOST_ASKS)))
    {tk_MOST_TURN : Tok} (g_MOST_TURN : PySem.W.nsIn K mainGlobals "MOST_TURN" = some (some (.int 200 tk_MOST_TURN)))
    (a_Stock : PySem.W.nsIn K mainGlobals "Stock" = some (some (.ref xStock))) (pg_Stock : PySem.W.plainGet K xStock Str.empty = true) (hd_Stock : PySem.W.hasDictIn K xStock = true) (po_Stock : PySem.W.plainOver K xStock = true) (sa_Stock : PySem.W.findIn K (.ref xStock) "__setattr__" = some (some (.builtin "object.__setattr__")))
    (n_Stock_things : PySem.W.findIn K (.ref xStock) "things" = some none)
    (a_Rule : PySem.W.nsIn K mainGlobals "Rule" = some (some (.ref xRule))) (pg_Rule : PySem.W.plainGet K xRule Str.empty = true) (hd_Rule : PySem.W.hasDictIn K xRule = true) (po_Rule : PySem.W.plainOver K xRule = true) (sa_Rule : PySem.W.findIn K (.ref xRule) "__setattr__" = some (some (.builtin "object.__setattr__")))
    (a_Ranked : PySem.W.nsIn K mainGlobals "Ranked" = some (some (.ref xRanked))) (pg_Ranked : PySem.W.plainGet K xRanked Str.empty = true) (hd_Ranked : PySem.W.hasDictIn K xRanked = true) (po_Ranked : PySem.W.plainOver K xRanked = true) (sa_Ranked : PySem.W.findIn K (.ref xRanked) "__setattr__" = some (some (.builtin "object.__setattr__")))
    (n_Ranked_stock : PySem.W.findIn K (.ref xRanked) "stock" = some none)
    (n_Ranked_places : PySem.W.findIn K (.ref xRanked) "places" = some none)
    (n_Ranked_present : PySem.W.findIn K (.ref xRanked) "present" = some none)
    (n_Ranked_last : PySem.W.findIn K (.ref xRanked) "last" = some none)
    (a_Oldest : PySem.W.nsIn K mainGlobals "Oldest" = some (some (.ref xOldest))) (pg_Oldest : PySem.W.plainGet K xOldest Str.empty = true) (hd_Oldest : PySem.W.hasDictIn K xOldest = true) (po_Oldest : PySem.W.plainOver K xOldest = true) (sa_Oldest : PySem.W.findIn K (.ref xOldest) "__setattr__" = some (some (.builtin "object.__setattr__")))
    (n_Oldest_stock : PySem.W.findIn K (.ref xOldest) "stock" = some none)
    (n_Oldest_places : PySem.W.findIn K (.ref xOldest) "places" = some none)
    (n_Oldest_present : PySem.W.findIn K (.ref xOldest) "present" = some none)
    (n_Oldest_last : PySem.W.findIn K (.ref xOldest) "last" = some none)
    (a_First : PySem.W.nsIn K mainGlobals "First" = some (some (.ref xFirst))) (pg_First : PySem.W.plainGet K xFirst Str.empty = true) (hd_First : PySem.W.hasDictIn K xFirst = true) (po_First : PySem.W.plainOver K xFirst = true) (sa_First : PySem.W.findIn K (.ref xFirst) "__setattr__" = some (some (.builtin "object.__setattr__")))
    (n_First_stock : PySem.W.findIn K (.ref xFirst) "stock" = some none)
    (n_First_places : PySem.W.findIn K (.ref xFirst) "places" = some none)
    (n_First_present : PySem.W.findIn K (.ref xFirst) "present" = some none)
    (n_First_last : PySem.W.findIn K (.ref xFirst) "last" = some none)
    (n_First_put_at : PySem.W.findIn K (.ref xFirst) "put_at" = some none)
    (a_Halving : PySem.W.nsIn K mainGlobals "Halving" = some (some (.ref xHalving))) (pg_Halving : PySem.W.plainGet K xHalving Str.empty = true) (hd_Halving : PySem.W.hasDictIn K xHalving = true) (po_Halving : PySem.W.plainOver K xHalving = true) (sa_Halving : PySem.W.findIn K (.ref xHalving) "__setattr__" = some (some (.builtin "object.__setattr__")))
    (n_Halving_stock : PySem.W.findIn K (.ref xHalving) "stock" = some none)
    (n_Halving_places : PySem.W.findIn K (.ref xHalving) "places" = some none)
    (n_Halving_present : PySem.W.findIn K (.ref xHalving) "present" = some none)
    (n_Halving_last : PySem.W.findIn K (.ref xHalving) "last" = some none)
    (n_Halving_turn : PySem.W.findIn K (.ref xHalving) "turn" = some none)
    (n_Halving_tally : PySem.W.findIn K (.ref xHalving) "tally" = some none)
    (a_Farthest : PySem.W.nsIn K mainGlobals "Farthest" = some (some (.ref xFarthest))) (pg_Farthest : PySem.W.plainGet K xFarthest Str.empty = true) (hd_Farthest : PySem.W.hasDictIn K xFarthest = true) (po_Farthest : PySem.W.plainOver K xFarthest = true) (sa_Farthest : PySem.W.findIn K (.ref xFarthest) "__setattr__" = some (some (.builtin "object.__setattr__")))
    (n_Farthest_stock : PySem.W.findIn K (.ref xFarthest) "stock" = some none)
    (n_Farthest_places : PySem.W.findIn K (.ref xFarthest) "places" = some none)
    (n_Farthest_present : PySem.W.findIn K (.ref xFarthest) "present" = some none)
    (n_Farthest_last : PySem.W.findIn K (.ref xFarthest) "last" = some none)
    (n_Farthest_asks : PySem.W.findIn K (.ref xFarthest) "asks" = some none)
    : ∃ fd : FuncData, (∀ (s : Shared) (v : Value), BindsTo s fd ⟨[v], []⟩ [("_law_script", v)]) ∧ ∀ base : Heap, K.In base → base.Ns mainGlobals mg → FnOk l.prog w K mg base CX0 9 fa fd ["_law_script"] (sp_law K) := by
  have e := hfa.symm.trans (PySem.W.mg_of X G a69)
  cases e
  have T : Txt K mg xStock xRule xRanked xOldest xFirst xHalving xFarthest := ⟨PySem.W.mg_of X G a_Stock, ⟨pg_Stock, hd_Stock, po_Stock, sa_Stock⟩, n_Stock_things, PySem.W.mg_of X G a_Rule, ⟨pg_Rule, hd_Rule, po_Rule, sa_Rule⟩, PySem.W.mg_of X G a_Ranked, ⟨pg_Ranked, hd_Ranked, po_Ranked, sa_Ranked⟩, n_Ranked_stock, n_Ranked_places, n_Ranked_present, n_Ranked_last, PySem.W.mg_of X G a_Oldest, ⟨pg_Oldest, hd_Oldest, po_Oldest, sa_Oldest⟩, n_Oldest_stock, n_Oldest_places, n_Oldest_present, n_Oldest_last, PySem.W.mg_of X G a_First, ⟨pg_First, hd_First, po_First, sa_First⟩, n_First_stock, n_First_places, n_First_present, n_First_last, n_First_put_at, PySem.W.mg_of X G a_Halving, ⟨pg_Halving, hd_Halving, po_Halving, sa_Halving⟩, n_Halving_stock, n_Halving_places, n_Halving_present, n_Halving_last, n_Halving_turn, n_Halving_tally, PySem.W.mg_of X G a_Farthest, ⟨pg_Farthest, hd_Farthest, po_Farthest, sa_Farthest⟩, n_Farthest_stock, n_Farthest_places, n_Farthest_present, n_Farthest_last, n_Farthest_asks, PySem.W.mg_none_of X G z_len, PySem.W.mg_none_of X G z_isinstance, PySem.W.mg_none_of X G z_int, PySem.W.mg_none_of X G z_bool, PySem.W.mg_none_of X G z_str, PySem.W.mg_none_of X G z_list, PySem.W.mg_none_of X G z_tuple, PySem.W.mg_none_of X G z_all, PySem.W.mg_none_of X G z_range, PySem.W.mg_none_of X G z_sum, PySem.W.mg_none_of X G z_enumerate, PySem.W.mg_none_of X G z_zip, PySem.W.mg_none_of X G z_max, PySem.W.mg_none_of X G z_min, PySem.W.mg_none_of X G z_dict, ⟨_, PySem.W.mg_of X G g_LETTERS⟩, ⟨_, PySem.W.mg_of X G g_FIGURES⟩, ⟨_, PySem.W.mg_of X G g_MOST_SIGNS⟩, ⟨_, PySem.W.mg_of X G g_MOST_THINGS⟩, ⟨_, PySem.W.mg_of X G g_MOST_ROOM⟩, ⟨_, PySem.W.mg_of X G g_MOST_PLACES⟩, ⟨_, PySem.W.mg_of X G g_MOST_ASKS⟩, ⟨_, PySem.W.mg_of X G g_MOST_TURN⟩⟩
  have F0 := fun_mk (st := s_made_of) l0 c0 k0
  have F1 := fun_mk (st := s_is_name) l1 c1 k1
  have F2 := fun_mk (st := s_is_whole) l2 c2 k2
  have F3 := fun_mk (st := s_is_within) l3 c3 k3
  have F4 := fun_mk (st := s_check_places) l4 c4 k4
  have F5 := fun_mk (st := s_check_thing) l5 c5 k5
  have F6 := fun_mk (st := s_Stock_init) l6 c6 kf6
  have F7 := fun_mk (st := s_Stock_has) l7 c7 k7
  have F8 := fun_mk (st := s_Stock_thing_of) l8 c8 k8
  have F9 := fun_mk (st := s_Stock_room_of) l9 c9 k9
  have F10 := fun_mk (st := s_check_asks) l10 c10 k10
  have F11 := fun_mk (st := s_Rule_init) l11 c11 kf11
  have F12 := fun_mk (st := s_Ranked_init) l12 c12 kf12
  have F13 := fun_mk (st := s_Oldest_init) l13 c13 kf13
  have F14 := fun_mk (st := s_First_init) l14 c14 kf14
  have F15 := funD_mk (st := s_Halving_init) (dv := [.int 8 dk15]) l15 c15 kf15 ld15 rfl
  have F16 := fun_mk (st := s_Farthest_init) l16 c16 kf16
  have F17 := fun_mk (st := s_Ranked_number_ask) l17 c17 k17
  have F18 := fun_mk (st := s_Ranked_asked) l18 c18 k18
  have F19 := fun_mk (st := s_Ranked_last_of) l19 c19 k19
  have F20 := fun_mk (st := s_Ranked_rank) l20 c20 k20
  have F21 := fun_mk (st := s_Ranked_choice) l21 c21 k21
  have F22 := fun_mk (st := s_Ranked_gone) l22 c22 k22
  have F23 := fun_mk (st := s_Ranked_came) l23 c23 k23
  have F24 := fun_mk (st := s_Oldest_number_ask) l24 c24 k24
  have F25 := fun_mk (st := s_Oldest_asked) l25 c25 k25
  have F26 := fun_mk (st := s_Oldest_last_of) l26 c26 k26
  have F27 := fun_mk (st := s_Oldest_rank) l27 c27 k27
  have F28 := fun_mk (st := s_Oldest_choice) l28 c28 k28
  have F29 := fun_mk (st := s_Oldest_gone) l29 c29 k29
  have F30 := fun_mk (st := s_Oldest_came) l30 c30 k30
  have F31 := fun_mk (st := s_First_number_ask) l31 c31 k31
  have F32 := fun_mk (st := s_First_asked) l32 c32 k32
  have F33 := fun_mk (st := s_First_rank) l33 c33 k33
  have F34 := fun_mk (st := s_First_choice) l34 c34 k34
  have F35 := fun_mk (st := s_First_gone) l35 c35 k35
  have F36 := fun_mk (st := s_First_came) l36 c36 k36
  have F37 := fun_mk (st := s_Halving_halve) l37 c37 k37
  have F38 := fun_mk (st := s_Halving_number_ask) l38 c38 k38
  have F39 := fun_mk (st := s_Halving_counts) l39 c39 k39
  have F40 := fun_mk (st := s_Halving_asked) l40 c40 k40
  have F41 := fun_mk (st := s_Halving_last_of) l41 c41 k41
  have F42 := fun_mk (st := s_Halving_rank) l42 c42 k42
  have F43 := fun_mk (st := s_Halving_choice) l43 c43 k43
  have F44 := fun_mk (st := s_Halving_gone) l44 c44 k44
  have F45 := fun_mk (st := s_Halving_came) l45 c45 k45
  have F46 := fun_mk (st := s_Farthest_number_ask) l46 c46 k46
  have F47 := fun_mk (st := s_Farthest_last_of) l47 c47 k47
  have F48 := fun_mk (st := s_Farthest_coming_of) l48 c48 k48
  have F49 := fun_mk (st := s_Farthest_rank) l49 c49 k49
  have F50 := fun_mk (st := s_Farthest_asked) l50 c50 k50
  have F51 := fun_mk (st := s_Farthest_choice) l51 c51 k51
  have F52 := fun_mk (st := s_Farthest_gone) l52 c52 k52
  have F53 := fun_mk (st := s_Farthest_came) l53 c53 k53
  have F54 := fun_mk (st := s_l_cell) l54 c54 k54
  have F55 := fun_mk (st := s_l_stream) l55 c55 k55
  have F56 := fun_mk (st := s_l_names) l56 c56 k56
  have F57 := fun_mk (st := s_l_rows) l57 c57 k57
  have F58 := fun_mk (st := s_l_places) l58 c58 k58
  have F59 := fun_mk (st := s_l_asks) l59 c59 k59
  have F60 := fun_mk (st := s_l_rooms) l60 c60 k60
  have F61 := fun_mk (st := s_l_made) l61 c61 k61
  have F62 := fun_mk (st := s_l_next) l62 c62 k62
  have F63 := fun_mk (st := s_l_due) l63 c63 k63
  have F64 := fun_mk (st := s_l_rank) l64 c64 k64
  have F65 := fun_mk (st := s_l_all_ranks) l65 c65 k65
  have F66 := fun_mk (st := s_l_counted) l66 c66 k66
  have F67 := fun_mk (st := s_l_least) l67 c67 k67
  have F68 := fun_mk (st := s_l_led) l68 c68 k68
  have F69 := fun_mk (st := s_law) l69 c69 k69
  refine ⟨PySem.W.fnOf "law" "law" (defArgs s_law) (defBody s_law) (defScope s_law) .none kV69 dc69 pm69 an69 cd69 ct69, fun s v => .of_eq rfl, fun base _ _ => ?_⟩
  have D_made_of : Def l.prog w K mg base CX0 1 "made_of" ["text", "signs"] (sp_made) := ⟨⟨f0, _, ok_made_of F0 T , PySem.W.mg_of X G a0, k0, F0.binds (ps := ["text", "signs"]) fun _ _ _ _ _ _ us hl => match us, hl with | [_, _], _ => rfl⟩⟩
  have D_is_name : Def l.prog w K mg base CX0 2 "is_name" ["thing"] (sp_is_name K) := ⟨⟨f1, _, ok_is_name F1 T D_made_of, PySem.W.mg_of X G a1, k1, F1.binds (ps := ["thing"]) fun _ _ _ _ _ _ us hl => match us, hl with | [_], _ => rfl⟩⟩
  have D_is_whole : Def l.prog w K mg base CX0 1 "is_whole" ["thing"] (sp_is_whole K) := ⟨⟨f2, _, ok_is_whole F2 T , PySem.W.mg_of X G a2, k2, F2.binds (ps := ["thing"]) fun _ _ _ _ _ _ us hl => match us, hl with | [_], _ => rfl⟩⟩
  have D_is_within : Def l.prog w K mg base CX0 2 "is_within" ["thing", "least", "most"] (sp_within K) := ⟨⟨f3, _, ok_is_within F3 T D_is_whole, PySem.W.mg_of X G a3, k3, F3.binds (ps := ["thing", "least", "most"]) fun _ _ _ _ _ _ us hl => match us, hl with | [_, _, _], _ => rfl⟩⟩
  have D_check_places : Def l.prog w K mg base CX0 3 "check_places" ["places"] (sp32_check) := ⟨⟨f4, _, ok_check_places F4 T D_is_within, PySem.W.mg_of X G a4, k4, F4.binds (ps := ["places"]) fun _ _ _ _ _ _ us hl => match us, hl with | [_], _ => rfl⟩⟩
  have D_check_thing : Def l.prog w K mg base CX0 3 "check_thing" ["name", "cost", "room", "earlier"] (sp_checkG K) := ⟨⟨f5, _, ok_check_thing F5 T D_is_name D_is_within, PySem.W.mg_of X G a5, k5, F5.binds (ps := ["name", "cost", "room", "earlier"]) fun _ _ _ _ _ _ us hl => match us, hl with | [_, _, _, _], _ => rfl⟩⟩
  have D_Stock_init : DefI l.prog w K mg base CX0 4 "Stock" xStock ["self", "rows"] (sp_initG K xStock) := ⟨⟨f6, _, ok_Stock_init F6 T D_check_thing, ⟨m6, a6, n6, k6⟩, PySem.W.mg_of X G a_Stock, F6.binds (ps := ["self", "rows"]) fun _ _ _ _ _ _ us hl => match us, hl with | [_, _], _ => rfl⟩⟩
  have D_Stock_has : DefM l.prog w K mg base CX0 1 xStock "has" ["self", "name"] (sp_has K xStock) := ⟨⟨f7, _, ok_Stock_has F7 T , ⟨a7, n7, k7⟩, F7.binds (ps := ["self", "name"]) fun _ _ _ _ _ _ us hl => match us, hl with | [_, _], _ => rfl⟩⟩
  have D_Stock_thing_of : DefM l.prog w K mg base CX0 1 xStock "thing_of" ["self", "name"] (sp32_thing K xStock) := ⟨⟨f8, _, ok_Stock_thing_of F8 T , ⟨a8, n8, k8⟩, F8.binds (ps := ["self", "name"]) fun _ _ _ _ _ _ us hl => match us, hl with | [_, _], _ => rfl⟩⟩
  have D_Stock_room_of : DefM l.prog w K mg base CX0 2 xStock "room_of" ["self", "name"] (sp32_room K xStock) := ⟨⟨f9, _, ok_Stock_room_of F9 T D_Stock_thing_of, ⟨a9, n9, k9⟩, F9.binds (ps := ["self", "name"]) fun _ _ _ _ _ _ us hl => match us, hl with | [_, _], _ => rfl⟩⟩
  have D_check_asks : Def l.prog w K mg base CX0 4 "check_asks" ["stock", "asks", "places"] (N41.sp41_asks K xStock) := ⟨⟨f10, _, ok_check_asks F10 T D_check_places D_Stock_has D_Stock_room_of, PySem.W.mg_of X G a10, k10, F10.binds (ps := ["stock", "asks", "places"]) fun _ _ _ _ _ _ us hl => match us, hl with | [_, _, _], _ => rfl⟩⟩
  have D_Rule_init : DefB l.prog w K mg base CX0 4 "Rule" xRule ["self", "stock", "places"] (sp29_rinit (C5.mk xRanked xOldest xFirst xHalving xFarthest)) := ⟨⟨f11, _, ok_Rule_init F11 T D_check_places, ⟨m11, a11, n11, k11⟩, PySem.W.mg_of X G a_Rule, F11.binds (ps := ["self", "stock", "places"]) fun _ _ _ _ _ _ us hl => match us, hl with | [_, _, _], _ => rfl, fc11, kf11⟩, sc11, rc11⟩
  have D_Ranked_init : DefB l.prog w K mg base CX0 5 "Ranked" xRanked ["self", "stock", "places"] (sp29_kinit (C5.mk xRanked xOldest xFirst xHalving xFarthest)) := ⟨⟨f12, _, ok_Ranked_init F12 T D_Rule_init, ⟨m12, a12, n12, k12⟩, PySem.W.mg_of X G a_Ranked, F12.binds (ps := ["self", "stock", "places"]) fun _ _ _ _ _ _ us hl => match us, hl with | [_, _, _], _ => rfl, fc12, kf12⟩, sc12, rc12⟩
  have D_Oldest_init : DefI l.prog w K mg base CX0 5 "Oldest" xOldest ["self", "stock", "places"] (sp29_kinit (C5.mk xRanked xOldest xFirst xHalving xFarthest)) := ⟨⟨f13, _, ok_Oldest_init F13 T D_Rule_init, ⟨m13, a13, n13, k13⟩, PySem.W.mg_of X G a_Oldest, F13.binds (ps := ["self", "stock", "places"]) fun _ _ _ _ _ _ us hl => match us, hl with | [_, _, _], _ => rfl⟩⟩
  have D_First_init : DefI l.prog w K mg base CX0 6 "First" xFirst ["self", "stock", "places"] (sp22_init xFirst) := ⟨⟨f14, _, ok_First_init F14 T D_Ranked_init, ⟨m14, a14, n14, k14⟩, PySem.W.mg_of X G a_First, F14.binds (ps := ["self", "stock", "places"]) fun _ _ _ _ _ _ us hl => match us, hl with | [_, _, _], _ => rfl⟩⟩
  have D_Halving_init : DefIK l.prog w K mg base CX0 6 "Halving" xHalving ["self", "stock", "places", "turn"] "turn" [V.int 8] (sp23_init xHalving) := ⟨⟨f15, _, _, ok_Halving_init F15 T D_is_within D_Ranked_init, ⟨m15, a15, n15, k15⟩, PySem.W.mg_of X G a_Halving, .cons ⟨_, rfl⟩ .nil, F15.binds fun _ _ _ _ _ _ _ _ _ _ => ⟨_, rfl, rfl⟩, F15.kbinds fun _ _ _ _ _ _ _ _ _ _ _ => ⟨_, rfl, rfl⟩, F15.full fun _ _ _ _ _ _ _ _ _ _ _ => ⟨_, rfl, rfl⟩⟩⟩
  have D_Farthest_init : DefI l.prog w K mg base CX0 6 "Farthest" xFarthest ["self", "stock", "places", "asks"] (sp24_init K xStock xFarthest) := ⟨⟨f16, _, ok_Farthest_init F16 T D_check_asks D_Ranked_init, ⟨m16, a16, n16, k16⟩, PySem.W.mg_of X G a_Farthest, F16.binds (ps := ["self", "stock", "places", "asks"]) fun _ _ _ _ _ _ us hl => match us, hl with | [_, _, _, _], _ => rfl⟩⟩
  have D_Ranked_number_ask : DefM l.prog w K mg base CX0 1 xRanked "number_ask" ["self", "name"] (sp21_number xRanked) := ⟨⟨f17, _, ok_Ranked_number_ask F17 T , ⟨a17, n17, k17⟩, F17.binds (ps := ["self", "name"]) fun _ _ _ _ _ _ us hl => match us, hl with | [_, _], _ => rfl⟩⟩
  have D_Ranked_asked : DefM l.prog w K mg base CX0 2 xRanked "asked" ["self", "name"] (sp29_asked (C5.mk xRanked xOldest xFirst xHalving xFarthest) .ra) := ⟨⟨f18, _, ok_Ranked_asked F18 T D_Ranked_number_ask, ⟨a18, n18, k18⟩, F18.binds (ps := ["self", "name"]) fun _ _ _ _ _ _ us hl => match us, hl with | [_, _], _ => rfl⟩⟩
  have D_Ranked_last_of : DefM l.prog w K mg base CX0 1 xRanked "last_of" ["self", "name"] (sp29_last2 xRanked) := ⟨⟨f19, _, ok_Ranked_last_of F19 T , ⟨a19, n19, k19⟩, F19.binds (ps := ["self", "name"]) fun _ _ _ _ _ _ us hl => match us, hl with | [_, _], _ => rfl⟩⟩
  have D_Ranked_rank : DefV l.prog w K mg base 2 xRanked "rank" ["self", "name"] (sp29_rank (C5.mk xRanked xOldest xFirst xHalving xFarthest) .ra) := ⟨⟨f20, _, ok_Ranked_rank F20 T D_Ranked_last_of, ⟨a20, n20, k20⟩, F20.binds (ps := ["self", "name"]) fun _ _ _ _ _ _ us hl => match us, hl with | [_, _], _ => rfl, gv20, tv20⟩⟩
  have D_Ranked_choice : DefM l.prog w K mg base CX0 4 xRanked "choice" ["self", "lying"] (sp29_choice (C5.mk xRanked xOldest xFirst xHalving xFarthest) .ra K) := ⟨⟨f21, _, ok_Ranked_choice F21 T D_Ranked_rank, ⟨a21, n21, k21⟩, F21.binds (ps := ["self", "lying"]) fun _ _ _ _ _ _ us hl => match us, hl with | [_, _], _ => rfl⟩⟩
  have D_Ranked_gone : DefM l.prog w K mg base CX0 1 xRanked "gone" ["self", "name"] (sp29_gone (C5.mk xRanked xOldest xFirst xHalving xFarthest) .ra) := ⟨⟨f22, _, ok_Ranked_gone F22 T , ⟨a22, n22, k22⟩, F22.binds (ps := ["self", "name"]) fun _ _ _ _ _ _ us hl => match us, hl with | [_, _], _ => rfl⟩⟩
  have D_Ranked_came : DefM l.prog w K mg base CX0 1 xRanked "came" ["self", "name"] (sp29_came (C5.mk xRanked xOldest xFirst xHalving xFarthest) .ra) := ⟨⟨f23, _, ok_Ranked_came F23 T , ⟨a23, n23, k23⟩, F23.binds (ps := ["self", "name"]) fun _ _ _ _ _ _ us hl => match us, hl with | [_, _], _ => rfl⟩⟩
  have D_Oldest_number_ask : DefM l.prog w K mg base CX0 1 xOldest "number_ask" ["self", "name"] (sp21_number xOldest) := ⟨⟨f24, _, ok_Oldest_number_ask F24 T , ⟨a24, n24, k24⟩, F24.binds (ps := ["self", "name"]) fun _ _ _ _ _ _ us hl => match us, hl with | [_, _], _ => rfl⟩⟩
  have D_Oldest_asked : DefM l.prog w K mg base CX0 2 xOldest "asked" ["self", "name"] (sp29_asked (C5.mk xRanked xOldest xFirst xHalving xFarthest) .ol) := ⟨⟨f25, _, ok_Oldest_asked F25 T D_Oldest_number_ask, ⟨a25, n25, k25⟩, F25.binds (ps := ["self", "name"]) fun _ _ _ _ _ _ us hl => match us, hl with | [_, _], _ => rfl⟩⟩
  have D_Oldest_last_of : DefM l.prog w K mg base CX0 1 xOldest "last_of" ["self", "name"] (sp29_last2 xOldest) := ⟨⟨f26, _, ok_Oldest_last_of F26 T , ⟨a26, n26, k26⟩, F26.binds (ps := ["self", "name"]) fun _ _ _ _ _ _ us hl => match us, hl with | [_, _], _ => rfl⟩⟩
  have D_Oldest_rank : DefV l.prog w K mg base 2 xOldest "rank" ["self", "name"] (sp29_rank (C5.mk xRanked xOldest xFirst xHalving xFarthest) .ol) := ⟨⟨f27, _, ok_Oldest_rank F27 T D_Oldest_last_of, ⟨a27, n27, k27⟩, F27.binds (ps := ["self", "name"]) fun _ _ _ _ _ _ us hl => match us, hl with | [_, _], _ => rfl, gv27, tv27⟩⟩
  have D_Oldest_choice : DefM l.prog w K mg base CX0 4 xOldest "choice" ["self", "lying"] (sp29_choice (C5.mk xRanked xOldest xFirst xHalving xFarthest) .ol K) := ⟨⟨f28, _, ok_Oldest_choice F28 T D_Oldest_rank, ⟨a28, n28, k28⟩, F28.binds (ps := ["self", "lying"]) fun _ _ _ _ _ _ us hl => match us, hl with | [_, _], _ => rfl⟩⟩
  have D_Oldest_gone : DefM l.prog w K mg base CX0 1 xOldest "gone" ["self", "name"] (sp29_gone (C5.mk xRanked xOldest xFirst xHalving xFarthest) .ol) := ⟨⟨f29, _, ok_Oldest_gone F29 T , ⟨a29, n29, k29⟩, F29.binds (ps := ["self", "name"]) fun _ _ _ _ _ _ us hl => match us, hl with | [_, _], _ => rfl⟩⟩
  have D_Oldest_came : DefM l.prog w K mg base CX0 1 xOldest "came" ["self", "name"] (sp29_came (C5.mk xRanked xOldest xFirst xHalving xFarthest) .ol) := ⟨⟨f30, _, ok_Oldest_came F30 T , ⟨a30, n30, k30⟩, F30.binds (ps := ["self", "name"]) fun _ _ _ _ _ _ us hl => match us, hl with | [_, _], _ => rfl⟩⟩
  have D_First_number_ask : DefM l.prog w K mg base CX0 1 xFirst "number_ask" ["self", "name"] (sp22_number xFirst) := ⟨⟨f31, _, ok_First_number_ask F31 T , ⟨a31, n31, k31⟩, F31.binds (ps := ["self", "name"]) fun _ _ _ _ _ _ us hl => match us, hl with | [_, _], _ => rfl⟩⟩
  have D_First_asked : DefM l.prog w K mg base CX0 2 xFirst "asked" ["self", "name"] (sp29_asked (C5.mk xRanked xOldest xFirst xHalving xFarthest) .fi) := ⟨⟨f32, _, ok_First_asked F32 T D_First_number_ask, ⟨a32, n32, k32⟩, F32.binds (ps := ["self", "name"]) fun _ _ _ _ _ _ us hl => match us, hl with | [_, _], _ => rfl⟩⟩
  have D_First_rank : DefV l.prog w K mg base 2 xFirst "rank" ["self", "name"] (sp29_rank (C5.mk xRanked xOldest xFirst xHalving xFarthest) .fi) := ⟨⟨f33, _, ok_First_rank F33 T , ⟨a33, n33, k33⟩, F33.binds (ps := ["self", "name"]) fun _ _ _ _ _ _ us hl => match us, hl with | [_, _], _ => rfl, gv33, tv33⟩⟩
  have D_First_choice : DefM l.prog w K mg base CX0 4 xFirst "choice" ["self", "lying"] (sp29_choice (C5.mk xRanked xOldest xFirst xHalving xFarthest) .fi K) := ⟨⟨f34, _, ok_First_choice F34 T D_First_rank, ⟨a34, n34, k34⟩, F34.binds (ps := ["self", "lying"]) fun _ _ _ _ _ _ us hl => match us, hl with | [_, _], _ => rfl⟩⟩
  have D_First_gone : DefM l.prog w K mg base CX0 1 xFirst "gone" ["self", "name"] (sp29_gone (C5.mk xRanked xOldest xFirst xHalving xFarthest) .fi) := ⟨⟨f35, _, ok_First_gone F35 T , ⟨a35, n35, k35⟩, F35.binds (ps := ["self", "name"]) fun _ _ _ _ _ _ us hl => match us, hl with | [_, _], _ => rfl⟩⟩
  have D_First_came : DefM l.prog w K mg base CX0 1 xFirst "came" ["self", "name"] (sp29_came (C5.mk xRanked xOldest xFirst xHalving xFarthest) .fi) := ⟨⟨f36, _, ok_First_came F36 T , ⟨a36, n36, k36⟩, F36.binds (ps := ["self", "name"]) fun _ _ _ _ _ _ us hl => match us, hl with | [_, _], _ => rfl⟩⟩
  have D_Halving_halve : DefM l.prog w K mg base CX0 1 xHalving "halve" ["self"] (sp23_halve xHalving) := ⟨⟨f37, _, ok_Halving_halve F37 T , ⟨a37, n37, k37⟩, F37.binds (ps := ["self"]) fun _ _ _ _ _ _ us hl => match us, hl with | [_], _ => rfl⟩⟩
  have D_Halving_number_ask : DefM l.prog w K mg base CX0 1 xHalving "number_ask" ["self", "name"] (sp23_number xHalving) := ⟨⟨f38, _, ok_Halving_number_ask F38 T , ⟨a38, n38, k38⟩, F38.binds (ps := ["self", "name"]) fun _ _ _ _ _ _ us hl => match us, hl with | [_, _], _ => rfl⟩⟩
  have D_Halving_counts : DefM l.prog w K mg base CX0 1 xHalving "counts" ["self"] (sp23_counts xHalving) := ⟨⟨f39, _, ok_Halving_counts F39 T , ⟨a39, n39, k39⟩, F39.binds (ps := ["self"]) fun _ _ _ _ _ _ us hl => match us, hl with | [_], _ => rfl⟩⟩
  have D_Halving_asked : DefM l.prog w K mg base CX0 2 xHalving "asked" ["self", "name"] (sp29_asked (C5.mk xRanked xOldest xFirst xHalving xFarthest) .ha) := ⟨⟨f40, _, ok_Halving_asked F40 T D_Halving_halve D_Halving_number_ask, ⟨a40, n40, k40⟩, F40.binds (ps := ["self", "name"]) fun _ _ _ _ _ _ us hl => match us, hl with | [_, _], _ => rfl⟩⟩
  have D_Halving_last_of : DefM l.prog w K mg base CX0 1 xHalving "last_of" ["self", "name"] (sp29_last4 xHalving) := ⟨⟨f41, _, ok_Halving_last_of F41 T , ⟨a41, n41, k41⟩, F41.binds (ps := ["self", "name"]) fun _ _ _ _ _ _ us hl => match us, hl with | [_, _], _ => rfl⟩⟩
  have D_Halving_rank : DefV l.prog w K mg base 2 xHalving "rank" ["self", "name"] (sp29_rank (C5.mk xRanked xOldest xFirst xHalving xFarthest) .ha) := ⟨⟨f42, _, ok_Halving_rank F42 T D_Halving_last_of, ⟨a42, n42, k42⟩, F42.binds (ps := ["self", "name"]) fun _ _ _ _ _ _ us hl => match us, hl with | [_, _], _ => rfl, gv42, tv42⟩⟩
  have D_Halving_choice : DefM l.prog w K mg base CX0 4 xHalving "choice" ["self", "lying"] (sp29_choice (C5.mk xRanked xOldest xFirst xHalving xFarthest) .ha K) := ⟨⟨f43, _, ok_Halving_choice F43 T D_Halving_rank, ⟨a43, n43, k43⟩, F43.binds (ps := ["self", "lying"]) fun _ _ _ _ _ _ us hl => match us, hl with | [_, _], _ => rfl⟩⟩
  have D_Halving_gone : DefM l.prog w K mg base CX0 1 xHalving "gone" ["self", "name"] (sp29_gone (C5.mk xRanked xOldest xFirst xHalving xFarthest) .ha) := ⟨⟨f44, _, ok_Halving_gone F44 T , ⟨a44, n44, k44⟩, F44.binds (ps := ["self", "name"]) fun _ _ _ _ _ _ us hl => match us, hl with | [_, _], _ => rfl⟩⟩
  have D_Halving_came : DefM l.prog w K mg base CX0 1 xHalving "came" ["self", "name"] (sp29_came (C5.mk xRanked xOldest xFirst xHalving xFarthest) .ha) := ⟨⟨f45, _, ok_Halving_came F45 T , ⟨a45, n45, k45⟩, F45.binds (ps := ["self", "name"]) fun _ _ _ _ _ _ us hl => match us, hl with | [_, _], _ => rfl⟩⟩
  have D_Farthest_number_ask : DefM l.prog w K mg base CX0 1 xFarthest "number_ask" ["self", "name"] (sp24_number xFarthest) := ⟨⟨f46, _, ok_Farthest_number_ask F46 T , ⟨a46, n46, k46⟩, F46.binds (ps := ["self", "name"]) fun _ _ _ _ _ _ us hl => match us, hl with | [_, _], _ => rfl⟩⟩
  have D_Farthest_last_of : DefM l.prog w K mg base CX0 1 xFarthest "last_of" ["self", "name"] (sp29_last3 xFarthest) := ⟨⟨f47, _, ok_Farthest_last_of F47 T , ⟨a47, n47, k47⟩, F47.binds (ps := ["self", "name"]) fun _ _ _ _ _ _ us hl => match us, hl with | [_, _], _ => rfl⟩⟩
  have D_Farthest_coming_of : DefM l.prog w K mg base CX0 1 xFarthest "coming_of" ["self", "name"] (sp24_coming xFarthest) := ⟨⟨f48, _, ok_Farthest_coming_of F48 T , ⟨a48, n48, k48⟩, F48.binds (ps := ["self", "name"]) fun _ _ _ _ _ _ us hl => match us, hl with | [_, _], _ => rfl⟩⟩
  have D_Farthest_rank : DefV l.prog w K mg base 2 xFarthest "rank" ["self", "name"] (sp29_rank (C5.mk xRanked xOldest xFirst xHalving xFarthest) .fa) := ⟨⟨f49, _, ok_Farthest_rank F49 T D_Farthest_coming_of D_Farthest_last_of, ⟨a49, n49, k49⟩, F49.binds (ps := ["self", "name"]) fun _ _ _ _ _ _ us hl => match us, hl with | [_, _], _ => rfl, gv49, tv49⟩⟩
  have D_Farthest_asked : DefM l.prog w K mg base CX0 2 xFarthest "asked" ["self", "name"] (sp29_asked (C5.mk xRanked xOldest xFirst xHalving xFarthest) .fa) := ⟨⟨f50, _, ok_Farthest_asked F50 T D_Farthest_number_ask, ⟨a50, n50, k50⟩, F50.binds (ps := ["self", "name"]) fun _ _ _ _ _ _ us hl => match us, hl with | [_, _], _ => rfl⟩⟩
  have D_Farthest_choice : DefM l.prog w K mg base CX0 4 xFarthest "choice" ["self", "lying"] (sp29_choice (C5.mk xRanked xOldest xFirst xHalving xFarthest) .fa K) := ⟨⟨f51, _, ok_Farthest_choice F51 T D_Farthest_rank, ⟨a51, n51, k51⟩, F51.binds (ps := ["self", "lying"]) fun _ _ _ _ _ _ us hl => match us, hl with | [_, _], _ => rfl⟩⟩
  have D_Farthest_gone : DefM l.prog w K mg base CX0 1 xFarthest "gone" ["self", "name"] (sp29_gone (C5.mk xRanked xOldest xFirst xHalving xFarthest) .fa) := ⟨⟨f52, _, ok_Farthest_gone F52 T , ⟨a52, n52, k52⟩, F52.binds (ps := ["self", "name"]) fun _ _ _ _ _ _ us hl => match us, hl with | [_, _], _ => rfl⟩⟩
  have D_Farthest_came : DefM l.prog w K mg base CX0 1 xFarthest "came" ["self", "name"] (sp29_came (C5.mk xRanked xOldest xFirst xHalving xFarthest) .fa) := ⟨⟨f53, _, ok_Farthest_came F53 T , ⟨a53, n53, k53⟩, F53.binds (ps := ["self", "name"]) fun _ _ _ _ _ _ us hl => match us, hl with | [_, _], _ => rfl⟩⟩
  have D_l_cell : Def l.prog w K mg base CX0 1 "_law_cell" ["_law_script", "_law_k"] (sp_cell K) := ⟨⟨f54, _, ok_l_cell F54 T , PySem.W.mg_of X G a54, k54, F54.binds (ps := ["_law_script", "_law_k"]) fun _ _ _ _ _ _ us hl => match us, hl with | [_, _], _ => rfl⟩⟩
  have D_l_stream : Def l.prog w K mg base CX0 1 "_law_stream" ["_law_cell_here", "_law_many"] (sp20_stream) := ⟨⟨f55, _, ok_l_stream F55 T , PySem.W.mg_of X G a55, k55, F55.binds (ps := ["_law_cell_here", "_law_many"]) fun _ _ _ _ _ _ us hl => match us, hl with | [_, _], _ => rfl⟩⟩
  have D_l_names : Def l.prog w K mg base CX0 1 "_law_names" ["_law_cell_here", "_law_many"] (sp20_names) := ⟨⟨f56, _, ok_l_names F56 T , PySem.W.mg_of X G a56, k56, F56.binds (ps := ["_law_cell_here", "_law_many"]) fun _ _ _ _ _ _ us hl => match us, hl with | [_, _], _ => rfl⟩⟩
  have D_l_rows : Def l.prog w K mg base CX0 2 "_law_rows" ["_law_script"] (sp20_rows K) := ⟨⟨f57, _, ok_l_rows F57 T D_l_cell D_l_names D_l_stream, PySem.W.mg_of X G a57, k57, F57.binds (ps := ["_law_script"]) fun _ _ _ _ _ _ us hl => match us, hl with | [_], _ => rfl⟩⟩
  have D_l_places : Def l.prog w K mg base CX0 1 "_law_places" ["_law_rows_here", "_law_cell_here"] (sp20_places K) := ⟨⟨f58, _, ok_l_places F58 T , PySem.W.mg_of X G a58, k58, F58.binds (ps := ["_law_rows_here", "_law_cell_here"]) fun _ _ _ _ _ _ us hl => match us, hl with | [_, _], _ => rfl⟩⟩
  have D_l_asks : Def l.prog w K mg base CX0 2 "_law_asks" ["_law_script", "_law_rows_here"] (sp20_asks K) := ⟨⟨f59, _, ok_l_asks F59 T D_l_cell D_l_stream, PySem.W.mg_of X G a59, k59, F59.binds (ps := ["_law_script", "_law_rows_here"]) fun _ _ _ _ _ _ us hl => match us, hl with | [_, _], _ => rfl⟩⟩
  have D_l_rooms : Def l.prog w K mg base CX0 1 "_law_rooms" ["_law_rows_here"] (sp20_rooms K) := ⟨⟨f60, _, ok_l_rooms F60 T , PySem.W.mg_of X G a60, k60, F60.binds (ps := ["_law_rows_here"]) fun _ _ _ _ _ _ us hl => match us, hl with | [_], _ => rfl⟩⟩
  have D_l_made : Def l.prog w K mg base CX0 8 "_law_made" ["_law_which", "_law_stock", "_law_places_here", "_law_asks_here", "_law_turn"] (sp29_made (C5.mk xRanked xOldest xFirst xHalving xFarthest) K xStock) := ⟨⟨f61, _, ok_l_made F61 T D_Ranked_init D_Oldest_init D_First_init D_Halving_init D_Farthest_init, PySem.W.mg_of X G a61, k61, F61.binds (ps := ["_law_which", "_law_stock", "_law_places_here", "_law_asks_here", "_law_turn"]) fun _ _ _ _ _ _ us hl => match us, hl with | [_, _, _, _, _], _ => rfl⟩⟩
  have D_l_next : Def l.prog w K mg base CX0 1 "_law_next" ["_law_asks_here", "_law_name", "_law_now"] (sp29_next K) := ⟨⟨f62, _, ok_l_next F62 T , PySem.W.mg_of X G a62, k62, F62.binds (ps := ["_law_asks_here", "_law_name", "_law_now"]) fun _ _ _ _ _ _ us hl => match us, hl with | [_, _, _], _ => rfl⟩⟩
  have D_l_due : Def l.prog w K mg base CX0 2 "_law_due" ["_law_which", "_law_kept", "_law_asks_here", "_law_name", "_law_now"] (sp29_due K) := ⟨⟨f63, _, ok_l_due F63 T D_l_next, PySem.W.mg_of X G a63, k63, F63.binds (ps := ["_law_which", "_law_kept", "_law_asks_here", "_law_name", "_law_now"]) fun _ _ _ _ _ _ us hl => match us, hl with | [_, _, _, _, _], _ => rfl⟩⟩
  have D_l_rank : Def l.prog w K mg base CX0 1 "_law_rank" ["_law_found", "_law_due_here"] (sp29_lrank K) := ⟨⟨f64, _, ok_l_rank F64 T , PySem.W.mg_of X G a64, k64, F64.binds (ps := ["_law_found", "_law_due_here"]) fun _ _ _ _ _ _ us hl => match us, hl with | [_, _], _ => rfl⟩⟩
  have D_l_all_ranks : Def l.prog w K mg base CX0 3 "_law_all_ranks" ["_law_rule", "_law_which", "_law_kept", "_law_asks_here", "_law_now", "_law_names_here"] (sp29_all (C5.mk xRanked xOldest xFirst xHalving xFarthest) K) := ⟨⟨f65, _, ok_l_all_ranks F65 T D_l_rank D_l_due D_Ranked_rank D_Oldest_rank D_First_rank D_Halving_rank D_Farthest_rank, PySem.W.mg_of X G a65, k65, F65.binds (ps := ["_law_rule", "_law_which", "_law_kept", "_law_asks_here", "_law_now", "_law_names_here"]) fun _ _ _ _ _ _ us hl => match us, hl with | [_, _, _, _, _, _], _ => rfl⟩⟩
  have D_l_counted : Def l.prog w K mg base CX0 1 "_law_counted" ["_law_kept", "_law_name", "_law_now", "_law_turn"] (sp29_counted) := ⟨⟨f66, _, ok_l_counted F66 T , PySem.W.mg_of X G a66, k66, F66.binds (ps := ["_law_kept", "_law_name", "_law_now", "_law_turn"]) fun _ _ _ _ _ _ us hl => match us, hl with | [_, _, _, _], _ => rfl⟩⟩
  have D_l_least : Def l.prog w K mg base CX0 3 "_law_least" ["_law_rule", "_law_pick", "_law_lying"] (sp29_least (C5.mk xRanked xOldest xFirst xHalving xFarthest) K) := ⟨⟨f67, _, ok_l_least F67 T D_Ranked_rank D_Oldest_rank D_First_rank D_Halving_rank D_Farthest_rank, PySem.W.mg_of X G a67, k67, F67.binds (ps := ["_law_rule", "_law_pick", "_law_lying"]) fun _ _ _ _ _ _ us hl => match us, hl with | [_, _, _], _ => rfl⟩⟩
  have D_l_led : Def l.prog w K mg base CX0 5 "_law_led" ["_law_rule", "_law_which", "_law_asks_here", "_law_rooms_here", "_law_places_here", "_law_turn"] (sp29_led (C5.mk xRanked xOldest xFirst xHalving xFarthest) K) := ⟨⟨f68, _, ok_l_led F68 T D_l_counted D_l_all_ranks D_l_least D_Halving_counts D_Ranked_asked D_Oldest_asked D_First_asked D_Halving_asked D_Farthest_asked D_Ranked_choice D_Oldest_choice D_First_choice D_Halving_choice D_Farthest_choice D_Ranked_gone D_Oldest_gone D_First_gone D_Halving_gone D_Farthest_gone D_Ranked_came D_Oldest_came D_First_came D_Halving_came D_Farthest_came, PySem.W.mg_of X G a68, k68, F68.binds (ps := ["_law_rule", "_law_which", "_law_asks_here", "_law_rooms_here", "_law_places_here", "_law_turn"]) fun _ _ _ _ _ _ us hl => match us, hl with | [_, _, _, _, _, _], _ => rfl⟩⟩
  exact ok_law F69 T D_l_cell D_l_rows D_l_places D_l_asks D_l_rooms D_Stock_init D_l_made D_l_all_ranks D_l_led
end K29
theorem PySem.W.Fast.tw11701346857563108302 : True := trivial
theorem PySem.W.Fast.tw12900731746259989311 : True := trivial
theorem PySem.W.Fast.tw6877555407683418574 : True := trivial
theorem PySem.W.Fast.tw1139860532537719694 : True := trivial
theorem PySem.W.Fast.tw12304552803561429612 : True := trivial
theorem PySem.W.Fast.tw6997088365056079562 : True := trivial
theorem PySem.W.Fast.tw15045232914453287926 : True := trivial
theorem PySem.W.Fast.tw1010775628134650871 : True := trivial
theorem PySem.W.Fast.tw15869959349478581607 : True := trivial
theorem PySem.W.Fast.tw8749050991865749363 : True := trivial
theorem PySem.W.Fast.tw5168574478078633451 : True := trivial
theorem PySem.W.Fast.tw8947776557919045370 : True := trivial
theorem PySem.W.Fast.tw15009517580343700229 : True := trivial
theorem PySem.W.Fast.tw14862640527236733428 : True := trivial
theorem PySem.W.Fast.tw1180408993775319965 : True := trivial
theorem PySem.W.Fast.tw11502959717871778242 : True := trivial
theorem PySem.W.Fast.tw12077425072191984958 : True := trivial
theorem PySem.W.Fast.tw13512772921245301260 : True := trivial
theorem PySem.W.Fast.tw12244376189145530216 : True := trivial
theorem PySem.W.Fast.tw15095883307032886206 : True := trivial
theorem PySem.W.Fast.tw6034166207133014263 : True := trivial
theorem PySem.W.Fast.tw2653216186738879425 : True := trivial
theorem PySem.W.Fast.tw15356922349889740660 : True := trivial
theorem PySem.W.Fast.tw16217178743708914259 : True := trivial
theorem PySem.W.Fast.tw2155129047365693270 : True := trivial
theorem PySem.W.Fast.tw1179136342212305762 : True := trivial
theorem PySem.W.Fast.tw17969541551884732686 : True := trivial
theorem PySem.W.Fast.tw10204434964528886810 : True := trivial
theorem PySem.W.Fast.tw9549472366279522211 : True := trivial
theorem PySem.W.Fast.tw5484822221994685799 : True := trivial
theorem PySem.W.Fast.tw487328469180331151 : True := trivial
theorem PySem.W.Fast.tw5987982699051685477 : True := trivial
theorem PySem.W.Fast.tw860924353333336183 : True := trivial
theorem PySem.W.Fast.tw11660783370546904275 : True := trivial
theorem PySem.W.Fast.tw3319940297782762732 : True := trivial
theorem PySem.W.Fast.tw6010631385290590863 : True := trivial
theorem PySem.W.Fast.tw967525420707293423 : True := trivial
theorem PySem.W.Fast.tw5701345072298339703 : True := trivial
theorem PySem.W.Fast.tw8729088228767055525 : True := trivial
theorem PySem.W.Fast.tw8441699934982172273 : True := trivial
theorem PySem.W.Fast.tw15120765118657395832 : True := trivial
open PySem PySem.W PyProof.Rows
set_option maxRecDepth 100000 in
set_option maxHeartbeats 0 in
theorem PySem.Challenge.cw_castoff_k29_ranks_holds : PySem.Challenge.rw_castoff_k29_ranks.Holds := by
  w_on; o_law; k_head; (case hw => w_witness2)
  k_fill
  refine L2.walk_ofK (l := PySem.Challenge.rw_castoff_k29_ranks) (n := 63) (k := 9) (x := "_law_script") (CX := L2.CX0) (sp := N1.sp_law) rfl (by decide) rfl ⟨rfl, by decide, by decide⟩ (fun w h Y => PySem.W.kIn_of Y) ?F ?S ?C
  case F =>
    intro w mg fa h KX G hmg
    refine' K29.all_mk KX G hmg ?a0 ?l0 ?c0 ?k0 ?a1 ?l1 ?c1 ?k1 ?a2 ?l2 ?c2 ?k2 ?a3 ?l3 ?c3 ?k3 ?a4 ?l4 ?c4 ?k4 ?a5 ?l5 ?c5 ?k5 ?a6 ?l6 ?c6 ?n6 ?k6 ?m6 ?kf6 ?a7 ?l7 ?c7 ?n7 ?k7 ?a8 ?l8 ?c8 ?n8 ?k8 ?a9 ?l9 ?c9 ?n9 ?k9 ?a10 ?l10 ?c10 ?k10 ?a11 ?l11 ?c11 ?n11 ?k11 ?m11 ?kf11 ?fc11 ?sc11 ?rc11 ?a12 ?l12 ?c12 ?n12 ?k12 ?m12 ?kf12 ?fc12 ?sc12 ?rc12 ?a13 ?l13 ?c13 ?n13 ?k13 ?m13 ?kf13 ?a14 ?l14 ?c14 ?n14 ?k14 ?m14 ?kf14 ?a15 ?l15 ?c15 ?ld15 ?n15 ?k15 ?m15 ?kf15 ?a16 ?l16 ?c16 ?n16 ?k16 ?m16 ?kf16 ?a17 ?l17 ?c17 ?n17 ?k17 ?a18 ?l18 ?c18 ?n18 ?k18 ?a19 ?l19 ?c19 ?n19 ?k19 ?a20 ?l20 ?c20 ?n20 ?k20 ?gv20 ?tv20 ?a21 ?l21 ?c21 ?n21 ?k21 ?a22 ?l22 ?c22 ?n22 ?k22 ?a23 ?l23 ?c23 ?n23 ?k23 ?a24 ?l24 ?c24 ?n24 ?k24 ?a25 ?l25 ?c25 ?n25 ?k25 ?a26 ?l26 ?c26 ?n26 ?k26 ?a27 ?l27 ?c27 ?n27 ?k27 ?gv27 ?tv27 ?a28 ?l28 ?c28 ?n28 ?k28 ?a29 ?l29 ?c29 ?n29 ?k29 ?a30 ?l30 ?c30 ?n30 ?k30 ?a31 ?l31 ?c31 ?n31 ?k31 ?a32 ?l32 ?c32 ?n32 ?k32 ?a33 ?l33 ?c33 ?n33 ?k33 ?gv33 ?tv33 ?a34 ?l34 ?c34 ?n34 ?k34 ?a35 ?l35 ?c35 ?n35 ?k35 ?a36 ?l36 ?c36 ?n36 ?k36 ?a37 ?l37 ?c37 ?n37 ?k37 ?a38 ?l38 ?c38 ?n38 ?k38 ?a39 ?l39 ?c39 ?n39 ?k39 ?a40 ?l40 ?c40 ?n40 ?k40 ?a41 ?l41 ?c41 ?n41 ?k41 ?a42 ?l42 ?c42 ?n42 ?k42 ?gv42 ?tv42 ?a43 ?l43 ?c43 ?n43 ?k43 ?a44 ?l44 ?c44 ?n44 ?k44 ?a45 ?l45 ?c45 ?n45 ?k45 ?a46 ?l46 ?c46 ?n46 ?k46 ?a47 ?l47 ?c47 ?n47 ?k47 ?a48 ?l48 ?c48 ?n48 ?k48 ?a49 ?l49 ?c49 ?n49 ?k49 ?gv49 ?tv49 ?a50 ?l50 ?c50 ?n50 ?k50 ?a51 ?l51 ?c51 ?n51 ?k51 ?a52 ?l52 ?c52 ?n52 ?k52 ?a53 ?l53 ?c53 ?n53 ?k53 ?a54 ?l54 ?c54 ?k54 ?a55 ?l55 ?c55 ?k55 ?a56 ?l56 ?c56 ?k56 ?a57 ?l57 ?c57 ?k57 ?a58 ?l58 ?c58 ?k58 ?a59 ?l59 ?c59 ?k59 ?a60 ?l60 ?c60 ?k60 ?a61 ?l61 ?c61 ?k61 ?a62 ?l62 ?c62 ?k62 ?a63 ?l63 ?c63 ?k63 ?a64 ?l64 ?c64 ?k64 ?a65 ?l65 ?c65 ?k65 ?a66 ?l66 ?c66 ?k66 ?a67 ?l67 ?c67 ?k67 ?a68 ?l68 ?c68 ?k68 ?a69 ?l69 ?c69 ?k69 ?z_len ?z_isinstance ?z_int ?z_bool ?z_str ?z_list ?z_tuple ?z_all ?z_range ?z_sum ?z_enumerate ?z_zip ?z_max ?z_min ?z_dict ?g_LETTERS ?g_FIGURES ?g_MOST_SIGNS ?g_MOST_THINGS ?g_MOST_ROOM ?g_MOST_PLACES ?g_MOST_ASKS ?g_MOST_TURN ?a_Stock ?pg_Stock ?hd_Stock ?po_Stock ?sa_Stock ?n_Stock_things ?a_Rule ?pg_Rule ?hd_Rule ?po_Rule ?sa_Rule ?a_Ranked ?pg_Ranked ?hd_Ranked ?po_Ranked ?sa_Ranked ?n_Ranked_stock ?n_Ranked_places ?n_Ranked_present ?n_Ranked_last ?a_Oldest ?pg_Oldest ?hd_Oldest ?po_Oldest ?sa_Oldest ?n_Oldest_stock ?n_Oldest_places ?n_Oldest_present ?n_Oldest_last ?a_First ?pg_First ?hd_First ?po_First ?sa_First ?n_First_stock ?n_First_places ?n_First_present ?n_First_last ?n_First_put_at ?a_Halving ?pg_Halving ?hd_Halving ?po_Halving ?sa_Halving ?n_Halving_stock ?n_Halving_places ?n_Halving_present ?n_Halving_last ?n_Halving_turn ?n_Halving_tally ?a_Farthest ?pg_Farthest ?hd_Farthest ?po_Farthest ?sa_Farthest ?n_Farthest_stock ?n_Farthest_places ?n_Farthest_present ?n_Farthest_last ?n_Farthest_asks
    (case a_Stock => k_is)
    (case a_Rule => k_is)
    (case a_Ranked => k_is)
    (case a_Oldest => k_is)
    (case a_First => k_is)
    (case a_Halving => k_is)
    (case a_Farthest => k_is)
    (case a0 => k_is)
    (case l0 => k_is)
    (case c0 => k_is)
    (case k0 => k_is)
    (case a1 => k_is)
    (case l1 => k_is)
    (case c1 => k_is)
    (case k1 => k_is)
    (case a2 => k_is)
    (case l2 => k_is)
    (case c2 => k_is)
    (case k2 => k_is)
    (case a3 => k_is)
    (case l3 => k_is)
    (case c3 => k_is)
    (case k3 => k_is)
    (case a4 => k_is)
    (case l4 => k_is)
    (case c4 => k_is)
    (case k4 => k_is)
    (case a5 => k_is)
    (case l5 => k_is)
    (case c5 => k_is)
    (case k5 => k_is)
    (case a6 => k_is)
    (case l6 => k_is)
    (case c6 => k_is)
    (case n6 => k_is)
    (case k6 => k_is)
    (case m6 => k_is)
    (case kf6 => k_is)
    (case a7 => k_is)
    (case l7 => k_is)
    (case c7 => k_is)
    (case n7 => k_is)
    (case k7 => k_is)
    (case a8 => k_is)
    (case l8 => k_is)
    (case c8 => k_is)
    (case n8 => k_is)
    (case k8 => k_is)
    (case a9 => k_is)
    (case l9 => k_is)
    (case c9 => k_is)
    (case n9 => k_is)
    (case k9 => k_is)
    (case a10 => k_is)
    (case l10 => k_is)
    (case c10 => k_is)
    (case k10 => k_is)
    (case a11 => k_is)
    (case l11 => k_is)
    (case c11 => k_is)
    (case n11 => k_is)
    (case k11 => k_is)
    (case m11 => k_is)
    (case kf11 => k_is)
    (case fc11 => k_is)
    (case sc11 => k_is)
    (case rc11 => k_is)
    (case a12 => k_is)
    (case l12 => k_is)
    (case c12 => k_is)
    (case n12 => k_is)
    (case k12 => k_is)
    (case m12 => k_is)
    (case kf12 => k_is)
    (case fc12 => k_is)
    (case sc12 => k_is)
    (case rc12 => k_is)
    (case a13 => k_is)
    (case l13 => k_is)
    (case c13 => k_is)
    (case n13 => k_is)
    (case k13 => k_is)
    (case m13 => k_is)
    (case kf13 => k_is)
    (case a14 => k_is)
    (case l14 => k_is)
    (case c14 => k_is)
    (case n14 => k_is)
    (case k14 => k_is)
    (case m14 => k_is)
    (case kf14 => k_is)
    (case a15 => k_is)
    (case l15 => k_is)
    (case c15 => k_is)
    (case ld15 => k_is)
    (case n15 => k_is)
    (case k15 => k_is)
    (case m15 => k_is)
    (case kf15 => k_is)
    (case a16 => k_is)
    (case l16 => k_is)
    (case c16 => k_is)
    (case n16 => k_is)
    (case k16 => k_is)
    (case m16 => k_is)
    (case kf16 => k_is)
    (case a17 => k_is)
    (case l17 => k_is)
    (case c17 => k_is)
    (case n17 => k_is)
    (case k17 => k_is)
    (case a18 => k_is)
    (case l18 => k_is)
    (case c18 => k_is)
    (case n18 => k_is)
    (case k18 => k_is)
    (case a19 => k_is)
    (case l19 => k_is)
    (case c19 => k_is)
    (case n19 => k_is)
    (case k19 => k_is)
    (case a20 => k_is)
    (case l20 => k_is)
    (case c20 => k_is)
    (case n20 => k_is)
    (case k20 => k_is)
    (case gv20 => k_is)
    (case tv20 => k_is)
    (case a21 => k_is)
    (case l21 => k_is)
    (case c21 => k_is)
    (case n21 => k_is)
    (case k21 => k_is)
    (case a22 => k_is)
    (case l22 => k_is)
    (case c22 => k_is)
    (case n22 => k_is)
    (case k22 => k_is)
    (case a23 => k_is)
    (case l23 => k_is)
    (case c23 => k_is)
    (case n23 => k_is)
    (case k23 => k_is)
    (case a24 => k_is)
    (case l24 => k_is)
    (case c24 => k_is)
    (case n24 => k_is)
    (case k24 => k_is)
    (case a25 => k_is)
    (case l25 => k_is)
    (case c25 => k_is)
    (case n25 => k_is)
    (case k25 => k_is)
    (case a26 => k_is)
    (case l26 => k_is)
    (case c26 => k_is)
    (case n26 => k_is)
    (case k26 => k_is)
    (case a27 => k_is)
    (case l27 => k_is)
    (case c27 => k_is)
    (case n27 => k_is)
    (case k27 => k_is)
    (case gv27 => k_is)
    (case tv27 => k_is)
    (case a28 => k_is)
    (case l28 => k_is)
    (case c28 => k_is)
    (case n28 => k_is)
    (case k28 => k_is)
    (case a29 => k_is)
    (case l29 => k_is)
    (case c29 => k_is)
    (case n29 => k_is)
    (case k29 => k_is)
    (case a30 => k_is)
    (case l30 => k_is)
    (case c30 => k_is)
    (case n30 => k_is)
    (case k30 => k_is)
    (case a31 => k_is)
    (case l31 => k_is)
    (case c31 => k_is)
    (case n31 => k_is)
    (case k31 => k_is)
    (case a32 => k_is)
    (case l32 => k_is)
    (case c32 => k_is)
    (case n32 => k_is)
    (case k32 => k_is)
    (case a33 => k_is)
    (case l33 => k_is)
    (case c33 => k_is)
    (case n33 => k_is)
    (case k33 => k_is)
    (case gv33 => k_is)
    (case tv33 => k_is)
    (case a34 => k_is)
    (case l34 => k_is)
    (case c34 => k_is)
    (case n34 => k_is)
    (case k34 => k_is)
    (case a35 => k_is)
    (case l35 => k_is)
    (case c35 => k_is)
    (case n35 => k_is)
    (case k35 => k_is)
    (case a36 => k_is)
    (case l36 => k_is)
    (case c36 => k_is)
    (case n36 => k_is)
    (case k36 => k_is)
    (case a37 => k_is)
    (case l37 => k_is)
    (case c37 => k_is)
    (case n37 => k_is)
    (case k37 => k_is)
    (case a38 => k_is)
    (case l38 => k_is)
    (case c38 => k_is)
    (case n38 => k_is)
    (case k38 => k_is)
    (case a39 => k_is)
    (case l39 => k_is)
    (case c39 => k_is)
    (case n39 => k_is)
    (case k39 => k_is)
    (case a40 => k_is)
    (case l40 => k_is)
    (case c40 => k_is)
    (case n40 => k_is)
    (case k40 => k_is)
    (case a41 => k_is)
    (case l41 => k_is)
    (case c41 => k_is)
    (case n41 => k_is)
    (case k41 => k_is)
    (case a42 => k_is)
    (case l42 => k_is)
    (case c42 => k_is)
    (case n42 => k_is)
    (case k42 => k_is)
    (case gv42 => k_is)
    (case tv42 => k_is)
    (case a43 => k_is)
    (case l43 => k_is)
    (case c43 => k_is)
    (case n43 => k_is)
    (case k43 => k_is)
    (case a44 => k_is)
    (case l44 => k_is)
    (case c44 => k_is)
    (case n44 => k_is)
    (case k44 => k_is)
    (case a45 => k_is)
    (case l45 => k_is)
    (case c45 => k_is)
    (case n45 => k_is)
    (case k45 => k_is)
    (case a46 => k_is)
    (case l46 => k_is)
    (case c46 => k_is)
    (case n46 => k_is)
    (case k46 => k_is)
    (case a47 => k_is)
    (case l47 => k_is)
    (case c47 => k_is)
    (case n47 => k_is)
    (case k47 => k_is)
    (case a48 => k_is)
    (case l48 => k_is)
    (case c48 => k_is)
    (case n48 => k_is)
    (case k48 => k_is)
    (case a49 => k_is)
    (case l49 => k_is)
    (case c49 => k_is)
    (case n49 => k_is)
    (case k49 => k_is)
    (case gv49 => k_is)
    (case tv49 => k_is)
    (case a50 => k_is)
    (case l50 => k_is)
    (case c50 => k_is)
    (case n50 => k_is)
    (case k50 => k_is)
    (case a51 => k_is)
    (case l51 => k_is)
    (case c51 => k_is)
    (case n51 => k_is)
    (case k51 => k_is)
    (case a52 => k_is)
    (case l52 => k_is)
    (case c52 => k_is)
    (case n52 => k_is)
    (case k52 => k_is)
    (case a53 => k_is)
    (case l53 => k_is)
    (case c53 => k_is)
    (case n53 => k_is)
    (case k53 => k_is)
    (case a54 => k_is)
    (case l54 => k_is)
    (case c54 => k_is)
    (case k54 => k_is)
    (case a55 => k_is)
    (case l55 => k_is)
    (case c55 => k_is)
    (case k55 => k_is)
    (case a56 => k_is)
    (case l56 => k_is)
    (case c56 => k_is)
    (case k56 => k_is)
    (case a57 => k_is)
    (case l57 => k_is)
    (case c57 => k_is)
    (case k57 => k_is)
    (case a58 => k_is)
    (case l58 => k_is)
    (case c58 => k_is)
    (case k58 => k_is)
    (case a59 => k_is)
    (case l59 => k_is)
    (case c59 => k_is)
    (case k59 => k_is)
    (case a60 => k_is)
    (case l60 => k_is)
    (case c60 => k_is)
    (case k60 => k_is)
    (case a61 => k_is)
    (case l61 => k_is)
    (case c61 => k_is)
    (case k61 => k_is)
    (case a62 => k_is)
    (case l62 => k_is)
    (case c62 => k_is)
    (case k62 => k_is)
    (case a63 => k_is)
    (case l63 => k_is)
    (case c63 => k_is)
    (case k63 => k_is)
    (case a64 => k_is)
    (case l64 => k_is)
    (case c64 => k_is)
    (case k64 => k_is)
    (case a65 => k_is)
    (case l65 => k_is)
    (case c65 => k_is)
    (case k65 => k_is)
    (case a66 => k_is)
    (case l66 => k_is)
    (case c66 => k_is)
    (case k66 => k_is)
    (case a67 => k_is)
    (case l67 => k_is)
    (case c67 => k_is)
    (case k67 => k_is)
    (case a68 => k_is)
    (case l68 => k_is)
    (case c68 => k_is)
    (case k68 => k_is)
    (case a69 => k_is)
    (case l69 => k_is)
    (case c69 => k_is)
    (case k69 => k_is)
    (case z_len => k_is)
    (case z_isinstance => k_is)
    (case z_int => k_is)
    (case z_bool => k_is)
    (case z_str => k_is)
    (case z_list => k_is)
    (case z_tuple => k_is)
    (case z_all => k_is)
    (case z_range => k_is)
    (case z_sum => k_is)
    (case z_enumerate => k_is)
    (case z_zip => k_is)
    (case z_max => k_is)
    (case z_min => k_is)
    (case z_dict => k_is)
    (case g_LETTERS => k_is)
    (case g_FIGURES => k_is)
    (case g_MOST_SIGNS => k_is)
    (case g_MOST_THINGS => k_is)
    (case g_MOST_ROOM => k_is)
    (case g_MOST_PLACES => k_is)
    (case g_MOST_ASKS => k_is)
    (case g_MOST_TURN => k_is)
    (case pg_Stock => k_is)
    (case hd_Stock => k_is)
    (case po_Stock => k_is)
    (case sa_Stock => k_is)
    (case n_Stock_things => k_is)
    (case pg_Rule => k_is)
    (case hd_Rule => k_is)
    (case po_Rule => k_is)
    (case sa_Rule => k_is)
    (case pg_Ranked => k_is)
    (case hd_Ranked => k_is)
    (case po_Ranked => k_is)
    (case sa_Ranked => k_is)
    (case n_Ranked_stock => k_is)
    (case n_Ranked_places => k_is)
    (case n_Ranked_present => k_is)
    (case n_Ranked_last => k_is)
    (case pg_Oldest => k_is)
    (case hd_Oldest => k_is)
    (case po_Oldest => k_is)
    (case sa_Oldest => k_is)
    (case n_Oldest_stock => k_is)
    (case n_Oldest_places => k_is)
    (case n_Oldest_present => k_is)
    (case n_Oldest_last => k_is)
    (case pg_First => k_is)
    (case hd_First => k_is)
    (case po_First => k_is)
    (case sa_First => k_is)
    (case n_First_stock => k_is)
    (case n_First_places => k_is)
    (case n_First_present => k_is)
    (case n_First_last => k_is)
    (case n_First_put_at => k_is)
    (case pg_Halving => k_is)
    (case hd_Halving => k_is)
    (case po_Halving => k_is)
    (case sa_Halving => k_is)
    (case n_Halving_stock => k_is)
    (case n_Halving_places => k_is)
    (case n_Halving_present => k_is)
    (case n_Halving_last => k_is)
    (case n_Halving_turn => k_is)
    (case n_Halving_tally => k_is)
    (case pg_Farthest => k_is)
    (case hd_Farthest => k_is)
    (case po_Farthest => k_is)
    (case sa_Farthest => k_is)
    (case n_Farthest_stock => k_is)
    (case n_Farthest_places => k_is)
    (case n_Farthest_present => k_is)
    (case n_Farthest_last => k_is)
    (case n_Farthest_asks => k_is)
  case S => exact fun K H a ns hl hO hS => ⟨a, ns, rfl, hS, hl, fun _ => rfl⟩
  case C => exact fun H s e s' z => z

