import PyProof.Rows.All
import Wide.All
import OpenK.AllK
import Wide.FinOn
import Lean
import PyProof.EqAt
import PyProof.EqKinds
import PyProof.TupleCall
import KE.KTryMore
import PyProof.StationsW
import PyProof.ExcBaseAll.ValueError
import PyProof.ExcClass2
import PyProof.RulesAs
import PyProof.NsDelKeeps
import KE.KIntText
import PyProof.StrWalks
import PyProof.StrBlockH
import PyProof.Rows.StrNews
import PyProof.Rows.StrJoin2
import PyProof.ConsumeWalk
import PyProof.FString
import PyProof.NeData
import KE.IntTextLaws
import PyProof.ExcInit
import PyProof.InstStoreFacts
import OpenK.KMake
import OpenK.KCls
import PyProof.ExcArgs
import PyProof.Rows.Catch
import KE.KDictList
import KE.KDictSum
import KE.KUnpack
import PyProof.MeetsSeq
import PyProof.Rows.StrInSeq3
import PyProof.EnumMake
import PyProof.EnumStmt
import PyProof.EnumFor
import PyProof.LayNew
import PyProof.Rows.EnumRows
import PyProof.Rows.SetFrom
import PyProof.SetRoads
import PyProof.SumAny
import PyProof.WalksS
import PyProof.ZipIter
import KE.KTurns
import PyProof.Rows.FactsT2
import PyProof.ConsumeS
import PyProof.WalkInts
import KE.KEqDict
import KE.KRevIter
import PyProof.CollectIter
import KE.KNestM
import KE.KLam
import PySem.Challenge.RW_castoff_k55_whole_no_book_below_the_part
-- CHANGE: your row's module here, as the last of these rows
set_option Elab.async false
set_option linter.all false
set_option maxRecDepth 100000
namespace L2
open PySem PySem.Spec PyProof.Rows

noncomputable abbrev Key := Sum Int Str
noncomputable def keyIs : Key → Value → Bool
  | .inl k, v => Value.isInt k v
  | .inr x, v => Value.isStrOf x v
noncomputable def keyH (w : World) : Key → Int
  | .inl k => hashInt k
  | .inr x => hashStr w x
theorem keyIs_shape : ∀ {k : Key} {v : Value}, keyIs k v = true → (∃ i t, k = Sum.inl i ∧ v = Value.int i t) ∨ (∃ x t, k = Sum.inr x ∧ v = Value.str x t)
  | .inl i, v, h => by
    obtain ⟨t, e⟩ := Value.isInt_shape (k := i) (v := v) h
    exact .inl ⟨i, t, rfl, e⟩
  | .inr x, v, h => by
    obtain ⟨t, e⟩ := Value.isStrOf_shape (x := x) (v := v) h
    exact .inr ⟨x, t, rfl, e⟩
theorem keyIs_int (i : Int) (t : Tok) : keyIs (.inl i) (.int i t) = true := by simp [keyIs, Value.isInt]
theorem keyIs_str (x : Str) (t : Tok) : keyIs (.inr x) (.str x t) = true := by simp [keyIs, Value.isStrOf]
theorem key_ll (a b : Int) : decide ((Sum.inl a : Key) = Sum.inl b) = (a == b) := by
  by_cases e : a = b
  · subst e; simp
  · have h : ¬ (Sum.inl a : Key) = Sum.inl b := fun q => e (Sum.inl.inj q)
    rw [decide_eq_false h]
    exact (beq_eq_false_iff_ne.mpr e).symm
theorem key_rr (a b : Str) : decide ((Sum.inr a : Key) = Sum.inr b) = decide (a = b) := by
  by_cases e : a = b
  · subst e; simp
  · have h : ¬ (Sum.inr a : Key) = Sum.inr b := fun q => e (Sum.inr.inj q)
    rw [decide_eq_false h, decide_eq_false e]
theorem key_lr (a : Int) (b : Str) : decide ((Sum.inl a : Key) = Sum.inr b) = false := decide_eq_false (fun q => nomatch q)
theorem key_rl (a : Str) (b : Int) : decide ((Sum.inr a : Key) = Sum.inl b) = false := decide_eq_false (fun q => nomatch q)

noncomputable def mixKind (prog : Program) (w : World) : PySem.KeyKind prog w Key where
  is := keyIs
  hash := keyH w
  inj := fun v a b ha hb => by
    rcases keyIs_shape ha with ⟨i, t, rfl, rfl⟩ | ⟨x, t, rfl, rfl⟩
    · rcases keyIs_shape hb with ⟨j, u, rfl, e⟩ | ⟨y, u, rfl, e⟩
      · injection e with e1 _; rw [e1]
      · exact nomatch e
    · rcases keyIs_shape hb with ⟨j, u, rfl, e⟩ | ⟨y, u, rfl, e⟩
      · exact nomatch e
      · injection e with e1 _; rw [e1]
  byValue := fun k v h => by
    rcases keyIs_shape h with ⟨i, t, rfl, rfl⟩ | ⟨x, t, rfl, rfl⟩ <;> rfl
  pyHash := fun hv h => by
    rcases keyIs_shape hv with ⟨i, t, rfl, rfl⟩ | ⟨x, t, rfl, rfl⟩
    · exact wpAny_pyHash_int h
    · exact wpAny_pyHash_str h
  eqBool := fun hu hv h => by
    rcases keyIs_shape hu with ⟨i, t, rfl, rfl⟩ | ⟨x, t, rfl, rfl⟩
    · rcases keyIs_shape hv with ⟨j, u, rfl, rfl⟩ | ⟨y, u, rfl, rfl⟩
      · rw [key_ll] at h; exact wpAny_eqBool_int h
      · rw [key_lr] at h; exact SeqAt.EqAt.int_str i t y u _ _ _ _ h
    · rcases keyIs_shape hv with ⟨j, u, rfl, rfl⟩ | ⟨y, u, rfl, rfl⟩
      · rw [key_rl] at h; exact SeqAt.EqAt.str_int x t j u _ _ _ _ h
      · rw [key_rr] at h; exact wpAny_eqBool_str h
  «strs» := fun k x t v h => by
    rcases keyIs_shape h with ⟨i, u, rfl, e⟩ | ⟨y, u, rfl, e⟩
    · exact nomatch e
    · injection e with e1 _
      subst e1
      cases v <;> rfl

theorem mixKind_int (prog : Program) (w : World) (i : Int) (t : Tok) : (mixKind prog w).is (.inl i) (.int i t) = true := keyIs_int i t
theorem mixKind_str (prog : Program) (w : World) (x : Str) (t : Tok) : (mixKind prog w).is (.inr x) (.str x t) = true := keyIs_str x t
end L2

namespace L2
open PySem PySem.Spec PyProof.Rows

inductive V where
  | non | bl (b : Bool) | int (i : Int) | str (x : Str) | byt (b : Array UInt8) | flt (b : UInt64) | ref (a : Addr) | ty (n : String)
  deriving DecidableEq

noncomputable def RelV : V → Value → Prop
  | .non, u => u = Value.none
  | .bl b, u => u = Value.bool b
  | .int i, u => ∃ t, u = Value.int i t
  | .str x, u => ∃ t, u = Value.str x t
  | .byt b, u => ∃ t, u = Value.bytes b t
  | .flt b, u => ∃ t, u = Value.float b t
  | .ref a, u => u = Value.ref a
  | .ty n, u => u = Value.type n

noncomputable abbrev Vals : List V → List Value → Prop := Paired RelV
theorem Vals.length {xs : List V} {us : List Value} (r : Vals xs us) : xs.length = us.length := Paired.length r
theorem Vals.get : ∀ {xs : List V} {us : List Value} {i : Nat} {x : V}, Vals xs us → xs[i]? = some x → ∃ u, us[i]? = some u ∧ RelV x u
  | _, _, _, _, .nil, e => by simp at e
  | _, _, 0, _, .cons r _, e => by simp at e; subst e; exact ⟨_, rfl, r⟩
  | _, _, i + 1, x, .cons _ t, e => by
    obtain ⟨u, h1, h2⟩ := Vals.get (i := i) (x := x) t (by simpa using e)
    exact ⟨u, by simpa using h1, h2⟩
theorem Vals.set {x : V} {u : Value} (r : RelV x u) : ∀ {xs : List V} {us : List Value} (i : Nat), Vals xs us → Vals (xs.set i x) (us.set i u)
  | _, _, _, .nil => .nil
  | _, _, 0, .cons _ t => .cons r t
  | _, _, i + 1, .cons q t => .cons q (Vals.set r i t)
theorem Vals.append : ∀ {xs ys : List V} {us ws : List Value}, Vals xs us → Vals ys ws → Vals (xs ++ ys) (us ++ ws)
  | _, _, _, _, .nil, s => s
  | _, _, _, _, .cons r t, s => .cons r (Vals.append t s)
theorem Vals.take : ∀ {xs : List V} {us : List Value} (n : Nat), Vals xs us → Vals (xs.take n) (us.take n)
  | _, _, 0, _ => .nil
  | _, _, _ + 1, .nil => .nil
  | _, _, n + 1, .cons r t => .cons r (Vals.take n t)
theorem Vals.drop : ∀ {xs : List V} {us : List Value} (n : Nat), Vals xs us → Vals (xs.drop n) (us.drop n)
  | _, _, 0, r => r
  | _, _, _ + 1, .nil => .nil
  | _, _, n + 1, .cons _ t => Vals.drop n t
theorem Vals.none_of : ∀ {xs : List V} {us : List Value} {i : Nat}, Vals xs us → xs[i]? = none → us[i]? = none := fun {xs us i} r e => by
  have h1 := r.length
  have h2 : xs.length ≤ i := List.getElem?_eq_none_iff.mp e
  exact List.getElem?_eq_none_iff.mpr (by omega)

noncomputable def RelO : Option V → Option Value → Prop
  | some v, some u => RelV v u
  | none, none => True
  | _, _ => False
noncomputable def KV {κ : Type} : List (κ × V) → List (κ × Value) → Prop := Paired fun (p : κ × V) (q : κ × Value) => p.1 = q.1 ∧ RelV p.2 q.2

noncomputable def kV : Key → V
  | .inl i => .int i
  | .inr x => .str x

inductive HO where
  /-- a list -/
  | lst (xs : List V)
  /-- a tuple (never changes) -/
  | tup (xs : List V)
  /-- a dict whose keys are ints and texts; one whose keys are tuples of ints and texts (the empty one is both) -/
  | dK (kvs : List (Key × V)) | dT (kvs : List (List Key × V))
  /-- a set of ints: its members, its size -/
  | set (S : Int → Bool) (n : Nat)
  /-- an instance of the class at C, its dict at dx, its attributes -/
  | ins (C dx : Addr) (fs : List (Str × V))
  /-- the dict of the instance at x -/
  | own (x : Addr)
  /-- the dict of an exception -/
  | xd (fs : List (Str × V))
  /-- a bound method, f of x -/
  | met (f x : Addr)
  /-- a range object lo, lo + 1, .. below hi -/
  | rng (lo hi : Int)
  /-- a thing that is known to the object (the script; a dict while a loop walks it): read, never written while it is so -/
  | frz (o : Obj) (u : HO)
  /-- a code object's table -/
  | tbl (ps : Array Value)
  /-- any other thing, by what is true of its one object (a def of one's own: SetO a S n := HO.ext fun h => ..) -/
  | ext (φ : Heap → Prop)

noncomputable abbrev Hp := Addr → Option HO
noncomputable def upd (H : Hp) (a : Addr) (o : HO) : Hp := fun b => if b = a then some o else H b
theorem upd_same {H : Hp} {a : Addr} {o : HO} : upd H a o a = some o := by unfold upd; rw [if_pos rfl]
theorem upd_ne {H : Hp} {a b : Addr} {o : HO} (h : b ≠ a) : upd H a o b = H b := by unfold upd; rw [if_neg h]
theorem upd_upd {H : Hp} {a : Addr} {o u : HO} : upd (upd H a o) a u = upd H a u := by
  funext b; unfold upd; split <;> rfl
theorem ne_of {H : Hp} {a b : Addr} {o u : HO} (h : H a = some o) (h' : H b = some u) (d : o ≠ u) : a ≠ b := by
  intro e; subst e; rw [h] at h'; exact d (Option.some.inj h')
theorem ne_of_none {H : Hp} {a b : Addr} {o : HO} (h : H a = some o) (h' : H b = none) : a ≠ b := by
  intro e; subst e; rw [h] at h'; cases h'

section
variable (P : Program) (w : World)
noncomputable def ObjOk (H : Hp) (h : Heap) (a : Addr) : HO → Prop
  | .lst xs => xs.length ≤ sizeLine ∧ ∃ (its : List Value) (n : Nat), Vals xs its ∧ h.get? a = some { cls := .type "list", data := .seq its.toArray n }
  | .tup xs => xs.length ≤ sizeLine ∧ ∃ its : List Value, Vals xs its ∧ IsTup h a its.toArray
  | .dK kvs => kvs.length ≤ sizeLine ∧ (a == sysModules) = false ∧ ∃ vs, KV kvs vs ∧ h.DictOf (mixKind P w) a vs
  | .dT kvs => kvs.length ≤ sizeLine ∧ (a == sysModules) = false ∧ ∃ xs : List (List Key × Addr × Value),
      Paired (fun (p : List Key × V) (q : List Key × Addr × Value) => p.1 = q.1 ∧ H q.2.1 = some (.tup (p.1.map kV)) ∧ RelV p.2 q.2.2) kvs xs ∧
      ∃ o es ep, h.get? a = some o ∧ o.ExactDict ∧ o.data = .dict es ep ∧ es.toList = xs.map (entryOfKey (tupleKind (mixKind P w))) ∧ (xs.map (·.1)).Nodup
  | .set S n => h.SetOf (intKind P w) a S n
  | .ins C dx fs => H dx = some (.own a) ∧ fs.length ≤ 1000 ∧ dx ≠ a ∧ h.get? a = some (PySem.W.instObj C dx) ∧
      ∃ mA, h.Ns1 dx mA ∧ (∀ f, RelO (fs.lookup f) (mA f)) ∧ PySem.Within mA (fs.map (·.1))
  | .own _ => ∃ o, h.get? a = some o
  | .xd fs => ∃ mA, h.Ns1 a mA ∧ ∀ f, RelO (fs.lookup f) (mA f)
  | .rng lo hi => ∃ t u v, h.get? a = some { cls := .type "range", data := .fields #[.int lo t, .int hi u, .int 1 v] }
  | .frz o u => h.get? a = some o ∧ ObjOk H h a u
  | .tbl ps => h.get? a = some { cls := .none, data := .fields ps }
  | .met f x => h.get? a = some (PySem.W.methodObj (.ref f) (.ref x))
  | .ext φ => φ h ∧ (∃ o, h.get? a = some o) ∧ ∀ h1 h2 : Heap, φ h1 → (∀ o, h1.get? a = some o → h2.get? a = some o) → φ h2
noncomputable def HOk (H : Hp) (h : Heap) : Prop := ∀ a o, H a = some o → ObjOk P w H h a o
end

section
variable {P : Program} {w : World} {H H' : Hp} {h h' : Heap} {a : Addr} {o : HO}
theorem ObjOk.lt (x : ObjOk P w H h a o) : a < h.objs.size := by
  cases o with
  | lst xs => obtain ⟨_, _, _, _, e⟩ := x; exact Heap.lt_size e
  | tup xs => obtain ⟨_, _, _, p⟩ := x; exact p.lt
  | dK kvs => obtain ⟨_, _, _, _, o, _, _, e, _⟩ := x; exact Heap.lt_size e
  | dT kvs => obtain ⟨_, _, _, _, o, _, _, e, _⟩ := x; exact Heap.lt_size e
  | set S n => obtain ⟨o, _, _, _, e, _⟩ := x; exact Heap.lt_size e
  | ins C dx fs => obtain ⟨_, _, _, e, _⟩ := x; exact Heap.lt_size e
  | own y => obtain ⟨_, e⟩ := x; exact Heap.lt_size e
  | xd fs => obtain ⟨_, ⟨_, _, _, e, _⟩, _⟩ := x; exact Heap.lt_size e
  | rng lo hi => obtain ⟨_, _, _, e⟩ := x; exact Heap.lt_size e
  | frz ob u => obtain ⟨e, _⟩ := x; exact Heap.lt_size e
  | tbl ps => exact Heap.lt_size (show h.get? a = some _ from x)
  | met f y => exact Heap.lt_size (show h.get? a = some _ from x)
  | ext φ => obtain ⟨_, ⟨_, e⟩, _⟩ := x; exact Heap.lt_size e
theorem Paired.mapP {α β : Type} {F G : α → β → Prop} : ∀ {l₁ : List α} {l₂ : List β}, Paired F l₁ l₂ → (∀ a b, F a b → G a b) → Paired G l₁ l₂
  | _, _, .nil, _ => .nil
  | _, _, .cons r t, f => .cons (f _ _ r) (Paired.mapP t f)
theorem ObjOk.stay (x : ObjOk P w H h a o) (k : ∀ b u, (b = a ∨ H b = some (.own a)) → h.get? b = some u → h'.get? b = some u)
    (ho : ∀ b, H b = some (.own a) → H' b = some (.own a)) (ht : ∀ b xs, H b = some (.tup xs) → H' b = some (.tup xs)) : ObjOk P w H' h' a o := by
  induction o with
  | lst xs => obtain ⟨z, its, n, r, e⟩ := x; exact ⟨z, its, n, r, k _ _ (.inl rfl) e⟩
  | tup xs => obtain ⟨z, its, r, ob, e, c⟩ := x; exact ⟨z, its, r, ob, k _ _ (.inl rfl) e, c⟩
  | dK kvs => obtain ⟨z, y, vs, r, ob, es, ep, e, c⟩ := x; exact ⟨z, y, vs, r, ob, es, ep, k _ _ (.inl rfl) e, c⟩
  | dT kvs =>
    obtain ⟨z, y, xs, r, ob, es, ep, e, c⟩ := x
    exact ⟨z, y, xs, Paired.mapP r fun p q z => ⟨z.1, ht _ _ z.2.1, z.2.2⟩, ob, es, ep, k _ _ (.inl rfl) e, c⟩
  | set S n => obtain ⟨ob, es, ep, t, e, c⟩ := x; exact ⟨ob, es, ep, t, k _ _ (.inl rfl) e, c⟩
  | ins C dx fs =>
    obtain ⟨d, z, ne, e, mA, ⟨od, es, ep, e2, c⟩, r⟩ := x
    exact ⟨ho _ d, z, ne, k _ _ (.inl rfl) e, mA, ⟨od, es, ep, k _ _ (.inr d) e2, c⟩, r⟩
  | own y => obtain ⟨ob, e⟩ := x; exact ⟨ob, k _ _ (.inl rfl) e⟩
  | xd fs => obtain ⟨mA, ⟨od, es, ep, e, c⟩, r⟩ := x; exact ⟨mA, ⟨od, es, ep, k _ _ (.inl rfl) e, c⟩, r⟩
  | rng lo hi => obtain ⟨t, u, v, e⟩ := x; exact ⟨t, u, v, k _ _ (.inl rfl) e⟩
  | frz ob u ih => obtain ⟨e, q⟩ := x; exact ⟨k _ _ (.inl rfl) e, ih q⟩
  | tbl ps =>
    have e : h.get? a = some { cls := .none, data := .fields ps } := x
    show h'.get? a = some { cls := .none, data := .fields ps }
    exact k a _ (.inl rfl) e
  | met f y =>
    have e : h.get? a = some (PySem.W.methodObj (.ref f) (.ref y)) := x
    show h'.get? a = some (PySem.W.methodObj (.ref f) (.ref y))
    exact k a _ (.inl rfl) e
  | ext φ => obtain ⟨p, ⟨o, e⟩, st⟩ := x; exact ⟨st _ _ p fun o q => k _ _ (.inl rfl) q, ⟨o, k _ _ (.inl rfl) e⟩, st⟩
theorem HOk.lt (x : HOk P w H h) (e : H a = some o) : a < h.objs.size := (x a o e).lt
theorem HOk.fresh (x : HOk P w H h) (e : h.objs.size ≤ a) : H a = none := by
  cases q : H a with
  | none => rfl
  | some u => exact absurd (Nat.lt_of_lt_of_le (x.lt q) e) (Nat.lt_irrefl _)
theorem HOk.kept (x : HOk P w H h) (k : ∀ b u, h.get? b = some u → h'.get? b = some u) : HOk P w H h' := fun a o e =>
  (x a o e).stay (fun b u _ q => k b u q) (fun _ q => q) fun _ _ q => q
theorem HOk.laid (x : HOk P w H h) (k : ∀ b u, h.get? b = some u → h'.get? b = some u) (hp : h.objs.size ≤ a) (new : ObjOk P w (upd H a o) h' a o) : HOk P w (upd H a o) h' := fun b u e => by
  have hn := x.fresh hp
  by_cases hb : b = a
  · subst hb; rw [upd_same] at e; cases e; exact new
  · rw [upd_ne hb] at e
    exact (x b u e).stay (fun c v _ q => k c v q) (fun c q => by rw [upd_ne (ne_of_none q hn)]; exact q) fun c xs q => by rw [upd_ne (ne_of_none q hn)]; exact q
end

noncomputable def Rd (H : Hp) (a : Addr) (u : HO) : Prop := H a = some u ∨ ∃ o, H a = some (.frz o u)
theorem Rd.of {H : Hp} {a : Addr} {u : HO} (h : H a = some u) : Rd H a u := .inl h
theorem Rd.ok {P : Program} {w : World} {H : Hp} {h : Heap} {a : Addr} {u : HO} (r : Rd H a u) (x : HOk P w H h) : ObjOk P w H h a u := by
  rcases r with r | ⟨o, r⟩
  · exact x a u r
  · obtain ⟨_, q⟩ := x a _ r
    exact q
noncomputable def Mut : Option HO → Prop
  | some (.lst _) => True
  | some (.dK _) => True
  | some (.dT _) => True
  | some (.set _ _) => True
  | some (.ins _ _ _) => True
  | some (.ext _) => True
  | _ => False
section
variable {P : Program} {w : World} {H : Hp} {h h' : Heap} {x e : Addr} {o' : HO}
theorem HOk.write (ok : HOk P w H h) (mu : Mut (H x)) (he : e = x ∨ H e = some (.own x)) (k : ∀ b u, b ≠ e → h.get? b = some u → h'.get? b = some u) (heo : ∃ u, h'.get? e = some u)
    (new : ObjOk P w (upd H x o') h' x o') : HOk P w (upd H x o') h' := fun b u q => by
  have nown : ∀ c y, H c = some (.own y) → c ≠ x := fun c y r z => by subst z; rw [r] at mu; exact mu
  have ntup : ∀ c xs, H c = some (.tup xs) → c ≠ x := fun c xs r z => by subst z; rw [r] at mu; exact mu
  by_cases hb : b = x
  · subst hb; rw [upd_same] at q; cases q; exact new
  · rw [upd_ne hb] at q
    by_cases hbe : b = e
    · have q' : H b = some (.own x) := by
        rcases he with z | z
        · exact absurd (hbe.trans z) hb
        · rw [hbe]; exact z
      rw [q] at q'; cases q'
      obtain ⟨v, hv⟩ := heo
      exact ⟨v, by rw [hbe]; exact hv⟩
    · refine (ok b u q).stay (fun c v hc r => k c v ?_ r) (fun c r => by rw [upd_ne (nown c b r)]; exact r) fun c xs r => by rw [upd_ne (ntup c xs r)]; exact r
      rcases hc with rfl | hc
      · exact hbe
      · rintro rfl
        rcases he with z | z
        · exact nown c b hc z
        · rw [hc] at z; cases z; exact hb rfl
end

structure Un (fs ex : List Addr) (H H' : Hp) (h h' : Heap) : Prop where
  keep : ∀ b o, h.get? b = some o → H b = none → b ∉ fs → b ∉ ex → h'.get? b = some o
  slot : ∀ b o, h.get? b = some o → H b = none → b ∈ fs → b ∉ ex → ∃ sl, h'.get? b = some { o with slots := sl }
  free : ∀ b o, h.get? b = some o → H b = none → b ∉ ex → H' b = none
  there : ∀ b o, h.get? b = some o → b ∉ ex → ∃ o', h'.get? b = some o'
  tups : ∀ b xs, H b = some (.tup xs) → H' b = some (.tup xs)
  frzs : ∀ b o u, H b = some (.frz o u) → H' b = some (.frz o u)
  tbls : ∀ b ps, H b = some (.tbl ps) → ∃ more, H' b = some (.tbl (ps ++ more))
section
variable {fs fs' ex ex' : List Addr} {H H1 H2 : Hp} {h h1 h2 h' : Heap} {a x e : Addr} {o : HO}
theorem Un.any (u : Un fs ex H H1 h h1) {b : Addr} {ob : Obj} (q : h.get? b = some ob) (n : H b = none) (hx : b ∉ ex) : ∃ sl, h1.get? b = some { ob with slots := sl } := by
  by_cases hb : b ∈ fs
  · exact u.slot b ob q n hb hx
  · exact ⟨ob.slots, u.keep b ob q n hb hx⟩
theorem Un.trans (a : Un fs ex H H1 h h1) (b : Un fs ex H1 H2 h1 h2) : Un fs ex H H2 h h2 where
  keep := fun c ob q n hc hx => b.keep c ob (a.keep c ob q n hc hx) (a.free c ob q n hx) hc hx
  slot := fun c ob q n hc hx => by
    obtain ⟨sl, e1⟩ := a.slot c ob q n hc hx
    obtain ⟨sl', e2⟩ := b.slot c _ e1 (a.free c ob q n hx) hc hx
    exact ⟨sl', e2⟩
  free := fun c ob q n hx => by
    obtain ⟨o', e1⟩ := a.there c ob q hx
    exact b.free c o' e1 (a.free c ob q n hx) hx
  there := fun c ob q hx => by
    obtain ⟨o', e1⟩ := a.there c ob q hx
    exact b.there c o' e1 hx
  tups := fun c xs q => b.tups c xs (a.tups c xs q)
  frzs := fun c ob xs q => b.frzs c ob xs (a.frzs c ob xs q)
  tbls := fun c ps q => by
    obtain ⟨m1, e1⟩ := a.tbls c ps q
    obtain ⟨m2, e2⟩ := b.tbls c _ e1
    exact ⟨m1 ++ m2, by rw [e2, Array.append_assoc]⟩
theorem Un.kept (k : ∀ b u, h.get? b = some u → h'.get? b = some u) : Un fs ex H H h h' :=
  ⟨fun b ob q _ _ _ => k b ob q, fun b ob q _ _ _ => ⟨ob.slots, k b ob q⟩, fun _ _ _ n _ => n, fun b ob q _ => ⟨ob, k b ob q⟩, fun _ _ q => q, fun _ _ _ q => q, fun _ ps q => ⟨#[], by rw [q]; simp⟩⟩
theorem Un.refl : Un fs ex H H h h := Un.kept fun _ _ q => q
theorem Un.laid (k : ∀ b u, h.get? b = some u → h'.get? b = some u) (hp : h.objs.size ≤ a) (hn : H a = none) : Un fs ex H (upd H a o) h h' where
  keep := fun b u q _ _ _ => k b u q
  slot := fun b u q _ _ _ => ⟨u.slots, k b u q⟩
  free := fun b u q n _ => by rw [upd_ne (Nat.ne_of_lt (Nat.lt_of_lt_of_le (Heap.lt_size q) hp))]; exact n
  there := fun b u q _ => ⟨u, k b u q⟩
  tups := fun b xs q => by rw [upd_ne (ne_of_none q hn)]; exact q
  frzs := fun b u xs q => by rw [upd_ne (ne_of_none q hn)]; exact q
  tbls := fun b ps q => ⟨#[], by rw [upd_ne (ne_of_none q hn), q]; simp⟩
theorem Un.write (mu : Mut (H x)) (he : e = x ∨ H e = some (.own x)) (k : ∀ b u, b ≠ e → h.get? b = some u → h'.get? b = some u) (heo : ∃ u, h'.get? e = some u) : Un fs ex H (upd H x o) h h' := by
  have hx : ∀ b, H b = none → b ≠ x := fun b n z => by subst z; rw [n] at mu; exact mu
  have hb : ∀ b, H b = none → b ≠ e := fun b n z => by
    subst z
    rcases he with r | r
    · exact hx b n r
    · rw [n] at r; cases r
  have hm : ∀ b u, H b = some u → ¬ Mut (some u) → b ≠ x := fun b u q nm z => by subst z; rw [q] at mu; exact nm mu
  refine ⟨fun b u q n _ _ => k b u (hb b n) q, fun b u q n _ _ => ⟨u.slots, k b u (hb b n) q⟩, fun b u q n _ => by rw [upd_ne (hx b n)]; exact n, fun b u q _ => ?_,
    fun b xs q => by rw [upd_ne (hm b _ q fun z => z)]; exact q, fun b u xs q => by rw [upd_ne (hm b _ q fun z => z)]; exact q, fun b ps q => ⟨#[], by rw [upd_ne (hm b _ q fun z => z), q]; simp⟩⟩
  by_cases hbe : b = e
  · subst hbe; exact heo
  · exact ⟨u, k b u hbe q⟩
theorem Un.mono (u : Un fs ex H H1 h h1) (hs : ∀ b ∈ fs, b ∈ fs') (hx : ∀ b ∈ ex, b ∈ ex') : Un fs' ex' H H1 h h1 :=
  ⟨fun b ob q n hb he => u.keep b ob q n (fun z => hb (hs b z)) fun z => he (hx b z), fun _ _ q n _ he => u.any q n fun z => he (hx _ z), fun b ob q n he => u.free b ob q n fun z => he (hx b z), fun b ob q he => u.there b ob q fun z => he (hx b z), u.tups, u.frzs, u.tbls⟩
end

noncomputable def trk (h : Heap) (H : Hp) : List Addr := (List.range h.objs.size).filter fun a => (H a).isSome
noncomputable def hidT (h : Heap) (H : Hp) : Heap := PySem.W.hideAll h (trk h H)
theorem hidT_size (h : Heap) (H : Hp) : (hidT h H).objs.size = h.objs.size := PySem.W.hideAll_size _ _
theorem hidT_get {h : Heap} {H : Hp} {b : Addr} {o : Obj} (e : h.get? b = some o) (n : H b = none) : (hidT h H).get? b = some o :=
  PySem.W.hideAll_get _ e fun hm => by
    have q : (H b).isSome = true := (List.mem_filter.mp hm).2
    rw [n] at q; simp at q
theorem of_hidT {h : Heap} {H : Hp} {b : Addr} {o : Obj} (e : (hidT h H).get? b = some o) : h.get? b = some o ∧ H b = none := by
  have e' : h.get? b = some o := PySem.W.of_hideAll (trk h H) e
  refine ⟨e', ?_⟩
  cases q : H b with
  | none => rfl
  | some x =>
    have hm : b ∈ trk h H := List.mem_filter.mpr ⟨List.mem_range.mpr (Heap.lt_size e'), by simp [q]⟩
    have z : (hidT h H).get? b = none := PySem.W.hideAll_none (trk h H) hm
    rw [z] at e; cases e

noncomputable def allNews (g h : Heap) (L : Addr) : List (Addr × Obj) := (List.range h.objs.size).filterMap fun a => if a = L ∨ (g.get? a).isSome = true then none else (h.get? a).map fun o => (a, o)
noncomputable def rest (g h : Heap) (L d : Addr) : List (Addr × Obj) := (allNews g h L).filter fun p => decide (p.1 ≠ d)
end L2

namespace L2
open PySem PySem.Spec PyProof.Rows

structure Mod (K : PySem.W.Frag) (mg : Str → Option Value) (base : Heap) : Prop where
  kin : K.In base
  glob : base.Ns mainGlobals mg
  blt : ∃ mb, base.Ns builtinsNs mb ∧ ∀ x : Str, x ≠ "__name__" → mb x = bootBuiltins x
  nolimit : base.NoLimit

structure Cx where
  prog : Program
  w : World
  K : PySem.W.Frag
  mg : Str → Option Value
  base : Heap
  A : Around
  N : List Str
  s₀ : Shared
  H₀ : Hp
  env : Env
  outer : List Env
  stack : List Env
  ex : List Addr
  fn : Str → Bool
  calm : Bool
  pn : List (Addr × Obj)
  xe : Value → Shared → Prop
noncomputable def frs (l : List Env) : List Addr := l.filterMap (·.frame)
noncomputable abbrev Cx.fs (X : Cx) : List Addr := frs X.outer

noncomputable def Vis (sc : Scope) (x : Str) : Prop := sc.names.lookup x = some .local ∨ sc.names.lookup x = some .cell ∨ sc.names.lookup x = some .free
noncomputable def Loc (sc : Scope) (x : Str) : Prop := sc.names.lookup x = some .local ∨ sc.names.lookup x = some .cell
noncomputable def Look (env : Env) (h : Heap) (m : Str → Option Value) (x : Str) (u : Value) : Prop :=
  (env.kindOf x = some .local ∧ m x = some u) ∨ ((env.kindOf x = some .cell ∨ env.kindOf x = some .free) ∧ ∃ c, env.cells.lookup x = some c ∧ h.IsCell c (some u))

structure Cx.Ok (X : Cx) : Prop where
  mod : Mod X.K X.mg X.base
  kind : X.env.scope.kind = .function
  glob : X.env.globals = mainGlobals
  blt : X.env.builtins = builtinsNs
  above : X.s₀.heap.objs.size ≤ X.env.locals
  inj : ∀ x y c, X.env.cells.lookup x = some c → X.env.cells.lookup y = some c → x = y
  has : ∀ x, (X.env.kindOf x = some .cell ∨ X.env.kindOf x = some .free) → ∃ c, X.env.cells.lookup x = some c
  cab : ∀ x c, X.fn x = true → X.env.cells.lookup x = some c → X.s₀.heap.objs.size ≤ c
  hd : X.calm = true → X.A.handled = none
  frames : X.A.frames = some X.stack
  stk : X.stack = X.outer ∨ (X.stack = X.env :: X.outer ∧ X.env.frame = some X.env.locals)
  exf : ∀ b ∈ X.ex, b ≠ X.env.locals ∧ ∀ x c, X.env.cells.lookup x = some c → c ≠ b
  bs : ∀ b o, X.base.get? b = some o → X.s₀.heap.get? b = some o ∧ X.H₀ b = none
  bsz : X.base.objs.size ≤ X.s₀.heap.objs.size
  noex : ∀ b o, X.base.get? b = some o → b ∉ X.ex
  exfs : ∀ b ∈ X.ex, b ∉ X.fs
  funs : X.s₀.heap.FunFrames X.base X.outer
  frf : ∀ b ∈ X.fs, X.H₀ b = none

structure Inv (X : Cx) (pins : List (Addr × Obj)) (σ : List (Option V)) (H : Hp) (s : Shared) : Prop where
  ok : X.Ok
  os : s.os = X.s₀.os
  bare : AllBare s.gens
  base : Un X.fs X.ex X.H₀ H X.s₀.heap s.heap
  loc : ∃ m, s.heap.Ns X.env.locals m ∧ ∀ (i : Nat) (x : Str) (v : V), X.N[i]? = some x → σ[i]? = some (some v) → Vis X.env.scope x → ∃ u, RelV v u ∧ Look X.env s.heap m x u
  cell : ∀ x c, X.env.cells.lookup x = some c → ∃ v, s.heap.IsCell c v
  free : H X.env.locals = none
  freeC : ∀ x c, X.env.cells.lookup x = some c → H c = none
  pin : ∀ p ∈ X.pn ++ pins, s.heap.get? p.1 = some p.2 ∧ H p.1 = none ∧ p.1 ≠ X.env.locals ∧ p.1 ∉ X.fs ∧ ∀ v, p.2.data ≠ .cell v
  hok : HOk X.prog X.w H s.heap
  len : σ.length = X.N.length

section
variable {X : Cx} {pins : List (Addr × Obj)} {σ : List (Option V)} {H H' : Hp} {s : Shared} {h' : Heap}

theorem Cx.Ok.nofr (ok : X.Ok) {b : Addr} {o : Obj} (e : X.base.get? b = some o) : b ∉ X.fs := fun hb => by
  have := (ok.funs.mem hb).1
  rw [e] at this; cases this
theorem Inv.bs (I : Inv X pins σ H s) : ∀ b o, X.base.get? b = some o → s.heap.get? b = some o ∧ H b = none := fun b o e =>
  ⟨I.base.keep b o (I.ok.bs b o e).1 (I.ok.bs b o e).2 (I.ok.nofr e) (I.ok.noex b o e), I.base.free b o (I.ok.bs b o e).1 (I.ok.bs b o e).2 (I.ok.noex b o e)⟩
theorem Inv.bk (I : Inv X pins σ H s) : ∀ b o, X.base.get? b = some o → s.heap.get? b = some o := fun b o e => (I.bs b o e).1
theorem Inv.mod (I : Inv X pins σ H s) : Mod X.K X.mg X.base := I.ok.mod
theorem Inv.kIn (I : Inv X pins σ H s) : X.K.In s.heap := I.ok.mod.kin.keeps I.bk
theorem Inv.nolimit (I : Inv X pins σ H s) : s.heap.NoLimit := I.ok.mod.nolimit.keeps I.bk
theorem Inv.fr (I : Inv X pins σ H s) : ∃ m, Fr X.base X.env.locals s.heap m :=
  let ⟨m, hn, _⟩ := I.loc
  ⟨m, hn, I.bk, Nat.le_trans I.ok.bsz I.ok.above⟩
theorem Inv.lt (I : Inv X pins σ H s) : X.env.locals < s.heap.objs.size := let ⟨_, hn, _⟩ := I.loc; hn.lt
theorem Inv.sz (I : Inv X pins σ H s) : X.s₀.heap.objs.size ≤ s.heap.objs.size := Nat.le_trans I.ok.above (Nat.le_of_lt I.lt)
theorem Inv.nofs (I : Inv X pins σ H s) {a : Addr} (h : s.heap.objs.size ≤ a) : a ∉ X.fs := fun hb => by
  obtain ⟨_, o, ho, _⟩ := I.ok.funs.mem hb
  exact absurd (Nat.lt_of_lt_of_le (Heap.lt_size ho) (Nat.le_trans I.sz h)) (Nat.lt_irrefl _)
theorem Inv.cne (I : Inv X pins σ H s) : ∀ x c, X.env.cells.lookup x = some c → c ≠ X.env.locals := fun x c e z => by
  obtain ⟨v, o, ho, hd⟩ := I.cell x c e
  obtain ⟨m, ⟨o', es, ep, ho', hd', _⟩, _⟩ := I.loc
  rw [z, ho'] at ho; cases ho; rw [hd'] at hd; cases hd
theorem Inv.funs (I : Inv X pins σ H s) : s.heap.FunFrames X.base X.outer := by
  have all : ∀ (l : List Env), (∀ b ∈ frs l, b ∈ X.fs) → X.s₀.heap.FunFrames X.base l → s.heap.FunFrames X.base l := by
    intro l
    induction l with
    | nil => intro _ _; trivial
    | cons env r ih =>
      intro hs hl
      obtain ⟨hk, ⟨L, o, hf, hn, ho, hd⟩, hr⟩ := hl
      have hL : L ∈ X.fs := hs L (by unfold frs; rw [List.filterMap_cons, hf]; exact List.mem_cons_self)
      obtain ⟨sl, e⟩ := I.base.slot L o ho (I.ok.frf L hL) hL fun z => I.ok.exfs L z hL
      exact ⟨hk, ⟨L, _, hf, hn, e, hd⟩, ih (fun b hb => hs b (by unfold frs; rw [List.filterMap_cons, hf]; exact List.mem_cons_of_mem _ hb)) hr⟩
  exact all X.outer (fun _ hb => hb) I.ok.funs

theorem Inv.stack (I : Inv X pins σ H s) : s.heap.FunFrames X.base X.stack := by
  rcases I.ok.stk with e | ⟨e, hf⟩
  · rw [e]; exact I.funs
  · rw [e]
    obtain ⟨m, hn, _⟩ := I.loc
    refine .cons (by rw [I.ok.kind]; decide) hf hn ?_ I.funs
    exact Heap.get?_none_of_le (Nat.le_trans I.ok.bsz I.ok.above)
theorem Inv.stkSub (I : Inv X pins σ H s) : ∀ b ∈ frs X.stack, b ∈ X.env.locals :: X.fs := fun b hb => by
  rcases I.ok.stk with e | ⟨e, hf⟩
  · rw [e] at hb; exact List.mem_cons_of_mem _ hb
  · rw [e] at hb
    unfold frs at hb
    rw [List.filterMap_cons, hf] at hb
    exact hb
theorem Inv.stkFree (I : Inv X pins σ H s) : ∀ b ∈ frs X.stack, H b = none := fun b hb => by
  rcases List.mem_cons.mp (I.stkSub b hb) with e | hb
  · rw [e]; exact I.free
  · obtain ⟨_, o, ho, _⟩ := I.ok.funs.mem hb
    exact I.base.free b o ho (I.ok.frf b hb) fun z => I.ok.exfs b z hb

theorem Inv.step {g' : Array GenState} {t' : Nat} {d' : Drawn} {ch : List Addr} (I : Inv X pins σ H s)
    (hch : ∀ b ∈ ch, (b ∈ X.ex ∨ X.s₀.heap.objs.size ≤ b) ∧ b ≠ X.env.locals ∧ (∀ x c, X.env.cells.lookup x = some c → c ≠ b) ∧ ∀ p ∈ X.pn ++ pins, p.1 ≠ b)
    (keep : ∀ b o, b ≠ X.env.locals → b ∉ X.fs → b ∉ ch → s.heap.get? b = some o → H b = none → h'.get? b = some o)
    (slot : ∀ b o, b ≠ X.env.locals → b ∈ X.fs → b ∉ ch → s.heap.get? b = some o → H b = none → ∃ sl, h'.get? b = some { o with slots := sl }) (free : ∀ b o, b ∉ ch → s.heap.get? b = some o → H b = none → H' b = none)
    (there : ∀ b o, b ∉ ch → s.heap.get? b = some o → ∃ o', h'.get? b = some o')
    (tups : ∀ b xs, H b = some (.tup xs) → H' b = some (.tup xs)) (frzs : ∀ b o u, H b = some (.frz o u) → H' b = some (.frz o u)) (tbls : ∀ b ps, H b = some (.tbl ps) → ∃ more, H' b = some (.tbl (ps ++ more)))
    (ns : ∀ m, s.heap.Ns X.env.locals m → h'.Ns X.env.locals m) (hok : HOk X.prog X.w H' h') (hg : AllBare g') :
    Inv X pins σ H' { s with heap := h', gens := g', drawn := d', toks := t' } := by
  have neL : ∀ b o, X.s₀.heap.get? b = some o → b ≠ X.env.locals := fun b o e => Nat.ne_of_lt (Nat.lt_of_lt_of_le (Heap.lt_size e) I.ok.above)
  have neC : ∀ b o, X.s₀.heap.get? b = some o → b ∉ X.ex → b ∉ ch := fun b o e hx hb => by
    rcases (hch b hb).1 with z | z
    · exact hx z
    · exact absurd (Nat.lt_of_lt_of_le (Heap.lt_size e) z) (Nat.lt_irrefl _)
  have cellK : ∀ x c, X.env.cells.lookup x = some c → ∀ v, s.heap.IsCell c v → h'.IsCell c v := fun x c e v ⟨o, ho, hd⟩ => by
    have nch : c ∉ ch := fun z => (hch c z).2.2.1 x c e rfl
    by_cases hc : c ∈ X.fs
    · obtain ⟨sl, q⟩ := slot c o (I.cne x c e) hc nch ho (I.freeC x c e)
      exact ⟨_, q, hd⟩
    · exact ⟨o, keep c o (I.cne x c e) hc nch ho (I.freeC x c e), hd⟩
  refine ⟨I.ok, I.os, hg, ⟨fun b o e n hb hx => ?_, fun b o e n hb hx => ?_, fun b o e n hx => ?_, fun b o e hx => ?_, fun b xs e => tups b xs (I.base.tups b xs e), fun b o xs e => frzs b o xs (I.base.frzs b o xs e), fun b ps e => ?_⟩, ?_, fun x c e => ?_, ?_, fun x c e => ?_, fun p hp => ?_, hok, I.len⟩
  · exact keep b o (neL b o e) hb (neC b o e hx) (I.base.keep b o e n hb hx) (I.base.free b o e n hx)
  · obtain ⟨sl, e1⟩ := I.base.slot b o e n hb hx
    obtain ⟨sl', e2⟩ := slot b _ (neL b o e) hb (neC b o e hx) e1 (I.base.free b o e n hx)
    exact ⟨sl', e2⟩
  · obtain ⟨o', e1⟩ := I.base.there b o e hx
    exact free b o' (neC b o e hx) e1 (I.base.free b o e n hx)
  · obtain ⟨o', e1⟩ := I.base.there b o e hx
    exact there b o' (neC b o e hx) e1
  · obtain ⟨m1, e1⟩ := I.base.tbls b ps e
    obtain ⟨m2, e2⟩ := tbls b _ e1
    exact ⟨m1 ++ m2, by rw [e2, Array.append_assoc]⟩
  · obtain ⟨m, hn, hl⟩ := I.loc
    refine ⟨m, ns m hn, fun i x v e1 e2 e3 => ?_⟩
    obtain ⟨u, r, l⟩ := hl i x v e1 e2 e3
    refine ⟨u, r, ?_⟩
    rcases l with l | ⟨k, c, e, z⟩
    · exact .inl l
    · exact .inr ⟨k, c, e, cellK x c e _ z⟩
  · obtain ⟨v, z⟩ := I.cell x c e
    exact ⟨v, cellK x c e v z⟩
  · obtain ⟨m, ⟨o, _, _, ho, _⟩, _⟩ := I.loc
    exact free _ o (fun z => (hch _ z).2.1 rfl) ho I.free
  · obtain ⟨v, o, ho, hd⟩ := I.cell x c e
    exact free c o (fun z => (hch c z).2.2.1 x c e rfl) ho (I.freeC x c e)
  · obtain ⟨e, n, ne, nf, d⟩ := I.pin p hp
    have nch : p.1 ∉ ch := fun z => (hch p.1 z).2.2.2 p hp rfl
    exact ⟨keep p.1 p.2 ne nf nch e n, free p.1 p.2 nch e n, ne, nf, d⟩
theorem Inv.un {t' : Nat} (I : Inv X pins σ H s) (u : Un X.fs [] H H' s.heap h') (hok : HOk X.prog X.w H' h') : Inv X pins σ H' { s with heap := h', toks := t' } := by
  obtain ⟨m, ⟨o, es, ep, ho, r⟩, _⟩ := id I.loc
  obtain ⟨sl, hL⟩ := u.any ho I.free (by simp)
  exact I.step (g' := s.gens) (d' := s.drawn) (ch := []) (fun _ z => nomatch z) (fun b o _ hb _ e n => u.keep b o e n hb (by simp)) (fun b o _ hb _ e n => u.slot b o e n hb (by simp)) (fun b o _ e n => u.free b o e n (by simp)) (fun b o _ e => u.there b o e (by simp)) u.tups u.frzs u.tbls (fun m' hm => by
    obtain ⟨o', es', ep', ho', r'⟩ := hm
    rw [ho] at ho'; cases ho'
    exact ⟨_, es', ep', hL, r'⟩) hok I.bare
theorem Inv.call {g' : Array GenState} {t' : Nat} {d' : Drawn} {ch : List Addr} (I : Inv X pins σ H s) (u : Un (frs X.stack) ch H H' s.heap h') (hok : HOk X.prog X.w H' h') (hg : AllBare g')
    (hch : ∀ b ∈ ch, (b ∈ X.ex ∨ X.s₀.heap.objs.size ≤ b) ∧ b ≠ X.env.locals ∧ (∀ x c, X.env.cells.lookup x = some c → c ≠ b) ∧ ∀ p ∈ X.pn ++ pins, p.1 ≠ b) :
    Inv X pins σ H' { s with heap := h', gens := g', drawn := d', toks := t' } := by
  obtain ⟨m, ⟨o, es, ep, ho, r⟩, _⟩ := id I.loc
  obtain ⟨sl, hL⟩ := u.any ho I.free fun z => (hch _ z).2.1 rfl
  exact I.step (ch := ch) hch (fun b o hL hb hc e n => u.keep b o e n (fun z => (List.mem_cons.mp (I.stkSub b z)).elim hL hb) hc) (fun b o _ _ hc e n => u.any e n hc) (fun b o hc e n => u.free b o e n hc) (fun b o hc e => u.there b o e hc) u.tups u.frzs u.tbls (fun m' hm => by
    obtain ⟨o', es', ep', ho', r'⟩ := hm
    rw [ho] at ho'; cases ho'
    exact ⟨_, es', ep', hL, r'⟩) hok hg
theorem Inv.turned {t' : Nat} {it : Addr} (I : Inv X pins σ H s) (k : ∀ b o, b ≠ it → s.heap.get? b = some o → h'.get? b = some o) (hn : H it = none) (hL : it ≠ X.env.locals)
    (h1 : it ∈ X.ex ∨ X.s₀.heap.objs.size ≤ it) (h2 : ∀ x c, X.env.cells.lookup x = some c → c ≠ it) (h3 : ∀ p ∈ X.pn ++ pins, p.1 ≠ it) : Inv X pins σ H { s with heap := h', toks := t' } := by
  have nit : ∀ b u, H b = some u → b ≠ it := fun b u e z => by rw [z, hn] at e; cases e
  refine I.step (g' := s.gens) (d' := s.drawn) (ch := [it]) (fun b hb => ?_) (fun b o _ _ hc e _ => k b o (fun z => hc (by simp [z])) e) (fun b o _ _ hc e _ => ⟨o.slots, k b o (fun z => hc (by simp [z])) e⟩) (fun _ _ _ _ n => n)
    (fun b o hc e => ⟨o, k b o (fun z => hc (by simp [z])) e⟩) (fun _ _ e => e) (fun _ _ _ e => e) (fun b ps e => ⟨#[], by rw [e]; simp⟩) (fun m hm => ?_) (fun b u e => ?_) I.bare
  · have e : b = it := by simpa using hb
    subst e
    exact ⟨h1, hL, h2, h3⟩
  · obtain ⟨o, es, ep, ho, r⟩ := hm
    exact ⟨o, es, ep, k _ o (Ne.symm hL) ho, r⟩
  · refine (I.hok b u e).stay (fun c v hc q => k c v ?_ q) (fun _ q => q) fun _ _ q => q
    rcases hc with z | z
    · rw [z]; exact nit b u e
    · exact nit c _ z
theorem Inv.tok (I : Inv X pins σ H s) (t : Nat) : Inv X pins σ H { s with toks := t } := I.un (h' := s.heap) (t' := t) Un.refl I.hok
theorem Inv.kept {t' : Nat} (I : Inv X pins σ H s) (k : ∀ b u, s.heap.get? b = some u → h'.get? b = some u) : Inv X pins σ H { s with heap := h', toks := t' } := I.un (Un.kept k) (I.hok.kept k)
theorem Inv.laid {a : Addr} {o : HO} {t' : Nat} (I : Inv X pins σ H s) (k : ∀ b u, s.heap.get? b = some u → h'.get? b = some u) (hp : s.heap.objs.size ≤ a) (new : ObjOk X.prog X.w (upd H a o) h' a o) :
    Inv X pins σ (upd H a o) { s with heap := h', toks := t' } := I.un (Un.laid k hp (I.hok.fresh hp)) (I.hok.laid k hp new)
theorem Inv.write {x e : Addr} {o : HO} {t' : Nat} (I : Inv X pins σ H s) (mu : Mut (H x)) (he : e = x ∨ H e = some (.own x)) (k : ∀ b u, b ≠ e → s.heap.get? b = some u → h'.get? b = some u) (heo : ∃ u, h'.get? e = some u)
    (new : ObjOk X.prog X.w (upd H x o) h' x o) : Inv X pins σ (upd H x o) { s with heap := h', toks := t' } := I.un (Un.write mu he k heo) (I.hok.write mu he k heo new)
theorem Inv.weak {σ' : List (Option V)} (I : Inv X pins σ H s) (hl : σ'.length = σ.length) (w : ∀ (i : Nat) v, σ'[i]? = some (some v) → σ[i]? = some (some v)) : Inv X pins σ' H s :=
  ⟨I.ok, I.os, I.bare, I.base, let ⟨m, hn, hl'⟩ := I.loc; ⟨m, hn, fun i x v e1 e2 e3 => hl' i x v e1 (w i v e2) e3⟩, I.cell, I.free, I.freeC, I.pin, I.hok, hl.trans I.len⟩
theorem Inv.pins_of {pins' : List (Addr × Obj)} (I : Inv X pins σ H s) (h : ∀ p ∈ pins', s.heap.get? p.1 = some p.2 ∧ H p.1 = none ∧ p.1 ≠ X.env.locals ∧ p.1 ∉ X.fs ∧ ∀ v, p.2.data ≠ .cell v) : Inv X pins' σ H s :=
  ⟨I.ok, I.os, I.bare, I.base, I.loc, I.cell, I.free, I.freeC, fun p hp => (List.mem_append.mp hp).elim (fun z => I.pin p (List.mem_append_left _ z)) (h p), I.hok, I.len⟩

theorem nodup_ix {N : List Str} (hN : N.Nodup) {i j : Nat} {x : Str} (a : N[i]? = some x) (b : N[j]? = some x) : i = j := by
  obtain ⟨h1, e1⟩ := List.getElem?_eq_some_iff.mp a
  obtain ⟨h2, e2⟩ := List.getElem?_eq_some_iff.mp b
  exact (List.getElem_inj hN).mp (e1.trans e2.symm)

theorem store_ok2 {M : Model} {A : Around} {E : Value → Shared → Prop} {i : Nat} {x : Str} {v : V} {u : Value} {Q : Unit → Shared → Prop} (I : Inv X pins σ H s) (hN : X.N.Nodup) (hi : X.N[i]? = some x) (hx : Loc X.env.scope x) (r : RelV v u)
    (h : ∀ s', Inv X pins (σ.set i (some v)) H s' → (∃ a, Heap.SameBut a s.heap s'.heap ∧ (a = X.env.locals ∨ X.env.cells.lookup x = some a)) → Q () s') (hf : X.fn x = true ∨ X.env.scope.names.lookup x = some .local := by first | exact .inl rfl | exact .inr rfl | assumption) : wpAny M A (storeName X.env x u) Q E s := by
  obtain ⟨m, hn, hl⟩ := id I.loc
  have hcls : (X.env.scope.kind == .class || (X.env.scope.kind == .module && X.env.locals != X.env.globals)) = false := by rw [I.ok.kind]; rfl
  have hiσ : i < σ.length := by rw [I.len]; exact (List.getElem?_eq_some_iff.mp hi).1
  have cne := I.cne
  have tracked : ∀ {a : Addr} {h' : Heap}, (∃ o, s.heap.get? a = some o ∧ H a = none) → Heap.SameBut a s.heap h' → HOk X.prog X.w H h' := fun {a h'} ha hs b ob e => by
    obtain ⟨_, _, hfree⟩ := ha
    refine (I.hok b ob e).stay (fun c w' hc q => (hs.2 c ?_).trans q) (fun _ q => q) fun _ _ q => q
    rintro rfl
    rcases hc with rfl | hc
    · rw [hfree] at e; cases e
    · rw [hfree] at hc; cases hc
  rcases hx with hk | hk
  · refine wpAny_storeName_local hk hn (fun h' hn' hs => ?_) hcls
    obtain ⟨oL, _, _, hoL, _⟩ := id hn
    refine h _ ⟨I.ok, I.os, I.bare, ⟨fun b o e n hb hx => ?_, fun b o e n hb hx => ?_, I.base.free, fun b o e hx => ?_, I.base.tups, I.base.frzs, I.base.tbls⟩, ⟨_, hn', fun j y v' e1 e2 e3 => ?_⟩, fun y c e => ?_, I.free, I.freeC, fun p hp => ?_, tracked ⟨oL, hoL, I.free⟩ hs, by simpa using I.len⟩ ⟨_, hs, .inl rfl⟩
    · exact (hs.2 b (Nat.ne_of_lt (Nat.lt_of_lt_of_le (Heap.lt_size e) I.ok.above))).trans (I.base.keep b o e n hb hx)
    · obtain ⟨sl, e1⟩ := I.base.slot b o e n hb hx
      exact ⟨sl, (hs.2 b (Nat.ne_of_lt (Nat.lt_of_lt_of_le (Heap.lt_size e) I.ok.above))).trans e1⟩
    · obtain ⟨o', e1⟩ := I.base.there b o e hx
      exact ⟨o', (hs.2 b (Nat.ne_of_lt (Nat.lt_of_lt_of_le (Heap.lt_size e) I.ok.above))).trans e1⟩
    · by_cases hj : j = i
      · subst hj
        rw [hi] at e1; cases e1
        rw [List.getElem?_set_self hiσ] at e2
        cases e2
        exact ⟨u, r, .inl ⟨hk, by simp⟩⟩
      · rw [List.getElem?_set_ne (Ne.symm hj)] at e2
        obtain ⟨u', r', q⟩ := hl j y v' e1 e2 e3
        refine ⟨u', r', ?_⟩
        rcases q with ⟨k, e⟩ | ⟨k, c, e, z⟩
        · refine .inl ⟨k, ?_⟩
          have : y ≠ x := fun e => hj (nodup_ix hN e1 (e ▸ hi))
          simp [this, e]
        · exact .inr ⟨k, c, e, z.sameBut hs (cne y c e)⟩
    · obtain ⟨w', z⟩ := I.cell y c e
      exact ⟨w', z.sameBut hs (cne y c e)⟩
    · obtain ⟨e, n, ne, nf, d⟩ := I.pin p hp
      exact ⟨(hs.2 p.1 ne).trans e, n, ne, nf, d⟩
  · have hfn : X.fn x = true := by
      rcases hf with z | z
      · exact z
      · rw [z] at hk; cases hk
    obtain ⟨c, hc⟩ := I.ok.has x (.inl hk)
    obtain ⟨w', z⟩ := I.cell x c hc
    refine wpAny_storeName_cell I.ok.kind hk hc z (fun h' hc' hs => ?_)
    obtain ⟨oc, hoc, hocd⟩ := id z
    refine h { s with heap := h' } ⟨I.ok, I.os, I.bare, ⟨fun b o e n hb hx => ?_, fun b o e n hb hx => ?_, I.base.free, fun b o e hx => ?_, I.base.tups, I.base.frzs, I.base.tbls⟩, ⟨m, hn.sameBut hs (Ne.symm (cne x c hc)), fun j y v' e1 e2 e3 => ?_⟩, fun y c' e => ?_, I.free, I.freeC, fun p hp => ?_, tracked ⟨oc, hoc, I.freeC x c hc⟩ hs, by simpa using I.len⟩ ⟨c, hs, .inr hc⟩
    · exact (hs.2 b (Nat.ne_of_lt (Nat.lt_of_lt_of_le (Heap.lt_size e) (I.ok.cab x c hfn hc)))).trans (I.base.keep b o e n hb hx)
    · obtain ⟨sl, e1⟩ := I.base.slot b o e n hb hx
      exact ⟨sl, (hs.2 b (Nat.ne_of_lt (Nat.lt_of_lt_of_le (Heap.lt_size e) (I.ok.cab x c hfn hc)))).trans e1⟩
    · obtain ⟨o', e1⟩ := I.base.there b o e hx
      exact ⟨o', (hs.2 b (Nat.ne_of_lt (Nat.lt_of_lt_of_le (Heap.lt_size e) (I.ok.cab x c hfn hc)))).trans e1⟩
    · by_cases hj : j = i
      · subst hj
        rw [hi] at e1; cases e1
        rw [List.getElem?_set_self hiσ] at e2
        cases e2
        exact ⟨u, r, .inr ⟨.inl hk, c, hc, hc'⟩⟩
      · rw [List.getElem?_set_ne (Ne.symm hj)] at e2
        obtain ⟨u', r', q⟩ := hl j y v' e1 e2 e3
        refine ⟨u', r', ?_⟩
        rcases q with q | ⟨k, c', e, z'⟩
        · exact .inl q
        · refine .inr ⟨k, c', e, z'.sameBut hs ?_⟩
          rintro rfl
          exact hj (nodup_ix hN e1 (I.ok.inj _ _ _ e hc ▸ hi))
    · by_cases hcc : c' = c
      · subst hcc; exact ⟨_, hc'⟩
      · obtain ⟨w2, z2⟩ := I.cell y c' e
        exact ⟨w2, z2.sameBut hs hcc⟩
    · obtain ⟨e, n, ne, nf, d⟩ := I.pin p hp
      refine ⟨(hs.2 p.1 ?_).trans e, n, ne, nf, d⟩
      intro q
      rw [q, hoc] at e
      have q' : oc = p.2 := Option.some.inj e
      exact d w' (by rw [← q']; exact hocd)
theorem store_ok {M : Model} {A : Around} {E : Value → Shared → Prop} {i : Nat} {x : Str} {v : V} {u : Value} {Q : Unit → Shared → Prop} (I : Inv X pins σ H s) (hN : X.N.Nodup) (hi : X.N[i]? = some x) (hx : Loc X.env.scope x) (r : RelV v u)
    (h : ∀ s', Inv X pins (σ.set i (some v)) H s' → Q () s') (hf : X.fn x = true ∨ X.env.scope.names.lookup x = some .local := by first | exact .inl rfl | exact .inr rfl | assumption) : wpAny M A (storeName X.env x u) Q E s :=
  store_ok2 I hN hi hx r (fun s' I' _ => h s' I') hf
theorem Inv.call' {s' : Shared} {ch : List Addr} (I : Inv X pins σ H s) (ho : s'.os = s.os) (u : Un (frs X.stack) ch H H' s.heap s'.heap) (hok : HOk X.prog X.w H' s'.heap) (hg : AllBare s'.gens)
    (hch : ∀ b ∈ ch, (b ∈ X.ex ∨ X.s₀.heap.objs.size ≤ b) ∧ b ≠ X.env.locals ∧ (∀ x c, X.env.cells.lookup x = some c → c ≠ b) ∧ ∀ p ∈ X.pn ++ pins, p.1 ≠ b) : Inv X pins σ H' s' := by
  obtain ⟨h', g', d', t', o'⟩ := s'
  have e : o' = s.os := ho
  subst e
  exact I.call (g' := g') (t' := t') (d' := d') u hok hg hch
end

noncomputable abbrev XK := Value → Option Addr → Hp → Prop
noncomputable abbrev St := List (Option V)
noncomputable abbrev VK := V → Hp → Prop
noncomputable abbrev TE := St → Hp → VK → Prop
noncomputable abbrev TT := St → Hp → (Bool → Hp → Prop) → Prop
noncomputable abbrev TA := St → Hp → (List V → Hp → Prop) → Prop
structure Ends where
  nx : St → Hp → Prop
  rt : VK
  bk : St → Hp → Prop := fun _ _ => False
  ct : St → Hp → Prop := fun _ _ => False
noncomputable abbrev TS := Ends → St → Hp → Prop

noncomputable def EP (X : Cx) (pins : List (Addr × Obj)) (σ : St) (Q : VK) (u : Value) (s' : Shared) : Prop := ∃ v H', Inv X pins σ H' s' ∧ RelV v u ∧ Q v H'
noncomputable def TP (X : Cx) (pins : List (Addr × Obj)) (σ : St) (Q : Bool → Hp → Prop) (b : Bool) (s' : Shared) : Prop := ∃ H', Inv X pins σ H' s' ∧ Q b H'
noncomputable def AP (X : Cx) (pins : List (Addr × Obj)) (σ : St) (Q : List V → Hp → Prop) (us : List Value) (s' : Shared) : Prop := ∃ vs H', Inv X pins σ H' s' ∧ Vals vs us ∧ Q vs H'
noncomputable def SP (X : Cx) (pins : List (Addr × Obj)) (D : Ends) (f : Flow) (s' : Shared) : Prop :=
  match f with
  | .next => ∃ σ' H', Inv X pins σ' H' s' ∧ D.nx σ' H'
  | .brk => ∃ σ' H', Inv X pins σ' H' s' ∧ D.bk σ' H'
  | .cont => ∃ σ' H', Inv X pins σ' H' s' ∧ D.ct σ' H'
  | .ret u => ∃ v σ' H', Inv X pins σ' H' s' ∧ RelV v u ∧ D.rt v H'

noncomputable def PE (X : Cx) (e : Expr) (t : TE) : Prop :=
  ∀ (pins : List (Addr × Obj)) (s : Shared) (σ : St) (H : Hp) (Q : VK), Inv X pins σ H s → t σ H Q → wpAny (model X.prog X.w) X.A (eval e X.env) (EP X pins σ Q) X.xe s
noncomputable def PT (X : Cx) (e : Expr) (t : TT) : Prop :=
  ∀ (pins : List (Addr × Obj)) (s : Shared) (σ : St) (H : Hp) (Q : Bool → Hp → Prop), Inv X pins σ H s → t σ H Q → wpAny (model X.prog X.w) X.A (isTrue e X.env (eval e X.env)) (TP X pins σ Q) X.xe s
noncomputable def PW (X : Cx) (e : Expr) (t : TT) : Prop :=
  ∀ (whole : Sem Value) (pins : List (Addr × Obj)) (s : Shared) (σ : St) (H : Hp) (Q : Bool → Hp → Prop), Inv X pins σ H s → t σ H Q → wpAny (model X.prog X.w) X.A (isTrue e X.env whole) (TP X pins σ Q) X.xe s
theorem PW.pt {X : Cx} {e : Expr} {t : TT} (h : PW X e t) : PT X e t := h _
noncomputable def PA (X : Cx) (es : List Expr) (t : TA) : Prop :=
  ∀ (pos : Pos) (pins : List (Addr × Obj)) (s : Shared) (σ : St) (H : Hp) (Q : List V → Hp → Prop), Inv X pins σ H s → t σ H Q → wpAny (model X.prog X.w) X.A (spliced (backTo pos (starEach es X.env))) (AP X pins σ Q) X.xe s
noncomputable def PS (X : Cx) (st : Stmt) (t : TS) : Prop :=
  ∀ (pins : List (Addr × Obj)) (s : Shared) (σ : St) (H : Hp) (D : Ends), Inv X pins σ H s → t D σ H → wpAny (model X.prog X.w) X.A (exec st X.env) (SP X pins D) X.xe s
noncomputable def PSs (X : Cx) (st : List Stmt) (t : TS) : Prop :=
  ∀ (pins : List (Addr × Obj)) (s : Shared) (σ : St) (H : Hp) (D : Ends), Inv X pins σ H s → t D σ H → wpAny (model X.prog X.w) X.A (execs st X.env) (SP X pins D) X.xe s
theorem thn {α : Type} {t : Sem α} {Q Q' : α → Shared → Prop} {M : Model} {A : Around} {E : Value → Shared → Prop} {s : Shared} (h : wpAny M A t Q E s) (hQ : ∀ a s, Q a s → Q' a s) : wpAny M A t Q' E s := wpAny_mono h hQ fun _ _ x => x
end L2

namespace L2
open PySem PySem.Spec PyProof.Rows
section
variable {X : Cx}

noncomputable def tVar (i : Nat) : TE := fun σ H Q => ∃ v, σ[i]? = some (some v) ∧ Q v H
noncomputable def tC (v : V) : TE := fun _ H Q => Q v H
theorem pe_var {i : Nat} {x : Str} {pos : Pos} (hN : X.N[i]? = some x) (hv : Vis X.env.scope x) (hd : (x == ("__debug__" : Str)) = false := by decide) (hcd : (x == ("__classdict__" : Str)) = false := by decide) : PE X (.Name x pos) (tVar i) := by
  intro pins s σ H Q I h
  obtain ⟨v, e, h⟩ := h
  obtain ⟨m, hn, hl⟩ := I.loc
  obtain ⟨u, r, l⟩ := hl i x v hN e hv
  have fin : EP X pins σ Q u s := ⟨v, H, I, r, h⟩
  rcases l with ⟨hk, hm⟩ | ⟨hk, c, hc, hcell⟩
  · exact wpAny_Name (wpAny_loadName_local I.ok.kind hk hn hm fin) hd
  · rcases hk with hk | hk
    · exact wpAny_Name (wpAny_loadName_cell I.ok.kind hk hc hcell fin) hd
    · exact wpAny_Name (wpAny_loadName_free I.ok.kind hk hc hcell fin hcd) hd
theorem pe_int {i j pos} : PE X (.Constant (.int i) j pos) (tC (.int i)) := fun _ _ _ H _ I h => wpAny_Constant_int ⟨.int i, H, I.tok _, ⟨_, rfl⟩, h⟩
theorem pe_bl {b j pos} : PE X (.Constant (.bool b) j pos) (tC (.bl b)) := fun _ _ _ H _ I h => Constant_bool ⟨.bl b, H, I, rfl, h⟩
theorem pe_str {x j pos} : PE X (.Constant (.str x) j pos) (tC (.str x)) := fun _ _ _ H _ I h => Calls.Constant_str ⟨.str x, H, I.tok _, ⟨_, rfl⟩, h⟩

noncomputable def Gl (X : Cx) (x : Str) : Prop := X.env.kindOf x = some .globalImplicit
theorem ld_glob {E : Value → Shared → Prop} {pins : List (Addr × Obj)} {s : Shared} {σ : St} {H : Hp} {x : Str} {u : Value} {pos : Pos} {Q : Value → Shared → Prop} (I : Inv X pins σ H s) (hg : Gl X x) (hm : X.mg x = some u) (h : Q u s)
    (hd : (x == ("__debug__" : Str)) = false := by decide) : wpAny (model X.prog X.w) X.A (eval (.Name x pos) X.env) Q E s :=
  Calls.Name_function_global I.ok.kind hg (Calls.loadGlobal_global (by rw [I.ok.glob]; exact I.mod.glob.keeps I.bk) hm h) hd
theorem ld_blt {E : Value → Shared → Prop} {pins : List (Addr × Obj)} {s : Shared} {σ : St} {H : Hp} {x : Str} {u : Value} {pos : Pos} {Q : Value → Shared → Prop} (I : Inv X pins σ H s) (hg : Gl X x) (hm : X.mg x = none) (hv : bootBuiltins x = some u) (h : Q u s)
    (hn : x ≠ "__name__" := by decide) (hd : (x == ("__debug__" : Str)) = false := by decide) : wpAny (model X.prog X.w) X.A (eval (.Name x pos) X.env) Q E s := by
  obtain ⟨mb, h1, h2⟩ := I.mod.blt
  exact Calls.Name_function_global I.ok.kind hg (Calls.loadGlobal_builtin (by rw [I.ok.glob]; exact I.mod.glob.keeps I.bk) hm (by rw [I.ok.blt]; exact h1.keeps I.bk) ((h2 x hn).trans hv) h) hd
theorem pe_glob {x : Str} {v : V} {u : Value} {pos : Pos} (hg : Gl X x) (hm : X.mg x = some u) (r : RelV v u) (hd : (x == ("__debug__" : Str)) = false := by decide) : PE X (.Name x pos) (tC v) :=
  fun _ _ _ H _ I h => ld_glob I hg hm ⟨v, H, I, r, h⟩ hd
theorem pe_bltn {x : Str} {v : V} {u : Value} {pos : Pos} (hg : Gl X x) (hm : X.mg x = none) (hv : bootBuiltins x = some u) (r : RelV v u) (hn : x ≠ "__name__" := by decide) (hd : (x == ("__debug__" : Str)) = false := by decide) : PE X (.Name x pos) (tC v) :=
  fun _ _ _ H _ I h => ld_blt I hg hm hv ⟨v, H, I, r, h⟩ hn hd

variable {a b : Expr} {ta tb : TE} {pos : Pos}
noncomputable def PC (X : Cx) (op : CmpOp) (a b : Expr) (t : TE) : Prop :=
  ∀ (pins : List (Addr × Obj)) (s : Shared) (σ : St) (H : Hp) (Q : VK), Inv X pins σ H s → t σ H Q →
    wpAny (model X.prog X.w) X.A (eval a X.env) (fun v s₁ => wpAny (model X.prog X.w) X.A (eval b X.env) (fun u s₂ => wpAny (model X.prog X.w) X.A (compareOp op v u) (EP X pins σ Q) X.xe s₂) X.xe s₁) X.xe s
theorem nobehind (b : Expr) {op : CmpOp} (h : op ≠ .In) (h2 : op ≠ .NotIn) : behindInMarks op b = false := by
  have e1 : (op == CmpOp.In) = false := by cases op <;> first | rfl | exact absurd rfl h
  have e2 : (op == CmpOp.NotIn) = false := by cases op <;> first | rfl | exact absurd rfl h2
  cases b <;> simp [behindInMarks, e1, e2]
noncomputable def tB (t : TE) : TT := fun σ H Q => t σ H fun x H1 => ∃ c, x = .bl c ∧ Q c H1
theorem pt_cmp {op : CmpOp} {t : TE} (h : PC X op a b t) (h1 : behindInMarks op b = false := by first | exact nobehind _ (by decide) (by decide) | rfl) : PT X (.Compare a [op] [b] pos) (tB t) := by
  intro pins s σ H Q I hw
  refine wpAny_isTrue_Compare1 (thn (h pins s σ H _ I hw) fun v s1 h1 => thn h1 fun u s2 h2 => thn h2 fun c s3 ⟨x, H1, I1, r1, q1⟩ => ?_) h1
  obtain ⟨d, rfl, q⟩ := q1
  cases r1
  exact wpAny_truthy_bool ⟨H1, I1, q⟩
theorem pt_val {e : Expr} {t : TE} (h : PE X e t) (he : ∀ whole, isTrue e X.env whole = (do let v ← whole; standAt e.pos; holding [v] (truthy v)) := by intro _; rfl) : PT X e (tB t) := by
  intro pins s σ H Q I hw
  refine isTrue_plain (thn (h pins s σ H _ I hw) fun v s1 ⟨x, H1, I1, r1, q1⟩ => ?_) (he _)
  obtain ⟨d, rfl, q⟩ := q1
  cases r1
  exact wpAny_truthy_bool ⟨H1, I1, q⟩

variable {tA tB' : TT} {rest : List Expr}
noncomputable def tAnd (t u : TT) : TT := fun σ H Q => t σ H fun c H1 => if c = true then u σ H1 Q else Q false H1
noncomputable def tOr (t u : TT) : TT := fun σ H Q => t σ H fun c H1 => if c = true then Q true H1 else u σ H1 Q
noncomputable def tNot (t : TT) : TT := fun σ H Q => t σ H fun c H1 => Q (!c) H1
theorem pw_and1 (ha : PT X a tA) : PW X (.BoolOp .And [a] pos) tA := by
  intro wh pins s σ H Q I h
  refine isTrue_and (thn (ha pins s σ H Q I h) fun c s1 e => ?_)
  cases c with
  | true => exact isTrue_and_nil e
  | false => exact e
theorem pw_or1 (ha : PT X a tA) : PW X (.BoolOp .Or [a] pos) tA := by
  intro wh pins s σ H Q I h
  refine isTrue_or (thn (ha pins s σ H Q I h) fun c s1 e => ?_)
  cases c with
  | false => exact isTrue_or_nil e
  | true => exact e
theorem pw_and (ha : PT X a tA) (hb : PW X (.BoolOp .And (b :: rest) pos) tB') : PW X (.BoolOp .And (a :: b :: rest) pos) (tAnd tA tB') := by
  intro wh pins s σ H Q I h
  refine isTrue_and (thn (ha pins s σ H _ I h) fun c s1 ⟨H1, I1, q1⟩ => ?_)
  cases c with
  | true => exact hb wh pins s1 σ H1 Q I1 q1
  | false => exact ⟨H1, I1, q1⟩
theorem pw_or (ha : PT X a tA) (hb : PW X (.BoolOp .Or (b :: rest) pos) tB') : PW X (.BoolOp .Or (a :: b :: rest) pos) (tOr tA tB') := by
  intro wh pins s σ H Q I h
  refine isTrue_or (thn (ha pins s σ H _ I h) fun c s1 ⟨H1, I1, q1⟩ => ?_)
  cases c with
  | true => exact ⟨H1, I1, q1⟩
  | false => exact hb wh pins s1 σ H1 Q I1 q1
theorem pt_not (ha : PT X a tA) : PT X (.UnaryOp .Not a pos) (tNot tA) := by
  intro pins s σ H Q I h
  exact isTrue_not (ha pins s σ H (fun c H1 => Q (!c) H1) I h)
noncomputable def tAndV (ta tb : TE) : TE := fun σ H Q => ta σ H fun x H1 => ∃ c, x = .bl c ∧ if c = true then tb σ H1 Q else Q (.bl false) H1
noncomputable def tOrV (ta tb : TE) : TE := fun σ H Q => ta σ H fun x H1 => ∃ c, x = .bl c ∧ if c = true then Q (.bl true) H1 else tb σ H1 Q
noncomputable def tNotV (ta : TE) : TE := fun σ H Q => ta σ H fun x H1 => ∃ c, x = .bl c ∧ Q (.bl (!c)) H1
theorem pe_one {op} {t : TE} (h : PE X a t) : PE X (.BoolOp op [a] pos) t := fun pins s σ H Q I hw => BoolOp_one (h pins s σ H Q I hw)
theorem pe_and (ha : PE X a ta) (hb : PE X (.BoolOp .And (b :: rest) pos) tb) : PE X (.BoolOp .And (a :: b :: rest) pos) (tAndV ta tb) := by
  intro pins s σ H Q I h
  refine BoolOp_and (thn (ha pins s σ H _ I h) fun v s1 ⟨x, H1, I1, r1, q1⟩ => ?_)
  obtain ⟨c, rfl, q1⟩ := q1
  cases r1
  refine wpAny_truthy_bool ?_
  cases c with
  | true => exact hb pins s1 σ H1 Q I1 q1
  | false => exact ⟨.bl false, H1, I1, rfl, q1⟩
theorem pe_or (ha : PE X a ta) (hb : PE X (.BoolOp .Or (b :: rest) pos) tb) : PE X (.BoolOp .Or (a :: b :: rest) pos) (tOrV ta tb) := by
  intro pins s σ H Q I h
  refine BoolOp_or (thn (ha pins s σ H _ I h) fun v s1 ⟨x, H1, I1, r1, q1⟩ => ?_)
  obtain ⟨c, rfl, q1⟩ := q1
  cases r1
  refine wpAny_truthy_bool ?_
  cases c with
  | false => exact hb pins s1 σ H1 Q I1 q1
  | true => exact ⟨.bl true, H1, I1, rfl, q1⟩
theorem pe_not (ha : PE X a ta) : PE X (.UnaryOp .Not a pos) (tNotV ta) := by
  intro pins s σ H Q I h
  refine UnaryOp_ (thn (ha pins s σ H _ I h) fun v s1 ⟨x, H1, I1, r1, q1⟩ => ?_)
  obtain ⟨c, rfl, q1⟩ := q1
  cases r1
  exact not_of (wpAny_truthy_bool ⟨.bl (!c), H1, I1, rfl, q1⟩)
noncomputable def tIf (t : TT) (ta tb : TE) : TE := fun σ H Q => t σ H fun c H1 => if c = true then ta σ H1 Q else tb σ H1 Q
end
end L2

namespace L2
open PySem PySem.Spec PyProof.Rows

noncomputable def SqL (K : PySem.W.Frag) (H : Hp) (a : Addr) (xs : List V) : Prop :=
  Rd H a (.lst xs) ∨
    ∃ (o : Obj) (its : Array Value) (n : Nat), K.lookup a = some o ∧ o.cls = .type "list" ∧ o.dict = none ∧ o.data = .seq its n ∧ its.size ≤ sizeLine ∧ Vals xs its.toList
noncomputable def SqT (K : PySem.W.Frag) (H : Hp) (a : Addr) (xs : List V) : Prop :=
  Rd H a (.tup xs) ∨
    ∃ (o : Obj) (its : Array Value) (n : Nat), K.lookup a = some o ∧ o.cls = .type "tuple" ∧ o.data = .seq its n ∧ its.size ≤ sizeLine ∧ Vals xs its.toList
noncomputable def absV : Value → Option V
  | .none => some .non
  | .bool b => some (.bl b)
  | .int i _ => some (.int i)
  | .str x _ => some (.str x)
  | .bytes b _ => some (.byt b)
  | .float b _ => some (.flt b)
  | .ref a => some (.ref a)
  | .type n => some (.ty n)
  | _ => none
theorem RelV.abs {x : V} {u : Value} (r : RelV x u) : absV u = some x := by
  cases x with
  | non => cases r; rfl
  | bl _ => cases r; rfl
  | int _ => obtain ⟨t, rfl⟩ := r; rfl
  | str _ => obtain ⟨t, rfl⟩ := r; rfl
  | byt _ => obtain ⟨t, rfl⟩ := r; rfl
  | flt _ => obtain ⟨t, rfl⟩ := r; rfl
  | ref _ => cases r; rfl
  | ty _ => cases r; rfl
theorem RelV.inj {x y : V} {u : Value} (r : RelV x u) (q : RelV y u) : x = y := Option.some.inj (r.abs.symm.trans q.abs)
theorem Vals.inj : ∀ {xs ys : List V} {us : List Value}, Vals xs us → Vals ys us → xs = ys
  | _, _, _, .nil, .nil => rfl
  | _, _, _, .cons r t, .cons r' t' => by rw [r.inj r', Vals.inj t t']
section
variable {X : Cx} {pins : List (Addr × Obj)} {σ : St} {H : Hp} {s : Shared} {a : Addr} {xs ys : List V}
theorem SqL.of {K : PySem.W.Frag} (h : H a = some (.lst xs)) : SqL K H a xs := .inl (.inl h)
theorem SqT.of {K : PySem.W.Frag} (h : H a = some (.tup xs)) : SqT K H a xs := .inl (.inl h)
theorem Inv.list (I : Inv X pins σ H s) (h : SqL X.K H a xs) : ∃ its : List Value, Vals xs its ∧ PlainL s.heap a its.toArray ∧ xs.length ≤ sizeLine := by
  rcases h with h | ⟨o, its, n, hk, hc, hd, hs, hz, r⟩
  · obtain ⟨z, its, n, r, e⟩ := h.ok I.hok
    exact ⟨its, r, ⟨_, n, e, rfl, rfl, rfl⟩, z⟩
  · refine ⟨its.toList, r, ⟨o, n, I.kIn a o hk, hc, hd, by simpa using hs⟩, ?_⟩
    have e := r.length
    simp only [Array.length_toList] at e
    omega
theorem Inv.tuple (I : Inv X pins σ H s) (h : SqT X.K H a xs) : ∃ its : List Value, Vals xs its ∧ IsTup s.heap a its.toArray ∧ xs.length ≤ sizeLine := by
  rcases h with h | ⟨o, its, n, hk, hc, hs, hz, r⟩
  · obtain ⟨z, its, r, p⟩ := h.ok I.hok
    exact ⟨its, r, p, z⟩
  · refine ⟨its.toList, r, ⟨o, I.kIn a o hk, hc, n, by simpa using hs⟩, ?_⟩
    have e := r.length
    simp only [Array.length_toList] at e
    omega
theorem Inv.list_inj (I : Inv X pins σ H s) (h : SqL X.K H a xs) (h' : SqL X.K H a ys) : xs = ys := by
  obtain ⟨its, r, ⟨o, n, e, _, _, d⟩, _⟩ := I.list h
  obtain ⟨its', r', ⟨o', n', e', _, _, d'⟩, _⟩ := I.list h'
  rw [e] at e'; cases e'
  rw [d] at d'
  injection d' with d1 _
  have : its = its' := by simpa using congrArg Array.toList d1
  subst this
  exact r.inj r'
end

noncomputable abbrev Cx.wish (X : Cx) (E : Value → Shared → Prop) : Cx := { X with xe := E }
noncomputable abbrev Cx.nox (X : Cx) : Cx := X.wish fun _ _ => False
theorem Cx.Ok.wish {X : Cx} (ok : X.Ok) (E : Value → Shared → Prop) : (X.wish E).Ok :=
  ⟨ok.mod, ok.kind, ok.glob, ok.blt, ok.above, ok.inj, ok.has, ok.cab, ok.hd, ok.frames, ok.stk, ok.exf, ok.bs, ok.bsz, ok.noex, ok.exfs, ok.funs, ok.frf⟩
theorem Cx.Ok.unwish {X : Cx} {E : Value → Shared → Prop} (ok : (X.wish E).Ok) : X.Ok :=
  ⟨ok.mod, ok.kind, ok.glob, ok.blt, ok.above, ok.inj, ok.has, ok.cab, ok.hd, ok.frames, ok.stk, ok.exf, ok.bs, ok.bsz, ok.noex, ok.exfs, ok.funs, ok.frf⟩
section
variable {X : Cx} {pins : List (Addr × Obj)} {σ : St} {H : Hp} {s : Shared} {E : Value → Shared → Prop}
theorem Inv.wish (I : Inv X pins σ H s) (E : Value → Shared → Prop) : Inv (X.wish E) pins σ H s := ⟨I.ok.wish E, I.os, I.bare, I.base, I.loc, I.cell, I.free, I.freeC, I.pin, I.hok, I.len⟩
theorem Inv.unwish (I : Inv (X.wish E) pins σ H s) : Inv X pins σ H s := ⟨I.ok.unwish, I.os, I.bare, I.base, I.loc, I.cell, I.free, I.freeC, I.pin, I.hok, I.len⟩
theorem SP.unwish {D : Ends} {f : Flow} {s' : Shared} (h : SP (X.wish E) pins D f s') : SP X pins D f s' := by
  cases f with
  | next => obtain ⟨σ', H', I, q⟩ := h; exact ⟨σ', H', I.unwish, q⟩
  | brk => obtain ⟨σ', H', I, q⟩ := h; exact ⟨σ', H', I.unwish, q⟩
  | cont => obtain ⟨σ', H', I, q⟩ := h; exact ⟨σ', H', I.unwish, q⟩
  | ret u => obtain ⟨v, σ', H', I, r, q⟩ := h; exact ⟨v, σ', H', I.unwish, r, q⟩
theorem PE.nox {e : Expr} {t : TE} (h : PE X.nox e t) : PE X e t := fun pins s σ H Q I hw =>
  wpAny_mono (h pins s σ H Q (I.wish _) hw) (fun _ _ ⟨v, H', I', r, q⟩ => ⟨v, H', I'.unwish, r, q⟩) fun _ _ z => False.elim z
theorem PT.nox {e : Expr} {t : TT} (h : PT X.nox e t) : PT X e t := fun pins s σ H Q I hw =>
  wpAny_mono (h pins s σ H Q (I.wish _) hw) (fun _ _ ⟨H', I', q⟩ => ⟨H', I'.unwish, q⟩) fun _ _ z => False.elim z
theorem PSs.nox {st : List Stmt} {t : TS} (h : PSs X.nox st t) : PSs X st t := fun pins s σ H D I hw =>
  wpAny_mono (h pins s σ H D (I.wish _) hw) (fun _ _ q => q.unwish) fun _ _ z => False.elim z
end

section
variable {X : Cx} {st : Stmt} {rest : List Stmt} {t u : TS} {e : Expr} {te : TE} {pos : Pos}
noncomputable def tNext : TS := fun D σ H => D.nx σ H
noncomputable def tSeq (t u : TS) : TS := fun D σ H => t { D with nx := u D } σ H
theorem pss_nil : PSs X [] tNext := fun _ _ σ H _ I h => wpAny_execs_nil ⟨σ, H, I, h⟩
theorem pss_cons (h1 : PS X st t) (h2 : PSs X rest u) : PSs X (st :: rest) (tSeq t u) := by
  intro pins s σ H D I h
  refine wpAny_execs_cons (thn (h1 pins s σ H { D with nx := u D } I h) fun f s1 q => ?_)
  cases f with
  | next =>
    obtain ⟨σ', H', I', q⟩ := q
    exact h2 pins s1 σ' H' D I' q
  | ret v => exact q
  | brk => exact q
  | cont => exact q
theorem pss_one (h1 : PS X st t) : PSs X [st] t := by
  intro pins s σ H D I h
  refine wpAny_execs_cons (thn (h1 pins s σ H D I h) fun f s1 q => ?_)
  cases f with
  | next => exact wpAny_execs_nil q
  | ret v => exact q
  | brk => exact q
  | cont => exact q
noncomputable def tBreak : TS := fun D σ H => D.bk σ H
noncomputable def tCont : TS := fun D σ H => D.ct σ H
theorem Inv.quiet {pins : List (Addr × Obj)} {σ : St} {H : Hp} {s : Shared} (I : Inv X pins σ H s) : interactive X.env = false := by simp [interactive, I.ok.kind]
noncomputable def tDrop (te : TE) : TS := fun D σ H => te σ H fun _ H1 => D.nx σ H1
theorem ps_expr (he : PE X e te) (hs : swapsWith e none pos.line X.env = pure false := by rfl) : PS X (.Expr e pos) (tDrop te) := by
  intro pins s σ H D I h
  exact wpAny_Expr_any (thn (he pins s σ H _ I h) fun v s1 ⟨x, H1, I1, r1, q1⟩ => ⟨σ, H1, I1, q1⟩) I.quiet hs
noncomputable def tRet (te : TE) : TS := fun D σ H => te σ H D.rt
theorem ps_ret (he : PE X e te) : PS X (.Return (some e) pos) (tRet te) := by
  intro pins s σ H D I h
  exact wpAny_Return_some (thn (he pins s σ H _ I h) fun v s1 ⟨x, H1, I1, r1, q1⟩ => ⟨x, σ, H1, I1, r1, q1⟩)
noncomputable def tRetN : TS := fun D _ H => D.rt .non H
noncomputable def tIfS (c : TT) (t u : TS) : TS := fun D σ H => c σ H fun b H1 => if b = true then t D σ H1 else u D σ H1
theorem ps_if {c : Expr} {a b : List Stmt} {tc : TT} (hc : PT X c tc) (ha : PSs X a t) (hb : PSs X b u) : PS X (.If c a b pos) (tIfS tc t u) := by
  intro pins s σ H D I h
  refine wpAny_If (thn (hc pins s σ H _ I h) fun d s1 ⟨H1, I1, q1⟩ => ?_)
  cases d with
  | true => exact ha pins s1 σ H1 D I1 q1
  | false => exact hb pins s1 σ H1 D I1 q1
noncomputable def tNever : TS := fun _ _ _ => False
theorem ps_never : PS X st tNever := fun _ _ _ _ _ _ h => h.elim
end

noncomputable abbrev TG := V → St → Hp → (St → Hp → Prop) → Prop
noncomputable abbrev TGs := List V → St → Hp → (St → Hp → Prop) → Prop
noncomputable def PG (X : Cx) (target : Expr) (t : TG) : Prop :=
  ∀ (pins : List (Addr × Obj)) (s : Shared) (σ : St) (H : Hp) (v : V) (u : Value) (Q : St → Hp → Prop), Inv X pins σ H s → RelV v u → t v σ H Q →
    wpAny (model X.prog X.w) X.A (assign target X.env u) (fun _ s' => ∃ σ' H', Inv X pins σ' H' s' ∧ Q σ' H') X.xe s
noncomputable def PGs (X : Cx) (ts : List Expr) (t : TGs) : Prop :=
  ∀ (pins : List (Addr × Obj)) (s : Shared) (σ : St) (H : Hp) (vs : List V) (us : List Value) (Q : St → Hp → Prop), Inv X pins σ H s → Vals vs us → t vs σ H Q →
    wpAny (model X.prog X.w) X.A (assignInOrder ((assignEach ts X.env).map (·.2)) us) (fun _ s' => ∃ σ' H', Inv X pins σ' H' s' ∧ Q σ' H') X.xe s
noncomputable abbrev TSet := V → V → V → Hp → (Hp → Prop) → Prop
section
variable {X : Cx} {pos : Pos}
noncomputable def gName (i : Nat) : TG := fun v σ H Q => Q (σ.set i (some v)) H
theorem pg_name {i : Nat} {x : Str} (hN : X.N.Nodup) (hi : X.N[i]? = some x) (hx : Loc X.env.scope x) (hf : X.fn x = true ∨ X.env.scope.names.lookup x = some .local := by first | exact .inl rfl | exact .inr rfl | assumption) : PG X (.Name x pos) (gName i) := by
  intro pins s σ H v u Q I r h
  exact wpAny_assign_Name (store_ok I hN hi hx r (fun s' I' => ⟨_, H, I', h⟩) hf)
noncomputable def gNil : TGs := fun vs σ H Q => vs = [] ∧ Q σ H
noncomputable def gCons (t : TG) (u : TGs) : TGs := fun vs σ H Q => ∃ v r, vs = v :: r ∧ t v σ H fun σ' H' => u r σ' H' Q
theorem pgs_nil : PGs X [] gNil := by
  intro pins s σ H vs us Q I r h
  obtain ⟨e, h⟩ := h
  subst e
  cases r
  exact assignInOrder_nil ⟨σ, H, I, h⟩
theorem pgs_cons {e : Expr} {es : List Expr} {t : TG} {u : TGs} (h1 : PG X e t) (h2 : PGs X es u)
    (hs : (assignEach (e :: es) X.env).map (·.2) = assign e X.env :: (assignEach es X.env).map (·.2) := by rfl) : PGs X (e :: es) (gCons t u) := by
  intro pins s σ H vs us Q I r h
  obtain ⟨v, vr, e1, h⟩ := h
  subst e1
  cases r with
  | cons r rr =>
    rw [hs]
    refine assignInOrder_cons (thn (h1 pins s σ H _ _ _ I r h) fun _ s1 ⟨σ1, H1, I1, q1⟩ => ?_)
    exact h2 pins s1 σ1 H1 _ _ Q I1 rr q1
noncomputable def gTup (K : PySem.W.Frag) (n : Nat) (t : TGs) : TG := fun v σ H Q => ∃ a xs, v = .ref a ∧ SqT K H a xs ∧ xs.length = n ∧ t xs σ H Q
theorem pg_tup {es : List Expr} {k : Nat} {t : TGs} {n : Nat} (hc : X.calm = true) (h : PGs X es t)
    (hn : (assignEach es X.env).length = n := by rfl) (hst : (assignEach es X.env).findIdx? (·.1) = none := by rfl) : PG X (.Tuple es k pos) (gTup X.K n t) := by
  intro pins s σ H v u Q I r hw
  obtain ⟨a, xs, e1, hq, hl, hw⟩ := hw
  subst e1
  cases r
  obtain ⟨its, rv, ht, hz⟩ := I.tuple hq
  refine assign_Tuple_tuple (I.ok.hd hc) ht (by simp [hn, ← hl, rv.length]) hst fun h' hx => ?_
  have I1 : Inv X pins σ H { s with heap := h' } := I.kept (t' := s.toks) fun b o e => hx b o (Nat.ne_of_lt (Heap.lt_size e)) e
  exact h pins _ σ H xs _ Q I1 (by simpa using rv) hw
noncomputable def gSub (to ti : TE) (t : TSet) : TG := fun v σ H Q => to σ H fun o H1 => ti σ H1 fun i H2 => t o i v H2 fun H3 => Q σ H3
noncomputable def tAsg (te : TE) (g : TG) : TS := fun D σ H => te σ H fun x H1 => g x σ H1 D.nx
theorem ps_set {i : Nat} {x : Str} {e : Expr} {te : TE} {pos' : Pos} (hN : X.N.Nodup) (hi : X.N[i]? = some x) (hx : Loc X.env.scope x) (he : PE X e te) (hs : swapsWith e (some (.Name x pos')) pos.line X.env = pure false := by rfl) (hf : X.fn x = true ∨ X.env.scope.names.lookup x = some .local := by first | exact .inl rfl | exact .inr rfl | assumption) :
    PS X (.Assign [.Name x pos'] e pos) (tAsg te (gName i)) := by
  intro pins s σ H D I h
  refine wpAny_Assign_Name (thn (he pins s σ H _ I h) fun v s1 ⟨y, H1, I1, r1, q1⟩ => ?_) hs
  exact store_ok I1 hN hi hx r1 (fun s2 I2 => ⟨_, H1, I2, q1⟩) hf
noncomputable def tPar (i j : Nat) (ta : TA) : TS := fun D σ H => ta σ H fun vs H1 => ∃ v w, vs = [v, w] ∧ D.nx ((σ.set i (some v)).set j (some w)) H1
end

section
variable {X : Cx} {pos : Pos}
noncomputable def tWhile (c : TT) (tb : TS) : TS := fun D σ H => ∃ W : Nat → St → Hp → Prop, (∃ m, W m σ H) ∧ ∀ m σ H, W m σ H →
  c σ H fun b H1 => if b = true then ∃ N : St → Hp → Prop, (∀ σ' H', N σ' H' → ∃ m', m' < m ∧ W m' σ' H') ∧ tb { D with nx := N, ct := N, bk := D.nx } σ H1 else D.nx σ H1
theorem ps_while {c : Expr} {body : List Stmt} {tc : TT} {tb : TS} (hp : PassesOwn (model X.prog X.w) X.A X.env X.xe) (hc : PT X c tc) (hb : PSs X body tb) : PS X (.While c body [] pos) (tWhile tc tb) := by
  intro pins s σ H D I h
  obtain ⟨W, ⟨m0, w0⟩, turn⟩ := h
  refine wpAny_While (codeAny_whileLoop (fun n s' => ∃ σ' H', Inv X pins σ' H' s' ∧ W n σ' H') ?_ m0 ⟨σ, H, I, w0⟩)
  rintro n s1 ⟨σ1, H1, I1, w1⟩
  refine wpAny_passesOwn hp (thn (hc pins s1 σ1 H1 _ I1 (turn n σ1 H1 w1)) fun b s2 ⟨H2, I2, q2⟩ => ?_)
  cases b with
  | true =>
    obtain ⟨N, hN, q2⟩ := q2
    rw [if_pos rfl]
    refine wpAny_passesOwn hp (thn (hb pins s2 σ1 H2 _ I2 q2) fun f s3 q3 => ?_)
    cases f with
    | next =>
      obtain ⟨σ3, H3, I3, n3⟩ := q3
      obtain ⟨m', hm, w3⟩ := hN σ3 H3 n3
      exact ⟨m', hm, σ3, H3, I3, w3⟩
    | cont =>
      obtain ⟨σ3, H3, I3, n3⟩ := q3
      obtain ⟨m', hm, w3⟩ := hN σ3 H3 n3
      exact ⟨m', hm, σ3, H3, I3, w3⟩
    | brk => exact q3
    | ret v => exact q3
  | false =>
    rw [if_neg Bool.false_ne_true]
    exact wpAny_execs_nil ⟨σ1, H2, I2, q2⟩
end

structure It where
  go : Nat → Hp → Prop
  yld : Nat → Hp → V → Hp → Prop
  stop : Nat → Hp → Prop
noncomputable def FpOk (X : Cx) (pins : List (Addr × Obj)) (H : Hp) (b : Addr) : Prop :=
  H b = none ∧ b ≠ X.env.locals ∧ b ∉ X.fs ∧ (b ∈ X.ex ∨ X.s₀.heap.objs.size ≤ b) ∧ (∀ x c, X.env.cells.lookup x = some c → c ≠ b) ∧ ∀ p ∈ X.pn ++ pins, p.1 ≠ b
theorem Inv.fpOk {X : Cx} {pins : List (Addr × Obj)} {σ : St} {H H' : Hp} {s : Shared} {b : Addr} (I : Inv X pins σ H s) (hb : s.heap.objs.size ≤ b) (hn : H' b = none) : FpOk X pins H' b := by
  refine ⟨hn, Nat.ne_of_gt (Nat.lt_of_lt_of_le I.lt hb), I.nofs hb, .inr (Nat.le_trans I.sz hb), fun x c e z => ?_, fun p hp z => ?_⟩
  · obtain ⟨v, q⟩ := I.cell x c e
    exact absurd (Nat.lt_of_lt_of_le q.lt (by rw [z]; exact hb)) (Nat.lt_irrefl _)
  · exact absurd (Nat.lt_of_lt_of_le (Heap.lt_size (I.pin p hp).1) (by rw [z]; exact hb)) (Nat.lt_irrefl _)
structure Turn (P : Program) (w : World) (K : PySem.W.Frag) (tg : Expr) (J : It) (fp : List Addr) (it : Addr) (tn : Nat → Heap → Prop) : Prop where
  mem : it ∈ fp
  obj : ∀ i h, tn i h → ∀ b ∈ fp, ∃ o, h.get? b = some o ∧ ∀ v, o.data ≠ .cell v
  keep : ∀ i h h', tn i h → (∀ b ∈ fp, ∀ o, h.get? b = some o → h'.get? b = some o) → tn i h'
  item : ∀ (X : Cx), X.prog = P → X.w = w → X.K = K → X.calm = true → ∀ (i : Nat) (pins : List (Addr × Obj)) (s : Shared) (σ : St) (H : Hp) (E : Value → Shared → Prop), Inv X pins σ H s → (∀ b ∈ fp, FpOk X pins H b) → tn i s.heap → J.go i H →
    wpAny (model P w) X.A (pyNext (.ref it)) (fun r s1 => ∃ u, r = some u ∧
      wpAny (model P w) X.A (letOwnedTupleGo tg (.ref it) u) (fun _ s2 => ∃ x H', Inv X pins σ H' s2 ∧ RelV x u ∧ J.yld i H x H' ∧ tn (i + 1) s2.heap ∧ ∀ b ∈ fp, H' b = none) E s1) E s
  done : ∀ (X : Cx), X.prog = P → X.w = w → X.K = K → X.calm = true → ∀ (i : Nat) (pins : List (Addr × Obj)) (s : Shared) (σ : St) (H : Hp) (E : Value → Shared → Prop), Inv X pins σ H s → (∀ b ∈ fp, FpOk X pins H b) → tn i s.heap → J.stop i H →
    wpAny (model P w) X.A (pyNext (.ref it)) (fun r s1 => r = none ∧ Inv X pins σ H s1) E s
  self : ∀ (A : Around) (i : Nat) (s : Shared) (Q : Value → Shared → Prop) (E : Value → Shared → Prop), tn i s.heap → Q (.ref it) s → wpAny (model P w) A (pyIter (.ref it)) Q E s
noncomputable abbrev TI := St → Hp → (It → Hp → Prop) → Prop
noncomputable def PIE (X : Cx) (pins : List (Addr × Obj)) (σ : St) (tg : Expr) (R : It → Hp → Prop) (itv : Value) (s2 : Shared) : Prop :=
  ∃ (it : Addr) (fp : List Addr) (tn : Nat → Heap → Prop) (J : It) (H' : Hp), itv = .ref it ∧ Inv X pins σ H' s2 ∧ Turn X.prog X.w X.K tg J fp it tn ∧ tn 0 s2.heap ∧ (∀ b ∈ fp, FpOk X pins H' b) ∧ R J H'
noncomputable def PI (X : Cx) (tg iter : Expr) (wi : TI) : Prop :=
  ∀ (pins : List (Addr × Obj)) (s : Shared) (σ : St) (H : Hp) (R : It → Hp → Prop), Inv X pins σ H s → wi σ H R →
    wpAny (model X.prog X.w) X.A (eval iter X.env) (fun v s1 => wpAny (model X.prog X.w) X.A (pyIter v) (PIE X pins σ tg R) X.xe s1) X.xe s

theorem go_of {M : Model} {A : Around} {E : Value → Shared → Prop} {s : Shared} {tg : Expr} {it : Addr} {u : Value} {o : Obj} {n : String} {vs : Array Value} {Q : Unit → Shared → Prop} (ho : s.heap.get? it = some o) (hc : o.cls = .type n) (hd : o.data = .fields vs)
    (hn : ["enumerate", "zip", "dict_itemiterator", "dict_reverseitemiterator", "odict_iterator", "itertools.zip_longest", "itertools.pairwise"].contains n = false) (hQ : Q () s) : wpAny M A (letOwnedTupleGo tg (.ref it) u) Q E s := by
  unfold letOwnedTupleGo
  cases tg <;> first
    | exact wpAny_pure hQ
    | (cases u <;> first
        | exact wpAny_pure hQ
        | (refine wpAny_bind (wpAny_load ho ?_)
           rw [hc, hd]
           show wpAny M A (if (["enumerate", "zip", "dict_itemiterator", "dict_reverseitemiterator", "odict_iterator", "itertools.zip_longest", "itertools.pairwise"].contains n && vs[0]? == some (rawInt _)) = true then _ else _) Q E s
           rw [if_neg (by intro h; rw [hn, Bool.false_and] at h; cases h)]
           exact wpAny_pure hQ))

noncomputable def Itl (K : PySem.W.Frag) (a : Addr) : It :=
  ⟨fun i H => ∃ xs x, SqL K H a xs ∧ xs[i]? = some x, fun i H x H' => H' = H ∧ ∀ xs, SqL K H a xs → xs[i]? = some x, fun i H => ∃ xs, SqL K H a xs ∧ xs.length ≤ i⟩
noncomputable def Itt (K : PySem.W.Frag) (a : Addr) : It :=
  ⟨fun i H => ∃ xs x, SqT K H a xs ∧ xs[i]? = some x, fun i H x H' => H' = H ∧ ∀ xs, SqT K H a xs → xs[i]? = some x, fun i H => ∃ xs, SqT K H a xs ∧ xs.length ≤ i⟩
noncomputable def Itr (lo : Int) (n : Nat) : It := ⟨fun i _ => i < n, fun i H x H' => H' = H ∧ x = .int (lo + i), fun i _ => n ≤ i⟩
theorem turn_list {P : Program} {w : World} {K : PySem.W.Frag} {tg : Expr} (a it : Addr) : Turn P w K tg (Itl K a) [it] it (fun i h => h.IsListIter it a i) where
  mem := by simp
  obj := fun i h st b hb => by
    have e : b = it := by simpa using hb
    subst e
    obtain ⟨o, e, c, d⟩ := st
    exact ⟨o, e, fun v z => by rw [d] at z; cases z⟩
  keep := fun i h h' st k => st.at fun o e => k it (by simp) o e
  item := by
    intro X hP hw hK hc i pins s σ H E I hf st hg
    subst hP hw hK
    obtain ⟨xs, x, hq, hx⟩ := hg
    obtain ⟨its, rv, p, hz⟩ := I.list hq
    obtain ⟨u, hu, ru⟩ := rv.get hx
    obtain ⟨f0, f1, f2, f3, f4, f5⟩ := hf it (by simp)
    refine wpAny_pyNext_list_item st p.isList (x := u) (by simpa using hu) fun h' st' sb => ?_
    have I1 : Inv X pins σ H { s with heap := h' } := I.turned (t' := s.toks) (fun b o hb e => (sb.2 b hb).trans e) f0 f1 f3 f4 f5
    obtain ⟨o, e, c, d⟩ := id st'
    exact ⟨u, rfl, go_of (s := { s with heap := h' }) e c d (by decide) ⟨x, H, I1, ru, ⟨rfl, fun ys hy => by rw [I.list_inj hy hq]; exact hx⟩, st', fun b hb => (hf b hb).1⟩⟩
  done := by
    intro X hP hw hK hc i pins s σ H E I hf st hg
    subst hP hw hK
    obtain ⟨xs, hq, hx⟩ := hg
    obtain ⟨its, rv, p, hz⟩ := I.list hq
    obtain ⟨f0, f1, f2, f3, f4, f5⟩ := hf it (by simp)
    have hl := rv.length
    exact wpAny_pyNext_list_end (I.ok.hd hc) st p.isList (by simp; omega) fun h' eb => ⟨rfl, I.turned (t' := s.toks) (fun b o hb e => eb b o hb e) f0 f1 f3 f4 f5⟩
  self := fun _ _ _ _ _ st h => wpAny_pyIter_listiter st h
theorem turn_range {P : Program} {w : World} {K : PySem.W.Frag} {tg : Expr} (it : Addr) (lo : Int) (n : Nat) : Turn P w K tg (Itr lo n) [it] it (fun i h => IsRangeIter h it (lo + (i : Nat) * 1) ((n : Int) - (i : Nat)) 1) where
  mem := by simp
  obj := fun i h st b hb => by
    have e : b = it := by simpa using hb
    subst e
    exact ⟨_, st, fun v z => by
      have z' : Data.fields _ = Data.cell v := z
      cases z'⟩
  keep := fun i h h' st k => k it (by simp) _ st
  item := by
    intro X hP hw hK hc i pins s σ H E I hf st hg
    subst hP hw hK
    obtain ⟨f0, f1, f2, f3, f4, f5⟩ := hf it (by simp)
    have W := Walks.range (prog := X.prog) (w := X.w) (I.ok.hd hc) it lo 1 n
    refine W.item i s _ _ hg st fun v h' tk hv st' kk => ?_
    obtain ⟨t, rfl⟩ := hv
    have I1 : Inv X pins σ H { s with heap := h', toks := tk } := I.turned (fun b o hb e => kk b o (by simpa using hb) e) f0 f1 f3 f4 f5
    refine ⟨_, rfl, go_of (s := { s with heap := h', toks := tk }) (n := "range_iterator") st' rfl rfl (by decide) ⟨.int (lo + i), H, I1, ⟨t, ?_⟩, ⟨rfl, rfl⟩, st', fun b hb => (hf b hb).1⟩⟩
    rw [Int.mul_one]
  done := by
    intro X hP hw hK hc i pins s σ H E I hf st hg
    subst hP hw hK
    obtain ⟨f0, f1, f2, f3, f4, f5⟩ := hf it (by simp)
    exact wpAny_pyNext_range_end (I.ok.hd hc) st (by have : n ≤ i := hg; omega) fun h' eb => ⟨rfl, I.turned (t' := s.toks) (fun b o hb e => eb b o hb e) f0 f1 f3 f4 f5⟩
  self := fun _ _ _ _ _ st h => wpAny_pyIter_rangeiter st h
end L2

namespace L2
open PySem PySem.Spec PyProof.Rows
section
variable {X : Cx} {tg : Expr}
noncomputable def iList (K : PySem.W.Frag) (tl : TE) : TI := fun σ H R => tl σ H fun x H1 => ∃ a, x = .ref a ∧ (∃ xs, SqL K H1 a xs) ∧ R (Itl K a) H1
noncomputable def iTup (K : PySem.W.Frag) (tl : TE) : TI := fun σ H R => tl σ H fun x H1 => ∃ a, x = .ref a ∧ (∃ xs, SqT K H1 a xs) ∧ R (Itt K a) H1
theorem pi_list {l : Expr} {tl : TE} (hl : PE X l tl) : PI X tg l (iList X.K tl) := by
  intro pins s σ H R I h
  refine thn (hl pins s σ H _ I h) fun v s1 ⟨x, H1, I1, r1, q1⟩ => ?_
  obtain ⟨a, e, ⟨xs, hq⟩, q⟩ := q1
  subst e
  cases r1
  obtain ⟨its, rv, p, hz⟩ := I1.list hq
  refine wpAny_pyIter_list p.isList ?_
  refine ⟨s1.heap.objs.size, [s1.heap.objs.size], _, _, H1, rfl, I1.kept (t' := s1.toks) fun b o e => Heap.get?_push_of_some _ e, turn_list a _, ⟨_, Heap.get?_push_size _ rfl, rfl, rfl⟩, fun b hb => ?_, q⟩
  have e : b = s1.heap.objs.size := by simpa using hb
  subst e
  exact I1.fpOk (Nat.le_refl _) (I1.hok.fresh (Nat.le_refl _))
theorem range_it {pins : List (Addr × Obj)} {σ : St} {H : Hp} {s : Shared} {R : It → Hp → Prop} {E : Value → Shared → Prop} {lo hi : Int} {t u v : Tok} {tk : Nat} (I : Inv X pins σ H s) (h1 : -(2 ^ 62) ≤ lo) (h2 : lo < 2 ^ 62) (h3 : -(2 ^ 62) ≤ hi) (h4 : hi < 2 ^ 62)
    (q : R (Itr lo (hi - lo).toNat) H) : wpAny (model X.prog X.w) X.A (pyIter (.ref s.heap.objs.size)) (PIE X pins σ tg R) E { s with heap := s.heap.push { cls := .type "range", data := .fields #[.int lo t, .int hi u, .int 1 v] }, toks := tk } := by
  refine wpAny_pyIter_range (IsRange.new ..) (small_one h1 h2 h3 h4) ?_
  have I1 : Inv X pins σ H { s with heap := s.heap.push { cls := .type "range", data := .fields #[.int lo t, .int hi u, .int 1 v] }, toks := tk } := I.kept fun b o e => Heap.get?_push_of_some _ e
  refine ⟨(s.heap.push { cls := .type "range", data := .fields #[.int lo t, .int hi u, .int 1 v] }).objs.size, [(s.heap.push { cls := .type "range", data := .fields #[.int lo t, .int hi u, .int 1 v] }).objs.size], _, _, H, rfl,
    I1.kept (t' := tk) fun b o e => Heap.get?_push_of_some _ e, turn_range _ lo (hi - lo).toNat, ?_, fun b hb => ?_, q⟩
  · have e1 : lo + ((0 : Nat) : Int) * 1 = lo := by simp
    have e2 : (((hi - lo).toNat : Nat) : Int) - ((0 : Nat) : Int) = Builtin.Range.rangeSize lo hi 1 := by rw [rangeSize_one]; split <;> omega
    show IsRangeIter _ _ (lo + ((0 : Nat) : Int) * 1) ((((hi - lo).toNat : Nat) : Int) - ((0 : Nat) : Int)) 1
    rw [e1, e2]
    exact Heap.get?_push_size _ rfl
  · have e : b = (s.heap.push { cls := .type "range", data := .fields #[.int lo t, .int hi u, .int 1 v] }).objs.size := by simpa using hb
    subst e
    exact I1.fpOk (Nat.le_refl _) (I1.hok.fresh (Nat.le_refl _))
noncomputable def iRng1 (ta : TA) : TI := fun σ H R => ta σ H fun vs H1 => ∃ j : Int, vs = [.int j] ∧ -(2 ^ 62) ≤ j ∧ j < 2 ^ 62 ∧ R (Itr 0 j.toNat) H1
noncomputable def iRng2 (ta : TA) : TI := fun σ H R => ta σ H fun vs H1 => ∃ i j : Int, vs = [.int i, .int j] ∧ (-(2 ^ 62) ≤ i ∧ i < 2 ^ 62 ∧ -(2 ^ 62) ≤ j ∧ j < 2 ^ 62) ∧ R (Itr i (j - i).toNat) H1
theorem pi_range1 {a : Expr} {ta : TA} {p pos : Pos} (hg : Gl X "range") (hm : X.mg "range" = none) (ha : PA X [a] ta) (hs : starEach [a] X.env = [(false, eval a X.env)] := by rfl) : PI X tg (.Call (.Name "range" p) [a] [] pos) (iRng1 ta) := by
  intro pins s σ H R I h
  refine Call_ (ld_blt I hg hm boot_range (PyProof.Rows.callWith_type1 (thn (ha pos pins s σ H _ I h) fun us s1 ⟨vs, H1, I1, r1, q1⟩ => ?_) hs rfl))
  obtain ⟨j, e, q1, q2, q⟩ := q1
  subst e
  cases r1 with
  | cons r rr =>
    cases rr
    obtain ⟨t, rfl⟩ := r
    exact call_range_1 (range_it I1 (by omega) (by omega) q1 q2 (by simpa using q))
theorem pi_range2 {a b : Expr} {ta : TA} {p pos : Pos} (hg : Gl X "range") (hm : X.mg "range" = none) (ha : PA X [a, b] ta) (hs : starEach [a, b] X.env = [(false, eval a X.env), (false, eval b X.env)] := by rfl) (hs2 : starEach [b] X.env = [(false, eval b X.env)] := by rfl) :
    PI X tg (.Call (.Name "range" p) [a, b] [] pos) (iRng2 ta) := by
  intro pins s σ H R I h
  refine Call_ (ld_blt I hg hm boot_range (PyProof.Rows.callWith_type1 (thn (ha pos pins s σ H _ I h) fun us s1 ⟨vs, H1, I1, r1, q1⟩ => ?_) (by rw [hs, hs2]) (by rw [hs2]; rfl)))
  obtain ⟨i, j, e, ⟨q1, q2, q3, q4⟩, q⟩ := q1
  subst e
  cases r1 with
  | cons r rr =>
    cases rr with
    | cons r' rr =>
      cases rr
      obtain ⟨t, rfl⟩ := r
      obtain ⟨t', rfl⟩ := r'
      exact call_range_2 (range_it I1 q1 q2 q3 q4 q)

noncomputable def tFor (wi : TI) (g : TG) (tb : TS) : TS := fun D σ H => wi σ H fun J H1 => ∃ W : Nat → Nat → St → Hp → Prop, (∃ m, W 0 m σ H1) ∧ ∀ i m σ H, W i m σ H →
  (J.stop i H ∧ D.nx σ H) ∨ (J.go i H ∧ ∃ N : St → Hp → Prop, (∀ σ' H', N σ' H' → ∃ m', m' < m ∧ W (i + 1) m' σ' H') ∧ ∀ x H', J.yld i H x H' → g x σ H' fun σ2 H2 => tb { D with nx := N, ct := N, bk := D.nx } σ2 H2)
noncomputable def pinsAt (fp : List Addr) (h : Heap) : List (Addr × Obj) := fp.filterMap fun b => (h.get? b).map fun o => (b, o)
theorem mem_pinsAt {fp : List Addr} {h : Heap} {b : Addr} {o : Obj} (hb : b ∈ fp) (e : h.get? b = some o) : (b, o) ∈ pinsAt fp h := List.mem_filterMap.mpr ⟨b, hb, by rw [e]; rfl⟩
theorem of_pinsAt {fp : List Addr} {h : Heap} {p : Addr × Obj} (hp : p ∈ pinsAt fp h) : p.1 ∈ fp ∧ h.get? p.1 = some p.2 := by
  obtain ⟨b, hb, e⟩ := List.mem_filterMap.mp hp
  cases q : h.get? b with
  | none => rw [q] at e; cases e
  | some o =>
    rw [q] at e
    have e' : (b, o) = p := Option.some.inj e
    subst e'
    exact ⟨hb, q⟩
theorem Inv.pinned {pins : List (Addr × Obj)} {σ : St} {H : Hp} {s : Shared} {fp : List Addr} (I : Inv X pins σ H s) (hf : ∀ b ∈ fp, FpOk X pins H b) (ho : ∀ b ∈ fp, ∃ o, s.heap.get? b = some o ∧ ∀ v, o.data ≠ .cell v) : Inv X (pins ++ pinsAt fp s.heap) σ H s :=
  I.pins_of fun p hp => (List.mem_append.mp hp).elim (fun z => I.pin p (List.mem_append_right _ z)) fun z => by
    obtain ⟨hb, e⟩ := of_pinsAt z
    obtain ⟨f0, f1, f2, _⟩ := hf p.1 hb
    obtain ⟨o, e', d⟩ := ho p.1 hb
    rw [e] at e'; cases e'
    exact ⟨e, f0, f1, f2, d⟩
theorem Inv.unpinned {pins pl : List (Addr × Obj)} {σ : St} {H : Hp} {s : Shared} (I : Inv X (pins ++ pl) σ H s) : Inv X pins σ H s := I.pins_of fun p hp => I.pin p (List.mem_append_right _ (List.mem_append_left _ hp))
theorem ps_for {iter : Expr} {body : List Stmt} {wi : TI} {g : TG} {tb : TS} {pos : Pos} (hp : PassesOwn (model X.prog X.w) X.A X.env X.xe) (hc : X.calm = true) (hi : PI X tg iter wi) (hg : PG X tg g) (hb : PSs X body tb)
    (hs : ∀ x, foldedSetIterable iter X.env x = pure x := by intro _; rfl) : PS X (.For tg iter body [] pos) (tFor wi g tb) := by
  intro pins s σ H D I h
  refine wpAny_For (thn (hi pins s σ H _ I h) fun v s1 h1 => thn h1 fun itv s2 h2 => ?_) hs
  obtain ⟨it, fp, tn, J, H2, e, I2, T, st2, f2, W, ⟨m0, w0⟩, turn⟩ := h2
  subst e
  -- what stays true of the iterator's objects through the loop
  have stat : ∀ {H' : Hp}, (∀ b ∈ fp, H' b = none) → ∀ b ∈ fp, FpOk X pins H' b := fun hn b hb => ⟨hn b hb, (f2 b hb).2⟩
  refine codeAny_forLoop_any (fun n s' => ∃ i σ' H', Inv X pins σ' H' s' ∧ tn i s'.heap ∧ (∀ b ∈ fp, H' b = none) ∧ W i n σ' H') ?_ m0 ⟨0, σ, H2, I2, st2, fun b hb => (f2 b hb).1, w0⟩
  rintro n s3 ⟨i, σ3, H3, I3, st3, fr3, w3⟩
  rcases turn i n σ3 H3 w3 with ⟨stop, qn⟩ | ⟨go, N, hN, step⟩
  · refine wpAny_passesOwn hp (thn (T.done X rfl rfl rfl hc i pins s3 σ3 H3 X.xe I3 (stat fr3) st3 stop) fun r s4 ⟨hr, I4⟩ => ?_)
    subst hr
    exact wpAny_execs_nil ⟨σ3, H3, I4, qn⟩
  · refine wpAny_passesOwn hp (thn (T.item X rfl rfl rfl hc i pins s3 σ3 H3 X.xe I3 (stat fr3) st3 go) fun r s4 ⟨u, hr, h4⟩ => ?_)
    subst hr
    refine wpAny_passesOwn hp (thn h4 fun _ s5 ⟨x, H5, I5, r5, y5, st5, fr5⟩ => ?_)
    have I5' := I5.pinned (stat fr5) (T.obj _ _ st5)
    refine wpAny_passesOwn hp (thn (hg _ s5 σ3 H5 x u _ I5' r5 (step x H5 y5)) fun _ s6 ⟨σ6, H6, I6, q6⟩ => ?_)
    refine wpAny_passesOwn hp (thn (hb _ s6 σ6 H6 _ I6 q6) fun f s7 q7 => ?_)
    have again : ∀ {σ7 : St} {H7 : Hp}, Inv X (pins ++ pinsAt fp s5.heap) σ7 H7 s7 → N σ7 H7 → ∃ m, m < n ∧ ∃ i σ' H', Inv X pins σ' H' s7 ∧ tn i s7.heap ∧ (∀ b ∈ fp, H' b = none) ∧ W i m σ' H' := fun {σ7 H7} I7 n7 => by
      obtain ⟨m', hm, w7⟩ := hN σ7 H7 n7
      refine ⟨m', hm, i + 1, σ7, H7, I7.unpinned, T.keep _ _ _ st5 fun b hb o e => (I7.pin (b, o) (List.mem_append_right _ (List.mem_append_right _ (mem_pinsAt hb e)))).1, fun b hb => ?_, w7⟩
      obtain ⟨o, e, d⟩ := T.obj _ _ st5 b hb
      exact (I7.pin (b, o) (List.mem_append_right _ (List.mem_append_right _ (mem_pinsAt hb e)))).2.1
    cases f with
    | next => obtain ⟨σ7, H7, I7, n7⟩ := q7; exact again I7 n7
    | cont => obtain ⟨σ7, H7, I7, n7⟩ := q7; exact again I7 n7
    | brk => obtain ⟨σ7, H7, I7, q7⟩ := q7; exact ⟨σ7, H7, I7.unpinned, q7⟩
    | ret v => obtain ⟨x7, σ7, H7, I7, r7, q7⟩ := q7; exact ⟨x7, σ7, H7, I7.unpinned, r7, q7⟩
end

theorem for_list {K : PySem.W.Frag} {a : Addr} {xs : List V} {g : TG} {tb : TS} {D : Ends} {σ : St} {H : Hp} (Pv : Nat → St → Hp → Prop) (h0 : Pv 0 σ H) (hl : ∀ i σ H, i ≤ xs.length → Pv i σ H → SqL K H a xs)
    (hs : ∀ i x σ H, xs[i]? = some x → Pv i σ H → g x σ H fun σ2 H2 => tb { D with nx := Pv (i + 1), ct := Pv (i + 1), bk := D.nx } σ2 H2) (hd : ∀ σ H, Pv xs.length σ H → D.nx σ H) :
    ∃ W : Nat → Nat → St → Hp → Prop, (∃ m, W 0 m σ H) ∧ ∀ i m σ H, W i m σ H →
      ((Itl K a).stop i H ∧ D.nx σ H) ∨ ((Itl K a).go i H ∧ ∃ N : St → Hp → Prop, (∀ σ' H', N σ' H' → ∃ m', m' < m ∧ W (i + 1) m' σ' H') ∧ ∀ x H', (Itl K a).yld i H x H' → g x σ H' fun σ2 H2 => tb { D with nx := N, ct := N, bk := D.nx } σ2 H2) := by
  refine ⟨fun i m σ H => m = xs.length - i ∧ i ≤ xs.length ∧ Pv i σ H, ⟨xs.length, by simp, Nat.zero_le _, h0⟩, ?_⟩
  rintro i m σ H ⟨rfl, hi, p⟩
  have q := hl i σ H hi p
  by_cases hlt : i < xs.length
  · refine .inr ⟨⟨xs, xs[i], q, by simp [hlt]⟩, Pv (i + 1), fun σ' H' p' => ⟨xs.length - (i + 1), by omega, rfl, hlt, p'⟩, fun x H' y => ?_⟩
    obtain ⟨e, y⟩ := y
    subst e
    exact hs i x σ _ (y xs q) p
  · have e : i = xs.length := by omega
    subst e
    exact .inl ⟨⟨xs, q, Nat.le_refl _⟩, hd σ H p⟩
theorem for_range {lo : Int} {n : Nat} {g : TG} {tb : TS} {D : Ends} {σ : St} {H : Hp} (Pv : Nat → St → Hp → Prop) (h0 : Pv 0 σ H)
    (hs : ∀ i σ H, i < n → Pv i σ H → g (.int (lo + i)) σ H fun σ2 H2 => tb { D with nx := Pv (i + 1), ct := Pv (i + 1), bk := D.nx } σ2 H2) (hd : ∀ σ H, Pv n σ H → D.nx σ H) :
    ∃ W : Nat → Nat → St → Hp → Prop, (∃ m, W 0 m σ H) ∧ ∀ i m σ H, W i m σ H →
      ((Itr lo n).stop i H ∧ D.nx σ H) ∨ ((Itr lo n).go i H ∧ ∃ N : St → Hp → Prop, (∀ σ' H', N σ' H' → ∃ m', m' < m ∧ W (i + 1) m' σ' H') ∧ ∀ x H', (Itr lo n).yld i H x H' → g x σ H' fun σ2 H2 => tb { D with nx := N, ct := N, bk := D.nx } σ2 H2) := by
  refine ⟨fun i m σ H => m = n - i ∧ i ≤ n ∧ Pv i σ H, ⟨n, by simp, Nat.zero_le _, h0⟩, ?_⟩
  rintro i m σ H ⟨rfl, hi, p⟩
  by_cases hlt : i < n
  · refine .inr ⟨hlt, Pv (i + 1), fun σ' H' p' => ⟨n - (i + 1), by omega, rfl, hlt, p'⟩, fun x H' y => ?_⟩
    obtain ⟨e, y⟩ := y
    subst e y
    exact hs i σ _ hlt p
  · have e : i = n := by omega
    subst e
    exact .inl ⟨Nat.le_refl _, hd σ H p⟩
end L2

namespace L2
open PySem PySem.Spec PyProof.Rows

noncomputable abbrev R2 := V → V → Hp → VK → Prop
noncomputable def OpR (X : Cx) (f : Value → Value → Sem Value) (r : R2) : Prop :=
  ∀ (pins : List (Addr × Obj)) (s : Shared) (σ : St) (H : Hp) (x y : V) (v u : Value) (Q : VK), Inv X pins σ H s → RelV x v → RelV y u → r x y H Q →
    wpAny (model X.prog X.w) X.A (f v u) (EP X pins σ Q) X.xe s
noncomputable def UnR (X : Cx) (f : Value → Sem Value) (r : V → Hp → VK → Prop) : Prop :=
  ∀ (pins : List (Addr × Obj)) (s : Shared) (σ : St) (H : Hp) (x : V) (v : Value) (Q : VK), Inv X pins σ H s → RelV x v → r x H Q →
    wpAny (model X.prog X.w) X.A (f v) (EP X pins σ Q) X.xe s
noncomputable def CallR (X : Cx) (f : Value) (r : List V → Hp → VK → Prop) : Prop :=
  ∀ (pins : List (Addr × Obj)) (s : Shared) (σ : St) (H : Hp) (xs : List V) (us : List Value) (Q : VK), Inv X pins σ H s → Vals xs us → r xs H Q →
    wpAny (model X.prog X.w) X.A (call f us) (EP X pins σ Q) X.xe s
noncomputable def tOp (r : R2) (ta tb : TE) : TE := fun σ H Q => ta σ H fun x H1 => tb σ H1 fun y H2 => r x y H2 Q
noncomputable def tUn (r : V → Hp → VK → Prop) (ta : TE) : TE := fun σ H Q => ta σ H fun x H1 => r x H1 Q
noncomputable def rI (C : Int → Int → Prop) (g : Int → Int → V) : R2 := fun x y H Q => ∃ i j, x = .int i ∧ y = .int j ∧ C i j ∧ Q (g i j) H
noncomputable def rI0 (g : Int → Int → V) : R2 := fun x y H Q => ∃ i j, x = .int i ∧ y = .int j ∧ Q (g i j) H
noncomputable def rU (g : Int → V) : V → Hp → VK → Prop := fun x H Q => ∃ i, x = .int i ∧ Q (g i) H

section
variable {X : Cx} {a b c : Expr} {ta tb tc : TE} {pos : Pos}

theorem binT (ha : PE X a ta) (hb : PE X b tb) {pins : List (Addr × Obj)} {s : Shared} {σ : St} {H : Hp} {R : V → V → Hp → Prop} (I : Inv X pins σ H s)
    (h : ta σ H fun x H1 => tb σ H1 fun y H2 => R x y H2) {Q : Value → Shared → Prop} {f : Value → Value → Sem Value}
    (hf : ∀ v u s2 x y H2, Inv X pins σ H2 s2 → RelV x v → RelV y u → R x y H2 → wpAny (model X.prog X.w) X.A (f v u) Q X.xe s2) :
    wpAny (model X.prog X.w) X.A (eval a X.env) (fun v s₁ => wpAny (model X.prog X.w) X.A (eval b X.env) (fun u s₂ => wpAny (model X.prog X.w) X.A (f v u) Q X.xe s₂) X.xe s₁) X.xe s := by
  refine thn (ha pins s σ H _ I h) fun v s1 ⟨x, H1, I1, r1, q1⟩ => ?_
  refine thn (hb pins s1 σ H1 _ I1 q1) fun u s2 ⟨y, H2, I2, r2, q2⟩ => ?_
  exact hf v u s2 x y H2 I2 r1 r2 q2

theorem pe_op {op : Operator} {r : R2} (ho : OpR X (binaryOp op) r) (ha : PE X a ta) (hb : PE X b tb) : PE X (.BinOp a op b pos) (tOp r ta tb) := by
  intro pins s σ H Q I h
  exact wpAny_BinOp (binT ha hb I h fun v u s2 x y H2 I2 rx ry q => ho pins s2 σ H2 x y v u Q I2 rx ry q)
theorem pe_un {op : UnaryOp} {r : V → Hp → VK → Prop} (ho : UnR X (unaryOp op) r) (ha : PE X a ta) : PE X (.UnaryOp op a pos) (tUn r ta) := by
  intro pins s σ H Q I h
  exact UnaryOp_ (thn (ha pins s σ H _ I h) fun v s1 ⟨x, H1, I1, r1, q1⟩ => ho pins s1 σ H1 x v Q I1 r1 q1)
theorem opI {f : Value → Value → Sem Value} {C : Int → Int → Prop} {g : Int → Int → Int}
    (rule : ∀ (i j : Int) (t u : Tok) (s : Shared) (Q : Value → Shared → Prop) (E : Value → Shared → Prop), C i j → Q (.int (g i j) s.toks) { s with toks := s.toks + 1 } → wpAny (model X.prog X.w) X.A (f (.int i t) (.int j u)) Q E s) :
    OpR X f (rI C fun i j => .int (g i j)) := by
  intro pins s σ H x y v u Q I rx ry h
  obtain ⟨i, j, rfl, rfl, hc, q⟩ := h
  obtain ⟨t, rfl⟩ := rx
  obtain ⟨t', rfl⟩ := ry
  exact rule i j t t' s _ _ hc ⟨.int (g i j), H, I.tok _, ⟨_, rfl⟩, q⟩
theorem opI0 {f : Value → Value → Sem Value} {g : Int → Int → Int}
    (rule : ∀ (i j : Int) (t u : Tok) (s : Shared) (Q : Value → Shared → Prop) (E : Value → Shared → Prop), Q (.int (g i j) s.toks) { s with toks := s.toks + 1 } → wpAny (model X.prog X.w) X.A (f (.int i t) (.int j u)) Q E s) :
    OpR X f (rI0 fun i j => .int (g i j)) := by
  intro pins s σ H x y v u Q I rx ry h
  obtain ⟨i, j, rfl, rfl, q⟩ := h
  obtain ⟨t, rfl⟩ := rx
  obtain ⟨t', rfl⟩ := ry
  exact rule i j t t' s _ _ ⟨.int (g i j), H, I.tok _, ⟨_, rfl⟩, q⟩
theorem opB0 {f : Value → Value → Sem Value} {g : Int → Int → Bool}
    (rule : ∀ (i j : Int) (t u : Tok) (s : Shared) (Q : Value → Shared → Prop) (E : Value → Shared → Prop), Q (.bool (g i j)) s → wpAny (model X.prog X.w) X.A (f (.int i t) (.int j u)) Q E s) :
    OpR X f (rI0 fun i j => .bl (g i j)) := by
  intro pins s σ H x y v u Q I rx ry h
  obtain ⟨i, j, rfl, rfl, q⟩ := h
  obtain ⟨t, rfl⟩ := rx
  obtain ⟨t', rfl⟩ := ry
  exact rule i j t t' s _ _ ⟨.bl (g i j), H, I, rfl, q⟩

noncomputable def CDiv (i j : Int) : Prop := 0 < j ∧ j < 1073741824
noncomputable def CPow (i j : Int) : Prop := 0 ≤ j ∧ j ≤ 1000000 ∧ i.natAbs < 2 ^ 64
noncomputable def CMul (i j : Int) : Prop := (-(2 ^ 64) < i ∧ i < 2 ^ 64) ∨ (-(2 ^ 64) < j ∧ j < 2 ^ 64)
theorem CMul.ok {i j : Int} (h : CMul i j) : IntMulOk i j := by
  rcases h with ⟨h1, h2⟩ | ⟨h1, h2⟩
  · exact .of_left (intBits_le_64 h1 h2)
  · exact .of_right (intBits_le_64 h1 h2)
theorem op_add : OpR X (binaryOp .Add) (rI0 fun i j => .int (i + j)) := opI0 fun _ _ _ _ _ _ _ q => add_int q
theorem op_sub : OpR X (binaryOp .Sub) (rI0 fun i j => .int (i - j)) := opI0 fun _ _ _ _ _ _ _ q => sub_int q
theorem op_mul : OpR X (binaryOp .Mult) (rI CMul fun i j => .int (i * j)) := opI fun _ _ _ _ _ _ _ hc q => mul_int q hc.ok
theorem op_fdiv : OpR X (binaryOp .FloorDiv) (rI CDiv fun i j => .int (i / j)) := opI fun i j _ _ _ _ _ hc q => by
  have h1 : (0 : Int) < j := hc.1
  have h2 : j < 1073741824 := hc.2
  exact floordiv_int (by omega) (by rw [Int.fdiv_eq_ediv_of_nonneg i (by omega)]; exact q) (.inl (PyProof.noPylong_small (by omega)))
theorem op_mod : OpR X (binaryOp .Mod) (rI (fun _ j => 0 < j) fun i j => .int (i % j)) := opI fun i j _ _ _ _ _ hc q => by
  have h1 : (0 : Int) < j := hc
  exact mod_int' (by omega) (by rw [Int.fmod_eq_emod_of_nonneg i (by omega)]; exact q)
theorem op_pow : OpR X (binaryOp .Pow) (rI CPow fun i j => .int (i ^ j.toNat)) := opI fun _ _ _ _ _ _ _ hc q => pow_int_small hc.1 hc.2.1 hc.2.2 q
theorem unI {f : Value → Sem Value} {g : Int → Int}
    (rule : ∀ (i : Int) (t : Tok) (s : Shared) (Q : Value → Shared → Prop) (E : Value → Shared → Prop), Q (.int (g i) s.toks) { s with toks := s.toks + 1 } → wpAny (model X.prog X.w) X.A (f (.int i t)) Q E s) :
    UnR X f (rU fun i => .int (g i)) := by
  intro pins s σ H x v Q I rx h
  obtain ⟨i, rfl, q⟩ := h
  obtain ⟨t, rfl⟩ := rx
  exact rule i t s _ _ ⟨.int (g i), H, I.tok _, ⟨_, rfl⟩, q⟩
theorem un_neg : UnR X (unaryOp .USub) (rU fun i => .int (-i)) := unI fun _ _ _ _ _ q => neg_int q
end

noncomputable def scal : V → V → Bool
  | .non, .non => true | .non, .int _ => true | .int _, .non => true | .non, .bl _ => true | .bl _, .non => true | .non, .str _ => true | .str _, .non => true
  | .int _, .int _ => true | .bl _, .bl _ => true | .str _, .str _ => true | .byt _, .byt _ => true
  | .int _, .str _ => true | .str _, .int _ => true | .bl _, .str _ => true | .str _, .bl _ => true
  | _, _ => false
noncomputable def rEq : R2 := fun x y H Q => scal x y = true ∧ Q (.bl (decide (x = y))) H
noncomputable def rNe : R2 := fun x y H Q => scal x y = true ∧ Q (.bl (!decide (x = y))) H

theorem dec_int {i j : Int} : decide (V.int i = V.int j) = (i == j) := by
  rw [Bool.eq_iff_iff]
  simp
theorem dec_bl {i j : Bool} : decide (V.bl i = V.bl j) = (i == j) := by
  rw [Bool.eq_iff_iff]
  simp
theorem dec_str {i j : Str} : decide (V.str i = V.str j) = (i == j) := by
  rw [Bool.eq_iff_iff]
  simp
theorem dec_byt {i j : Array UInt8} : decide (V.byt i = V.byt j) = (i.toList == j.toList) := by
  rw [Bool.eq_iff_iff]
  cases i
  cases j
  simp

section
variable {X : Cx} {a b c : Expr} {ta tb tc : TE} {pos : Pos}
theorem fin_bl {pins : List (Addr × Obj)} {σ : St} {H : Hp} {s : Shared} {Q : VK} {k k' : Bool} (I : Inv X pins σ H s) (q : Q (.bl k) H) (e : k = k') : EP X pins σ Q (.bool k') s := by
  subst e
  exact ⟨.bl k, H, I, rfl, q⟩
theorem op_eq : OpR X (compareOp .Eq) rEq := by
  intro pins s σ H x y v u Q I rx ry h
  obtain ⟨hs, q⟩ := h
  cases x with
  | non =>
    cases rx
    cases y with
    | non => cases ry; exact PySem.EqNone.eq_none_none (fin_bl I q (by simp))
    | bl j => cases ry; exact PySem.EqNone.eq_none_bool (fin_bl I q (by simp))
    | int j => obtain ⟨t', rfl⟩ := ry; exact PySem.EqNone.eq_none_int (fin_bl I q (by simp))
    | str j => obtain ⟨t', rfl⟩ := ry; exact PySem.EqNone.eq_none_str (fin_bl I q (by simp))
    | _ => exact absurd (show false = true from hs) Bool.false_ne_true
  | bl i =>
    cases rx
    cases y with
    | non => cases ry; exact PySem.EqNone.eq_bool_none (fin_bl I q (by simp))
    | bl j => cases ry; exact eq_bool (fin_bl I q dec_bl)
    | str j => obtain ⟨t', rfl⟩ := ry; exact PySem.EqMixed.eq_bool_str (fin_bl I q (by simp))
    | _ => exact absurd (show false = true from hs) Bool.false_ne_true
  | int i =>
    obtain ⟨t, rfl⟩ := rx
    cases y with
    | non => cases ry; exact PySem.EqNone.eq_int_none (fin_bl I q (by simp))
    | int j => obtain ⟨t', rfl⟩ := ry; exact eq_int (fin_bl I q dec_int)
    | str j => obtain ⟨t', rfl⟩ := ry; exact PySem.EqMixed.eq_int_str (fin_bl I q (by simp))
    | _ => exact absurd (show false = true from hs) Bool.false_ne_true
  | str i =>
    obtain ⟨t, rfl⟩ := rx
    cases y with
    | non => cases ry; exact PySem.EqNone.eq_str_none (fin_bl I q (by simp))
    | bl j => cases ry; exact PySem.EqMixed.eq_str_bool (fin_bl I q (by simp))
    | int j => obtain ⟨t', rfl⟩ := ry; exact PySem.EqMixed.eq_str_int (fin_bl I q (by simp))
    | str j => obtain ⟨t', rfl⟩ := ry; exact eq_str (fin_bl I q dec_str)
    | _ => exact absurd (show false = true from hs) Bool.false_ne_true
  | byt i =>
    obtain ⟨t, rfl⟩ := rx
    cases y with
    | byt j => obtain ⟨t', rfl⟩ := ry; exact PySem.W.eq_bytes (fin_bl I q dec_byt)
    | _ => exact absurd (show false = true from hs) Bool.false_ne_true
  | _ => cases y <;> exact absurd (show false = true from hs) Bool.false_ne_true
theorem op_ne : OpR X (compareOp .NotEq) rNe := by
  intro pins s σ H x y v u Q I rx ry h
  obtain ⟨hs, q⟩ := h
  cases x with
  | non =>
    cases rx
    cases y with
    | non => cases ry; exact PySem.EqNone.ne_none_none (fin_bl I q (by simp))
    | bl j => cases ry; exact PySem.EqNone.ne_none_bool (fin_bl I q (by simp))
    | int j => obtain ⟨t', rfl⟩ := ry; exact PySem.EqNone.ne_none_int (fin_bl I q (by simp))
    | str j => obtain ⟨t', rfl⟩ := ry; exact PySem.EqNone.ne_none_str (fin_bl I q (by simp))
    | _ => exact absurd (show false = true from hs) Bool.false_ne_true
  | bl i =>
    cases rx
    cases y with
    | non => cases ry; exact PySem.EqNone.ne_bool_none (fin_bl I q (by simp))
    | bl j => cases ry; exact ne_bool (fin_bl I q (congrArg not dec_bl))
    | str j => obtain ⟨t', rfl⟩ := ry; exact PySem.EqMixed.ne_bool_str (fin_bl I q (by simp))
    | _ => exact absurd (show false = true from hs) Bool.false_ne_true
  | int i =>
    obtain ⟨t, rfl⟩ := rx
    cases y with
    | non => cases ry; exact PySem.EqNone.ne_int_none (fin_bl I q (by simp))
    | int j => obtain ⟨t', rfl⟩ := ry; exact ne_int (fin_bl I q (congrArg not dec_int))
    | str j => obtain ⟨t', rfl⟩ := ry; exact PySem.EqMixed.ne_int_str (fin_bl I q (by simp))
    | _ => exact absurd (show false = true from hs) Bool.false_ne_true
  | str i =>
    obtain ⟨t, rfl⟩ := rx
    cases y with
    | non => cases ry; exact PySem.EqNone.ne_str_none (fin_bl I q (by simp))
    | bl j => cases ry; exact PySem.EqMixed.ne_str_bool (fin_bl I q (by simp))
    | int j => obtain ⟨t', rfl⟩ := ry; exact PySem.EqMixed.ne_str_int (fin_bl I q (by simp))
    | str j => obtain ⟨t', rfl⟩ := ry; exact ne_str (fin_bl I q (congrArg not dec_str))
    | _ => exact absurd (show false = true from hs) Bool.false_ne_true
  | byt i =>
    obtain ⟨t, rfl⟩ := rx
    cases y with
    | byt j => obtain ⟨t', rfl⟩ := ry; exact PySem.W.ne_bytes (fin_bl I q (congrArg not dec_byt))
    | _ => exact absurd (show false = true from hs) Bool.false_ne_true
  | _ => cases y <;> exact absurd (show false = true from hs) Bool.false_ne_true

theorem op_lt : OpR X (compareOp .Lt) (rI0 fun i j => .bl (decide (i < j))) := opB0 fun _ _ _ _ _ _ _ q => lt_int q
theorem op_le : OpR X (compareOp .LtE) (rI0 fun i j => .bl (decide (i ≤ j))) := opB0 fun _ _ _ _ _ _ _ q => le_int q
theorem op_gt : OpR X (compareOp .Gt) (rI0 fun i j => .bl (decide (j < i))) := opB0 fun _ _ _ _ _ _ _ q => gt_int q
theorem OpR.or {f : Value → Value → Sem Value} {r r' : R2} (h : OpR X f r) (h' : OpR X f r') : OpR X f (fun x y H Q => r x y H Q ∨ r' x y H Q) := by
  intro pins s σ H x y v u Q I rx ry q
  rcases q with q | q
  · exact h pins s σ H x y v u Q I rx ry q
  · exact h' pins s σ H x y v u Q I rx ry q

theorem nomark (b : Expr) {op : CmpOp} (h : op ≠ .In := by decide) (h2 : op ≠ .NotIn := by decide) : behindInMarks op b = false := by
  have e1 : (op == CmpOp.In) = false := by cases op <;> first | rfl | exact absurd rfl h
  have e2 : (op == CmpOp.NotIn) = false := by cases op <;> first | rfl | exact absurd rfl h2
  cases b <;> simp [behindInMarks, e1, e2]
theorem pe_cmpR {op : CmpOp} {r : R2} (ho : OpR X (compareOp op) r) (ha : PE X a ta) (hb : PE X b tb) (hm : behindInMarks op b = false) : PE X (.Compare a [op] [b] pos) (tOp r ta tb) := by
  intro pins s σ H Q I h
  exact wpAny_Compare1 (binT ha hb I h fun v u s2 x y H2 I2 rx ry q => ho pins s2 σ H2 x y v u Q I2 rx ry q) hm
noncomputable def tTest (t : TE) : TT := fun σ H Q => t σ H fun x H' => ∃ k, x = .bl k ∧ Q k H'
theorem pt_cmpR {op : CmpOp} {r : R2} (ho : OpR X (compareOp op) r) (ha : PE X a ta) (hb : PE X b tb) (hm : behindInMarks op b = false) : PT X (.Compare a [op] [b] pos) (tTest (tOp r ta tb)) := by
  intro pins s σ H Q I h
  refine wpAny_isTrue_Compare1 (thn (ha pins s σ H _ I h) fun v s1 ⟨x, H1, I1, r1, q1⟩ => thn (hb pins s1 σ H1 _ I1 q1) fun u s2 ⟨y, H2, I2, r2, q2⟩ =>
    thn (ho pins s2 σ H2 x y v u _ I2 r1 r2 q2) fun c s3 ⟨z, H3, I3, r3, k, e, q3⟩ => ?_) hm
  subst e
  cases r3
  exact wpAny_truthy_bool ⟨H3, I3, q3⟩
noncomputable def tChain (r r' : R2) (ta tb tc : TE) : TE := fun σ H Q => ta σ H fun x H1 => tb σ H1 fun y H2 => r x y H2 fun z H3 => ∃ k, z = .bl k ∧
  (if k = true then tc σ H3 fun w' H4 => r' y w' H4 Q else Q (.bl false) H3)
theorem pe_chain {op op' : CmpOp} {r r' : R2} (ho : OpR X (compareOp op) r) (ho' : OpR X (compareOp op') r') (ha : PE X a ta) (hb : PE X b tb) (hc : PE X c tc)
    (hm : lastMarks [op, op'] [b, c] = false := by with_unfolding_all rfl) : PE X (.Compare a [op, op'] [b, c] pos) (tChain r r' ta tb tc) := by
  intro pins s σ H Q I h
  refine Compare_chain (thn (ha pins s σ H _ I h) fun v s1 ⟨x, H1, I1, r1, q1⟩ => chain_link (thn (hb pins s1 σ H1 _ I1 q1) fun u s2 ⟨y, H2, I2, r2, q2⟩ =>
    thn (ho pins s2 σ H2 x y v u _ I2 r1 r2 q2) fun d s3 ⟨z, H3, I3, r3, k, e, q3⟩ => ?_)) hm
  subst e
  cases r3
  refine wpAny_truthy_bool ?_
  cases k with
  | false => exact ite_ff ⟨.bl false, H3, I3, rfl, q3⟩
  | true => exact ite_tt (chain_last (thn (hc pins s3 σ H3 _ I3 q3) fun w' s4 ⟨z', H4, I4, r4, q4⟩ => ho' pins s4 σ H4 y z' u w' Q I4 r2 r4 q4))
theorem line63 : (sizeLine : Nat) < 2 ^ 63 := by rw [sizeLine_eq]; decide
theorem op_add_str : OpR X (binaryOp .Add) (fun x y H Q => ∃ i j, x = .str i ∧ y = .str j ∧ i.length + j.length ≤ sizeLine ∧ Q (.str (i ++ j)) H) := by
  intro pins s σ H x y v u Q I rx ry h
  obtain ⟨i, j, rfl, rfl, hz, q⟩ := h
  obtain ⟨t, rfl⟩ := rx
  obtain ⟨t', rfl⟩ := ry
  exact add_str (fun t' tk => ⟨.str (i ++ j), H, I.tok _, ⟨_, rfl⟩, q⟩) hz
theorem vals1 {x : V} {us : List Value} (r : Vals [x] us) : ∃ u, us = [u] ∧ RelV x u := by
  cases r with
  | cons r1 r2 => cases r2; exact ⟨_, rfl, r1⟩
theorem vals2 {x y : V} {us : List Value} (r : Vals [x, y] us) : ∃ u w', us = [u, w'] ∧ RelV x u ∧ RelV y w' := by
  cases r with
  | cons r1 r2 =>
    cases r2 with
    | cons r3 r4 => cases r4; exact ⟨_, _, rfl, r1, r3⟩
end
end L2

namespace L2
open PySem PySem.Spec PyProof.Rows

structure ObjM (h : Heap) (x dx C : Addr) (mA : Str → Option Value) : Prop where
  obj : h.get? x = some (PySem.W.instObj C dx)
  ns : h.Ns1 dx mA
  ne : dx ≠ x

theorem lookIn_ns {h : Heap} {dx : Addr} {mA : Str → Option Value} (n : h.Ns1 dx mA) : ∃ od, h.get? dx = some od ∧ ∀ name, PySem.W.lookIn name od = some (mA name) := by
  obtain ⟨o, es, ep, ho, hd, hk, _, hm⟩ := n
  refine ⟨o, ho, fun name => ?_⟩
  have e := hm name
  unfold nsFind findBy at e
  rw [← Array.find?_toList] at e
  unfold PySem.W.lookIn
  rw [hd]
  dsimp only
  split
  · rename_i y q
    rw [q] at e
    exact congrArg some e
  · rename_i q
    rw [q] at e
    have a : es.toList.any (·.refKey) = false := by
      rw [List.any_eq_false]
      intro y hy
      obtain ⟨z, t, hkey⟩ := hk y (Array.mem_toList_iff.mp hy)
      simp [DictEntry.refKey, hkey]
    have a' : ¬ es.toList.any (·.refKey) = true := by rw [a]; exact Bool.false_ne_true
    rw [if_neg a']
    exact congrArg some e

theorem ObjM.look {h : Heap} {x dx C : Addr} {mA : Str → Option Value} (I : ObjM h x dx C mA) : ∃ od, PySem.W.InstAt h x (PySem.W.instObj C dx) C (some od) ∧ ∀ name, PySem.W.lookIn name od = some (mA name) :=
  let ⟨od, ho, hl⟩ := lookIn_ns I.ns
  ⟨od, ⟨I.obj, rfl, rfl, ho⟩, hl⟩

section
variable {prog : Program} {w : World} {A : Around} {E : Value → Shared → Prop} {s : Shared} {K : PySem.W.Frag} {x dx C f : Addr} {mA : Str → Option Value} {name : Str} {v : Value}

end

noncomputable def putF (f : Str) (v : V) : List (Str × V) → List (Str × V)
  | [] => [(f, v)]
  | (g, x) :: r => if g = f then (g, v) :: r else (g, x) :: putF f v r
theorem RelO.some_of {v : V} {o : Option Value} (r : RelO (some v) o) : ∃ u, o = some u ∧ RelV v u := by
  cases o with
  | none => exact (show False from r).elim
  | some u => exact ⟨u, rfl, r⟩
theorem RelO.none_of {o : Option Value} (r : RelO none o) : o = none := by
  cases o with
  | none => rfl
  | some u => exact (show False from r).elim
section
variable {P : Program} {w : World} {H H' : Hp} {h h' : Heap} {a C dx : Addr} {fs fs' : List (Str × V)}
theorem ins_get (hok : HOk P w H h) (e : H a = some (.ins C dx fs)) : ∃ mA, ObjM h a dx C mA ∧ (∀ f, RelO (fs.lookup f) (mA f)) ∧ PySem.Within mA (fs.map (·.1)) ∧ fs.length ≤ 1000 ∧ H dx = some (.own a) := by
  obtain ⟨d, z, ne, ob, mA, n, r, q⟩ := (show ObjOk P w H h a (.ins C dx fs) from hok a _ e)
  exact ⟨mA, ⟨ob, n, ne⟩, r, q, z, d⟩
end

structure Cls (K : PySem.W.Frag) (C : Addr) : Prop where
  pg : PySem.W.plainGet K C Str.empty = true
  hd : PySem.W.hasDictIn K C = true
  po : PySem.W.plainOver K C = true
  sa : PySem.W.findIn K (.ref C) "__setattr__" = some (some (.builtin "object.__setattr__"))
theorem Cls.get {K : PySem.W.Frag} {C : Addr} (c : Cls K C) (f : Str) : PySem.W.plainGet K C f = true := c.pg
noncomputable def NoAttr (K : PySem.W.Frag) (C : Addr) (f : Str) : Prop := PySem.W.findIn K (.ref C) f = some none
structure Con (K : PySem.W.Frag) (C : Addr) (f : Str) (v : V) (u : Value) : Prop where
  at_ : PySem.W.findIn K (.ref C) f = some (some u)
  rel : RelV v u
  get : PySem.W.specialIn K u "__get__" = some none
  cp : PySem.W.copiedNames.contains f = false
structure Meth (K : PySem.W.Frag) (C : Addr) (m : Str) (f : Addr) : Prop where
  at_ : PySem.W.findIn K (.ref C) m = some (some (.ref f))
  fn : PySem.W.isFn K (.ref f) = true
  kp : PySem.W.keepIn K (.ref f) = true

section
variable {X : Cx} {pins : List (Addr × Obj)} {σ : St} {H : Hp} {s : Shared} {a C dx : Addr} {fs : List (Str × V)} {f : Str} {v : V} {A : Around} {E : Value → Shared → Prop}

theorem Inv.made (I : Inv X pins σ H s) : Inv X pins σ (upd (upd H s.heap.objs.size (.own (s.heap.objs.size + 1))) (s.heap.objs.size + 1) (.ins C s.heap.objs.size []))
    { s with heap := (s.heap.push PySem.W.emptyDict).push (PySem.W.instObj C s.heap.objs.size) } := by
  have e1 : (s.heap.push PySem.W.emptyDict).get? s.heap.objs.size = some PySem.W.emptyDict := Heap.get?_push_size s.heap rfl
  have e2 : ((s.heap.push PySem.W.emptyDict).push (PySem.W.instObj C s.heap.objs.size)).get? (s.heap.objs.size + 1) = some (PySem.W.instObj C s.heap.objs.size) := by
    have := Heap.get?_push_size (s.heap.push PySem.W.emptyDict) (o := PySem.W.instObj C s.heap.objs.size) rfl
    rwa [Heap.size_push] at this
  have e3 : (s.heap.push PySem.W.emptyDict).Ns s.heap.objs.size (fun _ => none) := ⟨PySem.W.emptyDict, #[], _, e1, rfl, (fun e he => absurd he (by simp)), fun _ => rfl⟩
  have I1 := I.laid (a := s.heap.objs.size) (o := .own (s.heap.objs.size + 1)) (h' := s.heap.push PySem.W.emptyDict) (t' := s.toks) (fun b u q => Heap.get?_push_of_some _ q) (Nat.le_refl _) ⟨_, e1⟩
  refine I1.laid (a := s.heap.objs.size + 1) (o := .ins C s.heap.objs.size []) (t' := s.toks) (fun b u q => Heap.get?_push_of_some _ q) (Nat.le_of_eq (Heap.size_push _ _)) ?_
  have ne : s.heap.objs.size ≠ s.heap.objs.size + 1 := Nat.ne_of_lt (Nat.lt_succ_self _)
  refine ⟨by rw [upd_ne ne, upd_same], Nat.zero_le _, ne, e2, fun _ => none, (Heap.Ns1.of_empty e3).at fun o q => Heap.get?_push_of_some _ q, fun _ => True.intro, fun y hy => absurd rfl hy⟩

end

noncomputable def tFld (K : PySem.W.Frag) (ta : TE) (f : Str) : TE := fun σ H Q => ta σ H fun x H1 => ∃ a C dx fs v, x = .ref a ∧ H1 a = some (.ins C dx fs) ∧ Cls K C ∧ NoAttr K C f ∧ fs.lookup f = some v ∧ Q v H1
noncomputable def sFld (K : PySem.W.Frag) (ta tv : TE) (f : Str) : TS := fun D σ H => tv σ H fun y H1 => ta σ H1 fun x H2 => ∃ a C dx fs, x = .ref a ∧ H2 a = some (.ins C dx fs) ∧ Cls K C ∧ NoAttr K C f ∧ fs.length < 1000 ∧
  D.nx σ (upd H2 a (.ins C dx (putF f y fs)))
section
variable {X : Cx} {o e value : Expr} {f : Str} {pos pos' tpos : Pos} {ta tv : TE}
end

section
variable {X : Cx} {pins : List (Addr × Obj)} {σ : St} {H : Hp} {s : Shared} {A : Around} {E : Value → Shared → Prop} {Q : Value → Shared → Prop} {c : Value} {b : Bool}
inductive TyOf (K : PySem.W.Frag) (H : Hp) : V → Value → Prop where
  | non : TyOf K H .non (.type "NoneType")
  | bl (x : Bool) : TyOf K H (.bl x) (.type "bool")
  | int (i : Int) : TyOf K H (.int i) (.type "int")
  | str (x : Str) : TyOf K H (.str x) (.type "str")
  | flt (x : UInt64) : TyOf K H (.flt x) (.type "float")
  | lst {a : Addr} {xs : List V} (e : H a = some (.lst xs)) : TyOf K H (.ref a) (.type "list")
  | frz {a : Addr} {o : Obj} {xs : List V} (e : H a = some (.frz o (.lst xs))) : TyOf K H (.ref a) (.type "list")
  | tup {a : Addr} {xs : List V} (e : H a = some (.tup xs)) : TyOf K H (.ref a) (.type "tuple")
  | dK {a : Addr} {kvs : List (Key × V)} (e : H a = some (.dK kvs)) : TyOf K H (.ref a) (.type "dict")
  | dT {a : Addr} {kvs : List (List Key × V)} (e : H a = some (.dT kvs)) : TyOf K H (.ref a) (.type "dict")
  | ins {a C dx : Addr} {fs : List (Str × V)} (e : H a = some (.ins C dx fs)) (cl : Cls K C) (ha : PySem.W.findIn K (.ref C) "__class__" = some (some (.builtin "object.__class__")))
      (hn : PySem.W.specialIn K (.builtin "object.__class__") "__get__" = some (some (.builtin "getset_descriptor.__get__"))) (htk : PySem.W.takesIn K (.builtin "object.__class__") = some true)
      (hm : PySem.W.mroIn K C (.type "object") = some true) : TyOf K H (.ref a) (.ref C)
theorem isinst_ok {x : V} {u t : Value} (I : Inv X pins σ H s) (rx : RelV x u) (ty : TyOf X.K H x t) (e : PySem.W.kitOne X.K t c = some b) (h : ∀ tk, Q (.bool b) { s with toks := tk }) :
    wpAny (model X.prog X.w) A (call (.builtin "isinstance") [u, c]) Q E s := by
  cases ty with
  | non => cases (show u = Value.none from rx); exact PySem.W.kia_one PySem.W.kitx_none I.kIn True.intro e (fun z => nomatch z) h
  | bl y => cases (show u = Value.bool y from rx); exact PySem.W.kia_one PySem.W.kitx_bool I.kIn True.intro e (fun z => nomatch z) h
  | int i => obtain ⟨t, q⟩ := (show ∃ t, u = Value.int i t from rx); cases q; exact PySem.W.kia_one PySem.W.kitx_int I.kIn True.intro e (fun z => nomatch z) h
  | str y => obtain ⟨t, q⟩ := (show ∃ t, u = Value.str y t from rx); cases q; exact PySem.W.kia_one PySem.W.kitx_str I.kIn True.intro e (fun z => nomatch z) h
  | flt y => obtain ⟨t, q⟩ := (show ∃ t, u = Value.float y t from rx); cases q; exact PySem.W.kia_one PySem.W.kitx_float I.kIn True.intro e (fun z => nomatch z) h
  | @lst a xs ea =>
    cases (show u = Value.ref a from rx)
    obtain ⟨_, _, n, _, h1⟩ := (show ObjOk X.prog X.w H s.heap a (.lst xs) from I.hok a _ ea)
    exact PySem.W.kia_one PySem.W.kitx_list I.kIn ⟨_, h1, rfl⟩ e (fun z => nomatch z) h
  | @frz a ob xs ea =>
    cases (show u = Value.ref a from rx)
    obtain ⟨_, _, _, n, _, h1⟩ := (show ObjOk X.prog X.w H s.heap a (.frz ob (.lst xs)) from I.hok a _ ea)
    exact PySem.W.kia_one PySem.W.kitx_list I.kIn ⟨_, h1, rfl⟩ e (fun z => nomatch z) h
  | @tup a xs ea =>
    cases (show u = Value.ref a from rx)
    obtain ⟨_, _, _, p⟩ := (show ObjOk X.prog X.w H s.heap a (.tup xs) from I.hok a _ ea)
    obtain ⟨o, h1, h2, _⟩ := p
    exact PySem.W.kia_one PySem.W.kitx_tuple I.kIn ⟨o, h1, h2⟩ e (fun z => nomatch z) h
  | @dK a kvs ea =>
    cases (show u = Value.ref a from rx)
    obtain ⟨_, _, vs, _, p⟩ := (show ObjOk X.prog X.w H s.heap a (.dK kvs) from I.hok a _ ea)
    obtain ⟨o, es, ep, h1, h2, _⟩ := p
    exact PySem.W.kia_one PySem.W.kitx_dict I.kIn ⟨o, h1, h2.1⟩ e (fun z => nomatch z) h
  | @dT a kvs ea =>
    cases (show u = Value.ref a from rx)
    obtain ⟨_, _, xs, _, o, es, ep, h1, h2, _⟩ := (show ObjOk X.prog X.w H s.heap a (.dT kvs) from I.hok a _ ea)
    exact PySem.W.kia_one PySem.W.kitx_dict I.kIn ⟨o, h1, h2.1⟩ e (fun z => nomatch z) h
  | @ins a C dx fs ea cl ha hn htk hm =>
    cases (show u = Value.ref a from rx)
    obtain ⟨mA, O, _⟩ := ins_get I.hok ea
    obtain ⟨od, J, _⟩ := O.look
    exact PySem.W.kia_one (PySem.W.kitx_own (cl.get _) cl.hd ha hn htk hm) I.kIn J e (fun z => nomatch z) h
end
end L2

namespace L2
open PySem PySem.Spec PyProof.Rows

structure Room (k : Nat) (A : Around) : Prop where
  hd : A.handled = none
  dp : A.depth + 3 * k + 5 < recursionLimit
  un : A.units + 16 * k + 200 < cLine
theorem Room.mono {j k : Nat} {A : Around} (r : Room k A) (h : j ≤ k) : Room j A := ⟨r.hd, by have := r.dp; omega, by have := r.un; omega⟩
theorem Room.deeper {k : Nat} {A : Around} (r : Room (k + 1) A) (env : Env) : Room k (A.deeper env) :=
  ⟨r.hd, by have := r.dp; show A.depth + 1 + 3 * k + 5 < _; omega, by have := r.un; show A.units + 3 + 16 * k + 200 < _; omega⟩
theorem Room.in1 {k : Nat} {A : Around} (r : Room (k + 1) A) : Room k A.in1 :=
  ⟨r.hd, by have := r.dp; show A.depth + 3 * k + 5 < _; omega, by have := r.un; show A.units + 1 + 16 * k + 200 < _; omega⟩
theorem make_depth {A : Around} {C : Addr} {us : List Value} {kw : List (Str × Value)} : (A.under (.builtin "type.__call__" ⟨.ref C :: us, kw⟩)).depth = A.depth + 1 := by
  first | rfl | simp [Around.under, Code.weight, Code.isCreation, Code.isGuard, Code.isCaller, Code.frames, Code.isFrame, guardIds]
theorem make_units {A : Around} {C : Addr} {us : List Value} {kw : List (Str × Value)} : (A.under (.builtin "type.__call__" ⟨.ref C :: us, kw⟩)).units = A.units + 1 := by
  first | rfl | simp [Around.under, Code.cUnits, Code.frames, Code.isFrame]
theorem Room.make {k : Nat} {A : Around} (r : Room (k + 1) A) (C : Addr) (us : List Value) (kw : List (Str × Value)) : Room k (A.under (.builtin "type.__call__" ⟨.ref C :: us, kw⟩)) :=
  ⟨r.hd, by have := r.dp; rw [make_depth]; omega, by have := r.un; rw [make_units]; omega⟩
theorem Room.depth {k : Nat} {A : Around} (r : Room k A) : A.depth < recursionLimit := by have := r.dp; omega
theorem Room.units {k : Nat} {A : Around} (r : Room k A) : A.units + 64 < cLine := by have := r.un; omega
noncomputable def tNil : TA := fun _ H Q => Q [] H
noncomputable def tCons (ta : TE) (tr : TA) : TA := fun σ H Q => ta σ H fun x H1 => tr σ H1 fun xs H2 => Q (x :: xs) H2
section
variable {X : Cx} {e : Expr} {es : List Expr} {te : TE} {t : TA} {pos : Pos}
theorem pa_nil : PA X [] tNil := fun _ _ _ _ H Q I h => Calls.spliced_nil ⟨[], H, I, .nil, h⟩
theorem pa_cons (ha : PE X e te) (hr : PA X es t) (hs : starEach (e :: es) X.env = (false, eval e X.env) :: starEach es X.env := by rfl) : PA X (e :: es) (tCons te t) := by
  intro pos pins s σ H Q I h
  rw [hs]
  show wpAny _ _ (spliced ((false, eval e X.env) :: backTo pos (starEach es X.env))) _ _ s
  refine Calls.spliced_cons (thn (ha pins s σ H _ I h) fun u s1 ⟨x, H1, I1, r1, q1⟩ => ?_)
  exact thn (hr pos pins s1 σ H1 _ I1 q1) fun us s2 ⟨xs, H2, I2, r2, q2⟩ => ⟨x :: xs, H2, I2, .cons r1 r2, q2⟩

noncomputable def tTup (t : TA) : TE := fun σ H Q => t σ H fun xs H1 => xs.length ≤ sizeLine ∧ ∀ p, H1 p = none → Q (.ref p) (upd H1 p (.tup xs))
noncomputable def tLst (t : TA) : TE := fun σ H Q => t σ H fun xs H1 => xs.length ≤ sizeLine ∧ ∀ p, H1 p = none → Q (.ref p) (upd H1 p (.lst xs))
theorem pe_tup {x1} (h : PA X es t) : PE X (.Tuple es x1 pos) (tTup t) := by
  intro pins s σ H Q I hq
  refine wpAny_Tuple_spliced (thn (h pos pins s σ H _ I hq) fun us s1 ⟨xs, H1, I1, r, z, q⟩ => ⟨by rw [← r.length]; exact z, ?_⟩)
  have hf : H1 s1.heap.objs.size = none := I1.hok.fresh (Nat.le_refl _)
  refine ⟨.ref s1.heap.objs.size, upd H1 s1.heap.objs.size (.tup xs), I1.laid (t' := s1.toks) (fun b u e => Heap.get?_push_of_some _ e) (Nat.le_refl _) ?_, rfl, q _ hf⟩
  exact ⟨z, us, r, ⟨_, Heap.get?_push_size _ rfl, rfl, _, rfl⟩⟩
theorem pe_lst (h : PA X es t) : PE X (.List es pos) (tLst t) := by
  intro pins s σ H Q I hq
  refine wpAny_List_spliced (thn (h pos pins s σ H _ I hq) fun us s1 ⟨xs, H1, I1, r, z, q⟩ => ⟨by rw [← r.length]; exact z, ?_⟩)
  have hf : H1 s1.heap.objs.size = none := I1.hok.fresh (Nat.le_refl _)
  refine ⟨.ref s1.heap.objs.size, upd H1 s1.heap.objs.size (.lst xs), I1.laid (t' := s1.toks) (fun b u e => Heap.get?_push_of_some _ e) (Nat.le_refl _) ?_, rfl, q _ hf⟩
  exact ⟨z, us, 0, r, Heap.get?_push_size _ rfl⟩
end

noncomputable abbrev Sp := List V → Hp → VK → XK → Prop
noncomputable abbrev CXT := List Env → Hp → Shared → XK → Value → Shared → Prop

structure Env0 (P : Program) (w : World) (K : PySem.W.Frag) (mg : Str → Option Value) (base : Heap) (A : Around) (outer : List Env) (s : Shared) (H : Hp) : Prop where
  frames : A.frames = some outer
  mod : Mod K mg base
  bs : ∀ b o, base.get? b = some o → s.heap.get? b = some o ∧ H b = none
  bsz : base.objs.size ≤ s.heap.objs.size
  funs : s.heap.FunFrames base outer
  frf : ∀ b ∈ frs outer, H b = none
  hok : HOk P w H s.heap
  bare : AllBare s.gens
noncomputable def CE (outer : List Env) (P : Program) (w : World) (H : Hp) (s : Shared) (Q : VK) (u : Value) (s' : Shared) : Prop :=
  ∃ v H', s'.os = s.os ∧ AllBare s'.gens ∧ Un (frs outer) [] H H' s.heap s'.heap ∧ HOk P w H' s'.heap ∧ RelV v u ∧ Q v H'
noncomputable def CR (CX : CXT) (outer : List Env) (P : Program) (w : World) (H : Hp) (s : Shared) (Q : VK) (E : XK) (r : Result) (s' : Shared) : Prop :=
  match r with
  | .ok (.ret u) => CE outer P w H s Q u s'
  | .ok _ => False
  | .error e => CX outer H s E e s'
structure FnOk (P : Program) (w : World) (K : PySem.W.Frag) (mg : Str → Option Value) (base : Heap) (CX : CXT) (k : Nat) (f : Addr) (fd : FuncData) (ps : List Str) (sp : Sp) : Prop where
  len : ∀ vs H Q E, sp vs H Q E → vs.length = ps.length
  run : ∀ (A : Around) (outer : List Env) (s : Shared) (H : Hp) (args : Args) (us : List Value) (vs : List V) (Q : VK) (E : XK), Room k A → Env0 P w K mg base A outer s H → BindsTo s fd args (ps.zip us) → Vals vs us → sp vs H Q E →
    codeAny (model P w) A (.call (.ref f) args) (CR CX outer P w H s Q E) s
theorem FnOk.mono {P : Program} {w : World} {K : PySem.W.Frag} {mg : Str → Option Value} {base : Heap} {CX : CXT} {j k : Nat} {f : Addr} {fd : FuncData} {ps : List Str} {sp : Sp} (F : FnOk P w K mg base CX j f fd ps sp) (h : j ≤ k) :
    FnOk P w K mg base CX k f fd ps sp := ⟨F.len, fun A outer s H args us vs Q E hr => F.run A outer s H args us vs Q E (hr.mono h)⟩
theorem FnOk.imp {P : Program} {w : World} {K : PySem.W.Frag} {mg : Str → Option Value} {base : Heap} {CX : CXT} {k : Nat} {f : Addr} {fd : FuncData} {ps : List Str} {sp sp' : Sp} (F : FnOk P w K mg base CX k f fd ps sp)
    (h : ∀ vs H Q E, sp' vs H Q E → sp vs H Q E) : FnOk P w K mg base CX k f fd ps sp' :=
  ⟨fun vs H Q E q => F.len vs H Q E (h _ _ _ _ q), fun A outer s H args us vs Q E hr he hb hv hs => F.run A outer s H args us vs Q E hr he hb hv (h _ _ _ _ hs)⟩

theorem Env0.make {P : Program} {w : World} {K : PySem.W.Frag} {mg : Str → Option Value} {base : Heap} {A : Around} {outer : List Env} {s : Shared} {H : Hp} (e : Env0 P w K mg base A outer s H) (C : Addr) (us : List Value) (kw : List (Str × Value)) :
    Env0 P w K mg base (A.under (.builtin "type.__call__" ⟨.ref C :: us, kw⟩)) outer s H := ⟨by first | exact e.frames | (simpa [Around.under, Code.envs, Code.isFrame, pushEnvs] using e.frames), e.mod, e.bs, e.bsz, e.funs, e.frf, e.hok, e.bare⟩
theorem Env0.in1 {P : Program} {w : World} {K : PySem.W.Frag} {mg : Str → Option Value} {base : Heap} {A : Around} {outer : List Env} {s : Shared} {H : Hp} (e : Env0 P w K mg base A outer s H) :
    Env0 P w K mg base A.in1 outer s H := ⟨e.frames, e.mod, e.bs, e.bsz, e.funs, e.frf, e.hok, e.bare⟩

section
variable {X : Cx} {pins : List (Addr × Obj)} {σ : St} {H : Hp} {s s' : Shared}
theorem Inv.env0 (I : Inv X pins σ H s) : Env0 X.prog X.w X.K X.mg X.base X.A X.stack s H :=
  ⟨I.ok.frames, I.ok.mod, I.bs, Nat.le_trans I.ok.bsz I.sz, I.stack, I.stkFree, I.hok, I.bare⟩
theorem Inv.after {Q : VK} {u : Value} (I : Inv X pins σ H s) (h : CE X.stack X.prog X.w H s Q u s') : EP X pins σ Q u s' := by
  obtain ⟨v, H', os, bare, un, hok, r, q⟩ := h
  obtain ⟨hh, g, d, t, os'⟩ := s'
  obtain rfl : os' = s.os := os
  exact ⟨v, H', I.call (h' := hh) (g' := g) (d' := d) (t' := t) (ch := []) un hok bare (fun b z => absurd z (by simp)), r, q⟩
end

noncomputable def tCall (sp : Sp) (dvs : List V) (E : XK) (t : TA) : TE := fun σ H Q => t σ H fun vs H1 => sp (vs ++ dvs) H1 Q E
noncomputable def Binds (K : PySem.W.Frag) (fd : FuncData) (ps : List Str) (ds : List Value) : Prop :=
  ∀ (s : Shared) (us : List Value), K.In s.heap → (us ++ ds).length = ps.length → BindsTo s fd ⟨us, []⟩ (ps.zip (us ++ ds))
theorem Binds.all {K : PySem.W.Frag} {fd : FuncData} {ps : List Str} (h : ∀ us : List Value, us.length = ps.length → bindArgs fd ⟨us, []⟩ = pure (ps.zip us)) : Binds K fd ps [] := fun s us _ hl => by
  rw [List.append_nil] at hl ⊢
  exact .of_eq (h us hl)

noncomputable def Passes (CX : CXT) (X : Cx) (E : XK) : Prop := ∀ (pins : List (Addr × Obj)) (σ : St) (H : Hp) (s : Shared) (e : Value) (s' : Shared), Inv X pins σ H s → CX X.stack H s E e s' → X.xe e s'

section
variable {X : Cx} {CX : CXT} {k : Nat} {f C : Addr} {fd : FuncData} {ps : List Str} {sp : Sp} {dvs : List V} {ds : List Value} {E : XK} {x m : Str} {p pos apos : Pos} {e o : Expr} {es : List Expr} {ta : TE} {t : TA}

theorem run_fn {pins : List (Addr × Obj)} {σ : St} {H : Hp} {s : Shared} {Q : VK} {us : List Value} {vs : List V} (F : FnOk X.prog X.w X.K X.mg X.base CX k f fd ps sp) (hr : Room k X.A) (hb : Binds X.K fd ps ds) (hd : Vals dvs ds) (hx : Passes CX X E)
    (I : Inv X pins σ H s) (r : Vals vs us) (h : sp (vs ++ dvs) H Q E) : wpAny (model X.prog X.w) X.A (call (.ref f) us) (EP X pins σ Q) X.xe s := by
  have r2 : Vals (vs ++ dvs) (us ++ ds) := r.append hd
  have hl : (us ++ ds).length = ps.length := by rw [← r2.length]; exact F.len _ _ _ _ h
  refine wpAny_call (codeAny_mono (F.run X.A X.stack s H ⟨us, []⟩ (us ++ ds) (vs ++ dvs) Q E hr I.env0 (hb s us I.kIn hl) r2 h) fun r s' hq => ?_)
  cases r with
  | error e => exact hx pins σ H s e s' I hq
  | ok fl =>
    cases fl with
    | ret u => exact I.after hq
    | next => exact False.elim hq
    | brk => exact False.elim hq
    | cont => exact False.elim hq

theorem pe_call (F : FnOk X.prog X.w X.K X.mg X.base CX k f fd ps sp) (hr : Room k X.A) (hg : Gl X x) (hm : X.mg x = some (.ref f)) (hk : PySem.W.keepIn X.K (.ref f) = true) (hb : Binds X.K fd ps ds) (hd : Vals dvs ds) (hx : Passes CX X E)
    (ha : PA X (e :: es) t) (hdb : (x == ("__debug__" : Str)) = false := by decide) (he : starEach (e :: es) X.env = (false, eval e X.env) :: starEach es X.env := by rfl) (hpl : (backTo pos (starEach es X.env)).any (·.1) = false := by rfl) :
    PE X (.Call (.Name x p) (e :: es) [] pos) (tCall sp dvs E t) := by
  intro pins s σ H Q I h
  refine wpAny_Call_Name_kw (ld_glob I hg hm ?_ hdb)
  refine PySem.W.callWith_K (h₀ := X.base) I.ok.mod.kin hk (thn (ha pos pins s σ H _ I h) fun us s1 ⟨vs, H1, I1, r, q⟩ => ⟨I1.kIn, ?_⟩) he hpl
  exact run_fn F hr hb hd hx I1 r q
structure Mk (K : PySem.W.Frag) (C f : Addr) : Prop where
  makes : PySem.W.makesIn K C = true
  init : PySem.W.findIn K (.ref C) "__init__" = some (some (.ref f))
  fn : PySem.W.isFn K (.ref f) = true
  kp : PySem.W.keepIn K (.ref C) = true

end

section
variable {X : Cx} {CX : CXT} {k : Nat} {f C : Addr} {fd : FuncData} {ps ks : List Str} {sp : Sp} {E : XK} {x m : Str} {p pos apos kpos : Pos} {e o : Expr} {es : List Expr} {kws : List Keyword} {te ta : TE} {t tk : TA} {nm : Option Str}
structure KBinds (K : PySem.W.Frag) (fd : FuncData) (ps ks : List Str) (g : List Value → List Value → List Value) (gV : List V → List V → List V) : Prop where
  to : ∀ (s : Shared) (us ws : List Value), K.In s.heap → (g us ws).length = ps.length → BindsTo s fd ⟨us, ks.zip ws⟩ (ps.zip (g us ws))
  rel : ∀ {vs : List V} {us : List Value} {zs : List V} {ws : List Value}, Vals vs us → Vals zs ws → Vals (gV vs zs) (g us ws)
variable {g : List Value → List Value → List Value} {gV : List V → List V → List V}
end

structure FnScope (N P : List Str) (sc : Scope) : Prop where
  kind : sc.kind = .function
  co : sc.isCoroutine = false
  gen : sc.isGenerator = false
  nd : N.Nodup
  pre : N.take P.length = P
  par : ∀ x ∈ P, sc.names.lookup x = some .local ∨ sc.names.lookup x = some .cell
  nofree : ∀ y ∈ sc.names, y.2 ≠ .free

theorem bindL_out {kindOf : Str → Option NameKind} {x : Str} : ∀ {binds : List (Str × Value)} {m : Str → Option Value}, (∀ v, (x, v) ∉ binds) → bindL kindOf binds m x = m x
  | [], _, _ => rfl
  | (n, v) :: r, m, h => by
    unfold bindL
    rw [bindL_out fun w hw => h w (List.mem_cons_of_mem _ hw)]
    split
    · have : x ≠ n := by rintro rfl; exact h v List.mem_cons_self
      simp [this]
    · rfl
theorem bindC_out {kindOf : Str → Option NameKind} {x : Str} : ∀ {binds : List (Str × Value)} {m : Str → Option Value}, (∀ v, (x, v) ∉ binds) → bindC kindOf binds m x = m x
  | [], _, _ => rfl
  | (n, v) :: r, m, h => by
    unfold bindC
    rw [bindC_out fun w hw => h w (List.mem_cons_of_mem _ hw)]
    split
    · rfl
    · have : x ≠ n := by rintro rfl; exact h v List.mem_cons_self
      simp [this]
theorem bindL_get {kindOf : Str → Option NameKind} {x : Str} {v : Value} : ∀ {P : List Str} {vs : List Value} {i : Nat} {m : Str → Option Value}, P.Nodup → P[i]? = some x → vs[i]? = some v → kindOf x = some .local →
    bindL kindOf (P.zip vs) m x = some v
  | [], _, _, _, _, h, _, _ => by simp at h
  | _ :: _, [], _, _, _, _, h, _ => by simp at h
  | p :: P, w :: vs, 0, m, nd, h1, h2, hk => by
    simp at h1 h2; subst h1; subst h2
    show bindL kindOf ((p, w) :: P.zip vs) m p = _
    unfold bindL
    rw [bindL_out fun v hv => (List.nodup_cons.mp nd).1 (List.of_mem_zip hv).1, if_pos hk]
    simp
  | p :: P, w :: vs, i + 1, m, nd, h1, h2, hk => by
    show bindL kindOf ((p, w) :: P.zip vs) m x = _
    unfold bindL
    exact bindL_get (i := i) (List.nodup_cons.mp nd).2 (by simpa using h1) (by simpa using h2) hk
theorem bindC_get {kindOf : Str → Option NameKind} {x : Str} {v : Value} : ∀ {P : List Str} {vs : List Value} {i : Nat} {m : Str → Option Value}, P.Nodup → P[i]? = some x → vs[i]? = some v → kindOf x ≠ some .local →
    bindC kindOf (P.zip vs) m x = some v
  | [], _, _, _, _, h, _, _ => by simp at h
  | _ :: _, [], _, _, _, _, h, _ => by simp at h
  | p :: P, w :: vs, 0, m, nd, h1, h2, hk => by
    simp at h1 h2; subst h1; subst h2
    show bindC kindOf ((p, w) :: P.zip vs) m p = _
    unfold bindC
    rw [bindC_out fun v hv => (List.nodup_cons.mp nd).1 (List.of_mem_zip hv).1, if_neg hk]
    simp
  | p :: P, w :: vs, i + 1, m, nd, h1, h2, hk => by
    show bindC kindOf ((p, w) :: P.zip vs) m x = _
    unfold bindC
    exact bindC_get (i := i) (List.nodup_cons.mp nd).2 (by simpa using h1) (by simpa using h2) hk

noncomputable def start (N : List Str) (vs : List V) : St := vs.map some ++ List.replicate (N.length - vs.length) none

noncomputable def cxOf (CX : CXT) (P : Program) (w : World) (K : PySem.W.Frag) (mg : Str → Option Value) (base : Heap) (N : List Str) (qual : Str) (scope : Scope) (f : Addr) (cd : Value) (A : Around) (outer : List Env) (s : Shared) (H : Hp) (E : XK) : Cx where
  prog := P
  w := w
  K := K
  mg := mg
  base := base
  A := A.deeper (envOfC qual scope s.heap.objs.size f cd)
  N := N
  s₀ := s
  H₀ := H
  env := envOfC qual scope s.heap.objs.size f cd
  outer := outer
  stack := envOfC qual scope s.heap.objs.size f cd :: outer
  ex := []
  calm := true
  fn := fun _ => true
  pn := []
  xe := fun e s' => wpAny (model P w) (A.deeper (envOfC qual scope s.heap.objs.size f cd)) (leaving (envOfC qual scope s.heap.objs.size f cd) e) (fun _ s'' => CX outer H s E e s'') (fun e' s'' => CX outer H s E e' s'') s'

theorem cell_has {sc : Scope} {n : Nat} {x : Str} (h : sc.names.lookup x = some .cell) : ∃ c, (cellsFrom n sc.names []).lookup x = some c := by
  have q := PySem.W.cellsFrom_some sc.names n [] (.inl h)
  exact Option.isSome_iff_exists.mp q

theorem inv_start {CX : CXT} {P : Program} {w : World} {K : PySem.W.Frag} {mg : Str → Option Value} {base : Heap} {N ps : List Str} {qual : Str} {scope : Scope} {f : Addr} {cd : Value} {A : Around} {outer : List Env} {s s1 : Shared} {H : Hp} {E : XK} {us : List Value} {vs : List V}
    (S : FnScope N ps scope) (hd : A.handled = none) (e0 : Env0 P w K mg base A outer s H) (hl : vs.length = ps.length) (r : Vals vs us)
    (x : InCallC s s.heap.objs.size (bindL (envOfC qual scope s.heap.objs.size f cd).kindOf (ps.zip us) fun _ => none) (cellsFrom (s.heap.objs.size + 1) scope.names []) (bindC (envOfC qual scope s.heap.objs.size f cd).kindOf (ps.zip us) fun _ => none) s1) :
    Inv (cxOf CX P w K mg base N qual scope f cd A outer s H E) [] (start N vs) H s1 := by
  have hpl : ps.length ≤ N.length := by have := congrArg List.length S.pre; rw [List.length_take] at this; omega
  obtain ⟨h1, tk, rfl, hk⟩ := x.done
  have noA : ∀ b : Addr, b ∉ (cxOf CX P w K mg base N qual scope f cd A outer s H E).ex := fun b z => absurd (show b ∈ ([] : List Addr) from z) (by simp)
  refine ⟨⟨e0.mod, S.kind, rfl, rfl, Nat.le_refl _, fun y z c h1 h2 => ?_, fun y hy => ?_, fun y c _ h => ?_, fun _ => hd, Around.frames_deeper e0.frames, .inr ⟨rfl, rfl⟩, fun b z => absurd z (noA b), e0.bs, e0.bsz, fun b _ _ => noA b, fun b z => absurd z (noA b), e0.funs, e0.frf⟩,
    rfl, e0.bare, Un.kept hk, ⟨_, x.toInCall.ns, fun i y v h1 h2 h3 => ?_⟩, fun y c h => ⟨_, x.cell y c h⟩, e0.hok.fresh (Nat.le_refl _), fun y c h => ?_, fun p hp => absurd (show p ∈ ([] : List (Addr × Obj)) from hp) (by simp), e0.hok.kept hk, ?_⟩
  · exact name_of_addr x.apart (PySem.mem_of_lookup h1) (PySem.mem_of_lookup h2)
  · have hy : scope.names.lookup y = some .cell ∨ scope.names.lookup y = some .free := hy
    rcases hy with hy | hy
    · exact cell_has hy
    · exact absurd rfl (S.nofree _ (PySem.mem_of_lookup hy))
  · exact Nat.le_of_lt (x.above y c (PySem.mem_of_lookup h))
  · have hi : i < vs.length := by
      unfold start at h2
      by_cases hi : i < vs.length
      · exact hi
      · rw [List.getElem?_append_right (by simpa using hi)] at h2
        rw [List.getElem?_replicate] at h2
        split at h2 <;> cases h2
    have ha : vs[i]? = some v := by
      unfold start at h2
      rw [List.getElem?_append_left (by simpa using hi), List.getElem?_map] at h2
      cases e : vs[i]? with
      | none => rw [e] at h2; cases h2
      | some a => rw [e] at h2; cases h2; rfl
    obtain ⟨u, hu, rv⟩ := r.get ha
    have hp : ps[i]? = some y := by
      rw [← S.pre, List.getElem?_take_of_lt (by omega)]; exact h1
    have ndP : ps.Nodup := by rw [← S.pre]; exact S.nd.sublist (List.take_sublist _ _)
    refine ⟨u, rv, ?_⟩
    rcases S.par y (List.mem_of_getElem? hp) with k | k
    · exact .inl ⟨k, bindL_get ndP hp hu k⟩
    · obtain ⟨c, e⟩ := cell_has (n := s.heap.objs.size + 1) k
      refine .inr ⟨.inl k, c, e, ?_⟩
      have q := x.cell y c e
      rw [bindC_get ndP hp hu (by show scope.names.lookup y ≠ _; rw [k]; decide)] at q
      exact q
  · exact e0.hok.fresh (Nat.le_of_lt (x.above y c (PySem.mem_of_lookup h)))
  · unfold start
    show _ = N.length
    rw [List.length_append, List.length_map, List.length_replicate]
    omega

theorem fn_of {CX : CXT} {P : Program} {w : World} {K : PySem.W.Frag} {mg : Str → Option Value} {base : Heap} {k : Nat} {f : Addr} {name qual : Str} {params : Arguments} {body : List Stmt} {scope : Scope} {dV kV doc pm cdv ct oc : Value} {an od : Option Addr}
    {osl : Array (Option Value)} {N ps : List Str} {sp : Sp} (lk : K.lookup f = some ⟨oc, od, .func (PySem.W.fnOf name qual params body scope dV kV doc pm an cdv ct), osl⟩) (hcd : PySem.W.codeIn K cdv qual = true) (S : FnScope N ps scope)
    (len : ∀ vs H Q E, sp vs H Q E → vs.length = ps.length)
    (hbody : ∀ (A : Around) (outer : List Env) (s : Shared) (H : Hp) (vs : List V) (Q : VK) (E : XK), Room k (A.deeper (envOfC qual scope s.heap.objs.size f cdv)) → sp vs H Q E →
      ∃ t, PSs (cxOf CX P w K mg base N qual scope f cdv A outer s H E) body t ∧ t { nx := fun _ H' => Q .non H', rt := Q } (start N vs) H) :
    FnOk P w K mg base CX (k + 1) f (PySem.W.fnOf name qual params body scope dV kV doc pm an cdv ct) ps sp := by
  refine ⟨len, fun A outer s H args us vs Q E hr e0 hb r hsp => ?_⟩
  have hl := len _ _ _ _ hsp
  have KX : K.In s.heap := e0.mod.kin.keeps fun b o e => (e0.bs b o e).1
  have lim : s.heap.NoLimit := e0.mod.nolimit.keeps fun b o e => (e0.bs b o e).1
  have hkind : ∀ y ∈ ps.zip us, scope.names.lookup y.1 = some .local ∨ (scope.names.lookup y.1 = some .cell ∧ ((cellsFrom (s.heap.objs.size + 1) scope.names []).lookup y.1).isSome = true) := fun ⟨n, v⟩ hy => by
    rcases S.par n (List.of_mem_zip hy).1 with q | q
    · exact .inl q
    · exact .inr ⟨q, PySem.W.cellsFrom_some _ _ _ (.inl q)⟩
  refine codeAny_call_function hr.depth (KX _ _ lk) rfl S.co S.gen rfl (PySem.W.codeRec_of KX hcd) (hb _ _ _ _ ?_)
  refine wpAny_newFunctionEnv_cells S.kind hkind fun env he s1 x => ?_
  subst he
  refine ⟨lim.keeps x.toInCall.keep, codeAny_func ?_⟩
  obtain ⟨t, ht, hq⟩ := hbody A outer s H vs Q E (hr.deeper _) hsp
  have I : Inv (cxOf CX P w K mg base N qual scope f cdv A outer s H E) [] (start N vs) H s1 := inv_start S hr.hd e0 hl r x
  refine wpAny_mono (ht [] s1 (start N vs) H _ I hq) (fun fl s' hs => ?_) fun e s' hs => hs
  have fin : ∀ {σ' : St} {H' : Hp} {v : V} {u : Value}, Inv (cxOf CX P w K mg base N qual scope f cdv A outer s H E) [] σ' H' s' → RelV v u → Q v H' → CE outer P w H s Q u s' :=
    fun {σ' H' v u} J rv q => ⟨v, H', J.os, J.bare, J.base, J.hok, rv, q⟩
  cases fl with
  | ret u =>
    obtain ⟨v, σ', H', J, rv, q⟩ := hs
    exact fin J rv q
  | next =>
    obtain ⟨σ', H', J, q⟩ := hs
    exact fin (v := V.non) (u := Value.none) J rfl q
  | brk =>
    obtain ⟨_, _, _, q⟩ := hs
    exact False.elim q
  | cont =>
    obtain ⟨_, _, _, q⟩ := hs
    exact False.elim q
end L2

namespace L2
open PySem PySem.Spec PyProof.Rows
section
variable {X : Cx} {x : Str} {p pos : Pos} {e : Expr} {es : List Expr} {t : TA} {id T : String} {r : List V → Hp → VK → Prop}

noncomputable def tCB (r : List V → Hp → VK → Prop) (t : TA) : TE := fun σ H Q => t σ H fun vs H1 => r vs H1 Q
theorem pe_callB (hc : CallR X (.builtin id) r) (hg : Gl X x) (hm : X.mg x = none) (hv : bootBuiltins x = some (.builtin id)) (ha : PA X (e :: es) t) (hn : x ≠ "__name__" := by decide) (hdb : (x == ("__debug__" : Str)) = false := by decide)
    (he : starEach (e :: es) X.env = (false, eval e X.env) :: starEach es X.env := by rfl) (hpl : (backTo pos (starEach es X.env)).any (·.1) = false := by rfl) : PE X (.Call (.Name x p) (e :: es) [] pos) (tCB r t) := by
  intro pins s σ H Q I h
  refine wpAny_Call_Name_kw (ld_blt I hg hm hv ?_ hn hdb)
  exact PyProof.Rows.callWith_builtin1 (thn (ha pos pins s σ H _ I h) fun us s1 ⟨vs, H1, I1, r1, q1⟩ => hc pins s1 σ H1 vs us Q I1 r1 q1) he hpl
theorem pe_callTy (hc : CallR X (.type T) r) (hg : Gl X x) (hm : X.mg x = none) (hv : bootBuiltins x = some (.type T)) (ha : PA X (e :: es) t) (hn : x ≠ "__name__" := by decide) (hdb : (x == ("__debug__" : Str)) = false := by decide)
    (he : starEach (e :: es) X.env = (false, eval e X.env) :: starEach es X.env := by rfl) (hpl : (backTo pos (starEach es X.env)).any (·.1) = false := by rfl) : PE X (.Call (.Name x p) (e :: es) [] pos) (tCB r t) := by
  intro pins s σ H Q I h
  refine wpAny_Call_Name_kw (ld_blt I hg hm hv ?_ hn hdb)
  exact PyProof.Rows.callWith_type1 (thn (ha pos pins s σ H _ I h) fun us s1 ⟨vs, H1, I1, r1, q1⟩ => hc pins s1 σ H1 vs us Q I1 r1 q1) he hpl
end
end L2

namespace HT
open PySem PyProof.Rows

section
open PySem.SeqAt
open PySem.AutoSeq1 (wpAny_loadPart')
open PySem.MeetsSeq PySem.MeetsSeq2 PySem.MeetsSeq3

end

section
variable {prog : Program} {w : World} {A : Around} {E : Value → Shared → Prop} {s : Shared}

noncomputable def sIx (n d : Nat) : Option Int → Nat
  | none => d
  | some v => if v < 0 then (v + (n : Int)).toNat else min v.toNat n
theorem sIx_none (n d : Nat) : sIx n d none = d := rfl
theorem sIx_nat (n d k : Nat) : sIx n d (some (k : Int)) = min k n := by
  show (if (k : Int) < 0 then ((k : Int) + (n : Int)).toNat else min (k : Int).toNat n) = min k n
  rw [if_neg (by omega), Int.toNat_natCast]
end
end HT

namespace L2
open PySem PySem.Spec PyProof.Rows

noncomputable abbrev TO := St → Hp → (Option Int → Hp → Prop) → Prop
noncomputable def PO (X : Cx) (e : Option Expr) (t : TO) : Prop :=
  ∀ (pins : List (Addr × Obj)) (s : Shared) (σ : St) (H : Hp) (Q : Option Int → Hp → Prop), Inv X pins σ H s → t σ H Q →
    wpAny (model X.prog X.w) X.A (evalPart e X.env) (fun u s' => ∃ o H', Inv X pins σ H' s' ∧ IsPart u o ∧ Q o H') X.xe s
noncomputable def tNoPart : TO := fun _ H Q => Q none H
noncomputable def tPart (t : TE) : TO := fun σ H Q => t σ H fun x H1 => ∃ i, x = .int i ∧ Q (some i) H1

section
variable {X : Cx} {e : Expr} {te : TE} {lo hi : Option Expr} {tl th : TO} {pos p2 : Pos}

theorem po_none : PO X none tNoPart := by
  intro pins s σ H Q I h
  rw [evalPart_none]
  exact wpAny_pure ⟨none, H, I, .none, h⟩
theorem po_some (h : PE X e te) : PO X (some e) (tPart te) := by
  intro pins s σ H Q I hw
  rw [evalPart_some]
  refine thn (h pins s σ H _ I hw) fun u s1 ⟨x, H1, I1, r1, q1⟩ => ?_
  obtain ⟨i, rfl, q⟩ := q1
  obtain ⟨t, rfl⟩ := r1
  exact ⟨some i, H1, I1, .int i t, q⟩

noncomputable def SlR (X : Cx) (r : V → Option Int → Option Int → Hp → VK → Prop) : Prop :=
  ∀ (pins : List (Addr × Obj)) (s : Shared) (σ : St) (H : Hp) (x : V) (v vl vu : Value) (lo hi : Option Int) (sl : Addr) (Q : VK), Inv X pins σ H s → RelV x v → s.heap.IsSliceOf sl vl vu .none → IsPart vl lo → IsPart vu hi → r x lo hi H Q →
    ∃ T id, typeLookup (.type T) "__getitem__" = pure (some (.builtin id)) ∧ s.TypeIs v T ∧ wpAny (model X.prog X.w) X.A (getItem v (.ref sl)) (EP X pins σ Q) X.xe s
theorem SlR.or {r r' : V → Option Int → Option Int → Hp → VK → Prop} (h : SlR X r) (h' : SlR X r') : SlR X (fun x lo hi H Q => r x lo hi H Q ∨ r' x lo hi H Q) := by
  intro pins s σ H x v vl vu lo hi sl Q I rx hs pl pu q
  rcases q with q | q
  · exact h pins s σ H x v vl vu lo hi sl Q I rx hs pl pu q
  · exact h' pins s σ H x v vl vu lo hi sl Q I rx hs pl pu q
noncomputable def tSl (r : V → Option Int → Option Int → Hp → VK → Prop) (te : TE) (tl th : TO) : TE := fun σ H Q => te σ H fun x H1 => tl σ H1 fun l H2 => th σ H2 fun u H3 => r x l u H3 Q
theorem pe_slice {r : V → Option Int → Option Int → Hp → VK → Prop} (hr : SlR X r) (he : PE X e te) (hl : PO X lo tl) (hu : PO X hi th) : PE X (.Subscript e (.Slice lo hi none p2) pos) (tSl r te tl th) := by
  intro pins s σ H Q I h
  refine Subscript_ (thn (he pins s σ H _ I h) fun v s1 ⟨x, H1, I1, r1, q1⟩ => ?_)
  refine wpAny_Slice (thn (hl pins s1 σ H1 _ I1 q1) fun vl s2 ⟨l, H2, I2, pl, q2⟩ => thn (hu pins s2 σ H2 _ I2 q2) fun vu s3 ⟨u, H3, I3, pu, q3⟩ => ?_)
  rw [evalPart_none]
  refine wpAny_pure ?_
  have I4 : Inv X pins σ H3 { s3 with heap := s3.heap.push { cls := .type "slice", data := .fields #[vl, vu, .none] } } := I3.kept (t' := s3.toks) fun b ob q => Heap.get?_push_of_some _ q
  obtain ⟨T, id, hT, ht, hg⟩ := hr pins { s3 with heap := s3.heap.push { cls := .type "slice", data := .fields #[vl, vu, .none] } } σ H3 x v vl vu l u s3.heap.objs.size Q I4 r1 (Heap.IsSliceOf.new ..) pl pu q3
  show wpAny (model X.prog X.w) X.A (subscriptTail e (.Slice lo hi none p2) v (.ref s3.heap.objs.size)) (EP X pins σ Q) X.xe { s3 with heap := s3.heap.push { cls := .type "slice", data := .fields #[vl, vu, .none] } }
  exact tail_any (ops := [.ref s3.heap.objs.size, v]) ht hT hg (by with_unfolding_all rfl)

noncomputable def cutV (xs : List V) (lo hi : Option Int) : List V := (xs.drop (HT.sIx xs.length 0 lo)).take (HT.sIx xs.length xs.length hi - HT.sIx xs.length 0 lo)
theorem cutV_length (xs : List V) (lo hi : Option Int) : (cutV xs lo hi).length ≤ xs.length := by
  unfold cutV
  rw [List.length_take, List.length_drop]
  omega
end
end L2

namespace L2
open PySem PySem.Spec PyProof.Rows

noncomputable def ixN (n : Nat) (i : Int) : Option Nat := if 0 ≤ i then (if i < n then some i.toNat else none) else if -(n : Int) ≤ i then some (i + n).toNat else none
noncomputable def atI {α : Type} (xs : List α) (i : Int) : Option α := (ixN xs.length i).bind fun j => xs[j]?
theorem ixN_seq {n : Nat} {i : Int} {j : Nat} (h : ixN n i = some j) : seqIndex? i n = some j ∧ j < n ∧ -(n : Int) ≤ i ∧ i < n := by
  unfold ixN at h
  by_cases h0 : 0 ≤ i
  · rw [if_pos h0] at h
    by_cases h1 : i < n
    · rw [if_pos h1] at h
      have e : i.toNat = j := Option.some.inj h
      exact ⟨by rw [seqIndex_of h0 h1, e], by omega, by omega, h1⟩
    · rw [if_neg h1] at h; cases h
  · rw [if_neg h0] at h
    by_cases h1 : -(n : Int) ≤ i
    · rw [if_pos h1] at h
      have e : (i + n).toNat = j := Option.some.inj h
      exact ⟨by rw [seqIndex_neg (by omega) h1, e], by omega, h1, by omega⟩
    · rw [if_neg h1] at h; cases h
theorem atI_get {α : Type} {xs : List α} {i : Int} {v : α} (h : atI xs i = some v) : ∃ j, seqIndex? i xs.length = some j ∧ xs[j]? = some v ∧ j < xs.length ∧ -(xs.length : Int) ≤ i ∧ i < xs.length := by
  unfold atI at h
  cases e : ixN xs.length i with
  | none => rw [e] at h; cases h
  | some j =>
    rw [e] at h
    obtain ⟨h1, h2, h3, h4⟩ := ixN_seq e
    exact ⟨j, h1, h, h2, h3, h4⟩
theorem atI_nat {α : Type} {xs : List α} {j : Nat} {v : α} (h : xs[j]? = some v) : atI xs (j : Int) = some v := by
  have hj : j < xs.length := (List.getElem?_eq_some_iff.mp h).1
  have e : ixN xs.length (j : Int) = some j := by
    unfold ixN
    rw [if_pos (by omega), if_pos (by omega)]; simp
  unfold atI; rw [e]; exact h
noncomputable def PlainIx (b : Expr) : Prop := ∀ o i, subscripted b false o i = operate [o, i] (getItem o i)
noncomputable def IxR (X : Cx) (r : R2) : Prop :=
  ∀ (value slice : Expr) (pins : List (Addr × Obj)) (s : Shared) (σ : St) (H : Hp) (x y : V) (v u : Value) (Q : VK), Inv X pins σ H s → RelV x v → RelV y u → r x y H Q →
    subscripted slice false v u = operate [v, u] (getItem v u) → wpAny (model X.prog X.w) X.A (subscriptTail value slice v u) (EP X pins σ Q) X.xe s
noncomputable def MtR (X : Cx) (id : String) (r : V → List V → Hp → VK → Prop) : Prop :=
  ∀ (pins : List (Addr × Obj)) (s : Shared) (σ : St) (H : Hp) (x : V) (xs : List V) (v : Value) (us : List Value) (Q : VK), Inv X pins σ H s → RelV x v → Vals xs us → r x xs H Q →
    wpAny (model X.prog X.w) X.A (call (.builtin id) (v :: us)) (EP X pins σ Q) X.xe s
section
variable {X : Cx} {a b : Expr} {ta tb : TE} {pos : Pos}
theorem IxR.or {r r' : R2} (h : IxR X r) (h' : IxR X r') : IxR X (fun x y H Q => r x y H Q ∨ r' x y H Q) := by
  intro value slice pins s σ H x y v u Q I rx ry q hs
  rcases q with q | q
  · exact h value slice pins s σ H x y v u Q I rx ry q hs
  · exact h' value slice pins s σ H x y v u Q I rx ry q hs
theorem MtR.or {id : String} {r r' : V → List V → Hp → VK → Prop} (h : MtR X id r) (h' : MtR X id r') : MtR X id (fun x xs H Q => r x xs H Q ∨ r' x xs H Q) := by
  intro pins s σ H x xs v us Q I rx rs q
  rcases q with q | q
  · exact h pins s σ H x xs v us Q I rx rs q
  · exact h' pins s σ H x xs v us Q I rx rs q
theorem pe_ix {r : R2} (hr : IxR X r) (ha : PE X a ta) (hb : PE X b tb) (hs : PlainIx b) : PE X (.Subscript a b pos) (tOp r ta tb) := by
  intro pins s σ H Q I h
  exact Subscript_ (binT ha hb I h fun v u s2 x y H2 I2 rx ry q => hr a b pins s2 σ H2 x y v u Q I2 rx ry q (hs _ _))

noncomputable def rIxL (K : PySem.W.Frag) : R2 := fun x y H Q => ∃ p xs i v, x = .ref p ∧ y = .int i ∧ SqL K H p xs ∧ atI xs i = some v ∧ Q v H
noncomputable def rIxT (K : PySem.W.Frag) : R2 := fun x y H Q => ∃ p xs i v, x = .ref p ∧ y = .int i ∧ SqT K H p xs ∧ atI xs i = some v ∧ Q v H
noncomputable def rIxS : R2 := fun x y H Q => ∃ z i c, x = .str z ∧ y = .int i ∧ z.length ≤ sizeLine ∧ atI z.cps.toList i = some c ∧ Q (.str ⟨#[c]⟩) H
theorem ix_list : IxR X (rIxL X.K) := by
  intro value slice pins s σ H x y v u Q I rx ry h hs
  obtain ⟨p, xs, i, z, rfl, rfl, hq, he, q⟩ := h
  cases rx
  obtain ⟨t, rfl⟩ := ry
  obtain ⟨its, r, pl, hz⟩ := I.list hq
  obtain ⟨j, h1, h2, h3, h4, h5⟩ := atI_get he
  obtain ⟨w, ew, rw'⟩ := r.get h2
  have hl := r.length
  have hn := line63
  have fin : EP X pins σ Q w s := ⟨z, H, I, rw', q⟩
  by_cases h0 : 0 ≤ i
  · have hj : i.toNat = j := by
      rw [seqIndex_of h0 h5] at h1
      exact Option.some.inj h1
    exact item_listR pl.isList h0 (by omega) (by rw [hj]; simpa using ew) fin hs
  · have hj : (i + (its.toArray.size : Int)).toNat = j := by
      rw [seqIndex_neg (by omega) h4] at h1
      rw [List.size_toArray, ← hl]
      exact Option.some.inj h1
    exact subscriptTail_builtinR (x := w) pl.isList.typeIs slot_list_getitem.lookup
      (wpAny_getItem_list_neg (Q := fun r s' => r = w ∧ EP X pins σ Q r s') pl.isList (by omega) (by rw [List.size_toArray] <;> omega) (by omega) (by rw [hj]; simpa using ew) ⟨rfl, fin⟩) hs
theorem ix_tup : IxR X (rIxT X.K) := by
  intro value slice pins s σ H x y v u Q I rx ry h hs
  obtain ⟨p, xs, i, z, rfl, rfl, hq, he, q⟩ := h
  cases rx
  obtain ⟨t, rfl⟩ := ry
  obtain ⟨its, r, pl, hz⟩ := I.tuple hq
  obtain ⟨j, h1, h2, h3, h4, h5⟩ := atI_get he
  obtain ⟨w, ew, rw'⟩ := r.get h2
  have hl := r.length
  have hn := line63
  have fin : EP X pins σ Q w s := ⟨z, H, I, rw', q⟩
  exact subscriptTail_builtinR (x := w) pl.typeIs slot_tuple_getitem.lookup
    (getItem_tuple (j := j) (Q := fun r s' => r = w ∧ EP X pins σ Q r s') pl (by omega) (by omega) (by rw [List.size_toArray, ← hl]; exact h1) (by simpa using ew) ⟨rfl, fin⟩) hs
theorem ix_str : IxR X rIxS := by
  intro value slice pins s σ H x y v u Q I rx ry h hs
  obtain ⟨z, i, c, rfl, rfl, hz, he, q⟩ := h
  obtain ⟨t, rfl⟩ := rx
  obtain ⟨t', rfl⟩ := ry
  obtain ⟨j, h1, h2, h3, h4, h5⟩ := atI_get he
  have hl : z.cps.toList.length = z.length := by simp [Str.length]
  rw [hl] at h1 h4 h5
  have hn := line63
  exact tail_any (typeIs_str s z t) slot_str_getitem.lookup (getItem_str (c := c) (by
    have e1 : decide (i < -(2 ^ 63 : Int)) = false := decide_eq_false (by omega)
    have e2 : decide (i ≥ 2 ^ 63) = false := decide_eq_false (by omega)
    rw [e1, e2, Bool.or_false]) (by rw [h1]; simpa using h2) ⟨.str ⟨#[c]⟩, H, I.tok _, ⟨_, rfl⟩, q⟩) hs
theorem Inv.lst {pins : List (Addr × Obj)} {σ : St} {H : Hp} {s : Shared} {p : Addr} {xs : List V} (I : Inv X pins σ H s) (h : H p = some (.lst xs)) :
    ∃ (its : List Value) (n : Nat), Vals xs its ∧ s.heap.get? p = some { cls := .type "list", data := .seq its.toArray n } ∧ xs.length ≤ sizeLine := by
  obtain ⟨z, its, n, r, e⟩ := I.hok p _ h
  exact ⟨its, n, r, e, z⟩
theorem slice_bounds (lo hi : Option Int) (n : Nat) : (sliceBounds lo hi none n).1 = ((HT.sIx n 0 lo : Nat) : Int) ∧ (sliceBounds lo hi none n).2.1 = ((HT.sIx n n hi : Nat) : Int) ∧ (sliceBounds lo hi none n).2.2 = 1 := by
  refine ⟨?_, ?_, rfl⟩
  · cases lo with
    | none => simp [sliceBounds, HT.sIx]
    | some i =>
      simp only [sliceBounds, HT.sIx, Option.getD_none, show (1 : Int) > 0 by decide, if_true]
      by_cases h : i < 0
      · simp only [h, if_true] <;> omega
      · simp only [h, if_false] <;> omega
  · cases hi with
    | none => simp [sliceBounds, HT.sIx]
    | some i =>
      simp only [sliceBounds, HT.sIx, Option.getD_none, show (1 : Int) > 0 by decide, if_true]
      by_cases h : i < 0
      · simp only [h, if_true] <;> omega
      · simp only [h, if_false] <;> omega
theorem slicePick_cut (its : List Value) (lo hi : Option Int) : slicePick its.toArray lo hi none = ((its.drop (HT.sIx its.length 0 lo)).take (HT.sIx its.length its.length hi - HT.sIx its.length 0 lo)).toArray := by
  obtain ⟨h1, h2, h3⟩ := slice_bounds lo hi its.toArray.size
  unfold slicePick
  rw [h1, h2, h3]
  simp only [sliceRange_one, pick_run, List.size_toArray] <;> rfl
noncomputable def rSlL (K : PySem.W.Frag) : V → Option Int → Option Int → Hp → VK → Prop := fun x lo hi H Q => ∃ a xs, x = .ref a ∧ SqL K H a xs ∧ ∀ p, H p = none → Q (.ref p) (upd H p (.lst (cutV xs lo hi)))
theorem sl_list : SlR X (rSlL X.K) := by
  intro pins s σ H x v vl vu lo hi sl Q I rx hs pl pu h
  obtain ⟨a, xs, rfl, hx, q⟩ := h
  cases rx
  obtain ⟨its, r, ht, hz⟩ := I.list hx
  have hlen := r.length
  refine ⟨"list", _, slot_list_getitem.lookup, ht.isList.typeIs, ?_⟩
  refine wpAny_getItem_list_slice ht.isList hs pl pu .none (by simp) ?_ (by rw [List.size_toArray] <;> omega)
  rw [slicePick_cut, ← hlen]
  refine ⟨.ref s.heap.objs.size, _, I.laid (t' := s.toks) (o := .lst (cutV xs lo hi)) (fun b ob q => Heap.get?_push_of_some _ q) (Nat.le_refl _) ?_, rfl, q _ (I.hok.fresh (Nat.le_refl _))⟩
  exact ⟨Nat.le_trans (cutV_length xs lo hi) hz, _, 0, (r.drop (HT.sIx xs.length 0 lo)).take (HT.sIx xs.length xs.length hi - HT.sIx xs.length 0 lo), Heap.get?_push_size _ rfl⟩

noncomputable def flatV : V → Bool
  | .non => true
  | .bl _ => true
  | .int _ => true
  | .str _ => true
  | _ => false
noncomputable def eqV : V → V → Bool
  | .non, .non => true
  | .bl a, .bl b => a == b
  | .bl a, .int b => (if a then 1 else 0) == b
  | .int a, .bl b => a == (if b then 1 else 0)
  | .int a, .int b => a == b
  | .str a, .str b => a == b
  | _, _ => false
theorem eqAt_V {A : Around} {s : Shared} {y x : V} {u v : Value} (ry : RelV y u) (rx : RelV x v) (fy : flatV y = true) (fx : flatV x = true) : SeqAt.EqAt A s u v (eqV y x) := by
  cases y with
  | non =>
    cases ry
    cases x with
    | non => cases rx; exact SeqAt.EqAt.same _
    | bl b => cases rx; exact SeqAt.EqAt.none_bool b
    | int b => obtain ⟨t, rfl⟩ := rx; exact SeqAt.EqAt.none_int b t
    | str b => obtain ⟨t, rfl⟩ := rx; exact SeqAt.EqAt.none_str b t
    | _ => exact absurd (show false = true from fx) Bool.false_ne_true
  | bl a =>
    cases ry
    cases x with
    | non => cases rx; exact SeqAt.EqAt.bool_none a
    | bl b => cases rx; exact SeqAt.EqAt.bool_bool a b
    | int b => obtain ⟨t, rfl⟩ := rx; exact SeqAt.EqAt.bool_int a b t
    | str b => obtain ⟨t, rfl⟩ := rx; exact SeqAt.EqAt.bool_str a b t
    | _ => exact absurd (show false = true from fx) Bool.false_ne_true
  | int a =>
    obtain ⟨t', rfl⟩ := ry
    cases x with
    | non => cases rx; exact SeqAt.EqAt.int_none a t'
    | bl b => cases rx; exact SeqAt.EqAt.int_bool a t' b
    | int b => obtain ⟨t, rfl⟩ := rx; exact SeqAt.EqAt.int_int a t' b t
    | str b => obtain ⟨t, rfl⟩ := rx; exact SeqAt.EqAt.int_str a t' b t
    | _ => exact absurd (show false = true from fx) Bool.false_ne_true
  | str a =>
    obtain ⟨t', rfl⟩ := ry
    cases x with
    | non => cases rx; exact SeqAt.EqAt.str_none a t'
    | bl b => cases rx; exact SeqAt.EqAt.str_bool a t' b
    | int b => obtain ⟨t, rfl⟩ := rx; exact SeqAt.EqAt.str_int a t' b t
    | str b => obtain ⟨t, rfl⟩ := rx; exact SeqAt.EqAt.str_str a t' b t
    | _ => exact absurd (show false = true from fx) Bool.false_ne_true
  | _ => exact absurd (show false = true from fy) Bool.false_ne_true
noncomputable def eqU (x : V) (u : Value) : Bool := match u with
  | .none => eqV .non x
  | .bool b => eqV (.bl b) x
  | .int i _ => eqV (.int i) x
  | .str z _ => eqV (.str z) x
  | _ => false
theorem eqU_of {x y : V} {u : Value} (r : RelV y u) (f : flatV y = true) : eqU x u = eqV y x := by
  cases y with
  | non => cases r; rfl
  | bl b => cases r; rfl
  | int i => obtain ⟨t, rfl⟩ := r; rfl
  | str z => obtain ⟨t, rfl⟩ := r; rfl
  | _ => exact absurd (show false = true from f) Bool.false_ne_true
theorem any_eqU {x : V} : ∀ {xs : List V} {us : List Value}, Vals xs us → xs.all flatV = true → us.any (eqU x) = xs.any fun y => eqV y x
  | _, _, .nil, _ => rfl
  | y :: xs, u :: us, .cons r t, f => by
    rw [List.all_cons, Bool.and_eq_true] at f
    rw [List.any_cons, List.any_cons, eqU_of r f.1, any_eqU t f.2]
theorem mem_eqAt {A : Around} {s : Shared} {x : V} {v : Value} (rx : RelV x v) (fx : flatV x = true) : ∀ {xs : List V} {us : List Value}, Vals xs us → xs.all flatV = true → ∀ u ∈ us, SeqAt.EqAt A s u v (eqU x u)
  | _, _, .nil, _ => fun u hu => by cases hu
  | y :: xs, u :: us, .cons r t, f => fun u' hu => by
    rw [List.all_cons, Bool.and_eq_true] at f
    rcases List.mem_cons.mp hu with rfl | hu
    · rw [eqU_of r f.1]; exact eqAt_V r rx f.1 fx
    · exact mem_eqAt rx fx t f.2 u' hu
noncomputable def inV (x : V) (xs : List V) : Bool := xs.any fun y => eqV y x
noncomputable def rIn (K : PySem.W.Frag) (neg : Bool) : R2 := fun x y H Q => ∃ p xs, y = .ref p ∧ (SqL K H p xs ∨ SqT K H p xs) ∧ flatV x = true ∧ xs.all flatV = true ∧ Q (.bl (if neg then !inV x xs else inV x xs)) H
theorem op_in_seq : OpR X (compareOp .In) (rIn X.K false) := by
  intro pins s σ H x y v u Q I rx ry h
  obtain ⟨p, xs, rfl, hq, fx, fs, q⟩ := h
  cases ry
  rcases hq with hq | hq
  · obtain ⟨its, r, pl, hz⟩ := I.list hq
    refine SeqAt.in_listAt (eqU x) pl.isList (fun w hw => mem_eqAt rx fx r fs w (by simpa using hw)) ⟨.bl _, H, I, rfl, ?_⟩
    rw [show its.toArray.any (eqU x) = its.any (eqU x) by simp, any_eqU r fs]
    exact q
  · obtain ⟨its, r, pl, hz⟩ := I.tuple hq
    refine SeqAt.in_tupleAt (eqU x) pl (fun w hw => mem_eqAt rx fx r fs w (by simpa using hw)) ⟨.bl _, H, I, rfl, ?_⟩
    rw [show its.toArray.any (eqU x) = its.any (eqU x) by simp, any_eqU r fs]
    exact q
theorem op_notIn_seq : OpR X (compareOp .NotIn) (rIn X.K true) := by
  intro pins s σ H x y v u Q I rx ry h
  obtain ⟨p, xs, rfl, hq, fx, fs, q⟩ := h
  cases ry
  rcases hq with hq | hq
  · obtain ⟨its, r, pl, hz⟩ := I.list hq
    refine SeqAt.notIn_listAt (eqU x) pl.isList (fun w hw => mem_eqAt rx fx r fs w (by simpa using hw)) ⟨.bl _, H, I, rfl, ?_⟩
    rw [show its.toArray.any (eqU x) = its.any (eqU x) by simp, any_eqU r fs]
    exact q
  · obtain ⟨its, r, pl, hz⟩ := I.tuple hq
    refine SeqAt.notIn_tupleAt (eqU x) pl (fun w hw => mem_eqAt rx fx r fs w (by simpa using hw)) ⟨.bl _, H, I, rfl, ?_⟩
    rw [show its.toArray.any (eqU x) = its.any (eqU x) by simp, any_eqU r fs]
    exact q
theorem call_len_seq : CallR X (.builtin "len") (fun xs H Q => ∃ p ys, xs = [.ref p] ∧ (SqL X.K H p ys ∨ SqT X.K H p ys) ∧ Q (.int ys.length) H) := by
  intro pins s σ H xs us Q I r h
  obtain ⟨p, ys, rfl, hq, q⟩ := h
  obtain ⟨u, rfl, rx⟩ := vals1 r
  cases rx
  have hn := line63
  rcases hq with hq | hq
  · obtain ⟨its, r', pl, hz⟩ := I.list hq
    have hlen := r'.length
    exact Calls.call_len_list pl.isList (by simp only [List.size_toArray] <;> omega) ⟨.int ys.length, H, I.tok _, ⟨s.toks + 1, by rw [List.size_toArray, hlen]⟩, q⟩
  · obtain ⟨its, r', pl, hz⟩ := I.tuple hq
    have hlen := r'.length
    exact len_tuple pl (by simp only [List.size_toArray] <;> omega) ⟨.int ys.length, H, I.tok _, ⟨s.toks + 1, by rw [List.size_toArray, hlen]⟩, q⟩
theorem CallR.or {f : Value} {r r' : List V → Hp → VK → Prop} (h : CallR X f r) (h' : CallR X f r') : CallR X f (fun xs H Q => r xs H Q ∨ r' xs H Q) := by
  intro pins s σ H xs us Q I rs q
  rcases q with q | q
  · exact h pins s σ H xs us Q I rs q
  · exact h' pins s σ H xs us Q I rs q
theorem call_list_of : CallR X (.type "list") (fun xs H Q => ∃ p ys, xs = [.ref p] ∧ (SqL X.K H p ys ∨ SqT X.K H p ys) ∧ ∀ l, H l = none → Q (.ref l) (upd H l (.lst ys))) := by
  intro pins s σ H xs us Q I r h
  obtain ⟨p, ys, rfl, hq, q⟩ := h
  obtain ⟨u, rfl, rx⟩ := vals1 r
  cases rx
  have fin : ∀ (its : List Value), Vals ys its → ys.length ≤ sizeLine → ∀ (h' : Heap) (c' : Nat), (∀ b o', s.heap.get? b = some o' → h'.get? b = some o') →
      h'.get? s.heap.objs.size = some { cls := .type "list", dict := none, data := .seq its.toArray c', slots := #[] } → EP X pins σ Q (.ref s.heap.objs.size) { s with heap := h' } := fun its r' hz h' c' kp e =>
    ⟨.ref s.heap.objs.size, _, I.laid (t' := s.toks) kp (Nat.le_refl _) (show ObjOk X.prog X.w _ h' _ (.lst ys) from ⟨hz, its, c', r', e⟩), rfl, q _ (I.hok.fresh (Nat.le_refl _))⟩
  rcases hq with hq | hq
  · obtain ⟨its, r', pl, hz⟩ := I.list hq
    have hlen := r'.length
    obtain ⟨o, ho, hc, n, hd⟩ := pl.isList
    exact call_list_seq p (.inl rfl) ho hc hd (fun h' c' kp e => fin its r' hz h' c' kp e) (by simp only [List.size_toArray] <;> omega)
  · obtain ⟨its, r', pl, hz⟩ := I.tuple hq
    have hlen := r'.length
    obtain ⟨o, ho, hc, n, hd⟩ := pl
    exact call_list_seq p (.inr rfl) ho hc hd (fun h' c' kp e => fin its r' hz h' c' kp e) (by simp only [List.size_toArray] <;> omega)
noncomputable def tyV (K : PySem.W.Frag) (T : String) (x : V) (H : Hp) : Prop := match x with
  | .str _ => T = "str"
  | .int _ => T = "int"
  | .ref p => (T = "list" ∧ ∃ xs, SqL K H p xs) ∨ (T = "tuple" ∧ ∃ o, K.lookup p = some o ∧ o.cls = .type "tuple" ∧ o.dict = none) ∨
      (T = "dict" ∧ ((∃ kvs, H p = some (.dK kvs)) ∨ ∃ kvs, H p = some (.dT kvs))) ∨ (T = "set" ∧ ∃ S n, H p = some (.set S n))
  | _ => False
theorem tyV_is {pins : List (Addr × Obj)} {σ : St} {H : Hp} {s : Shared} {T : String} {x : V} {v : Value} (I : Inv X pins σ H s) (r : RelV x v) (ty : tyV X.K T x H) :
    s.TypeIs v T ∧ ∀ a, v = .ref a → ∃ ob, s.heap.get? a = some ob ∧ ob.dict = none := by
  cases x with
  | str z =>
    obtain ⟨t, rfl⟩ := r
    cases (show T = "str" from ty)
    exact ⟨typeIs_str s z t, fun _ e => nomatch e⟩
  | int i =>
    obtain ⟨t, rfl⟩ := r
    cases (show T = "int" from ty)
    exact ⟨typeIs_int s i t, fun _ e => nomatch e⟩
  | ref p =>
    cases r
    rcases ty with ⟨rfl, xs, hq⟩ | ⟨rfl, o, hk, hc, hd⟩ | ⟨rfl, hk⟩ | ⟨rfl, S, n, hk⟩
    · obtain ⟨its, _, pl, _⟩ := I.list hq
      refine ⟨pl.isList.typeIs, fun a e => ?_⟩
      cases e
      obtain ⟨o, n, e, c, hd, _⟩ := pl
      exact ⟨o, e, hd⟩
    · refine ⟨⟨o, I.kIn p o hk, hc⟩, fun a e => ?_⟩
      cases e
      exact ⟨o, I.kIn _ o hk, hd⟩
    · have z : ∃ o, s.heap.get? p = some o ∧ o.ExactDict := by
        rcases hk with ⟨kvs, hk⟩ | ⟨kvs, hk⟩
        · obtain ⟨_, _, _, _, o, _, _, e, ex, _⟩ := I.hok p _ hk
          exact ⟨o, e, ex⟩
        · obtain ⟨_, _, _, _, o, _, _, e, ex, _⟩ := I.hok p _ hk
          exact ⟨o, e, ex⟩
      obtain ⟨o, e, ex⟩ := z
      refine ⟨⟨o, e, ex.1⟩, fun a e2 => ?_⟩
      cases e2
      exact ⟨o, e, ex.2.1⟩
    · obtain ⟨o, _, _, _, e, ex, _⟩ := I.hok p _ hk
      refine ⟨⟨o, e, ex.1⟩, fun a e2 => ?_⟩
      cases e2
      exact ⟨o, e, ex.2.1⟩
  | _ => exact False.elim ty
noncomputable def tBM0 (K : PySem.W.Frag) (T : String) (r : V → List V → Hp → VK → Prop) (to : TE) : TE := fun σ H Q => to σ H fun x H1 => tyV K T x H1 ∧ r x [] H1 Q
noncomputable def tBM (K : PySem.W.Frag) (T : String) (r : V → List V → Hp → VK → Prop) (to : TE) (t : TA) : TE := fun σ H Q => to σ H fun x H1 => tyV K T x H1 ∧ t σ H1 fun xs H2 => r x xs H2 Q
variable {o e : Expr} {es : List Expr} {to : TE} {t : TA} {name : Str} {apos cpos : Pos} {T id : String} {r : V → List V → Hp → VK → Prop}
theorem pe_bm (pa : PlainAttrs T) (slot : Slot T name id) (hty : typeOf (.builtin id) = pure (.type "method_descriptor")) (hm : MtR X id r) (ho : PE X o to) (ha : PA X (e :: es) t)
    (hbase : attributeBase o name X.env (eval o X.env) = eval o X.env := by rfl)
    (hfew : ((backTo cpos (starEach (e :: es) X.env)).all (fun x => !x.1) && (backToKw cpos (keywordEach [] X.env)).all (fun x => x.1.isSome)
      && decide ((e :: es).length + ([] : List Keyword).length + (if ([] : List Keyword).isEmpty then 0 else 1) < 30)) = true := by rfl)
    (hline : (apos.endLine == cpos.line) = true := by rfl) (hs : starEach (e :: es) X.env = (false, eval e X.env) :: starEach es X.env := by rfl) (hplain : (backTo cpos (starEach es X.env)).any (·.1) = false := by rfl) :
    PE X (.Call (.Attribute o name apos) (e :: es) [] cpos) (tBM X.K T r to t) := by
  intro pins s σ H Q I h
  refine wpAny_Call_method_late hbase hfew hline rfl (thn (ho pins s σ H _ I h) fun v s1 ⟨x, H1, I1, r1, ty, q1⟩ => ?_)
  obtain ⟨h1, h2⟩ := tyV_is I1 r1 ty
  refine ⟨T, id, pa, slot, hty, h1, h2, ?_⟩
  have hA := ha cpos pins s1 σ H1 _ I1 q1
  rw [hs] at hA ⊢
  refine Calls.callWith_builtin (by show (false || (backTo cpos (starEach es X.env)).any (·.1)) = false; rw [hplain] <;> rfl) (Calls.evalArgs_plain ?_)
  exact thn hA fun us s2 ⟨vs, H2, I2, r2, q2⟩ => hm pins s2 σ H2 x vs v us Q I2 r1 r2 q2
end
end L2

namespace L2
open PySem PySem.Spec PyProof.Rows

noncomputable def MtM (X : Cx) (id : String) (r : V → List V → Hp → VK → Prop) : Prop :=
  ∀ (pins : List (Addr × Obj)) (s : Shared) (σ : St) (H : Hp) (x : V) (xs : List V) (v : Value) (us : List Value) (Q : VK), Inv X pins σ H s → RelV x v → Vals xs us → r x xs H Q →
    wpAny (model X.prog X.w) X.A (call (.builtin id) (v :: us)) (EP X pins σ Q) X.xe s

theorem Vals.one : ∀ {x : V} {us : List Value}, Vals [x] us → ∃ u, us = [u] ∧ RelV x u
  | _, _, .cons r .nil => ⟨_, rfl, r⟩
theorem Vals.zero : ∀ {us : List Value}, Vals [] us → us = []
  | _, .nil => rfl
theorem Vals.dropLast {xs : List V} {us : List Value} (h : Vals xs us) : Vals xs.dropLast us.dropLast := by
  induction h with
  | nil => exact .nil
  | cons r t ih =>
    cases t with
    | nil => exact .nil
    | cons q t' => exact .cons r ih
theorem Vals.eraseIdx : ∀ {xs : List V} {us : List Value} (i : Nat), Vals xs us → Vals (xs.eraseIdx i) (us.eraseIdx i)
  | _, _, _, .nil => .nil
  | _, _, 0, .cons _ t => t
  | _, _, i + 1, .cons r t => .cons r (Vals.eraseIdx i t)
theorem Vals.reverse {xs : List V} {us : List Value} (h : Vals xs us) : Vals xs.reverse us.reverse := by
  induction h with
  | nil => exact .nil
  | cons r t ih => rw [List.reverse_cons, List.reverse_cons]; exact Vals.append ih (.cons r .nil)
section
variable {X : Cx} {pins : List (Addr × Obj)} {σ : St} {H : Hp} {s : Shared} {l b : Addr} {xs ys zs : List V}

theorem Inv.lset {its its' : List Value} {n : Nat} {f : Array Value → Array Value} {t' : Nat} (I : Inv X pins σ H s) (hH : H l = some (.lst xs))
    (e : s.heap.get? l = some { cls := .type "list", data := .seq its.toArray n }) (hf : f its.toArray = its'.toArray) (hv : Vals ys its') (hz : ys.length ≤ sizeLine) :
    Inv X pins σ (upd H l (.lst ys)) { s with heap := s.heap.update l (Obj.mapSeq f), toks := t' } := by
  have q := PySem.IsL.update e f
  rw [hf] at q
  refine I.write (x := l) (e := l) (by rw [hH]; exact trivial) (.inl rfl) (fun b' u hb hu => (Heap.get?_update_other s.heap (Obj.mapSeq f) (Ne.symm hb)).trans hu) ⟨_, q⟩ ?_
  exact ⟨hz, its', _, hv, q⟩
theorem Inv.lnew {its : List Value} {t' : Nat} (I : Inv X pins σ H s) (hv : Vals ys its) (hz : ys.length ≤ sizeLine) :
    Inv X pins σ (upd H s.heap.objs.size (.lst ys)) { s with heap := s.heap.push { cls := .type "list", data := .seq its.toArray }, toks := t' } :=
  I.laid (fun _ _ q => Heap.get?_push_of_some _ q) (Nat.le_refl _) ⟨hz, its, 0, hv, Heap.get?_push_size _ rfl⟩
theorem Inv.fresh (I : Inv X pins σ H s) : H s.heap.objs.size = none := I.hok.fresh (Nat.le_refl _)
theorem Inv.lstM (I : Inv X pins σ H s) (hH : H l = some (.lst xs)) : xs.length ≤ sizeLine ∧ ∃ (its : List Value) (n : Nat), Vals xs its ∧ xs.length = its.length ∧ s.heap.get? l = some { cls := .type "list", data := .seq its.toArray n } := by
  obtain ⟨z, its, n, r, e⟩ := I.hok l _ hH
  exact ⟨z, its, n, r, r.length, e⟩

end

section
variable {X : Cx}

noncomputable def rAppend : V → List V → Hp → VK → Prop := fun x vs H Q => ∃ l xs y, x = .ref l ∧ vs = [y] ∧ H l = some (.lst xs) ∧ xs.length < sizeLine ∧ Q .non (upd H l (.lst (xs ++ [y])))
theorem mt_append : MtM X "list.append" rAppend := by
  intro pins s σ H x vs v us Q I rx rv h
  obtain ⟨l, xs, y, rfl, rfl, hH, hz, q⟩ := h
  cases rx
  obtain ⟨u, rfl, ru⟩ := rv.one
  obtain ⟨z, its, n, r, hl, e⟩ := I.lstM hH
  refine call_meets F.slot_list_append ⟨_, e, rfl⟩ F.entry_list_append (F.args_list_append_2 _ _) (PySem.list_append l its.toArray n u (by rw [List.size_toArray]; omega)) ⟨e, ?_⟩
  refine ⟨.non, _, I.lset (its' := its ++ [u]) hH e (by simp) (r.append (.cons ru .nil)) ?_, rfl, q⟩
  rw [List.length_append, List.length_singleton]
  omega

noncomputable def rCat : R2 := fun x y H Q => ∃ l b xs zs, x = .ref l ∧ y = .ref b ∧ H l = some (.lst xs) ∧ H b = some (.lst zs) ∧ xs.length + zs.length ≤ sizeLine ∧ ∀ p, H p = none → Q (.ref p) (upd H p (.lst (xs ++ zs)))
theorem op_cat : OpR X (binaryOp .Add) rCat := by
  intro pins s σ H x y v u Q I rx ry h
  obtain ⟨l, b, xs, zs, rfl, rfl, hH, hB, hz, q⟩ := h
  cases rx
  cases ry
  obtain ⟨z, its, n, r, hl, e⟩ := I.lstM hH
  obtain ⟨z2, its2, n2, r2, hl2, e2⟩ := I.lstM hB
  refine PySem.P.add_list e e2 ?_ (by rw [List.size_toArray, List.size_toArray]; omega)
  have ea : its.toArray ++ its2.toArray = (its ++ its2).toArray := by simp
  rw [ea]
  exact ⟨.ref _, _, I.lnew (t' := s.toks) (r.append r2) (by rw [List.length_append]; omega), rfl, q _ I.fresh⟩
end

section
variable {prog : Program} {w : World} {A : Around} {E : Value → Shared → Prop} {s : Shared}
end

section
variable {X : Cx}
end
end L2

namespace Att
open PySem PySem.W PySem.Calls PyProof.Rows

theorem ints_of_wellAll {P : Params} {h : Heap} : ∀ (ns : List Int) (vs : List Value), WellAll P h vs (ns.map WData.int) → IntsAre vs ns := by
  intro ns
  induction ns with
  | nil =>
    intro vs w
    rw [List.map_nil] at w
    cases w
    exact .nil
  | cons n ns ih =>
    intro vs w
    rw [List.map_cons] at w
    cases w with
    | cons a b =>
      cases a
      exact .cons _ _ (ih _ b)

theorem script_of {l : OpenLaw} {n : Nat} (hn : l.most = some n) {P : Params} {h : Heap} {args : List WData} {vals : List Value}
    (hpre : l.row.toRowW.claim.pre args = true) (hwl : WellAll P h vals args) :
    ∃ a vs ns, vals = [Value.ref a] ∧ args = [WData.list (ns.map WData.int)] ∧ h.get? a = some { cls := .type "list", data := .seq vs.toArray } ∧ IntsAre vs ns ∧ ns.length ≤ n := by
  have hsh : WShape.hasAll [] args [.list .int] = true := (pre_splitW hpre).1
  have hc : l.pre.holds [] { args := args } = true := (pre_splitW hpre).2
  obtain ⟨d, r, rfl, h1, h2⟩ := hasAllW_cons hsh
  obtain rfl := hasAllW_nil h2
  obtain ⟨xs, rfl, h3⟩ := hasW_list h1
  obtain ⟨ns, rfl⟩ := items_int h3
  have hlen : ns.length ≤ n := by
    unfold OpenLaw.pre at hc
    have h4 : (WTm.not (.lt (.lit (.int (n : Int))) (.len (.arg 0)))).holds [] { args := [.list (ns.map .int)] } = true := by
      have h4 := (holds_andW hc).1
      rw [hn] at h4
      exact h4
    have h5 := condW_of h4 (w_not (w_lt w_lit (w_len_list (w_arg rfl))))
    rw [List.length_map] at h5
    refine Nat.le_of_not_lt fun q => ?_
    have q' : (n : Int) < ((ns.length : Nat) : Int) := by omega
    first
      | (rw [decide_eq_true q'] at h5; exact absurd h5 (by decide))
      | (simp at h5; omega)
  cases hwl with
  | cons w1 w2 =>
    cases w2
    cases w1 with
    | list ho hall => exact ⟨_, _, ns, rfl, rfl, ho, ints_of_wellAll ns _ hall, hlen⟩

theorem post_true (l : OpenLaw) (args : List WData) : l.row.toRowW.claim.post args (.bool true) args = true :=
  postW_of (r := l.row.toRowW) (X := (true == true))
    (show WShape.has [] (.bool true) .bool = true by first | rfl | decide | simp [WShape.has, WShape.arms, WShape.armsAll])
    (show (WTm.eq .res (.lit (.bool true))).value [] { args := args, res := some (.bool true), after := args } = some (.bool (true == true)) from w_eq_bool (w_res rfl) w_lit) rfl

theorem attach_call {l : OpenLaw} {n : Nat} {q : Program} {loose : List Str} {XP : (Str → Option Value) → Heap → Prop} {YP : World → Heap → Prop} {d : DefRec}
    (hn : l.most = some n) (hdf : d.params.defaults = [])
    (call : ∀ (w : World) (s₀ s₁ : Shared) (mg mb : Str → Option Value) (fa : Addr) (o : Obj) (pm cd doc : Value) (a : Addr) (vs : List Value) (ns : List Int),
      Ground q loose [] XP w s₀ mg mb s₁.heap → YP w s₁.heap →
      s₁.heap.get? fa = some o → o.data = .func (docDef d.name d.params d.body d.scope pm cd doc) → s₁.heap.CodeRec cd d.name → mg d.name = some (.ref fa) →
      s₁.heap.get? a = some { cls := .type "list", data := .seq vs.toArray } → IntsAre vs ns → ns.length ≤ n → s₁.gens = #[] →
      codeAny (model l.prog w) callerA (.call (.ref fa) ⟨[.ref a], []⟩) (fun r s' => r = .ok (.ret (.bool true)) ∧ OldK s₁.heap s'.heap ∧ s'.os = s₁.os ∧ AllBare s'.gens) s₁) :
    WalkO q loose XP YP l.row.toRowW d [] (fun f vs => PySem.call f vs) := by
  intro w s₀ s₁ mg mb G Y fa o pm cd doc dV kV ho hd hcd hD hmg hg args vals as hpre hlay hrd hwl hlo
  obtain rfl : dV = .none := Dflts.none hD hdf
  obtain rfl : kV = .none := Dflts.noKw hD
  obtain ⟨a, vs, ns, rfl, rfl, hobj, hints, hlen⟩ := script_of hn hpre hwl
  refine enter_call (codeAny_mono (call w s₀ s₁ mg mb fa o pm cd doc a vs ns G Y ho (fd_plain hd) hcd hmg hobj hints hlen hg) fun r s' hq => ?_)
  obtain ⟨rfl, h2, h3, h4⟩ := hq
  exact ⟨.inl ⟨.bool true, .bool true, [], rfl, fun _ => rfl, .bool true, post_true l _, fun _ => ⟨List.Pairwise.nil, fun _ hm => (nomatch hm)⟩⟩, h2, h3, h4⟩

section
variable {prog : Program} {w : World} {A : Around} {E : Value → Shared → Prop} {s : Shared} {K : Frag}

end
end Att

namespace L2
open PySem PySem.Spec PyProof.Rows

theorem vals_ints : ∀ {vs : List Value} {ns : List Int}, IntsAre vs ns → Vals (ns.map V.int) vs
  | _, _, .nil => .nil
  | _, _, .cons n t h => .cons ⟨t, rfl⟩ (vals_ints h)

end L2

namespace L2
open PySem PySem.Spec PyProof.Rows

end L2

namespace L2
open PySem PySem.Spec PyProof.Rows

noncomputable def defArgs (s : Stmt) : Arguments := match s with
  | .FunctionDef _ a _ _ _ _ _ _ _ _ => a
  | _ => { posonlyargs := [], args := [], vararg := none, kwonlyargs := [], kw_defaults := [], kwarg := none, defaults := [] }
noncomputable def defBody (s : Stmt) : List Stmt := match s with
  | .FunctionDef _ _ b _ _ _ _ _ _ _ => b
  | _ => []
noncomputable def defScope (s : Stmt) : Scope := match s with
  | .FunctionDef _ _ _ _ _ _ sc _ _ _ => sc
  | _ => { kind := .function, names := [], isGenerator := false, isCoroutine := false }

noncomputable abbrev CX0 : CXT := fun _ _ _ _ _ _ => False
noncomputable abbrev E0 : XK := fun _ _ _ => False
theorem pass0 {X : Cx} : Passes CX0 X E0 := fun _ _ _ _ _ _ _ h => h.elim

structure Fun (K : PySem.W.Frag) (x qual : Str) (st : Stmt) (f : Addr) (fd : FuncData) : Prop where
  ex : ∃ (oc : Value) (od : Option Addr) (kV doc pm : Value) (an : Option Addr) (cdv ct : Value) (osl : Array (Option Value)),
    fd = PySem.W.fnOf x qual (defArgs st) (defBody st) (defScope st) .none kV doc pm an cdv ct ∧ K.lookup f = some ⟨oc, od, .func fd, osl⟩ ∧ PySem.W.codeIn K cdv qual = true
  kp : PySem.W.keepIn K (.ref f) = true
section
variable {P : Program} {w : World} {K : PySem.W.Frag} {mg : Str → Option Value} {base : Heap}
theorem Fun.ok {x qual : Str} {st : Stmt} {f : Addr} {fd : FuncData} {N ps : List Str} {k : Nat} {sp : Sp} (F : Fun K x qual st f fd) (S : FnScope N ps (defScope st)) (len : ∀ vs H Q E, sp vs H Q E → vs.length = ps.length)
    (hbody : ∀ (cdv : Value) (A : Around) (outer : List Env) (s : Shared) (H : Hp) (vs : List V) (Q : VK) (E : XK), Room k (A.deeper (envOfC qual (defScope st) s.heap.objs.size f cdv)) → sp vs H Q E →
      ∃ t, PSs (cxOf CX0 P w K mg base N qual (defScope st) f cdv A outer s H E).nox (defBody st) t ∧ t { nx := fun _ H' => Q .non H', rt := Q } (start N vs) H) : FnOk P w K mg base CX0 (k + 1) f fd ps sp := by
  obtain ⟨oc, od, kV, doc, pm, an, cdv, ct, osl, rfl, lk, hcd⟩ := F.ex
  refine fn_of lk hcd S len fun A outer s H vs Q E hr hsp => ?_
  obtain ⟨t, h, q⟩ := hbody cdv A outer s H vs Q E hr hsp
  exact ⟨t, h.nox, q⟩
theorem Fun.binds {x qual : Str} {st : Stmt} {f : Addr} {fd : FuncData} {ps : List Str} (F : Fun K x qual st f fd)
    (h : ∀ (kV doc pm : Value) (an : Option Addr) (cdv ct : Value) (us : List Value), us.length = ps.length → bindArgs (PySem.W.fnOf x qual (defArgs st) (defBody st) (defScope st) .none kV doc pm an cdv ct) ⟨us, []⟩ = pure (ps.zip us)) : Binds K fd ps [] := by
  obtain ⟨oc, od, kV, doc, pm, an, cdv, ct, osl, rfl, lk, hcd⟩ := F.ex
  exact .all (h kV doc pm an cdv ct)
theorem fun_mk {x qual : Str} {st : Stmt} {f : Addr} {oc : Value} {od an : Option Addr} {osl : Array (Option Value)} {kV doc pm cdv ct : Value} (l : K.lookup f = some ⟨oc, od, .func (PySem.W.fnOf x qual (defArgs st) (defBody st) (defScope st) .none kV doc pm an cdv ct), osl⟩)
    (c : PySem.W.codeIn K cdv qual = true) (k : PySem.W.keepIn K (.ref f) = true) : Fun K x qual st f (PySem.W.fnOf x qual (defArgs st) (defBody st) (defScope st) .none kV doc pm an cdv ct) := ⟨⟨oc, od, kV, doc, pm, an, cdv, ct, osl, rfl, l, c⟩, k⟩
end
theorem hu_of {A : Around} {k : Nat} (hr : Room k A) : A.units + 1 < cLine := Nat.lt_of_le_of_lt (Nat.add_le_add_left (by decide : 1 ≤ 64) _) hr.units
section
variable {X : Cx}
theorem pv (i : Nat) {x : Str} {pos : Pos} (hN : X.N[i]? = some x := by rfl) (hv : Vis X.env.scope x := by first | exact Or.inl rfl | exact Or.inr (Or.inl rfl) | exact Or.inr (Or.inr rfl)) (hd : (x == ("__debug__" : Str)) = false := by decide)
    (hcd : (x == ("__classdict__" : Str)) = false := by decide) : PE X (.Name x pos) (tVar i) := pe_var hN hv hd hcd
end

noncomputable def Same (H H' : Hp) : Prop := ∀ b o, H b = some o → H' b = some o
theorem Same.refl (H : Hp) : Same H H := fun _ _ h => h
theorem Same.trans {H H1 H2 : Hp} (a : Same H H1) (b : Same H1 H2) : Same H H2 := fun c o h => b c o (a c o h)
theorem Same.free {H H' : Hp} (e : Same H H') {l : Addr} (h : H' l = Option.none) : H l = Option.none := by
  cases q : H l with
  | none => rfl
  | some o =>
    rw [e l o q] at h
    cases h
theorem Same.seq {K : PySem.W.Frag} {H H' : Hp} {a : Addr} {xs : List V} (e : Same H H') (h : SqL K H a xs) : SqL K H' a xs := by
  rcases h with (h | ⟨o, h⟩) | h
  · exact .inl (.inl (e _ _ h))
  · exact .inl (.inr ⟨o, e _ _ h⟩)
  · exact .inr h

end L2

set_option Elab.async false
set_option linter.all false
set_option maxRecDepth 100000
namespace L2
open PySem PySem.Spec PyProof.Rows

section
variable {κ : Type} [DecidableEq κ]
noncomputable def valV (kvs : List (κ × V)) (k : κ) : Option V := (kvs.find? fun kv => decide (kv.1 = k)).map (·.2)
noncomputable def putK (kvs : List (κ × V)) (k : κ) (v : V) : List (κ × V) :=
  if (kvs.any fun kv => decide (kv.1 = k)) = true then kvs.map (fun kv => if kv.1 = k then (kv.1, v) else kv) else kvs ++ [(k, v)]
noncomputable def dropK (kvs : List (κ × V)) (k : κ) : List (κ × V) := kvs.filter fun kv => decide (kv.1 ≠ k)

theorem valV_pos {p : κ × V} {r : List (κ × V)} {k : κ} (e : p.1 = k) : valV (p :: r) k = some p.2 := by simp [valV, List.find?_cons, e]
theorem valV_neg {p : κ × V} {r : List (κ × V)} {k : κ} (e : ¬ p.1 = k) : valV (p :: r) k = valV r k := by simp [valV, List.find?_cons, e]
theorem valV_any (k : κ) : ∀ kvs : List (κ × V), (kvs.any fun kv => decide (kv.1 = k)) = (valV kvs k).isSome
  | [] => rfl
  | p :: r => by
    rw [List.any_cons]
    by_cases e : p.1 = k
    · simp only [valV_pos e, decide_eq_true e, Bool.true_or, Option.isSome_some]
    · rw [valV_neg e, decide_eq_false e, Bool.false_or]; exact valV_any k r
theorem valV_map (k j : κ) (y : V) : ∀ kvs : List (κ × V), valV (kvs.map fun kv => if kv.1 = k then (kv.1, y) else kv) j = (valV kvs j).map fun x => if j = k then y else x
  | [] => rfl
  | p :: r => by
    have ih := valV_map k j y r
    rw [List.map_cons]
    by_cases h : p.1 = k
    · rw [if_pos h]
      by_cases e : p.1 = j
      · rw [valV_pos (p := (p.1, y)) e, valV_pos e, Option.map_some, if_pos (e.symm.trans h)]
      · rw [valV_neg (p := (p.1, y)) e, valV_neg e, ih]
    · rw [if_neg h]
      by_cases e : p.1 = j
      · rw [valV_pos (p := p) e, valV_pos e, Option.map_some, if_neg (fun z => h (e.trans z))]
      · rw [valV_neg (p := p) e, valV_neg e, ih]
theorem valV_snoc (k j : κ) (y : V) : ∀ kvs : List (κ × V), valV kvs k = none → valV (kvs ++ [(k, y)]) j = if j = k then some y else valV kvs j
  | [], _ => by
    by_cases e : k = j
    · rw [if_pos e.symm]; exact valV_pos (p := (k, y)) e
    · rw [if_neg (fun z => e z.symm)]; exact valV_neg (p := (k, y)) e
  | p :: r, hn => by
    rw [List.cons_append]
    have hk : ¬ p.1 = k := fun z => by rw [valV_pos z] at hn; cases hn
    rw [valV_neg hk] at hn
    have ih := valV_snoc k j y r hn
    by_cases e : p.1 = j
    · rw [valV_pos e, valV_pos e, if_neg (fun z => hk (e.trans z))]
    · rw [valV_neg e, valV_neg e, ih]
theorem valV_put (kvs : List (κ × V)) (k j : κ) (y : V) : valV (putK kvs k y) j = if j = k then some y else valV kvs j := by
  unfold putK
  by_cases a : (kvs.any fun kv => decide (kv.1 = k)) = true
  · rw [if_pos a, valV_map]
    rw [valV_any] at a
    by_cases e : j = k
    · obtain ⟨x, hx⟩ := Option.isSome_iff_exists.mp a
      rw [if_pos e, e, hx, Option.map_some, if_pos rfl]
    · rw [if_neg e]
      cases valV kvs j with
      | none => rfl
      | some x => rw [Option.map_some, if_neg e]
  · rw [if_neg a]
    refine valV_snoc k j y kvs ?_
    rw [valV_any] at a
    cases q : valV kvs k with
    | none => rfl
    | some x => rw [q] at a; exact (a rfl).elim
theorem length_putK (kvs : List (κ × V)) (k : κ) (v : V) : (putK kvs k v).length ≤ kvs.length + 1 := by
  unfold putK
  split
  · rw [List.length_map]; omega
  · rw [List.length_append, List.length_cons, List.length_nil]; omega
theorem putK_new {kvs : List (κ × V)} {k : κ} (v : V) (h : valV kvs k = none) : putK kvs k v = kvs ++ [(k, v)] := by
  unfold putK
  rw [valV_any, h]
  exact if_neg (by decide)

theorem RelO.isSome_eq {o : Option V} {u : Option Value} (r : RelO o u) : o.isSome = u.isSome := by
  cases o with
  | none => cases u with
    | none => rfl
    | some _ => exact (show False from r).elim
  | some _ => cases u with
    | none => exact (show False from r).elim
    | some _ => rfl
theorem RelO.getD {o : Option V} {u : Option Value} {d : V} {d' : Value} (r : RelO o u) (rd : RelV d d') : RelV (o.getD d) (u.getD d') := by
  cases o with
  | none => cases u with
    | none => exact rd
    | some _ => exact (show False from r).elim
  | some _ => cases u with
    | none => exact (show False from r).elim
    | some _ => exact r

theorem KV.val {kvs : List (κ × V)} {vs : List (κ × Value)} (r : KV kvs vs) (k : κ) : RelO (valV kvs k) (valueAt vs k) := by
  unfold KV at r
  induction r with
  | nil => exact True.intro
  | @cons p q ps qs h t ih =>
    obtain ⟨h1, h2⟩ := h
    by_cases e : p.1 = k
    · have e' : q.1 = k := h1.symm.trans e
      have b : valueAt (q :: qs) k = some q.2 := by simp [valueAt, List.find?_cons, e']
      rw [valV_pos e, b]; exact h2
    · have e' : ¬ q.1 = k := fun z => e (h1.trans z)
      have b : valueAt (q :: qs) k = valueAt qs k := by simp [valueAt, List.find?_cons, e']
      rw [valV_neg e, b]; exact ih
theorem KV.any {kvs : List (κ × V)} {vs : List (κ × Value)} (r : KV kvs vs) (k : κ) : (kvs.any fun kv => decide (kv.1 = k)) = vs.any fun kv => decide (kv.1 = k) := by
  unfold KV at r
  induction r with
  | nil => rfl
  | cons h t ih => rw [List.any_cons, List.any_cons, ih, h.1]
theorem KV.repl {kvs : List (κ × V)} {vs : List (κ × Value)} (r : KV kvs vs) (k : κ) {y : V} {u : Value} (ry : RelV y u) :
    KV (kvs.map fun kv => if kv.1 = k then (kv.1, y) else kv) (vs.map fun kv => if kv.1 = k then (kv.1, u) else kv) := by
  unfold KV at r ⊢
  induction r with
  | nil => exact .nil
  | @cons p q ps qs h t ih =>
    rw [List.map_cons, List.map_cons]
    refine .cons ?_ ih
    obtain ⟨h1, h2⟩ := h
    by_cases e : p.1 = k
    · rw [if_pos e, if_pos (h1.symm.trans e)]; exact ⟨h1, ry⟩
    · rw [if_neg e, if_neg (fun z => e (h1.trans z))]; exact ⟨h1, h2⟩
theorem KV.put {kvs : List (κ × V)} {vs : List (κ × Value)} (r : KV kvs vs) (k : κ) {y : V} {u : Value} (ry : RelV y u) : KV (putK kvs k y) (stored vs k u) := by
  unfold putK stored
  rw [r.any k]
  by_cases e : (vs.any fun kv => decide (kv.1 = k)) = true
  · rw [if_pos e, if_pos e]; exact r.repl k ry
  · rw [if_neg e, if_neg e]; exact Paired.snoc r ⟨rfl, ry⟩
theorem KV.drop {kvs : List (κ × V)} {vs : List (κ × Value)} (r : KV kvs vs) (k : κ) : KV (dropK kvs k) (without vs k) := by
  unfold KV at r ⊢
  unfold dropK without
  induction r with
  | nil => exact .nil
  | @cons p q ps qs h t ih =>
    obtain ⟨h1, h2⟩ := h
    rw [List.filter_cons, List.filter_cons]
    by_cases e : p.1 = k
    · have a : ¬ decide (p.1 ≠ k) = true := by simp [e]
      have b : ¬ decide (q.1 ≠ k) = true := by simp [h1.symm.trans e]
      rw [if_neg a, if_neg b]; exact ih
    · have e' : ¬ q.1 = k := fun z => e (h1.trans z)
      have a : decide (p.1 ≠ k) = true := by simp [e]
      have b : decide (q.1 ≠ k) = true := by simp [e']
      rw [if_pos a, if_pos b]; exact .cons ⟨h1, h2⟩ ih
theorem KV.keys {kvs : List (κ × V)} {vs : List (κ × Value)} (r : KV kvs vs) : kvs.map (·.1) = vs.map (·.1) := by
  unfold KV at r
  induction r with
  | nil => rfl
  | cons h t ih => rw [List.map_cons, List.map_cons, ih, h.1]
theorem KV.length {kvs : List (κ × V)} {vs : List (κ × Value)} (r : KV kvs vs) : kvs.length = vs.length := Paired.length r
end


theorem kV_is {P : Program} {w : World} {k : Key} {u : Value} (r : RelV (kV k) u) : (mixKind P w).is k u = true := by
  cases k with
  | inl i => obtain ⟨t, e⟩ := (show ∃ t, u = Value.int i t from r); subst e; exact mixKind_int P w i t
  | inr x => obtain ⟨t, e⟩ := (show ∃ t, u = Value.str x t from r); subst e; exact mixKind_str P w x t
theorem items_are {P : Program} {w : World} : ∀ {ks : List Key} {us : List Value}, Vals (ks.map kV) us → ItemsAre (mixKind P w) ks us
  | [], _, r => by rw [List.map_nil] at r; cases r; exact .nil
  | k :: ks, _, r => by
    rw [List.map_cons] at r
    cases r with
    | cons h t => exact .cons (kV_is h) (items_are t)

noncomputable abbrev KT (H : Hp) : List (List Key × V) → List (List Key × Addr × Value) → Prop := Paired fun p q => p.1 = q.1 ∧ H q.2.1 = some (.tup (p.1.map kV)) ∧ RelV p.2 q.2.2
theorem KT.val {H : Hp} {kvs : List (List Key × V)} {xs : List (List Key × Addr × Value)} (r : KT H kvs xs) (k : List Key) : RelO (valV kvs k) ((atKey xs k).map (·.2)) := by
  induction r with
  | nil => exact True.intro
  | @cons p q ps qs h t ih =>
    obtain ⟨h1, _, h2⟩ := h
    by_cases e : p.1 = k
    · have e' : q.1 = k := h1.symm.trans e
      have b : atKey (q :: qs) k = some q.2 := by simp [atKey, List.find?_cons, e']
      rw [valV_pos e, b]; exact h2
    · have e' : ¬ q.1 = k := fun z => e (h1.trans z)
      have b : atKey (q :: qs) k = atKey qs k := by simp [atKey, List.find?_cons, e']
      rw [valV_neg e, b]; exact ih
theorem KT.repl {H : Hp} {kvs : List (List Key × V)} {xs : List (List Key × Addr × Value)} (r : KT H kvs xs) (k : List Key) {y : V} {u : Value} (ry : RelV y u) :
    KT H (kvs.map fun kv => if kv.1 = k then (kv.1, y) else kv) (xs.map (putAt k u)) := by
  induction r with
  | nil => exact .nil
  | @cons p q ps qs h t ih =>
    rw [List.map_cons, List.map_cons]
    refine .cons ?_ ih
    obtain ⟨h1, h2, h3⟩ := h
    unfold putAt
    by_cases e : p.1 = k
    · rw [if_pos e, if_pos (h1.symm.trans e)]; exact ⟨h1, h2, ry⟩
    · rw [if_neg e, if_neg (fun z => e (h1.trans z))]; exact ⟨h1, h2, h3⟩
theorem KT.put {H : Hp} {kvs : List (List Key × V)} {xs : List (List Key × Addr × Value)} (r : KT H kvs xs) (k : List Key) {b : Addr} {y : V} {u : Value} (hb : H b = some (.tup (k.map kV))) (ry : RelV y u) :
    KT H (putK kvs k y) (storedH xs k b u) := by
  have e : (kvs.any fun kv => decide (kv.1 = k)) = (atKey xs k).isSome := by
    rw [valV_any, (r.val k).isSome_eq, Option.isSome_map]
  unfold putK storedH
  rw [e]
  by_cases q : (atKey xs k).isSome = true
  · rw [if_pos q, if_pos q]; exact r.repl k ry
  · rw [if_neg q, if_neg q]; exact Paired.snoc r ⟨rfl, hb, ry⟩
theorem KT.keeps {H H' : Hp} {kvs : List (List Key × V)} {xs : List (List Key × Addr × Value)} (r : KT H kvs xs) (ht : ∀ b ys, H b = some (.tup ys) → H' b = some (.tup ys)) : KT H' kvs xs :=
  Paired.mapP r fun _ _ z => ⟨z.1, ht _ _ z.2.1, z.2.2⟩

section
variable {P : Program} {w : World} {H : Hp} {h : Heap} {a : Addr}
theorem rd_of {u : HO} (ok : HOk P w H h) (e : Rd H a u) : ObjOk P w H h a u := e.ok ok
theorem dk_rd {kvs : List (Key × V)} (ok : HOk P w H h) (e : Rd H a (.dK kvs)) : kvs.length ≤ sizeLine ∧ (a == sysModules) = false ∧ ∃ vs, KV kvs vs ∧ h.DictOf (mixKind P w) a vs :=
  show ObjOk P w H h a (.dK kvs) from rd_of ok e
theorem dk_of {kvs : List (Key × V)} (ok : HOk P w H h) (e : H a = some (.dK kvs)) : kvs.length ≤ sizeLine ∧ (a == sysModules) = false ∧ ∃ vs, KV kvs vs ∧ h.DictOf (mixKind P w) a vs := dk_rd ok (.inl e)
theorem key_of {ks : List Key} (ok : HOk P w H h) (e : H a = some (.tup (ks.map kV))) : (tupleKind (mixKind P w)).is h ks a := by
  obtain ⟨_, its, r, o, h1, h2, n, h3⟩ := (show ObjOk P w H h a (.tup (ks.map kV)) from ok a _ e)
  exact ⟨o, its.toArray, n, h1, h2, h3, by simpa using items_are r⟩
theorem dt_rd {kvs : List (List Key × V)} (ok : HOk P w H h) (e : Rd H a (.dT kvs)) : kvs.length ≤ sizeLine ∧ (a == sysModules) = false ∧
    ∃ xs, KT H kvs xs ∧ h.DictOfH (tupleKind (mixKind P w)) a xs := by
  obtain ⟨z, y, xs, r, o, es, ep, h1, h2, h3, h4, h5⟩ := (show ObjOk P w H h a (.dT kvs) from rd_of ok e)
  refine ⟨z, y, xs, r, o, es, ep, h1, h2, h3, h4, fun x hx => ?_, h5⟩
  have all : ∀ {l : List (List Key × V)} {m : List (List Key × Addr × Value)}, KT H l m → ∀ x ∈ m, (tupleKind (mixKind P w)).is h x.1 x.2.1 := by
    intro l m q
    induction q with
    | nil => intro x hx; exact nomatch hx
    | @cons p q ps qs hq t ih =>
      intro x hx
      rcases List.mem_cons.mp hx with e | hx
      · subst e
        exact key_of ok (by rw [← hq.1]; exact hq.2.1)
      · exact ih x hx
  exact all r x hx
theorem dt_of {kvs : List (List Key × V)} (ok : HOk P w H h) (e : H a = some (.dT kvs)) : kvs.length ≤ sizeLine ∧ (a == sysModules) = false ∧
    ∃ xs, KT H kvs xs ∧ h.DictOfH (tupleKind (mixKind P w)) a xs := dt_rd ok (.inl e)
end

noncomputable def DGet (H : Hp) (a : Addr) (y : V) (r : Option V) : Prop :=
  (∃ kvs k, Rd H a (.dK kvs) ∧ y = kV k ∧ r = valV kvs k) ∨ ∃ kvs k b, Rd H a (.dT kvs) ∧ y = .ref b ∧ H b = some (.tup (k.map kV)) ∧ r = valV kvs k
noncomputable def DPut (H : Hp) (a : Addr) (y v : V) (H' : Hp) : Prop :=
  (∃ kvs k, H a = some (.dK kvs) ∧ y = kV k ∧ kvs.length < sizeLine ∧ H' = upd H a (.dK (putK kvs k v))) ∨
  ∃ kvs k b, H a = some (.dT kvs) ∧ y = .ref b ∧ H b = some (.tup (k.map kV)) ∧ kvs.length < sizeLine ∧ H' = upd H a (.dT (putK kvs k v))
theorem DGet.k {H : Hp} {a : Addr} {kvs : List (Key × V)} {k : Key} (e : H a = some (.dK kvs)) : DGet H a (kV k) (valV kvs k) := .inl ⟨kvs, k, .inl e, rfl, rfl⟩
theorem DGet.t {H : Hp} {a b : Addr} {kvs : List (List Key × V)} {k : List Key} (e : H a = some (.dT kvs)) (eb : H b = some (.tup (k.map kV))) : DGet H a (.ref b) (valV kvs k) := .inr ⟨kvs, k, b, .inl e, rfl, eb, rfl⟩
theorem DPut.k {H : Hp} {a : Addr} {kvs : List (Key × V)} {k : Key} {v : V} (e : H a = some (.dK kvs)) (hl : kvs.length < sizeLine) : DPut H a (kV k) v (upd H a (.dK (putK kvs k v))) := .inl ⟨kvs, k, e, rfl, hl, rfl⟩
theorem DPut.t {H : Hp} {a b : Addr} {kvs : List (List Key × V)} {k : List Key} {v : V} (e : H a = some (.dT kvs)) (eb : H b = some (.tup (k.map kV))) (hl : kvs.length < sizeLine) :
    DPut H a (.ref b) v (upd H a (.dT (putK kvs k v))) := .inr ⟨kvs, k, b, e, rfl, eb, hl, rfl⟩


section
variable {X : Cx} {pins : List (Addr × Obj)} {σ : St} {H : Hp} {s : Shared} {a : Addr} {y v : V} {u r : Value} {o : Option V} {A : Around} {E : Value → Shared → Prop}

theorem Inv.big (I : Inv X pins σ H s) : sysModules < s.heap.objs.size := by
  have h : mainGlobals < s.heap.objs.size := (I.mod.glob.keeps I.bk).lt
  exact Nat.lt_trans (by decide) h

theorem d_getItem {Q : Value → Shared → Prop} (hu : A.units + 1 < cLine) (I : Inv X pins σ H s) (g : DGet H a y (some v)) (ry : RelV y u) (h : ∀ w' s', Inv X pins σ H s' → RelV v w' → Q w' s') :
    wpAny (model X.prog X.w) A (getItem (.ref a) u) Q E s := by
  rcases g with ⟨kvs, k, e, ey, l⟩ | ⟨kvs, k, b, e, ey, eb, l⟩
  · subst ey
    obtain ⟨z, hd, vs, rel, dd⟩ := dk_rd I.hok e
    obtain ⟨w', hw, rw'⟩ := RelO.some_of (v := v) (o := valueAt vs k) (by rw [l]; exact rel.val k)
    exact wpAny_getItem_of (kV_is ry) dd.mapOf hw (h w' _ (I.tok _) rw')
  · subst ey
    cases (show u = Value.ref b from ry)
    obtain ⟨z, hd, xs, rel, dd⟩ := dt_rd I.hok e
    obtain ⟨w', hw, rw'⟩ := RelO.some_of (v := v) (o := (atKey xs k).map (·.2)) (by rw [l]; exact rel.val k)
    obtain ⟨p, hp, hp2⟩ := Option.map_eq_some_iff.mp hw
    refine wpAny_getItem_heap (tupleKind_room_in1 hu) (key_of I.hok eb) dd hp ?_
    rw [hp2]
    exact h w' _ (I.tok _) rw'
theorem d_notIn {Q : Value → Shared → Prop} (hu : A.units + 1 < cLine) (I : Inv X pins σ H s) (g : DGet H a y o) (ry : RelV y u) (h : ∀ s', Inv X pins σ H s' → Q (.bool (!o.isSome)) s') :
    wpAny (model X.prog X.w) A (compareOp .NotIn u (.ref a)) Q E s := by
  rcases g with ⟨kvs, k, e, ey, l⟩ | ⟨kvs, k, b, e, ey, eb, l⟩
  · subst ey
    obtain ⟨z, hd, vs, rel, dd⟩ := dk_rd I.hok e
    refine wpAny_notIn_of (kV_is ry) hd dd.mapOf ?_
    rw [← (rel.val k).isSome_eq, ← l]
    exact h _ (I.tok _)
  · subst ey
    cases (show u = Value.ref b from ry)
    obtain ⟨z, hd, xs, rel, dd⟩ := dt_rd I.hok e
    refine wpAny_notIn_heap (tupleKind_room_in1 hu) (key_of I.hok eb) hd dd ?_
    have q := (rel.val k).isSome_eq
    rw [Option.isSome_map] at q
    rw [← q, ← l]
    exact h _ (I.tok _)
theorem d_write {h' : Heap} {t' : Nat} {ob : HO} (I : Inv X pins σ H s) (mu : Mut (H a)) (hs : Heap.SameBut a s.heap h') (he : ∃ q, h'.get? a = some q) (new : ObjOk X.prog X.w (upd H a ob) h' a ob) :
    Inv X pins σ (upd H a ob) { s with heap := h', toks := t' } :=
  I.write (x := a) (e := a) mu (.inl rfl) (fun b q hb z => (hs.2 b hb).trans z) he new
theorem dk_new {P : Program} {w : World} {H' : Hp} {h' : Heap} {kvs : List (Key × V)} {vs : List (Key × Value)} (z : kvs.length ≤ sizeLine) (hd : (a == sysModules) = false) (rel : KV kvs vs) (dd : h'.DictOf (mixKind P w) a vs) :
    ObjOk P w H' h' a (.dK kvs) := ⟨z, hd, vs, rel, dd⟩
theorem d_setItem {H' : Hp} {Q : Unit → Shared → Prop} (hu : A.units + 1 < cLine) (I : Inv X pins σ H s) (g : DPut H a y v H') (ry : RelV y u) (rv : RelV v r) (h : ∀ s', Inv X pins σ H' s' → Q () s') :
    wpAny (model X.prog X.w) A (setItem (.ref a) u r) Q E s := by
  rcases g with ⟨kvs, k, e, ey, l, eH⟩ | ⟨kvs, k, b, e, ey, eb, l, eH⟩
  · subst ey eH
    obtain ⟨z, hd, vs, rel, dd⟩ := dk_of I.hok e
    have hz : vs.length ≤ sizeLine := by rw [← rel.length]; exact z
    have hl : (putK kvs k v).length ≤ sizeLine := by have := length_putK kvs k v; omega
    refine wpAny_setItem_pairs (hsz := hz) (kV_is ry) dd fun h' dd' hs => h _ ?_
    have he : ∃ q, h'.get? a = some q := let ⟨q, _, _, hq, _⟩ := dd'; ⟨q, hq⟩
    exact d_write I (by rw [e]; exact True.intro) hs he (dk_new hl hd (rel.put k rv) dd')
  · subst ey eH
    cases (show u = Value.ref b from ry)
    obtain ⟨z, hd, xs, rel, dd⟩ := dt_of I.hok e
    have hz : xs.length ≤ sizeLine := by rw [← Paired.length rel]; exact z
    have hl : (putK kvs k v).length ≤ sizeLine := by have := length_putK kvs k v; omega
    refine wpAny_setItem_heap (hsz := hz) (tupleKind_room_in1 hu) (key_of I.hok eb) dd fun h' dd' hs => h _ ?_
    obtain ⟨q, es, ep, hq, h2, h3, h4, _, h5⟩ := dd'
    refine d_write I (by rw [e]; exact True.intro) hs ⟨q, hq⟩ ⟨hl, hd, _, (rel.put k eb rv).keeps fun c ys ec => ?_, q, es, ep, hq, h2, h3, h4, h5⟩
    rw [upd_ne (ne_of ec e (fun z => nomatch z))]
    exact ec
end

section
variable {X : Cx} {pins : List (Addr × Obj)} {σ : St} {H : Hp} {s : Shared} {a : Addr} {kvs : List (Key × V)} {k : Key} {u : Value} {A : Around} {E : Value → Shared → Prop}
theorem d_len {Q : Value → Shared → Prop} (I : Inv X pins σ H s) (e : Rd H a (.dK kvs)) (h : ∀ t s', Inv X pins σ H s' → Q (.int kvs.length t) s') : wpAny (model X.prog X.w) A (call (.builtin "len") [.ref a]) Q E s := by
  obtain ⟨z, hd, vs, rel, dd⟩ := dk_rd I.hok e
  refine call_len_dict hd dd (by rw [← rel.length]; rw [sizeLine_eq] at z; omega) ?_
  rw [← rel.length]
  exact h _ _ (I.tok _)
end


noncomputable def NoSl (i : Expr) : Prop := ∀ ov iv, subscripted i false ov iv = operate [ov, iv] (getItem ov iv)
theorem subD_of {prog : Program} {w : World} {A : Around} {E : Value → Shared → Prop} {s : Shared} {env : Env} {value slice : Expr} {pos : Pos} {T id : String} {Q : Value → Shared → Prop}
    (hl : typeLookup (.type T) "__getitem__" = pure (some (.builtin id))) (hs : NoSl slice)
    (h : wpAny (model prog w) A (eval value env) (fun o s₁ => wpAny (model prog w) A (eval slice env) (fun i s₂ => s₂.TypeIs o T ∧ wpAny (model prog w) A (getItem o i) Q E s₂) E s₁) E s) :
    wpAny (model prog w) A (eval (.Subscript value slice pos) env) Q E s := by
  refine Subscript_ (wpAny_mono h (fun o s₁ h₁ => wpAny_mono h₁ (fun i s₂ h₂ => ?_) fun _ _ x => x) fun _ _ x => x)
  obtain ⟨hT, h₂⟩ := h₂
  unfold subscriptTail
  refine wpAny_bind ?_
  rw [getitemInPython_of_ne hT.not_modules]
  refine wpAny_bind (wpAny_specialOf hT hl ?_)
  have fin : wpAny (model prog w) A (subscripted slice false o i) (fun r s₃ => wpAny (model prog w) A (letTemporaryGo value o r >>= fun _ => pure r) Q E s₃) E s₂ := by
    rw [hs o i]
    exact wpAny_operating (wpAny_mono h₂ (fun r s₃ h₃ => wpAny_bind (wpAny_letTemporaryGo (wpAny_pure h₃))) fun _ _ x => x)
  first
    | exact wpAny_pure (wpAny_bind fin)
    | exact wpAny_bind (wpAny_pure (wpAny_bind fin))
    | exact wpAny_bind fin

theorem dict_typeIs {X : Cx} {pins : List (Addr × Obj)} {σ : St} {H : Hp} {s : Shared} {a : Addr} {y : V} {o : Option V} (I : Inv X pins σ H s) (g : DGet H a y o) : s.TypeIs (.ref a) "dict" := by
  rcases g with ⟨kvs, k, e, _, _⟩ | ⟨kvs, k, b, e, _, _, _⟩
  · obtain ⟨_, _, vs, _, dd⟩ := dk_rd I.hok e
    exact dd.typeIs
  · obtain ⟨_, _, xs, _, dd⟩ := dt_rd I.hok e
    exact dd.typeIs
noncomputable def tDGet (td ty : TE) : TE := fun σ H Q => td σ H fun x H1 => ty σ H1 fun y H2 => ∃ a v, x = .ref a ∧ DGet H2 a y (some v) ∧ Q v H2
noncomputable def tDIn (ty td : TE) : TE := fun σ H Q => ty σ H fun y H1 => td σ H1 fun x H2 => ∃ a o, x = .ref a ∧ DGet H2 a y o ∧ Q (.bl o.isSome) H2
noncomputable def tDNotIn (ty td : TE) : TE := fun σ H Q => ty σ H fun y H1 => td σ H1 fun x H2 => ∃ a o, x = .ref a ∧ DGet H2 a y o ∧ Q (.bl (!o.isSome)) H2
noncomputable def sDPut (td ty tv : TE) : TS := fun D σ H => tv σ H fun v H1 => td σ H1 fun x H2 => ty σ H2 fun y H3 => ∃ a H4, x = .ref a ∧ DPut H3 a y v H4 ∧ D.nx σ H4
section
variable {X : Cx} {o i e value : Expr} {pos pos' tpos : Pos} {td ty tv : TE}
theorem pe_dget (hu : X.A.units + 1 < cLine) (ho : PE X o td) (hi : PE X i ty) (hs : NoSl i) : PE X (.Subscript o i pos) (tDGet td ty) := by
  intro pins s σ H Q I h
  refine subD_of PySem.F.slot_dict_getitem.lookup hs (thn (ho pins s σ H _ I h) fun u s1 ⟨x, H1, I1, rx, q1⟩ => thn (hi pins s1 σ H1 _ I1 q1) fun iv s2 ⟨y, H2, I2, ry, a, v, ex, g, q2⟩ => ?_)
  subst ex
  obtain rfl : u = Value.ref a := rx
  exact ⟨dict_typeIs I2 g, d_getItem hu I2 g ry fun w' s3 I3 rw' => ⟨v, H2, I3, rw', q2⟩⟩
theorem pc_dnotin (hu : X.A.units + 1 < cLine) (hi : PE X i ty) (ho : PE X o td) : PC X .NotIn i o (tDNotIn ty td) := by
  intro pins s σ H Q I h
  refine thn (hi pins s σ H _ I h) fun iv s1 ⟨y, H1, I1, ry, q1⟩ => thn (ho pins s1 σ H1 _ I1 q1) fun u s2 ⟨x, H2, I2, rx, a, ov, ex, g, q2⟩ => ?_
  subst ex
  obtain rfl : u = Value.ref a := rx
  exact d_notIn hu I2 g ry fun s3 I3 => ⟨.bl (!ov.isSome), H2, I3, rfl, q2⟩
theorem ps_dput (hu : X.A.units + 1 < cLine) (ho : PE X o td) (hi : PE X i ty) (hv : PE X value tv) (hs : swapsWith value (some (.Subscript o i pos')) pos.line X.env = pure false) :
    PS X (.Assign [.Subscript o i pos'] value pos) (sDPut td ty tv) := by
  intro pins s σ H D I h
  refine wpAny_Assign_Subscript (thn (hv pins s σ H _ I h) fun r s1 ⟨v, H1, I1, rv, q1⟩ => thn (ho pins s1 σ H1 _ I1 q1) fun u s2 ⟨x, H2, I2, rx, q2⟩ => thn (hi pins s2 σ H2 _ I2 q2) fun iv s3 ⟨y, H3, I3, ry, a, H4, ex, g, q3⟩ => ?_) hs
  subst ex
  obtain rfl : u = Value.ref a := rx
  exact d_setItem hu I3 g ry rv fun s4 I4 => ⟨σ, H4, I4, q3⟩
end


theorem dk_empty {P : Program} {w : World} {H : Hp} (h : Heap) (hb : sysModules < h.objs.size) : ObjOk P w H (h.push { cls := .type "dict", data := .dict #[] }) h.objs.size (.dK []) :=
  ⟨Nat.zero_le _, beq_eq_false_iff_ne.mpr (Ne.symm (Nat.ne_of_lt hb)), [], .nil, Heap.DictOf.new h⟩
noncomputable def tDNewK : TE := fun _ H Q => ∀ p, H p = none → Q (.ref p) (upd H p (.dK []))
section
variable {X : Cx} {pos : Pos}
theorem pe_dnewK : PE X (.Dict [] [] pos) tDNewK := fun pins s σ H Q I h =>
  wpAny_Dict_empty ⟨.ref s.heap.objs.size, _, I.laid (a := s.heap.objs.size) (o := .dK []) (t' := s.toks) (fun _ _ q => Heap.get?_push_of_some _ q) (Nat.le_refl _) (dk_empty s.heap I.big), rfl, h _ (I.hok.fresh (Nat.le_refl _))⟩
end

structure M1 (X : Cx) (o : Expr) (m : Str) (apos : Pos) (e : Expr) (cpos : Pos) : Prop where
  base : attributeBase o m X.env (eval o X.env) = eval o X.env
  few : ((backTo cpos (starEach [e] X.env)).all (fun x => !x.1) && (backToKw cpos (keywordEach [] X.env)).all (fun x => x.1.isSome)
    && decide (([e] : List Expr).length + ([] : List Keyword).length + (if ([] : List Keyword).isEmpty then 0 else 1) < 30)) = true
  line : (apos.endLine == cpos.line) = true
  trees : backTo cpos (starEach [e] X.env) = [(false, eval e X.env)]
structure M2 (X : Cx) (o : Expr) (m : Str) (apos : Pos) (e f : Expr) (cpos : Pos) : Prop where
  base : attributeBase o m X.env (eval o X.env) = eval o X.env
  few : ((backTo cpos (starEach [e, f] X.env)).all (fun x => !x.1) && (backToKw cpos (keywordEach [] X.env)).all (fun x => x.1.isSome)
    && decide (([e, f] : List Expr).length + ([] : List Keyword).length + (if ([] : List Keyword).isEmpty then 0 else 1) < 30)) = true
  line : (apos.endLine == cpos.line) = true
  trees : backTo cpos (starEach [e, f] X.env) = [(false, eval e X.env), (false, eval f X.env)]

noncomputable def IsD (H : Hp) (a : Addr) : Prop := (∃ kvs, Rd H a (.dK kvs)) ∨ ∃ kvs, Rd H a (.dT kvs)
theorem isD_at {X : Cx} {pins : List (Addr × Obj)} {σ : St} {H : Hp} {s : Shared} {a : Addr} (I : Inv X pins σ H s) (d : IsD H a) :
    s.TypeIs (.ref a) "dict" ∧ (∀ b, Value.ref a = .ref b → ∃ ob, s.heap.get? b = some ob ∧ ob.dict = none) ∧ (a == sysModules) = false := by
  rcases d with ⟨kvs, e⟩ | ⟨kvs, e⟩
  · obtain ⟨_, hd, vs, _, dd⟩ := dk_rd I.hok e
    refine ⟨dd.typeIs, fun b q => ?_, hd⟩
    cases q
    obtain ⟨ob, _, _, h1, h2, _⟩ := dd
    exact ⟨ob, h1, h2.2.1⟩
  · obtain ⟨_, hd, xs, _, dd⟩ := dt_rd I.hok e
    refine ⟨dd.typeIs, fun b q => ?_, hd⟩
    cases q
    obtain ⟨ob, _, _, h1, h2, _⟩ := dd
    exact ⟨ob, h1, h2.2.1⟩

section
variable {X : Cx} {pins : List (Addr × Obj)} {σ : St} {H : Hp} {s : Shared} {a : Addr} {y d : V} {u r : Value} {o : Option V} {A : Around} {E : Value → Shared → Prop}
theorem d_get2 {Q : Value → Shared → Prop} (hu : A.units + 1 < cLine) (I : Inv X pins σ H s) (g : DGet H a y o) (ry : RelV y u) (rd : RelV d r) (h : ∀ w' s', Inv X pins σ H s' → RelV (o.getD d) w' → Q w' s') :
    wpAny (model X.prog X.w) A (call (.builtin "dict.get") [.ref a, u, r]) Q E s := by
  rcases g with ⟨kvs, k, e, ey, l⟩ | ⟨kvs, k, b, e, ey, eb, l⟩
  · subst ey
    obtain ⟨z, hd, vs, rel, dd⟩ := dk_rd I.hok e
    refine call_meetsIn PySem.F.slot_dict_get dd.typeIs PySem.F.entry_dict_get (PySem.F.args_dict_get_3 _ _ _) (meets_dict_get_default (mixKind X.prog X.w) a (kV_is ry) hd r) ⟨_, dd.mapOf, h _ _ (I.tok _) ?_⟩
    rw [l]
    exact (rel.val k).getD rd
  · subst ey
    cases (show u = Value.ref b from ry)
    obtain ⟨z, hd, xs, rel, dd⟩ := dt_rd I.hok e
    refine call_meetsIn PySem.F.slot_dict_get dd.typeIs PySem.F.entry_dict_get (PySem.F.args_dict_get_3 _ _ _) (meetsH_dict_get_default (tupleKind (mixKind X.prog X.w)) a b hd r) ⟨tupleKind_room_in1 hu, k, xs, key_of I.hok eb, dd, h _ _ (I.tok _) ?_⟩
    rw [l]
    exact (rel.val k).getD rd
end

noncomputable def tDGet2 (td ty tx : TE) : TE := fun σ H Q => td σ H fun x H1 => ∃ a, x = .ref a ∧ IsD H1 a ∧ ty σ H1 fun y H2 => tx σ H2 fun z H3 => ∃ o, DGet H3 a y o ∧ Q (o.getD z) H3
section
variable {X : Cx} {o e f : Expr} {apos cpos : Pos} {td ty tx : TE}
theorem pe_dget2 (hu : X.A.units + 1 < cLine) (ho : PE X o td) (he : PE X e ty) (hf : PE X f tx) (m : M2 X o "get" apos e f cpos) : PE X (.Call (.Attribute o "get" apos) [e, f] [] cpos) (tDGet2 td ty tx) := by
  intro pins s σ H Q I h
  refine wpAny_Call_method m.base m.few m.line PySem.F.plainAttrs_dict PySem.F.slot_dict_get PySem.F.type_dict_get (thn (ho pins s σ H _ I h) fun u s1 ⟨x, H1, I1, rx, a, ex, d, q1⟩ => ?_)
  subst ex
  obtain rfl : u = Value.ref a := rx
  obtain ⟨t1, t2, _⟩ := isD_at I1 d
  refine ⟨t1, t2, ?_⟩
  rw [m.trees]
  refine Calls.callWith_builtin rfl (Calls.evalArgs_plain (Calls.spliced_cons (thn (he pins s1 σ H1 _ I1 q1) fun iv s2 ⟨y, H2, I2, ry, q2⟩ =>
    Calls.spliced_cons (thn (hf pins s2 σ H2 _ I2 q2) fun fv s3 ⟨z, H3, I3, rz, ov, g, q3⟩ => Calls.spliced_nil ?_))))
  exact d_get2 hu I3 g ry rz fun w' s4 I4 rw' => ⟨_, H3, I4, rw', q3⟩
end

section
variable {X : Cx} {pins : List (Addr × Obj)} {σ : St} {H : Hp} {s : Shared} {a : Addr} {kvs : List (Key × V)} {A : Around} {E : Value → Shared → Prop}
end


section
variable {X : Cx} {pins : List (Addr × Obj)} {σ : St} {H : Hp} {s : Shared} {a : Addr} {y : V} {u : Value} {A : Around} {E : Value → Shared → Prop}
end
end L2

namespace L2
open PySem PySem.Spec PyProof.Rows
section
variable {X : Cx}
theorem call_lenD : CallR X (.builtin "len") (fun xs H Q => ∃ a kvs, xs = [V.ref a] ∧ H a = some (.dK kvs) ∧ Q (.int kvs.length) H) := by
  intro pins s σ H xs us Q I r h
  obtain ⟨a, kvs, rfl, ha, q⟩ := h
  obtain ⟨u, rfl, ru⟩ := vals1 r
  cases ru
  exact d_len I (.inl ha) fun t s' I' => ⟨.int kvs.length, H, I', ⟨t, rfl⟩, q⟩
end
section
variable {κ : Type} [DecidableEq κ]
theorem valV_not {kvs : List (κ × V)} {k : κ} (h : valV kvs k = none) : ¬ k ∈ kvs.map (·.1) := by
  intro m
  obtain ⟨p, hp, e⟩ := List.mem_map.mp m
  have q : (kvs.any fun kv => decide (kv.1 = k)) = true := List.any_eq_true.mpr ⟨p, hp, decide_eq_true e⟩
  rw [valV_any, h] at q
  exact absurd q (by simp)
theorem valV_in {kvs : List (κ × V)} {k : κ} {v : V} (h : valV kvs k = some v) : k ∈ kvs.map (·.1) := by
  have q : (kvs.any fun kv => decide (kv.1 = k)) = true := by
    rw [valV_any, h]
    all_goals rfl
  obtain ⟨p, hp, e⟩ := List.any_eq_true.mp q
  exact List.mem_map.mpr ⟨p, hp, of_decide_eq_true e⟩
end
end L2

set_option Elab.async false
set_option linter.all false
set_option maxRecDepth 100000
set_option maxHeartbeats 4000000
namespace L2
open PySem PySem.Spec PyProof.Rows

structure Def (P : Program) (w : World) (K : PySem.W.Frag) (mg : Str → Option Value) (base : Heap) (CX : CXT) (k : Nat) (x : Str) (ps : List Str) (sp : Sp) : Prop where
  ex : ∃ (f : Addr) (fd : FuncData), FnOk P w K mg base CX k f fd ps sp ∧ mg x = some (.ref f) ∧ PySem.W.keepIn K (.ref f) = true ∧ Binds K fd ps []
noncomputable def tCallD (sp : Sp) (E : XK) (t : TA) : TE := fun σ H Q => t σ H fun vs H1 => sp vs H1 Q E
section
variable {X : Cx} {CX : CXT} {k j : Nat} {ps : List Str} {sp : Sp} {E : XK} {x : Str} {p pos : Pos} {e : Expr} {es : List Expr} {t : TA}
theorem pe_callD (D : Def X.prog X.w X.K X.mg X.base CX j x ps sp) (hr : Room k X.A) (hg : Gl X x) (hx : Passes CX X E) (ha : PA X (e :: es) t) (hj : j ≤ k := by decide)
    (hdb : (x == ("__debug__" : Str)) = false := by decide) (he : starEach (e :: es) X.env = (false, eval e X.env) :: starEach es X.env := by rfl) (hpl : (backTo pos (starEach es X.env)).any (·.1) = false := by rfl) :
    PE X (.Call (.Name x p) (e :: es) [] pos) (tCallD sp E t) := by
  obtain ⟨f, fd, F, hm, hk, hb⟩ := D.ex
  intro pins s σ H Q I h
  refine pe_call (F.mono hj) hr hg hm hk hb .nil hx ha hdb he hpl pins s σ H Q I ?_
  show t σ H fun vs H1 => sp (vs ++ []) H1 Q E
  have z : (fun (vs : List V) (H1 : Hp) => sp (vs ++ []) H1 Q E) = fun vs H1 => sp vs H1 Q E := by funext vs H1; rw [List.append_nil]
  rw [z]
  exact h
end

noncomputable def CBig (i j : Int) : Prop := i.natAbs < 10 ^ 100 ∧ j.natAbs < 10 ^ 100
theorem big_pow : (10 : Nat) ^ 100 ≤ 2 ^ 1000 := by decide +kernel
theorem bits_of {i : Int} (h : i.natAbs < 10 ^ 100) : Builtin.Int.intBits i ≤ 2 ^ 20 := by
  have h1 : Builtin.Int.intBits i ≤ 1000 := by
    unfold Builtin.Int.intBits
    split
    · omega
    · rename_i hne
      have := (Nat.log2_lt (n := i.natAbs) (k := 1000) (by simpa using hne)).mpr (Nat.lt_of_lt_of_le h big_pow)
      omega
  exact Nat.le_trans h1 (by decide)
section
variable {X : Cx}
theorem op_mulB : OpR X (binaryOp .Mult) (rI CBig fun i j => .int (i * j)) := opI fun _ _ _ _ _ _ _ hc q => mul_int q (.of_bits (bits_of hc.1) (bits_of hc.2))
end

noncomputable def Isi (K : PySem.W.Frag) (H : Hp) (x : V) (n : String) (b : Bool) : Prop := ∃ t, TyOf K H x t ∧ PySem.W.kitOne K t (.type n) = some b
section
variable {X : Cx}
theorem call_isinst : CallR X (.builtin "isinstance") (fun xs H Q => ∃ x n b, xs = [x, .ty n] ∧ Isi X.K H x n b ∧ Q (.bl b) H) := by
  intro pins s σ H xs us Q I r h
  obtain ⟨x, n, b, rfl, ⟨t, ty, e⟩, q⟩ := h
  obtain ⟨u, c, rfl, r1, r2⟩ := vals2 r
  cases r2
  exact isinst_ok I r1 ty e fun tk => ⟨.bl b, H, I.tok _, rfl, q⟩
end
section
variable {K : PySem.W.Frag} {H : Hp}
theorem isi_ii {i : Int} : Isi K H (.int i) "int" true := ⟨_, .int i, rfl⟩
theorem isi_ib {i : Int} : Isi K H (.int i) "bool" false := ⟨_, .int i, by with_unfolding_all rfl⟩
theorem isi_is {i : Int} : Isi K H (.int i) "str" false := ⟨_, .int i, by with_unfolding_all rfl⟩
theorem isi_bb {i : Bool} : Isi K H (.bl i) "bool" true := ⟨_, .bl i, rfl⟩
theorem isi_bi {i : Bool} : Isi K H (.bl i) "int" true := ⟨_, .bl i, by with_unfolding_all rfl⟩
theorem isi_bs {i : Bool} : Isi K H (.bl i) "str" false := ⟨_, .bl i, by with_unfolding_all rfl⟩
theorem isi_ss {i : Str} : Isi K H (.str i) "str" true := ⟨_, .str i, rfl⟩
theorem isi_si {i : Str} : Isi K H (.str i) "int" false := ⟨_, .str i, by with_unfolding_all rfl⟩
theorem isi_sb {i : Str} : Isi K H (.str i) "bool" false := ⟨_, .str i, by with_unfolding_all rfl⟩
theorem isi_ni : Isi K H .non "int" false := ⟨_, .non, by with_unfolding_all rfl⟩
theorem isi_ns : Isi K H .non "str" false := ⟨_, .non, by with_unfolding_all rfl⟩
theorem isi_lstl {a : Addr} {xs : List V} (e : H a = some (.lst xs)) : Isi K H (.ref a) "list" true := ⟨_, .lst e, rfl⟩
theorem isi_lsts {a : Addr} {xs : List V} (e : H a = some (.lst xs)) : Isi K H (.ref a) "str" false := ⟨_, .lst e, by with_unfolding_all rfl⟩
theorem isi_lsti {a : Addr} {xs : List V} (e : H a = some (.lst xs)) : Isi K H (.ref a) "int" false := ⟨_, .lst e, by with_unfolding_all rfl⟩
theorem isi_lstt {a : Addr} {xs : List V} (e : H a = some (.lst xs)) : Isi K H (.ref a) "tuple" false := ⟨_, .lst e, by with_unfolding_all rfl⟩
theorem isi_tupt {a : Addr} {xs : List V} (e : H a = some (.tup xs)) : Isi K H (.ref a) "tuple" true := ⟨_, .tup e, rfl⟩
theorem isi_tups {a : Addr} {xs : List V} (e : H a = some (.tup xs)) : Isi K H (.ref a) "str" false := ⟨_, .tup e, by with_unfolding_all rfl⟩
theorem isi_tupi {a : Addr} {xs : List V} (e : H a = some (.tup xs)) : Isi K H (.ref a) "int" false := ⟨_, .tup e, by with_unfolding_all rfl⟩
theorem isi_tupl {a : Addr} {xs : List V} (e : H a = some (.tup xs)) : Isi K H (.ref a) "list" false := ⟨_, .tup e, by with_unfolding_all rfl⟩
theorem isi_go {x : V} {n : String} {b : Bool} {R : Bool → Prop} (h : Isi K H x n b) (q : R b) : ∃ b, Isi K H x n b ∧ R b := ⟨b, h, q⟩
theorem len_goL {p : Addr} {xs : List V} {R : List V → Prop} (h : SqL K H p xs) (q : R xs) : ∃ ys, (SqL K H p ys ∨ SqT K H p ys) ∧ R ys := ⟨xs, .inl h, q⟩
theorem len_goT {p : Addr} {xs : List V} {R : List V → Prop} (h : SqT K H p xs) (q : R xs) : ∃ ys, (SqL K H p ys ∨ SqT K H p ys) ∧ R ys := ⟨xs, .inr h, q⟩
theorem ixT_of {p : Addr} {xs : List V} {i : Int} {v : V} {Q : VK} (h : SqT K H p xs) (e : atI xs i = some v) (q : Q v H) : rIxT K (.ref p) (.int i) H Q := ⟨p, xs, i, v, rfl, rfl, h, e, q⟩
theorem ixL_of {p : Addr} {xs : List V} {i : Int} {v : V} {Q : VK} (h : SqL K H p xs) (e : atI xs i = some v) (q : Q v H) : rIxL K (.ref p) (.int i) H Q := ⟨p, xs, i, v, rfl, rfl, h, e, q⟩
end

theorem while_d {c : TT} {tb : TS} {D : Ends} {σ : St} {H : Hp} {m0 : Nat} (Pv : Nat → St → Hp → Prop) (h0 : Pv m0 σ H)
    (hs : ∀ m σ H, Pv m σ H → c σ H fun b H1 => if b = true then ∃ N : St → Hp → Prop, (∀ σ' H', N σ' H' → ∃ m', m' < m ∧ Pv m' σ' H') ∧ tb { D with nx := N, ct := N, bk := D.nx } σ H1 else D.nx σ H1) : tWhile c tb D σ H := ⟨Pv, ⟨m0, h0⟩, hs⟩
theorem atI_of {α : Type} {xs : List α} {i : Int} {v : α} (h0 : 0 ≤ i) (h : xs[i.toNat]? = some v) : atI xs i = some v := by
  unfold atI ixN
  have hl : i.toNat < xs.length := (List.getElem?_eq_some_iff.mp h).1
  rw [if_pos h0, if_pos (show i < xs.length by omega)]
  exact h
theorem cxOf_K {CX : CXT} {P : Program} {w : World} {K : PySem.W.Frag} {mg : Str → Option Value} {base : Heap} {N : List Str} {qual : Str} {scope : Scope} {f : Addr} {cd : Value} {A : Around} {outer : List Env} {s : Shared} {H : Hp} {E : XK} :
    (cxOf CX P w K mg base N qual scope f cd A outer s H E).K = K := rfl
theorem getMap {ns : List Int} {k : Nat} (h : k < ns.length) : (ns.map V.int)[k]? = some (V.int (ns.getD k 0)) := by
  rw [List.getElem?_map, List.getD_eq_getElem?_getD, List.getElem?_eq_getElem h]; rfl
theorem Same.tup {K : PySem.W.Frag} {H H' : Hp} {a : Addr} {xs : List V} (e : Same H H') (h : SqT K H a xs) : SqT K H' a xs := by
  rcases h with (h | ⟨o, h⟩) | h
  · exact .inl (.inl (e _ _ h))
  · exact .inl (.inr ⟨o, e _ _ h⟩)
  · exact .inr h
theorem Same.new {H : Hp} {p : Addr} {o : HO} (h : H p = none) : Same H (upd H p o) := fun b u e => by
  rw [upd_ne (ne_of_none e h)]; exact e

section
variable {σ : St} {H : Hp} {Q : VK} {QT : Bool → Hp → Prop} {QA : List V → Hp → Prop} {D : Ends} {K : PySem.W.Frag}
theorem rd_asg {te : TE} {g : TG} : tAsg te g D σ H = te σ H fun x H1 => g x σ H1 D.nx := rfl
theorem rd_var {i : Nat} : tVar i σ H Q = ∃ v, σ[i]? = some (some v) ∧ Q v H := rfl
theorem rd_c {v : V} : tC v σ H Q = Q v H := rfl
theorem rd_op {r : R2} {ta tb : TE} : tOp r ta tb σ H Q = ta σ H fun x H1 => tb σ H1 fun y H2 => r x y H2 Q := rfl
theorem rd_I0 {g : Int → Int → V} {x y : V} : rI0 g x y H Q = ∃ i j, x = .int i ∧ y = .int j ∧ Q (g i j) H := rfl
theorem rd_I {C : Int → Int → Prop} {g : Int → Int → V} {x y : V} : rI C g x y H Q = ∃ i j, x = .int i ∧ y = .int j ∧ C i j ∧ Q (g i j) H := rfl
theorem rd_U {g : Int → V} {x : V} : rU g x H Q = ∃ i, x = .int i ∧ Q (g i) H := rfl
theorem rd_name {i : Nat} {v : V} {N : St → Hp → Prop} : gName i v σ H N = N (σ.set i (some v)) H := rfl
theorem rd_ifS {c : TT} {t u : TS} : tIfS c t u D σ H = c σ H fun b H1 => if b = true then t D σ H1 else u D σ H1 := rfl
theorem rd_test {t : TE} : tTest t σ H QT = t σ H fun x H' => ∃ k, x = .bl k ∧ QT k H' := rfl
theorem rd_b {t : TE} : tB t σ H QT = t σ H fun x H1 => ∃ c, x = .bl c ∧ QT c H1 := rfl
theorem rd_ret {te : TE} : tRet te D σ H = te σ H D.rt := rfl
theorem rd_retN : tRetN D σ H = D.rt .non H := rfl
theorem rd_next : tNext D σ H = D.nx σ H := rfl
theorem rd_break : tBreak D σ H = D.bk σ H := rfl
theorem rd_cont : tCont D σ H = D.ct σ H := rfl
theorem rd_cb {r : List V → Hp → VK → Prop} {t : TA} : tCB r t σ H Q = t σ H fun vs H1 => r vs H1 Q := rfl
theorem rd_cons {ta : TE} {tr : TA} : tCons ta tr σ H QA = ta σ H fun x H1 => tr σ H1 fun xs H2 => QA (x :: xs) H2 := rfl
theorem rd_nil : tNil σ H QA = QA [] H := rfl
theorem rd_call {sp : Sp} {E : XK} {t : TA} : tCallD sp E t σ H Q = t σ H fun vs H1 => sp vs H1 Q E := rfl
theorem rd_not {t : TT} : tNot t σ H QT = t σ H fun c H1 => QT (!c) H1 := rfl
theorem rd_or {t u : TT} : tOr t u σ H QT = t σ H fun c H1 => if c = true then QT true H1 else u σ H1 QT := rfl
theorem rd_and {t u : TT} : tAnd t u σ H QT = t σ H fun c H1 => if c = true then u σ H1 QT else QT false H1 := rfl
theorem rd_andV {ta tb : TE} : tAndV ta tb σ H Q = ta σ H fun x H1 => ∃ c, x = .bl c ∧ if c = true then tb σ H1 Q else Q (.bl false) H1 := rfl
theorem rd_orV {ta tb : TE} : tOrV ta tb σ H Q = ta σ H fun x H1 => ∃ c, x = .bl c ∧ if c = true then Q (.bl true) H1 else tb σ H1 Q := rfl
theorem rd_notV {ta : TE} : tNotV ta σ H Q = ta σ H fun x H1 => ∃ c, x = .bl c ∧ Q (.bl (!c)) H1 := rfl
theorem rd_if {t : TT} {ta tb : TE} : tIf t ta tb σ H Q = t σ H fun c H1 => if c = true then ta σ H1 Q else tb σ H1 Q := rfl
theorem rd_un {r : V → Hp → VK → Prop} {ta : TE} : tUn r ta σ H Q = ta σ H fun x H1 => r x H1 Q := rfl
theorem rd_eq {x y : V} : rEq x y H Q = (scal x y = true ∧ Q (.bl (decide (x = y))) H) := rfl
theorem rd_ne {x y : V} : rNe x y H Q = (scal x y = true ∧ Q (.bl (!decide (x = y))) H) := rfl
theorem rd_par {i j : Nat} {ta : TA} : tPar i j ta D σ H = ta σ H fun vs H1 => ∃ v w, vs = [v, w] ∧ D.nx ((σ.set i (some v)).set j (some w)) H1 := rfl
theorem rd_tup {t : TA} : tTup t σ H Q = t σ H fun xs H1 => xs.length ≤ sizeLine ∧ ∀ p, H1 p = none → Q (.ref p) (upd H1 p (.tup xs)) := rfl
theorem rd_lst {t : TA} : tLst t σ H Q = t σ H fun xs H1 => xs.length ≤ sizeLine ∧ ∀ p, H1 p = none → Q (.ref p) (upd H1 p (.lst xs)) := rfl
theorem rd_never : tNever D σ H = False := rfl
theorem rd_drop {te : TE} : tDrop te D σ H = te σ H fun _ H1 => D.nx σ H1 := rfl
theorem rd_gcons {t : TG} {u : TGs} {vs : List V} {N : St → Hp → Prop} : gCons t u vs σ H N = ∃ v r, vs = v :: r ∧ t v σ H fun σ' H' => u r σ' H' N := rfl
theorem rd_gnil {vs : List V} {N : St → Hp → Prop} : gNil vs σ H N = (vs = [] ∧ N σ H) := rfl
theorem rd_gsub {to ti : TE} {t : TSet} {v : V} {N : St → Hp → Prop} : gSub to ti t v σ H N = to σ H fun o H1 => ti σ H1 fun i H2 => t o i v H2 fun H3 => N σ H3 := rfl
theorem rd_chain {r r' : R2} {ta tb tc : TE} : tChain r r' ta tb tc σ H Q = ta σ H fun x H1 => tb σ H1 fun y H2 => r x y H2 fun z H3 => ∃ k, z = .bl k ∧
  (if k = true then tc σ H3 fun w' H4 => r' y w' H4 Q else Q (.bl false) H3) := rfl
theorem rd_rng1 {ta : TA} {R : It → Hp → Prop} : iRng1 ta σ H R = ta σ H fun vs H1 => ∃ j : Int, vs = [.int j] ∧ -(2 ^ 62) ≤ j ∧ j < 2 ^ 62 ∧ R (Itr 0 j.toNat) H1 := rfl
theorem rd_rng2 {ta : TA} {R : It → Hp → Prop} : iRng2 ta σ H R = ta σ H fun vs H1 => ∃ i j : Int, vs = [.int i, .int j] ∧ (-(2 ^ 62) ≤ i ∧ i < 2 ^ 62 ∧ -(2 ^ 62) ≤ j ∧ j < 2 ^ 62) ∧ R (Itr i (j - i).toNat) H1 := rfl
theorem rd_ilist {tl : TE} {R : It → Hp → Prop} : iList K tl σ H R = tl σ H fun x H1 => ∃ a, x = .ref a ∧ (∃ xs, SqL K H1 a xs) ∧ R (Itl K a) H1 := rfl
theorem rd_itup {tl : TE} {R : It → Hp → Prop} : iTup K tl σ H R = tl σ H fun x H1 => ∃ a, x = .ref a ∧ (∃ xs, SqT K H1 a xs) ∧ R (Itt K a) H1 := rfl
noncomputable def ForTail (g : TG) (tb : TS) (D : Ends) (σ : St) : It → Hp → Prop := fun J H1 => ∃ W : Nat → Nat → St → Hp → Prop, (∃ m, W 0 m σ H1) ∧ ∀ i m σ H, W i m σ H →
  (J.stop i H ∧ D.nx σ H) ∨ (J.go i H ∧ ∃ N : St → Hp → Prop, (∀ σ' H', N σ' H' → ∃ m', m' < m ∧ W (i + 1) m' σ' H') ∧ ∀ x H', J.yld i H x H' → g x σ H' fun σ2 H2 => tb { D with nx := N, ct := N, bk := D.nx } σ2 H2)
theorem rd_for' {wi : TI} {g : TG} {tb : TS} : tFor wi g tb D σ H = wi σ H (ForTail g tb D σ) := rfl
theorem forR_by {lo : Int} {n : Nat} {g : TG} {tb : TS} (Pv : Nat → St → Hp → Prop) (h0 : Pv 0 σ H)
    (hs : ∀ i σ H, i < n → Pv i σ H → g (.int (lo + i)) σ H fun σ2 H2 => tb { D with nx := Pv (i + 1), ct := Pv (i + 1), bk := D.nx } σ2 H2) (hd : ∀ σ H, Pv n σ H → D.nx σ H) : ForTail g tb D σ (Itr lo n) H := for_range Pv h0 hs hd
theorem forL_by {a : Addr} {xs : List V} {g : TG} {tb : TS} (Pv : Nat → St → Hp → Prop) (h0 : Pv 0 σ H) (hl : ∀ i σ H, i ≤ xs.length → Pv i σ H → SqL K H a xs)
    (hs : ∀ i x σ H, xs[i]? = some x → Pv i σ H → g x σ H fun σ2 H2 => tb { D with nx := Pv (i + 1), ct := Pv (i + 1), bk := D.nx } σ2 H2) (hd : ∀ σ H, Pv xs.length σ H → D.nx σ H) : ForTail g tb D σ (Itl K a) H := for_list Pv h0 hl hs hd
theorem seq_go {t u : TS} (h : ∀ rest : St → Hp → Prop, rest = u D → t { D with nx := rest } σ H) : tSeq t u D σ H := h _ rfl
theorem leaf_go {rest r : St → Hp → Prop} (h : rest = r) (q : r σ H) : rest σ H := by rw [h]; exact q
theorem cell_go {a : Addr} {ns : List Int} {k : Int} {R : List Int → Prop} (h : SqL K H a (ns.map V.int)) (h0 : 0 ≤ k) (hl : ns.length ≤ 63) (q : R ns) : ∃ x : List Int, SqL K H a (x.map V.int) ∧ 0 ≤ k ∧ x.length ≤ 63 ∧ R x := ⟨ns, h, h0, hl, q⟩
theorem cdiv_of {i j : Int} (h1 : 0 < j) (h2 : j < 1073741824) : CDiv i j := ⟨h1, h2⟩
theorem cpow_of {i j : Int} (h1 : 0 ≤ j) (h2 : j ≤ 1000000) (h3 : i.natAbs < 2 ^ 64) : CPow i j := ⟨h1, h2, h3⟩
theorem cmul_l {i j : Int} (h1 : -(2 ^ 64) < i) (h2 : i < 2 ^ 64) : CMul i j := .inl ⟨h1, h2⟩
theorem cmul_r {i j : Int} (h1 : -(2 ^ 64) < j) (h2 : j < 2 ^ 64) : CMul i j := .inr ⟨h1, h2⟩
end
end L2

set_option Elab.async false
set_option linter.all false
set_option maxRecDepth 100000
set_option maxHeartbeats 4000000
namespace L2
open PySem PySem.Spec PyProof.Rows

section
variable {P : Program} {w : World} {H : Hp} {h : Heap} {a : Addr} {o : HO}
theorem ObjOk.there (x : ObjOk P w H h a o) : ∃ ob, h.get? a = some ob := by
  cases o with
  | lst xs => obtain ⟨_, _, _, _, e⟩ := x; exact ⟨_, e⟩
  | tup xs => obtain ⟨_, _, _, _, e, _⟩ := x; exact ⟨_, e⟩
  | dK kvs => obtain ⟨_, _, _, _, _, _, _, e, _⟩ := x; exact ⟨_, e⟩
  | dT kvs => obtain ⟨_, _, _, _, _, _, _, e, _⟩ := x; exact ⟨_, e⟩
  | set S n => obtain ⟨_, _, _, _, e, _⟩ := x; exact ⟨_, e⟩
  | ins C dx fs => obtain ⟨_, _, _, e, _⟩ := x; exact ⟨_, e⟩
  | own y => exact x
  | xd fs => obtain ⟨_, ⟨_, _, _, e, _⟩, _⟩ := x; exact ⟨_, e⟩
  | rng lo hi => obtain ⟨_, _, _, e⟩ := x; exact ⟨_, e⟩
  | frz ob u => exact ⟨_, x.1⟩
  | tbl ps => exact ⟨_, x⟩
  | met f y => exact ⟨_, x⟩
  | ext φ => exact x.2.1
theorem HOk.there (x : HOk P w H h) (e : H a = some o) : ∃ ob, h.get? a = some ob := (x a o e).there
end

noncomputable def Spares (fs : List Addr) (H' : Hp) (g h B : Heap) : Prop := ∀ b o, h.get? b = some o → b ∉ fs → (H' b ≠ none ∨ ∃ u, g.get? b = some u) → B.get? b = some o
section
variable {P : Program} {w : World}
theorem stay_of {fs : List Addr} {H0 H' : Hp} {g h h3 B : Heap} (u : Un fs [] H0 H' g h) (ok : HOk P w H' h)
    (hfr : ∀ b ∈ fs, ∃ o, g.get? b = some o ∧ ∀ vs, o.data ≠ .fields vs) (hf0 : ∀ b ∈ fs, H0 b = none) (hB : Spares fs H' g h B) (st : B.StaysIn h3) (up : h.UpToSlots h3) :
    Un fs [] H0 H' g h3 ∧ HOk P w H' h3 ∧ Spares fs H' g h3 B := by
  have fr' : ∀ b ∈ fs, H' b = none := fun b hb => by
    obtain ⟨o, ho, _⟩ := hfr b hb
    exact u.free b o ho (hf0 b hb) (by simp)
  have tr : ∀ b o, H' b = some o → b ∉ fs := fun b o e hb => by rw [fr' b hb] at e; cases e
  have kp : ∀ b ob, h.get? b = some ob → b ∉ fs → (H' b ≠ none ∨ ∃ u, g.get? b = some u) → h3.get? b = some ob := fun b ob e n c => st b ob (hB b ob e n c)
  have sl : ∀ b o, g.get? b = some o → H0 b = none → b ∈ fs → b ∉ ([] : List Addr) → ∃ sl, h3.get? b = some { o with slots := sl } := fun b o e n hb hx => by
    obtain ⟨sl, e1⟩ := u.slot b o e n hb hx
    obtain ⟨o', e', d⟩ := hfr b hb
    rw [e] at e'; cases e'
    obtain ⟨sl2, e2⟩ := up b _ e1 d
    exact ⟨sl2, e2⟩
  refine ⟨⟨fun b o e n hb hx => kp b o (u.keep b o e n hb hx) hb (.inr ⟨o, e⟩), sl, u.free, fun b o e hx => ?_, u.tups, u.frzs, u.tbls⟩, fun a o e => ?_, fun b o e hb c => ?_⟩
  · by_cases hb : b ∈ fs
    · obtain ⟨s1, e1⟩ := sl b o e (hf0 b hb) hb hx
      exact ⟨_, e1⟩
    · obtain ⟨o', e1⟩ := u.there b o e hx
      exact ⟨o', kp b o' e1 hb (.inr ⟨o, e⟩)⟩
  · refine (ok a o e).stay (fun b v hc q => kp b v q ?_ (.inl ?_)) (fun _ q => q) fun _ _ q => q
    · rcases hc with rfl | hc
      · exact tr _ _ e
      · exact tr _ _ hc
    · rcases hc with rfl | hc
      · rw [e]; simp
      · rw [hc]; simp
  · have z : ∃ o1, h.get? b = some o1 := by
      rcases c with c | ⟨u0, e0⟩
      · cases q : H' b with
        | none => exact absurd q c
        | some v => exact ok.there q
      · exact u.there b u0 e0 (by simp)
    obtain ⟨o1, e1⟩ := z
    have e2 := kp b o1 e1 hb c
    rw [e] at e2; cases e2
    exact hB b o e1 hb c
end
section
variable {X : Cx} {pins : List (Addr × Obj)} {σ : St} {H1 H2 : Hp} {s1 : Shared} {h2 h3 B : Heap}
theorem Inv.frm (I : Inv X pins σ H1 s1) : ∀ b ∈ frs X.stack, ∃ o, s1.heap.get? b = some o ∧ ∀ vs, o.data ≠ .fields vs := fun b hb => (I.stack.mem hb).2
end

section
variable {P : Program} {w : World} {K : PySem.W.Frag} {mg : Str → Option Value} {base : Heap} {N : List Str} {qual : Str} {scope : Scope} {f : Addr} {cd : Value} {A : Around} {outer : List Env} {s : Shared} {H : Hp} {E : XK}
end
end L2

set_option Elab.async false
set_option linter.all false
set_option maxRecDepth 100000
set_option maxHeartbeats 4000000
namespace L2
open PySem PySem.Spec PyProof.Rows

structure ExcC (K : PySem.W.Frag) (C : Addr) : Prop where
  at_ : ∀ h : Heap, K.In h → ∃ (nm q : Str) (N : Addr) (bs bm : List Value) (hdct : Bool) (sn : List Str) (sub : List Value) (ab : Bool) (col : Option Bool) (dd : Option Addr) (k0 k1 k2 k3 k5 : Option Value) (mN : Str → Option Value),
    h.get? C = some (excClassObj nm q C N bs bm hdct sn sub ab col dd k0 k1 k2 k3 k5 "ValueError.__new__") ∧ h.Ns N mN ∧ mN "__init__" = none ∧
    OwnTail h [.type "ValueError", .type "Exception", .type "BaseException", .type "object"] bm
section
variable {X : Cx} {EE : St → XK} {C : Addr} {x : Str} {np cpos pos : Pos} {e : Expr} {es : List Expr} {t : TA}
end
section
variable {P : Program} {w : World} {K : PySem.W.Frag} {mg : Str → Option Value} {base : Heap} {N : List Str} {qual : Str} {scope : Scope} {f : Addr} {cd : Value} {A : Around} {outer : List Env} {s : Shared} {H : Hp} {E : XK}
end

section
variable {X : Cx} {CX : CXT} {k j : Nat} {ps : List Str} {sp : Sp} {EE : St → XK} {x : Str} {p pos : Pos} {e : Expr} {es : List Expr} {t : TA}
end

structure Air (X : Cx) (pins : List (Addr × Obj)) (σ : St) (H : Hp) (x : Addr) (cls : Value) (s : Shared) : Prop where
  ex : ∃ (H0 : Hp) (s0 : Shared) (a0 : Value) (B : Heap), Inv X pins σ H0 s0 ∧ s.os = s0.os ∧ AllBare s.gens ∧ Un (frs X.stack) [] H0 H s0.heap s.heap ∧ HOk X.prog X.w H s.heap ∧
    Heap.FlyingW B X.stack x cls a0 s.heap ∧ Spares (frs X.stack) H s0.heap s.heap B ∧ H x = none ∧ s0.heap.get? x = none
section
variable {X : Cx} {pins : List (Addr × Obj)} {σ : St} {H : Hp} {x : Addr} {cls : Value} {s : Shared}
theorem Air.inv (Z : Air X pins σ H x cls s) : Inv X pins σ H s := by
  obtain ⟨H0, s0, a0, B, I, os, bare, u, ok, fl, hB, hx, hn⟩ := Z.ex
  exact I.call' os u ok bare fun b hb => absurd hb (by simp)
theorem Air.obj (Z : Air X pins σ H x cls s) : ∃ ob vs, s.heap.get? x = some ob ∧ ob.cls = cls ∧ ob.data = .fields vs := by
  obtain ⟨H0, s0, a0, B, I, os, bare, u, ok, fl, hB, hx, hn⟩ := Z.ex
  obtain ⟨oe, vs, h1, h2, h3, _⟩ := fl.first
  exact ⟨oe, vs, h1, h2, h3⟩
theorem Air.turn (Z : Air X pins σ H x cls s) {M : Model} {A : Around} {t : Sem Unit} {Q : Unit → Shared → Prop} {E : Value → Shared → Prop}
    (ht : ∀ (B : Heap) (a0 : Value), Heap.FlyingW B X.stack x cls a0 s.heap → ∀ Q' : Unit → Shared → Prop, (∀ h', Heap.FlyingW B X.stack x cls a0 h' → s.heap.UpToSlots h' → Q' () { s with heap := h' }) → wpAny M A t Q' E s)
    (h : ∀ s', Air X pins σ H x cls s' → Q () s') : wpAny M A t Q E s := by
  obtain ⟨H0, s0, a0, B, I, os, bare, u, ok, fl, hB, hx, hn⟩ := Z.ex
  refine ht B a0 fl Q fun h' fl' up => h _ ?_
  obtain ⟨U, ok3, hB3⟩ := stay_of u ok I.frm I.stkFree hB fl'.1 up
  exact ⟨H0, s0, a0, B, I, os, bare, U, ok3, fl', hB3, hx, hn⟩
end
noncomputable abbrev Cx.sui (X : Cx) (x : Addr) : Cx := { X with A := X.A.mark (some (.ref x)), calm := false, xe := fun _ _ => False }
section
variable {X : Cx} {pins : List (Addr × Obj)} {σ : St} {H : Hp} {x : Addr} {cls : Value} {s : Shared}
theorem Cx.Ok.sui (ok : X.Ok) (x : Addr) : (X.sui x).Ok :=
  ⟨ok.mod, ok.kind, ok.glob, ok.blt, ok.above, ok.inj, ok.has, ok.cab, fun z => (by cases z), ok.frames, ok.stk, ok.exf, ok.bs, ok.bsz, ok.noex, ok.exfs, ok.funs, ok.frf⟩
theorem Inv.sui (I : Inv X pins σ H s) (x : Addr) : Inv (X.sui x) pins σ H s := ⟨I.ok.sui x, I.os, I.bare, I.base, I.loc, I.cell, I.free, I.freeC, I.pin, I.hok, I.len⟩
theorem Inv.unsui (I0 : X.Ok) (I : Inv (X.sui x) pins σ H s) : Inv X pins σ H s := ⟨I0, I.os, I.bare, I.base, I.loc, I.cell, I.free, I.freeC, I.pin, I.hok, I.len⟩
theorem SP.unsui (I0 : X.Ok) {D : Ends} {f : Flow} {s' : Shared} (h : SP (X.sui x) pins D f s') : SP X pins D f s' := by
  cases f with
  | next => obtain ⟨σ', H', I, q⟩ := h; exact ⟨σ', H', I.unsui I0, q⟩
  | brk => obtain ⟨σ', H', I, q⟩ := h; exact ⟨σ', H', I.unsui I0, q⟩
  | cont => obtain ⟨σ', H', I, q⟩ := h; exact ⟨σ', H', I.unsui I0, q⟩
  | ret u => obtain ⟨v, σ', H', I, r, q⟩ := h; exact ⟨v, σ', H', I.unsui I0, r, q⟩
end

noncomputable abbrev TH := Value → Addr → TS
section
variable {X : Cx} {C : Str} {c : Value} {np pos : Pos} {b₀ : Stmt} {suite : List Stmt} {rest : List ExceptHandler} {ts : TS} {tr : TH}
end

noncomputable def excO (x : Addr) (cls : Value) : HO := .ext fun h => ∃ ob vs, h.get? x = some ob ∧ ob.cls = cls ∧ ob.data = .fields vs
section
variable {X : Cx} {pins : List (Addr × Obj)} {σ : St} {H : Hp} {x : Addr} {cls : Value} {s : Shared}
theorem Air.track (Z : Air X pins σ H x cls s) (hex : X.ex = []) : Inv X pins σ (upd H x (excO x cls)) s := by
  have I := Z.inv
  obtain ⟨ob, vs, h1, h2, h3⟩ := Z.obj
  obtain ⟨H0, s0, a0, B, I0, os, bare, u, ok, fl, hB, hx, hn⟩ := Z.ex
  have n0 : X.s₀.heap.get? x = none := by
    cases q : X.s₀.heap.get? x with
    | none => rfl
    | some o =>
      obtain ⟨o', e⟩ := I0.base.there x o q (by rw [hex]; simp)
      rw [hn] at e; cases e
  have nl : x ≠ X.env.locals := by
    rintro rfl
    obtain ⟨m, ⟨o, es, ep, e, _⟩, _⟩ := I0.loc
    rw [hn] at e; cases e
  have nc : ∀ y c, X.env.cells.lookup y = some c → c ≠ x := by
    rintro y c hc rfl
    obtain ⟨v, o, e, _⟩ := I0.cell y c hc
    rw [hn] at e; cases e
  have np : ∀ p ∈ X.pn ++ pins, p.1 ≠ x := fun p hp z => by
    have e := (I0.pin p hp).1
    rw [z, hn] at e; cases e
  refine ⟨I.ok, I.os, I.bare, ⟨I.base.keep, I.base.slot, fun b o e n hb => ?_, I.base.there, fun b xs e => ?_, fun b o v e => ?_, fun b ps e => ?_⟩, I.loc, I.cell, ?_, fun y c hc => ?_, fun p hp => ?_, fun b o e => ?_, I.len⟩
  · rw [upd_ne (by rintro rfl; rw [n0] at e; cases e)]
    exact I.base.free b o e n hb
  · have e1 := I.base.tups b xs e
    rw [upd_ne (ne_of_none e1 hx)]; exact e1
  · have e1 := I.base.frzs b o v e
    rw [upd_ne (ne_of_none e1 hx)]; exact e1
  · obtain ⟨m, e1⟩ := I.base.tbls b ps e
    exact ⟨m, by rw [upd_ne (ne_of_none e1 hx)]; exact e1⟩
  · rw [upd_ne nl.symm]; exact I.free
  · rw [upd_ne (nc y c hc)]; exact I.freeC y c hc
  · obtain ⟨a1, a2, a3, a4, a5⟩ := I.pin p hp
    exact ⟨a1, by rw [upd_ne (np p hp)]; exact a2, a3, a4, a5⟩
  · by_cases hb : b = x
    · subst hb
      rw [upd_same] at e; cases e
      refine ⟨⟨ob, vs, h1, h2, h3⟩, ⟨ob, h1⟩, fun g1 g2 ⟨o1, v1, e1, e2, e3⟩ k => ⟨o1, v1, k o1 e1, e2, e3⟩⟩
    · rw [upd_ne hb] at e
      exact (I.hok b o e).stay (fun _ _ _ q => q) (fun c q => by rw [upd_ne (ne_of_none q hx)]; exact q) fun c xs q => by rw [upd_ne (ne_of_none q hx)]; exact q
end
section
variable {X : Cx} {C n : Str} {c : Value} {i : Nat} {np pos : Pos} {b₀ : Stmt} {suite : List Stmt} {rest : List ExceptHandler} {ts : TS} {tr : TH}
end

noncomputable abbrev Cx.tryX (X : Cx) (pn : List (Addr × Obj)) (xe : Value → Shared → Prop) : Cx := { X with pn := pn, xe := xe }
section
variable {X : Cx} {body : List Stmt} {h₀ : ExceptHandler} {hs : List ExceptHandler} {pos : Pos} {tb : (St → XK) → TS} {th : TH} {pins : List (Addr × Obj)} {σ : St} {H : Hp} {s : Shared} {pn : List (Addr × Obj)} {xe : Value → Shared → Prop}
theorem Inv.tryOut {pl : List (Addr × Obj)} (I0 : X.Ok) (I : Inv (X.tryX (X.pn ++ pins) xe) pl σ H s) : Inv X pins σ H s :=
  ⟨I0, I.os, I.bare, I.base, I.loc, I.cell, I.free, I.freeC, fun p hp => I.pin p (List.mem_append_left _ hp), I.hok, I.len⟩
theorem SP.tryOut {pl : List (Addr × Obj)} (I0 : X.Ok) {D : Ends} {f : Flow} {s' : Shared} (h : SP (X.tryX (X.pn ++ pins) xe) pl D f s') : SP X pins D f s' := by
  cases f with
  | next => obtain ⟨σ', H', I, q⟩ := h; exact ⟨σ', H', I.tryOut I0, q⟩
  | brk => obtain ⟨σ', H', I, q⟩ := h; exact ⟨σ', H', I.tryOut I0, q⟩
  | cont => obtain ⟨σ', H', I, q⟩ := h; exact ⟨σ', H', I.tryOut I0, q⟩
  | ret u => obtain ⟨v, σ', H', I, r, q⟩ := h; exact ⟨v, σ', H', I.tryOut I0, r, q⟩
end
end L2

set_option Elab.async false
set_option linter.all false
set_option maxRecDepth 100000
set_option maxHeartbeats 4000000
namespace L2
open PySem PySem.Spec PyProof.Rows PySem.W

section
variable {X : Cx}
end

section
variable {σ : St} {H : Hp} {Q : VK} {D : Ends} {K : Frag}
end

end L2

set_option Elab.async false
set_option linter.all false
set_option maxRecDepth 100000
set_option maxHeartbeats 4000000
namespace L2
open PySem PySem.Spec PyProof.Rows

theorem compLoop_any {prog : Program} {w : World} {A : Around} {R : Result → Shared → Prop} {s : Shared} {elt target iter : Expr} {ifs : List Expr} {scope : Scope} {pos : Pos} {it acc : Value} {env : Env} (I : Nat → Shared → Prop)
    (turn : ∀ n s, I n s → wpAny (model prog w) A (pyNext it) (fun r s₁ => match r with
      | none => R (.ok .next) s₁
      | some v => wpAny (model prog w) A (letOwnedTupleGo target it v) (fun _ s₁ => wpAny (model prog w) A (assign target env v) (fun _ s₂ =>
          wpAny (model prog w) A (forIn ifs true fun c r => if r = true then do let ok ← isTrue c env (eval c env); pure (ForInStep.yield ok) else pure (ForInStep.yield r)) (fun ok s₃ =>
            if ok = true then wpAny (model prog w) A (eval elt env) (fun x s₄ =>
              wpAny (model prog w) A (call (.builtin "list.append") [acc, x]) (fun _ s₅ => ∃ m, m < n ∧ I m s₅) (notedBy (model prog w) A env fun e s' => R (.error e) s') s₄) (notedBy (model prog w) A env fun e s' => R (.error e) s') s₃
            else ∃ m, m < n ∧ I m s₃) (notedBy (model prog w) A env fun e s' => R (.error e) s') s₂) (notedBy (model prog w) A env fun e s' => R (.error e) s') s₁) (notedBy (model prog w) A env fun e s' => R (.error e) s') s₁) (notedBy (model prog w) A env fun e s' => R (.error e) s') s)
    (n : Nat) (h : I n s) :
    codeAny (model prog w) A (.compLoop (.ListComp elt [⟨target, iter, ifs, 0⟩] scope pos) 0 it acc env) R s := by
  refine codeAny_loop rfl I (fun n s hI => ?_) n h
  show wpAny _ A ((compTurn (.ListComp elt [⟨target, iter, ifs, 0⟩] scope pos) 0 it acc env).onRaise (fun x => do noteFrame x env; theTreesLotGoes x)) _ _ s
  refine wpAny_noted ?_
  rw [compTurn_list]
  refine wpAny_bind (wpAny_standAt (wpAny_bind (wpAny_mono (turn n s hI) (fun r s₁ h₁ => ?_) fun _ _ h' => h')))
  cases r with
  | none => exact wpAny_pure h₁
  | some v =>
    refine wpAny_bind (wpAny_mono h₁ (fun _ s₁ h₁ => ?_) fun _ _ h' => h')
    refine wpAny_bind (wpAny_mono h₁ (fun _ s₂ h₂ => wpAny_bind (wpAny_mono h₂ (fun ok s₃ h₃ => ?_) fun _ _ h' => h')) fun _ _ h' => h')
    cases ok with
    | false => exact wpAny_pure ⟨rfl, h₃⟩
    | true =>
      exact wpAny_bind (wpAny_bind (wpAny_mono h₃ (fun x s₄ h₄ => wpAny_bind (wpAny_mono h₄ (fun _ s₅ h₅ => wpAny_pure (wpAny_pure ⟨rfl, h₅⟩)) fun _ _ h' => h')) fun _ _ h' => h'))

noncomputable def clo (env : Env) : List (Str × NameKind) → List (Str × Addr) → List (Str × Addr)
  | [], cs => cs
  | (n, k) :: r, cs => clo env r (if (k == .free) = true then (match env.cells.lookup n with | some c => (n, c) :: cs | none => cs) else cs)
theorem clo_loop {env : Env} : ∀ (names : List (Str × NameKind)) (cs : List (Str × Addr)), (∀ y ∈ names, y.2 = .free → ∃ c, env.cells.lookup y.1 = some c) →
    (forIn (m := Sem) names cs fun (x : Str × NameKind) (r : List (Str × Addr)) => match x with | (name, kind) => if (kind == .free) = true then do let c ← cellOf env name; pure (ForInStep.yield ((name, c) :: r)) else pure (ForInStep.yield r)) = pure (clo env names cs)
  | [], cs, _ => rfl
  | (n, k) :: r, cs, h => by
    rw [List.forIn_cons]
    have ih := fun cs => clo_loop r cs fun y hy => h y (List.mem_cons_of_mem _ hy)
    by_cases hk : (k == NameKind.free) = true
    · obtain ⟨c, hc⟩ := h (n, k) List.mem_cons_self (by simpa using hk)
      have e : cellOf env n = pure c := by unfold cellOf; rw [show env.cells.lookup n = some c from hc]
      simp only [hk, if_true, e, clo]
      rw [show env.cells.lookup n = some c from hc]
      exact ih _
    · simp only [hk, clo]
      exact ih _
theorem clo_closure {scope : Scope} {env : Env} (h : ∀ y ∈ scope.names, y.2 = .free → ∃ c, env.cells.lookup y.1 = some c) : closureFor scope env = pure (clo env scope.names []) := by
  unfold closureFor
  show (forIn (m := Sem) scope.names ([] : List (Str × Addr)) _ >>= fun r => pure r) = _
  rw [clo_loop scope.names [] h]
  rfl

theorem clo_cells {env : Env} {x : Str} {c : Addr} : ∀ (names : List (Str × NameKind)) (cs : List (Str × Addr)), (clo env names cs).lookup x = some c → env.cells.lookup x = some c ∨ cs.lookup x = some c
  | [], cs, h => .inr h
  | (n, k) :: r, cs, h => by
    unfold clo at h
    rcases clo_cells r _ h with q | q
    · exact .inl q
    · split at q
      · split at q
        · rename_i c' hc
          rw [List.lookup_cons] at q
          cases hx : x == n with
          | true =>
            rw [hx] at q
            have e : x = n := by simpa using hx
            subst e
            simp only [Option.some.injEq] at q
            subst q
            exact .inl hc
          | false => rw [hx] at q; exact .inr q
        · exact .inr q
      · exact .inr q
theorem clo_has {env : Env} {x : Str} {c : Addr} (hc : env.cells.lookup x = some c) : ∀ (names : List (Str × NameKind)) (cs : List (Str × Addr)), (cs.lookup x = some c ∨ (cs.lookup x = none ∧ (x, NameKind.free) ∈ names)) → (clo env names cs).lookup x = some c
  | [], cs, h => by
    rcases h with h | ⟨_, h⟩
    · exact h
    · cases h
  | (n, k) :: r, cs, h => by
    unfold clo
    refine clo_has hc r _ ?_
    by_cases hx : x = n
    · subst hx
      by_cases hk : (k == NameKind.free) = true
      · rw [if_pos hk, hc]
        exact .inl (by simp [List.lookup_cons])
      · rw [if_neg hk]
        rcases h with h | ⟨h1, h2⟩
        · exact .inl h
        · refine .inr ⟨h1, ?_⟩
          rcases List.mem_cons.mp h2 with e | e
          · cases e; exact absurd rfl hk
          · exact e
    · have hb : (x == n) = false := by simpa using hx
      have key : ∀ cs' : List (Str × Addr), cs'.lookup x = cs.lookup x → (cs'.lookup x = some c ∨ (cs'.lookup x = none ∧ (x, NameKind.free) ∈ r)) := fun cs' e => by
        rw [e]
        rcases h with h | ⟨h1, h2⟩
        · exact .inl h
        · refine .inr ⟨h1, ?_⟩
          rcases List.mem_cons.mp h2 with e | e
          · cases e; exact absurd rfl hx
          · exact e
      refine key _ ?_
      split
      · split
        · simp [List.lookup_cons, hb]
        · rfl
      · rfl
theorem relabel_kind {env : Env} {k' : NameKind} : ∀ {names : List (Str × NameKind)} {x : Str}, (∀ y ∈ names, y.2 ≠ .cell) →
    (names.map fun (n, k) => if (k == NameKind.free && env.scope.kind == .function && env.kindOf n == some .cell) then (n, NameKind.cell) else (n, k)).lookup x = some k' → (k' = .cell ∨ k' = .free) → (x, NameKind.free) ∈ names
  | [], _, _, h, _ => by simp at h
  | (n, k) :: r, x, hc, h, hk => by
    have ih := @relabel_kind env k' r x (fun y hy => hc y (List.mem_cons_of_mem _ hy))
    have h' : List.lookup x ((if (k == NameKind.free && env.scope.kind == .function && env.kindOf n == some .cell) = true then (n, NameKind.cell) else (n, k)) :: (r.map fun (n, k) => if (k == NameKind.free && env.scope.kind == .function && env.kindOf n == some .cell) then (n, NameKind.cell) else (n, k))) = some k' := h
    by_cases hx : x = n
    · subst hx
      by_cases q : (k == NameKind.free && env.scope.kind == .function && env.kindOf x == some .cell) = true
      · have : k = .free := by simp only [Bool.and_eq_true, beq_iff_eq] at q; exact q.1.1
        subst this
        exact List.mem_cons_self
      · rw [if_neg q, List.lookup_cons] at h'
        simp only [beq_self_eq_true] at h'
        have e : k = k' := Option.some.inj h'
        rcases hk with z | z
        · exact absurd (e.trans z) (hc (x, k) List.mem_cons_self)
        · rw [e.trans z]; exact List.mem_cons_self
    · have hb : (x == n) = false := by simpa using hx
      refine List.mem_cons_of_mem _ (ih ?_ hk)
      split at h'
      · rw [List.lookup_cons, hb] at h'; exact h'
      · rw [List.lookup_cons, hb] at h'; exact h'
theorem lookup_relabel_free {env : Env} : ∀ {names : List (Str × NameKind)} {x : Str}, names.lookup x = some .free →
    (names.map fun (n, k) => if (k == NameKind.free && env.scope.kind == .function && env.kindOf n == some .cell) then (n, NameKind.cell) else (n, k)).lookup x = some .cell ∨
    (names.map fun (n, k) => if (k == NameKind.free && env.scope.kind == .function && env.kindOf n == some .cell) then (n, NameKind.cell) else (n, k)).lookup x = some .free
  | [], _, h => by simp at h
  | (n, k) :: r, x, h => by
    have ih := @lookup_relabel_free env r x
    show List.lookup x ((if (k == NameKind.free && env.scope.kind == .function && env.kindOf n == some .cell) = true then (n, NameKind.cell) else (n, k)) :: _) = _ ∨ List.lookup x ((if (k == NameKind.free && env.scope.kind == .function && env.kindOf n == some .cell) = true then (n, NameKind.cell) else (n, k)) :: _) = _
    cases hx : x == n with
    | true =>
      simp only [List.lookup_cons, hx] at h
      cases h
      split
      · left; simp [List.lookup_cons, hx]
      · right; simp [List.lookup_cons, hx]
    | false =>
      simp only [List.lookup_cons, hx] at h
      split
      · simp only [List.lookup_cons, hx]; exact ih h
      · simp only [List.lookup_cons, hx]; exact ih h

structure Blk where
  s : Shared
  H : Hp
  C : Addr
  fp : List Addr
noncomputable abbrev Cx.blk (X : Cx) (scope : Scope) (N' : List Str) (b : Blk) : Cx :=
  { X with N := N', s₀ := b.s, H₀ := b.H, env := compEnvC scope (clo X.env scope.names []) b.C X.env, outer := X.stack, ex := b.fp, fn := fun _ => false, pn := [], xe := fun _ _ => False }
noncomputable def around (N : List Str) (fs : List Nat) : List Str := fs.map fun j => N.getD j ""
noncomputable def compOkB (N : List Str) (esc scope : Scope) (xs : List Str) (fs : List Nat) : Bool :=
  decide (xs ++ around N fs).Nodup && (match scope.kind with | .function => true | _ => false) && xs.all (fun x => decide (scope.names.lookup x = some .local)) &&
  scope.names.all (fun y => decide (y.2 ≠ .cell) && (!decide (y.2 = .local) || decide (scope.names.lookup y.1 = some .local)) && (!decide (y.2 = .free) || decide (esc.names.lookup y.1 = some .cell) || decide (esc.names.lookup y.1 = some .free))) &&
  fs.all fun j => decide (j < N.length) && decide (scope.names.lookup (N.getD j "") = some .free)
structure CompOk (N : List Str) (esc scope : Scope) (xs : List Str) (fs : List Nat) : Prop where
  nd : (xs ++ around N fs).Nodup
  kind : scope.kind = .function
  own : ∀ x ∈ xs, scope.names.lookup x = some .local
  cell : ∀ y ∈ scope.names, y.2 ≠ .cell
  names : ∀ y ∈ scope.names, y.2 = .local → scope.names.lookup y.1 = some .local
  free : ∀ y ∈ scope.names, y.2 = .free → esc.names.lookup y.1 = some .cell ∨ esc.names.lookup y.1 = some .free
  fs : ∀ j ∈ fs, j < N.length ∧ scope.names.lookup (N.getD j "") = some .free
theorem compOk_of {N : List Str} {esc scope : Scope} {xs : List Str} {fs : List Nat} (h : compOkB N esc scope xs fs = true) : CompOk N esc scope xs fs := by
  unfold compOkB at h
  simp only [Bool.and_eq_true, decide_eq_true_eq, List.all_eq_true] at h
  obtain ⟨⟨⟨⟨h1, h2⟩, h3⟩, h4⟩, h5⟩ := h
  refine ⟨h1, ?_, h3, fun y hy => (h4 y hy).1.1, fun y hy e => ?_, fun y hy e => ?_, h5⟩
  · split at h2
    · assumption
    · cases h2
  · have := (h4 y hy).1.2
    simpa [e] using this
  · have := (h4 y hy).2
    simpa [e] using this

section
variable {X : Cx} {pins : List (Addr × Obj)} {σ : St} {H : Hp} {s : Shared} {scope : Scope} {xs : List Str} {fs : List Nat} {fp : List Addr} {C : Addr}
theorem blk_ok (I : Inv X pins σ H s) (O : CompOk X.N X.env.scope scope xs fs) (hf : ∀ b ∈ fp, FpOk X pins H b) (hC : s.heap.objs.size ≤ C) (hfp : ∀ b ∈ fp, b < s.heap.objs.size) : (X.blk scope (xs ++ around X.N fs) ⟨s, H, C, fp⟩).Ok := by
  have hcl : ∀ x c, (clo X.env scope.names []).lookup x = some c → X.env.cells.lookup x = some c := fun x c e => by
    rcases clo_cells _ _ e with q | q
    · exact q
    · cases q
  have hsz : ∀ b o, X.base.get? b = some o → b < X.s₀.heap.objs.size := fun b o e => Nat.lt_of_lt_of_le (Heap.lt_size e) I.ok.bsz
  refine ⟨I.ok.mod, O.kind, I.ok.glob, I.ok.blt, hC, fun x y c h1 h2 => I.ok.inj x y c (hcl x c h1) (hcl y c h2), fun x hx => ?_, fun x c z => (by cases z), I.ok.hd, I.ok.frames, .inl rfl, fun b hb => ⟨Nat.ne_of_lt (Nat.lt_of_lt_of_le (hfp b hb) hC), fun x c e => (hf b hb).2.2.2.2.1 x c (hcl x c e)⟩, I.bs, Nat.le_trans I.ok.bsz I.sz, fun b o e hb => ?_, fun b hb hs => ?_, I.stack, I.stkFree⟩
  · have hm : (x, NameKind.free) ∈ scope.names := by
      rcases hx with hx | hx
      · exact relabel_kind (env := X.env) O.cell (show (scope.names.map _).lookup x = some NameKind.cell from hx) (.inl rfl)
      · exact relabel_kind (env := X.env) O.cell (show (scope.names.map _).lookup x = some NameKind.free from hx) (.inr rfl)
    obtain ⟨c, hc⟩ := I.ok.has x (O.free _ hm rfl)
    exact ⟨c, clo_has hc _ _ (.inr ⟨rfl, hm⟩)⟩
  · obtain ⟨_, _, _, h4, _⟩ := hf b hb
    rcases h4 with h4 | h4
    · exact I.ok.noex b o e h4
    · exact absurd (Nat.lt_of_lt_of_le (hsz b o e) h4) (Nat.lt_irrefl _)
  · obtain ⟨_, h2, h3, _⟩ := hf b hb
    exact (List.mem_cons.mp (I.stkSub b hs)).elim h2 h3
theorem blk_in {h1 : Heap} {t : Nat} {D : Addr} {m : Str → Option Value} (I : Inv X pins σ H s) (O : CompOk X.N X.env.scope scope xs fs) (hf : ∀ b ∈ fp, FpOk X pins H b) (hD : s.heap.objs.size ≤ D) (hC : s.heap.objs.size ≤ C) (hfp : ∀ b ∈ fp, b < s.heap.objs.size) (hDC : D ≠ C)
    (k : ∀ b u, s.heap.get? b = some u → h1.get? b = some u) (hDo : h1.get? D = some { cls := .type "list", data := .seq #[] 0 }) (hn : h1.Ns C m) :
    Inv (X.blk scope (xs ++ around X.N fs) ⟨s, H, C, fp⟩) [] (xs.map (fun _ => none) ++ fs.map fun j => σ.getD j none) (upd H D (.lst [])) { s with heap := h1, toks := t } := by
  have hcl : ∀ x c, (clo X.env scope.names []).lookup x = some c → X.env.cells.lookup x = some c := fun x c e => by
    rcases clo_cells _ _ e with q | q
    · exact q
    · cases q
  have ok := blk_ok (C := C) I O hf hC hfp
  have hnD : H D = none := I.hok.fresh hD
  refine ⟨ok, rfl, I.bare, Un.laid k hD hnD, ⟨m, hn, fun i x v e1 e2 e3 => ?_⟩, fun x c e => ?_, ?_, fun x c e => ?_, fun p hp => absurd (show p ∈ ([] : List (Addr × Obj)) from hp) (by simp), I.hok.laid k hD ⟨Nat.zero_le _, [], 0, .nil, hDo⟩, by simp [around]⟩
  · by_cases hi : i < xs.length
    · rw [List.getElem?_append_left (by simpa using hi), List.getElem?_map] at e2
      cases q : xs[i]? with
      | none => rw [q] at e2; cases e2
      | some a => rw [q] at e2; cases e2
    · have hi : xs.length ≤ i := Nat.le_of_not_lt hi
      rw [List.getElem?_append_right (by simpa using hi)] at e1 e2
      unfold around at e1
      rw [List.length_map] at e2
      rw [List.getElem?_map] at e1 e2
      cases q : fs[i - xs.length]? with
      | none => rw [q] at e2; cases e2
      | some j =>
        rw [q] at e1 e2
        simp only [Option.map_some, Option.some.injEq] at e1 e2
        obtain ⟨hj, hl⟩ := O.fs j (List.mem_of_getElem? q)
        obtain ⟨m0, _, hl0⟩ := I.loc
        have e1' : X.N[j]? = some x := by rw [← e1, List.getD_eq_getElem?_getD, List.getElem?_eq_getElem hj]; rfl
        have e2' : σ[j]? = some (some v) := by
          rw [List.getD_eq_getElem?_getD] at e2
          cases z : σ[j]? with
          | none => rw [z] at e2; cases e2
          | some y => rw [z] at e2; simp only [Option.getD_some] at e2; rw [e2]
        rw [e1] at hl
        have hm : (x, NameKind.free) ∈ scope.names := PySem.mem_of_lookup hl
        have hk := O.free _ hm rfl
        obtain ⟨u, r, l⟩ := hl0 j x v e1' e2' (hk.elim (fun z => .inr (.inl z)) fun z => .inr (.inr z))
        refine ⟨u, r, ?_⟩
        rcases l with ⟨z, _⟩ | ⟨_, c, hc, cell⟩
        · have z' : X.env.scope.names.lookup x = some .local := z
          rcases hk with hk | hk <;> (rw [z'] at hk; cases hk)
        · refine .inr ⟨?_, c, clo_has hc _ _ (.inr ⟨rfl, hm⟩), ?_⟩
          · exact lookup_relabel_free (env := X.env) hl
          · obtain ⟨o, ho, hd⟩ := cell
            exact ⟨o, k _ _ ho, hd⟩
  · obtain ⟨v, o, ho, hd⟩ := I.cell x c (hcl x c e)
    exact ⟨v, o, k _ _ ho, hd⟩
  · show upd H D (.lst []) C = none
    rw [upd_ne (Ne.symm hDC)]; exact I.hok.fresh hC
  · obtain ⟨v, q⟩ := I.cell x c (hcl x c e)
    rw [upd_ne (Nat.ne_of_lt (Nat.lt_of_lt_of_le q.lt hD))]
    exact I.freeC x c (hcl x c e)
theorem blk_out {N' : List Str} {σ' : St} {H' : Hp} {s' : Shared} {h2 : Heap} {pl : List (Addr × Obj)} (I : Inv X pins σ H s) (hf : ∀ b ∈ fp, FpOk X pins H b) (hC : s.heap.objs.size ≤ C) (J : Inv (X.blk scope N' ⟨s, H, C, fp⟩) pl σ' H' s') (sb : Heap.SameBut C s'.heap h2) :
    Inv X pins σ H' { s' with heap := h2 } := by
  have u := J.base
  have ne : ∀ b o, s.heap.get? b = some o → b ≠ C := fun b o e => Nat.ne_of_lt (Nat.lt_of_lt_of_le (Heap.lt_size e) hC)
  refine I.call' (ch := fp) J.os ⟨fun b o e n h1 h2 => (sb.2 b (ne b o e)).trans (u.keep b o e n h1 h2), fun b o e n h1 h2 => ?_, u.free, fun b o e hx => ?_, u.tups, u.frzs, u.tbls⟩ (fun a o e => ?_) J.bare fun b hb => ?_
  · obtain ⟨sl, q⟩ := u.slot b o e n h1 h2
    exact ⟨sl, (sb.2 b (ne b o e)).trans q⟩
  · obtain ⟨o', q⟩ := u.there b o e hx
    exact ⟨o', (sb.2 b (ne b o e)).trans q⟩
  · have fr : H' C = none := J.free
    refine (J.hok a o e).stay (fun b v hc q => (sb.2 b ?_).trans q) (fun _ q => q) fun _ _ q => q
    rcases hc with rfl | hc
    · exact ne_of_none e fr
    · exact ne_of_none hc fr
  · obtain ⟨_, h2, h3, h4, h5, h6⟩ := hf b hb
    exact ⟨h4, h2, h5, h6⟩
end
end L2

set_option Elab.async false
set_option linter.all false
set_option maxRecDepth 100000
set_option maxHeartbeats 4000000
namespace L2
open PySem PySem.Spec PyProof.Rows

noncomputable def Kept (σ σ' : St) : Prop := ∀ (i : Nat) (v : V), σ[i]? = some (some v) → σ'[i]? = some (some v)
noncomputable def PTs (X : Cx) (ifs : List Expr) (t : TT) : Prop :=
  ∀ (pins : List (Addr × Obj)) (s : Shared) (σ : St) (H : Hp) (Q : Bool → Hp → Prop), Inv X pins σ H s → t σ H Q →
    wpAny (model X.prog X.w) X.A (forIn ifs true fun c r => if r = true then do let ok ← isTrue c X.env (eval c X.env); pure (ForInStep.yield ok) else pure (ForInStep.yield r)) (TP X pins σ Q) X.xe s
noncomputable def tYes : TT := fun _ H Q => Q true H
theorem pts_nil {X : Cx} : PTs X [] tYes := fun _ _ _ H _ I h => wpAny_tests_nil ⟨H, I, h⟩
theorem pts_one {X : Cx} {c : Expr} {t : TT} (hc : PT X c t) : PTs X [c] t := fun pins s σ H Q I h => wpAny_tests_one (hc pins s σ H Q I h)

noncomputable def CompTail (σ0 : St) (g : Blk → TG) (tt : Blk → TT) (te : Blk → TE) (Q : VK) (J : It) (H1 : Hp) : Prop := ∀ (b : Blk) (D : Addr), H1 D = none → ∃ W : Nat → Nat → List V → Hp → Prop, (∃ m, W 0 m [] (upd H1 D (.lst []))) ∧ ∀ i m ys H2, W i m ys H2 → H2 D = some (.lst ys) ∧
  ((J.stop i H2 ∧ Q (.ref D) H2) ∨ (J.go i H2 ∧ ∀ x H3, J.yld i H2 x H3 → g b x σ0 H3 fun σ6 H6 => Kept σ0 σ6 ∧ tt b σ6 H6 fun ok H7 =>
    if ok = true then te b σ6 H7 fun y H8 => H8 D = some (.lst ys) ∧ ys.length < sizeLine ∧ ∃ m', m' < m ∧ W (i + 1) m' (ys ++ [y]) (upd H8 D (.lst (ys ++ [y])))
    else ∃ m', m' < m ∧ W (i + 1) m' ys H7))
noncomputable def tComp (wi : TI) (n : Nat) (fs : List Nat) (g : Blk → TG) (tt : Blk → TT) (te : Blk → TE) : TE := fun σ H Q => wi σ H (CompTail (List.replicate n none ++ fs.map fun j => σ.getD j none) g tt te Q)

section
variable {X : Cx} {pins : List (Addr × Obj)} {σ : St} {scope : Scope} {xs : List Str} {fs : List Nat} {elt tg iter : Expr} {ifs : List Expr} {pos : Pos} {wi : TI} {g : Blk → TG} {tt : Blk → TT} {te : Blk → TE}
theorem turned_of {H : Hp} {s : Shared} {C : Addr} {h2 : Heap} (I : Inv X pins σ H s) (F : FpOk X pins H C) (sb : Heap.SameBut C s.heap h2) : Inv X pins σ H { s with heap := h2 } :=
  I.turned (t' := s.toks) (fun b o hb e => (sb.2 b hb).trans e) F.1 F.2.1 F.2.2.2.1 F.2.2.2.2.1 F.2.2.2.2.2
theorem comp_run {Q : VK} {itv : Value} {s2 : Shared} {E : Value → Shared → Prop} {RR : Value → Addr → Result → Shared → Prop} (hc : X.calm = true) (O : CompOk X.N X.env.scope scope xs fs)
    (hg : ∀ b, PG (X.blk scope (xs ++ around X.N fs) b) tg (g b)) (ht : ∀ b, PTs (X.blk scope (xs ++ around X.N fs) b) ifs (tt b)) (he : ∀ b, PE (X.blk scope (xs ++ around X.N fs) b) elt (te b))
    (h : PIE X pins σ tg (CompTail (List.replicate xs.length none ++ fs.map fun j => σ.getD j none) g tt te Q) itv s2)
    (hR : ∀ D C s' m H', s'.heap.Ns C m → Inv X pins σ H' s' → Q (.ref D) H' → FpOk X pins H' C → RR (.ref D) C (.ok .next) s') :
    wpAny (model X.prog X.w) X.A (newList []) (fun acc s₃ => wpAny (model X.prog X.w) X.A (newFunctionEnv scope X.env.globals (clo X.env scope.names []) [] X.env.qual none .none (some X.env)) (fun cenv s₄ =>
      codeAny (model X.prog X.w) X.A (.compStart (.ListComp elt [⟨tg, iter, ifs, 0⟩] scope pos) 0 itv acc { cenv with scope := relabel scope X.env }) (RR acc cenv.locals) s₄) E s₃) E s2 := by
  obtain ⟨it, fp, tn, J, H2, rfl, I2, T, st2, f2, rd⟩ := h
  have hfp : ∀ b ∈ fp, b < s2.heap.objs.size := fun b hb => by
    obtain ⟨o, e, _⟩ := T.obj _ _ st2 b hb
    exact Heap.lt_size e
  refine wpAny_newObj_type (wpAny_newFunctionEnv O.cell (by intro y hy; simp at hy) (fun h₁ hns₁ hsb₁ => ?_) O.kind)
  dsimp only at hns₁ hsb₁ ⊢
  generalize hH2 : s2.heap.push { cls := .type "list", dict := none, data := .seq ([] : List Value).toArray } = HH at hns₁ hsb₁ ⊢
  have hC : HH.objs.size = s2.heap.objs.size + 1 := by rw [← hH2, Heap.size_push]
  have hDC : s2.heap.objs.size ≠ HH.objs.size := by rw [hC]; exact Nat.ne_of_lt (Nat.lt_succ_self _)
  have hCle : s2.heap.objs.size ≤ HH.objs.size := by rw [hC]; exact Nat.le_succ _
  have old : ∀ b o, s2.heap.get? b = some o → h₁.get? b = some o := fun b o e => hsb₁.extBut b o (by rw [hC]; exact Nat.ne_of_lt (Nat.lt_succ_of_lt (Heap.lt_size e))) (Heap.get?_push_of_some _ (hH2 ▸ Heap.get?_push_of_some _ e))
  have hacc : h₁.get? s2.heap.objs.size = some { cls := .type "list", data := .seq #[] 0 } := hsb₁.extBut _ _ hDC (Heap.get?_push_of_some _ (hH2 ▸ Heap.get?_push_size _ rfl))
  obtain ⟨W, ⟨m0, w0⟩, turn⟩ := rd ⟨s2, H2, HH.objs.size, fp⟩ s2.heap.objs.size I2.fresh
  have I3 := blk_in (t := s2.toks + ([] : List (Str × Value)).length) I2 O f2 (Nat.le_refl _) hCle hfp hDC old hacc hns₁
  rw [show xs.map (fun _ => (none : Option V)) = List.replicate xs.length none from List.map_const' ..] at I3
  generalize hX : X.blk scope (xs ++ around X.N fs) ⟨s2, H2, HH.objs.size, fp⟩ = X' at I3
  have stat : ∀ {H' : Hp}, (∀ b ∈ fp, H' b = none) → ∀ b ∈ fp, FpOk X' [] H' b := fun hn b hb => by
    subst hX
    refine ⟨hn b hb, ?_, ?_, .inl hb, fun x c e => ?_, fun p hp => absurd hp (by simp)⟩
    · exact (I3.ok.exf b hb).1
    · exact I3.ok.exfs b hb
    · exact (I3.ok.exf b hb).2 x c e
  have fr3 : ∀ b ∈ fp, upd H2 s2.heap.objs.size (.lst []) b = none := fun b hb => by
    rw [upd_ne (Nat.ne_of_lt (hfp b hb))]; exact (f2 b hb).1
  have ccell : ∀ y c, X.env.cells.lookup y = some c → c ≠ HH.objs.size := fun y c e => by
    obtain ⟨v, q⟩ := I2.cell y c e
    exact Nat.ne_of_lt (Nat.lt_of_lt_of_le q.lt hCle)
  have cloc : HH.objs.size ≠ X.env.locals := (Nat.ne_of_lt (Nat.lt_of_lt_of_le I2.lt hCle)).symm
  have eP : X'.prog = X.prog := by rw [← hX]
  have ew : X'.w = X.w := by rw [← hX]
  have eK : X'.K = X.K := by rw [← hX]
  have eA : X'.A = X.A := by rw [← hX]
  have ec : X'.calm = true := by rw [← hX]; exact hc
  have ex : X'.xe = fun _ _ => False := by rw [← hX]
  have een : X'.env = compEnvC scope (clo X.env scope.names []) HH.objs.size X.env := by rw [← hX]
  have hg' := hg ⟨s2, H2, HH.objs.size, fp⟩
  have ht' := ht ⟨s2, H2, HH.objs.size, fp⟩
  have he' := he ⟨s2, H2, HH.objs.size, fp⟩
  rw [hX] at hg' ht' he'
  have st1 : tn 0 h₁ := T.keep _ _ _ st2 fun b hb o e => old b o e
  have loop : ∀ s₃ : Shared, s₃ = { s2 with heap := h₁, toks := s2.toks + ([] : List (Str × Value)).length } →
      codeAny (model X.prog X.w) X.A (.compLoop (.ListComp elt [⟨tg, iter, ifs, 0⟩] scope pos) 0 (.ref it) (.ref s2.heap.objs.size) (compEnvC scope (clo X.env scope.names []) HH.objs.size X.env))
        (RR (.ref s2.heap.objs.size) HH.objs.size) s₃ := by
    rintro s₃ rfl
    refine compLoop_any (fun n s' => ∃ i ys H', Inv X' [] (List.replicate xs.length none ++ fs.map fun j => σ.getD j none) H' s' ∧ tn i s'.heap ∧ (∀ b ∈ fp, H' b = none) ∧ W i n ys H') ?_ m0 ⟨0, [], _, I3, st1, fr3, w0⟩
    rintro n s4 ⟨i, ys, H4, I4, st4, fr4, w4⟩
    obtain ⟨hD4, tn4⟩ := turn i n ys H4 w4
    rcases tn4 with ⟨stop, qn⟩ | ⟨go, step⟩
    · have td := T.done X' eP ew eK ec i [] s4 _ H4 (notedBy (model X.prog X.w) X.A (compEnvC scope (clo X.env scope.names []) HH.objs.size X.env) fun e s' => RR (.ref s2.heap.objs.size) HH.objs.size (.error e) s') I4 (stat fr4) st4 stop
      rw [eA] at td
      refine thn td fun r s5 ⟨hr, I5⟩ => ?_
      subst hr
      obtain ⟨m5, hn5, _⟩ := I5.loc
      rw [een] at hn5
      have fr5 : H4 HH.objs.size = none := by have := I5.free; rw [een] at this; exact this
      rw [← hX] at I5
      exact hR _ _ _ m5 H4 hn5 (blk_out I2 f2 hCle I5 (Heap.SameBut.refl ..)) qn (I2.fpOk hCle fr5)
    · have ti := T.item X' eP ew eK ec i [] s4 _ H4 (notedBy (model X.prog X.w) X.A (compEnvC scope (clo X.env scope.names []) HH.objs.size X.env) fun e s' => RR (.ref s2.heap.objs.size) HH.objs.size (.error e) s') I4 (stat fr4) st4 go
      rw [eA] at ti
      refine thn ti fun r s5 ⟨u, hr, h5⟩ => ?_
      subst hr
      refine thn h5 fun _ s6 ⟨x, H6, I6, r6, y6, st6, fr6⟩ => ?_
      have I6' := I6.pinned (stat fr6) (T.obj _ _ st6)
      have g1 := hg' _ s6 _ H6 x u _ I6' r6 (step x H6 y6)
      rw [eP, ew, eA, een, ex] at g1
      refine wpAny_mono g1 (fun _ s7 ⟨σ7, H7, I7, kp7, q7⟩ => ?_) fun _ _ z => z.elim
      have t1 := ht' _ s7 σ7 H7 _ I7 q7
      rw [eP, ew, eA, een, ex] at t1
      have back : ∀ {H9 : Hp} {s9 : Shared}, Inv X' ([] ++ pinsAt fp s6.heap) σ7 H9 s9 → Inv X' [] (List.replicate xs.length none ++ fs.map fun j => σ.getD j none) H9 s9 ∧ tn (i + 1) s9.heap ∧ ∀ b ∈ fp, H9 b = none := fun {H9 s9} I9 => by
        refine ⟨I9.unpinned.weak ?_ kp7, T.keep _ _ _ st6 fun b hb o e => (I9.pin (b, o) (List.mem_append_right _ (List.mem_append_right _ (mem_pinsAt hb e)))).1, fun b hb => ?_⟩
        · rw [I9.len, I4.len]
        · obtain ⟨o, e, d⟩ := T.obj _ _ st6 b hb
          exact (I9.pin (b, o) (List.mem_append_right _ (List.mem_append_right _ (mem_pinsAt hb e)))).2.1
      refine wpAny_mono t1 (fun ok s8 ⟨H8, I8, q8⟩ => ?_) fun _ _ z => z.elim
      cases ok with
      | false =>
        rw [if_neg Bool.false_ne_true] at q8 ⊢
        obtain ⟨m', hm, w8⟩ := q8
        obtain ⟨b1, b2, b3⟩ := back I8
        exact ⟨m', hm, i + 1, ys, H8, b1, b2, b3, w8⟩
      | true =>
        rw [if_pos rfl] at q8 ⊢
        have e1 := he' _ s8 σ7 H8 _ I8 q8
        rw [eP, ew, eA, een, ex] at e1
        refine wpAny_mono e1 (fun uy s9 ⟨y, H9, I9, r9, hD9, hz, m', hm, w9⟩ => ?_) fun _ _ z => z.elim
        have a1 := mt_append (X := X') (pins := [] ++ pinsAt fp s6.heap) (s := s9) (σ := σ7) (H := H9) (x := .ref s2.heap.objs.size) (xs := [y]) (v := .ref s2.heap.objs.size) (us := [uy]) (Q := fun _ H' => H' = upd H9 s2.heap.objs.size (.lst (ys ++ [y]))) I9 rfl (.cons r9 .nil) ⟨_, ys, y, rfl, rfl, hD9, hz, rfl⟩
        rw [eP, ew, eA, ex] at a1
        refine wpAny_mono a1 (fun _ s10 ⟨_, H10, I10, _, e10⟩ => ?_) fun _ _ z => z.elim
        subst e10
        obtain ⟨b1, b2, b3⟩ := back I10
        exact ⟨m', hm, i + 1, _, _, b1, b2, b3, w9⟩
  exact codeAny_compStart_list (loop _ rfl) (T.self _ 0 _ _ _ st1 (loop _ rfl))
theorem pe_compG (hc : X.calm = true) (hok : compOkB X.N X.env.scope scope xs fs = true) (hi : PI X tg iter wi)
    (hg : ∀ b, PG (X.blk scope (xs ++ around X.N fs) b) tg (g b)) (ht : ∀ b, PTs (X.blk scope (xs ++ around X.N fs) b) ifs (tt b)) (he : ∀ b, PE (X.blk scope (xs ++ around X.N fs) b) elt (te b))
    (hs : ∀ x, foldedSetIterable iter X.env x = pure x := by intro _; rfl) :
    PE X (.ListComp elt [⟨tg, iter, ifs, 0⟩] scope pos) (tComp wi xs.length fs g tt te) := by
  intro pins s σ H Q I h
  have O := compOk_of hok
  rw [eval_ListComp]
  refine wpAny_comprehension_free (use := none) rfl hs (clo_closure fun y hy hf => I.ok.has _ (O.free y hy hf)) O.kind O.names (thn (hi pins s σ H _ I h) fun v s1 h1 => thn h1 fun itv s2 h2 => ?_)
  exact comp_run (RR := fun acc C => compPost (model X.prog X.w) X.A X.xe none (EP X pins σ Q) acc C) hc O hg ht he h2 fun D C s' m H' hn I' q F => ⟨m, hn, fun h2 sb => ⟨.ref D, H', turned_of I' F sb, rfl, q⟩⟩
theorem ps_comp {y : Str} {py : Pos} {i : Nat} (hN : X.N.Nodup) (hy : X.N[i]? = some y) (hyl : X.env.kindOf y = some .local) (hc : X.calm = true) (hok : compOkB X.N X.env.scope scope xs fs = true) (hi : PI X tg iter wi)
    (hg : ∀ b, PG (X.blk scope (xs ++ around X.N fs) b) tg (g b)) (ht : ∀ b, PTs (X.blk scope (xs ++ around X.N fs) b) ifs (tt b)) (he : ∀ b, PE (X.blk scope (xs ++ around X.N fs) b) elt (te b)) {spos : Pos}
    (hsw : swapsWith (.ListComp elt [⟨tg, iter, ifs, 0⟩] scope pos) (some (.Name y py)) spos.line X.env = pure true := by rfl)
    (hs : ∀ x, foldedSetIterable iter X.env x = pure x := by intro _; rfl) :
    PS X (.Assign [.Name y py] (.ListComp elt [⟨tg, iter, ifs, 0⟩] scope pos) spos) (tAsg (tComp wi xs.length fs g tt te) (gName i)) := by
  intro pins s σ H D I h
  have O := compOk_of hok
  rw [exec_Assign_Name_used _ _ _ _ hsw]
  refine wpAny_bind (wpAny_standAt (wpAny_bind ?_))
  show wpAny _ X.A (do let _ ← comprehension (.ListComp elt [⟨tg, iter, ifs, 0⟩] scope pos) scope X.env _ (newList []) false (eval iter X.env) (some (assign (.Name y py) X.env))) _ _ s
  refine wpAny_bind (wpAny_mono (wpAny_comprehension_free (use := some (assign (.Name y py) X.env)) (Q := fun _ s' => SP X pins D .next s') rfl hs (clo_closure fun y hy hf => I.ok.has _ (O.free y hy hf)) O.kind O.names
    (thn (hi pins s σ H _ I h) fun v s1 h1 => thn h1 fun itv s2 h2 => ?_)) (fun _ s' hq => wpAny_pure (wpAny_pure hq)) fun _ _ e => e)
  refine comp_run (RR := fun acc C => compPost (model X.prog X.w) X.A X.xe (some (assign (.Name y py) X.env)) (fun _ s' => SP X pins D .next s') acc C) hc O hg ht he h2 fun D' C s' m H' hn I0 q0 F => ?_
  show wpAny _ X.A (assign (.Name y py) X.env (.ref D')) _ _ _
  refine wpAny_assign_Name (store_ok2 I0 hN hy (.inl hyl) (v := .ref D') rfl (fun s3 I3 hsb => ?_) (.inr hyl))
  obtain ⟨a, sb3, ha⟩ := hsb
  have haC : C ≠ a := by
    rcases ha with rfl | ha
    · exact F.2.1
    · exact (F.2.2.2.2.1 y a ha).symm
  exact ⟨m, hn.sameBut sb3 haC, fun h4 sb4 => ⟨_, H', turned_of I3 F sb4, q0⟩⟩
end
end L2

set_option Elab.async false
set_option linter.all false
set_option maxRecDepth 100000
set_option maxHeartbeats 4000000
namespace L2
open PySem PySem.Spec PyProof.Rows

noncomputable def Its (z : Str) : It := ⟨fun i _ => i < z.cps.size, fun i H x H' => H' = H ∧ ∃ c, z.cps[i]? = some c ∧ x = .str ⟨#[c]⟩, fun i _ => z.cps.size ≤ i⟩
noncomputable def iStr (tl : TE) : TI := fun σ H R => tl σ H fun x H1 => ∃ z, x = .str z ∧ R (Its z) H1
section
variable {P : Program} {w : World} {K : PySem.W.Frag} {tg : Expr}
end
section
variable {X : Cx} {tg : Expr}
noncomputable def rSlS : V → Option Int → Option Int → Hp → VK → Prop := fun x lo hi H Q => ∃ z, x = .str z ∧ z.length ≤ sizeLine ∧ Q (.str (Txt.slice z lo hi)) H
theorem sl_str : SlR X rSlS := by
  intro pins s σ H x v vl vu lo hi sl Q I rx hs pl pu h
  obtain ⟨z, rfl, hz, q⟩ := h
  obtain ⟨t, rfl⟩ := rx
  obtain ⟨o, ho, hc, hd⟩ := hs
  refine ⟨"str", _, F.slot_str_getitem.lookup, typeIs_str _ _ _, ?_⟩
  have fin : ∀ (l u : Option (Int × Tok)), s.heap.IsSlice sl l u none → l.map (·.1) = lo → u.map (·.1) = hi → wpAny (model X.prog X.w) X.A (getItem (.str z t) (.ref sl)) (EP X pins σ Q) X.xe s := fun l u hsl hl hu => by
    subst hl hu
    exact wpAny_getItem_str_slice (l := l) (u := u) (st := none) hsl rfl (post_val_or_str ⟨Nat.le_trans (Txt.slice_le z _ _) hz, fun t' k => ⟨.str _, H, I.tok k, ⟨t', rfl⟩, q⟩⟩)
  cases pl <;> cases pu
  · exact fin none none ⟨o, ho, hc, hd⟩ rfl rfl
  · exact fin none (some (_, _)) ⟨o, ho, hc, hd⟩ rfl rfl
  · exact fin (some (_, _)) none ⟨o, ho, hc, hd⟩ rfl rfl
  · exact fin (some (_, _)) (some (_, _)) ⟨o, ho, hc, hd⟩ rfl rfl

theorem strsAre_of : ∀ {ys : List Str} {us : List Value}, Vals (ys.map V.str) us → StrsAre us ys
  | [], _, r => by rw [List.map_nil] at r; cases r; exact .nil
  | y :: ys, us, r => by
    rw [List.map_cons] at r
    cases r with
    | cons r1 r2 =>
      obtain ⟨t, e⟩ := r1
      subst e
      exact .cons y t (strsAre_of r2)
noncomputable def rJoin (K : PySem.W.Frag) : V → List V → Hp → VK → Prop := fun x vs H Q => ∃ z p ys, x = .str z ∧ vs = [.ref p] ∧ SqL K H p (ys.map V.str) ∧ (ys.map (·.length)).sum + ys.length * z.length ≤ 16777216 ∧ Q (.str (Txt.join z ys)) H
theorem mt_join : MtR X "str.join" (rJoin X.K) := by
  intro pins s σ H x vs v us Q I rx rv h
  obtain ⟨z, p, ys, rfl, rfl, hp, hw, q⟩ := h
  obtain ⟨t, rfl⟩ := rx
  obtain ⟨u, rfl, ru⟩ := rv.one
  cases ru
  obtain ⟨its, r, pl, hz⟩ := I.list hp
  exact join_list pl.isList (by simpa using strsAre_of r) hw fun t' k => ⟨.str _, H, I.tok k, ⟨t', rfl⟩, q⟩
noncomputable def rFind : V → List V → Hp → VK → Prop := fun x vs H Q => ∃ z y, x = .str z ∧ vs = [.str y] ∧ Q (.int (Txt.find z y)) H
noncomputable def rSplit : V → List V → Hp → VK → Prop := fun x vs H Q => ∃ z y, x = .str z ∧ vs = [.str y] ∧ (y.length == 0) = false ∧ z.length + 2 ≤ sizeLine ∧ ∀ p, H p = none → Q (.ref p) (upd H p (.lst ((Txt.split z y).map V.str)))
noncomputable def rMulS : R2 := fun x y H Q => ∃ z n, x = .str z ∧ y = .int n ∧ MulOk z n ∧ Q (.str (Txt.mul z n)) H
noncomputable def rAll (K : PySem.W.Frag) : List V → Hp → VK → Prop := fun xs H Q => ∃ (p : Addr) (bs : List Bool), xs = [.ref p] ∧ SqL K H p (bs.map V.bl) ∧ Q (.bl (bs.all id)) H
end
noncomputable abbrev TJ := Str → St → Hp → (Str → Hp → Prop) → Prop
noncomputable def jNil : TJ := fun acc _ H Q => Q acc H
noncomputable def jCons (te : TE) (tr : TJ) : TJ := fun acc σ H Q => te σ H fun x H1 => ∃ y, x = .str y ∧ (acc ++ y).length ≤ sizeLine ∧ tr (acc ++ y) σ H1 Q
noncomputable def tFstr (t : TJ) : TE := fun σ H Q => t Str.empty σ H fun out H1 => out.length ≤ sizeLine ∧ Q (.str out) H1
noncomputable def tFmt (te : TE) : TE := fun σ H Q => te σ H fun x H1 => (∃ z, x = .str z ∧ z.length ≤ sizeLine ∧ Q (.str z) H1) ∨ ∃ i, x = .int i ∧ i.natAbs.log2 < 1920 ∧ Q (.str (toString i)) H1
noncomputable def tFmtR (te : TE) : TE := fun σ H Q => te σ H fun x H1 => ∃ z, x = .str z ∧ (PySem.reprText z).length ≤ sizeLine ∧ Q (.str (PySem.reprText z)) H1
section
variable {X : Cx} {e v₁ v₂ : Expr} {es : List Expr} {te : TE} {tr t : TJ} {pos : Pos}
theorem Joins.mono {M : Model} {A : Around} {E : Value → Shared → Prop} {Q Q' : Str → Shared → Prop} (h : ∀ o s, Q o s → Q' o s) : ∀ {parts : List (Sem Value)} {acc : Str} {s : Shared}, Joins M A E parts acc Q s → Joins M A E parts acc Q' s
  | [], _, _, q => h _ _ q
  | _ :: _, _, _, q => wpAny_mono q (fun v s1 ⟨y, t, e, hz, r⟩ => ⟨y, t, e, hz, Joins.mono h r⟩) fun _ _ x => x
end
end L2

set_option Elab.async false
set_option linter.all false
set_option maxRecDepth 100000
set_option maxHeartbeats 4000000
namespace L2
open PySem PySem.Spec PyProof.Rows

noncomputable abbrev tComp1 (wi : TI) (fs : List Nat) (te : Blk → TE) : TE := tComp wi 1 fs (fun _ => gName 0) (fun _ => tYes) te
section
variable {X : Cx} {scope : Scope} {x : Str} {px : Pos} {fs : List Nat} {elt iter : Expr} {pos : Pos} {wi : TI} {te : Blk → TE}
theorem pg_own (hok : compOkB X.N X.env.scope scope [x] fs = true) (b : Blk) : PG (X.blk scope ([x] ++ around X.N fs) b) (.Name x px) (gName 0) :=
  pg_name (compOk_of hok).nd rfl (.inl (lookup_relabel_local ((compOk_of hok).own x (by simp)))) (.inr (lookup_relabel_local ((compOk_of hok).own x (by simp))))
theorem pe_comp1 (x : Str) (fs : List Nat) (hc : X.calm = true) (hok : compOkB X.N X.env.scope scope [x] fs = true) (hi : PI X (.Name x px) iter wi) (he : ∀ b, PE (X.blk scope ([x] ++ around X.N fs) b) elt (te b))
    (hs : ∀ x, foldedSetIterable iter X.env x = pure x := by intro _; rfl) : PE X (.ListComp elt [⟨.Name x px, iter, [], 0⟩] scope pos) (tComp1 wi fs te) :=
  pe_compG (xs := [x]) (g := fun _ => gName 0) (tt := fun _ => tYes) hc hok hi (pg_own hok) (fun _ => pts_nil) he hs
theorem ps_comp1 {y : Str} {py : Pos} {i : Nat} {spos : Pos} (x : Str) (fs : List Nat) (hN : X.N.Nodup) (hy : X.N[i]? = some y) (hyl : X.env.kindOf y = some .local) (hc : X.calm = true) (hok : compOkB X.N X.env.scope scope [x] fs = true) (hi : PI X (.Name x px) iter wi) (he : ∀ b, PE (X.blk scope ([x] ++ around X.N fs) b) elt (te b))
    (hsw : swapsWith (.ListComp elt [⟨.Name x px, iter, [], 0⟩] scope pos) (some (.Name y py)) spos.line X.env = pure true := by rfl)
    (hs : ∀ x, foldedSetIterable iter X.env x = pure x := by intro _; rfl) : PS X (.Assign [.Name y py] (.ListComp elt [⟨.Name x px, iter, [], 0⟩] scope pos) spos) (tAsg (tComp1 wi fs te) (gName i)) :=
  ps_comp (xs := [x]) (g := fun _ => gName 0) (tt := fun _ => tYes) hN hy hyl hc hok hi (pg_own hok) (fun _ => pts_nil) he hsw hs
end
theorem kept0 {x : Option V} {r : St} : Kept (none :: r) (x :: r) := fun i v e => by
  cases i with
  | zero => cases e
  | succ i => exact e

section
variable {K : PySem.W.Frag} {tail : St} {te : Blk → TE} {Q : VK} {H1 : Hp}
noncomputable def CompNext (D : Addr) (n i : Nat) (ys : List V) (Pv : Nat → List V → Hp → Prop) : VK := fun y H4 => H4 D = some (.lst ys) ∧ ys.length < sizeLine ∧ ∃ m', m' < n - i ∧ (m' = n - (i + 1) ∧ i + 1 ≤ n ∧ Pv (i + 1) (ys ++ [y]) (upd H4 D (.lst (ys ++ [y]))))
theorem compNext {D : Addr} {n i : Nat} {ys : List V} {Pv : Nat → List V → Hp → Prop} {y : V} {H4 : Hp} (h1 : H4 D = some (.lst ys)) (h2 : ys.length < sizeLine) (h3 : i < n) (h4 : Pv (i + 1) (ys ++ [y]) (upd H4 D (.lst (ys ++ [y])))) : CompNext D n i ys Pv y H4 :=
  ⟨h1, h2, n - (i + 1), by omega, rfl, h3, h4⟩
theorem comp_by {J : It} (n : Nat)
    (h : ∀ (b : Blk) (D : Addr), H1 D = none → ∃ Pv : Nat → List V → Hp → Prop, Pv 0 [] (upd H1 D (.lst [])) ∧ (∀ i ys H, Pv i ys H → H D = some (.lst ys)) ∧ (∀ ys H, Pv n ys H → J.stop n H ∧ Q (.ref D) H) ∧
      ∀ i ys H, i < n → Pv i ys H → J.go i H ∧ ∀ x H3, J.yld i H x H3 → te b (some x :: tail) H3 (CompNext D n i ys Pv)) : CompTail (none :: tail) (fun _ => gName 0) (fun _ => tYes) te Q J H1 := by
  intro b D hD
  obtain ⟨Pv, p0, p1, p2, p3⟩ := h b D hD
  refine ⟨fun i m ys H => m = n - i ∧ i ≤ n ∧ Pv i ys H, ⟨n, rfl, Nat.zero_le _, p0⟩, ?_⟩
  rintro i m ys H ⟨rfl, hi, p⟩
  refine ⟨p1 i ys H p, ?_⟩
  by_cases hlt : i < n
  · obtain ⟨go, st⟩ := p3 i ys H hlt p
    refine .inr ⟨go, fun x H3 y => ⟨kept0, ?_⟩⟩
    exact st x H3 y
  · have e : i = n := by omega
    subst e
    exact .inl (p2 ys H p)
theorem same_new {D : Addr} {o : HO} (h : H1 D = none) : Same H1 (upd H1 D o) := fun b u e => by rw [upd_ne (ne_of_none e h)]; exact e
theorem compL_pure {a : Addr} {xs : List V} (f : V → V) (hS : SqL K H1 a xs) (hz : xs.length ≤ sizeLine) (he : ∀ b x H Q', x ∈ xs → Same H1 H → Q' (f x) H → te b (some x :: tail) H Q')
    (q : ∀ D, H1 D = none → Q (.ref D) (upd H1 D (.lst (xs.map f)))) : CompTail (none :: tail) (fun _ => gName 0) (fun _ => tYes) te Q (Itl K a) H1 := by
  refine comp_by xs.length (fun b D hD => ⟨fun i ys H => i ≤ xs.length ∧ ys = (xs.take i).map f ∧ H = upd H1 D (.lst ys), ⟨Nat.zero_le _, rfl, rfl⟩, ?_, ?_, ?_⟩)
  · rintro i ys H ⟨hi, rfl, rfl⟩
    exact upd_same
  · rintro ys H ⟨_, rfl, rfl⟩
    refine ⟨⟨xs, (same_new hD).seq hS, Nat.le_refl _⟩, ?_⟩
    rw [List.take_length]; exact q D hD
  · rintro i ys H hi ⟨_, rfl, rfl⟩
    refine ⟨⟨xs, xs[i], (same_new hD).seq hS, by simp [hi]⟩, fun x H3 ⟨e3, ex⟩ => ?_⟩
    subst e3
    have hc' := ex xs ((same_new hD).seq hS)
    refine he b x _ _ (List.mem_of_getElem? hc') (same_new hD) (compNext upd_same (by rw [List.length_map, List.length_take]; omega) hi ⟨hi, ?_, ?_⟩)
    · rw [List.take_add_one, hc']; simp
    · funext a; by_cases ha : a = D <;> simp [upd, ha]
theorem compR_pure {lo : Int} {n : Nat} (f : Int → V) (hz : n ≤ sizeLine) (he : ∀ b (i : Nat) H Q', i < n → Same H1 H → Q' (f (lo + i)) H → te b (some (.int (lo + i)) :: tail) H Q')
    (q : ∀ D, H1 D = none → Q (.ref D) (upd H1 D (.lst ((List.range n).map fun (i : Nat) => f (lo + (i : Int)))))) : CompTail (none :: tail) (fun _ => gName 0) (fun _ => tYes) te Q (Itr lo n) H1 := by
  refine comp_by n (fun b D hD => ⟨fun i ys H => i ≤ n ∧ ys = (List.range i).map (fun (i : Nat) => f (lo + (i : Int))) ∧ H = upd H1 D (.lst ys), ⟨Nat.zero_le _, rfl, rfl⟩, ?_, ?_, ?_⟩)
  · rintro i ys H ⟨hi, rfl, rfl⟩
    exact upd_same
  · rintro ys H ⟨_, rfl, rfl⟩
    exact ⟨Nat.le_refl _, q D hD⟩
  · rintro i ys H hi ⟨_, rfl, rfl⟩
    refine ⟨hi, fun x H3 ⟨e3, ex⟩ => ?_⟩
    subst e3 ex
    refine he b i _ _ hi (same_new hD) (compNext upd_same (by rw [List.length_map, List.length_range]; omega) hi ⟨hi, ?_, ?_⟩)
    · rw [List.range_succ]; simp
    · funext a; by_cases ha : a = D <;> simp [upd, ha]
end

section
variable {σ : St} {H : Hp} {Q : VK} {D : Ends} {K : PySem.W.Frag}
theorem rd_comp {wi : TI} {fs : List Nat} {te : Blk → TE} : tComp1 wi fs te σ H Q = wi σ H (CompTail (none :: fs.map fun j => σ.getD j none) (fun _ => gName 0) (fun _ => tYes) te Q) := rfl
theorem rd_istr {tl : TE} {R : It → Hp → Prop} : iStr tl σ H R = tl σ H fun x H1 => ∃ z, x = .str z ∧ R (Its z) H1 := rfl
theorem rd_sl {r : V → Option Int → Option Int → Hp → VK → Prop} {te : TE} {tl th : TO} : tSl r te tl th σ H Q = te σ H fun x H1 => tl σ H1 fun l H2 => th σ H2 fun u H3 => r x l u H3 Q := rfl
theorem rd_noPart {QO : Option Int → Hp → Prop} : tNoPart σ H QO = QO none H := rfl
theorem rd_part {t : TE} {QO : Option Int → Hp → Prop} : tPart t σ H QO = t σ H fun x H1 => ∃ i, x = .int i ∧ QO (some i) H1 := rfl
theorem rd_slS {x : V} {lo hi : Option Int} : rSlS x lo hi H Q = ∃ z, x = .str z ∧ z.length ≤ sizeLine ∧ Q (.str (Txt.slice z lo hi)) H := rfl
theorem rd_slL {x : V} {lo hi : Option Int} : rSlL K x lo hi H Q = ∃ a xs, x = .ref a ∧ SqL K H a xs ∧ ∀ p, H p = none → Q (.ref p) (upd H p (.lst (cutV xs lo hi))) := rfl
theorem rd_bm {T : String} {r : V → List V → Hp → VK → Prop} {to : TE} {t : TA} : tBM K T r to t σ H Q = to σ H fun x H1 => tyV K T x H1 ∧ t σ H1 fun xs H2 => r x xs H2 Q := rfl
theorem rd_bm0 {T : String} {r : V → List V → Hp → VK → Prop} {to : TE} : tBM0 K T r to σ H Q = to σ H fun x H1 => tyV K T x H1 ∧ r x [] H1 Q := rfl
theorem tyV_str {z : Str} : tyV K "str" (.str z) H = True := eq_true rfl
theorem rd_join {x : V} {vs : List V} : rJoin K x vs H Q = ∃ z p ys, x = .str z ∧ vs = [.ref p] ∧ SqL K H p (ys.map V.str) ∧ (ys.map (·.length)).sum + ys.length * z.length ≤ 16777216 ∧ Q (.str (Txt.join z ys)) H := rfl
theorem rd_find {x : V} {vs : List V} : rFind x vs H Q = ∃ z y, x = .str z ∧ vs = [.str y] ∧ Q (.int (Txt.find z y)) H := rfl
theorem rd_split {x : V} {vs : List V} : rSplit x vs H Q = ∃ z y, x = .str z ∧ vs = [.str y] ∧ (y.length == 0) = false ∧ z.length + 2 ≤ sizeLine ∧ ∀ p, H p = none → Q (.ref p) (upd H p (.lst ((Txt.split z y).map V.str))) := rfl
theorem rd_all {xs : List V} : rAll K xs H Q = ∃ (p : Addr) (bs : List Bool), xs = [.ref p] ∧ SqL K H p (bs.map V.bl) ∧ Q (.bl (bs.all id)) H := rfl
theorem rd_mulS {x y : V} : rMulS x y H Q = ∃ z n, x = .str z ∧ y = .int n ∧ MulOk z n ∧ Q (.str (Txt.mul z n)) H := rfl
theorem rd_jnil {acc : Str} {QS : Str → Hp → Prop} : jNil acc σ H QS = QS acc H := rfl
theorem rd_jcons {te : TE} {tr : TJ} {acc : Str} {QS : Str → Hp → Prop} : jCons te tr acc σ H QS = te σ H fun x H1 => ∃ y, x = .str y ∧ (acc ++ y).length ≤ sizeLine ∧ tr (acc ++ y) σ H1 QS := rfl
theorem rd_fstr {t : TJ} : tFstr t σ H Q = t Str.empty σ H fun out H1 => out.length ≤ sizeLine ∧ Q (.str out) H1 := rfl
theorem rd_fmtR {te : TE} : tFmtR te σ H Q = te σ H fun x H1 => ∃ z, x = .str z ∧ (PySem.reprText z).length ≤ sizeLine ∧ Q (.str (PySem.reprText z)) H1 := rfl
theorem rd_fmt {te : TE} : tFmt te σ H Q = te σ H fun x H1 => (∃ z, x = .str z ∧ z.length ≤ sizeLine ∧ Q (.str z) H1) ∨ ∃ i, x = .int i ∧ i.natAbs.log2 < 1920 ∧ Q (.str (toString i)) H1 := rfl
theorem rd_dnewK : tDNewK σ H Q = ∀ p, H p = none → Q (.ref p) (upd H p (.dK [])) := rfl
theorem ixS_of {z : Str} {i : Int} {c : Nat} (hz : z.length ≤ sizeLine) (e : atI z.cps.toList i = some c) (q : Q (.str ⟨#[c]⟩) H) : rIxS (.str z) (.int i) H Q := ⟨z, i, c, rfl, rfl, hz, e, q⟩
theorem blk_K {X : Cx} {scope : Scope} {N' : List Str} {b : Blk} : (X.blk scope N' b).K = X.K := rfl
end
section
variable {X : Cx} {x : Str} {pos : Pos}
theorem pe_gint {i : Int} (hg : Gl X x) (hm : ∃ t, X.mg x = some (.int i t)) (hd : (x == ("__debug__" : Str)) = false := by decide) : PE X (.Name x pos) (tC (.int i)) := by
  obtain ⟨t, hm⟩ := hm
  exact pe_glob hg hm ⟨t, rfl⟩ hd
end
theorem TyOf.same {K : PySem.W.Frag} {H H' : Hp} {x : V} {t : Value} (s : Same H H') (h : TyOf K H x t) : TyOf K H' x t := by
  cases h with
  | non => exact .non
  | bl x => exact .bl x
  | int i => exact .int i
  | str x => exact .str x
  | flt x => exact .flt x
  | lst e => exact .lst (s _ _ e)
  | frz e => exact .frz (s _ _ e)
  | tup e => exact .tup (s _ _ e)
  | dK e => exact .dK (s _ _ e)
  | dT e => exact .dT (s _ _ e)
  | ins e cl ha hn htk hm => exact .ins (s _ _ e) cl ha hn htk hm
theorem Isi.same {K : PySem.W.Frag} {H H' : Hp} {x : V} {n : String} {b : Bool} (s : Same H H') (h : Isi K H x n b) : Isi K H' x n b := let ⟨t, ty, e⟩ := h; ⟨t, ty.same s, e⟩
theorem line_val : sizeLine = 16777216 := by decide
theorem len_app {a b : Str} : (a ++ b).length = a.length + b.length := strLen_append a b
theorem len_one {c : Nat} : (⟨#[c]⟩ : Str).length = 1 := rfl
theorem atI_in {α : Type} {xs : List α} {i : Int} (h0 : 0 ≤ i) (h1 : i < xs.length) : ∃ v, atI xs i = some v ∧ v ∈ xs := by
  refine ⟨xs[i.toNat], ?_, List.getElem_mem (by omega)⟩
  exact atI_of h0 (by rw [List.getElem?_eq_getElem (by omega)])
theorem script_go {K : PySem.W.Frag} {H : Hp} {a : Addr} {ns : List Int} {R : List Int → Prop} (h : SqL K H a (ns.map V.int)) (hl : ns.length ≤ 63) (q : R ns) : ∃ x : List Int, SqL K H a (x.map V.int) ∧ x.length ≤ 63 ∧ R x := ⟨ns, h, hl, q⟩
noncomputable def hasS (z y : Str) : Bool := !(Builtin.Str.occurrences z y 0 z.length 1).isEmpty
theorem hasS_one {z : Str} {c : Nat} : hasS z ⟨#[c]⟩ = decide (c ∈ z.cps.toList) := StrLaws.found_one z c
noncomputable def rInS : R2 := fun x y H Q => ∃ i j, x = .str i ∧ y = .str j ∧ Q (.bl (hasS j i)) H
noncomputable def rNotInS : R2 := fun x y H Q => ∃ i j, x = .str i ∧ y = .str j ∧ Q (.bl (!hasS j i)) H
theorem rd_inS {x y : V} {H : Hp} {Q : VK} : rInS x y H Q = ∃ i j, x = .str i ∧ y = .str j ∧ Q (.bl (hasS j i)) H := rfl
theorem rd_notinS {x y : V} {H : Hp} {Q : VK} : rNotInS x y H Q = ∃ i j, x = .str i ∧ y = .str j ∧ Q (.bl (!hasS j i)) H := rfl
end L2

set_option Elab.async false
set_option linter.all false
set_option maxRecDepth 100000
set_option maxHeartbeats 4000000
namespace L2
open PySem PySem.Spec PyProof.Rows

noncomputable def flatEq (xs ys : List V) : Bool := match xs, ys with
  | [], [] => true
  | x :: xs, y :: ys => eqV x y && flatEq xs ys
  | _, _ => false
theorem flatEq_len : ∀ {xs ys : List V}, xs.length ≠ ys.length → flatEq xs ys = false
  | [], [], h => absurd rfl h
  | [], _ :: _, _ => rfl
  | _ :: _, [], _ => rfl
  | x :: xs, y :: ys, h => by
    unfold flatEq
    rw [flatEq_len (fun e => h (by simp [e])), Bool.and_false]
theorem flatEq_all : ∀ {xs ys : List V}, xs.length = ys.length → flatEq xs ys = (List.range xs.length).all fun i => eqV (xs.getD i .non) (ys.getD i .non)
  | [], [], _ => rfl
  | [], _ :: _, h => by cases h
  | _ :: _, [], h => by cases h
  | x :: xs, y :: ys, h => by
    unfold flatEq
    rw [flatEq_all (by simpa using h), List.length_cons, List.range_succ_eq_map, List.all_cons, List.all_map]
    rfl
theorem eqV_str {x y : Str} : eqV (.str x) (.str y) = decide (x = y) := rfl
theorem flatEq_strs : ∀ {xs ys : List Str}, flatEq (xs.map V.str) (ys.map V.str) = decide (xs = ys)
  | [], [] => rfl
  | [], _ :: _ => rfl
  | _ :: _, [] => rfl
  | x :: xs, y :: ys => by
    show (eqV (.str x) (.str y) && flatEq (xs.map V.str) (ys.map V.str)) = _
    rw [flatEq_strs, eqV_str]
    by_cases h : x = y
    · subst h; simp
    · simp [h]
noncomputable def EqQ (K : PySem.W.Frag) (H : Hp) (x y : V) (r : Bool) : Prop := ∃ a b xs ys, x = .ref a ∧ y = .ref b ∧ ((SqL K H a xs ∧ SqL K H b ys) ∨ (SqT K H a xs ∧ SqT K H b ys)) ∧ xs.all flatV = true ∧ ys.all flatV = true ∧ r = flatEq xs ys
section
variable {X : Cx} {pins : List (Addr × Obj)} {σ : St} {H : Hp} {s : Shared}
theorem flat_items {xs ys : List V} {us ws : List Value} {A : Around} (rx : Vals xs us) (ry : Vals ys ws) (fx : xs.all flatV = true) (fy : ys.all flatV = true) :
    ∀ j (h1 : j < us.toArray.size) (h2 : j < ws.toArray.size), SeqAt.EqAt A s us.toArray[j] ws.toArray[j] (eqV (xs.getD j .non) (ys.getD j .non)) := by
  intro j h1 h2
  have lx := rx.length
  have ly := ry.length
  rw [List.size_toArray] at h1 h2
  have hx : j < xs.length := by omega
  have hy : j < ys.length := by omega
  obtain ⟨u, hu, ru⟩ := rx.get (i := j) (x := xs[j]) (by simp [hx])
  obtain ⟨w, hw, rw'⟩ := ry.get (i := j) (x := ys[j]) (by simp [hy])
  have eu : us.toArray[j] = u := by
    have := List.getElem?_eq_getElem h1
    rw [this] at hu
    simpa using hu
  have ew : ws.toArray[j] = w := by
    have := List.getElem?_eq_getElem h2
    rw [this] at hw
    simpa using hw
  rw [eu, ew, List.getD_eq_getElem?_getD, List.getD_eq_getElem?_getD, List.getElem?_eq_getElem hx, List.getElem?_eq_getElem hy]
  exact eqAt_V ru rw' (List.all_eq_true.mp fx _ (List.getElem_mem hx)) (List.all_eq_true.mp fy _ (List.getElem_mem hy))
theorem eqQ_rc {x y : V} {u v : Value} {r : Bool} {A : Around} (I : Inv X pins σ H s) (rx : RelV x u) (ry : RelV y v) (h : EqQ X.K H x y r) (hu : A.units < cLine) : SeqAt.RcAt A s u v r := by
  obtain ⟨a, b, xs, ys, rfl, rfl, hq, fx, fy, rfl⟩ := h
  cases rx
  cases ry
  rcases hq with ⟨h1, h2⟩ | ⟨h1, h2⟩
  · obtain ⟨us, r1, p1, z1⟩ := I.list h1
    obtain ⟨ws, r2, p2, z2⟩ := I.list h2
    have lx := r1.length
    have ly := r2.length
    by_cases hl : xs.length = ys.length
    · rw [flatEq_all hl]
      have := SeqAt.RcAt.lists p1.isList p2.isList (by simp; omega) hu (flat_items r1 r2 fx fy)
      rw [List.size_toArray, ← lx] at this
      exact this
    · rw [flatEq_len hl]
      exact SeqAt.RcAt.lists_lengths p1.isList p2.isList (by simp; omega) hu
  · obtain ⟨us, r1, p1, z1⟩ := I.tuple h1
    obtain ⟨ws, r2, p2, z2⟩ := I.tuple h2
    have lx := r1.length
    have ly := r2.length
    have := SeqAt.RcAt.tuples (show s.heap.IsTuple a us.toArray from p1) (show s.heap.IsTuple b ws.toArray from p2) hu (flat_items r1 r2 fx fy)
    rw [List.size_toArray, List.size_toArray, ← lx, ← ly] at this
    by_cases hl : xs.length = ys.length
    · rw [flatEq_all hl]
      rw [hl, Nat.min_self, beq_self_eq_true, Bool.and_true] at this
      rw [hl]; exact this
    · rw [flatEq_len hl]
      rw [beq_eq_false_iff_ne.mpr hl, Bool.and_false] at this
      exact this
theorem eqQ_ne {x y : V} {u v : Value} {r : Bool} {A : Around} (I : Inv X pins σ H s) (rx : RelV x u) (ry : RelV y v) (h : EqQ X.K H x y r) (hu : A.units < cLine) : SeqAt.RcNeAt A s u v (!r) := by
  obtain ⟨a, b, xs, ys, rfl, rfl, hq, fx, fy, rfl⟩ := h
  cases rx
  cases ry
  rcases hq with ⟨h1, h2⟩ | ⟨h1, h2⟩
  · obtain ⟨us, r1, p1, z1⟩ := I.list h1
    obtain ⟨ws, r2, p2, z2⟩ := I.list h2
    have lx := r1.length
    have ly := r2.length
    by_cases hl : xs.length = ys.length
    · rw [flatEq_all hl]
      have := SeqAt.RcNeAt.lists p1.isList p2.isList (by simp; omega) hu (flat_items r1 r2 fx fy)
      rw [List.size_toArray, ← lx] at this
      exact this
    · rw [flatEq_len hl]
      exact SeqAt.RcNeAt.lists_lengths p1.isList p2.isList (by simp; omega) hu
  · obtain ⟨us, r1, p1, z1⟩ := I.tuple h1
    obtain ⟨ws, r2, p2, z2⟩ := I.tuple h2
    have lx := r1.length
    have ly := r2.length
    have := SeqAt.RcNeAt.tuples (show s.heap.IsTuple a us.toArray from p1) (show s.heap.IsTuple b ws.toArray from p2) hu (flat_items r1 r2 fx fy)
    rw [List.size_toArray, List.size_toArray, ← lx, ← ly] at this
    by_cases hl : xs.length = ys.length
    · rw [flatEq_all hl]
      rw [hl, Nat.min_self, beq_self_eq_true, Bool.and_true] at this
      rw [hl]; exact this
    · rw [flatEq_len hl]
      rw [beq_eq_false_iff_ne.mpr hl, Bool.and_false] at this
      exact this
noncomputable def rEqQ (K : PySem.W.Frag) : R2 := fun x y H Q => ∃ r, EqQ K H x y r ∧ Q (.bl r) H
noncomputable def rNeQ (K : PySem.W.Frag) : R2 := fun x y H Q => ∃ r, EqQ K H x y r ∧ Q (.bl (!r)) H
theorem op_eqQ {k : Nat} (hr : Room k X.A) : OpR X (compareOp .Eq) (rEqQ X.K) := by
  intro pins s σ H x y v u Q I rx ry h
  obtain ⟨r, e, q⟩ := h
  exact eqQ_rc I rx ry e (Nat.lt_of_le_of_lt (by omega) hr.un) X.prog X.w X.xe _ ⟨.bl r, H, I, rfl, q⟩
theorem op_neQ {k : Nat} (hr : Room k X.A) : OpR X (compareOp .NotEq) (rNeQ X.K) := by
  intro pins s σ H x y v u Q I rx ry h
  obtain ⟨r, e, q⟩ := h
  exact eqQ_ne I rx ry e (Nat.lt_of_le_of_lt (by omega) hr.un) X.prog X.w X.xe _ ⟨.bl (!r), H, I, rfl, q⟩
end
section
variable {K : PySem.W.Frag} {H : Hp} {Q : VK} {x y : V}
theorem rd_eqQ : rEqQ K x y H Q = ∃ r, EqQ K H x y r ∧ Q (.bl r) H := rfl
theorem rd_neQ : rNeQ K x y H Q = ∃ r, EqQ K H x y r ∧ Q (.bl (!r)) H := rfl
theorem all_strs {xs : List Str} : (xs.map V.str).all flatV = true := by
  rw [List.all_map]
  exact List.all_eq_true.mpr fun _ _ => rfl
theorem eqQ_strs {a b : Addr} {xs ys : List Str} (h1 : SqL K H a (xs.map V.str)) (h2 : SqL K H b (ys.map V.str)) : EqQ K H (.ref a) (.ref b) (decide (xs = ys)) := ⟨a, b, _, _, rfl, rfl, .inl ⟨h1, h2⟩, all_strs, all_strs, flatEq_strs.symm⟩
end
end L2

set_option Elab.async false
set_option linter.all false
set_option maxRecDepth 100000
set_option maxHeartbeats 4000000
namespace L2
open PySem PySem.Spec PyProof.Rows

structure TryB where
  pn : List (Addr × Obj)
  xe : Value → Shared → Prop
  EE : St → XK
section
variable {X : Cx} {C n : Str} {c : Value} {i : Nat} {np pos : Pos} {b₀ : Stmt} {suite : List Stmt} {rest : List ExceptHandler} {ts : Addr → TS} {tr : TH}
end
section
variable {σ : St} {H : Hp} {D : Ends} {K : PySem.W.Frag}
end
end L2

set_option Elab.async false
set_option linter.all false
set_option maxRecDepth 100000
set_option maxHeartbeats 4000000
namespace L2
open PySem PySem.Spec PyProof.Rows

structure DefM (P : Program) (w : World) (K : PySem.W.Frag) (mg : Str → Option Value) (base : Heap) (CX : CXT) (k : Nat) (C : Addr) (m : Str) (ps : List Str) (sp : Sp) : Prop where
  ex : ∃ (f : Addr) (fd : FuncData), FnOk P w K mg base CX k f fd ps sp ∧ Meth K C m f ∧ Binds K fd ps []
structure DefI (P : Program) (w : World) (K : PySem.W.Frag) (mg : Str → Option Value) (base : Heap) (CX : CXT) (k : Nat) (x : Str) (C : Addr) (ps : List Str) (sp : Sp) : Prop where
  ex : ∃ (f : Addr) (fd : FuncData), FnOk P w K mg base CX k f fd ps sp ∧ Mk K C f ∧ mg x = some (.ref C) ∧ Binds K fd ps []
noncomputable def tMethE (C : Addr) (m : Str) (sp : Sp) (EE : St → XK) (ta : TE) (t : TA) : TE := fun σ H Q => ta σ H fun x H1 => ∃ a dx fs, x = .ref a ∧ H1 a = some (.ins C dx fs) ∧ fs.lookup m = none ∧ t σ H1 fun vs H2 => sp (x :: vs) H2 Q (EE σ)
noncomputable def tMakeE (C : Addr) (sp : Sp) (EE : St → XK) (t : TA) : TE := fun σ H Q => t σ H fun vs H1 => ∀ x dx, H1 x = none → H1 dx = none → dx ≠ x → sp (.ref x :: vs) (upd (upd H1 dx (.own x)) x (.ins C dx [])) (fun v H2 => v = .non ∧ Q (.ref x) H2) (EE σ)
section
variable {X : Cx} {CX : CXT} {k j : Nat} {f C : Addr} {fd : FuncData} {ps : List Str} {sp : Sp} {EE : St → XK} {E : XK} {x m : Str} {p pos apos : Pos} {e o : Expr} {es : List Expr} {ta : TE} {t : TA}
end
section
variable {σ : St} {H : Hp} {Q : VK} {D : Ends} {K : PySem.W.Frag}
theorem rd_methE {C : Addr} {m : Str} {sp : Sp} {EE : St → XK} {ta : TE} {t : TA} : tMethE C m sp EE ta t σ H Q = ta σ H fun x H1 => ∃ a dx fs, x = .ref a ∧ H1 a = some (.ins C dx fs) ∧ fs.lookup m = none ∧ t σ H1 fun vs H2 => sp (x :: vs) H2 Q (EE σ) := rfl
theorem rd_makeE {C : Addr} {sp : Sp} {EE : St → XK} {t : TA} : tMakeE C sp EE t σ H Q = t σ H fun vs H1 => ∀ x dx, H1 x = none → H1 dx = none → dx ≠ x → sp (.ref x :: vs) (upd (upd H1 dx (.own x)) x (.ins C dx [])) (fun v H2 => v = .non ∧ Q (.ref x) H2) (EE σ) := rfl
theorem rd_fld {ta : TE} {f : Str} : tFld K ta f σ H Q = ta σ H fun x H1 => ∃ a C dx fs v, x = .ref a ∧ H1 a = some (.ins C dx fs) ∧ Cls K C ∧ NoAttr K C f ∧ fs.lookup f = some v ∧ Q v H1 := rfl
theorem rd_sfld {ta tv : TE} {f : Str} : sFld K ta tv f D σ H = tv σ H fun y H1 => ta σ H1 fun x H2 => ∃ a C dx fs, x = .ref a ∧ H2 a = some (.ins C dx fs) ∧ Cls K C ∧ NoAttr K C f ∧ fs.length < 1000 ∧ D.nx σ (upd H2 a (.ins C dx (putF f y fs))) := rfl
theorem rd_din {ty td : TE} : tDIn ty td σ H Q = ty σ H fun y H1 => td σ H1 fun x H2 => ∃ a o, x = .ref a ∧ DGet H2 a y o ∧ Q (.bl o.isSome) H2 := rfl
theorem rd_dnotin {ty td : TE} : tDNotIn ty td σ H Q = ty σ H fun y H1 => td σ H1 fun x H2 => ∃ a o, x = .ref a ∧ DGet H2 a y o ∧ Q (.bl (!o.isSome)) H2 := rfl
theorem rd_dget {td ty : TE} : tDGet td ty σ H Q = td σ H fun x H1 => ty σ H1 fun y H2 => ∃ a v, x = .ref a ∧ DGet H2 a y (some v) ∧ Q v H2 := rfl
theorem rd_dput {td ty tv : TE} : sDPut td ty tv D σ H = tv σ H fun v H1 => td σ H1 fun x H2 => ty σ H2 fun y H3 => ∃ a H4, x = .ref a ∧ DPut H3 a y v H4 ∧ D.nx σ H4 := rfl
theorem rd_gtup {n : Nat} {t : TGs} {v : V} {N : St → Hp → Prop} : gTup K n t v σ H N = ∃ a xs, v = .ref a ∧ SqT K H a xs ∧ xs.length = n ∧ t xs σ H N := rfl
end
theorem le_app {a b : Str} {n : Nat} (h1 : a.length ≤ n / 2) (h2 : b.length ≤ n / 2) : (a ++ b).length ≤ n := by
  rw [len_app]; omega
end L2

set_option linter.all false
set_option maxHeartbeats 1000000
namespace N1
open PySem L2
noncomputable def letters : List Nat := List.range' 97 26
noncomputable def figures : List Nat := List.range' 48 10
theorem both_list : (Str.ofString "abcdefghijklmnopqrstuvwxyz0123456789").cps.toList = letters ++ figures := by decide +kernel
theorem both_len : (letters ++ figures).length = 36 := by decide
noncomputable def headIn (l : List Nat) (s : List Nat) : Bool := match l with
  | [] => false
  | c :: _ => decide (c ∈ s)
noncomputable def nameB (l : List Nat) : Bool := decide (1 ≤ l.length) && decide (l.length ≤ 8) && headIn l letters && l.all fun c => decide (c ∈ letters ++ figures)
end N1

set_option linter.all false
set_option maxHeartbeats 1000000
namespace N1
open PySem L2
end N1

set_option linter.all false
set_option maxHeartbeats 1000000
namespace N1
open PySem L2
noncomputable def tx (l : List Nat) : Str := ⟨l.toArray⟩
inductive AskR where
  | ok (ps : List (List Nat))
  | many
  | noname
noncomputable def flat : List (List Nat) → List Nat
  | [] => []
  | p :: r => 32 :: p ++ flat r
theorem both_length : (Str.ofString "abcdefghijklmnopqrstuvwxyz0123456789").length = 36 := by decide +kernel
noncomputable def bc (i : Int) : Nat := (letters ++ figures).getD i.toNat 0
theorem ix_bc (i : Int) {k : Int} (h0 : 0 < k) (h1 : k ≤ 36) : atI (Str.ofString "abcdefghijklmnopqrstuvwxyz0123456789").cps.toList (i % k) = some (bc (i % k)) := by
  have h2 := Int.emod_lt_of_pos i h0
  have h3 := Int.emod_nonneg i (show k ≠ 0 by omega)
  refine atI_of h3 ?_
  have h4 : (i % k).toNat < (letters ++ figures).length := by rw [both_len]; omega
  unfold bc
  rw [both_list, List.getD_eq_getElem?_getD, List.getElem?_eq_getElem h4]
  rfl
end N1

set_option linter.all false
set_option maxHeartbeats 1000000
namespace N1
open PySem PySem.Spec PyProof.Rows L2
noncomputable def sp_cell (K : PySem.W.Frag) : Sp := fun vs H Q _ => ∃ (a : Addr) (ns : List Int) (k : Int), vs = [.ref a, .int k] ∧ SqL K H a (ns.map V.int) ∧ 0 ≤ k ∧ ns.length ≤ 63 ∧ Q (.int (ns.getD k.toNat 0)) H
noncomputable def sp_law (K : PySem.W.Frag) : Sp := fun vs H Q _ => ∃ (a : Addr) (ns : List Int), vs = [.ref a] ∧ SqL K H a (ns.map V.int) ∧ ns.length ≤ 63 ∧ ∀ H', Q (.bl true) H'
end N1

set_option linter.all false
set_option maxHeartbeats 1000000
namespace N1
open PySem PySem.Spec PyProof.Rows L2
inductive StE where
  | noname | twice | nonum | many
noncomputable def nOk : V → Bool
  | .str z => nameB z.cps.toList
  | _ => false
noncomputable def sOf : V → Str
  | .str z => z
  | _ => Str.empty
noncomputable def wIn (lo hi : Int) : V → Bool
  | .int i => decide (lo ≤ i) && decide (i ≤ hi)
  | _ => false
noncomputable abbrev Rw := Addr × V × V × V
noncomputable def NameV (H : Hp) (n : V) : Prop := (∃ z, n = .str z ∧ z.length ≤ 100000) ∨ ((∀ z, n ≠ .str z) ∧ (flatV n = true ∨ ∃ a xs, n = .ref a ∧ H a = some (.tup xs)))
noncomputable def RowAt (K : PySem.W.Frag) (H : Hp) (t : Rw) : Prop := SqT K H t.1 [t.2.1, t.2.2.1, t.2.2.2] ∧ NameV H t.2.1 ∧ flatV t.2.2.1 = true ∧ flatV t.2.2.2 = true
theorem NameV.same {H H' : Hp} {n : V} (s : Same H H') (h : NameV H n) : NameV H' n := h.imp id fun h => ⟨h.1, h.2.imp id fun ⟨a, xs, e, h⟩ => ⟨a, xs, e, s _ _ h⟩⟩
theorem NameV.isi {K : PySem.W.Frag} {H : Hp} {n : V} (h1 : ∀ z, n ≠ .str z) (h2 : flatV n = true ∨ ∃ a xs, n = .ref a ∧ H a = some (.tup xs)) : Isi K H n "str" false := by
  rcases h2 with h | ⟨a, xs, rfl, h⟩
  · cases n with
    | non => exact isi_ns
    | bl b => exact isi_bs
    | int i => exact isi_is
    | str z => exact absurd rfl (h1 z)
    | _ => cases h
  · exact isi_tups h
theorem num_isi {K : PySem.W.Frag} {H : Hp} {v : V} (h : flatV v = true) : ∃ b c, Isi K H v "int" b ∧ (b = true → Isi K H v "bool" c) ∧ ((b && !c) = true → ∃ i, v = .int i) ∧ ((b && !c) = false → ∀ i, v ≠ .int i) := by
  cases v with
  | non => exact ⟨false, false, isi_ni, fun h => by (cases h), fun h => by (cases h), fun _ i h => by cases h⟩
  | bl b => exact ⟨true, true, isi_bi, fun _ => isi_bb, fun h => by (cases h), fun _ i h => by cases h⟩
  | int i => exact ⟨true, false, isi_ii, fun _ => isi_ib, fun _ => ⟨i, rfl⟩, fun h => by cases h⟩
  | str z => exact ⟨false, false, isi_si, fun h => by (cases h), fun h => by (cases h), fun _ i h => by cases h⟩
  | _ => cases h
noncomputable def sp_is_whole (K : PySem.W.Frag) : Sp := fun vs H Q _ => ∃ (x : V) (b c : Bool), vs = [x] ∧ Isi K H x "int" b ∧ (b = true → Isi K H x "bool" c) ∧ Q (.bl (b && !c)) H
noncomputable def sp_within (K : PySem.W.Frag) : Sp := fun vs H Q _ => ∃ (v : V) (lo hi : Int), vs = [v, .int lo, .int hi] ∧ flatV v = true ∧ Q (.bl (wIn lo hi v)) H
noncomputable def SameBut (p : Addr) (H H' : Hp) : Prop := ∀ b o, H b = some o → b ≠ p → H' b = some o
theorem SameBut.trans {p : Addr} {H H1 H2 : Hp} (h1 : SameBut p H H1) (h2 : SameBut p H1 H2) : SameBut p H H2 := fun b o e n => h2 b o (h1 b o e n) n
theorem SameBut.of {p : Addr} {H H1 : Hp} (h : Same H H1) : SameBut p H H1 := fun b o e _ => h b o e
theorem sameBut_upd {p : Addr} {H : Hp} {o : HO} : SameBut p H (upd H p o) := fun b u e n => by rw [upd_ne n]; exact e
noncomputable abbrev Th := Str × Int × Int
noncomputable def flds (d : Addr) : List (Str × V) := putF "things" (.ref d) []
structure StockAt (K : PySem.W.Frag) (C : Addr) (H : Hp) (p : Addr) (ts : List Th) : Prop where
  ex : ∃ (dx d : Addr) (kvs : List (Key × V)), H p = some (.ins C dx (flds d)) ∧ H d = some (.dK kvs) ∧ kvs.map (·.1) = ts.map (fun t => Sum.inr t.1) ∧
    ∀ (i : Nat) (t : Th), ts[i]? = some t → ∃ a, kvs[i]? = some (Sum.inr t.1, .ref a) ∧ SqT K H a [.int i, .int t.2.1, .int t.2.2]
theorem StockAt.same {K : PySem.W.Frag} {C : Addr} {H H' : Hp} {p : Addr} {ts : List Th} (s : Same H H') (h : StockAt K C H p ts) : StockAt K C H' p ts := by
  obtain ⟨dx, d, kvs, h1, h2, h3, h4⟩ := h.ex
  refine ⟨dx, d, kvs, s _ _ h1, s _ _ h2, h3, fun i t e => ?_⟩
  obtain ⟨a, e1, e2⟩ := h4 i t e
  exact ⟨a, e1, s.tup e2⟩
noncomputable def iOf : V → Int
  | .int i => i
  | _ => 0
theorem SqT.but {K : PySem.W.Frag} {H H' : Hp} {p a C dx : Addr} {fs : List (Str × V)} {xs : List V} (s : SameBut p H H') (hp : H p = some (.ins C dx fs)) (h : SqT K H a xs) : SqT K H' a xs := by
  rcases h with (h | ⟨o, h⟩) | h
  · exact .inl (.inl (s _ _ h (ne_of h hp (by intro z; cases z))))
  · exact .inl (.inr ⟨o, s _ _ h (ne_of h hp (by intro z; cases z))⟩)
  · exact .inr h
theorem SqL.but {K : PySem.W.Frag} {H H' : Hp} {p a C dx : Addr} {fs : List (Str × V)} {xs : List V} (s : SameBut p H H') (hp : H p = some (.ins C dx fs)) (h : SqL K H a xs) : SqL K H' a xs := by
  rcases h with (h | ⟨o, h⟩) | h
  · exact .inl (.inl (s _ _ h (ne_of h hp (by intro z; cases z))))
  · exact .inl (.inr ⟨o, s _ _ h (ne_of h hp (by intro z; cases z))⟩)
  · exact .inr h
theorem RowAt.but {K : PySem.W.Frag} {H H' : Hp} {p C dx : Addr} {fs : List (Str × V)} {t : Rw} (s : SameBut p H H') (hp : H p = some (.ins C dx fs)) (h : RowAt K H t) : RowAt K H' t :=
  ⟨SqT.but s hp h.1, h.2.1.imp id fun h => ⟨h.1, h.2.imp id fun ⟨a, xs, e, h⟩ => ⟨a, xs, e, s _ _ h (ne_of h hp (by intro z; cases z))⟩⟩, h.2.2⟩
theorem key_mem {kvs : List (Key × V)} {ks : List Str} {z : Str} (h : kvs.map (·.1) = ks.map Sum.inr) : (valV kvs (Sum.inr z)).isSome = decide (z ∈ ks) := by
  have e : (Sum.inr z : Key) ∈ kvs.map (·.1) ↔ z ∈ ks := by
    rw [h, List.mem_map]
    constructor
    · rintro ⟨a, ha, e⟩; injection e with e; subst e; exact ha
    · intro h; exact ⟨z, h, rfl⟩
  cases hv : valV kvs (Sum.inr z : Key) with
  | none => rw [decide_eq_false fun q => valV_not hv (e.mpr q)]; rfl
  | some v => rw [decide_eq_true (e.mp (valV_in hv))]; rfl
noncomputable def nmsOf (rs : List Rw) : List Str := rs.map fun t => sOf t.2.1
structure MidAt (K : PySem.W.Frag) (H : Hp) (d : Addr) (rs : List Rw) : Prop where
  ex : ∃ kvs : List (Key × V), H d = some (.dK kvs) ∧ kvs.map (·.1) = (nmsOf rs).map Sum.inr ∧ ∀ (j : Nat) (t : Rw), rs[j]? = some t → ∃ a, kvs[j]? = some (Sum.inr (sOf t.2.1), .ref a) ∧ SqT K H a [.int j, .int (iOf t.2.2.1), .int (iOf t.2.2.2)]
theorem MidAt.snoc {K : PySem.W.Frag} {H : Hp} {d a : Addr} {rs : List Rw} {t : Rw} {kvs : List (Key × V)} {c q : Int} {z : Str} (h1 : H d = some (.dK kvs)) (h2 : kvs.map (·.1) = (nmsOf rs).map Sum.inr)
    (h3 : ∀ (j : Nat) (t : Rw), rs[j]? = some t → ∃ a, kvs[j]? = some (Sum.inr (sOf t.2.1), .ref a) ∧ SqT K H a [.int j, .int (iOf t.2.2.1), .int (iOf t.2.2.2)])
    (e1 : t.2.1 = .str z) (e2 : t.2.2.1 = .int c) (e3 : t.2.2.2 = .int q) (nz : ¬ z ∈ nmsOf rs) (ha : H a = some (.tup [.int kvs.length, .int c, .int q])) :
    MidAt K (upd H d (.dK (putK kvs (Sum.inr z) (.ref a)))) d (rs ++ [t]) := by
  have hl : kvs.length = rs.length := by
    have := congrArg List.length h2
    simpa [nmsOf] using this
  have hv : valV kvs (Sum.inr z : Key) = none := by
    have := key_mem (z := z) h2
    rw [decide_eq_false nz] at this
    cases h : valV kvs (Sum.inr z : Key) with
    | none => rfl
    | some v => rw [h] at this; cases this
  have keep2 : ∀ {b : Addr} {xs : List V} {o : List (Key × V)}, SqT K H b xs → SqT K (upd H d (.dK o)) b xs := fun {b xs o} h => by
    rcases h with (h | ⟨o', h⟩) | h
    · exact .inl (.inl (by rw [upd_ne (ne_of h h1 (by intro z; cases z))]; exact h))
    · exact .inl (.inr ⟨_, by rw [upd_ne (ne_of h h1 (by intro z; cases z))]; exact h⟩)
    · exact .inr h
  refine ⟨_, upd_same, ?_, fun j t' hj => ?_⟩
  · rw [putK_new _ hv, List.map_append, h2]
    simp [nmsOf, e1, sOf]
  · rw [putK_new _ hv]
    by_cases hlt : j < rs.length
    · rw [List.getElem?_append_left hlt] at hj
      obtain ⟨b, e, hb⟩ := h3 j t' hj
      exact ⟨b, by rw [List.getElem?_append_left (by omega)]; exact e, keep2 hb⟩
    · rw [List.getElem?_append_right (by omega)] at hj
      have hj0 : j - rs.length = 0 := by
        have := (List.getElem?_eq_some_iff.mp hj).1
        simp at this; omega
      rw [hj0] at hj
      cases hj
      have ej : j = rs.length := by omega
      subst ej
      refine ⟨a, ?_, ?_⟩
      · rw [← hl, List.getElem?_append_right (by omega)]; simp [e1, sOf]
      · rw [e2, e3]
        refine keep2 (SqT.of ?_)
        rw [ha, hl]; rfl
end N1

set_option linter.all false
set_option maxHeartbeats 1000000
namespace L2
open PySem PySem.Spec PyProof.Rows
section
variable {X : Cx} {pins : List (Addr × Obj)} {σ : St} {H : Hp} {s : Shared}
theorem pa_consB {o j} {a b : Expr} {es : List Expr} {te : TE} {t : TA} (ha : PE X (.BinOp a o b j) te) (hr : PA X es t) : PA X (.BinOp a o b j :: es) (tCons te t) := pa_cons ha hr rfl
end
end L2
namespace N5
open PySem PySem.Spec PyProof.Rows L2 N1
noncomputable def dueS (at' ways : Int) : Str := if ways % 2 = 1 then Str.ofString "no name" else if ways / 2 % 2 = 1 ∧ 0 < at' then Str.ofString "twice" else if 3 < ways then Str.ofString "no number" else Str.ofString "nothing"
structure Good (ys : List Str) (i : Nat) (t : Rw) : Prop where
  n : ∃ z, ys[i]? = some z ∧ t.2.1 = .str z
  c : ∃ c, t.2.2.1 = .int c ∧ 0 ≤ c ∧ c ≤ 10 ^ 30
  r : ∃ r, t.2.2.2 = .int r ∧ 1 ≤ r ∧ r ≤ 1000
structure Kind (ys : List Str) (i : Nat) (ways : Int) (t : Rw) : Prop where
  n1 : ways % 2 = 1 → nOk t.2.1 = false
  n2 : ways % 2 = 0 → ways / 2 % 2 = 1 ∧ 0 < i → ∃ j z, j < i ∧ ys[j]? = some z ∧ t.2.1 = .str z
  n3 : ways % 2 = 0 → ¬ (ways / 2 % 2 = 1 ∧ 0 < i) → ∃ z, ys[i]? = some z ∧ t.2.1 = .str z
  c1 : ways / 4 % 2 = 1 → wIn 0 (10 ^ 30) t.2.2.1 = false
  c2 : ways / 4 % 2 = 0 → wIn 0 (10 ^ 30) t.2.2.1 = true
  r1 : ways / 8 % 2 = 1 → wIn 1 1000 t.2.2.2 = false
  r2 : ways / 8 % 2 = 0 → wIn 1 1000 t.2.2.2 = true
theorem Good.kind {ys : List Str} {i : Nat} {t : Rw} (g : Good ys i t) : Kind ys i 0 t := by
  obtain ⟨c, ec, h1, h2⟩ := g.c
  obtain ⟨r, er, h3, h4⟩ := g.r
  have e1 : wIn 0 (10 ^ 30) t.2.2.1 = true := by rw [ec]; simp only [wIn]; rw [decide_eq_true h1, decide_eq_true h2]; rfl
  have e2 : wIn 1 1000 t.2.2.2 = true := by rw [er]; simp only [wIn]; rw [decide_eq_true h3, decide_eq_true h4]; rfl
  exact ⟨fun h => by simp at h, fun _ h => by simp at h, fun _ _ => g.n, fun h => by simp at h, fun _ => e1, fun h => by simp at h, fun _ => e2⟩
theorem SqT.butL {K : PySem.W.Frag} {H H' : Hp} {p a : Addr} {zs : List V} {xs : List V} (s : SameBut p H H') (hp : H p = some (.lst zs)) (h : SqT K H a xs) : SqT K H' a xs := by
  rcases h with (h | ⟨o, h⟩) | h
  · exact .inl (.inl (s _ _ h (ne_of h hp (by intro z; cases z))))
  · exact .inl (.inr ⟨o, s _ _ h (ne_of h hp (by intro z; cases z))⟩)
  · exact .inr h
theorem RowAt.butL {K : PySem.W.Frag} {H H' : Hp} {p : Addr} {zs : List V} {t : Rw} (s : SameBut p H H') (hp : H p = some (.lst zs)) (h : RowAt K H t) : RowAt K H' t :=
  ⟨SqT.butL s hp h.1, h.2.1.imp id fun h => ⟨h.1, h.2.imp id fun ⟨a, xs, e, h⟩ => ⟨a, xs, e, s _ _ h (ne_of h hp (by intro z; cases z))⟩⟩, h.2.2⟩
theorem RowAt.same {K : PySem.W.Frag} {H H' : Hp} {t : Rw} (s : Same H H') (h : RowAt K H t) : RowAt K H' t := ⟨s.tup h.1, h.2.1.same s, h.2.2⟩
theorem same_made {H H' : Hp} {x dx C : Addr} (hx : H x = none) (hd : H dx = none) (s : SameBut x (upd (upd H dx (.own x)) x (.ins C dx [])) H') : Same H H' := fun b o e => by
  have n1 := ne_of_none e hx
  have n2 := ne_of_none e hd
  exact s b o (by rw [upd_ne n1, upd_ne n2]; exact e) n1
theorem RowAt.made {K : PySem.W.Frag} {H : Hp} {x dx C : Addr} {t : Rw} (hx : H x = none) (hd : H dx = none) (h : RowAt K H t) : RowAt K (upd (upd H dx (.own x)) x (.ins C dx [])) t := RowAt.same (same_made hx hd fun b o e _ => e) h
noncomputable def Inv5 (ys : List Str) (rs : List Rw) (ds : List Str) : Prop := ∀ (i : Nat) t d, rs[i]? = some t → ds[i]? = some d → ∃ ways : Int, 0 ≤ ways ∧ ways < 16 ∧ d = dueS i ways ∧ Kind ys i ways t
theorem Inv5.set {ys : List Str} {rs : List Rw} {ds : List Str} {i : Nat} {ways : Int} {t : Rw} (h : Inv5 ys rs ds) (h0 : 0 ≤ ways) (h1 : ways < 16) (k : Kind ys i ways t) : Inv5 ys (rs.set i t) (ds.set i (dueS i ways)) := by
  intro j t' d' e1 e2
  rw [List.getElem?_set] at e1 e2
  by_cases hj : i = j
  · subst hj
    rw [if_pos rfl] at e1 e2
    split at e1
    · split at e2
      · cases e1
        cases e2
        exact ⟨ways, h0, h1, rfl, k⟩
      · cases e2
    · cases e1
  · rw [if_neg hj] at e1 e2
    exact h j t' d' e1 e2
theorem Inv5.start {ys : List Str} {gs : List Rw} {n : Nat} (h : ∀ (j : Nat) t, gs[j]? = some t → Good ys j t) : Inv5 ys gs (List.replicate n (Str.ofString "nothing")) := by
  intro i t d e1 e2
  have ed : d = Str.ofString "nothing" := List.eq_of_mem_replicate (List.mem_of_getElem? e2)
  refine ⟨0, by omega, by omega, ?_, (h i t e1).kind⟩
  rw [ed]
  unfold dueS
  rw [if_neg (by decide), if_neg (fun h => by have := h.1; revert this; decide), if_neg (by decide)]
end N5

set_option Elab.async false
set_option linter.all false
set_option maxRecDepth 100000
set_option maxHeartbeats 4000000
namespace L2
open PySem PySem.Spec PyProof.Rows
open Sem (wp)

section
variable {Pg : Program} {w : World} {A : Around} {E : Value → Shared → Prop} {h : Heap} {g : Array GenState} {d : Drawn} {t : Nat} {os : OsState}
variable {nm q : Str} {C N : Addr} {bs bm bmB : List Value} {hd : Bool} {sn : List Str} {su : List Value} {ab : Bool} {co : Option Bool} {dd : Option Addr} {k0 k1 k2 k3 k5 : Option Value} {B nw ni : String}
noncomputable abbrev bareExc (h : Heap) (C : Addr) : Obj := { cls := .ref C, data := .fields #[.ref h.objs.size, .none, .none, .none, .bool false, .none] }
noncomputable abbrev twoMore (h : Heap) (C : Addr) (rest : List Value) : Heap := (h.push { cls := .type "tuple", data := .seq rest.toArray }).push (bareExc h C)
theorem keep2 {rest : List Value} : ∀ b o, h.get? b = some o → (twoMore h C rest).get? b = some o := fun _ _ e => Heap.get?_push_of_some _ (Heap.get?_push_of_some _ e)
end
section
open PySem.W PySem.Builtin PySem.Builtin.ObjectAttr
variable {Pg : Program} {w : World} {A : Around} {R : Result → Shared → Prop} {s : Shared} {K : Frag} {x C B : Addr} {ox : Obj} {od : Option Obj} {cd : ClassData} {f : Str} {tk : Tok} {v : Value}
noncomputable abbrev veTail : List Value := [.type "ValueError", .type "Exception", .type "BaseException", .type "object"]
end
section
variable {X : Cx} {pins : List (Addr × Obj)} {σ : St} {H : Hp} {x : Addr} {s : Shared} {h' : Heap} {o : HO} {t' : Nat}
end
section
variable {X : Cx} {C : Addr} {x : Str} {p pos : Pos} {e : Expr} {es : List Expr} {t : TA}
end
structure ExcG (K : PySem.W.Frag) (C : Addr) : Prop where
  ga : PySem.W.findIn K (.ref C) "__getattribute__" = some (some (.builtin "BaseException.__getattribute__"))
  gh : PySem.W.findIn K (.ref C) "__getattr__" = some none
structure ExcQ (K : PySem.W.Frag) (C B : Addr) : Prop extends ExcG K C where
  cd : ∃ cd : ClassData, PySem.W.clsIn K C = some cd ∧ cd.mro = .ref C :: .ref B :: veTail ∧ cd.hasDict = true
  sa : PySem.W.findIn K (.ref C) "__setattr__" = some (some (.builtin "object.__setattr__"))
section
variable {X : Cx} {pins : List (Addr × Obj)} {σ : St} {H : Hp} {s : Shared} {nw : Bool} {a dx C B : Addr} {fs : List (Str × V)} {f : Str} {v : V} {A : Around} {E : Value → Shared → Prop}
theorem ExcQ.hd {K : PySem.W.Frag} (q : ExcQ K C B) : PySem.W.hasDictIn K C = true := by
  obtain ⟨cd, c1, _, c3⟩ := q.cd
  unfold PySem.W.hasDictIn
  rw [c1]; exact c3
end
section
variable {X : Cx} {pins : List (Addr × Obj)} {σ : St} {H H1 : Hp} {s s1 : Shared} {x : Addr} {o : HO}
theorem Inv.track (I : Inv X pins σ H1 s1) (hex : X.ex = []) (hn : s1.heap.get? x = none) (J : Inv X pins σ H s) (hx : H x = none) (new : ObjOk X.prog X.w (upd H x o) s.heap x o) : Inv X pins σ (upd H x o) s := by
  have n0 : X.s₀.heap.get? x = none := by
    cases q : X.s₀.heap.get? x with
    | none => rfl
    | some v => obtain ⟨o1, e1⟩ := I.base.there x v q (by rw [hex]; simp); rw [hn] at e1; cases e1
  have nl : x ≠ X.env.locals := by
    rintro rfl
    obtain ⟨m, ⟨o1, es, ep, e, _⟩, _⟩ := I.loc
    rw [hn] at e; cases e
  have nc : ∀ y c, X.env.cells.lookup y = some c → c ≠ x := by
    rintro y c hc rfl
    obtain ⟨v, o1, e, _⟩ := I.cell y c hc
    rw [hn] at e; cases e
  have np : ∀ p ∈ X.pn ++ pins, p.1 ≠ x := fun p hp z => by
    have e := (I.pin p hp).1
    rw [z, hn] at e; cases e
  refine ⟨J.ok, J.os, J.bare, ⟨J.base.keep, J.base.slot, fun b o e n hb => ?_, J.base.there, fun b xs e => ?_, fun b o v e => ?_, fun b ps e => ?_⟩, J.loc, J.cell, ?_, fun y c hc => ?_, fun p hp => ?_, fun b u e => ?_, J.len⟩
  · rw [upd_ne (by rintro rfl; rw [n0] at e; cases e)]; exact J.base.free b o e n hb
  · have e1 := J.base.tups b xs e; rw [upd_ne (ne_of_none e1 hx)]; exact e1
  · have e1 := J.base.frzs b o v e; rw [upd_ne (ne_of_none e1 hx)]; exact e1
  · obtain ⟨m, e1⟩ := J.base.tbls b ps e; exact ⟨m, by rw [upd_ne (ne_of_none e1 hx)]; exact e1⟩
  · rw [upd_ne nl.symm]; exact J.free
  · rw [upd_ne (nc y c hc)]; exact J.freeC y c hc
  · obtain ⟨a1, a2, a3, a4, a5⟩ := J.pin p hp
    exact ⟨a1, by rw [upd_ne (np p hp)]; exact a2, a3, a4, a5⟩
  · by_cases hb : b = x
    · subst hb
      rw [upd_same] at e; cases e
      exact new
    · rw [upd_ne hb] at e
      exact (J.hok b u e).stay (fun _ _ _ q => q) (fun c q => by rw [upd_ne (ne_of_none q hx)]; exact q) fun c xs q => by rw [upd_ne (ne_of_none q hx)]; exact q
end
section
variable {X : Cx} {CX : CXT} {k j : Nat} {C B : Addr} {ps : List Str} {sp : Sp} {EE : St → XK} {f m : Str} {pos pos' apos : Pos} {e o value : Expr} {ta tv : TE}
end
structure MkX (K : PySem.W.Frag) (C f : Addr) : Prop where
  at_ : ∀ h : Heap, K.In h → ∃ (nm q : Str) (N : Addr) (bs bm : List Value) (hd : Bool) (sn : List Str) (su : List Value) (ab : Bool) (co : Option Bool) (dd : Option Addr) (k0 k1 k2 k3 k5 : Option Value) (mN : Str → Option Value),
    h.get? C = some (excClassObj nm q C N bs bm hd sn su ab co dd k0 k1 k2 k3 k5 "ValueError.__new__") ∧ h.Ns N mN ∧ mN "__init__" = some (.ref f) ∧ OwnTail h veTail bm
  fn : ∃ oI : Obj, K.lookup f = some oI ∧ oI.cls = .type "function"
  kp : PySem.W.keepIn K (.ref C) = true
structure DefX (P : Program) (w : World) (K : PySem.W.Frag) (mg : Str → Option Value) (base : Heap) (CX : CXT) (k : Nat) (x : Str) (C : Addr) (ps : List Str) (sp : Sp) : Prop where
  ex : ∃ (f : Addr) (fd : FuncData), FnOk P w K mg base CX k f fd ps sp ∧ MkX K C f ∧ mg x = some (.ref C) ∧ Binds K fd ps []
section
variable {X : Cx} {CX : CXT} {k j : Nat} {C : Addr} {ps : List Str} {sp : Sp} {EE : St → XK} {x : Str} {p pos : Pos} {e : Expr} {es : List Expr} {t : TA}
end
end L2

set_option Elab.async false
set_option linter.all false
set_option maxRecDepth 100000
set_option maxHeartbeats 4000000
namespace L2
open PySem PySem.Spec PyProof.Rows
open Sem (wp)

noncomputable def Lies (h : Heap) (x C : Addr) (od : Option Addr) : Prop := ∃ vs sl, h.get? x = some ⟨.ref C, od, .fields vs, sl⟩
section
variable {M : Model} {A : Around} {E : Value → Shared → Prop} {s : Shared} {base : Heap} {env : Env} {outer l : List Env} {L x C : Addr} {od : Option Addr} {vs : Array Value} {sl : Array (Option Value)} {a0 fl : Value} {Q : Unit → Shared → Prop}
theorem landD (bs : base.StaysIn s.heap) (ff : s.heap.FunFrames base l) (tr : s.heap.TracedAtW base x (.ref C) a0 fl) (ly : Lies s.heap x C od)
    (q : ∀ h', base.StaysIn h' → h'.FunFrames base l → h'.TracedW base x (.ref C) a0 → s.heap.UpToSlots h' → Lies h' x C od → Q () { s with heap := h' }) : wpAny M A (setFlight (.ref x) none) Q E s := by
  obtain ⟨oe, ws, T, oT, ts, e1, c1, d1, d2, n1, n2, e3, d3, t3⟩ := tr
  obtain ⟨v2, s2, l1⟩ := ly
  have z3 : 3 < ts.size := (Array.getElem?_eq_some_iff.mp t3).1
  unfold setFlight
  refine wpAny_bind (wpAny_field e1 d1 d2 ?_)
  rw [if_pos (show (Value.ref T != Value.none) = true from by simp)]
  have oth : ∀ b, b ≠ T → (s.heap.update T (Obj.mapFields (·.setIfInBounds 3 ((none : Option Addr).elim Value.none fun f => rawInt f)))).get? b = s.heap.get? b := fun b nb => Heap.get?_update_other _ _ (Ne.symm nb)
  have nr : ∀ b o, s.heap.get? b = some o → (∀ us, o.data ≠ .fields us) → b ≠ T := fun b o e n z => by rw [z, e3] at e; cases e; exact n ts d3
  refine wpAny_setField e3 d3 z3 (q _ (fun b o e => (oth b fun z => by rw [z, n1] at e; cases e).trans (bs b o e)) (ff.of_keeps fun b o e n => ⟨o, (oth b (nr b o e n)).trans e, rfl⟩) ?_ (fun b o e n => ⟨o.slots, (oth b (nr b o e n)).trans e⟩) ⟨v2, s2, (oth x (Ne.symm n2)).trans l1⟩)
  exact ⟨oe, ws, T, _, _, (oth x (Ne.symm n2)).trans e1, c1, d1, d2, n1, n2, Heap.get?_update_self _ e3 (Obj.isFreed_of_fields (Obj.data_mapFields d3 _)), Obj.data_mapFields d3 _, by simp [z3]⟩
end

section
variable {X : Cx} {pins : List (Addr × Obj)} {σ : St} {H2 : Hp} {s2 : Shared} {h3 : Heap} {n : Bool} {x C : Addr} {od : Option Addr}
end
section
variable {P : Program} {w : World} {K : PySem.W.Frag} {mg : Str → Option Value} {base : Heap} {N : List Str} {qual : Str} {scope : Scope} {f : Addr} {cd : Value} {A : Around} {outer : List Env} {s : Shared} {H : Hp} {E : XK}
end

structure ExK (K : PySem.W.Frag) (C : Addr) : Prop where
  at_ : ∀ h : Heap, K.In h → ∃ (nm q : Str) (N : Addr) (bs bm : List Value) (hd : Bool) (sn : List Str) (su : List Value) (ab : Bool) (co : Option Bool) (dd : Option Addr) (k0 k1 k2 k3 k5 : Option Value) (nw : String),
    h.get? C = some (excClassObj nm q C N bs bm hd sn su ab co dd k0 k1 k2 k3 k5 nw) ∧ bm.contains (.type "BaseException") = true
theorem ExcC.k {K : PySem.W.Frag} {C : Addr} (M : ExcC K C) : ExK K C := ⟨fun h X => by
  obtain ⟨nm, q, N, bs, bm, hd, sn, su, ab, co, dd, k0, k1, k2, k3, k5, mN, c1, c2, c3, c4⟩ := M.at_ h X
  exact ⟨nm, q, N, bs, bm, hd, sn, su, ab, co, dd, k0, k1, k2, k3, k5, _, c1, c4.hasType (by decide)⟩⟩
theorem MkX.k {K : PySem.W.Frag} {C f : Addr} (M : MkX K C f) : ExK K C := ⟨fun h X => by
  obtain ⟨nm, q, N, bs, bm, hd, sn, su, ab, co, dd, k0, k1, k2, k3, k5, mN, c1, c2, c3, c4⟩ := M.at_ h X
  exact ⟨nm, q, N, bs, bm, hd, sn, su, ab, co, dd, k0, k1, k2, k3, k5, _, c1, c4.hasType (by decide)⟩⟩
section
variable {X : Cx} {H₀ : Hp} {EE : St → XK} {C : Addr} {e : Expr} {ta : TE} {pos : Pos}
end
section
variable {X : Cx} {H₀ : Hp} {CX : CXT} {EE : St → XK} {k j : Nat} {C : Addr} {ps : List Str} {sp : Sp} {x : Str} {np cpos pos : Pos} {e : Expr} {es : List Expr} {t : TA}
end
section
variable {σ : St} {H H₀ : Hp} {Q : VK} {D : Ends} {K : PySem.W.Frag} {C : Addr} {EE : St → XK} {t : TA} {sp : Sp}
end

section
variable {X : Cx} {pins : List (Addr × Obj)} {σ : St} {H : Hp} {x C : Addr} {od : Option Addr} {s : Shared}
theorem Air.landD (Z : Air X pins σ H x (.ref C) s) (ly : Lies s.heap x C od) {M : Model} {A : Around} {Q : Unit → Shared → Prop} {E : Value → Shared → Prop} (h : ∀ s', Air X pins σ H x (.ref C) s' → Lies s'.heap x C od → Q () s') : wpAny M A (setFlight (.ref x) none) Q E s := by
  obtain ⟨H0, s0, a0, B, I, os, bare, u, ok, fl, hB, hx, hn⟩ := Z.ex
  refine L2.landD fl.1 fl.2.2.1 fl.2.2.2.at ly fun h2 b2 g2 t2 u2 l2 => h _ ?_ l2
  obtain ⟨U, ok3, hB3⟩ := stay_of u ok I.frm I.stkFree hB b2 u2
  exact ⟨H0, s0, a0, B, I, os, bare, U, ok3, ⟨b2, fl.2.1, g2, t2⟩, hB3, hx, hn⟩
end
section
variable {X : Cx} {Cn n : Str} {c : Value} {i : Nat} {np pos : Pos} {b₀ : Stmt} {suite : List Stmt} {rest : List ExceptHandler} {ts : Addr → TS} {tr : TH}
end
section
variable {σ : St} {H : Hp} {D : Ends} {K : PySem.W.Frag}
end
section
open PySem.W
end
section
open PySem.W
variable {K : Frag} {C N A f : Addr} {nm q : Str} {bs : List Value} {hdct : Bool} {sn : List Str} {sub : List Value} {ab : Bool} {col : Option Bool} {dd : Option Addr} {k0 k1 k2 k3 k5 : Option Value} {oc c0 oc2 : Value} {od dA od2 : Option Addr} {es es2 : Array DictEntry} {ep ep2 : Nat} {sl slA sl2 : Array (Option Value)} {cdA : ClassData} {nw : String}
end
end L2

set_option Elab.async false
set_option linter.all false
set_option maxRecDepth 100000
set_option maxHeartbeats 4000000
namespace L2
open PySem PySem.Spec PyProof.Rows

theorem vals_get : ∀ {xs : List V} {us : List Value}, Vals xs us → ∀ {i : Nat} {u : Value}, us[i]? = some u → ∃ x, xs[i]? = some x ∧ RelV x u
  | _, _, .cons r t, 0, u, e => by cases e; exact ⟨_, rfl, r⟩
  | _, _, .cons r t, i + 1, u, e => vals_get t (i := i) e
theorem erase_map {α β : Type} (f : α → β) : ∀ (l : List α) (i : Nat), (l.map f).eraseIdx i = (l.eraseIdx i).map f
  | [], _ => rfl
  | _ :: _, 0 => rfl
  | a :: l, i + 1 => by rw [List.map_cons, List.eraseIdx_cons_succ, List.eraseIdx_cons_succ, List.map_cons, erase_map f l i]
theorem erase_at (z : Str) : ∀ l : List Str, l.eraseIdx (l.idxOf z) = l.erase z
  | [] => rfl
  | a :: l => by
    by_cases h : a = z
    · subst h; simp
    · have e : (a :: l).idxOf z = l.idxOf z + 1 := by rw [List.idxOf_cons, show (a == z) = false from beq_false_of_ne h]; rfl
      rw [e, List.eraseIdx_cons_succ, erase_at z l, List.erase_cons_tail (by simpa using h)]
noncomputable def rRemove : V → List V → Hp → VK → Prop := fun x vs H Q => ∃ (l : Addr) (ys : List Str) (z : Str), x = .ref l ∧ vs = [.str z] ∧ H l = some (.lst (ys.map V.str)) ∧ z ∈ ys ∧ Q .non (upd H l (.lst ((ys.erase z).map V.str)))
section
variable {X : Cx}
theorem mt_remove : MtM X "list.remove" rRemove := by
  intro pins s σ H x vs v us Q I rx rv h
  obtain ⟨l, ys, z, rfl, rfl, hH, hz, q⟩ := h
  cases rx
  obtain ⟨u, rfl, ru⟩ := rv.one
  obtain ⟨t, rfl⟩ := ru
  obtain ⟨hs, its, n, r, hl, e⟩ := I.lstM hH
  have hj : ys.idxOf z < ys.length := List.idxOf_lt_length_iff.mpr hz
  have at_ : ∀ (m : Nat) (u : Value), its[m]? = some u → ∃ y t, ys[m]? = some y ∧ u = .str y t := fun m u em => by
    obtain ⟨x, ex, rx⟩ := vals_get r em
    rw [List.getElem?_map] at ex
    cases hy : ys[m]? with
    | none => rw [hy] at ex; cases ex
    | some y =>
      rw [hy] at ex
      cases ex
      obtain ⟨t, e⟩ := rx
      exact ⟨y, t, rfl, e⟩
  have ev : ∀ y, y ∈ its.toArray → MeetsSeq.EqGives y (.str z t) (PyProof.Rows.isStrOf z y) := fun y hy => by
    obtain ⟨m, hm⟩ := List.mem_iff_getElem?.mp (by simpa using hy)
    obtain ⟨y', t', _, rfl⟩ := at_ m y hm
    exact eqGives_str y' z t' t
  have hit : ∀ (m : Nat) (hm : m < its.toArray.size), ∃ y t, ys[m]? = some y ∧ its.toArray[m] = .str y t := fun m hm => at_ m _ (by simp)
  refine call_meets F.slot_list_remove ⟨_, e, rfl⟩ F.entry_list_remove (F.args_list_remove_2 _ _) (MeetsSeq.list_remove l its.toArray n (.str z t) (isStrOf z) ev (ys.idxOf z) (by rw [List.size_toArray, ← hl, List.length_map]; exact hj) ?_ ?_ (by rw [List.size_toArray]; omega)) ⟨e, ?_⟩
  · obtain ⟨y, t', h1, h2⟩ := hit (ys.idxOf z) (by rw [List.size_toArray, ← hl, List.length_map]; exact hj)
    rw [h2]
    have e3 : ys[ys.idxOf z]? = some z := by rw [List.getElem?_eq_getElem hj, List.getElem_idxOf hj]
    rw [e3] at h1; cases h1
    simp [isStrOf]
  · intro m hm hlt
    obtain ⟨y, t', h1, h2⟩ := hit m hm
    rw [h2]
    have e3 : (ys[m]'(by omega) == z) = false := List.not_of_lt_findIdx hlt
    rw [List.getElem?_eq_getElem (by omega)] at h1
    cases h1
    exact e3
  · refine ⟨.non, _, I.lset (its' := its.eraseIdx (ys.idxOf z)) hH e ?_ (ys := (ys.erase z).map V.str) ?_ ?_, rfl, q⟩
    · rw [List.eraseIdxIfInBounds_toArray]
    · have := r.eraseIdx (ys.idxOf z)
      have e5 : (ys.map V.str).eraseIdx (ys.idxOf z) = (ys.erase z).map V.str := by
        rw [erase_map, erase_at]
      rw [e5] at this
      exact this
    · have := List.length_erase_le (a := z) (l := ys)
      rw [List.length_map] at hs ⊢
      omega
end
section
variable {σ : St} {H : Hp} {Q : VK} {xs : List V} {x y : V}
theorem rd_dget2 {td ty tx : TE} : tDGet2 td ty tx σ H Q = td σ H fun x H1 => ∃ a, x = .ref a ∧ IsD H1 a ∧ ty σ H1 fun y H2 => tx σ H2 fun z H3 => ∃ o, DGet H3 a y o ∧ Q (o.getD z) H3 := rfl
theorem rd_remove : rRemove x xs H Q = ∃ (l : Addr) (ys : List Str) (z : Str), x = .ref l ∧ xs = [.str z] ∧ H l = some (.lst (ys.map V.str)) ∧ z ∈ ys ∧ Q .non (upd H l (.lst ((ys.erase z).map V.str))) := rfl
end
section
variable {i j : Int} {a b : Bool} {x y : Str}
end
end L2

set_option linter.all false
set_option maxHeartbeats 1000000
namespace L2
open PySem PySem.Spec PyProof.Rows N1 N5
section
variable {K : PySem.W.Frag} {tail : St} {te : Blk → TE} {Q : VK} {H1 : Hp}
theorem compL_ix {a : Addr} {xs : List V} (f : Nat → V) (hS : SqL K H1 a xs) (hz : xs.length ≤ sizeLine) (he : ∀ b i x H Q', xs[i]? = some x → Same H1 H → Q' (f i) H → te b (some x :: tail) H Q')
    (q : ∀ D, H1 D = none → Q (.ref D) (upd H1 D (.lst ((List.range xs.length).map f)))) : CompTail (none :: tail) (fun _ => gName 0) (fun _ => tYes) te Q (Itl K a) H1 := by
  refine comp_by xs.length (fun b D hD => ⟨fun i ys H => i ≤ xs.length ∧ ys = (List.range i).map f ∧ H = upd H1 D (.lst ys), ⟨Nat.zero_le _, rfl, rfl⟩, ?_, ?_, ?_⟩)
  · rintro i ys H ⟨hi, rfl, rfl⟩
    exact upd_same
  · rintro ys H ⟨_, rfl, rfl⟩
    exact ⟨⟨xs, (same_new hD).seq hS, Nat.le_refl _⟩, q D hD⟩
  · rintro i ys H hi ⟨_, rfl, rfl⟩
    refine ⟨⟨xs, xs[i], (same_new hD).seq hS, by simp [hi]⟩, fun x H3 ⟨e3, ex⟩ => ?_⟩
    subst e3
    refine he b i x _ _ (ex xs ((same_new hD).seq hS)) (same_new hD) (compNext upd_same (by rw [List.length_map, List.length_range]; omega) hi ⟨hi, ?_, ?_⟩)
    · rw [List.range_succ]; simp
    · funext a; by_cases ha : a = D <;> simp [upd, ha]
noncomputable def OffLists (P : V → Hp → Prop) : Prop := ∀ y H H' l zs, P y H → H l = some (.lst zs) → SameBut l H H' → P y H'
theorem compR_mk {lo : Int} {n : Nat} (P : Nat → V → Hp → Prop) (hP : ∀ i, OffLists (P i)) (hz : n ≤ sizeLine) (he : ∀ b (i : Nat) H Q', i < n → Same H1 H → (∀ y H', Same H H' → P i y H' → Q' y H') → te b (some (.int (lo + i)) :: tail) H Q')
    (q : ∀ D ys H', H1 D = none → Same H1 H' → H' D = some (.lst ys) → ys.length = n → (∀ i y, ys[i]? = some y → P i y H') → Q (.ref D) H') : CompTail (none :: tail) (fun _ => gName 0) (fun _ => tYes) te Q (Itr lo n) H1 := by
  refine comp_by n (fun b D hD => ⟨fun i ys H => i ≤ n ∧ ys.length = i ∧ H D = some (.lst ys) ∧ Same H1 H ∧ ∀ j y, ys[j]? = some y → P j y H, ⟨Nat.zero_le _, rfl, upd_same, same_new hD, fun j y e => by simp at e⟩, ?_, ?_, ?_⟩)
  · rintro i ys H ⟨hi, _, h, _⟩
    exact h
  · rintro ys H ⟨_, hl, h, sm, hall⟩
    exact ⟨Nat.le_refl _, q D ys H hD sm h hl hall⟩
  · rintro i ys H hi ⟨_, hl, h, sm, hall⟩
    refine ⟨hi, fun x H3 ⟨e3, ex⟩ => ?_⟩
    subst e3 ex
    refine he b i _ _ hi sm fun y H4 sm4 py => ?_
    have h4 := sm4 _ _ h
    have sb : SameBut D H4 (upd H4 D (.lst (ys ++ [y]))) := sameBut_upd
    refine compNext h4 (by omega) hi ⟨hi, by rw [List.length_append, hl]; rfl, upd_same, fun c o e => ?_, fun j y' e => ?_⟩
    · rw [upd_ne (ne_of_none e hD)]; exact sm4 _ _ (sm _ _ e)
    · by_cases hj : j < ys.length
      · rw [List.getElem?_append_left hj] at e
        have := hall j y' e
        exact hP j _ _ _ _ _ this h fun c o e n => by rw [upd_ne n]; exact sm4 _ _ e
      · rw [List.getElem?_append_right (by omega)] at e
        have hj0 : j = i := by have := (List.getElem?_eq_some_iff.mp e).1; simp at this; omega
        subst hj0
        rw [show j - ys.length = 0 by omega] at e
        cases e
        exact hP j _ _ _ _ _ py h4 sb
end
end L2
namespace N4
open PySem PySem.Spec PyProof.Rows L2 N1 N5
theorem valV_nth {kvs : List (Key × V)} {i : Nat} {k : Key} {v : V} (nd : (kvs.map (·.1)).Nodup) (e : kvs[i]? = some (k, v)) : valV kvs k = some v := by
  induction kvs generalizing i with
  | nil => rw [List.getElem?_nil] at e; cases e
  | cons p r ih =>
    cases i with
    | zero => cases e; exact valV_pos rfl
    | succ i =>
      rw [List.map_cons, List.nodup_cons] at nd
      have hm : (k, v) ∈ r := List.mem_of_getElem? e
      rw [valV_neg (fun z => nd.1 (by rw [z]; exact List.mem_map_of_mem (f := (·.1)) hm))]
      exact ih nd.2 e
theorem inr_nodup {ks : List Str} (h : ks.Nodup) : (ks.map (Sum.inr : Str → Key)).Nodup := by
  unfold List.Nodup at *
  rw [List.pairwise_map]
  exact h.imp fun n e => n (by injection e)
section
variable {K : PySem.W.Frag} {C : Addr} {H H' : Hp} {p : Addr} {ts : List Th} {z : Str}
theorem StockAt.has (h : StockAt K C H p ts) : ∃ dx d kvs, H p = some (.ins C dx (flds d)) ∧ H d = some (.dK kvs) ∧ (kvs.map fun q => kV q.1) = ts.map (fun t => V.str t.1) ∧ (∀ z, (valV kvs (Sum.inr z)).isSome = decide (z ∈ ts.map (·.1))) ∧
    ((ts.map (·.1)).Nodup → ∀ (i : Nat) (t : Th), ts[i]? = some t → ∃ a, valV kvs (Sum.inr t.1) = some (.ref a) ∧ SqT K H a [.int i, .int t.2.1, .int t.2.2]) := by
  obtain ⟨dx, d, kvs, h1, h2, h3, h4⟩ := h.ex
  have h3' : kvs.map (·.1) = (ts.map (·.1)).map Sum.inr := by rw [h3, List.map_map]; rfl
  refine ⟨dx, d, kvs, h1, h2, ?_, fun z => key_mem h3', fun nd i t e => ?_⟩
  · have := congrArg (List.map kV) h3
    rw [List.map_map, List.map_map] at this
    exact this
  · obtain ⟨a, e1, e2⟩ := h4 i t e
    exact ⟨a, valV_nth (by rw [h3']; exact inr_nodup nd) e1, e2⟩
theorem StockAt.but {q D dx : Addr} {fs : List (Str × V)} (s : SameBut q H H') (hq : H q = some (.ins D dx fs)) (hp : p ≠ q) (h : StockAt K C H p ts) : StockAt K C H' p ts := by
  obtain ⟨dx', d, kvs, h1, h2, h3, h4⟩ := h.ex
  refine ⟨dx', d, kvs, s _ _ h1 hp, s _ _ h2 (ne_of h2 hq (by intro z; cases z)), h3, fun i t e => ?_⟩
  obtain ⟨a, e1, e2⟩ := h4 i t e
  exact ⟨a, e1, SqT.but s hq e2⟩
end
end N4

set_option Elab.async false
set_option linter.all false
set_option maxRecDepth 100000
set_option maxHeartbeats 4000000
namespace L2
open PySem PySem.Spec PyProof.Rows

theorem Inv.turned2 {X : Cx} {pins : List (Addr × Obj)} {σ : St} {H : Hp} {s : Shared} {h' : Heap} {t' : Nat} {fp : List Addr} (I : Inv X pins σ H s) (k : ∀ b o, b ∉ fp → s.heap.get? b = some o → h'.get? b = some o) (hf : ∀ it ∈ fp, FpOk X pins H it) :
    Inv X pins σ H { s with heap := h', toks := t' } := by
  have nit : ∀ b u, H b = some u → b ∉ fp := fun b u e z => by rw [(hf b z).1] at e; cases e
  refine I.step (g' := s.gens) (d' := s.drawn) (ch := fp) (fun b hb => ?_) (fun b o _ _ hc e _ => k b o hc e) (fun b o _ _ hc e _ => ⟨o.slots, k b o hc e⟩) (fun _ _ _ _ n => n)
    (fun b o hc e => ⟨o, k b o hc e⟩) (fun _ _ e => e) (fun _ _ _ e => e) (fun b ps e => ⟨#[], by rw [e]; simp⟩) (fun m hm => ?_) (fun b u e => ?_) I.bare
  · obtain ⟨_, h1, _, h2, h3, h4⟩ := hf b hb
    exact ⟨h2, h1, h3, h4⟩
  · obtain ⟨o, es, ep, ho, r⟩ := hm
    exact ⟨o, es, ep, k _ o (fun z => (hf _ z).2.1 rfl) ho, r⟩
  · refine (I.hok b u e).stay (fun c v hc q => k c v ?_ q) (fun _ q => q) fun _ _ q => q
    rcases hc with z | z
    · rw [z]; exact nit b u e
    · exact nit c _ z
noncomputable def Ite (K : PySem.W.Frag) (a : Addr) : It :=
  ⟨fun i H => ∃ xs x, SqL K H a xs ∧ xs[i]? = some x, fun i H y H' => ∃ t x, y = .ref t ∧ H t = none ∧ H' = upd H t (.tup [.int i, x]) ∧ ∀ xs, SqL K H a xs → xs[i]? = some x, fun i H => ∃ xs, SqL K H a xs ∧ xs.length ≤ i⟩
noncomputable def tnE (e it a : Addr) (i : Nat) (h : Heap) : Prop := (∃ old, IsEnum h e it i old) ∧ h.IsListIter it a i
theorem turn_enum {P : Program} {w : World} {K : PySem.W.Frag} {es : List Expr} {k : Nat} {pos : Pos} (a e it : Addr) (ne : e ≠ it) : Turn P w K (.Tuple es k pos) (Ite K a) [e, it] e (tnE e it a) where
  mem := by simp
  obj := fun i h st b hb => by
    obtain ⟨⟨old, h1⟩, o, h2, c, d⟩ := st
    have hb : b = e ∨ b = it := by simpa using hb
    rcases hb with rfl | rfl
    · exact ⟨_, h1, fun v z => by cases z⟩
    · exact ⟨o, h2, fun v z => by rw [d] at z; cases z⟩
  keep := fun i h h' st kk => by
    obtain ⟨⟨old, h1⟩, h2⟩ := st
    exact ⟨⟨old, kk e (by simp) _ h1⟩, h2.at fun o q => kk it (by simp) o q⟩
  item := by
    intro X hP hw hK hc i pins s σ H E I hf st hg
    subst hP hw hK
    obtain ⟨xs, x, hq, hx⟩ := hg
    obtain ⟨its, rv, p, hz⟩ := I.list hq
    obtain ⟨u, hu, ru⟩ := rv.get hx
    obtain ⟨⟨old, h1⟩, h2⟩ := st
    have hlt : e < s.heap.objs.size := Heap.lt_size h1
    have hit : it < s.heap.objs.size := by obtain ⟨o, q, _⟩ := id h2; exact Heap.lt_size q
    refine wpAny_pyNext_enum_item h1 h2 p.isList (x := u) (by simpa using hu) ne fun h' eo it' ht hs hk => ?_
    refine ⟨_, rfl, wpAny_letOwnedTupleGo_enum (s := { s with heap := h', toks := s.toks + 1 }) eo fun h3 e3 sb => ?_⟩
    have hf0 : H s.heap.objs.size = none := I.hok.fresh (Nat.le_refl _)
    have nt : ∀ b ∈ [e, it], b ≠ s.heap.objs.size := fun b hb => by
      have hb : b = e ∨ b = it := by simpa using hb
      rcases hb with rfl | rfl
      · exact Nat.ne_of_lt hlt
      · exact Nat.ne_of_lt hit
    have I0 : Inv X pins σ (upd H s.heap.objs.size (.tup [.int i, x])) { s with heap := s.heap.push { cls := .type "tuple", data := .seq #[.int i s.toks, u] }, toks := s.toks + 1 } :=
      I.laid (fun b u e => Heap.get?_push_of_some _ e) (Nat.le_refl _) ⟨by simp [sizeLine]; try decide, [.int i s.toks, u], .cons ⟨_, rfl⟩ (.cons ru .nil), ⟨_, Heap.get?_push_size _ rfl, rfl, _, rfl⟩⟩
    have hfp : ∀ b ∈ [e, it], FpOk X pins (upd H s.heap.objs.size (.tup [.int i, x])) b := fun b hb => by
      obtain ⟨f0, f1, f2, f3, f4, f5⟩ := hf b hb
      exact ⟨by rw [upd_ne (nt b hb)]; exact f0, f1, f2, f3, f4, f5⟩
    have I1 : Inv X pins σ (upd H s.heap.objs.size (.tup [.int i, x])) { s with heap := h3, toks := s.toks + 1 } := by
      refine Inv.turned2 (s := { s with heap := s.heap.push { cls := .type "tuple", data := .seq #[.int i s.toks, u] }, toks := s.toks + 1 }) (t' := s.toks + 1) I0 (fun b o hb q => ?_) hfp
      have hb' : b ≠ e ∧ b ≠ it := by simpa using hb
      refine (sb.2 b hb'.1).trans ?_
      rcases Heap.get?_push_cases q with ⟨rfl, rfl⟩ | q2
      · exact ht
      · exact hk b o hb'.1 hb'.2 q2
    refine ⟨.ref s.heap.objs.size, upd H s.heap.objs.size (.tup [.int i, x]), I1, rfl, ⟨_, x, rfl, hf0, rfl, fun ys hy => by rw [I.list_inj hy hq]; exact hx⟩, ⟨⟨u, ?_⟩, ?_⟩, fun b hb => (hfp b hb).1⟩
    · show IsEnum h3 e it ((i + 1 : Nat) : Int) u
      rw [show ((i + 1 : Nat) : Int) = (i : Int) + 1 from rfl]
      exact e3
    · exact it'.at fun o q => (sb.2 it (Ne.symm ne)).trans q
  done := by
    intro X hP hw hK hc i pins s σ H E I hf st hg
    subst hP hw hK
    obtain ⟨xs, hq, hx⟩ := hg
    obtain ⟨its, rv, p, hz⟩ := I.list hq
    obtain ⟨⟨old, h1⟩, h2⟩ := st
    have hl := rv.length
    exact wpAny_pyNext_enum_end (I.ok.hd hc) h1 h2 p.isList (by simp; omega) fun h' eb => ⟨rfl, Inv.turned2 (t' := s.toks) I (fun b o hb q => eb b o (fun z => hb (by simp [z])) q) hf⟩
  self := fun _ _ _ _ _ st h => wpAny_pyIter_enum st.1.choose_spec h
section
variable {X : Cx}
noncomputable def iEnum (K : PySem.W.Frag) (ta : TA) : TI := fun σ H R => ta σ H fun vs H1 => ∃ a, vs = [.ref a] ∧ (∃ xs, SqL K H1 a xs) ∧ R (Ite K a) H1
theorem pi_enum {l : Expr} {ta : TA} {p pos pp : Pos} {es : List Expr} {k : Nat} (hg : Gl X "enumerate") (hm : X.mg "enumerate" = none) (ha : PA X [l] ta) (hs : starEach [l] X.env = [(false, eval l X.env)] := by rfl) : PI X (.Tuple es k pp) (.Call (.Name "enumerate" p) [l] [] pos) (iEnum X.K ta) := by
  intro pins s σ H R I h
  refine Call_ (ld_blt I hg hm boot_enumerate (PyProof.Rows.callWith_type1 (thn (ha pos pins s σ H _ I h) fun us s1 ⟨vs, H1, I1, r1, q1⟩ => ?_) hs rfl))
  obtain ⟨a, e, ⟨xs, hq⟩, q⟩ := q1
  subst e
  cases r1 with
  | cons r rr =>
    cases rr
    cases r
    obtain ⟨its, rv, p', hz⟩ := I1.list hq
    refine call_enumerate_list p'.isList fun h' h1 h2 h3 h4 => ?_
    refine wpAny_pyIter_enum h1 ?_
    refine ⟨_, [s1.heap.objs.size + 1, s1.heap.objs.size], _, _, H1, rfl, I1.kept (t' := s1.toks) h4, turn_enum a _ _ (Nat.succ_ne_self _), ⟨⟨_, h1⟩, h2⟩, fun b hb => ?_, q⟩
    have hb : b = s1.heap.objs.size + 1 ∨ b = s1.heap.objs.size := by simpa using hb
    rcases hb with rfl | rfl
    · exact I1.fpOk (Nat.le_succ _) (I1.hok.fresh (Nat.le_succ _))
    · exact I1.fpOk (Nat.le_refl _) (I1.hok.fresh (Nat.le_refl _))
end
section
variable {K : PySem.W.Frag} {σ : St} {H : Hp} {D : Ends}
theorem rd_ienum {ta : TA} {R : It → Hp → Prop} : iEnum K ta σ H R = ta σ H fun vs H1 => ∃ a, vs = [.ref a] ∧ (∃ xs, SqL K H1 a xs) ∧ R (Ite K a) H1 := rfl
theorem forE_by {a : Addr} {xs : List V} {g : TG} {tb : TS} (Pv : Nat → St → Hp → Prop) (h0 : Pv 0 σ H) (hl : ∀ i σ H, i ≤ xs.length → Pv i σ H → SqL K H a xs)
    (hs : ∀ i x σ H t, xs[i]? = some x → Pv i σ H → H t = none → g (.ref t) σ (upd H t (.tup [.int i, x])) fun σ2 H2 => tb { D with nx := Pv (i + 1), ct := Pv (i + 1), bk := D.nx } σ2 H2) (hd : ∀ σ H, Pv xs.length σ H → D.nx σ H) : ForTail g tb D σ (Ite K a) H := by
  refine ⟨fun i m σ H => i ≤ xs.length ∧ m = xs.length - i ∧ Pv i σ H, ⟨_, Nat.zero_le _, rfl, h0⟩, fun i m σ H ⟨hi, hm, hP⟩ => ?_⟩
  have hq := hl i σ H hi hP
  cases hx : xs[i]? with
  | none =>
    have hn : xs.length ≤ i := by simpa using hx
    have e : i = xs.length := Nat.le_antisymm hi hn
    subst e
    exact .inl ⟨⟨xs, hq, Nat.le_refl _⟩, hd σ H hP⟩
  | some x =>
    have hlt : i < xs.length := (List.getElem?_eq_some_iff.mp hx).1
    refine .inr ⟨⟨xs, x, hq, hx⟩, Pv (i + 1), fun σ' H' h => ⟨xs.length - (i + 1), by omega, by omega, rfl, h⟩, ?_⟩
    rintro y H' ⟨t, x', rfl, ht, rfl, hy⟩
    have e := (hy xs hq).symm.trans hx
    cases e
    exact hs i x σ H t hx hP ht
end
end L2

set_option Elab.async false
set_option linter.all false
set_option maxRecDepth 100000
set_option maxHeartbeats 1000000
namespace L2
open PySem PySem.Spec PyProof.Rows
section
variable {X : Cx}
noncomputable def rEqNil (K : PySem.W.Frag) : R2 := fun x y H Q => ∃ (a b : Addr) (xs : List V), x = .ref a ∧ y = .ref b ∧ SqL K H a xs ∧ SqL K H b [] ∧ Q (.bl (decide (xs.length = 0))) H
theorem op_eqNil {k : Nat} (hr : Room k X.A) : OpR X (compareOp .Eq) (rEqNil X.K) := by
  intro pins s σ H x y v u Q I rx ry h
  obtain ⟨a, b, xs, rfl, rfl, h1, h2, q⟩ := h
  cases rx
  cases ry
  obtain ⟨us, r1, p1, z1⟩ := I.list h1
  obtain ⟨ws, r2, p2, z2⟩ := I.list h2
  have lx := r1.length
  have ly := r2.length
  have hu : X.A.units < cLine := Nat.lt_of_le_of_lt (by omega) hr.un
  by_cases e : xs.length = 0
  · have e1 : us = [] := List.length_eq_zero_iff.mp (by omega)
    have e2 : ws = [] := List.length_eq_zero_iff.mp (by rw [← ly]; rfl)
    subst e1 e2
    rw [decide_eq_true e] at q
    have := SeqAt.RcAt.lists (e := fun _ => true) p1.isList p2.isList rfl hu (fun j h1 h2 => absurd h1 (Nat.not_lt_zero j))
    exact this X.prog X.w X.xe _ ⟨.bl true, H, I, rfl, q⟩
  · rw [decide_eq_false e] at q
    have ly' : ws.length = 0 := by rw [← ly]; rfl
    have := SeqAt.RcAt.lists_lengths p1.isList p2.isList (by simp; omega) hu
    exact this X.prog X.w X.xe _ ⟨.bl false, H, I, rfl, q⟩
end
theorem rd_eqNil {K : PySem.W.Frag} {H : Hp} {Q : VK} {x y : V} : rEqNil K x y H Q = ∃ (a b : Addr) (xs : List V), x = .ref a ∧ y = .ref b ∧ SqL K H a xs ∧ SqL K H b [] ∧ Q (.bl (decide (xs.length = 0))) H := rfl
theorem inV_texts {z : Str} {ys : List Str} : inV (.str z) (ys.map V.str) = decide (z ∈ ys) := by
  unfold inV
  induction ys with
  | nil => rfl
  | cons y ys ih =>
    rw [List.map_cons, List.any_cons, ih, eqV_str]
    by_cases h : y = z
    · subst h; simp
    · have h' : ¬ z = y := fun e => h e.symm
      simp [h, h']
theorem inT_go {K : PySem.W.Frag} {H : Hp} {p : Addr} {z : Str} {ys : List Str} {Q : VK} (h : SqL K H p (ys.map V.str)) (q : Q (.bl (decide (z ∈ ys))) H) : rIn K false (.str z) (.ref p) H Q := by
  refine ⟨p, _, rfl, .inl h, rfl, all_strs, ?_⟩
  rw [if_neg (by decide), inV_texts]
  exact q
theorem ninT_go {K : PySem.W.Frag} {H : Hp} {p : Addr} {z : Str} {ys : List Str} {Q : VK} (h : SqL K H p (ys.map V.str)) (q : Q (.bl (!decide (z ∈ ys))) H) : rIn K true (.str z) (.ref p) H Q := by
  refine ⟨p, _, rfl, .inl h, rfl, all_strs, ?_⟩
  rw [if_pos rfl, inV_texts]
  exact q
end L2
namespace N53
open PySem PySem.Spec PyProof.Rows L2 N1 N5
noncomputable def NumV (K : PySem.W.Frag) (H : Hp) (v : V) : Prop := ∃ b c, Isi K H v "int" b ∧ (b = true → Isi K H v "bool" c) ∧ ((b && !c) = true → ∃ i, v = .int i) ∧ ((b && !c) = false → ∀ i, v ≠ .int i)
theorem NumV.flat {K : PySem.W.Frag} {H : Hp} {v : V} (h : flatV v = true) : NumV K H v := num_isi h
theorem NumV.lst {K : PySem.W.Frag} {H : Hp} {a : Addr} {xs : List V} (h : H a = some (.lst xs)) : NumV K H (.ref a) := ⟨false, false, isi_lsti h, fun h => by (cases h), fun h => by (cases h), fun _ i h => by cases h⟩
theorem NumV.tup {K : PySem.W.Frag} {H : Hp} {a : Addr} {xs : List V} (h : H a = some (.tup xs)) : NumV K H (.ref a) := ⟨false, false, isi_tupi h, fun h => by (cases h), fun h => by (cases h), fun _ i h => by cases h⟩
theorem NumV.same {K : PySem.W.Frag} {H H' : Hp} {v : V} (s : Same H H') (h : NumV K H v) : NumV K H' v := let ⟨b, c, h1, h2, h3, h4⟩ := h; ⟨b, c, h1.same s, fun e => (h2 e).same s, h3, h4⟩
theorem wIn_is {lo hi i : Int} (h1 : lo ≤ i) (h2 : i ≤ hi) : wIn lo hi (.int i) = true := by
  simp only [wIn, Bool.and_eq_true, decide_eq_true_eq]; exact ⟨h1, h2⟩
noncomputable def stp (m : Int) (i : Nat) (y : Str) (s : List (Nat × Nat) × Nat × List Str) : List (Nat × Nat) × Nat × List Str :=
  if y ∉ s.2.2 ∧ (s.2.2.length : Int) = m then (s.1 ++ [(s.2.1, i)], i, [y]) else (s.1, s.2.1, if y ∈ s.2.2 then s.2.2 else s.2.2 ++ [y])
noncomputable def pst (m : Int) (ys : List Str) : Nat → List (Nat × Nat) × Nat × List Str
  | 0 => ([], 0, [])
  | i + 1 => stp m i (ys.getD i Str.empty) (pst m ys i)
noncomputable def partsOf (m : Int) (ys : List Str) : List (Nat × Nat) := if (pst m ys ys.length).2.1 < ys.length then (pst m ys ys.length).1 ++ [((pst m ys ys.length).2.1, ys.length)] else (pst m ys ys.length).1
noncomputable def lst1 (m : Int) (y : Str) (s : Nat × List Str) : Nat × List Str :=
  let t := if s.1 = 0 ∨ (y ∉ s.2 ∧ (s.2.length : Int) = m) then (s.1 + 1, []) else s
  (t.1, if y ∈ t.2 then t.2 else t.2 ++ [y])
noncomputable def lst (m : Int) (ys : List Str) : Nat → Nat × List Str
  | 0 => (0, [])
  | i + 1 => lst1 m (ys.getD i Str.empty) (lst m ys i)
theorem lst_pst {m : Int} (hm : 1 ≤ m) (ys : List Str) : ∀ i, 0 < i → (lst m ys i).1 = (pst m ys i).1.length + 1 ∧ (lst m ys i).2 = (pst m ys i).2.2 ∧ (pst m ys i).2.1 < i := by
  intro i
  induction i with
  | zero => intro h; omega
  | succ i ih =>
    intro _
    by_cases h0 : i = 0
    · subst h0
      have hm' : ¬ (0 : Int) = m := by omega
      simp [lst, pst, lst1, stp, hm']
    · obtain ⟨h1, h2, h3⟩ := ih (by omega)
      show (lst1 m (ys.getD i Str.empty) (lst m ys i)).1 = (stp m i (ys.getD i Str.empty) (pst m ys i)).1.length + 1 ∧ (lst1 m (ys.getD i Str.empty) (lst m ys i)).2 = (stp m i (ys.getD i Str.empty) (pst m ys i)).2.2 ∧ (stp m i (ys.getD i Str.empty) (pst m ys i)).2.1 < i + 1
      generalize ys.getD i Str.empty = y
      generalize pst m ys i = p at *
      generalize lst m ys i = l at *
      obtain ⟨l1, l2⟩ := l
      obtain ⟨p1, p2, p3⟩ := p
      simp only at h1 h2 h3
      subst h1 h2
      unfold lst1 stp
      by_cases hc : y ∉ l2 ∧ (l2.length : Int) = m
      · rw [if_pos hc]
        simp only [if_pos (show p1.length + 1 = 0 ∨ (y ∉ l2 ∧ (l2.length : Int) = m) from .inr hc)]
        simp
      · rw [if_neg hc]
        simp only [if_neg (show ¬ (p1.length + 1 = 0 ∨ (y ∉ l2 ∧ (l2.length : Int) = m)) from fun h => h.elim (fun h => by omega) hc)]
        simp; omega
theorem many_parts {m : Int} (hm : 1 ≤ m) {ys : List Str} : (partsOf m ys).length = (lst m ys ys.length).1 := by
  unfold partsOf
  by_cases h : ys.length = 0
  · rw [h, if_neg (by omega)]; rfl
  · obtain ⟨h1, h2, h3⟩ := lst_pst hm ys ys.length (by omega)
    rw [if_pos h3, List.length_append, h1]
    rfl
theorem pst_small {m : Int} {ys : List Str} : ∀ i, (pst m ys i).1.length ≤ i ∧ (pst m ys i).2.1 ≤ i ∧ (pst m ys i).2.2.length ≤ i := by
  intro i
  induction i with
  | zero => simp [pst]
  | succ i ih =>
    show (stp m i (ys.getD i Str.empty) (pst m ys i)).1.length ≤ i + 1 ∧ (stp m i (ys.getD i Str.empty) (pst m ys i)).2.1 ≤ i + 1 ∧ (stp m i (ys.getD i Str.empty) (pst m ys i)).2.2.length ≤ i + 1
    unfold stp
    split
    · simp; omega
    · refine ⟨by simp; omega, by simp; omega, ?_⟩
      simp only
      split
      · omega
      · simp; omega
theorem parts_none {m : Int} {ys : List Str} (hm : 1 ≤ m) : (partsOf m ys).length = 0 ↔ ys = [] := by
  rw [many_parts hm]
  constructor
  · intro h
    by_cases h0 : ys.length = 0
    · exact List.length_eq_zero_iff.mp h0
    · have := (lst_pst hm ys ys.length (by omega)).1
      omega
  · intro h; subst h; rfl
theorem parts_small {m : Int} {ys : List Str} : (partsOf m ys).length ≤ ys.length + 1 := by
  have := (pst_small (m := m) (ys := ys) ys.length).1
  unfold partsOf
  split
  · rw [List.length_append]; simp; omega
  · omega
noncomputable abbrev Pt := Addr × Nat × Nat
noncomputable def PtsAt (K : PySem.W.Frag) (H : Hp) (p : Addr) (rs : List Pt) : Prop := H p = some (.lst (rs.map fun r => V.ref r.1)) ∧ ∀ r ∈ rs, H r.1 = some (.tup [.int r.2.1, .int r.2.2])
theorem PtsAt.same {K : PySem.W.Frag} {H H' : Hp} {p : Addr} {rs : List Pt} (s : Same H H') (h : PtsAt K H p rs) : PtsAt K H' p rs := ⟨s _ _ h.1, fun r hr => s _ _ (h.2 r hr)⟩
noncomputable def flr (p f : Int) (ys : List Str) : Int := if ys = [] then 0 else 1 + (((partsOf p ys).length : Int) - 1) * (p - f + 1)
noncomputable def sp53_names : Sp := fun vs H Q _ => ∃ (i : Int) (m : Nat), vs = [.int i, .int m] ∧ m ≤ 60 ∧ ∀ (p : Addr) (ys : List Str) (H' : Hp), H p = none → Same H H' → H' p = some (.lst (ys.map V.str)) → ys.length = m → Q (.ref p) H'
end N53
namespace N53
open PySem PySem.Spec PyProof.Rows L2 N1 N5
theorem nil_len : (Str.ofString "").length = 0 := by decide +kernel
theorem join_le : ∀ (ys : List Str), (Str.join (Str.ofString "") ys).length ≤ (ys.map (·.length)).sum
  | [] => by simp [Str.join]; rfl
  | [y] => by simp [Str.join]
  | y :: z :: r => by
    have ih := join_le (z :: r)
    have e : Str.join (Str.ofString "") (y :: z :: r) = y ++ Str.ofString "" ++ Str.join (Str.ofString "") (z :: r) := rfl
    rw [e, len_app, len_app, nil_len, List.map_cons, List.sum_cons]
    omega
theorem txt_le (ys : List Str) : (Txt.join (Str.ofString "") ys).length ≤ (ys.map (·.length)).sum := by
  have e : Txt.join (Str.ofString "") ys = Str.join (Str.ofString "") ys := StrLaws.glued_eq_join _ _
  rw [e]; exact join_le ys
theorem ones_sum (f : Nat → Nat) (n : Nat) : (((List.range n).map fun k => (⟨#[f k]⟩ : Str)).map (·.length)).sum = n := by
  rw [List.map_map, show ((·.length) ∘ fun k => (⟨#[f k]⟩ : Str)) = fun _ => 1 from rfl, List.map_const', List.length_range]
  induction n with
  | zero => rfl
  | succ n ih => rw [List.replicate_succ, List.sum_cons, ih]; omega
theorem same_upd {H H' : Hp} {p : Addr} {o : HO} (s : Same H H') (h : H p = none) : Same H (upd H' p o) := fun b u e => by
  rw [upd_ne (ne_of_none e h)]; exact s b u e
theorem none_of {H H' : Hp} {D : Addr} (s : Same H H') (h : H' D = none) : H D = none := by
  cases e : H D with
  | none => rfl
  | some o => rw [s _ _ e] at h; cases h
theorem put_both {kvs : List (Key × V)} {ks : List Str} {z : Str} {v : V} (h : kvs.map (·.1) = ks.map Sum.inr) : (putK kvs (Sum.inr z) v).map (·.1) = (if z ∈ ks then ks else ks ++ [z]).map Sum.inr := by
  have hm := key_mem (z := z) h
  by_cases hz : z ∈ ks
  · rw [if_pos hz, ← h]
    unfold putK
    rw [valV_any, hm, decide_eq_true hz, if_pos rfl, List.map_map]
    refine List.map_congr_left fun e _ => ?_
    show (if e.1 = Sum.inr z then (e.1, v) else e).1 = e.1
    split <;> rfl
  · rw [if_neg hz, putK_new v (by rw [decide_eq_false hz] at hm; simpa using hm), List.map_append, List.map_append, h]
    rfl
theorem zz_len : (Str.ofString "zz").length = 2 := by decide +kernel
theorem cut_any (ns : List Int) (lo hi : Option Int) : ∃ cs : List Int, cutV (ns.map V.int) lo hi = cs.map V.int ∧ cs.length ≤ ns.length := by
  unfold cutV
  rw [← List.map_drop, ← List.map_take]
  refine ⟨_, rfl, ?_⟩
  rw [List.length_take, List.length_drop]
  omega
theorem flr_some {p f : Int} {ys : List Str} (h : ys ≠ []) : flr p f ys = 1 + (((partsOf p ys).length : Int) - 1) * (p - f + 1) := if_neg h
end N53

set_option Elab.async false
set_option linter.all false
set_option maxRecDepth 100000
set_option maxHeartbeats 4000000
namespace L2
open PySem PySem.Spec PyProof.Rows
noncomputable def dis1 (s : List Str) (y : Str) : List Str := if y ∈ s then s else s ++ [y]
noncomputable def dis (ys : List Str) : List Str := ys.foldl dis1 []
theorem dis_snoc (ys : List Str) (y : Str) : dis (ys ++ [y]) = dis1 (dis ys) y := by unfold dis; rw [List.foldl_append]; rfl
theorem mem_dis1 {s : List Str} {y z : Str} : z ∈ dis1 s y ↔ z ∈ s ∨ z = y := by
  unfold dis1
  split
  · rename_i h
    exact ⟨.inl, fun h' => h'.elim id fun e => e ▸ h⟩
  · rw [List.mem_append, List.mem_singleton]
section
variable {prog : Program} {w : World} {A : Around}
noncomputable abbrev SetT (prog : Program) (w : World) (h : Heap) (S : Addr) (l : List Str) : Prop := h.SetOf (strKind prog w) S (fun z => decide (z ∈ l)) l.length
theorem SetT.at {h h' : Heap} {S : Addr} {l : List Str} (q : SetT prog w h S l) (k : ∀ o, h.get? S = some o → h'.get? S = some o) : SetT prog w h' S l := let ⟨o, es, ep, t, ho, r⟩ := q; ⟨o, es, ep, t, k o ho, r⟩
variable {E : Value → Shared → Prop} {s : Shared}
end
section
variable {X : Cx}
end
end L2

set_option Elab.async false
set_option linter.all false
set_option maxRecDepth 100000
set_option maxHeartbeats 1000000
namespace N51
open PySem PySem.Spec PyProof.Rows L2 N1 N5 N53
noncomputable def sl (ys : List Str) (s e : Nat) : List Str := (ys.drop s).take (e - s)
theorem sl_none {ys : List Str} {s : Nat} : sl ys s s = [] := by unfold sl; rw [Nat.sub_self]; rfl
theorem sl_snoc {ys : List Str} {s i : Nat} (h1 : s ≤ i) (h2 : i < ys.length) : sl ys s (i + 1) = sl ys s i ++ [ys.getD i Str.empty] := by
  unfold sl
  rw [show i + 1 - s = (i - s) + 1 by omega, List.take_add_one, List.getElem?_drop, show s + (i - s) = i by omega, List.getD_eq_getElem?_getD, List.getElem?_eq_getElem h2]
  rfl
theorem mem_dis {ys : List Str} {z : Str} : z ∈ dis ys ↔ z ∈ ys := by
  have key : ∀ (l : List Str) (s : List Str), z ∈ l.foldl dis1 s ↔ z ∈ s ∨ z ∈ l := by
    intro l
    induction l with
    | nil => intro s; simp
    | cons y l ih => intro s; rw [List.foldl_cons, ih, mem_dis1, List.mem_cons, or_assoc]
  unfold dis
  rw [key]; simp
theorem dis_zero {l : List Str} (h : l = []) : (dis l).length = 0 := by rw [h]; rfl
noncomputable def OkP (ys : List Str) (m : Int) : Nat → List (Nat × Nat) → Prop
  | at', [] => at' = ys.length
  | at', (s, e) :: r => s = at' ∧ at' < e ∧ e ≤ ys.length ∧ ((dis (sl ys at' e)).length : Int) ≤ m ∧ (e < ys.length → ((dis (sl ys at' e)).length : Int) = m ∧ ys.getD e Str.empty ∉ sl ys at' e) ∧ OkP ys m e r
noncomputable def Ch (ys : List Str) (m : Int) : Nat → List (Nat × Nat) → Nat → Prop
  | a, [], b => a = b
  | a, (s, e) :: r, b => s = a ∧ a < e ∧ e < ys.length ∧ ((dis (sl ys a e)).length : Int) = m ∧ ys.getD e Str.empty ∉ sl ys a e ∧ Ch ys m e r b
theorem Ch.snoc {ys : List Str} {m : Int} {e : Nat} : ∀ {ps : List (Nat × Nat)} {a b : Nat}, Ch ys m a ps b → b < e → e < ys.length → ((dis (sl ys b e)).length : Int) = m → ys.getD e Str.empty ∉ sl ys b e → Ch ys m a (ps ++ [(b, e)]) e
  | [], a, b, h, h1, h2, h3, h4 => by
    have h : a = b := h
    subst h
    exact ⟨rfl, h1, h2, h3, h4, rfl⟩
  | (s, f) :: r, a, b, ⟨g1, g2, g3, g4, g5, g6⟩, h1, h2, h3, h4 => ⟨g1, g2, g3, g4, g5, Ch.snoc g6 h1 h2 h3 h4⟩
theorem Ch.ok {ys : List Str} {m : Int} : ∀ {ps : List (Nat × Nat)} {a b : Nat} {r : List (Nat × Nat)}, Ch ys m a ps b → OkP ys m b r → OkP ys m a (ps ++ r)
  | [], a, b, r, h, q => by
    have h : a = b := h
    subst h
    exact q
  | (s, f) :: ps, a, b, r, ⟨g1, g2, g3, g4, g5, g6⟩, q => ⟨g1, g2, by omega, by omega, fun _ => ⟨g4, g5⟩, Ch.ok g6 q⟩
theorem pst_ok {m : Int} (hm : 1 ≤ m) (ys : List Str) : ∀ i, i ≤ ys.length → (pst m ys i).2.2 = dis (sl ys (pst m ys i).2.1 i) ∧ (pst m ys i).2.1 ≤ i ∧ (((pst m ys i).2.2.length : Int) ≤ m) ∧ Ch ys m 0 (pst m ys i).1 (pst m ys i).2.1 := by
  intro i
  induction i with
  | zero => intro _; exact ⟨rfl, Nat.le_refl _, by show ((0 : Nat) : Int) ≤ m; omega, rfl⟩
  | succ i ih =>
    intro hi
    obtain ⟨h1, h2, h3, h4⟩ := ih (by omega)
    have e : pst m ys (i + 1) = stp m i (ys.getD i Str.empty) (pst m ys i) := rfl
    rw [e]
    generalize pst m ys i = p at *
    obtain ⟨p1, p2, p3⟩ := p
    simp only at h1 h2 h3 h4
    unfold stp
    by_cases hc : ys.getD i Str.empty ∉ p3 ∧ (p3.length : Int) = m
    · rw [if_pos hc]
      have hlt : p2 < i := by
        rcases Nat.lt_or_eq_of_le h2 with h | h
        · exact h
        · have h0 := dis_zero (sl_none (ys := ys) (s := i))
          rw [h] at h1
          rw [← h1] at h0
          omega
      refine ⟨?_, by simp, by simp; omega, ?_⟩
      · show [ys.getD i Str.empty] = dis (sl ys i (i + 1))
        rw [sl_snoc (Nat.le_refl _) (by omega), sl_none]
        rfl
      · refine Ch.snoc h4 hlt (by omega) (by rw [← h1]; exact hc.2) fun z => hc.1 ?_
        rw [h1]; exact mem_dis.mpr z
    · rw [if_neg hc]
      have e1 : (if ys.getD i Str.empty ∈ p3 then p3 else p3 ++ [ys.getD i Str.empty]) = dis (sl ys p2 (i + 1)) := by
        rw [sl_snoc h2 (by omega), dis_snoc, ← h1]; rfl
      refine ⟨e1, by show p2 ≤ i + 1; omega, ?_, h4⟩
      show (((if ys.getD i Str.empty ∈ p3 then p3 else p3 ++ [ys.getD i Str.empty]).length : Nat) : Int) ≤ m
      split
      · exact h3
      · rename_i hn
        have : ¬ (p3.length : Int) = m := fun h => hc ⟨hn, h⟩
        simp; omega
theorem parts_ok {m : Int} (hm : 1 ≤ m) (ys : List Str) : OkP ys m 0 (partsOf m ys) := by
  obtain ⟨h1, h2, h3, h4⟩ := pst_ok hm ys ys.length (Nat.le_refl _)
  unfold partsOf
  split
  · rename_i h
    refine Ch.ok h4 ⟨rfl, h, Nat.le_refl _, by rw [← h1]; exact h3, fun z => absurd z (Nat.lt_irrefl _), rfl⟩
  · rename_i h
    have e : (pst m ys ys.length).2.1 = ys.length := by omega
    have := Ch.ok (r := []) h4 e
    rw [List.append_nil] at this
    exact this
end N51

set_option linter.all false
set_option maxHeartbeats 1000000
namespace L2
open PySem PySem.Spec PyProof.Rows PySem.W
noncomputable def rSumL (K : PySem.W.Frag) : List V → Hp → VK → Prop := fun xs H Q => ∃ (p : Addr) (is : List Int), xs = [.ref p] ∧ SqL K H p (is.map V.int) ∧ Q (.int is.sum) H
noncomputable def rGetL (K : PySem.W.Frag) : V → V → Hp → VK → Prop := fun o i H Q => ∃ (p : Addr) (xs : List V) (k : Nat) (v : V), o = .ref p ∧ i = .int k ∧ SqL K H p xs ∧ xs[k]? = some v ∧ Q v H
theorem preSum_is (is : List Int) : preSum (fun i => is.getD i 0) is.length = is.sum := by
  have key : ∀ n, n ≤ is.length → preSum (fun i => is.getD i 0) n = (is.take n).sum := by
    intro n
    induction n with
    | zero => intro _; rfl
    | succ n ih =>
      intro h
      have e : is.take (n + 1) = is.take n ++ [is.getD n 0] := by
        rw [List.take_add_one, List.getD_eq_getElem?_getD, List.getElem?_eq_getElem (by omega)]
        rfl
      rw [preSum, ih (by omega), e, List.sum_append]
      simp
  have := key is.length (Nat.le_refl _)
  rwa [List.take_length] at this
section
variable {X : Cx}
theorem call_sumL (hc : X.calm = true) : CallR X (.builtin "sum") (rSumL X.K) := by
  intro pins s σ H xs us Q I r h
  obtain ⟨p, is, rfl, hp, q⟩ := h
  obtain ⟨u, rfl, ru⟩ := vals1 r
  cases ru
  obtain ⟨its, r, pl, hz⟩ := I.list hp
  have hlt : p < s.heap.objs.size := by obtain ⟨o, n, e, _⟩ := pl; exact Heap.lt_size e
  have hlen := r.length
  rw [List.length_map] at hlen
  refine call_sum_walkAnyS (wpAny_pyIter_list pl.isList ⟨s.heap.objs.size, _, _, _, _, _, _, fun i => is.getD i 0, rfl, (Walks.list (show X.A.in1.handled = none from I.ok.hd hc) s.heap.objs.size p (Nat.ne_of_lt hlt) its.toArray).toS, ⟨⟨_, Heap.get?_push_size _ rfl, rfl, rfl⟩, pl.isList.push _⟩, fun b hb => ?_, fun i v hP => ?_, fun s' t' hmv => ?_⟩)
  · show b < (s.heap.push _).objs.size
    rw [Heap.size_push]
    rcases List.mem_cons.mp hb with e | hb
    · rw [e]; exact Nat.lt_succ_self _
    · rw [List.mem_singleton.mp hb]; exact Nat.lt_succ_of_lt hlt
  · have hP : its.toArray[i]? = some v := hP
    have hi : i < is.length := by
      have := (Array.getElem?_eq_some_iff.mp hP).1
      rw [List.size_toArray] at this
      omega
    obtain ⟨u, hu, ru⟩ := r.get (i := i) (x := V.int (is[i])) (by simp [hi])
    have e : u = v := by
      have : its[i]? = some v := by simpa using hP
      rw [hu] at this; exact Option.some.inj this
    subst e
    show ∃ t, u = Value.int (is.getD i 0) t
    rw [List.getD_eq_getElem?_getD, List.getElem?_eq_getElem hi]
    exact ru
  · have hk : ∀ b o, s.heap.get? b = some o → s'.heap.get? b = some o := fun b o e =>
      hmv.heap b o (fun hI => absurd (Heap.lt_size e) (by rw [List.mem_singleton.mp hI]; exact Nat.lt_irrefl _)) (Heap.get?_push_of_some _ e)
    rw [Moved.eq_with hmv]
    refine ⟨.int is.sum, H, I.kept (t' := s'.toks) hk, ⟨t', ?_⟩, q⟩
    rw [List.size_toArray, ← hlen, preSum_is]
end
section
variable {σ : St} {H : Hp} {Q : VK} {D : Ends} {K : PySem.W.Frag} {xs : List V} {x y : V}
theorem rd_sumL : rSumL K xs H Q = ∃ (p : Addr) (is : List Int), xs = [.ref p] ∧ SqL K H p (is.map V.int) ∧ Q (.int is.sum) H := rfl
theorem rd_getL : rGetL K x y H Q = ∃ (p : Addr) (xs : List V) (k : Nat) (v : V), x = .ref p ∧ y = .int k ∧ SqL K H p xs ∧ xs[k]? = some v ∧ Q v H := rfl
end
section
open PySem.W
variable {K : Frag} {C D : Addr} {cd : ClassData}
end
end L2
namespace N31
open PySem PySem.Spec PyProof.Rows L2 N1 N5
noncomputable def fldN (l : Addr) : List (Str × V) := putF "numbers" (.ref l) []
structure SumsAt (C : Addr) (H : Hp) (p l : Addr) (is : List Int) : Prop where
  o : ∃ dx, H p = some (.ins C dx (fldN l))
  l : H l = some (.lst (is.map V.int))
theorem SumsAt.same {C : Addr} {H H' : Hp} {p l : Addr} {is : List Int} (s : Same H H') (h : SumsAt C H p l is) : SumsAt C H' p l is :=
  ⟨h.o.imp fun dx e => s _ _ e, s _ _ h.l⟩
theorem SumsAt.off {C : Addr} {H : Hp} {p l b : Addr} {is : List Int} {xs ys : List V} (h : SumsAt C H p l is) (hb : H b = some (.lst xs)) (n : l ≠ b) : SumsAt C (upd H b (.lst ys)) p l is := by
  obtain ⟨⟨dx, e⟩, hl⟩ := h
  refine ⟨⟨dx, ?_⟩, ?_⟩
  · rw [upd_ne (ne_of e hb (by intro z; cases z))]; exact e
  · rw [upd_ne n]; exact hl
theorem SumsAt.put {C : Addr} {H : Hp} {p l : Addr} {is js : List Int} (h : SumsAt C H p l is) : SumsAt C (upd H l (.lst (js.map V.int))) p l js := by
  obtain ⟨⟨dx, e⟩, hl⟩ := h
  refine ⟨⟨dx, ?_⟩, upd_same⟩
  rw [upd_ne (ne_of e hl (by intro z; cases z))]; exact e
end N31

set_option Elab.async false
set_option linter.all false
set_option maxRecDepth 100000
set_option maxHeartbeats 4000000
namespace L2
open PySem PySem.Spec PyProof.Rows
section
variable {X : Cx}
end
section
variable {K : PySem.W.Frag} {σ : St} {H : Hp} {D : Ends}
end
end L2

set_option Elab.async false
set_option linter.all false
set_option maxRecDepth 100000
set_option maxHeartbeats 4000000
namespace L2
open PySem PySem.Spec PyProof.Rows
noncomputable abbrev tComp1I (wi : TI) (fs : List Nat) (tt : Blk → TT) (te : Blk → TE) : TE := tComp wi 1 fs (fun _ => gName 0) tt te
noncomputable abbrev g2 (K : PySem.W.Frag) : Blk → TG := fun _ => gTup K 2 (gCons (gName 0) (gCons (gName 1) gNil))
noncomputable abbrev tComp2 (K : PySem.W.Frag) (wi : TI) (fs : List Nat) (tt : Blk → TT) (te : Blk → TE) : TE := tComp wi 2 fs (g2 K) tt te
section
variable {X : Cx} {scope : Scope} {x y : Str} {px py pt : Pos} {n : Nat} {fs : List Nat} {elt iter c : Expr} {pos : Pos} {wi : TI} {tt : Blk → TT} {te : Blk → TE}
theorem pe_compI (x : Str) (fs : List Nat) (hc : X.calm = true) (hok : compOkB X.N X.env.scope scope [x] fs = true) (hi : PI X (.Name x px) iter wi) (ht : ∀ b, PT (X.blk scope ([x] ++ around X.N fs) b) c (tt b)) (he : ∀ b, PE (X.blk scope ([x] ++ around X.N fs) b) elt (te b))
    (hs : ∀ x, foldedSetIterable iter X.env x = pure x := by intro _; rfl) : PE X (.ListComp elt [⟨.Name x px, iter, [c], 0⟩] scope pos) (tComp1I wi fs tt te) :=
  pe_compG (xs := [x]) (g := fun _ => gName 0) (tt := tt) hc hok hi (pg_own hok) (fun b => pts_one (ht b)) he hs
theorem pg_own2 (hc : X.calm = true) (hok : compOkB X.N X.env.scope scope [x, y] fs = true) (b : Blk) : PG (X.blk scope ([x, y] ++ around X.N fs) b) (.Tuple [.Name x px, .Name y py] n pt) (g2 X.K b) := by
  have O := compOk_of hok
  refine pg_tup (X := X.blk scope ([x, y] ++ around X.N fs) b) hc (pgs_cons (pg_name O.nd rfl (.inl (lookup_relabel_local (O.own x (by simp)))) (.inr (lookup_relabel_local (O.own x (by simp)))))
    (pgs_cons (pg_name O.nd rfl (.inl (lookup_relabel_local (O.own y (by simp)))) (.inr (lookup_relabel_local (O.own y (by simp))))) pgs_nil))
theorem pe_comp2 (x y : Str) (fs : List Nat) (hc : X.calm = true) (hok : compOkB X.N X.env.scope scope [x, y] fs = true) (hi : PI X (.Tuple [.Name x px, .Name y py] n pt) iter wi) (he : ∀ b, PE (X.blk scope ([x, y] ++ around X.N fs) b) elt (te b))
    (hs : ∀ x, foldedSetIterable iter X.env x = pure x := by intro _; rfl) : PE X (.ListComp elt [⟨.Tuple [.Name x px, .Name y py] n pt, iter, [], 0⟩] scope pos) (tComp2 X.K wi fs (fun _ => tYes) te) :=
  pe_compG (xs := [x, y]) (g := g2 X.K) (tt := fun _ => tYes) hc hok hi (pg_own2 hc hok) (fun _ => pts_nil) he hs
end
section
variable {K : PySem.W.Frag} {tail : St} {tt : Blk → TT} {te : Blk → TE} {Q : VK} {H1 : Hp} {σ : St} {H : Hp}
theorem rd_compI {wi : TI} {fs : List Nat} : tComp1I wi fs tt te σ H Q = wi σ H (CompTail (none :: fs.map fun j => σ.getD j none) (fun _ => gName 0) tt te Q) := rfl
theorem rd_comp2 {wi : TI} {fs : List Nat} : tComp2 K wi fs tt te σ H Q = wi σ H (CompTail (none :: none :: fs.map fun j => σ.getD j none) (g2 K) tt te Q) := rfl
theorem kept2 {x y : Option V} {r : St} : Kept (none :: none :: r) (x :: y :: r) := fun i v e => by
  match i with
  | 0 => cases e
  | 1 => cases e
  | i + 2 => exact e
theorem same_put {H H' : Hp} {p : Addr} {o : HO} (s : Same H H') (h : H p = none) : Same H (upd H' p o) := fun b u e => by
  rw [upd_ne (ne_of_none e h)]; exact s b u e
theorem compL_if {a : Addr} {xs : List V} (p : V → Bool) (f : V → V) (hS : SqL K H1 a xs) (hz : xs.length ≤ sizeLine) (ht : ∀ b x H QT, x ∈ xs → Same H1 H → (∀ H', Same H H' → QT (p x) H') → tt b (some x :: tail) H QT)
    (he : ∀ b x H Q', x ∈ xs → p x = true → Same H1 H → (∀ H', Same H H' → Q' (f x) H') → te b (some x :: tail) H Q')
    (q : ∀ D H', H1 D = none → Same H1 H' → H' D = some (.lst ((xs.filter p).map f)) → Q (.ref D) H') : CompTail (none :: tail) (fun _ => gName 0) tt te Q (Itl K a) H1 := by
  intro b D hD
  refine ⟨fun i m ys H => m = xs.length - i ∧ i ≤ xs.length ∧ ys = ((xs.take i).filter p).map f ∧ H D = some (.lst ys) ∧ Same H1 H, ⟨_, rfl, Nat.zero_le _, rfl, upd_same, same_new hD⟩, ?_⟩
  rintro i m ys H ⟨rfl, hi, rfl, hd, sm⟩
  refine ⟨hd, ?_⟩
  by_cases hlt : i < xs.length
  · refine .inr ⟨⟨xs, xs[i], sm.seq hS, by simp [hlt]⟩, fun x H3 ⟨e3, ex⟩ => ⟨kept0, ?_⟩⟩
    subst e3
    have hx := ex xs (sm.seq hS)
    have hm := List.mem_of_getElem? hx
    have hl : (((xs.take i).filter p).map f).length ≤ i := by
      rw [List.length_map]; exact Nat.le_trans (List.length_filter_le _ _) (by rw [List.length_take]; omega)
    refine ht b x _ _ hm sm fun H7 s7 => ?_
    have htk : (xs.take (i + 1)).filter p = (xs.take i).filter p ++ [x].filter p := by rw [List.take_add_one, hx, List.filter_append]; rfl
    by_cases hp : p x = true
    · rw [if_pos hp]
      refine he b x H7 _ hm hp (sm.trans s7) fun H8 s8 => ?_
      have hd8 := (s7.trans s8) _ _ hd
      refine ⟨hd8, by omega, xs.length - (i + 1), by omega, rfl, hlt, ?_, upd_same, same_put ((sm.trans s7).trans s8) hD⟩
      rw [htk, List.filter_cons_of_pos hp, List.filter_nil, List.map_append]; rfl
    · rw [if_neg hp]
      refine ⟨xs.length - (i + 1), by omega, rfl, hlt, ?_, s7 _ _ hd, sm.trans s7⟩
      rw [htk, List.filter_cons_of_neg hp, List.filter_nil, List.append_nil]
  · have e : i = xs.length := by omega
    subst e
    refine .inl ⟨⟨xs, sm.seq hS, Nat.le_refl _⟩, q D H hD sm ?_⟩
    rw [hd, List.take_length]
end
end L2
namespace L2
open PySem PySem.Spec PyProof.Rows
section
variable {X : Cx}
end
end L2
namespace L2
open PySem PySem.Spec PyProof.Rows
section
variable {X : Cx} {scope : Scope} {x y v : Str} {px py pt pv' : Pos} {n i : Nat} {fs : List Nat} {elt iter c : Expr} {pos spos : Pos} {wi : TI} {tt : Blk → TT} {te : Blk → TE}
theorem ps_compI (x : Str) (fs : List Nat) (hN : X.N.Nodup) (hy : X.N[i]? = some v) (hyl : X.env.kindOf v = some .local) (hc : X.calm = true) (hok : compOkB X.N X.env.scope scope [x] fs = true) (hi : PI X (.Name x px) iter wi) (ht : ∀ b, PT (X.blk scope ([x] ++ around X.N fs) b) c (tt b)) (he : ∀ b, PE (X.blk scope ([x] ++ around X.N fs) b) elt (te b))
    (hsw : swapsWith (.ListComp elt [⟨.Name x px, iter, [c], 0⟩] scope pos) (some (.Name v pv')) spos.line X.env = pure true := by rfl)
    (hs : ∀ x, foldedSetIterable iter X.env x = pure x := by intro _; rfl) : PS X (.Assign [.Name v pv'] (.ListComp elt [⟨.Name x px, iter, [c], 0⟩] scope pos) spos) (tAsg (tComp1I wi fs tt te) (gName i)) :=
  ps_comp (xs := [x]) (g := fun _ => gName 0) (tt := tt) hN hy hyl hc hok hi (pg_own hok) (fun b => pts_one (ht b)) he hsw hs
end
end L2

set_option linter.all false
set_option maxHeartbeats 1000000
namespace L2
open PySem PySem.Spec PyProof.Rows PySem.W
noncomputable def rMaxL (K : PySem.W.Frag) : List V → Hp → VK → Prop := fun xs H Q => ∃ (p : Addr) (is : List Int), xs = [.ref p] ∧ SqL K H p (is.map V.int) ∧ is ≠ [] ∧ ∀ v ∈ is, (∀ x ∈ is, x ≤ v) → Q (.int v) H
theorem best_gt (val : Nat → Int) : ∀ k, argBest (fun i j => decide (val i > val j)) k ≤ k ∧ ∀ j, j ≤ k → val j ≤ val (argBest (fun i j => decide (val i > val j)) k) := by
  intro k
  induction k with
  | zero => exact ⟨Nat.le_refl _, fun j hj => by rw [Nat.le_zero.mp hj]; exact Int.le_refl _⟩
  | succ k ih =>
    unfold argBest
    split
    · rename_i h
      have h := of_decide_eq_true h
      refine ⟨Nat.le_refl _, fun j hj => ?_⟩
      by_cases e : j = k + 1
      · rw [e]; exact Int.le_refl _
      · have := ih.2 j (by omega); omega
    · rename_i h
      have h : ¬ (val (k + 1) > _) := fun z => h (decide_eq_true z)
      refine ⟨Nat.le_succ_of_le ih.1, fun j hj => ?_⟩
      by_cases e : j = k + 1
      · rw [e]; omega
      · exact ih.2 j (by omega)
section
variable {X : Cx}
theorem ints_at {is : List Int} {its : List Value} (r : Vals (is.map V.int) its) {i : Nat} {v : Value} (hP : its.toArray[i]? = some v) : i < is.length ∧ ∃ t, v = Value.int (is.getD i 0) t := by
  have hlen := r.length
  rw [List.length_map] at hlen
  have hi : i < is.length := by
    have := (Array.getElem?_eq_some_iff.mp hP).1
    rw [List.size_toArray] at this
    omega
  obtain ⟨u, hu, ru⟩ := r.get (i := i) (x := V.int (is[i])) (by simp [hi])
  have e : u = v := by
    have : its[i]? = some v := by simpa using hP
    rw [hu] at this; exact Option.some.inj this
  subst e
  refine ⟨hi, ?_⟩
  rw [List.getD_eq_getElem?_getD, List.getElem?_eq_getElem hi]
  exact ru
theorem call_maxL (hc : X.calm = true) : CallR X (.builtin "max") (rMaxL X.K) := by
  intro pins s σ H xs us Q I r h
  obtain ⟨p, is, rfl, hp, hne, q⟩ := h
  obtain ⟨u, rfl, ru⟩ := vals1 r
  cases ru
  obtain ⟨its, r, pl, hz⟩ := I.list hp
  have hlt : p < s.heap.objs.size := by obtain ⟨o, n, e, _⟩ := pl; exact Heap.lt_size e
  have hlen := r.length
  rw [List.length_map] at hlen
  have hpos : 0 < is.length := List.length_pos_iff.mpr hne
  have hb := best_gt (fun i => is.getD i 0) (is.length - 1)
  refine call_max_walkS (wpAny_pyIter_list pl.isList ⟨s.heap.objs.size, _, _, _, _, _, _, fun i j => decide (is.getD i 0 > is.getD j 0), rfl, (Walks.list (show X.A.in1.handled = none from I.ok.hd hc) s.heap.objs.size p (Nat.ne_of_lt hlt) its.toArray).toS, ⟨⟨_, Heap.get?_push_size _ rfl, rfl, rfl⟩, pl.isList.push _⟩, fun b hb => ?_, by rw [List.size_toArray]; omega, CmpOf.ints_gt (fun i => is.getD i 0) (fun i v hP => (ints_at r hP).2), fun v s' hP hmv => ?_⟩)
  · show b < (s.heap.push _).objs.size
    rw [Heap.size_push]
    rcases List.mem_cons.mp hb with e | hb
    · rw [e]; exact Nat.lt_succ_self _
    · rw [List.mem_singleton.mp hb]; exact Nat.lt_succ_of_lt hlt
  · have hk : ∀ b o, s.heap.get? b = some o → s'.heap.get? b = some o := fun b o e =>
      hmv.heap b o (fun hI => absurd (Heap.lt_size e) (by rw [List.mem_singleton.mp hI]; exact Nat.lt_irrefl _)) (Heap.get?_push_of_some _ e)
    rw [Moved.eq_with hmv]
    rw [List.size_toArray, ← hlen] at hP
    obtain ⟨hi, t, rfl⟩ := ints_at r hP
    refine ⟨V.int _, H, I.kept (t' := s'.toks) hk, ⟨t, rfl⟩, q _ ?_ fun x hx => ?_⟩
    · rw [List.getD_eq_getElem?_getD, List.getElem?_eq_getElem hi]; exact List.getElem_mem hi
    · obtain ⟨j, hj⟩ := List.mem_iff_getElem?.mp hx
      have hjl := (List.getElem?_eq_some_iff.mp hj).1
      have := hb.2 j (by omega)
      rw [show is.getD j 0 = x by rw [List.getD_eq_getElem?_getD, hj]; rfl] at this
      exact this
end
section
variable {K : PySem.W.Frag} {H : Hp} {Q : VK} {xs : List V}
theorem rd_maxL : rMaxL K xs H Q = ∃ (p : Addr) (is : List Int), xs = [.ref p] ∧ SqL K H p (is.map V.int) ∧ is ≠ [] ∧ ∀ v ∈ is, (∀ x ∈ is, x ≤ v) → Q (.int v) H := rfl
end
section
variable {X : Cx}
noncomputable def rEqD : R2 := fun x y H Q => ∃ (a b : Addr) (kvs : List (Key × V)), x = .ref a ∧ y = .ref b ∧ H a = some (.dK kvs) ∧ H b = some (.dK []) ∧ Q (.bl (decide (kvs.length = 0))) H
theorem op_eqD {k : Nat} (hr : Room k X.A) : OpR X (compareOp .Eq) rEqD := by
  intro pins s σ H x y v u Q I rx ry h
  obtain ⟨a, b, kvs, rfl, rfl, h1, h2, q⟩ := h
  cases rx
  cases ry
  obtain ⟨z1, l1, vs, r1, d1⟩ := I.hok a _ h1
  obtain ⟨z2, l2, ws, r2, d2⟩ := I.hok b _ h2
  have e1 := r1.length
  have e2 : ([] : List (Key × V)).length = ws.length := r2.length
  have hu : X.A.units < cLine := Nat.lt_of_le_of_lt (by omega) hr.un
  refine PySem.W.keq_eq (r := true) l1 l2 d1 d2 hu (fun e => ?_) ?_
  · have : vs = [] := List.length_eq_zero_iff.mp (by rw [e, ← e2]; rfl)
    subst this
    exact .nil
  · refine ⟨.bl (decide (kvs.length = 0)), H, I, ?_, q⟩
    show Value.bool _ = Value.bool _
    rw [← e2, Bool.and_true, ← e1]
    rfl
end
theorem rd_eqD {H : Hp} {Q : VK} {x y : V} : rEqD x y H Q = ∃ (a b : Addr) (kvs : List (Key × V)), x = .ref a ∧ y = .ref b ∧ H a = some (.dK kvs) ∧ H b = some (.dK []) ∧ Q (.bl (decide (kvs.length = 0))) H := rfl
end L2

set_option linter.all false
set_option maxRecDepth 100000
set_option maxHeartbeats 1000000
namespace L2
open PySem PySem.Spec PyProof.Rows PySem.W
theorem rev_nolen : typeLookup (.type "list_reverseiterator") "__len__" = pure none := by rw [typeLookup_type, builtinLookup_eq_fast]; kernel_rfl
theorem rev_hint : typeLookup (.type "list_reverseiterator") "__length_hint__" = pure (some (.builtin "list_reverseiterator.__length_hint__")) := by rw [typeLookup_type, builtinLookup_eq_fast]; kernel_rfl
section
variable {prog : Program} {w : World} {A : Around} {E : Value → Shared → Prop} {s : Shared}
theorem hint_rev {r : Addr} {Q : Bool → Shared → Prop} (hT : s.TypeIs (.ref r) "list_reverseiterator") (h : Q false s) : wpAny (model prog w) A (Builtin.List.listLengthHint (.ref r)) Q E s := by
  unfold Builtin.List.listLengthHint
  refine wpAny_bind (wpAny_specialOf hT rev_nolen ?_)
  show wpAny _ A (specialOf (Value.ref r) (Str.ofString "__length_hint__") >>= _) _ _ _
  refine wpAny_bind (wpAny_specialOf hT rev_hint ?_)
  generalize hid : ("list_reverseiterator.__length_hint__" : String) = id0
  wp_delta
  rw [show splitId id0 = some ("list_reverseiterator", "__length_hint__") from by subst hid; decide +kernel]
  subst hid
  refine wpAny_bind (wpAny_isInstance (b := true) hT (by rw [isSubtype_type]; kernel_rfl) ?_)
  exact wpAny_pure h
theorem call_listRev {l I : Addr} {items : Array Value} {Q : Value → Shared → Prop} (hh : A.handled = none) (hl : s.heap.IsList l items) (hI : s.heap.IsRevIter I l ((items.size : Int) - 1)) (hne : l ≠ I) (hn : items.size ≤ sizeLine)
    (q : ∀ h' tk acc c, (∀ b o, b ≠ I → s.heap.get? b = some o → h'.get? b = some o) → h'.get? s.heap.objs.size = some { cls := .type "list", dict := none, data := .seq acc c, slots := #[] } →
      ItemsOf (fun i v => items[items.size - 1 - i]? = some v) acc items.size → Q (.ref s.heap.objs.size) { s with heap := h', toks := tk }) : wpAny (model prog w) A (call (.type "list") [.ref I]) Q E s := by
  have ltI : I < s.heap.objs.size := by obtain ⟨o, e, _⟩ := hI; exact Heap.lt_size e
  have ltl : l < s.heap.objs.size := by obtain ⟨o, e, _⟩ := hl; exact Heap.lt_size e
  refine callType_codes (Q₁ := fun obj s₁ => obj = .ref s.heap.objs.size ∧ s₁ = { s with heap := s.heap.push { cls := .type "list", data := .seq #[] } }) F.called_list (F.typeCall_list_1 _) F.entry_list_init (code_list_new _ ⟨rfl, rfl⟩) ?_
  rintro obj s₁ ⟨rfl, rfl⟩
  generalize hS0 : s.heap.objs.size = S at *
  have at0 : (s.heap.push { cls := .type "list", data := .seq #[] }).get? S = some { cls := .type "list", data := .seq #[] } := by rw [← hS0]; exact Heap.get?_push_size _ rfl
  refine ⟨⟨_, at0, rfl⟩, F.args_list_init_2 _ _, ?_⟩
  show wpAny _ _ (do let old ← Builtin.List.listItems (.ref S); Builtin.List.listUpdate (.ref S) (fun _ => #[]); letGo old.toList.reverse; Builtin.List.listExtendWith (.ref S) (.ref I) .none) _ _ _
  refine wpAny_bind ?_
  unfold Builtin.List.listItems
  refine wpAny_bind (wpAny_seqItems at0 rfl (wpAny_pure ?_))
  show wpAny _ _ (updateSeq S (fun _ => #[]) >>= fun _ => letGo (#[] : Array Value).toList.reverse >>= fun _ => Builtin.List.listExtendWith (.ref S) (.ref I) .none) _ _ _
  refine wpAny_bind (wpAny_updateSeq at0 rfl (wpAny_bind (wpAny_letGo ?_)))
  have at1 := Heap.get?_update_self (Obj.mapSeq (fun _ => (#[] : Array Value))) at0 rfl
  have kp1 : ∀ b o, s.heap.get? b = some o → ((s.heap.push { cls := .type "list", data := .seq #[] }).update S (Obj.mapSeq (fun _ => (#[] : Array Value)))).get? b = some o := fun b o e => by
    have ltb := Heap.lt_size e
    have nb : S ≠ b := by rw [← hS0]; exact Nat.ne_of_gt ltb
    exact (Heap.get?_update_other _ _ (by first | exact nb | exact nb.symm)).trans (Heap.get?_push_of_some _ e)
  generalize (s.heap.push { cls := .type "list", data := .seq #[] }).update S (Obj.mapSeq (fun _ => (#[] : Array Value))) = h1 at at1 kp1 ⊢
  have hI1 : h1.IsRevIter I l ((items.size : Int) - 1) := hI.at fun o e => kp1 _ _ e
  have hl1 : h1.IsList l items := hl.at fun o e => kp1 _ _ e
  have ty1 : Shared.TypeIs { s with heap := h1 } (.ref I) "list_reverseiterator" := Heap.IsRevIter.typeIs (s := { s with heap := h1 }) hI1
  unfold Builtin.List.listExtendWith
  refine wpAny_bind (wpAny_typeOf ty1 ?_)
  have nSI : S ≠ I := Nat.ne_of_gt ltI
  have nSl : S ≠ l := Nat.ne_of_gt ltl
  rw [if_neg (by simp [Builtin.List.listSameRef, nSI])]
  refine wpAny_bind (wpAny_pyIter_revIter hI1 ?_)
  refine wpAny_bind (wpAny_holding (hint_rev ty1 ?_))
  rw [if_neg (by decide)]
  have W := Walks.listRev (prog := prog) (w := w) (A := A.in1.in1) (show A.in1.in1.handled = none from hh) I l hne items
  refine wpAny_pure ⟨plainId_quiet F.plain_extend_loop _, codeAny_extend_loopS W.toS hn S (by simp only [List.mem_cons, List.not_mem_nil, or_false, not_or]; exact ⟨nSI, nSl⟩) _ items.size 0 _ _ _ rfl (Nat.zero_le _) ⟨Nat.zero_le _, by simpa using hI1, hl1⟩ at1 (ItemsOf.nil _) fun s' acc c hm at2 hacc => ?_⟩
  rw [Moved.eq_with hm]
  refine ⟨rfl, q s'.heap s'.toks acc c (fun b o nb e => hm.heap b o (fun z => ?_) (kp1 b o e)) at2 hacc⟩
  have ltb := Heap.lt_size e
  rcases List.mem_cons.mp z with z | z
  · rw [z, hS0] at ltb; exact Nat.lt_irrefl _ ltb
  · exact nb (List.mem_singleton.mp z)
end
section
variable {X : Cx}
noncomputable def tListRev (K : PySem.W.Frag) (t : TA) : TE := fun σ H Q => t σ H fun vs H1 => ∃ a xs, vs = [.ref a] ∧ SqL K H1 a xs ∧ ∀ D, H1 D = none → Q (.ref D) (upd H1 D (.lst xs.reverse))
theorem Vals.rev {xs : List V} {us : List Value} (h : Vals xs us) : Vals xs.reverse us.reverse := by
  induction h with
  | nil => exact .nil
  | cons r t ih => rw [List.reverse_cons, List.reverse_cons]; exact ih.append (.cons r .nil)
theorem pe_listrev {e : Expr} {t : TA} {p p2 pos pos2 : Pos} (hc : X.calm = true) (hg : Gl X "list") (hm : X.mg "list" = none) (hg2 : Gl X "reversed") (hm2 : X.mg "reversed" = none) (ha : PA X [e] t) (he : starEach [e] X.env = (false, eval e X.env) :: starEach [] X.env := by rfl)
    (he2 : starEach [.Call (.Name "reversed" p2) [e] [] pos2] X.env = (false, eval (.Call (.Name "reversed" p2) [e] [] pos2) X.env) :: starEach [] X.env := by rfl) : PE X (.Call (.Name "list" p) [.Call (.Name "reversed" p2) [e] [] pos2] [] pos) (tListRev X.K t) := by
  intro pins s σ H Q I h
  have hv : bootBuiltins "reversed" = some (.type "reversed") := by decide +kernel
  have hv2 : bootBuiltins "list" = some (.type "list") := by decide +kernel
  refine wpAny_Call_Name_kw (ld_blt I hg hm hv2 (callWith_type1 (by
    rw [he2]
    show wpAny _ _ (spliced ((false, eval (.Call (.Name "reversed" p2) [e] [] pos2) X.env) :: backTo pos (starEach [] X.env))) _ _ s
    refine Calls.spliced_cons (wpAny_Call_Name_kw (ld_blt I hg2 hm2 hv (callWith_type1 (thn (ha pos2 pins s σ H _ I h) fun us s1 ⟨vs, H1, I1, r1, q1⟩ => ?_) he (by rfl))))
    obtain ⟨a, xs, rfl, hq, q⟩ := q1
    cases r1 with
    | cons r rr =>
      cases rr
      cases r
      obtain ⟨its, rv, pl, hz⟩ := I1.list hq
      have hl := rv.length
      refine call_reversed_list pl.isList ?_
      refine Calls.spliced_nil ?_
      have lta : a < s1.heap.objs.size := by obtain ⟨o, n, e, _⟩ := pl; exact Heap.lt_size e
      have atI : (s1.heap.push (revObj a ((its.toArray.size : Int) - 1))).get? s1.heap.objs.size = some (revObj a ((its.toArray.size : Int) - 1)) := Heap.get?_push_size _ rfl
      refine call_listRev (I := s1.heap.objs.size) (I1.ok.hd hc) (pl.isList.push _) ⟨_, atI, rfl, rfl⟩ (Nat.ne_of_lt lta) (by rw [List.size_toArray]; omega) fun h' tk acc c kp at2 hacc => ?_
      have hv : Vals xs.reverse acc.toList := by
        have e : acc.toList = its.reverse := by
          refine List.ext_getElem? fun i => ?_
          by_cases hi : i < its.length
          · have h1 : acc.size = its.length := hacc.1.trans List.size_toArray
            have h3 : i < acc.toList.length := by rw [Array.length_toList, h1]; exact hi
            have h2 := hacc.2 i (acc.toList[i]) (by rw [← Array.getElem?_toList, List.getElem?_eq_getElem h3])
            rw [List.getElem?_eq_getElem h3, List.getElem?_reverse hi]
            simpa using h2.symm
          · rw [List.getElem?_eq_none (by rw [Array.length_toList, hacc.1, List.size_toArray]; omega), List.getElem?_eq_none (by rw [List.length_reverse]; omega)]
        rw [e]; exact rv.rev
      have sz : (s1.heap.push (revObj a ((its.toArray.size : Int) - 1))).objs.size = s1.heap.objs.size + 1 := Heap.size_push ..
      rw [sz] at at2 ⊢
      refine ⟨.ref (s1.heap.objs.size + 1), _, I1.laid (t' := tk) (fun b o e => kp b o (Nat.ne_of_lt (Heap.lt_size e)) (Heap.get?_push_of_some _ e)) (Nat.le_succ _) (show ObjOk X.prog X.w _ h' _ (.lst xs.reverse) from ⟨by rw [List.length_reverse]; exact hz, acc.toList, c, hv, ?_⟩), rfl, q _ (I1.hok.fresh (Nat.le_succ _))⟩
      rw [Array.toArray_toList]; exact at2) he2 (by rfl)))
end
theorem rd_listrev {K : PySem.W.Frag} {σ : St} {H : Hp} {Q : VK} {t : TA} : tListRev K t σ H Q = t σ H fun vs H1 => ∃ a xs, vs = [.ref a] ∧ SqL K H1 a xs ∧ ∀ D, H1 D = none → Q (.ref D) (upd H1 D (.lst xs.reverse)) := rfl
end L2

set_option linter.all false
set_option maxRecDepth 100000
set_option maxHeartbeats 1000000
namespace L2
open PySem PySem.Spec PyProof.Rows PySem.W
noncomputable def OnlyT (tp : Addr) (H : Hp) : Prop := H tp = some (.tbl #[]) ∧ ∀ b, b ≠ tp → H b = none ∨ ∃ o xs, H b = some (.frz o (.lst xs))
theorem law_callT {P : Program} {w : World} {K : PySem.W.Frag} {mg mb : Str → Option Value} {CX : CXT} {k : Nat} {fa a tp : Addr} {fd : FuncData} {x : Str} {sp : Sp} {s₁ : Shared} {vs : List Value} {ns : List Int}
    (KX : K.In s₁.heap) (hns : s₁.heap.Ns mainGlobals mg) (hb : s₁.heap.Ns builtinsNs mb) (hbb : ∀ x : Str, x ≠ "__name__" → mb x = bootBuiltins x) (hlim : s₁.heap.NoLimit) (hg : s₁.gens = #[])
    (ha : s₁.heap.get? a = some { cls := .type "list", data := .seq vs.toArray }) (hi : IntsAre vs ns) (hl : ns.length ≤ sizeLine) (hr : Room k callerA)
    (hT : s₁.heap.get? tp = some (tabObj #[])) (hct : isCodeTable s₁.heap tp) (hKt : K.lookup tp = none)
    (hbm : ∃ bm ob, mg "__builtins__" = some (.ref bm) ∧ bm ≠ builtinsNs ∧ s₁.heap.get? bm = some ob ∧ ob.cls = .type "module" ∧ ob.dict = some builtinsNs ∧ ob.data = .plain)
    (F : ∀ base : Heap, K.In base → base.Ns mainGlobals mg → base.BuiltinsAt mg tp → FnOk P w K mg base CX k fa fd [x] sp) (hbind : ∀ (s : Shared) (u : Value), BindsTo s fd ⟨[u], []⟩ [(x, u)])
    (hsp : ∀ H : Hp, OnlyT tp H → SqL K H a (ns.map V.int) → sp [.ref a] H (fun v _ => v = .bl true) fun _ _ _ => False)
    (hCX : ∀ H e s', CX [] H s₁ (fun _ _ _ => False) e s' → False) :
    codeAny (model P w) callerA (.call (.ref fa) ⟨[.ref a], []⟩) (fun r s' => r = .ok (.ret (.bool true)) ∧ OldK s₁.heap s'.heap ∧ s'.os = s₁.os ∧ AllBare s'.gens) s₁ := by
  have rv := vals_ints hi
  have lenV := hi.length
  have nta : tp ≠ a := fun e => by rw [e, ha] at hT; cases hT
  -- what is tracked: a (where K has it not) and tp
  have core : ∀ H : Hp, OnlyT tp H → SqL K H a (ns.map V.int) → HOk P w H s₁.heap → (∀ b, b ≠ tp → H b ≠ none → b = a ∧ K.lookup a = none) →
      codeAny (model P w) callerA (.call (.ref fa) ⟨[.ref a], []⟩) (fun r s' => r = .ok (.ret (.bool true)) ∧ OldK s₁.heap s'.heap ∧ s'.os = s₁.os ∧ AllBare s'.gens) s₁ := by
    intro H hO hS hok hA
    have off : ∀ {b : Addr} {o : Obj} {es : Array DictEntry} {ep : Nat}, s₁.heap.get? b = some o → o.data = .dict es ep → H b = none := fun {b o es ep} e d => by
      by_cases h1 : b = tp
      · subst h1; rw [hT] at e; cases e; cases d
      · cases q : H b with
        | none => rfl
        | some u =>
          obtain ⟨e', _⟩ := hA b h1 (by rw [q]; simp)
          subst e'; rw [ha] at e; cases e; cases d
    have nsT : ∀ {b : Addr} {m : Str → Option Value}, s₁.heap.Ns b m → (hidT s₁.heap H).Ns b m := fun {b m} ⟨o, es, ep, e, d, r⟩ => ⟨o, es, ep, hidT_get e (off e d), d, r⟩
    have inT : K.In (hidT s₁.heap H) := fun b o e => hidT_get (KX b o e) (by
      by_cases h1 : b = tp
      · subst h1; rw [hKt] at e; cases e
      · cases q : H b with
        | none => rfl
        | some u =>
          obtain ⟨e', hk⟩ := hA b h1 (by rw [q]; simp)
          subst e'; rw [hk] at e; cases e)
    have mT : Mod K mg (hidT s₁.heap H) := ⟨inT, nsT hns, ⟨mb, nsT hb, hbb⟩, let ⟨mc, h1, h2⟩ := hlim; ⟨mc, nsT h1, h2⟩⟩
    have e0 : Env0 P w K mg (hidT s₁.heap H) callerA [] s₁ H := ⟨rfl, mT, fun b o e => of_hidT e, Nat.le_of_eq (hidT_size _ _), trivial, fun b hb => absurd (show b ∈ ([] : List Addr) from hb) (by simp), hok, .of_eq hg⟩
    have bT : (hidT s₁.heap H).BuiltinsAt mg tp := by
      obtain ⟨bm, ob, m1, m2, m3, m4, m5, m6⟩ := hbm
      have ntp : bm ≠ tp := fun e => by rw [e, hT] at m3; cases m3; cases m4
      refine ⟨bm, ob, m1, m2, fun e => ?_, ntp, hidT_get m3 ?_, m4, m5, m6⟩
      · obtain ⟨o, es, ep, e1, d1, _⟩ := hns
        rw [← e, m3] at e1
        cases e1
        rw [m6] at d1
        cases d1
      · cases q : H bm with
        | none => rfl
        | some u =>
          obtain ⟨e', _⟩ := hA bm ntp (by rw [q]; simp)
          rw [e', ha] at m3
          cases m3
          cases m6
    refine codeAny_mono ((F _ inT (nsT hns) bT).run callerA [] s₁ H ⟨[.ref a], []⟩ [.ref a] [.ref a] _ _ hr e0 (hbind s₁ (.ref a)) (.cons rfl .nil) (hsp H hO hS)) fun r s' h => ?_
    cases r with
    | error e => exact (hCX H e s' h).elim
    | ok fl =>
      cases fl with
      | next => exact False.elim h
      | brk => exact False.elim h
      | cont => exact False.elim h
      | ret u =>
        obtain ⟨v, H', os, bare, un, hok', r', q⟩ := h
        obtain rfl : v = .bl true := q
        obtain rfl : u = Value.bool true := r'
        have kp : ∀ b o, b ≠ tp → s₁.heap.get? b = some o → s'.heap.get? b = some o := fun b o nb e => by
          cases q : H b with
          | none => exact un.keep b o e q (by intro z; exact absurd (show b ∈ ([] : List Addr) from z) (by simp)) (by simp)
          | some u =>
            rcases hO.2 b nb with z | ⟨ob, xs, z⟩
            · rw [q] at z; cases z
            · obtain ⟨e1, _⟩ := hok b _ z
              obtain ⟨e2, _⟩ := hok' b _ (un.frzs b ob _ z)
              rw [e] at e1; cases e1
              exact e2
        obtain ⟨more, hm⟩ := un.tbls tp #[] hO.1
        have tT : s'.heap.get? tp = some { cls := .none, data := .fields (#[] ++ more) } := hok' tp _ hm
        refine ⟨rfl, ⟨fun b o e => ?_, fun b o e => ?_⟩, os, bare⟩
        · by_cases nb : b = tp
          · subst nb
            rw [hT] at e; cases e
            exact .inr (.inl ⟨hct, rfl, #[], more, rfl, tT⟩)
          · exact .inl (kp b o nb e)
        · by_cases nb : b = tp
          · subst nb; exact ⟨_, tT⟩
          · exact ⟨o, kp b o nb e⟩
  have tOk : ∀ H : Hp, ObjOk P w H s₁.heap tp (.tbl #[]) := fun H => hT
  cases hk : K.lookup a with
  | some o =>
    have e := KX a o hk
    rw [ha] at e
    cases e
    refine core (fun b => if b = tp then some (.tbl #[]) else none) ⟨if_pos rfl, fun b nb => .inl (if_neg nb)⟩ (.inr ⟨_, vs.toArray, _, hk, rfl, rfl, rfl, by rw [List.size_toArray, lenV]; exact hl, by simpa using rv⟩) (fun b u z => ?_) (fun b nb z => absurd (if_neg nb) z)
    by_cases h1 : b = tp
    · have z' := (if_pos h1).symm.trans z
      cases z'; subst h1; exact tOk _
    · have z' := (if_neg h1).symm.trans z
      cases z'
  | none =>
    refine core (fun b => if b = tp then some (.tbl #[]) else if b = a then some (.frz { cls := .type "list", data := .seq vs.toArray } (.lst (ns.map V.int))) else none) ⟨if_pos rfl, fun b nb => ?_⟩ (.inl (.inr ⟨{ cls := .type "list", data := .seq vs.toArray }, (if_neg nta.symm).trans (if_pos rfl)⟩)) (fun b u z => ?_) (fun b nb z => ⟨?_, hk⟩)
    · by_cases h2 : b = a
      · exact .inr ⟨_, _, (if_neg nb).trans (if_pos h2)⟩
      · exact .inl ((if_neg nb).trans (if_neg h2))
    · by_cases h1 : b = tp
      · have z' := (if_pos h1).symm.trans z
        cases z'; subst h1; exact tOk _
      · have z1 := (if_neg h1).symm.trans z
        by_cases h2 : b = a
        · have z' := (if_pos h2).symm.trans z1
          cases z'; subst h2
          exact ⟨ha, by rw [List.length_map]; exact hl, vs, _, rv, ha⟩
        · have z' := (if_neg h2).symm.trans z1
          cases z'
    · by_cases h2 : b = a
      · exact h2
      · exact absurd ((if_neg nb).trans (if_neg h2)) z
theorem walk_ofKT {l : PySem.W.OpenLaw} {n k : Nat} {q : Program} {loose : List Str} {XP : (Str → Option Value) → Heap → Prop} {YP : World → Heap → Prop} {d : DefRec} {K : Params → PySem.W.Frag} {CX : CXT} {sp : PySem.W.Frag → Sp} {x : Str} {tp : Addr}
    (hn : l.most = some n) (hn2 : n ≤ sizeLine) (hdf : d.params.defaults = []) (hr : Room k callerA)
    (hY : ∀ (w : World) (h : Heap), YP w h → (K w.params).In h) (hT : ∀ (w : World) (h : Heap), YP w h → h.get? tp = some (tabObj #[])) (hKt : ∀ w : World, (K w.params).lookup tp = none)
    (F : ∀ (w : World) (mg : Str → Option Value) (fa : Addr) (h : Heap), (K w.params).In h → h.Ns mainGlobals mg → mg d.name = some (.ref fa) →
      (∃ c, codeHdIn (K w.params) c tp = true) ∧ ∃ fd : FuncData, (∀ (s : Shared) (u : Value), BindsTo s fd ⟨[u], []⟩ [(x, u)]) ∧
        ∀ base : Heap, (K w.params).In base → base.Ns mainGlobals mg → base.BuiltinsAt mg tp → FnOk l.prog w (K w.params) mg base CX k fa fd [x] (sp (K w.params)))
    (hsp : ∀ (K : PySem.W.Frag) (H : Hp) (a : Addr) (ns : List Int), ns.length ≤ n → OnlyT tp H → SqL K H a (ns.map V.int) → sp K [.ref a] H (fun v _ => v = .bl true) fun _ _ _ => False)
    (hCX : ∀ (H : Hp) (s : Shared) (e : Value) (s' : Shared), CX [] H s (fun _ _ _ => False) e s' → False) :
    PySem.W.WalkO q loose XP YP l.row.toRowW d [] (fun f vs => PySem.call f vs) := by
  refine Att.attach_call hn hdf fun w s₀ s₁ mg mb fa o pm cd doc a vs ns G Y ho hd hcd hmg hobj hints hlen hg => ?_
  have KX := hY w _ Y
  obtain ⟨⟨c, hc⟩, fd, hb, hF⟩ := F w mg fa _ KX G.T.g hmg
  have hct : isCodeTable s₁.heap tp := by
    obtain ⟨o, vs, f, tf, fl, tg, b, n, tt, e1, e2, e3, e4, _⟩ := codeHd_of_K KX hc
    exact ⟨c, o, vs, e1, e2, e3, e4⟩
  exact law_callT KX G.T.g G.T.b G.T.builtins G.T.nolimit hg hobj hints (Nat.le_trans hlen hn2) hr (hT w _ Y) hct (hKt w) G.T.bmain hF hb (fun H hO hS => hsp (K w.params) H a ns hlen hO hS) fun H e s' => hCX H s₁ e s'
section
variable {X : Cx} {pins : List (Addr × Obj)} {σ : List (Option V)} {H H' : Hp} {s : Shared} {h' : Heap}
theorem Inv.grown {t' : Nat} {tp : Addr} {ps more : Array Value} (I : Inv X pins σ H s) (ht : H tp = some (.tbl ps)) (k : ∀ b u, b ≠ tp → s.heap.get? b = some u → h'.get? b = some u) (e : h'.get? tp = some (tabObj (ps ++ more)))
    (hT : H' tp = some (.tbl (ps ++ more))) (old : ∀ b, b ≠ tp → b < s.heap.objs.size → H' b = H b) (new : ∀ b u, s.heap.objs.size ≤ b → H' b = some u → ObjOk X.prog X.w H' h' b u) : Inv X pins σ H' { s with heap := h', toks := t' } := by
  have lt : ∀ b u, H b = some u → b < s.heap.objs.size := fun b u q => (I.hok b u q).lt
  have nt : ∀ b u, H b = some u → (∀ ps, u ≠ .tbl ps) → b ≠ tp := fun b u q n z => by rw [z, ht] at q; cases q; exact n _ rfl
  have st : ∀ b u, H b = some u → b ≠ tp → H' b = some u := fun b u q n => by rw [old b n (lt b u q)]; exact q
  refine I.un ⟨fun b o q n _ _ => k b o (fun z => by rw [z, ht] at n; cases n) q, fun b o q n _ _ => ⟨o.slots, k b o (fun z => by rw [z, ht] at n; cases n) q⟩, fun b o q n _ => ?_, fun b o q _ => ?_, fun b xs q => st b _ q (nt b _ q fun _ z => by cases z), fun b o u q => st b _ q (nt b _ q fun _ z => by cases z), fun b ps' q => ?_⟩ fun b u q => ?_
  · rw [old b (fun z => by rw [z, ht] at n; cases n) (Heap.lt_size q)]; exact n
  · by_cases z : b = tp
    · subst z; exact ⟨_, e⟩
    · exact ⟨o, k b o z q⟩
  · by_cases z : b = tp
    · subst z; rw [ht] at q; cases q; exact ⟨more, hT⟩
    · exact ⟨#[], by rw [st b _ q z]; simp⟩
  · by_cases z : b = tp
    · subst z; rw [hT] at q; cases q; exact e
    · by_cases hb : b < s.heap.objs.size
      · have q0 : H b = some u := by rw [← old b z hb]; exact q
        refine (I.hok b u q0).stay (fun c v hc r => k c v (fun w' => ?_) r) (fun c r => st c _ r (nt c _ r fun _ z => by cases z)) fun c xs r => st c _ r (nt c _ r fun _ z => by cases z)
        rcases hc with rfl | hc
        · exact z w'
        · rw [w', ht] at hc; cases hc
      · exact new b u (Nat.le_of_not_lt hb) q
end
noncomputable def codeO (c : Addr) (qual : Str) : HO := .ext fun h => h.CodeRec (.ref c) qual
noncomputable def fnO (f : Addr) (o : Obj) : HO := .ext fun h => h.get? f = some o
theorem codeO_ok {P : Program} {w : World} {H : Hp} {h : Heap} {c : Addr} {qual : Str} (x : h.CodeRec (.ref c) qual) : ObjOk P w H h c (codeO c qual) := by
  refine ⟨x, ?_, fun h1 h2 y k => ?_⟩
  · obtain ⟨c', oc, vs, tq, e, hoc, _⟩ := x
    cases e
    exact ⟨oc, hoc⟩
  · obtain ⟨c', oc, vs, tq, e, hoc, r⟩ := y
    cases e
    exact ⟨_, oc, vs, tq, rfl, k _ hoc, r⟩
theorem fnO_ok {P : Program} {w : World} {H : Hp} {h : Heap} {f : Addr} {o : Obj} (x : h.get? f = some o) : ObjOk P w H h f (fnO f o) := ⟨x, ⟨o, x⟩, fun _ _ y k => k _ y⟩
noncomputable def LamOk (tp : Addr) (pos : Pos) (qual : Str) (H : Hp) : Prop := H tp = some (.tbl #[]) ∨ ∃ c, H tp = some (.tbl #[rawInt pos.line, rawInt pos.col, .ref c]) ∧ H c = some (codeO c qual)
noncomputable def tLam (tp : Addr) (pos : Pos) (qual : Str) (fo : Addr → Value → Obj) : TE := fun _ H Q => LamOk tp pos qual H ∧ ∀ f c ct H', H f = none → N1.SameBut tp H H' → LamOk tp pos qual H' → H' c = some (codeO c qual) → H' f = some (fnO f (fo c ct)) → Q (.ref f) H'
section
variable {X : Cx}
theorem pe_lam {args : Arguments} {body : Expr} {scope : Scope} {pos : Pos} {c tp : Addr} (hdef : defaultsOf args X.env = ([], [])) (hcl : closureFor scope X.env = pure []) (hcode : X.env.code = .ref c) (hc : codeHdIn X.K c tp = true) (hne : mainGlobals ≠ tp)
    (hB : X.base.BuiltinsAt X.mg tp) :
    PE X (.Lambda args body scope pos) (tLam tp pos (X.env.qual ++ "<lambda>") fun c ct => kla_obj "<lambda>" (X.env.qual ++ "<lambda>") args body scope [] ((X.mg "__name__").getD .none) c ct) := by
  intro pins s σ H Q I h
  obtain ⟨hL, q⟩ := h
  have C : CodeHd s.heap c tp := codeHd_of_K I.kIn hc
  have G : s.heap.Ns mainGlobals X.mg := I.mod.glob.keeps I.bk
  have B : s.heap.BuiltinsAt X.mg tp := hB.keeps I.bk
  refine kla_eval hdef ?_
  rcases hL with hE | ⟨c', hE, hc'⟩
  · have hP : s.heap.get? tp = some (tabObj #[]) := I.hok tp _ hE
    have ltt := Heap.lt_size hP
    refine kla_makeFunction hcl I.ok.glob G hcode C hP (by first | trivial | exact .nil | simp [TriplesOk]) rfl hne B fun c' ctv h' tk hx hge hlt hrec htab => ?_
    have ncf : c' ≠ h'.objs.size := Nat.ne_of_lt hlt
    have ltc : tp < c' := Nat.lt_of_lt_of_le ltt hge
    have szf : s.heap.objs.size ≤ h'.objs.size := Nat.le_trans hge (Nat.le_of_lt hlt)
    have ntf : tp ≠ h'.objs.size := Nat.ne_of_lt (Nat.lt_trans ltc hlt)
    have ntc : tp ≠ c' := Nat.ne_of_lt ltc
    generalize hF : (kla_obj "<lambda>" (X.env.qual ++ "<lambda>") args body scope [] ((X.mg "__name__").getD .none) c' ctv) = fo
    have I2 : Inv X pins σ (upd (upd (upd H tp (.tbl #[rawInt pos.line, rawInt pos.col, .ref c'])) c' (codeO c' (X.env.qual ++ "<lambda>"))) h'.objs.size (fnO h'.objs.size fo)) { s with heap := h'.push fo, toks := tk } := by
      refine I.grown (more := #[rawInt pos.line, rawInt pos.col, .ref c']) hE (fun b u nb e => Heap.get?_push_of_some _ (hx b u nb e)) (Heap.get?_push_of_some _ htab) ?_ (fun b nb lb => ?_) fun b u lb e => ?_
      · rw [upd_ne ntf, upd_ne ntc]; exact upd_same
      · rw [upd_ne (Nat.ne_of_lt (Nat.lt_of_lt_of_le lb szf)), upd_ne (Nat.ne_of_lt (Nat.lt_of_lt_of_le lb hge)), upd_ne nb]
      · by_cases e1 : b = h'.objs.size
        · subst e1
          rw [upd_same] at e; cases e
          exact fnO_ok (Heap.get?_push_size _ (by rw [← hF]; rfl))
        · rw [upd_ne e1] at e
          by_cases e2 : b = c'
          · subst e2
            rw [upd_same] at e; cases e
            obtain ⟨c2, oc, vs, tq, ec, hoc, r⟩ := hrec
            exact codeO_ok ⟨c2, oc, vs, tq, ec, Heap.get?_push_of_some _ hoc, r⟩
          · rw [upd_ne e2, upd_ne (fun z => by rw [z] at lb; exact Nat.lt_irrefl _ (Nat.lt_of_lt_of_le ltt lb)), I.hok.fresh lb] at e
            cases e
    refine ⟨.ref h'.objs.size, _, I2, rfl, q _ c' ctv _ (I.hok.fresh szf) (fun b o e nb => ?_) (.inr ⟨c', ?_, ?_⟩) ?_ (by rw [upd_same, ← hF])⟩
    · have lb := (I.hok b o e).lt
      rw [upd_ne (Nat.ne_of_lt (Nat.lt_of_lt_of_le lb szf)), upd_ne (Nat.ne_of_lt (Nat.lt_of_lt_of_le lb hge)), upd_ne nb]; exact e
    · rw [upd_ne ntf, upd_ne ntc]; exact upd_same
    · rw [upd_ne ncf]; exact upd_same
    · rw [upd_ne ncf]; exact upd_same
  · have hP : s.heap.get? tp = some (tabObj #[rawInt pos.line, rawInt pos.col, .ref c']) := I.hok tp _ hE
    have ltt := Heap.lt_size hP
    have ltc := (I.hok c' _ hc').lt
    refine kla_makeFunctionHit (cv := .ref c') hcl I.ok.glob G hcode C hP (by simp [TriplesOk, rawInt]) (by simp [codeAmong, rawInt]) B fun ctv h' tk hk hsz => ?_
    generalize hF : ({ cls := .type "function", data := .func (kla_fn "<lambda>" (X.env.qual ++ "<lambda>") args body scope [] ((X.mg "__name__").getD .none) (.ref c') ctv) } : Obj) = fo
    have I2 := I.laid (a := h'.objs.size) (o := fnO h'.objs.size fo) (t' := tk) (h' := h'.push fo) (fun b u e => Heap.get?_push_of_some _ (hk b u e)) hsz (fnO_ok (Heap.get?_push_size _ (by rw [← hF]; rfl)))
    have nw := I.hok.fresh hsz
    have sm : ∀ b o, H b = some o → upd H h'.objs.size (fnO h'.objs.size fo) b = some o := fun b o e => by rw [upd_ne (ne_of_none e nw)]; exact e
    exact ⟨.ref h'.objs.size, _, I2, rfl, q _ c' ctv _ nw (fun b o e _ => sm b o e) (.inr ⟨c', sm _ _ hE, sm _ _ hc'⟩) (sm _ _ hc') (by rw [upd_same, ← hF])⟩
end
noncomputable def ConstFn (i : Int) (H : Hp) (f : Addr) : Prop := ∃ (nm qual : Str) (args : Arguments) (j : Nat) (bp : Pos) (scope : Scope) (pm : Value) (cd : Addr) (ct : Value),
  (∀ (cd ct u : Value), bindArgs (kla_fn "<lambda>" qual args (.Constant (.int i) j bp) scope [] pm cd ct) ⟨[u], []⟩ = pure [(nm, u)]) ∧ scope.isCoroutine = false ∧ scope.isGenerator = false ∧ scope.kind = .function ∧ (∀ y ∈ scope.names, y.2 ≠ .cell) ∧ scope.names.lookup nm = some .local ∧
  H f = some (fnO f (kla_obj "<lambda>" qual args (.Constant (.int i) j bp) scope [] pm cd ct)) ∧ H cd = some (codeO cd qual)
theorem ConstFn.same {i : Int} {H H' : Hp} {f : Addr} (s : Same H H') (h : ConstFn i H f) : ConstFn i H' f := by
  obtain ⟨nm, qual, args, j, bp, scope, pm, cd, ct, h1, h2, h3, h4, h5, h6, h7, h8⟩ := h
  exact ⟨nm, qual, args, j, bp, scope, pm, cd, ct, h1, h2, h3, h4, h5, h6, s _ _ h7, s _ _ h8⟩
noncomputable def tCallO (i : Int) (tv : TE) (ta : TA) : TE := fun σ H Q => tv σ H fun x H1 => ∃ f : Addr, x = .ref f ∧ ConstFn i H1 f ∧ ta σ H1 fun vs H2 => ∃ v, vs = [v] ∧ ConstFn i H2 f ∧ Q (.int i) H2
section
variable {X : Cx}
theorem pe_callO (i : Int) {x : Str} {e : Expr} {tv : TE} {ta : TA} {k : Nat} {p pos : Pos} (hr : Room k X.A) (hv : PE X (.Name x p) tv) (ha : PA X [e] ta)
    (he : starEach [e] X.env = (false, eval e X.env) :: starEach [] X.env := by rfl) :
    PE X (.Call (.Name x p) [e] [] pos) (tCallO i tv ta) := by
  intro pins s σ H Q I h
  refine wpAny_Call_Name_kw (thn (hv pins s σ H _ I h) fun u s1 ⟨y, H1, I1, ry, q1⟩ => ?_)
  obtain ⟨f, rfl, ⟨nm, qual, args, j, bp, scope, pm, cd, ct, _, _, _, _, _, _, hf, _⟩, q1⟩ := q1
  cases ry
  have hf1 : s1.heap.get? f = some (kla_obj "<lambda>" qual args (.Constant (.int i) j bp) scope [] pm cd ct) := (I1.hok f _ hf).1
  refine callWith_F ⟨_, _, _, _, hf1⟩ (thn (ha pos pins s1 σ H1 _ I1 q1) fun us s2 ⟨vs, H2, I2, r2, q2⟩ => ?_) he rfl
  obtain ⟨v, rfl, ⟨nm, qual, args, j, bp, scope, pm, cd, ct, hb, hco, hgen, hk, hcell, hloc, hf', hc'⟩, q⟩ := q2
  obtain ⟨u, rfl, ru⟩ := vals1 r2
  have hf2 : s2.heap.get? f = some (kla_obj "<lambda>" qual args (.Constant (.int i) j bp) scope [] pm cd ct) := (I2.hok f _ hf').1
  have hc2 : s2.heap.CodeRec (.ref cd) qual := (I2.hok cd _ hc').1
  refine ⟨⟨_, _, _, _, hf2⟩, wpAny_call (kla_callFunE (by have := hr.dp; omega) hf2 rfl hco hgen rfl hc2 ?_)⟩
  rw [show ([] ++ [u] : List Value) = [u] from rfl, hb]
  refine wpAny_pure (wpAny_newFunctionEnv hcell (fun y hy => by rw [List.mem_singleton.mp hy]; exact hloc) (fun h₁ hns hsb => ⟨(I2.nolimit).fresh _ hsb, ?_⟩) hk)
  refine kla_codeExpr (wpAny_Constant_int ?_)
  have kp : ∀ b o, s2.heap.get? b = some o → h₁.get? b = some o := fun b o e => hsb.extBut b o (Nat.ne_of_lt (Heap.lt_size e)) (Heap.get?_push_of_some _ e)
  exact ⟨.int i, H2, I2.kept kp, ⟨_, rfl⟩, q⟩
end
noncomputable def MkAt (K : PySem.W.Frag) (f tp : Addr) : Prop := ∃ (oc : Value) (od : Option Addr) (fd : FuncData) (sl : Array (Option Value)) (c : Addr), K.lookup f = some ⟨oc, od, .func fd, sl⟩ ∧ fd.code = .ref c ∧ codeHdIn K c tp = true
section
variable {P : Program} {w : World} {K : PySem.W.Frag} {mg : Str → Option Value} {base : Heap}
theorem Fun.okC {x qual : Str} {st : Stmt} {f tp : Addr} {fd : FuncData} {N ps : List Str} {k : Nat} {sp : Sp} (F : Fun K x qual st f fd) (M : MkAt K f tp) (S : FnScope N ps (defScope st)) (len : ∀ vs H Q E, sp vs H Q E → vs.length = ps.length)
    (hbody : ∀ (c : Addr) (A : Around) (outer : List Env) (s : Shared) (H : Hp) (vs : List V) (Q : VK) (E : XK), codeHdIn K c tp = true → Room k (A.deeper (envOfC qual (defScope st) s.heap.objs.size f (.ref c))) → sp vs H Q E →
      ∃ t, PSs (cxOf CX0 P w K mg base N qual (defScope st) f (.ref c) A outer s H E).nox (defBody st) t ∧ t { nx := fun _ H' => Q .non H', rt := Q } (start N vs) H) : FnOk P w K mg base CX0 (k + 1) f fd ps sp := by
  obtain ⟨oc, od, kV, doc, pm, an, cdv, ct, osl, rfl, lk, hcd⟩ := F.ex
  obtain ⟨oc', od', fd', sl', c, lk', e, hc⟩ := M
  rw [lk] at lk'
  cases lk'
  have e : cdv = .ref c := e
  subst e
  refine fn_of lk hcd S len fun A outer s H vs Q E hr hsp => ?_
  obtain ⟨t, h, q⟩ := hbody c A outer s H vs Q E hc hr hsp
  exact ⟨t, h.nox, q⟩
end
theorem rd_lam {tp : Addr} {pos : Pos} {qual : Str} {fo : Addr → Value → Obj} {σ : St} {H : Hp} {Q : VK} : tLam tp pos qual fo σ H Q = (LamOk tp pos qual H ∧ ∀ f c ct H', H f = none → N1.SameBut tp H H' → LamOk tp pos qual H' → H' c = some (codeO c qual) → H' f = some (fnO f (fo c ct)) → Q (.ref f) H') := rfl
theorem rd_callO {i : Int} {tv : TE} {ta : TA} {σ : St} {H : Hp} {Q : VK} : tCallO i tv ta σ H Q = tv σ H fun x H1 => ∃ f : Addr, x = .ref f ∧ ConstFn i H1 f ∧ ta σ H1 fun vs H2 => ∃ v, vs = [v] ∧ ConstFn i H2 f ∧ Q (.int i) H2 := rfl
end L2

set_option Elab.async false
set_option linter.all false
set_option maxRecDepth 100000
set_option maxHeartbeats 1000000
namespace N55
open PySem PySem.Spec PyProof.Rows L2 N1 N5 N53 N51
noncomputable abbrev BR := Str × Bool
noncomputable def BkOk (f : Nat) : List Str → List BR → Prop
  | _, [] => True
  | L, r :: b => r.2 = decide (r.1 ∈ L) ∧ ∃ L' : List Str, L'.Nodup ∧ L'.length ≤ f ∧ r.1 ∈ L' ∧ (∀ x ∈ L', x ∈ L ∨ x = r.1) ∧ BkOk f L' b
noncomputable def mis (b : List BR) : Nat := b.countP fun r => !r.2
theorem mis_append (a b : List BR) : mis (a ++ b) = mis a + mis b := List.countP_append
theorem BkOk.drop {f : Nat} {b : List BR} {L : List Str} (h : BkOk f L b) : ∀ i, i ≤ b.length → ∃ L', BkOk f L' (b.drop i) := by
  induction b generalizing L with
  | nil => intro i _; exact ⟨L, by rw [List.drop_nil]; exact h⟩
  | cons r b ih =>
    intro i hi
    cases i with
    | zero => exact ⟨L, h⟩
    | succ i =>
      obtain ⟨_, L', _, _, _, _, h'⟩ := h
      exact ih h' i (by simpa using hi)
theorem BkOk.take {f : Nat} {b : List BR} {L : List Str} (h : BkOk f L b) (i : Nat) : BkOk f L (b.take i) := by
  induction b generalizing L i with
  | nil => rw [List.take_nil]; exact h
  | cons r b ih =>
    cases i with
    | zero => exact trivial
    | succ i =>
      obtain ⟨h1, L', h2, h3, h4, h5, h6⟩ := h
      exact ⟨h1, L', h2, h3, h4, h5, ih h6 i⟩
theorem filt_len_le {p q : Str → Bool} {l : List Str} (h : ∀ x ∈ l, p x = true → q x = true) : (l.filter p).length ≤ (l.filter q).length := by
  induction l with
  | nil => exact Nat.le_refl _
  | cons a l ih =>
    have ih' := ih fun x hx => h x (List.mem_cons_of_mem _ hx)
    by_cases hp : p a = true
    · rw [List.filter_cons_of_pos hp, List.filter_cons_of_pos (h a List.mem_cons_self hp)]
      exact Nat.succ_le_succ ih'
    · rw [List.filter_cons_of_neg hp]
      refine Nat.le_trans ih' ?_
      by_cases hq : q a = true
      · rw [List.filter_cons_of_pos hq]; exact Nat.le_succ _
      · rw [List.filter_cons_of_neg hq]; exact Nat.le_refl _
theorem bk_hits {f : Nat} : ∀ {b : List BR} {L : List Str}, BkOk f L b → ∀ D : List Str, D.Nodup → (∀ x ∈ D, x ∈ b.map (·.1)) → D.length ≤ mis b + (D.filter fun x => decide (x ∈ L)).length := by
  intro b
  induction b with
  | nil =>
    intro L _ D _ hD
    cases D with
    | nil => exact Nat.zero_le _
    | cons x D => exact absurd (hD x List.mem_cons_self) (by simp)
  | cons r b ih =>
    intro L h D nd hD
    obtain ⟨hb, L', h2, h3, h4, h5, h6⟩ := h
    have nd' : (D.erase r.1).Nodup := nd.erase _
    have key := ih h6 (D.erase r.1) nd' fun x hx => by
      have h7 := (nd.mem_erase_iff.mp hx)
      have := hD x h7.2
      rw [List.map_cons, List.mem_cons] at this
      exact this.resolve_left h7.1
    have k1 : ((D.erase r.1).filter fun x => decide (x ∈ L')).length ≤ ((D.erase r.1).filter fun x => decide (x ∈ L)).length := filt_len_le fun x hx hp => by
      have h7 := (nd.mem_erase_iff.mp hx)
      exact decide_eq_true ((h5 x (of_decide_eq_true hp)).resolve_right h7.1)
    have hm : mis (r :: b) = mis b + if (!r.2) = true then 1 else 0 := List.countP_cons ..
    by_cases hz : r.1 ∈ D
    · have hl := List.length_erase_of_mem hz
      have hp : 0 < D.length := List.length_pos_of_mem hz
      by_cases hL : r.1 ∈ L
      · have k2 : ((D.erase r.1).filter fun x => decide (x ∈ L)).length + 1 = (D.filter fun x => decide (x ∈ L)).length := by
          have e := List.Perm.filter (fun x => decide (x ∈ L)) (List.perm_cons_erase hz)
          have e2 := e.length_eq
          rw [List.filter_cons_of_pos (by simpa using hL)] at e2
          rw [e2]; rfl
        rw [hm]; split <;> omega
      · have k2 : ((D.erase r.1).filter fun x => decide (x ∈ L)).length ≤ (D.filter fun x => decide (x ∈ L)).length := (List.Sublist.filter _ (List.erase_sublist)).length_le
        rw [hm, hb, decide_eq_false hL]
        simp only [Bool.not_false, if_pos]
        omega
    · rw [List.erase_of_not_mem hz] at key k1
      rw [hm]; split <;> omega
theorem bk_behind {f p : Nat} {b : List BR} {L : List Str} {r : BR} (h : BkOk f L (r :: b)) (D : List Str) (nd : D.Nodup) (hD : ∀ x ∈ D, x ∈ b.map (·.1)) (hz : r.1 ∉ D) (hp : D.length = p) : p + 1 ≤ mis b + f := by
  obtain ⟨hb, L', h2, h3, h4, h5, h6⟩ := h
  have key := bk_hits h6 D nd hD
  have k : (r.1 :: D.filter fun x => decide (x ∈ L')).length ≤ L'.length := by
    refine List.Nodup.length_le_of_subset ?_ ?_
    · exact List.nodup_cons.mpr ⟨fun z => hz (List.mem_filter.mp z).1, nd.sublist List.filter_sublist⟩
    · intro x hx
      rcases List.mem_cons.mp hx with rfl | hx
      · exact h4
      · exact of_decide_eq_true (List.mem_filter.mp hx).2
  rw [List.length_cons] at k
  omega
theorem dis1_nodup {s : List Str} {y : Str} (h : s.Nodup) : (dis1 s y).Nodup := by
  unfold dis1
  split
  · exact h
  · rename_i hn
    exact List.nodup_append.mpr ⟨h, List.nodup_cons.mpr ⟨List.not_mem_nil, List.nodup_nil⟩, fun a ha b hb e => hn (by rw [← List.mem_singleton.mp hb, ← e]; exact ha)⟩
theorem dis_nodup (ys : List Str) : (dis ys).Nodup := by
  have key : ∀ (l s : List Str), s.Nodup → (l.foldl dis1 s).Nodup := by
    intro l
    induction l with
    | nil => exact fun s h => h
    | cons y l ih => exact fun s h => ih _ (dis1_nodup h)
  exact key ys [] List.nodup_nil
theorem sl_cons {ys : List Str} {s e : Nat} (h1 : s < e) (h2 : s < ys.length) : sl ys s e = ys.getD s Str.empty :: sl ys (s + 1) e := by
  unfold sl
  rw [List.drop_eq_getElem_cons h2, show e - s = (e - (s + 1)) + 1 by omega, List.take_succ_cons, List.getD_eq_getElem?_getD, List.getElem?_eq_getElem h2]
  rfl
noncomputable def slB (b : List BR) (s e : Nat) : List BR := (b.drop s).take (e - s)
theorem slB_names {b : List BR} {s e : Nat} : (slB b s e).map (·.1) = sl (b.map (·.1)) s e := by unfold slB sl; rw [List.map_take, List.map_drop]
theorem part_mis {f p : Nat} {b : List BR} {ys : List Str} {s e : Nat} (h : BkOk f [] b) (hy : b.map (·.1) = ys) (h1 : s < e) (h2 : e < ys.length) (hd : (dis (sl ys s e)).length = p) (hn : ys.getD e Str.empty ∉ sl ys s e) : p + 1 ≤ mis (slB b (s + 1) (e + 1)) + f := by
  have hl : b.length = ys.length := by rw [← hy, List.length_map]
  have hs : s < ys.length := by omega
  obtain ⟨L, hL⟩ := h.drop s (by omega)
  rw [List.drop_eq_getElem_cons (by omega)] at hL
  have hL2 := hL.take (e + 1 - s)
  rw [show e + 1 - s = (e + 1 - (s + 1)) + 1 by omega, List.take_succ_cons] at hL2
  have hr : (b[s]'(by omega)).1 = ys.getD s Str.empty := by
    have hg : ys[s]? = (b[s]?).map (·.1) := by rw [← hy, List.getElem?_map]
    rw [List.getD_eq_getElem?_getD, hg, List.getElem?_eq_getElem (by omega)]; rfl
  have hc := sl_cons h1 hs
  have hin : ys.getD s Str.empty ∈ dis (sl ys s e) := mem_dis.mpr (by rw [hc]; exact List.mem_cons_self)
  have nd0 := dis_nodup (sl ys s e)
  have hne : ys.getD e Str.empty ≠ ys.getD s Str.empty := fun z => hn (by rw [z]; exact mem_dis.mp hin)
  refine bk_behind hL2 ((dis (sl ys s e)).erase (ys.getD s Str.empty) ++ [ys.getD e Str.empty]) ?_ ?_ ?_ ?_
  · refine List.nodup_append.mpr ⟨nd0.erase _, List.nodup_cons.mpr ⟨List.not_mem_nil, List.nodup_nil⟩, fun a ha c hb z => hn ?_⟩
    rw [← List.mem_singleton.mp hb, ← z]
    exact mem_dis.mp (List.mem_of_mem_erase ha)
  · intro x hx
    show x ∈ (slB b (s + 1) (e + 1)).map (·.1)
    rw [slB_names, hy, sl_snoc (by omega) h2]
    rcases List.mem_append.mp hx with hx | hx
    · have h7 := nd0.mem_erase_iff.mp hx
      have h8 := mem_dis.mp h7.2
      rw [hc] at h8
      exact List.mem_append_left _ ((List.mem_cons.mp h8).resolve_left h7.1)
    · exact List.mem_append_right _ hx
  · rw [hr]
    intro hx
    rcases List.mem_append.mp hx with hx | hx
    · exact (nd0.mem_erase_iff.mp hx).1 rfl
    · exact hne (List.mem_singleton.mp hx).symm
  · have h5 := List.length_erase_of_mem hin
    have h6 : 0 < (dis (sl ys s e)).length := List.length_pos_of_mem hin
    rw [List.length_append, h5, hd]
    show p - 1 + 1 = p
    omega
theorem parts_mis {f p : Nat} {b : List BR} {ys : List Str} (h : BkOk f [] b) (hy : b.map (·.1) = ys) : ∀ (rs : List (Nat × Nat)) (a : Nat), OkP ys (p : Int) a rs → ∀ q ∈ rs.dropLast, q.1 < q.2 ∧ q.2 < ys.length ∧ p + 1 ≤ mis (slB b (q.1 + 1) (q.2 + 1)) + f := by
  intro rs
  induction rs with
  | nil => intro a _ q hq; cases hq
  | cons r rs ih =>
    intro a ho q hq
    obtain ⟨s, e⟩ := r
    obtain ⟨rfl, h2, h3, h4, h5, h6⟩ := ho
    cases rs with
    | nil => cases hq
    | cons r' rs =>
      rw [List.dropLast_cons₂, List.mem_cons] at hq
      have he : e < ys.length := by
        obtain ⟨s', e'⟩ := r'
        obtain ⟨_, h7, h8, _⟩ := h6
        omega
      rcases hq with rfl | hq
      · obtain ⟨h9, h10⟩ := h5 he
        exact ⟨h2, he, part_mis h hy h2 he (by exact_mod_cast h9) h10⟩
      · exact ih e h6 q hq
theorem parts_sum {f p : Nat} {b : List BR} {ys : List Str} (h : BkOk f [] b) (hy : b.map (·.1) = ys) : ∀ (rs : List (Nat × Nat)) (a : Nat), OkP ys (p : Int) a rs → a < ys.length → (rs.length - 1) * (p + 1 - f) ≤ mis (b.drop (a + 1)) := by
  intro rs
  induction rs with
  | nil => intro a _ _; rw [List.length_nil, Nat.zero_sub, Nat.zero_mul]; exact Nat.zero_le _
  | cons r rs ih =>
    intro a ho ha
    obtain ⟨s, e⟩ := r
    have ho' := ho
    obtain ⟨rfl, h2, h3, h4, h5, h6⟩ := ho
    cases rs with
    | nil => rw [show ([(s, e)] : List (Nat × Nat)).length - 1 = 0 from rfl, Nat.zero_mul]; exact Nat.zero_le _
    | cons r' rs =>
      have he : e < ys.length := by
        obtain ⟨s', e'⟩ := r'
        obtain ⟨_, h7, h8, _⟩ := h6
        omega
      obtain ⟨h9, h10⟩ := h5 he
      have k1 := part_mis h hy h2 he (by exact_mod_cast h9) h10
      have k2 := ih e h6 he
      have e1 : b.drop (s + 1) = slB b (s + 1) (e + 1) ++ b.drop (e + 1) := by
        unfold slB
        have := List.take_append_drop (e + 1 - (s + 1)) (b.drop (s + 1))
        rw [List.drop_drop, show s + 1 + (e + 1 - (s + 1)) = e + 1 by omega] at this
        exact this.symm
      rw [e1, mis_append]
      have e2 : ((s, e) :: r' :: rs).length - 1 = ((r' :: rs).length - 1) + 1 := by simp
      rw [e2, Nat.add_mul, Nat.one_mul]
      omega
theorem floor_mis {f p : Nat} {b : List BR} {ys : List Str} (h : BkOk f [] b) (hy : b.map (·.1) = ys) (hp : 1 ≤ p) (hf : f ≤ p) : flr p f ys ≤ (mis b : Int) := by
  by_cases h0 : ys = []
  · rw [h0]; show (if ([] : List Str) = [] then (0 : Int) else _) ≤ _
    rw [if_pos rfl]; omega
  · have hl : 0 < ys.length := by
      cases ys with
      | nil => exact absurd rfl h0
      | cons a l => exact Nat.succ_pos _
    have k := parts_sum h hy (partsOf p ys) 0 (parts_ok (by omega) ys) hl
    cases b with
    | nil => exact absurd hy.symm h0
    | cons r b =>
      have hm : mis (r :: b) = mis b + if (!r.2) = true then 1 else 0 := List.countP_cons ..
      rw [h.1] at hm
      simp at hm
      rw [flr_some h0, hm]
      have k' : (((partsOf p ys).length - 1 : Nat) : Int) * ((p + 1 - f : Nat) : Int) ≤ (mis b : Int) := by exact_mod_cast k
      have hz : 1 ≤ (partsOf p ys).length := by
        cases hq : (partsOf p ys).length with
        | zero => exact absurd ((parts_none (by omega)).mp hq) h0
        | succ n => omega
      rw [Int.ofNat_sub hz, Int.ofNat_sub (by omega)] at k'
      have e3 : ((p + 1 : Nat) : Int) - (f : Int) = (p : Int) - f + 1 := by omega
      rw [e3] at k'
      have e4 : (((mis b + 1 : Nat)) : Int) = (mis b : Int) + 1 := by omega
      rw [e4]
      have e5 : (((1 : Nat)) : Int) = 1 := rfl
      rw [e5] at k'
      omega
theorem parts_end {ys : List Str} {m : Int} : ∀ (rs : List (Nat × Nat)) (a : Nat), OkP ys m a rs → ∀ q, rs.getLast? = some q → q.2 = ys.length := by
  intro rs
  induction rs with
  | nil => intro a _ q hq; cases hq
  | cons r rs ih =>
    intro a ho q hq
    obtain ⟨s, e⟩ := r
    obtain ⟨rfl, h2, h3, h4, h5, h6⟩ := ho
    cases rs with
    | nil => cases hq; exact h6
    | cons r' rs => rw [List.getLast?_cons_cons] at hq; exact ih e h6 q hq
noncomputable def sp55_parts (K : PySem.W.Frag) : Sp := fun vs H Q _ => ∃ (a : Addr) (ys : List Str) (m : Int), vs = [.ref a, .int m] ∧ SqL K H a (ys.map V.str) ∧ ys.length ≤ 250 ∧ 1 ≤ m ∧ m ≤ 1000000 ∧ ∀ (p : Addr) (rs : List Pt) (H' : Hp), H p = none → Same H H' → PtsAt K H' p rs → rs.map (·.2) = partsOf m ys → Q (.ref p) H'
noncomputable def sp55_floor (K : PySem.W.Frag) : Sp := fun vs H Q _ => ∃ (a : Addr) (ys : List Str) (p f : Int), vs = [.ref a, .int p, .int f] ∧ SqL K H a (ys.map V.str) ∧ ys.length ≤ 250 ∧ 1 ≤ f ∧ f ≤ p ∧ p ≤ 1000000 ∧ ∀ H', Same H H' → Q (.int (flr p f ys)) H'
noncomputable def sp55_check : Sp := fun vs H Q _ => ∃ i : Int, vs = [.int i] ∧ 1 ≤ i ∧ i ≤ 1000000 ∧ Q .non H
noncomputable abbrev Rw5 := Addr × Str × Int × Int
structure RwAt (H : Hp) (p : Addr) (rs : List Rw5) : Prop where
  l : H p = some (.lst (rs.map fun r => V.ref r.1))
  t : ∀ r ∈ rs, H r.1 = some (.tup [.str r.2.1, .int r.2.2.1, .int r.2.2.2])
  r : ∀ r ∈ rs, 1 ≤ r.2.2.2 ∧ r.2.2.2 ≤ 1000
  n : 1 ≤ rs.length
  m : rs.length ≤ 60
theorem RwAt.same {H H' : Hp} {p : Addr} {rs : List Rw5} (s : Same H H') (h : RwAt H p rs) : RwAt H' p rs := ⟨s _ _ h.l, fun r hr => s _ _ (h.t r hr), h.r, h.n, h.m⟩
noncomputable def sp55_rows (K : PySem.W.Frag) : Sp := fun vs H Q _ => ∃ (a : Addr) (ns : List Int), vs = [.ref a] ∧ SqL K H a (ns.map V.int) ∧ ns.length ≤ 63 ∧ ∀ (p : Addr) (rs : List Rw5) (H' : Hp), H p = none → Same H H' → RwAt H' p rs → Q (.ref p) H'
noncomputable def sp55_places : Sp := fun vs H Q _ => ∃ (p : Addr) (rs : List Rw5) (c : Int), vs = [.ref p, .int c] ∧ RwAt H p rs ∧ ∀ (n : Int) (H' : Hp), 1 ≤ n → n ≤ 1000000 → (∀ r ∈ rs, r.2.2.2 ≤ n) → Same H H' → Q (.int n) H'
noncomputable def sp55_asks (K : PySem.W.Frag) : Sp := fun vs H Q _ => ∃ (a p : Addr) (ns : List Int) (rs : List Rw5), vs = [.ref a, .ref p] ∧ SqL K H a (ns.map V.int) ∧ ns.length ≤ 63 ∧ RwAt H p rs ∧ ∀ (q : Addr) (ys : List Str) (H' : Hp), H q = none → Same H H' → H' q = some (.lst (ys.map V.str)) → ys.length ≤ 201 → (∀ y ∈ ys, y ∈ rs.map (·.2.1)) → Q (.ref q) H'
noncomputable def NumsAt (H : Hp) (d : Addr) (zs : List Str) (R : Str → Int) : Prop := ∃ kvs : List (Key × V), H d = some (.dK kvs) ∧ kvs.length ≤ 60 ∧ ∀ z ∈ zs, valV kvs (Sum.inr z) = some (.int (R z))
theorem NumsAt.same {H H' : Hp} {d : Addr} {zs : List Str} {R : Str → Int} (s : Same H H') (h : NumsAt H d zs R) : NumsAt H' d zs R := by
  obtain ⟨kvs, h1, h2⟩ := h
  exact ⟨kvs, s _ _ h1, h2⟩
noncomputable def sp55_stream : Sp := fun vs H Q _ => ∃ (c : Int) (m : Nat), vs = [.int c, .int m] ∧ m ≤ 250 ∧ ∀ (p : Addr) (is : List Int) (H' : Hp), H p = none → Same H H' → H' p = some (.lst (is.map V.int)) → is.length ≤ m → m ≤ is.length → Q (.ref p) H'
noncomputable def rw0 : Rw5 := (0, Str.empty, 0, 0)
theorem rs_at {rs : List Rw5} {i : Nat} (h : i < rs.length) : rs.getD i rw0 ∈ rs ∧ (rs.map fun r => V.ref r.1)[i]? = some (V.ref (rs.getD i rw0).1) := by
  rw [List.getD_eq_getElem?_getD, List.getElem?_eq_getElem h, List.getElem?_map, List.getElem?_eq_getElem h]
  exact ⟨List.getElem_mem h, rfl⟩
theorem rooms_list (rs : List Rw5) : (List.range (rs.map fun r => V.ref r.1).length).map (fun i => V.int (rs.getD i rw0).2.2.2) = (rs.map fun r => r.2.2.2).map V.int := by
  refine List.ext_getElem? fun i => ?_
  rw [List.length_map, List.getElem?_map, List.getElem?_map, List.getElem?_map]
  by_cases h : i < rs.length
  · rw [List.getElem?_range h, List.getElem?_eq_getElem h]
    show some (V.int (rs.getD i rw0).2.2.2) = some (V.int (rs[i]).2.2.2)
    rw [List.getD_eq_getElem?_getD, List.getElem?_eq_getElem h]; rfl
  · rw [List.getElem?_eq_none (by rw [List.length_range]; omega), List.getElem?_eq_none (by omega)]; rfl
theorem sum_small (rs : List Rw5) (h : ∀ r ∈ rs, 1 ≤ r.2.2.2 ∧ r.2.2.2 ≤ 1000) : (rs.length : Int) ≤ (rs.map fun r => r.2.2.2).sum ∧ (rs.map fun r => r.2.2.2).sum ≤ 1000 * rs.length := by
  induction rs with
  | nil => simp
  | cons r rs ih =>
    have h1 := h r List.mem_cons_self
    have h2 := ih fun x hx => h x (List.mem_cons_of_mem _ hx)
    rw [List.map_cons, List.sum_cons, List.length_cons]
    omega
theorem rows_of {H : Hp} {vs : List V} (h : ∀ (i : Nat) y, vs[i]? = some y → ∃ (t : Addr) (z : Str) (c r : Int), y = V.ref t ∧ H t = some (.tup [.str z, .int c, .int r]) ∧ 1 ≤ r ∧ r ≤ 1000) : ∃ rs : List Rw5, vs = rs.map (fun r => V.ref r.1) ∧ (∀ r ∈ rs, H r.1 = some (.tup [.str r.2.1, .int r.2.2.1, .int r.2.2.2])) ∧ ∀ r ∈ rs, 1 ≤ r.2.2.2 ∧ r.2.2.2 ≤ 1000 := by
  induction vs with
  | nil => exact ⟨[], rfl, fun r hr => (nomatch hr), fun r hr => (nomatch hr)⟩
  | cons y vs ih =>
    obtain ⟨t, z, c, r, e, h1, h2⟩ := h 0 y rfl
    obtain ⟨rs, e1, e2, e3⟩ := ih fun i y e => h (i + 1) y e
    refine ⟨(t, z, c, r) :: rs, by rw [List.map_cons, ← e1, e], fun x hx => ?_, fun x hx => ?_⟩
    · rcases List.mem_cons.mp hx with rfl | hx
      · exact h1
      · exact e2 x hx
    · rcases List.mem_cons.mp hx with rfl | hx
      · exact h2
      · exact e3 x hx
noncomputable def sp55_rooms : Sp := fun vs H Q _ => ∃ (p : Addr) (rs : List Rw5), vs = [.ref p] ∧ RwAt H p rs ∧ ∀ (d : Addr) (R : Str → Int) (H' : Hp), H d = none → Same H H' → NumsAt H' d (rs.map (·.2.1)) R → (∀ z ∈ rs.map (·.2.1), ∃ r ∈ rs, R z = r.2.2.2) → Q (.ref d) H'
noncomputable def sp55_pick (K : PySem.W.Frag) : Sp := fun vs H Q _ => ∃ (a w : Addr) (zs : List Str) (kvs : List (Key × V)) (nn : Int), vs = [.ref a, .ref w, .int nn] ∧ SqL K H a (zs.map V.str) ∧ 1 ≤ zs.length ∧ zs.length ≤ 250 ∧ H w = some (.dK kvs) ∧
  (kvs.length = 0 ∨ ∀ z ∈ zs, ∃ i : Int, valV kvs (Sum.inr z) = some (.int i)) ∧ ∀ z ∈ zs, ∀ H', Same H H' → Q (.str z) H'
noncomputable def rsum (R : Str → Int) (l : List Str) : Int := (l.map R).sum
noncomputable def lft (L ws : List Str) (z : Str) : List Str := L.filter fun o => decide (o ≠ z ∧ o ∉ ws)
noncomputable def neS (z : Str) : V → Bool
  | .str x => decide (x ≠ z)
  | _ => false
theorem filt_neS (L : List Str) (z : Str) : ((L.map V.str).filter (neS z)).map (fun v => v) = (lft L [] z).map V.str := by
  rw [List.map_id', List.filter_map]
  congr 1
  unfold lft
  refine List.filter_congr fun x _ => ?_
  show decide (x ≠ z) = decide (x ≠ z ∧ x ∉ [])
  by_cases h : x = z <;> simp [h]
theorem lft_nodup {L ws : List Str} {z : Str} (h : L.Nodup) : (lft L ws z).Nodup := h.sublist List.filter_sublist
theorem lft_sub {L ws : List Str} {z x : Str} (h : x ∈ lft L ws z) : x ∈ L ∧ x ≠ z ∧ x ∉ ws := by
  obtain ⟨h1, h2⟩ := List.mem_filter.mp h
  have := of_decide_eq_true h2
  exact ⟨h1, this.1, this.2⟩
theorem lft_erase {L ws : List Str} {z y : Str} (nd : L.Nodup) : (lft L ws z).erase y = lft L (ws ++ [y]) z := by
  rw [(lft_nodup nd).erase_eq_filter]
  unfold lft
  rw [List.filter_filter]
  refine List.filter_congr fun x _ => ?_
  by_cases h1 : x = y <;> by_cases h2 : x = z <;> by_cases h3 : x ∈ ws <;> simp [h1, h2, h3]
theorem rsum_erase {R : Str → Int} {l : List Str} {y : Str} (h : y ∈ l) : rsum R (l.erase y) = rsum R l - R y := by
  unfold rsum
  induction l with
  | nil => cases h
  | cons a l ih =>
    by_cases e : a = y
    · subst e
      rw [List.erase_cons_head, List.map_cons, List.sum_cons]
      omega
    · have hl : y ∈ l := (List.mem_cons.mp h).resolve_left (fun z => e z.symm)
      rw [List.erase_cons_tail (by simpa using e), List.map_cons, List.map_cons, List.sum_cons, List.sum_cons, ih hl]
      omega
theorem rsum_lft {R : Str → Int} {L : List Str} {z : Str} (nd : L.Nodup) : rsum R (lft L [] z) = rsum R L - if z ∈ L then R z else 0 := by
  have e : lft L [] z = L.erase z := by
    rw [nd.erase_eq_filter]
    unfold lft
    refine List.filter_congr fun x _ => ?_
    by_cases h : x = z <;> simp [h]
  rw [e]
  split
  · rename_i h; exact rsum_erase h
  · rename_i h; rw [List.erase_of_not_mem h]; omega
noncomputable def sp55_gone (K : PySem.W.Frag) : Sp := fun vs H Q _ => ∃ (a d w : Addr) (L ys : List Str) (z : Str) (R : Str → Int) (f nn : Int) (kvs : List (Key × V)), vs = [.ref a, .str z, .ref d, .int (f - rsum R L), .ref w, .int nn] ∧ H a = some (.lst (L.map V.str)) ∧ L.Nodup ∧ L.length ≤ 60 ∧ (∀ x ∈ L, x ∈ ys) ∧ z ∈ ys ∧ NumsAt H d ys R ∧ (∀ y ∈ ys, 1 ≤ R y ∧ R y ≤ f) ∧ rsum R L ≤ f ∧ f ≤ 1000000 ∧ H w = some (.dK kvs) ∧
  (kvs.length = 0 ∨ ∀ x ∈ L, ∃ i : Int, valV kvs (Sum.inr x) = some (.int i)) ∧ ∀ (g : Addr) (ws : List Str) (H' : Hp), H g = none → Same H H' → H' g = some (.lst (ws.map V.str)) → ws.length ≤ 60 → rsum R (lft L ws z) + R z ≤ f → Q (.ref g) H'
noncomputable def sp55_next (K : PySem.W.Frag) : Sp := fun vs H Q _ => ∃ (a : Addr) (ys : List Str), vs = [.ref a] ∧ SqL K H a (ys.map V.str) ∧ ys.length ≤ 201 ∧ ∀ (p : Addr) (is : List Int) (H' : Hp), H p = none → Same H H' → H' p = some (.lst (is.map V.int)) → is.length ≤ ys.length → ys.length ≤ is.length → Q (.ref p) H'
noncomputable abbrev Bk5 := Addr × Str × Bool × Addr
structure BkAt (H : Hp) (p : Addr) (bs : List Bk5) : Prop where
  l : H p = some (.lst (bs.map fun r => V.ref r.1))
  t : ∀ r ∈ bs, H r.1 = some (.tup [.str r.2.1, .bl r.2.2.1, .ref r.2.2.2])
theorem BkAt.same {H H' : Hp} {p : Addr} {bs : List Bk5} (s : Same H H') (h : BkAt H p bs) : BkAt H' p bs := ⟨s _ _ h.l, fun r hr => s _ _ (h.t r hr)⟩
noncomputable def brs (bs : List Bk5) : List BR := bs.map fun r => (r.2.1, r.2.2.1)
noncomputable def BkTo (f : Nat) : List Str → List BR → List Str → Prop
  | L, [], M => L = M
  | L, r :: b, M => r.2 = decide (r.1 ∈ L) ∧ ∃ L' : List Str, L'.Nodup ∧ L'.length ≤ f ∧ r.1 ∈ L' ∧ (∀ x ∈ L', x ∈ L ∨ x = r.1) ∧ BkTo f L' b M
theorem BkTo.ok {f : Nat} {b : List BR} {L M : List Str} (h : BkTo f L b M) : BkOk f L b := by
  induction b generalizing L with
  | nil => exact trivial
  | cons r b ih =>
    obtain ⟨h1, L', h2, h3, h4, h5, h6⟩ := h
    exact ⟨h1, L', h2, h3, h4, h5, ih h6⟩
theorem BkTo.snoc {f : Nat} {b : List BR} {L M M' : List Str} {z : Str} (h : BkTo f L b M) (h1 : M'.Nodup) (h2 : M'.length ≤ f) (h3 : z ∈ M') (h4 : ∀ x ∈ M', x ∈ M ∨ x = z) : BkTo f L (b ++ [(z, decide (z ∈ M))]) M' := by
  induction b generalizing L with
  | nil => cases h; exact ⟨rfl, M', h1, h2, h3, h4, rfl⟩
  | cons r b ih =>
    obtain ⟨g1, L', g2, g3, g4, g5, g6⟩ := h
    exact ⟨g1, L', g2, g3, g4, g5, ih g6⟩
noncomputable def sp55_book (K : PySem.W.Frag) : Sp := fun vs H Q _ => ∃ (a d e x : Addr) (ys zs : List Str) (R C : Str → Int) (is : List Int) (f way : Int), vs = [.ref a, .ref d, .ref e, .int f, .int way, .ref x] ∧ H a = some (.lst (ys.map V.str)) ∧ ys.length ≤ 201 ∧ (∀ y ∈ ys, y ∈ zs) ∧ zs.length ≤ 60 ∧ NumsAt H d zs R ∧ NumsAt H e zs C ∧ (∀ y ∈ zs, 1 ≤ R y ∧ R y ≤ f) ∧ 1 ≤ f ∧ f ≤ 1000000 ∧ H x = some (.lst (is.map V.int)) ∧ ys.length ≤ is.length ∧ is.length ≤ 201 ∧
  ∀ (p : Addr) (bs : List Bk5) (H' : Hp), H p = none → Same H H' → BkAt H' p bs → (brs bs).map (·.1) = ys → BkOk f.toNat [] (brs bs) → Q (.ref p) H'
noncomputable def keepS (ws : List Str) (y : Str) : V → Bool
  | .str z => decide (z ≠ y ∧ z ∉ ws)
  | _ => false
theorem filt_keepS (L ws : List Str) (y : Str) : ((L.map V.str).filter (keepS ws y)).map (fun v => v) = (lft L ws y).map V.str := by
  rw [List.map_id', List.filter_map]
  rfl
theorem rsum_snoc {R : Str → Int} {l : List Str} {y : Str} : rsum R (l ++ [y]) = rsum R l + R y := by
  unfold rsum
  rw [List.map_append, List.sum_append]
  simp
theorem len_rsum {R : Str → Int} {l : List Str} (h : ∀ x ∈ l, 1 ≤ R x) : (l.length : Int) ≤ rsum R l := by
  unfold rsum
  induction l with
  | nil => simp
  | cons a l ih =>
    have h1 := h a List.mem_cons_self
    have h2 := ih fun x hx => h x (List.mem_cons_of_mem _ hx)
    rw [List.map_cons, List.sum_cons, List.length_cons]
    omega
theorem snoc_nodup {L ws : List Str} {y : Str} (nd : L.Nodup) : (lft L ws y ++ [y]).Nodup :=
  List.nodup_append.mpr ⟨lft_nodup nd, List.nodup_cons.mpr ⟨List.not_mem_nil, List.nodup_nil⟩, fun a ha b hb e => (lft_sub ha).2.1 (e.trans (List.mem_singleton.mp hb))⟩
end N55

set_option Elab.async false
set_option linter.all false
set_option maxRecDepth 100000
set_option maxHeartbeats 1000000
namespace N55
open PySem PySem.Spec PyProof.Rows L2 N1 N5 N53 N51
section
variable {tp : Addr} {pos : Pos} {qual : Str} {H H1 H2 H' : Hp}
theorem lam_tab (h : LamOk tp pos qual H) : ∃ ps, H tp = some (.tbl ps) := by
  rcases h with h | ⟨c, h, _⟩
  · exact ⟨_, h⟩
  · exact ⟨_, h⟩
theorem lam_same (s : Same H H') (h : LamOk tp pos qual H) : LamOk tp pos qual H' := by
  rcases h with h | ⟨c, h, h'⟩
  · exact .inl (s _ _ h)
  · exact .inr ⟨c, s _ _ h, s _ _ h'⟩
theorem lam_ne (h : LamOk tp pos qual H) {p : Addr} {o : HO} (e : H p = some o) (n : ∀ ps, o ≠ .tbl ps) : p ≠ tp := fun z => by
  obtain ⟨ps, h'⟩ := lam_tab h
  rw [z, h'] at e
  cases e
  exact n _ rfl
theorem lam_put {D : Addr} {ys zs : List V} (h : LamOk tp pos qual H) (e : H D = some (.lst ys)) : LamOk tp pos qual (upd H D (.lst zs)) := by
  have n1 : tp ≠ D := (lam_ne h e fun _ z => by cases z).symm
  rcases h with h | ⟨c, h, h'⟩
  · exact .inl (by rw [upd_ne n1]; exact h)
  · refine .inr ⟨c, by rw [upd_ne n1]; exact h, ?_⟩
    rw [upd_ne (ne_of h' e (by unfold codeO; intro z; cases z))]
    exact h'
structure Tk (tp : Addr) (pos : Pos) (qual : Str) (H H' : Hp) : Prop where
  but : SameBut tp H H'
  lam : LamOk tp pos qual H'
theorem Tk.refl (h : LamOk tp pos qual H) : Tk tp pos qual H H := ⟨fun b o e _ => e, h⟩
theorem Tk.trans (a : Tk tp pos qual H H1) (b : Tk tp pos qual H1 H2) : Tk tp pos qual H H2 := ⟨a.but.trans b.but, b.lam⟩
theorem Tk.of (h : LamOk tp pos qual H) (s : Same H H1) : Tk tp pos qual H H1 := ⟨.of s, lam_same s h⟩
theorem Tk.get (t : Tk tp pos qual H H') (h : LamOk tp pos qual H) {p : Addr} {o : HO} (e : H p = some o) (n : ∀ ps, o ≠ .tbl ps) : H' p = some o := t.but _ _ e (lam_ne h e n)
theorem Tk.lst (t : Tk tp pos qual H H') (h : LamOk tp pos qual H) {p : Addr} {xs : List V} (e : H p = some (.lst xs)) : H' p = some (.lst xs) := t.get h e fun _ z => by cases z
theorem Tk.tup (t : Tk tp pos qual H H') (h : LamOk tp pos qual H) {p : Addr} {xs : List V} (e : H p = some (.tup xs)) : H' p = some (.tup xs) := t.get h e fun _ z => by cases z
theorem Tk.none (t : Tk tp pos qual H H') (h : LamOk tp pos qual H) {p : Addr} (e : H' p = none) : H p = none := by
  cases q : H p with
  | none => rfl
  | some o =>
    by_cases z : p = tp
    · obtain ⟨ps, g⟩ := lam_tab t.lam
      rw [z, g] at e
      cases e
    · rw [t.but _ _ q z] at e
      cases e
theorem compL_2T {K : PySem.W.Frag} {tail : L2.St} {te : Blk → TE} {Q : VK} {a : Addr} {as : List Addr} (x1 x2 f : Nat → V) (hL : LamOk tp pos qual H1) (hS : H1 a = some (.lst (as.map V.ref))) (hz : as.length ≤ sizeLine) (hT : ∀ i c, as[i]? = some c → H1 c = some (.tup [x1 i, x2 i]))
    (he : ∀ b i H Q', i < as.length → Tk tp pos qual H1 H → (∀ H', Tk tp pos qual H H' → Q' (f i) H') → te b (some (x1 i) :: some (x2 i) :: tail) H Q')
    (q : ∀ D H', H1 D = none → Tk tp pos qual H1 H' → H' D = some (.lst ((List.range as.length).map f)) → Q (.ref D) H') : CompTail (none :: none :: tail) (g2 K) (fun _ => tYes) te Q (Itl K a) H1 := by
  intro b D hD
  refine ⟨fun i m ys H => m = as.length - i ∧ i ≤ as.length ∧ ys = (List.range i).map f ∧ H D = some (.lst ys) ∧ Tk tp pos qual H1 H, ⟨_, rfl, Nat.zero_le _, rfl, upd_same, .of hL (same_new hD)⟩, ?_⟩
  rintro i m ys H ⟨rfl, hi, rfl, hd, sm⟩
  refine ⟨hd, ?_⟩
  have hS2 : SqL K H a (as.map V.ref) := SqL.of (sm.lst hL hS)
  by_cases hlt : i < as.length
  · refine .inr ⟨⟨_, V.ref as[i], hS2, by simp [hlt]⟩, fun x H3 ⟨e3, ex⟩ => ?_⟩
    subst e3
    have hx := ex _ hS2
    have hx' : V.ref as[i] = x := by simpa [hlt] using hx
    subst hx'
    refine ⟨as[i], _, rfl, SqT.of (sm.tup hL (hT i _ (by simp [hlt]))), rfl, _, _, rfl, _, _, rfl, rfl, kept2, ?_⟩
    change te b (some (x1 i) :: some (x2 i) :: tail) _ _
    refine he b i _ _ hlt sm fun H8 t8 => ?_
    have hd8 := t8.lst sm.lam hd
    refine ⟨hd8, by rw [List.length_map, List.length_range]; omega, as.length - (i + 1), by omega, rfl, hlt, ?_, upd_same, ⟨fun b' o e n => ?_, lam_put t8.lam hd8⟩⟩
    · rw [List.range_succ, List.map_append]; rfl
    · rw [upd_ne (ne_of_none e hD)]
      exact (sm.trans t8).but _ _ e n
  · have e : i = as.length := by omega
    subst e
    exact .inl ⟨⟨_, hS2, by simp⟩, q D H hD sm hd⟩
theorem compL_mkL {K : PySem.W.Frag} {tail : L2.St} {te : Blk → TE} {Q : VK} {a : Addr} {xs : List V} (P : Nat → V → Hp → Prop) (hP : ∀ i, OffLists (P i)) (hS : SqL K H1 a xs) (hz : xs.length ≤ sizeLine) (he : ∀ b (i : Nat) x H Q', xs[i]? = some x → Same H1 H → (∀ y H', Same H H' → P i y H' → Q' y H') → te b (some x :: tail) H Q')
    (q : ∀ D ys H', H1 D = none → Same H1 H' → H' D = some (.lst ys) → ys.length = xs.length → (∀ i y, ys[i]? = some y → P i y H') → Q (.ref D) H') : CompTail (none :: tail) (fun _ => gName 0) (fun _ => tYes) te Q (Itl K a) H1 := by
  refine comp_by xs.length (fun b D hD => ⟨fun i ys H => i ≤ xs.length ∧ ys.length = i ∧ H D = some (.lst ys) ∧ Same H1 H ∧ ∀ j y, ys[j]? = some y → P j y H, ⟨Nat.zero_le _, rfl, upd_same, same_new hD, fun j y e => by simp at e⟩, ?_, ?_, ?_⟩)
  · rintro i ys H ⟨hi, _, h, _⟩
    exact h
  · rintro ys H ⟨_, hl, h, sm, hall⟩
    exact ⟨⟨xs, sm.seq hS, Nat.le_refl _⟩, q D ys H hD sm h hl hall⟩
  · rintro i ys H hi ⟨_, hl, h, sm, hall⟩
    refine ⟨⟨xs, xs[i], sm.seq hS, by simp [hi]⟩, fun x H3 ⟨e3, ex⟩ => ?_⟩
    subst e3
    refine he b i x _ _ (ex xs (sm.seq hS)) sm fun y H4 sm4 py => ?_
    have h4 := sm4 _ _ h
    have sb : SameBut D H4 (upd H4 D (.lst (ys ++ [y]))) := sameBut_upd
    refine compNext h4 (by omega) hi ⟨hi, by rw [List.length_append, hl]; rfl, upd_same, fun c o e => ?_, fun j y' e => ?_⟩
    · rw [upd_ne (ne_of_none e hD)]; exact sm4 _ _ (sm _ _ e)
    · by_cases hj : j < ys.length
      · rw [List.getElem?_append_left hj] at e
        have := hall j y' e
        exact hP j _ _ _ _ _ this h fun c o e n => by rw [upd_ne n]; exact sm4 _ _ e
      · rw [List.getElem?_append_right (by omega)] at e
        have hj0 : j = i := by have := (List.getElem?_eq_some_iff.mp e).1; simp at this; omega
        subst hj0
        rw [show j - ys.length = 0 by omega] at e
        cases e
        exact hP j _ _ _ _ _ py h4 sb
theorem BkAt.tk {p : Addr} {bs : List Bk5} (t : Tk tp pos qual H H') (h : LamOk tp pos qual H) (b : BkAt H p bs) : BkAt H' p bs := ⟨t.lst h b.l, fun r hr => t.tup h (b.t r hr)⟩
theorem ptsAt_tk {K : PySem.W.Frag} {p : Addr} {rs : List Pt} (t : Tk tp pos qual H H') (h : LamOk tp pos qual H) (b : PtsAt K H p rs) : PtsAt K H' p rs := ⟨t.lst h b.1, fun r hr => t.tup h (b.2 r hr)⟩
end
noncomputable def misV (H : Hp) : V → Bool
  | .ref t => match H t with
    | some (.tup [.str _, .bl b, .ref _]) => !b
    | _ => false
  | _ => false
theorem misV_is {H : Hp} {t g : Addr} {y : Str} {b : Bool} (h : H t = some (.tup [.str y, .bl b, .ref g])) : misV H (.ref t) = !b := by
  show (match H t with | some (.tup [.str _, .bl b, .ref _]) => !b | _ => false) = !b
  rw [h]
theorem mis_cons (r : BR) (b : List BR) : mis (r :: b) = mis b + if (!r.2) = true then 1 else 0 := List.countP_cons ..
theorem mis_len {H : Hp} {bs : List Bk5} (h : ∀ r ∈ bs, H r.1 = some (.tup [.str r.2.1, .bl r.2.2.1, .ref r.2.2.2])) : ((bs.map fun r => V.ref r.1).filter (misV H)).length = mis (brs bs) := by
  induction bs with
  | nil => rfl
  | cons r bs ih =>
    have e := misV_is (h r List.mem_cons_self)
    have ih' := ih fun x hx => h x (List.mem_cons_of_mem _ hx)
    rw [List.map_cons, List.filter_cons, e]
    show _ = mis ((r.2.1, r.2.2.1) :: brs bs)
    rw [mis_cons]
    show _ = mis (brs bs) + if (!r.2.2.1) = true then 1 else 0
    by_cases hb : (!r.2.2.1) = true
    · rw [if_pos hb, if_pos hb, List.length_cons, ih']
    · rw [if_neg hb, if_neg hb, ih']; rfl
theorem ones_sumI (n : Nat) : (List.replicate n (1 : Int)).sum = n := by
  induction n with
  | zero => rfl
  | succ n ih => rw [List.replicate_succ, List.sum_cons, ih]; omega
theorem ones_map {xs : List V} : (xs.map fun _ => V.int 1) = (List.replicate xs.length (1 : Int)).map V.int := by
  rw [List.map_const', List.map_replicate]
theorem cut_rows (bs : List Bk5) (s e : Nat) (h1 : s ≤ e) (h2 : e ≤ bs.length) : cutV (bs.map fun r => V.ref r.1) (some (s : Int)) (some (e : Int)) = ((bs.drop s).take (e - s)).map fun r => V.ref r.1 := by
  unfold cutV
  rw [List.length_map, HT.sIx_nat, HT.sIx_nat, Nat.min_eq_left h2, Nat.min_eq_left (Nat.le_trans h1 h2), ← List.map_drop, ← List.map_take]
theorem cut_last (rs : List Pt) : cutV (rs.map fun r => V.ref r.1) none (some (-1)) = rs.dropLast.map fun r => V.ref r.1 := by
  unfold cutV
  rw [List.length_map, HT.sIx_none]
  show ((rs.map fun r => V.ref r.1).drop 0).take ((if (-1 : Int) < 0 then ((-1 : Int) + (rs.length : Int)).toNat else min (-1 : Int).toNat rs.length) - 0) = _
  rw [if_pos (by decide), List.drop_zero, ← List.map_take, List.dropLast_eq_take, show ((-1 : Int) + (rs.length : Int)).toNat - 0 = rs.length - 1 by omega]
theorem brs_sl (bs : List Bk5) (s e : Nat) : brs ((bs.drop s).take (e - s)) = slB (brs bs) s e := by
  unfold brs slB
  rw [List.map_take, List.map_drop]
noncomputable def sp55_weighed (K : PySem.W.Frag) : Sp := fun vs H Q _ => ∃ (p f : Addr) (bs : List Bk5), vs = [.ref p, .ref f] ∧ BkAt H p bs ∧ bs.length ≤ 201 ∧ ConstFn 1 H f ∧ ∀ H', Same H H' → Q (.int (mis (brs bs))) H'
noncomputable def sp55_missed (tp : Addr) (pos : Pos) (qual : Str) : Sp := fun vs H Q _ => ∃ (p : Addr) (bs : List Bk5), vs = [.ref p] ∧ BkAt H p bs ∧ bs.length ≤ 201 ∧ LamOk tp pos qual H ∧ ∀ H', Tk tp pos qual H H' → Q (.int (mis (brs bs))) H'
noncomputable def sp55_in (K : PySem.W.Frag) (tp : Addr) (pos : Pos) (qual : Str) : Sp := fun vs H Q _ => ∃ (p q : Addr) (bs : List Bk5) (rs : List Pt), vs = [.ref p, .ref q] ∧ BkAt H p bs ∧ bs.length ≤ 201 ∧ PtsAt K H q rs ∧ rs.length ≤ 250 ∧ (∀ r ∈ rs, r.2.1 ≤ r.2.2 ∧ r.2.2 ≤ bs.length) ∧ LamOk tp pos qual H ∧
  ∀ D H', H D = none → Tk tp pos qual H H' → H' D = some (.lst (rs.map fun r => V.int (mis (slB (brs bs) r.2.1 r.2.2)))) → Q (.ref D) H'
noncomputable def sp55_law (tp : Addr) (K : PySem.W.Frag) : Sp := fun vs H Q _ => ∃ (a : Addr) (ns : List Int), vs = [.ref a] ∧ SqL K H a (ns.map V.int) ∧ ns.length ≤ 63 ∧ H tp = some (.tbl #[]) ∧ ∀ H', Q (.bl true) H'
noncomputable def pt0 : Pt := (0, 0, 0)
theorem pt_at {rs : List Pt} {i : Nat} (h : i < rs.length) : rs.getD i pt0 ∈ rs ∧ (rs.map fun r => r.1)[i]? = some (rs.getD i pt0).1 ∧ (rs.map fun r => V.ref r.1)[i]? = some (V.ref (rs.getD i pt0).1) := by
  rw [List.getD_eq_getElem?_getD, List.getElem?_eq_getElem h, List.getElem?_map, List.getElem?_map, List.getElem?_eq_getElem h]
  exact ⟨List.getElem_mem h, rfl, rfl⟩
theorem pts_list (rs : List Pt) (g : Pt → V) : (List.range (rs.map fun r => r.1).length).map (fun i => g (rs.getD i pt0)) = rs.map g := by
  refine List.ext_getElem? fun i => ?_
  rw [List.length_map, List.getElem?_map, List.getElem?_map]
  by_cases h : i < rs.length
  · rw [List.getElem?_range h, List.getElem?_eq_getElem h]
    show some (g (rs.getD i pt0)) = some (g rs[i])
    rw [List.getD_eq_getElem?_getD, List.getElem?_eq_getElem h]; rfl
  · rw [List.getElem?_eq_none (by rw [List.length_range]; omega), List.getElem?_eq_none (by omega)]; rfl
theorem pts_of {K : PySem.W.Frag} {H : Hp} {vs : List V} {rs : List Pt} (hl : vs.length = rs.length) (h : ∀ (i : Nat) y, vs[i]? = some y → ∃ t : Addr, y = V.ref t ∧ H t = some (.tup [.int ((rs.getD i pt0).2.1 + 1 : Nat), .int ((rs.getD i pt0).2.2 + 1 : Nat)])) : ∃ ss : List Pt, vs = ss.map (fun r => V.ref r.1) ∧ (∀ r ∈ ss, H r.1 = some (.tup [.int r.2.1, .int r.2.2])) ∧ ss.map (·.2) = rs.map fun r => (r.2.1 + 1, r.2.2 + 1) := by
  induction rs generalizing vs with
  | nil =>
    cases vs with
    | nil => exact ⟨[], rfl, (fun r hr => by cases hr), rfl⟩
    | cons v vs => cases hl
  | cons r rs ih =>
    cases vs with
    | nil => cases hl
    | cons v vs =>
      obtain ⟨t, e, ht⟩ := h 0 v rfl
      obtain ⟨ss, e1, e2, e3⟩ := ih (vs := vs) (by simpa using hl) fun i y e => h (i + 1) y e
      refine ⟨(t, r.2.1 + 1, r.2.2 + 1) :: ss, by rw [List.map_cons, ← e1, e], fun x hx => ?_, by rw [List.map_cons, List.map_cons, e3]⟩
      rcases List.mem_cons.mp hx with rfl | hx
      · exact ht
      · exact e2 x hx
end N55

set_option Elab.async false
set_option linter.all false
set_option maxRecDepth 100000
set_option maxHeartbeats 4000000

namespace K55
open PySem PySem.Spec PyProof.Rows L2 N1 N5 N31 N53 N51 N55
local macro_rules | `(tactic| walk_at "rd") => `(tactic| simp only [rd_asg, rd_var, rd_c, rd_op, rd_I0, rd_I, rd_U, rd_name, rd_ifS, rd_test, rd_b, rd_ret, rd_retN, rd_next, rd_break, rd_cont, rd_cb, rd_cons, rd_nil, rd_call, rd_not, rd_or, rd_and, rd_andV, rd_orV, rd_notV, rd_if, rd_un, rd_eq, rd_ne, rd_par, rd_tup, rd_lst, rd_never, rd_drop, rd_gcons, rd_gnil, rd_gsub, rd_chain, rd_rng1, rd_rng2, rd_ilist, rd_itup, rd_for', scal, rd_comp, rd_istr, rd_sl, rd_noPart, rd_part, rd_slS, rd_slL, rd_bm, rd_bm0, tyV_str, rd_join, rd_find, rd_split, rd_all, rd_mulS, rd_jnil, rd_jcons, rd_fstr, rd_fmt, rd_fmtR, rd_dnewK, true_implies, false_implies, Bool.false_and, Bool.true_and, Bool.and_true, Bool.and_false, Bool.false_or, Bool.true_or, Bool.or_true, Bool.or_false, rd_eqQ, rd_neQ, rd_methE, rd_makeE, rd_fld, rd_sfld, rd_din, rd_dnotin, rd_dget, rd_dput, rd_gtup, rd_inS, rd_notinS, hasS_one, blk_K, Int.zero_add, Int.toNat_natCast, upd_upd, List.map_cons, List.map_nil, List.getD_cons_zero, List.getD_cons_succ, cxOf_K, List.length_cons, List.length_nil, List.getElem?_cons_zero, List.getElem?_cons_succ, List.set_cons_zero, List.set_cons_succ, Option.some.injEq, V.int.injEq, V.bl.injEq, V.str.injEq, V.ref.injEq, V.ty.injEq, exists_eq_left', exists_eq_left, exists_and_left, exists_eq, exists_eq', List.cons.injEq, and_true, true_and, decide_eq_true_eq, Bool.not_eq_true', decide_eq_false_iff_not, reduceCtorEq, exists_const, Bool.true_eq_false, Bool.false_eq_true, if_true, if_false, ite_true, ite_false, Bool.not_true, Bool.not_false, decide_true, decide_false, Bool.not_not, false_and, and_false, exists_false, false_or, or_false, true_or, or_true, and_assoc, not_true_eq_false, not_false_eq_true, Int.reduceToNat, Nat.reduceAdd, sp_cell, sp_law, sp_is_whole, sp_within, sp55_check, sp55_parts, sp55_floor, sp55_stream, sp53_names, sp55_rows, sp55_places, sp55_asks, sp55_rooms, sp55_pick, sp55_gone, sp55_next, sp55_book, rd_listrev, rd_dget2, rd_remove, rd_ienum, rd_eqNil, rd_sumL, rd_maxL, rd_eqD, rd_getL, rd_compI, rd_comp2, rd_callO, rd_lam, sp55_weighed, sp55_missed, sp55_in])
local macro_rules | `(tactic| walk_at "hp") => `(tactic| first | with_reducible assumption | exact upd_same | (rw [upd_ne (by first | with_reducible assumption | exact ne_of_none (by with_reducible assumption) (by with_reducible assumption))]; first | with_reducible assumption | exact upd_same))
local macro_rules | `(tactic| walk_at "sq") => `(tactic| (repeat' first | with_reducible assumption | exact SqT.of upd_same | exact SqL.of upd_same | refine' Same.tup (Same.new (by with_reducible assumption)) ?_ | refine' Same.seq (Same.new (by with_reducible assumption)) ?_))
local macro_rules | `(tactic| walk_at "isi") => `(tactic| first | exact isi_ii | exact isi_ib | exact isi_bb | exact isi_is | exact isi_ss | exact isi_si | exact isi_sb | exact isi_bi | exact isi_bs | exact isi_ni | exact isi_ns | exact isi_tupt (by walk_at "hp") | exact isi_lstl (by walk_at "hp") | exact isi_tupl (by walk_at "hp") | exact isi_lstt (by walk_at "hp") | exact isi_tups (by walk_at "hp") | exact isi_lsts (by walk_at "hp") | exact isi_tupi (by walk_at "hp") | exact isi_lsti (by walk_at "hp"))
local macro_rules | `(tactic| walk_at "slen") => `(tactic| first | omega | decide +kernel | (refine le_app ?_ ?_ <;> walk_at "slen"))
local macro_rules | `(tactic| walk_at "side") => `(tactic| first | with_reducible assumption | with_reducible exact cdiv_of (by omega) (by omega) | with_reducible exact cpow_of (by decide) (by decide) (by decide) | with_reducible exact cmul_l (by omega) (by omega) | with_reducible exact cmul_r (by omega) (by omega) | omega | decide | decide +kernel | (have := line_val; omega) | (simp only [len_app, len_one, line_val]; omega) | (rw [line_val]; walk_at "slen"; done))
local macro_rules | `(tactic| walk_at "go1") => `(tactic| first | walk_at "rd" | ((with_reducible refine And.intro ?_ ?_); (focus (walk_at "side"; done))) | ((with_reducible apply isi_go); (focus (walk_at "isi"; done))) | ((with_reducible apply ixT_of); (focus (walk_at "sq"; done)); (focus rfl)) | ((with_reducible apply ixL_of); (focus (walk_at "sq"; done)); (focus rfl)) | ((with_reducible apply len_goT); (focus (walk_at "sq"; done))) | ((with_reducible apply len_goL); (focus (walk_at "sq"; done))) | ((with_reducible apply script_go); (focus (walk_at "sq"; done)); (focus (assumption; done))) | ((with_reducible apply cell_go); (focus (walk_at "sq"; done)); (focus (decide; done)); (focus (assumption; done))) | (intro (_ : List (Addr × PySem.Obj)) (_ : PySem.Value → PySem.Shared → Prop)) | with_reducible refine seq_go fun _ _ => ?_ | (refine leaf_go (by with_reducible assumption) ?_; subst_vars))
local macro_rules | `(tactic| walk_at "go") => `(tactic| repeat walk_at "go1")

noncomputable def top (i : Nat) : Stmt := PySem.Challenge.pw_castoff_k55_whole_no_book_below_the_part.main.body.getD i (.Pass ⟨0, 0, 0, 0⟩)
structure Txt (K : PySem.W.Frag) (mg : Str → Option Value)  : Prop where
  z_len : mg "len" = none
  z_isinstance : mg "isinstance" = none
  z_int : mg "int" = none
  z_bool : mg "bool" = none
  z_list : mg "list" = none
  z_range : mg "range" = none
  z_enumerate : mg "enumerate" = none
  z_sum : mg "sum" = none
  z_max : mg "max" = none
  z_reversed : mg "reversed" = none
  g_MOST_PLACES : ∃ t, mg "MOST_PLACES" = some (.int 1000000 t)
section
variable {P : Program} {w : World} {K : PySem.W.Frag} {mg : Str → Option Value} {base : Heap}
noncomputable abbrev s_is_whole : Stmt := top 5
noncomputable abbrev s_is_within : Stmt := top 6
noncomputable abbrev s_check_places : Stmt := top 9
noncomputable abbrev s_parts_of : Stmt := top 14
noncomputable abbrev s_floor_by_parts : Stmt := top 16
noncomputable abbrev s_l_cell : Stmt := top 18
noncomputable abbrev s_l_stream : Stmt := top 19
noncomputable abbrev s_l_names : Stmt := top 20
noncomputable abbrev s_l_rows : Stmt := top 21
noncomputable abbrev s_l_places : Stmt := top 22
noncomputable abbrev s_l_asks : Stmt := top 23
noncomputable abbrev s_l_rooms : Stmt := top 24
noncomputable abbrev s_l_pick : Stmt := top 26
noncomputable abbrev s_l_gone : Stmt := top 27
noncomputable abbrev s_l_next_asks : Stmt := top 25
noncomputable abbrev s_l_own_book : Stmt := top 28
noncomputable abbrev s_weighed : Stmt := top 11
noncomputable abbrev s_missed_by : Stmt := top 12
noncomputable abbrev s_missed_in : Stmt := top 15
noncomputable abbrev s_law : Stmt := top 29
theorem ok_is_whole {f : Addr} {fd : FuncData} (F : Fun K "is_whole" "is_whole" s_is_whole f fd) (T : Txt K mg )  : FnOk P w K mg base CX0 1 f fd ["thing"] (sp_is_whole K) := by
  have sc : FnScope ["thing"] ["thing"] (defScope s_is_whole) := ⟨rfl, rfl, rfl, by decide +kernel, rfl, by decide +kernel, by decide +kernel⟩
  refine F.ok sc (fun vs H Q E h => ?_) (fun cdv A outer s H vs Q E hr h => ?_)
  · obtain ⟨x, b, c, rfl, h1, h2, q⟩ := h; rfl
  obtain ⟨x, b, c, rfl, h1, h2, q⟩ := h
  refine ⟨_, (@pss_one _ _ _ (@ps_ret _ _ _ _ (pe_and (pe_callB call_isinst rfl T.z_isinstance (by first | rfl | decide +kernel) (pa_cons (pv 0) (pa_cons (pe_bltn (v := .ty "int") rfl T.z_int (by first | rfl | decide +kernel) rfl) pa_nil))) (pe_one (pe_not (pe_callB call_isinst rfl T.z_isinstance (by first | rfl | decide +kernel) (pa_cons (pv 0) (pa_cons (pe_bltn (v := .ty "bool") rfl T.z_bool (by first | rfl | decide +kernel) rfl) pa_nil)))))))), ?_⟩
  rw [show start ["thing"] [x] = [some (x)] from rfl]
  walk_at "go"
  refine ⟨_, h1, ?_⟩
  cases b
  · walk_at "go"
    exact q
  · walk_at "go"
    refine ⟨_, h2 rfl, ?_⟩
    walk_at "go"
    exact q
theorem ok_is_within {f : Addr} {fd : FuncData} (F : Fun K "is_within" "is_within" s_is_within f fd) (T : Txt K mg ) (D_is_whole : Def P w K mg base CX0 1 "is_whole" ["thing"] (sp_is_whole K)) : FnOk P w K mg base CX0 2 f fd ["thing", "least", "most"] (sp_within K) := by
  have sc : FnScope ["thing", "least", "most"] ["thing", "least", "most"] (defScope s_is_within) := ⟨rfl, rfl, rfl, by decide +kernel, rfl, by decide +kernel, by decide +kernel⟩
  refine F.ok sc (fun vs H Q E h => ?_) (fun cdv A outer s H vs Q E hr h => ?_)
  · obtain ⟨v, lo, hi, rfl, hv, q⟩ := h; rfl
  obtain ⟨v, lo, hi, rfl, hv, q⟩ := h
  refine ⟨_, (@pss_one _ _ _ (@ps_ret _ _ _ _ (pe_and (pe_callD D_is_whole hr rfl pass0 (pa_cons (pv 0) pa_nil)) (pe_one (pe_chain op_le op_le (pv 1) (pv 0) (pv 2)))))), ?_⟩
  rw [show start ["thing", "least", "most"] [v, V.int lo, V.int hi] = [some (v), some (V.int lo), some (V.int hi)] from rfl]
  obtain ⟨b, c, h1, h2, h3, h4⟩ := num_isi (K := K) (H := H) hv
  walk_at "go"
  refine ⟨b, h1, c, h2, ?_⟩
  split
  · rename_i h
    obtain ⟨i, rfl⟩ := h3 h
    simp only [wIn] at q
    walk_at "go"
    split
    · rename_i h'
      rw [decide_eq_true h', Bool.true_and] at q; exact q
    · rename_i h'
      rw [decide_eq_false h', Bool.false_and] at q; exact q
  · rename_i h
    have e : wIn lo hi v = false := by
      cases v with
      | int i => exact absurd rfl (h4 (by simpa using h) i)
      | _ => rfl
    rw [e] at q; exact q
theorem ok_check_places {f : Addr} {fd : FuncData} (F : Fun K "check_places" "check_places" s_check_places f fd) (T : Txt K mg ) (D_is_within : Def P w K mg base CX0 2 "is_within" ["thing", "least", "most"] (sp_within K)) : FnOk P w K mg base CX0 3 f fd ["places"] (sp55_check) := by
  have sc : FnScope ["places"] ["places"] (defScope s_check_places) := ⟨rfl, rfl, rfl, by decide +kernel, rfl, by decide +kernel, by decide +kernel⟩
  refine F.ok sc (fun vs H Q E h => ?_) (fun cdv A outer s H vs Q E hr h => ?_)
  · obtain ⟨i, rfl, h1, h2, q⟩ := h; rfl
  obtain ⟨i, rfl, h1, h2, q⟩ := h
  refine ⟨_, (@pss_one _ _ _ (ps_if (pt_not (pt_val (pe_callD D_is_within hr rfl pass0 (pa_cons (pv 0) (pa_cons pe_int (pa_cons (pe_gint rfl T.g_MOST_PLACES) pa_nil))))))
      (@pss_one _ _ _ ps_never)
      pss_nil)), ?_⟩
  rw [show start ["places"] [V.int i] = [some (V.int i)] from rfl]
  walk_at "go"
  rw [if_neg (by rw [wIn_is h1 h2]; decide)]
  exact ⟨rfl, q⟩
theorem ok_parts_of {f : Addr} {fd : FuncData} (F : Fun K "parts_of" "parts_of" s_parts_of f fd) (T : Txt K mg ) (D_is_within : Def P w K mg base CX0 2 "is_within" ["thing", "least", "most"] (sp_within K)) : FnOk P w K mg base CX0 3 f fd ["asks", "most"] (sp55_parts K) := by
  have sc : FnScope ["asks", "most", "parts", "start", "seen", "number", "name"] ["asks", "most"] (defScope s_parts_of) := ⟨rfl, rfl, rfl, by decide +kernel, rfl, by decide +kernel, by decide +kernel⟩
  refine F.ok sc (fun vs H Q E h => ?_) (fun cdv A outer s H vs Q E hr h => ?_)
  · obtain ⟨a, ys, m, rfl, hS, hl, hm1, hm2, q⟩ := h; rfl
  obtain ⟨a, ys, m, rfl, hS, hl, hm1, hm2, q⟩ := h
  refine ⟨_, (pss_cons (ps_if (pt_not (pt_val (pe_callD D_is_within hr rfl pass0 (pa_cons (pv 1) (pa_cons pe_int (pa_cons (pe_gint rfl T.g_MOST_PLACES) pa_nil))))))
      (@pss_one _ _ _ ps_never)
      pss_nil)
    (pss_cons (ps_set (i := 2) sc.nd rfl (Or.inl rfl) (@pe_lst _ _ _ _ pa_nil))
    (pss_cons (ps_set (i := 3) sc.nd rfl (Or.inl rfl) pe_int)
    (pss_cons (ps_set (i := 4) sc.nd rfl (Or.inl rfl) pe_dnewK)
    (pss_cons (ps_for PassesOwn.never rfl (pi_enum rfl T.z_enumerate (pa_cons (pv 0) pa_nil)) (pg_tup rfl (pgs_cons (pg_name (i := 5) sc.nd rfl (Or.inl rfl)) (pgs_cons (pg_name (i := 6) sc.nd rfl (Or.inl rfl)) pgs_nil)))
      (pss_cons (ps_if (PW.pt (pw_and (pt_cmp (pc_dnotin (hu_of hr) (pv 6) (pv 4))) (pw_and1 (pt_cmpR op_eq (pe_callB call_lenD rfl T.z_len PySem.boot_len (pa_cons (pv 4) pa_nil)) (pv 1) (nomark _)))))
        (pss_cons (ps_expr (pe_bm PySem.F.plainAttrs_list PySem.F.slot_list_append PySem.F.type_list_append mt_append (pv 2) (pa_cons (pe_tup (pa_cons (pv 3) (pa_cons (pv 5) pa_nil))) pa_nil)))
        (pss_cons (ps_set (i := 3) sc.nd rfl (Or.inl rfl) (pv 5))
        (@pss_one _ _ _ (ps_set (i := 4) sc.nd rfl (Or.inl rfl) pe_dnewK))))
        pss_nil)
      (@pss_one _ _ _ (ps_dput (hu_of hr) (pv 4) (pv 6) pe_bl rfl))))
    (pss_cons (ps_if (pt_cmpR op_lt (pv 3) (pe_callB call_len_seq rfl T.z_len PySem.boot_len (pa_cons (pv 0) pa_nil)) (nomark _))
      (@pss_one _ _ _ (ps_expr (pe_bm PySem.F.plainAttrs_list PySem.F.slot_list_append PySem.F.type_list_append mt_append (pv 2) (pa_cons (pe_tup (pa_cons (pv 3) (pa_cons (pe_callB call_len_seq rfl T.z_len PySem.boot_len (pa_cons (pv 0) pa_nil)) pa_nil))) pa_nil))))
      pss_nil)
    (@pss_one _ _ _ (@ps_ret _ _ _ _ (pv 2))))))))), ?_⟩
  rw [show start ["asks", "most", "parts", "start", "seen", "number", "name"] [V.ref a, V.int m] = [some (V.ref a), some (V.int m), none, none, none, none, none] from rfl]
  have line := line_val
  walk_at "go"
  rw [if_neg (by rw [wIn_is hm1 hm2]; decide)]
  refine ⟨rfl, ?_⟩
  walk_at "go"
  intro p hp
  walk_at "go"
  intro d hd
  walk_at "go"
  have ndp : d ≠ p := (ne_of_none upd_same hd).symm
  have hd0 : H d = none := by rw [upd_ne ndp] at hd; exact hd
  have sm0 : Same H (upd (upd H p (.lst [])) d (.dK [])) := (Same.new hp).trans (Same.new hd)
  have hp0 : PtsAt K (upd (upd H p (.lst [])) d (.dK [])) p [] := ⟨by rw [upd_ne ndp.symm]; exact upd_same, fun r hr => by cases hr⟩
  have hd1 : upd (upd H p (.lst [])) d (.dK []) d = some (.dK []) := upd_same
  generalize upd (upd H p (.lst [])) d (.dK []) = H1 at sm0 hp0 hd1 ⊢
  refine ⟨⟨_, sm0.seq hS⟩, ?_⟩
  rename_i rest hrest
  refine forE_by (xs := ys.map V.str) (fun i σ H' => ∃ (rs : List Pt) (d : Addr) (kvs : List (Key × V)) (v5 v6 : Option V), σ = [some (V.ref a), some (V.int m), some (V.ref p), some (V.int (pst m ys i).2.1), some (V.ref d), v5, v6] ∧ Same H H' ∧ PtsAt K H' p rs ∧ rs.map (·.2) = (pst m ys i).1 ∧ H' d = some (.dK kvs) ∧ kvs.map (·.1) = (pst m ys i).2.2.map Sum.inr ∧ d ≠ p ∧ H d = none)
    ⟨[], d, [], none, none, rfl, sm0, hp0, rfl, hd1, rfl, ndp, hd0⟩ (fun i σ H' _ ⟨rs, d, kvs, v5, v6, _, sm, _⟩ => sm.seq hS) ?_ ?_
  · rintro i x σ H' t hx ⟨rs, d, kvs, v5, v6, rfl, sm, hP, hrs, hd2, hk, nd, hdn⟩ ht
    rw [List.getElem?_map] at hx
    cases hy : ys[i]? with
    | none => rw [hy] at hx; cases hx
    | some y =>
      rw [hy] at hx
      cases hx
      have hyD : ys.getD i Str.empty = y := by rw [List.getD_eq_getElem?_getD, hy]; rfl
      have hil : i < ys.length := (List.getElem?_eq_some_iff.mp hy).1
      have hst : pst m ys (i + 1) = stp m i y (pst m ys i) := by rw [← hyD]; rfl
      have hsm := pst_small (m := m) (ys := ys) i
      rw [hst]
      generalize pst m ys i = ps at hrs hk hsm ⊢
      obtain ⟨p1, p2, p3⟩ := ps
      simp only at hrs hk hsm ⊢
      subst hrs
      walk_at "go"
      refine ⟨_, SqT.of upd_same, rfl, _, _, rfl, _, _, rfl, rfl, ?_⟩
      have smt : Same H' (upd H' t (.tup [.int i, .str y])) := Same.new ht
      have sm2 := sm.trans smt
      have hP2 := hP.same smt
      have hd3 := smt _ _ hd2
      generalize upd H' t (.tup [.int i, .str y]) = H2 at sm2 hP2 hd3 smt ⊢
      clear sm hP hd2 ht
      have hkl := congrArg List.length hk
      rw [List.length_map, List.length_map] at hkl
      walk_at "go"
      rename_i rest2 hrest2
      have key : ∀ (rs2 : List Pt) (d2 : Addr) (kvs2 : List (Key × V)) (ks2 : List Str) (st2 : Nat) (H3 : Hp), Same H H3 → PtsAt K H3 p rs2 → H3 d2 = some (.dK kvs2) → kvs2.map (·.1) = ks2.map Sum.inr → d2 ≠ p → H d2 = none → ks2.length ≤ 250 →
          stp m i y (rs.map (·.2), p2, p3) = (rs2.map (·.2), st2, if y ∈ ks2 then ks2 else ks2 ++ [y]) → rest2 [some (V.ref a), some (V.int m), some (V.ref p), some (V.int st2), some (V.ref d2), some (V.int i), some (V.str y)] H3 := by
        intro rs2 d2 kvs2 ks2 st2 H3 g1 g2 g3 g4 g5 g6 g7 e
        have g8 := congrArg List.length g4
        rw [List.length_map, List.length_map] at g8
        subst hrest2
        rw [e]
        walk_at "go"
        refine ⟨_, DPut.k (k := Sum.inr y) g3 (by omega), same_upd g1 g6, rs2, ⟨by rw [upd_ne g5.symm]; exact g2.1, fun r hr => ?_⟩, rfl, _, upd_same, put_both g4, g5, g6⟩
        have h1 := g2.2 r hr
        rw [upd_ne (fun z => by rw [z, g3] at h1; cases h1)]
        exact h1
      clear hrest2
      refine ⟨_, DGet.k (k := Sum.inr y) hd3, ?_⟩
      rw [key_mem hk]
      by_cases hin : y ∈ p3
      · rw [if_neg (by simp [hin])]
        refine key rs d kvs p3 p2 H2 sm2 hP2 hd3 hk nd hdn (by omega) ?_
        unfold stp
        rw [if_neg (fun h => h.1 hin)]
      · rw [if_pos (by simp [hin])]
        refine ⟨_, hd3, ?_⟩
        rw [hkl]
        split
        · rename_i hlen
          have e1 : stp m i y (rs.map (·.2), p2, p3) = (rs.map (·.2) ++ [(p2, i)], i, [y]) := by
            unfold stp
            rw [if_pos ⟨hin, hlen⟩]
          rw [List.length_map] at hsm
          clear hlen
          walk_at "go"
          refine ⟨.inl ⟨rfl, _, SqL.of hP2.1⟩, by rw [line]; decide, fun t2 ht2 => ?_⟩
          have npt : p ≠ t2 := ne_of_none hP2.1 ht2
          refine ⟨p, _, _, rfl, rfl, by rw [upd_ne npt]; exact hP2.1, by rw [List.length_map]; omega, ?_⟩
          walk_at "go"
          have sm3 := same_upd (o := .lst ((rs.map fun r => V.ref r.1) ++ [V.ref t2])) (sm2.trans (Same.new (o := .tup [.int p2, .int i]) ht2)) hp
          have hP3 : PtsAt K (upd (upd H2 t2 (.tup [.int p2, .int i])) p (.lst ((rs.map fun r => V.ref r.1) ++ [V.ref t2]))) p (rs ++ [(t2, p2, i)]) := by
            refine ⟨by rw [upd_same, List.map_append]; rfl, fun r hr => ?_⟩
            rcases List.mem_append.mp hr with hr | hr
            · have h1 := hP2.2 r hr
              have n1 : r.1 ≠ t2 := ne_of_none h1 ht2
              have n2 : r.1 ≠ p := fun e => by rw [e, hP2.1] at h1; cases h1
              rw [upd_ne n2, upd_ne n1]; exact h1
            · rw [List.mem_singleton.mp hr, upd_ne npt.symm, upd_same]
          generalize upd (upd H2 t2 (.tup [.int p2, .int i])) p (.lst ((rs.map fun r => V.ref r.1) ++ [V.ref t2])) = H3 at sm3 hP3 ⊢
          walk_at "go"
          intro d2 hd2
          have n2 : d2 ≠ p := (ne_of_none hP3.1 hd2).symm
          refine key (rs ++ [(t2, p2, i)]) d2 [] [] i _ (sm3.trans (Same.new hd2)) (hP3.same (Same.new hd2)) upd_same rfl n2 (none_of sm3 hd2) (by decide) ?_
          rw [e1, List.map_append]
          rfl
        · rename_i hlen
          refine key rs d kvs p3 p2 H2 sm2 hP2 hd3 hk nd hdn (by omega) ?_
          unfold stp
          rw [if_neg (fun h => hlen h.2)]
  · rintro σ H' ⟨rs, d, kvs, v5, v6, rfl, sm, hP, hrs, hd2, hk, nd, hdn⟩
    rw [List.length_map] at hrs hk ⊢
    have hpl := congrArg List.length hrs
    have hsm := pst_small (m := m) (ys := ys) ys.length
    rw [List.length_map] at hpl
    walk_at "go"
    refine ⟨_, .inl (sm.seq hS), ?_⟩
    rw [List.length_map]
    split
    · rename_i hlt
      refine ⟨.inl ⟨rfl, _, SqL.of hP.1⟩, _, .inl (sm.seq hS), by rw [line]; decide, fun t ht => ?_⟩
      rw [List.length_map]
      have npt : p ≠ t := ne_of_none hP.1 ht
      refine ⟨p, _, _, rfl, rfl, by rw [upd_ne npt]; exact hP.1, by rw [List.length_map]; omega, ?_⟩
      walk_at "go"
      refine q p (rs ++ [(t, (pst m ys ys.length).2.1, ys.length)]) _ hp (same_upd (sm.trans (Same.new ht)) hp) ⟨?_, ?_⟩ ?_
      · rw [upd_same, List.map_append]; rfl
      · intro r hr
        rcases List.mem_append.mp hr with hr | hr
        · have h1 := hP.2 r hr
          have n1 : r.1 ≠ t := ne_of_none h1 ht
          have n2 : r.1 ≠ p := fun e => by rw [e, hP.1] at h1; cases h1
          rw [upd_ne n2, upd_ne n1]; exact h1
        · rw [List.mem_singleton.mp hr, upd_ne npt.symm, upd_same]
      · rw [List.map_append, hrs]
        unfold partsOf
        rw [if_pos (by omega)]
        rfl
    · rename_i hlt
      walk_at "go"
      refine q p rs _ hp sm hP ?_
      rw [hrs]
      unfold partsOf
      rw [if_neg (by omega)]
theorem ok_floor_by_parts {f : Addr} {fd : FuncData} (F : Fun K "floor_by_parts" "floor_by_parts" s_floor_by_parts f fd) (T : Txt K mg ) (D_check_places : Def P w K mg base CX0 3 "check_places" ["places"] (sp55_check)) (D_parts_of : Def P w K mg base CX0 3 "parts_of" ["asks", "most"] (sp55_parts K)) : FnOk P w K mg base CX0 4 f fd ["asks", "places", "fewer"] (sp55_floor K) := by
  have sc : FnScope ["asks", "places", "fewer", "parts"] ["asks", "places", "fewer"] (defScope s_floor_by_parts) := ⟨rfl, rfl, rfl, by decide +kernel, rfl, by decide +kernel, by decide +kernel⟩
  refine F.ok sc (fun vs H Q E h => ?_) (fun cdv A outer s H vs Q E hr h => ?_)
  · obtain ⟨a, ys, p, f, rfl, hS, hl, hf1, hf2, hp2, q⟩ := h; rfl
  obtain ⟨a, ys, p, f, rfl, hS, hl, hf1, hf2, hp2, q⟩ := h
  refine ⟨_, (pss_cons (ps_expr (pe_callD D_check_places hr rfl pass0 (pa_cons (pv 1) pa_nil)))
    (pss_cons (ps_expr (pe_callD D_check_places hr rfl pass0 (pa_cons (pv 2) pa_nil)))
    (pss_cons (ps_if (pt_cmpR op_gt (pv 2) (pv 1) (nomark _))
      (@pss_one _ _ _ ps_never)
      pss_nil)
    (pss_cons (ps_set (i := 3) sc.nd rfl (Or.inl rfl) (pe_callD D_parts_of hr rfl pass0 (pa_cons (pv 0) (pa_cons (pv 1) pa_nil))))
    (pss_cons (ps_if (pt_cmpR (op_eqNil hr) (pv 3) (@pe_lst _ _ _ _ pa_nil) (nomark _))
      (@pss_one _ _ _ (@ps_ret _ _ _ _ pe_int))
      pss_nil)
    (@pss_one _ _ _ (@ps_ret _ _ _ _ (pe_op op_add pe_int (pe_op op_mulB (pe_op op_sub (pe_callB call_len_seq rfl T.z_len PySem.boot_len (pa_cons (pv 3) pa_nil)) pe_int) (pe_op op_add (pe_op op_sub (pv 1) (pv 2)) pe_int)))))))))), ?_⟩
  rw [show start ["asks", "places", "fewer", "parts"] [V.ref a, V.int p, V.int f] = [some (V.ref a), some (V.int p), some (V.int f), none] from rfl]
  have line := line_val
  have hp1 : 1 ≤ p := by omega
  walk_at "go"
  rw [if_neg (by omega)]
  walk_at "go"
  refine ⟨ys, hS, hl, hp1, hp2, fun pp rs H1 hpp sm1 hP hrs => ?_⟩
  have hpl := congrArg List.length hrs
  rw [List.length_map] at hpl
  have hps := parts_small (m := p) (ys := ys)
  have hpn := parts_none (m := p) (ys := ys) hp1
  walk_at "go"
  intro c hc
  have smc : Same H1 (upd H1 c (.lst [])) := Same.new hc
  refine ⟨_, SqL.of (smc _ _ hP.1), SqL.of upd_same, ?_⟩
  have q' := q _ (sm1.trans smc)
  rw [List.length_map]
  split
  · rename_i h0
    have e : ys = [] := hpn.mp (by omega)
    subst e
    exact q'
  · rename_i h0
    rw [flr_some (fun e => h0 (by have := hpn.mpr e; omega)), ← hpl] at q'
    have hP2 := hP.same smc
    generalize upd H1 c (.lst []) = H2 at hP2 q' ⊢
    walk_at "go"
    refine ⟨_, .inl (SqL.of hP2.1), ⟨by rw [List.length_map]; omega, by omega⟩, ?_⟩
    rw [List.length_map]
    exact q'
theorem ok_l_cell {f : Addr} {fd : FuncData} (F : Fun K "_law_cell" "_law_cell" s_l_cell f fd) (T : Txt K mg )  : FnOk P w K mg base CX0 1 f fd ["_law_script", "_law_k"] (sp_cell K) := by
  have sc : FnScope ["_law_script", "_law_k"] ["_law_script", "_law_k"] (defScope s_l_cell) := ⟨rfl, rfl, rfl, by decide +kernel, rfl, by decide +kernel, by decide +kernel⟩
  refine F.ok sc (fun vs H Q E h => ?_) (fun cdv A outer s H vs Q E hr h => ?_)
  · obtain ⟨a, ns, k, rfl, hS, h0, hl, q⟩ := h; rfl
  obtain ⟨a, ns, k, rfl, hS, h0, hl, q⟩ := h
  refine ⟨_, (pss_cons (ps_if (pt_cmpR op_lt (pv 1) (pe_callB call_len_seq rfl T.z_len PySem.boot_len (pa_cons (pv 0) pa_nil)) (nomark _))
      (@pss_one _ _ _ (@ps_ret _ _ _ _ (@pe_ix _ _ _ _ _ _ _ ix_list (pv 0) (pv 1) (fun _ _ => rfl))))
      pss_nil)
    (@pss_one _ _ _ (@ps_ret _ _ _ _ pe_int))), ?_⟩
  rw [show start ["_law_script", "_law_k"] [V.ref a, V.int k] = [some (V.ref a), some (V.int k)] from rfl]
  walk_at "go"
  rw [List.length_map]
  split
  · rename_i hk
    exact ixL_of hS (atI_of h0 (getMap (by omega))) q
  · rename_i hk
    rw [List.getD_eq_getElem?_getD, List.getElem?_eq_none (by omega)] at q
    walk_at "go"
    exact q
theorem ok_l_stream {f : Addr} {fd : FuncData} (F : Fun K "_law_stream" "_law_stream" s_l_stream f fd) (T : Txt K mg )  : FnOk P w K mg base CX0 1 f fd ["_law_cell_here", "_law_many"] (sp55_stream) := by
  have sc : FnScope ["_law_cell_here", "_law_many", "_law_found", "_law_number", "_law_k"] ["_law_cell_here", "_law_many"] (defScope s_l_stream) := ⟨rfl, rfl, rfl, by decide +kernel, rfl, by decide +kernel, by decide +kernel⟩
  refine F.ok sc (fun vs H Q E h => ?_) (fun cdv A outer s H vs Q E hr h => ?_)
  · obtain ⟨c, m, rfl, hm, q⟩ := h; rfl
  obtain ⟨c, m, rfl, hm, q⟩ := h
  refine ⟨_, (pss_cons (ps_set (i := 2) sc.nd rfl (Or.inl rfl) (@pe_lst _ _ _ _ pa_nil))
    (pss_cons (ps_set (i := 3) sc.nd rfl (Or.inl rfl) (pe_op op_add (pe_op op_mod (pv 0) pe_int) pe_int))
    (pss_cons (ps_for PassesOwn.never rfl (pi_range1 rfl T.z_range (pa_cons (pv 1) pa_nil)) (pg_name (i := 4) sc.nd rfl (Or.inl rfl))
      (pss_cons (ps_set (i := 3) sc.nd rfl (Or.inl rfl) (pe_op op_mod (pe_op op_add (pe_op op_add (pe_op op_mul (pv 3) pe_int) (pe_op op_mul pe_int (pv 4))) pe_int) pe_int))
      (@pss_one _ _ _ (ps_expr (pe_bm PySem.F.plainAttrs_list PySem.F.slot_list_append PySem.F.type_list_append mt_append (pv 2) (pa_cons (pe_op op_fdiv (pv 3) pe_int) pa_nil))))))
    (@pss_one _ _ _ (@ps_ret _ _ _ _ (pv 2)))))), ?_⟩
  rw [show start ["_law_cell_here", "_law_many", "_law_found", "_law_number", "_law_k"] [V.int c, V.int m] = [some (V.int c), some (V.int m), none, none, none] from rfl]
  have line := line_val
  walk_at "go"
  intro p hp
  walk_at "go"
  rename_i rest hrest
  refine forR_by (fun k σ H' => ∃ (x : Int) (is : List Int) (v4 : Option V), σ = [some (V.int c), some (V.int m), some (V.ref p), some (V.int x), v4] ∧ H' = upd H p (.lst (is.map V.int)) ∧ is.length ≤ k ∧ k ≤ is.length) ⟨_, [], none, rfl, rfl, by simp, by simp⟩ ?_ ?_
  · rintro k σ H' hk ⟨x, is, v4, rfl, rfl, hl, hg⟩
    walk_at "go"
    refine ⟨.inl ⟨rfl, _, SqL.of upd_same⟩, cdiv_of (by decide) (by decide), p, _, _, rfl, rfl, upd_same, by rw [List.length_map]; omega, ?_⟩
    walk_at "go"
    refine ⟨is ++ [(x * 48271 + 7919 * (k : Int) + 1) % 2147483647 / 5], ?_, by simp; omega, by simp; omega⟩
    rw [List.map_append]; rfl
  · rintro σ H' ⟨x, is, v4, rfl, rfl, hl, hg⟩
    walk_at "go"
    exact q p is _ hp (Same.new hp) upd_same (by omega) (by omega)
theorem ok_l_names {f : Addr} {fd : FuncData} (F : Fun K "_law_names" "_law_names" s_l_names f fd) (T : Txt K mg )  : FnOk P w K mg base CX0 1 f fd ["_law_cell_here", "_law_many"] (sp53_names) := by
  have sc : FnScope ["_law_cell_here", "_law_many", "_law_signs", "_law_tail", "_law_size", "_law_at", "_law_base", "_law_names_here", "_law_k", "_law_sign"] ["_law_cell_here", "_law_many"] (defScope s_l_names) := ⟨rfl, rfl, rfl, by decide +kernel, rfl, by decide +kernel, by decide +kernel⟩
  refine F.ok sc (fun vs H Q E h => ?_) (fun cdv A outer s H vs Q E hr h => ?_)
  · obtain ⟨i, m, rfl, hm, q⟩ := h; rfl
  obtain ⟨i, m, rfl, hm, q⟩ := h
  refine ⟨_, (pss_cons (ps_set (i := 2) sc.nd rfl (Or.inr rfl) pe_str)
    (pss_cons (ps_set (i := 3) sc.nd rfl (Or.inr rfl) (pe_bm PySem.F.plainAttrs_str PySem.F.slot_str_join PySem.F.type_str_join mt_join pe_str (pa_cons (pe_comp1 "_law_k" [2, 0] rfl rfl (pi_range2 rfl T.z_range (pa_cons pe_int (pa_cons pe_int pa_nil))) (fun b => (@pe_ix _ _ _ _ _ _ _ ix_str (pv 1) (pe_op op_mod (pe_op op_add (pe_op op_fdiv (pv 2) pe_int) (pe_op op_mulB (pe_op op_mul pe_int (pv 0)) (pv 0))) pe_int) (fun _ _ => rfl)))) pa_nil)))
    (pss_cons (ps_if (pt_cmpR op_eq (pe_op op_mod (pv 0) pe_int) pe_int (nomark _))
      (@pss_one _ _ _ (@ps_ret _ _ _ _ (pe_comp1 "_law_k" [2, 3, 0] rfl rfl (pi_range1 rfl T.z_range (pa_cons (pv 1) pa_nil)) (fun b => (pe_op op_add_str (@pe_ix _ _ _ _ _ _ _ ix_str (pv 1) (pe_op op_mod (pe_op op_add (pe_op op_fdiv (pv 3) pe_int) (pe_op op_fdiv (pv 0) pe_int)) pe_int) (fun _ _ => rfl)) (pe_slice sl_str (pv 2) po_none (po_some (pe_op op_mod (pv 0) pe_int))))))))
      pss_nil)
    (pss_cons (ps_set (i := 4) sc.nd rfl (Or.inl rfl) (pe_op op_add pe_int (pe_op op_mod (pe_op op_fdiv (pv 0) pe_int) pe_int)))
    (pss_cons (ps_set (i := 5) sc.nd rfl (Or.inl rfl) (pe_op op_mod (pe_op op_fdiv (pv 0) pe_int) (pv 4)))
    (pss_cons (ps_set (i := 6) sc.nd rfl (Or.inl rfl) (pe_op op_add_str (@pe_ix _ _ _ _ _ _ _ ix_str (pv 2) (pe_op op_mod (pe_op op_fdiv (pv 0) pe_int) pe_int) (fun _ _ => rfl)) (pe_slice sl_str (pv 3) po_none (po_some (pe_op op_sub (pv 4) pe_int)))))
    (pss_cons (ps_set (i := 7) sc.nd rfl (Or.inl rfl) (@pe_lst _ _ _ _ pa_nil))
    (pss_cons (ps_for PassesOwn.never rfl (pi_range1 rfl T.z_range (pa_cons (pv 1) pa_nil)) (pg_name (i := 8) sc.nd rfl (Or.inl rfl))
      (pss_cons (ps_set (i := 9) sc.nd rfl (Or.inl rfl) (@pe_ix _ _ _ _ _ _ _ ix_str (pv 2) (pe_op op_mod (pe_op op_add (pe_op op_fdiv (pv 0) pe_int) (pv 8)) pe_int) (fun _ _ => rfl)))
      (@pss_one _ _ _ (ps_expr (pe_bm PySem.F.plainAttrs_list PySem.F.slot_list_append PySem.F.type_list_append mt_append (pv 7) (pa_cons (pe_op op_add_str (pe_op op_add_str (pe_op op_add_str (pe_slice sl_str (pv 6) po_none (po_some (pv 5))) (pv 9)) (pe_slice sl_str (pv 6) (po_some (pe_op op_add (pv 5) pe_int)) po_none)) (pe_slice sl_str pe_str po_none (po_some (pe_op op_fdiv (pv 8) pe_int)))) pa_nil))))))
    (@pss_one _ _ _ (@ps_ret _ _ _ _ (pv 7))))))))))), ?_⟩
  rw [show start ["_law_cell_here", "_law_many", "_law_signs", "_law_tail", "_law_size", "_law_at", "_law_base", "_law_names_here", "_law_k", "_law_sign"] [V.int i, V.int m] = [some (V.int i), some (V.int m), none, none, none, none, none, none, none, none] from rfl]
  have line := line_val
  have bl := both_length
  walk_at "go"
  rename_i rest hrest
  refine compR_pure (fun k => V.str ⟨#[bc ((i / 36 + 5 * k * k) % 36)]⟩) (by rw [line]; decide) (fun b k H' Q' hk sm q' => ?_) fun D hD => ?_
  · have ck : CBig (5 * (1 + (k : Int))) (1 + (k : Int)) := ⟨by omega, by omega⟩
    walk_at "go"
    refine ixS_of (by omega) (ix_bc _ (by decide) (by decide)) ?_
    walk_at "go"
    exact q'
  · have hs := ones_sum (fun k => bc ((i / 36 + 5 * (1 + (k : Int)) * (1 + (k : Int))) % 36)) 7
    have hz := txt_le ((List.range 7).map fun (k : Nat) => (⟨#[bc ((i / 36 + 5 * (1 + (k : Int)) * (1 + (k : Int))) % 36)]⟩ : Str))
    have hS : SqL K (upd H D (.lst ((List.range 7).map fun (k : Nat) => V.str ⟨#[bc ((i / 36 + 5 * (1 + (k : Int)) * (1 + (k : Int))) % 36)]⟩))) D (((List.range 7).map fun (k : Nat) => (⟨#[bc ((i / 36 + 5 * (1 + (k : Int)) * (1 + (k : Int))) % 36)]⟩ : Str)).map V.str) := by
      rw [List.map_map]; exact SqL.of upd_same
    rw [hs] at hz
    refine ⟨D, rfl, _, hS, ?_, ?_⟩
    · rw [hs, nil_len]; omega
    generalize Txt.join (Str.ofString "") ((List.range 7).map fun (k : Nat) => (⟨#[bc ((i / 36 + 5 * (1 + (k : Int)) * (1 + (k : Int))) % 36)]⟩ : Str)) = z at hz ⊢
    have sm1 : Same H (upd H D (.lst ((List.range 7).map fun (k : Nat) => V.str ⟨#[bc ((i / 36 + 5 * (1 + (k : Int)) * (1 + (k : Int))) % 36)]⟩))) := Same.new hD
    show rest _ (upd H D (.lst ((List.range 7).map fun (k : Nat) => V.str ⟨#[bc ((i / 36 + 5 * (1 + (k : Int)) * (1 + (k : Int))) % 36)]⟩)))
    generalize upd H D (.lst ((List.range 7).map fun (k : Nat) => V.str ⟨#[bc ((i / 36 + 5 * (1 + (k : Int)) * (1 + (k : Int))) % 36)]⟩)) = H1 at sm1 ⊢
    clear hS hs
    subst hrest
    walk_at "go"
    split
    · walk_at "go"
      refine compR_pure (fun k => V.str (⟨#[bc ((i / 4 + k / 8) % 26)]⟩ ++ Txt.slice z none (some (k % 8)))) (by omega) (fun b k H2 Q' hk sm q' => ?_) fun D2 hD2 => ?_
      · have sl := Txt.slice_le z none (some ((k : Int) % 8))
        rw [Int.zero_add] at q' ⊢
        walk_at "go"
        refine ixS_of (by omega) (ix_bc _ (by decide) (by decide)) ?_
        walk_at "go"
        exact q'
      · have e : (List.range m).map (fun (k : Nat) => V.str (⟨#[bc ((i / 4 + (0 + (k : Int)) / 8) % 26)]⟩ ++ Txt.slice z none (some ((0 + (k : Int)) % 8)))) = ((List.range m).map (fun (k : Nat) => (⟨#[bc ((i / 4 + (0 + (k : Int)) / 8) % 26)]⟩ ++ Txt.slice z none (some ((0 + (k : Int)) % 8)) : Str))).map V.str := by rw [List.map_map]; rfl
        refine q D2 _ _ (none_of sm1 hD2) (sm1.trans (Same.new hD2)) (by rw [e]; exact upd_same) (by rw [List.length_map, List.length_range])
    · have sl0 := Txt.slice_le z none (some (1 + i / 4 % 6 - 1))
      walk_at "go"
      refine ixS_of (by omega) (ix_bc _ (by decide) (by decide)) ?_
      walk_at "go"
      rename_i rest2 hrest2
      have hb : (⟨#[bc (i / 36 % 26)]⟩ ++ Txt.slice z none (some (1 + i / 4 % 6 - 1)) : Str).length ≤ 8 := by rw [len_app, len_one]; omega
      generalize (⟨#[bc (i / 36 % 26)]⟩ ++ Txt.slice z none (some (1 + i / 4 % 6 - 1)) : Str) = bs at hb ⊢
      generalize i / 24 % (1 + i / 4 % 6) = at' at hrest2 ⊢
      subst hrest2
      walk_at "go"
      intro p hp
      walk_at "go"
      refine forR_by (fun k σ H' => ∃ (ys : List Str) (v8 v9 : Option V), σ = [some (V.int i), some (V.int m), some (V.str (Str.ofString "abcdefghijklmnopqrstuvwxyz0123456789")), some (V.str z), some (V.int (1 + i / 4 % 6)), some (V.int at'), some (V.str bs), some (V.ref p), v8, v9] ∧ H' = upd H1 p (.lst (ys.map V.str)) ∧ ys.length = k) ⟨[], none, none, rfl, rfl, rfl⟩ ?_ ?_
      · rintro k σ H' hk ⟨ys, v8, v9, rfl, rfl, hys⟩
        walk_at "go"
        refine ixS_of (by omega) (ix_bc _ (by decide) (by decide)) ?_
        have s1 := Txt.slice_le bs none (some at')
        have s2 := Txt.slice_le bs (some (at' + 1)) none
        have s3 := Txt.slice_le (Str.ofString "zz") none (some ((ys.length : Int) / 26))
        have zz := zz_len
        walk_at "go"
        refine ⟨.inl ⟨rfl, _, SqL.of upd_same⟩, by omega, by rw [len_one]; omega, by omega, by rw [len_app, len_one]; omega, cdiv_of (by decide) (by decide), by omega, by rw [len_app, len_app, len_one]; omega, p, _, _, rfl, rfl, upd_same, by rw [List.length_map]; omega, ?_⟩
        walk_at "go"
        refine ⟨ys ++ [Txt.slice bs none (some at') ++ ⟨#[bc ((i / 1296 + (ys.length : Int)) % 26)]⟩ ++ Txt.slice bs (some (at' + 1)) none ++ Txt.slice (Str.ofString "zz") none (some ((ys.length : Int) / 26))], ?_, by simp⟩
        rw [List.map_append]; rfl
      · rintro σ H' ⟨ys, v8, v9, rfl, rfl, hys⟩
        walk_at "go"
        exact q p ys _ (none_of sm1 hp) (sm1.trans (Same.new hp)) upd_same (by omega)
theorem ok_l_rows {f : Addr} {fd : FuncData} (F : Fun K "_law_rows" "_law_rows" s_l_rows f fd) (T : Txt K mg ) (D_l_cell : Def P w K mg base CX0 1 "_law_cell" ["_law_script", "_law_k"] (sp_cell K)) (D_l_names : Def P w K mg base CX0 1 "_law_names" ["_law_cell_here", "_law_many"] (sp53_names)) (D_l_stream : Def P w K mg base CX0 1 "_law_stream" ["_law_cell_here", "_law_many"] (sp55_stream)) : FnOk P w K mg base CX0 2 f fd ["_law_script"] (sp55_rows K) := by
  have sc : FnScope ["_law_script", "_law_cell_here", "_law_many", "_law_names_here", "_law_wide", "_law_xs"] ["_law_script"] (defScope s_l_rows) := ⟨rfl, rfl, rfl, by decide +kernel, rfl, by decide +kernel, by decide +kernel⟩
  refine F.ok sc (fun vs H Q E h => ?_) (fun cdv A outer s H vs Q E hr h => ?_)
  · obtain ⟨a, ns, rfl, hS, hl, q⟩ := h; rfl
  obtain ⟨a, ns, rfl, hS, hl, q⟩ := h
  refine ⟨_, (pss_cons (ps_set (i := 1) sc.nd rfl (Or.inl rfl) (pe_callD D_l_cell hr rfl pass0 (pa_cons (pv 0) (pa_cons pe_int pa_nil))))
    (pss_cons (ps_set (i := 2) sc.nd rfl (Or.inr rfl) (pe_op op_add pe_int (pe_op op_mod (pv 1) pe_int)))
    (pss_cons (ps_if (pt_cmpR op_eq (pe_op op_mod (pe_op op_fdiv (pv 1) pe_int) pe_int) pe_int (nomark _))
      (@pss_one _ _ _ (ps_set (i := 2) sc.nd rfl (Or.inr rfl) (pe_op op_add pe_int (pe_op op_mod (pe_op op_fdiv (pv 1) pe_int) pe_int))))
      pss_nil)
    (pss_cons (ps_set (i := 3) sc.nd rfl (Or.inr rfl) (pe_callD D_l_names hr rfl pass0 (pa_cons (pe_callD D_l_cell hr rfl pass0 (pa_cons (pv 0) (pa_cons pe_int pa_nil))) (pa_cons (pv 2) pa_nil))))
    (pss_cons (ps_set (i := 4) sc.nd rfl (Or.inr rfl) (@pe_ix _ _ _ _ _ _ _ ix_list (@pe_lst _ _ _ _ (pa_cons pe_int (pa_cons pe_int (pa_cons pe_int pa_nil)))) (pe_op op_mod (pe_callD D_l_cell hr rfl pass0 (pa_cons (pv 0) (pa_cons pe_int pa_nil))) pe_int) (fun _ _ => rfl)))
    (pss_cons (ps_set (i := 5) sc.nd rfl (Or.inr rfl) (pe_callD D_l_stream hr rfl pass0 (pa_cons (pe_callD D_l_cell hr rfl pass0 (pa_cons (pv 0) (pa_cons pe_int pa_nil))) (pa_cons (pe_op op_mul pe_int (pv 2)) pa_nil))))
    (@pss_one _ _ _ (@ps_ret _ _ _ _ (pe_comp1 "_law_k" [3, 5, 4, 2] rfl rfl (pi_range1 rfl T.z_range (pa_cons (pv 2) pa_nil)) (fun b => (pe_tup (pa_cons (@pe_ix _ _ _ _ _ _ _ ix_list (pv 1) (pv 0) (fun _ _ => rfl)) (pa_cons (pe_op op_mod (@pe_ix _ _ _ _ _ _ _ ix_list (pv 2) (pv 0) (fun _ _ => rfl)) pe_int) (pa_cons (pe_op op_add pe_int (pe_op op_mod (@pe_ix _ _ _ _ _ _ _ ix_list (pv 2) (pe_op op_add (pv 4) (pv 0)) (fun _ _ => rfl)) (pv 3))) pa_nil)))))))))))))), ?_⟩
  rw [show start ["_law_script", "_law_cell_here", "_law_many", "_law_names_here", "_law_wide", "_law_xs"] [V.ref a] = [some (V.ref a), none, none, none, none, none] from rfl]
  have line := line_val
  walk_at "go"
  rename_i rest hrest
  have key : ∀ n : Nat, 1 ≤ n → n ≤ 60 → rest [some (V.ref a), some (V.int (ns.getD 0 0)), some (V.int n), none, none, none] H := by
    intro n hn1 hn2
    subst hrest
    walk_at "go"
    refine ⟨n, rfl, hn2, fun p ys H1 hp sm1 hp1 hys => ?_⟩
    have hS1 := sm1.seq hS
    walk_at "go"
    intro p1 hq1
    refine ⟨ns, (Same.new hq1).seq hS1, by decide, hl, by decide, ?_⟩
    obtain ⟨v, hv, hM⟩ := atI_in (xs := [V.int 1, V.int 4, V.int 1000]) (i := ns.getD 2 0 % 3) (by omega) (by simp; omega)
    refine ixL_of (SqL.of upd_same) hv ?_
    obtain ⟨mo, rfl, hmo1, hmo2⟩ : ∃ mo : Int, v = V.int mo ∧ 1 ≤ mo ∧ mo ≤ 1000 := by
      simp only [List.mem_cons, List.not_mem_nil, or_false] at hM
      rcases hM with rfl | rfl | rfl
      · exact ⟨1, rfl, by decide, by decide⟩
      · exact ⟨4, rfl, by decide, by decide⟩
      · exact ⟨1000, rfl, by decide, by decide⟩
    have smp := sm1.trans (Same.new (o := .lst [V.int 1, V.int 4, V.int 1000]) hq1)
    have hp2 := Same.new (o := .lst [V.int 1, V.int 4, V.int 1000]) hq1 _ _ hp1
    generalize upd H1 p1 (.lst [V.int 1, V.int 4, V.int 1000]) = H2 at smp hp2 ⊢
    have hS2 := smp.seq hS
    clear hS1 hp1 hp hv hM sm1 hq1
    walk_at "go"
    refine ⟨2 * ys.length, by omega, by omega, fun p2 is H3 hp2n sm3 hp3 hi1 hi2 => ?_⟩
    have smq := smp.trans sm3
    have hp4 := sm3 _ _ hp2
    clear hS2 sm3 smp hp2 hp2n
    have hg : ∀ j : Nat, j < is.length → atI (is.map V.int) (j : Int) = some (V.int (is.getD j 0)) := fun j hj => by
      refine atI_nat ?_
      rw [List.getElem?_map, List.getD_eq_getElem?_getD, List.getElem?_eq_getElem hj]; rfl
    have hy : ∀ j : Nat, j < ys.length → atI (ys.map V.str) (j : Int) = some (V.str (ys.getD j Str.empty)) := fun j hj => by
      refine atI_nat ?_
      rw [List.getElem?_map, List.getD_eq_getElem?_getD, List.getElem?_eq_getElem hj]; rfl
    walk_at "go"
    refine compR_mk (fun i y H' => ∃ (t : Addr) (z : Str) (c r : Int), y = V.ref t ∧ H' t = some (.tup [.str z, .int c, .int r]) ∧ 1 ≤ r ∧ r ≤ 1000) (fun i y G G' l zs h hl2 sb => ?_) (by omega) (fun b i G Q' hi sm q' => ?_) fun D zs H' hD sm hD2 hzl hall => ?_
    · obtain ⟨t, z, c, r, e, h1, h2⟩ := h
      exact ⟨t, z, c, r, e, sb _ _ h1 (ne_of h1 hl2 (by intro z; cases z)), h2⟩
    · rw [Int.zero_add]
      have g1 := sm _ _ hp4
      have g2 := sm _ _ hp3
      have hmo3 := Int.emod_nonneg (is.getD (ys.length + i) 0) (show mo ≠ 0 by omega)
      have hmo4 := Int.emod_lt_of_pos (is.getD (ys.length + i) 0) (show 0 < mo by omega)
      walk_at "go"
      refine ixL_of (SqL.of g1) (hy i hi) (ixL_of (SqL.of g2) (hg i (by omega)) ⟨_, rfl, by decide, ?_⟩)
      rw [show ((ys.length : Int) + (i : Int)) = ((ys.length + i : Nat) : Int) by omega]
      exact ixL_of (SqL.of g2) (hg (ys.length + i) (by omega)) ⟨_, rfl, by omega, by omega, fun t ht => q' _ _ (Same.new ht) ⟨t, _, _, _, rfl, upd_same, by omega, by omega⟩⟩
    · obtain ⟨rs, e1, e2, e3⟩ := rows_of hall
      subst e1
      rw [List.length_map] at hzl
      exact q D rs H' (none_of smq hD) (smq.trans sm) ⟨hD2, e2, e3, by omega, by omega⟩
  clear hrest
  split
  · walk_at "go"
    have h8 : ((20 + ns.getD 0 0 / 72 % 41).toNat : Int) = 20 + ns.getD 0 0 / 72 % 41 := by omega
    have := key (20 + ns.getD 0 0 / 72 % 41).toNat (by omega) (by omega)
    rw [h8] at this
    exact this
  · have h8 : ((1 + ns.getD 0 0 % 8).toNat : Int) = 1 + ns.getD 0 0 % 8 := by omega
    have := key (1 + ns.getD 0 0 % 8).toNat (by omega) (by omega)
    rw [h8] at this
    exact this
theorem ok_l_places {f : Addr} {fd : FuncData} (F : Fun K "_law_places" "_law_places" s_l_places f fd) (T : Txt K mg )  : FnOk P w K mg base CX0 1 f fd ["_law_rows_here", "_law_cell_here"] (sp55_places) := by
  have sc : FnScope ["_law_rows_here", "_law_cell_here", "_law_rooms_here"] ["_law_rows_here", "_law_cell_here"] (defScope s_l_places) := ⟨rfl, rfl, rfl, by decide +kernel, rfl, by decide +kernel, by decide +kernel⟩
  refine F.ok sc (fun vs H Q E h => ?_) (fun cdv A outer s H vs Q E hr h => ?_)
  · obtain ⟨p, rs, c, rfl, hR, q⟩ := h; rfl
  obtain ⟨p, rs, c, rfl, hR, q⟩ := h
  refine ⟨_, (pss_cons (ps_comp1 (i := 2) "_law_row" [] sc.nd rfl rfl rfl rfl (pi_list (pv 0)) (fun b => (@pe_ix _ _ _ _ _ _ _ ix_tup (pv 0) pe_int (fun _ _ => rfl))))
    (pss_cons (ps_if (pt_cmpR op_eq (pe_op op_mod (pe_op op_fdiv (pv 1) pe_int) pe_int) pe_int (nomark _))
      (@pss_one _ _ _ (@ps_ret _ _ _ _ (pe_op op_pow pe_int pe_int)))
      pss_nil)
    (@pss_one _ _ _ (@ps_ret _ _ _ _ (pe_op op_add (pe_callB (call_maxL rfl) rfl T.z_max (by first | rfl | decide +kernel) (pa_cons (pv 2) pa_nil)) (pe_op op_mod (pv 1) (pe_callB (call_sumL rfl) rfl T.z_sum (by first | rfl | decide +kernel) (pa_cons (pv 2) pa_nil)))))))), ?_⟩
  rw [show start ["_law_rows_here", "_law_cell_here", "_law_rooms_here"] [V.ref p, V.int c] = [some (V.ref p), some (V.int c), none] from rfl]
  have line := line_val
  have hm := hR.m
  have hn := hR.n
  have hsum := sum_small rs hR.r
  walk_at "go"
  refine ⟨⟨_, SqL.of hR.l⟩, compL_ix (f := fun i => V.int (rs.getD i rw0).2.2.2) (SqL.of hR.l) (by rw [List.length_map]; omega) ?_ ?_⟩
  · intro b i x H5 Q' hx sm q'
    have hi : i < rs.length := by
      have := (List.getElem?_eq_some_iff.mp hx).1
      rw [List.length_map] at this; exact this
    obtain ⟨g1, g2⟩ := rs_at hi
    rw [g2] at hx
    cases hx
    have g3 := sm _ _ (hR.t _ g1)
    walk_at "go"
    exact ixT_of (SqT.of g3) rfl q'
  · intro D hD
    rw [rooms_list]
    have sm1 : Same H (upd H D (.lst ((rs.map fun r => r.2.2.2).map V.int))) := Same.new hD
    have hD1 : upd H D (.lst ((rs.map fun r => r.2.2.2).map V.int)) D = some (.lst ((rs.map fun r => r.2.2.2).map V.int)) := upd_same
    generalize upd H D (.lst ((rs.map fun r => r.2.2.2).map V.int)) = H1 at sm1 hD1 ⊢
    walk_at "go"
    split
    · walk_at "go"
      exact q _ H1 (by decide) (by decide) (fun r hr => by have := (hR.r r hr).2; omega) sm1
    · walk_at "go"
      refine ⟨_, SqL.of hD1, fun e => by rw [List.map_eq_nil_iff] at e; rw [e] at hn; simp at hn, fun v hv hmax => ⟨_, SqL.of hD1, by omega, ?_⟩⟩
      have h1 := Int.emod_nonneg c (show (rs.map fun r => r.2.2.2).sum ≠ 0 by omega)
      have h2 := Int.emod_lt_of_pos c (show 0 < (rs.map fun r => r.2.2.2).sum by omega)
      obtain ⟨r, hr, rfl⟩ := List.mem_map.mp hv
      have h3 := hR.r r hr
      exact q _ H1 (by omega) (by omega) (fun r' hr' => by have := hmax _ (List.mem_map.mpr ⟨r', hr', rfl⟩); omega) sm1
theorem ok_l_asks {f : Addr} {fd : FuncData} (F : Fun K "_law_asks" "_law_asks" s_l_asks f fd) (T : Txt K mg ) (D_l_cell : Def P w K mg base CX0 1 "_law_cell" ["_law_script", "_law_k"] (sp_cell K)) (D_l_stream : Def P w K mg base CX0 1 "_law_stream" ["_law_cell_here", "_law_many"] (sp55_stream)) : FnOk P w K mg base CX0 2 f fd ["_law_script", "_law_rows_here"] (sp55_asks K) := by
  have sc : FnScope ["_law_script", "_law_rows_here", "_law_most", "_law_picks"] ["_law_script", "_law_rows_here"] (defScope s_l_asks) := ⟨rfl, rfl, rfl, by decide +kernel, rfl, by decide +kernel, by decide +kernel⟩
  refine F.ok sc (fun vs H Q E h => ?_) (fun cdv A outer s H vs Q E hr h => ?_)
  · obtain ⟨a, p, ns, rs, rfl, hS, hl, hR, q⟩ := h; rfl
  obtain ⟨a, p, ns, rs, rfl, hS, hl, hR, q⟩ := h
  refine ⟨_, (pss_cons (ps_set (i := 2) sc.nd rfl (Or.inl rfl) pe_int)
    (pss_cons (ps_if (pt_cmpR op_eq (pe_op op_mod (pe_callD D_l_cell hr rfl pass0 (pa_cons (pv 0) (pa_cons pe_int pa_nil))) pe_int) pe_int (nomark _))
      (@pss_one _ _ _ (ps_set (i := 2) sc.nd rfl (Or.inl rfl) pe_int))
      pss_nil)
    (pss_cons (ps_set (i := 3) sc.nd rfl (Or.inl rfl) (pe_op op_cat (pe_slice sl_list (pv 0) (po_some pe_int) (po_some pe_int)) (pe_callD D_l_stream hr rfl pass0 (pa_cons (pe_callD D_l_cell hr rfl pass0 (pa_cons (pv 0) (pa_cons pe_int pa_nil))) (pa_cons (pe_op op_mod (pe_callD D_l_cell hr rfl pass0 (pa_cons (pv 0) (pa_cons pe_int pa_nil))) (pv 2)) pa_nil)))))
    (@pss_one _ _ _ (@ps_ret _ _ _ _ (pe_comp1 "_law_pick_here" [1] rfl rfl (pi_list (pv 3)) (fun b => (@pe_ix _ _ _ _ _ _ _ ix_tup (@pe_ix _ _ _ _ _ _ _ ix_list (pv 1) (pe_op op_mod (pv 0) (pe_callB call_len_seq rfl T.z_len PySem.boot_len (pa_cons (pv 1) pa_nil))) (fun _ _ => rfl)) pe_int (fun _ _ => rfl))))))))), ?_⟩
  rw [show start ["_law_script", "_law_rows_here", "_law_most", "_law_picks"] [V.ref a, V.ref p] = [some (V.ref a), some (V.ref p), none, none] from rfl]
  have line := line_val
  have hm := hR.m
  have hn := hR.n
  walk_at "go"
  rename_i rest hrest
  have key : ∀ L : Nat, 1 ≤ L → L ≤ 139 → rest [some (V.ref a), some (V.ref p), some (V.int L), none] H := by
    intro L hL1 hL2
    subst hrest
    have hL3 := Int.emod_nonneg (ns.getD 5 0) (show (L : Int) ≠ 0 by omega)
    have hL4 := Int.emod_lt_of_pos (ns.getD 5 0) (show (0 : Int) < L by omega)
    walk_at "go"
    obtain ⟨cs, hcs, hcl⟩ := cut_any ns (some 8) (some 68)
    refine ⟨_, hS, fun p1 hq1 => ?_⟩
    rw [hcs]
    have sm2 : Same H (upd H p1 (.lst (cs.map V.int))) := Same.new hq1
    refine ⟨ns, sm2.seq hS, by decide, hl, ns, sm2.seq hS, by decide, hl, by omega, (ns.getD 5 0 % L).toNat, by omega, by omega, fun p2 is H3 hp2 sm3 hp3 his _ => ?_⟩
    refine ⟨p1, p2, _, _, rfl, rfl, sm3 _ _ upd_same, hp3, by rw [List.length_map, List.length_map]; omega, fun p4 hp4 => ?_⟩
    have sm5 := (sm2.trans sm3).trans (Same.new (o := .lst (cs.map V.int ++ is.map V.int)) hp4)
    have hc : upd H3 p4 (.lst (cs.map V.int ++ is.map V.int)) p4 = some (.lst ((cs ++ is).map V.int)) := by rw [upd_same, List.map_append]
    have hw : (cs ++ is).length ≤ 201 := by rw [List.length_append]; omega
    generalize upd H3 p4 (.lst (cs.map V.int ++ is.map V.int)) = H4 at sm5 hc ⊢
    generalize cs ++ is = ws at hc hw
    have hR4 := hR.same sm5
    clear hp3 hp4 hcs sm2 sm3 hp2 his
    walk_at "go"
    refine ⟨⟨_, SqL.of hc⟩, compL_pure (xs := ws.map V.int) (f := fun x => match x with | .int i => V.str (rs.getD (i % rs.length).toNat rw0).2.1 | v => v) (SqL.of hc) (by rw [List.length_map]; omega) ?_ ?_⟩
    · intro b x H5 Q' hx sm q'
      obtain ⟨i, _, rfl⟩ := List.mem_map.mp hx
      have hR5 := hR4.same sm
      have h1 := Int.emod_nonneg i (show (rs.length : Int) ≠ 0 by omega)
      have h2 := Int.emod_lt_of_pos i (show (0 : Int) < rs.length by omega)
      obtain ⟨g1, g2⟩ := rs_at (rs := rs) (i := (i % rs.length).toNat) (by omega)
      walk_at "go"
      refine ⟨_, .inl (SqL.of hR5.l), by rw [List.length_map]; omega, ?_⟩
      rw [List.length_map]
      exact ixL_of (SqL.of hR5.l) (atI_of h1 g2) (ixT_of (SqT.of (hR5.t _ g1)) rfl q')
    · intro D hD
      refine q D (ws.map fun (i : Int) => (rs.getD (i % rs.length).toNat rw0).2.1) _ (none_of sm5 hD) (sm5.trans (Same.new hD)) ?_ (by rw [List.length_map]; omega) fun y hy => ?_
      · rw [upd_same, List.map_map, List.map_map]
        rfl
      · obtain ⟨i, _, rfl⟩ := List.mem_map.mp hy
        have h1 := Int.emod_nonneg i (show (rs.length : Int) ≠ 0 by omega)
        have h2 := Int.emod_lt_of_pos i (show (0 : Int) < rs.length by omega)
        exact List.mem_map.mpr ⟨_, (rs_at (rs := rs) (i := (i % rs.length).toNat) (by omega)).1, rfl⟩
  clear hrest
  split
  · exact key 139 (by decide) (by decide)
  · exact key 30 (by decide) (by decide)
theorem ok_l_rooms {f : Addr} {fd : FuncData} (F : Fun K "_law_rooms" "_law_rooms" s_l_rooms f fd) (T : Txt K mg )  : FnOk P w K mg base CX0 1 f fd ["_law_rows_here"] (sp55_rooms) := by
  have sc : FnScope ["_law_rows_here", "_law_rooms_here", "_law_name", "_law_cost", "_law_room"] ["_law_rows_here"] (defScope s_l_rooms) := ⟨rfl, rfl, rfl, by decide +kernel, rfl, by decide +kernel, by decide +kernel⟩
  refine F.ok sc (fun vs H Q E h => ?_) (fun cdv A outer s H vs Q E hr h => ?_)
  · obtain ⟨p, rs, rfl, hR, q⟩ := h; rfl
  obtain ⟨p, rs, rfl, hR, q⟩ := h
  refine ⟨_, (pss_cons (ps_set (i := 1) sc.nd rfl (Or.inl rfl) pe_dnewK)
    (pss_cons (ps_for PassesOwn.never rfl (pi_list (pv 0)) (pg_tup rfl (pgs_cons (pg_name (i := 2) sc.nd rfl (Or.inl rfl)) (pgs_cons (pg_name (i := 3) sc.nd rfl (Or.inl rfl)) (pgs_cons (pg_name (i := 4) sc.nd rfl (Or.inl rfl)) pgs_nil))))
      (@pss_one _ _ _ (ps_dput (hu_of hr) (pv 1) (pv 2) (pv 4) rfl)))
    (@pss_one _ _ _ (@ps_ret _ _ _ _ (pv 1))))), ?_⟩
  rw [show start ["_law_rows_here", "_law_rooms_here", "_law_name", "_law_cost", "_law_room"] [V.ref p] = [some (V.ref p), none, none, none, none] from rfl]
  have line := line_val
  walk_at "go"
  intro d hd
  walk_at "go"
  have hm := hR.m
  have sm0 : Same H (upd H d (.dK [])) := Same.new hd
  have hd0 : upd H d (.dK []) d = some (.dK []) := upd_same
  generalize upd H d (.dK []) = H0 at sm0 hd0 ⊢
  refine ⟨⟨_, SqL.of (sm0 _ _ hR.l)⟩, ?_⟩
  rename_i rest hrest
  refine forL_by (xs := rs.map fun t => V.ref t.1) (fun i σ H' => ∃ (kvs : List (Key × V)) (v2 v3 v4 : Option V), σ = [some (V.ref p), some (V.ref d), v2, v3, v4] ∧ Same H H' ∧ H' d = some (.dK kvs) ∧ kvs.length ≤ i ∧ ∀ r ∈ rs.take i, ∃ r' ∈ rs, valV kvs (Sum.inr r.2.1) = some (.int r'.2.2.2))
    ⟨[], none, none, none, rfl, sm0, hd0, Nat.le_refl _, fun r hr => by simp at hr⟩ (fun i σ H' _ h_ => by obtain ⟨kvs, v2, v3, v4, _, sm, _⟩ := h_; exact SqL.of (sm _ _ hR.l)) ?_ ?_
  · rintro i x σ H' hx ⟨kvs, v2, v3, v4, rfl, sm, hd1, hk, hv⟩
    have hi : i < rs.length := by
      have := (List.getElem?_eq_some_iff.mp hx).1
      rw [List.length_map] at this; exact this
    obtain ⟨g1, g2⟩ := rs_at hi
    rw [g2] at hx
    cases hx
    have g3 := sm _ _ (hR.t _ g1)
    have g4 : rs.take (i + 1) = rs.take i ++ [rs.getD i rw0] := by
      rw [List.take_add_one, List.getD_eq_getElem?_getD, List.getElem?_eq_getElem hi]; rfl
    rw [g4]
    clear g4 g2
    generalize rs.getD i rw0 = r at g1 g3 ⊢
    walk_at "go"
    refine ⟨_, SqT.of g3, rfl, ?_⟩
    walk_at "go"
    refine ⟨_, DPut.k (k := Sum.inr r.2.1) hd1 (by omega), same_upd sm hd, _, upd_same, ?_, fun r1 hr1 => ?_⟩
    · have := length_putK kvs (Sum.inr r.2.1 : Key) (V.int r.2.2.2); omega
    · rw [valV_put]
      by_cases e : r1.2.1 = r.2.1
      · rw [if_pos (by rw [e])]
        exact ⟨r, g1, rfl⟩
      · rw [if_neg (fun h => e (by injection h))]
        rcases List.mem_append.mp hr1 with h | h
        · exact hv r1 h
        · exact absurd (by rw [List.mem_singleton.mp h]) e
  · rintro σ H' ⟨kvs, v2, v3, v4, rfl, sm, hd1, hk, hv⟩
    rw [List.length_map] at hk hv
    rw [List.take_length] at hv
    walk_at "go"
    refine q d (fun z => match valV kvs (Sum.inr z) with | some (.int i) => i | _ => 0) _ hd sm ⟨kvs, hd1, by omega, fun z hz => ?_⟩ fun z hz => ?_
    · obtain ⟨r, hr, rfl⟩ := List.mem_map.mp hz
      obtain ⟨r', _, e⟩ := hv r hr
      simp only [e]
    · obtain ⟨r, hr, rfl⟩ := List.mem_map.mp hz
      obtain ⟨r', h', e⟩ := hv r hr
      exact ⟨r', h', by simp only [e]⟩
theorem ok_l_pick {f : Addr} {fd : FuncData} (F : Fun K "_law_pick" "_law_pick" s_l_pick f fd) (T : Txt K mg )  : FnOk P w K mg base CX0 1 f fd ["_law_rest", "_law_weights", "_law_number"] (sp55_pick K) := by
  have sc : FnScope ["_law_rest", "_law_weights", "_law_number", "_law_pick_here", "_law_name"] ["_law_rest", "_law_weights", "_law_number"] (defScope s_l_pick) := ⟨rfl, rfl, rfl, by decide +kernel, rfl, by decide +kernel, by decide +kernel⟩
  refine F.ok sc (fun vs H Q E h => ?_) (fun cdv A outer s H vs Q E hr h => ?_)
  · obtain ⟨a, w2, zs, kvs, nn, rfl, hS, hz1, hz2, hw, hk, q⟩ := h; rfl
  obtain ⟨a, w2, zs, kvs, nn, rfl, hS, hz1, hz2, hw, hk, q⟩ := h
  refine ⟨_, (pss_cons (ps_if (pt_cmpR (op_eqD hr) (pv 1) pe_dnewK (nomark _))
      (@pss_one _ _ _ (@ps_ret _ _ _ _ (@pe_ix _ _ _ _ _ _ _ ix_list (pv 0) (pe_op op_mod (pv 2) (pe_callB call_len_seq rfl T.z_len PySem.boot_len (pa_cons (pv 0) pa_nil))) (fun _ _ => rfl))))
      pss_nil)
    (pss_cons (ps_set (i := 3) sc.nd rfl (Or.inl rfl) (@pe_ix _ _ _ _ _ _ _ ix_list (pv 0) pe_int (fun _ _ => rfl)))
    (pss_cons (ps_for PassesOwn.never rfl (pi_list (pv 0)) (pg_name (i := 4) sc.nd rfl (Or.inl rfl))
      (@pss_one _ _ _ (ps_if (pt_cmpR op_gt (pe_dget (hu_of hr) (pv 1) (pv 4) (fun _ _ => rfl)) (pe_dget (hu_of hr) (pv 1) (pv 3) (fun _ _ => rfl)) (nomark _))
        (@pss_one _ _ _ (ps_set (i := 3) sc.nd rfl (Or.inl rfl) (pv 4)))
        pss_nil)))
    (@pss_one _ _ _ (@ps_ret _ _ _ _ (pv 3)))))), ?_⟩
  rw [show start ["_law_rest", "_law_weights", "_law_number", "_law_pick_here", "_law_name"] [V.ref a, V.ref w2, V.int nn] = [some (V.ref a), some (V.ref w2), some (V.int nn), none, none] from rfl]
  have line := line_val
  walk_at "go"
  intro p hp
  have sm0 : Same H (upd H p (.dK [])) := Same.new hp
  have hw0 := sm0 _ _ hw
  refine ⟨kvs, hw0, upd_same, ?_⟩
  have hS0 := sm0.seq hS
  generalize upd H p (.dK []) = H0 at sm0 hw0 hS0 ⊢
  have hg : ∀ j : Nat, j < zs.length → zs.getD j Str.empty ∈ zs ∧ (zs.map V.str)[j]? = some (V.str (zs.getD j Str.empty)) := fun j hj => by
    rw [List.getElem?_map, List.getD_eq_getElem?_getD, List.getElem?_eq_getElem hj]
    exact ⟨List.getElem_mem hj, rfl⟩
  split
  · rename_i h0
    refine ⟨_, .inl hS0, by rw [List.length_map]; omega, ?_⟩
    rw [List.length_map]
    have h1 := Int.emod_nonneg nn (show (zs.length : Int) ≠ 0 by omega)
    have h2 := Int.emod_lt_of_pos nn (show (0 : Int) < zs.length by omega)
    obtain ⟨g1, g2⟩ := hg (nn % zs.length).toNat (by omega)
    exact ixL_of hS0 (atI_of h1 g2) (q _ g1 _ sm0)
  · rename_i h0
    have hk2 := hk.resolve_left h0
    walk_at "go"
    obtain ⟨g1, g2⟩ := hg 0 (by omega)
    refine ixL_of hS0 (atI_nat g2) ?_
    walk_at "go"
    refine ⟨⟨_, hS0⟩, ?_⟩
    rename_i rest hrest
    refine forL_by (xs := zs.map V.str) (fun i σ H' => ∃ (y : Str) (v4 : Option V), σ = [some (V.ref a), some (V.ref w2), some (V.int nn), some (V.str y), v4] ∧ y ∈ zs ∧ Same H H') ⟨_, none, rfl, g1, sm0⟩ (fun i σ H' _ h_ => by obtain ⟨y, v4, _, _, sm⟩ := h_; exact sm.seq hS) ?_ ?_
    · rintro i x σ H' hx ⟨y, v4, rfl, hy, sm⟩
      have hi : i < zs.length := by
        have := (List.getElem?_eq_some_iff.mp hx).1
        rw [List.length_map] at this; exact this
      obtain ⟨f1, f2⟩ := hg i hi
      rw [f2] at hx
      cases hx
      generalize zs.getD i Str.empty = x at f1 ⊢
      have hw1 := sm _ _ hw
      obtain ⟨i1, e1⟩ := hk2 x f1
      obtain ⟨i2, e2⟩ := hk2 y hy
      walk_at "go"
      refine ⟨V.int i1, by rw [← e1]; exact DGet.k (k := Sum.inr x) hw1, V.int i2, by rw [← e2]; exact DGet.k (k := Sum.inr y) hw1, _, rfl, _, rfl, ?_⟩
      split
      · exact ⟨f1, sm⟩
      · exact ⟨hy, sm⟩
    · rintro σ H' ⟨y, v4, rfl, hy, sm⟩
      walk_at "go"
      exact q y hy _ sm
theorem ok_l_gone {f : Addr} {fd : FuncData} (F : Fun K "_law_gone" "_law_gone" s_l_gone f fd) (T : Txt K mg ) (D_l_pick : Def P w K mg base CX0 1 "_law_pick" ["_law_rest", "_law_weights", "_law_number"] (sp55_pick K)) : FnOk P w K mg base CX0 2 f fd ["_law_lying", "_law_name", "_law_rooms_here", "_law_left", "_law_weights", "_law_number"] (sp55_gone K) := by
  have sc : FnScope ["_law_lying", "_law_name", "_law_rooms_here", "_law_left", "_law_weights", "_law_number", "_law_went", "_law_rest", "_law_more", "_law_need", "_law_pick_here"] ["_law_lying", "_law_name", "_law_rooms_here", "_law_left", "_law_weights", "_law_number"] (defScope s_l_gone) := ⟨rfl, rfl, rfl, by decide +kernel, rfl, by decide +kernel, by decide +kernel⟩
  refine F.ok sc (fun vs H Q E h => ?_) (fun cdv A outer s H vs Q E hr h => ?_)
  · obtain ⟨a, d, w2, L, ys, z, R, f, nn, kvs, rfl, hL, nd, hL2, hLy, hz, hN, hR, hs, hf, hw, hk, q⟩ := h; rfl
  obtain ⟨a, d, w2, L, ys, z, R, f, nn, kvs, rfl, hL, nd, hL2, hLy, hz, hN, hR, hs, hf, hw, hk, q⟩ := h
  refine ⟨_, (pss_cons (ps_set (i := 6) sc.nd rfl (Or.inl rfl) (@pe_lst _ _ _ _ pa_nil))
    (pss_cons (ps_compI (i := 7) "_law_other" [1] sc.nd rfl rfl rfl rfl (pi_list (pv 0)) (fun b => (pt_cmpR op_ne (pv 0) (pv 1) (nomark _))) (fun b => (pv 0)))
    (pss_cons (ps_set (i := 8) sc.nd rfl (Or.inl rfl) pe_int)
    (pss_cons (ps_if (PW.pt (pw_and (pt_cmpR (op_eqD hr) (pv 4) pe_dnewK (nomark _)) (pw_and1 (pt_cmpR op_gt (pe_op op_mod (pv 5) pe_int) pe_int (nomark _)))))
      (@pss_one _ _ _ (ps_set (i := 8) sc.nd rfl (Or.inl rfl) pe_int))
      pss_nil)
    (pss_cons (ps_set (i := 9) sc.nd rfl (Or.inl rfl) (pe_dget (hu_of hr) (pv 2) (pv 1) (fun _ _ => rfl)))
    (pss_cons (ps_if (pt_cmpR op_in_seq (pv 1) (pv 0) (by with_unfolding_all rfl))
      (@pss_one _ _ _ (ps_set (i := 9) sc.nd rfl (Or.inl rfl) pe_int))
      pss_nil)
    (pss_cons (ps_while PassesOwn.never (PW.pt (pw_and (pt_cmpR (op_neQ hr) (pv 7) (@pe_lst _ _ _ _ pa_nil) (nomark _)) (pw_and1 (PW.pt (pw_or (pt_cmpR op_lt (pv 3) (pv 9) (nomark _)) (pw_or1 (pt_cmpR op_gt (pv 8) pe_int (nomark _))))))))
      (pss_cons (ps_set (i := 10) sc.nd rfl (Or.inl rfl) (pe_callD D_l_pick hr rfl pass0 (pa_cons (pv 7) (pa_cons (pv 4) (pa_cons (pe_op op_add (pv 5) (pe_callB call_len_seq rfl T.z_len PySem.boot_len (pa_cons (pv 6) pa_nil))) pa_nil)))))
      (pss_cons (ps_expr (pe_bm PySem.F.plainAttrs_list PySem.F.slot_list_remove PySem.F.type_list_remove mt_remove (pv 7) (pa_cons (pv 10) pa_nil)))
      (pss_cons (ps_expr (pe_bm PySem.F.plainAttrs_list PySem.F.slot_list_append PySem.F.type_list_append mt_append (pv 6) (pa_cons (pv 10) pa_nil)))
      (pss_cons (ps_set (i := 3) sc.nd rfl (Or.inl rfl) (pe_op op_add (pv 3) (pe_dget (hu_of hr) (pv 2) (pv 10) (fun _ _ => rfl))))
      (@pss_one _ _ _ (ps_set (i := 8) sc.nd rfl (Or.inl rfl) (pe_op op_sub (pv 8) pe_int))))))))
    (@pss_one _ _ _ (@ps_ret _ _ _ _ (pv 6)))))))))), ?_⟩
  rw [show start ["_law_lying", "_law_name", "_law_rooms_here", "_law_left", "_law_weights", "_law_number", "_law_went", "_law_rest", "_law_more", "_law_need", "_law_pick_here"] [V.ref a, V.str z, V.ref d, V.int (f - rsum R L), V.ref w2, V.int nn] = [some (V.ref a), some (V.str z), some (V.ref d), some (V.int (f - rsum R L)), some (V.ref w2), some (V.int nn), none, none, none, none, none] from rfl]
  have line := line_val
  walk_at "go"
  intro g hg
  have sm1 : Same H (upd H g (.lst [])) := Same.new hg
  have hL1 := sm1 _ _ hL
  have hg1 : upd H g (.lst []) g = some (.lst []) := upd_same
  have nga : g ≠ a := (ne_of_none hL hg).symm
  generalize upd H g (.lst []) = H1 at sm1 hL1 hg1 ⊢
  walk_at "go"
  refine ⟨⟨_, SqL.of hL1⟩, compL_if (xs := L.map V.str) (neS z) (fun v => v) (SqL.of hL1) (by rw [List.length_map]; omega) ?_ ?_ ?_⟩
  · intro b v H5 QT hx sm q'
    obtain ⟨x, _, rfl⟩ := List.mem_map.mp hx
    walk_at "go"
    have q2 := q' H5 (Same.refl _)
    have e : neS z (V.str x) = !decide (x = z) := by unfold neS; by_cases h : x = z <;> simp [h]
    rw [e] at q2
    exact q2
  · intro b v H5 Q' hx _ sm q'
    obtain ⟨x, _, rfl⟩ := List.mem_map.mp hx
    walk_at "go"
    exact q' H5 (Same.refl _)
  · intro D H2 hD sm2 hD2
    rw [filt_neS] at hD2
    have hL2' := sm2 _ _ hL1
    have hg2 := sm2 _ _ hg1
    have smH := sm1.trans sm2
    have hw2 := smH _ _ hw
    have hN2 := hN.same smH
    have hDH := none_of sm1 hD
    have ngD : g ≠ D := ne_of_none hg1 hD
    clear hL1 hg1 sm2 hD sm1
    walk_at "go"
    intro c hc
    have smc : Same H2 (upd H2 c (.dK [])) := Same.new hc
    refine ⟨kvs, smc _ _ hw2, upd_same, ?_⟩
    have hL3 := smc _ _ hL2'
    have hg3 := smc _ _ hg2
    have sm3 := smH.trans smc
    have hw3 := smc _ _ hw2
    have hN3 := hN2.same smc
    have hD3 := smc _ _ hD2
    generalize upd H2 c (.dK []) = H3 at smc hL3 hg3 sm3 hw3 hN3 hD3 ⊢
    clear hL2' hg2 smH hw2 hN2 hD2 smc hc
    rename_i rest hrest
    have key : ∀ mo : Int, rest [some (V.ref a), some (V.str z), some (V.ref d), some (V.int (f - rsum R L)), some (V.ref w2), some (V.int nn), some (V.ref g), some (V.ref D), some (V.int mo), none, none] H3 := by
      intro mo
      subst hrest
      obtain ⟨kr, n1, n2, n3⟩ := id hN3
      walk_at "go"
      refine ⟨V.int (R z), by rw [← n3 z hz]; exact DGet.k (k := Sum.inr z) n1, ?_⟩
      walk_at "go"
      refine inT_go (SqL.of hL3) ⟨_, rfl, ?_⟩
      rename_i rest2 hrest2
      have key2 : rest2 [some (V.ref a), some (V.str z), some (V.ref d), some (V.int (f - rsum R L)), some (V.ref w2), some (V.int nn), some (V.ref g), some (V.ref D), some (V.int mo), some (V.int (if z ∈ L then 0 else R z)), none] H3 := by
        subst hrest2
        walk_at "go"
        have hb : ∀ x ∈ L, 1 ≤ R x := fun x hx => (hR x (hLy x hx)).1
        have hz1 := hR z hz
        have h1 := rsum_lft (R := R) (z := z) nd
        have hzn : (if z ∈ L then R z else 0) + (if z ∈ L then 0 else R z) = R z := by split <;> omega
        have hzp : 0 ≤ (if z ∈ L then R z else 0) := by split <;> omega
        have hnp : (if z ∈ L then R z else 0) = 0 ∨ (if z ∈ L then (0 : Int) else R z) = 0 := by split <;> simp
        have hl0 : (lft L [] z).length ≤ 60 := Nat.le_trans (List.length_filter_le _ _) hL2
        generalize (if z ∈ L then R z else 0) = zr at h1 hzn hzp hnp ⊢
        generalize (if z ∈ L then (0 : Int) else R z) = need at hzn hnp ⊢
        refine while_d (m0 := (lft L [] z).length) (fun m σ H' => ∃ (ws : List Str) (mo : Int) (v10 : Option V), σ = [some (V.ref a), some (V.str z), some (V.ref d), some (V.int (f - rsum R (lft L ws z) - zr)), some (V.ref w2), some (V.int nn), some (V.ref g), some (V.ref D), some (V.int mo), some (V.int need), v10] ∧ Same H H' ∧ H' g = some (.lst (ws.map V.str)) ∧ H' D = some (.lst ((lft L ws z).map V.str)) ∧ m = (lft L ws z).length ∧ ws.length + (lft L ws z).length ≤ 60 ∧ rsum R (lft L ws z) + zr ≤ f)
          ⟨[], mo, none, by rw [h1]; congr 6; omega, sm3, hg3, hD3, rfl, by simpa using hl0, by omega⟩ ?_
        rintro m σ H' ⟨ws, mo, v10, rfl, sm, hgW, hDW, hm, hlen, hsum⟩
        walk_at "go"
        intro c hc
        have smc : Same H' (upd H' c (.lst [])) := Same.new hc
        have hD4 := smc _ _ hDW
        have hg4 := smc _ _ hgW
        have sm4 := sm.trans smc
        refine ⟨_, eqQ_strs (ys := []) (SqL.of hD4) (SqL.of upd_same), ?_⟩
        generalize upd H' c (.lst []) = H4 at smc hD4 hg4 sm4 ⊢
        clear smc hc hgW hDW sm hD3 hg3 sm3
        by_cases he : lft L ws z = []
        · rw [if_neg (by simp [he])]
          walk_at "go"
          refine q g ws _ hg sm4 hg4 (by omega) ?_
          rw [he]
          show (0 : Int) + R z ≤ f
          omega
        · rw [if_pos (by simp [he])]
          by_cases hc1 : f - rsum R (lft L ws z) - zr < need
          · rw [if_pos hc1]
            clear hc1
            refine ⟨fun σ' H'' => ∃ y ∈ lft L ws z, σ' = [some (V.ref a), some (V.str z), some (V.ref d), some (V.int (f - rsum R (lft L ws z) - zr + R y)), some (V.ref w2), some (V.int nn), some (V.ref g), some (V.ref D), some (V.int (mo - 1)), some (V.int need), some (V.str y)] ∧ Same H H'' ∧ H'' g = some (.lst ((ws ++ [y]).map V.str)) ∧ H'' D = some (.lst (((lft L ws z).erase y).map V.str)), ?_, ?_⟩
            · rintro σ' H'' ⟨y, hy, rfl, s1, s2, s3⟩
              rw [lft_erase nd] at s3
              have e1 : rsum R (lft L (ws ++ [y]) z) = rsum R (lft L ws z) - R y := by rw [← lft_erase nd, rsum_erase hy]
              have e2 : (lft L (ws ++ [y]) z).length + 1 = (lft L ws z).length := by rw [← lft_erase nd, List.length_erase_of_mem hy]; have := List.length_pos_of_mem hy; omega
              have e3 := hb y (lft_sub hy).1
              refine ⟨(lft L (ws ++ [y]) z).length, by omega, ws ++ [y], mo - 1, some (V.str y), ?_, s1, s2, s3, rfl, by rw [List.length_append, List.length_singleton]; omega, by omega⟩
              rw [e1]; congr 6; omega
            · have hpos : 1 ≤ (lft L ws z).length := by
                cases h : lft L ws z with
                | nil => exact absurd h he
                | cons _ _ => simp
              walk_at "go"
              refine ⟨_, .inl (SqL.of hg4), _, SqL.of hD4, hpos, by omega, kvs, sm4 _ _ hw, hk.imp id (fun h x hx => h x (lft_sub hx).1), fun y hy H5 sm5 => ?_⟩
              have hD5 := sm5 _ _ hD4
              have hg5 := sm5 _ _ hg4
              have smH := sm4.trans sm5
              clear hD4 hg4 sm4 sm5
              walk_at "go"
              refine ⟨.inl ⟨rfl, _, SqL.of hD5⟩, _, hD5, hy, ?_⟩
              have hg6 : upd H5 D (.lst (((lft L ws z).erase y).map V.str)) g = some (.lst (ws.map V.str)) := by rw [upd_ne ngD]; exact hg5
              have hD6 : upd H5 D (.lst (((lft L ws z).erase y).map V.str)) D = some (.lst (((lft L ws z).erase y).map V.str)) := upd_same
              have sm6 : Same H (upd H5 D (.lst (((lft L ws z).erase y).map V.str))) := same_upd smH hDH
              generalize upd H5 D (.lst (((lft L ws z).erase y).map V.str)) = H6 at hg6 hD6 sm6 ⊢
              clear hD5 hg5 smH
              walk_at "go"
              refine ⟨.inl ⟨rfl, _, SqL.of hg6⟩, g, _, _, rfl, rfl, hg6, by rw [List.length_map]; omega, ?_⟩
              have hg7 : upd H6 g (.lst (ws.map V.str ++ [V.str y])) g = some (.lst ((ws ++ [y]).map V.str)) := by rw [upd_same, List.map_append]; rfl
              have hD7 : upd H6 g (.lst (ws.map V.str ++ [V.str y])) D = some (.lst (((lft L ws z).erase y).map V.str)) := by rw [upd_ne ngD.symm]; exact hD6
              have sm7 : Same H (upd H6 g (.lst (ws.map V.str ++ [V.str y]))) := same_upd sm6 hg
              generalize upd H6 g (.lst (ws.map V.str ++ [V.str y])) = H7 at hg7 hD7 sm7 ⊢
              clear hD6 hg6 sm6
              obtain ⟨kr, n1, n2, n3⟩ := hN.same sm7
              walk_at "go"
              refine ⟨V.int (R y), by rw [← n3 y (hLy y (lft_sub hy).1)]; exact DGet.k (k := Sum.inr y) n1, _, rfl, ?_⟩
              walk_at "go"
              exact ⟨y, hy, rfl, rfl, sm7, hg7, hD7⟩
          · rw [if_neg hc1]
            by_cases hc2 : 0 < mo
            · rw [if_pos hc2]
              clear hc1 hc2
              refine ⟨fun σ' H'' => ∃ y ∈ lft L ws z, σ' = [some (V.ref a), some (V.str z), some (V.ref d), some (V.int (f - rsum R (lft L ws z) - zr + R y)), some (V.ref w2), some (V.int nn), some (V.ref g), some (V.ref D), some (V.int (mo - 1)), some (V.int need), some (V.str y)] ∧ Same H H'' ∧ H'' g = some (.lst ((ws ++ [y]).map V.str)) ∧ H'' D = some (.lst (((lft L ws z).erase y).map V.str)), ?_, ?_⟩
              · rintro σ' H'' ⟨y, hy, rfl, s1, s2, s3⟩
                rw [lft_erase nd] at s3
                have e1 : rsum R (lft L (ws ++ [y]) z) = rsum R (lft L ws z) - R y := by rw [← lft_erase nd, rsum_erase hy]
                have e2 : (lft L (ws ++ [y]) z).length + 1 = (lft L ws z).length := by rw [← lft_erase nd, List.length_erase_of_mem hy]; have := List.length_pos_of_mem hy; omega
                have e3 := hb y (lft_sub hy).1
                refine ⟨(lft L (ws ++ [y]) z).length, by omega, ws ++ [y], mo - 1, some (V.str y), ?_, s1, s2, s3, rfl, by rw [List.length_append, List.length_singleton]; omega, by omega⟩
                rw [e1]; congr 6; omega
              · have hpos : 1 ≤ (lft L ws z).length := by
                  cases h : lft L ws z with
                  | nil => exact absurd h he
                  | cons _ _ => simp
                walk_at "go"
                refine ⟨_, .inl (SqL.of hg4), _, SqL.of hD4, hpos, by omega, kvs, sm4 _ _ hw, hk.imp id (fun h x hx => h x (lft_sub hx).1), fun y hy H5 sm5 => ?_⟩
                have hD5 := sm5 _ _ hD4
                have hg5 := sm5 _ _ hg4
                have smH := sm4.trans sm5
                clear hD4 hg4 sm4 sm5
                walk_at "go"
                refine ⟨.inl ⟨rfl, _, SqL.of hD5⟩, _, hD5, hy, ?_⟩
                have hg6 : upd H5 D (.lst (((lft L ws z).erase y).map V.str)) g = some (.lst (ws.map V.str)) := by rw [upd_ne ngD]; exact hg5
                have hD6 : upd H5 D (.lst (((lft L ws z).erase y).map V.str)) D = some (.lst (((lft L ws z).erase y).map V.str)) := upd_same
                have sm6 : Same H (upd H5 D (.lst (((lft L ws z).erase y).map V.str))) := same_upd smH hDH
                generalize upd H5 D (.lst (((lft L ws z).erase y).map V.str)) = H6 at hg6 hD6 sm6 ⊢
                clear hD5 hg5 smH
                walk_at "go"
                refine ⟨.inl ⟨rfl, _, SqL.of hg6⟩, g, _, _, rfl, rfl, hg6, by rw [List.length_map]; omega, ?_⟩
                have hg7 : upd H6 g (.lst (ws.map V.str ++ [V.str y])) g = some (.lst ((ws ++ [y]).map V.str)) := by rw [upd_same, List.map_append]; rfl
                have hD7 : upd H6 g (.lst (ws.map V.str ++ [V.str y])) D = some (.lst (((lft L ws z).erase y).map V.str)) := by rw [upd_ne ngD.symm]; exact hD6
                have sm7 : Same H (upd H6 g (.lst (ws.map V.str ++ [V.str y]))) := same_upd sm6 hg
                generalize upd H6 g (.lst (ws.map V.str ++ [V.str y])) = H7 at hg7 hD7 sm7 ⊢
                clear hD6 hg6 sm6
                obtain ⟨kr, n1, n2, n3⟩ := hN.same sm7
                walk_at "go"
                refine ⟨V.int (R y), by rw [← n3 y (hLy y (lft_sub hy).1)]; exact DGet.k (k := Sum.inr y) n1, _, rfl, ?_⟩
                walk_at "go"
                exact ⟨y, hy, rfl, rfl, sm7, hg7, hD7⟩
            · rw [if_neg hc2]
              walk_at "go"
              exact q g ws _ hg sm4 hg4 (by omega) (by omega)
      by_cases hzL : z ∈ L
      · rw [if_pos (by simp [hzL])]
        rw [if_pos hzL] at key2
        exact key2
      · rw [if_neg (by simp [hzL])]
        rw [if_neg hzL] at key2
        exact key2
    clear hrest
    split
    · refine ⟨by decide, ?_⟩
      split
      · exact key 1
      · exact key 0
    · exact key 0
theorem ok_l_next_asks {f : Addr} {fd : FuncData} (F : Fun K "_law_next_asks" "_law_next_asks" s_l_next_asks f fd) (T : Txt K mg )  : FnOk P w K mg base CX0 1 f fd ["_law_asks_here"] (sp55_next K) := by
  have sc : FnScope ["_law_asks_here", "_law_found", "_law_seen", "_law_k", "_law_at"] ["_law_asks_here"] (defScope s_l_next_asks) := ⟨rfl, rfl, rfl, by decide +kernel, rfl, by decide +kernel, by decide +kernel⟩
  refine F.ok sc (fun vs H Q E h => ?_) (fun cdv A outer s H vs Q E hr h => ?_)
  · obtain ⟨a, ys, rfl, hS, hl, q⟩ := h; rfl
  obtain ⟨a, ys, rfl, hS, hl, q⟩ := h
  refine ⟨_, (pss_cons (ps_set (i := 1) sc.nd rfl (Or.inl rfl) (@pe_lst _ _ _ _ pa_nil))
    (pss_cons (ps_set (i := 2) sc.nd rfl (Or.inl rfl) pe_dnewK)
    (pss_cons (ps_for PassesOwn.never rfl (pi_range1 rfl T.z_range (pa_cons (pe_callB call_len_seq rfl T.z_len PySem.boot_len (pa_cons (pv 0) pa_nil)) pa_nil)) (pg_name (i := 3) sc.nd rfl (Or.inl rfl))
      (pss_cons (ps_set (i := 4) sc.nd rfl (Or.inl rfl) (pe_op op_sub (pe_op op_sub (pe_callB call_len_seq rfl T.z_len PySem.boot_len (pa_cons (pv 0) pa_nil)) pe_int) (pv 3)))
      (pss_cons (ps_expr (pe_bm PySem.F.plainAttrs_list PySem.F.slot_list_append PySem.F.type_list_append mt_append (pv 1) (pa_cons (pe_dget2 (hu_of hr) (pv 2) (@pe_ix _ _ _ _ _ _ _ ix_list (pv 0) (pv 4) (fun _ _ => rfl)) (pe_callB call_len_seq rfl T.z_len PySem.boot_len (pa_cons (pv 0) pa_nil)) ⟨rfl, rfl, rfl, rfl⟩) pa_nil)))
      (@pss_one _ _ _ (ps_dput (hu_of hr) (pv 2) (@pe_ix _ _ _ _ _ _ _ ix_list (pv 0) (pv 4) (fun _ _ => rfl)) (pv 4) rfl)))))
    (@pss_one _ _ _ (@ps_ret _ _ _ _ (pe_listrev rfl rfl T.z_list rfl T.z_reversed (pa_cons (pv 1) pa_nil))))))), ?_⟩
  rw [show start ["_law_asks_here", "_law_found", "_law_seen", "_law_k", "_law_at"] [V.ref a] = [some (V.ref a), none, none, none, none] from rfl]
  have line := line_val
  walk_at "go"
  intro p hp
  walk_at "go"
  intro d hd
  walk_at "go"
  have ndp : d ≠ p := (ne_of_none upd_same hd).symm
  have sm0 : Same H (upd (upd H p (.lst [])) d (.dK [])) := (Same.new hp).trans (Same.new hd)
  have hp0 : upd (upd H p (.lst [])) d (.dK []) p = some (.lst (([] : List Int).map V.int)) := by rw [upd_ne ndp.symm]; exact upd_same
  have hd0 : upd (upd H p (.lst [])) d (.dK []) d = some (.dK []) := upd_same
  have hdH := none_of (Same.new hp) hd
  generalize upd (upd H p (.lst [])) d (.dK []) = H1 at sm0 hp0 hd0 ⊢
  clear hd
  rw [List.length_map]
  refine ⟨by omega, ?_⟩
  have hg : ∀ j : Int, 0 ≤ j → j < ys.length → atI (ys.map V.str) j = some (V.str (ys.getD j.toNat Str.empty)) := fun j h1 h2 => by
    refine atI_of h1 ?_
    rw [List.getElem?_map, List.getD_eq_getElem?_getD, List.getElem?_eq_getElem (by omega)]; rfl
  rename_i rest hrest
  refine forR_by (fun k σ H' => ∃ (is : List Int) (kvs : List (Key × V)) (v3 v4 : Option V), σ = [some (V.ref a), some (V.ref p), some (V.ref d), v3, v4] ∧ Same H H' ∧ H' p = some (.lst (is.map V.int)) ∧ H' d = some (.dK kvs) ∧ kvs.length ≤ k ∧ is.length ≤ k ∧ k ≤ is.length ∧ ∀ z v, valV kvs (Sum.inr z) = some v → ∃ i : Int, v = .int i)
    ⟨[], [], none, none, rfl, sm0, hp0, hd0, Nat.le_refl _, Nat.le_refl _, Nat.le_refl _, fun z v h => by cases h⟩ ?_ ?_
  · rintro k σ H' hk ⟨is, kvs, v3, v4, rfl, sm, hp1, hd1, hkl, hi1, hi2, hv⟩
    have hS1 := sm.seq hS
    walk_at "go"
    rw [List.length_map]
    have h1 : (0 : Int) ≤ (ys.length : Int) - 1 - (k : Int) := by omega
    have h2 : (ys.length : Int) - 1 - (k : Int) < ys.length := by omega
    have hgy := hg _ h1 h2
    refine ⟨.inl ⟨rfl, _, SqL.of hp1⟩, .inl ⟨kvs, .inl hd1⟩, ixL_of hS1 hgy ⟨_, .inl hS1, _, DGet.k (k := Sum.inr (ys.getD ((ys.length : Int) - 1 - k).toNat Str.empty)) hd1, ?_⟩⟩
    rw [List.length_map]
    generalize ys.getD ((ys.length : Int) - 1 - k).toNat Str.empty = y at hgy ⊢
    have hvv : ∃ i : Int, (valV kvs (Sum.inr y)).getD (V.int ys.length) = .int i := by
      cases h : valV kvs (Sum.inr y) with
      | none => exact ⟨_, rfl⟩
      | some v => obtain ⟨i, rfl⟩ := hv y v h; exact ⟨i, rfl⟩
    obtain ⟨j, hj⟩ := hvv
    rw [hj]
    refine ⟨p, _, _, rfl, rfl, hp1, by rw [List.length_map]; omega, ?_⟩
    have hp2 : upd H' p (.lst (is.map V.int ++ [V.int j])) p = some (.lst ((is ++ [j]).map V.int)) := by rw [upd_same, List.map_append]; rfl
    have hd2 : upd H' p (.lst (is.map V.int ++ [V.int j])) d = some (.dK kvs) := by rw [upd_ne ndp]; exact hd1
    have sm2 : Same H (upd H' p (.lst (is.map V.int ++ [V.int j]))) := same_upd sm hp
    generalize upd H' p (.lst (is.map V.int ++ [V.int j])) = H2 at hp2 hd2 sm2 ⊢
    have hS2 := sm2.seq hS
    walk_at "go"
    refine ixL_of hS2 hgy ?_
    refine ⟨_, DPut.k (k := Sum.inr y) hd2 (by omega), same_upd sm2 hdH, is ++ [j], by rw [upd_ne ndp.symm]; exact hp2, _, upd_same, ?_, by simp; omega, by simp; omega, fun z v h => ?_⟩
    · have := length_putK kvs (Sum.inr y : Key) (V.int ((ys.length : Int) - 1 - k)); omega
    · rw [valV_put] at h
      split at h
      · cases h; exact ⟨_, rfl⟩
      · exact hv z v h
  · rintro σ H' ⟨is, kvs, v3, v4, rfl, sm, hp1, hd1, hkl, hi1, hi2, hv⟩
    walk_at "go"
    refine ⟨_, SqL.of hp1, fun D hD => ?_⟩
    rw [← List.map_reverse]
    exact q D is.reverse _ (none_of sm hD) (sm.trans (Same.new hD)) upd_same (by rw [List.length_reverse]; omega) (by rw [List.length_reverse]; omega)
theorem ok_l_own_book {f : Addr} {fd : FuncData} (F : Fun K "_law_own_book" "_law_own_book" s_l_own_book f fd) (T : Txt K mg ) (D_l_next_asks : Def P w K mg base CX0 1 "_law_next_asks" ["_law_asks_here"] (sp55_next K)) (D_l_gone : Def P w K mg base CX0 2 "_law_gone" ["_law_lying", "_law_name", "_law_rooms_here", "_law_left", "_law_weights", "_law_number"] (sp55_gone K)) : FnOk P w K mg base CX0 3 f fd ["_law_asks_here", "_law_rooms_here", "_law_costs", "_law_places_here", "_law_way", "_law_xs"] (sp55_book K) := by
  have sc : FnScope ["_law_asks_here", "_law_rooms_here", "_law_costs", "_law_places_here", "_law_way", "_law_xs", "_law_ahead", "_law_weights", "_law_lying", "_law_book", "_law_k", "_law_name", "_law_left", "_law_went"] ["_law_asks_here", "_law_rooms_here", "_law_costs", "_law_places_here", "_law_way", "_law_xs"] (defScope s_l_own_book) := ⟨rfl, rfl, rfl, by decide +kernel, rfl, by decide +kernel, by decide +kernel⟩
  refine F.ok sc (fun vs H Q E h => ?_) (fun cdv A outer s H vs Q E hr h => ?_)
  · obtain ⟨a, d, e, x, ys, zs, R, C, is, f, way, rfl, ha, hl, hin, hzl, hN, hC, hR, hf1, hf2, hx, hxl, hxl2, q⟩ := h; rfl
  obtain ⟨a, d, e, x, ys, zs, R, C, is, f, way, rfl, ha, hl, hin, hzl, hN, hC, hR, hf1, hf2, hx, hxl, hxl2, q⟩ := h
  refine ⟨_, (pss_cons (ps_set (i := 6) sc.nd rfl (Or.inl rfl) (pe_callD D_l_next_asks hr rfl pass0 (pa_cons (pv 0) pa_nil)))
    (pss_cons (ps_set (i := 7) sc.nd rfl (Or.inl rfl) pe_dnewK)
    (pss_cons (ps_set (i := 8) sc.nd rfl (Or.inl rfl) (@pe_lst _ _ _ _ pa_nil))
    (pss_cons (ps_set (i := 9) sc.nd rfl (Or.inl rfl) (@pe_lst _ _ _ _ pa_nil))
    (pss_cons (ps_for PassesOwn.never rfl (pi_enum rfl T.z_enumerate (pa_cons (pv 0) pa_nil)) (pg_tup rfl (pgs_cons (pg_name (i := 10) sc.nd rfl (Or.inl rfl)) (pgs_cons (pg_name (i := 11) sc.nd rfl (Or.inr rfl)) pgs_nil)))
      (pss_cons (ps_if (pt_cmpR op_eq (pv 4) pe_int (nomark _))
        (@pss_one _ _ _ (ps_dput (hu_of hr) (pv 7) (pv 11) (@pe_ix _ _ _ _ _ _ _ ix_list (pv 6) (pv 10) (fun _ _ => rfl)) rfl))
        pss_nil)
      (pss_cons (ps_if (pt_cmpR op_eq (pv 4) pe_int (nomark _))
        (@pss_one _ _ _ (ps_dput (hu_of hr) (pv 7) (pv 11) (pe_op op_sub pe_int (pe_dget (hu_of hr) (pv 2) (pv 11) (fun _ _ => rfl))) rfl))
        pss_nil)
      (pss_cons (ps_set (i := 12) sc.nd rfl (Or.inl rfl) (pe_op op_sub (pv 3) (pe_callB (call_sumL rfl) rfl T.z_sum (by first | rfl | decide +kernel) (pa_cons (pe_comp1 "_law_other" [1] rfl rfl (pi_list (pv 8)) (fun b => (pe_dget (hu_of hr) (pv 1) (pv 0) (fun _ _ => rfl)))) pa_nil))))
      (pss_cons (ps_set (i := 13) sc.nd rfl (Or.inr rfl) (pe_callD D_l_gone hr rfl pass0 (pa_cons (pv 8) (pa_cons (pv 11) (pa_cons (pv 1) (pa_cons (pv 12) (pa_cons (pv 7) (pa_cons (@pe_ix _ _ _ _ _ _ _ ix_list (pv 5) (pv 10) (fun _ _ => rfl)) pa_nil))))))))
      (pss_cons (ps_expr (pe_bm PySem.F.plainAttrs_list PySem.F.slot_list_append PySem.F.type_list_append mt_append (pv 9) (pa_cons (pe_tup (pa_cons (pv 11) (pa_cons (pe_cmpR op_in_seq (pv 11) (pv 8) (by with_unfolding_all rfl)) (pa_cons (pv 13) pa_nil)))) pa_nil)))
      (@pss_one _ _ _ (ps_set (i := 8) sc.nd rfl (Or.inl rfl) (pe_op op_cat (pe_compI "_law_other" [13, 11] rfl rfl (pi_list (pv 8)) (fun b => (PW.pt (pw_and (pt_cmpR op_notIn_seq (pv 0) (pv 1) (by with_unfolding_all rfl)) (pw_and1 (pt_cmpR op_ne (pv 0) (pv 2) (nomark _)))))) (fun b => (pv 0))) (@pe_lst _ _ _ _ (pa_cons (pv 11) pa_nil)))))))))))
    (@pss_one _ _ _ (@ps_ret _ _ _ _ (pv 9)))))))), ?_⟩
  rw [show start ["_law_asks_here", "_law_rooms_here", "_law_costs", "_law_places_here", "_law_way", "_law_xs", "_law_ahead", "_law_weights", "_law_lying", "_law_book", "_law_k", "_law_name", "_law_left", "_law_went"] [V.ref a, V.ref d, V.ref e, V.int f, V.int way, V.ref x] = [some (V.ref a), some (V.ref d), some (V.ref e), some (V.int f), some (V.int way), some (V.ref x), none, none, none, none, none, none, none, none] from rfl]
  have line := line_val
  walk_at "go"
  refine ⟨ys, SqL.of ha, hl, fun n ms H1 hn sm1 hn1 hm1 hm2 => ?_⟩
  walk_at "go"
  intro w2 hw
  walk_at "go"
  intro l hl2
  walk_at "go"
  intro b hb
  walk_at "go"
  have nwl : w2 ≠ l := ne_of_none upd_same hl2
  have nlb : l ≠ b := ne_of_none upd_same hb
  have nwb : w2 ≠ b := ne_of_none (show upd (upd H1 w2 (.dK [])) l (.lst []) w2 = some (.dK []) by rw [upd_ne nwl]; exact upd_same) hb
  have sm2 : Same H1 (upd (upd (upd H1 w2 (.dK [])) l (.lst [])) b (.lst [])) := ((Same.new hw).trans (Same.new hl2)).trans (Same.new hb)
  have hwN := none_of sm1 hw
  have hbN := none_of ((sm1.trans (Same.new hw)).trans (Same.new hl2)) hb
  have hw0 : upd (upd (upd H1 w2 (.dK [])) l (.lst [])) b (.lst []) w2 = some (.dK []) := by rw [upd_ne nwb, upd_ne nwl]; exact upd_same
  have hl0 : upd (upd (upd H1 w2 (.dK [])) l (.lst [])) b (.lst []) l = some (.lst (([] : List Str).map V.str)) := by rw [upd_ne nlb]; exact upd_same
  have hb0 : BkAt (upd (upd (upd H1 w2 (.dK [])) l (.lst [])) b (.lst [])) b [] := ⟨upd_same, fun r hr => by cases hr⟩
  have nnw : n ≠ w2 := ne_of_none hn1 hw
  have nnb : n ≠ b := ne_of_none (((Same.new hw).trans (Same.new hl2)) _ _ hn1) hb
  generalize upd (upd (upd H1 w2 (.dK [])) l (.lst [])) b (.lst []) = H2 at sm2 hw0 hl0 hb0 ⊢
  have smH := sm1.trans sm2
  have hn2 := sm2 _ _ hn1
  clear sm2 sm1 hw hl2 hb hn1 hn
  refine ⟨⟨_, SqL.of (smH _ _ ha)⟩, ?_⟩
  rename_i rest hrest
  refine forE_by (xs := ys.map V.str) (fun i σ H' => ∃ (l : Addr) (L : List Str) (bs : List Bk5) (kvs : List (Key × V)) (v10 v11 v12 v13 : Option V), σ = [some (V.ref a), some (V.ref d), some (V.ref e), some (V.int f), some (V.int way), some (V.ref x), some (V.ref n), some (V.ref w2), some (V.ref l), some (V.ref b), v10, v11, v12, v13] ∧ Same H H' ∧ H' n = some (.lst (ms.map V.int)) ∧ H' w2 = some (.dK kvs) ∧ kvs.length ≤ i ∧ H' l = some (.lst (L.map V.str)) ∧ BkAt H' b bs ∧ l ≠ b ∧ (brs bs).map (·.1) = ys.take i ∧ BkTo f.toNat [] (brs bs) L ∧ L.Nodup ∧ (∀ y ∈ L, y ∈ zs) ∧ rsum R L ≤ f ∧ ((way = 0 ∨ way = 1) → ∀ y ∈ L, ∃ j : Int, valV kvs (Sum.inr y) = some (.int j)) ∧ (¬ (way = 0 ∨ way = 1) → kvs.length = 0))
    ⟨l, [], [], [], none, none, none, none, rfl, smH, hn2, hw0, Nat.le_refl _, hl0, hb0, nlb, rfl, rfl, List.nodup_nil, (fun y hy => by cases hy), (show (0 : Int) ≤ f by omega), (fun _ y hy => by cases hy), fun _ => rfl⟩ (fun i σ H' _ h_ => by obtain ⟨l, L, bs, kvs, v10, v11, v12, v13, _, sm, _⟩ := h_; exact SqL.of (sm _ _ ha)) ?_ ?_
  · clear hw0 hl0 hb0 hn2 smH nwl nlb
    rintro i x' σ H' t hx' ⟨l, L, bs, kvs, v10, v11, v12, v13, rfl, sm, hn3, hw3, hkl, hl3, hb3, nlb, hys, hbk, nd, hLz, hsum, hk1, hk2⟩ ht
    rw [List.getElem?_map] at hx'
    cases hy : ys[i]? with
    | none => rw [hy] at hx'; cases hx'
    | some y =>
      rw [hy] at hx'
      cases hx'
      have hil : i < ys.length := (List.getElem?_eq_some_iff.mp hy).1
      have hyz : y ∈ zs := hin y (List.mem_of_getElem? hy)
      have htk : ys.take (i + 1) = ys.take i ++ [y] := by rw [List.take_add_one, hy]; rfl
      have hg : ∀ (js : List Int), i < js.length → atI (js.map V.int) (i : Int) = some (V.int (js.getD i 0)) := fun js hj => by
        refine atI_nat ?_
        rw [List.getElem?_map, List.getD_eq_getElem?_getD, List.getElem?_eq_getElem hj]; rfl
      have hL60 : L.length ≤ 60 := Nat.le_trans (List.Nodup.length_le_of_subset nd hLz) hzl
      walk_at "go"
      refine ⟨_, SqT.of upd_same, rfl, _, _, rfl, _, _, rfl, rfl, ?_⟩
      have smt : Same H' (upd H' t (.tup [.int i, .str y])) := Same.new ht
      have sm2 := sm.trans smt
      have hn4 := smt _ _ hn3
      have hw4 := smt _ _ hw3
      have hl4 := smt _ _ hl3
      have hb4 := hb3.same smt
      generalize upd H' t (.tup [.int i, .str y]) = H4 at smt sm2 hn4 hw4 hl4 hb4 ⊢
      clear smt sm hn3 hw3 hl3 hb3 ht
      rw [htk]
      clear htk
      walk_at "go"
      rename_i rest2 hrest2
      have key : ∀ (kv2 : List (Key × V)) (H5 : Hp), Same H H5 → H5 n = some (.lst (ms.map V.int)) → H5 w2 = some (.dK kv2) → kv2.length ≤ i + 1 → H5 l = some (.lst (L.map V.str)) → BkAt H5 b bs → (way = 0 → ∀ z, z ∈ L ∨ z = y → ∃ j : Int, valV kv2 (Sum.inr z) = some (.int j)) → (way = 1 → kv2.length ≤ i ∧ ∀ z ∈ L, ∃ j : Int, valV kv2 (Sum.inr z) = some (.int j)) → (¬ (way = 0 ∨ way = 1) → kv2.length = 0) → rest2 [some (V.ref a), some (V.ref d), some (V.ref e), some (V.int f), some (V.int way), some (V.ref x), some (V.ref n), some (V.ref w2), some (V.ref l), some (V.ref b), some (V.int i), some (V.str y), v12, v13] H5 := by
        intro kv2 H5 sm5 hn5 hw5 hkl5 hl5 hb5 hk5 hk6 hk7
        subst hrest2
        walk_at "go"
        rename_i rest3 hrest3
        have key3 : ∀ (kv3 : List (Key × V)) (H6 : Hp), Same H H6 → H6 n = some (.lst (ms.map V.int)) → H6 w2 = some (.dK kv3) → kv3.length ≤ i + 1 → H6 l = some (.lst (L.map V.str)) → BkAt H6 b bs → ((way = 0 ∨ way = 1) → ∀ z, z ∈ L ∨ z = y → ∃ j : Int, valV kv3 (Sum.inr z) = some (.int j)) → (¬ (way = 0 ∨ way = 1) → kv3.length = 0) → rest3 [some (V.ref a), some (V.ref d), some (V.ref e), some (V.int f), some (V.int way), some (V.ref x), some (V.ref n), some (V.ref w2), some (V.ref l), some (V.ref b), some (V.int i), some (V.str y), v12, v13] H6 := by
          intro kv3 H6 sm6 hn6 hw6 hkl6 hl6 hb6 hk8 hk9
          subst hrest3
          walk_at "go"
          refine ⟨⟨_, SqL.of hl6⟩, compL_pure (xs := L.map V.str) (f := fun v => match v with | .str z => V.int (R z) | v => v) (SqL.of hl6) (by rw [List.length_map]; omega) ?_ ?_⟩
          · intro bb v H7 Q' hx7 sm q'
            obtain ⟨z, hz, rfl⟩ := List.mem_map.mp hx7
            obtain ⟨kr, n1, n2, n3⟩ := hN.same (sm6.trans sm)
            walk_at "go"
            exact ⟨V.int (R z), by rw [← n3 z (hLz z hz)]; exact DGet.k (k := Sum.inr z) n1, q'⟩
          · intro D hD
            have eM : (L.map V.str).map (fun v => match v with | .str z => V.int (R z) | v => v) = (L.map R).map V.int := by rw [List.map_map, List.map_map]; rfl
            rw [eM]
            have smD : Same H6 (upd H6 D (.lst ((L.map R).map V.int))) := Same.new hD
            refine ⟨D, rfl, L.map R, SqL.of upd_same, ?_⟩
            rw [show (L.map R).sum = rsum R L from rfl]
            have sm7 := sm6.trans smD
            have hn7 := smD _ _ hn6
            have hw7 := smD _ _ hw6
            have hl7 := smD _ _ hl6
            have hb7 := hb6.same smD
            generalize upd H6 D (.lst ((L.map R).map V.int)) = H7 at smD sm7 hn7 hw7 hl7 hb7 ⊢
            clear eM smD hn6 hw6 hl6 hb6 sm6 hD
            have hx7 := sm7 _ _ hx
            have hN7 := hN.same sm7
            walk_at "go"
            refine ixL_of (SqL.of hx7) (hg is (by omega)) ⟨w2, L, zs, R, f, rfl, rfl, _, rfl, hl7, nd, hL60, hLz, hyz, hN7, hR, hsum, hf2, kv3, hw7, ?_, fun g ws H8 hg8 sm8 hg9 hwl hfit => ?_⟩
            · by_cases h : way = 0 ∨ way = 1
              · exact .inr fun z hz => hk8 h z (.inl hz)
              · exact .inl (hk9 h)
            · have smA := sm7.trans sm8
              have hnA := sm8 _ _ hn7
              have hwA := sm8 _ _ hw7
              have hlA := sm8 _ _ hl7
              have hbA := hb7.same sm8
              have ngb : g ≠ b := (ne_of_none hb7.l hg8).symm
              clear sm7 sm8 hn7 hw7 hl7 hb7 hg8 hx7 hN7
              walk_at "go"
              refine ⟨.inl ⟨rfl, _, SqL.of hbA.l⟩, inT_go (SqL.of hlA) ⟨by rw [line]; decide, fun t2 ht2 => ?_⟩⟩
              have hbl : bs.length ≤ 201 := by
                have := congrArg List.length hys
                unfold brs at this
                rw [List.length_map, List.length_map, List.length_take] at this
                omega
              have nbt : b ≠ t2 := ne_of_none hbA.l ht2
              have smt : Same H8 (upd H8 t2 (.tup [.str y, .bl (decide (y ∈ L)), .ref g])) := Same.new ht2
              refine ⟨b, _, _, rfl, rfl, smt _ _ hbA.l, by rw [List.length_map]; omega, ?_⟩
              have smB := same_upd (o := .lst ((bs.map fun r => V.ref r.1) ++ [V.ref t2])) (smA.trans smt) hbN
              have hnB : upd (upd H8 t2 (.tup [.str y, .bl (decide (y ∈ L)), .ref g])) b (.lst ((bs.map fun r => V.ref r.1) ++ [V.ref t2])) n = some (.lst (ms.map V.int)) := by rw [upd_ne nnb]; exact smt _ _ hnA
              have hwB : upd (upd H8 t2 (.tup [.str y, .bl (decide (y ∈ L)), .ref g])) b (.lst ((bs.map fun r => V.ref r.1) ++ [V.ref t2])) w2 = some (.dK kv3) := by rw [upd_ne nwb]; exact smt _ _ hwA
              have hlB : upd (upd H8 t2 (.tup [.str y, .bl (decide (y ∈ L)), .ref g])) b (.lst ((bs.map fun r => V.ref r.1) ++ [V.ref t2])) l = some (.lst (L.map V.str)) := by rw [upd_ne nlb]; exact smt _ _ hlA
              have hgB : upd (upd H8 t2 (.tup [.str y, .bl (decide (y ∈ L)), .ref g])) b (.lst ((bs.map fun r => V.ref r.1) ++ [V.ref t2])) g = some (.lst (ws.map V.str)) := by rw [upd_ne ngb]; exact smt _ _ hg9
              have hbB : BkAt (upd (upd H8 t2 (.tup [.str y, .bl (decide (y ∈ L)), .ref g])) b (.lst ((bs.map fun r => V.ref r.1) ++ [V.ref t2]))) b (bs ++ [(t2, y, decide (y ∈ L), g)]) := by
                refine ⟨by rw [upd_same, List.map_append]; rfl, fun r hr => ?_⟩
                rcases List.mem_append.mp hr with hr | hr
                · have h1 := smt _ _ (hbA.t r hr)
                  have n2 : r.1 ≠ b := fun e => by rw [e, smt _ _ hbA.l] at h1; cases h1
                  rw [upd_ne n2]; exact h1
                · rw [List.mem_singleton.mp hr, upd_ne nbt.symm, upd_same]
              generalize upd (upd H8 t2 (.tup [.str y, .bl (decide (y ∈ L)), .ref g])) b (.lst ((bs.map fun r => V.ref r.1) ++ [V.ref t2])) = H9 at smB hnB hwB hlB hgB hbB ⊢
              clear smA hnA hwA hlA hbA smt nbt ht2 hg9
              walk_at "go"
              refine ⟨⟨_, SqL.of hlB⟩, compL_if (xs := L.map V.str) (keepS ws y) (fun v => v) (SqL.of hlB) (by rw [List.length_map]; omega) ?_ ?_ ?_⟩
              · intro bb v H10 QT hx10 sm q'
                obtain ⟨z, _, rfl⟩ := List.mem_map.mp hx10
                have hgC := sm _ _ hgB
                have q2 := q' H10 (Same.refl _)
                have e : keepS ws y (V.str z) = decide (z ≠ y ∧ z ∉ ws) := rfl
                rw [e] at q2
                clear e
                walk_at "go"
                refine ninT_go (SqL.of hgC) ⟨_, rfl, ?_⟩
                by_cases hin : z ∈ ws
                · rw [if_neg (by simp [hin])]
                  rw [decide_eq_false (fun h => h.2 hin)] at q2
                  exact q2
                · rw [if_pos (by simp [hin])]
                  by_cases e2 : z = y
                  · rw [decide_eq_false (fun h => h.1 e2)] at q2
                    rw [decide_eq_true e2]; exact q2
                  · rw [decide_eq_true ⟨e2, hin⟩] at q2
                    rw [decide_eq_false e2]; exact q2
              · intro bb v H10 Q' hx10 _ sm q'
                obtain ⟨z, _, rfl⟩ := List.mem_map.mp hx10
                walk_at "go"
                exact q' H10 (Same.refl _)
              · intro D2 H10 hD2 sm10 hD3
                rw [filt_keepS] at hD3
                have hlf : (lft L ws y).length ≤ 60 := Nat.le_trans (List.length_filter_le _ _) hL60
                refine ⟨by rw [line]; decide, fun p3 hp3 => ⟨D2, p3, _, _, rfl, rfl, Same.new hp3 _ _ hD3, upd_same, by rw [List.length_map]; simp; omega, fun l2 hl2 => ?_⟩⟩
                have smX := (sm10.trans (Same.new (o := .lst [V.str y]) hp3)).trans (Same.new (o := .lst ((lft L ws y).map V.str ++ [V.str y])) hl2)
                have hbX := ((sm10.trans (Same.new (o := .lst [V.str y]) hp3)) _ _ hbB.l)
                have e1 : brs (bs ++ [(t2, y, decide (y ∈ L), g)]) = brs bs ++ [(y, decide (y ∈ L))] := by unfold brs; rw [List.map_append]; rfl
                have hmem : ∀ z ∈ lft L ws y ++ [y], z ∈ L ∨ z = y := fun z hz => by
                  rcases List.mem_append.mp hz with hz | hz
                  · exact .inl (lft_sub hz).1
                  · exact .inr (List.mem_singleton.mp hz)
                have hmz : ∀ z ∈ lft L ws y ++ [y], z ∈ zs := fun z hz => by
                  rcases hmem z hz with h | h
                  · exact hLz z h
                  · rw [h]; exact hyz
                have hs2 := rsum_snoc (R := R) (l := lft L ws y) (y := y)
                have hlen := len_rsum (R := R) (l := lft L ws y ++ [y]) fun z hz => (hR z (hmz z hz)).1
                refine ⟨l2, rfl, smB.trans smX, smX _ _ hnB, lft L ws y ++ [y], bs ++ [(t2, y, decide (y ∈ L), g)], kv3, smX _ _ hwB, hkl6, by rw [upd_same, List.map_append]; rfl, hbB.same smX, (ne_of_none hbX hl2).symm, ?_, ?_, snoc_nodup nd, hmz, by omega, fun h z hz => hk8 h z (hmem z hz), hk9⟩
                · rw [e1, List.map_append, hys]; rfl
                · rw [e1]
                  exact hbk.snoc (snoc_nodup nd) (by omega) (List.mem_append_right _ List.mem_cons_self) hmem
        clear hrest3
        split
        · rename_i h1
          obtain ⟨kr, n1, n2, n3⟩ := hC.same sm5
          obtain ⟨g1, g2⟩ := hk6 h1
          refine ⟨V.int (C y), by rw [← n3 y hyz]; exact DGet.k (k := Sum.inr y) n1, _, rfl, _, DPut.k (k := Sum.inr y) hw5 (by omega), ?_⟩
          refine key3 _ _ (same_upd sm5 hwN) (by rw [upd_ne nnw]; exact hn5) upd_same ?_ (by rw [upd_ne (ne_of hl5 hw5 (by intro z; cases z))]; exact hl5) ⟨by rw [upd_ne nwb.symm]; exact hb5.l, fun r hr => ?_⟩ (fun _ z hz => ?_) (fun h => absurd (.inr h1) h)
          · have := length_putK kv2 (Sum.inr y : Key) (V.int (0 - C y)); omega
          · have := hb5.t r hr
            rw [upd_ne (ne_of this hw5 (by intro z; cases z))]; exact this
          · rw [valV_put]
            by_cases e : z = y
            · rw [if_pos (by rw [e])]; exact ⟨_, rfl⟩
            · rw [if_neg (fun h => e (by injection h))]; exact g2 z (hz.resolve_right e)
        · rename_i h1
          exact key3 kv2 H5 sm5 hn5 hw5 hkl5 hl5 hb5 (fun h z hz => hk5 (h.resolve_right h1) z hz) hk7
      clear hrest2
      split
      · rename_i h0
        refine ixL_of (SqL.of hn4) (hg ms (by omega)) ⟨_, DPut.k (k := Sum.inr y) hw4 (by omega), ?_⟩
        refine key _ _ (same_upd sm2 hwN) (by rw [upd_ne nnw]; exact hn4) upd_same ?_ (by rw [upd_ne (ne_of hl4 hw4 (by intro z; cases z))]; exact hl4) ⟨by rw [upd_ne nwb.symm]; exact hb4.l, fun r hr => ?_⟩ (fun _ z hz => ?_) (fun h => by omega) (fun h => absurd (.inl h0) h)
        · have := length_putK kvs (Sum.inr y : Key) (V.int (ms.getD i 0)); omega
        · have := hb4.t r hr
          rw [upd_ne (ne_of this hw4 (by intro z; cases z))]; exact this
        · rw [valV_put]
          by_cases e : z = y
          · rw [if_pos (by rw [e])]; exact ⟨_, rfl⟩
          · rw [if_neg (fun h => e (by injection h))]; exact hk1 (.inl h0) z (hz.resolve_right e)
      · rename_i h0
        exact key kvs H4 sm2 hn4 hw4 (by omega) hl4 hb4 (fun h => absurd h h0) (fun h => ⟨hkl, hk1 (.inr h)⟩) hk2
  · rintro σ H' ⟨l, L, bs, kvs, v10, v11, v12, v13, rfl, sm, hn3, hw3, hkl, hl3, hb3, nlb, hys, hbk, nd, hLz, hsum, hk1, hk2⟩
    walk_at "go"
    exact q b bs _ hbN sm hb3 (by rw [hys, List.length_map, List.take_length]) hbk.ok
theorem ok_weighed {f : Addr} {fd : FuncData} (F : Fun K "weighed" "weighed" s_weighed f fd) (T : Txt K mg )  : FnOk P w K mg base CX0 2 f fd ["book", "weigh"] (sp55_weighed K) := by
  have sc : FnScope ["book", "weigh"] ["book", "weigh"] (defScope s_weighed) := ⟨rfl, rfl, rfl, by decide +kernel, rfl, by decide +kernel, by decide +kernel⟩
  refine F.ok sc (fun vs H Q E h => ?_) (fun cdv A outer s H vs Q E hr h => ?_)
  · obtain ⟨p, f, bs, rfl, hB, hbl, hF, q⟩ := h; rfl
  obtain ⟨p, f, bs, rfl, hB, hbl, hF, q⟩ := h
  refine ⟨_, (@pss_one _ _ _ (@ps_ret _ _ _ _ (pe_callB (call_sumL rfl) rfl T.z_sum (by first | rfl | decide +kernel) (pa_cons (pe_compI "row" [1] rfl rfl (pi_list (pv 0)) (fun b => (pt_not (pt_val (@pe_ix _ _ _ _ _ _ _ ix_tup (pv 0) pe_int (fun _ _ => rfl))))) (fun b => (pe_callO 1 hr (pv 1) (pa_cons (@pe_ix _ _ _ _ _ _ _ ix_tup (pv 0) pe_int (fun _ _ => rfl)) pa_nil)))) pa_nil)))), ?_⟩
  rw [show start ["book", "weigh"] [V.ref p, V.ref f] = [some (V.ref p), some (V.ref f)] from rfl]
  have line := line_val
  walk_at "go"
  refine ⟨⟨_, SqL.of hB.l⟩, compL_if (xs := bs.map fun r => V.ref r.1) (misV H) (fun _ => V.int 1) (SqL.of hB.l) (by rw [List.length_map]; omega) ?_ ?_ ?_⟩
  · intro b v H5 QT hx sm q'
    obtain ⟨r, hr, rfl⟩ := List.mem_map.mp hx
    have q2 := q' H5 (Same.refl _)
    rw [misV_is (hB.t r hr)] at q2
    have g3 := sm _ _ (hB.t r hr)
    walk_at "go"
    exact ixT_of (SqT.of g3) rfl ⟨_, rfl, q2⟩
  · intro b v H5 Q' hx _ sm q'
    obtain ⟨r, hr, rfl⟩ := List.mem_map.mp hx
    have g3 := sm _ _ (hB.t r hr)
    have hF2 := hF.same sm
    walk_at "go"
    exact ixT_of (SqT.of g3) rfl ⟨hF2, q' _ (Same.refl _)⟩
  · intro D H' hD sm hD2
    rw [ones_map] at hD2
    have q2 := q H' sm
    rw [← mis_len hB.t, ← ones_sumI] at q2
    exact ⟨D, rfl, _, SqL.of hD2, q2⟩
theorem ok_missed_by {f : Addr} {fd : FuncData} (F : Fun K "missed_by" "missed_by" s_missed_by f fd) (T : Txt K mg ) (D_weighed : Def P w K mg base CX0 2 "weighed" ["book", "weigh"] (sp55_weighed K)) (M : MkAt K f 88) (HB : base.BuiltinsAt mg 88) : FnOk P w K mg base CX0 3 f fd ["book"] (sp55_missed 88 (⟨27, 25, 27, 39⟩ : Pos) "missed_by.<locals>.<lambda>") := by
  have sc : FnScope ["book"] ["book"] (defScope s_missed_by) := ⟨rfl, rfl, rfl, by decide +kernel, rfl, by decide +kernel, by decide +kernel⟩
  refine F.okC M sc (fun vs H Q E h => ?_) (fun c A outer s H vs Q E hc hr h => ?_)
  · obtain ⟨p, bs, rfl, hB, hbl, hL, q⟩ := h; rfl
  obtain ⟨p, bs, rfl, hB, hbl, hL, q⟩ := h
  refine ⟨_, (@pss_one _ _ _ (@ps_ret _ _ _ _ (pe_callD D_weighed hr rfl pass0 (pa_cons (pv 0) (pa_cons (pe_lam rfl rfl rfl hc (by decide) HB) pa_nil))))), ?_⟩
  rw [show start ["book"] [V.ref p] = [some (V.ref p)] from rfl]
  have line := line_val
  have eq : (cxOf CX0 P w K mg base [Str.ofString "book"] (Str.ofString "missed_by") (defScope s_missed_by) f (Value.ref c) A outer s H E).env.qual ++ Str.ofString "<lambda>" = Str.ofString "missed_by.<locals>.<lambda>" := Eq.trans (show _ = (Str.ofString "missed_by" ++ Str.ofString ".<locals>.") ++ Str.ofString "<lambda>" from rfl) (by decide +kernel)
  walk_at "go"
  rw [eq]
  clear eq
  refine ⟨hL, fun f2 c2 ct H2 hf2 sb hL2 hc2 hff => ?_⟩
  walk_at "go"
  exact ⟨bs, BkAt.tk ⟨sb, hL2⟩ hL hB, hbl, ⟨Str.ofString "name", _, _, _, _, _, _, c2, ct, fun _ _ _ => rfl, rfl, rfl, rfl, by decide +kernel, rfl, hff, hc2⟩, fun H3 sm3 => q _ ⟨sb.trans (.of sm3), lam_same sm3 hL2⟩⟩
theorem ok_missed_in {f : Addr} {fd : FuncData} (F : Fun K "missed_in" "missed_in" s_missed_in f fd) (T : Txt K mg ) (D_missed_by : Def P w K mg base CX0 3 "missed_by" ["book"] (sp55_missed 88 (⟨27, 25, 27, 39⟩ : Pos) "missed_by.<locals>.<lambda>")) : FnOk P w K mg base CX0 4 f fd ["book", "parts"] (sp55_in K 88 (⟨27, 25, 27, 39⟩ : Pos) "missed_by.<locals>.<lambda>") := by
  have sc : FnScope ["book", "parts"] ["book", "parts"] (defScope s_missed_in) := ⟨rfl, rfl, rfl, by decide +kernel, rfl, by decide +kernel, by decide +kernel⟩
  refine F.ok sc (fun vs H Q E h => ?_) (fun cdv A outer s H vs Q E hr h => ?_)
  · obtain ⟨p, r, bs, rs, rfl, hB, hbl, hP, hrl, hrs, hL, q⟩ := h; rfl
  obtain ⟨p, r, bs, rs, rfl, hB, hbl, hP, hrl, hrs, hL, q⟩ := h
  refine ⟨_, (@pss_one _ _ _ (@ps_ret _ _ _ _ (pe_comp2 "start" "end" [0] rfl rfl (pi_list (pv 1)) (fun b => (pe_callD D_missed_by hr rfl pass0 (pa_cons (pe_slice sl_list (pv 2) (po_some (pv 0)) (po_some (pv 1))) pa_nil)))))), ?_⟩
  rw [show start ["book", "parts"] [V.ref p, V.ref r] = [some (V.ref p), some (V.ref r)] from rfl]
  have line := line_val
  walk_at "go"
  have e1 : (rs.map fun r => V.ref r.1) = (rs.map fun r => r.1).map V.ref := by rw [List.map_map]; rfl
  refine ⟨⟨_, SqL.of hP.1⟩, compL_2T (as := rs.map fun r => r.1) (fun i => .int (rs.getD i pt0).2.1) (fun i => .int (rs.getD i pt0).2.2) (fun i => .int (mis (slB (brs bs) (rs.getD i pt0).2.1 (rs.getD i pt0).2.2))) hL (e1 ▸ hP.1) (by rw [List.length_map]; omega) (fun i c hi => ?_) (fun b i H5 Q' hi t5 q' => ?_) fun D H' hD tk hD2 => ?_⟩
  · have hi2 : i < rs.length := by
      have := (List.getElem?_eq_some_iff.mp hi).1
      rw [List.length_map] at this; exact this
    obtain ⟨g1, g2, _⟩ := pt_at hi2
    rw [g2] at hi
    cases hi
    exact hP.2 _ g1
  · rw [List.length_map] at hi
    obtain ⟨g1, _, _⟩ := pt_at hi
    generalize rs.getD i pt0 = r at g1 q' ⊢
    obtain ⟨h1, h2⟩ := hrs r g1
    have hB5 := BkAt.tk t5 hL hB
    walk_at "go"
    refine ⟨_, SqL.of hB5.l, fun l hl => ?_⟩
    rw [cut_rows bs _ _ h1 h2]
    have sm6 : Same H5 (upd H5 l (.lst (((bs.drop r.2.1).take (r.2.2 - r.2.1)).map fun r => V.ref r.1))) := Same.new hl
    refine ⟨(bs.drop r.2.1).take (r.2.2 - r.2.1), ⟨upd_same, fun x hx => sm6 _ _ (hB5.t x (List.mem_of_mem_drop (List.mem_of_mem_take hx)))⟩, ?_, lam_same sm6 t5.lam, fun H7 t7 => ?_⟩
    · rw [List.length_take, List.length_drop]; omega
    · rw [brs_sl]
      exact q' _ ((Tk.of t5.lam sm6).trans t7)
  · rw [pts_list rs fun r => V.int (mis (slB (brs bs) r.2.1 r.2.2))] at hD2
    exact q D H' hD tk hD2
theorem ok_law {f : Addr} {fd : FuncData} (F : Fun K "law" "law" s_law f fd) (T : Txt K mg ) (D_l_cell : Def P w K mg base CX0 1 "_law_cell" ["_law_script", "_law_k"] (sp_cell K)) (D_l_rows : Def P w K mg base CX0 2 "_law_rows" ["_law_script"] (sp55_rows K)) (D_l_rooms : Def P w K mg base CX0 1 "_law_rooms" ["_law_rows_here"] (sp55_rooms)) (D_l_places : Def P w K mg base CX0 1 "_law_places" ["_law_rows_here", "_law_cell_here"] (sp55_places)) (D_l_asks : Def P w K mg base CX0 2 "_law_asks" ["_law_script", "_law_rows_here"] (sp55_asks K)) (D_l_stream : Def P w K mg base CX0 1 "_law_stream" ["_law_cell_here", "_law_many"] (sp55_stream)) (D_l_own_book : Def P w K mg base CX0 3 "_law_own_book" ["_law_asks_here", "_law_rooms_here", "_law_costs", "_law_places_here", "_law_way", "_law_xs"] (sp55_book K)) (D_floor_by_parts : Def P w K mg base CX0 4 "floor_by_parts" ["asks", "places", "fewer"] (sp55_floor K)) (D_parts_of : Def P w K mg base CX0 3 "parts_of" ["asks", "most"] (sp55_parts K)) (D_missed_in : Def P w K mg base CX0 4 "missed_in" ["book", "parts"] (sp55_in K 88 (⟨27, 25, 27, 39⟩ : Pos) "missed_by.<locals>.<lambda>")) : FnOk P w K mg base CX0 6 f fd ["_law_script"] (sp55_law 88 K) := by
  have sc : FnScope ["_law_script", "_law_rows_here", "_law_rooms_here", "_law_costs", "_law_name", "_law_cost", "_law_room", "_law_fewer", "_law_places_here", "_law_asks_here", "_law_xs", "_law_book", "_law_missed", "_law_parts", "_law_some", "_law_many"] ["_law_script"] (defScope s_law) := ⟨rfl, rfl, rfl, by decide +kernel, rfl, by decide +kernel, by decide +kernel⟩
  refine F.ok sc (fun vs H Q E h => ?_) (fun cdv A outer s H vs Q E hr h => ?_)
  · obtain ⟨a, ns, rfl, hS, hl, hT, q⟩ := h; rfl
  obtain ⟨a, ns, rfl, hS, hl, hT, q⟩ := h
  refine ⟨_, (pss_cons (ps_set (i := 1) sc.nd rfl (Or.inl rfl) (pe_callD D_l_rows hr rfl pass0 (pa_cons (pv 0) pa_nil)))
    (pss_cons (ps_set (i := 2) sc.nd rfl (Or.inl rfl) (pe_callD D_l_rooms hr rfl pass0 (pa_cons (pv 1) pa_nil)))
    (pss_cons (ps_set (i := 3) sc.nd rfl (Or.inl rfl) pe_dnewK)
    (pss_cons (ps_for PassesOwn.never rfl (pi_list (pv 1)) (pg_tup rfl (pgs_cons (pg_name (i := 4) sc.nd rfl (Or.inl rfl)) (pgs_cons (pg_name (i := 5) sc.nd rfl (Or.inl rfl)) (pgs_cons (pg_name (i := 6) sc.nd rfl (Or.inl rfl)) pgs_nil))))
      (@pss_one _ _ _ (ps_dput (hu_of hr) (pv 3) (pv 4) (pv 5) rfl)))
    (pss_cons (ps_set (i := 7) sc.nd rfl (Or.inl rfl) (pe_callD D_l_places hr rfl pass0 (pa_cons (pv 1) (pa_cons (pe_callD D_l_cell hr rfl pass0 (pa_cons (pv 0) (pa_cons pe_int pa_nil))) pa_nil))))
    (pss_cons (ps_set (i := 8) sc.nd rfl (Or.inl rfl) (pe_op op_add (pv 7) (pe_op op_mod (pe_callD D_l_cell hr rfl pass0 (pa_cons (pv 0) (pa_cons pe_int pa_nil))) (@pe_ix _ _ _ _ _ _ _ ix_list (@pe_lst _ _ _ _ (pa_cons pe_int (pa_cons pe_int pa_nil))) (pe_op op_mod (pe_op op_fdiv (pe_callD D_l_cell hr rfl pass0 (pa_cons (pv 0) (pa_cons pe_int pa_nil))) pe_int) pe_int) (fun _ _ => rfl)))))
    (pss_cons (ps_if (pt_cmpR op_gt (pv 8) (pe_op op_pow pe_int pe_int) (nomark _))
      (@pss_one _ _ _ (ps_set (i := 8) sc.nd rfl (Or.inl rfl) (pe_op op_pow pe_int pe_int)))
      pss_nil)
    (pss_cons (ps_set (i := 9) sc.nd rfl (Or.inl rfl) (pe_callD D_l_asks hr rfl pass0 (pa_cons (pv 0) (pa_cons (pv 1) pa_nil))))
    (pss_cons (ps_set (i := 10) sc.nd rfl (Or.inl rfl) (pe_callD D_l_stream hr rfl pass0 (pa_cons (pe_callD D_l_cell hr rfl pass0 (pa_cons (pv 0) (pa_cons pe_int pa_nil))) (pa_cons (pe_callB call_len_seq rfl T.z_len PySem.boot_len (pa_cons (pv 9) pa_nil)) pa_nil))))
    (pss_cons (ps_set (i := 11) sc.nd rfl (Or.inl rfl) (pe_callD D_l_own_book hr rfl pass0 (pa_cons (pv 9) (pa_cons (pv 2) (pa_cons (pv 3) (pa_cons (pv 7) (@pa_consB _ _ _ _ _ _ _ _ (pe_op op_mod (pe_callD D_l_cell hr rfl pass0 (pa_cons (pv 0) (pa_cons pe_int pa_nil))) pe_int) (pa_cons (pv 10) pa_nil))))))))
    (pss_cons (ps_set (i := 12) sc.nd rfl (Or.inl rfl) (pe_callB call_len_seq rfl T.z_len PySem.boot_len (pa_cons (pe_compI "_law_row" [] rfl rfl (pi_list (pv 11)) (fun b => (pt_not (pt_val (@pe_ix _ _ _ _ _ _ _ ix_tup (pv 0) pe_int (fun _ _ => rfl))))) (fun b => (pv 0))) pa_nil)))
    (pss_cons (ps_if (pt_cmpR op_gt (pe_callD D_floor_by_parts hr rfl pass0 (pa_cons (pe_callTy call_list_of rfl T.z_list (by first | rfl | decide +kernel) (pa_cons (pv 9) pa_nil)) (pa_cons (pv 8) (pa_cons (pv 7) pa_nil)))) (pv 12) (nomark _))
      (@pss_one _ _ _ (@ps_ret _ _ _ _ pe_bl))
      pss_nil)
    (pss_cons (ps_set (i := 13) sc.nd rfl (Or.inl rfl) (pe_callD D_parts_of hr rfl pass0 (pa_cons (pe_callTy call_list_of rfl T.z_list (by first | rfl | decide +kernel) (pa_cons (pv 9) pa_nil)) (pa_cons (pv 8) pa_nil))))
    (pss_cons (ps_comp1 (i := 14) "_law_one" [] sc.nd rfl rfl rfl rfl (pi_list (pe_slice sl_list (pv 13) po_none (po_some (pe_un un_neg pe_int)))) (fun b => (pe_tup (pa_cons (pe_op op_add (@pe_ix _ _ _ _ _ _ _ ix_tup (pv 0) pe_int (fun _ _ => rfl)) pe_int) (pa_cons (pe_op op_add (@pe_ix _ _ _ _ _ _ _ ix_tup (pv 0) pe_int (fun _ _ => rfl)) pe_int) pa_nil)))))
    (pss_cons (ps_for PassesOwn.never rfl (pi_list (pe_callD D_missed_in hr rfl pass0 (pa_cons (pv 11) (pa_cons (pv 14) pa_nil)))) (pg_name (i := 15) sc.nd rfl (Or.inl rfl))
      (@pss_one _ _ _ (ps_if (pt_cmpR op_lt (pv 15) (pe_op op_add (pe_op op_sub (pv 8) (pv 7)) pe_int) (nomark _))
        (@pss_one _ _ _ (@ps_ret _ _ _ _ pe_bl))
        pss_nil)))
    (@pss_one _ _ _ (@ps_ret _ _ _ _ (pe_or (pe_and (pe_cmpR (op_eqQ hr) (pv 9) (@pe_lst _ _ _ _ pa_nil) (nomark _)) (pe_one (pe_cmpR (op_eqNil hr) (pv 13) (@pe_lst _ _ _ _ pa_nil) (nomark _)))) (pe_one (pe_cmpR op_eq (@pe_ix _ _ _ _ _ _ _ ix_tup (@pe_ix _ _ _ _ _ _ _ ix_list (pv 13) (pe_op op_sub (pe_callB call_len_seq rfl T.z_len PySem.boot_len (pa_cons (pv 13) pa_nil)) pe_int) (fun _ _ => rfl)) pe_int (fun _ _ => rfl)) (pe_callB call_len_seq rfl T.z_len PySem.boot_len (pa_cons (pv 9) pa_nil)) (nomark _))))))))))))))))))))), ?_⟩
  rw [show start ["_law_script", "_law_rows_here", "_law_rooms_here", "_law_costs", "_law_name", "_law_cost", "_law_room", "_law_fewer", "_law_places_here", "_law_asks_here", "_law_xs", "_law_book", "_law_missed", "_law_parts", "_law_some", "_law_many"] [V.ref a] = [some (V.ref a), none, none, none, none, none, none, none, none, none, none, none, none, none, none, none] from rfl]
  have line := line_val
  walk_at "go"
  intro p rs H1 hp sm1 hR
  walk_at "go"
  refine ⟨rs, hR, fun d R H2 hd sm2 hN hRr => ?_⟩
  have smA := sm1.trans sm2
  have hR2 := hR.same sm2
  clear hR hp hd sm1 sm2
  walk_at "go"
  intro e he
  walk_at "go"
  have hm := hR2.m
  have hn := hR2.n
  have sm0 : Same H2 (upd H2 e (.dK [])) := Same.new he
  have he0 : upd H2 e (.dK []) e = some (.dK []) := upd_same
  generalize upd H2 e (.dK []) = H3 at sm0 he0 ⊢
  refine ⟨⟨_, SqL.of (sm0 _ _ hR2.l)⟩, ?_⟩
  rename_i rest hrest
  refine forL_by (xs := rs.map fun t => V.ref t.1) (fun i σ H' => ∃ (kvs : List (Key × V)) (v4 v5 v6 : Option V), σ = [some (V.ref a), some (V.ref p), some (V.ref d), some (V.ref e), v4, v5, v6, none, none, none, none, none, none, none, none, none] ∧ Same H2 H' ∧ H' e = some (.dK kvs) ∧ kvs.length ≤ i ∧ ∀ r ∈ rs.take i, ∃ c : Int, valV kvs (Sum.inr r.2.1) = some (.int c))
    ⟨[], none, none, none, rfl, sm0, he0, Nat.le_refl _, fun r hr => by simp at hr⟩ (fun i σ H' _ h_ => by obtain ⟨kvs, v4, v5, v6, _, sm, _⟩ := h_; exact SqL.of (sm _ _ hR2.l)) ?_ ?_
  · rintro i x σ H' hx ⟨kvs, v4, v5, v6, rfl, sm, hd1, hk, hv⟩
    have hi : i < rs.length := by
      have := (List.getElem?_eq_some_iff.mp hx).1
      rw [List.length_map] at this; exact this
    obtain ⟨g1, g2⟩ := rs_at hi
    rw [g2] at hx
    cases hx
    have g3 := sm _ _ (hR2.t _ g1)
    have g4 : rs.take (i + 1) = rs.take i ++ [rs.getD i rw0] := by
      rw [List.take_add_one, List.getD_eq_getElem?_getD, List.getElem?_eq_getElem hi]; rfl
    rw [g4]
    clear g4 g2
    generalize rs.getD i rw0 = r at g1 g3 ⊢
    walk_at "go"
    refine ⟨_, SqT.of g3, rfl, ?_⟩
    walk_at "go"
    refine ⟨_, DPut.k (k := Sum.inr r.2.1) hd1 (by omega), same_upd sm he, _, upd_same, ?_, fun r1 hr1 => ?_⟩
    · have := length_putK kvs (Sum.inr r.2.1 : Key) (V.int r.2.2.1); omega
    · rw [valV_put]
      by_cases z : r1.2.1 = r.2.1
      · rw [if_pos (by rw [z])]
        exact ⟨_, rfl⟩
      · rw [if_neg (fun h => z (by injection h))]
        rcases List.mem_append.mp hr1 with h | h
        · exact hv r1 h
        · exact absurd (by rw [List.mem_singleton.mp h]) z
  · rintro σ H4 ⟨kvs, v4, v5, v6, rfl, sm, hd1, hk, hv⟩
    rw [List.length_map] at hk hv
    rw [List.take_length] at hv
    have hC : NumsAt H4 e (rs.map (·.2.1)) (fun z => match valV kvs (Sum.inr z) with | some (.int i) => i | _ => 0) := by
      refine ⟨kvs, hd1, by omega, fun z hz => ?_⟩
      obtain ⟨r, hr, rfl⟩ := List.mem_map.mp hz
      obtain ⟨c, e⟩ := hv r hr
      simp only [e]
    generalize (fun z : Str => match valV kvs (Sum.inr z) with | some (.int i) => i | _ => (0 : Int)) = C at hC
    have smB := smA.trans sm
    have hN4 := hN.same sm
    have hR4 := hR2.same sm
    have hS4 := smB.seq hS
    have hT4 := smB _ _ hT
    clear hv hk hd1 sm0 he0 hR2 hN smA sm he
    walk_at "go"
    refine ⟨rs, hR4, fun fw H5 hf1 hf2 hfr sm5 => ?_⟩
    obtain ⟨fn, rfl⟩ : ∃ n : Nat, fw = n := ⟨fw.toNat, by omega⟩
    have hRb := hR4.r
    have smC := smB.trans sm5
    have hN5 := hN4.same sm5
    have hC5 := hC.same sm5
    have hR5 := hR4.same sm5
    have hS5 := smC.seq hS
    clear smB hN4 hC hR4 hS4 hT4 sm5
    walk_at "go"
    intro p1 hq1
    have sm6 : Same H5 (upd H5 p1 (.lst [V.int 7, V.int 61])) := Same.new hq1
    have smD := smC.trans sm6
    have hN6 := hN5.same sm6
    have hC6 := hC5.same sm6
    have hR6 := hR5.same sm6
    have hS6 := smD.seq hS
    have hp6 : upd H5 p1 (.lst [V.int 7, V.int 61]) p1 = some (.lst [V.int 7, V.int 61]) := upd_same
    generalize upd H5 p1 (.lst [V.int 7, V.int 61]) = H6 at smD hN6 hC6 hR6 hS6 hp6 ⊢
    clear smC hN5 hC5 hR5 hS5 hq1 sm6
    walk_at "go"
    obtain ⟨v, hv, hM⟩ := atI_in (xs := [V.int 7, V.int 61]) (i := ns.getD 6 0 / 61 % 2) (by omega) (by simp; omega)
    refine ixL_of (SqL.of hp6) hv ?_
    obtain ⟨mo, rfl, hmo1⟩ : ∃ mo : Int, v = V.int mo ∧ 1 ≤ mo := by
      simp only [List.mem_cons, List.not_mem_nil, or_false] at hM
      rcases hM with rfl | rfl
      · exact ⟨7, rfl, by decide⟩
      · exact ⟨61, rfl, by decide⟩
    have hmo2 := Int.emod_nonneg (ns.getD 6 0) (show mo ≠ 0 by omega)
    generalize hpx : ns.getD 6 0 % mo = px at hmo2
    clear hv hM
    walk_at "go"
    rename_i rest hrest
    have key : ∀ pn : Nat, fn ≤ pn → pn ≤ 1000000 → rest [some (V.ref a), some (V.ref p), some (V.ref d), some (V.ref e), v4, v5, v6, some (V.int fn), some (V.int pn), none, none, none, none, none, none, none] H6 := by
      intro pn hP1 hP2
      subst hrest
      walk_at "go"
      refine ⟨rs, hR6, fun qa ys H7 hqa sm7 hq7 hyl hyin => ?_⟩
      have smE := smD.trans sm7
      have hN7 := hN6.same sm7
      have hC7 := hC6.same sm7
      have hS7 := smE.seq hS
      clear smD hN6 hC6 hR6 hS6 sm7 hqa
      walk_at "go"
      refine ⟨_, .inl (SqL.of hq7), ?_⟩
      walk_at "go"
      refine ⟨ys.length, by rw [List.length_map], by omega, fun px is H8 hpx8 sm8 hx8 hi1 hi2 => ?_⟩
      have smF := smE.trans sm8
      have hN8 := hN7.same sm8
      have hC8 := hC7.same sm8
      have hq8 := sm8 _ _ hq7
      have hS8 := smF.seq hS
      clear smE hN7 hC7 hS7 sm8 hq7 hpx8
      walk_at "go"
      refine ⟨ys, hq8, hyl, rs.map (·.2.1), hyin, by rw [List.length_map]; omega, R, hN8, C, hC8, fun y hy => ?_, hf1, hf2, is, hx8, hi2, by omega, fun pb bs H9 hpb sm9 hB hnm hbk => ?_⟩
      · obtain ⟨r, hr, e⟩ := hRr y hy
        rw [e]
        exact ⟨(hRb r hr).1, hfr r hr⟩
      have hbl : bs.length ≤ 201 := by
        have := congrArg List.length hnm
        unfold brs at this
        rw [List.length_map, List.length_map] at this
        omega
      have hnA : (brs bs).map (·.1) = ys ∧ True := ⟨hnm, trivial⟩
      clear hnm
      have smG := smF.trans sm9
      have hq9 := sm9 _ _ hq8
      have hT9 := smG _ _ hT
      clear hN8 hC8 hS8 sm9 hq8 smF hx8 hi1 hi2 hpb hRr hRb hfr hyin
      walk_at "go"
      refine ⟨⟨_, SqL.of hB.l⟩, compL_if (xs := bs.map fun r => V.ref r.1) (misV H9) (fun v => v) (SqL.of hB.l) (by rw [List.length_map]; omega) ?_ ?_ ?_⟩
      · intro b v H5 QT hx sm q'
        obtain ⟨r, hr, rfl⟩ := List.mem_map.mp hx
        have q2 := q' H5 (Same.refl _)
        rw [misV_is (hB.t r hr)] at q2
        have g3 := sm _ _ (hB.t r hr)
        walk_at "go"
        exact ixT_of (SqT.of g3) rfl ⟨_, rfl, q2⟩
      · intro b v H5 Q' hx _ sm q'
        obtain ⟨r, hr, rfl⟩ := List.mem_map.mp hx
        walk_at "go"
        exact q' _ (Same.refl _)
      · intro D H10 hD sm10 hD2
        have hml := mis_len hB.t
        have hB10 := hB.same sm10
        have hq10 := sm10 _ _ hq9
        have smH := smG.trans sm10
        have hT10 := sm10 _ _ hT9
        rw [List.map_id'] at hD2
        walk_at "go"
        refine ⟨_, .inl (SqL.of hD2), ?_⟩
        rw [hml]
        clear hml hD2 hD sm10 hB hq9 smG hT9
        walk_at "go"
        refine ⟨_, .inl (SqL.of hq10), fun l1 hl1 => ⟨ys, SqL.of upd_same, by omega, by omega, by omega, by omega, fun H11 sm11 => ?_⟩⟩
        rw [if_neg (by have := floor_mis hbk hnA.1 (by omega) hP1; omega)]
        have sm12 := (Same.new (o := .lst (ys.map V.str)) hl1).trans sm11
        have hB11 := hB10.same sm12
        have hq11 := sm12 _ _ hq10
        have hT11 := sm12 _ _ hT10
        clear sm12 sm11 hl1 hB10 hq10 hT10 smH
        walk_at "go"
        refine ⟨_, .inl (SqL.of hq11), fun l2 hl2 => ⟨ys, SqL.of upd_same, by omega, by omega, by omega, fun pp ps H13 hpp sm13 hP13 hps0 => ?_⟩⟩
        have hps : ps.map (·.2) = partsOf (pn : Int) ys ∧ True := ⟨hps0, trivial⟩
        clear hps0
        have sm14 := (Same.new (o := .lst (ys.map V.str)) hl2).trans sm13
        have hB13 := hB11.same sm14
        have hq13 := sm14 _ _ hq11
        have hT13 := sm14 _ _ hT11
        clear sm14 sm13 hl2 hB11 hq11 hT11 hpp
        have hok := parts_ok (m := (pn : Int)) (by omega) ys
        rw [← hps.1] at hok
        have hpl := parts_small (m := (pn : Int)) (ys := ys)
        have hpn := parts_none (m := (pn : Int)) (ys := ys) (by omega)
        rw [← hps.1, List.length_map] at hpl hpn
        walk_at "go"
        refine ⟨_, SqL.of hP13.1, fun l3 hl3 => ?_⟩
        rw [cut_last]
        have sm15 : Same H13 (upd H13 l3 (.lst (ps.dropLast.map fun r => V.ref r.1))) := Same.new hl3
        have hl15 : upd H13 l3 (.lst (ps.dropLast.map fun r => V.ref r.1)) l3 = some (.lst (ps.dropLast.map fun r => V.ref r.1)) := upd_same
        have hB15 := hB13.same sm15
        have hP15 := hP13.same sm15
        have hq15 := sm15 _ _ hq13
        have hT15 := sm15 _ _ hT13
        generalize upd H13 l3 (.lst (ps.dropLast.map fun r => V.ref r.1)) = H15 at hl15 hB15 hP15 hq15 hT15 ⊢
        clear sm15 hB13 hP13 hq13 hT13 hl3
        have hdl : ps.dropLast.length ≤ ps.length := by rw [List.length_dropLast]; omega
        refine ⟨⟨_, SqL.of hl15⟩, compL_mkL (xs := ps.dropLast.map fun r => V.ref r.1) (fun i y H' => ∃ t : Addr, y = V.ref t ∧ H' t = some (.tup [.int ((ps.dropLast.getD i pt0).2.1 + 1 : Nat), .int ((ps.dropLast.getD i pt0).2.2 + 1 : Nat)])) (fun i y G G' l zs h hl2 sb => ?_) (SqL.of hl15) (by rw [List.length_map]; omega) (fun b i x H5 Q' hx sm q' => ?_) fun D zs H16 hD sm16 hD2 hzl hall => ?_⟩
        · obtain ⟨t, e, h1⟩ := h
          exact ⟨t, e, sb _ _ h1 (ne_of h1 hl2 (by intro z; cases z))⟩
        · have hi : i < ps.dropLast.length := by
            have := (List.getElem?_eq_some_iff.mp hx).1
            rw [List.length_map] at this; exact this
          obtain ⟨g1, _, g2⟩ := pt_at hi
          rw [g2] at hx
          cases hx
          have g3 := sm _ _ (hP15.2 _ (List.dropLast_subset _ g1))
          generalize ps.dropLast.getD i pt0 = r at g3 q' ⊢
          walk_at "go"
          refine ixT_of (SqT.of g3) rfl ⟨_, rfl, ?_⟩
          walk_at "go"
          refine ixT_of (SqT.of g3) rfl ⟨_, rfl, ?_⟩
          walk_at "go"
          intro t ht
          refine q' _ _ (Same.new ht) ⟨t, rfl, ?_⟩
          rw [upd_same]; rfl
        · obtain ⟨ss, e1, e2, e3⟩ := pts_of (K := K) (rs := ps.dropLast) (by rw [hzl, List.length_map]) hall
          subst e1
          have hpm := parts_mis hbk hnA.1 (ps.map (·.2)) 0 hok
          have hbys : bs.length = ys.length ∧ True := by
            have := congrArg List.length hnA.1
            unfold brs at this
            rw [List.length_map, List.length_map] at this
            exact ⟨this, trivial⟩
          have hss : ∀ r ∈ ss, r.2.1 ≤ r.2.2 ∧ r.2.2 ≤ bs.length ∧ pn + 1 ≤ mis (slB (brs bs) r.2.1 r.2.2) + fn := by
            intro r hr
            have h1 : r.2 ∈ ss.map (·.2) := List.mem_map.mpr ⟨r, hr, rfl⟩
            rw [e3] at h1
            obtain ⟨q1, hq1, e4⟩ := List.mem_map.mp h1
            have h2 := hpm q1.2 (by rw [← List.map_dropLast]; exact List.mem_map.mpr ⟨q1, hq1, rfl⟩)
            rw [← e4]
            have := hbys.1
            exact ⟨by show q1.2.1 + 1 ≤ q1.2.2 + 1; omega, by show q1.2.2 + 1 ≤ _; omega, h2.2.2⟩
          have hsl : ss.length ≤ 250 := by
            rw [List.length_map, List.length_map] at hzl
            omega
          have hB16 := hB15.same sm16
          have hP16 := hP15.same sm16
          have hq16 := sm16 _ _ hq15
          have hT16 := sm16 _ _ hT15
          clear hB15 hP15 hq15 hT15 sm16 hall hpm e3 hl15 hD
          walk_at "go"
          have hLm : LamOk 88 (⟨27, 25, 27, 39⟩ : Pos) (Str.ofString "missed_by.<locals>.<lambda>") H16 := .inl hT16
          refine ⟨bs, hB16, hbl, ss, ⟨hD2, e2⟩, hsl, fun r hr => ⟨(hss r hr).1, (hss r hr).2.1⟩, hLm, fun D2 H17 hDn tk hD3 => ⟨⟨_, SqL.of hD3⟩, ?_⟩⟩
          have hP17 := ptsAt_tk tk hLm hP16
          have hq17 := tk.lst hLm hq16
          clear hB16 hP16 hq16 hT16 hLm tk hDn hD2 e2
          rename_i rest2 hrest2
          refine forL_by (xs := ss.map fun r => V.int (mis (slB (brs bs) r.2.1 r.2.2))) (fun i σ H' => ∃ v15 : Option V, σ = [some (V.ref a), some (V.ref p), some (V.ref d), some (V.ref e), v4, v5, v6, some (V.int fn), some (V.int pn), some (V.ref qa), some (V.ref px), some (V.ref pb), some (V.int (mis (brs bs))), some (V.ref pp), some (V.ref D), v15] ∧ H' = H17) ⟨none, rfl, rfl⟩ (fun i σ H' _ h_ => by obtain ⟨v15, _, rfl⟩ := h_; exact SqL.of hD3) ?_ ?_
          · rintro i x σ H' hx ⟨v15, rfl, rfl⟩
            obtain ⟨r, hr, rfl⟩ := List.mem_map.mp (List.mem_of_getElem? hx)
            have h1 := (hss r hr).2.2
            walk_at "go"
            rw [if_neg (by omega)]
            trivial
          · rintro σ H' ⟨v15, rfl, rfl⟩
            walk_at "go"
            intro p2 hp2
            have smx : Same H' (upd H' p2 (.lst [])) := Same.new hp2
            refine ⟨_, eqQ_strs (ys := []) (SqL.of (smx _ _ hq17)) (SqL.of upd_same), ?_⟩
            have hP18 := hP17.same smx
            have hq18 := smx _ _ hq17
            generalize upd H' p2 (.lst []) = H18 at hP18 hq18 ⊢
            by_cases h0 : ys = []
            · rw [if_pos (by simp [h0])]
              refine ⟨Nat.zero_le _, fun p3 hp3 => ?_⟩
              refine ⟨_, SqL.of (Same.new hp3 _ _ hP18.1), SqL.of upd_same, ?_⟩
              rw [if_pos (by rw [List.length_map]; exact hpn.mpr h0)]
              exact q _
            · rw [if_neg (by simp [h0])]
              have hne : 1 ≤ ps.length := by
                rcases Nat.eq_zero_or_pos ps.length with h | h
                · exact absurd (hpn.mp h) h0
                · exact h
              have hlast : (ps.getD (ps.length - 1) pt0).2.2 = ys.length ∧ True := ⟨parts_end (ps.map (·.2)) 0 hok _ (by rw [List.getLast?_eq_getElem?, List.length_map, List.getElem?_map, List.getD_eq_getElem?_getD, List.getElem?_eq_getElem (by omega)]; rfl), trivial⟩
              obtain ⟨g1, _, g2⟩ := pt_at (rs := ps) (i := ps.length - 1) (by omega)
              refine ⟨_, .inl (SqL.of hP18.1), ?_⟩
              rw [List.length_map, show ((ps.length : Int) - 1) = ((ps.length - 1 : Nat) : Int) by omega]
              refine ixL_of (SqL.of hP18.1) (atI_nat g2) (ixT_of (SqT.of (hP18.2 _ g1)) rfl ⟨_, .inl (SqL.of hq18), ?_⟩)
              rw [List.length_map, hlast.1]
              walk_at "go"
              exact q _
    clear hrest
    split
    · refine ⟨cpow_of (by decide) (by decide) (by decide), ?_⟩
      exact key 1000000 (by omega) (by decide)
    · have h8 : (((fn : Int) + ns.getD 6 0 % mo).toNat : Int) = (fn : Int) + ns.getD 6 0 % mo := by omega
      have := key ((fn : Int) + ns.getD 6 0 % mo).toNat (by omega) (by omega)
      rw [h8] at this
      exact this
end
theorem all_mk {l : PySem.W.OpenLaw} {w : World} {K : PySem.W.Frag} {h : Heap} {mg : Str → Option Value} {fa f0 f1 f2 f3 f4 f5 f6 f7 f8 f9 f10 f11 f12 f13 f14 f15 f16 f17 f18 f19  : Addr} (X : K.In h) (G : h.Ns mainGlobals mg) (hfa : mg "law" = some (.ref fa))
    {od0 an0 od1 an1 od2 an2 od3 an3 od4 an4 od5 an5 od6 an6 od7 an7 od8 an8 od9 an9 od10 an10 od11 an11 od12 an12 od13 an13 od14 an14 od15 an15 od16 an16 od17 an17 od18 an18 od19 an19 : Option Addr} {sl0 sl1 sl2 sl3 sl4 sl5 sl6 sl7 sl8 sl9 sl10 sl11 sl12 sl13 sl14 sl15 sl16 sl17 sl18 sl19 : Array (Option Value)} {oc0 kV0 dc0 pm0 cd0 ct0 oc1 kV1 dc1 pm1 cd1 ct1 oc2 kV2 dc2 pm2 cd2 ct2 oc3 kV3 dc3 pm3 cd3 ct3 oc4 kV4 dc4 pm4 cd4 ct4 oc5 kV5 dc5 pm5 cd5 ct5 oc6 kV6 dc6 pm6 cd6 ct6 oc7 kV7 dc7 pm7 cd7 ct7 oc8 kV8 dc8 pm8 cd8 ct8 oc9 kV9 dc9 pm9 cd9 ct9 oc10 kV10 dc10 pm10 cd10 ct10 oc11 kV11 dc11 pm11 cd11 ct11 oc12 kV12 dc12 pm12 cd12 ct12 oc13 kV13 dc13 pm13 cd13 ct13 oc14 kV14 dc14 pm14 cd14 ct14 oc15 kV15 dc15 pm15 cd15 ct15 oc16 kV16 dc16 pm16 cd16 ct16 oc17 kV17 dc17 pm17 cd17 ct17 oc18 kV18 dc18 pm18 cd18 ct18 oc19 kV19 dc19 pm19 cd19 ct19 : Value}
    (a0 : PySem.W.nsIn K mainGlobals "is_whole" = some (some (.ref f0))) (l0 : K.lookup f0 = some ⟨oc0, od0, .func (PySem.W.fnOf "is_whole" "is_whole" (defArgs s_is_whole) (defBody s_is_whole) (defScope s_is_whole) .none kV0 dc0 pm0 an0 cd0 ct0), sl0⟩) (c0 : PySem.W.codeIn K cd0 "is_whole" = true) (k0 : PySem.W.keepIn K (.ref f0) = true)
    (a1 : PySem.W.nsIn K mainGlobals "is_within" = some (some (.ref f1))) (l1 : K.lookup f1 = some ⟨oc1, od1, .func (PySem.W.fnOf "is_within" "is_within" (defArgs s_is_within) (defBody s_is_within) (defScope s_is_within) .none kV1 dc1 pm1 an1 cd1 ct1), sl1⟩) (c1 : PySem.W.codeIn K cd1 "is_within" = true) (k1 : PySem.W.keepIn K (.ref f1) = true)
    (a2 : PySem.W.nsIn K mainGlobals "check_places" = some (some (.ref f2))) (l2 : K.lookup f2 = some ⟨oc2, od2, .func (PySem.W.fnOf "check_places" "check_places" (defArgs s_check_places) (defBody s_check_places) (defScope s_check_places) .none kV2 dc2 pm2 an2 cd2 ct2), sl2⟩) (c2 : PySem.W.codeIn K cd2 "check_places" = true) (k2 : PySem.W.keepIn K (.ref f2) = true)
    (a3 : PySem.W.nsIn K mainGlobals "parts_of" = some (some (.ref f3))) (l3 : K.lookup f3 = some ⟨oc3, od3, .func (PySem.W.fnOf "parts_of" "parts_of" (defArgs s_parts_of) (defBody s_parts_of) (defScope s_parts_of) .none kV3 dc3 pm3 an3 cd3 ct3), sl3⟩) (c3 : PySem.W.codeIn K cd3 "parts_of" = true) (k3 : PySem.W.keepIn K (.ref f3) = true)
    (a4 : PySem.W.nsIn K mainGlobals "floor_by_parts" = some (some (.ref f4))) (l4 : K.lookup f4 = some ⟨oc4, od4, .func (PySem.W.fnOf "floor_by_parts" "floor_by_parts" (defArgs s_floor_by_parts) (defBody s_floor_by_parts) (defScope s_floor_by_parts) .none kV4 dc4 pm4 an4 cd4 ct4), sl4⟩) (c4 : PySem.W.codeIn K cd4 "floor_by_parts" = true) (k4 : PySem.W.keepIn K (.ref f4) = true)
    (a5 : PySem.W.nsIn K mainGlobals "_law_cell" = some (some (.ref f5))) (l5 : K.lookup f5 = some ⟨oc5, od5, .func (PySem.W.fnOf "_law_cell" "_law_cell" (defArgs s_l_cell) (defBody s_l_cell) (defScope s_l_cell) .none kV5 dc5 pm5 an5 cd5 ct5), sl5⟩) (c5 : PySem.W.codeIn K cd5 "_law_cell" = true) (k5 : PySem.W.keepIn K (.ref f5) = true)
    (a6 : PySem.W.nsIn K mainGlobals "_law_stream" = some (some (.ref f6))) (l6 : K.lookup f6 = some ⟨oc6, od6, .func (PySem.W.fnOf "_law_stream" "_law_stream" (defArgs s_l_stream) (defBody s_l_stream) (defScope s_l_stream) .none kV6 dc6 pm6 an6 cd6 ct6), sl6⟩) (c6 : PySem.W.codeIn K cd6 "_law_stream" = true) (k6 : PySem.W.keepIn K (.ref f6) = true)
    (a7 : PySem.W.nsIn K mainGlobals "_law_names" = some (some (.ref f7))) (l7 : K.lookup f7 = some ⟨oc7, od7, .func (PySem.W.fnOf "_law_names" "_law_names" (defArgs s_l_names) (defBody s_l_names) (defScope s_l_names) .none kV7 dc7 pm7 an7 cd7 ct7), sl7⟩) (c7 : PySem.W.codeIn K cd7 "_law_names" = true) (k7 : PySem.W.keepIn K (.ref f7) = true)
    (a8 : PySem.W.nsIn K mainGlobals "_law_rows" = some (some (.ref f8))) (l8 : K.lookup f8 = some ⟨oc8, od8, .func (PySem.W.fnOf "_law_rows" "_law_rows" (defArgs s_l_rows) (defBody s_l_rows) (defScope s_l_rows) .none kV8 dc8 pm8 an8 cd8 ct8), sl8⟩) (c8 : PySem.W.codeIn K cd8 "_law_rows" = true) (k8 : PySem.W.keepIn K (.ref f8) = true)
    (a9 : PySem.W.nsIn K mainGlobals "_law_places" = some (some (.ref f9))) (l9 : K.lookup f9 = some ⟨oc9, od9, .func (PySem.W.fnOf "_law_places" "_law_places" (defArgs s_l_places) (defBody s_l_places) (defScope s_l_places) .none kV9 dc9 pm9 an9 cd9 ct9), sl9⟩) (c9 : PySem.W.codeIn K cd9 "_law_places" = true) (k9 : PySem.W.keepIn K (.ref f9) = true)
    (a10 : PySem.W.nsIn K mainGlobals "_law_asks" = some (some (.ref f10))) (l10 : K.lookup f10 = some ⟨oc10, od10, .func (PySem.W.fnOf "_law_asks" "_law_asks" (defArgs s_l_asks) (defBody s_l_asks) (defScope s_l_asks) .none kV10 dc10 pm10 an10 cd10 ct10), sl10⟩) (c10 : PySem.W.codeIn K cd10 "_law_asks" = true) (k10 : PySem.W.keepIn K (.ref f10) = true)
    (a11 : PySem.W.nsIn K mainGlobals "_law_rooms" = some (some (.ref f11))) (l11 : K.lookup f11 = some ⟨oc11, od11, .func (PySem.W.fnOf "_law_rooms" "_law_rooms" (defArgs s_l_rooms) (defBody s_l_rooms) (defScope s_l_rooms) .none kV11 dc11 pm11 an11 cd11 ct11), sl11⟩) (c11 : PySem.W.codeIn K cd11 "_law_rooms" = true) (k11 : PySem.W.keepIn K (.ref f11) = true)
    (a12 : PySem.W.nsIn K mainGlobals "_law_pick" = some (some (.ref f12))) (l12 : K.lookup f12 = some ⟨oc12, od12, .func (PySem.W.fnOf "_law_pick" "_law_pick" (defArgs s_l_pick) (defBody s_l_pick) (defScope s_l_pick) .none kV12 dc12 pm12 an12 cd12 ct12), sl12⟩) (c12 : PySem.W.codeIn K cd12 "_law_pick" = true) (k12 : PySem.W.keepIn K (.ref f12) = true)
    (a13 : PySem.W.nsIn K mainGlobals "_law_gone" = some (some (.ref f13))) (l13 : K.lookup f13 = some ⟨oc13, od13, .func (PySem.W.fnOf "_law_gone" "_law_gone" (defArgs s_l_gone) (defBody s_l_gone) (defScope s_l_gone) .none kV13 dc13 pm13 an13 cd13 ct13), sl13⟩) (c13 : PySem.W.codeIn K cd13 "_law_gone" = true) (k13 : PySem.W.keepIn K (.ref f13) = true)
    (a14 : PySem.W.nsIn K mainGlobals "_law_next_asks" = some (some (.ref f14))) (l14 : K.lookup f14 = some ⟨oc14, od14, .func (PySem.W.fnOf "_law_next_asks" "_law_next_asks" (defArgs s_l_next_asks) (defBody s_l_next_asks) (defScope s_l_next_asks) .none kV14 dc14 pm14 an14 cd14 ct14), sl14⟩) (c14 : PySem.W.codeIn K cd14 "_law_next_asks" = true) (k14 : PySem.W.keepIn K (.ref f14) = true)
    (a15 : PySem.W.nsIn K mainGlobals "_law_own_book" = some (some (.ref f15))) (l15 : K.lookup f15 = some ⟨oc15, od15, .func (PySem.W.fnOf "_law_own_book" "_law_own_book" (defArgs s_l_own_book) (defBody s_l_own_book) (defScope s_l_own_book) .none kV15 dc15 pm15 an15 cd15 ct15), sl15⟩) (c15 : PySem.W.codeIn K cd15 "_law_own_book" = true) (k15 : PySem.W.keepIn K (.ref f15) = true)
    (a16 : PySem.W.nsIn K mainGlobals "weighed" = some (some (.ref f16))) (l16 : K.lookup f16 = some ⟨oc16, od16, .func (PySem.W.fnOf "weighed" "weighed" (defArgs s_weighed) (defBody s_weighed) (defScope s_weighed) .none kV16 dc16 pm16 an16 cd16 ct16), sl16⟩) (c16 : PySem.W.codeIn K cd16 "weighed" = true) (k16 : PySem.W.keepIn K (.ref f16) = true)
    (a17 : PySem.W.nsIn K mainGlobals "missed_by" = some (some (.ref f17))) (l17 : K.lookup f17 = some ⟨oc17, od17, .func (PySem.W.fnOf "missed_by" "missed_by" (defArgs s_missed_by) (defBody s_missed_by) (defScope s_missed_by) .none kV17 dc17 pm17 an17 cd17 ct17), sl17⟩) (c17 : PySem.W.codeIn K cd17 "missed_by" = true) (k17 : PySem.W.keepIn K (.ref f17) = true)
    {cq9 : Addr} (mc17 : cd17 = .ref cq9) (mh17 : PySem.W.codeHdIn K cq9 88 = true)
    (a18 : PySem.W.nsIn K mainGlobals "missed_in" = some (some (.ref f18))) (l18 : K.lookup f18 = some ⟨oc18, od18, .func (PySem.W.fnOf "missed_in" "missed_in" (defArgs s_missed_in) (defBody s_missed_in) (defScope s_missed_in) .none kV18 dc18 pm18 an18 cd18 ct18), sl18⟩) (c18 : PySem.W.codeIn K cd18 "missed_in" = true) (k18 : PySem.W.keepIn K (.ref f18) = true)
    (a19 : PySem.W.nsIn K mainGlobals "law" = some (some (.ref f19))) (l19 : K.lookup f19 = some ⟨oc19, od19, .func (PySem.W.fnOf "law" "law" (defArgs s_law) (defBody s_law) (defScope s_law) .none kV19 dc19 pm19 an19 cd19 ct19), sl19⟩) (c19 : PySem.W.codeIn K cd19 "law" = true) (k19 : PySem.W.keepIn K (.ref f19) = true)
    (z_len : PySem.W.nsIn K mainGlobals "len" = some none)
    (z_isinstance : PySem.W.nsIn K mainGlobals "isinstance" = some none)
    (z_int : PySem.W.nsIn K mainGlobals "int" = some none)
    (z_bool : PySem.W.nsIn K mainGlobals "bool" = some none)
    (z_list : PySem.W.nsIn K mainGlobals "list" = some none)
    (z_range : PySem.W.nsIn K mainGlobals "range" = some none)
    (z_enumerate : PySem.W.nsIn K mainGlobals "enumerate" = some none)
    (z_sum : PySem.W.nsIn K mainGlobals "sum" = some none)
    (z_max : PySem.W.nsIn K mainGlobals "max" = some none)
    (z_reversed : PySem.W.nsIn K mainGlobals "reversed" = some none)
    {tk_MOST_PLACES : Tok} (g_MOST_PLACES : PySem.W.nsIn K mainGlobals "MOST_PLACES" = some (some (.int 1000000 tk_MOST_PLACES)))
    : (∃ c, PySem.W.codeHdIn K c 88 = true) ∧ ∃ fd : FuncData, (∀ (s : Shared) (v : Value), BindsTo s fd ⟨[v], []⟩ [("_law_script", v)]) ∧ ∀ base : Heap, K.In base → base.Ns mainGlobals mg → base.BuiltinsAt mg 88 → FnOk l.prog w K mg base CX0 6 fa fd ["_law_script"] (sp55_law 88 K) := by
  have e := hfa.symm.trans (PySem.W.mg_of X G a19)
  cases e
  have T : Txt K mg  := ⟨PySem.W.mg_none_of X G z_len, PySem.W.mg_none_of X G z_isinstance, PySem.W.mg_none_of X G z_int, PySem.W.mg_none_of X G z_bool, PySem.W.mg_none_of X G z_list, PySem.W.mg_none_of X G z_range, PySem.W.mg_none_of X G z_enumerate, PySem.W.mg_none_of X G z_sum, PySem.W.mg_none_of X G z_max, PySem.W.mg_none_of X G z_reversed, ⟨_, PySem.W.mg_of X G g_MOST_PLACES⟩⟩
  have F0 := fun_mk (st := s_is_whole) l0 c0 k0
  have F1 := fun_mk (st := s_is_within) l1 c1 k1
  have F2 := fun_mk (st := s_check_places) l2 c2 k2
  have F3 := fun_mk (st := s_parts_of) l3 c3 k3
  have F4 := fun_mk (st := s_floor_by_parts) l4 c4 k4
  have F5 := fun_mk (st := s_l_cell) l5 c5 k5
  have F6 := fun_mk (st := s_l_stream) l6 c6 k6
  have F7 := fun_mk (st := s_l_names) l7 c7 k7
  have F8 := fun_mk (st := s_l_rows) l8 c8 k8
  have F9 := fun_mk (st := s_l_places) l9 c9 k9
  have F10 := fun_mk (st := s_l_asks) l10 c10 k10
  have F11 := fun_mk (st := s_l_rooms) l11 c11 k11
  have F12 := fun_mk (st := s_l_pick) l12 c12 k12
  have F13 := fun_mk (st := s_l_gone) l13 c13 k13
  have F14 := fun_mk (st := s_l_next_asks) l14 c14 k14
  have F15 := fun_mk (st := s_l_own_book) l15 c15 k15
  have F16 := fun_mk (st := s_weighed) l16 c16 k16
  have F17 := fun_mk (st := s_missed_by) l17 c17 k17
  have F18 := fun_mk (st := s_missed_in) l18 c18 k18
  have F19 := fun_mk (st := s_law) l19 c19 k19
  refine ⟨⟨_, mh17⟩, PySem.W.fnOf "law" "law" (defArgs s_law) (defBody s_law) (defScope s_law) .none kV19 dc19 pm19 an19 cd19 ct19, fun s v => .of_eq rfl, fun base _ _ HB => ?_⟩
  have D_is_whole : Def l.prog w K mg base CX0 1 "is_whole" ["thing"] (sp_is_whole K) := ⟨⟨f0, _, ok_is_whole F0 T , PySem.W.mg_of X G a0, k0, F0.binds (ps := ["thing"]) fun _ _ _ _ _ _ us hl => match us, hl with | [_], _ => rfl⟩⟩
  have D_is_within : Def l.prog w K mg base CX0 2 "is_within" ["thing", "least", "most"] (sp_within K) := ⟨⟨f1, _, ok_is_within F1 T D_is_whole, PySem.W.mg_of X G a1, k1, F1.binds (ps := ["thing", "least", "most"]) fun _ _ _ _ _ _ us hl => match us, hl with | [_, _, _], _ => rfl⟩⟩
  have D_check_places : Def l.prog w K mg base CX0 3 "check_places" ["places"] (sp55_check) := ⟨⟨f2, _, ok_check_places F2 T D_is_within, PySem.W.mg_of X G a2, k2, F2.binds (ps := ["places"]) fun _ _ _ _ _ _ us hl => match us, hl with | [_], _ => rfl⟩⟩
  have D_parts_of : Def l.prog w K mg base CX0 3 "parts_of" ["asks", "most"] (sp55_parts K) := ⟨⟨f3, _, ok_parts_of F3 T D_is_within, PySem.W.mg_of X G a3, k3, F3.binds (ps := ["asks", "most"]) fun _ _ _ _ _ _ us hl => match us, hl with | [_, _], _ => rfl⟩⟩
  have D_floor_by_parts : Def l.prog w K mg base CX0 4 "floor_by_parts" ["asks", "places", "fewer"] (sp55_floor K) := ⟨⟨f4, _, ok_floor_by_parts F4 T D_check_places D_parts_of, PySem.W.mg_of X G a4, k4, F4.binds (ps := ["asks", "places", "fewer"]) fun _ _ _ _ _ _ us hl => match us, hl with | [_, _, _], _ => rfl⟩⟩
  have D_l_cell : Def l.prog w K mg base CX0 1 "_law_cell" ["_law_script", "_law_k"] (sp_cell K) := ⟨⟨f5, _, ok_l_cell F5 T , PySem.W.mg_of X G a5, k5, F5.binds (ps := ["_law_script", "_law_k"]) fun _ _ _ _ _ _ us hl => match us, hl with | [_, _], _ => rfl⟩⟩
  have D_l_stream : Def l.prog w K mg base CX0 1 "_law_stream" ["_law_cell_here", "_law_many"] (sp55_stream) := ⟨⟨f6, _, ok_l_stream F6 T , PySem.W.mg_of X G a6, k6, F6.binds (ps := ["_law_cell_here", "_law_many"]) fun _ _ _ _ _ _ us hl => match us, hl with | [_, _], _ => rfl⟩⟩
  have D_l_names : Def l.prog w K mg base CX0 1 "_law_names" ["_law_cell_here", "_law_many"] (sp53_names) := ⟨⟨f7, _, ok_l_names F7 T , PySem.W.mg_of X G a7, k7, F7.binds (ps := ["_law_cell_here", "_law_many"]) fun _ _ _ _ _ _ us hl => match us, hl with | [_, _], _ => rfl⟩⟩
  have D_l_rows : Def l.prog w K mg base CX0 2 "_law_rows" ["_law_script"] (sp55_rows K) := ⟨⟨f8, _, ok_l_rows F8 T D_l_cell D_l_names D_l_stream, PySem.W.mg_of X G a8, k8, F8.binds (ps := ["_law_script"]) fun _ _ _ _ _ _ us hl => match us, hl with | [_], _ => rfl⟩⟩
  have D_l_places : Def l.prog w K mg base CX0 1 "_law_places" ["_law_rows_here", "_law_cell_here"] (sp55_places) := ⟨⟨f9, _, ok_l_places F9 T , PySem.W.mg_of X G a9, k9, F9.binds (ps := ["_law_rows_here", "_law_cell_here"]) fun _ _ _ _ _ _ us hl => match us, hl with | [_, _], _ => rfl⟩⟩
  have D_l_asks : Def l.prog w K mg base CX0 2 "_law_asks" ["_law_script", "_law_rows_here"] (sp55_asks K) := ⟨⟨f10, _, ok_l_asks F10 T D_l_cell D_l_stream, PySem.W.mg_of X G a10, k10, F10.binds (ps := ["_law_script", "_law_rows_here"]) fun _ _ _ _ _ _ us hl => match us, hl with | [_, _], _ => rfl⟩⟩
  have D_l_rooms : Def l.prog w K mg base CX0 1 "_law_rooms" ["_law_rows_here"] (sp55_rooms) := ⟨⟨f11, _, ok_l_rooms F11 T , PySem.W.mg_of X G a11, k11, F11.binds (ps := ["_law_rows_here"]) fun _ _ _ _ _ _ us hl => match us, hl with | [_], _ => rfl⟩⟩
  have D_l_pick : Def l.prog w K mg base CX0 1 "_law_pick" ["_law_rest", "_law_weights", "_law_number"] (sp55_pick K) := ⟨⟨f12, _, ok_l_pick F12 T , PySem.W.mg_of X G a12, k12, F12.binds (ps := ["_law_rest", "_law_weights", "_law_number"]) fun _ _ _ _ _ _ us hl => match us, hl with | [_, _, _], _ => rfl⟩⟩
  have D_l_gone : Def l.prog w K mg base CX0 2 "_law_gone" ["_law_lying", "_law_name", "_law_rooms_here", "_law_left", "_law_weights", "_law_number"] (sp55_gone K) := ⟨⟨f13, _, ok_l_gone F13 T D_l_pick, PySem.W.mg_of X G a13, k13, F13.binds (ps := ["_law_lying", "_law_name", "_law_rooms_here", "_law_left", "_law_weights", "_law_number"]) fun _ _ _ _ _ _ us hl => match us, hl with | [_, _, _, _, _, _], _ => rfl⟩⟩
  have D_l_next_asks : Def l.prog w K mg base CX0 1 "_law_next_asks" ["_law_asks_here"] (sp55_next K) := ⟨⟨f14, _, ok_l_next_asks F14 T , PySem.W.mg_of X G a14, k14, F14.binds (ps := ["_law_asks_here"]) fun _ _ _ _ _ _ us hl => match us, hl with | [_], _ => rfl⟩⟩
  have D_l_own_book : Def l.prog w K mg base CX0 3 "_law_own_book" ["_law_asks_here", "_law_rooms_here", "_law_costs", "_law_places_here", "_law_way", "_law_xs"] (sp55_book K) := ⟨⟨f15, _, ok_l_own_book F15 T D_l_next_asks D_l_gone, PySem.W.mg_of X G a15, k15, F15.binds (ps := ["_law_asks_here", "_law_rooms_here", "_law_costs", "_law_places_here", "_law_way", "_law_xs"]) fun _ _ _ _ _ _ us hl => match us, hl with | [_, _, _, _, _, _], _ => rfl⟩⟩
  have D_weighed : Def l.prog w K mg base CX0 2 "weighed" ["book", "weigh"] (sp55_weighed K) := ⟨⟨f16, _, ok_weighed F16 T , PySem.W.mg_of X G a16, k16, F16.binds (ps := ["book", "weigh"]) fun _ _ _ _ _ _ us hl => match us, hl with | [_, _], _ => rfl⟩⟩
  have D_missed_by : Def l.prog w K mg base CX0 3 "missed_by" ["book"] (sp55_missed 88 (⟨27, 25, 27, 39⟩ : Pos) "missed_by.<locals>.<lambda>") := ⟨⟨f17, _, ok_missed_by F17 T D_weighed ⟨_, _, _, _, _, l17, mc17, mh17⟩ HB, PySem.W.mg_of X G a17, k17, F17.binds (ps := ["book"]) fun _ _ _ _ _ _ us hl => match us, hl with | [_], _ => rfl⟩⟩
  have D_missed_in : Def l.prog w K mg base CX0 4 "missed_in" ["book", "parts"] (sp55_in K 88 (⟨27, 25, 27, 39⟩ : Pos) "missed_by.<locals>.<lambda>") := ⟨⟨f18, _, ok_missed_in F18 T D_missed_by, PySem.W.mg_of X G a18, k18, F18.binds (ps := ["book", "parts"]) fun _ _ _ _ _ _ us hl => match us, hl with | [_, _], _ => rfl⟩⟩
  exact ok_law F19 T D_l_cell D_l_rows D_l_rooms D_l_places D_l_asks D_l_stream D_l_own_book D_floor_by_parts D_parts_of D_missed_in
end K55
open PySem PySem.W PyProof.Rows
set_option maxRecDepth 100000 in
set_option maxHeartbeats 0 in
theorem PySem.Challenge.cw_castoff_k55_whole_no_book_below_the_part_holds : PySem.Challenge.rw_castoff_k55_whole_no_book_below_the_part.Holds := by
  w_on; o_law; k_head; (case hw => w_witness2)
  k_fill
  refine L2.walk_ofKT (l := PySem.Challenge.rw_castoff_k55_whole_no_book_below_the_part) (n := 63) (k := 6) (x := "_law_script") (CX := L2.CX0) (sp := N55.sp55_law 88) (tp := 88) rfl (by decide) rfl ⟨rfl, by decide, by decide⟩ (fun w h Y => PySem.W.km_in_of Y) (fun w h Y => PySem.W.km_tabs_of Y _ (by simp)) (fun w => by kernel_rfl) ?F ?S ?C
  case F =>
    intro w mg fa h KX G hmg
    refine' K55.all_mk KX G hmg ?a0 ?l0 ?c0 ?k0 ?a1 ?l1 ?c1 ?k1 ?a2 ?l2 ?c2 ?k2 ?a3 ?l3 ?c3 ?k3 ?a4 ?l4 ?c4 ?k4 ?a5 ?l5 ?c5 ?k5 ?a6 ?l6 ?c6 ?k6 ?a7 ?l7 ?c7 ?k7 ?a8 ?l8 ?c8 ?k8 ?a9 ?l9 ?c9 ?k9 ?a10 ?l10 ?c10 ?k10 ?a11 ?l11 ?c11 ?k11 ?a12 ?l12 ?c12 ?k12 ?a13 ?l13 ?c13 ?k13 ?a14 ?l14 ?c14 ?k14 ?a15 ?l15 ?c15 ?k15 ?a16 ?l16 ?c16 ?k16 ?a17 ?l17 ?c17 ?k17 ?mc17 ?mh17 ?a18 ?l18 ?c18 ?k18 ?a19 ?l19 ?c19 ?k19 ?z_len ?z_isinstance ?z_int ?z_bool ?z_list ?z_range ?z_enumerate ?z_sum ?z_max ?z_reversed ?g_MOST_PLACES
    (case a0 => k_is)
    (case l0 => k_is)
    (case c0 => k_is)
    (case k0 => k_is)
    (case a1 => k_is)
    (case l1 => k_is)
    (case c1 => k_is)
    (case k1 => k_is)
    (case a2 => k_is)
    (case l2 => k_is)
    (case c2 => k_is)
    (case k2 => k_is)
    (case a3 => k_is)
    (case l3 => k_is)
    (case c3 => k_is)
    (case k3 => k_is)
    (case a4 => k_is)
    (case l4 => k_is)
    (case c4 => k_is)
    (case k4 => k_is)
    (case a5 => k_is)
    (case l5 => k_is)
    (case c5 => k_is)
    (case k5 => k_is)
    (case a6 => k_is)
    (case l6 => k_is)
    (case c6 => k_is)
    (case k6 => k_is)
    (case a7 => k_is)
    (case l7 => k_is)
    (case c7 => k_is)
    (case k7 => k_is)
    (case a8 => k_is)
    (case l8 => k_is)
    (case c8 => k_is)
    (case k8 => k_is)
    (case a9 => k_is)
    (case l9 => k_is)
    (case c9 => k_is)
    (case k9 => k_is)
    (case a10 => k_is)
    (case l10 => k_is)
    (case c10 => k_is)
    (case k10 => k_is)
    (case a11 => k_is)
    (case l11 => k_is)
    (case c11 => k_is)
    (case k11 => k_is)
    (case a12 => k_is)
    (case l12 => k_is)
    (case c12 => k_is)
    (case k12 => k_is)
    (case a13 => k_is)
    (case l13 => k_is)
    (case c13 => k_is)
    (case k13 => k_is)
    (case a14 => k_is)
    (case l14 => k_is)
    (case c14 => k_is)
    (case k14 => k_is)
    (case a15 => k_is)
    (case l15 => k_is)
    (case c15 => k_is)
    (case k15 => k_is)
    (case a16 => k_is)
    (case l16 => k_is)
    (case c16 => k_is)
    (case k16 => k_is)
    (case a17 => k_is)
    (case l17 => k_is)
    (case c17 => k_is)
    (case k17 => k_is)
    (case mc17 => rfl)
    (case mh17 => kernel_rfl)
    (case a18 => k_is)
    (case l18 => k_is)
    (case c18 => k_is)
    (case k18 => k_is)
    (case a19 => k_is)
    (case l19 => k_is)
    (case c19 => k_is)
    (case k19 => k_is)
    (case z_len => k_is)
    (case z_isinstance => k_is)
    (case z_int => k_is)
    (case z_bool => k_is)
    (case z_list => k_is)
    (case z_range => k_is)
    (case z_enumerate => k_is)
    (case z_sum => k_is)
    (case z_max => k_is)
    (case z_reversed => k_is)
    (case g_MOST_PLACES => k_is)
  case S => exact fun K H a ns hl hO hS => ⟨a, ns, rfl, hS, hl, hO.1, fun _ => rfl⟩
  case C => exact fun H s e s' z => z

