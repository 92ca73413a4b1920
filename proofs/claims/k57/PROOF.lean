import PyProof.Rows.All
import Wide.All
import OpenK.AllK
import Wide.FinOn
import Lean
import PyProof.EqAt
import PyProof.EqKinds
import PyProof.TupleCall
import KE.KTryMore
import PyProof.StationsW
import PyProof.ExcBaseAll.ValueError
import PyProof.ExcClass2
import PyProof.RulesAs
import PyProof.NsDelKeeps
import KE.KIntText
import PyProof.StrWalks
import PyProof.StrBlockH
import PyProof.Rows.StrNews
import PyProof.Rows.StrJoin2
import PyProof.ConsumeWalk
import PyProof.FString
import PyProof.NeData
import KE.IntTextLaws
import PyProof.ExcInit
import PyProof.InstStoreFacts
import OpenK.KMake
import OpenK.KCls
import PyProof.ExcArgs
import PyProof.Rows.Catch
import KE.KDictList
import KE.KDictSum
import KE.KUnpack
import PyProof.MeetsSeq
import PyProof.Rows.StrInSeq3
import PyProof.SumAny
import PyProof.WalksS
import PyProof.EnumMake
import PyProof.EnumStmt
import PyProof.EnumFor
import PyProof.LayNew
import PyProof.Rows.EnumRows
import PyProof.ZipIter
import KE.KTurns
import PyProof.Rows.FactsT2
import PyProof.ConsumeS
import PyProof.WalkInts
import KE.KEqDict
import KE.KTurnsDict
import KE.KPairComp
import PyProof.StrLawsChain
import PyProof.StrLawsFirst
import KE.IntTextText
import PyProof.Rows.CatFin
import PyProof.Rows.StrClose5
import PyProof.Rows.StrFirst2
import PyProof.Ascii
import PySem.Challenge.RW_castoff_k57_levels_and_prices
-- CHANGE: your row's module here, as the last of these rows
set_option Elab.async false
set_option linter.all false
set_option maxRecDepth 100000
namespace L2
open PySem PySem.Spec PyProof.Rows

noncomputable abbrev Key := Sum Int Str
noncomputable def keyIs : Key → Value → Bool
  | .inl k, v => Value.isInt k v
  | .inr x, v => Value.isStrOf x v
noncomputable def keyH (w : World) : Key → Int
  | .inl k => hashInt k
  | .inr x => hashStr w x
theorem keyIs_shape : ∀ {k : Key} {v : Value}, keyIs k v = true → (∃ i t, k = Sum.inl i ∧ v = Value.int i t) ∨ (∃ x t, k = Sum.inr x ∧ v = Value.str x t)
  | .inl i, v, h => by
    obtain ⟨t, e⟩ := Value.isInt_shape (k := i) (v := v) h
    exact .inl ⟨i, t, rfl, e⟩
  | .inr x, v, h => by
    obtain ⟨t, e⟩ := Value.isStrOf_shape (x := x) (v := v) h
    exact .inr ⟨x, t, rfl, e⟩
theorem keyIs_int (i : Int) (t : Tok) : keyIs (.inl i) (.int i t) = true := by simp [keyIs, Value.isInt]
theorem keyIs_str (x : Str) (t : Tok) : keyIs (.inr x) (.str x t) = true := by simp [keyIs, Value.isStrOf]
theorem key_ll (a b : Int) : decide ((Sum.inl a : Key) = Sum.inl b) = (a == b) := by
  by_cases e : a = b
  · subst e; simp
  · have h : ¬ (Sum.inl a : Key) = Sum.inl b := fun q => e (Sum.inl.inj q)
    rw [decide_eq_false h]
    exact (beq_eq_false_iff_ne.mpr e).symm
theorem key_rr (a b : Str) : decide ((Sum.inr a : Key) = Sum.inr b) = decide (a = b) := by
  by_cases e : a = b
  · subst e; simp
  · have h : ¬ (Sum.inr a : Key) = Sum.inr b := fun q => e (Sum.inr.inj q)
    rw [decide_eq_false h, decide_eq_false e]
theorem key_lr (a : Int) (b : Str) : decide ((Sum.inl a : Key) = Sum.inr b) = false := decide_eq_false (fun q => nomatch q)
theorem key_rl (a : Str) (b : Int) : decide ((Sum.inr a : Key) = Sum.inl b) = false := decide_eq_false (fun q => nomatch q)

noncomputable def mixKind (prog : Program) (w : World) : PySem.KeyKind prog w Key where
  is := keyIs
  hash := keyH w
  inj := fun v a b ha hb => by
    rcases keyIs_shape ha with ⟨i, t, rfl, rfl⟩ | ⟨x, t, rfl, rfl⟩
    · rcases keyIs_shape hb with ⟨j, u, rfl, e⟩ | ⟨y, u, rfl, e⟩
      · injection e with e1 _; rw [e1]
      · exact nomatch e
    · rcases keyIs_shape hb with ⟨j, u, rfl, e⟩ | ⟨y, u, rfl, e⟩
      · exact nomatch e
      · injection e with e1 _; rw [e1]
  byValue := fun k v h => by
    rcases keyIs_shape h with ⟨i, t, rfl, rfl⟩ | ⟨x, t, rfl, rfl⟩ <;> rfl
  pyHash := fun hv h => by
    rcases keyIs_shape hv with ⟨i, t, rfl, rfl⟩ | ⟨x, t, rfl, rfl⟩
    · exact wpAny_pyHash_int h
    · exact wpAny_pyHash_str h
  eqBool := fun hu hv h => by
    rcases keyIs_shape hu with ⟨i, t, rfl, rfl⟩ | ⟨x, t, rfl, rfl⟩
    · rcases keyIs_shape hv with ⟨j, u, rfl, rfl⟩ | ⟨y, u, rfl, rfl⟩
      · rw [key_ll] at h; exact wpAny_eqBool_int h
      · rw [key_lr] at h; exact SeqAt.EqAt.int_str i t y u _ _ _ _ h
    · rcases keyIs_shape hv with ⟨j, u, rfl, rfl⟩ | ⟨y, u, rfl, rfl⟩
      · rw [key_rl] at h; exact SeqAt.EqAt.str_int x t j u _ _ _ _ h
      · rw [key_rr] at h; exact wpAny_eqBool_str h
  «strs» := fun k x t v h => by
    rcases keyIs_shape h with ⟨i, u, rfl, e⟩ | ⟨y, u, rfl, e⟩
    · exact nomatch e
    · injection e with e1 _
      subst e1
      cases v <;> rfl

theorem mixKind_int (prog : Program) (w : World) (i : Int) (t : Tok) : (mixKind prog w).is (.inl i) (.int i t) = true := keyIs_int i t
theorem mixKind_str (prog : Program) (w : World) (x : Str) (t : Tok) : (mixKind prog w).is (.inr x) (.str x t) = true := keyIs_str x t
end L2

namespace L2
open PySem PySem.Spec PyProof.Rows

inductive V where
  | non | bl (b : Bool) | int (i : Int) | str (x : Str) | byt (b : Array UInt8) | flt (b : UInt64) | ref (a : Addr) | ty (n : String)
  deriving DecidableEq

noncomputable def RelV : V → Value → Prop
  | .non, u => u = Value.none
  | .bl b, u => u = Value.bool b
  | .int i, u => ∃ t, u = Value.int i t
  | .str x, u => ∃ t, u = Value.str x t
  | .byt b, u => ∃ t, u = Value.bytes b t
  | .flt b, u => ∃ t, u = Value.float b t
  | .ref a, u => u = Value.ref a
  | .ty n, u => u = Value.type n

noncomputable abbrev Vals : List V → List Value → Prop := Paired RelV
theorem Vals.length {xs : List V} {us : List Value} (r : Vals xs us) : xs.length = us.length := Paired.length r
theorem Vals.get : ∀ {xs : List V} {us : List Value} {i : Nat} {x : V}, Vals xs us → xs[i]? = some x → ∃ u, us[i]? = some u ∧ RelV x u
  | _, _, _, _, .nil, e => by simp at e
  | _, _, 0, _, .cons r _, e => by simp at e; subst e; exact ⟨_, rfl, r⟩
  | _, _, i + 1, x, .cons _ t, e => by
    obtain ⟨u, h1, h2⟩ := Vals.get (i := i) (x := x) t (by simpa using e)
    exact ⟨u, by simpa using h1, h2⟩
theorem Vals.set {x : V} {u : Value} (r : RelV x u) : ∀ {xs : List V} {us : List Value} (i : Nat), Vals xs us → Vals (xs.set i x) (us.set i u)
  | _, _, _, .nil => .nil
  | _, _, 0, .cons _ t => .cons r t
  | _, _, i + 1, .cons q t => .cons q (Vals.set r i t)
theorem Vals.append : ∀ {xs ys : List V} {us ws : List Value}, Vals xs us → Vals ys ws → Vals (xs ++ ys) (us ++ ws)
  | _, _, _, _, .nil, s => s
  | _, _, _, _, .cons r t, s => .cons r (Vals.append t s)
theorem Vals.take : ∀ {xs : List V} {us : List Value} (n : Nat), Vals xs us → Vals (xs.take n) (us.take n)
  | _, _, 0, _ => .nil
  | _, _, _ + 1, .nil => .nil
  | _, _, n + 1, .cons r t => .cons r (Vals.take n t)
theorem Vals.drop : ∀ {xs : List V} {us : List Value} (n : Nat), Vals xs us → Vals (xs.drop n) (us.drop n)
  | _, _, 0, r => r
  | _, _, _ + 1, .nil => .nil
  | _, _, n + 1, .cons _ t => Vals.drop n t
theorem Vals.none_of : ∀ {xs : List V} {us : List Value} {i : Nat}, Vals xs us → xs[i]? = none → us[i]? = none := fun {xs us i} r e => by
  have h1 := r.length
  have h2 : xs.length ≤ i := List.getElem?_eq_none_iff.mp e
  exact List.getElem?_eq_none_iff.mpr (by omega)

noncomputable def RelO : Option V → Option Value → Prop
  | some v, some u => RelV v u
  | none, none => True
  | _, _ => False
noncomputable def KV {κ : Type} : List (κ × V) → List (κ × Value) → Prop := Paired fun (p : κ × V) (q : κ × Value) => p.1 = q.1 ∧ RelV p.2 q.2

noncomputable def kV : Key → V
  | .inl i => .int i
  | .inr x => .str x

inductive HO where
  /-- a list -/
  | lst (xs : List V)
  /-- a tuple (never changes) -/
  | tup (xs : List V)
  /-- a dict whose keys are ints and texts; one whose keys are tuples of ints and texts (the empty one is both) -/
  | dK (kvs : List (Key × V)) | dT (kvs : List (List Key × V))
  /-- a set of ints: its members, its size -/
  | set (S : Int → Bool) (n : Nat)
  /-- an instance of the class at C, its dict at dx, its attributes -/
  | ins (C dx : Addr) (fs : List (Str × V))
  /-- the dict of the instance at x -/
  | own (x : Addr)
  /-- the dict of an exception -/
  | xd (fs : List (Str × V))
  /-- a bound method, f of x -/
  | met (f x : Addr)
  /-- a range object lo, lo + 1, .. below hi -/
  | rng (lo hi : Int)
  /-- a thing that is known to the object (the script; a dict while a loop walks it): read, never written while it is so -/
  | frz (o : Obj) (u : HO)
  /-- a code object's table -/
  | tbl (ps : Array Value)
  /-- any other thing, by what is true of its one object (a def of one's own: SetO a S n := HO.ext fun h => ..) -/
  | ext (φ : Heap → Prop)

noncomputable abbrev Hp := Addr → Option HO
noncomputable def upd (H : Hp) (a : Addr) (o : HO) : Hp := fun b => if b = a then some o else H b
theorem upd_same {H : Hp} {a : Addr} {o : HO} : upd H a o a = some o := by unfold upd; rw [if_pos rfl]
theorem upd_ne {H : Hp} {a b : Addr} {o : HO} (h : b ≠ a) : upd H a o b = H b := by unfold upd; rw [if_neg h]
theorem upd_upd {H : Hp} {a : Addr} {o u : HO} : upd (upd H a o) a u = upd H a u := by
  funext b; unfold upd; split <;> rfl
theorem ne_of {H : Hp} {a b : Addr} {o u : HO} (h : H a = some o) (h' : H b = some u) (d : o ≠ u) : a ≠ b := by
  intro e; subst e; rw [h] at h'; exact d (Option.some.inj h')
theorem ne_of_none {H : Hp} {a b : Addr} {o : HO} (h : H a = some o) (h' : H b = none) : a ≠ b := by
  intro e; subst e; rw [h] at h'; cases h'

section
variable (P : Program) (w : World)
noncomputable def ObjOk (H : Hp) (h : Heap) (a : Addr) : HO → Prop
  | .lst xs => xs.length ≤ sizeLine ∧ ∃ (its : List Value) (n : Nat), Vals xs its ∧ h.get? a = some { cls := .type "list", data := .seq its.toArray n }
  | .tup xs => xs.length ≤ sizeLine ∧ ∃ its : List Value, Vals xs its ∧ IsTup h a its.toArray
  | .dK kvs => kvs.length ≤ sizeLine ∧ (a == sysModules) = false ∧ ∃ vs, KV kvs vs ∧ h.DictOf (mixKind P w) a vs
  | .dT kvs => kvs.length ≤ sizeLine ∧ (a == sysModules) = false ∧ ∃ xs : List (List Key × Addr × Value),
      Paired (fun (p : List Key × V) (q : List Key × Addr × Value) => p.1 = q.1 ∧ H q.2.1 = some (.tup (p.1.map kV)) ∧ RelV p.2 q.2.2) kvs xs ∧
      ∃ o es ep, h.get? a = some o ∧ o.ExactDict ∧ o.data = .dict es ep ∧ es.toList = xs.map (entryOfKey (tupleKind (mixKind P w))) ∧ (xs.map (·.1)).Nodup
  | .set S n => h.SetOf (intKind P w) a S n
  | .ins C dx fs => H dx = some (.own a) ∧ fs.length ≤ 1000 ∧ dx ≠ a ∧ h.get? a = some (PySem.W.instObj C dx) ∧
      ∃ mA, h.Ns1 dx mA ∧ (∀ f, RelO (fs.lookup f) (mA f)) ∧ PySem.Within mA (fs.map (·.1))
  | .own _ => ∃ o, h.get? a = some o
  | .xd fs => ∃ mA, h.Ns1 a mA ∧ ∀ f, RelO (fs.lookup f) (mA f)
  | .rng lo hi => ∃ t u v, h.get? a = some { cls := .type "range", data := .fields #[.int lo t, .int hi u, .int 1 v] }
  | .frz o u => h.get? a = some o ∧ ObjOk H h a u
  | .tbl ps => h.get? a = some { cls := .none, data := .fields ps }
  | .met f x => h.get? a = some (PySem.W.methodObj (.ref f) (.ref x))
  | .ext φ => φ h ∧ (∃ o, h.get? a = some o) ∧ ∀ h1 h2 : Heap, φ h1 → (∀ o, h1.get? a = some o → h2.get? a = some o) → φ h2
noncomputable def HOk (H : Hp) (h : Heap) : Prop := ∀ a o, H a = some o → ObjOk P w H h a o
end

section
variable {P : Program} {w : World} {H H' : Hp} {h h' : Heap} {a : Addr} {o : HO}
theorem ObjOk.lt (x : ObjOk P w H h a o) : a < h.objs.size := by
  cases o with
  | lst xs => obtain ⟨_, _, _, _, e⟩ := x; exact Heap.lt_size e
  | tup xs => obtain ⟨_, _, _, p⟩ := x; exact p.lt
  | dK kvs => obtain ⟨_, _, _, _, o, _, _, e, _⟩ := x; exact Heap.lt_size e
  | dT kvs => obtain ⟨_, _, _, _, o, _, _, e, _⟩ := x; exact Heap.lt_size e
  | set S n => obtain ⟨o, _, _, _, e, _⟩ := x; exact Heap.lt_size e
  | ins C dx fs => obtain ⟨_, _, _, e, _⟩ := x; exact Heap.lt_size e
  | own y => obtain ⟨_, e⟩ := x; exact Heap.lt_size e
  | xd fs => obtain ⟨_, ⟨_, _, _, e, _⟩, _⟩ := x; exact Heap.lt_size e
  | rng lo hi => obtain ⟨_, _, _, e⟩ := x; exact Heap.lt_size e
  | frz ob u => obtain ⟨e, _⟩ := x; exact Heap.lt_size e
  | tbl ps => exact Heap.lt_size (show h.get? a = some _ from x)
  | met f y => exact Heap.lt_size (show h.get? a = some _ from x)
  | ext φ => obtain ⟨_, ⟨_, e⟩, _⟩ := x; exact Heap.lt_size e
theorem Paired.mapP {α β : Type} {F G : α → β → Prop} : ∀ {l₁ : List α} {l₂ : List β}, Paired F l₁ l₂ → (∀ a b, F a b → G a b) → Paired G l₁ l₂
  | _, _, .nil, _ => .nil
  | _, _, .cons r t, f => .cons (f _ _ r) (Paired.mapP t f)
theorem ObjOk.stay (x : ObjOk P w H h a o) (k : ∀ b u, (b = a ∨ H b = some (.own a)) → h.get? b = some u → h'.get? b = some u)
    (ho : ∀ b, H b = some (.own a) → H' b = some (.own a)) (ht : ∀ b xs, H b = some (.tup xs) → H' b = some (.tup xs)) : ObjOk P w H' h' a o := by
  induction o with
  | lst xs => obtain ⟨z, its, n, r, e⟩ := x; exact ⟨z, its, n, r, k _ _ (.inl rfl) e⟩
  | tup xs => obtain ⟨z, its, r, ob, e, c⟩ := x; exact ⟨z, its, r, ob, k _ _ (.inl rfl) e, c⟩
  | dK kvs => obtain ⟨z, y, vs, r, ob, es, ep, e, c⟩ := x; exact ⟨z, y, vs, r, ob, es, ep, k _ _ (.inl rfl) e, c⟩
  | dT kvs =>
    obtain ⟨z, y, xs, r, ob, es, ep, e, c⟩ := x
    exact ⟨z, y, xs, Paired.mapP r fun p q z => ⟨z.1, ht _ _ z.2.1, z.2.2⟩, ob, es, ep, k _ _ (.inl rfl) e, c⟩
  | set S n => obtain ⟨ob, es, ep, t, e, c⟩ := x; exact ⟨ob, es, ep, t, k _ _ (.inl rfl) e, c⟩
  | ins C dx fs =>
    obtain ⟨d, z, ne, e, mA, ⟨od, es, ep, e2, c⟩, r⟩ := x
    exact ⟨ho _ d, z, ne, k _ _ (.inl rfl) e, mA, ⟨od, es, ep, k _ _ (.inr d) e2, c⟩, r⟩
  | own y => obtain ⟨ob, e⟩ := x; exact ⟨ob, k _ _ (.inl rfl) e⟩
  | xd fs => obtain ⟨mA, ⟨od, es, ep, e, c⟩, r⟩ := x; exact ⟨mA, ⟨od, es, ep, k _ _ (.inl rfl) e, c⟩, r⟩
  | rng lo hi => obtain ⟨t, u, v, e⟩ := x; exact ⟨t, u, v, k _ _ (.inl rfl) e⟩
  | frz ob u ih => obtain ⟨e, q⟩ := x; exact ⟨k _ _ (.inl rfl) e, ih q⟩
  | tbl ps =>
    have e : h.get? a = some { cls := .none, data := .fields ps } := x
    show h'.get? a = some { cls := .none, data := .fields ps }
    exact k a _ (.inl rfl) e
  | met f y =>
    have e : h.get? a = some (PySem.W.methodObj (.ref f) (.ref y)) := x
    show h'.get? a = some (PySem.W.methodObj (.ref f) (.ref y))
    exact k a _ (.inl rfl) e
  | ext φ => obtain ⟨p, ⟨o, e⟩, st⟩ := x; exact ⟨st _ _ p fun o q => k _ _ (.inl rfl) q, ⟨o, k _ _ (.inl rfl) e⟩, st⟩
theorem HOk.lt (x : HOk P w H h) (e : H a = some o) : a < h.objs.size := (x a o e).lt
theorem HOk.fresh (x : HOk P w H h) (e : h.objs.size ≤ a) : H a = none := by
  cases q : H a with
  | none => rfl
  | some u => exact absurd (Nat.lt_of_lt_of_le (x.lt q) e) (Nat.lt_irrefl _)
theorem HOk.kept (x : HOk P w H h) (k : ∀ b u, h.get? b = some u → h'.get? b = some u) : HOk P w H h' := fun a o e =>
  (x a o e).stay (fun b u _ q => k b u q) (fun _ q => q) fun _ _ q => q
theorem HOk.laid (x : HOk P w H h) (k : ∀ b u, h.get? b = some u → h'.get? b = some u) (hp : h.objs.size ≤ a) (new : ObjOk P w (upd H a o) h' a o) : HOk P w (upd H a o) h' := fun b u e => by
  have hn := x.fresh hp
  by_cases hb : b = a
  · subst hb; rw [upd_same] at e; cases e; exact new
  · rw [upd_ne hb] at e
    exact (x b u e).stay (fun c v _ q => k c v q) (fun c q => by rw [upd_ne (ne_of_none q hn)]; exact q) fun c xs q => by rw [upd_ne (ne_of_none q hn)]; exact q
end

noncomputable def Rd (H : Hp) (a : Addr) (u : HO) : Prop := H a = some u ∨ ∃ o, H a = some (.frz o u)
theorem Rd.of {H : Hp} {a : Addr} {u : HO} (h : H a = some u) : Rd H a u := .inl h
theorem Rd.ok {P : Program} {w : World} {H : Hp} {h : Heap} {a : Addr} {u : HO} (r : Rd H a u) (x : HOk P w H h) : ObjOk P w H h a u := by
  rcases r with r | ⟨o, r⟩
  · exact x a u r
  · obtain ⟨_, q⟩ := x a _ r
    exact q
noncomputable def Mut : Option HO → Prop
  | some (.lst _) => True
  | some (.dK _) => True
  | some (.dT _) => True
  | some (.set _ _) => True
  | some (.ins _ _ _) => True
  | some (.ext _) => True
  | _ => False
section
variable {P : Program} {w : World} {H : Hp} {h h' : Heap} {x e : Addr} {o' : HO}
theorem HOk.write (ok : HOk P w H h) (mu : Mut (H x)) (he : e = x ∨ H e = some (.own x)) (k : ∀ b u, b ≠ e → h.get? b = some u → h'.get? b = some u) (heo : ∃ u, h'.get? e = some u)
    (new : ObjOk P w (upd H x o') h' x o') : HOk P w (upd H x o') h' := fun b u q => by
  have nown : ∀ c y, H c = some (.own y) → c ≠ x := fun c y r z => by subst z; rw [r] at mu; exact mu
  have ntup : ∀ c xs, H c = some (.tup xs) → c ≠ x := fun c xs r z => by subst z; rw [r] at mu; exact mu
  by_cases hb : b = x
  · subst hb; rw [upd_same] at q; cases q; exact new
  · rw [upd_ne hb] at q
    by_cases hbe : b = e
    · have q' : H b = some (.own x) := by
        rcases he with z | z
        · exact absurd (hbe.trans z) hb
        · rw [hbe]; exact z
      rw [q] at q'; cases q'
      obtain ⟨v, hv⟩ := heo
      exact ⟨v, by rw [hbe]; exact hv⟩
    · refine (ok b u q).stay (fun c v hc r => k c v ?_ r) (fun c r => by rw [upd_ne (nown c b r)]; exact r) fun c xs r => by rw [upd_ne (ntup c xs r)]; exact r
      rcases hc with rfl | hc
      · exact hbe
      · rintro rfl
        rcases he with z | z
        · exact nown c b hc z
        · rw [hc] at z; cases z; exact hb rfl
end

structure Un (fs ex : List Addr) (H H' : Hp) (h h' : Heap) : Prop where
  keep : ∀ b o, h.get? b = some o → H b = none → b ∉ fs → b ∉ ex → h'.get? b = some o
  slot : ∀ b o, h.get? b = some o → H b = none → b ∈ fs → b ∉ ex → ∃ sl, h'.get? b = some { o with slots := sl }
  free : ∀ b o, h.get? b = some o → H b = none → b ∉ ex → H' b = none
  there : ∀ b o, h.get? b = some o → b ∉ ex → ∃ o', h'.get? b = some o'
  tups : ∀ b xs, H b = some (.tup xs) → H' b = some (.tup xs)
  frzs : ∀ b o u, H b = some (.frz o u) → H' b = some (.frz o u)
  tbls : ∀ b ps, H b = some (.tbl ps) → ∃ more, H' b = some (.tbl (ps ++ more))
section
variable {fs fs' ex ex' : List Addr} {H H1 H2 : Hp} {h h1 h2 h' : Heap} {a x e : Addr} {o : HO}
theorem Un.any (u : Un fs ex H H1 h h1) {b : Addr} {ob : Obj} (q : h.get? b = some ob) (n : H b = none) (hx : b ∉ ex) : ∃ sl, h1.get? b = some { ob with slots := sl } := by
  by_cases hb : b ∈ fs
  · exact u.slot b ob q n hb hx
  · exact ⟨ob.slots, u.keep b ob q n hb hx⟩
theorem Un.trans (a : Un fs ex H H1 h h1) (b : Un fs ex H1 H2 h1 h2) : Un fs ex H H2 h h2 where
  keep := fun c ob q n hc hx => b.keep c ob (a.keep c ob q n hc hx) (a.free c ob q n hx) hc hx
  slot := fun c ob q n hc hx => by
    obtain ⟨sl, e1⟩ := a.slot c ob q n hc hx
    obtain ⟨sl', e2⟩ := b.slot c _ e1 (a.free c ob q n hx) hc hx
    exact ⟨sl', e2⟩
  free := fun c ob q n hx => by
    obtain ⟨o', e1⟩ := a.there c ob q hx
    exact b.free c o' e1 (a.free c ob q n hx) hx
  there := fun c ob q hx => by
    obtain ⟨o', e1⟩ := a.there c ob q hx
    exact b.there c o' e1 hx
  tups := fun c xs q => b.tups c xs (a.tups c xs q)
  frzs := fun c ob xs q => b.frzs c ob xs (a.frzs c ob xs q)
  tbls := fun c ps q => by
    obtain ⟨m1, e1⟩ := a.tbls c ps q
    obtain ⟨m2, e2⟩ := b.tbls c _ e1
    exact ⟨m1 ++ m2, by rw [e2, Array.append_assoc]⟩
theorem Un.kept (k : ∀ b u, h.get? b = some u → h'.get? b = some u) : Un fs ex H H h h' :=
  ⟨fun b ob q _ _ _ => k b ob q, fun b ob q _ _ _ => ⟨ob.slots, k b ob q⟩, fun _ _ _ n _ => n, fun b ob q _ => ⟨ob, k b ob q⟩, fun _ _ q => q, fun _ _ _ q => q, fun _ ps q => ⟨#[], by rw [q]; simp⟩⟩
theorem Un.refl : Un fs ex H H h h := Un.kept fun _ _ q => q
theorem Un.laid (k : ∀ b u, h.get? b = some u → h'.get? b = some u) (hp : h.objs.size ≤ a) (hn : H a = none) : Un fs ex H (upd H a o) h h' where
  keep := fun b u q _ _ _ => k b u q
  slot := fun b u q _ _ _ => ⟨u.slots, k b u q⟩
  free := fun b u q n _ => by rw [upd_ne (Nat.ne_of_lt (Nat.lt_of_lt_of_le (Heap.lt_size q) hp))]; exact n
  there := fun b u q _ => ⟨u, k b u q⟩
  tups := fun b xs q => by rw [upd_ne (ne_of_none q hn)]; exact q
  frzs := fun b u xs q => by rw [upd_ne (ne_of_none q hn)]; exact q
  tbls := fun b ps q => ⟨#[], by rw [upd_ne (ne_of_none q hn), q]; simp⟩
theorem Un.write (mu : Mut (H x)) (he : e = x ∨ H e = some (.own x)) (k : ∀ b u, b ≠ e → h.get? b = some u → h'.get? b = some u) (heo : ∃ u, h'.get? e = some u) : Un fs ex H (upd H x o) h h' := by
  have hx : ∀ b, H b = none → b ≠ x := fun b n z => by subst z; rw [n] at mu; exact mu
  have hb : ∀ b, H b = none → b ≠ e := fun b n z => by
    subst z
    rcases he with r | r
    · exact hx b n r
    · rw [n] at r; cases r
  have hm : ∀ b u, H b = some u → ¬ Mut (some u) → b ≠ x := fun b u q nm z => by subst z; rw [q] at mu; exact nm mu
  refine ⟨fun b u q n _ _ => k b u (hb b n) q, fun b u q n _ _ => ⟨u.slots, k b u (hb b n) q⟩, fun b u q n _ => by rw [upd_ne (hx b n)]; exact n, fun b u q _ => ?_,
    fun b xs q => by rw [upd_ne (hm b _ q fun z => z)]; exact q, fun b u xs q => by rw [upd_ne (hm b _ q fun z => z)]; exact q, fun b ps q => ⟨#[], by rw [upd_ne (hm b _ q fun z => z), q]; simp⟩⟩
  by_cases hbe : b = e
  · subst hbe; exact heo
  · exact ⟨u, k b u hbe q⟩
theorem Un.mono (u : Un fs ex H H1 h h1) (hs : ∀ b ∈ fs, b ∈ fs') (hx : ∀ b ∈ ex, b ∈ ex') : Un fs' ex' H H1 h h1 :=
  ⟨fun b ob q n hb he => u.keep b ob q n (fun z => hb (hs b z)) fun z => he (hx b z), fun _ _ q n _ he => u.any q n fun z => he (hx _ z), fun b ob q n he => u.free b ob q n fun z => he (hx b z), fun b ob q he => u.there b ob q fun z => he (hx b z), u.tups, u.frzs, u.tbls⟩
end

noncomputable def trk (h : Heap) (H : Hp) : List Addr := (List.range h.objs.size).filter fun a => (H a).isSome
noncomputable def hidT (h : Heap) (H : Hp) : Heap := PySem.W.hideAll h (trk h H)
theorem hidT_size (h : Heap) (H : Hp) : (hidT h H).objs.size = h.objs.size := PySem.W.hideAll_size _ _
theorem hidT_get {h : Heap} {H : Hp} {b : Addr} {o : Obj} (e : h.get? b = some o) (n : H b = none) : (hidT h H).get? b = some o :=
  PySem.W.hideAll_get _ e fun hm => by
    have q : (H b).isSome = true := (List.mem_filter.mp hm).2
    rw [n] at q; simp at q
theorem of_hidT {h : Heap} {H : Hp} {b : Addr} {o : Obj} (e : (hidT h H).get? b = some o) : h.get? b = some o ∧ H b = none := by
  have e' : h.get? b = some o := PySem.W.of_hideAll (trk h H) e
  refine ⟨e', ?_⟩
  cases q : H b with
  | none => rfl
  | some x =>
    have hm : b ∈ trk h H := List.mem_filter.mpr ⟨List.mem_range.mpr (Heap.lt_size e'), by simp [q]⟩
    have z : (hidT h H).get? b = none := PySem.W.hideAll_none (trk h H) hm
    rw [z] at e; cases e

noncomputable def allNews (g h : Heap) (L : Addr) : List (Addr × Obj) := (List.range h.objs.size).filterMap fun a => if a = L ∨ (g.get? a).isSome = true then none else (h.get? a).map fun o => (a, o)
noncomputable def rest (g h : Heap) (L d : Addr) : List (Addr × Obj) := (allNews g h L).filter fun p => decide (p.1 ≠ d)
end L2

namespace L2
open PySem PySem.Spec PyProof.Rows

structure Mod (K : PySem.W.Frag) (mg : Str → Option Value) (base : Heap) : Prop where
  kin : K.In base
  glob : base.Ns mainGlobals mg
  blt : ∃ mb, base.Ns builtinsNs mb ∧ ∀ x : Str, x ≠ "__name__" → mb x = bootBuiltins x
  nolimit : base.NoLimit

structure Cx where
  prog : Program
  w : World
  K : PySem.W.Frag
  mg : Str → Option Value
  base : Heap
  A : Around
  N : List Str
  s₀ : Shared
  H₀ : Hp
  env : Env
  outer : List Env
  stack : List Env
  ex : List Addr
  fn : Str → Bool
  calm : Bool
  pn : List (Addr × Obj)
  xe : Value → Shared → Prop
noncomputable def frs (l : List Env) : List Addr := l.filterMap (·.frame)
noncomputable abbrev Cx.fs (X : Cx) : List Addr := frs X.outer

noncomputable def Vis (sc : Scope) (x : Str) : Prop := sc.names.lookup x = some .local ∨ sc.names.lookup x = some .cell ∨ sc.names.lookup x = some .free
noncomputable def Loc (sc : Scope) (x : Str) : Prop := sc.names.lookup x = some .local ∨ sc.names.lookup x = some .cell
noncomputable def Look (env : Env) (h : Heap) (m : Str → Option Value) (x : Str) (u : Value) : Prop :=
  (env.kindOf x = some .local ∧ m x = some u) ∨ ((env.kindOf x = some .cell ∨ env.kindOf x = some .free) ∧ ∃ c, env.cells.lookup x = some c ∧ h.IsCell c (some u))

structure Cx.Ok (X : Cx) : Prop where
  mod : Mod X.K X.mg X.base
  kind : X.env.scope.kind = .function
  glob : X.env.globals = mainGlobals
  blt : X.env.builtins = builtinsNs
  above : X.s₀.heap.objs.size ≤ X.env.locals
  inj : ∀ x y c, X.env.cells.lookup x = some c → X.env.cells.lookup y = some c → x = y
  has : ∀ x, (X.env.kindOf x = some .cell ∨ X.env.kindOf x = some .free) → ∃ c, X.env.cells.lookup x = some c
  cab : ∀ x c, X.fn x = true → X.env.cells.lookup x = some c → X.s₀.heap.objs.size ≤ c
  hd : X.calm = true → X.A.handled = none
  frames : X.A.frames = some X.stack
  stk : X.stack = X.outer ∨ (X.stack = X.env :: X.outer ∧ X.env.frame = some X.env.locals)
  exf : ∀ b ∈ X.ex, b ≠ X.env.locals ∧ ∀ x c, X.env.cells.lookup x = some c → c ≠ b
  bs : ∀ b o, X.base.get? b = some o → X.s₀.heap.get? b = some o ∧ X.H₀ b = none
  bsz : X.base.objs.size ≤ X.s₀.heap.objs.size
  noex : ∀ b o, X.base.get? b = some o → b ∉ X.ex
  exfs : ∀ b ∈ X.ex, b ∉ X.fs
  funs : X.s₀.heap.FunFrames X.base X.outer
  frf : ∀ b ∈ X.fs, X.H₀ b = none

structure Inv (X : Cx) (pins : List (Addr × Obj)) (σ : List (Option V)) (H : Hp) (s : Shared) : Prop where
  ok : X.Ok
  os : s.os = X.s₀.os
  bare : AllBare s.gens
  base : Un X.fs X.ex X.H₀ H X.s₀.heap s.heap
  loc : ∃ m, s.heap.Ns X.env.locals m ∧ ∀ (i : Nat) (x : Str) (v : V), X.N[i]? = some x → σ[i]? = some (some v) → Vis X.env.scope x → ∃ u, RelV v u ∧ Look X.env s.heap m x u
  cell : ∀ x c, X.env.cells.lookup x = some c → ∃ v, s.heap.IsCell c v
  free : H X.env.locals = none
  freeC : ∀ x c, X.env.cells.lookup x = some c → H c = none
  pin : ∀ p ∈ X.pn ++ pins, s.heap.get? p.1 = some p.2 ∧ H p.1 = none ∧ p.1 ≠ X.env.locals ∧ p.1 ∉ X.fs ∧ ∀ v, p.2.data ≠ .cell v
  hok : HOk X.prog X.w H s.heap
  len : σ.length = X.N.length

section
variable {X : Cx} {pins : List (Addr × Obj)} {σ : List (Option V)} {H H' : Hp} {s : Shared} {h' : Heap}

theorem Cx.Ok.nofr (ok : X.Ok) {b : Addr} {o : Obj} (e : X.base.get? b = some o) : b ∉ X.fs := fun hb => by
  have := (ok.funs.mem hb).1
  rw [e] at this; cases this
theorem Inv.bs (I : Inv X pins σ H s) : ∀ b o, X.base.get? b = some o → s.heap.get? b = some o ∧ H b = none := fun b o e =>
  ⟨I.base.keep b o (I.ok.bs b o e).1 (I.ok.bs b o e).2 (I.ok.nofr e) (I.ok.noex b o e), I.base.free b o (I.ok.bs b o e).1 (I.ok.bs b o e).2 (I.ok.noex b o e)⟩
theorem Inv.bk (I : Inv X pins σ H s) : ∀ b o, X.base.get? b = some o → s.heap.get? b = some o := fun b o e => (I.bs b o e).1
theorem Inv.mod (I : Inv X pins σ H s) : Mod X.K X.mg X.base := I.ok.mod
theorem Inv.kIn (I : Inv X pins σ H s) : X.K.In s.heap := I.ok.mod.kin.keeps I.bk
theorem Inv.nolimit (I : Inv X pins σ H s) : s.heap.NoLimit := I.ok.mod.nolimit.keeps I.bk
theorem Inv.fr (I : Inv X pins σ H s) : ∃ m, Fr X.base X.env.locals s.heap m :=
  let ⟨m, hn, _⟩ := I.loc
  ⟨m, hn, I.bk, Nat.le_trans I.ok.bsz I.ok.above⟩
theorem Inv.lt (I : Inv X pins σ H s) : X.env.locals < s.heap.objs.size := let ⟨_, hn, _⟩ := I.loc; hn.lt
theorem Inv.sz (I : Inv X pins σ H s) : X.s₀.heap.objs.size ≤ s.heap.objs.size := Nat.le_trans I.ok.above (Nat.le_of_lt I.lt)
theorem Inv.nofs (I : Inv X pins σ H s) {a : Addr} (h : s.heap.objs.size ≤ a) : a ∉ X.fs := fun hb => by
  obtain ⟨_, o, ho, _⟩ := I.ok.funs.mem hb
  exact absurd (Nat.lt_of_lt_of_le (Heap.lt_size ho) (Nat.le_trans I.sz h)) (Nat.lt_irrefl _)
theorem Inv.cne (I : Inv X pins σ H s) : ∀ x c, X.env.cells.lookup x = some c → c ≠ X.env.locals := fun x c e z => by
  obtain ⟨v, o, ho, hd⟩ := I.cell x c e
  obtain ⟨m, ⟨o', es, ep, ho', hd', _⟩, _⟩ := I.loc
  rw [z, ho'] at ho; cases ho; rw [hd'] at hd; cases hd
theorem Inv.funs (I : Inv X pins σ H s) : s.heap.FunFrames X.base X.outer := by
  have all : ∀ (l : List Env), (∀ b ∈ frs l, b ∈ X.fs) → X.s₀.heap.FunFrames X.base l → s.heap.FunFrames X.base l := by
    intro l
    induction l with
    | nil => intro _ _; trivial
    | cons env r ih =>
      intro hs hl
      obtain ⟨hk, ⟨L, o, hf, hn, ho, hd⟩, hr⟩ := hl
      have hL : L ∈ X.fs := hs L (by unfold frs; rw [List.filterMap_cons, hf]; exact List.mem_cons_self)
      obtain ⟨sl, e⟩ := I.base.slot L o ho (I.ok.frf L hL) hL fun z => I.ok.exfs L z hL
      exact ⟨hk, ⟨L, _, hf, hn, e, hd⟩, ih (fun b hb => hs b (by unfold frs; rw [List.filterMap_cons, hf]; exact List.mem_cons_of_mem _ hb)) hr⟩
  exact all X.outer (fun _ hb => hb) I.ok.funs

theorem Inv.stack (I : Inv X pins σ H s) : s.heap.FunFrames X.base X.stack := by
  rcases I.ok.stk with e | ⟨e, hf⟩
  · rw [e]; exact I.funs
  · rw [e]
    obtain ⟨m, hn, _⟩ := I.loc
    refine .cons (by rw [I.ok.kind]; decide) hf hn ?_ I.funs
    exact Heap.get?_none_of_le (Nat.le_trans I.ok.bsz I.ok.above)
theorem Inv.stkSub (I : Inv X pins σ H s) : ∀ b ∈ frs X.stack, b ∈ X.env.locals :: X.fs := fun b hb => by
  rcases I.ok.stk with e | ⟨e, hf⟩
  · rw [e] at hb; exact List.mem_cons_of_mem _ hb
  · rw [e] at hb
    unfold frs at hb
    rw [List.filterMap_cons, hf] at hb
    exact hb
theorem Inv.stkFree (I : Inv X pins σ H s) : ∀ b ∈ frs X.stack, H b = none := fun b hb => by
  rcases List.mem_cons.mp (I.stkSub b hb) with e | hb
  · rw [e]; exact I.free
  · obtain ⟨_, o, ho, _⟩ := I.ok.funs.mem hb
    exact I.base.free b o ho (I.ok.frf b hb) fun z => I.ok.exfs b z hb

theorem Inv.step {g' : Array GenState} {t' : Nat} {d' : Drawn} {ch : List Addr} (I : Inv X pins σ H s)
    (hch : ∀ b ∈ ch, (b ∈ X.ex ∨ X.s₀.heap.objs.size ≤ b) ∧ b ≠ X.env.locals ∧ (∀ x c, X.env.cells.lookup x = some c → c ≠ b) ∧ ∀ p ∈ X.pn ++ pins, p.1 ≠ b)
    (keep : ∀ b o, b ≠ X.env.locals → b ∉ X.fs → b ∉ ch → s.heap.get? b = some o → H b = none → h'.get? b = some o)
    (slot : ∀ b o, b ≠ X.env.locals → b ∈ X.fs → b ∉ ch → s.heap.get? b = some o → H b = none → ∃ sl, h'.get? b = some { o with slots := sl }) (free : ∀ b o, b ∉ ch → s.heap.get? b = some o → H b = none → H' b = none)
    (there : ∀ b o, b ∉ ch → s.heap.get? b = some o → ∃ o', h'.get? b = some o')
    (tups : ∀ b xs, H b = some (.tup xs) → H' b = some (.tup xs)) (frzs : ∀ b o u, H b = some (.frz o u) → H' b = some (.frz o u)) (tbls : ∀ b ps, H b = some (.tbl ps) → ∃ more, H' b = some (.tbl (ps ++ more)))
    (ns : ∀ m, s.heap.Ns X.env.locals m → h'.Ns X.env.locals m) (hok : HOk X.prog X.w H' h') (hg : AllBare g') :
    Inv X pins σ H' { s with heap := h', gens := g', drawn := d', toks := t' } := by
  have neL : ∀ b o, X.s₀.heap.get? b = some o → b ≠ X.env.locals := fun b o e => Nat.ne_of_lt (Nat.lt_of_lt_of_le (Heap.lt_size e) I.ok.above)
  have neC : ∀ b o, X.s₀.heap.get? b = some o → b ∉ X.ex → b ∉ ch := fun b o e hx hb => by
    rcases (hch b hb).1 with z | z
    · exact hx z
    · exact absurd (Nat.lt_of_lt_of_le (Heap.lt_size e) z) (Nat.lt_irrefl _)
  have cellK : ∀ x c, X.env.cells.lookup x = some c → ∀ v, s.heap.IsCell c v → h'.IsCell c v := fun x c e v ⟨o, ho, hd⟩ => by
    have nch : c ∉ ch := fun z => (hch c z).2.2.1 x c e rfl
    by_cases hc : c ∈ X.fs
    · obtain ⟨sl, q⟩ := slot c o (I.cne x c e) hc nch ho (I.freeC x c e)
      exact ⟨_, q, hd⟩
    · exact ⟨o, keep c o (I.cne x c e) hc nch ho (I.freeC x c e), hd⟩
  refine ⟨I.ok, I.os, hg, ⟨fun b o e n hb hx => ?_, fun b o e n hb hx => ?_, fun b o e n hx => ?_, fun b o e hx => ?_, fun b xs e => tups b xs (I.base.tups b xs e), fun b o xs e => frzs b o xs (I.base.frzs b o xs e), fun b ps e => ?_⟩, ?_, fun x c e => ?_, ?_, fun x c e => ?_, fun p hp => ?_, hok, I.len⟩
  · exact keep b o (neL b o e) hb (neC b o e hx) (I.base.keep b o e n hb hx) (I.base.free b o e n hx)
  · obtain ⟨sl, e1⟩ := I.base.slot b o e n hb hx
    obtain ⟨sl', e2⟩ := slot b _ (neL b o e) hb (neC b o e hx) e1 (I.base.free b o e n hx)
    exact ⟨sl', e2⟩
  · obtain ⟨o', e1⟩ := I.base.there b o e hx
    exact free b o' (neC b o e hx) e1 (I.base.free b o e n hx)
  · obtain ⟨o', e1⟩ := I.base.there b o e hx
    exact there b o' (neC b o e hx) e1
  · obtain ⟨m1, e1⟩ := I.base.tbls b ps e
    obtain ⟨m2, e2⟩ := tbls b _ e1
    exact ⟨m1 ++ m2, by rw [e2, Array.append_assoc]⟩
  · obtain ⟨m, hn, hl⟩ := I.loc
    refine ⟨m, ns m hn, fun i x v e1 e2 e3 => ?_⟩
    obtain ⟨u, r, l⟩ := hl i x v e1 e2 e3
    refine ⟨u, r, ?_⟩
    rcases l with l | ⟨k, c, e, z⟩
    · exact .inl l
    · exact .inr ⟨k, c, e, cellK x c e _ z⟩
  · obtain ⟨v, z⟩ := I.cell x c e
    exact ⟨v, cellK x c e v z⟩
  · obtain ⟨m, ⟨o, _, _, ho, _⟩, _⟩ := I.loc
    exact free _ o (fun z => (hch _ z).2.1 rfl) ho I.free
  · obtain ⟨v, o, ho, hd⟩ := I.cell x c e
    exact free c o (fun z => (hch c z).2.2.1 x c e rfl) ho (I.freeC x c e)
  · obtain ⟨e, n, ne, nf, d⟩ := I.pin p hp
    have nch : p.1 ∉ ch := fun z => (hch p.1 z).2.2.2 p hp rfl
    exact ⟨keep p.1 p.2 ne nf nch e n, free p.1 p.2 nch e n, ne, nf, d⟩
theorem Inv.un {t' : Nat} (I : Inv X pins σ H s) (u : Un X.fs [] H H' s.heap h') (hok : HOk X.prog X.w H' h') : Inv X pins σ H' { s with heap := h', toks := t' } := by
  obtain ⟨m, ⟨o, es, ep, ho, r⟩, _⟩ := id I.loc
  obtain ⟨sl, hL⟩ := u.any ho I.free (by simp)
  exact I.step (g' := s.gens) (d' := s.drawn) (ch := []) (fun _ z => nomatch z) (fun b o _ hb _ e n => u.keep b o e n hb (by simp)) (fun b o _ hb _ e n => u.slot b o e n hb (by simp)) (fun b o _ e n => u.free b o e n (by simp)) (fun b o _ e => u.there b o e (by simp)) u.tups u.frzs u.tbls (fun m' hm => by
    obtain ⟨o', es', ep', ho', r'⟩ := hm
    rw [ho] at ho'; cases ho'
    exact ⟨_, es', ep', hL, r'⟩) hok I.bare
theorem Inv.call {g' : Array GenState} {t' : Nat} {d' : Drawn} {ch : List Addr} (I : Inv X pins σ H s) (u : Un (frs X.stack) ch H H' s.heap h') (hok : HOk X.prog X.w H' h') (hg : AllBare g')
    (hch : ∀ b ∈ ch, (b ∈ X.ex ∨ X.s₀.heap.objs.size ≤ b) ∧ b ≠ X.env.locals ∧ (∀ x c, X.env.cells.lookup x = some c → c ≠ b) ∧ ∀ p ∈ X.pn ++ pins, p.1 ≠ b) :
    Inv X pins σ H' { s with heap := h', gens := g', drawn := d', toks := t' } := by
  obtain ⟨m, ⟨o, es, ep, ho, r⟩, _⟩ := id I.loc
  obtain ⟨sl, hL⟩ := u.any ho I.free fun z => (hch _ z).2.1 rfl
  exact I.step (ch := ch) hch (fun b o hL hb hc e n => u.keep b o e n (fun z => (List.mem_cons.mp (I.stkSub b z)).elim hL hb) hc) (fun b o _ _ hc e n => u.any e n hc) (fun b o hc e n => u.free b o e n hc) (fun b o hc e => u.there b o e hc) u.tups u.frzs u.tbls (fun m' hm => by
    obtain ⟨o', es', ep', ho', r'⟩ := hm
    rw [ho] at ho'; cases ho'
    exact ⟨_, es', ep', hL, r'⟩) hok hg
theorem Inv.turned {t' : Nat} {it : Addr} (I : Inv X pins σ H s) (k : ∀ b o, b ≠ it → s.heap.get? b = some o → h'.get? b = some o) (hn : H it = none) (hL : it ≠ X.env.locals)
    (h1 : it ∈ X.ex ∨ X.s₀.heap.objs.size ≤ it) (h2 : ∀ x c, X.env.cells.lookup x = some c → c ≠ it) (h3 : ∀ p ∈ X.pn ++ pins, p.1 ≠ it) : Inv X pins σ H { s with heap := h', toks := t' } := by
  have nit : ∀ b u, H b = some u → b ≠ it := fun b u e z => by rw [z, hn] at e; cases e
  refine I.step (g' := s.gens) (d' := s.drawn) (ch := [it]) (fun b hb => ?_) (fun b o _ _ hc e _ => k b o (fun z => hc (by simp [z])) e) (fun b o _ _ hc e _ => ⟨o.slots, k b o (fun z => hc (by simp [z])) e⟩) (fun _ _ _ _ n => n)
    (fun b o hc e => ⟨o, k b o (fun z => hc (by simp [z])) e⟩) (fun _ _ e => e) (fun _ _ _ e => e) (fun b ps e => ⟨#[], by rw [e]; simp⟩) (fun m hm => ?_) (fun b u e => ?_) I.bare
  · have e : b = it := by simpa using hb
    subst e
    exact ⟨h1, hL, h2, h3⟩
  · obtain ⟨o, es, ep, ho, r⟩ := hm
    exact ⟨o, es, ep, k _ o (Ne.symm hL) ho, r⟩
  · refine (I.hok b u e).stay (fun c v hc q => k c v ?_ q) (fun _ q => q) fun _ _ q => q
    rcases hc with z | z
    · rw [z]; exact nit b u e
    · exact nit c _ z
theorem Inv.tok (I : Inv X pins σ H s) (t : Nat) : Inv X pins σ H { s with toks := t } := I.un (h' := s.heap) (t' := t) Un.refl I.hok
theorem Inv.kept {t' : Nat} (I : Inv X pins σ H s) (k : ∀ b u, s.heap.get? b = some u → h'.get? b = some u) : Inv X pins σ H { s with heap := h', toks := t' } := I.un (Un.kept k) (I.hok.kept k)
theorem Inv.laid {a : Addr} {o : HO} {t' : Nat} (I : Inv X pins σ H s) (k : ∀ b u, s.heap.get? b = some u → h'.get? b = some u) (hp : s.heap.objs.size ≤ a) (new : ObjOk X.prog X.w (upd H a o) h' a o) :
    Inv X pins σ (upd H a o) { s with heap := h', toks := t' } := I.un (Un.laid k hp (I.hok.fresh hp)) (I.hok.laid k hp new)
theorem Inv.write {x e : Addr} {o : HO} {t' : Nat} (I : Inv X pins σ H s) (mu : Mut (H x)) (he : e = x ∨ H e = some (.own x)) (k : ∀ b u, b ≠ e → s.heap.get? b = some u → h'.get? b = some u) (heo : ∃ u, h'.get? e = some u)
    (new : ObjOk X.prog X.w (upd H x o) h' x o) : Inv X pins σ (upd H x o) { s with heap := h', toks := t' } := I.un (Un.write mu he k heo) (I.hok.write mu he k heo new)
theorem Inv.weak {σ' : List (Option V)} (I : Inv X pins σ H s) (hl : σ'.length = σ.length) (w : ∀ (i : Nat) v, σ'[i]? = some (some v) → σ[i]? = some (some v)) : Inv X pins σ' H s :=
  ⟨I.ok, I.os, I.bare, I.base, let ⟨m, hn, hl'⟩ := I.loc; ⟨m, hn, fun i x v e1 e2 e3 => hl' i x v e1 (w i v e2) e3⟩, I.cell, I.free, I.freeC, I.pin, I.hok, hl.trans I.len⟩
theorem Inv.pins_of {pins' : List (Addr × Obj)} (I : Inv X pins σ H s) (h : ∀ p ∈ pins', s.heap.get? p.1 = some p.2 ∧ H p.1 = none ∧ p.1 ≠ X.env.locals ∧ p.1 ∉ X.fs ∧ ∀ v, p.2.data ≠ .cell v) : Inv X pins' σ H s :=
  ⟨I.ok, I.os, I.bare, I.base, I.loc, I.cell, I.free, I.freeC, fun p hp => (List.mem_append.mp hp).elim (fun z => I.pin p (List.mem_append_left _ z)) (h p), I.hok, I.len⟩

theorem nodup_ix {N : List Str} (hN : N.Nodup) {i j : Nat} {x : Str} (a : N[i]? = some x) (b : N[j]? = some x) : i = j := by
  obtain ⟨h1, e1⟩ := List.getElem?_eq_some_iff.mp a
  obtain ⟨h2, e2⟩ := List.getElem?_eq_some_iff.mp b
  exact (List.getElem_inj hN).mp (e1.trans e2.symm)

theorem store_ok2 {M : Model} {A : Around} {E : Value → Shared → Prop} {i : Nat} {x : Str} {v : V} {u : Value} {Q : Unit → Shared → Prop} (I : Inv X pins σ H s) (hN : X.N.Nodup) (hi : X.N[i]? = some x) (hx : Loc X.env.scope x) (r : RelV v u)
    (h : ∀ s', Inv X pins (σ.set i (some v)) H s' → (∃ a, Heap.SameBut a s.heap s'.heap ∧ (a = X.env.locals ∨ X.env.cells.lookup x = some a)) → Q () s') (hf : X.fn x = true ∨ X.env.scope.names.lookup x = some .local := by first | exact .inl rfl | exact .inr rfl | assumption) : wpAny M A (storeName X.env x u) Q E s := by
  obtain ⟨m, hn, hl⟩ := id I.loc
  have hcls : (X.env.scope.kind == .class || (X.env.scope.kind == .module && X.env.locals != X.env.globals)) = false := by rw [I.ok.kind]; rfl
  have hiσ : i < σ.length := by rw [I.len]; exact (List.getElem?_eq_some_iff.mp hi).1
  have cne := I.cne
  have tracked : ∀ {a : Addr} {h' : Heap}, (∃ o, s.heap.get? a = some o ∧ H a = none) → Heap.SameBut a s.heap h' → HOk X.prog X.w H h' := fun {a h'} ha hs b ob e => by
    obtain ⟨_, _, hfree⟩ := ha
    refine (I.hok b ob e).stay (fun c w' hc q => (hs.2 c ?_).trans q) (fun _ q => q) fun _ _ q => q
    rintro rfl
    rcases hc with rfl | hc
    · rw [hfree] at e; cases e
    · rw [hfree] at hc; cases hc
  rcases hx with hk | hk
  · refine wpAny_storeName_local hk hn (fun h' hn' hs => ?_) hcls
    obtain ⟨oL, _, _, hoL, _⟩ := id hn
    refine h _ ⟨I.ok, I.os, I.bare, ⟨fun b o e n hb hx => ?_, fun b o e n hb hx => ?_, I.base.free, fun b o e hx => ?_, I.base.tups, I.base.frzs, I.base.tbls⟩, ⟨_, hn', fun j y v' e1 e2 e3 => ?_⟩, fun y c e => ?_, I.free, I.freeC, fun p hp => ?_, tracked ⟨oL, hoL, I.free⟩ hs, by simpa using I.len⟩ ⟨_, hs, .inl rfl⟩
    · exact (hs.2 b (Nat.ne_of_lt (Nat.lt_of_lt_of_le (Heap.lt_size e) I.ok.above))).trans (I.base.keep b o e n hb hx)
    · obtain ⟨sl, e1⟩ := I.base.slot b o e n hb hx
      exact ⟨sl, (hs.2 b (Nat.ne_of_lt (Nat.lt_of_lt_of_le (Heap.lt_size e) I.ok.above))).trans e1⟩
    · obtain ⟨o', e1⟩ := I.base.there b o e hx
      exact ⟨o', (hs.2 b (Nat.ne_of_lt (Nat.lt_of_lt_of_le (Heap.lt_size e) I.ok.above))).trans e1⟩
    · by_cases hj : j = i
      · subst hj
        rw [hi] at e1; cases e1
        rw [List.getElem?_set_self hiσ] at e2
        cases e2
        exact ⟨u, r, .inl ⟨hk, by simp⟩⟩
      · rw [List.getElem?_set_ne (Ne.symm hj)] at e2
        obtain ⟨u', r', q⟩ := hl j y v' e1 e2 e3
        refine ⟨u', r', ?_⟩
        rcases q with ⟨k, e⟩ | ⟨k, c, e, z⟩
        · refine .inl ⟨k, ?_⟩
          have : y ≠ x := fun e => hj (nodup_ix hN e1 (e ▸ hi))
          simp [this, e]
        · exact .inr ⟨k, c, e, z.sameBut hs (cne y c e)⟩
    · obtain ⟨w', z⟩ := I.cell y c e
      exact ⟨w', z.sameBut hs (cne y c e)⟩
    · obtain ⟨e, n, ne, nf, d⟩ := I.pin p hp
      exact ⟨(hs.2 p.1 ne).trans e, n, ne, nf, d⟩
  · have hfn : X.fn x = true := by
      rcases hf with z | z
      · exact z
      · rw [z] at hk; cases hk
    obtain ⟨c, hc⟩ := I.ok.has x (.inl hk)
    obtain ⟨w', z⟩ := I.cell x c hc
    refine wpAny_storeName_cell I.ok.kind hk hc z (fun h' hc' hs => ?_)
    obtain ⟨oc, hoc, hocd⟩ := id z
    refine h { s with heap := h' } ⟨I.ok, I.os, I.bare, ⟨fun b o e n hb hx => ?_, fun b o e n hb hx => ?_, I.base.free, fun b o e hx => ?_, I.base.tups, I.base.frzs, I.base.tbls⟩, ⟨m, hn.sameBut hs (Ne.symm (cne x c hc)), fun j y v' e1 e2 e3 => ?_⟩, fun y c' e => ?_, I.free, I.freeC, fun p hp => ?_, tracked ⟨oc, hoc, I.freeC x c hc⟩ hs, by simpa using I.len⟩ ⟨c, hs, .inr hc⟩
    · exact (hs.2 b (Nat.ne_of_lt (Nat.lt_of_lt_of_le (Heap.lt_size e) (I.ok.cab x c hfn hc)))).trans (I.base.keep b o e n hb hx)
    · obtain ⟨sl, e1⟩ := I.base.slot b o e n hb hx
      exact ⟨sl, (hs.2 b (Nat.ne_of_lt (Nat.lt_of_lt_of_le (Heap.lt_size e) (I.ok.cab x c hfn hc)))).trans e1⟩
    · obtain ⟨o', e1⟩ := I.base.there b o e hx
      exact ⟨o', (hs.2 b (Nat.ne_of_lt (Nat.lt_of_lt_of_le (Heap.lt_size e) (I.ok.cab x c hfn hc)))).trans e1⟩
    · by_cases hj : j = i
      · subst hj
        rw [hi] at e1; cases e1
        rw [List.getElem?_set_self hiσ] at e2
        cases e2
        exact ⟨u, r, .inr ⟨.inl hk, c, hc, hc'⟩⟩
      · rw [List.getElem?_set_ne (Ne.symm hj)] at e2
        obtain ⟨u', r', q⟩ := hl j y v' e1 e2 e3
        refine ⟨u', r', ?_⟩
        rcases q with q | ⟨k, c', e, z'⟩
        · exact .inl q
        · refine .inr ⟨k, c', e, z'.sameBut hs ?_⟩
          rintro rfl
          exact hj (nodup_ix hN e1 (I.ok.inj _ _ _ e hc ▸ hi))
    · by_cases hcc : c' = c
      · subst hcc; exact ⟨_, hc'⟩
      · obtain ⟨w2, z2⟩ := I.cell y c' e
        exact ⟨w2, z2.sameBut hs hcc⟩
    · obtain ⟨e, n, ne, nf, d⟩ := I.pin p hp
      refine ⟨(hs.2 p.1 ?_).trans e, n, ne, nf, d⟩
      intro q
      rw [q, hoc] at e
      have q' : oc = p.2 := Option.some.inj e
      exact d w' (by rw [← q']; exact hocd)
theorem store_ok {M : Model} {A : Around} {E : Value → Shared → Prop} {i : Nat} {x : Str} {v : V} {u : Value} {Q : Unit → Shared → Prop} (I : Inv X pins σ H s) (hN : X.N.Nodup) (hi : X.N[i]? = some x) (hx : Loc X.env.scope x) (r : RelV v u)
    (h : ∀ s', Inv X pins (σ.set i (some v)) H s' → Q () s') (hf : X.fn x = true ∨ X.env.scope.names.lookup x = some .local := by first | exact .inl rfl | exact .inr rfl | assumption) : wpAny M A (storeName X.env x u) Q E s :=
  store_ok2 I hN hi hx r (fun s' I' _ => h s' I') hf
theorem Inv.call' {s' : Shared} {ch : List Addr} (I : Inv X pins σ H s) (ho : s'.os = s.os) (u : Un (frs X.stack) ch H H' s.heap s'.heap) (hok : HOk X.prog X.w H' s'.heap) (hg : AllBare s'.gens)
    (hch : ∀ b ∈ ch, (b ∈ X.ex ∨ X.s₀.heap.objs.size ≤ b) ∧ b ≠ X.env.locals ∧ (∀ x c, X.env.cells.lookup x = some c → c ≠ b) ∧ ∀ p ∈ X.pn ++ pins, p.1 ≠ b) : Inv X pins σ H' s' := by
  obtain ⟨h', g', d', t', o'⟩ := s'
  have e : o' = s.os := ho
  subst e
  exact I.call (g' := g') (t' := t') (d' := d') u hok hg hch
end

noncomputable abbrev XK := Value → Option Addr → Hp → Prop
noncomputable abbrev St := List (Option V)
noncomputable abbrev VK := V → Hp → Prop
noncomputable abbrev TE := St → Hp → VK → Prop
noncomputable abbrev TT := St → Hp → (Bool → Hp → Prop) → Prop
noncomputable abbrev TA := St → Hp → (List V → Hp → Prop) → Prop
structure Ends where
  nx : St → Hp → Prop
  rt : VK
  bk : St → Hp → Prop := fun _ _ => False
  ct : St → Hp → Prop := fun _ _ => False
noncomputable abbrev TS := Ends → St → Hp → Prop

noncomputable def EP (X : Cx) (pins : List (Addr × Obj)) (σ : St) (Q : VK) (u : Value) (s' : Shared) : Prop := ∃ v H', Inv X pins σ H' s' ∧ RelV v u ∧ Q v H'
noncomputable def TP (X : Cx) (pins : List (Addr × Obj)) (σ : St) (Q : Bool → Hp → Prop) (b : Bool) (s' : Shared) : Prop := ∃ H', Inv X pins σ H' s' ∧ Q b H'
noncomputable def AP (X : Cx) (pins : List (Addr × Obj)) (σ : St) (Q : List V → Hp → Prop) (us : List Value) (s' : Shared) : Prop := ∃ vs H', Inv X pins σ H' s' ∧ Vals vs us ∧ Q vs H'
noncomputable def SP (X : Cx) (pins : List (Addr × Obj)) (D : Ends) (f : Flow) (s' : Shared) : Prop :=
  match f with
  | .next => ∃ σ' H', Inv X pins σ' H' s' ∧ D.nx σ' H'
  | .brk => ∃ σ' H', Inv X pins σ' H' s' ∧ D.bk σ' H'
  | .cont => ∃ σ' H', Inv X pins σ' H' s' ∧ D.ct σ' H'
  | .ret u => ∃ v σ' H', Inv X pins σ' H' s' ∧ RelV v u ∧ D.rt v H'

noncomputable def PE (X : Cx) (e : Expr) (t : TE) : Prop :=
  ∀ (pins : List (Addr × Obj)) (s : Shared) (σ : St) (H : Hp) (Q : VK), Inv X pins σ H s → t σ H Q → wpAny (model X.prog X.w) X.A (eval e X.env) (EP X pins σ Q) X.xe s
noncomputable def PT (X : Cx) (e : Expr) (t : TT) : Prop :=
  ∀ (pins : List (Addr × Obj)) (s : Shared) (σ : St) (H : Hp) (Q : Bool → Hp → Prop), Inv X pins σ H s → t σ H Q → wpAny (model X.prog X.w) X.A (isTrue e X.env (eval e X.env)) (TP X pins σ Q) X.xe s
noncomputable def PW (X : Cx) (e : Expr) (t : TT) : Prop :=
  ∀ (whole : Sem Value) (pins : List (Addr × Obj)) (s : Shared) (σ : St) (H : Hp) (Q : Bool → Hp → Prop), Inv X pins σ H s → t σ H Q → wpAny (model X.prog X.w) X.A (isTrue e X.env whole) (TP X pins σ Q) X.xe s
theorem PW.pt {X : Cx} {e : Expr} {t : TT} (h : PW X e t) : PT X e t := h _
noncomputable def PA (X : Cx) (es : List Expr) (t : TA) : Prop :=
  ∀ (pos : Pos) (pins : List (Addr × Obj)) (s : Shared) (σ : St) (H : Hp) (Q : List V → Hp → Prop), Inv X pins σ H s → t σ H Q → wpAny (model X.prog X.w) X.A (spliced (backTo pos (starEach es X.env))) (AP X pins σ Q) X.xe s
noncomputable def PS (X : Cx) (st : Stmt) (t : TS) : Prop :=
  ∀ (pins : List (Addr × Obj)) (s : Shared) (σ : St) (H : Hp) (D : Ends), Inv X pins σ H s → t D σ H → wpAny (model X.prog X.w) X.A (exec st X.env) (SP X pins D) X.xe s
noncomputable def PSs (X : Cx) (st : List Stmt) (t : TS) : Prop :=
  ∀ (pins : List (Addr × Obj)) (s : Shared) (σ : St) (H : Hp) (D : Ends), Inv X pins σ H s → t D σ H → wpAny (model X.prog X.w) X.A (execs st X.env) (SP X pins D) X.xe s
theorem thn {α : Type} {t : Sem α} {Q Q' : α → Shared → Prop} {M : Model} {A : Around} {E : Value → Shared → Prop} {s : Shared} (h : wpAny M A t Q E s) (hQ : ∀ a s, Q a s → Q' a s) : wpAny M A t Q' E s := wpAny_mono h hQ fun _ _ x => x
end L2

namespace L2
open PySem PySem.Spec PyProof.Rows
section
variable {X : Cx}

noncomputable def tVar (i : Nat) : TE := fun σ H Q => ∃ v, σ[i]? = some (some v) ∧ Q v H
noncomputable def tC (v : V) : TE := fun _ H Q => Q v H
theorem pe_var {i : Nat} {x : Str} {pos : Pos} (hN : X.N[i]? = some x) (hv : Vis X.env.scope x) (hd : (x == ("__debug__" : Str)) = false := by decide) (hcd : (x == ("__classdict__" : Str)) = false := by decide) : PE X (.Name x pos) (tVar i) := by
  intro pins s σ H Q I h
  obtain ⟨v, e, h⟩ := h
  obtain ⟨m, hn, hl⟩ := I.loc
  obtain ⟨u, r, l⟩ := hl i x v hN e hv
  have fin : EP X pins σ Q u s := ⟨v, H, I, r, h⟩
  rcases l with ⟨hk, hm⟩ | ⟨hk, c, hc, hcell⟩
  · exact wpAny_Name (wpAny_loadName_local I.ok.kind hk hn hm fin) hd
  · rcases hk with hk | hk
    · exact wpAny_Name (wpAny_loadName_cell I.ok.kind hk hc hcell fin) hd
    · exact wpAny_Name (wpAny_loadName_free I.ok.kind hk hc hcell fin hcd) hd
theorem pe_int {i j pos} : PE X (.Constant (.int i) j pos) (tC (.int i)) := fun _ _ _ H _ I h => wpAny_Constant_int ⟨.int i, H, I.tok _, ⟨_, rfl⟩, h⟩
theorem pe_bl {b j pos} : PE X (.Constant (.bool b) j pos) (tC (.bl b)) := fun _ _ _ H _ I h => Constant_bool ⟨.bl b, H, I, rfl, h⟩
theorem pe_non {j pos} : PE X (.Constant .none j pos) (tC .non) := fun _ _ _ H _ I h => Constant_none ⟨.non, H, I, rfl, h⟩
theorem pe_str {x j pos} : PE X (.Constant (.str x) j pos) (tC (.str x)) := fun _ _ _ H _ I h => Calls.Constant_str ⟨.str x, H, I.tok _, ⟨_, rfl⟩, h⟩

noncomputable def Gl (X : Cx) (x : Str) : Prop := X.env.kindOf x = some .globalImplicit
theorem ld_glob {E : Value → Shared → Prop} {pins : List (Addr × Obj)} {s : Shared} {σ : St} {H : Hp} {x : Str} {u : Value} {pos : Pos} {Q : Value → Shared → Prop} (I : Inv X pins σ H s) (hg : Gl X x) (hm : X.mg x = some u) (h : Q u s)
    (hd : (x == ("__debug__" : Str)) = false := by decide) : wpAny (model X.prog X.w) X.A (eval (.Name x pos) X.env) Q E s :=
  Calls.Name_function_global I.ok.kind hg (Calls.loadGlobal_global (by rw [I.ok.glob]; exact I.mod.glob.keeps I.bk) hm h) hd
theorem ld_blt {E : Value → Shared → Prop} {pins : List (Addr × Obj)} {s : Shared} {σ : St} {H : Hp} {x : Str} {u : Value} {pos : Pos} {Q : Value → Shared → Prop} (I : Inv X pins σ H s) (hg : Gl X x) (hm : X.mg x = none) (hv : bootBuiltins x = some u) (h : Q u s)
    (hn : x ≠ "__name__" := by decide) (hd : (x == ("__debug__" : Str)) = false := by decide) : wpAny (model X.prog X.w) X.A (eval (.Name x pos) X.env) Q E s := by
  obtain ⟨mb, h1, h2⟩ := I.mod.blt
  exact Calls.Name_function_global I.ok.kind hg (Calls.loadGlobal_builtin (by rw [I.ok.glob]; exact I.mod.glob.keeps I.bk) hm (by rw [I.ok.blt]; exact h1.keeps I.bk) ((h2 x hn).trans hv) h) hd
theorem pe_glob {x : Str} {v : V} {u : Value} {pos : Pos} (hg : Gl X x) (hm : X.mg x = some u) (r : RelV v u) (hd : (x == ("__debug__" : Str)) = false := by decide) : PE X (.Name x pos) (tC v) :=
  fun _ _ _ H _ I h => ld_glob I hg hm ⟨v, H, I, r, h⟩ hd
theorem pe_bltn {x : Str} {v : V} {u : Value} {pos : Pos} (hg : Gl X x) (hm : X.mg x = none) (hv : bootBuiltins x = some u) (r : RelV v u) (hn : x ≠ "__name__" := by decide) (hd : (x == ("__debug__" : Str)) = false := by decide) : PE X (.Name x pos) (tC v) :=
  fun _ _ _ H _ I h => ld_blt I hg hm hv ⟨v, H, I, r, h⟩ hn hd

variable {a b : Expr} {ta tb : TE} {pos : Pos}
noncomputable def PC (X : Cx) (op : CmpOp) (a b : Expr) (t : TE) : Prop :=
  ∀ (pins : List (Addr × Obj)) (s : Shared) (σ : St) (H : Hp) (Q : VK), Inv X pins σ H s → t σ H Q →
    wpAny (model X.prog X.w) X.A (eval a X.env) (fun v s₁ => wpAny (model X.prog X.w) X.A (eval b X.env) (fun u s₂ => wpAny (model X.prog X.w) X.A (compareOp op v u) (EP X pins σ Q) X.xe s₂) X.xe s₁) X.xe s
theorem nobehind (b : Expr) {op : CmpOp} (h : op ≠ .In) (h2 : op ≠ .NotIn) : behindInMarks op b = false := by
  have e1 : (op == CmpOp.In) = false := by cases op <;> first | rfl | exact absurd rfl h
  have e2 : (op == CmpOp.NotIn) = false := by cases op <;> first | rfl | exact absurd rfl h2
  cases b <;> simp [behindInMarks, e1, e2]
noncomputable def tB (t : TE) : TT := fun σ H Q => t σ H fun x H1 => ∃ c, x = .bl c ∧ Q c H1
theorem pt_cmp {op : CmpOp} {t : TE} (h : PC X op a b t) (h1 : behindInMarks op b = false := by first | exact nobehind _ (by decide) (by decide) | rfl) : PT X (.Compare a [op] [b] pos) (tB t) := by
  intro pins s σ H Q I hw
  refine wpAny_isTrue_Compare1 (thn (h pins s σ H _ I hw) fun v s1 h1 => thn h1 fun u s2 h2 => thn h2 fun c s3 ⟨x, H1, I1, r1, q1⟩ => ?_) h1
  obtain ⟨d, rfl, q⟩ := q1
  cases r1
  exact wpAny_truthy_bool ⟨H1, I1, q⟩
theorem pt_val {e : Expr} {t : TE} (h : PE X e t) (he : ∀ whole, isTrue e X.env whole = (do let v ← whole; standAt e.pos; holding [v] (truthy v)) := by intro _; rfl) : PT X e (tB t) := by
  intro pins s σ H Q I hw
  refine isTrue_plain (thn (h pins s σ H _ I hw) fun v s1 ⟨x, H1, I1, r1, q1⟩ => ?_) (he _)
  obtain ⟨d, rfl, q⟩ := q1
  cases r1
  exact wpAny_truthy_bool ⟨H1, I1, q⟩

variable {tA tB' : TT} {rest : List Expr}
noncomputable def tAnd (t u : TT) : TT := fun σ H Q => t σ H fun c H1 => if c = true then u σ H1 Q else Q false H1
noncomputable def tOr (t u : TT) : TT := fun σ H Q => t σ H fun c H1 => if c = true then Q true H1 else u σ H1 Q
noncomputable def tNot (t : TT) : TT := fun σ H Q => t σ H fun c H1 => Q (!c) H1
theorem pw_and1 (ha : PT X a tA) : PW X (.BoolOp .And [a] pos) tA := by
  intro wh pins s σ H Q I h
  refine isTrue_and (thn (ha pins s σ H Q I h) fun c s1 e => ?_)
  cases c with
  | true => exact isTrue_and_nil e
  | false => exact e
theorem pw_or1 (ha : PT X a tA) : PW X (.BoolOp .Or [a] pos) tA := by
  intro wh pins s σ H Q I h
  refine isTrue_or (thn (ha pins s σ H Q I h) fun c s1 e => ?_)
  cases c with
  | false => exact isTrue_or_nil e
  | true => exact e
theorem pw_and (ha : PT X a tA) (hb : PW X (.BoolOp .And (b :: rest) pos) tB') : PW X (.BoolOp .And (a :: b :: rest) pos) (tAnd tA tB') := by
  intro wh pins s σ H Q I h
  refine isTrue_and (thn (ha pins s σ H _ I h) fun c s1 ⟨H1, I1, q1⟩ => ?_)
  cases c with
  | true => exact hb wh pins s1 σ H1 Q I1 q1
  | false => exact ⟨H1, I1, q1⟩
theorem pw_or (ha : PT X a tA) (hb : PW X (.BoolOp .Or (b :: rest) pos) tB') : PW X (.BoolOp .Or (a :: b :: rest) pos) (tOr tA tB') := by
  intro wh pins s σ H Q I h
  refine isTrue_or (thn (ha pins s σ H _ I h) fun c s1 ⟨H1, I1, q1⟩ => ?_)
  cases c with
  | true => exact ⟨H1, I1, q1⟩
  | false => exact hb wh pins s1 σ H1 Q I1 q1
theorem pt_not (ha : PT X a tA) : PT X (.UnaryOp .Not a pos) (tNot tA) := by
  intro pins s σ H Q I h
  exact isTrue_not (ha pins s σ H (fun c H1 => Q (!c) H1) I h)
noncomputable def tAndV (ta tb : TE) : TE := fun σ H Q => ta σ H fun x H1 => ∃ c, x = .bl c ∧ if c = true then tb σ H1 Q else Q (.bl false) H1
noncomputable def tOrV (ta tb : TE) : TE := fun σ H Q => ta σ H fun x H1 => ∃ c, x = .bl c ∧ if c = true then Q (.bl true) H1 else tb σ H1 Q
noncomputable def tNotV (ta : TE) : TE := fun σ H Q => ta σ H fun x H1 => ∃ c, x = .bl c ∧ Q (.bl (!c)) H1
theorem pe_one {op} {t : TE} (h : PE X a t) : PE X (.BoolOp op [a] pos) t := fun pins s σ H Q I hw => BoolOp_one (h pins s σ H Q I hw)
theorem pe_and (ha : PE X a ta) (hb : PE X (.BoolOp .And (b :: rest) pos) tb) : PE X (.BoolOp .And (a :: b :: rest) pos) (tAndV ta tb) := by
  intro pins s σ H Q I h
  refine BoolOp_and (thn (ha pins s σ H _ I h) fun v s1 ⟨x, H1, I1, r1, q1⟩ => ?_)
  obtain ⟨c, rfl, q1⟩ := q1
  cases r1
  refine wpAny_truthy_bool ?_
  cases c with
  | true => exact hb pins s1 σ H1 Q I1 q1
  | false => exact ⟨.bl false, H1, I1, rfl, q1⟩
theorem pe_not (ha : PE X a ta) : PE X (.UnaryOp .Not a pos) (tNotV ta) := by
  intro pins s σ H Q I h
  refine UnaryOp_ (thn (ha pins s σ H _ I h) fun v s1 ⟨x, H1, I1, r1, q1⟩ => ?_)
  obtain ⟨c, rfl, q1⟩ := q1
  cases r1
  exact not_of (wpAny_truthy_bool ⟨.bl (!c), H1, I1, rfl, q1⟩)
noncomputable def tIf (t : TT) (ta tb : TE) : TE := fun σ H Q => t σ H fun c H1 => if c = true then ta σ H1 Q else tb σ H1 Q
end
end L2

namespace L2
open PySem PySem.Spec PyProof.Rows

noncomputable def SqL (K : PySem.W.Frag) (H : Hp) (a : Addr) (xs : List V) : Prop :=
  Rd H a (.lst xs) ∨
    ∃ (o : Obj) (its : Array Value) (n : Nat), K.lookup a = some o ∧ o.cls = .type "list" ∧ o.dict = none ∧ o.data = .seq its n ∧ its.size ≤ sizeLine ∧ Vals xs its.toList
noncomputable def SqT (K : PySem.W.Frag) (H : Hp) (a : Addr) (xs : List V) : Prop :=
  Rd H a (.tup xs) ∨
    ∃ (o : Obj) (its : Array Value) (n : Nat), K.lookup a = some o ∧ o.cls = .type "tuple" ∧ o.data = .seq its n ∧ its.size ≤ sizeLine ∧ Vals xs its.toList
noncomputable def absV : Value → Option V
  | .none => some .non
  | .bool b => some (.bl b)
  | .int i _ => some (.int i)
  | .str x _ => some (.str x)
  | .bytes b _ => some (.byt b)
  | .float b _ => some (.flt b)
  | .ref a => some (.ref a)
  | .type n => some (.ty n)
  | _ => none
theorem RelV.abs {x : V} {u : Value} (r : RelV x u) : absV u = some x := by
  cases x with
  | non => cases r; rfl
  | bl _ => cases r; rfl
  | int _ => obtain ⟨t, rfl⟩ := r; rfl
  | str _ => obtain ⟨t, rfl⟩ := r; rfl
  | byt _ => obtain ⟨t, rfl⟩ := r; rfl
  | flt _ => obtain ⟨t, rfl⟩ := r; rfl
  | ref _ => cases r; rfl
  | ty _ => cases r; rfl
theorem RelV.inj {x y : V} {u : Value} (r : RelV x u) (q : RelV y u) : x = y := Option.some.inj (r.abs.symm.trans q.abs)
theorem Vals.inj : ∀ {xs ys : List V} {us : List Value}, Vals xs us → Vals ys us → xs = ys
  | _, _, _, .nil, .nil => rfl
  | _, _, _, .cons r t, .cons r' t' => by rw [r.inj r', Vals.inj t t']
section
variable {X : Cx} {pins : List (Addr × Obj)} {σ : St} {H : Hp} {s : Shared} {a : Addr} {xs ys : List V}
theorem SqL.of {K : PySem.W.Frag} (h : H a = some (.lst xs)) : SqL K H a xs := .inl (.inl h)
theorem SqT.of {K : PySem.W.Frag} (h : H a = some (.tup xs)) : SqT K H a xs := .inl (.inl h)
theorem Inv.list (I : Inv X pins σ H s) (h : SqL X.K H a xs) : ∃ its : List Value, Vals xs its ∧ PlainL s.heap a its.toArray ∧ xs.length ≤ sizeLine := by
  rcases h with h | ⟨o, its, n, hk, hc, hd, hs, hz, r⟩
  · obtain ⟨z, its, n, r, e⟩ := h.ok I.hok
    exact ⟨its, r, ⟨_, n, e, rfl, rfl, rfl⟩, z⟩
  · refine ⟨its.toList, r, ⟨o, n, I.kIn a o hk, hc, hd, by simpa using hs⟩, ?_⟩
    have e := r.length
    simp only [Array.length_toList] at e
    omega
theorem Inv.tuple (I : Inv X pins σ H s) (h : SqT X.K H a xs) : ∃ its : List Value, Vals xs its ∧ IsTup s.heap a its.toArray ∧ xs.length ≤ sizeLine := by
  rcases h with h | ⟨o, its, n, hk, hc, hs, hz, r⟩
  · obtain ⟨z, its, r, p⟩ := h.ok I.hok
    exact ⟨its, r, p, z⟩
  · refine ⟨its.toList, r, ⟨o, I.kIn a o hk, hc, n, by simpa using hs⟩, ?_⟩
    have e := r.length
    simp only [Array.length_toList] at e
    omega
theorem Inv.list_inj (I : Inv X pins σ H s) (h : SqL X.K H a xs) (h' : SqL X.K H a ys) : xs = ys := by
  obtain ⟨its, r, ⟨o, n, e, _, _, d⟩, _⟩ := I.list h
  obtain ⟨its', r', ⟨o', n', e', _, _, d'⟩, _⟩ := I.list h'
  rw [e] at e'; cases e'
  rw [d] at d'
  injection d' with d1 _
  have : its = its' := by simpa using congrArg Array.toList d1
  subst this
  exact r.inj r'
end

noncomputable abbrev Cx.wish (X : Cx) (E : Value → Shared → Prop) : Cx := { X with xe := E }
noncomputable abbrev Cx.nox (X : Cx) : Cx := X.wish fun _ _ => False
theorem Cx.Ok.wish {X : Cx} (ok : X.Ok) (E : Value → Shared → Prop) : (X.wish E).Ok :=
  ⟨ok.mod, ok.kind, ok.glob, ok.blt, ok.above, ok.inj, ok.has, ok.cab, ok.hd, ok.frames, ok.stk, ok.exf, ok.bs, ok.bsz, ok.noex, ok.exfs, ok.funs, ok.frf⟩
theorem Cx.Ok.unwish {X : Cx} {E : Value → Shared → Prop} (ok : (X.wish E).Ok) : X.Ok :=
  ⟨ok.mod, ok.kind, ok.glob, ok.blt, ok.above, ok.inj, ok.has, ok.cab, ok.hd, ok.frames, ok.stk, ok.exf, ok.bs, ok.bsz, ok.noex, ok.exfs, ok.funs, ok.frf⟩
section
variable {X : Cx} {pins : List (Addr × Obj)} {σ : St} {H : Hp} {s : Shared} {E : Value → Shared → Prop}
theorem Inv.wish (I : Inv X pins σ H s) (E : Value → Shared → Prop) : Inv (X.wish E) pins σ H s := ⟨I.ok.wish E, I.os, I.bare, I.base, I.loc, I.cell, I.free, I.freeC, I.pin, I.hok, I.len⟩
theorem Inv.unwish (I : Inv (X.wish E) pins σ H s) : Inv X pins σ H s := ⟨I.ok.unwish, I.os, I.bare, I.base, I.loc, I.cell, I.free, I.freeC, I.pin, I.hok, I.len⟩
theorem SP.unwish {D : Ends} {f : Flow} {s' : Shared} (h : SP (X.wish E) pins D f s') : SP X pins D f s' := by
  cases f with
  | next => obtain ⟨σ', H', I, q⟩ := h; exact ⟨σ', H', I.unwish, q⟩
  | brk => obtain ⟨σ', H', I, q⟩ := h; exact ⟨σ', H', I.unwish, q⟩
  | cont => obtain ⟨σ', H', I, q⟩ := h; exact ⟨σ', H', I.unwish, q⟩
  | ret u => obtain ⟨v, σ', H', I, r, q⟩ := h; exact ⟨v, σ', H', I.unwish, r, q⟩
theorem PE.nox {e : Expr} {t : TE} (h : PE X.nox e t) : PE X e t := fun pins s σ H Q I hw =>
  wpAny_mono (h pins s σ H Q (I.wish _) hw) (fun _ _ ⟨v, H', I', r, q⟩ => ⟨v, H', I'.unwish, r, q⟩) fun _ _ z => False.elim z
theorem PT.nox {e : Expr} {t : TT} (h : PT X.nox e t) : PT X e t := fun pins s σ H Q I hw =>
  wpAny_mono (h pins s σ H Q (I.wish _) hw) (fun _ _ ⟨H', I', q⟩ => ⟨H', I'.unwish, q⟩) fun _ _ z => False.elim z
theorem PSs.nox {st : List Stmt} {t : TS} (h : PSs X.nox st t) : PSs X st t := fun pins s σ H D I hw =>
  wpAny_mono (h pins s σ H D (I.wish _) hw) (fun _ _ q => q.unwish) fun _ _ z => False.elim z
end

section
variable {X : Cx} {st : Stmt} {rest : List Stmt} {t u : TS} {e : Expr} {te : TE} {pos : Pos}
noncomputable def tNext : TS := fun D σ H => D.nx σ H
noncomputable def tSeq (t u : TS) : TS := fun D σ H => t { D with nx := u D } σ H
theorem pss_nil : PSs X [] tNext := fun _ _ σ H _ I h => wpAny_execs_nil ⟨σ, H, I, h⟩
theorem pss_cons (h1 : PS X st t) (h2 : PSs X rest u) : PSs X (st :: rest) (tSeq t u) := by
  intro pins s σ H D I h
  refine wpAny_execs_cons (thn (h1 pins s σ H { D with nx := u D } I h) fun f s1 q => ?_)
  cases f with
  | next =>
    obtain ⟨σ', H', I', q⟩ := q
    exact h2 pins s1 σ' H' D I' q
  | ret v => exact q
  | brk => exact q
  | cont => exact q
theorem pss_one (h1 : PS X st t) : PSs X [st] t := by
  intro pins s σ H D I h
  refine wpAny_execs_cons (thn (h1 pins s σ H D I h) fun f s1 q => ?_)
  cases f with
  | next => exact wpAny_execs_nil q
  | ret v => exact q
  | brk => exact q
  | cont => exact q
noncomputable def tBreak : TS := fun D σ H => D.bk σ H
noncomputable def tCont : TS := fun D σ H => D.ct σ H
theorem Inv.quiet {pins : List (Addr × Obj)} {σ : St} {H : Hp} {s : Shared} (I : Inv X pins σ H s) : interactive X.env = false := by simp [interactive, I.ok.kind]
noncomputable def tDrop (te : TE) : TS := fun D σ H => te σ H fun _ H1 => D.nx σ H1
theorem ps_expr (he : PE X e te) (hs : swapsWith e none pos.line X.env = pure false := by rfl) : PS X (.Expr e pos) (tDrop te) := by
  intro pins s σ H D I h
  exact wpAny_Expr_any (thn (he pins s σ H _ I h) fun v s1 ⟨x, H1, I1, r1, q1⟩ => ⟨σ, H1, I1, q1⟩) I.quiet hs
noncomputable def tRet (te : TE) : TS := fun D σ H => te σ H D.rt
theorem ps_ret (he : PE X e te) : PS X (.Return (some e) pos) (tRet te) := by
  intro pins s σ H D I h
  exact wpAny_Return_some (thn (he pins s σ H _ I h) fun v s1 ⟨x, H1, I1, r1, q1⟩ => ⟨x, σ, H1, I1, r1, q1⟩)
noncomputable def tRetN : TS := fun D _ H => D.rt .non H
noncomputable def tIfS (c : TT) (t u : TS) : TS := fun D σ H => c σ H fun b H1 => if b = true then t D σ H1 else u D σ H1
theorem ps_if {c : Expr} {a b : List Stmt} {tc : TT} (hc : PT X c tc) (ha : PSs X a t) (hb : PSs X b u) : PS X (.If c a b pos) (tIfS tc t u) := by
  intro pins s σ H D I h
  refine wpAny_If (thn (hc pins s σ H _ I h) fun d s1 ⟨H1, I1, q1⟩ => ?_)
  cases d with
  | true => exact ha pins s1 σ H1 D I1 q1
  | false => exact hb pins s1 σ H1 D I1 q1
noncomputable def tNever : TS := fun _ _ _ => False
theorem ps_never : PS X st tNever := fun _ _ _ _ _ _ h => h.elim
end

noncomputable abbrev TG := V → St → Hp → (St → Hp → Prop) → Prop
noncomputable abbrev TGs := List V → St → Hp → (St → Hp → Prop) → Prop
noncomputable def PG (X : Cx) (target : Expr) (t : TG) : Prop :=
  ∀ (pins : List (Addr × Obj)) (s : Shared) (σ : St) (H : Hp) (v : V) (u : Value) (Q : St → Hp → Prop), Inv X pins σ H s → RelV v u → t v σ H Q →
    wpAny (model X.prog X.w) X.A (assign target X.env u) (fun _ s' => ∃ σ' H', Inv X pins σ' H' s' ∧ Q σ' H') X.xe s
noncomputable def PGs (X : Cx) (ts : List Expr) (t : TGs) : Prop :=
  ∀ (pins : List (Addr × Obj)) (s : Shared) (σ : St) (H : Hp) (vs : List V) (us : List Value) (Q : St → Hp → Prop), Inv X pins σ H s → Vals vs us → t vs σ H Q →
    wpAny (model X.prog X.w) X.A (assignInOrder ((assignEach ts X.env).map (·.2)) us) (fun _ s' => ∃ σ' H', Inv X pins σ' H' s' ∧ Q σ' H') X.xe s
noncomputable abbrev TSet := V → V → V → Hp → (Hp → Prop) → Prop
noncomputable def PSet (X : Cx) (t : TSet) : Prop :=
  ∀ (pins : List (Addr × Obj)) (s : Shared) (σ : St) (H : Hp) (o i v : V) (ov iv u : Value) (Q : Hp → Prop), Inv X pins σ H s → RelV o ov → RelV i iv → RelV v u → t o i v H Q →
    wpAny (model X.prog X.w) X.A (setItem ov iv u) (fun _ s' => ∃ H', Inv X pins σ H' s' ∧ Q H') X.xe s
noncomputable abbrev TIp := V → V → Hp → VK → Prop
section
variable {X : Cx} {pos : Pos}
noncomputable def gName (i : Nat) : TG := fun v σ H Q => Q (σ.set i (some v)) H
theorem pg_name {i : Nat} {x : Str} (hN : X.N.Nodup) (hi : X.N[i]? = some x) (hx : Loc X.env.scope x) (hf : X.fn x = true ∨ X.env.scope.names.lookup x = some .local := by first | exact .inl rfl | exact .inr rfl | assumption) : PG X (.Name x pos) (gName i) := by
  intro pins s σ H v u Q I r h
  exact wpAny_assign_Name (store_ok I hN hi hx r (fun s' I' => ⟨_, H, I', h⟩) hf)
noncomputable def gNil : TGs := fun vs σ H Q => vs = [] ∧ Q σ H
noncomputable def gCons (t : TG) (u : TGs) : TGs := fun vs σ H Q => ∃ v r, vs = v :: r ∧ t v σ H fun σ' H' => u r σ' H' Q
theorem pgs_nil : PGs X [] gNil := by
  intro pins s σ H vs us Q I r h
  obtain ⟨e, h⟩ := h
  subst e
  cases r
  exact assignInOrder_nil ⟨σ, H, I, h⟩
theorem pgs_cons {e : Expr} {es : List Expr} {t : TG} {u : TGs} (h1 : PG X e t) (h2 : PGs X es u)
    (hs : (assignEach (e :: es) X.env).map (·.2) = assign e X.env :: (assignEach es X.env).map (·.2) := by rfl) : PGs X (e :: es) (gCons t u) := by
  intro pins s σ H vs us Q I r h
  obtain ⟨v, vr, e1, h⟩ := h
  subst e1
  cases r with
  | cons r rr =>
    rw [hs]
    refine assignInOrder_cons (thn (h1 pins s σ H _ _ _ I r h) fun _ s1 ⟨σ1, H1, I1, q1⟩ => ?_)
    exact h2 pins s1 σ1 H1 _ _ Q I1 rr q1
noncomputable def gTup (K : PySem.W.Frag) (n : Nat) (t : TGs) : TG := fun v σ H Q => ∃ a xs, v = .ref a ∧ SqT K H a xs ∧ xs.length = n ∧ t xs σ H Q
theorem pg_tup {es : List Expr} {k : Nat} {t : TGs} {n : Nat} (hc : X.calm = true) (h : PGs X es t)
    (hn : (assignEach es X.env).length = n := by rfl) (hst : (assignEach es X.env).findIdx? (·.1) = none := by rfl) : PG X (.Tuple es k pos) (gTup X.K n t) := by
  intro pins s σ H v u Q I r hw
  obtain ⟨a, xs, e1, hq, hl, hw⟩ := hw
  subst e1
  cases r
  obtain ⟨its, rv, ht, hz⟩ := I.tuple hq
  refine assign_Tuple_tuple (I.ok.hd hc) ht (by simp [hn, ← hl, rv.length]) hst fun h' hx => ?_
  have I1 : Inv X pins σ H { s with heap := h' } := I.kept (t' := s.toks) fun b o e => hx b o (Nat.ne_of_lt (Heap.lt_size e)) e
  exact h pins _ σ H xs _ Q I1 (by simpa using rv) hw
noncomputable def gSub (to ti : TE) (t : TSet) : TG := fun v σ H Q => to σ H fun o H1 => ti σ H1 fun i H2 => t o i v H2 fun H3 => Q σ H3
theorem pg_sub {o i : Expr} {to ti : TE} {t : TSet} (ho : PE X o to) (hi : PE X i ti) (hs : PSet X t)
    (ha : ∀ v, assign (.Subscript o i pos) X.env v = (do
      let ov ← holding [v] (eval o X.env)
      let iv ← holding [v, ov] (eval i X.env)
      standAt pos
      holding [v, ov, iv] (setItem ov iv v)
      release [v, ov, iv] []) := by intro _; rfl) : PG X (.Subscript o i pos) (gSub to ti t) := by
  intro pins s σ H v u Q I r h
  rw [ha]
  refine wpAny_bind (wpAny_holding (thn (ho pins s σ H _ I h) fun ov s1 ⟨x, H1, I1, r1, q1⟩ => ?_))
  refine wpAny_bind (wpAny_holding (thn (hi pins s1 σ H1 _ I1 q1) fun iv s2 ⟨y, H2, I2, r2, q2⟩ => ?_))
  refine wpAny_bind (wpAny_standAt (wpAny_bind (wpAny_holding (thn (hs pins s2 σ H2 x y v ov iv u _ I2 r1 r2 r q2) fun _ s3 ⟨H3, I3, q3⟩ => ?_))))
  exact wpAny_release ⟨σ, H3, I3, q3⟩
noncomputable def tAsg (te : TE) (g : TG) : TS := fun D σ H => te σ H fun x H1 => g x σ H1 D.nx
theorem ps_asg {tg e : Expr} {te : TE} {g : TG} (he : PE X e te) (hg : PG X tg g) (hs : swapsWithSole [tg] e pos.line X.env = pure false := by rfl) (hw : swappedStores [tg] e X.env = pure none := by rfl)
    (h1 : (assignEach [tg] X.env).map (·.2) = [assign tg X.env] := by rfl) : PS X (.Assign [tg] e pos) (tAsg te g) := by
  intro pins s σ H D I h
  refine wpAny_Assign_stores (thn (he pins s σ H _ I h) fun v s1 ⟨x, H1, I1, r1, q1⟩ => ?_) hs hw
  rw [h1]
  exact thn (hg pins s1 σ H1 x v _ I1 r1 q1) fun _ s2 q => q
theorem ps_set {i : Nat} {x : Str} {e : Expr} {te : TE} {pos' : Pos} (hN : X.N.Nodup) (hi : X.N[i]? = some x) (hx : Loc X.env.scope x) (he : PE X e te) (hs : swapsWith e (some (.Name x pos')) pos.line X.env = pure false := by rfl) (hf : X.fn x = true ∨ X.env.scope.names.lookup x = some .local := by first | exact .inl rfl | exact .inr rfl | assumption) :
    PS X (.Assign [.Name x pos'] e pos) (tAsg te (gName i)) := by
  intro pins s σ H D I h
  refine wpAny_Assign_Name (thn (he pins s σ H _ I h) fun v s1 ⟨y, H1, I1, r1, q1⟩ => ?_) hs
  exact store_ok I1 hN hi hx r1 (fun s2 I2 => ⟨_, H1, I2, q1⟩) hf
noncomputable def tPar (i j : Nat) (ta : TA) : TS := fun D σ H => ta σ H fun vs H1 => ∃ v w, vs = [v, w] ∧ D.nx ((σ.set i (some v)).set j (some w)) H1
theorem ps_par {i j : Nat} {x y : Str} {a b : Expr} {ta : TA} {px py pt : Pos} {kt k2 pt2} (hc : X.calm = true) (hN : X.N.Nodup) (hi : X.N[i]? = some x) (hj : X.N[j]? = some y) (hij : i ≠ j)
    (hx : X.env.scope.names.lookup x = some .local) (hy : X.env.scope.names.lookup y = some .local) (ha : PA X [a, b] ta)
    (hw : swappedStores [.Tuple [.Name x px, .Name y py] kt pt] (.Tuple [a, b] k2 pt2) X.env = pure (some [x, y]))
    (hs : swapsWithSole [.Tuple [.Name x px, .Name y py] kt pt] (.Tuple [a, b] k2 pt2) pos.line X.env = pure false := by rfl) :
    PS X (.Assign [.Tuple [.Name x px, .Name y py] kt pt] (.Tuple [a, b] k2 pt2) pos) (tPar i j ta) := by
  intro pins s σ H D I h
  rw [exec_Assign_arm]
  refine wpAny_bind (wpAny_standAt ?_)
  rw [hs]
  refine wpAny_bind (wpAny_pure ?_)
  rw [if_neg (by decide)]
  refine wpAny_bind (Tuple_ (thn (ha _ pins s σ H _ I h) fun us s1 ⟨vs, H1, I1, r1, q1⟩ => ?_))
  obtain ⟨v, w, e1, q1⟩ := q1
  subst e1
  obtain ⟨u1, u2, rfl, rv, rw'⟩ : ∃ u1 u2, us = [u1, u2] ∧ RelV v u1 ∧ RelV w u2 := by
    cases r1 with
    | cons p q =>
      cases q with
      | cons p' q' =>
        cases q'
        exact ⟨_, _, rfl, p, p'⟩
  refine wpAny_newObj_type ?_ (by show 2 ≤ sizeLine; decide)
  have I2 : Inv X pins σ H1 { s1 with heap := s1.heap.push { cls := .type "tuple", data := .seq [u1, u2].toArray } } := I1.kept (t' := s1.toks) fun b o e => Heap.get?_push_of_some _ e
  rw [hw]
  refine wpAny_bind (wpAny_pure ?_)
  show wpAny (model X.prog X.w) X.A (do rule "assign.swapped-stores"; let items ← unpackItems (.ref s1.heap.objs.size) 2 none; assignInOrder [fun v => bindName X.env y v, fun v => bindName X.env x v] items.reverse; pure Flow.next) _ _ _
  refine wpAny_bind (wpAny_rule (wpAny_bind (unpackItems_tuple (items := #[u1, u2]) (I.ok.hd hc) (IsTup.new s1.heap _) fun h' hx' => ?_)))
  have I3 := I2.kept (h' := h') (t' := s1.toks) fun b o e => hx' b o (Nat.ne_of_lt (Heap.lt_size e)) e
  show wpAny _ _ (assignInOrder [fun v => bindName X.env y v, fun v => bindName X.env x v] [u2, u1] >>= fun _ => pure Flow.next) _ _ _
  refine wpAny_bind (assignInOrder_cons (wpAny_bindName (store_ok I3 hN hj (.inl hy) rw' (fun s2 I4 => ?_) (.inr hy))))
  refine assignInOrder_cons (wpAny_bindName (store_ok I4 hN hi (.inl hx) rv (fun s3 I5 => assignInOrder_nil (wpAny_pure ?_)) (.inr hx)))
  rw [List.set_comm _ _ (Ne.symm hij)] at I5
  exact ⟨_, H1, I5, q1⟩
noncomputable def tAug (i : Nat) (te : TE) (ti : TIp) : TS := fun D σ H => ∃ x, σ[i]? = some (some x) ∧ te σ H fun y H1 => ti x y H1 fun z H2 => D.nx (σ.set i (some z)) H2
noncomputable def ipI (f : Int → Int → Int) : TIp := fun x y H Q => ∃ i j, x = .int i ∧ y = .int j ∧ Q (.int (f i j)) H
end

section
variable {X : Cx} {pos : Pos}
noncomputable def tWhile (c : TT) (tb : TS) : TS := fun D σ H => ∃ W : Nat → St → Hp → Prop, (∃ m, W m σ H) ∧ ∀ m σ H, W m σ H →
  c σ H fun b H1 => if b = true then ∃ N : St → Hp → Prop, (∀ σ' H', N σ' H' → ∃ m', m' < m ∧ W m' σ' H') ∧ tb { D with nx := N, ct := N, bk := D.nx } σ H1 else D.nx σ H1
theorem ps_while {c : Expr} {body : List Stmt} {tc : TT} {tb : TS} (hp : PassesOwn (model X.prog X.w) X.A X.env X.xe) (hc : PT X c tc) (hb : PSs X body tb) : PS X (.While c body [] pos) (tWhile tc tb) := by
  intro pins s σ H D I h
  obtain ⟨W, ⟨m0, w0⟩, turn⟩ := h
  refine wpAny_While (codeAny_whileLoop (fun n s' => ∃ σ' H', Inv X pins σ' H' s' ∧ W n σ' H') ?_ m0 ⟨σ, H, I, w0⟩)
  rintro n s1 ⟨σ1, H1, I1, w1⟩
  refine wpAny_passesOwn hp (thn (hc pins s1 σ1 H1 _ I1 (turn n σ1 H1 w1)) fun b s2 ⟨H2, I2, q2⟩ => ?_)
  cases b with
  | true =>
    obtain ⟨N, hN, q2⟩ := q2
    rw [if_pos rfl]
    refine wpAny_passesOwn hp (thn (hb pins s2 σ1 H2 _ I2 q2) fun f s3 q3 => ?_)
    cases f with
    | next =>
      obtain ⟨σ3, H3, I3, n3⟩ := q3
      obtain ⟨m', hm, w3⟩ := hN σ3 H3 n3
      exact ⟨m', hm, σ3, H3, I3, w3⟩
    | cont =>
      obtain ⟨σ3, H3, I3, n3⟩ := q3
      obtain ⟨m', hm, w3⟩ := hN σ3 H3 n3
      exact ⟨m', hm, σ3, H3, I3, w3⟩
    | brk => exact q3
    | ret v => exact q3
  | false =>
    rw [if_neg Bool.false_ne_true]
    exact wpAny_execs_nil ⟨σ1, H2, I2, q2⟩
end

structure It where
  go : Nat → Hp → Prop
  yld : Nat → Hp → V → Hp → Prop
  stop : Nat → Hp → Prop
noncomputable def FpOk (X : Cx) (pins : List (Addr × Obj)) (H : Hp) (b : Addr) : Prop :=
  H b = none ∧ b ≠ X.env.locals ∧ b ∉ X.fs ∧ (b ∈ X.ex ∨ X.s₀.heap.objs.size ≤ b) ∧ (∀ x c, X.env.cells.lookup x = some c → c ≠ b) ∧ ∀ p ∈ X.pn ++ pins, p.1 ≠ b
theorem Inv.fpOk {X : Cx} {pins : List (Addr × Obj)} {σ : St} {H H' : Hp} {s : Shared} {b : Addr} (I : Inv X pins σ H s) (hb : s.heap.objs.size ≤ b) (hn : H' b = none) : FpOk X pins H' b := by
  refine ⟨hn, Nat.ne_of_gt (Nat.lt_of_lt_of_le I.lt hb), I.nofs hb, .inr (Nat.le_trans I.sz hb), fun x c e z => ?_, fun p hp z => ?_⟩
  · obtain ⟨v, q⟩ := I.cell x c e
    exact absurd (Nat.lt_of_lt_of_le q.lt (by rw [z]; exact hb)) (Nat.lt_irrefl _)
  · exact absurd (Nat.lt_of_lt_of_le (Heap.lt_size (I.pin p hp).1) (by rw [z]; exact hb)) (Nat.lt_irrefl _)
structure Turn (P : Program) (w : World) (K : PySem.W.Frag) (tg : Expr) (J : It) (fp : List Addr) (it : Addr) (tn : Nat → Heap → Prop) : Prop where
  mem : it ∈ fp
  obj : ∀ i h, tn i h → ∀ b ∈ fp, ∃ o, h.get? b = some o ∧ ∀ v, o.data ≠ .cell v
  keep : ∀ i h h', tn i h → (∀ b ∈ fp, ∀ o, h.get? b = some o → h'.get? b = some o) → tn i h'
  item : ∀ (X : Cx), X.prog = P → X.w = w → X.K = K → X.calm = true → ∀ (i : Nat) (pins : List (Addr × Obj)) (s : Shared) (σ : St) (H : Hp) (E : Value → Shared → Prop), Inv X pins σ H s → (∀ b ∈ fp, FpOk X pins H b) → tn i s.heap → J.go i H →
    wpAny (model P w) X.A (pyNext (.ref it)) (fun r s1 => ∃ u, r = some u ∧
      wpAny (model P w) X.A (letOwnedTupleGo tg (.ref it) u) (fun _ s2 => ∃ x H', Inv X pins σ H' s2 ∧ RelV x u ∧ J.yld i H x H' ∧ tn (i + 1) s2.heap ∧ ∀ b ∈ fp, H' b = none) E s1) E s
  done : ∀ (X : Cx), X.prog = P → X.w = w → X.K = K → X.calm = true → ∀ (i : Nat) (pins : List (Addr × Obj)) (s : Shared) (σ : St) (H : Hp) (E : Value → Shared → Prop), Inv X pins σ H s → (∀ b ∈ fp, FpOk X pins H b) → tn i s.heap → J.stop i H →
    wpAny (model P w) X.A (pyNext (.ref it)) (fun r s1 => r = none ∧ Inv X pins σ H s1) E s
  self : ∀ (A : Around) (i : Nat) (s : Shared) (Q : Value → Shared → Prop) (E : Value → Shared → Prop), tn i s.heap → Q (.ref it) s → wpAny (model P w) A (pyIter (.ref it)) Q E s
noncomputable abbrev TI := St → Hp → (It → Hp → Prop) → Prop
noncomputable def PIE (X : Cx) (pins : List (Addr × Obj)) (σ : St) (tg : Expr) (R : It → Hp → Prop) (itv : Value) (s2 : Shared) : Prop :=
  ∃ (it : Addr) (fp : List Addr) (tn : Nat → Heap → Prop) (J : It) (H' : Hp), itv = .ref it ∧ Inv X pins σ H' s2 ∧ Turn X.prog X.w X.K tg J fp it tn ∧ tn 0 s2.heap ∧ (∀ b ∈ fp, FpOk X pins H' b) ∧ R J H'
noncomputable def PI (X : Cx) (tg iter : Expr) (wi : TI) : Prop :=
  ∀ (pins : List (Addr × Obj)) (s : Shared) (σ : St) (H : Hp) (R : It → Hp → Prop), Inv X pins σ H s → wi σ H R →
    wpAny (model X.prog X.w) X.A (eval iter X.env) (fun v s1 => wpAny (model X.prog X.w) X.A (pyIter v) (PIE X pins σ tg R) X.xe s1) X.xe s

theorem go_of {M : Model} {A : Around} {E : Value → Shared → Prop} {s : Shared} {tg : Expr} {it : Addr} {u : Value} {o : Obj} {n : String} {vs : Array Value} {Q : Unit → Shared → Prop} (ho : s.heap.get? it = some o) (hc : o.cls = .type n) (hd : o.data = .fields vs)
    (hn : ["enumerate", "zip", "dict_itemiterator", "dict_reverseitemiterator", "odict_iterator", "itertools.zip_longest", "itertools.pairwise"].contains n = false) (hQ : Q () s) : wpAny M A (letOwnedTupleGo tg (.ref it) u) Q E s := by
  unfold letOwnedTupleGo
  cases tg <;> first
    | exact wpAny_pure hQ
    | (cases u <;> first
        | exact wpAny_pure hQ
        | (refine wpAny_bind (wpAny_load ho ?_)
           rw [hc, hd]
           show wpAny M A (if (["enumerate", "zip", "dict_itemiterator", "dict_reverseitemiterator", "odict_iterator", "itertools.zip_longest", "itertools.pairwise"].contains n && vs[0]? == some (rawInt _)) = true then _ else _) Q E s
           rw [if_neg (by intro h; rw [hn, Bool.false_and] at h; cases h)]
           exact wpAny_pure hQ))

noncomputable def Itl (K : PySem.W.Frag) (a : Addr) : It :=
  ⟨fun i H => ∃ xs x, SqL K H a xs ∧ xs[i]? = some x, fun i H x H' => H' = H ∧ ∀ xs, SqL K H a xs → xs[i]? = some x, fun i H => ∃ xs, SqL K H a xs ∧ xs.length ≤ i⟩
noncomputable def Itt (K : PySem.W.Frag) (a : Addr) : It :=
  ⟨fun i H => ∃ xs x, SqT K H a xs ∧ xs[i]? = some x, fun i H x H' => H' = H ∧ ∀ xs, SqT K H a xs → xs[i]? = some x, fun i H => ∃ xs, SqT K H a xs ∧ xs.length ≤ i⟩
noncomputable def Itr (lo : Int) (n : Nat) : It := ⟨fun i _ => i < n, fun i H x H' => H' = H ∧ x = .int (lo + i), fun i _ => n ≤ i⟩
theorem turn_list {P : Program} {w : World} {K : PySem.W.Frag} {tg : Expr} (a it : Addr) : Turn P w K tg (Itl K a) [it] it (fun i h => h.IsListIter it a i) where
  mem := by simp
  obj := fun i h st b hb => by
    have e : b = it := by simpa using hb
    subst e
    obtain ⟨o, e, c, d⟩ := st
    exact ⟨o, e, fun v z => by rw [d] at z; cases z⟩
  keep := fun i h h' st k => st.at fun o e => k it (by simp) o e
  item := by
    intro X hP hw hK hc i pins s σ H E I hf st hg
    subst hP hw hK
    obtain ⟨xs, x, hq, hx⟩ := hg
    obtain ⟨its, rv, p, hz⟩ := I.list hq
    obtain ⟨u, hu, ru⟩ := rv.get hx
    obtain ⟨f0, f1, f2, f3, f4, f5⟩ := hf it (by simp)
    refine wpAny_pyNext_list_item st p.isList (x := u) (by simpa using hu) fun h' st' sb => ?_
    have I1 : Inv X pins σ H { s with heap := h' } := I.turned (t' := s.toks) (fun b o hb e => (sb.2 b hb).trans e) f0 f1 f3 f4 f5
    obtain ⟨o, e, c, d⟩ := id st'
    exact ⟨u, rfl, go_of (s := { s with heap := h' }) e c d (by decide) ⟨x, H, I1, ru, ⟨rfl, fun ys hy => by rw [I.list_inj hy hq]; exact hx⟩, st', fun b hb => (hf b hb).1⟩⟩
  done := by
    intro X hP hw hK hc i pins s σ H E I hf st hg
    subst hP hw hK
    obtain ⟨xs, hq, hx⟩ := hg
    obtain ⟨its, rv, p, hz⟩ := I.list hq
    obtain ⟨f0, f1, f2, f3, f4, f5⟩ := hf it (by simp)
    have hl := rv.length
    exact wpAny_pyNext_list_end (I.ok.hd hc) st p.isList (by simp; omega) fun h' eb => ⟨rfl, I.turned (t' := s.toks) (fun b o hb e => eb b o hb e) f0 f1 f3 f4 f5⟩
  self := fun _ _ _ _ _ st h => wpAny_pyIter_listiter st h
theorem turn_range {P : Program} {w : World} {K : PySem.W.Frag} {tg : Expr} (it : Addr) (lo : Int) (n : Nat) : Turn P w K tg (Itr lo n) [it] it (fun i h => IsRangeIter h it (lo + (i : Nat) * 1) ((n : Int) - (i : Nat)) 1) where
  mem := by simp
  obj := fun i h st b hb => by
    have e : b = it := by simpa using hb
    subst e
    exact ⟨_, st, fun v z => by
      have z' : Data.fields _ = Data.cell v := z
      cases z'⟩
  keep := fun i h h' st k => k it (by simp) _ st
  item := by
    intro X hP hw hK hc i pins s σ H E I hf st hg
    subst hP hw hK
    obtain ⟨f0, f1, f2, f3, f4, f5⟩ := hf it (by simp)
    have W := Walks.range (prog := X.prog) (w := X.w) (I.ok.hd hc) it lo 1 n
    refine W.item i s _ _ hg st fun v h' tk hv st' kk => ?_
    obtain ⟨t, rfl⟩ := hv
    have I1 : Inv X pins σ H { s with heap := h', toks := tk } := I.turned (fun b o hb e => kk b o (by simpa using hb) e) f0 f1 f3 f4 f5
    refine ⟨_, rfl, go_of (s := { s with heap := h', toks := tk }) (n := "range_iterator") st' rfl rfl (by decide) ⟨.int (lo + i), H, I1, ⟨t, ?_⟩, ⟨rfl, rfl⟩, st', fun b hb => (hf b hb).1⟩⟩
    rw [Int.mul_one]
  done := by
    intro X hP hw hK hc i pins s σ H E I hf st hg
    subst hP hw hK
    obtain ⟨f0, f1, f2, f3, f4, f5⟩ := hf it (by simp)
    exact wpAny_pyNext_range_end (I.ok.hd hc) st (by have : n ≤ i := hg; omega) fun h' eb => ⟨rfl, I.turned (t' := s.toks) (fun b o hb e => eb b o hb e) f0 f1 f3 f4 f5⟩
  self := fun _ _ _ _ _ st h => wpAny_pyIter_rangeiter st h
end L2

namespace L2
open PySem PySem.Spec PyProof.Rows
section
variable {X : Cx} {tg : Expr}
noncomputable def iList (K : PySem.W.Frag) (tl : TE) : TI := fun σ H R => tl σ H fun x H1 => ∃ a, x = .ref a ∧ (∃ xs, SqL K H1 a xs) ∧ R (Itl K a) H1
noncomputable def iTup (K : PySem.W.Frag) (tl : TE) : TI := fun σ H R => tl σ H fun x H1 => ∃ a, x = .ref a ∧ (∃ xs, SqT K H1 a xs) ∧ R (Itt K a) H1
theorem pi_list {l : Expr} {tl : TE} (hl : PE X l tl) : PI X tg l (iList X.K tl) := by
  intro pins s σ H R I h
  refine thn (hl pins s σ H _ I h) fun v s1 ⟨x, H1, I1, r1, q1⟩ => ?_
  obtain ⟨a, e, ⟨xs, hq⟩, q⟩ := q1
  subst e
  cases r1
  obtain ⟨its, rv, p, hz⟩ := I1.list hq
  refine wpAny_pyIter_list p.isList ?_
  refine ⟨s1.heap.objs.size, [s1.heap.objs.size], _, _, H1, rfl, I1.kept (t' := s1.toks) fun b o e => Heap.get?_push_of_some _ e, turn_list a _, ⟨_, Heap.get?_push_size _ rfl, rfl, rfl⟩, fun b hb => ?_, q⟩
  have e : b = s1.heap.objs.size := by simpa using hb
  subst e
  exact I1.fpOk (Nat.le_refl _) (I1.hok.fresh (Nat.le_refl _))
theorem range_it {pins : List (Addr × Obj)} {σ : St} {H : Hp} {s : Shared} {R : It → Hp → Prop} {E : Value → Shared → Prop} {lo hi : Int} {t u v : Tok} {tk : Nat} (I : Inv X pins σ H s) (h1 : -(2 ^ 62) ≤ lo) (h2 : lo < 2 ^ 62) (h3 : -(2 ^ 62) ≤ hi) (h4 : hi < 2 ^ 62)
    (q : R (Itr lo (hi - lo).toNat) H) : wpAny (model X.prog X.w) X.A (pyIter (.ref s.heap.objs.size)) (PIE X pins σ tg R) E { s with heap := s.heap.push { cls := .type "range", data := .fields #[.int lo t, .int hi u, .int 1 v] }, toks := tk } := by
  refine wpAny_pyIter_range (IsRange.new ..) (small_one h1 h2 h3 h4) ?_
  have I1 : Inv X pins σ H { s with heap := s.heap.push { cls := .type "range", data := .fields #[.int lo t, .int hi u, .int 1 v] }, toks := tk } := I.kept fun b o e => Heap.get?_push_of_some _ e
  refine ⟨(s.heap.push { cls := .type "range", data := .fields #[.int lo t, .int hi u, .int 1 v] }).objs.size, [(s.heap.push { cls := .type "range", data := .fields #[.int lo t, .int hi u, .int 1 v] }).objs.size], _, _, H, rfl,
    I1.kept (t' := tk) fun b o e => Heap.get?_push_of_some _ e, turn_range _ lo (hi - lo).toNat, ?_, fun b hb => ?_, q⟩
  · have e1 : lo + ((0 : Nat) : Int) * 1 = lo := by simp
    have e2 : (((hi - lo).toNat : Nat) : Int) - ((0 : Nat) : Int) = Builtin.Range.rangeSize lo hi 1 := by rw [rangeSize_one]; split <;> omega
    show IsRangeIter _ _ (lo + ((0 : Nat) : Int) * 1) ((((hi - lo).toNat : Nat) : Int) - ((0 : Nat) : Int)) 1
    rw [e1, e2]
    exact Heap.get?_push_size _ rfl
  · have e : b = (s.heap.push { cls := .type "range", data := .fields #[.int lo t, .int hi u, .int 1 v] }).objs.size := by simpa using hb
    subst e
    exact I1.fpOk (Nat.le_refl _) (I1.hok.fresh (Nat.le_refl _))
noncomputable def iRng1 (ta : TA) : TI := fun σ H R => ta σ H fun vs H1 => ∃ j : Int, vs = [.int j] ∧ -(2 ^ 62) ≤ j ∧ j < 2 ^ 62 ∧ R (Itr 0 j.toNat) H1
noncomputable def iRng2 (ta : TA) : TI := fun σ H R => ta σ H fun vs H1 => ∃ i j : Int, vs = [.int i, .int j] ∧ (-(2 ^ 62) ≤ i ∧ i < 2 ^ 62 ∧ -(2 ^ 62) ≤ j ∧ j < 2 ^ 62) ∧ R (Itr i (j - i).toNat) H1
theorem pi_range1 {a : Expr} {ta : TA} {p pos : Pos} (hg : Gl X "range") (hm : X.mg "range" = none) (ha : PA X [a] ta) (hs : starEach [a] X.env = [(false, eval a X.env)] := by rfl) : PI X tg (.Call (.Name "range" p) [a] [] pos) (iRng1 ta) := by
  intro pins s σ H R I h
  refine Call_ (ld_blt I hg hm boot_range (PyProof.Rows.callWith_type1 (thn (ha pos pins s σ H _ I h) fun us s1 ⟨vs, H1, I1, r1, q1⟩ => ?_) hs rfl))
  obtain ⟨j, e, q1, q2, q⟩ := q1
  subst e
  cases r1 with
  | cons r rr =>
    cases rr
    obtain ⟨t, rfl⟩ := r
    exact call_range_1 (range_it I1 (by omega) (by omega) q1 q2 (by simpa using q))
theorem pi_range2 {a b : Expr} {ta : TA} {p pos : Pos} (hg : Gl X "range") (hm : X.mg "range" = none) (ha : PA X [a, b] ta) (hs : starEach [a, b] X.env = [(false, eval a X.env), (false, eval b X.env)] := by rfl) (hs2 : starEach [b] X.env = [(false, eval b X.env)] := by rfl) :
    PI X tg (.Call (.Name "range" p) [a, b] [] pos) (iRng2 ta) := by
  intro pins s σ H R I h
  refine Call_ (ld_blt I hg hm boot_range (PyProof.Rows.callWith_type1 (thn (ha pos pins s σ H _ I h) fun us s1 ⟨vs, H1, I1, r1, q1⟩ => ?_) (by rw [hs, hs2]) (by rw [hs2]; rfl)))
  obtain ⟨i, j, e, ⟨q1, q2, q3, q4⟩, q⟩ := q1
  subst e
  cases r1 with
  | cons r rr =>
    cases rr with
    | cons r' rr =>
      cases rr
      obtain ⟨t, rfl⟩ := r
      obtain ⟨t', rfl⟩ := r'
      exact call_range_2 (range_it I1 q1 q2 q3 q4 q)

noncomputable def tFor (wi : TI) (g : TG) (tb : TS) : TS := fun D σ H => wi σ H fun J H1 => ∃ W : Nat → Nat → St → Hp → Prop, (∃ m, W 0 m σ H1) ∧ ∀ i m σ H, W i m σ H →
  (J.stop i H ∧ D.nx σ H) ∨ (J.go i H ∧ ∃ N : St → Hp → Prop, (∀ σ' H', N σ' H' → ∃ m', m' < m ∧ W (i + 1) m' σ' H') ∧ ∀ x H', J.yld i H x H' → g x σ H' fun σ2 H2 => tb { D with nx := N, ct := N, bk := D.nx } σ2 H2)
noncomputable def pinsAt (fp : List Addr) (h : Heap) : List (Addr × Obj) := fp.filterMap fun b => (h.get? b).map fun o => (b, o)
theorem mem_pinsAt {fp : List Addr} {h : Heap} {b : Addr} {o : Obj} (hb : b ∈ fp) (e : h.get? b = some o) : (b, o) ∈ pinsAt fp h := List.mem_filterMap.mpr ⟨b, hb, by rw [e]; rfl⟩
theorem of_pinsAt {fp : List Addr} {h : Heap} {p : Addr × Obj} (hp : p ∈ pinsAt fp h) : p.1 ∈ fp ∧ h.get? p.1 = some p.2 := by
  obtain ⟨b, hb, e⟩ := List.mem_filterMap.mp hp
  cases q : h.get? b with
  | none => rw [q] at e; cases e
  | some o =>
    rw [q] at e
    have e' : (b, o) = p := Option.some.inj e
    subst e'
    exact ⟨hb, q⟩
theorem Inv.pinned {pins : List (Addr × Obj)} {σ : St} {H : Hp} {s : Shared} {fp : List Addr} (I : Inv X pins σ H s) (hf : ∀ b ∈ fp, FpOk X pins H b) (ho : ∀ b ∈ fp, ∃ o, s.heap.get? b = some o ∧ ∀ v, o.data ≠ .cell v) : Inv X (pins ++ pinsAt fp s.heap) σ H s :=
  I.pins_of fun p hp => (List.mem_append.mp hp).elim (fun z => I.pin p (List.mem_append_right _ z)) fun z => by
    obtain ⟨hb, e⟩ := of_pinsAt z
    obtain ⟨f0, f1, f2, _⟩ := hf p.1 hb
    obtain ⟨o, e', d⟩ := ho p.1 hb
    rw [e] at e'; cases e'
    exact ⟨e, f0, f1, f2, d⟩
theorem Inv.unpinned {pins pl : List (Addr × Obj)} {σ : St} {H : Hp} {s : Shared} (I : Inv X (pins ++ pl) σ H s) : Inv X pins σ H s := I.pins_of fun p hp => I.pin p (List.mem_append_right _ (List.mem_append_left _ hp))
theorem ps_for {iter : Expr} {body : List Stmt} {wi : TI} {g : TG} {tb : TS} {pos : Pos} (hp : PassesOwn (model X.prog X.w) X.A X.env X.xe) (hc : X.calm = true) (hi : PI X tg iter wi) (hg : PG X tg g) (hb : PSs X body tb)
    (hs : ∀ x, foldedSetIterable iter X.env x = pure x := by intro _; rfl) : PS X (.For tg iter body [] pos) (tFor wi g tb) := by
  intro pins s σ H D I h
  refine wpAny_For (thn (hi pins s σ H _ I h) fun v s1 h1 => thn h1 fun itv s2 h2 => ?_) hs
  obtain ⟨it, fp, tn, J, H2, e, I2, T, st2, f2, W, ⟨m0, w0⟩, turn⟩ := h2
  subst e
  -- what stays true of the iterator's objects through the loop
  have stat : ∀ {H' : Hp}, (∀ b ∈ fp, H' b = none) → ∀ b ∈ fp, FpOk X pins H' b := fun hn b hb => ⟨hn b hb, (f2 b hb).2⟩
  refine codeAny_forLoop_any (fun n s' => ∃ i σ' H', Inv X pins σ' H' s' ∧ tn i s'.heap ∧ (∀ b ∈ fp, H' b = none) ∧ W i n σ' H') ?_ m0 ⟨0, σ, H2, I2, st2, fun b hb => (f2 b hb).1, w0⟩
  rintro n s3 ⟨i, σ3, H3, I3, st3, fr3, w3⟩
  rcases turn i n σ3 H3 w3 with ⟨stop, qn⟩ | ⟨go, N, hN, step⟩
  · refine wpAny_passesOwn hp (thn (T.done X rfl rfl rfl hc i pins s3 σ3 H3 X.xe I3 (stat fr3) st3 stop) fun r s4 ⟨hr, I4⟩ => ?_)
    subst hr
    exact wpAny_execs_nil ⟨σ3, H3, I4, qn⟩
  · refine wpAny_passesOwn hp (thn (T.item X rfl rfl rfl hc i pins s3 σ3 H3 X.xe I3 (stat fr3) st3 go) fun r s4 ⟨u, hr, h4⟩ => ?_)
    subst hr
    refine wpAny_passesOwn hp (thn h4 fun _ s5 ⟨x, H5, I5, r5, y5, st5, fr5⟩ => ?_)
    have I5' := I5.pinned (stat fr5) (T.obj _ _ st5)
    refine wpAny_passesOwn hp (thn (hg _ s5 σ3 H5 x u _ I5' r5 (step x H5 y5)) fun _ s6 ⟨σ6, H6, I6, q6⟩ => ?_)
    refine wpAny_passesOwn hp (thn (hb _ s6 σ6 H6 _ I6 q6) fun f s7 q7 => ?_)
    have again : ∀ {σ7 : St} {H7 : Hp}, Inv X (pins ++ pinsAt fp s5.heap) σ7 H7 s7 → N σ7 H7 → ∃ m, m < n ∧ ∃ i σ' H', Inv X pins σ' H' s7 ∧ tn i s7.heap ∧ (∀ b ∈ fp, H' b = none) ∧ W i m σ' H' := fun {σ7 H7} I7 n7 => by
      obtain ⟨m', hm, w7⟩ := hN σ7 H7 n7
      refine ⟨m', hm, i + 1, σ7, H7, I7.unpinned, T.keep _ _ _ st5 fun b hb o e => (I7.pin (b, o) (List.mem_append_right _ (List.mem_append_right _ (mem_pinsAt hb e)))).1, fun b hb => ?_, w7⟩
      obtain ⟨o, e, d⟩ := T.obj _ _ st5 b hb
      exact (I7.pin (b, o) (List.mem_append_right _ (List.mem_append_right _ (mem_pinsAt hb e)))).2.1
    cases f with
    | next => obtain ⟨σ7, H7, I7, n7⟩ := q7; exact again I7 n7
    | cont => obtain ⟨σ7, H7, I7, n7⟩ := q7; exact again I7 n7
    | brk => obtain ⟨σ7, H7, I7, q7⟩ := q7; exact ⟨σ7, H7, I7.unpinned, q7⟩
    | ret v => obtain ⟨x7, σ7, H7, I7, r7, q7⟩ := q7; exact ⟨x7, σ7, H7, I7.unpinned, r7, q7⟩
end

theorem for_list {K : PySem.W.Frag} {a : Addr} {xs : List V} {g : TG} {tb : TS} {D : Ends} {σ : St} {H : Hp} (Pv : Nat → St → Hp → Prop) (h0 : Pv 0 σ H) (hl : ∀ i σ H, i ≤ xs.length → Pv i σ H → SqL K H a xs)
    (hs : ∀ i x σ H, xs[i]? = some x → Pv i σ H → g x σ H fun σ2 H2 => tb { D with nx := Pv (i + 1), ct := Pv (i + 1), bk := D.nx } σ2 H2) (hd : ∀ σ H, Pv xs.length σ H → D.nx σ H) :
    ∃ W : Nat → Nat → St → Hp → Prop, (∃ m, W 0 m σ H) ∧ ∀ i m σ H, W i m σ H →
      ((Itl K a).stop i H ∧ D.nx σ H) ∨ ((Itl K a).go i H ∧ ∃ N : St → Hp → Prop, (∀ σ' H', N σ' H' → ∃ m', m' < m ∧ W (i + 1) m' σ' H') ∧ ∀ x H', (Itl K a).yld i H x H' → g x σ H' fun σ2 H2 => tb { D with nx := N, ct := N, bk := D.nx } σ2 H2) := by
  refine ⟨fun i m σ H => m = xs.length - i ∧ i ≤ xs.length ∧ Pv i σ H, ⟨xs.length, by simp, Nat.zero_le _, h0⟩, ?_⟩
  rintro i m σ H ⟨rfl, hi, p⟩
  have q := hl i σ H hi p
  by_cases hlt : i < xs.length
  · refine .inr ⟨⟨xs, xs[i], q, by simp [hlt]⟩, Pv (i + 1), fun σ' H' p' => ⟨xs.length - (i + 1), by omega, rfl, hlt, p'⟩, fun x H' y => ?_⟩
    obtain ⟨e, y⟩ := y
    subst e
    exact hs i x σ _ (y xs q) p
  · have e : i = xs.length := by omega
    subst e
    exact .inl ⟨⟨xs, q, Nat.le_refl _⟩, hd σ H p⟩
theorem for_range {lo : Int} {n : Nat} {g : TG} {tb : TS} {D : Ends} {σ : St} {H : Hp} (Pv : Nat → St → Hp → Prop) (h0 : Pv 0 σ H)
    (hs : ∀ i σ H, i < n → Pv i σ H → g (.int (lo + i)) σ H fun σ2 H2 => tb { D with nx := Pv (i + 1), ct := Pv (i + 1), bk := D.nx } σ2 H2) (hd : ∀ σ H, Pv n σ H → D.nx σ H) :
    ∃ W : Nat → Nat → St → Hp → Prop, (∃ m, W 0 m σ H) ∧ ∀ i m σ H, W i m σ H →
      ((Itr lo n).stop i H ∧ D.nx σ H) ∨ ((Itr lo n).go i H ∧ ∃ N : St → Hp → Prop, (∀ σ' H', N σ' H' → ∃ m', m' < m ∧ W (i + 1) m' σ' H') ∧ ∀ x H', (Itr lo n).yld i H x H' → g x σ H' fun σ2 H2 => tb { D with nx := N, ct := N, bk := D.nx } σ2 H2) := by
  refine ⟨fun i m σ H => m = n - i ∧ i ≤ n ∧ Pv i σ H, ⟨n, by simp, Nat.zero_le _, h0⟩, ?_⟩
  rintro i m σ H ⟨rfl, hi, p⟩
  by_cases hlt : i < n
  · refine .inr ⟨hlt, Pv (i + 1), fun σ' H' p' => ⟨n - (i + 1), by omega, rfl, hlt, p'⟩, fun x H' y => ?_⟩
    obtain ⟨e, y⟩ := y
    subst e y
    exact hs i σ _ hlt p
  · have e : i = n := by omega
    subst e
    exact .inl ⟨Nat.le_refl _, hd σ H p⟩
end L2

namespace L2
open PySem PySem.Spec PyProof.Rows

noncomputable abbrev R2 := V → V → Hp → VK → Prop
noncomputable def OpR (X : Cx) (f : Value → Value → Sem Value) (r : R2) : Prop :=
  ∀ (pins : List (Addr × Obj)) (s : Shared) (σ : St) (H : Hp) (x y : V) (v u : Value) (Q : VK), Inv X pins σ H s → RelV x v → RelV y u → r x y H Q →
    wpAny (model X.prog X.w) X.A (f v u) (EP X pins σ Q) X.xe s
noncomputable def UnR (X : Cx) (f : Value → Sem Value) (r : V → Hp → VK → Prop) : Prop :=
  ∀ (pins : List (Addr × Obj)) (s : Shared) (σ : St) (H : Hp) (x : V) (v : Value) (Q : VK), Inv X pins σ H s → RelV x v → r x H Q →
    wpAny (model X.prog X.w) X.A (f v) (EP X pins σ Q) X.xe s
noncomputable def CallR (X : Cx) (f : Value) (r : List V → Hp → VK → Prop) : Prop :=
  ∀ (pins : List (Addr × Obj)) (s : Shared) (σ : St) (H : Hp) (xs : List V) (us : List Value) (Q : VK), Inv X pins σ H s → Vals xs us → r xs H Q →
    wpAny (model X.prog X.w) X.A (call f us) (EP X pins σ Q) X.xe s
noncomputable def tOp (r : R2) (ta tb : TE) : TE := fun σ H Q => ta σ H fun x H1 => tb σ H1 fun y H2 => r x y H2 Q
noncomputable def tUn (r : V → Hp → VK → Prop) (ta : TE) : TE := fun σ H Q => ta σ H fun x H1 => r x H1 Q
noncomputable def rI (C : Int → Int → Prop) (g : Int → Int → V) : R2 := fun x y H Q => ∃ i j, x = .int i ∧ y = .int j ∧ C i j ∧ Q (g i j) H
noncomputable def rI0 (g : Int → Int → V) : R2 := fun x y H Q => ∃ i j, x = .int i ∧ y = .int j ∧ Q (g i j) H
noncomputable def rU (g : Int → V) : V → Hp → VK → Prop := fun x H Q => ∃ i, x = .int i ∧ Q (g i) H

section
variable {X : Cx} {a b c : Expr} {ta tb tc : TE} {pos : Pos}

theorem binT (ha : PE X a ta) (hb : PE X b tb) {pins : List (Addr × Obj)} {s : Shared} {σ : St} {H : Hp} {R : V → V → Hp → Prop} (I : Inv X pins σ H s)
    (h : ta σ H fun x H1 => tb σ H1 fun y H2 => R x y H2) {Q : Value → Shared → Prop} {f : Value → Value → Sem Value}
    (hf : ∀ v u s2 x y H2, Inv X pins σ H2 s2 → RelV x v → RelV y u → R x y H2 → wpAny (model X.prog X.w) X.A (f v u) Q X.xe s2) :
    wpAny (model X.prog X.w) X.A (eval a X.env) (fun v s₁ => wpAny (model X.prog X.w) X.A (eval b X.env) (fun u s₂ => wpAny (model X.prog X.w) X.A (f v u) Q X.xe s₂) X.xe s₁) X.xe s := by
  refine thn (ha pins s σ H _ I h) fun v s1 ⟨x, H1, I1, r1, q1⟩ => ?_
  refine thn (hb pins s1 σ H1 _ I1 q1) fun u s2 ⟨y, H2, I2, r2, q2⟩ => ?_
  exact hf v u s2 x y H2 I2 r1 r2 q2

theorem pe_op {op : Operator} {r : R2} (ho : OpR X (binaryOp op) r) (ha : PE X a ta) (hb : PE X b tb) : PE X (.BinOp a op b pos) (tOp r ta tb) := by
  intro pins s σ H Q I h
  exact wpAny_BinOp (binT ha hb I h fun v u s2 x y H2 I2 rx ry q => ho pins s2 σ H2 x y v u Q I2 rx ry q)
theorem pe_un {op : UnaryOp} {r : V → Hp → VK → Prop} (ho : UnR X (unaryOp op) r) (ha : PE X a ta) : PE X (.UnaryOp op a pos) (tUn r ta) := by
  intro pins s σ H Q I h
  exact UnaryOp_ (thn (ha pins s σ H _ I h) fun v s1 ⟨x, H1, I1, r1, q1⟩ => ho pins s1 σ H1 x v Q I1 r1 q1)
theorem opI {f : Value → Value → Sem Value} {C : Int → Int → Prop} {g : Int → Int → Int}
    (rule : ∀ (i j : Int) (t u : Tok) (s : Shared) (Q : Value → Shared → Prop) (E : Value → Shared → Prop), C i j → Q (.int (g i j) s.toks) { s with toks := s.toks + 1 } → wpAny (model X.prog X.w) X.A (f (.int i t) (.int j u)) Q E s) :
    OpR X f (rI C fun i j => .int (g i j)) := by
  intro pins s σ H x y v u Q I rx ry h
  obtain ⟨i, j, rfl, rfl, hc, q⟩ := h
  obtain ⟨t, rfl⟩ := rx
  obtain ⟨t', rfl⟩ := ry
  exact rule i j t t' s _ _ hc ⟨.int (g i j), H, I.tok _, ⟨_, rfl⟩, q⟩
theorem opI0 {f : Value → Value → Sem Value} {g : Int → Int → Int}
    (rule : ∀ (i j : Int) (t u : Tok) (s : Shared) (Q : Value → Shared → Prop) (E : Value → Shared → Prop), Q (.int (g i j) s.toks) { s with toks := s.toks + 1 } → wpAny (model X.prog X.w) X.A (f (.int i t) (.int j u)) Q E s) :
    OpR X f (rI0 fun i j => .int (g i j)) := by
  intro pins s σ H x y v u Q I rx ry h
  obtain ⟨i, j, rfl, rfl, q⟩ := h
  obtain ⟨t, rfl⟩ := rx
  obtain ⟨t', rfl⟩ := ry
  exact rule i j t t' s _ _ ⟨.int (g i j), H, I.tok _, ⟨_, rfl⟩, q⟩
theorem opB0 {f : Value → Value → Sem Value} {g : Int → Int → Bool}
    (rule : ∀ (i j : Int) (t u : Tok) (s : Shared) (Q : Value → Shared → Prop) (E : Value → Shared → Prop), Q (.bool (g i j)) s → wpAny (model X.prog X.w) X.A (f (.int i t) (.int j u)) Q E s) :
    OpR X f (rI0 fun i j => .bl (g i j)) := by
  intro pins s σ H x y v u Q I rx ry h
  obtain ⟨i, j, rfl, rfl, q⟩ := h
  obtain ⟨t, rfl⟩ := rx
  obtain ⟨t', rfl⟩ := ry
  exact rule i j t t' s _ _ ⟨.bl (g i j), H, I, rfl, q⟩

noncomputable def CDiv (i j : Int) : Prop := 0 < j ∧ j < 1073741824
noncomputable def CPow (i j : Int) : Prop := 0 ≤ j ∧ j ≤ 1000000 ∧ i.natAbs < 2 ^ 64
noncomputable def CMul (i j : Int) : Prop := (-(2 ^ 64) < i ∧ i < 2 ^ 64) ∨ (-(2 ^ 64) < j ∧ j < 2 ^ 64)
theorem CMul.ok {i j : Int} (h : CMul i j) : IntMulOk i j := by
  rcases h with ⟨h1, h2⟩ | ⟨h1, h2⟩
  · exact .of_left (intBits_le_64 h1 h2)
  · exact .of_right (intBits_le_64 h1 h2)
theorem op_add : OpR X (binaryOp .Add) (rI0 fun i j => .int (i + j)) := opI0 fun _ _ _ _ _ _ _ q => add_int q
theorem op_sub : OpR X (binaryOp .Sub) (rI0 fun i j => .int (i - j)) := opI0 fun _ _ _ _ _ _ _ q => sub_int q
theorem op_mul : OpR X (binaryOp .Mult) (rI CMul fun i j => .int (i * j)) := opI fun _ _ _ _ _ _ _ hc q => mul_int q hc.ok
theorem op_fdiv : OpR X (binaryOp .FloorDiv) (rI CDiv fun i j => .int (i / j)) := opI fun i j _ _ _ _ _ hc q => by
  have h1 : (0 : Int) < j := hc.1
  have h2 : j < 1073741824 := hc.2
  exact floordiv_int (by omega) (by rw [Int.fdiv_eq_ediv_of_nonneg i (by omega)]; exact q) (.inl (PyProof.noPylong_small (by omega)))
theorem op_mod : OpR X (binaryOp .Mod) (rI (fun _ j => 0 < j) fun i j => .int (i % j)) := opI fun i j _ _ _ _ _ hc q => by
  have h1 : (0 : Int) < j := hc
  exact mod_int' (by omega) (by rw [Int.fmod_eq_emod_of_nonneg i (by omega)]; exact q)
theorem op_pow : OpR X (binaryOp .Pow) (rI CPow fun i j => .int (i ^ j.toNat)) := opI fun _ _ _ _ _ _ _ hc q => pow_int_small hc.1 hc.2.1 hc.2.2 q
theorem unI {f : Value → Sem Value} {g : Int → Int}
    (rule : ∀ (i : Int) (t : Tok) (s : Shared) (Q : Value → Shared → Prop) (E : Value → Shared → Prop), Q (.int (g i) s.toks) { s with toks := s.toks + 1 } → wpAny (model X.prog X.w) X.A (f (.int i t)) Q E s) :
    UnR X f (rU fun i => .int (g i)) := by
  intro pins s σ H x v Q I rx h
  obtain ⟨i, rfl, q⟩ := h
  obtain ⟨t, rfl⟩ := rx
  exact rule i t s _ _ ⟨.int (g i), H, I.tok _, ⟨_, rfl⟩, q⟩
theorem un_neg : UnR X (unaryOp .USub) (rU fun i => .int (-i)) := unI fun _ _ _ _ _ q => neg_int q
end

noncomputable def scal : V → V → Bool
  | .non, .non => true | .non, .int _ => true | .int _, .non => true | .non, .bl _ => true | .bl _, .non => true | .non, .str _ => true | .str _, .non => true
  | .int _, .int _ => true | .bl _, .bl _ => true | .str _, .str _ => true | .byt _, .byt _ => true
  | .int _, .str _ => true | .str _, .int _ => true | .bl _, .str _ => true | .str _, .bl _ => true
  | _, _ => false
noncomputable def rEq : R2 := fun x y H Q => scal x y = true ∧ Q (.bl (decide (x = y))) H
noncomputable def rNe : R2 := fun x y H Q => scal x y = true ∧ Q (.bl (!decide (x = y))) H

theorem dec_int {i j : Int} : decide (V.int i = V.int j) = (i == j) := by
  rw [Bool.eq_iff_iff]
  simp
theorem dec_bl {i j : Bool} : decide (V.bl i = V.bl j) = (i == j) := by
  rw [Bool.eq_iff_iff]
  simp
theorem dec_str {i j : Str} : decide (V.str i = V.str j) = (i == j) := by
  rw [Bool.eq_iff_iff]
  simp
theorem dec_byt {i j : Array UInt8} : decide (V.byt i = V.byt j) = (i.toList == j.toList) := by
  rw [Bool.eq_iff_iff]
  cases i
  cases j
  simp

section
variable {X : Cx} {a b c : Expr} {ta tb tc : TE} {pos : Pos}
theorem fin_bl {pins : List (Addr × Obj)} {σ : St} {H : Hp} {s : Shared} {Q : VK} {k k' : Bool} (I : Inv X pins σ H s) (q : Q (.bl k) H) (e : k = k') : EP X pins σ Q (.bool k') s := by
  subst e
  exact ⟨.bl k, H, I, rfl, q⟩
theorem op_eq : OpR X (compareOp .Eq) rEq := by
  intro pins s σ H x y v u Q I rx ry h
  obtain ⟨hs, q⟩ := h
  cases x with
  | non =>
    cases rx
    cases y with
    | non => cases ry; exact PySem.EqNone.eq_none_none (fin_bl I q (by simp))
    | bl j => cases ry; exact PySem.EqNone.eq_none_bool (fin_bl I q (by simp))
    | int j => obtain ⟨t', rfl⟩ := ry; exact PySem.EqNone.eq_none_int (fin_bl I q (by simp))
    | str j => obtain ⟨t', rfl⟩ := ry; exact PySem.EqNone.eq_none_str (fin_bl I q (by simp))
    | _ => exact absurd (show false = true from hs) Bool.false_ne_true
  | bl i =>
    cases rx
    cases y with
    | non => cases ry; exact PySem.EqNone.eq_bool_none (fin_bl I q (by simp))
    | bl j => cases ry; exact eq_bool (fin_bl I q dec_bl)
    | str j => obtain ⟨t', rfl⟩ := ry; exact PySem.EqMixed.eq_bool_str (fin_bl I q (by simp))
    | _ => exact absurd (show false = true from hs) Bool.false_ne_true
  | int i =>
    obtain ⟨t, rfl⟩ := rx
    cases y with
    | non => cases ry; exact PySem.EqNone.eq_int_none (fin_bl I q (by simp))
    | int j => obtain ⟨t', rfl⟩ := ry; exact eq_int (fin_bl I q dec_int)
    | str j => obtain ⟨t', rfl⟩ := ry; exact PySem.EqMixed.eq_int_str (fin_bl I q (by simp))
    | _ => exact absurd (show false = true from hs) Bool.false_ne_true
  | str i =>
    obtain ⟨t, rfl⟩ := rx
    cases y with
    | non => cases ry; exact PySem.EqNone.eq_str_none (fin_bl I q (by simp))
    | bl j => cases ry; exact PySem.EqMixed.eq_str_bool (fin_bl I q (by simp))
    | int j => obtain ⟨t', rfl⟩ := ry; exact PySem.EqMixed.eq_str_int (fin_bl I q (by simp))
    | str j => obtain ⟨t', rfl⟩ := ry; exact eq_str (fin_bl I q dec_str)
    | _ => exact absurd (show false = true from hs) Bool.false_ne_true
  | byt i =>
    obtain ⟨t, rfl⟩ := rx
    cases y with
    | byt j => obtain ⟨t', rfl⟩ := ry; exact PySem.W.eq_bytes (fin_bl I q dec_byt)
    | _ => exact absurd (show false = true from hs) Bool.false_ne_true
  | _ => cases y <;> exact absurd (show false = true from hs) Bool.false_ne_true
theorem op_ne : OpR X (compareOp .NotEq) rNe := by
  intro pins s σ H x y v u Q I rx ry h
  obtain ⟨hs, q⟩ := h
  cases x with
  | non =>
    cases rx
    cases y with
    | non => cases ry; exact PySem.EqNone.ne_none_none (fin_bl I q (by simp))
    | bl j => cases ry; exact PySem.EqNone.ne_none_bool (fin_bl I q (by simp))
    | int j => obtain ⟨t', rfl⟩ := ry; exact PySem.EqNone.ne_none_int (fin_bl I q (by simp))
    | str j => obtain ⟨t', rfl⟩ := ry; exact PySem.EqNone.ne_none_str (fin_bl I q (by simp))
    | _ => exact absurd (show false = true from hs) Bool.false_ne_true
  | bl i =>
    cases rx
    cases y with
    | non => cases ry; exact PySem.EqNone.ne_bool_none (fin_bl I q (by simp))
    | bl j => cases ry; exact ne_bool (fin_bl I q (congrArg not dec_bl))
    | str j => obtain ⟨t', rfl⟩ := ry; exact PySem.EqMixed.ne_bool_str (fin_bl I q (by simp))
    | _ => exact absurd (show false = true from hs) Bool.false_ne_true
  | int i =>
    obtain ⟨t, rfl⟩ := rx
    cases y with
    | non => cases ry; exact PySem.EqNone.ne_int_none (fin_bl I q (by simp))
    | int j => obtain ⟨t', rfl⟩ := ry; exact ne_int (fin_bl I q (congrArg not dec_int))
    | str j => obtain ⟨t', rfl⟩ := ry; exact PySem.EqMixed.ne_int_str (fin_bl I q (by simp))
    | _ => exact absurd (show false = true from hs) Bool.false_ne_true
  | str i =>
    obtain ⟨t, rfl⟩ := rx
    cases y with
    | non => cases ry; exact PySem.EqNone.ne_str_none (fin_bl I q (by simp))
    | bl j => cases ry; exact PySem.EqMixed.ne_str_bool (fin_bl I q (by simp))
    | int j => obtain ⟨t', rfl⟩ := ry; exact PySem.EqMixed.ne_str_int (fin_bl I q (by simp))
    | str j => obtain ⟨t', rfl⟩ := ry; exact ne_str (fin_bl I q (congrArg not dec_str))
    | _ => exact absurd (show false = true from hs) Bool.false_ne_true
  | byt i =>
    obtain ⟨t, rfl⟩ := rx
    cases y with
    | byt j => obtain ⟨t', rfl⟩ := ry; exact PySem.W.ne_bytes (fin_bl I q (congrArg not dec_byt))
    | _ => exact absurd (show false = true from hs) Bool.false_ne_true
  | _ => cases y <;> exact absurd (show false = true from hs) Bool.false_ne_true

theorem op_lt : OpR X (compareOp .Lt) (rI0 fun i j => .bl (decide (i < j))) := opB0 fun _ _ _ _ _ _ _ q => lt_int q
theorem op_le : OpR X (compareOp .LtE) (rI0 fun i j => .bl (decide (i ≤ j))) := opB0 fun _ _ _ _ _ _ _ q => le_int q
theorem op_gt : OpR X (compareOp .Gt) (rI0 fun i j => .bl (decide (j < i))) := opB0 fun _ _ _ _ _ _ _ q => gt_int q
theorem op_in_str : OpR X (compareOp .In) (fun x y H Q => ∃ i j, x = .str i ∧ y = .str j ∧ Q (.bl (!(Builtin.Str.occurrences j i 0 j.length 1).isEmpty)) H) := by
  intro pins s σ H x y v u Q I rx ry h
  obtain ⟨i, j, rfl, rfl, q⟩ := h
  obtain ⟨t, rfl⟩ := rx
  obtain ⟨t', rfl⟩ := ry
  exact in_str (fin_bl I q rfl)

theorem op_isN : OpR X (compareOp .Is) (fun x y H Q => y = .non ∧ Q (.bl (decide (x = .non))) H) := by
  intro pins s σ H x y v u Q I rx ry h
  obtain ⟨rfl, q⟩ := h
  cases ry
  refine is_none_gen (fin_bl I q ?_)
  cases x <;> first
    | (cases rx; rfl)
    | (obtain ⟨t, rfl⟩ := rx; rfl)
theorem OpR.or {f : Value → Value → Sem Value} {r r' : R2} (h : OpR X f r) (h' : OpR X f r') : OpR X f (fun x y H Q => r x y H Q ∨ r' x y H Q) := by
  intro pins s σ H x y v u Q I rx ry q
  rcases q with q | q
  · exact h pins s σ H x y v u Q I rx ry q
  · exact h' pins s σ H x y v u Q I rx ry q

theorem nomark (b : Expr) {op : CmpOp} (h : op ≠ .In := by decide) (h2 : op ≠ .NotIn := by decide) : behindInMarks op b = false := by
  have e1 : (op == CmpOp.In) = false := by cases op <;> first | rfl | exact absurd rfl h
  have e2 : (op == CmpOp.NotIn) = false := by cases op <;> first | rfl | exact absurd rfl h2
  cases b <;> simp [behindInMarks, e1, e2]
theorem pe_cmpR {op : CmpOp} {r : R2} (ho : OpR X (compareOp op) r) (ha : PE X a ta) (hb : PE X b tb) (hm : behindInMarks op b = false) : PE X (.Compare a [op] [b] pos) (tOp r ta tb) := by
  intro pins s σ H Q I h
  exact wpAny_Compare1 (binT ha hb I h fun v u s2 x y H2 I2 rx ry q => ho pins s2 σ H2 x y v u Q I2 rx ry q) hm
noncomputable def tTest (t : TE) : TT := fun σ H Q => t σ H fun x H' => ∃ k, x = .bl k ∧ Q k H'
theorem pt_cmpR {op : CmpOp} {r : R2} (ho : OpR X (compareOp op) r) (ha : PE X a ta) (hb : PE X b tb) (hm : behindInMarks op b = false) : PT X (.Compare a [op] [b] pos) (tTest (tOp r ta tb)) := by
  intro pins s σ H Q I h
  refine wpAny_isTrue_Compare1 (thn (ha pins s σ H _ I h) fun v s1 ⟨x, H1, I1, r1, q1⟩ => thn (hb pins s1 σ H1 _ I1 q1) fun u s2 ⟨y, H2, I2, r2, q2⟩ =>
    thn (ho pins s2 σ H2 x y v u _ I2 r1 r2 q2) fun c s3 ⟨z, H3, I3, r3, k, e, q3⟩ => ?_) hm
  subst e
  cases r3
  exact wpAny_truthy_bool ⟨H3, I3, q3⟩
noncomputable def tChain (r r' : R2) (ta tb tc : TE) : TE := fun σ H Q => ta σ H fun x H1 => tb σ H1 fun y H2 => r x y H2 fun z H3 => ∃ k, z = .bl k ∧
  (if k = true then tc σ H3 fun w' H4 => r' y w' H4 Q else Q (.bl false) H3)
theorem pe_chain {op op' : CmpOp} {r r' : R2} (ho : OpR X (compareOp op) r) (ho' : OpR X (compareOp op') r') (ha : PE X a ta) (hb : PE X b tb) (hc : PE X c tc)
    (hm : lastMarks [op, op'] [b, c] = false := by with_unfolding_all rfl) : PE X (.Compare a [op, op'] [b, c] pos) (tChain r r' ta tb tc) := by
  intro pins s σ H Q I h
  refine Compare_chain (thn (ha pins s σ H _ I h) fun v s1 ⟨x, H1, I1, r1, q1⟩ => chain_link (thn (hb pins s1 σ H1 _ I1 q1) fun u s2 ⟨y, H2, I2, r2, q2⟩ =>
    thn (ho pins s2 σ H2 x y v u _ I2 r1 r2 q2) fun d s3 ⟨z, H3, I3, r3, k, e, q3⟩ => ?_)) hm
  subst e
  cases r3
  refine wpAny_truthy_bool ?_
  cases k with
  | false => exact ite_ff ⟨.bl false, H3, I3, rfl, q3⟩
  | true => exact ite_tt (chain_last (thn (hc pins s3 σ H3 _ I3 q3) fun w' s4 ⟨z', H4, I4, r4, q4⟩ => ho' pins s4 σ H4 y z' u w' Q I4 r2 r4 q4))
theorem line63 : (sizeLine : Nat) < 2 ^ 63 := by rw [sizeLine_eq]; decide
theorem op_add_str : OpR X (binaryOp .Add) (fun x y H Q => ∃ i j, x = .str i ∧ y = .str j ∧ i.length + j.length ≤ sizeLine ∧ Q (.str (i ++ j)) H) := by
  intro pins s σ H x y v u Q I rx ry h
  obtain ⟨i, j, rfl, rfl, hz, q⟩ := h
  obtain ⟨t, rfl⟩ := rx
  obtain ⟨t', rfl⟩ := ry
  exact add_str (fun t' tk => ⟨.str (i ++ j), H, I.tok _, ⟨_, rfl⟩, q⟩) hz
theorem vals1 {x : V} {us : List Value} (r : Vals [x] us) : ∃ u, us = [u] ∧ RelV x u := by
  cases r with
  | cons r1 r2 => cases r2; exact ⟨_, rfl, r1⟩
theorem vals2 {x y : V} {us : List Value} (r : Vals [x, y] us) : ∃ u w', us = [u, w'] ∧ RelV x u ∧ RelV y w' := by
  cases r with
  | cons r1 r2 =>
    cases r2 with
    | cons r3 r4 => cases r4; exact ⟨_, _, rfl, r1, r3⟩
theorem call_abs : CallR X (.builtin "abs") (fun xs H Q => ∃ i, xs = [.int i] ∧ Q (.int (if i < 0 then -i else i)) H) := by
  intro pins s σ H xs us Q I r h
  obtain ⟨i, rfl, q⟩ := h
  obtain ⟨u, rfl, t, rfl⟩ := vals1 r
  exact call_abs_int fun u tk => ⟨.int (if i < 0 then -i else i), H, I.tok _, ⟨_, rfl⟩, q⟩
end
end L2

namespace L2
open PySem PySem.Spec PyProof.Rows

structure ObjM (h : Heap) (x dx C : Addr) (mA : Str → Option Value) : Prop where
  obj : h.get? x = some (PySem.W.instObj C dx)
  ns : h.Ns1 dx mA
  ne : dx ≠ x

theorem lookIn_ns {h : Heap} {dx : Addr} {mA : Str → Option Value} (n : h.Ns1 dx mA) : ∃ od, h.get? dx = some od ∧ ∀ name, PySem.W.lookIn name od = some (mA name) := by
  obtain ⟨o, es, ep, ho, hd, hk, _, hm⟩ := n
  refine ⟨o, ho, fun name => ?_⟩
  have e := hm name
  unfold nsFind findBy at e
  rw [← Array.find?_toList] at e
  unfold PySem.W.lookIn
  rw [hd]
  dsimp only
  split
  · rename_i y q
    rw [q] at e
    exact congrArg some e
  · rename_i q
    rw [q] at e
    have a : es.toList.any (·.refKey) = false := by
      rw [List.any_eq_false]
      intro y hy
      obtain ⟨z, t, hkey⟩ := hk y (Array.mem_toList_iff.mp hy)
      simp [DictEntry.refKey, hkey]
    have a' : ¬ es.toList.any (·.refKey) = true := by rw [a]; exact Bool.false_ne_true
    rw [if_neg a']
    exact congrArg some e

theorem ObjM.look {h : Heap} {x dx C : Addr} {mA : Str → Option Value} (I : ObjM h x dx C mA) : ∃ od, PySem.W.InstAt h x (PySem.W.instObj C dx) C (some od) ∧ ∀ name, PySem.W.lookIn name od = some (mA name) :=
  let ⟨od, ho, hl⟩ := lookIn_ns I.ns
  ⟨od, ⟨I.obj, rfl, rfl, ho⟩, hl⟩

section
variable {prog : Program} {w : World} {A : Around} {E : Value → Shared → Prop} {s : Shared} {K : PySem.W.Frag} {x dx C f : Addr} {mA : Str → Option Value} {name : Str} {v : Value}

theorem get_map {expr : Bool} {Q : Value → Shared → Prop} (X : K.In s.heap) (I : ObjM s.heap x dx C mA) (hg : PySem.W.plainGet K C name = true) (hh : PySem.W.hasDictIn K C = true)
    (ha : PySem.W.findIn K (.ref C) name = some none) (hv : mA name = some v) (hv' : PySem.W.handedIn v = true) (h : Q v { s with toks := s.toks + 1 }) :
    wpAny (model prog w) A (getAttr (.ref x) name expr) Q E s := by
  obtain ⟨od, J, hl⟩ := I.look
  exact PySem.W.get_value X J (PySem.W.plainGet_of hg).1 (PySem.W.findObj_own hh ha rfl (by rw [hl, hv])) hv' h

theorem get_meth {pl : Sem Bool} {Q : Value × List Value → Shared → Prop} (X : K.In s.heap) (I : ObjM s.heap x dx C mA) (hg : PySem.W.plainGet K C name = true)
    (hf : PySem.W.findIn K (.ref C) name = some (some (.ref f))) (ht : PySem.W.isFn K (.ref f) = true) (hv : mA name = none) (h : Q (.ref f, [.ref x]) s) :
    wpAny (model prog w) A (getMethod (.ref x) name pl) Q E s := by
  obtain ⟨od, J, hl⟩ := I.look
  exact PySem.W.method_fn X J (PySem.W.plainGet_of hg).1 (PySem.W.plainGet_of hg).2 hf (beq_iff_eq.mp ht) (by show (PySem.W.lookIn name od).map (·.isSome) = some false; rw [hl, hv]; rfl) h

theorem set_map {ns : List Str} {Q : Unit → Shared → Prop} (X : K.In s.heap) (I : ObjM s.heap x dx C mA)
    (hs : PySem.W.findIn K (.ref C) "__setattr__" = some (some (.builtin "object.__setattr__"))) (hp : PySem.W.plainOver K C = true) (ht : PySem.W.takerIn K C name = some none) (hh : PySem.W.hasDictIn K C = true)
    (hw : PySem.Within mA ns) (hsz : ns.length ≤ sizeLine)
    (h : ∀ h', ObjM h' x dx C (fun y => if y = name then some v else mA y) → Heap.SameBut dx s.heap h' → Q () { s with heap := h', toks := s.toks + 2 }) :
    wpAny (model prog w) A (setAttr (.ref x) name v) Q E s := by
  obtain ⟨od, J, hl⟩ := I.look
  refine PySem.W.set_plain X J hs (PySem.W.osa_open (s := { s with toks := s.toks + 1 }) (r := none) X J hp ht fun b => ?_)
  obtain ⟨cd, hc, hd'⟩ := PySem.W.any_some hh
  have hx : s.heap.get? x = some ⟨.ref C, some dx, .plain, #[]⟩ := I.obj
  refine wpAny_bind (wpAny_pure (wpAny_bind (wpAny_bind (wpAny_loadPart hx (wpAny_bind (PySem.W.Looks.here (s := { s with toks := s.toks + 1 }) (PySem.W.looks_clsIn X hc) ?_))))))
  rw [hd']
  refine wpAny_pure (a := some dx) (wpAny_bind (wpAny_pure (wpAny_bind ?_)))
  refine wpAny_nsSet1 (s := { s with toks := s.toks + 1 }) I.ns fun h' hn2 hs2 => ?_
  obtain ⟨oD, esD, epD, hoD, hdD, hcD⟩ := hn2.count (PySem.Within.cons name v hw)
  refine wpAny_bind (wpAny_lookBehind hoD (by rw [hdD]; exact pastItsLine_dict (Nat.le_trans hcD (by rw [List.length_cons]; omega))) ?_)
  exact wpAny_pure (h _ ⟨(hs2.2 _ (Ne.symm I.ne)).trans I.obj, hn2, I.ne⟩ hs2)

theorem make_map {R : Result → Shared → Prop} {vs : List Value} {kw : List (Str × Value)} (X : K.In s.heap) (hm : PySem.W.makesIn K C = true)
    (hi : PySem.W.findIn K (.ref C) "__init__" = some (some (.ref f))) (hf : PySem.W.typeIn K (.ref f) = some (.type "function"))
    (h : codeAny (model prog w) (A.under (.builtin "type.__call__" ⟨.ref C :: vs, kw⟩)) (.call (.ref f) ⟨.ref (s.heap.objs.size + 1) :: vs, kw⟩) (PySem.W.InitBack (s.heap.objs.size + 1) R)
      { s with heap := (s.heap.push PySem.W.emptyDict).push (PySem.W.instObj C s.heap.objs.size) }) :
    codeAny (model prog w) A (.call (.ref C) ⟨vs, kw⟩) R s := by
  obtain ⟨hh, g, d, t, os⟩ := s
  exact PySem.W.make_core (PySem.W.makes_of X hm) (PySem.W.looks_findIn X hi) (fun self => PySem.W.bind_fn X self hf) (.inl rfl) h
end

noncomputable def putF (f : Str) (v : V) : List (Str × V) → List (Str × V)
  | [] => [(f, v)]
  | (g, x) :: r => if g = f then (g, v) :: r else (g, x) :: putF f v r
theorem lookup_putF (f g : Str) (v : V) : ∀ fs : List (Str × V), (putF f v fs).lookup g = if g = f then some v else fs.lookup g
  | [] => by
    show List.lookup g [(f, v)] = _
    by_cases h : g = f
    · have hb : (g == f) = true := beq_iff_eq.mpr h
      simp only [List.lookup, hb, if_pos h]
    · have hb : (g == f) = false := beq_eq_false_iff_ne.mpr h
      simp only [List.lookup, hb, if_neg h]
  | (k, x) :: r => by
    have ih := lookup_putF f g v r
    rw [show putF f v ((k, x) :: r) = (if k = f then (k, v) :: r else (k, x) :: putF f v r) from rfl]
    by_cases hk : k = f
    · rw [if_pos hk]
      by_cases h : g = k
      · have hb : (g == k) = true := beq_iff_eq.mpr h
        simp only [List.lookup, hb, if_pos (h.trans hk)]
      · have hb : (g == k) = false := beq_eq_false_iff_ne.mpr h
        simp only [List.lookup, hb, if_neg (fun e : g = f => h (e.trans hk.symm))]
    · rw [if_neg hk]
      by_cases h : g = k
      · have hb : (g == k) = true := beq_iff_eq.mpr h
        simp only [List.lookup, hb, if_neg (fun e : g = f => hk (h.symm.trans e))]
      · have hb : (g == k) = false := beq_eq_false_iff_ne.mpr h
        simp only [List.lookup, hb]
        exact ih
theorem keys_putF (f : Str) (v : V) : ∀ fs : List (Str × V), f ∈ (putF f v fs).map (·.1) ∧ ∀ g, g ∈ fs.map (·.1) → g ∈ (putF f v fs).map (·.1)
  | [] => ⟨by simp [putF], fun g h => by simp at h⟩
  | (k, x) :: r => by
    obtain ⟨i1, i2⟩ := keys_putF f v r
    rw [show putF f v ((k, x) :: r) = (if k = f then (k, v) :: r else (k, x) :: putF f v r) from rfl]
    by_cases hk : k = f
    · rw [if_pos hk]
      subst hk
      exact ⟨by simp, fun g h => by simpa using h⟩
    · rw [if_neg hk]
      refine ⟨?_, fun g h => ?_⟩
      · rw [List.map_cons]
        exact List.mem_cons_of_mem _ i1
      · rw [List.map_cons] at h ⊢
        rcases List.mem_cons.mp h with e | e
        · exact List.mem_cons.mpr (.inl e)
        · exact List.mem_cons_of_mem _ (i2 g e)
theorem length_putF (f : Str) (v : V) : ∀ fs : List (Str × V), (putF f v fs).length ≤ fs.length + 1
  | [] => by simp [putF]
  | (k, x) :: r => by
    have ih := length_putF f v r
    rw [show putF f v ((k, x) :: r) = (if k = f then (k, v) :: r else (k, x) :: putF f v r) from rfl]
    by_cases hk : k = f
    · rw [if_pos hk, List.length_cons, List.length_cons]; omega
    · rw [if_neg hk, List.length_cons, List.length_cons]; omega

theorem RelO.some_of {v : V} {o : Option Value} (r : RelO (some v) o) : ∃ u, o = some u ∧ RelV v u := by
  cases o with
  | none => exact (show False from r).elim
  | some u => exact ⟨u, rfl, r⟩
theorem RelO.none_of {o : Option Value} (r : RelO none o) : o = none := by
  cases o with
  | none => rfl
  | some u => exact (show False from r).elim
theorem handed_of {v : V} {u : Value} (r : RelV v u) : PySem.W.handedIn u = true := by
  cases v with
  | non => cases (show u = Value.none from r); rfl
  | bl b => cases (show u = Value.bool b from r); rfl
  | int i => obtain ⟨t, e⟩ := (show ∃ t, u = Value.int i t from r); cases e; rfl
  | str x => obtain ⟨t, e⟩ := (show ∃ t, u = Value.str x t from r); cases e; rfl
  | byt b => obtain ⟨t, e⟩ := (show ∃ t, u = Value.bytes b t from r); cases e; rfl
  | flt b => obtain ⟨t, e⟩ := (show ∃ t, u = Value.float b t from r); cases e; rfl
  | ref a => cases (show u = Value.ref a from r); rfl
  | ty n => cases (show u = Value.type n from r); rfl

section
variable {P : Program} {w : World} {H H' : Hp} {h h' : Heap} {a C dx : Addr} {fs fs' : List (Str × V)}
theorem ins_get (hok : HOk P w H h) (e : H a = some (.ins C dx fs)) : ∃ mA, ObjM h a dx C mA ∧ (∀ f, RelO (fs.lookup f) (mA f)) ∧ PySem.Within mA (fs.map (·.1)) ∧ fs.length ≤ 1000 ∧ H dx = some (.own a) := by
  obtain ⟨d, z, ne, ob, mA, n, r, q⟩ := (show ObjOk P w H h a (.ins C dx fs) from hok a _ e)
  exact ⟨mA, ⟨ob, n, ne⟩, r, q, z, d⟩
end

structure Cls (K : PySem.W.Frag) (C : Addr) : Prop where
  pg : PySem.W.plainGet K C Str.empty = true
  hd : PySem.W.hasDictIn K C = true
  po : PySem.W.plainOver K C = true
  sa : PySem.W.findIn K (.ref C) "__setattr__" = some (some (.builtin "object.__setattr__"))
theorem Cls.get {K : PySem.W.Frag} {C : Addr} (c : Cls K C) (f : Str) : PySem.W.plainGet K C f = true := c.pg
noncomputable def NoAttr (K : PySem.W.Frag) (C : Addr) (f : Str) : Prop := PySem.W.findIn K (.ref C) f = some none
theorem NoAttr.taker {K : PySem.W.Frag} {C : Addr} {f : Str} (n : NoAttr K C f) : PySem.W.takerIn K C f = some none := by
  unfold PySem.W.takerIn
  rw [show PySem.W.findIn K (.ref C) f = some none from n]
  rfl
structure Con (K : PySem.W.Frag) (C : Addr) (f : Str) (v : V) (u : Value) : Prop where
  at_ : PySem.W.findIn K (.ref C) f = some (some u)
  rel : RelV v u
  get : PySem.W.specialIn K u "__get__" = some none
  cp : PySem.W.copiedNames.contains f = false
structure Meth (K : PySem.W.Frag) (C : Addr) (m : Str) (f : Addr) : Prop where
  at_ : PySem.W.findIn K (.ref C) m = some (some (.ref f))
  fn : PySem.W.isFn K (.ref f) = true
  kp : PySem.W.keepIn K (.ref f) = true

section
variable {X : Cx} {pins : List (Addr × Obj)} {σ : St} {H : Hp} {s : Shared} {a C dx : Addr} {fs : List (Str × V)} {f : Str} {v : V} {A : Around} {E : Value → Shared → Prop}

theorem getattr_ok {b : Bool} {Q : Value → Shared → Prop} (I : Inv X pins σ H s) (e : H a = some (.ins C dx fs)) (c : Cls X.K C) (n : NoAttr X.K C f) (l : fs.lookup f = some v)
    (h : ∀ u s', Inv X pins σ H s' → RelV v u → Q u s') : wpAny (model X.prog X.w) A (getAttr (.ref a) f b) Q E s := by
  obtain ⟨mA, O, r, _, _, _⟩ := ins_get I.hok e
  obtain ⟨u, hu, ru⟩ := RelO.some_of (v := v) (o := mA f) (by rw [← l]; exact r f)
  exact get_map I.kIn O (c.get f) c.hd n hu (handed_of ru) (h u _ (I.tok _) ru)

theorem getmeth_ok {m : Str} {g : Addr} {pl : Sem Bool} {Q : Value × List Value → Shared → Prop} (I : Inv X pins σ H s) (e : H a = some (.ins C dx fs)) (c : Cls X.K C) (k : Meth X.K C m g) (l : fs.lookup m = none)
    (h : Q (.ref g, [.ref a]) s) : wpAny (model X.prog X.w) A (getMethod (.ref a) m pl) Q E s := by
  obtain ⟨mA, O, r, _, _, _⟩ := ins_get I.hok e
  have hn : mA m = none := RelO.none_of (by rw [← l]; exact r m)
  exact get_meth I.kIn O (c.get m) k.at_ k.fn hn h

theorem setattr_ok {y : V} {u : Value} {Q : Unit → Shared → Prop} (I : Inv X pins σ H s) (e : H a = some (.ins C dx fs)) (c : Cls X.K C) (n : NoAttr X.K C f) (hl : fs.length < 1000) (ry : RelV y u)
    (h : ∀ s', Inv X pins σ (upd H a (.ins C dx (putF f y fs))) s' → Q () s') : wpAny (model X.prog X.w) A (setAttr (.ref a) f u) Q E s := by
  obtain ⟨mA, O, r, wi, _, ho⟩ := ins_get I.hok e
  have hz : (fs.map (·.1)).length ≤ sizeLine := by rw [List.length_map, sizeLine_eq]; omega
  refine set_map I.kIn O c.sa c.po n.taker c.hd wi hz fun h' O' sb => h _ ?_
  have hd : ∃ o, h'.get? dx = some o := let ⟨o, _, _, e', _⟩ := O'.ns; ⟨o, e'⟩
  refine I.write (x := a) (e := dx) (by rw [e]; exact True.intro) (.inr ho) (fun b q hb z => (sb.2 b hb).trans z) hd ?_
  refine ⟨by rw [upd_ne O.ne]; exact ho, ?_, O.ne, O'.obj, _, O'.ns, fun g => ?_, fun g hg => ?_⟩
  · have := length_putF f y fs; omega
  · show RelO ((putF f y fs).lookup g) (if g = f then some u else mA g)
    rw [lookup_putF]
    by_cases q : g = f
    · rw [if_pos q, if_pos q]; exact ry
    · rw [if_neg q, if_neg q]; exact r g
  · by_cases q : g = f
    · rw [q]; exact (keys_putF f y fs).1
    · refine (keys_putF f y fs).2 g (wi g fun z => hg ?_)
      show (if g = f then some u else mA g) = none
      rw [if_neg q]; exact z

theorem Inv.made (I : Inv X pins σ H s) : Inv X pins σ (upd (upd H s.heap.objs.size (.own (s.heap.objs.size + 1))) (s.heap.objs.size + 1) (.ins C s.heap.objs.size []))
    { s with heap := (s.heap.push PySem.W.emptyDict).push (PySem.W.instObj C s.heap.objs.size) } := by
  have e1 : (s.heap.push PySem.W.emptyDict).get? s.heap.objs.size = some PySem.W.emptyDict := Heap.get?_push_size s.heap rfl
  have e2 : ((s.heap.push PySem.W.emptyDict).push (PySem.W.instObj C s.heap.objs.size)).get? (s.heap.objs.size + 1) = some (PySem.W.instObj C s.heap.objs.size) := by
    have := Heap.get?_push_size (s.heap.push PySem.W.emptyDict) (o := PySem.W.instObj C s.heap.objs.size) rfl
    rwa [Heap.size_push] at this
  have e3 : (s.heap.push PySem.W.emptyDict).Ns s.heap.objs.size (fun _ => none) := ⟨PySem.W.emptyDict, #[], _, e1, rfl, (fun e he => absurd he (by simp)), fun _ => rfl⟩
  have I1 := I.laid (a := s.heap.objs.size) (o := .own (s.heap.objs.size + 1)) (h' := s.heap.push PySem.W.emptyDict) (t' := s.toks) (fun b u q => Heap.get?_push_of_some _ q) (Nat.le_refl _) ⟨_, e1⟩
  refine I1.laid (a := s.heap.objs.size + 1) (o := .ins C s.heap.objs.size []) (t' := s.toks) (fun b u q => Heap.get?_push_of_some _ q) (Nat.le_of_eq (Heap.size_push _ _)) ?_
  have ne : s.heap.objs.size ≠ s.heap.objs.size + 1 := Nat.ne_of_lt (Nat.lt_succ_self _)
  refine ⟨by rw [upd_ne ne, upd_same], Nat.zero_le _, ne, e2, fun _ => none, (Heap.Ns1.of_empty e3).at fun o q => Heap.get?_push_of_some _ q, fun _ => True.intro, fun y hy => absurd rfl hy⟩

theorem attr_of {prog : Program} {w : World} {env : Env} {e : Expr} {f : Str} {pos : Pos} {s : Shared} {Q : Value → Shared → Prop} (hb : attributeBase e f env (eval e env) = eval e env)
    (h : wpAny (model prog w) A (eval e env) (fun o s₁ => wpAny (model prog w) A (getAttr o f true) Q E s₁) E s) : wpAny (model prog w) A (eval (.Attribute e f pos) env) Q E s :=
  Attribute_any_ h (by rw [arm_eval_Attribute, hb])
end

noncomputable def tFld (K : PySem.W.Frag) (ta : TE) (f : Str) : TE := fun σ H Q => ta σ H fun x H1 => ∃ a C dx fs v, x = .ref a ∧ H1 a = some (.ins C dx fs) ∧ Cls K C ∧ NoAttr K C f ∧ fs.lookup f = some v ∧ Q v H1
noncomputable def sFld (K : PySem.W.Frag) (ta tv : TE) (f : Str) : TS := fun D σ H => tv σ H fun y H1 => ta σ H1 fun x H2 => ∃ a C dx fs, x = .ref a ∧ H2 a = some (.ins C dx fs) ∧ Cls K C ∧ NoAttr K C f ∧ fs.length < 1000 ∧
  D.nx σ (upd H2 a (.ins C dx (putF f y fs)))
section
variable {X : Cx} {o e value : Expr} {f : Str} {pos pos' tpos : Pos} {ta tv : TE}
theorem pe_fld (he : PE X e ta) (hb : attributeBase e f X.env (eval e X.env) = eval e X.env) : PE X (.Attribute e f pos) (tFld X.K ta f) := by
  intro pins s σ H Q I h
  refine attr_of hb (thn (he pins s σ H _ I h) fun u s1 ⟨x, H1, I1, rx, a, C, dx, fs, v, ex, ea, c, n, l, q⟩ => ?_)
  subst ex
  obtain rfl : u = Value.ref a := rx
  exact getattr_ok I1 ea c n l fun u' s2 I2 ru => ⟨v, H1, I2, ru, q⟩
theorem ps_fld (ha : PE X o ta) (hv : PE X value tv) (hs : swapsWith value (some (.Attribute o f pos')) pos.line X.env = pure false) : PS X (.Assign [.Attribute o f pos'] value pos) (sFld X.K ta tv f) := by
  intro pins s σ H D I h
  refine plainObj_wpAny_Assign_Attribute (thn (hv pins s σ H _ I h) fun u s1 ⟨y, H1, I1, ry, q⟩ => thn (ha pins s1 σ H1 _ I1 q) fun ov s2 ⟨x, H2, I2, rx, a, C, dx, fs, ex, ea, c, n, l, q2⟩ => ?_) hs
  subst ex
  obtain rfl : ov = Value.ref a := rx
  exact setattr_ok I2 ea c n l ry fun s3 I3 => ⟨σ, _, I3, q2⟩
noncomputable def rAdd : V → V → Hp → VK → Prop := fun x y H Q => ∃ i j, x = .int i ∧ y = .int j ∧ Q (.int (i + j)) H
end

section
variable {X : Cx} {pins : List (Addr × Obj)} {σ : St} {H : Hp} {s : Shared} {A : Around} {E : Value → Shared → Prop} {Q : Value → Shared → Prop} {c : Value} {b : Bool}
inductive TyOf (K : PySem.W.Frag) (H : Hp) : V → Value → Prop where
  | non : TyOf K H .non (.type "NoneType")
  | bl (x : Bool) : TyOf K H (.bl x) (.type "bool")
  | int (i : Int) : TyOf K H (.int i) (.type "int")
  | str (x : Str) : TyOf K H (.str x) (.type "str")
  | flt (x : UInt64) : TyOf K H (.flt x) (.type "float")
  | lst {a : Addr} {xs : List V} (e : H a = some (.lst xs)) : TyOf K H (.ref a) (.type "list")
  | frz {a : Addr} {o : Obj} {xs : List V} (e : H a = some (.frz o (.lst xs))) : TyOf K H (.ref a) (.type "list")
  | tup {a : Addr} {xs : List V} (e : H a = some (.tup xs)) : TyOf K H (.ref a) (.type "tuple")
  | dK {a : Addr} {kvs : List (Key × V)} (e : H a = some (.dK kvs)) : TyOf K H (.ref a) (.type "dict")
  | dT {a : Addr} {kvs : List (List Key × V)} (e : H a = some (.dT kvs)) : TyOf K H (.ref a) (.type "dict")
  | ins {a C dx : Addr} {fs : List (Str × V)} (e : H a = some (.ins C dx fs)) (cl : Cls K C) (ha : PySem.W.findIn K (.ref C) "__class__" = some (some (.builtin "object.__class__")))
      (hn : PySem.W.specialIn K (.builtin "object.__class__") "__get__" = some (some (.builtin "getset_descriptor.__get__"))) (htk : PySem.W.takesIn K (.builtin "object.__class__") = some true)
      (hm : PySem.W.mroIn K C (.type "object") = some true) : TyOf K H (.ref a) (.ref C)
theorem isinst_ok {x : V} {u t : Value} (I : Inv X pins σ H s) (rx : RelV x u) (ty : TyOf X.K H x t) (e : PySem.W.kitOne X.K t c = some b) (h : ∀ tk, Q (.bool b) { s with toks := tk }) :
    wpAny (model X.prog X.w) A (call (.builtin "isinstance") [u, c]) Q E s := by
  cases ty with
  | non => cases (show u = Value.none from rx); exact PySem.W.kia_one PySem.W.kitx_none I.kIn True.intro e (fun z => nomatch z) h
  | bl y => cases (show u = Value.bool y from rx); exact PySem.W.kia_one PySem.W.kitx_bool I.kIn True.intro e (fun z => nomatch z) h
  | int i => obtain ⟨t, q⟩ := (show ∃ t, u = Value.int i t from rx); cases q; exact PySem.W.kia_one PySem.W.kitx_int I.kIn True.intro e (fun z => nomatch z) h
  | str y => obtain ⟨t, q⟩ := (show ∃ t, u = Value.str y t from rx); cases q; exact PySem.W.kia_one PySem.W.kitx_str I.kIn True.intro e (fun z => nomatch z) h
  | flt y => obtain ⟨t, q⟩ := (show ∃ t, u = Value.float y t from rx); cases q; exact PySem.W.kia_one PySem.W.kitx_float I.kIn True.intro e (fun z => nomatch z) h
  | @lst a xs ea =>
    cases (show u = Value.ref a from rx)
    obtain ⟨_, _, n, _, h1⟩ := (show ObjOk X.prog X.w H s.heap a (.lst xs) from I.hok a _ ea)
    exact PySem.W.kia_one PySem.W.kitx_list I.kIn ⟨_, h1, rfl⟩ e (fun z => nomatch z) h
  | @frz a ob xs ea =>
    cases (show u = Value.ref a from rx)
    obtain ⟨_, _, _, n, _, h1⟩ := (show ObjOk X.prog X.w H s.heap a (.frz ob (.lst xs)) from I.hok a _ ea)
    exact PySem.W.kia_one PySem.W.kitx_list I.kIn ⟨_, h1, rfl⟩ e (fun z => nomatch z) h
  | @tup a xs ea =>
    cases (show u = Value.ref a from rx)
    obtain ⟨_, _, _, p⟩ := (show ObjOk X.prog X.w H s.heap a (.tup xs) from I.hok a _ ea)
    obtain ⟨o, h1, h2, _⟩ := p
    exact PySem.W.kia_one PySem.W.kitx_tuple I.kIn ⟨o, h1, h2⟩ e (fun z => nomatch z) h
  | @dK a kvs ea =>
    cases (show u = Value.ref a from rx)
    obtain ⟨_, _, vs, _, p⟩ := (show ObjOk X.prog X.w H s.heap a (.dK kvs) from I.hok a _ ea)
    obtain ⟨o, es, ep, h1, h2, _⟩ := p
    exact PySem.W.kia_one PySem.W.kitx_dict I.kIn ⟨o, h1, h2.1⟩ e (fun z => nomatch z) h
  | @dT a kvs ea =>
    cases (show u = Value.ref a from rx)
    obtain ⟨_, _, xs, _, o, es, ep, h1, h2, _⟩ := (show ObjOk X.prog X.w H s.heap a (.dT kvs) from I.hok a _ ea)
    exact PySem.W.kia_one PySem.W.kitx_dict I.kIn ⟨o, h1, h2.1⟩ e (fun z => nomatch z) h
  | @ins a C dx fs ea cl ha hn htk hm =>
    cases (show u = Value.ref a from rx)
    obtain ⟨mA, O, _⟩ := ins_get I.hok ea
    obtain ⟨od, J, _⟩ := O.look
    exact PySem.W.kia_one (PySem.W.kitx_own (cl.get _) cl.hd ha hn htk hm) I.kIn J e (fun z => nomatch z) h
end
end L2

namespace L2
open PySem PySem.Spec PyProof.Rows

structure Room (k : Nat) (A : Around) : Prop where
  hd : A.handled = none
  dp : A.depth + 3 * k + 5 < recursionLimit
  un : A.units + 16 * k + 200 < cLine
theorem Room.mono {j k : Nat} {A : Around} (r : Room k A) (h : j ≤ k) : Room j A := ⟨r.hd, by have := r.dp; omega, by have := r.un; omega⟩
theorem Room.deeper {k : Nat} {A : Around} (r : Room (k + 1) A) (env : Env) : Room k (A.deeper env) :=
  ⟨r.hd, by have := r.dp; show A.depth + 1 + 3 * k + 5 < _; omega, by have := r.un; show A.units + 3 + 16 * k + 200 < _; omega⟩
theorem Room.in1 {k : Nat} {A : Around} (r : Room (k + 1) A) : Room k A.in1 :=
  ⟨r.hd, by have := r.dp; show A.depth + 3 * k + 5 < _; omega, by have := r.un; show A.units + 1 + 16 * k + 200 < _; omega⟩
theorem make_depth {A : Around} {C : Addr} {us : List Value} {kw : List (Str × Value)} : (A.under (.builtin "type.__call__" ⟨.ref C :: us, kw⟩)).depth = A.depth + 1 := by
  first | rfl | simp [Around.under, Code.weight, Code.isCreation, Code.isGuard, Code.isCaller, Code.frames, Code.isFrame, guardIds]
theorem make_units {A : Around} {C : Addr} {us : List Value} {kw : List (Str × Value)} : (A.under (.builtin "type.__call__" ⟨.ref C :: us, kw⟩)).units = A.units + 1 := by
  first | rfl | simp [Around.under, Code.cUnits, Code.frames, Code.isFrame]
theorem Room.make {k : Nat} {A : Around} (r : Room (k + 1) A) (C : Addr) (us : List Value) (kw : List (Str × Value)) : Room k (A.under (.builtin "type.__call__" ⟨.ref C :: us, kw⟩)) :=
  ⟨r.hd, by have := r.dp; rw [make_depth]; omega, by have := r.un; rw [make_units]; omega⟩
theorem Room.depth {k : Nat} {A : Around} (r : Room k A) : A.depth < recursionLimit := by have := r.dp; omega
theorem Room.units {k : Nat} {A : Around} (r : Room k A) : A.units + 64 < cLine := by have := r.un; omega
noncomputable def tNil : TA := fun _ H Q => Q [] H
noncomputable def tCons (ta : TE) (tr : TA) : TA := fun σ H Q => ta σ H fun x H1 => tr σ H1 fun xs H2 => Q (x :: xs) H2
section
variable {X : Cx} {e : Expr} {es : List Expr} {te : TE} {t : TA} {pos : Pos}
theorem pa_nil : PA X [] tNil := fun _ _ _ _ H Q I h => Calls.spliced_nil ⟨[], H, I, .nil, h⟩
theorem pa_cons (ha : PE X e te) (hr : PA X es t) (hs : starEach (e :: es) X.env = (false, eval e X.env) :: starEach es X.env := by rfl) : PA X (e :: es) (tCons te t) := by
  intro pos pins s σ H Q I h
  rw [hs]
  show wpAny _ _ (spliced ((false, eval e X.env) :: backTo pos (starEach es X.env))) _ _ s
  refine Calls.spliced_cons (thn (ha pins s σ H _ I h) fun u s1 ⟨x, H1, I1, r1, q1⟩ => ?_)
  exact thn (hr pos pins s1 σ H1 _ I1 q1) fun us s2 ⟨xs, H2, I2, r2, q2⟩ => ⟨x :: xs, H2, I2, .cons r1 r2, q2⟩

noncomputable def tTup (t : TA) : TE := fun σ H Q => t σ H fun xs H1 => xs.length ≤ sizeLine ∧ ∀ p, H1 p = none → Q (.ref p) (upd H1 p (.tup xs))
noncomputable def tLst (t : TA) : TE := fun σ H Q => t σ H fun xs H1 => xs.length ≤ sizeLine ∧ ∀ p, H1 p = none → Q (.ref p) (upd H1 p (.lst xs))
theorem pe_tup {x1} (h : PA X es t) : PE X (.Tuple es x1 pos) (tTup t) := by
  intro pins s σ H Q I hq
  refine wpAny_Tuple_spliced (thn (h pos pins s σ H _ I hq) fun us s1 ⟨xs, H1, I1, r, z, q⟩ => ⟨by rw [← r.length]; exact z, ?_⟩)
  have hf : H1 s1.heap.objs.size = none := I1.hok.fresh (Nat.le_refl _)
  refine ⟨.ref s1.heap.objs.size, upd H1 s1.heap.objs.size (.tup xs), I1.laid (t' := s1.toks) (fun b u e => Heap.get?_push_of_some _ e) (Nat.le_refl _) ?_, rfl, q _ hf⟩
  exact ⟨z, us, r, ⟨_, Heap.get?_push_size _ rfl, rfl, _, rfl⟩⟩
theorem pe_lst (h : PA X es t) : PE X (.List es pos) (tLst t) := by
  intro pins s σ H Q I hq
  refine wpAny_List_spliced (thn (h pos pins s σ H _ I hq) fun us s1 ⟨xs, H1, I1, r, z, q⟩ => ⟨by rw [← r.length]; exact z, ?_⟩)
  have hf : H1 s1.heap.objs.size = none := I1.hok.fresh (Nat.le_refl _)
  refine ⟨.ref s1.heap.objs.size, upd H1 s1.heap.objs.size (.lst xs), I1.laid (t' := s1.toks) (fun b u e => Heap.get?_push_of_some _ e) (Nat.le_refl _) ?_, rfl, q _ hf⟩
  exact ⟨z, us, 0, r, Heap.get?_push_size _ rfl⟩
end

noncomputable abbrev Sp := List V → Hp → VK → XK → Prop
noncomputable abbrev CXT := List Env → Hp → Shared → XK → Value → Shared → Prop

structure Env0 (P : Program) (w : World) (K : PySem.W.Frag) (mg : Str → Option Value) (base : Heap) (A : Around) (outer : List Env) (s : Shared) (H : Hp) : Prop where
  frames : A.frames = some outer
  mod : Mod K mg base
  bs : ∀ b o, base.get? b = some o → s.heap.get? b = some o ∧ H b = none
  bsz : base.objs.size ≤ s.heap.objs.size
  funs : s.heap.FunFrames base outer
  frf : ∀ b ∈ frs outer, H b = none
  hok : HOk P w H s.heap
  bare : AllBare s.gens
noncomputable def CE (outer : List Env) (P : Program) (w : World) (H : Hp) (s : Shared) (Q : VK) (u : Value) (s' : Shared) : Prop :=
  ∃ v H', s'.os = s.os ∧ AllBare s'.gens ∧ Un (frs outer) [] H H' s.heap s'.heap ∧ HOk P w H' s'.heap ∧ RelV v u ∧ Q v H'
noncomputable def CR (CX : CXT) (outer : List Env) (P : Program) (w : World) (H : Hp) (s : Shared) (Q : VK) (E : XK) (r : Result) (s' : Shared) : Prop :=
  match r with
  | .ok (.ret u) => CE outer P w H s Q u s'
  | .ok _ => False
  | .error e => CX outer H s E e s'
structure FnOk (P : Program) (w : World) (K : PySem.W.Frag) (mg : Str → Option Value) (base : Heap) (CX : CXT) (k : Nat) (f : Addr) (fd : FuncData) (ps : List Str) (sp : Sp) : Prop where
  len : ∀ vs H Q E, sp vs H Q E → vs.length = ps.length
  run : ∀ (A : Around) (outer : List Env) (s : Shared) (H : Hp) (args : Args) (us : List Value) (vs : List V) (Q : VK) (E : XK), Room k A → Env0 P w K mg base A outer s H → BindsTo s fd args (ps.zip us) → Vals vs us → sp vs H Q E →
    codeAny (model P w) A (.call (.ref f) args) (CR CX outer P w H s Q E) s
theorem FnOk.mono {P : Program} {w : World} {K : PySem.W.Frag} {mg : Str → Option Value} {base : Heap} {CX : CXT} {j k : Nat} {f : Addr} {fd : FuncData} {ps : List Str} {sp : Sp} (F : FnOk P w K mg base CX j f fd ps sp) (h : j ≤ k) :
    FnOk P w K mg base CX k f fd ps sp := ⟨F.len, fun A outer s H args us vs Q E hr => F.run A outer s H args us vs Q E (hr.mono h)⟩
theorem FnOk.imp {P : Program} {w : World} {K : PySem.W.Frag} {mg : Str → Option Value} {base : Heap} {CX : CXT} {k : Nat} {f : Addr} {fd : FuncData} {ps : List Str} {sp sp' : Sp} (F : FnOk P w K mg base CX k f fd ps sp)
    (h : ∀ vs H Q E, sp' vs H Q E → sp vs H Q E) : FnOk P w K mg base CX k f fd ps sp' :=
  ⟨fun vs H Q E q => F.len vs H Q E (h _ _ _ _ q), fun A outer s H args us vs Q E hr he hb hv hs => F.run A outer s H args us vs Q E hr he hb hv (h _ _ _ _ hs)⟩

theorem Env0.make {P : Program} {w : World} {K : PySem.W.Frag} {mg : Str → Option Value} {base : Heap} {A : Around} {outer : List Env} {s : Shared} {H : Hp} (e : Env0 P w K mg base A outer s H) (C : Addr) (us : List Value) (kw : List (Str × Value)) :
    Env0 P w K mg base (A.under (.builtin "type.__call__" ⟨.ref C :: us, kw⟩)) outer s H := ⟨by first | exact e.frames | (simpa [Around.under, Code.envs, Code.isFrame, pushEnvs] using e.frames), e.mod, e.bs, e.bsz, e.funs, e.frf, e.hok, e.bare⟩
theorem Env0.in1 {P : Program} {w : World} {K : PySem.W.Frag} {mg : Str → Option Value} {base : Heap} {A : Around} {outer : List Env} {s : Shared} {H : Hp} (e : Env0 P w K mg base A outer s H) :
    Env0 P w K mg base A.in1 outer s H := ⟨e.frames, e.mod, e.bs, e.bsz, e.funs, e.frf, e.hok, e.bare⟩

section
variable {X : Cx} {pins : List (Addr × Obj)} {σ : St} {H : Hp} {s s' : Shared}
theorem Inv.env0 (I : Inv X pins σ H s) : Env0 X.prog X.w X.K X.mg X.base X.A X.stack s H :=
  ⟨I.ok.frames, I.ok.mod, I.bs, Nat.le_trans I.ok.bsz I.sz, I.stack, I.stkFree, I.hok, I.bare⟩
theorem Inv.after {Q : VK} {u : Value} (I : Inv X pins σ H s) (h : CE X.stack X.prog X.w H s Q u s') : EP X pins σ Q u s' := by
  obtain ⟨v, H', os, bare, un, hok, r, q⟩ := h
  obtain ⟨hh, g, d, t, os'⟩ := s'
  obtain rfl : os' = s.os := os
  exact ⟨v, H', I.call (h' := hh) (g' := g) (d' := d) (t' := t) (ch := []) un hok bare (fun b z => absurd z (by simp)), r, q⟩
end

noncomputable def tCall (sp : Sp) (dvs : List V) (E : XK) (t : TA) : TE := fun σ H Q => t σ H fun vs H1 => sp (vs ++ dvs) H1 Q E
noncomputable def Binds (K : PySem.W.Frag) (fd : FuncData) (ps : List Str) (ds : List Value) : Prop :=
  ∀ (s : Shared) (us : List Value), K.In s.heap → (us ++ ds).length = ps.length → BindsTo s fd ⟨us, []⟩ (ps.zip (us ++ ds))
theorem Binds.all {K : PySem.W.Frag} {fd : FuncData} {ps : List Str} (h : ∀ us : List Value, us.length = ps.length → bindArgs fd ⟨us, []⟩ = pure (ps.zip us)) : Binds K fd ps [] := fun s us _ hl => by
  rw [List.append_nil] at hl ⊢
  exact .of_eq (h us hl)

noncomputable def Passes (CX : CXT) (X : Cx) (E : XK) : Prop := ∀ (pins : List (Addr × Obj)) (σ : St) (H : Hp) (s : Shared) (e : Value) (s' : Shared), Inv X pins σ H s → CX X.stack H s E e s' → X.xe e s'

section
variable {X : Cx} {CX : CXT} {k : Nat} {f C : Addr} {fd : FuncData} {ps : List Str} {sp : Sp} {dvs : List V} {ds : List Value} {E : XK} {x m : Str} {p pos apos : Pos} {e o : Expr} {es : List Expr} {ta : TE} {t : TA}

theorem run_fn {pins : List (Addr × Obj)} {σ : St} {H : Hp} {s : Shared} {Q : VK} {us : List Value} {vs : List V} (F : FnOk X.prog X.w X.K X.mg X.base CX k f fd ps sp) (hr : Room k X.A) (hb : Binds X.K fd ps ds) (hd : Vals dvs ds) (hx : Passes CX X E)
    (I : Inv X pins σ H s) (r : Vals vs us) (h : sp (vs ++ dvs) H Q E) : wpAny (model X.prog X.w) X.A (call (.ref f) us) (EP X pins σ Q) X.xe s := by
  have r2 : Vals (vs ++ dvs) (us ++ ds) := r.append hd
  have hl : (us ++ ds).length = ps.length := by rw [← r2.length]; exact F.len _ _ _ _ h
  refine wpAny_call (codeAny_mono (F.run X.A X.stack s H ⟨us, []⟩ (us ++ ds) (vs ++ dvs) Q E hr I.env0 (hb s us I.kIn hl) r2 h) fun r s' hq => ?_)
  cases r with
  | error e => exact hx pins σ H s e s' I hq
  | ok fl =>
    cases fl with
    | ret u => exact I.after hq
    | next => exact False.elim hq
    | brk => exact False.elim hq
    | cont => exact False.elim hq

theorem pe_call (F : FnOk X.prog X.w X.K X.mg X.base CX k f fd ps sp) (hr : Room k X.A) (hg : Gl X x) (hm : X.mg x = some (.ref f)) (hk : PySem.W.keepIn X.K (.ref f) = true) (hb : Binds X.K fd ps ds) (hd : Vals dvs ds) (hx : Passes CX X E)
    (ha : PA X (e :: es) t) (hdb : (x == ("__debug__" : Str)) = false := by decide) (he : starEach (e :: es) X.env = (false, eval e X.env) :: starEach es X.env := by rfl) (hpl : (backTo pos (starEach es X.env)).any (·.1) = false := by rfl) :
    PE X (.Call (.Name x p) (e :: es) [] pos) (tCall sp dvs E t) := by
  intro pins s σ H Q I h
  refine wpAny_Call_Name_kw (ld_glob I hg hm ?_ hdb)
  refine PySem.W.callWith_K (h₀ := X.base) I.ok.mod.kin hk (thn (ha pos pins s σ H _ I h) fun us s1 ⟨vs, H1, I1, r, q⟩ => ⟨I1.kIn, ?_⟩) he hpl
  exact run_fn F hr hb hd hx I1 r q
structure Mk (K : PySem.W.Frag) (C f : Addr) : Prop where
  makes : PySem.W.makesIn K C = true
  init : PySem.W.findIn K (.ref C) "__init__" = some (some (.ref f))
  fn : PySem.W.isFn K (.ref f) = true
  kp : PySem.W.keepIn K (.ref C) = true

end

section
variable {X : Cx} {CX : CXT} {k : Nat} {f C : Addr} {fd : FuncData} {ps ks : List Str} {sp : Sp} {E : XK} {x m : Str} {p pos apos kpos : Pos} {e o : Expr} {es : List Expr} {kws : List Keyword} {te ta : TE} {t tk : TA} {nm : Option Str}
structure KBinds (K : PySem.W.Frag) (fd : FuncData) (ps ks : List Str) (g : List Value → List Value → List Value) (gV : List V → List V → List V) : Prop where
  to : ∀ (s : Shared) (us ws : List Value), K.In s.heap → (g us ws).length = ps.length → BindsTo s fd ⟨us, ks.zip ws⟩ (ps.zip (g us ws))
  rel : ∀ {vs : List V} {us : List Value} {zs : List V} {ws : List Value}, Vals vs us → Vals zs ws → Vals (gV vs zs) (g us ws)
variable {g : List Value → List Value → List Value} {gV : List V → List V → List V}
end

structure FnScope (N P : List Str) (sc : Scope) : Prop where
  kind : sc.kind = .function
  co : sc.isCoroutine = false
  gen : sc.isGenerator = false
  nd : N.Nodup
  pre : N.take P.length = P
  par : ∀ x ∈ P, sc.names.lookup x = some .local ∨ sc.names.lookup x = some .cell
  nofree : ∀ y ∈ sc.names, y.2 ≠ .free

theorem bindL_out {kindOf : Str → Option NameKind} {x : Str} : ∀ {binds : List (Str × Value)} {m : Str → Option Value}, (∀ v, (x, v) ∉ binds) → bindL kindOf binds m x = m x
  | [], _, _ => rfl
  | (n, v) :: r, m, h => by
    unfold bindL
    rw [bindL_out fun w hw => h w (List.mem_cons_of_mem _ hw)]
    split
    · have : x ≠ n := by rintro rfl; exact h v List.mem_cons_self
      simp [this]
    · rfl
theorem bindC_out {kindOf : Str → Option NameKind} {x : Str} : ∀ {binds : List (Str × Value)} {m : Str → Option Value}, (∀ v, (x, v) ∉ binds) → bindC kindOf binds m x = m x
  | [], _, _ => rfl
  | (n, v) :: r, m, h => by
    unfold bindC
    rw [bindC_out fun w hw => h w (List.mem_cons_of_mem _ hw)]
    split
    · rfl
    · have : x ≠ n := by rintro rfl; exact h v List.mem_cons_self
      simp [this]
theorem bindL_get {kindOf : Str → Option NameKind} {x : Str} {v : Value} : ∀ {P : List Str} {vs : List Value} {i : Nat} {m : Str → Option Value}, P.Nodup → P[i]? = some x → vs[i]? = some v → kindOf x = some .local →
    bindL kindOf (P.zip vs) m x = some v
  | [], _, _, _, _, h, _, _ => by simp at h
  | _ :: _, [], _, _, _, _, h, _ => by simp at h
  | p :: P, w :: vs, 0, m, nd, h1, h2, hk => by
    simp at h1 h2; subst h1; subst h2
    show bindL kindOf ((p, w) :: P.zip vs) m p = _
    unfold bindL
    rw [bindL_out fun v hv => (List.nodup_cons.mp nd).1 (List.of_mem_zip hv).1, if_pos hk]
    simp
  | p :: P, w :: vs, i + 1, m, nd, h1, h2, hk => by
    show bindL kindOf ((p, w) :: P.zip vs) m x = _
    unfold bindL
    exact bindL_get (i := i) (List.nodup_cons.mp nd).2 (by simpa using h1) (by simpa using h2) hk
theorem bindC_get {kindOf : Str → Option NameKind} {x : Str} {v : Value} : ∀ {P : List Str} {vs : List Value} {i : Nat} {m : Str → Option Value}, P.Nodup → P[i]? = some x → vs[i]? = some v → kindOf x ≠ some .local →
    bindC kindOf (P.zip vs) m x = some v
  | [], _, _, _, _, h, _, _ => by simp at h
  | _ :: _, [], _, _, _, _, h, _ => by simp at h
  | p :: P, w :: vs, 0, m, nd, h1, h2, hk => by
    simp at h1 h2; subst h1; subst h2
    show bindC kindOf ((p, w) :: P.zip vs) m p = _
    unfold bindC
    rw [bindC_out fun v hv => (List.nodup_cons.mp nd).1 (List.of_mem_zip hv).1, if_neg hk]
    simp
  | p :: P, w :: vs, i + 1, m, nd, h1, h2, hk => by
    show bindC kindOf ((p, w) :: P.zip vs) m x = _
    unfold bindC
    exact bindC_get (i := i) (List.nodup_cons.mp nd).2 (by simpa using h1) (by simpa using h2) hk

noncomputable def start (N : List Str) (vs : List V) : St := vs.map some ++ List.replicate (N.length - vs.length) none

noncomputable def cxOf (CX : CXT) (P : Program) (w : World) (K : PySem.W.Frag) (mg : Str → Option Value) (base : Heap) (N : List Str) (qual : Str) (scope : Scope) (f : Addr) (cd : Value) (A : Around) (outer : List Env) (s : Shared) (H : Hp) (E : XK) : Cx where
  prog := P
  w := w
  K := K
  mg := mg
  base := base
  A := A.deeper (envOfC qual scope s.heap.objs.size f cd)
  N := N
  s₀ := s
  H₀ := H
  env := envOfC qual scope s.heap.objs.size f cd
  outer := outer
  stack := envOfC qual scope s.heap.objs.size f cd :: outer
  ex := []
  calm := true
  fn := fun _ => true
  pn := []
  xe := fun e s' => wpAny (model P w) (A.deeper (envOfC qual scope s.heap.objs.size f cd)) (leaving (envOfC qual scope s.heap.objs.size f cd) e) (fun _ s'' => CX outer H s E e s'') (fun e' s'' => CX outer H s E e' s'') s'

theorem cell_has {sc : Scope} {n : Nat} {x : Str} (h : sc.names.lookup x = some .cell) : ∃ c, (cellsFrom n sc.names []).lookup x = some c := by
  have q := PySem.W.cellsFrom_some sc.names n [] (.inl h)
  exact Option.isSome_iff_exists.mp q

theorem inv_start {CX : CXT} {P : Program} {w : World} {K : PySem.W.Frag} {mg : Str → Option Value} {base : Heap} {N ps : List Str} {qual : Str} {scope : Scope} {f : Addr} {cd : Value} {A : Around} {outer : List Env} {s s1 : Shared} {H : Hp} {E : XK} {us : List Value} {vs : List V}
    (S : FnScope N ps scope) (hd : A.handled = none) (e0 : Env0 P w K mg base A outer s H) (hl : vs.length = ps.length) (r : Vals vs us)
    (x : InCallC s s.heap.objs.size (bindL (envOfC qual scope s.heap.objs.size f cd).kindOf (ps.zip us) fun _ => none) (cellsFrom (s.heap.objs.size + 1) scope.names []) (bindC (envOfC qual scope s.heap.objs.size f cd).kindOf (ps.zip us) fun _ => none) s1) :
    Inv (cxOf CX P w K mg base N qual scope f cd A outer s H E) [] (start N vs) H s1 := by
  have hpl : ps.length ≤ N.length := by have := congrArg List.length S.pre; rw [List.length_take] at this; omega
  obtain ⟨h1, tk, rfl, hk⟩ := x.done
  have noA : ∀ b : Addr, b ∉ (cxOf CX P w K mg base N qual scope f cd A outer s H E).ex := fun b z => absurd (show b ∈ ([] : List Addr) from z) (by simp)
  refine ⟨⟨e0.mod, S.kind, rfl, rfl, Nat.le_refl _, fun y z c h1 h2 => ?_, fun y hy => ?_, fun y c _ h => ?_, fun _ => hd, Around.frames_deeper e0.frames, .inr ⟨rfl, rfl⟩, fun b z => absurd z (noA b), e0.bs, e0.bsz, fun b _ _ => noA b, fun b z => absurd z (noA b), e0.funs, e0.frf⟩,
    rfl, e0.bare, Un.kept hk, ⟨_, x.toInCall.ns, fun i y v h1 h2 h3 => ?_⟩, fun y c h => ⟨_, x.cell y c h⟩, e0.hok.fresh (Nat.le_refl _), fun y c h => ?_, fun p hp => absurd (show p ∈ ([] : List (Addr × Obj)) from hp) (by simp), e0.hok.kept hk, ?_⟩
  · exact name_of_addr x.apart (PySem.mem_of_lookup h1) (PySem.mem_of_lookup h2)
  · have hy : scope.names.lookup y = some .cell ∨ scope.names.lookup y = some .free := hy
    rcases hy with hy | hy
    · exact cell_has hy
    · exact absurd rfl (S.nofree _ (PySem.mem_of_lookup hy))
  · exact Nat.le_of_lt (x.above y c (PySem.mem_of_lookup h))
  · have hi : i < vs.length := by
      unfold start at h2
      by_cases hi : i < vs.length
      · exact hi
      · rw [List.getElem?_append_right (by simpa using hi)] at h2
        rw [List.getElem?_replicate] at h2
        split at h2 <;> cases h2
    have ha : vs[i]? = some v := by
      unfold start at h2
      rw [List.getElem?_append_left (by simpa using hi), List.getElem?_map] at h2
      cases e : vs[i]? with
      | none => rw [e] at h2; cases h2
      | some a => rw [e] at h2; cases h2; rfl
    obtain ⟨u, hu, rv⟩ := r.get ha
    have hp : ps[i]? = some y := by
      rw [← S.pre, List.getElem?_take_of_lt (by omega)]; exact h1
    have ndP : ps.Nodup := by rw [← S.pre]; exact S.nd.sublist (List.take_sublist _ _)
    refine ⟨u, rv, ?_⟩
    rcases S.par y (List.mem_of_getElem? hp) with k | k
    · exact .inl ⟨k, bindL_get ndP hp hu k⟩
    · obtain ⟨c, e⟩ := cell_has (n := s.heap.objs.size + 1) k
      refine .inr ⟨.inl k, c, e, ?_⟩
      have q := x.cell y c e
      rw [bindC_get ndP hp hu (by show scope.names.lookup y ≠ _; rw [k]; decide)] at q
      exact q
  · exact e0.hok.fresh (Nat.le_of_lt (x.above y c (PySem.mem_of_lookup h)))
  · unfold start
    show _ = N.length
    rw [List.length_append, List.length_map, List.length_replicate]
    omega

theorem fn_of {CX : CXT} {P : Program} {w : World} {K : PySem.W.Frag} {mg : Str → Option Value} {base : Heap} {k : Nat} {f : Addr} {name qual : Str} {params : Arguments} {body : List Stmt} {scope : Scope} {dV kV doc pm cdv ct oc : Value} {an od : Option Addr}
    {osl : Array (Option Value)} {N ps : List Str} {sp : Sp} (lk : K.lookup f = some ⟨oc, od, .func (PySem.W.fnOf name qual params body scope dV kV doc pm an cdv ct), osl⟩) (hcd : PySem.W.codeIn K cdv qual = true) (S : FnScope N ps scope)
    (len : ∀ vs H Q E, sp vs H Q E → vs.length = ps.length)
    (hbody : ∀ (A : Around) (outer : List Env) (s : Shared) (H : Hp) (vs : List V) (Q : VK) (E : XK), Room k (A.deeper (envOfC qual scope s.heap.objs.size f cdv)) → sp vs H Q E →
      ∃ t, PSs (cxOf CX P w K mg base N qual scope f cdv A outer s H E) body t ∧ t { nx := fun _ H' => Q .non H', rt := Q } (start N vs) H) :
    FnOk P w K mg base CX (k + 1) f (PySem.W.fnOf name qual params body scope dV kV doc pm an cdv ct) ps sp := by
  refine ⟨len, fun A outer s H args us vs Q E hr e0 hb r hsp => ?_⟩
  have hl := len _ _ _ _ hsp
  have KX : K.In s.heap := e0.mod.kin.keeps fun b o e => (e0.bs b o e).1
  have lim : s.heap.NoLimit := e0.mod.nolimit.keeps fun b o e => (e0.bs b o e).1
  have hkind : ∀ y ∈ ps.zip us, scope.names.lookup y.1 = some .local ∨ (scope.names.lookup y.1 = some .cell ∧ ((cellsFrom (s.heap.objs.size + 1) scope.names []).lookup y.1).isSome = true) := fun ⟨n, v⟩ hy => by
    rcases S.par n (List.of_mem_zip hy).1 with q | q
    · exact .inl q
    · exact .inr ⟨q, PySem.W.cellsFrom_some _ _ _ (.inl q)⟩
  refine codeAny_call_function hr.depth (KX _ _ lk) rfl S.co S.gen rfl (PySem.W.codeRec_of KX hcd) (hb _ _ _ _ ?_)
  refine wpAny_newFunctionEnv_cells S.kind hkind fun env he s1 x => ?_
  subst he
  refine ⟨lim.keeps x.toInCall.keep, codeAny_func ?_⟩
  obtain ⟨t, ht, hq⟩ := hbody A outer s H vs Q E (hr.deeper _) hsp
  have I : Inv (cxOf CX P w K mg base N qual scope f cdv A outer s H E) [] (start N vs) H s1 := inv_start S hr.hd e0 hl r x
  refine wpAny_mono (ht [] s1 (start N vs) H _ I hq) (fun fl s' hs => ?_) fun e s' hs => hs
  have fin : ∀ {σ' : St} {H' : Hp} {v : V} {u : Value}, Inv (cxOf CX P w K mg base N qual scope f cdv A outer s H E) [] σ' H' s' → RelV v u → Q v H' → CE outer P w H s Q u s' :=
    fun {σ' H' v u} J rv q => ⟨v, H', J.os, J.bare, J.base, J.hok, rv, q⟩
  cases fl with
  | ret u =>
    obtain ⟨v, σ', H', J, rv, q⟩ := hs
    exact fin J rv q
  | next =>
    obtain ⟨σ', H', J, q⟩ := hs
    exact fin (v := V.non) (u := Value.none) J rfl q
  | brk =>
    obtain ⟨_, _, _, q⟩ := hs
    exact False.elim q
  | cont =>
    obtain ⟨_, _, _, q⟩ := hs
    exact False.elim q
end L2

namespace L2
open PySem PySem.Spec PyProof.Rows
section
variable {X : Cx} {x : Str} {p pos : Pos} {e : Expr} {es : List Expr} {t : TA} {id T : String} {r : List V → Hp → VK → Prop}

noncomputable def tCB (r : List V → Hp → VK → Prop) (t : TA) : TE := fun σ H Q => t σ H fun vs H1 => r vs H1 Q
theorem pe_callB (hc : CallR X (.builtin id) r) (hg : Gl X x) (hm : X.mg x = none) (hv : bootBuiltins x = some (.builtin id)) (ha : PA X (e :: es) t) (hn : x ≠ "__name__" := by decide) (hdb : (x == ("__debug__" : Str)) = false := by decide)
    (he : starEach (e :: es) X.env = (false, eval e X.env) :: starEach es X.env := by rfl) (hpl : (backTo pos (starEach es X.env)).any (·.1) = false := by rfl) : PE X (.Call (.Name x p) (e :: es) [] pos) (tCB r t) := by
  intro pins s σ H Q I h
  refine wpAny_Call_Name_kw (ld_blt I hg hm hv ?_ hn hdb)
  exact PyProof.Rows.callWith_builtin1 (thn (ha pos pins s σ H _ I h) fun us s1 ⟨vs, H1, I1, r1, q1⟩ => hc pins s1 σ H1 vs us Q I1 r1 q1) he hpl
theorem pe_callTy (hc : CallR X (.type T) r) (hg : Gl X x) (hm : X.mg x = none) (hv : bootBuiltins x = some (.type T)) (ha : PA X (e :: es) t) (hn : x ≠ "__name__" := by decide) (hdb : (x == ("__debug__" : Str)) = false := by decide)
    (he : starEach (e :: es) X.env = (false, eval e X.env) :: starEach es X.env := by rfl) (hpl : (backTo pos (starEach es X.env)).any (·.1) = false := by rfl) : PE X (.Call (.Name x p) (e :: es) [] pos) (tCB r t) := by
  intro pins s σ H Q I h
  refine wpAny_Call_Name_kw (ld_blt I hg hm hv ?_ hn hdb)
  exact PyProof.Rows.callWith_type1 (thn (ha pos pins s σ H _ I h) fun us s1 ⟨vs, H1, I1, r1, q1⟩ => hc pins s1 σ H1 vs us Q I1 r1 q1) he hpl
end
end L2

namespace HT
open PySem PyProof.Rows

section
open PySem.SeqAt
open PySem.AutoSeq1 (wpAny_loadPart')
open PySem.MeetsSeq PySem.MeetsSeq2 PySem.MeetsSeq3

end

section
variable {prog : Program} {w : World} {A : Around} {E : Value → Shared → Prop} {s : Shared}

noncomputable def sIx (n d : Nat) : Option Int → Nat
  | none => d
  | some v => if v < 0 then (v + (n : Int)).toNat else min v.toNat n
theorem sIx_none (n d : Nat) : sIx n d none = d := rfl
theorem sIx_nat (n d k : Nat) : sIx n d (some (k : Int)) = min k n := by
  show (if (k : Int) < 0 then ((k : Int) + (n : Int)).toNat else min (k : Int).toNat n) = min k n
  rw [if_neg (by omega), Int.toNat_natCast]
end
end HT

namespace L2
open PySem PySem.Spec PyProof.Rows

noncomputable abbrev TO := St → Hp → (Option Int → Hp → Prop) → Prop
noncomputable def PO (X : Cx) (e : Option Expr) (t : TO) : Prop :=
  ∀ (pins : List (Addr × Obj)) (s : Shared) (σ : St) (H : Hp) (Q : Option Int → Hp → Prop), Inv X pins σ H s → t σ H Q →
    wpAny (model X.prog X.w) X.A (evalPart e X.env) (fun u s' => ∃ o H', Inv X pins σ H' s' ∧ IsPart u o ∧ Q o H') X.xe s
noncomputable def tNoPart : TO := fun _ H Q => Q none H
noncomputable def tPart (t : TE) : TO := fun σ H Q => t σ H fun x H1 => ∃ i, x = .int i ∧ Q (some i) H1

section
variable {X : Cx} {e : Expr} {te : TE} {lo hi : Option Expr} {tl th : TO} {pos p2 : Pos}

theorem po_none : PO X none tNoPart := by
  intro pins s σ H Q I h
  rw [evalPart_none]
  exact wpAny_pure ⟨none, H, I, .none, h⟩
theorem po_some (h : PE X e te) : PO X (some e) (tPart te) := by
  intro pins s σ H Q I hw
  rw [evalPart_some]
  refine thn (h pins s σ H _ I hw) fun u s1 ⟨x, H1, I1, r1, q1⟩ => ?_
  obtain ⟨i, rfl, q⟩ := q1
  obtain ⟨t, rfl⟩ := r1
  exact ⟨some i, H1, I1, .int i t, q⟩

noncomputable def SlR (X : Cx) (r : V → Option Int → Option Int → Hp → VK → Prop) : Prop :=
  ∀ (pins : List (Addr × Obj)) (s : Shared) (σ : St) (H : Hp) (x : V) (v vl vu : Value) (lo hi : Option Int) (sl : Addr) (Q : VK), Inv X pins σ H s → RelV x v → s.heap.IsSliceOf sl vl vu .none → IsPart vl lo → IsPart vu hi → r x lo hi H Q →
    ∃ T id, typeLookup (.type T) "__getitem__" = pure (some (.builtin id)) ∧ s.TypeIs v T ∧ wpAny (model X.prog X.w) X.A (getItem v (.ref sl)) (EP X pins σ Q) X.xe s
theorem SlR.or {r r' : V → Option Int → Option Int → Hp → VK → Prop} (h : SlR X r) (h' : SlR X r') : SlR X (fun x lo hi H Q => r x lo hi H Q ∨ r' x lo hi H Q) := by
  intro pins s σ H x v vl vu lo hi sl Q I rx hs pl pu q
  rcases q with q | q
  · exact h pins s σ H x v vl vu lo hi sl Q I rx hs pl pu q
  · exact h' pins s σ H x v vl vu lo hi sl Q I rx hs pl pu q
noncomputable def tSl (r : V → Option Int → Option Int → Hp → VK → Prop) (te : TE) (tl th : TO) : TE := fun σ H Q => te σ H fun x H1 => tl σ H1 fun l H2 => th σ H2 fun u H3 => r x l u H3 Q
theorem pe_slice {r : V → Option Int → Option Int → Hp → VK → Prop} (hr : SlR X r) (he : PE X e te) (hl : PO X lo tl) (hu : PO X hi th) : PE X (.Subscript e (.Slice lo hi none p2) pos) (tSl r te tl th) := by
  intro pins s σ H Q I h
  refine Subscript_ (thn (he pins s σ H _ I h) fun v s1 ⟨x, H1, I1, r1, q1⟩ => ?_)
  refine wpAny_Slice (thn (hl pins s1 σ H1 _ I1 q1) fun vl s2 ⟨l, H2, I2, pl, q2⟩ => thn (hu pins s2 σ H2 _ I2 q2) fun vu s3 ⟨u, H3, I3, pu, q3⟩ => ?_)
  rw [evalPart_none]
  refine wpAny_pure ?_
  have I4 : Inv X pins σ H3 { s3 with heap := s3.heap.push { cls := .type "slice", data := .fields #[vl, vu, .none] } } := I3.kept (t' := s3.toks) fun b ob q => Heap.get?_push_of_some _ q
  obtain ⟨T, id, hT, ht, hg⟩ := hr pins { s3 with heap := s3.heap.push { cls := .type "slice", data := .fields #[vl, vu, .none] } } σ H3 x v vl vu l u s3.heap.objs.size Q I4 r1 (Heap.IsSliceOf.new ..) pl pu q3
  show wpAny (model X.prog X.w) X.A (subscriptTail e (.Slice lo hi none p2) v (.ref s3.heap.objs.size)) (EP X pins σ Q) X.xe { s3 with heap := s3.heap.push { cls := .type "slice", data := .fields #[vl, vu, .none] } }
  exact tail_any (ops := [.ref s3.heap.objs.size, v]) ht hT hg (by with_unfolding_all rfl)

noncomputable def cutV (xs : List V) (lo hi : Option Int) : List V := (xs.drop (HT.sIx xs.length 0 lo)).take (HT.sIx xs.length xs.length hi - HT.sIx xs.length 0 lo)
theorem cutV_length (xs : List V) (lo hi : Option Int) : (cutV xs lo hi).length ≤ xs.length := by
  unfold cutV
  rw [List.length_take, List.length_drop]
  omega
end
end L2

namespace L2
open PySem PySem.Spec PyProof.Rows

noncomputable def ixN (n : Nat) (i : Int) : Option Nat := if 0 ≤ i then (if i < n then some i.toNat else none) else if -(n : Int) ≤ i then some (i + n).toNat else none
noncomputable def atI {α : Type} (xs : List α) (i : Int) : Option α := (ixN xs.length i).bind fun j => xs[j]?
theorem ixN_seq {n : Nat} {i : Int} {j : Nat} (h : ixN n i = some j) : seqIndex? i n = some j ∧ j < n ∧ -(n : Int) ≤ i ∧ i < n := by
  unfold ixN at h
  by_cases h0 : 0 ≤ i
  · rw [if_pos h0] at h
    by_cases h1 : i < n
    · rw [if_pos h1] at h
      have e : i.toNat = j := Option.some.inj h
      exact ⟨by rw [seqIndex_of h0 h1, e], by omega, by omega, h1⟩
    · rw [if_neg h1] at h; cases h
  · rw [if_neg h0] at h
    by_cases h1 : -(n : Int) ≤ i
    · rw [if_pos h1] at h
      have e : (i + n).toNat = j := Option.some.inj h
      exact ⟨by rw [seqIndex_neg (by omega) h1, e], by omega, h1, by omega⟩
    · rw [if_neg h1] at h; cases h
theorem atI_get {α : Type} {xs : List α} {i : Int} {v : α} (h : atI xs i = some v) : ∃ j, seqIndex? i xs.length = some j ∧ xs[j]? = some v ∧ j < xs.length ∧ -(xs.length : Int) ≤ i ∧ i < xs.length := by
  unfold atI at h
  cases e : ixN xs.length i with
  | none => rw [e] at h; cases h
  | some j =>
    rw [e] at h
    obtain ⟨h1, h2, h3, h4⟩ := ixN_seq e
    exact ⟨j, h1, h, h2, h3, h4⟩
theorem atI_nat {α : Type} {xs : List α} {j : Nat} {v : α} (h : xs[j]? = some v) : atI xs (j : Int) = some v := by
  have hj : j < xs.length := (List.getElem?_eq_some_iff.mp h).1
  have e : ixN xs.length (j : Int) = some j := by
    unfold ixN
    rw [if_pos (by omega), if_pos (by omega)]; simp
  unfold atI; rw [e]; exact h
theorem atI_last {α : Type} (xs : List α) (v : α) : atI (xs ++ [v]) (-1) = some v := by
  have hl : (xs ++ [v]).length = xs.length + 1 := by simp
  have e : ixN (xs ++ [v]).length (-1) = some xs.length := by
    unfold ixN
    rw [hl, if_neg (by decide), if_pos (by omega)]
    congr 1
    omega
  unfold atI
  rw [e]
  show (xs ++ [v])[xs.length]? = some v
  simp

noncomputable def PlainIx (b : Expr) : Prop := ∀ o i, subscripted b false o i = operate [o, i] (getItem o i)
noncomputable def IxR (X : Cx) (r : R2) : Prop :=
  ∀ (value slice : Expr) (pins : List (Addr × Obj)) (s : Shared) (σ : St) (H : Hp) (x y : V) (v u : Value) (Q : VK), Inv X pins σ H s → RelV x v → RelV y u → r x y H Q →
    subscripted slice false v u = operate [v, u] (getItem v u) → wpAny (model X.prog X.w) X.A (subscriptTail value slice v u) (EP X pins σ Q) X.xe s
noncomputable def MtR (X : Cx) (id : String) (r : V → List V → Hp → VK → Prop) : Prop :=
  ∀ (pins : List (Addr × Obj)) (s : Shared) (σ : St) (H : Hp) (x : V) (xs : List V) (v : Value) (us : List Value) (Q : VK), Inv X pins σ H s → RelV x v → Vals xs us → r x xs H Q →
    wpAny (model X.prog X.w) X.A (call (.builtin id) (v :: us)) (EP X pins σ Q) X.xe s
section
variable {X : Cx} {a b : Expr} {ta tb : TE} {pos : Pos}
theorem IxR.or {r r' : R2} (h : IxR X r) (h' : IxR X r') : IxR X (fun x y H Q => r x y H Q ∨ r' x y H Q) := by
  intro value slice pins s σ H x y v u Q I rx ry q hs
  rcases q with q | q
  · exact h value slice pins s σ H x y v u Q I rx ry q hs
  · exact h' value slice pins s σ H x y v u Q I rx ry q hs
theorem MtR.or {id : String} {r r' : V → List V → Hp → VK → Prop} (h : MtR X id r) (h' : MtR X id r') : MtR X id (fun x xs H Q => r x xs H Q ∨ r' x xs H Q) := by
  intro pins s σ H x xs v us Q I rx rs q
  rcases q with q | q
  · exact h pins s σ H x xs v us Q I rx rs q
  · exact h' pins s σ H x xs v us Q I rx rs q
theorem pe_ix {r : R2} (hr : IxR X r) (ha : PE X a ta) (hb : PE X b tb) (hs : PlainIx b) : PE X (.Subscript a b pos) (tOp r ta tb) := by
  intro pins s σ H Q I h
  exact Subscript_ (binT ha hb I h fun v u s2 x y H2 I2 rx ry q => hr a b pins s2 σ H2 x y v u Q I2 rx ry q (hs _ _))

noncomputable def rIxL (K : PySem.W.Frag) : R2 := fun x y H Q => ∃ p xs i v, x = .ref p ∧ y = .int i ∧ SqL K H p xs ∧ atI xs i = some v ∧ Q v H
noncomputable def rIxT (K : PySem.W.Frag) : R2 := fun x y H Q => ∃ p xs i v, x = .ref p ∧ y = .int i ∧ SqT K H p xs ∧ atI xs i = some v ∧ Q v H
noncomputable def rIxS : R2 := fun x y H Q => ∃ z i c, x = .str z ∧ y = .int i ∧ z.length ≤ sizeLine ∧ atI z.cps.toList i = some c ∧ Q (.str ⟨#[c]⟩) H
theorem ix_list : IxR X (rIxL X.K) := by
  intro value slice pins s σ H x y v u Q I rx ry h hs
  obtain ⟨p, xs, i, z, rfl, rfl, hq, he, q⟩ := h
  cases rx
  obtain ⟨t, rfl⟩ := ry
  obtain ⟨its, r, pl, hz⟩ := I.list hq
  obtain ⟨j, h1, h2, h3, h4, h5⟩ := atI_get he
  obtain ⟨w, ew, rw'⟩ := r.get h2
  have hl := r.length
  have hn := line63
  have fin : EP X pins σ Q w s := ⟨z, H, I, rw', q⟩
  by_cases h0 : 0 ≤ i
  · have hj : i.toNat = j := by
      rw [seqIndex_of h0 h5] at h1
      exact Option.some.inj h1
    exact item_listR pl.isList h0 (by omega) (by rw [hj]; simpa using ew) fin hs
  · have hj : (i + (its.toArray.size : Int)).toNat = j := by
      rw [seqIndex_neg (by omega) h4] at h1
      rw [List.size_toArray, ← hl]
      exact Option.some.inj h1
    exact subscriptTail_builtinR (x := w) pl.isList.typeIs slot_list_getitem.lookup
      (wpAny_getItem_list_neg (Q := fun r s' => r = w ∧ EP X pins σ Q r s') pl.isList (by omega) (by rw [List.size_toArray] <;> omega) (by omega) (by rw [hj]; simpa using ew) ⟨rfl, fin⟩) hs
theorem ix_tup : IxR X (rIxT X.K) := by
  intro value slice pins s σ H x y v u Q I rx ry h hs
  obtain ⟨p, xs, i, z, rfl, rfl, hq, he, q⟩ := h
  cases rx
  obtain ⟨t, rfl⟩ := ry
  obtain ⟨its, r, pl, hz⟩ := I.tuple hq
  obtain ⟨j, h1, h2, h3, h4, h5⟩ := atI_get he
  obtain ⟨w, ew, rw'⟩ := r.get h2
  have hl := r.length
  have hn := line63
  have fin : EP X pins σ Q w s := ⟨z, H, I, rw', q⟩
  exact subscriptTail_builtinR (x := w) pl.typeIs slot_tuple_getitem.lookup
    (getItem_tuple (j := j) (Q := fun r s' => r = w ∧ EP X pins σ Q r s') pl (by omega) (by omega) (by rw [List.size_toArray, ← hl]; exact h1) (by simpa using ew) ⟨rfl, fin⟩) hs
theorem ix_str : IxR X rIxS := by
  intro value slice pins s σ H x y v u Q I rx ry h hs
  obtain ⟨z, i, c, rfl, rfl, hz, he, q⟩ := h
  obtain ⟨t, rfl⟩ := rx
  obtain ⟨t', rfl⟩ := ry
  obtain ⟨j, h1, h2, h3, h4, h5⟩ := atI_get he
  have hl : z.cps.toList.length = z.length := by simp [Str.length]
  rw [hl] at h1 h4 h5
  have hn := line63
  exact tail_any (typeIs_str s z t) slot_str_getitem.lookup (getItem_str (c := c) (by
    have e1 : decide (i < -(2 ^ 63 : Int)) = false := decide_eq_false (by omega)
    have e2 : decide (i ≥ 2 ^ 63) = false := decide_eq_false (by omega)
    rw [e1, e2, Bool.or_false]) (by rw [h1]; simpa using h2) ⟨.str ⟨#[c]⟩, H, I.tok _, ⟨_, rfl⟩, q⟩) hs
theorem mapSeq_set (its : List Value) (n j : Nat) (u : Value) : Obj.mapSeq (·.setIfInBounds j u) { cls := .type "list", data := .seq its.toArray n } = { cls := .type "list", data := .seq (its.set j u).toArray n } := by
  simp [Obj.mapSeq]
theorem Inv.lst {pins : List (Addr × Obj)} {σ : St} {H : Hp} {s : Shared} {p : Addr} {xs : List V} (I : Inv X pins σ H s) (h : H p = some (.lst xs)) :
    ∃ (its : List Value) (n : Nat), Vals xs its ∧ s.heap.get? p = some { cls := .type "list", data := .seq its.toArray n } ∧ xs.length ≤ sizeLine := by
  obtain ⟨z, its, n, r, e⟩ := I.hok p _ h
  exact ⟨its, n, r, e, z⟩
theorem Inv.lstUpd {pins : List (Addr × Obj)} {σ : St} {H : Hp} {s : Shared} {p : Addr} {xs ys : List V} {its its' : List Value} {n n' : Nat} {f : Obj → Obj} (I : Inv X pins σ H s) (h : H p = some (.lst xs))
    (ho : s.heap.get? p = some { cls := .type "list", data := .seq its.toArray n }) (hf : f { cls := .type "list", data := .seq its.toArray n } = { cls := .type "list", data := .seq its'.toArray n' }) (r : Vals ys its') (hz : ys.length ≤ sizeLine) (t : Nat) :
    Inv X pins σ (upd H p (.lst ys)) { s with heap := s.heap.update p f, toks := t } := by
  have e : (s.heap.update p f).get? p = some { cls := .type "list", data := .seq its'.toArray n' } := by
    rw [Heap.get?_update_self f ho (by rw [hf] <;> rfl), hf]
  refine I.write (x := p) (e := p) (by rw [h]; trivial) (.inl rfl) (fun b u hb q => (Heap.get?_update_other _ _ (Ne.symm hb)).trans q) ⟨_, e⟩ ?_
  exact ⟨hz, its', n', r, e⟩
noncomputable def rSetL : V → V → V → Hp → (Hp → Prop) → Prop := fun o i v H Q => ∃ p xs k j, o = .ref p ∧ i = .int k ∧ H p = some (.lst xs) ∧ ixN xs.length k = some j ∧ Q (upd H p (.lst (xs.set j v)))
theorem set_list : PSet X rSetL := by
  intro pins s σ H o i v ov iv u Q I ro ri rv h
  obtain ⟨p, xs, k, j, rfl, rfl, hp, hj, q⟩ := h
  cases ro
  obtain ⟨t, rfl⟩ := ri
  obtain ⟨its, n, r, ho, hz⟩ := I.lst hp
  obtain ⟨h1, h2, h3, h4⟩ := ixN_seq hj
  have hl := r.length
  have hn := line63
  have I' : Inv X pins σ (upd H p (.lst (xs.set j v))) { s with heap := s.heap.update p (Obj.mapSeq (·.setIfInBounds j u)) } :=
    I.lstUpd hp ho (mapSeq_set its n j u) (r.set rv j) (by rw [List.length_set]; exact hz) s.toks
  by_cases h0 : 0 ≤ k
  · have hk : k.toNat = j := by
      rw [seqIndex_of h0 h4] at h1
      exact Option.some.inj h1
    exact PySem.W.ki_setAt ho h0 (by omega) (by rw [List.size_toArray, ← hl]; exact h4) (by rw [hk]; exact ⟨_, I', q⟩)
  · have hk : (k + (its.toArray.size : Int)).toNat = j := by
      rw [seqIndex_neg (by omega) h3] at h1
      rw [List.size_toArray, ← hl]
      exact Option.some.inj h1
    exact PySem.W.ki_setBack ho (by omega) (by rw [List.size_toArray, ← hl]; exact h3) (by omega) (by rw [hk]; exact ⟨_, I', q⟩)

theorem slice_bounds (lo hi : Option Int) (n : Nat) : (sliceBounds lo hi none n).1 = ((HT.sIx n 0 lo : Nat) : Int) ∧ (sliceBounds lo hi none n).2.1 = ((HT.sIx n n hi : Nat) : Int) ∧ (sliceBounds lo hi none n).2.2 = 1 := by
  refine ⟨?_, ?_, rfl⟩
  · cases lo with
    | none => simp [sliceBounds, HT.sIx]
    | some i =>
      simp only [sliceBounds, HT.sIx, Option.getD_none, show (1 : Int) > 0 by decide, if_true]
      by_cases h : i < 0
      · simp only [h, if_true] <;> omega
      · simp only [h, if_false] <;> omega
  · cases hi with
    | none => simp [sliceBounds, HT.sIx]
    | some i =>
      simp only [sliceBounds, HT.sIx, Option.getD_none, show (1 : Int) > 0 by decide, if_true]
      by_cases h : i < 0
      · simp only [h, if_true] <;> omega
      · simp only [h, if_false] <;> omega
theorem slicePick_cut (its : List Value) (lo hi : Option Int) : slicePick its.toArray lo hi none = ((its.drop (HT.sIx its.length 0 lo)).take (HT.sIx its.length its.length hi - HT.sIx its.length 0 lo)).toArray := by
  obtain ⟨h1, h2, h3⟩ := slice_bounds lo hi its.toArray.size
  unfold slicePick
  rw [h1, h2, h3]
  simp only [sliceRange_one, pick_run, List.size_toArray] <;> rfl
noncomputable def rSlL (K : PySem.W.Frag) : V → Option Int → Option Int → Hp → VK → Prop := fun x lo hi H Q => ∃ a xs, x = .ref a ∧ SqL K H a xs ∧ ∀ p, H p = none → Q (.ref p) (upd H p (.lst (cutV xs lo hi)))
theorem sl_list : SlR X (rSlL X.K) := by
  intro pins s σ H x v vl vu lo hi sl Q I rx hs pl pu h
  obtain ⟨a, xs, rfl, hx, q⟩ := h
  cases rx
  obtain ⟨its, r, ht, hz⟩ := I.list hx
  have hlen := r.length
  refine ⟨"list", _, slot_list_getitem.lookup, ht.isList.typeIs, ?_⟩
  refine wpAny_getItem_list_slice ht.isList hs pl pu .none (by simp) ?_ (by rw [List.size_toArray] <;> omega)
  rw [slicePick_cut, ← hlen]
  refine ⟨.ref s.heap.objs.size, _, I.laid (t' := s.toks) (o := .lst (cutV xs lo hi)) (fun b ob q => Heap.get?_push_of_some _ q) (Nat.le_refl _) ?_, rfl, q _ (I.hok.fresh (Nat.le_refl _))⟩
  exact ⟨Nat.le_trans (cutV_length xs lo hi) hz, _, 0, (r.drop (HT.sIx xs.length 0 lo)).take (HT.sIx xs.length xs.length hi - HT.sIx xs.length 0 lo), Heap.get?_push_size _ rfl⟩

noncomputable def flatV : V → Bool
  | .non => true
  | .bl _ => true
  | .int _ => true
  | .str _ => true
  | _ => false
noncomputable def eqV : V → V → Bool
  | .non, .non => true
  | .bl a, .bl b => a == b
  | .bl a, .int b => (if a then 1 else 0) == b
  | .int a, .bl b => a == (if b then 1 else 0)
  | .int a, .int b => a == b
  | .str a, .str b => a == b
  | _, _ => false
theorem eqAt_V {A : Around} {s : Shared} {y x : V} {u v : Value} (ry : RelV y u) (rx : RelV x v) (fy : flatV y = true) (fx : flatV x = true) : SeqAt.EqAt A s u v (eqV y x) := by
  cases y with
  | non =>
    cases ry
    cases x with
    | non => cases rx; exact SeqAt.EqAt.same _
    | bl b => cases rx; exact SeqAt.EqAt.none_bool b
    | int b => obtain ⟨t, rfl⟩ := rx; exact SeqAt.EqAt.none_int b t
    | str b => obtain ⟨t, rfl⟩ := rx; exact SeqAt.EqAt.none_str b t
    | _ => exact absurd (show false = true from fx) Bool.false_ne_true
  | bl a =>
    cases ry
    cases x with
    | non => cases rx; exact SeqAt.EqAt.bool_none a
    | bl b => cases rx; exact SeqAt.EqAt.bool_bool a b
    | int b => obtain ⟨t, rfl⟩ := rx; exact SeqAt.EqAt.bool_int a b t
    | str b => obtain ⟨t, rfl⟩ := rx; exact SeqAt.EqAt.bool_str a b t
    | _ => exact absurd (show false = true from fx) Bool.false_ne_true
  | int a =>
    obtain ⟨t', rfl⟩ := ry
    cases x with
    | non => cases rx; exact SeqAt.EqAt.int_none a t'
    | bl b => cases rx; exact SeqAt.EqAt.int_bool a t' b
    | int b => obtain ⟨t, rfl⟩ := rx; exact SeqAt.EqAt.int_int a t' b t
    | str b => obtain ⟨t, rfl⟩ := rx; exact SeqAt.EqAt.int_str a t' b t
    | _ => exact absurd (show false = true from fx) Bool.false_ne_true
  | str a =>
    obtain ⟨t', rfl⟩ := ry
    cases x with
    | non => cases rx; exact SeqAt.EqAt.str_none a t'
    | bl b => cases rx; exact SeqAt.EqAt.str_bool a t' b
    | int b => obtain ⟨t, rfl⟩ := rx; exact SeqAt.EqAt.str_int a t' b t
    | str b => obtain ⟨t, rfl⟩ := rx; exact SeqAt.EqAt.str_str a t' b t
    | _ => exact absurd (show false = true from fx) Bool.false_ne_true
  | _ => exact absurd (show false = true from fy) Bool.false_ne_true
theorem call_len_seq : CallR X (.builtin "len") (fun xs H Q => ∃ p ys, xs = [.ref p] ∧ (SqL X.K H p ys ∨ SqT X.K H p ys) ∧ Q (.int ys.length) H) := by
  intro pins s σ H xs us Q I r h
  obtain ⟨p, ys, rfl, hq, q⟩ := h
  obtain ⟨u, rfl, rx⟩ := vals1 r
  cases rx
  have hn := line63
  rcases hq with hq | hq
  · obtain ⟨its, r', pl, hz⟩ := I.list hq
    have hlen := r'.length
    exact Calls.call_len_list pl.isList (by simp only [List.size_toArray] <;> omega) ⟨.int ys.length, H, I.tok _, ⟨s.toks + 1, by rw [List.size_toArray, hlen]⟩, q⟩
  · obtain ⟨its, r', pl, hz⟩ := I.tuple hq
    have hlen := r'.length
    exact len_tuple pl (by simp only [List.size_toArray] <;> omega) ⟨.int ys.length, H, I.tok _, ⟨s.toks + 1, by rw [List.size_toArray, hlen]⟩, q⟩
theorem call_len_str : CallR X (.builtin "len") (fun xs H Q => ∃ z, xs = [.str z] ∧ z.length ≤ sizeLine ∧ Q (.int z.length) H) := by
  intro pins s σ H xs us Q I r h
  obtain ⟨z, rfl, hz, q⟩ := h
  obtain ⟨u, rfl, t, rfl⟩ := vals1 r
  have hn := line63
  exact len_str (by omega) ⟨.int z.length, H, I.tok _, ⟨_, rfl⟩, q⟩
theorem CallR.or {f : Value} {r r' : List V → Hp → VK → Prop} (h : CallR X f r) (h' : CallR X f r') : CallR X f (fun xs H Q => r xs H Q ∨ r' xs H Q) := by
  intro pins s σ H xs us Q I rs q
  rcases q with q | q
  · exact h pins s σ H xs us Q I rs q
  · exact h' pins s σ H xs us Q I rs q
theorem call_list_of : CallR X (.type "list") (fun xs H Q => ∃ p ys, xs = [.ref p] ∧ (SqL X.K H p ys ∨ SqT X.K H p ys) ∧ ∀ l, H l = none → Q (.ref l) (upd H l (.lst ys))) := by
  intro pins s σ H xs us Q I r h
  obtain ⟨p, ys, rfl, hq, q⟩ := h
  obtain ⟨u, rfl, rx⟩ := vals1 r
  cases rx
  have fin : ∀ (its : List Value), Vals ys its → ys.length ≤ sizeLine → ∀ (h' : Heap) (c' : Nat), (∀ b o', s.heap.get? b = some o' → h'.get? b = some o') →
      h'.get? s.heap.objs.size = some { cls := .type "list", dict := none, data := .seq its.toArray c', slots := #[] } → EP X pins σ Q (.ref s.heap.objs.size) { s with heap := h' } := fun its r' hz h' c' kp e =>
    ⟨.ref s.heap.objs.size, _, I.laid (t' := s.toks) kp (Nat.le_refl _) (show ObjOk X.prog X.w _ h' _ (.lst ys) from ⟨hz, its, c', r', e⟩), rfl, q _ (I.hok.fresh (Nat.le_refl _))⟩
  rcases hq with hq | hq
  · obtain ⟨its, r', pl, hz⟩ := I.list hq
    have hlen := r'.length
    obtain ⟨o, ho, hc, n, hd⟩ := pl.isList
    exact call_list_seq p (.inl rfl) ho hc hd (fun h' c' kp e => fin its r' hz h' c' kp e) (by simp only [List.size_toArray] <;> omega)
  · obtain ⟨its, r', pl, hz⟩ := I.tuple hq
    have hlen := r'.length
    obtain ⟨o, ho, hc, n, hd⟩ := pl
    exact call_list_seq p (.inr rfl) ho hc hd (fun h' c' kp e => fin its r' hz h' c' kp e) (by simp only [List.size_toArray] <;> omega)
noncomputable def tyV (K : PySem.W.Frag) (T : String) (x : V) (H : Hp) : Prop := match x with
  | .str _ => T = "str"
  | .int _ => T = "int"
  | .ref p => (T = "list" ∧ ∃ xs, SqL K H p xs) ∨ (T = "tuple" ∧ ∃ o, K.lookup p = some o ∧ o.cls = .type "tuple" ∧ o.dict = none) ∨
      (T = "dict" ∧ ((∃ kvs, H p = some (.dK kvs)) ∨ ∃ kvs, H p = some (.dT kvs))) ∨ (T = "set" ∧ ∃ S n, H p = some (.set S n))
  | _ => False
theorem tyV_is {pins : List (Addr × Obj)} {σ : St} {H : Hp} {s : Shared} {T : String} {x : V} {v : Value} (I : Inv X pins σ H s) (r : RelV x v) (ty : tyV X.K T x H) :
    s.TypeIs v T ∧ ∀ a, v = .ref a → ∃ ob, s.heap.get? a = some ob ∧ ob.dict = none := by
  cases x with
  | str z =>
    obtain ⟨t, rfl⟩ := r
    cases (show T = "str" from ty)
    exact ⟨typeIs_str s z t, fun _ e => nomatch e⟩
  | int i =>
    obtain ⟨t, rfl⟩ := r
    cases (show T = "int" from ty)
    exact ⟨typeIs_int s i t, fun _ e => nomatch e⟩
  | ref p =>
    cases r
    rcases ty with ⟨rfl, xs, hq⟩ | ⟨rfl, o, hk, hc, hd⟩ | ⟨rfl, hk⟩ | ⟨rfl, S, n, hk⟩
    · obtain ⟨its, _, pl, _⟩ := I.list hq
      refine ⟨pl.isList.typeIs, fun a e => ?_⟩
      cases e
      obtain ⟨o, n, e, c, hd, _⟩ := pl
      exact ⟨o, e, hd⟩
    · refine ⟨⟨o, I.kIn p o hk, hc⟩, fun a e => ?_⟩
      cases e
      exact ⟨o, I.kIn _ o hk, hd⟩
    · have z : ∃ o, s.heap.get? p = some o ∧ o.ExactDict := by
        rcases hk with ⟨kvs, hk⟩ | ⟨kvs, hk⟩
        · obtain ⟨_, _, _, _, o, _, _, e, ex, _⟩ := I.hok p _ hk
          exact ⟨o, e, ex⟩
        · obtain ⟨_, _, _, _, o, _, _, e, ex, _⟩ := I.hok p _ hk
          exact ⟨o, e, ex⟩
      obtain ⟨o, e, ex⟩ := z
      refine ⟨⟨o, e, ex.1⟩, fun a e2 => ?_⟩
      cases e2
      exact ⟨o, e, ex.2.1⟩
    · obtain ⟨o, _, _, _, e, ex, _⟩ := I.hok p _ hk
      refine ⟨⟨o, e, ex.1⟩, fun a e2 => ?_⟩
      cases e2
      exact ⟨o, e, ex.2.1⟩
  | _ => exact False.elim ty
noncomputable def tBM0 (K : PySem.W.Frag) (T : String) (r : V → List V → Hp → VK → Prop) (to : TE) : TE := fun σ H Q => to σ H fun x H1 => tyV K T x H1 ∧ r x [] H1 Q
noncomputable def tBM (K : PySem.W.Frag) (T : String) (r : V → List V → Hp → VK → Prop) (to : TE) (t : TA) : TE := fun σ H Q => to σ H fun x H1 => tyV K T x H1 ∧ t σ H1 fun xs H2 => r x xs H2 Q
variable {o e : Expr} {es : List Expr} {to : TE} {t : TA} {name : Str} {apos cpos : Pos} {T id : String} {r : V → List V → Hp → VK → Prop}
theorem pe_bm0 (pa : PlainAttrs T) (slot : Slot T name id) (hty : typeOf (.builtin id) = pure (.type "method_descriptor")) (hm : MtR X id r) (ho : PE X o to)
    (hbase : attributeBase o name X.env (eval o X.env) = eval o X.env := by rfl) (hline : (apos.endLine == cpos.line) = true := by rfl) : PE X (.Call (.Attribute o name apos) [] [] cpos) (tBM0 X.K T r to) := by
  intro pins s σ H Q I h
  refine wpAny_Call_method0_late hbase hline (thn (ho pins s σ H _ I h) fun v s1 ⟨x, H1, I1, r1, ty, q1⟩ => ?_)
  obtain ⟨h1, h2⟩ := tyV_is I1 r1 ty
  exact ⟨T, id, pa, slot, hty, h1, h2, Calls.callWith_builtin rfl (PySem.evalArgs_none (hm pins s1 σ H1 x [] v [] Q I1 r1 .nil q1))⟩
theorem pe_bm (pa : PlainAttrs T) (slot : Slot T name id) (hty : typeOf (.builtin id) = pure (.type "method_descriptor")) (hm : MtR X id r) (ho : PE X o to) (ha : PA X (e :: es) t)
    (hbase : attributeBase o name X.env (eval o X.env) = eval o X.env := by rfl)
    (hfew : ((backTo cpos (starEach (e :: es) X.env)).all (fun x => !x.1) && (backToKw cpos (keywordEach [] X.env)).all (fun x => x.1.isSome)
      && decide ((e :: es).length + ([] : List Keyword).length + (if ([] : List Keyword).isEmpty then 0 else 1) < 30)) = true := by rfl)
    (hline : (apos.endLine == cpos.line) = true := by rfl) (hs : starEach (e :: es) X.env = (false, eval e X.env) :: starEach es X.env := by rfl) (hplain : (backTo cpos (starEach es X.env)).any (·.1) = false := by rfl) :
    PE X (.Call (.Attribute o name apos) (e :: es) [] cpos) (tBM X.K T r to t) := by
  intro pins s σ H Q I h
  refine wpAny_Call_method_late hbase hfew hline rfl (thn (ho pins s σ H _ I h) fun v s1 ⟨x, H1, I1, r1, ty, q1⟩ => ?_)
  obtain ⟨h1, h2⟩ := tyV_is I1 r1 ty
  refine ⟨T, id, pa, slot, hty, h1, h2, ?_⟩
  have hA := ha cpos pins s1 σ H1 _ I1 q1
  rw [hs] at hA ⊢
  refine Calls.callWith_builtin (by show (false || (backTo cpos (starEach es X.env)).any (·.1)) = false; rw [hplain] <;> rfl) (Calls.evalArgs_plain ?_)
  exact thn hA fun us s2 ⟨vs, H2, I2, r2, q2⟩ => hm pins s2 σ H2 x vs v us Q I2 r1 r2 q2
end
end L2

namespace L2
open PySem PySem.Spec PyProof.Rows

noncomputable def MtM (X : Cx) (id : String) (r : V → List V → Hp → VK → Prop) : Prop :=
  ∀ (pins : List (Addr × Obj)) (s : Shared) (σ : St) (H : Hp) (x : V) (xs : List V) (v : Value) (us : List Value) (Q : VK), Inv X pins σ H s → RelV x v → Vals xs us → r x xs H Q →
    wpAny (model X.prog X.w) X.A (call (.builtin id) (v :: us)) (EP X pins σ Q) X.xe s

theorem Vals.one : ∀ {x : V} {us : List Value}, Vals [x] us → ∃ u, us = [u] ∧ RelV x u
  | _, _, .cons r .nil => ⟨_, rfl, r⟩
theorem Vals.zero : ∀ {us : List Value}, Vals [] us → us = []
  | _, .nil => rfl
theorem Vals.dropLast {xs : List V} {us : List Value} (h : Vals xs us) : Vals xs.dropLast us.dropLast := by
  induction h with
  | nil => exact .nil
  | cons r t ih =>
    cases t with
    | nil => exact .nil
    | cons q t' => exact .cons r ih
theorem Vals.eraseIdx : ∀ {xs : List V} {us : List Value} (i : Nat), Vals xs us → Vals (xs.eraseIdx i) (us.eraseIdx i)
  | _, _, _, .nil => .nil
  | _, _, 0, .cons _ t => t
  | _, _, i + 1, .cons r t => .cons r (Vals.eraseIdx i t)
theorem Vals.reverse {xs : List V} {us : List Value} (h : Vals xs us) : Vals xs.reverse us.reverse := by
  induction h with
  | nil => exact .nil
  | cons r t ih => rw [List.reverse_cons, List.reverse_cons]; exact Vals.append ih (.cons r .nil)
section
variable {X : Cx} {pins : List (Addr × Obj)} {σ : St} {H : Hp} {s : Shared} {l b : Addr} {xs ys zs : List V}

theorem Inv.lset {its its' : List Value} {n : Nat} {f : Array Value → Array Value} {t' : Nat} (I : Inv X pins σ H s) (hH : H l = some (.lst xs))
    (e : s.heap.get? l = some { cls := .type "list", data := .seq its.toArray n }) (hf : f its.toArray = its'.toArray) (hv : Vals ys its') (hz : ys.length ≤ sizeLine) :
    Inv X pins σ (upd H l (.lst ys)) { s with heap := s.heap.update l (Obj.mapSeq f), toks := t' } := by
  have q := PySem.IsL.update e f
  rw [hf] at q
  refine I.write (x := l) (e := l) (by rw [hH]; exact trivial) (.inl rfl) (fun b' u hb hu => (Heap.get?_update_other s.heap (Obj.mapSeq f) (Ne.symm hb)).trans hu) ⟨_, q⟩ ?_
  exact ⟨hz, its', _, hv, q⟩
theorem Inv.lnew {its : List Value} {t' : Nat} (I : Inv X pins σ H s) (hv : Vals ys its) (hz : ys.length ≤ sizeLine) :
    Inv X pins σ (upd H s.heap.objs.size (.lst ys)) { s with heap := s.heap.push { cls := .type "list", data := .seq its.toArray }, toks := t' } :=
  I.laid (fun _ _ q => Heap.get?_push_of_some _ q) (Nat.le_refl _) ⟨hz, its, 0, hv, Heap.get?_push_size _ rfl⟩
theorem Inv.fresh (I : Inv X pins σ H s) : H s.heap.objs.size = none := I.hok.fresh (Nat.le_refl _)
theorem Inv.lstM (I : Inv X pins σ H s) (hH : H l = some (.lst xs)) : xs.length ≤ sizeLine ∧ ∃ (its : List Value) (n : Nat), Vals xs its ∧ xs.length = its.length ∧ s.heap.get? l = some { cls := .type "list", data := .seq its.toArray n } := by
  obtain ⟨z, its, n, r, e⟩ := I.hok l _ hH
  exact ⟨z, its, n, r, r.length, e⟩

end

section
variable {X : Cx}

noncomputable def rAppend : V → List V → Hp → VK → Prop := fun x vs H Q => ∃ l xs y, x = .ref l ∧ vs = [y] ∧ H l = some (.lst xs) ∧ xs.length < sizeLine ∧ Q .non (upd H l (.lst (xs ++ [y])))
theorem mt_append : MtM X "list.append" rAppend := by
  intro pins s σ H x vs v us Q I rx rv h
  obtain ⟨l, xs, y, rfl, rfl, hH, hz, q⟩ := h
  cases rx
  obtain ⟨u, rfl, ru⟩ := rv.one
  obtain ⟨z, its, n, r, hl, e⟩ := I.lstM hH
  refine call_meets F.slot_list_append ⟨_, e, rfl⟩ F.entry_list_append (F.args_list_append_2 _ _) (PySem.list_append l its.toArray n u (by rw [List.size_toArray]; omega)) ⟨e, ?_⟩
  refine ⟨.non, _, I.lset (its' := its ++ [u]) hH e (by simp) (r.append (.cons ru .nil)) ?_, rfl, q⟩
  rw [List.length_append, List.length_singleton]
  omega

noncomputable def rPopAt : V → List V → Hp → VK → Prop := fun x vs H Q => ∃ l xs i k y, x = .ref l ∧ vs = [.int i] ∧ H l = some (.lst xs) ∧ -(2 ^ 63) ≤ i ∧ i < 2 ^ 63 ∧ seqIndex? i xs.length = some k ∧ xs[k]? = some y ∧ Q y (upd H l (.lst (xs.eraseIdx k)))
noncomputable def rClear : V → List V → Hp → VK → Prop := fun x vs H Q => ∃ l xs, x = .ref l ∧ vs = [] ∧ H l = some (.lst xs) ∧ Q .non (upd H l (.lst []))
theorem mt_clear : MtM X "list.clear" rClear := by
  intro pins s σ H x vs v us Q I rx rv h
  obtain ⟨l, xs, rfl, rfl, hH, q⟩ := h
  cases rx
  have hus := rv.zero
  subst hus
  obtain ⟨z, its, n, r, hl, e⟩ := I.lstM hH
  refine call_meets F.slot_list_clear ⟨_, e, rfl⟩ F.entry_list_clear (F.args_list_clear_1 _) (AutoSeq1.list_clear_list_0 l its.toArray n (by rw [List.size_toArray]; omega)) ⟨e, ?_⟩
  exact ⟨.non, _, I.lset (its' := []) (ys := []) hH e rfl .nil (Nat.zero_le _), rfl, q⟩

noncomputable def rCat : R2 := fun x y H Q => ∃ l b xs zs, x = .ref l ∧ y = .ref b ∧ H l = some (.lst xs) ∧ H b = some (.lst zs) ∧ xs.length + zs.length ≤ sizeLine ∧ ∀ p, H p = none → Q (.ref p) (upd H p (.lst (xs ++ zs)))
theorem op_cat : OpR X (binaryOp .Add) rCat := by
  intro pins s σ H x y v u Q I rx ry h
  obtain ⟨l, b, xs, zs, rfl, rfl, hH, hB, hz, q⟩ := h
  cases rx
  cases ry
  obtain ⟨z, its, n, r, hl, e⟩ := I.lstM hH
  obtain ⟨z2, its2, n2, r2, hl2, e2⟩ := I.lstM hB
  refine PySem.P.add_list e e2 ?_ (by rw [List.size_toArray, List.size_toArray]; omega)
  have ea : its.toArray ++ its2.toArray = (its ++ its2).toArray := by simp
  rw [ea]
  exact ⟨.ref _, _, I.lnew (t' := s.toks) (r.append r2) (by rw [List.length_append]; omega), rfl, q _ I.fresh⟩
end

section
variable {prog : Program} {w : World} {A : Around} {E : Value → Shared → Prop} {s : Shared}
end

section
variable {X : Cx}
end
end L2

namespace Att
open PySem PySem.W PySem.Calls PyProof.Rows

theorem ints_of_wellAll {P : Params} {h : Heap} : ∀ (ns : List Int) (vs : List Value), WellAll P h vs (ns.map WData.int) → IntsAre vs ns := by
  intro ns
  induction ns with
  | nil =>
    intro vs w
    rw [List.map_nil] at w
    cases w
    exact .nil
  | cons n ns ih =>
    intro vs w
    rw [List.map_cons] at w
    cases w with
    | cons a b =>
      cases a
      exact .cons _ _ (ih _ b)

theorem script_of {l : OpenLaw} {n : Nat} (hn : l.most = some n) {P : Params} {h : Heap} {args : List WData} {vals : List Value}
    (hpre : l.row.toRowW.claim.pre args = true) (hwl : WellAll P h vals args) :
    ∃ a vs ns, vals = [Value.ref a] ∧ args = [WData.list (ns.map WData.int)] ∧ h.get? a = some { cls := .type "list", data := .seq vs.toArray } ∧ IntsAre vs ns ∧ ns.length ≤ n := by
  have hsh : WShape.hasAll [] args [.list .int] = true := (pre_splitW hpre).1
  have hc : l.pre.holds [] { args := args } = true := (pre_splitW hpre).2
  obtain ⟨d, r, rfl, h1, h2⟩ := hasAllW_cons hsh
  obtain rfl := hasAllW_nil h2
  obtain ⟨xs, rfl, h3⟩ := hasW_list h1
  obtain ⟨ns, rfl⟩ := items_int h3
  have hlen : ns.length ≤ n := by
    unfold OpenLaw.pre at hc
    have h4 : (WTm.not (.lt (.lit (.int (n : Int))) (.len (.arg 0)))).holds [] { args := [.list (ns.map .int)] } = true := by
      have h4 := (holds_andW hc).1
      rw [hn] at h4
      exact h4
    have h5 := condW_of h4 (w_not (w_lt w_lit (w_len_list (w_arg rfl))))
    rw [List.length_map] at h5
    refine Nat.le_of_not_lt fun q => ?_
    have q' : (n : Int) < ((ns.length : Nat) : Int) := by omega
    first
      | (rw [decide_eq_true q'] at h5; exact absurd h5 (by decide))
      | (simp at h5; omega)
  cases hwl with
  | cons w1 w2 =>
    cases w2
    cases w1 with
    | list ho hall => exact ⟨_, _, ns, rfl, rfl, ho, ints_of_wellAll ns _ hall, hlen⟩

theorem post_true (l : OpenLaw) (args : List WData) : l.row.toRowW.claim.post args (.bool true) args = true :=
  postW_of (r := l.row.toRowW) (X := (true == true))
    (show WShape.has [] (.bool true) .bool = true by first | rfl | decide | simp [WShape.has, WShape.arms, WShape.armsAll])
    (show (WTm.eq .res (.lit (.bool true))).value [] { args := args, res := some (.bool true), after := args } = some (.bool (true == true)) from w_eq_bool (w_res rfl) w_lit) rfl

theorem attach_call {l : OpenLaw} {n : Nat} {q : Program} {loose : List Str} {XP : (Str → Option Value) → Heap → Prop} {YP : World → Heap → Prop} {d : DefRec}
    (hn : l.most = some n) (hdf : d.params.defaults = [])
    (call : ∀ (w : World) (s₀ s₁ : Shared) (mg mb : Str → Option Value) (fa : Addr) (o : Obj) (pm cd doc : Value) (a : Addr) (vs : List Value) (ns : List Int),
      Ground q loose [] XP w s₀ mg mb s₁.heap → YP w s₁.heap →
      s₁.heap.get? fa = some o → o.data = .func (docDef d.name d.params d.body d.scope pm cd doc) → s₁.heap.CodeRec cd d.name → mg d.name = some (.ref fa) →
      s₁.heap.get? a = some { cls := .type "list", data := .seq vs.toArray } → IntsAre vs ns → ns.length ≤ n → s₁.gens = #[] →
      codeAny (model l.prog w) callerA (.call (.ref fa) ⟨[.ref a], []⟩) (fun r s' => r = .ok (.ret (.bool true)) ∧ OldK s₁.heap s'.heap ∧ s'.os = s₁.os ∧ AllBare s'.gens) s₁) :
    WalkO q loose XP YP l.row.toRowW d [] (fun f vs => PySem.call f vs) := by
  intro w s₀ s₁ mg mb G Y fa o pm cd doc dV kV ho hd hcd hD hmg hg args vals as hpre hlay hrd hwl hlo
  obtain rfl : dV = .none := Dflts.none hD hdf
  obtain rfl : kV = .none := Dflts.noKw hD
  obtain ⟨a, vs, ns, rfl, rfl, hobj, hints, hlen⟩ := script_of hn hpre hwl
  refine enter_call (codeAny_mono (call w s₀ s₁ mg mb fa o pm cd doc a vs ns G Y ho (fd_plain hd) hcd hmg hobj hints hlen hg) fun r s' hq => ?_)
  obtain ⟨rfl, h2, h3, h4⟩ := hq
  exact ⟨.inl ⟨.bool true, .bool true, [], rfl, fun _ => rfl, .bool true, post_true l _, fun _ => ⟨List.Pairwise.nil, fun _ hm => (nomatch hm)⟩⟩, h2, h3, h4⟩

section
variable {prog : Program} {w : World} {A : Around} {E : Value → Shared → Prop} {s : Shared} {K : Frag}

end
end Att

namespace L2
open PySem PySem.Spec PyProof.Rows

theorem vals_ints : ∀ {vs : List Value} {ns : List Int}, IntsAre vs ns → Vals (ns.map V.int) vs
  | _, _, .nil => .nil
  | _, _, .cons n t h => .cons ⟨t, rfl⟩ (vals_ints h)

noncomputable def Only (H : Hp) : Prop := ∀ b, H b = none ∨ ∃ o xs, H b = some (.frz o (.lst xs))

theorem law_call {P : Program} {w : World} {K : PySem.W.Frag} {mg mb : Str → Option Value} {CX : CXT} {k : Nat} {fa a : Addr} {fd : FuncData} {x : Str} {sp : Sp} {s₁ : Shared} {vs : List Value} {ns : List Int}
    (KX : K.In s₁.heap) (hns : s₁.heap.Ns mainGlobals mg) (hb : s₁.heap.Ns builtinsNs mb) (hbb : ∀ x : Str, x ≠ "__name__" → mb x = bootBuiltins x) (hlim : s₁.heap.NoLimit) (hg : s₁.gens = #[])
    (ha : s₁.heap.get? a = some { cls := .type "list", data := .seq vs.toArray }) (hi : IntsAre vs ns) (hl : ns.length ≤ sizeLine) (hr : Room k callerA)
    (F : ∀ base : Heap, K.In base → base.Ns mainGlobals mg → FnOk P w K mg base CX k fa fd [x] sp) (hbind : ∀ (s : Shared) (u : Value), BindsTo s fd ⟨[u], []⟩ [(x, u)])
    (hsp : ∀ H : Hp, Only H → SqL K H a (ns.map V.int) → sp [.ref a] H (fun v _ => v = .bl true) fun _ _ _ => False)
    (hCX : ∀ H e s', CX [] H s₁ (fun _ _ _ => False) e s' → False) :
    codeAny (model P w) callerA (.call (.ref fa) ⟨[.ref a], []⟩) (fun r s' => r = .ok (.ret (.bool true)) ∧ OldK s₁.heap s'.heap ∧ s'.os = s₁.os ∧ AllBare s'.gens) s₁ := by
  have rv := vals_ints hi
  have lenV := hi.length
  -- from an abstract heap in which nothing but the script may be tracked
  have core : ∀ H : Hp, Only H → SqL K H a (ns.map V.int) → HOk P w H s₁.heap → (∀ b, H b ≠ none → b = a) → (H a ≠ none → K.lookup a = none) →
      codeAny (model P w) callerA (.call (.ref fa) ⟨[.ref a], []⟩) (fun r s' => r = .ok (.ret (.bool true)) ∧ OldK s₁.heap s'.heap ∧ s'.os = s₁.os ∧ AllBare s'.gens) s₁ := by
    intro H hO hS hok hA hK
    have base_of : ∀ {b : Addr} {o : Obj}, s₁.heap.get? b = some o → H b = none → (hidT s₁.heap H).get? b = some o := fun e n => hidT_get e n
    have noA : ∀ {b : Addr} {o : Obj} {es : Array DictEntry} {ep : Nat}, s₁.heap.get? b = some o → o.data = .dict es ep → H b = none := fun {b o es ep} e d => by
      cases q : H b with
      | none => rfl
      | some u =>
        have e' : b = a := hA b (by rw [q]; simp)
        subst e'
        rw [ha] at e; cases e
        have d' : Data.seq vs.toArray _ = Data.dict es ep := d
        cases d'
    have nsK : ∀ {b : Addr} {m : Str → Option Value}, s₁.heap.Ns b m → (hidT s₁.heap H).Ns b m := fun {b m} ⟨o, es, ep, e, d, r⟩ => ⟨o, es, ep, base_of e (noA e d), d, r⟩
    have hKb : K.In (hidT s₁.heap H) := fun b o e => base_of (KX b o e) (by
      cases q : H b with
      | none => rfl
      | some u =>
        have e' : b = a := hA b (by rw [q]; simp)
        subst e'
        rw [hK (by rw [q]; simp)] at e; cases e)
    have hM : Mod K mg (hidT s₁.heap H) := ⟨hKb, nsK hns, ⟨mb, nsK hb, hbb⟩, let ⟨mc, h1, h2⟩ := hlim; ⟨mc, nsK h1, h2⟩⟩
    have e0 : Env0 P w K mg (hidT s₁.heap H) callerA [] s₁ H := ⟨rfl, hM, fun b o e => of_hidT e, Nat.le_of_eq (hidT_size _ _), trivial, fun b hb => absurd (show b ∈ ([] : List Addr) from hb) (by simp), hok, .of_eq hg⟩
    refine codeAny_mono ((F _ hKb (nsK hns)).run callerA [] s₁ H ⟨[.ref a], []⟩ [.ref a] [.ref a] _ _ hr e0 (hbind s₁ (.ref a)) (.cons rfl .nil) (hsp H hO hS)) fun r s' h => ?_
    cases r with
    | error e => exact (hCX H e s' h).elim
    | ok fl =>
      cases fl with
      | next => exact False.elim h
      | brk => exact False.elim h
      | cont => exact False.elim h
      | ret u =>
        obtain ⟨v, H', os, bare, un, hok', r', q⟩ := h
        have q' : v = .bl true := q
        subst q'
        obtain rfl : u = Value.bool true := r'
        refine ⟨rfl, OldK.of_keep fun b o e => ?_, os, bare⟩
        cases q : H b with
        | none => exact un.keep b o e q (by intro z; exact absurd (show b ∈ ([] : List Addr) from z) (by simp)) (by simp)
        | some u =>
          rcases hO b with z | ⟨ob, xs, z⟩
          · rw [q] at z; cases z
          · have z2 := un.frzs b ob _ z
            obtain ⟨e1, _⟩ := hok b _ z
            obtain ⟨e2, _⟩ := hok' b _ z2
            rw [e] at e1; cases e1
            exact e2
  cases hk : K.lookup a with
  | some o =>
    -- the script is one of the module's own objects
    have e := KX a o hk
    rw [ha] at e
    cases e
    refine core (fun _ => none) (fun _ => .inl rfl) (.inr ⟨_, vs.toArray, _, hk, rfl, rfl, rfl, by rw [List.size_toArray, lenV]; exact hl, by simpa using rv⟩) (fun b u z => by have z' : (none : Option HO) = some u := z; cases z') (fun b z => absurd rfl z) fun z => absurd rfl z
  | none =>
    refine core (fun b => if b = a then some (.frz { cls := .type "list", data := .seq vs.toArray } (.lst (ns.map V.int))) else none) (fun b => ?_) (.inl (.inr ⟨{ cls := .type "list", data := .seq vs.toArray }, if_pos rfl⟩)) (fun b u z => ?_) (fun b z => ?_) fun _ => hk
    · by_cases hb : b = a
      · exact .inr ⟨_, _, if_pos hb⟩
      · exact .inl (if_neg hb)
    · by_cases hb : b = a
      · have z' := (if_pos hb).symm.trans z
        cases z'
        subst hb
        exact ⟨ha, by rw [List.length_map]; exact hl, vs, _, rv, ha⟩
      · have z' := (if_neg hb).symm.trans z
        cases z'
    · by_cases hb : b = a
      · exact hb
      · exact absurd (if_neg hb) z
end L2

namespace L2
open PySem PySem.Spec PyProof.Rows

theorem walk_of {l : PySem.W.OpenLaw} {n k : Nat} {q : Program} {loose : List Str} {XP : (Str → Option Value) → Heap → Prop} {YP : World → Heap → Prop} {d : DefRec} {K : Params → PySem.W.Frag} {CX : World → CXT} {sp : World → Sp} {x : Str}
    (hn : l.most = some n) (hn2 : n ≤ sizeLine) (hdf : d.params.defaults = []) (hr : Room k callerA)
    (hY : ∀ (w : World) (h : Heap), YP w h → (K w.params).In h)
    (F : ∀ (w : World) (mg : Str → Option Value) (fa : Addr) (h : Heap), (K w.params).In h → h.Ns mainGlobals mg → mg d.name = some (.ref fa) →
      ∃ fd : FuncData, (∀ (s : Shared) (u : Value), BindsTo s fd ⟨[u], []⟩ [(x, u)]) ∧
        ∀ base : Heap, (K w.params).In base → base.Ns mainGlobals mg → FnOk l.prog w (K w.params) mg base (CX w) k fa fd [x] (sp w))
    (hsp : ∀ (w : World) (H : Hp) (a : Addr) (ns : List Int), ns.length ≤ n → Only H → SqL (K w.params) H a (ns.map V.int) → sp w [.ref a] H (fun v _ => v = .bl true) fun _ _ _ => False)
    (hCX : ∀ (w : World) (H : Hp) (s : Shared) (e : Value) (s' : Shared), CX w [] H s (fun _ _ _ => False) e s' → False) :
    PySem.W.WalkO q loose XP YP l.row.toRowW d [] (fun f vs => PySem.call f vs) := by
  refine Att.attach_call hn hdf fun w s₀ s₁ mg mb fa o pm cd doc a vs ns G Y ho hd hcd hmg hobj hints hlen hg => ?_
  have KX := hY w _ Y
  obtain ⟨fd, hb, hF⟩ := F w mg fa _ KX G.T.g hmg
  exact law_call KX G.T.g G.T.b G.T.builtins G.T.nolimit hg hobj hints (Nat.le_trans hlen hn2) hr hF hb (fun H hO hS => hsp w H a ns hlen hO hS) fun H e s' => hCX w H s₁ e s'
end L2

namespace L2
open PySem PySem.Spec PyProof.Rows

noncomputable def inClass (s : Stmt) (j : Nat) : Stmt := match s with
  | .ClassDef _ _ _ body _ _ _ _ _ _ _ => body.getD j (.Pass ⟨0, 0, 0, 0⟩)
  | _ => .Pass ⟨0, 0, 0, 0⟩
noncomputable def defArgs (s : Stmt) : Arguments := match s with
  | .FunctionDef _ a _ _ _ _ _ _ _ _ => a
  | _ => { posonlyargs := [], args := [], vararg := none, kwonlyargs := [], kw_defaults := [], kwarg := none, defaults := [] }
noncomputable def defBody (s : Stmt) : List Stmt := match s with
  | .FunctionDef _ _ b _ _ _ _ _ _ _ => b
  | _ => []
noncomputable def defScope (s : Stmt) : Scope := match s with
  | .FunctionDef _ _ _ _ _ _ sc _ _ _ => sc
  | _ => { kind := .function, names := [], isGenerator := false, isCoroutine := false }

noncomputable abbrev CX0 : CXT := fun _ _ _ _ _ _ => False
structure Fun (K : PySem.W.Frag) (x qual : Str) (st : Stmt) (f : Addr) (fd : FuncData) : Prop where
  ex : ∃ (oc : Value) (od : Option Addr) (kV doc pm : Value) (an : Option Addr) (cdv ct : Value) (osl : Array (Option Value)),
    fd = PySem.W.fnOf x qual (defArgs st) (defBody st) (defScope st) .none kV doc pm an cdv ct ∧ K.lookup f = some ⟨oc, od, .func fd, osl⟩ ∧ PySem.W.codeIn K cdv qual = true
  kp : PySem.W.keepIn K (.ref f) = true
section
variable {P : Program} {w : World} {K : PySem.W.Frag} {mg : Str → Option Value} {base : Heap}
theorem Fun.ok {x qual : Str} {st : Stmt} {f : Addr} {fd : FuncData} {N ps : List Str} {k : Nat} {sp : Sp} (F : Fun K x qual st f fd) (S : FnScope N ps (defScope st)) (len : ∀ vs H Q E, sp vs H Q E → vs.length = ps.length)
    (hbody : ∀ (cdv : Value) (A : Around) (outer : List Env) (s : Shared) (H : Hp) (vs : List V) (Q : VK) (E : XK), Room k (A.deeper (envOfC qual (defScope st) s.heap.objs.size f cdv)) → sp vs H Q E →
      ∃ t, PSs (cxOf CX0 P w K mg base N qual (defScope st) f cdv A outer s H E).nox (defBody st) t ∧ t { nx := fun _ H' => Q .non H', rt := Q } (start N vs) H) : FnOk P w K mg base CX0 (k + 1) f fd ps sp := by
  obtain ⟨oc, od, kV, doc, pm, an, cdv, ct, osl, rfl, lk, hcd⟩ := F.ex
  refine fn_of lk hcd S len fun A outer s H vs Q E hr hsp => ?_
  obtain ⟨t, h, q⟩ := hbody cdv A outer s H vs Q E hr hsp
  exact ⟨t, h.nox, q⟩
theorem Fun.binds {x qual : Str} {st : Stmt} {f : Addr} {fd : FuncData} {ps : List Str} (F : Fun K x qual st f fd)
    (h : ∀ (kV doc pm : Value) (an : Option Addr) (cdv ct : Value) (us : List Value), us.length = ps.length → bindArgs (PySem.W.fnOf x qual (defArgs st) (defBody st) (defScope st) .none kV doc pm an cdv ct) ⟨us, []⟩ = pure (ps.zip us)) : Binds K fd ps [] := by
  obtain ⟨oc, od, kV, doc, pm, an, cdv, ct, osl, rfl, lk, hcd⟩ := F.ex
  exact .all (h kV doc pm an cdv ct)
theorem fun_mk {x qual : Str} {st : Stmt} {f : Addr} {oc : Value} {od an : Option Addr} {osl : Array (Option Value)} {kV doc pm cdv ct : Value} (l : K.lookup f = some ⟨oc, od, .func (PySem.W.fnOf x qual (defArgs st) (defBody st) (defScope st) .none kV doc pm an cdv ct), osl⟩)
    (c : PySem.W.codeIn K cdv qual = true) (k : PySem.W.keepIn K (.ref f) = true) : Fun K x qual st f (PySem.W.fnOf x qual (defArgs st) (defBody st) (defScope st) .none kV doc pm an cdv ct) := ⟨⟨oc, od, kV, doc, pm, an, cdv, ct, osl, rfl, l, c⟩, k⟩
end
theorem hu_of {A : Around} {k : Nat} (hr : Room k A) : A.units + 1 < cLine := Nat.lt_of_le_of_lt (Nat.add_le_add_left (by decide : 1 ≤ 64) _) hr.units
section
variable {X : Cx}
theorem pv (i : Nat) {x : Str} {pos : Pos} (hN : X.N[i]? = some x := by rfl) (hv : Vis X.env.scope x := by first | exact Or.inl rfl | exact Or.inr (Or.inl rfl) | exact Or.inr (Or.inr rfl)) (hd : (x == ("__debug__" : Str)) = false := by decide)
    (hcd : (x == ("__classdict__" : Str)) = false := by decide) : PE X (.Name x pos) (tVar i) := pe_var hN hv hd hcd
end

noncomputable def Same (H H' : Hp) : Prop := ∀ b o, H b = some o → H' b = some o
theorem Same.refl (H : Hp) : Same H H := fun _ _ h => h
theorem Same.trans {H H1 H2 : Hp} (a : Same H H1) (b : Same H1 H2) : Same H H2 := fun c o h => b c o (a c o h)
theorem Same.free {H H' : Hp} (e : Same H H') {l : Addr} (h : H' l = Option.none) : H l = Option.none := by
  cases q : H l with
  | none => rfl
  | some o =>
    rw [e l o q] at h
    cases h
theorem Same.seq {K : PySem.W.Frag} {H H' : Hp} {a : Addr} {xs : List V} (e : Same H H') (h : SqL K H a xs) : SqL K H' a xs := by
  rcases h with (h | ⟨o, h⟩) | h
  · exact .inl (.inl (e _ _ h))
  · exact .inl (.inr ⟨o, e _ _ h⟩)
  · exact .inr h

end L2

set_option Elab.async false
set_option linter.all false
set_option maxRecDepth 100000
namespace L2
open PySem PySem.Spec PyProof.Rows

section
variable {κ : Type} [DecidableEq κ]
noncomputable def valV (kvs : List (κ × V)) (k : κ) : Option V := (kvs.find? fun kv => decide (kv.1 = k)).map (·.2)
noncomputable def putK (kvs : List (κ × V)) (k : κ) (v : V) : List (κ × V) :=
  if (kvs.any fun kv => decide (kv.1 = k)) = true then kvs.map (fun kv => if kv.1 = k then (kv.1, v) else kv) else kvs ++ [(k, v)]
noncomputable def dropK (kvs : List (κ × V)) (k : κ) : List (κ × V) := kvs.filter fun kv => decide (kv.1 ≠ k)

theorem valV_pos {p : κ × V} {r : List (κ × V)} {k : κ} (e : p.1 = k) : valV (p :: r) k = some p.2 := by simp [valV, List.find?_cons, e]
theorem valV_neg {p : κ × V} {r : List (κ × V)} {k : κ} (e : ¬ p.1 = k) : valV (p :: r) k = valV r k := by simp [valV, List.find?_cons, e]
theorem valV_any (k : κ) : ∀ kvs : List (κ × V), (kvs.any fun kv => decide (kv.1 = k)) = (valV kvs k).isSome
  | [] => rfl
  | p :: r => by
    rw [List.any_cons]
    by_cases e : p.1 = k
    · simp only [valV_pos e, decide_eq_true e, Bool.true_or, Option.isSome_some]
    · rw [valV_neg e, decide_eq_false e, Bool.false_or]; exact valV_any k r
theorem valV_map (k j : κ) (y : V) : ∀ kvs : List (κ × V), valV (kvs.map fun kv => if kv.1 = k then (kv.1, y) else kv) j = (valV kvs j).map fun x => if j = k then y else x
  | [] => rfl
  | p :: r => by
    have ih := valV_map k j y r
    rw [List.map_cons]
    by_cases h : p.1 = k
    · rw [if_pos h]
      by_cases e : p.1 = j
      · rw [valV_pos (p := (p.1, y)) e, valV_pos e, Option.map_some, if_pos (e.symm.trans h)]
      · rw [valV_neg (p := (p.1, y)) e, valV_neg e, ih]
    · rw [if_neg h]
      by_cases e : p.1 = j
      · rw [valV_pos (p := p) e, valV_pos e, Option.map_some, if_neg (fun z => h (e.trans z))]
      · rw [valV_neg (p := p) e, valV_neg e, ih]
theorem valV_snoc (k j : κ) (y : V) : ∀ kvs : List (κ × V), valV kvs k = none → valV (kvs ++ [(k, y)]) j = if j = k then some y else valV kvs j
  | [], _ => by
    by_cases e : k = j
    · rw [if_pos e.symm]; exact valV_pos (p := (k, y)) e
    · rw [if_neg (fun z => e z.symm)]; exact valV_neg (p := (k, y)) e
  | p :: r, hn => by
    rw [List.cons_append]
    have hk : ¬ p.1 = k := fun z => by rw [valV_pos z] at hn; cases hn
    rw [valV_neg hk] at hn
    have ih := valV_snoc k j y r hn
    by_cases e : p.1 = j
    · rw [valV_pos e, valV_pos e, if_neg (fun z => hk (e.trans z))]
    · rw [valV_neg e, valV_neg e, ih]
theorem valV_put (kvs : List (κ × V)) (k j : κ) (y : V) : valV (putK kvs k y) j = if j = k then some y else valV kvs j := by
  unfold putK
  by_cases a : (kvs.any fun kv => decide (kv.1 = k)) = true
  · rw [if_pos a, valV_map]
    rw [valV_any] at a
    by_cases e : j = k
    · obtain ⟨x, hx⟩ := Option.isSome_iff_exists.mp a
      rw [if_pos e, e, hx, Option.map_some, if_pos rfl]
    · rw [if_neg e]
      cases valV kvs j with
      | none => rfl
      | some x => rw [Option.map_some, if_neg e]
  · rw [if_neg a]
    refine valV_snoc k j y kvs ?_
    rw [valV_any] at a
    cases q : valV kvs k with
    | none => rfl
    | some x => rw [q] at a; exact (a rfl).elim
theorem length_putK (kvs : List (κ × V)) (k : κ) (v : V) : (putK kvs k v).length ≤ kvs.length + 1 := by
  unfold putK
  split
  · rw [List.length_map]; omega
  · rw [List.length_append, List.length_cons, List.length_nil]; omega
theorem putK_new {kvs : List (κ × V)} {k : κ} (v : V) (h : valV kvs k = none) : putK kvs k v = kvs ++ [(k, v)] := by
  unfold putK
  rw [valV_any, h]
  exact if_neg (by decide)

theorem RelO.isSome_eq {o : Option V} {u : Option Value} (r : RelO o u) : o.isSome = u.isSome := by
  cases o with
  | none => cases u with
    | none => rfl
    | some _ => exact (show False from r).elim
  | some _ => cases u with
    | none => exact (show False from r).elim
    | some _ => rfl
theorem RelO.getD {o : Option V} {u : Option Value} {d : V} {d' : Value} (r : RelO o u) (rd : RelV d d') : RelV (o.getD d) (u.getD d') := by
  cases o with
  | none => cases u with
    | none => exact rd
    | some _ => exact (show False from r).elim
  | some _ => cases u with
    | none => exact (show False from r).elim
    | some _ => exact r

theorem KV.val {kvs : List (κ × V)} {vs : List (κ × Value)} (r : KV kvs vs) (k : κ) : RelO (valV kvs k) (valueAt vs k) := by
  unfold KV at r
  induction r with
  | nil => exact True.intro
  | @cons p q ps qs h t ih =>
    obtain ⟨h1, h2⟩ := h
    by_cases e : p.1 = k
    · have e' : q.1 = k := h1.symm.trans e
      have b : valueAt (q :: qs) k = some q.2 := by simp [valueAt, List.find?_cons, e']
      rw [valV_pos e, b]; exact h2
    · have e' : ¬ q.1 = k := fun z => e (h1.trans z)
      have b : valueAt (q :: qs) k = valueAt qs k := by simp [valueAt, List.find?_cons, e']
      rw [valV_neg e, b]; exact ih
theorem KV.any {kvs : List (κ × V)} {vs : List (κ × Value)} (r : KV kvs vs) (k : κ) : (kvs.any fun kv => decide (kv.1 = k)) = vs.any fun kv => decide (kv.1 = k) := by
  unfold KV at r
  induction r with
  | nil => rfl
  | cons h t ih => rw [List.any_cons, List.any_cons, ih, h.1]
theorem KV.repl {kvs : List (κ × V)} {vs : List (κ × Value)} (r : KV kvs vs) (k : κ) {y : V} {u : Value} (ry : RelV y u) :
    KV (kvs.map fun kv => if kv.1 = k then (kv.1, y) else kv) (vs.map fun kv => if kv.1 = k then (kv.1, u) else kv) := by
  unfold KV at r ⊢
  induction r with
  | nil => exact .nil
  | @cons p q ps qs h t ih =>
    rw [List.map_cons, List.map_cons]
    refine .cons ?_ ih
    obtain ⟨h1, h2⟩ := h
    by_cases e : p.1 = k
    · rw [if_pos e, if_pos (h1.symm.trans e)]; exact ⟨h1, ry⟩
    · rw [if_neg e, if_neg (fun z => e (h1.trans z))]; exact ⟨h1, h2⟩
theorem KV.put {kvs : List (κ × V)} {vs : List (κ × Value)} (r : KV kvs vs) (k : κ) {y : V} {u : Value} (ry : RelV y u) : KV (putK kvs k y) (stored vs k u) := by
  unfold putK stored
  rw [r.any k]
  by_cases e : (vs.any fun kv => decide (kv.1 = k)) = true
  · rw [if_pos e, if_pos e]; exact r.repl k ry
  · rw [if_neg e, if_neg e]; exact Paired.snoc r ⟨rfl, ry⟩
theorem KV.drop {kvs : List (κ × V)} {vs : List (κ × Value)} (r : KV kvs vs) (k : κ) : KV (dropK kvs k) (without vs k) := by
  unfold KV at r ⊢
  unfold dropK without
  induction r with
  | nil => exact .nil
  | @cons p q ps qs h t ih =>
    obtain ⟨h1, h2⟩ := h
    rw [List.filter_cons, List.filter_cons]
    by_cases e : p.1 = k
    · have a : ¬ decide (p.1 ≠ k) = true := by simp [e]
      have b : ¬ decide (q.1 ≠ k) = true := by simp [h1.symm.trans e]
      rw [if_neg a, if_neg b]; exact ih
    · have e' : ¬ q.1 = k := fun z => e (h1.trans z)
      have a : decide (p.1 ≠ k) = true := by simp [e]
      have b : decide (q.1 ≠ k) = true := by simp [e']
      rw [if_pos a, if_pos b]; exact .cons ⟨h1, h2⟩ ih
theorem KV.keys {kvs : List (κ × V)} {vs : List (κ × Value)} (r : KV kvs vs) : kvs.map (·.1) = vs.map (·.1) := by
  unfold KV at r
  induction r with
  | nil => rfl
  | cons h t ih => rw [List.map_cons, List.map_cons, ih, h.1]
theorem KV.length {kvs : List (κ × V)} {vs : List (κ × Value)} (r : KV kvs vs) : kvs.length = vs.length := Paired.length r
theorem dropK_le (kvs : List (κ × V)) (k : κ) : (dropK kvs k).length ≤ kvs.length := List.length_filter_le _ _
end


theorem kV_is {P : Program} {w : World} {k : Key} {u : Value} (r : RelV (kV k) u) : (mixKind P w).is k u = true := by
  cases k with
  | inl i => obtain ⟨t, e⟩ := (show ∃ t, u = Value.int i t from r); subst e; exact mixKind_int P w i t
  | inr x => obtain ⟨t, e⟩ := (show ∃ t, u = Value.str x t from r); subst e; exact mixKind_str P w x t
theorem items_are {P : Program} {w : World} : ∀ {ks : List Key} {us : List Value}, Vals (ks.map kV) us → ItemsAre (mixKind P w) ks us
  | [], _, r => by rw [List.map_nil] at r; cases r; exact .nil
  | k :: ks, _, r => by
    rw [List.map_cons] at r
    cases r with
    | cons h t => exact .cons (kV_is h) (items_are t)

noncomputable abbrev KT (H : Hp) : List (List Key × V) → List (List Key × Addr × Value) → Prop := Paired fun p q => p.1 = q.1 ∧ H q.2.1 = some (.tup (p.1.map kV)) ∧ RelV p.2 q.2.2
theorem KT.val {H : Hp} {kvs : List (List Key × V)} {xs : List (List Key × Addr × Value)} (r : KT H kvs xs) (k : List Key) : RelO (valV kvs k) ((atKey xs k).map (·.2)) := by
  induction r with
  | nil => exact True.intro
  | @cons p q ps qs h t ih =>
    obtain ⟨h1, _, h2⟩ := h
    by_cases e : p.1 = k
    · have e' : q.1 = k := h1.symm.trans e
      have b : atKey (q :: qs) k = some q.2 := by simp [atKey, List.find?_cons, e']
      rw [valV_pos e, b]; exact h2
    · have e' : ¬ q.1 = k := fun z => e (h1.trans z)
      have b : atKey (q :: qs) k = atKey qs k := by simp [atKey, List.find?_cons, e']
      rw [valV_neg e, b]; exact ih
theorem KT.repl {H : Hp} {kvs : List (List Key × V)} {xs : List (List Key × Addr × Value)} (r : KT H kvs xs) (k : List Key) {y : V} {u : Value} (ry : RelV y u) :
    KT H (kvs.map fun kv => if kv.1 = k then (kv.1, y) else kv) (xs.map (putAt k u)) := by
  induction r with
  | nil => exact .nil
  | @cons p q ps qs h t ih =>
    rw [List.map_cons, List.map_cons]
    refine .cons ?_ ih
    obtain ⟨h1, h2, h3⟩ := h
    unfold putAt
    by_cases e : p.1 = k
    · rw [if_pos e, if_pos (h1.symm.trans e)]; exact ⟨h1, h2, ry⟩
    · rw [if_neg e, if_neg (fun z => e (h1.trans z))]; exact ⟨h1, h2, h3⟩
theorem KT.put {H : Hp} {kvs : List (List Key × V)} {xs : List (List Key × Addr × Value)} (r : KT H kvs xs) (k : List Key) {b : Addr} {y : V} {u : Value} (hb : H b = some (.tup (k.map kV))) (ry : RelV y u) :
    KT H (putK kvs k y) (storedH xs k b u) := by
  have e : (kvs.any fun kv => decide (kv.1 = k)) = (atKey xs k).isSome := by
    rw [valV_any, (r.val k).isSome_eq, Option.isSome_map]
  unfold putK storedH
  rw [e]
  by_cases q : (atKey xs k).isSome = true
  · rw [if_pos q, if_pos q]; exact r.repl k ry
  · rw [if_neg q, if_neg q]; exact Paired.snoc r ⟨rfl, hb, ry⟩
theorem KT.keeps {H H' : Hp} {kvs : List (List Key × V)} {xs : List (List Key × Addr × Value)} (r : KT H kvs xs) (ht : ∀ b ys, H b = some (.tup ys) → H' b = some (.tup ys)) : KT H' kvs xs :=
  Paired.mapP r fun _ _ z => ⟨z.1, ht _ _ z.2.1, z.2.2⟩

section
variable {P : Program} {w : World} {H : Hp} {h : Heap} {a : Addr}
theorem rd_of {u : HO} (ok : HOk P w H h) (e : Rd H a u) : ObjOk P w H h a u := e.ok ok
theorem dk_rd {kvs : List (Key × V)} (ok : HOk P w H h) (e : Rd H a (.dK kvs)) : kvs.length ≤ sizeLine ∧ (a == sysModules) = false ∧ ∃ vs, KV kvs vs ∧ h.DictOf (mixKind P w) a vs :=
  show ObjOk P w H h a (.dK kvs) from rd_of ok e
theorem dk_of {kvs : List (Key × V)} (ok : HOk P w H h) (e : H a = some (.dK kvs)) : kvs.length ≤ sizeLine ∧ (a == sysModules) = false ∧ ∃ vs, KV kvs vs ∧ h.DictOf (mixKind P w) a vs := dk_rd ok (.inl e)
theorem key_of {ks : List Key} (ok : HOk P w H h) (e : H a = some (.tup (ks.map kV))) : (tupleKind (mixKind P w)).is h ks a := by
  obtain ⟨_, its, r, o, h1, h2, n, h3⟩ := (show ObjOk P w H h a (.tup (ks.map kV)) from ok a _ e)
  exact ⟨o, its.toArray, n, h1, h2, h3, by simpa using items_are r⟩
theorem dt_rd {kvs : List (List Key × V)} (ok : HOk P w H h) (e : Rd H a (.dT kvs)) : kvs.length ≤ sizeLine ∧ (a == sysModules) = false ∧
    ∃ xs, KT H kvs xs ∧ h.DictOfH (tupleKind (mixKind P w)) a xs := by
  obtain ⟨z, y, xs, r, o, es, ep, h1, h2, h3, h4, h5⟩ := (show ObjOk P w H h a (.dT kvs) from rd_of ok e)
  refine ⟨z, y, xs, r, o, es, ep, h1, h2, h3, h4, fun x hx => ?_, h5⟩
  have all : ∀ {l : List (List Key × V)} {m : List (List Key × Addr × Value)}, KT H l m → ∀ x ∈ m, (tupleKind (mixKind P w)).is h x.1 x.2.1 := by
    intro l m q
    induction q with
    | nil => intro x hx; exact nomatch hx
    | @cons p q ps qs hq t ih =>
      intro x hx
      rcases List.mem_cons.mp hx with e | hx
      · subst e
        exact key_of ok (by rw [← hq.1]; exact hq.2.1)
      · exact ih x hx
  exact all r x hx
theorem dt_of {kvs : List (List Key × V)} (ok : HOk P w H h) (e : H a = some (.dT kvs)) : kvs.length ≤ sizeLine ∧ (a == sysModules) = false ∧
    ∃ xs, KT H kvs xs ∧ h.DictOfH (tupleKind (mixKind P w)) a xs := dt_rd ok (.inl e)
end

noncomputable def DGet (H : Hp) (a : Addr) (y : V) (r : Option V) : Prop :=
  (∃ kvs k, Rd H a (.dK kvs) ∧ y = kV k ∧ r = valV kvs k) ∨ ∃ kvs k b, Rd H a (.dT kvs) ∧ y = .ref b ∧ H b = some (.tup (k.map kV)) ∧ r = valV kvs k
noncomputable def DPut (H : Hp) (a : Addr) (y v : V) (H' : Hp) : Prop :=
  (∃ kvs k, H a = some (.dK kvs) ∧ y = kV k ∧ kvs.length < sizeLine ∧ H' = upd H a (.dK (putK kvs k v))) ∨
  ∃ kvs k b, H a = some (.dT kvs) ∧ y = .ref b ∧ H b = some (.tup (k.map kV)) ∧ kvs.length < sizeLine ∧ H' = upd H a (.dT (putK kvs k v))
theorem DGet.k {H : Hp} {a : Addr} {kvs : List (Key × V)} {k : Key} (e : H a = some (.dK kvs)) : DGet H a (kV k) (valV kvs k) := .inl ⟨kvs, k, .inl e, rfl, rfl⟩
theorem DGet.t {H : Hp} {a b : Addr} {kvs : List (List Key × V)} {k : List Key} (e : H a = some (.dT kvs)) (eb : H b = some (.tup (k.map kV))) : DGet H a (.ref b) (valV kvs k) := .inr ⟨kvs, k, b, .inl e, rfl, eb, rfl⟩
theorem DPut.k {H : Hp} {a : Addr} {kvs : List (Key × V)} {k : Key} {v : V} (e : H a = some (.dK kvs)) (hl : kvs.length < sizeLine) : DPut H a (kV k) v (upd H a (.dK (putK kvs k v))) := .inl ⟨kvs, k, e, rfl, hl, rfl⟩
theorem DPut.t {H : Hp} {a b : Addr} {kvs : List (List Key × V)} {k : List Key} {v : V} (e : H a = some (.dT kvs)) (eb : H b = some (.tup (k.map kV))) (hl : kvs.length < sizeLine) :
    DPut H a (.ref b) v (upd H a (.dT (putK kvs k v))) := .inr ⟨kvs, k, b, e, rfl, eb, hl, rfl⟩


section
variable {X : Cx} {pins : List (Addr × Obj)} {σ : St} {H : Hp} {s : Shared} {a : Addr} {y v : V} {u r : Value} {o : Option V} {A : Around} {E : Value → Shared → Prop}

theorem Inv.big (I : Inv X pins σ H s) : sysModules < s.heap.objs.size := by
  have h : mainGlobals < s.heap.objs.size := (I.mod.glob.keeps I.bk).lt
  exact Nat.lt_trans (by decide) h

theorem d_getItem {Q : Value → Shared → Prop} (hu : A.units + 1 < cLine) (I : Inv X pins σ H s) (g : DGet H a y (some v)) (ry : RelV y u) (h : ∀ w' s', Inv X pins σ H s' → RelV v w' → Q w' s') :
    wpAny (model X.prog X.w) A (getItem (.ref a) u) Q E s := by
  rcases g with ⟨kvs, k, e, ey, l⟩ | ⟨kvs, k, b, e, ey, eb, l⟩
  · subst ey
    obtain ⟨z, hd, vs, rel, dd⟩ := dk_rd I.hok e
    obtain ⟨w', hw, rw'⟩ := RelO.some_of (v := v) (o := valueAt vs k) (by rw [l]; exact rel.val k)
    exact wpAny_getItem_of (kV_is ry) dd.mapOf hw (h w' _ (I.tok _) rw')
  · subst ey
    cases (show u = Value.ref b from ry)
    obtain ⟨z, hd, xs, rel, dd⟩ := dt_rd I.hok e
    obtain ⟨w', hw, rw'⟩ := RelO.some_of (v := v) (o := (atKey xs k).map (·.2)) (by rw [l]; exact rel.val k)
    obtain ⟨p, hp, hp2⟩ := Option.map_eq_some_iff.mp hw
    refine wpAny_getItem_heap (tupleKind_room_in1 hu) (key_of I.hok eb) dd hp ?_
    rw [hp2]
    exact h w' _ (I.tok _) rw'
theorem d_in {Q : Value → Shared → Prop} (hu : A.units + 1 < cLine) (I : Inv X pins σ H s) (g : DGet H a y o) (ry : RelV y u) (h : ∀ s', Inv X pins σ H s' → Q (.bool o.isSome) s') :
    wpAny (model X.prog X.w) A (compareOp .In u (.ref a)) Q E s := by
  rcases g with ⟨kvs, k, e, ey, l⟩ | ⟨kvs, k, b, e, ey, eb, l⟩
  · subst ey
    obtain ⟨z, hd, vs, rel, dd⟩ := dk_rd I.hok e
    refine wpAny_in_of (kV_is ry) hd dd.mapOf ?_
    rw [← (rel.val k).isSome_eq, ← l]
    exact h _ (I.tok _)
  · subst ey
    cases (show u = Value.ref b from ry)
    obtain ⟨z, hd, xs, rel, dd⟩ := dt_rd I.hok e
    refine wpAny_in_heap (tupleKind_room_in1 hu) (key_of I.hok eb) hd dd ?_
    have q := (rel.val k).isSome_eq
    rw [Option.isSome_map] at q
    rw [← q, ← l]
    exact h _ (I.tok _)
theorem d_notIn {Q : Value → Shared → Prop} (hu : A.units + 1 < cLine) (I : Inv X pins σ H s) (g : DGet H a y o) (ry : RelV y u) (h : ∀ s', Inv X pins σ H s' → Q (.bool (!o.isSome)) s') :
    wpAny (model X.prog X.w) A (compareOp .NotIn u (.ref a)) Q E s := by
  rcases g with ⟨kvs, k, e, ey, l⟩ | ⟨kvs, k, b, e, ey, eb, l⟩
  · subst ey
    obtain ⟨z, hd, vs, rel, dd⟩ := dk_rd I.hok e
    refine wpAny_notIn_of (kV_is ry) hd dd.mapOf ?_
    rw [← (rel.val k).isSome_eq, ← l]
    exact h _ (I.tok _)
  · subst ey
    cases (show u = Value.ref b from ry)
    obtain ⟨z, hd, xs, rel, dd⟩ := dt_rd I.hok e
    refine wpAny_notIn_heap (tupleKind_room_in1 hu) (key_of I.hok eb) hd dd ?_
    have q := (rel.val k).isSome_eq
    rw [Option.isSome_map] at q
    rw [← q, ← l]
    exact h _ (I.tok _)
theorem d_write {h' : Heap} {t' : Nat} {ob : HO} (I : Inv X pins σ H s) (mu : Mut (H a)) (hs : Heap.SameBut a s.heap h') (he : ∃ q, h'.get? a = some q) (new : ObjOk X.prog X.w (upd H a ob) h' a ob) :
    Inv X pins σ (upd H a ob) { s with heap := h', toks := t' } :=
  I.write (x := a) (e := a) mu (.inl rfl) (fun b q hb z => (hs.2 b hb).trans z) he new
theorem dk_new {P : Program} {w : World} {H' : Hp} {h' : Heap} {kvs : List (Key × V)} {vs : List (Key × Value)} (z : kvs.length ≤ sizeLine) (hd : (a == sysModules) = false) (rel : KV kvs vs) (dd : h'.DictOf (mixKind P w) a vs) :
    ObjOk P w H' h' a (.dK kvs) := ⟨z, hd, vs, rel, dd⟩
theorem d_setItem {H' : Hp} {Q : Unit → Shared → Prop} (hu : A.units + 1 < cLine) (I : Inv X pins σ H s) (g : DPut H a y v H') (ry : RelV y u) (rv : RelV v r) (h : ∀ s', Inv X pins σ H' s' → Q () s') :
    wpAny (model X.prog X.w) A (setItem (.ref a) u r) Q E s := by
  rcases g with ⟨kvs, k, e, ey, l, eH⟩ | ⟨kvs, k, b, e, ey, eb, l, eH⟩
  · subst ey eH
    obtain ⟨z, hd, vs, rel, dd⟩ := dk_of I.hok e
    have hz : vs.length ≤ sizeLine := by rw [← rel.length]; exact z
    have hl : (putK kvs k v).length ≤ sizeLine := by have := length_putK kvs k v; omega
    refine wpAny_setItem_pairs (hsz := hz) (kV_is ry) dd fun h' dd' hs => h _ ?_
    have he : ∃ q, h'.get? a = some q := let ⟨q, _, _, hq, _⟩ := dd'; ⟨q, hq⟩
    exact d_write I (by rw [e]; exact True.intro) hs he (dk_new hl hd (rel.put k rv) dd')
  · subst ey eH
    cases (show u = Value.ref b from ry)
    obtain ⟨z, hd, xs, rel, dd⟩ := dt_of I.hok e
    have hz : xs.length ≤ sizeLine := by rw [← Paired.length rel]; exact z
    have hl : (putK kvs k v).length ≤ sizeLine := by have := length_putK kvs k v; omega
    refine wpAny_setItem_heap (hsz := hz) (tupleKind_room_in1 hu) (key_of I.hok eb) dd fun h' dd' hs => h _ ?_
    obtain ⟨q, es, ep, hq, h2, h3, h4, _, h5⟩ := dd'
    refine d_write I (by rw [e]; exact True.intro) hs ⟨q, hq⟩ ⟨hl, hd, _, (rel.put k eb rv).keeps fun c ys ec => ?_, q, es, ep, hq, h2, h3, h4, h5⟩
    rw [upd_ne (ne_of ec e (fun z => nomatch z))]
    exact ec
end

section
variable {X : Cx} {pins : List (Addr × Obj)} {σ : St} {H : Hp} {s : Shared} {a : Addr} {kvs : List (Key × V)} {k : Key} {u : Value} {A : Around} {E : Value → Shared → Prop}
theorem d_pop {v : V} {more : List Value} {Q : Value → Shared → Prop} (I : Inv X pins σ H s) (e : H a = some (.dK kvs)) (ry : RelV (kV k) u) (l : valV kvs k = some v) (hm : more = [] ∨ ∃ x, more = [x])
    (h : ∀ w' s', Inv X pins σ (upd H a (.dK (dropK kvs k))) s' → RelV v w' → Q w' s') : wpAny (model X.prog X.w) A (call (.builtin "dict.pop") (.ref a :: u :: more)) Q E s := by
  obtain ⟨z, hd, vs, rel, dd⟩ := dk_of I.hok e
  obtain ⟨w', hw, rw'⟩ := RelO.some_of (v := v) (o := valueAt vs k) (by rw [← l]; exact rel.val k)
  have hp : (keyPart u).isSome = true := by
    cases k with
    | inl i => obtain ⟨t, q⟩ := (show ∃ t, u = Value.int i t from ry); subst q; rfl
    | inr x => obtain ⟨t, q⟩ := (show ∃ t, u = Value.str x t from ry); subst q; rfl
  have ha : argsOk "dict.pop" ⟨.ref a :: u :: more, []⟩ := by
    rcases hm with q | ⟨x, q⟩
    · subst q; exact PySem.F.args_dict_pop_2 _ _
    · subst q; exact PySem.F.args_dict_pop_3 _ _ _
  refine call_meetsIn PySem.F.slot_dict_pop dd.typeIs PySem.F.entry_dict_pop ha (meets_dict_pop_there (mixKind X.prog X.w) a (kV_is ry) more hm hp)
    ⟨vs, w', dd, by rw [← rel.length]; exact z, hw, fun h' dd' hs => h w' _ ?_ rw'⟩
  have he : ∃ q, h'.get? a = some q := let ⟨q, _, _, hq, _⟩ := dd'; ⟨q, hq⟩
  exact d_write I (by rw [e]; exact True.intro) hs he (dk_new (Nat.le_trans (dropK_le kvs k) z) hd (rel.drop k) dd')
theorem d_len {Q : Value → Shared → Prop} (I : Inv X pins σ H s) (e : Rd H a (.dK kvs)) (h : ∀ t s', Inv X pins σ H s' → Q (.int kvs.length t) s') : wpAny (model X.prog X.w) A (call (.builtin "len") [.ref a]) Q E s := by
  obtain ⟨z, hd, vs, rel, dd⟩ := dk_rd I.hok e
  refine call_len_dict hd dd (by rw [← rel.length]; rw [sizeLine_eq] at z; omega) ?_
  rw [← rel.length]
  exact h _ _ (I.tok _)
end


noncomputable def NoSl (i : Expr) : Prop := ∀ ov iv, subscripted i false ov iv = operate [ov, iv] (getItem ov iv)
theorem subD_of {prog : Program} {w : World} {A : Around} {E : Value → Shared → Prop} {s : Shared} {env : Env} {value slice : Expr} {pos : Pos} {T id : String} {Q : Value → Shared → Prop}
    (hl : typeLookup (.type T) "__getitem__" = pure (some (.builtin id))) (hs : NoSl slice)
    (h : wpAny (model prog w) A (eval value env) (fun o s₁ => wpAny (model prog w) A (eval slice env) (fun i s₂ => s₂.TypeIs o T ∧ wpAny (model prog w) A (getItem o i) Q E s₂) E s₁) E s) :
    wpAny (model prog w) A (eval (.Subscript value slice pos) env) Q E s := by
  refine Subscript_ (wpAny_mono h (fun o s₁ h₁ => wpAny_mono h₁ (fun i s₂ h₂ => ?_) fun _ _ x => x) fun _ _ x => x)
  obtain ⟨hT, h₂⟩ := h₂
  unfold subscriptTail
  refine wpAny_bind ?_
  rw [getitemInPython_of_ne hT.not_modules]
  refine wpAny_bind (wpAny_specialOf hT hl ?_)
  have fin : wpAny (model prog w) A (subscripted slice false o i) (fun r s₃ => wpAny (model prog w) A (letTemporaryGo value o r >>= fun _ => pure r) Q E s₃) E s₂ := by
    rw [hs o i]
    exact wpAny_operating (wpAny_mono h₂ (fun r s₃ h₃ => wpAny_bind (wpAny_letTemporaryGo (wpAny_pure h₃))) fun _ _ x => x)
  first
    | exact wpAny_pure (wpAny_bind fin)
    | exact wpAny_bind (wpAny_pure (wpAny_bind fin))
    | exact wpAny_bind fin

theorem dict_typeIs {X : Cx} {pins : List (Addr × Obj)} {σ : St} {H : Hp} {s : Shared} {a : Addr} {y : V} {o : Option V} (I : Inv X pins σ H s) (g : DGet H a y o) : s.TypeIs (.ref a) "dict" := by
  rcases g with ⟨kvs, k, e, _, _⟩ | ⟨kvs, k, b, e, _, _, _⟩
  · obtain ⟨_, _, vs, _, dd⟩ := dk_rd I.hok e
    exact dd.typeIs
  · obtain ⟨_, _, xs, _, dd⟩ := dt_rd I.hok e
    exact dd.typeIs
noncomputable def tDGet (td ty : TE) : TE := fun σ H Q => td σ H fun x H1 => ty σ H1 fun y H2 => ∃ a v, x = .ref a ∧ DGet H2 a y (some v) ∧ Q v H2
noncomputable def tDIn (ty td : TE) : TE := fun σ H Q => ty σ H fun y H1 => td σ H1 fun x H2 => ∃ a o, x = .ref a ∧ DGet H2 a y o ∧ Q (.bl o.isSome) H2
noncomputable def tDNotIn (ty td : TE) : TE := fun σ H Q => ty σ H fun y H1 => td σ H1 fun x H2 => ∃ a o, x = .ref a ∧ DGet H2 a y o ∧ Q (.bl (!o.isSome)) H2
noncomputable def sDPut (td ty tv : TE) : TS := fun D σ H => tv σ H fun v H1 => td σ H1 fun x H2 => ty σ H2 fun y H3 => ∃ a H4, x = .ref a ∧ DPut H3 a y v H4 ∧ D.nx σ H4
section
variable {X : Cx} {o i e value : Expr} {pos pos' tpos : Pos} {td ty tv : TE}
theorem pe_dget (hu : X.A.units + 1 < cLine) (ho : PE X o td) (hi : PE X i ty) (hs : NoSl i) : PE X (.Subscript o i pos) (tDGet td ty) := by
  intro pins s σ H Q I h
  refine subD_of PySem.F.slot_dict_getitem.lookup hs (thn (ho pins s σ H _ I h) fun u s1 ⟨x, H1, I1, rx, q1⟩ => thn (hi pins s1 σ H1 _ I1 q1) fun iv s2 ⟨y, H2, I2, ry, a, v, ex, g, q2⟩ => ?_)
  subst ex
  obtain rfl : u = Value.ref a := rx
  exact ⟨dict_typeIs I2 g, d_getItem hu I2 g ry fun w' s3 I3 rw' => ⟨v, H2, I3, rw', q2⟩⟩
theorem pc_din (hu : X.A.units + 1 < cLine) (hi : PE X i ty) (ho : PE X o td) : PC X .In i o (tDIn ty td) := by
  intro pins s σ H Q I h
  refine thn (hi pins s σ H _ I h) fun iv s1 ⟨y, H1, I1, ry, q1⟩ => thn (ho pins s1 σ H1 _ I1 q1) fun u s2 ⟨x, H2, I2, rx, a, ov, ex, g, q2⟩ => ?_
  subst ex
  obtain rfl : u = Value.ref a := rx
  exact d_in hu I2 g ry fun s3 I3 => ⟨.bl ov.isSome, H2, I3, rfl, q2⟩
theorem pc_dnotin (hu : X.A.units + 1 < cLine) (hi : PE X i ty) (ho : PE X o td) : PC X .NotIn i o (tDNotIn ty td) := by
  intro pins s σ H Q I h
  refine thn (hi pins s σ H _ I h) fun iv s1 ⟨y, H1, I1, ry, q1⟩ => thn (ho pins s1 σ H1 _ I1 q1) fun u s2 ⟨x, H2, I2, rx, a, ov, ex, g, q2⟩ => ?_
  subst ex
  obtain rfl : u = Value.ref a := rx
  exact d_notIn hu I2 g ry fun s3 I3 => ⟨.bl (!ov.isSome), H2, I3, rfl, q2⟩
theorem ps_dput (hu : X.A.units + 1 < cLine) (ho : PE X o td) (hi : PE X i ty) (hv : PE X value tv) (hs : swapsWith value (some (.Subscript o i pos')) pos.line X.env = pure false) :
    PS X (.Assign [.Subscript o i pos'] value pos) (sDPut td ty tv) := by
  intro pins s σ H D I h
  refine wpAny_Assign_Subscript (thn (hv pins s σ H _ I h) fun r s1 ⟨v, H1, I1, rv, q1⟩ => thn (ho pins s1 σ H1 _ I1 q1) fun u s2 ⟨x, H2, I2, rx, q2⟩ => thn (hi pins s2 σ H2 _ I2 q2) fun iv s3 ⟨y, H3, I3, ry, a, H4, ex, g, q3⟩ => ?_) hs
  subst ex
  obtain rfl : u = Value.ref a := rx
  exact d_setItem hu I3 g ry rv fun s4 I4 => ⟨σ, H4, I4, q3⟩
end


theorem dk_empty {P : Program} {w : World} {H : Hp} (h : Heap) (hb : sysModules < h.objs.size) : ObjOk P w H (h.push { cls := .type "dict", data := .dict #[] }) h.objs.size (.dK []) :=
  ⟨Nat.zero_le _, beq_eq_false_iff_ne.mpr (Ne.symm (Nat.ne_of_lt hb)), [], .nil, Heap.DictOf.new h⟩
noncomputable def tDNewK : TE := fun _ H Q => ∀ p, H p = none → Q (.ref p) (upd H p (.dK []))
section
variable {X : Cx} {pos : Pos}
theorem pe_dnewK : PE X (.Dict [] [] pos) tDNewK := fun pins s σ H Q I h =>
  wpAny_Dict_empty ⟨.ref s.heap.objs.size, _, I.laid (a := s.heap.objs.size) (o := .dK []) (t' := s.toks) (fun _ _ q => Heap.get?_push_of_some _ q) (Nat.le_refl _) (dk_empty s.heap I.big), rfl, h _ (I.hok.fresh (Nat.le_refl _))⟩
end

structure M1 (X : Cx) (o : Expr) (m : Str) (apos : Pos) (e : Expr) (cpos : Pos) : Prop where
  base : attributeBase o m X.env (eval o X.env) = eval o X.env
  few : ((backTo cpos (starEach [e] X.env)).all (fun x => !x.1) && (backToKw cpos (keywordEach [] X.env)).all (fun x => x.1.isSome)
    && decide (([e] : List Expr).length + ([] : List Keyword).length + (if ([] : List Keyword).isEmpty then 0 else 1) < 30)) = true
  line : (apos.endLine == cpos.line) = true
  trees : backTo cpos (starEach [e] X.env) = [(false, eval e X.env)]
structure M2 (X : Cx) (o : Expr) (m : Str) (apos : Pos) (e f : Expr) (cpos : Pos) : Prop where
  base : attributeBase o m X.env (eval o X.env) = eval o X.env
  few : ((backTo cpos (starEach [e, f] X.env)).all (fun x => !x.1) && (backToKw cpos (keywordEach [] X.env)).all (fun x => x.1.isSome)
    && decide (([e, f] : List Expr).length + ([] : List Keyword).length + (if ([] : List Keyword).isEmpty then 0 else 1) < 30)) = true
  line : (apos.endLine == cpos.line) = true
  trees : backTo cpos (starEach [e, f] X.env) = [(false, eval e X.env), (false, eval f X.env)]

noncomputable def IsD (H : Hp) (a : Addr) : Prop := (∃ kvs, Rd H a (.dK kvs)) ∨ ∃ kvs, Rd H a (.dT kvs)
theorem isD_at {X : Cx} {pins : List (Addr × Obj)} {σ : St} {H : Hp} {s : Shared} {a : Addr} (I : Inv X pins σ H s) (d : IsD H a) :
    s.TypeIs (.ref a) "dict" ∧ (∀ b, Value.ref a = .ref b → ∃ ob, s.heap.get? b = some ob ∧ ob.dict = none) ∧ (a == sysModules) = false := by
  rcases d with ⟨kvs, e⟩ | ⟨kvs, e⟩
  · obtain ⟨_, hd, vs, _, dd⟩ := dk_rd I.hok e
    refine ⟨dd.typeIs, fun b q => ?_, hd⟩
    cases q
    obtain ⟨ob, _, _, h1, h2, _⟩ := dd
    exact ⟨ob, h1, h2.2.1⟩
  · obtain ⟨_, hd, xs, _, dd⟩ := dt_rd I.hok e
    refine ⟨dd.typeIs, fun b q => ?_, hd⟩
    cases q
    obtain ⟨ob, _, _, h1, h2, _⟩ := dd
    exact ⟨ob, h1, h2.2.1⟩

section
variable {X : Cx} {pins : List (Addr × Obj)} {σ : St} {H : Hp} {s : Shared} {a : Addr} {y d : V} {u r : Value} {o : Option V} {A : Around} {E : Value → Shared → Prop}
end

noncomputable def tDGet1 (td ty : TE) : TE := fun σ H Q => td σ H fun x H1 => ∃ a, x = .ref a ∧ IsD H1 a ∧ ty σ H1 fun y H2 => ∃ o, DGet H2 a y o ∧ Q (o.getD .non) H2
noncomputable def tDGet2 (td ty tx : TE) : TE := fun σ H Q => td σ H fun x H1 => ∃ a, x = .ref a ∧ IsD H1 a ∧ ty σ H1 fun y H2 => tx σ H2 fun z H3 => ∃ o, DGet H3 a y o ∧ Q (o.getD z) H3
noncomputable def tDPop1 (td ty : TE) : TE := fun σ H Q => td σ H fun x H1 => ∃ a, x = .ref a ∧ IsD H1 a ∧ ty σ H1 fun y H2 => ∃ kvs k v, H2 a = some (.dK kvs) ∧ y = kV k ∧ valV kvs k = some v ∧ Q v (upd H2 a (.dK (dropK kvs k)))
section
variable {X : Cx} {o e f : Expr} {apos cpos : Pos} {td ty tx : TE}
theorem pe_dpop1 (ho : PE X o td) (he : PE X e ty) (m : M1 X o "pop" apos e cpos) : PE X (.Call (.Attribute o "pop" apos) [e] [] cpos) (tDPop1 td ty) := by
  intro pins s σ H Q I h
  refine wpAny_Call_method m.base m.few m.line PySem.F.plainAttrs_dict PySem.F.slot_dict_pop PySem.F.type_dict_pop (thn (ho pins s σ H _ I h) fun u s1 ⟨x, H1, I1, rx, a, ex, d, q1⟩ => ?_)
  subst ex
  obtain rfl : u = Value.ref a := rx
  obtain ⟨t1, t2, _⟩ := isD_at I1 d
  refine ⟨t1, t2, ?_⟩
  rw [m.trees]
  refine Calls.callWith_builtin rfl (Calls.evalArgs_plain (Calls.spliced_cons (thn (he pins s1 σ H1 _ I1 q1) fun iv s2 ⟨y, H2, I2, ry, kvs, k, v, ea, ey, l, q2⟩ => Calls.spliced_nil ?_)))
  subst ey
  exact d_pop I2 ea ry l (.inl rfl) fun w' s3 I3 rw' => ⟨v, _, I3, rw', q2⟩
end

section
variable {X : Cx} {pins : List (Addr × Obj)} {σ : St} {H : Hp} {s : Shared} {a : Addr} {kvs : List (Key × V)} {A : Around} {E : Value → Shared → Prop}
end


section
variable {X : Cx} {pins : List (Addr × Obj)} {σ : St} {H : Hp} {s : Shared} {a : Addr} {y : V} {u : Value} {A : Around} {E : Value → Shared → Prop}
end
end L2

namespace L2
open PySem PySem.Spec PyProof.Rows
section
variable {X : Cx}
theorem call_lenD : CallR X (.builtin "len") (fun xs H Q => ∃ a kvs, xs = [V.ref a] ∧ H a = some (.dK kvs) ∧ Q (.int kvs.length) H) := by
  intro pins s σ H xs us Q I r h
  obtain ⟨a, kvs, rfl, ha, q⟩ := h
  obtain ⟨u, rfl, ru⟩ := vals1 r
  cases ru
  exact d_len I (.inl ha) fun t s' I' => ⟨.int kvs.length, H, I', ⟨t, rfl⟩, q⟩
end
section
variable {κ : Type} [DecidableEq κ]
theorem valV_not {kvs : List (κ × V)} {k : κ} (h : valV kvs k = none) : ¬ k ∈ kvs.map (·.1) := by
  intro m
  obtain ⟨p, hp, e⟩ := List.mem_map.mp m
  have q : (kvs.any fun kv => decide (kv.1 = k)) = true := List.any_eq_true.mpr ⟨p, hp, decide_eq_true e⟩
  rw [valV_any, h] at q
  exact absurd q (by simp)
theorem valV_in {kvs : List (κ × V)} {k : κ} {v : V} (h : valV kvs k = some v) : k ∈ kvs.map (·.1) := by
  have q : (kvs.any fun kv => decide (kv.1 = k)) = true := by
    rw [valV_any, h]
    all_goals rfl
  obtain ⟨p, hp, e⟩ := List.any_eq_true.mp q
  exact List.mem_map.mpr ⟨p, hp, of_decide_eq_true e⟩
end
end L2

set_option Elab.async false
set_option linter.all false
set_option maxRecDepth 100000
set_option maxHeartbeats 4000000
namespace L2
open PySem PySem.Spec PyProof.Rows

structure Def (P : Program) (w : World) (K : PySem.W.Frag) (mg : Str → Option Value) (base : Heap) (CX : CXT) (k : Nat) (x : Str) (ps : List Str) (sp : Sp) : Prop where
  ex : ∃ (f : Addr) (fd : FuncData), FnOk P w K mg base CX k f fd ps sp ∧ mg x = some (.ref f) ∧ PySem.W.keepIn K (.ref f) = true ∧ Binds K fd ps []
noncomputable def tCallD (sp : Sp) (E : XK) (t : TA) : TE := fun σ H Q => t σ H fun vs H1 => sp vs H1 Q E
section
variable {X : Cx} {CX : CXT} {k j : Nat} {ps : List Str} {sp : Sp} {E : XK} {x : Str} {p pos : Pos} {e : Expr} {es : List Expr} {t : TA}
theorem pe_callD (D : Def X.prog X.w X.K X.mg X.base CX j x ps sp) (hr : Room k X.A) (hg : Gl X x) (hx : Passes CX X E) (ha : PA X (e :: es) t) (hj : j ≤ k := by decide)
    (hdb : (x == ("__debug__" : Str)) = false := by decide) (he : starEach (e :: es) X.env = (false, eval e X.env) :: starEach es X.env := by rfl) (hpl : (backTo pos (starEach es X.env)).any (·.1) = false := by rfl) :
    PE X (.Call (.Name x p) (e :: es) [] pos) (tCallD sp E t) := by
  obtain ⟨f, fd, F, hm, hk, hb⟩ := D.ex
  intro pins s σ H Q I h
  refine pe_call (F.mono hj) hr hg hm hk hb .nil hx ha hdb he hpl pins s σ H Q I ?_
  show t σ H fun vs H1 => sp (vs ++ []) H1 Q E
  have z : (fun (vs : List V) (H1 : Hp) => sp (vs ++ []) H1 Q E) = fun vs H1 => sp vs H1 Q E := by funext vs H1; rw [List.append_nil]
  rw [z]
  exact h
end

section
variable {X : Cx}
end

noncomputable def Isi (K : PySem.W.Frag) (H : Hp) (x : V) (n : String) (b : Bool) : Prop := ∃ t, TyOf K H x t ∧ PySem.W.kitOne K t (.type n) = some b
section
variable {X : Cx}
theorem call_isinst : CallR X (.builtin "isinstance") (fun xs H Q => ∃ x n b, xs = [x, .ty n] ∧ Isi X.K H x n b ∧ Q (.bl b) H) := by
  intro pins s σ H xs us Q I r h
  obtain ⟨x, n, b, rfl, ⟨t, ty, e⟩, q⟩ := h
  obtain ⟨u, c, rfl, r1, r2⟩ := vals2 r
  cases r2
  exact isinst_ok I r1 ty e fun tk => ⟨.bl b, H, I.tok _, rfl, q⟩
end
section
variable {K : PySem.W.Frag} {H : Hp}
theorem isi_ii {i : Int} : Isi K H (.int i) "int" true := ⟨_, .int i, rfl⟩
theorem isi_ib {i : Int} : Isi K H (.int i) "bool" false := ⟨_, .int i, by with_unfolding_all rfl⟩
theorem isi_is {i : Int} : Isi K H (.int i) "str" false := ⟨_, .int i, by with_unfolding_all rfl⟩
theorem isi_bb {i : Bool} : Isi K H (.bl i) "bool" true := ⟨_, .bl i, rfl⟩
theorem isi_bi {i : Bool} : Isi K H (.bl i) "int" true := ⟨_, .bl i, by with_unfolding_all rfl⟩
theorem isi_bs {i : Bool} : Isi K H (.bl i) "str" false := ⟨_, .bl i, by with_unfolding_all rfl⟩
theorem isi_ss {i : Str} : Isi K H (.str i) "str" true := ⟨_, .str i, rfl⟩
theorem isi_si {i : Str} : Isi K H (.str i) "int" false := ⟨_, .str i, by with_unfolding_all rfl⟩
theorem isi_sb {i : Str} : Isi K H (.str i) "bool" false := ⟨_, .str i, by with_unfolding_all rfl⟩
theorem isi_ni : Isi K H .non "int" false := ⟨_, .non, by with_unfolding_all rfl⟩
theorem isi_ns : Isi K H .non "str" false := ⟨_, .non, by with_unfolding_all rfl⟩
theorem isi_lstl {a : Addr} {xs : List V} (e : H a = some (.lst xs)) : Isi K H (.ref a) "list" true := ⟨_, .lst e, rfl⟩
theorem isi_lsts {a : Addr} {xs : List V} (e : H a = some (.lst xs)) : Isi K H (.ref a) "str" false := ⟨_, .lst e, by with_unfolding_all rfl⟩
theorem isi_lsti {a : Addr} {xs : List V} (e : H a = some (.lst xs)) : Isi K H (.ref a) "int" false := ⟨_, .lst e, by with_unfolding_all rfl⟩
theorem isi_lstt {a : Addr} {xs : List V} (e : H a = some (.lst xs)) : Isi K H (.ref a) "tuple" false := ⟨_, .lst e, by with_unfolding_all rfl⟩
theorem isi_tupt {a : Addr} {xs : List V} (e : H a = some (.tup xs)) : Isi K H (.ref a) "tuple" true := ⟨_, .tup e, rfl⟩
theorem isi_tups {a : Addr} {xs : List V} (e : H a = some (.tup xs)) : Isi K H (.ref a) "str" false := ⟨_, .tup e, by with_unfolding_all rfl⟩
theorem isi_tupi {a : Addr} {xs : List V} (e : H a = some (.tup xs)) : Isi K H (.ref a) "int" false := ⟨_, .tup e, by with_unfolding_all rfl⟩
theorem isi_tupl {a : Addr} {xs : List V} (e : H a = some (.tup xs)) : Isi K H (.ref a) "list" false := ⟨_, .tup e, by with_unfolding_all rfl⟩
theorem isi_go {x : V} {n : String} {b : Bool} {R : Bool → Prop} (h : Isi K H x n b) (q : R b) : ∃ b, Isi K H x n b ∧ R b := ⟨b, h, q⟩
theorem len_goL {p : Addr} {xs : List V} {R : List V → Prop} (h : SqL K H p xs) (q : R xs) : ∃ ys, (SqL K H p ys ∨ SqT K H p ys) ∧ R ys := ⟨xs, .inl h, q⟩
theorem len_goT {p : Addr} {xs : List V} {R : List V → Prop} (h : SqT K H p xs) (q : R xs) : ∃ ys, (SqL K H p ys ∨ SqT K H p ys) ∧ R ys := ⟨xs, .inr h, q⟩
theorem ixT_of {p : Addr} {xs : List V} {i : Int} {v : V} {Q : VK} (h : SqT K H p xs) (e : atI xs i = some v) (q : Q v H) : rIxT K (.ref p) (.int i) H Q := ⟨p, xs, i, v, rfl, rfl, h, e, q⟩
theorem ixL_of {p : Addr} {xs : List V} {i : Int} {v : V} {Q : VK} (h : SqL K H p xs) (e : atI xs i = some v) (q : Q v H) : rIxL K (.ref p) (.int i) H Q := ⟨p, xs, i, v, rfl, rfl, h, e, q⟩
end

theorem while_d {c : TT} {tb : TS} {D : Ends} {σ : St} {H : Hp} {m0 : Nat} (Pv : Nat → St → Hp → Prop) (h0 : Pv m0 σ H)
    (hs : ∀ m σ H, Pv m σ H → c σ H fun b H1 => if b = true then ∃ N : St → Hp → Prop, (∀ σ' H', N σ' H' → ∃ m', m' < m ∧ Pv m' σ' H') ∧ tb { D with nx := N, ct := N, bk := D.nx } σ H1 else D.nx σ H1) : tWhile c tb D σ H := ⟨Pv, ⟨m0, h0⟩, hs⟩
theorem atI_of {α : Type} {xs : List α} {i : Int} {v : α} (h0 : 0 ≤ i) (h : xs[i.toNat]? = some v) : atI xs i = some v := by
  unfold atI ixN
  have hl : i.toNat < xs.length := (List.getElem?_eq_some_iff.mp h).1
  rw [if_pos h0, if_pos (show i < xs.length by omega)]
  exact h
theorem cxOf_K {CX : CXT} {P : Program} {w : World} {K : PySem.W.Frag} {mg : Str → Option Value} {base : Heap} {N : List Str} {qual : Str} {scope : Scope} {f : Addr} {cd : Value} {A : Around} {outer : List Env} {s : Shared} {H : Hp} {E : XK} :
    (cxOf CX P w K mg base N qual scope f cd A outer s H E).K = K := rfl
theorem getMap {ns : List Int} {k : Nat} (h : k < ns.length) : (ns.map V.int)[k]? = some (V.int (ns.getD k 0)) := by
  rw [List.getElem?_map, List.getD_eq_getElem?_getD, List.getElem?_eq_getElem h]; rfl
theorem Same.tup {K : PySem.W.Frag} {H H' : Hp} {a : Addr} {xs : List V} (e : Same H H') (h : SqT K H a xs) : SqT K H' a xs := by
  rcases h with (h | ⟨o, h⟩) | h
  · exact .inl (.inl (e _ _ h))
  · exact .inl (.inr ⟨o, e _ _ h⟩)
  · exact .inr h
theorem Same.new {H : Hp} {p : Addr} {o : HO} (h : H p = none) : Same H (upd H p o) := fun b u e => by
  rw [upd_ne (ne_of_none e h)]; exact e

section
variable {σ : St} {H : Hp} {Q : VK} {QT : Bool → Hp → Prop} {QA : List V → Hp → Prop} {D : Ends} {K : PySem.W.Frag}
theorem rd_asg {te : TE} {g : TG} : tAsg te g D σ H = te σ H fun x H1 => g x σ H1 D.nx := rfl
theorem rd_var {i : Nat} : tVar i σ H Q = ∃ v, σ[i]? = some (some v) ∧ Q v H := rfl
theorem rd_c {v : V} : tC v σ H Q = Q v H := rfl
theorem rd_op {r : R2} {ta tb : TE} : tOp r ta tb σ H Q = ta σ H fun x H1 => tb σ H1 fun y H2 => r x y H2 Q := rfl
theorem rd_I0 {g : Int → Int → V} {x y : V} : rI0 g x y H Q = ∃ i j, x = .int i ∧ y = .int j ∧ Q (g i j) H := rfl
theorem rd_I {C : Int → Int → Prop} {g : Int → Int → V} {x y : V} : rI C g x y H Q = ∃ i j, x = .int i ∧ y = .int j ∧ C i j ∧ Q (g i j) H := rfl
theorem rd_U {g : Int → V} {x : V} : rU g x H Q = ∃ i, x = .int i ∧ Q (g i) H := rfl
theorem rd_name {i : Nat} {v : V} {N : St → Hp → Prop} : gName i v σ H N = N (σ.set i (some v)) H := rfl
theorem rd_ifS {c : TT} {t u : TS} : tIfS c t u D σ H = c σ H fun b H1 => if b = true then t D σ H1 else u D σ H1 := rfl
theorem rd_test {t : TE} : tTest t σ H QT = t σ H fun x H' => ∃ k, x = .bl k ∧ QT k H' := rfl
theorem rd_b {t : TE} : tB t σ H QT = t σ H fun x H1 => ∃ c, x = .bl c ∧ QT c H1 := rfl
theorem rd_ret {te : TE} : tRet te D σ H = te σ H D.rt := rfl
theorem rd_retN : tRetN D σ H = D.rt .non H := rfl
theorem rd_next : tNext D σ H = D.nx σ H := rfl
theorem rd_break : tBreak D σ H = D.bk σ H := rfl
theorem rd_cont : tCont D σ H = D.ct σ H := rfl
theorem rd_cb {r : List V → Hp → VK → Prop} {t : TA} : tCB r t σ H Q = t σ H fun vs H1 => r vs H1 Q := rfl
theorem rd_cons {ta : TE} {tr : TA} : tCons ta tr σ H QA = ta σ H fun x H1 => tr σ H1 fun xs H2 => QA (x :: xs) H2 := rfl
theorem rd_nil : tNil σ H QA = QA [] H := rfl
theorem rd_call {sp : Sp} {E : XK} {t : TA} : tCallD sp E t σ H Q = t σ H fun vs H1 => sp vs H1 Q E := rfl
theorem rd_not {t : TT} : tNot t σ H QT = t σ H fun c H1 => QT (!c) H1 := rfl
theorem rd_or {t u : TT} : tOr t u σ H QT = t σ H fun c H1 => if c = true then QT true H1 else u σ H1 QT := rfl
theorem rd_and {t u : TT} : tAnd t u σ H QT = t σ H fun c H1 => if c = true then u σ H1 QT else QT false H1 := rfl
theorem rd_andV {ta tb : TE} : tAndV ta tb σ H Q = ta σ H fun x H1 => ∃ c, x = .bl c ∧ if c = true then tb σ H1 Q else Q (.bl false) H1 := rfl
theorem rd_orV {ta tb : TE} : tOrV ta tb σ H Q = ta σ H fun x H1 => ∃ c, x = .bl c ∧ if c = true then Q (.bl true) H1 else tb σ H1 Q := rfl
theorem rd_notV {ta : TE} : tNotV ta σ H Q = ta σ H fun x H1 => ∃ c, x = .bl c ∧ Q (.bl (!c)) H1 := rfl
theorem rd_if {t : TT} {ta tb : TE} : tIf t ta tb σ H Q = t σ H fun c H1 => if c = true then ta σ H1 Q else tb σ H1 Q := rfl
theorem rd_un {r : V → Hp → VK → Prop} {ta : TE} : tUn r ta σ H Q = ta σ H fun x H1 => r x H1 Q := rfl
theorem rd_eq {x y : V} : rEq x y H Q = (scal x y = true ∧ Q (.bl (decide (x = y))) H) := rfl
theorem rd_ne {x y : V} : rNe x y H Q = (scal x y = true ∧ Q (.bl (!decide (x = y))) H) := rfl
theorem rd_par {i j : Nat} {ta : TA} : tPar i j ta D σ H = ta σ H fun vs H1 => ∃ v w, vs = [v, w] ∧ D.nx ((σ.set i (some v)).set j (some w)) H1 := rfl
theorem rd_tup {t : TA} : tTup t σ H Q = t σ H fun xs H1 => xs.length ≤ sizeLine ∧ ∀ p, H1 p = none → Q (.ref p) (upd H1 p (.tup xs)) := rfl
theorem rd_lst {t : TA} : tLst t σ H Q = t σ H fun xs H1 => xs.length ≤ sizeLine ∧ ∀ p, H1 p = none → Q (.ref p) (upd H1 p (.lst xs)) := rfl
theorem rd_never : tNever D σ H = False := rfl
theorem rd_drop {te : TE} : tDrop te D σ H = te σ H fun _ H1 => D.nx σ H1 := rfl
theorem rd_gcons {t : TG} {u : TGs} {vs : List V} {N : St → Hp → Prop} : gCons t u vs σ H N = ∃ v r, vs = v :: r ∧ t v σ H fun σ' H' => u r σ' H' N := rfl
theorem rd_gnil {vs : List V} {N : St → Hp → Prop} : gNil vs σ H N = (vs = [] ∧ N σ H) := rfl
theorem rd_gsub {to ti : TE} {t : TSet} {v : V} {N : St → Hp → Prop} : gSub to ti t v σ H N = to σ H fun o H1 => ti σ H1 fun i H2 => t o i v H2 fun H3 => N σ H3 := rfl
theorem rd_chain {r r' : R2} {ta tb tc : TE} : tChain r r' ta tb tc σ H Q = ta σ H fun x H1 => tb σ H1 fun y H2 => r x y H2 fun z H3 => ∃ k, z = .bl k ∧
  (if k = true then tc σ H3 fun w' H4 => r' y w' H4 Q else Q (.bl false) H3) := rfl
theorem rd_rng1 {ta : TA} {R : It → Hp → Prop} : iRng1 ta σ H R = ta σ H fun vs H1 => ∃ j : Int, vs = [.int j] ∧ -(2 ^ 62) ≤ j ∧ j < 2 ^ 62 ∧ R (Itr 0 j.toNat) H1 := rfl
theorem rd_rng2 {ta : TA} {R : It → Hp → Prop} : iRng2 ta σ H R = ta σ H fun vs H1 => ∃ i j : Int, vs = [.int i, .int j] ∧ (-(2 ^ 62) ≤ i ∧ i < 2 ^ 62 ∧ -(2 ^ 62) ≤ j ∧ j < 2 ^ 62) ∧ R (Itr i (j - i).toNat) H1 := rfl
theorem rd_ilist {tl : TE} {R : It → Hp → Prop} : iList K tl σ H R = tl σ H fun x H1 => ∃ a, x = .ref a ∧ (∃ xs, SqL K H1 a xs) ∧ R (Itl K a) H1 := rfl
theorem rd_itup {tl : TE} {R : It → Hp → Prop} : iTup K tl σ H R = tl σ H fun x H1 => ∃ a, x = .ref a ∧ (∃ xs, SqT K H1 a xs) ∧ R (Itt K a) H1 := rfl
noncomputable def ForTail (g : TG) (tb : TS) (D : Ends) (σ : St) : It → Hp → Prop := fun J H1 => ∃ W : Nat → Nat → St → Hp → Prop, (∃ m, W 0 m σ H1) ∧ ∀ i m σ H, W i m σ H →
  (J.stop i H ∧ D.nx σ H) ∨ (J.go i H ∧ ∃ N : St → Hp → Prop, (∀ σ' H', N σ' H' → ∃ m', m' < m ∧ W (i + 1) m' σ' H') ∧ ∀ x H', J.yld i H x H' → g x σ H' fun σ2 H2 => tb { D with nx := N, ct := N, bk := D.nx } σ2 H2)
theorem rd_for' {wi : TI} {g : TG} {tb : TS} : tFor wi g tb D σ H = wi σ H (ForTail g tb D σ) := rfl
theorem forR_by {lo : Int} {n : Nat} {g : TG} {tb : TS} (Pv : Nat → St → Hp → Prop) (h0 : Pv 0 σ H)
    (hs : ∀ i σ H, i < n → Pv i σ H → g (.int (lo + i)) σ H fun σ2 H2 => tb { D with nx := Pv (i + 1), ct := Pv (i + 1), bk := D.nx } σ2 H2) (hd : ∀ σ H, Pv n σ H → D.nx σ H) : ForTail g tb D σ (Itr lo n) H := for_range Pv h0 hs hd
theorem forL_by {a : Addr} {xs : List V} {g : TG} {tb : TS} (Pv : Nat → St → Hp → Prop) (h0 : Pv 0 σ H) (hl : ∀ i σ H, i ≤ xs.length → Pv i σ H → SqL K H a xs)
    (hs : ∀ i x σ H, xs[i]? = some x → Pv i σ H → g x σ H fun σ2 H2 => tb { D with nx := Pv (i + 1), ct := Pv (i + 1), bk := D.nx } σ2 H2) (hd : ∀ σ H, Pv xs.length σ H → D.nx σ H) : ForTail g tb D σ (Itl K a) H := for_list Pv h0 hl hs hd
theorem seq_go {t u : TS} (h : ∀ rest : St → Hp → Prop, rest = u D → t { D with nx := rest } σ H) : tSeq t u D σ H := h _ rfl
theorem leaf_go {rest r : St → Hp → Prop} (h : rest = r) (q : r σ H) : rest σ H := by rw [h]; exact q
theorem cell_go {a : Addr} {ns : List Int} {k : Int} {R : List Int → Prop} (h : SqL K H a (ns.map V.int)) (h0 : 0 ≤ k) (hl : ns.length ≤ 63) (q : R ns) : ∃ x : List Int, SqL K H a (x.map V.int) ∧ 0 ≤ k ∧ x.length ≤ 63 ∧ R x := ⟨ns, h, h0, hl, q⟩
theorem cdiv_of {i j : Int} (h1 : 0 < j) (h2 : j < 1073741824) : CDiv i j := ⟨h1, h2⟩
theorem cpow_of {i j : Int} (h1 : 0 ≤ j) (h2 : j ≤ 1000000) (h3 : i.natAbs < 2 ^ 64) : CPow i j := ⟨h1, h2, h3⟩
theorem cmul_l {i j : Int} (h1 : -(2 ^ 64) < i) (h2 : i < 2 ^ 64) : CMul i j := .inl ⟨h1, h2⟩
theorem cmul_r {i j : Int} (h1 : -(2 ^ 64) < j) (h2 : j < 2 ^ 64) : CMul i j := .inr ⟨h1, h2⟩
end
end L2

set_option Elab.async false
set_option linter.all false
set_option maxRecDepth 100000
set_option maxHeartbeats 4000000
namespace L2
open PySem PySem.Spec PyProof.Rows

section
variable {P : Program} {w : World} {H : Hp} {h : Heap} {a : Addr} {o : HO}
theorem ObjOk.there (x : ObjOk P w H h a o) : ∃ ob, h.get? a = some ob := by
  cases o with
  | lst xs => obtain ⟨_, _, _, _, e⟩ := x; exact ⟨_, e⟩
  | tup xs => obtain ⟨_, _, _, _, e, _⟩ := x; exact ⟨_, e⟩
  | dK kvs => obtain ⟨_, _, _, _, _, _, _, e, _⟩ := x; exact ⟨_, e⟩
  | dT kvs => obtain ⟨_, _, _, _, _, _, _, e, _⟩ := x; exact ⟨_, e⟩
  | set S n => obtain ⟨_, _, _, _, e, _⟩ := x; exact ⟨_, e⟩
  | ins C dx fs => obtain ⟨_, _, _, e, _⟩ := x; exact ⟨_, e⟩
  | own y => exact x
  | xd fs => obtain ⟨_, ⟨_, _, _, e, _⟩, _⟩ := x; exact ⟨_, e⟩
  | rng lo hi => obtain ⟨_, _, _, e⟩ := x; exact ⟨_, e⟩
  | frz ob u => exact ⟨_, x.1⟩
  | tbl ps => exact ⟨_, x⟩
  | met f y => exact ⟨_, x⟩
  | ext φ => exact x.2.1
theorem HOk.there (x : HOk P w H h) (e : H a = some o) : ∃ ob, h.get? a = some ob := (x a o e).there
end

noncomputable def Spares (fs : List Addr) (H' : Hp) (g h B : Heap) : Prop := ∀ b o, h.get? b = some o → b ∉ fs → (H' b ≠ none ∨ ∃ u, g.get? b = some u) → B.get? b = some o
section
variable {P : Program} {w : World}
theorem stay_of {fs : List Addr} {H0 H' : Hp} {g h h3 B : Heap} (u : Un fs [] H0 H' g h) (ok : HOk P w H' h)
    (hfr : ∀ b ∈ fs, ∃ o, g.get? b = some o ∧ ∀ vs, o.data ≠ .fields vs) (hf0 : ∀ b ∈ fs, H0 b = none) (hB : Spares fs H' g h B) (st : B.StaysIn h3) (up : h.UpToSlots h3) :
    Un fs [] H0 H' g h3 ∧ HOk P w H' h3 ∧ Spares fs H' g h3 B := by
  have fr' : ∀ b ∈ fs, H' b = none := fun b hb => by
    obtain ⟨o, ho, _⟩ := hfr b hb
    exact u.free b o ho (hf0 b hb) (by simp)
  have tr : ∀ b o, H' b = some o → b ∉ fs := fun b o e hb => by rw [fr' b hb] at e; cases e
  have kp : ∀ b ob, h.get? b = some ob → b ∉ fs → (H' b ≠ none ∨ ∃ u, g.get? b = some u) → h3.get? b = some ob := fun b ob e n c => st b ob (hB b ob e n c)
  have sl : ∀ b o, g.get? b = some o → H0 b = none → b ∈ fs → b ∉ ([] : List Addr) → ∃ sl, h3.get? b = some { o with slots := sl } := fun b o e n hb hx => by
    obtain ⟨sl, e1⟩ := u.slot b o e n hb hx
    obtain ⟨o', e', d⟩ := hfr b hb
    rw [e] at e'; cases e'
    obtain ⟨sl2, e2⟩ := up b _ e1 d
    exact ⟨sl2, e2⟩
  refine ⟨⟨fun b o e n hb hx => kp b o (u.keep b o e n hb hx) hb (.inr ⟨o, e⟩), sl, u.free, fun b o e hx => ?_, u.tups, u.frzs, u.tbls⟩, fun a o e => ?_, fun b o e hb c => ?_⟩
  · by_cases hb : b ∈ fs
    · obtain ⟨s1, e1⟩ := sl b o e (hf0 b hb) hb hx
      exact ⟨_, e1⟩
    · obtain ⟨o', e1⟩ := u.there b o e hx
      exact ⟨o', kp b o' e1 hb (.inr ⟨o, e⟩)⟩
  · refine (ok a o e).stay (fun b v hc q => kp b v q ?_ (.inl ?_)) (fun _ q => q) fun _ _ q => q
    · rcases hc with rfl | hc
      · exact tr _ _ e
      · exact tr _ _ hc
    · rcases hc with rfl | hc
      · rw [e]; simp
      · rw [hc]; simp
  · have z : ∃ o1, h.get? b = some o1 := by
      rcases c with c | ⟨u0, e0⟩
      · cases q : H' b with
        | none => exact absurd q c
        | some v => exact ok.there q
      · exact u.there b u0 e0 (by simp)
    obtain ⟨o1, e1⟩ := z
    have e2 := kp b o1 e1 hb c
    rw [e] at e2; cases e2
    exact hB b o e1 hb c
end
noncomputable def CXE (P : Program) (w : World) : CXT := fun outer H s E e s' => ∃ (x : Addr) (cls a0 : Value) (H' : Hp) (B : Heap), e = .ref x ∧ s'.os = s.os ∧ AllBare s'.gens ∧ Un (frs outer) [] H H' s.heap s'.heap ∧ HOk P w H' s'.heap ∧
  Heap.FlyingW B outer x cls a0 s'.heap ∧ Spares (frs outer) H' s.heap s'.heap B ∧ H' x = none ∧ s.heap.get? x = none ∧ E cls (some x) H'

section
variable {X : Cx} {pins : List (Addr × Obj)} {σ : St} {H1 H2 : Hp} {s1 : Shared} {h2 h3 B : Heap}
theorem Inv.frm (I : Inv X pins σ H1 s1) : ∀ b ∈ frs X.stack, ∃ o, s1.heap.get? b = some o ∧ ∀ vs, o.data ≠ .fields vs := fun b hb => (I.stack.mem hb).2
theorem leave_of (I : Inv X pins σ H1 s1) (hex : X.ex = []) (u : Un (frs X.stack) [] H1 H2 s1.heap h2) (ok : HOk X.prog X.w H2 h2) (hB : Spares (frs X.stack) H2 s1.heap h2 B) (st : B.StaysIn h3) (up : h2.UpToSlots h3) :
    Un X.fs [] X.H₀ H2 X.s₀.heap h3 ∧ HOk X.prog X.w H2 h3 ∧ Spares X.fs H2 X.s₀.heap h3 B := by
  obtain ⟨U, ok3, hB3⟩ := stay_of u ok I.frm I.stkFree hB st up
  have bs := I.base
  rw [hex] at bs
  have nl : ∀ b o, X.s₀.heap.get? b = some o → b ≠ X.env.locals := fun b o e => Nat.ne_of_lt (Nat.lt_of_lt_of_le (Heap.lt_size e) I.ok.above)
  have ns : ∀ b o, X.s₀.heap.get? b = some o → b ∉ X.fs → b ∉ frs X.stack := fun b o e n hb => (List.mem_cons.mp (I.stkSub b hb)).elim (nl b o e) n
  have sub : ∀ b ∈ X.fs, b ∈ frs X.stack := fun b hb => by
    rcases I.ok.stk with e | ⟨e, hf⟩
    · rw [e]; exact hb
    · rw [e]; unfold frs; rw [List.filterMap_cons, hf]; exact List.mem_cons_of_mem _ hb
  have nt : ∀ b, H2 b ≠ none → b ∉ frs X.stack := fun b c hb => by
    obtain ⟨o, ho, _⟩ := I.frm b hb
    exact c (U.free b o ho (I.stkFree b hb) (by simp))
  refine ⟨⟨fun b o e n hb hx => ?_, fun b o e n hb hx => ?_, fun b o e n hx => ?_, fun b o e hx => ?_, fun b xs e => U.tups b xs (bs.tups b xs e), fun b o v e => U.frzs b o v (bs.frzs b o v e), fun b ps e => ?_⟩, ok3, fun b o e hb c => ?_⟩
  · exact U.keep b o (bs.keep b o e n hb hx) (bs.free b o e n hx) (ns b o e hb) hx
  · obtain ⟨sl, e1⟩ := bs.slot b o e n hb hx
    obtain ⟨sl2, e2⟩ := U.slot b _ e1 (bs.free b o e n hx) (sub b hb) hx
    exact ⟨sl2, e2⟩
  · obtain ⟨o', e1⟩ := bs.there b o e hx
    exact U.free b o' e1 (bs.free b o e n hx) hx
  · obtain ⟨o', e1⟩ := bs.there b o e hx
    exact U.there b o' e1 hx
  · obtain ⟨m1, e1⟩ := bs.tbls b ps e
    obtain ⟨m2, e2⟩ := U.tbls b _ e1
    exact ⟨m1 ++ m2, by rw [e2, Array.append_assoc]⟩
  · rcases c with c | ⟨v, e0⟩
    · exact hB3 b o e (nt b c) (.inl c)
    · obtain ⟨o', e1⟩ := bs.there b v e0 (by simp)
      exact hB3 b o e (ns b v e0 hb) (.inr ⟨o', e1⟩)
end

section
variable {P : Program} {w : World} {K : PySem.W.Frag} {mg : Str → Option Value} {base : Heap} {N : List Str} {qual : Str} {scope : Scope} {f : Addr} {cd : Value} {A : Around} {outer : List Env} {s : Shared} {H : Hp} {E : XK}
theorem raise_out {pins : List (Addr × Obj)} {σ : St} {H1 : Hp} {s1 : Shared} {h' : Heap} {x : Addr} {cls : Value} {args : List Value} (I : Inv (cxOf (CXE P w) P w K mg base N qual scope f cd A outer s H E) pins σ H1 s1)
    (hx : Heap.MadeExcOf s1.heap h' x cls args) (q : E cls (some x) H1) : (cxOf (CXE P w) P w K mg base N qual scope f cd A outer s H E).xe (.ref x) { s1 with heap := h' } := by
  have hin : ∀ env ∈ (cxOf (CXE P w) P w K mg base N qual scope f cd A outer s H E).stack, ∀ a, env.frame = some a → a ∈ frs (cxOf (CXE P w) P w K mg base N qual scope f cd A outer s H E).stack := fun env he a ha => List.mem_filterMap.mpr ⟨env, he, ha⟩
  have hB : Spares (frs (cxOf (CXE P w) P w K mg base N qual scope f cd A outer s H E).stack) H1 s1.heap h' (PySem.W.hideAll s1.heap (frs (cxOf (CXE P w) P w K mg base N qual scope f cd A outer s H E).stack)) := fun b o e hb c => by
    have z : ∃ o1, s1.heap.get? b = some o1 := by
      rcases c with c | z
      · cases q : H1 b with
        | none => exact absurd q c
        | some v => exact I.hok.there q
      · exact z
    obtain ⟨o1, e1⟩ := z
    have e2 := hx.keeps b o1 e1
    rw [e] at e2; cases e2
    exact PySem.W.hideAll_get _ e1 hb
  refine wpAny_leaves_madeW (base := PySem.W.hideAll s1.heap (frs (cxOf (CXE P w) P w K mg base N qual scope f cd A outer s H E).stack)) I.ok.frames rfl (fun b o e => PySem.W.of_hideAll _ e) (PySem.W.funFrames_hide I.stack hin) hx fun h3 t fl tu bt up => ?_
  obtain ⟨U, ok3, hB3⟩ := leave_of I rfl (Un.kept hx.keeps) (I.hok.kept hx.keeps) hB fl.1 up
  refine ⟨x, cls, .ref t, H1, _, rfl, I.os, I.bare, U, ok3, fl, hB3, ?_, ?_, q⟩
  · cases z : H1 x with
    | none => rfl
    | some v =>
      obtain ⟨o1, e1⟩ := I.hok.there z
      rw [hx.new] at e1; cases e1
  · cases z : s.heap.get? x with
    | none => rfl
    | some v =>
      obtain ⟨o1, e1⟩ := I.base.there x v z (by intro c; exact absurd (show x ∈ ([] : List Addr) from c) (by simp))
      rw [hx.new] at e1; cases e1
theorem pass_on : Passes (CXE P w) (cxOf (CXE P w) P w K mg base N qual scope f cd A outer s H E) E := by
  intro pins σ H1 s1 e s2 I h
  obtain ⟨x, cls, a0, H2, B, rfl, os, bare, u, ok, fl, hB, hx, hnew, q⟩ := h
  refine wpAny_leaves_onW (base := B) I.ok.frames rfl fl fun h3 fl3 up => ?_
  obtain ⟨U, ok3, hB3⟩ := leave_of I rfl u ok hB fl3.1 up
  refine ⟨x, cls, a0, H2, B, rfl, os.trans I.os, bare, U, ok3, fl3, hB3, hx, ?_, q⟩
  cases z : s.heap.get? x with
  | none => rfl
  | some v =>
    obtain ⟨o1, e1⟩ := I.base.there x v z (by intro c; exact absurd (show x ∈ ([] : List Addr) from c) (by simp))
    rw [hnew] at e1; cases e1
theorem own_out : PassesOwn (model P w) (A.deeper (envOfC qual scope s.heap.objs.size f cd)) (envOfC qual scope s.heap.objs.size f cd) (cxOf (CXE P w) P w K mg base N qual scope f cd A outer s H E).xe := PassesOwn.leaving
theorem Fun.okE {x : Str} {st : Stmt} {fd : FuncData} {ps : List Str} {k : Nat} {sp : Sp} (F : Fun K x qual st f fd) (S : FnScope N ps (defScope st)) (len : ∀ vs H Q E, sp vs H Q E → vs.length = ps.length)
    (hbody : ∀ (cdv : Value) (A : Around) (outer : List Env) (s : Shared) (H : Hp) (vs : List V) (Q : VK) (E : XK), Room k (A.deeper (envOfC qual (defScope st) s.heap.objs.size f cdv)) → sp vs H Q E →
      ∃ t, PSs (cxOf (CXE P w) P w K mg base N qual (defScope st) f cdv A outer s H E) (defBody st) t ∧ t { nx := fun _ H' => Q .non H', rt := Q } (start N vs) H) : FnOk P w K mg base (CXE P w) (k + 1) f fd ps sp := by
  obtain ⟨oc, od, kV, doc, pm, an, cdv, ct, osl, rfl, lk, hcd⟩ := F.ex
  exact fn_of lk hcd S len fun A outer s H vs Q E hr hsp => hbody cdv A outer s H vs Q E hr hsp
end
end L2

set_option Elab.async false
set_option linter.all false
set_option maxRecDepth 100000
set_option maxHeartbeats 4000000
namespace L2
open PySem PySem.Spec PyProof.Rows

structure ExcC (K : PySem.W.Frag) (C : Addr) : Prop where
  at_ : ∀ h : Heap, K.In h → ∃ (nm q : Str) (N : Addr) (bs bm : List Value) (hdct : Bool) (sn : List Str) (sub : List Value) (ab : Bool) (col : Option Bool) (dd : Option Addr) (k0 k1 k2 k3 k5 : Option Value) (mN : Str → Option Value),
    h.get? C = some (excClassObj nm q C N bs bm hdct sn sub ab col dd k0 k1 k2 k3 k5 "ValueError.__new__") ∧ h.Ns N mN ∧ mN "__init__" = none ∧
    OwnTail h [.type "ValueError", .type "Exception", .type "BaseException", .type "object"] bm
noncomputable def RaisesTo (X : Cx) (EE : St → XK) : Prop := ∀ (pins : List (Addr × Obj)) (σ : St) (H : Hp) (s : Shared) (h' : Heap) (x : Addr) (cls : Value) (args : List Value),
  Inv X pins σ H s → Heap.MadeExcOf s.heap h' x cls args → EE σ cls (some x) H → X.xe (.ref x) { s with heap := h' }
noncomputable def tRaise (C : Addr) (EE : St → XK) (t : TA) : TS := fun _ σ H => t σ H fun vs H1 => vs.length ≤ sizeLine ∧ ∀ x, H1 x = none → EE σ (.ref C) (some x) H1
section
variable {X : Cx} {EE : St → XK} {C : Addr} {x : Str} {np cpos pos : Pos} {e : Expr} {es : List Expr} {t : TA}
theorem ps_raise (M : ExcC X.K C) (hc : X.calm = true) (hg : Gl X x) (hm : X.mg x = some (.ref C)) (hx : RaisesTo X EE) (ha : PA X (e :: es) t) (hdb : (x == ("__debug__" : Str)) = false := by decide)
    (he : starEach (e :: es) X.env = (false, eval e X.env) :: starEach es X.env := by rfl) (hpl : (backTo cpos (starEach (e :: es) X.env)).any (·.1) = false := by rfl) :
    PS X (.Raise (some (.Call (.Name x np) (e :: es) [] cpos)) none pos) (tRaise C EE t) := by
  intro pins s σ H D I h
  obtain ⟨nm, q, N, bs, bm, hdct, sn, sub, ab, col, dd, k0, k1, k2, k3, k5, mN, hC, hN, hi, hT⟩ := M.at_ X.base I.mod.kin
  refine wpAny_Raise_call_subT PySem.F.excBase_ValueError (mN := mN) (bm := bm) (nm := nm) (q := q) (N := N) (bs := bs) (hdct := hdct) (sn := sn) (sub := sub) (ab := ab) (col := col) (dd := dd) (k0 := k0) (k1 := k1) (k2 := k2) (k3 := k3) (k5 := k5) (C := C) ?_ (I.ok.hd hc) hpl hi (ld_glob I hg hm ⟨rfl, ?_⟩ hdb)
  · exact hT.hasType (by decide)
  have h2 := ha cpos pins s σ H _ I (show t σ H (fun vs H1 => vs.length ≤ sizeLine ∧ ∀ x, H1 x = none → EE σ (.ref C) (some x) H1) from h)
  rw [he] at h2 ⊢
  refine Calls.evalArgs_plain (thn h2 fun us s1 ⟨vs, H1, I1, r, hl, q1⟩ => ?_)
  refine ⟨rfl, by rw [← r.length]; exact hl, I1.bk _ _ hC, hN.keeps I1.bk, hT.keeps I1.bk, fun h' y hy => ?_⟩
  refine hx pins σ H1 s1 h' y _ _ I1 hy (q1 y ?_)
  cases z : H1 y with
  | none => rfl
  | some v =>
    obtain ⟨o1, e1⟩ := I1.hok.there z
    rw [hy.new] at e1; cases e1
end
section
variable {P : Program} {w : World} {K : PySem.W.Frag} {mg : Str → Option Value} {base : Heap} {N : List Str} {qual : Str} {scope : Scope} {f : Addr} {cd : Value} {A : Around} {outer : List Env} {s : Shared} {H : Hp} {E : XK}
theorem raises : RaisesTo (cxOf (CXE P w) P w K mg base N qual scope f cd A outer s H E) (fun _ => E) := fun _ _ _ _ _ _ _ _ I hx q => raise_out I hx q
end

noncomputable def PassesS (CX : CXT) (X : Cx) (EE : St → XK) : Prop := ∀ (pins : List (Addr × Obj)) (σ : St) (H : Hp) (s : Shared) (e : Value) (s' : Shared), Inv X pins σ H s → CX X.stack H s (EE σ) e s' → X.xe e s'
noncomputable def tCallE (sp : Sp) (EE : St → XK) (t : TA) : TE := fun σ H Q => t σ H fun vs H1 => sp vs H1 Q (EE σ)
section
variable {X : Cx} {CX : CXT} {k j : Nat} {ps : List Str} {sp : Sp} {EE : St → XK} {x : Str} {p pos : Pos} {e : Expr} {es : List Expr} {t : TA}
end

structure Air (X : Cx) (pins : List (Addr × Obj)) (σ : St) (H : Hp) (x : Addr) (cls : Value) (s : Shared) : Prop where
  ex : ∃ (H0 : Hp) (s0 : Shared) (a0 : Value) (B : Heap), Inv X pins σ H0 s0 ∧ s.os = s0.os ∧ AllBare s.gens ∧ Un (frs X.stack) [] H0 H s0.heap s.heap ∧ HOk X.prog X.w H s.heap ∧
    Heap.FlyingW B X.stack x cls a0 s.heap ∧ Spares (frs X.stack) H s0.heap s.heap B ∧ H x = none ∧ s0.heap.get? x = none
section
variable {X : Cx} {pins : List (Addr × Obj)} {σ : St} {H : Hp} {x : Addr} {cls : Value} {s : Shared}
theorem Air.inv (Z : Air X pins σ H x cls s) : Inv X pins σ H s := by
  obtain ⟨H0, s0, a0, B, I, os, bare, u, ok, fl, hB, hx, hn⟩ := Z.ex
  exact I.call' os u ok bare fun b hb => absurd hb (by simp)
theorem Air.obj (Z : Air X pins σ H x cls s) : ∃ ob vs, s.heap.get? x = some ob ∧ ob.cls = cls ∧ ob.data = .fields vs := by
  obtain ⟨H0, s0, a0, B, I, os, bare, u, ok, fl, hB, hx, hn⟩ := Z.ex
  obtain ⟨oe, vs, h1, h2, h3, _⟩ := fl.first
  exact ⟨oe, vs, h1, h2, h3⟩
theorem Air.turn (Z : Air X pins σ H x cls s) {M : Model} {A : Around} {t : Sem Unit} {Q : Unit → Shared → Prop} {E : Value → Shared → Prop}
    (ht : ∀ (B : Heap) (a0 : Value), Heap.FlyingW B X.stack x cls a0 s.heap → ∀ Q' : Unit → Shared → Prop, (∀ h', Heap.FlyingW B X.stack x cls a0 h' → s.heap.UpToSlots h' → Q' () { s with heap := h' }) → wpAny M A t Q' E s)
    (h : ∀ s', Air X pins σ H x cls s' → Q () s') : wpAny M A t Q E s := by
  obtain ⟨H0, s0, a0, B, I, os, bare, u, ok, fl, hB, hx, hn⟩ := Z.ex
  refine ht B a0 fl Q fun h' fl' up => h _ ?_
  obtain ⟨U, ok3, hB3⟩ := stay_of u ok I.frm I.stkFree hB fl'.1 up
  exact ⟨H0, s0, a0, B, I, os, bare, U, ok3, fl', hB3, hx, hn⟩
theorem Air.land (Z : Air X pins σ H x cls s) {M : Model} {A : Around} {Q : Unit → Shared → Prop} {E : Value → Shared → Prop} (h : ∀ s', Air X pins σ H x cls s' → Q () s') : wpAny M A (setFlight (.ref x) none) Q E s :=
  Z.turn (fun B a0 fl Q' hq => lands_againW fl hq) h
end
noncomputable abbrev Cx.sui (X : Cx) (x : Addr) : Cx := { X with A := X.A.mark (some (.ref x)), calm := false, xe := fun _ _ => False }
section
variable {X : Cx} {pins : List (Addr × Obj)} {σ : St} {H : Hp} {x : Addr} {cls : Value} {s : Shared}
theorem Cx.Ok.sui (ok : X.Ok) (x : Addr) : (X.sui x).Ok :=
  ⟨ok.mod, ok.kind, ok.glob, ok.blt, ok.above, ok.inj, ok.has, ok.cab, fun z => (by cases z), ok.frames, ok.stk, ok.exf, ok.bs, ok.bsz, ok.noex, ok.exfs, ok.funs, ok.frf⟩
theorem Inv.sui (I : Inv X pins σ H s) (x : Addr) : Inv (X.sui x) pins σ H s := ⟨I.ok.sui x, I.os, I.bare, I.base, I.loc, I.cell, I.free, I.freeC, I.pin, I.hok, I.len⟩
theorem Inv.unsui (I0 : X.Ok) (I : Inv (X.sui x) pins σ H s) : Inv X pins σ H s := ⟨I0, I.os, I.bare, I.base, I.loc, I.cell, I.free, I.freeC, I.pin, I.hok, I.len⟩
theorem SP.unsui (I0 : X.Ok) {D : Ends} {f : Flow} {s' : Shared} (h : SP (X.sui x) pins D f s') : SP X pins D f s' := by
  cases f with
  | next => obtain ⟨σ', H', I, q⟩ := h; exact ⟨σ', H', I.unsui I0, q⟩
  | brk => obtain ⟨σ', H', I, q⟩ := h; exact ⟨σ', H', I.unsui I0, q⟩
  | cont => obtain ⟨σ', H', I, q⟩ := h; exact ⟨σ', H', I.unsui I0, q⟩
  | ret u => obtain ⟨v, σ', H', I, r, q⟩ := h; exact ⟨v, σ', H', I.unsui I0, r, q⟩
end

noncomputable abbrev TH := Value → Addr → TS
noncomputable def PH (X : Cx) (hs : List ExceptHandler) (th : TH) : Prop := ∀ (pins : List (Addr × Obj)) (s : Shared) (σ : St) (H : Hp) (x : Addr) (cls : Value) (D : Ends), Air X pins σ H x cls s → th cls x D σ H →
  wpAny (model X.prog X.w) X.A (handleBy (.ref x) X.env hs) (SP X pins D) X.xe s
noncomputable def hNil : TH := fun _ _ _ _ _ => False
section
variable {X : Cx} {C : Str} {c : Value} {np pos : Pos} {b₀ : Stmt} {suite : List Stmt} {rest : List ExceptHandler} {ts : TS} {tr : TH}
theorem ph_nil : PH X [] hNil := fun _ _ _ _ _ _ _ _ h => h.elim
theorem clause_test {pins : List (Addr × Obj)} {s : Shared} {σ : St} {H : Hp} {x : Addr} {cls : Value} {b : Bool} {R : Result → Shared → Prop} (Z : Air X pins σ H x cls s) (hv : ∀ (Q : Value → Shared → Prop) (E : Value → Shared → Prop), Q c s → wpAny (model X.prog X.w) (X.A.mark (some (.ref x))) (eval (.Name C np) X.env) Q E s)
    (e : PySem.W.exmOne X.K cls c = some b) (h : R (.ok (if b then .brk else .next)) s) :
    codeAny (model X.prog X.w) (X.A.mark (some (.ref x))) (.handlers (.ref x) [.ExceptHandler (some (.Name C np)) none [] pos] X.env) R s := by
  refine codeAny_handlers_test (hv _ _ ?_)
  obtain ⟨ob, vs, h1, h2, _⟩ := Z.obj
  have LT : PySem.W.Looks (model X.prog X.w) s.heap (typeOf (.ref x)) cls := h2 ▸ (PySem.W.Looks.ld h1).andThen .now
  exact (PySem.W.exm_one Z.inv.kIn LT e).here h
end

noncomputable def excO (x : Addr) (cls : Value) : HO := .ext fun h => ∃ ob vs, h.get? x = some ob ∧ ob.cls = cls ∧ ob.data = .fields vs
section
variable {X : Cx} {pins : List (Addr × Obj)} {σ : St} {H : Hp} {x : Addr} {cls : Value} {s : Shared}
theorem Air.track (Z : Air X pins σ H x cls s) (hex : X.ex = []) : Inv X pins σ (upd H x (excO x cls)) s := by
  have I := Z.inv
  obtain ⟨ob, vs, h1, h2, h3⟩ := Z.obj
  obtain ⟨H0, s0, a0, B, I0, os, bare, u, ok, fl, hB, hx, hn⟩ := Z.ex
  have n0 : X.s₀.heap.get? x = none := by
    cases q : X.s₀.heap.get? x with
    | none => rfl
    | some o =>
      obtain ⟨o', e⟩ := I0.base.there x o q (by rw [hex]; simp)
      rw [hn] at e; cases e
  have nl : x ≠ X.env.locals := by
    rintro rfl
    obtain ⟨m, ⟨o, es, ep, e, _⟩, _⟩ := I0.loc
    rw [hn] at e; cases e
  have nc : ∀ y c, X.env.cells.lookup y = some c → c ≠ x := by
    rintro y c hc rfl
    obtain ⟨v, o, e, _⟩ := I0.cell y c hc
    rw [hn] at e; cases e
  have np : ∀ p ∈ X.pn ++ pins, p.1 ≠ x := fun p hp z => by
    have e := (I0.pin p hp).1
    rw [z, hn] at e; cases e
  refine ⟨I.ok, I.os, I.bare, ⟨I.base.keep, I.base.slot, fun b o e n hb => ?_, I.base.there, fun b xs e => ?_, fun b o v e => ?_, fun b ps e => ?_⟩, I.loc, I.cell, ?_, fun y c hc => ?_, fun p hp => ?_, fun b o e => ?_, I.len⟩
  · rw [upd_ne (by rintro rfl; rw [n0] at e; cases e)]
    exact I.base.free b o e n hb
  · have e1 := I.base.tups b xs e
    rw [upd_ne (ne_of_none e1 hx)]; exact e1
  · have e1 := I.base.frzs b o v e
    rw [upd_ne (ne_of_none e1 hx)]; exact e1
  · obtain ⟨m, e1⟩ := I.base.tbls b ps e
    exact ⟨m, by rw [upd_ne (ne_of_none e1 hx)]; exact e1⟩
  · rw [upd_ne nl.symm]; exact I.free
  · rw [upd_ne (nc y c hc)]; exact I.freeC y c hc
  · obtain ⟨a1, a2, a3, a4, a5⟩ := I.pin p hp
    exact ⟨a1, by rw [upd_ne (np p hp)]; exact a2, a3, a4, a5⟩
  · by_cases hb : b = x
    · subst hb
      rw [upd_same] at e; cases e
      refine ⟨⟨ob, vs, h1, h2, h3⟩, ⟨ob, h1⟩, fun g1 g2 ⟨o1, v1, e1, e2, e3⟩ k => ⟨o1, v1, k o1 e1, e2, e3⟩⟩
    · rw [upd_ne hb] at e
      exact (I.hok b o e).stay (fun _ _ _ q => q) (fun c q => by rw [upd_ne (ne_of_none q hx)]; exact q) fun c xs q => by rw [upd_ne (ne_of_none q hx)]; exact q
end
noncomputable def endsAs (i : Nat) (D : Ends) : Ends := { nx := fun σ H => D.nx (σ.set i none) H, rt := D.rt, bk := fun σ H => D.bk (σ.set i none) H, ct := fun σ H => D.ct (σ.set i none) H }
section
variable {X : Cx} {C n : Str} {c : Value} {i : Nat} {np pos : Pos} {b₀ : Stmt} {suite : List Stmt} {rest : List ExceptHandler} {ts : TS} {tr : TH}
end

noncomputable abbrev Cx.tryX (X : Cx) (pn : List (Addr × Obj)) (xe : Value → Shared → Prop) : Cx := { X with pn := pn, xe := xe }
section
variable {X : Cx} {body : List Stmt} {h₀ : ExceptHandler} {hs : List ExceptHandler} {pos : Pos} {tb : (St → XK) → TS} {th : TH} {pins : List (Addr × Obj)} {σ : St} {H : Hp} {s : Shared} {pn : List (Addr × Obj)} {xe : Value → Shared → Prop}
theorem Inv.tryIn (I : Inv X pins σ H s) (xe : Value → Shared → Prop) : Inv (X.tryX (X.pn ++ pins) xe) [] σ H s :=
  ⟨⟨I.ok.mod, I.ok.kind, I.ok.glob, I.ok.blt, I.ok.above, I.ok.inj, I.ok.has, I.ok.cab, I.ok.hd, I.ok.frames, I.ok.stk, I.ok.exf, I.ok.bs, I.ok.bsz, I.ok.noex, I.ok.exfs, I.ok.funs, I.ok.frf⟩, I.os, I.bare, I.base, I.loc, I.cell, I.free, I.freeC, fun p hp => I.pin p (by simpa using hp), I.hok, I.len⟩
theorem Inv.tryOut {pl : List (Addr × Obj)} (I0 : X.Ok) (I : Inv (X.tryX (X.pn ++ pins) xe) pl σ H s) : Inv X pins σ H s :=
  ⟨I0, I.os, I.bare, I.base, I.loc, I.cell, I.free, I.freeC, fun p hp => I.pin p (List.mem_append_left _ hp), I.hok, I.len⟩
theorem SP.tryOut {pl : List (Addr × Obj)} (I0 : X.Ok) {D : Ends} {f : Flow} {s' : Shared} (h : SP (X.tryX (X.pn ++ pins) xe) pl D f s') : SP X pins D f s' := by
  cases f with
  | next => obtain ⟨σ', H', I, q⟩ := h; exact ⟨σ', H', I.tryOut I0, q⟩
  | brk => obtain ⟨σ', H', I, q⟩ := h; exact ⟨σ', H', I.tryOut I0, q⟩
  | cont => obtain ⟨σ', H', I, q⟩ := h; exact ⟨σ', H', I.tryOut I0, q⟩
  | ret u => obtain ⟨v, σ', H', I, r, q⟩ := h; exact ⟨v, σ', H', I.tryOut I0, r, q⟩
end
end L2

set_option Elab.async false
set_option linter.all false
set_option maxRecDepth 100000
set_option maxHeartbeats 4000000
namespace L2
open PySem PySem.Spec PyProof.Rows PySem.W

noncomputable def rIsiE (K : Frag) : List V → Hp → VK → Prop := fun xs H Q => ∃ p cls n, xs = [.ref p, .ty n] ∧ H p = some (excO p cls) ∧ kitOne K cls (.type n) = some true ∧ Q (.bl true) H
section
variable {X : Cx}
end

noncomputable def strKeysB (es : Array DictEntry) : Bool := es.toList.all fun e => match e.key with
  | .str _ _ => true
  | _ => false
theorem strKeys_of {es : Array DictEntry} (h : strKeysB es = true) : StrKeys es := fun e he => by
  have z := List.all_eq_true.mp h e (by simpa using he)
  cases k : e.key with
  | str n t => exact ⟨n, t, rfl⟩
  | _ => rw [k] at z; cases z
theorem ns_of {K : Frag} {h : Heap} {N : Addr} {oc : Value} {od : Option Addr} {es : Array DictEntry} {ep : Nat} {sl : Array (Option Value)} (X : K.In h) (l : K.lookup N = some ⟨oc, od, .dict es ep, sl⟩) (k : strKeysB es = true) : h.Ns N (nsFind es) :=
  ⟨_, es, ep, X _ _ l, rfl, strKeys_of k, fun _ => rfl⟩
theorem excC_of {K : Frag} {C N A : Addr} {nm q : Str} {bs : List Value} {hdct : Bool} {sn : List Str} {sub : List Value} {ab : Bool} {col : Option Bool} {dd : Option Addr} {k0 k1 k2 k3 k5 : Option Value} {oc c0 oc2 : Value} {od dA od2 : Option Addr} {es es2 : Array DictEntry} {ep ep2 : Nat} {sl slA sl2 : Array (Option Value)} {cdA : ClassData}
    (lC : K.lookup C = some (excClassObj nm q C N bs [.ref A, .type "ValueError", .type "Exception", .type "BaseException", .type "object"] hdct sn sub ab col dd k0 k1 k2 k3 k5 "ValueError.__new__"))
    (lN : K.lookup N = some ⟨oc, od, .dict es ep, sl⟩) (sN : strKeysB es = true) (iN : nsFind es "__init__" = none) (lA : K.lookup A = some ⟨c0, dA, .cls cdA, slA⟩) (lNA : K.lookup cdA.ns = some ⟨oc2, od2, .dict es2 ep2, sl2⟩) (sNA : strKeysB es2 = true) (iNA : nsFind es2 "__init__" = none) : ExcC K C :=
  ⟨fun h X => ⟨nm, q, N, bs, _, hdct, sn, sub, ab, col, dd, k0, k1, k2, k3, k5, nsFind es, X _ _ lC, ns_of X lN sN, iN, .own (X _ _ lA) (ns_of X lNA sNA) iNA .base⟩⟩
theorem exm_ref {K : Frag} {C : Addr} {cls : Value} {b : Bool} {cd : ClassData} (s1 : subIn K (.ref C) (.type "BaseException") = some true) (c1 : clsIn K C = some cd) (t1 : typeIn K (.ref C) = some (.type "type")) (s2 : subIn K cls (.ref C) = some b) : exmOne K cls (.ref C) = some b := by
  unfold exmOne kitCls
  dsimp only
  rw [s1, c1, t1]
  exact s2
section
variable {σ : St} {H : Hp} {Q : VK} {D : Ends} {K : Frag}
theorem rd_raise {C : Addr} {EE : St → XK} {t : TA} : tRaise C EE t D σ H = t σ H fun vs H1 => vs.length ≤ sizeLine ∧ ∀ x, H1 x = none → EE σ (.ref C) (some x) H1 := rfl
theorem rd_callE {sp : Sp} {EE : St → XK} {t : TA} : tCallE sp EE t σ H Q = t σ H fun vs H1 => sp vs H1 Q (EE σ) := rfl
theorem rd_hnil {cls : Value} {x : Addr} : hNil cls x D σ H = False := rfl
theorem rd_ends {i : Nat} : endsAs i D = { nx := fun σ H => D.nx (σ.set i none) H, rt := D.rt, bk := fun σ H => D.bk (σ.set i none) H, ct := fun σ H => D.ct (σ.set i none) H } := rfl
theorem rd_isiE {xs : List V} : rIsiE K xs H Q = ∃ p cls n, xs = [.ref p, .ty n] ∧ H p = some (excO p cls) ∧ kitOne K cls (.type n) = some true ∧ Q (.bl true) H := rfl
end

theorem walk_ofKE {l : OpenLaw} {n k : Nat} {q : Program} {loose : List Str} {XP : (Str → Option Value) → Heap → Prop} {YP : World → Heap → Prop} {d : DefRec} {K : Params → Frag} {sp : Frag → Sp} {x : Str}
    (hn : l.most = some n) (hn2 : n ≤ sizeLine) (hdf : d.params.defaults = []) (hr : Room k callerA) (hY : ∀ (w : World) (h : Heap), YP w h → (K w.params).In h)
    (F : ∀ (w : World) (mg : Str → Option Value) (fa : Addr) (h : Heap), (K w.params).In h → h.Ns mainGlobals mg → mg d.name = some (.ref fa) →
      ∃ fd : FuncData, (∀ (s : Shared) (u : Value), BindsTo s fd ⟨[u], []⟩ [(x, u)]) ∧ ∀ base : Heap, (K w.params).In base → base.Ns mainGlobals mg → FnOk l.prog w (K w.params) mg base (CXE l.prog w) k fa fd [x] (sp (K w.params)))
    (hsp : ∀ (K : Frag) (H : Hp) (a : Addr) (ns : List Int), ns.length ≤ n → Only H → SqL K H a (ns.map V.int) → sp K [.ref a] H (fun v _ => v = .bl true) fun _ _ _ => False) :
    WalkO q loose XP YP l.row.toRowW d [] (fun f vs => PySem.call f vs) :=
  walk_of (K := K) (CX := fun w => CXE l.prog w) (sp := fun w => sp (K w.params)) hn hn2 hdf hr hY F (fun w H a ns h1 h2 h3 => hsp (K w.params) H a ns h1 h2 h3) fun _ _ _ _ _ ⟨_, _, _, _, _, _, _, _, _, _, _, _, _, _, z⟩ => z
end L2

set_option Elab.async false
set_option linter.all false
set_option maxRecDepth 100000
set_option maxHeartbeats 4000000
namespace L2
open PySem PySem.Spec PyProof.Rows

theorem compLoop_any {prog : Program} {w : World} {A : Around} {R : Result → Shared → Prop} {s : Shared} {elt target iter : Expr} {ifs : List Expr} {scope : Scope} {pos : Pos} {it acc : Value} {env : Env} (I : Nat → Shared → Prop)
    (turn : ∀ n s, I n s → wpAny (model prog w) A (pyNext it) (fun r s₁ => match r with
      | none => R (.ok .next) s₁
      | some v => wpAny (model prog w) A (letOwnedTupleGo target it v) (fun _ s₁ => wpAny (model prog w) A (assign target env v) (fun _ s₂ =>
          wpAny (model prog w) A (forIn ifs true fun c r => if r = true then do let ok ← isTrue c env (eval c env); pure (ForInStep.yield ok) else pure (ForInStep.yield r)) (fun ok s₃ =>
            if ok = true then wpAny (model prog w) A (eval elt env) (fun x s₄ =>
              wpAny (model prog w) A (call (.builtin "list.append") [acc, x]) (fun _ s₅ => ∃ m, m < n ∧ I m s₅) (notedBy (model prog w) A env fun e s' => R (.error e) s') s₄) (notedBy (model prog w) A env fun e s' => R (.error e) s') s₃
            else ∃ m, m < n ∧ I m s₃) (notedBy (model prog w) A env fun e s' => R (.error e) s') s₂) (notedBy (model prog w) A env fun e s' => R (.error e) s') s₁) (notedBy (model prog w) A env fun e s' => R (.error e) s') s₁) (notedBy (model prog w) A env fun e s' => R (.error e) s') s)
    (n : Nat) (h : I n s) :
    codeAny (model prog w) A (.compLoop (.ListComp elt [⟨target, iter, ifs, 0⟩] scope pos) 0 it acc env) R s := by
  refine codeAny_loop rfl I (fun n s hI => ?_) n h
  show wpAny _ A ((compTurn (.ListComp elt [⟨target, iter, ifs, 0⟩] scope pos) 0 it acc env).onRaise (fun x => do noteFrame x env; theTreesLotGoes x)) _ _ s
  refine wpAny_noted ?_
  rw [compTurn_list]
  refine wpAny_bind (wpAny_standAt (wpAny_bind (wpAny_mono (turn n s hI) (fun r s₁ h₁ => ?_) fun _ _ h' => h')))
  cases r with
  | none => exact wpAny_pure h₁
  | some v =>
    refine wpAny_bind (wpAny_mono h₁ (fun _ s₁ h₁ => ?_) fun _ _ h' => h')
    refine wpAny_bind (wpAny_mono h₁ (fun _ s₂ h₂ => wpAny_bind (wpAny_mono h₂ (fun ok s₃ h₃ => ?_) fun _ _ h' => h')) fun _ _ h' => h')
    cases ok with
    | false => exact wpAny_pure ⟨rfl, h₃⟩
    | true =>
      exact wpAny_bind (wpAny_bind (wpAny_mono h₃ (fun x s₄ h₄ => wpAny_bind (wpAny_mono h₄ (fun _ s₅ h₅ => wpAny_pure (wpAny_pure ⟨rfl, h₅⟩)) fun _ _ h' => h')) fun _ _ h' => h'))

noncomputable def clo (env : Env) : List (Str × NameKind) → List (Str × Addr) → List (Str × Addr)
  | [], cs => cs
  | (n, k) :: r, cs => clo env r (if (k == .free) = true then (match env.cells.lookup n with | some c => (n, c) :: cs | none => cs) else cs)
theorem clo_loop {env : Env} : ∀ (names : List (Str × NameKind)) (cs : List (Str × Addr)), (∀ y ∈ names, y.2 = .free → ∃ c, env.cells.lookup y.1 = some c) →
    (forIn (m := Sem) names cs fun (x : Str × NameKind) (r : List (Str × Addr)) => match x with | (name, kind) => if (kind == .free) = true then do let c ← cellOf env name; pure (ForInStep.yield ((name, c) :: r)) else pure (ForInStep.yield r)) = pure (clo env names cs)
  | [], cs, _ => rfl
  | (n, k) :: r, cs, h => by
    rw [List.forIn_cons]
    have ih := fun cs => clo_loop r cs fun y hy => h y (List.mem_cons_of_mem _ hy)
    by_cases hk : (k == NameKind.free) = true
    · obtain ⟨c, hc⟩ := h (n, k) List.mem_cons_self (by simpa using hk)
      have e : cellOf env n = pure c := by unfold cellOf; rw [show env.cells.lookup n = some c from hc]
      simp only [hk, if_true, e, clo]
      rw [show env.cells.lookup n = some c from hc]
      exact ih _
    · simp only [hk, clo]
      exact ih _
theorem clo_closure {scope : Scope} {env : Env} (h : ∀ y ∈ scope.names, y.2 = .free → ∃ c, env.cells.lookup y.1 = some c) : closureFor scope env = pure (clo env scope.names []) := by
  unfold closureFor
  show (forIn (m := Sem) scope.names ([] : List (Str × Addr)) _ >>= fun r => pure r) = _
  rw [clo_loop scope.names [] h]
  rfl

theorem clo_cells {env : Env} {x : Str} {c : Addr} : ∀ (names : List (Str × NameKind)) (cs : List (Str × Addr)), (clo env names cs).lookup x = some c → env.cells.lookup x = some c ∨ cs.lookup x = some c
  | [], cs, h => .inr h
  | (n, k) :: r, cs, h => by
    unfold clo at h
    rcases clo_cells r _ h with q | q
    · exact .inl q
    · split at q
      · split at q
        · rename_i c' hc
          rw [List.lookup_cons] at q
          cases hx : x == n with
          | true =>
            rw [hx] at q
            have e : x = n := by simpa using hx
            subst e
            simp only [Option.some.injEq] at q
            subst q
            exact .inl hc
          | false => rw [hx] at q; exact .inr q
        · exact .inr q
      · exact .inr q
theorem clo_has {env : Env} {x : Str} {c : Addr} (hc : env.cells.lookup x = some c) : ∀ (names : List (Str × NameKind)) (cs : List (Str × Addr)), (cs.lookup x = some c ∨ (cs.lookup x = none ∧ (x, NameKind.free) ∈ names)) → (clo env names cs).lookup x = some c
  | [], cs, h => by
    rcases h with h | ⟨_, h⟩
    · exact h
    · cases h
  | (n, k) :: r, cs, h => by
    unfold clo
    refine clo_has hc r _ ?_
    by_cases hx : x = n
    · subst hx
      by_cases hk : (k == NameKind.free) = true
      · rw [if_pos hk, hc]
        exact .inl (by simp [List.lookup_cons])
      · rw [if_neg hk]
        rcases h with h | ⟨h1, h2⟩
        · exact .inl h
        · refine .inr ⟨h1, ?_⟩
          rcases List.mem_cons.mp h2 with e | e
          · cases e; exact absurd rfl hk
          · exact e
    · have hb : (x == n) = false := by simpa using hx
      have key : ∀ cs' : List (Str × Addr), cs'.lookup x = cs.lookup x → (cs'.lookup x = some c ∨ (cs'.lookup x = none ∧ (x, NameKind.free) ∈ r)) := fun cs' e => by
        rw [e]
        rcases h with h | ⟨h1, h2⟩
        · exact .inl h
        · refine .inr ⟨h1, ?_⟩
          rcases List.mem_cons.mp h2 with e | e
          · cases e; exact absurd rfl hx
          · exact e
      refine key _ ?_
      split
      · split
        · simp [List.lookup_cons, hb]
        · rfl
      · rfl
theorem relabel_kind {env : Env} {k' : NameKind} : ∀ {names : List (Str × NameKind)} {x : Str}, (∀ y ∈ names, y.2 ≠ .cell) →
    (names.map fun (n, k) => if (k == NameKind.free && env.scope.kind == .function && env.kindOf n == some .cell) then (n, NameKind.cell) else (n, k)).lookup x = some k' → (k' = .cell ∨ k' = .free) → (x, NameKind.free) ∈ names
  | [], _, _, h, _ => by simp at h
  | (n, k) :: r, x, hc, h, hk => by
    have ih := @relabel_kind env k' r x (fun y hy => hc y (List.mem_cons_of_mem _ hy))
    have h' : List.lookup x ((if (k == NameKind.free && env.scope.kind == .function && env.kindOf n == some .cell) = true then (n, NameKind.cell) else (n, k)) :: (r.map fun (n, k) => if (k == NameKind.free && env.scope.kind == .function && env.kindOf n == some .cell) then (n, NameKind.cell) else (n, k))) = some k' := h
    by_cases hx : x = n
    · subst hx
      by_cases q : (k == NameKind.free && env.scope.kind == .function && env.kindOf x == some .cell) = true
      · have : k = .free := by simp only [Bool.and_eq_true, beq_iff_eq] at q; exact q.1.1
        subst this
        exact List.mem_cons_self
      · rw [if_neg q, List.lookup_cons] at h'
        simp only [beq_self_eq_true] at h'
        have e : k = k' := Option.some.inj h'
        rcases hk with z | z
        · exact absurd (e.trans z) (hc (x, k) List.mem_cons_self)
        · rw [e.trans z]; exact List.mem_cons_self
    · have hb : (x == n) = false := by simpa using hx
      refine List.mem_cons_of_mem _ (ih ?_ hk)
      split at h'
      · rw [List.lookup_cons, hb] at h'; exact h'
      · rw [List.lookup_cons, hb] at h'; exact h'
theorem lookup_relabel_free {env : Env} : ∀ {names : List (Str × NameKind)} {x : Str}, names.lookup x = some .free →
    (names.map fun (n, k) => if (k == NameKind.free && env.scope.kind == .function && env.kindOf n == some .cell) then (n, NameKind.cell) else (n, k)).lookup x = some .cell ∨
    (names.map fun (n, k) => if (k == NameKind.free && env.scope.kind == .function && env.kindOf n == some .cell) then (n, NameKind.cell) else (n, k)).lookup x = some .free
  | [], _, h => by simp at h
  | (n, k) :: r, x, h => by
    have ih := @lookup_relabel_free env r x
    show List.lookup x ((if (k == NameKind.free && env.scope.kind == .function && env.kindOf n == some .cell) = true then (n, NameKind.cell) else (n, k)) :: _) = _ ∨ List.lookup x ((if (k == NameKind.free && env.scope.kind == .function && env.kindOf n == some .cell) = true then (n, NameKind.cell) else (n, k)) :: _) = _
    cases hx : x == n with
    | true =>
      simp only [List.lookup_cons, hx] at h
      cases h
      split
      · left; simp [List.lookup_cons, hx]
      · right; simp [List.lookup_cons, hx]
    | false =>
      simp only [List.lookup_cons, hx] at h
      split
      · simp only [List.lookup_cons, hx]; exact ih h
      · simp only [List.lookup_cons, hx]; exact ih h

structure Blk where
  s : Shared
  H : Hp
  C : Addr
  fp : List Addr
noncomputable abbrev Cx.blk (X : Cx) (scope : Scope) (N' : List Str) (b : Blk) : Cx :=
  { X with N := N', s₀ := b.s, H₀ := b.H, env := compEnvC scope (clo X.env scope.names []) b.C X.env, outer := X.stack, ex := b.fp, fn := fun _ => false, pn := [], xe := fun _ _ => False }
noncomputable def around (N : List Str) (fs : List Nat) : List Str := fs.map fun j => N.getD j ""
noncomputable def compOkB (N : List Str) (esc scope : Scope) (xs : List Str) (fs : List Nat) : Bool :=
  decide (xs ++ around N fs).Nodup && (match scope.kind with | .function => true | _ => false) && xs.all (fun x => decide (scope.names.lookup x = some .local)) &&
  scope.names.all (fun y => decide (y.2 ≠ .cell) && (!decide (y.2 = .local) || decide (scope.names.lookup y.1 = some .local)) && (!decide (y.2 = .free) || decide (esc.names.lookup y.1 = some .cell) || decide (esc.names.lookup y.1 = some .free))) &&
  fs.all fun j => decide (j < N.length) && decide (scope.names.lookup (N.getD j "") = some .free)
structure CompOk (N : List Str) (esc scope : Scope) (xs : List Str) (fs : List Nat) : Prop where
  nd : (xs ++ around N fs).Nodup
  kind : scope.kind = .function
  own : ∀ x ∈ xs, scope.names.lookup x = some .local
  cell : ∀ y ∈ scope.names, y.2 ≠ .cell
  names : ∀ y ∈ scope.names, y.2 = .local → scope.names.lookup y.1 = some .local
  free : ∀ y ∈ scope.names, y.2 = .free → esc.names.lookup y.1 = some .cell ∨ esc.names.lookup y.1 = some .free
  fs : ∀ j ∈ fs, j < N.length ∧ scope.names.lookup (N.getD j "") = some .free
theorem compOk_of {N : List Str} {esc scope : Scope} {xs : List Str} {fs : List Nat} (h : compOkB N esc scope xs fs = true) : CompOk N esc scope xs fs := by
  unfold compOkB at h
  simp only [Bool.and_eq_true, decide_eq_true_eq, List.all_eq_true] at h
  obtain ⟨⟨⟨⟨h1, h2⟩, h3⟩, h4⟩, h5⟩ := h
  refine ⟨h1, ?_, h3, fun y hy => (h4 y hy).1.1, fun y hy e => ?_, fun y hy e => ?_, h5⟩
  · split at h2
    · assumption
    · cases h2
  · have := (h4 y hy).1.2
    simpa [e] using this
  · have := (h4 y hy).2
    simpa [e] using this

section
variable {X : Cx} {pins : List (Addr × Obj)} {σ : St} {H : Hp} {s : Shared} {scope : Scope} {xs : List Str} {fs : List Nat} {fp : List Addr} {C : Addr}
theorem blk_ok (I : Inv X pins σ H s) (O : CompOk X.N X.env.scope scope xs fs) (hf : ∀ b ∈ fp, FpOk X pins H b) (hC : s.heap.objs.size ≤ C) (hfp : ∀ b ∈ fp, b < s.heap.objs.size) : (X.blk scope (xs ++ around X.N fs) ⟨s, H, C, fp⟩).Ok := by
  have hcl : ∀ x c, (clo X.env scope.names []).lookup x = some c → X.env.cells.lookup x = some c := fun x c e => by
    rcases clo_cells _ _ e with q | q
    · exact q
    · cases q
  have hsz : ∀ b o, X.base.get? b = some o → b < X.s₀.heap.objs.size := fun b o e => Nat.lt_of_lt_of_le (Heap.lt_size e) I.ok.bsz
  refine ⟨I.ok.mod, O.kind, I.ok.glob, I.ok.blt, hC, fun x y c h1 h2 => I.ok.inj x y c (hcl x c h1) (hcl y c h2), fun x hx => ?_, fun x c z => (by cases z), I.ok.hd, I.ok.frames, .inl rfl, fun b hb => ⟨Nat.ne_of_lt (Nat.lt_of_lt_of_le (hfp b hb) hC), fun x c e => (hf b hb).2.2.2.2.1 x c (hcl x c e)⟩, I.bs, Nat.le_trans I.ok.bsz I.sz, fun b o e hb => ?_, fun b hb hs => ?_, I.stack, I.stkFree⟩
  · have hm : (x, NameKind.free) ∈ scope.names := by
      rcases hx with hx | hx
      · exact relabel_kind (env := X.env) O.cell (show (scope.names.map _).lookup x = some NameKind.cell from hx) (.inl rfl)
      · exact relabel_kind (env := X.env) O.cell (show (scope.names.map _).lookup x = some NameKind.free from hx) (.inr rfl)
    obtain ⟨c, hc⟩ := I.ok.has x (O.free _ hm rfl)
    exact ⟨c, clo_has hc _ _ (.inr ⟨rfl, hm⟩)⟩
  · obtain ⟨_, _, _, h4, _⟩ := hf b hb
    rcases h4 with h4 | h4
    · exact I.ok.noex b o e h4
    · exact absurd (Nat.lt_of_lt_of_le (hsz b o e) h4) (Nat.lt_irrefl _)
  · obtain ⟨_, h2, h3, _⟩ := hf b hb
    exact (List.mem_cons.mp (I.stkSub b hs)).elim h2 h3
theorem blk_in {h1 : Heap} {t : Nat} {D : Addr} {m : Str → Option Value} (I : Inv X pins σ H s) (O : CompOk X.N X.env.scope scope xs fs) (hf : ∀ b ∈ fp, FpOk X pins H b) (hD : s.heap.objs.size ≤ D) (hC : s.heap.objs.size ≤ C) (hfp : ∀ b ∈ fp, b < s.heap.objs.size) (hDC : D ≠ C)
    (k : ∀ b u, s.heap.get? b = some u → h1.get? b = some u) (hDo : h1.get? D = some { cls := .type "list", data := .seq #[] 0 }) (hn : h1.Ns C m) :
    Inv (X.blk scope (xs ++ around X.N fs) ⟨s, H, C, fp⟩) [] (xs.map (fun _ => none) ++ fs.map fun j => σ.getD j none) (upd H D (.lst [])) { s with heap := h1, toks := t } := by
  have hcl : ∀ x c, (clo X.env scope.names []).lookup x = some c → X.env.cells.lookup x = some c := fun x c e => by
    rcases clo_cells _ _ e with q | q
    · exact q
    · cases q
  have ok := blk_ok (C := C) I O hf hC hfp
  have hnD : H D = none := I.hok.fresh hD
  refine ⟨ok, rfl, I.bare, Un.laid k hD hnD, ⟨m, hn, fun i x v e1 e2 e3 => ?_⟩, fun x c e => ?_, ?_, fun x c e => ?_, fun p hp => absurd (show p ∈ ([] : List (Addr × Obj)) from hp) (by simp), I.hok.laid k hD ⟨Nat.zero_le _, [], 0, .nil, hDo⟩, by simp [around]⟩
  · by_cases hi : i < xs.length
    · rw [List.getElem?_append_left (by simpa using hi), List.getElem?_map] at e2
      cases q : xs[i]? with
      | none => rw [q] at e2; cases e2
      | some a => rw [q] at e2; cases e2
    · have hi : xs.length ≤ i := Nat.le_of_not_lt hi
      rw [List.getElem?_append_right (by simpa using hi)] at e1 e2
      unfold around at e1
      rw [List.length_map] at e2
      rw [List.getElem?_map] at e1 e2
      cases q : fs[i - xs.length]? with
      | none => rw [q] at e2; cases e2
      | some j =>
        rw [q] at e1 e2
        simp only [Option.map_some, Option.some.injEq] at e1 e2
        obtain ⟨hj, hl⟩ := O.fs j (List.mem_of_getElem? q)
        obtain ⟨m0, _, hl0⟩ := I.loc
        have e1' : X.N[j]? = some x := by rw [← e1, List.getD_eq_getElem?_getD, List.getElem?_eq_getElem hj]; rfl
        have e2' : σ[j]? = some (some v) := by
          rw [List.getD_eq_getElem?_getD] at e2
          cases z : σ[j]? with
          | none => rw [z] at e2; cases e2
          | some y => rw [z] at e2; simp only [Option.getD_some] at e2; rw [e2]
        rw [e1] at hl
        have hm : (x, NameKind.free) ∈ scope.names := PySem.mem_of_lookup hl
        have hk := O.free _ hm rfl
        obtain ⟨u, r, l⟩ := hl0 j x v e1' e2' (hk.elim (fun z => .inr (.inl z)) fun z => .inr (.inr z))
        refine ⟨u, r, ?_⟩
        rcases l with ⟨z, _⟩ | ⟨_, c, hc, cell⟩
        · have z' : X.env.scope.names.lookup x = some .local := z
          rcases hk with hk | hk <;> (rw [z'] at hk; cases hk)
        · refine .inr ⟨?_, c, clo_has hc _ _ (.inr ⟨rfl, hm⟩), ?_⟩
          · exact lookup_relabel_free (env := X.env) hl
          · obtain ⟨o, ho, hd⟩ := cell
            exact ⟨o, k _ _ ho, hd⟩
  · obtain ⟨v, o, ho, hd⟩ := I.cell x c (hcl x c e)
    exact ⟨v, o, k _ _ ho, hd⟩
  · show upd H D (.lst []) C = none
    rw [upd_ne (Ne.symm hDC)]; exact I.hok.fresh hC
  · obtain ⟨v, q⟩ := I.cell x c (hcl x c e)
    rw [upd_ne (Nat.ne_of_lt (Nat.lt_of_lt_of_le q.lt hD))]
    exact I.freeC x c (hcl x c e)
theorem blk_out {N' : List Str} {σ' : St} {H' : Hp} {s' : Shared} {h2 : Heap} {pl : List (Addr × Obj)} (I : Inv X pins σ H s) (hf : ∀ b ∈ fp, FpOk X pins H b) (hC : s.heap.objs.size ≤ C) (J : Inv (X.blk scope N' ⟨s, H, C, fp⟩) pl σ' H' s') (sb : Heap.SameBut C s'.heap h2) :
    Inv X pins σ H' { s' with heap := h2 } := by
  have u := J.base
  have ne : ∀ b o, s.heap.get? b = some o → b ≠ C := fun b o e => Nat.ne_of_lt (Nat.lt_of_lt_of_le (Heap.lt_size e) hC)
  refine I.call' (ch := fp) J.os ⟨fun b o e n h1 h2 => (sb.2 b (ne b o e)).trans (u.keep b o e n h1 h2), fun b o e n h1 h2 => ?_, u.free, fun b o e hx => ?_, u.tups, u.frzs, u.tbls⟩ (fun a o e => ?_) J.bare fun b hb => ?_
  · obtain ⟨sl, q⟩ := u.slot b o e n h1 h2
    exact ⟨sl, (sb.2 b (ne b o e)).trans q⟩
  · obtain ⟨o', q⟩ := u.there b o e hx
    exact ⟨o', (sb.2 b (ne b o e)).trans q⟩
  · have fr : H' C = none := J.free
    refine (J.hok a o e).stay (fun b v hc q => (sb.2 b ?_).trans q) (fun _ q => q) fun _ _ q => q
    rcases hc with rfl | hc
    · exact ne_of_none e fr
    · exact ne_of_none hc fr
  · obtain ⟨_, h2, h3, h4, h5, h6⟩ := hf b hb
    exact ⟨h4, h2, h5, h6⟩
end
end L2

set_option Elab.async false
set_option linter.all false
set_option maxRecDepth 100000
set_option maxHeartbeats 4000000
namespace L2
open PySem PySem.Spec PyProof.Rows

noncomputable def Kept (σ σ' : St) : Prop := ∀ (i : Nat) (v : V), σ[i]? = some (some v) → σ'[i]? = some (some v)
noncomputable def PTs (X : Cx) (ifs : List Expr) (t : TT) : Prop :=
  ∀ (pins : List (Addr × Obj)) (s : Shared) (σ : St) (H : Hp) (Q : Bool → Hp → Prop), Inv X pins σ H s → t σ H Q →
    wpAny (model X.prog X.w) X.A (forIn ifs true fun c r => if r = true then do let ok ← isTrue c X.env (eval c X.env); pure (ForInStep.yield ok) else pure (ForInStep.yield r)) (TP X pins σ Q) X.xe s
noncomputable def tYes : TT := fun _ H Q => Q true H
theorem pts_nil {X : Cx} : PTs X [] tYes := fun _ _ _ H _ I h => wpAny_tests_nil ⟨H, I, h⟩
noncomputable def CompTail (σ0 : St) (g : Blk → TG) (tt : Blk → TT) (te : Blk → TE) (Q : VK) (J : It) (H1 : Hp) : Prop := ∀ (b : Blk) (D : Addr), H1 D = none → ∃ W : Nat → Nat → List V → Hp → Prop, (∃ m, W 0 m [] (upd H1 D (.lst []))) ∧ ∀ i m ys H2, W i m ys H2 → H2 D = some (.lst ys) ∧
  ((J.stop i H2 ∧ Q (.ref D) H2) ∨ (J.go i H2 ∧ ∀ x H3, J.yld i H2 x H3 → g b x σ0 H3 fun σ6 H6 => Kept σ0 σ6 ∧ tt b σ6 H6 fun ok H7 =>
    if ok = true then te b σ6 H7 fun y H8 => H8 D = some (.lst ys) ∧ ys.length < sizeLine ∧ ∃ m', m' < m ∧ W (i + 1) m' (ys ++ [y]) (upd H8 D (.lst (ys ++ [y])))
    else ∃ m', m' < m ∧ W (i + 1) m' ys H7))
noncomputable def tComp (wi : TI) (n : Nat) (fs : List Nat) (g : Blk → TG) (tt : Blk → TT) (te : Blk → TE) : TE := fun σ H Q => wi σ H (CompTail (List.replicate n none ++ fs.map fun j => σ.getD j none) g tt te Q)

section
variable {X : Cx} {pins : List (Addr × Obj)} {σ : St} {scope : Scope} {xs : List Str} {fs : List Nat} {elt tg iter : Expr} {ifs : List Expr} {pos : Pos} {wi : TI} {g : Blk → TG} {tt : Blk → TT} {te : Blk → TE}
theorem turned_of {H : Hp} {s : Shared} {C : Addr} {h2 : Heap} (I : Inv X pins σ H s) (F : FpOk X pins H C) (sb : Heap.SameBut C s.heap h2) : Inv X pins σ H { s with heap := h2 } :=
  I.turned (t' := s.toks) (fun b o hb e => (sb.2 b hb).trans e) F.1 F.2.1 F.2.2.2.1 F.2.2.2.2.1 F.2.2.2.2.2
theorem comp_run {Q : VK} {itv : Value} {s2 : Shared} {E : Value → Shared → Prop} {RR : Value → Addr → Result → Shared → Prop} (hc : X.calm = true) (O : CompOk X.N X.env.scope scope xs fs)
    (hg : ∀ b, PG (X.blk scope (xs ++ around X.N fs) b) tg (g b)) (ht : ∀ b, PTs (X.blk scope (xs ++ around X.N fs) b) ifs (tt b)) (he : ∀ b, PE (X.blk scope (xs ++ around X.N fs) b) elt (te b))
    (h : PIE X pins σ tg (CompTail (List.replicate xs.length none ++ fs.map fun j => σ.getD j none) g tt te Q) itv s2)
    (hR : ∀ D C s' m H', s'.heap.Ns C m → Inv X pins σ H' s' → Q (.ref D) H' → FpOk X pins H' C → RR (.ref D) C (.ok .next) s') :
    wpAny (model X.prog X.w) X.A (newList []) (fun acc s₃ => wpAny (model X.prog X.w) X.A (newFunctionEnv scope X.env.globals (clo X.env scope.names []) [] X.env.qual none .none (some X.env)) (fun cenv s₄ =>
      codeAny (model X.prog X.w) X.A (.compStart (.ListComp elt [⟨tg, iter, ifs, 0⟩] scope pos) 0 itv acc { cenv with scope := relabel scope X.env }) (RR acc cenv.locals) s₄) E s₃) E s2 := by
  obtain ⟨it, fp, tn, J, H2, rfl, I2, T, st2, f2, rd⟩ := h
  have hfp : ∀ b ∈ fp, b < s2.heap.objs.size := fun b hb => by
    obtain ⟨o, e, _⟩ := T.obj _ _ st2 b hb
    exact Heap.lt_size e
  refine wpAny_newObj_type (wpAny_newFunctionEnv O.cell (by intro y hy; simp at hy) (fun h₁ hns₁ hsb₁ => ?_) O.kind)
  dsimp only at hns₁ hsb₁ ⊢
  generalize hH2 : s2.heap.push { cls := .type "list", dict := none, data := .seq ([] : List Value).toArray } = HH at hns₁ hsb₁ ⊢
  have hC : HH.objs.size = s2.heap.objs.size + 1 := by rw [← hH2, Heap.size_push]
  have hDC : s2.heap.objs.size ≠ HH.objs.size := by rw [hC]; exact Nat.ne_of_lt (Nat.lt_succ_self _)
  have hCle : s2.heap.objs.size ≤ HH.objs.size := by rw [hC]; exact Nat.le_succ _
  have old : ∀ b o, s2.heap.get? b = some o → h₁.get? b = some o := fun b o e => hsb₁.extBut b o (by rw [hC]; exact Nat.ne_of_lt (Nat.lt_succ_of_lt (Heap.lt_size e))) (Heap.get?_push_of_some _ (hH2 ▸ Heap.get?_push_of_some _ e))
  have hacc : h₁.get? s2.heap.objs.size = some { cls := .type "list", data := .seq #[] 0 } := hsb₁.extBut _ _ hDC (Heap.get?_push_of_some _ (hH2 ▸ Heap.get?_push_size _ rfl))
  obtain ⟨W, ⟨m0, w0⟩, turn⟩ := rd ⟨s2, H2, HH.objs.size, fp⟩ s2.heap.objs.size I2.fresh
  have I3 := blk_in (t := s2.toks + ([] : List (Str × Value)).length) I2 O f2 (Nat.le_refl _) hCle hfp hDC old hacc hns₁
  rw [show xs.map (fun _ => (none : Option V)) = List.replicate xs.length none from List.map_const' ..] at I3
  generalize hX : X.blk scope (xs ++ around X.N fs) ⟨s2, H2, HH.objs.size, fp⟩ = X' at I3
  have stat : ∀ {H' : Hp}, (∀ b ∈ fp, H' b = none) → ∀ b ∈ fp, FpOk X' [] H' b := fun hn b hb => by
    subst hX
    refine ⟨hn b hb, ?_, ?_, .inl hb, fun x c e => ?_, fun p hp => absurd hp (by simp)⟩
    · exact (I3.ok.exf b hb).1
    · exact I3.ok.exfs b hb
    · exact (I3.ok.exf b hb).2 x c e
  have fr3 : ∀ b ∈ fp, upd H2 s2.heap.objs.size (.lst []) b = none := fun b hb => by
    rw [upd_ne (Nat.ne_of_lt (hfp b hb))]; exact (f2 b hb).1
  have ccell : ∀ y c, X.env.cells.lookup y = some c → c ≠ HH.objs.size := fun y c e => by
    obtain ⟨v, q⟩ := I2.cell y c e
    exact Nat.ne_of_lt (Nat.lt_of_lt_of_le q.lt hCle)
  have cloc : HH.objs.size ≠ X.env.locals := (Nat.ne_of_lt (Nat.lt_of_lt_of_le I2.lt hCle)).symm
  have eP : X'.prog = X.prog := by rw [← hX]
  have ew : X'.w = X.w := by rw [← hX]
  have eK : X'.K = X.K := by rw [← hX]
  have eA : X'.A = X.A := by rw [← hX]
  have ec : X'.calm = true := by rw [← hX]; exact hc
  have ex : X'.xe = fun _ _ => False := by rw [← hX]
  have een : X'.env = compEnvC scope (clo X.env scope.names []) HH.objs.size X.env := by rw [← hX]
  have hg' := hg ⟨s2, H2, HH.objs.size, fp⟩
  have ht' := ht ⟨s2, H2, HH.objs.size, fp⟩
  have he' := he ⟨s2, H2, HH.objs.size, fp⟩
  rw [hX] at hg' ht' he'
  have st1 : tn 0 h₁ := T.keep _ _ _ st2 fun b hb o e => old b o e
  have loop : ∀ s₃ : Shared, s₃ = { s2 with heap := h₁, toks := s2.toks + ([] : List (Str × Value)).length } →
      codeAny (model X.prog X.w) X.A (.compLoop (.ListComp elt [⟨tg, iter, ifs, 0⟩] scope pos) 0 (.ref it) (.ref s2.heap.objs.size) (compEnvC scope (clo X.env scope.names []) HH.objs.size X.env))
        (RR (.ref s2.heap.objs.size) HH.objs.size) s₃ := by
    rintro s₃ rfl
    refine compLoop_any (fun n s' => ∃ i ys H', Inv X' [] (List.replicate xs.length none ++ fs.map fun j => σ.getD j none) H' s' ∧ tn i s'.heap ∧ (∀ b ∈ fp, H' b = none) ∧ W i n ys H') ?_ m0 ⟨0, [], _, I3, st1, fr3, w0⟩
    rintro n s4 ⟨i, ys, H4, I4, st4, fr4, w4⟩
    obtain ⟨hD4, tn4⟩ := turn i n ys H4 w4
    rcases tn4 with ⟨stop, qn⟩ | ⟨go, step⟩
    · have td := T.done X' eP ew eK ec i [] s4 _ H4 (notedBy (model X.prog X.w) X.A (compEnvC scope (clo X.env scope.names []) HH.objs.size X.env) fun e s' => RR (.ref s2.heap.objs.size) HH.objs.size (.error e) s') I4 (stat fr4) st4 stop
      rw [eA] at td
      refine thn td fun r s5 ⟨hr, I5⟩ => ?_
      subst hr
      obtain ⟨m5, hn5, _⟩ := I5.loc
      rw [een] at hn5
      have fr5 : H4 HH.objs.size = none := by have := I5.free; rw [een] at this; exact this
      rw [← hX] at I5
      exact hR _ _ _ m5 H4 hn5 (blk_out I2 f2 hCle I5 (Heap.SameBut.refl ..)) qn (I2.fpOk hCle fr5)
    · have ti := T.item X' eP ew eK ec i [] s4 _ H4 (notedBy (model X.prog X.w) X.A (compEnvC scope (clo X.env scope.names []) HH.objs.size X.env) fun e s' => RR (.ref s2.heap.objs.size) HH.objs.size (.error e) s') I4 (stat fr4) st4 go
      rw [eA] at ti
      refine thn ti fun r s5 ⟨u, hr, h5⟩ => ?_
      subst hr
      refine thn h5 fun _ s6 ⟨x, H6, I6, r6, y6, st6, fr6⟩ => ?_
      have I6' := I6.pinned (stat fr6) (T.obj _ _ st6)
      have g1 := hg' _ s6 _ H6 x u _ I6' r6 (step x H6 y6)
      rw [eP, ew, eA, een, ex] at g1
      refine wpAny_mono g1 (fun _ s7 ⟨σ7, H7, I7, kp7, q7⟩ => ?_) fun _ _ z => z.elim
      have t1 := ht' _ s7 σ7 H7 _ I7 q7
      rw [eP, ew, eA, een, ex] at t1
      have back : ∀ {H9 : Hp} {s9 : Shared}, Inv X' ([] ++ pinsAt fp s6.heap) σ7 H9 s9 → Inv X' [] (List.replicate xs.length none ++ fs.map fun j => σ.getD j none) H9 s9 ∧ tn (i + 1) s9.heap ∧ ∀ b ∈ fp, H9 b = none := fun {H9 s9} I9 => by
        refine ⟨I9.unpinned.weak ?_ kp7, T.keep _ _ _ st6 fun b hb o e => (I9.pin (b, o) (List.mem_append_right _ (List.mem_append_right _ (mem_pinsAt hb e)))).1, fun b hb => ?_⟩
        · rw [I9.len, I4.len]
        · obtain ⟨o, e, d⟩ := T.obj _ _ st6 b hb
          exact (I9.pin (b, o) (List.mem_append_right _ (List.mem_append_right _ (mem_pinsAt hb e)))).2.1
      refine wpAny_mono t1 (fun ok s8 ⟨H8, I8, q8⟩ => ?_) fun _ _ z => z.elim
      cases ok with
      | false =>
        rw [if_neg Bool.false_ne_true] at q8 ⊢
        obtain ⟨m', hm, w8⟩ := q8
        obtain ⟨b1, b2, b3⟩ := back I8
        exact ⟨m', hm, i + 1, ys, H8, b1, b2, b3, w8⟩
      | true =>
        rw [if_pos rfl] at q8 ⊢
        have e1 := he' _ s8 σ7 H8 _ I8 q8
        rw [eP, ew, eA, een, ex] at e1
        refine wpAny_mono e1 (fun uy s9 ⟨y, H9, I9, r9, hD9, hz, m', hm, w9⟩ => ?_) fun _ _ z => z.elim
        have a1 := mt_append (X := X') (pins := [] ++ pinsAt fp s6.heap) (s := s9) (σ := σ7) (H := H9) (x := .ref s2.heap.objs.size) (xs := [y]) (v := .ref s2.heap.objs.size) (us := [uy]) (Q := fun _ H' => H' = upd H9 s2.heap.objs.size (.lst (ys ++ [y]))) I9 rfl (.cons r9 .nil) ⟨_, ys, y, rfl, rfl, hD9, hz, rfl⟩
        rw [eP, ew, eA, ex] at a1
        refine wpAny_mono a1 (fun _ s10 ⟨_, H10, I10, _, e10⟩ => ?_) fun _ _ z => z.elim
        subst e10
        obtain ⟨b1, b2, b3⟩ := back I10
        exact ⟨m', hm, i + 1, _, _, b1, b2, b3, w9⟩
  exact codeAny_compStart_list (loop _ rfl) (T.self _ 0 _ _ _ st1 (loop _ rfl))
theorem pe_compG (hc : X.calm = true) (hok : compOkB X.N X.env.scope scope xs fs = true) (hi : PI X tg iter wi)
    (hg : ∀ b, PG (X.blk scope (xs ++ around X.N fs) b) tg (g b)) (ht : ∀ b, PTs (X.blk scope (xs ++ around X.N fs) b) ifs (tt b)) (he : ∀ b, PE (X.blk scope (xs ++ around X.N fs) b) elt (te b))
    (hs : ∀ x, foldedSetIterable iter X.env x = pure x := by intro _; rfl) :
    PE X (.ListComp elt [⟨tg, iter, ifs, 0⟩] scope pos) (tComp wi xs.length fs g tt te) := by
  intro pins s σ H Q I h
  have O := compOk_of hok
  rw [eval_ListComp]
  refine wpAny_comprehension_free (use := none) rfl hs (clo_closure fun y hy hf => I.ok.has _ (O.free y hy hf)) O.kind O.names (thn (hi pins s σ H _ I h) fun v s1 h1 => thn h1 fun itv s2 h2 => ?_)
  exact comp_run (RR := fun acc C => compPost (model X.prog X.w) X.A X.xe none (EP X pins σ Q) acc C) hc O hg ht he h2 fun D C s' m H' hn I' q F => ⟨m, hn, fun h2 sb => ⟨.ref D, H', turned_of I' F sb, rfl, q⟩⟩
theorem ps_comp {y : Str} {py : Pos} {i : Nat} (hN : X.N.Nodup) (hy : X.N[i]? = some y) (hyl : X.env.kindOf y = some .local) (hc : X.calm = true) (hok : compOkB X.N X.env.scope scope xs fs = true) (hi : PI X tg iter wi)
    (hg : ∀ b, PG (X.blk scope (xs ++ around X.N fs) b) tg (g b)) (ht : ∀ b, PTs (X.blk scope (xs ++ around X.N fs) b) ifs (tt b)) (he : ∀ b, PE (X.blk scope (xs ++ around X.N fs) b) elt (te b)) {spos : Pos}
    (hsw : swapsWith (.ListComp elt [⟨tg, iter, ifs, 0⟩] scope pos) (some (.Name y py)) spos.line X.env = pure true := by rfl)
    (hs : ∀ x, foldedSetIterable iter X.env x = pure x := by intro _; rfl) :
    PS X (.Assign [.Name y py] (.ListComp elt [⟨tg, iter, ifs, 0⟩] scope pos) spos) (tAsg (tComp wi xs.length fs g tt te) (gName i)) := by
  intro pins s σ H D I h
  have O := compOk_of hok
  rw [exec_Assign_Name_used _ _ _ _ hsw]
  refine wpAny_bind (wpAny_standAt (wpAny_bind ?_))
  show wpAny _ X.A (do let _ ← comprehension (.ListComp elt [⟨tg, iter, ifs, 0⟩] scope pos) scope X.env _ (newList []) false (eval iter X.env) (some (assign (.Name y py) X.env))) _ _ s
  refine wpAny_bind (wpAny_mono (wpAny_comprehension_free (use := some (assign (.Name y py) X.env)) (Q := fun _ s' => SP X pins D .next s') rfl hs (clo_closure fun y hy hf => I.ok.has _ (O.free y hy hf)) O.kind O.names
    (thn (hi pins s σ H _ I h) fun v s1 h1 => thn h1 fun itv s2 h2 => ?_)) (fun _ s' hq => wpAny_pure (wpAny_pure hq)) fun _ _ e => e)
  refine comp_run (RR := fun acc C => compPost (model X.prog X.w) X.A X.xe (some (assign (.Name y py) X.env)) (fun _ s' => SP X pins D .next s') acc C) hc O hg ht he h2 fun D' C s' m H' hn I0 q0 F => ?_
  show wpAny _ X.A (assign (.Name y py) X.env (.ref D')) _ _ _
  refine wpAny_assign_Name (store_ok2 I0 hN hy (.inl hyl) (v := .ref D') rfl (fun s3 I3 hsb => ?_) (.inr hyl))
  obtain ⟨a, sb3, ha⟩ := hsb
  have haC : C ≠ a := by
    rcases ha with rfl | ha
    · exact F.2.1
    · exact (F.2.2.2.2.1 y a ha).symm
  exact ⟨m, hn.sameBut sb3 haC, fun h4 sb4 => ⟨_, H', turned_of I3 F sb4, q0⟩⟩
end
end L2

set_option Elab.async false
set_option linter.all false
set_option maxRecDepth 100000
set_option maxHeartbeats 4000000
namespace L2
open PySem PySem.Spec PyProof.Rows

noncomputable def Its (z : Str) : It := ⟨fun i _ => i < z.cps.size, fun i H x H' => H' = H ∧ ∃ c, z.cps[i]? = some c ∧ x = .str ⟨#[c]⟩, fun i _ => z.cps.size ≤ i⟩
noncomputable def iStr (tl : TE) : TI := fun σ H R => tl σ H fun x H1 => ∃ z, x = .str z ∧ R (Its z) H1
section
variable {P : Program} {w : World} {K : PySem.W.Frag} {tg : Expr}
theorem turn_str (ty : String) (hty : ty = "str_ascii_iterator" ∨ ty = "str_iterator") (z : Str) (t : Tok) (it : Addr) : Turn P w K tg (Its z) [it] it (fun i h => i ≤ z.cps.size ∧ h.IsStrIter it ty z t i) where
  mem := by simp
  obj := fun i h st b hb => by
    have e : b = it := by simpa using hb
    subst e
    obtain ⟨o, e, c, d⟩ := st.2
    exact ⟨o, e, fun v z => by rw [d] at z; cases z⟩
  keep := fun i h h' st k => ⟨st.1, by obtain ⟨o, e, r⟩ := st.2; exact ⟨o, k it (by simp) o e, r⟩⟩
  item := by
    intro X hP hw hK hc i pins s σ H E I hf st hg
    subst hP hw hK
    obtain ⟨f0, f1, f2, f3, f4, f5⟩ := hf it (by simp)
    have W : Walks X.prog X.w X.A it [it] [it] z.cps.size (SignAt z) (fun i h => h.IsStrIter it ty z t i) := by
      rcases hty with rfl | rfl
      · exact Walks.strAscii (I.ok.hd hc) it z t
      · exact Walks.strWide (I.ok.hd hc) it z t
    refine W.item i s _ _ hg st.2 fun v h' tk hv st' kk => ?_
    obtain ⟨c, u, hcc, rfl⟩ := hv
    have I1 : Inv X pins σ H { s with heap := h', toks := tk } := I.turned (fun b o hb e => kk b o (by simpa using hb) e) f0 f1 f3 f4 f5
    obtain ⟨o, e, cc, d⟩ := id st'
    refine ⟨_, rfl, go_of (s := { s with heap := h', toks := tk }) (n := ty) e cc d (by rcases hty with rfl | rfl <;> decide) ⟨.str ⟨#[c]⟩, H, I1, ⟨u, rfl⟩, ⟨rfl, c, hcc, rfl⟩, ⟨hg, st'⟩, fun b hb => (hf b hb).1⟩⟩
  done := by
    intro X hP hw hK hc i pins s σ H E I hf st hg
    subst hP hw hK
    obtain ⟨f0, f1, f2, f3, f4, f5⟩ := hf it (by simp)
    have W : Walks X.prog X.w X.A it [it] [it] z.cps.size (SignAt z) (fun i h => h.IsStrIter it ty z t i) := by
      rcases hty with rfl | rfl
      · exact Walks.strAscii (I.ok.hd hc) it z t
      · exact Walks.strWide (I.ok.hd hc) it z t
    have hi : i = z.cps.size := Nat.le_antisymm st.1 hg
    subst hi
    exact W.done s _ _ st.2 fun h' tk kk => ⟨rfl, I.turned (fun b o hb e => kk b o (by simpa using hb) e) f0 f1 f3 f4 f5⟩
  self := fun _ _ _ _ _ st h => by
    rcases hty with rfl | rfl
    · exact wpAny_pyIter_striter_ascii st.2 h
    · exact wpAny_pyIter_striter_wide st.2 h
end
section
variable {X : Cx} {tg : Expr}
theorem pi_str {l : Expr} {tl : TE} (hl : PE X l tl) : PI X tg l (iStr tl) := by
  intro pins s σ H R I h
  refine thn (hl pins s σ H _ I h) fun v s1 ⟨x, H1, I1, r1, q1⟩ => ?_
  obtain ⟨z, e, q⟩ := q1
  subst e
  obtain ⟨t, rfl⟩ := r1
  have fin : ∀ ty, (ty = "str_ascii_iterator" ∨ ty = "str_iterator") → PIE X pins σ tg R (.ref s1.heap.objs.size) { s1 with heap := s1.heap.push { cls := .type ty, data := .fields #[.str z t, .int 0 0] } } := fun ty hty => by
    refine ⟨s1.heap.objs.size, [s1.heap.objs.size], _, _, H1, rfl, I1.kept (t' := s1.toks) fun b o e => Heap.get?_push_of_some _ e, turn_str ty hty z t _, ⟨Nat.zero_le _, _, Heap.get?_push_size _ rfl, rfl, rfl⟩, fun b hb => ?_, q⟩
    have e : b = s1.heap.objs.size := by simpa using hb
    subst e
    exact I1.fpOk (Nat.le_refl _) I1.fresh
  cases ha : z.cps.all (· < 128)
  · exact wpAny_pyIter_wide ha (fin _ (.inr rfl))
  · exact wpAny_pyIter_ascii ha (fin _ (.inl rfl))

noncomputable def rSlS : V → Option Int → Option Int → Hp → VK → Prop := fun x lo hi H Q => ∃ z, x = .str z ∧ z.length ≤ sizeLine ∧ Q (.str (Txt.slice z lo hi)) H
theorem sl_str : SlR X rSlS := by
  intro pins s σ H x v vl vu lo hi sl Q I rx hs pl pu h
  obtain ⟨z, rfl, hz, q⟩ := h
  obtain ⟨t, rfl⟩ := rx
  obtain ⟨o, ho, hc, hd⟩ := hs
  refine ⟨"str", _, F.slot_str_getitem.lookup, typeIs_str _ _ _, ?_⟩
  have fin : ∀ (l u : Option (Int × Tok)), s.heap.IsSlice sl l u none → l.map (·.1) = lo → u.map (·.1) = hi → wpAny (model X.prog X.w) X.A (getItem (.str z t) (.ref sl)) (EP X pins σ Q) X.xe s := fun l u hsl hl hu => by
    subst hl hu
    exact wpAny_getItem_str_slice (l := l) (u := u) (st := none) hsl rfl (post_val_or_str ⟨Nat.le_trans (Txt.slice_le z _ _) hz, fun t' k => ⟨.str _, H, I.tok k, ⟨t', rfl⟩, q⟩⟩)
  cases pl <;> cases pu
  · exact fin none none ⟨o, ho, hc, hd⟩ rfl rfl
  · exact fin none (some (_, _)) ⟨o, ho, hc, hd⟩ rfl rfl
  · exact fin (some (_, _)) none ⟨o, ho, hc, hd⟩ rfl rfl
  · exact fin (some (_, _)) (some (_, _)) ⟨o, ho, hc, hd⟩ rfl rfl

theorem strsAre_of : ∀ {ys : List Str} {us : List Value}, Vals (ys.map V.str) us → StrsAre us ys
  | [], _, r => by rw [List.map_nil] at r; cases r; exact .nil
  | y :: ys, us, r => by
    rw [List.map_cons] at r
    cases r with
    | cons r1 r2 =>
      obtain ⟨t, e⟩ := r1
      subst e
      exact .cons y t (strsAre_of r2)
noncomputable def rJoin (K : PySem.W.Frag) : V → List V → Hp → VK → Prop := fun x vs H Q => ∃ z p ys, x = .str z ∧ vs = [.ref p] ∧ SqL K H p (ys.map V.str) ∧ (ys.map (·.length)).sum + ys.length * z.length ≤ 16777216 ∧ Q (.str (Txt.join z ys)) H
theorem mt_join : MtR X "str.join" (rJoin X.K) := by
  intro pins s σ H x vs v us Q I rx rv h
  obtain ⟨z, p, ys, rfl, rfl, hp, hw, q⟩ := h
  obtain ⟨t, rfl⟩ := rx
  obtain ⟨u, rfl, ru⟩ := rv.one
  cases ru
  obtain ⟨its, r, pl, hz⟩ := I.list hp
  exact join_list pl.isList (by simpa using strsAre_of r) hw fun t' k => ⟨.str _, H, I.tok k, ⟨t', rfl⟩, q⟩
noncomputable def rFind : V → List V → Hp → VK → Prop := fun x vs H Q => ∃ z y, x = .str z ∧ vs = [.str y] ∧ Q (.int (Txt.find z y)) H
noncomputable def rSplit : V → List V → Hp → VK → Prop := fun x vs H Q => ∃ z y, x = .str z ∧ vs = [.str y] ∧ (y.length == 0) = false ∧ z.length + 2 ≤ sizeLine ∧ ∀ p, H p = none → Q (.ref p) (upd H p (.lst ((Txt.split z y).map V.str)))
noncomputable def rMulS : R2 := fun x y H Q => ∃ z n, x = .str z ∧ y = .int n ∧ MulOk z n ∧ Q (.str (Txt.mul z n)) H
noncomputable def rAll (K : PySem.W.Frag) : List V → Hp → VK → Prop := fun xs H Q => ∃ (p : Addr) (bs : List Bool), xs = [.ref p] ∧ SqL K H p (bs.map V.bl) ∧ Q (.bl (bs.all id)) H
theorem call_all (hc : X.calm = true) : CallR X (.builtin "all") (rAll X.K) := by
  intro pins s σ H xs us Q I r h
  obtain ⟨p, bs, rfl, hp, q⟩ := h
  obtain ⟨u, rfl, ru⟩ := vals1 r
  cases ru
  obtain ⟨its, r, pl, hz⟩ := I.list hp
  have hlt : p < s.heap.objs.size := by obtain ⟨o, n, e, _⟩ := pl; exact Heap.lt_size e
  refine call_all_walk (wpAny_pyIter_list pl.isList ⟨s.heap.objs.size, _, _, _, _, _, fun i => bs.getD i true, rfl, Walks.list (show X.A.in1.handled = none from I.ok.hd hc) s.heap.objs.size p (Nat.ne_of_lt hlt) its.toArray, ⟨⟨_, Heap.get?_push_size _ rfl, rfl, rfl⟩, pl.isList.push _⟩, ?_, fun h' tk kk => ?_⟩)
  · intro i v s' Q' E' hP hQ'
    have hP : its.toArray[i]? = some v := hP
    have hlen := r.length
    rw [List.length_map] at hlen
    have hi : i < bs.length := by
      have := (Array.getElem?_eq_some_iff.mp hP).1
      rw [List.size_toArray] at this
      omega
    obtain ⟨u, hu, ru⟩ := r.get (i := i) (x := V.bl (bs[i])) (by simp [hi])
    have e : u = v := by
      have : its[i]? = some v := by simpa using hP
      rw [hu] at this; exact Option.some.inj this
    subst e
    cases ru
    dsimp only at hQ'
    rw [List.getD_eq_getElem?_getD, List.getElem?_eq_getElem hi] at hQ'
    exact wpAny_pure hQ'
  · refine ⟨.bl _, H, I.kept (t' := tk) fun b o e => kk b o ?_ (Heap.get?_push_of_some _ e), rfl, ?_⟩
    · simpa using Nat.ne_of_lt (Heap.lt_size e)
    · have hlen := r.length
      rw [List.length_map] at hlen
      have : ((List.range its.toArray.size).all fun i => bs.getD i true) = bs.all id := by
        rw [List.size_toArray, ← hlen]
        rw [Bool.eq_iff_iff, List.all_eq_true, List.all_eq_true]
        constructor
        · intro h x hx
          obtain ⟨i, hi, rfl⟩ := List.mem_iff_getElem.mp hx
          have := h i (by simpa using hi)
          simpa [List.getD_eq_getElem?_getD, List.getElem?_eq_getElem hi] using this
        · intro h i hi
          have hi : i < bs.length := by simpa using hi
          rw [List.getD_eq_getElem?_getD, List.getElem?_eq_getElem hi]
          exact h _ (List.getElem_mem hi)
      rw [this]; exact q
end
noncomputable abbrev TJ := Str → St → Hp → (Str → Hp → Prop) → Prop
noncomputable def PJ (X : Cx) (es : List Expr) (t : TJ) : Prop :=
  ∀ (acc : Str) (pins : List (Addr × Obj)) (s : Shared) (σ : St) (H : Hp) (Q : Str → Hp → Prop), Inv X pins σ H s → t acc σ H Q →
    Joins (model X.prog X.w) X.A X.xe (evalEach es X.env) acc (fun out s' => ∃ H', Inv X pins σ H' s' ∧ Q out H') s
noncomputable def jNil : TJ := fun acc _ H Q => Q acc H
noncomputable def jCons (te : TE) (tr : TJ) : TJ := fun acc σ H Q => te σ H fun x H1 => ∃ y, x = .str y ∧ (acc ++ y).length ≤ sizeLine ∧ tr (acc ++ y) σ H1 Q
noncomputable def tFstr (t : TJ) : TE := fun σ H Q => t Str.empty σ H fun out H1 => out.length ≤ sizeLine ∧ Q (.str out) H1
noncomputable def tFmt (te : TE) : TE := fun σ H Q => te σ H fun x H1 => (∃ z, x = .str z ∧ z.length ≤ sizeLine ∧ Q (.str z) H1) ∨ ∃ i, x = .int i ∧ i.natAbs.log2 < 1920 ∧ Q (.str (toString i)) H1
noncomputable def tFmtR (te : TE) : TE := fun σ H Q => te σ H fun x H1 => ∃ z, x = .str z ∧ (PySem.reprText z).length ≤ sizeLine ∧ Q (.str (PySem.reprText z)) H1
section
variable {X : Cx} {e v₁ v₂ : Expr} {es : List Expr} {te : TE} {tr t : TJ} {pos : Pos}
theorem pj_nil : PJ X [] jNil := fun _ _ _ _ H _ I h => ⟨H, I, h⟩
theorem pj_cons (he : PE X e te) (hr : PJ X es tr) : PJ X (e :: es) (jCons te tr) := by
  intro acc pins s σ H Q I h
  refine thn (he pins s σ H _ I h) fun v s1 ⟨x, H1, I1, r1, y, ex, hz, q⟩ => ?_
  subst ex
  obtain ⟨t, rfl⟩ := r1
  exact ⟨y, t, rfl, hz, hr _ pins s1 σ H1 Q I1 q⟩
theorem Joins.mono {M : Model} {A : Around} {E : Value → Shared → Prop} {Q Q' : Str → Shared → Prop} (h : ∀ o s, Q o s → Q' o s) : ∀ {parts : List (Sem Value)} {acc : Str} {s : Shared}, Joins M A E parts acc Q s → Joins M A E parts acc Q' s
  | [], _, _, q => h _ _ q
  | _ :: _, _, _, q => wpAny_mono q (fun v s1 ⟨y, t, e, hz, r⟩ => ⟨y, t, e, hz, Joins.mono h r⟩) fun _ _ x => x
theorem pe_fstr (h : PJ X (v₁ :: v₂ :: es) t) : PE X (.JoinedStr (v₁ :: v₂ :: es) pos) (tFstr t) := by
  intro pins s σ H Q I hq
  refine wpAny_JoinedStr (Joins.mono (fun o s1 ⟨H1, I1, hz, q⟩ => ?_) (h Str.empty pins s σ H _ I hq))
  exact ⟨hz, .str o, H1, I1.tok _, ⟨_, rfl⟩, q⟩
theorem pe_fmtR (h : PE X e te) : PE X (.FormattedValue e 114 none pos) (tFmtR te) := by
  intro pins s σ H Q I hq
  refine wpAny_FormattedValue_repr (thn (h pins s σ H _ I hq) fun v s1 ⟨x, H1, I1, r1, z, ex, hz, q⟩ => ?_)
  subst ex
  obtain ⟨t, rfl⟩ := r1
  refine wpAny_pyReprObj_gives (typeIs_str _ _ _) F.slot_str_repr F.entry_str_repr (F.args_str_repr_1 _) (gives_str_repr z t) ?_ rfl hz
  exact wpAny_formatField_str ⟨.str _, H1, I1.tok _, ⟨_, rfl⟩, q⟩ ⟨.str _, H1, (I1.tok _), ⟨_, rfl⟩, q⟩ hz
end
end L2

set_option Elab.async false
set_option linter.all false
set_option maxRecDepth 100000
set_option maxHeartbeats 4000000
namespace L2
open PySem PySem.Spec PyProof.Rows

noncomputable abbrev tComp1 (wi : TI) (fs : List Nat) (te : Blk → TE) : TE := tComp wi 1 fs (fun _ => gName 0) (fun _ => tYes) te
section
variable {X : Cx} {scope : Scope} {x : Str} {px : Pos} {fs : List Nat} {elt iter : Expr} {pos : Pos} {wi : TI} {te : Blk → TE}
theorem pg_own (hok : compOkB X.N X.env.scope scope [x] fs = true) (b : Blk) : PG (X.blk scope ([x] ++ around X.N fs) b) (.Name x px) (gName 0) :=
  pg_name (compOk_of hok).nd rfl (.inl (lookup_relabel_local ((compOk_of hok).own x (by simp)))) (.inr (lookup_relabel_local ((compOk_of hok).own x (by simp))))
theorem pe_comp1 (x : Str) (fs : List Nat) (hc : X.calm = true) (hok : compOkB X.N X.env.scope scope [x] fs = true) (hi : PI X (.Name x px) iter wi) (he : ∀ b, PE (X.blk scope ([x] ++ around X.N fs) b) elt (te b))
    (hs : ∀ x, foldedSetIterable iter X.env x = pure x := by intro _; rfl) : PE X (.ListComp elt [⟨.Name x px, iter, [], 0⟩] scope pos) (tComp1 wi fs te) :=
  pe_compG (xs := [x]) (g := fun _ => gName 0) (tt := fun _ => tYes) hc hok hi (pg_own hok) (fun _ => pts_nil) he hs
theorem ps_comp1 {y : Str} {py : Pos} {i : Nat} {spos : Pos} (x : Str) (fs : List Nat) (hN : X.N.Nodup) (hy : X.N[i]? = some y) (hyl : X.env.kindOf y = some .local) (hc : X.calm = true) (hok : compOkB X.N X.env.scope scope [x] fs = true) (hi : PI X (.Name x px) iter wi) (he : ∀ b, PE (X.blk scope ([x] ++ around X.N fs) b) elt (te b))
    (hsw : swapsWith (.ListComp elt [⟨.Name x px, iter, [], 0⟩] scope pos) (some (.Name y py)) spos.line X.env = pure true := by rfl)
    (hs : ∀ x, foldedSetIterable iter X.env x = pure x := by intro _; rfl) : PS X (.Assign [.Name y py] (.ListComp elt [⟨.Name x px, iter, [], 0⟩] scope pos) spos) (tAsg (tComp1 wi fs te) (gName i)) :=
  ps_comp (xs := [x]) (g := fun _ => gName 0) (tt := fun _ => tYes) hN hy hyl hc hok hi (pg_own hok) (fun _ => pts_nil) he hsw hs
end
theorem kept0 {x : Option V} {r : St} : Kept (none :: r) (x :: r) := fun i v e => by
  cases i with
  | zero => cases e
  | succ i => exact e

section
variable {K : PySem.W.Frag} {tail : St} {te : Blk → TE} {Q : VK} {H1 : Hp}
noncomputable def CompNext (D : Addr) (n i : Nat) (ys : List V) (Pv : Nat → List V → Hp → Prop) : VK := fun y H4 => H4 D = some (.lst ys) ∧ ys.length < sizeLine ∧ ∃ m', m' < n - i ∧ (m' = n - (i + 1) ∧ i + 1 ≤ n ∧ Pv (i + 1) (ys ++ [y]) (upd H4 D (.lst (ys ++ [y]))))
theorem compNext {D : Addr} {n i : Nat} {ys : List V} {Pv : Nat → List V → Hp → Prop} {y : V} {H4 : Hp} (h1 : H4 D = some (.lst ys)) (h2 : ys.length < sizeLine) (h3 : i < n) (h4 : Pv (i + 1) (ys ++ [y]) (upd H4 D (.lst (ys ++ [y])))) : CompNext D n i ys Pv y H4 :=
  ⟨h1, h2, n - (i + 1), by omega, rfl, h3, h4⟩
theorem comp_by {J : It} (n : Nat)
    (h : ∀ (b : Blk) (D : Addr), H1 D = none → ∃ Pv : Nat → List V → Hp → Prop, Pv 0 [] (upd H1 D (.lst [])) ∧ (∀ i ys H, Pv i ys H → H D = some (.lst ys)) ∧ (∀ ys H, Pv n ys H → J.stop n H ∧ Q (.ref D) H) ∧
      ∀ i ys H, i < n → Pv i ys H → J.go i H ∧ ∀ x H3, J.yld i H x H3 → te b (some x :: tail) H3 (CompNext D n i ys Pv)) : CompTail (none :: tail) (fun _ => gName 0) (fun _ => tYes) te Q J H1 := by
  intro b D hD
  obtain ⟨Pv, p0, p1, p2, p3⟩ := h b D hD
  refine ⟨fun i m ys H => m = n - i ∧ i ≤ n ∧ Pv i ys H, ⟨n, rfl, Nat.zero_le _, p0⟩, ?_⟩
  rintro i m ys H ⟨rfl, hi, p⟩
  refine ⟨p1 i ys H p, ?_⟩
  by_cases hlt : i < n
  · obtain ⟨go, st⟩ := p3 i ys H hlt p
    refine .inr ⟨go, fun x H3 y => ⟨kept0, ?_⟩⟩
    exact st x H3 y
  · have e : i = n := by omega
    subst e
    exact .inl (p2 ys H p)
theorem same_new {D : Addr} {o : HO} (h : H1 D = none) : Same H1 (upd H1 D o) := fun b u e => by rw [upd_ne (ne_of_none e h)]; exact e
theorem compS_pure {z : Str} (f : Nat → V) (hz : z.cps.size ≤ sizeLine) (he : ∀ b c H Q', c ∈ z.cps.toList → Same H1 H → Q' (f c) H → te b (some (.str ⟨#[c]⟩) :: tail) H Q')
    (q : ∀ D, H1 D = none → Q (.ref D) (upd H1 D (.lst (z.cps.toList.map f)))) : CompTail (none :: tail) (fun _ => gName 0) (fun _ => tYes) te Q (Its z) H1 := by
  refine comp_by z.cps.size (fun b D hD => ⟨fun i ys H => i ≤ z.cps.size ∧ ys = (z.cps.toList.take i).map f ∧ H = upd H1 D (.lst ys), ⟨Nat.zero_le _, rfl, rfl⟩, ?_, ?_, ?_⟩)
  · rintro i ys H ⟨hi, rfl, rfl⟩
    exact upd_same
  · rintro ys H ⟨_, rfl, rfl⟩
    refine ⟨Nat.le_refl _, ?_⟩
    have e : z.cps.toList.take z.cps.size = z.cps.toList := List.take_of_length_le (by simp)
    rw [e]; exact q D hD
  · rintro i ys H hi ⟨_, rfl, rfl⟩
    refine ⟨hi, fun x H3 ⟨e3, c, hc, ex⟩ => ?_⟩
    subst e3 ex
    have hc' : z.cps.toList[i]? = some c := by simpa using hc
    refine he b c _ _ (List.mem_of_getElem? hc') (same_new hD) (compNext upd_same (by rw [List.length_map, List.length_take, Array.length_toList]; omega) hi ⟨hi, ?_, ?_⟩)
    · rw [List.take_add_one, hc']; simp
    · funext a; by_cases ha : a = D <;> simp [upd, ha]
theorem compL_pure {a : Addr} {xs : List V} (f : V → V) (hS : SqL K H1 a xs) (hz : xs.length ≤ sizeLine) (he : ∀ b x H Q', x ∈ xs → Same H1 H → Q' (f x) H → te b (some x :: tail) H Q')
    (q : ∀ D, H1 D = none → Q (.ref D) (upd H1 D (.lst (xs.map f)))) : CompTail (none :: tail) (fun _ => gName 0) (fun _ => tYes) te Q (Itl K a) H1 := by
  refine comp_by xs.length (fun b D hD => ⟨fun i ys H => i ≤ xs.length ∧ ys = (xs.take i).map f ∧ H = upd H1 D (.lst ys), ⟨Nat.zero_le _, rfl, rfl⟩, ?_, ?_, ?_⟩)
  · rintro i ys H ⟨hi, rfl, rfl⟩
    exact upd_same
  · rintro ys H ⟨_, rfl, rfl⟩
    refine ⟨⟨xs, (same_new hD).seq hS, Nat.le_refl _⟩, ?_⟩
    rw [List.take_length]; exact q D hD
  · rintro i ys H hi ⟨_, rfl, rfl⟩
    refine ⟨⟨xs, xs[i], (same_new hD).seq hS, by simp [hi]⟩, fun x H3 ⟨e3, ex⟩ => ?_⟩
    subst e3
    have hc' := ex xs ((same_new hD).seq hS)
    refine he b x _ _ (List.mem_of_getElem? hc') (same_new hD) (compNext upd_same (by rw [List.length_map, List.length_take]; omega) hi ⟨hi, ?_, ?_⟩)
    · rw [List.take_add_one, hc']; simp
    · funext a; by_cases ha : a = D <;> simp [upd, ha]
theorem compR_pure {lo : Int} {n : Nat} (f : Int → V) (hz : n ≤ sizeLine) (he : ∀ b (i : Nat) H Q', i < n → Same H1 H → Q' (f (lo + i)) H → te b (some (.int (lo + i)) :: tail) H Q')
    (q : ∀ D, H1 D = none → Q (.ref D) (upd H1 D (.lst ((List.range n).map fun (i : Nat) => f (lo + (i : Int)))))) : CompTail (none :: tail) (fun _ => gName 0) (fun _ => tYes) te Q (Itr lo n) H1 := by
  refine comp_by n (fun b D hD => ⟨fun i ys H => i ≤ n ∧ ys = (List.range i).map (fun (i : Nat) => f (lo + (i : Int))) ∧ H = upd H1 D (.lst ys), ⟨Nat.zero_le _, rfl, rfl⟩, ?_, ?_, ?_⟩)
  · rintro i ys H ⟨hi, rfl, rfl⟩
    exact upd_same
  · rintro ys H ⟨_, rfl, rfl⟩
    exact ⟨Nat.le_refl _, q D hD⟩
  · rintro i ys H hi ⟨_, rfl, rfl⟩
    refine ⟨hi, fun x H3 ⟨e3, ex⟩ => ?_⟩
    subst e3 ex
    refine he b i _ _ hi (same_new hD) (compNext upd_same (by rw [List.length_map, List.length_range]; omega) hi ⟨hi, ?_, ?_⟩)
    · rw [List.range_succ]; simp
    · funext a; by_cases ha : a = D <;> simp [upd, ha]
end

section
variable {σ : St} {H : Hp} {Q : VK} {D : Ends} {K : PySem.W.Frag}
theorem rd_comp {wi : TI} {fs : List Nat} {te : Blk → TE} : tComp1 wi fs te σ H Q = wi σ H (CompTail (none :: fs.map fun j => σ.getD j none) (fun _ => gName 0) (fun _ => tYes) te Q) := rfl
theorem rd_istr {tl : TE} {R : It → Hp → Prop} : iStr tl σ H R = tl σ H fun x H1 => ∃ z, x = .str z ∧ R (Its z) H1 := rfl
theorem rd_sl {r : V → Option Int → Option Int → Hp → VK → Prop} {te : TE} {tl th : TO} : tSl r te tl th σ H Q = te σ H fun x H1 => tl σ H1 fun l H2 => th σ H2 fun u H3 => r x l u H3 Q := rfl
theorem rd_noPart {QO : Option Int → Hp → Prop} : tNoPart σ H QO = QO none H := rfl
theorem rd_part {t : TE} {QO : Option Int → Hp → Prop} : tPart t σ H QO = t σ H fun x H1 => ∃ i, x = .int i ∧ QO (some i) H1 := rfl
theorem rd_slS {x : V} {lo hi : Option Int} : rSlS x lo hi H Q = ∃ z, x = .str z ∧ z.length ≤ sizeLine ∧ Q (.str (Txt.slice z lo hi)) H := rfl
theorem rd_slL {x : V} {lo hi : Option Int} : rSlL K x lo hi H Q = ∃ a xs, x = .ref a ∧ SqL K H a xs ∧ ∀ p, H p = none → Q (.ref p) (upd H p (.lst (cutV xs lo hi))) := rfl
theorem rd_bm {T : String} {r : V → List V → Hp → VK → Prop} {to : TE} {t : TA} : tBM K T r to t σ H Q = to σ H fun x H1 => tyV K T x H1 ∧ t σ H1 fun xs H2 => r x xs H2 Q := rfl
theorem rd_bm0 {T : String} {r : V → List V → Hp → VK → Prop} {to : TE} : tBM0 K T r to σ H Q = to σ H fun x H1 => tyV K T x H1 ∧ r x [] H1 Q := rfl
theorem tyV_str {z : Str} : tyV K "str" (.str z) H = True := eq_true rfl
theorem rd_join {x : V} {vs : List V} : rJoin K x vs H Q = ∃ z p ys, x = .str z ∧ vs = [.ref p] ∧ SqL K H p (ys.map V.str) ∧ (ys.map (·.length)).sum + ys.length * z.length ≤ 16777216 ∧ Q (.str (Txt.join z ys)) H := rfl
theorem rd_find {x : V} {vs : List V} : rFind x vs H Q = ∃ z y, x = .str z ∧ vs = [.str y] ∧ Q (.int (Txt.find z y)) H := rfl
theorem rd_split {x : V} {vs : List V} : rSplit x vs H Q = ∃ z y, x = .str z ∧ vs = [.str y] ∧ (y.length == 0) = false ∧ z.length + 2 ≤ sizeLine ∧ ∀ p, H p = none → Q (.ref p) (upd H p (.lst ((Txt.split z y).map V.str))) := rfl
theorem rd_all {xs : List V} : rAll K xs H Q = ∃ (p : Addr) (bs : List Bool), xs = [.ref p] ∧ SqL K H p (bs.map V.bl) ∧ Q (.bl (bs.all id)) H := rfl
theorem rd_mulS {x y : V} : rMulS x y H Q = ∃ z n, x = .str z ∧ y = .int n ∧ MulOk z n ∧ Q (.str (Txt.mul z n)) H := rfl
theorem rd_jnil {acc : Str} {QS : Str → Hp → Prop} : jNil acc σ H QS = QS acc H := rfl
theorem rd_jcons {te : TE} {tr : TJ} {acc : Str} {QS : Str → Hp → Prop} : jCons te tr acc σ H QS = te σ H fun x H1 => ∃ y, x = .str y ∧ (acc ++ y).length ≤ sizeLine ∧ tr (acc ++ y) σ H1 QS := rfl
theorem rd_fstr {t : TJ} : tFstr t σ H Q = t Str.empty σ H fun out H1 => out.length ≤ sizeLine ∧ Q (.str out) H1 := rfl
theorem rd_fmtR {te : TE} : tFmtR te σ H Q = te σ H fun x H1 => ∃ z, x = .str z ∧ (PySem.reprText z).length ≤ sizeLine ∧ Q (.str (PySem.reprText z)) H1 := rfl
theorem rd_fmt {te : TE} : tFmt te σ H Q = te σ H fun x H1 => (∃ z, x = .str z ∧ z.length ≤ sizeLine ∧ Q (.str z) H1) ∨ ∃ i, x = .int i ∧ i.natAbs.log2 < 1920 ∧ Q (.str (toString i)) H1 := rfl
theorem rd_dnewK : tDNewK σ H Q = ∀ p, H p = none → Q (.ref p) (upd H p (.dK [])) := rfl
theorem ixS_of {z : Str} {i : Int} {c : Nat} (hz : z.length ≤ sizeLine) (e : atI z.cps.toList i = some c) (q : Q (.str ⟨#[c]⟩) H) : rIxS (.str z) (.int i) H Q := ⟨z, i, c, rfl, rfl, hz, e, q⟩
theorem blk_K {X : Cx} {scope : Scope} {N' : List Str} {b : Blk} : (X.blk scope N' b).K = X.K := rfl
end
section
variable {X : Cx} {x : Str} {pos : Pos}
theorem pe_gint {i : Int} (hg : Gl X x) (hm : ∃ t, X.mg x = some (.int i t)) (hd : (x == ("__debug__" : Str)) = false := by decide) : PE X (.Name x pos) (tC (.int i)) := by
  obtain ⟨t, hm⟩ := hm
  exact pe_glob hg hm ⟨t, rfl⟩ hd
theorem pe_gstr {z : Str} (hg : Gl X x) (hm : ∃ t, X.mg x = some (.str z t)) (hd : (x == ("__debug__" : Str)) = false := by decide) : PE X (.Name x pos) (tC (.str z)) := by
  obtain ⟨t, hm⟩ := hm
  exact pe_glob hg hm ⟨t, rfl⟩ hd
end
theorem TyOf.same {K : PySem.W.Frag} {H H' : Hp} {x : V} {t : Value} (s : Same H H') (h : TyOf K H x t) : TyOf K H' x t := by
  cases h with
  | non => exact .non
  | bl x => exact .bl x
  | int i => exact .int i
  | str x => exact .str x
  | flt x => exact .flt x
  | lst e => exact .lst (s _ _ e)
  | frz e => exact .frz (s _ _ e)
  | tup e => exact .tup (s _ _ e)
  | dK e => exact .dK (s _ _ e)
  | dT e => exact .dT (s _ _ e)
  | ins e cl ha hn htk hm => exact .ins (s _ _ e) cl ha hn htk hm
theorem Isi.same {K : PySem.W.Frag} {H H' : Hp} {x : V} {n : String} {b : Bool} (s : Same H H') (h : Isi K H x n b) : Isi K H' x n b := let ⟨t, ty, e⟩ := h; ⟨t, ty.same s, e⟩
theorem line_val : sizeLine = 16777216 := by decide
theorem len_app {a b : Str} : (a ++ b).length = a.length + b.length := strLen_append a b
theorem len_one {c : Nat} : (⟨#[c]⟩ : Str).length = 1 := rfl
theorem str_len {z : Str} : z.cps.toList.length = z.length := by simp [Str.length]
theorem app_list {a b : Str} : (a ++ b).cps.toList = a.cps.toList ++ b.cps.toList := by
  show (a.cps ++ b.cps).toList = _
  simp
theorem atI_in {α : Type} {xs : List α} {i : Int} (h0 : 0 ≤ i) (h1 : i < xs.length) : ∃ v, atI xs i = some v ∧ v ∈ xs := by
  refine ⟨xs[i.toNat], ?_, List.getElem_mem (by omega)⟩
  exact atI_of h0 (by rw [List.getElem?_eq_getElem (by omega)])
theorem script_go {K : PySem.W.Frag} {H : Hp} {a : Addr} {ns : List Int} {R : List Int → Prop} (h : SqL K H a (ns.map V.int)) (hl : ns.length ≤ 63) (q : R ns) : ∃ x : List Int, SqL K H a (x.map V.int) ∧ x.length ≤ 63 ∧ R x := ⟨ns, h, hl, q⟩
noncomputable def hasS (z y : Str) : Bool := !(Builtin.Str.occurrences z y 0 z.length 1).isEmpty
theorem hasS_one {z : Str} {c : Nat} : hasS z ⟨#[c]⟩ = decide (c ∈ z.cps.toList) := StrLaws.found_one z c
noncomputable def rInS : R2 := fun x y H Q => ∃ i j, x = .str i ∧ y = .str j ∧ Q (.bl (hasS j i)) H
noncomputable def rNotInS : R2 := fun x y H Q => ∃ i j, x = .str i ∧ y = .str j ∧ Q (.bl (!hasS j i)) H
theorem op_inS {X : Cx} : OpR X (compareOp .In) rInS := op_in_str
theorem rd_inS {x y : V} {H : Hp} {Q : VK} : rInS x y H Q = ∃ i j, x = .str i ∧ y = .str j ∧ Q (.bl (hasS j i)) H := rfl
theorem rd_notinS {x y : V} {H : Hp} {Q : VK} : rNotInS x y H Q = ∃ i j, x = .str i ∧ y = .str j ∧ Q (.bl (!hasS j i)) H := rfl
theorem at_0 {α : Type} {c : α} {r : List α} : atI (c :: r) 0 = some c := atI_of (by decide) rfl
end L2

set_option Elab.async false
set_option linter.all false
set_option maxRecDepth 100000
set_option maxHeartbeats 4000000
namespace L2
open PySem PySem.Spec PyProof.Rows

noncomputable def flatEq (xs ys : List V) : Bool := match xs, ys with
  | [], [] => true
  | x :: xs, y :: ys => eqV x y && flatEq xs ys
  | _, _ => false
theorem flatEq_len : ∀ {xs ys : List V}, xs.length ≠ ys.length → flatEq xs ys = false
  | [], [], h => absurd rfl h
  | [], _ :: _, _ => rfl
  | _ :: _, [], _ => rfl
  | x :: xs, y :: ys, h => by
    unfold flatEq
    rw [flatEq_len (fun e => h (by simp [e])), Bool.and_false]
theorem flatEq_all : ∀ {xs ys : List V}, xs.length = ys.length → flatEq xs ys = (List.range xs.length).all fun i => eqV (xs.getD i .non) (ys.getD i .non)
  | [], [], _ => rfl
  | [], _ :: _, h => by cases h
  | _ :: _, [], h => by cases h
  | x :: xs, y :: ys, h => by
    unfold flatEq
    rw [flatEq_all (by simpa using h), List.length_cons, List.range_succ_eq_map, List.all_cons, List.all_map]
    rfl
theorem eqV_str {x y : Str} : eqV (.str x) (.str y) = decide (x = y) := rfl
noncomputable def EqQ (K : PySem.W.Frag) (H : Hp) (x y : V) (r : Bool) : Prop := ∃ a b xs ys, x = .ref a ∧ y = .ref b ∧ ((SqL K H a xs ∧ SqL K H b ys) ∨ (SqT K H a xs ∧ SqT K H b ys)) ∧ xs.all flatV = true ∧ ys.all flatV = true ∧ r = flatEq xs ys
section
variable {X : Cx} {pins : List (Addr × Obj)} {σ : St} {H : Hp} {s : Shared}
theorem flat_items {xs ys : List V} {us ws : List Value} {A : Around} (rx : Vals xs us) (ry : Vals ys ws) (fx : xs.all flatV = true) (fy : ys.all flatV = true) :
    ∀ j (h1 : j < us.toArray.size) (h2 : j < ws.toArray.size), SeqAt.EqAt A s us.toArray[j] ws.toArray[j] (eqV (xs.getD j .non) (ys.getD j .non)) := by
  intro j h1 h2
  have lx := rx.length
  have ly := ry.length
  rw [List.size_toArray] at h1 h2
  have hx : j < xs.length := by omega
  have hy : j < ys.length := by omega
  obtain ⟨u, hu, ru⟩ := rx.get (i := j) (x := xs[j]) (by simp [hx])
  obtain ⟨w, hw, rw'⟩ := ry.get (i := j) (x := ys[j]) (by simp [hy])
  have eu : us.toArray[j] = u := by
    have := List.getElem?_eq_getElem h1
    rw [this] at hu
    simpa using hu
  have ew : ws.toArray[j] = w := by
    have := List.getElem?_eq_getElem h2
    rw [this] at hw
    simpa using hw
  rw [eu, ew, List.getD_eq_getElem?_getD, List.getD_eq_getElem?_getD, List.getElem?_eq_getElem hx, List.getElem?_eq_getElem hy]
  exact eqAt_V ru rw' (List.all_eq_true.mp fx _ (List.getElem_mem hx)) (List.all_eq_true.mp fy _ (List.getElem_mem hy))
theorem eqQ_ne {x y : V} {u v : Value} {r : Bool} {A : Around} (I : Inv X pins σ H s) (rx : RelV x u) (ry : RelV y v) (h : EqQ X.K H x y r) (hu : A.units < cLine) : SeqAt.RcNeAt A s u v (!r) := by
  obtain ⟨a, b, xs, ys, rfl, rfl, hq, fx, fy, rfl⟩ := h
  cases rx
  cases ry
  rcases hq with ⟨h1, h2⟩ | ⟨h1, h2⟩
  · obtain ⟨us, r1, p1, z1⟩ := I.list h1
    obtain ⟨ws, r2, p2, z2⟩ := I.list h2
    have lx := r1.length
    have ly := r2.length
    by_cases hl : xs.length = ys.length
    · rw [flatEq_all hl]
      have := SeqAt.RcNeAt.lists p1.isList p2.isList (by simp; omega) hu (flat_items r1 r2 fx fy)
      rw [List.size_toArray, ← lx] at this
      exact this
    · rw [flatEq_len hl]
      exact SeqAt.RcNeAt.lists_lengths p1.isList p2.isList (by simp; omega) hu
  · obtain ⟨us, r1, p1, z1⟩ := I.tuple h1
    obtain ⟨ws, r2, p2, z2⟩ := I.tuple h2
    have lx := r1.length
    have ly := r2.length
    have := SeqAt.RcNeAt.tuples (show s.heap.IsTuple a us.toArray from p1) (show s.heap.IsTuple b ws.toArray from p2) hu (flat_items r1 r2 fx fy)
    rw [List.size_toArray, List.size_toArray, ← lx, ← ly] at this
    by_cases hl : xs.length = ys.length
    · rw [flatEq_all hl]
      rw [hl, Nat.min_self, beq_self_eq_true, Bool.and_true] at this
      rw [hl]; exact this
    · rw [flatEq_len hl]
      rw [beq_eq_false_iff_ne.mpr hl, Bool.and_false] at this
      exact this
noncomputable def rEqQ (K : PySem.W.Frag) : R2 := fun x y H Q => ∃ r, EqQ K H x y r ∧ Q (.bl r) H
noncomputable def rNeQ (K : PySem.W.Frag) : R2 := fun x y H Q => ∃ r, EqQ K H x y r ∧ Q (.bl (!r)) H
theorem op_neQ {k : Nat} (hr : Room k X.A) : OpR X (compareOp .NotEq) (rNeQ X.K) := by
  intro pins s σ H x y v u Q I rx ry h
  obtain ⟨r, e, q⟩ := h
  exact eqQ_ne I rx ry e (Nat.lt_of_le_of_lt (by omega) hr.un) X.prog X.w X.xe _ ⟨.bl (!r), H, I, rfl, q⟩
end
section
variable {K : PySem.W.Frag} {H : Hp} {Q : VK} {x y : V}
theorem rd_eqQ : rEqQ K x y H Q = ∃ r, EqQ K H x y r ∧ Q (.bl r) H := rfl
theorem rd_neQ : rNeQ K x y H Q = ∃ r, EqQ K H x y r ∧ Q (.bl (!r)) H := rfl
end
end L2

set_option Elab.async false
set_option linter.all false
set_option maxRecDepth 100000
set_option maxHeartbeats 4000000
namespace L2
open PySem PySem.Spec PyProof.Rows

structure TryB where
  pn : List (Addr × Obj)
  xe : Value → Shared → Prop
  EE : St → XK
noncomputable def tTryV (tb : TryB → TS) (th : TH) : TS := fun D σ H => ∀ (pn : List (Addr × Obj)) (xe : Value → Shared → Prop), tb ⟨pn, xe, fun σ' cls ox H' => ∃ x, ox = some x ∧ th cls x D σ' H'⟩ D σ H
noncomputable def hClsV (K : PySem.W.Frag) (c : Value) (ts : Addr → TS) (tr : TH) : TH := fun cls x D σ H => ∃ b, PySem.W.exmOne K cls c = some b ∧ if b = true then ts x D σ H else tr cls x D σ H
noncomputable def hAsV (K : PySem.W.Frag) (c : Value) (i : Nat) (ts : Addr → TS) (tr : TH) : TH := fun cls x D σ H => ∃ b, PySem.W.exmOne K cls c = some b ∧ if b = true then ts x (endsAs i D) (σ.set i (some (.ref x))) (upd H x (excO x cls)) else tr cls x D σ H
section
variable {X : Cx} {C n : Str} {c : Value} {i : Nat} {np pos : Pos} {b₀ : Stmt} {suite : List Stmt} {rest : List ExceptHandler} {ts : Addr → TS} {tr : TH}
theorem ph_clsV (hg : Gl X C) (hm : X.mg C = some c) (hs : ∀ x, PSs (X.sui x) (b₀ :: suite) (ts x)) (hr : PH X rest tr) (hdb : (C == ("__debug__" : Str)) = false := by decide) :
    PH X (.ExceptHandler (some (.Name C np)) none (b₀ :: suite) pos :: rest) (hClsV X.K c ts tr) := by
  intro pins s σ H x cls D Z h
  obtain ⟨b, e, h⟩ := h
  refine wpAny_handleBy_cons (clause_test (c := c) Z (fun Q E q => ld_glob (X := X.sui x) (Z.inv.sui x) hg hm q hdb) e ?_) (by intro q; cases q)
  cases b with
  | false => exact hr pins s σ H x cls D Z h
  | true =>
    refine codeAny_handlers_suite (Z.land fun s' Z' => ?_)
    refine wpAny_mono (hs x pins s' σ H D (Z'.inv.sui x) h) (fun f s2 q => q.unsui Z.inv.ok) fun _ _ q => False.elim q
theorem ps_tryV {body : List Stmt} {h₀ : ExceptHandler} {hs : List ExceptHandler} {tb : TryB → TS} {th : TH} (hst : X.stack = X.env :: X.outer) (hfr : X.env.frame = some X.env.locals)
    (hb : ∀ t : TryB, PassesS (CXE X.prog X.w) (X.tryX t.pn t.xe) t.EE → PSs (X.tryX t.pn t.xe) body (tb t)) (hh : PH X (h₀ :: hs) th) :
    PS X (.Try body (h₀ :: hs) [] [] pos) (tTryV tb th) := by
  intro pins s σ H D I h
  refine wpAny_Try_except ?_
  have P1 : PassesS (CXE X.prog X.w) (X.tryX (X.pn ++ pins) (fun e s' => ∃ σ H' x cls, e = .ref x ∧ Air X pins σ H' x cls s' ∧ th cls x D σ H')) (fun σ' cls ox H' => ∃ x, ox = some x ∧ th cls x D σ' H') := by
    intro pl σ1 H1 s1 e s2 I1 hc
    obtain ⟨x, cls, a0, H2, B, rfl, os, bare, u, ok, fl, hB, hx, hn, ⟨y, hy, q⟩⟩ := hc
    cases hy
    exact ⟨σ1, H2, x, cls, rfl, ⟨H1, s1, a0, B, I1.tryOut I.ok, os, bare, u, ok, fl, hB, hx, hn⟩, q⟩
  refine wpAny_mono (hb ⟨_, _, _⟩ P1 [] s σ H D (I.tryIn _) (h _ _)) (fun f s1 q => ?_) fun e s1 q => ?_
  · have q' := q.tryOut I.ok
    cases f with
    | next => exact wpAny_execs_nil q'
    | brk => exact q'
    | cont => exact q'
    | ret u => exact q'
  · obtain ⟨σ1, H1, x, cls, rfl, Z, q⟩ := q
    have fr : X.A.frames = some (X.env :: X.outer) := by rw [← hst]; exact I.ok.frames
    obtain ⟨H0, s0, a0, B, I0, os, bare, u, ok, fl, hB, hx, hn⟩ := Z.ex
    have fl' := fl
    rw [hst] at fl'
    refine wpAny_looks_onW fr hfr fl' fun h2 held up2 => wpAny_landsW held fun h3 fl3 up3 => ?_
    rw [← hst] at fl3
    obtain ⟨U, ok3, hB3⟩ := stay_of u ok I0.frm I0.stkFree hB fl3.1 (up2.trans up3)
    exact hh pins _ σ1 H1 x cls D ⟨H0, s0, a0, B, I0, os, bare, U, ok3, fl3, hB3, hx, hn⟩ q
end
section
variable {σ : St} {H : Hp} {D : Ends} {K : PySem.W.Frag}
theorem rd_tryV {tb : TryB → TS} {th : TH} : tTryV tb th D σ H = ∀ (pn : List (Addr × Obj)) (xe : Value → Shared → Prop), tb ⟨pn, xe, fun σ' cls ox H' => ∃ x, ox = some x ∧ th cls x D σ' H'⟩ D σ H := rfl
theorem rd_hclsV {c cls : Value} {x : Addr} {ts : Addr → TS} {tr : TH} : hClsV K c ts tr cls x D σ H = ∃ b, PySem.W.exmOne K cls c = some b ∧ if b = true then ts x D σ H else tr cls x D σ H := rfl
theorem rd_hasV {c cls : Value} {i : Nat} {x : Addr} {ts : Addr → TS} {tr : TH} : hAsV K c i ts tr cls x D σ H = ∃ b, PySem.W.exmOne K cls c = some b ∧ if b = true then ts x (endsAs i D) (σ.set i (some (.ref x))) (upd H x (excO x cls)) else tr cls x D σ H := rfl
theorem tryX_K {X : Cx} {pn : List (Addr × Obj)} {xe : Value → Shared → Prop} : (X.tryX pn xe).K = X.K := rfl
theorem sui_K {X : Cx} {x : Addr} : (X.sui x).K = X.K := rfl
end
end L2

set_option Elab.async false
set_option linter.all false
set_option maxRecDepth 100000
set_option maxHeartbeats 4000000
namespace L2
open PySem PySem.Spec PyProof.Rows

structure DefM (P : Program) (w : World) (K : PySem.W.Frag) (mg : Str → Option Value) (base : Heap) (CX : CXT) (k : Nat) (C : Addr) (m : Str) (ps : List Str) (sp : Sp) : Prop where
  ex : ∃ (f : Addr) (fd : FuncData), FnOk P w K mg base CX k f fd ps sp ∧ Meth K C m f ∧ Binds K fd ps []
structure DefI (P : Program) (w : World) (K : PySem.W.Frag) (mg : Str → Option Value) (base : Heap) (CX : CXT) (k : Nat) (x : Str) (C : Addr) (ps : List Str) (sp : Sp) : Prop where
  ex : ∃ (f : Addr) (fd : FuncData), FnOk P w K mg base CX k f fd ps sp ∧ Mk K C f ∧ mg x = some (.ref C) ∧ Binds K fd ps []
noncomputable def tMethE (C : Addr) (m : Str) (sp : Sp) (EE : St → XK) (ta : TE) (t : TA) : TE := fun σ H Q => ta σ H fun x H1 => ∃ a dx fs, x = .ref a ∧ H1 a = some (.ins C dx fs) ∧ fs.lookup m = none ∧ t σ H1 fun vs H2 => sp (x :: vs) H2 Q (EE σ)
noncomputable def tMakeE (C : Addr) (sp : Sp) (EE : St → XK) (t : TA) : TE := fun σ H Q => t σ H fun vs H1 => ∀ x dx, H1 x = none → H1 dx = none → dx ≠ x → sp (.ref x :: vs) (upd (upd H1 dx (.own x)) x (.ins C dx [])) (fun v H2 => v = .non ∧ Q (.ref x) H2) (EE σ)
section
variable {X : Cx} {CX : CXT} {k j : Nat} {f C : Addr} {fd : FuncData} {ps : List Str} {sp : Sp} {EE : St → XK} {E : XK} {x m : Str} {p pos apos : Pos} {e o : Expr} {es : List Expr} {ta : TE} {t : TA}
theorem passS (h : Passes CX X E) : PassesS CX X fun _ => E := fun pins σ H s e s' I hc => h pins σ H s e s' I hc
theorem run_fnS {pins : List (Addr × Obj)} {σ : St} {H : Hp} {s : Shared} {Q : VK} {us : List Value} {vs : List V} (F : FnOk X.prog X.w X.K X.mg X.base CX k f fd ps sp) (hr : Room k X.A) (hb : Binds X.K fd ps []) (hx : PassesS CX X EE)
    (I : Inv X pins σ H s) (r : Vals vs us) (h : sp vs H Q (EE σ)) : wpAny (model X.prog X.w) X.A (call (.ref f) us) (EP X pins σ Q) X.xe s := by
  have hl : us.length = ps.length := by rw [← r.length]; exact F.len _ _ _ _ h
  have hb' := hb s us I.kIn (by simpa using hl)
  rw [List.append_nil] at hb'
  refine wpAny_call (codeAny_mono (F.run X.A X.stack s H ⟨us, []⟩ us vs Q (EE σ) hr I.env0 hb' r h) fun r s' hq => ?_)
  cases r with
  | error e => exact hx pins σ H s e s' I hq
  | ok fl =>
    cases fl with
    | ret u => exact I.after hq
    | next => exact False.elim hq
    | brk => exact False.elim hq
    | cont => exact False.elim hq
theorem pe_methS {pl : Sem Bool} (D : DefM X.prog X.w X.K X.mg X.base CX j C m ps sp) (c : Cls X.K C) (hr : Room k X.A) (hx : PassesS CX X EE) (he : PE X o ta) (ha : PA X (e :: es) t) (hj : j ≤ k := by decide)
    (hst : starEach (e :: es) X.env = (false, eval e X.env) :: starEach es X.env := by rfl) (hpl : (backTo pos (starEach es X.env)).any (·.1) = false := by rfl)
    (ht : eval (.Call (.Attribute o m apos) (e :: es) [] pos) X.env = (do
      let ov ← eval o X.env
      standAt apos.atName
      let (f, first) ← holding [ov] (getMethod ov m pl)
      callWith pos f first (backTo pos (starEach (e :: es) X.env)) (backToKw pos (keywordEach [] X.env))) := by rfl) :
    PE X (.Call (.Attribute o m apos) (e :: es) [] pos) (tMethE C m sp EE ta t) := by
  obtain ⟨f, fd, F, hm, hb⟩ := D.ex
  intro pins s σ H Q I h
  refine PySem.W.methodCall_KW (pl := pl) (thn (he pins s σ H _ I h) fun u s1 ⟨x, H1, I1, rx, a, dx, fs, ex, ea, l, q⟩ => ?_) ht
  subst ex
  obtain rfl : u = Value.ref a := rx
  refine getmeth_ok I1 ea c hm l ?_
  refine PySem.W.callWith_K (first := [.ref a]) (h₀ := X.base) I.ok.mod.kin hm.kp (thn (ha pos pins s1 σ H1 _ I1 q) fun us s2 ⟨vs, H2, I2, r, q2⟩ => ⟨I2.kIn, ?_⟩) hst hpl
  exact run_fnS (us := .ref a :: us) (vs := .ref a :: vs) (F.mono hj) hr hb hx I2 (.cons rfl r) q2
theorem pe_methS0 {pl : Sem Bool} (D : DefM X.prog X.w X.K X.mg X.base CX j C m ps sp) (c : Cls X.K C) (hr : Room k X.A) (hx : PassesS CX X EE) (he : PE X o ta) (hj : j ≤ k := by decide)
    (ht : eval (.Call (.Attribute o m apos) [] [] pos) X.env = (do
      let ov ← eval o X.env
      standAt apos.atName
      let (f, first) ← holding [ov] (getMethod ov m pl)
      callWith pos f first (backTo pos (starEach [] X.env)) (backToKw pos (keywordEach [] X.env))) := by rfl) :
    PE X (.Call (.Attribute o m apos) [] [] pos) (tMethE C m sp EE ta tNil) := by
  obtain ⟨f, fd, F, hm, hb⟩ := D.ex
  intro pins s σ H Q I h
  refine PySem.W.methodCall_KW (pl := pl) (thn (he pins s σ H _ I h) fun u s1 ⟨x, H1, I1, rx, a, dx, fs, ex, ea, l, q⟩ => ?_) ht
  subst ex
  obtain rfl : u = Value.ref a := rx
  refine getmeth_ok I1 ea c hm l ?_
  exact PySem.W.callWith_K0 (first := [.ref a]) I1.kIn hm.kp (run_fnS (us := [.ref a]) (vs := [.ref a]) (F.mono hj) hr hb hx I1 (.cons rfl .nil) q)
theorem pe_makeS (D : DefI X.prog X.w X.K X.mg X.base CX j x C ps sp) (hr : Room k X.A) (hg : Gl X x) (hx : PassesS CX X EE) (ha : PA X (e :: es) t) (hj : j + 1 ≤ k := by decide) (hdb : (x == ("__debug__" : Str)) = false := by decide)
    (he : starEach (e :: es) X.env = (false, eval e X.env) :: starEach es X.env := by rfl) (hpl : (backTo pos (starEach es X.env)).any (·.1) = false := by rfl) :
    PE X (.Call (.Name x p) (e :: es) [] pos) (tMakeE C sp EE t) := by
  obtain ⟨f, fd, F, M, hm, hb⟩ := D.ex
  intro pins s0 σ H0 Q I0 h
  refine wpAny_Call_Name_kw (ld_glob I0 hg hm ?_ hdb)
  refine PySem.W.callWith_K (h₀ := X.base) I0.ok.mod.kin M.kp (thn (ha pos pins s0 σ H0 _ I0 h) fun us s ⟨vs, H, I, r, q⟩ => ⟨I.kIn, ?_⟩) he hpl
  have hq := q (s.heap.objs.size + 1) s.heap.objs.size (I.hok.fresh (Nat.le_succ _)) (I.hok.fresh (Nat.le_refl _)) (Nat.ne_of_lt (Nat.lt_succ_self _))
  have I2 := Inv.made (C := C) I
  have r2 : Vals (V.ref (s.heap.objs.size + 1) :: vs) (Value.ref (s.heap.objs.size + 1) :: us) := .cons rfl r
  have hl : (Value.ref (s.heap.objs.size + 1) :: us).length = ps.length := by
    rw [← r2.length]; exact F.len _ _ _ _ hq
  have hb' := fun s' (h' : X.K.In s'.heap) => hb s' (Value.ref (s.heap.objs.size + 1) :: us) h' (by simpa using hl)
  have hr' : Room (j + 1) X.A := hr.mono hj
  refine wpAny_call (make_map (f := f) I.kIn M.makes M.init (beq_iff_eq.mp M.fn) (codeAny_mono (F.run _ X.stack _ _ ⟨Value.ref (s.heap.objs.size + 1) :: us, []⟩ (Value.ref (s.heap.objs.size + 1) :: us) _ _ (EE σ) (hr'.make C us [])
    (I2.env0.make C us []) (by have := hb' _ I2.kIn; rw [List.append_nil] at this; exact this) r2 hq) fun r s' hq' => ?_))
  cases r with
  | error e => exact hx pins σ _ _ e s' I2 hq'
  | ok fl =>
    cases fl with
    | ret u =>
      obtain ⟨v, H', I3, rv, ev, q3⟩ := I2.after hq'
      subst ev
      exact ⟨rv, ⟨V.ref (s.heap.objs.size + 1), H', I3, rfl, q3⟩⟩
    | next => exact False.elim hq'
    | brk => exact False.elim hq'
    | cont => exact False.elim hq'
end
section
variable {σ : St} {H : Hp} {Q : VK} {D : Ends} {K : PySem.W.Frag}
theorem rd_methE {C : Addr} {m : Str} {sp : Sp} {EE : St → XK} {ta : TE} {t : TA} : tMethE C m sp EE ta t σ H Q = ta σ H fun x H1 => ∃ a dx fs, x = .ref a ∧ H1 a = some (.ins C dx fs) ∧ fs.lookup m = none ∧ t σ H1 fun vs H2 => sp (x :: vs) H2 Q (EE σ) := rfl
theorem rd_makeE {C : Addr} {sp : Sp} {EE : St → XK} {t : TA} : tMakeE C sp EE t σ H Q = t σ H fun vs H1 => ∀ x dx, H1 x = none → H1 dx = none → dx ≠ x → sp (.ref x :: vs) (upd (upd H1 dx (.own x)) x (.ins C dx [])) (fun v H2 => v = .non ∧ Q (.ref x) H2) (EE σ) := rfl
theorem rd_fld {ta : TE} {f : Str} : tFld K ta f σ H Q = ta σ H fun x H1 => ∃ a C dx fs v, x = .ref a ∧ H1 a = some (.ins C dx fs) ∧ Cls K C ∧ NoAttr K C f ∧ fs.lookup f = some v ∧ Q v H1 := rfl
theorem rd_sfld {ta tv : TE} {f : Str} : sFld K ta tv f D σ H = tv σ H fun y H1 => ta σ H1 fun x H2 => ∃ a C dx fs, x = .ref a ∧ H2 a = some (.ins C dx fs) ∧ Cls K C ∧ NoAttr K C f ∧ fs.length < 1000 ∧ D.nx σ (upd H2 a (.ins C dx (putF f y fs))) := rfl
theorem rd_din {ty td : TE} : tDIn ty td σ H Q = ty σ H fun y H1 => td σ H1 fun x H2 => ∃ a o, x = .ref a ∧ DGet H2 a y o ∧ Q (.bl o.isSome) H2 := rfl
theorem rd_dnotin {ty td : TE} : tDNotIn ty td σ H Q = ty σ H fun y H1 => td σ H1 fun x H2 => ∃ a o, x = .ref a ∧ DGet H2 a y o ∧ Q (.bl (!o.isSome)) H2 := rfl
theorem rd_dget {td ty : TE} : tDGet td ty σ H Q = td σ H fun x H1 => ty σ H1 fun y H2 => ∃ a v, x = .ref a ∧ DGet H2 a y (some v) ∧ Q v H2 := rfl
theorem rd_dput {td ty tv : TE} : sDPut td ty tv D σ H = tv σ H fun v H1 => td σ H1 fun x H2 => ty σ H2 fun y H3 => ∃ a H4, x = .ref a ∧ DPut H3 a y v H4 ∧ D.nx σ H4 := rfl
theorem rd_gtup {n : Nat} {t : TGs} {v : V} {N : St → Hp → Prop} : gTup K n t v σ H N = ∃ a xs, v = .ref a ∧ SqT K H a xs ∧ xs.length = n ∧ t xs σ H N := rfl
end
theorem le_app {a b : Str} {n : Nat} (h1 : a.length ≤ n / 2) (h2 : b.length ≤ n / 2) : (a ++ b).length ≤ n := by
  rw [len_app]; omega
end L2

set_option linter.all false
set_option maxHeartbeats 1000000
namespace N1
open PySem L2
noncomputable def letters : List Nat := List.range' 97 26
noncomputable def figures : List Nat := List.range' 48 10
theorem let_list : (Str.ofString "abcdefghijklmnopqrstuvwxyz").cps.toList = letters := by decide +kernel
theorem fig_list : (Str.ofString "0123456789").cps.toList = figures := by decide +kernel
theorem both_list : (Str.ofString "abcdefghijklmnopqrstuvwxyz0123456789").cps.toList = letters ++ figures := by decide +kernel
theorem both_len : (letters ++ figures).length = 36 := by decide
theorem mem_let {c : Nat} : c ∈ letters ↔ 97 ≤ c ∧ c < 123 := by unfold letters; rw [List.mem_range'_1]
theorem mem_fig {c : Nat} : c ∈ figures ↔ 48 ≤ c ∧ c < 58 := by unfold figures; rw [List.mem_range'_1]
noncomputable def headIn (l : List Nat) (s : List Nat) : Bool := match l with
  | [] => false
  | c :: _ => decide (c ∈ s)
noncomputable def nameB (l : List Nat) : Bool := decide (1 ≤ l.length) && decide (l.length ≤ 8) && headIn l letters && l.all fun c => decide (c ∈ letters ++ figures)
noncomputable def okAt (k c : Nat) : Bool := if c ∈ figures then decide (0 < k) else decide (c ∈ letters)
noncomputable def okFrom : Nat → List Nat → Bool
  | _, [] => true
  | k, c :: r => okAt k c && okFrom (k + 1) r
theorem okAt_pos {k c : Nat} (h : 0 < k) : okAt k c = decide (c ∈ letters ++ figures) := by
  unfold okAt
  by_cases hf : c ∈ figures
  · simp [hf, h]
  · simp [hf]
theorem okFrom_pos : ∀ (l : List Nat) (k : Nat), 0 < k → okFrom k l = l.all fun c => decide (c ∈ letters ++ figures)
  | [], _, _ => rfl
  | c :: r, k, h => by
    show (okAt k c && okFrom (k + 1) r) = _
    rw [okAt_pos h, okFrom_pos r (k + 1) (by omega)]
    rfl
theorem due_eq (l : List Nat) : (decide (0 < l.length) && decide (l.length < 9) && okFrom 0 l) = nameB l := by
  unfold nameB
  cases l with
  | nil => rfl
  | cons c r =>
    show (decide (0 < r.length + 1) && decide (r.length + 1 < 9) && (okAt 0 c && okFrom 1 r)) = (decide (1 ≤ r.length + 1) && decide (r.length + 1 ≤ 8) && decide (c ∈ letters) && (decide (c ∈ letters ++ figures) && r.all fun c => decide (c ∈ letters ++ figures)))
    rw [okFrom_pos r 1 (by omega)]
    have e : (okAt 0 c && r.all fun c => decide (c ∈ letters ++ figures)) = (decide (c ∈ letters) && (decide (c ∈ letters ++ figures) && r.all fun c => decide (c ∈ letters ++ figures))) := by
      unfold okAt
      by_cases hl : c ∈ letters
      · have hf : ¬ c ∈ figures := by rw [mem_let] at hl; rw [mem_fig]; omega
        simp [hl, hf]
      · by_cases hf : c ∈ figures <;> simp [hl, hf]
    rw [e, show decide (r.length + 1 < 9) = decide (r.length + 1 ≤ 8) from decide_eq_decide.mpr (by omega), ← Bool.and_assoc, ← Bool.and_assoc]
    simp only [Bool.and_assoc]
    rfl
end N1

set_option linter.all false
set_option maxHeartbeats 1000000
namespace N1
open PySem L2
end N1

set_option linter.all false
set_option maxHeartbeats 1000000
namespace N1
open PySem L2
noncomputable def tx (l : List Nat) : Str := ⟨l.toArray⟩
theorem T_list {l : List Nat} : (tx l).cps.toList = l := by simp [tx]
theorem T_eq {z : Str} : tx z.cps.toList = z := by cases z; simp [tx]
theorem T_inj {a b : List Nat} (h : tx a = tx b) : a = b := by rw [← T_list (l := a), h, T_list]
theorem T_app {a b : List Nat} : tx a ++ tx b = tx (a ++ b) := by
  have h := app_list (a := tx a) (b := tx b)
  rw [T_list, T_list] at h
  rw [← T_eq (z := tx a ++ tx b), h]
theorem T_len {l : List Nat} : (tx l).length = l.length := by rw [← str_len, T_list]
theorem T_one {c : Nat} : (⟨#[c]⟩ : Str) = tx [c] := rfl
theorem T_nil : Str.ofString "" = tx [] := by decide +kernel
theorem T_empty : Str.empty = tx [] := by decide +kernel
inductive AskR where
  | ok (ps : List (List Nat))
  | many
  | noname
noncomputable def flat : List (List Nat) → List Nat
  | [] => []
  | p :: r => 32 :: p ++ flat r
noncomputable def Low (z : Str) : Prop := ∀ c ∈ z.cps.toList, c < 1000
theorem both_length : (Str.ofString "abcdefghijklmnopqrstuvwxyz0123456789").length = 36 := by decide +kernel
noncomputable def bc (i : Int) : Nat := (letters ++ figures).getD i.toNat 0
theorem ix_bc (i : Int) {k : Int} (h0 : 0 < k) (h1 : k ≤ 36) : atI (Str.ofString "abcdefghijklmnopqrstuvwxyz0123456789").cps.toList (i % k) = some (bc (i % k)) := by
  have h2 := Int.emod_lt_of_pos i h0
  have h3 := Int.emod_nonneg i (show k ≠ 0 by omega)
  refine atI_of h3 ?_
  have h4 : (i % k).toNat < (letters ++ figures).length := by rw [both_len]; omega
  unfold bc
  rw [both_list, List.getD_eq_getElem?_getD, List.getElem?_eq_getElem h4]
  rfl
end N1

set_option linter.all false
set_option maxHeartbeats 1000000
namespace N1
open PySem PySem.Spec PyProof.Rows L2
noncomputable def sp_cell (K : PySem.W.Frag) : Sp := fun vs H Q _ => ∃ (a : Addr) (ns : List Int) (k : Int), vs = [.ref a, .int k] ∧ SqL K H a (ns.map V.int) ∧ 0 ≤ k ∧ ns.length ≤ 63 ∧ Q (.int (ns.getD k.toNat 0)) H
noncomputable def sp_made : Sp := fun vs H Q _ => ∃ (z w : Str), vs = [.str z, .str w] ∧ z.length ≤ sizeLine ∧ ∀ H', Same H H' → Q (.bl (z.cps.toList.all fun c => decide (c ∈ w.cps.toList))) H'
noncomputable def sp_is_name (K : PySem.W.Frag) : Sp := fun vs H Q _ => ∃ (x : V), vs = [x] ∧ ((∃ z : Str, x = .str z ∧ z.length ≤ sizeLine ∧ ∀ H', Same H H' → Q (.bl (nameB z.cps.toList)) H') ∨ (Isi K H x "str" false ∧ Q (.bl false) H))
noncomputable def sp_law (K : PySem.W.Frag) : Sp := fun vs H Q _ => ∃ (a : Addr) (ns : List Int), vs = [.ref a] ∧ SqL K H a (ns.map V.int) ∧ ns.length ≤ 63 ∧ ∀ H', Q (.bl true) H'
end N1

set_option linter.all false
set_option maxHeartbeats 1000000
namespace N1
open PySem PySem.Spec PyProof.Rows L2
inductive StE where
  | noname | twice | nonum | many
noncomputable def nOk : V → Bool
  | .str z => nameB z.cps.toList
  | _ => false
noncomputable def sOf : V → Str
  | .str z => z
  | _ => Str.empty
noncomputable def wIn (lo hi : Int) : V → Bool
  | .int i => decide (lo ≤ i) && decide (i ≤ hi)
  | _ => false
noncomputable abbrev Rw := Addr × V × V × V
noncomputable def rowR (ks : List Str) (n c r : V) : Option StE := if nOk n = false then some .noname else if sOf n ∈ ks then some .twice else if wIn 0 (10 ^ 30) c = false then some .nonum else if wIn 1 1000 r = false then some .nonum else none
noncomputable def stockR (ks : List Str) : List Rw → Option StE
  | [] => none
  | t :: rs => match rowR ks t.2.1 t.2.2.1 t.2.2.2 with
    | some e => some e
    | none => stockR (ks ++ [sOf t.2.1]) rs
noncomputable def initR (rs : List Rw) : Option StE := if 60 < rs.length then some .many else stockR [] rs
noncomputable def NameV (H : Hp) (n : V) : Prop := (∃ z, n = .str z ∧ z.length ≤ 100000) ∨ ((∀ z, n ≠ .str z) ∧ (flatV n = true ∨ ∃ a xs, n = .ref a ∧ H a = some (.tup xs)))
noncomputable def RowAt (K : PySem.W.Frag) (H : Hp) (t : Rw) : Prop := SqT K H t.1 [t.2.1, t.2.2.1, t.2.2.2] ∧ NameV H t.2.1 ∧ flatV t.2.2.1 = true ∧ flatV t.2.2.2 = true
theorem NameV.same {H H' : Hp} {n : V} (s : Same H H') (h : NameV H n) : NameV H' n := h.imp id fun h => ⟨h.1, h.2.imp id fun ⟨a, xs, e, h⟩ => ⟨a, xs, e, s _ _ h⟩⟩
theorem NameV.isi {K : PySem.W.Frag} {H : Hp} {n : V} (h1 : ∀ z, n ≠ .str z) (h2 : flatV n = true ∨ ∃ a xs, n = .ref a ∧ H a = some (.tup xs)) : Isi K H n "str" false := by
  rcases h2 with h | ⟨a, xs, rfl, h⟩
  · cases n with
    | non => exact isi_ns
    | bl b => exact isi_bs
    | int i => exact isi_is
    | str z => exact absurd rfl (h1 z)
    | _ => cases h
  · exact isi_tups h
theorem num_isi {K : PySem.W.Frag} {H : Hp} {v : V} (h : flatV v = true) : ∃ b c, Isi K H v "int" b ∧ (b = true → Isi K H v "bool" c) ∧ ((b && !c) = true → ∃ i, v = .int i) ∧ ((b && !c) = false → ∀ i, v ≠ .int i) := by
  cases v with
  | non => exact ⟨false, false, isi_ni, fun h => by (cases h), fun h => by (cases h), fun _ i h => by cases h⟩
  | bl b => exact ⟨true, true, isi_bi, fun _ => isi_bb, fun h => by (cases h), fun _ i h => by cases h⟩
  | int i => exact ⟨true, false, isi_ii, fun _ => isi_ib, fun _ => ⟨i, rfl⟩, fun h => by cases h⟩
  | str z => exact ⟨false, false, isi_si, fun h => by (cases h), fun h => by (cases h), fun _ i h => by cases h⟩
  | _ => cases h
noncomputable def sp_is_whole (K : PySem.W.Frag) : Sp := fun vs H Q _ => ∃ (x : V) (b c : Bool), vs = [x] ∧ Isi K H x "int" b ∧ (b = true → Isi K H x "bool" c) ∧ Q (.bl (b && !c)) H
noncomputable def sp_within (K : PySem.W.Frag) : Sp := fun vs H Q _ => ∃ (v : V) (lo hi : Int), vs = [v, .int lo, .int hi] ∧ flatV v = true ∧ Q (.bl (wIn lo hi v)) H
noncomputable def SameBut (p : Addr) (H H' : Hp) : Prop := ∀ b o, H b = some o → b ≠ p → H' b = some o
theorem SameBut.trans {p : Addr} {H H1 H2 : Hp} (h1 : SameBut p H H1) (h2 : SameBut p H1 H2) : SameBut p H H2 := fun b o e n => h2 b o (h1 b o e n) n
theorem SameBut.of {p : Addr} {H H1 : Hp} (h : Same H H1) : SameBut p H H1 := fun b o e _ => h b o e
theorem sameBut_upd {p : Addr} {H : Hp} {o : HO} : SameBut p H (upd H p o) := fun b u e n => by rw [upd_ne n]; exact e
noncomputable abbrev Th := Str × Int × Int
noncomputable def flds (d : Addr) : List (Str × V) := putF "things" (.ref d) []
structure StockAt (K : PySem.W.Frag) (C : Addr) (H : Hp) (p : Addr) (ts : List Th) : Prop where
  ex : ∃ (dx d : Addr) (kvs : List (Key × V)), H p = some (.ins C dx (flds d)) ∧ H d = some (.dK kvs) ∧ kvs.map (·.1) = ts.map (fun t => Sum.inr t.1) ∧
    ∀ (i : Nat) (t : Th), ts[i]? = some t → ∃ a, kvs[i]? = some (Sum.inr t.1, .ref a) ∧ SqT K H a [.int i, .int t.2.1, .int t.2.2]
theorem StockAt.same {K : PySem.W.Frag} {C : Addr} {H H' : Hp} {p : Addr} {ts : List Th} (s : Same H H') (h : StockAt K C H p ts) : StockAt K C H' p ts := by
  obtain ⟨dx, d, kvs, h1, h2, h3, h4⟩ := h.ex
  refine ⟨dx, d, kvs, s _ _ h1, s _ _ h2, h3, fun i t e => ?_⟩
  obtain ⟨a, e1, e2⟩ := h4 i t e
  exact ⟨a, e1, s.tup e2⟩
noncomputable def iOf : V → Int
  | .int i => i
  | _ => 0
noncomputable def thOf (t : Rw) : Th := (sOf t.2.1, iOf t.2.2.1, iOf t.2.2.2)
theorem SqT.but {K : PySem.W.Frag} {H H' : Hp} {p a C dx : Addr} {fs : List (Str × V)} {xs : List V} (s : SameBut p H H') (hp : H p = some (.ins C dx fs)) (h : SqT K H a xs) : SqT K H' a xs := by
  rcases h with (h | ⟨o, h⟩) | h
  · exact .inl (.inl (s _ _ h (ne_of h hp (by intro z; cases z))))
  · exact .inl (.inr ⟨o, s _ _ h (ne_of h hp (by intro z; cases z))⟩)
  · exact .inr h
theorem SqL.but {K : PySem.W.Frag} {H H' : Hp} {p a C dx : Addr} {fs : List (Str × V)} {xs : List V} (s : SameBut p H H') (hp : H p = some (.ins C dx fs)) (h : SqL K H a xs) : SqL K H' a xs := by
  rcases h with (h | ⟨o, h⟩) | h
  · exact .inl (.inl (s _ _ h (ne_of h hp (by intro z; cases z))))
  · exact .inl (.inr ⟨o, s _ _ h (ne_of h hp (by intro z; cases z))⟩)
  · exact .inr h
theorem RowAt.but {K : PySem.W.Frag} {H H' : Hp} {p C dx : Addr} {fs : List (Str × V)} {t : Rw} (s : SameBut p H H') (hp : H p = some (.ins C dx fs)) (h : RowAt K H t) : RowAt K H' t :=
  ⟨SqT.but s hp h.1, h.2.1.imp id fun h => ⟨h.1, h.2.imp id fun ⟨a, xs, e, h⟩ => ⟨a, xs, e, s _ _ h (ne_of h hp (by intro z; cases z))⟩⟩, h.2.2⟩
theorem key_mem {kvs : List (Key × V)} {ks : List Str} {z : Str} (h : kvs.map (·.1) = ks.map Sum.inr) : (valV kvs (Sum.inr z)).isSome = decide (z ∈ ks) := by
  have e : (Sum.inr z : Key) ∈ kvs.map (·.1) ↔ z ∈ ks := by
    rw [h, List.mem_map]
    constructor
    · rintro ⟨a, ha, e⟩; injection e with e; subst e; exact ha
    · intro h; exact ⟨z, h, rfl⟩
  cases hv : valV kvs (Sum.inr z : Key) with
  | none => rw [decide_eq_false fun q => valV_not hv (e.mpr q)]; rfl
  | some v => rw [decide_eq_true (e.mp (valV_in hv))]; rfl
theorem flds_things {d : Addr} : (flds d).lookup ("things" : Str) = some (V.ref d) := by
  unfold flds
  rw [lookup_putF, if_pos rfl]
theorem rowR_none {ks : List Str} {n co r : V} (h : rowR ks n co r = none) : ∃ z c q, n = .str z ∧ co = .int c ∧ r = .int q ∧ ¬ z ∈ ks ∧ nameB z.cps.toList = true ∧ 0 ≤ c ∧ c ≤ 10 ^ 30 ∧ 1 ≤ q ∧ q ≤ 1000 := by
  unfold rowR at h
  split at h
  · cases h
  rename_i h1
  split at h
  · cases h
  rename_i h2
  split at h
  · cases h
  rename_i h3
  split at h
  · cases h
  rename_i h4
  cases n with
  | str z =>
    cases co with
    | int c =>
      cases r with
      | int q =>
        simp only [wIn, Bool.and_eq_false_iff, decide_eq_false_iff_not, not_or, Decidable.not_not] at h3 h4
        exact ⟨z, c, q, rfl, rfl, rfl, h2, by simpa [nOk] using h1, h3.1, h3.2, h4.1, h4.2⟩
      | _ => exact absurd rfl h4
    | _ => exact absurd rfl h3
  | _ => exact absurd rfl h1
theorem stockR_step {ks : List Str} {rs : List Rw} {i : Nat} {t : Rw} (h : rs[i]? = some t) : stockR ks (rs.drop i) = match rowR ks t.2.1 t.2.2.1 t.2.2.2 with
    | some e => some e
    | none => stockR (ks ++ [sOf t.2.1]) (rs.drop (i + 1)) := by
  have e : rs.drop i = t :: rs.drop (i + 1) := by
    obtain ⟨hi, rfl⟩ := List.getElem?_eq_some_iff.mp h
    exact List.drop_eq_getElem_cons hi
  rw [e]
  rfl
noncomputable def nmsOf (rs : List Rw) : List Str := rs.map fun t => sOf t.2.1
structure MidAt (K : PySem.W.Frag) (H : Hp) (d : Addr) (rs : List Rw) : Prop where
  ex : ∃ kvs : List (Key × V), H d = some (.dK kvs) ∧ kvs.map (·.1) = (nmsOf rs).map Sum.inr ∧ ∀ (j : Nat) (t : Rw), rs[j]? = some t → ∃ a, kvs[j]? = some (Sum.inr (sOf t.2.1), .ref a) ∧ SqT K H a [.int j, .int (iOf t.2.2.1), .int (iOf t.2.2.2)]
theorem MidAt.snoc {K : PySem.W.Frag} {H : Hp} {d a : Addr} {rs : List Rw} {t : Rw} {kvs : List (Key × V)} {c q : Int} {z : Str} (h1 : H d = some (.dK kvs)) (h2 : kvs.map (·.1) = (nmsOf rs).map Sum.inr)
    (h3 : ∀ (j : Nat) (t : Rw), rs[j]? = some t → ∃ a, kvs[j]? = some (Sum.inr (sOf t.2.1), .ref a) ∧ SqT K H a [.int j, .int (iOf t.2.2.1), .int (iOf t.2.2.2)])
    (e1 : t.2.1 = .str z) (e2 : t.2.2.1 = .int c) (e3 : t.2.2.2 = .int q) (nz : ¬ z ∈ nmsOf rs) (ha : H a = some (.tup [.int kvs.length, .int c, .int q])) :
    MidAt K (upd H d (.dK (putK kvs (Sum.inr z) (.ref a)))) d (rs ++ [t]) := by
  have hl : kvs.length = rs.length := by
    have := congrArg List.length h2
    simpa [nmsOf] using this
  have hv : valV kvs (Sum.inr z : Key) = none := by
    have := key_mem (z := z) h2
    rw [decide_eq_false nz] at this
    cases h : valV kvs (Sum.inr z : Key) with
    | none => rfl
    | some v => rw [h] at this; cases this
  have keep2 : ∀ {b : Addr} {xs : List V} {o : List (Key × V)}, SqT K H b xs → SqT K (upd H d (.dK o)) b xs := fun {b xs o} h => by
    rcases h with (h | ⟨o', h⟩) | h
    · exact .inl (.inl (by rw [upd_ne (ne_of h h1 (by intro z; cases z))]; exact h))
    · exact .inl (.inr ⟨_, by rw [upd_ne (ne_of h h1 (by intro z; cases z))]; exact h⟩)
    · exact .inr h
  refine ⟨_, upd_same, ?_, fun j t' hj => ?_⟩
  · rw [putK_new _ hv, List.map_append, h2]
    simp [nmsOf, e1, sOf]
  · rw [putK_new _ hv]
    by_cases hlt : j < rs.length
    · rw [List.getElem?_append_left hlt] at hj
      obtain ⟨b, e, hb⟩ := h3 j t' hj
      exact ⟨b, by rw [List.getElem?_append_left (by omega)]; exact e, keep2 hb⟩
    · rw [List.getElem?_append_right (by omega)] at hj
      have hj0 : j - rs.length = 0 := by
        have := (List.getElem?_eq_some_iff.mp hj).1
        simp at this; omega
      rw [hj0] at hj
      cases hj
      have ej : j = rs.length := by omega
      subst ej
      refine ⟨a, ?_, ?_⟩
      · rw [← hl, List.getElem?_append_right (by omega)]; simp [e1, sOf]
      · rw [e2, e3]
        refine keep2 (SqT.of ?_)
        rw [ha, hl]; rfl
end N1

set_option linter.all false
set_option maxHeartbeats 1000000
namespace L2
open PySem PySem.Spec PyProof.Rows
section
variable {X : Cx} {pins : List (Addr × Obj)} {σ : St} {H : Hp} {s : Shared}
end
theorem rd_setL {o i v : V} {H : Hp} {Q : Hp → Prop} : rSetL o i v H Q = ∃ p xs k j, o = .ref p ∧ i = .int k ∧ H p = some (.lst xs) ∧ ixN xs.length k = some j ∧ Q (upd H p (.lst (xs.set j v))) := rfl
end L2
namespace N5
open PySem PySem.Spec PyProof.Rows L2 N1
noncomputable def md (j : Nat) : Int := if j = 0 then 26 else 36
noncomputable def sgn (F : Nat → Int) (at' : Int) (k j : Nat) : Nat := bc ((F j + if (j : Int) = at' then (k : Int) else 0) % md j)
noncomputable def nmL (F : Nat → Int) (at' : Int) (long k : Nat) : List Nat := (List.range long).map (sgn F at' k)
theorem bc_let {i : Int} : bc (i % 26) ∈ letters := by
  have h1 := Int.emod_nonneg i (show (26 : Int) ≠ 0 by decide)
  have h2 := Int.emod_lt_of_pos i (show (0 : Int) < 26 by decide)
  unfold bc
  generalize i % 26 = x at *
  have h3 : x.toNat < letters.length := by simp [letters]; omega
  rw [List.getD_eq_getElem?_getD, List.getElem?_append_left h3, List.getElem?_eq_getElem h3]
  exact List.getElem_mem h3
theorem bc_both {i : Int} : bc (i % 36) ∈ letters ++ figures := by
  have h1 := Int.emod_nonneg i (show (36 : Int) ≠ 0 by decide)
  have h2 := Int.emod_lt_of_pos i (show (0 : Int) < 36 by decide)
  unfold bc
  generalize i % 36 = x at *
  have h3 : x.toNat < (letters ++ figures).length := by rw [both_len]; omega
  rw [List.getD_eq_getElem?_getD, List.getElem?_eq_getElem h3]
  exact List.getElem_mem h3
theorem bc_inj {x y : Int} (hx0 : 0 ≤ x) (hx : x < 36) (hy0 : 0 ≤ y) (hy : y < 36) (h : bc x = bc y) : x = y := by
  have key : ∀ a : Fin 36, ∀ b : Fin 36, (letters ++ figures).getD a.val 0 = (letters ++ figures).getD b.val 0 → a = b := by decide +kernel
  have := key ⟨x.toNat, by omega⟩ ⟨y.toNat, by omega⟩ h
  have := congrArg Fin.val this
  simp at this
  omega
theorem nmL_name {F : Nat → Int} {at' : Int} {long k : Nat} (h1 : 1 ≤ long) (h2 : long ≤ 8) : nameB (nmL F at' long k) = true := by
  obtain ⟨n, rfl⟩ : ∃ n, long = n + 1 := ⟨long - 1, by omega⟩
  have hall : ∀ c ∈ nmL F at' (n + 1) k, c ∈ letters ++ figures := by
    intro c hc
    obtain ⟨j, _, rfl⟩ := List.mem_map.mp hc
    have hm : md j = 26 ∨ md j = 36 := by unfold md; split <;> simp
    unfold sgn
    rcases hm with hm | hm <;> rw [hm]
    · exact List.mem_append_left _ bc_let
    · exact bc_both
  have hl : (nmL F at' (n + 1) k).length = n + 1 := by simp [nmL]
  have hh : headIn (nmL F at' (n + 1) k) letters = true := by
    unfold nmL
    rw [List.range_succ_eq_map, List.map_cons]
    show decide (sgn F at' k 0 ∈ letters) = true
    rw [decide_eq_true_eq]
    unfold sgn md
    rw [if_pos rfl]
    exact bc_let
  unfold nameB
  rw [hl, hh, decide_eq_true h1, decide_eq_true h2]
  simp only [Bool.true_and]
  exact List.all_eq_true.mpr fun c hc => decide_eq_true (hall c hc)
noncomputable def dueS (at' ways : Int) : Str := if ways % 2 = 1 then Str.ofString "no name" else if ways / 2 % 2 = 1 ∧ 0 < at' then Str.ofString "twice" else if 3 < ways then Str.ofString "no number" else Str.ofString "nothing"
structure Good (ys : List Str) (i : Nat) (t : Rw) : Prop where
  n : ∃ z, ys[i]? = some z ∧ t.2.1 = .str z
  c : ∃ c, t.2.2.1 = .int c ∧ 0 ≤ c ∧ c ≤ 10 ^ 30
  r : ∃ r, t.2.2.2 = .int r ∧ 1 ≤ r ∧ r ≤ 1000
structure Kind (ys : List Str) (i : Nat) (ways : Int) (t : Rw) : Prop where
  n1 : ways % 2 = 1 → nOk t.2.1 = false
  n2 : ways % 2 = 0 → ways / 2 % 2 = 1 ∧ 0 < i → ∃ j z, j < i ∧ ys[j]? = some z ∧ t.2.1 = .str z
  n3 : ways % 2 = 0 → ¬ (ways / 2 % 2 = 1 ∧ 0 < i) → ∃ z, ys[i]? = some z ∧ t.2.1 = .str z
  c1 : ways / 4 % 2 = 1 → wIn 0 (10 ^ 30) t.2.2.1 = false
  c2 : ways / 4 % 2 = 0 → wIn 0 (10 ^ 30) t.2.2.1 = true
  r1 : ways / 8 % 2 = 1 → wIn 1 1000 t.2.2.2 = false
  r2 : ways / 8 % 2 = 0 → wIn 1 1000 t.2.2.2 = true
theorem Good.kind {ys : List Str} {i : Nat} {t : Rw} (g : Good ys i t) : Kind ys i 0 t := by
  obtain ⟨c, ec, h1, h2⟩ := g.c
  obtain ⟨r, er, h3, h4⟩ := g.r
  have e1 : wIn 0 (10 ^ 30) t.2.2.1 = true := by rw [ec]; simp only [wIn]; rw [decide_eq_true h1, decide_eq_true h2]; rfl
  have e2 : wIn 1 1000 t.2.2.2 = true := by rw [er]; simp only [wIn]; rw [decide_eq_true h3, decide_eq_true h4]; rfl
  exact ⟨fun h => by simp at h, fun _ h => by simp at h, fun _ _ => g.n, fun h => by simp at h, fun _ => e1, fun h => by simp at h, fun _ => e2⟩
theorem ne1 : Str.ofString "no name" ≠ Str.ofString "nothing" := by decide +kernel
theorem ne2 : Str.ofString "twice" ≠ Str.ofString "nothing" := by decide +kernel
theorem SqT.butL {K : PySem.W.Frag} {H H' : Hp} {p a : Addr} {zs : List V} {xs : List V} (s : SameBut p H H') (hp : H p = some (.lst zs)) (h : SqT K H a xs) : SqT K H' a xs := by
  rcases h with (h | ⟨o, h⟩) | h
  · exact .inl (.inl (s _ _ h (ne_of h hp (by intro z; cases z))))
  · exact .inl (.inr ⟨o, s _ _ h (ne_of h hp (by intro z; cases z))⟩)
  · exact .inr h
theorem RowAt.butL {K : PySem.W.Frag} {H H' : Hp} {p : Addr} {zs : List V} {t : Rw} (s : SameBut p H H') (hp : H p = some (.lst zs)) (h : RowAt K H t) : RowAt K H' t :=
  ⟨SqT.butL s hp h.1, h.2.1.imp id fun h => ⟨h.1, h.2.imp id fun ⟨a, xs, e, h⟩ => ⟨a, xs, e, s _ _ h (ne_of h hp (by intro z; cases z))⟩⟩, h.2.2⟩
theorem RowAt.same {K : PySem.W.Frag} {H H' : Hp} {t : Rw} (s : Same H H') (h : RowAt K H t) : RowAt K H' t := ⟨s.tup h.1, h.2.1.same s, h.2.2⟩
theorem same_made {H H' : Hp} {x dx C : Addr} (hx : H x = none) (hd : H dx = none) (s : SameBut x (upd (upd H dx (.own x)) x (.ins C dx [])) H') : Same H H' := fun b o e => by
  have n1 := ne_of_none e hx
  have n2 := ne_of_none e hd
  exact s b o (by rw [upd_ne n1, upd_ne n2]; exact e) n1
theorem RowAt.made {K : PySem.W.Frag} {H : Hp} {x dx C : Addr} {t : Rw} (hx : H x = none) (hd : H dx = none) (h : RowAt K H t) : RowAt K (upd (upd H dx (.own x)) x (.ins C dx [])) t := RowAt.same (same_made hx hd fun b o e _ => e) h
theorem name_len {z : Str} (h : nameB z.cps.toList = true) : z.length ≤ 8 := by
  unfold nameB at h
  simp only [Bool.and_eq_true, decide_eq_true_eq] at h
  have := h.1.1.2
  rw [str_len] at this; exact this
noncomputable def Inv5 (ys : List Str) (rs : List Rw) (ds : List Str) : Prop := ∀ (i : Nat) t d, rs[i]? = some t → ds[i]? = some d → ∃ ways : Int, 0 ≤ ways ∧ ways < 16 ∧ d = dueS i ways ∧ Kind ys i ways t
theorem Inv5.set {ys : List Str} {rs : List Rw} {ds : List Str} {i : Nat} {ways : Int} {t : Rw} (h : Inv5 ys rs ds) (h0 : 0 ≤ ways) (h1 : ways < 16) (k : Kind ys i ways t) : Inv5 ys (rs.set i t) (ds.set i (dueS i ways)) := by
  intro j t' d' e1 e2
  rw [List.getElem?_set] at e1 e2
  by_cases hj : i = j
  · subst hj
    rw [if_pos rfl] at e1 e2
    split at e1
    · split at e2
      · cases e1
        cases e2
        exact ⟨ways, h0, h1, rfl, k⟩
      · cases e2
    · cases e1
  · rw [if_neg hj] at e1 e2
    exact h j t' d' e1 e2
theorem Inv5.start {ys : List Str} {gs : List Rw} {n : Nat} (h : ∀ (j : Nat) t, gs[j]? = some t → Good ys j t) : Inv5 ys gs (List.replicate n (Str.ofString "nothing")) := by
  intro i t d e1 e2
  have ed : d = Str.ofString "nothing" := List.eq_of_mem_replicate (List.mem_of_getElem? e2)
  refine ⟨0, by omega, by omega, ?_, (h i t e1).kind⟩
  rw [ed]
  unfold dueS
  rw [if_neg (by decide), if_neg (fun h => by have := h.1; revert this; decide), if_neg (by decide)]
end N5

set_option Elab.async false
set_option linter.all false
set_option maxRecDepth 100000
set_option maxHeartbeats 4000000
namespace L2
open PySem PySem.Spec PyProof.Rows
open Sem (wp)

section
variable {Pg : Program} {w : World} {A : Around} {E : Value → Shared → Prop} {h : Heap} {g : Array GenState} {d : Drawn} {t : Nat} {os : OsState}
variable {nm q : Str} {C N : Addr} {bs bm bmB : List Value} {hd : Bool} {sn : List Str} {su : List Value} {ab : Bool} {co : Option Bool} {dd : Option Addr} {k0 k1 k2 k3 k5 : Option Value} {B nw ni : String}
noncomputable abbrev bareExc (h : Heap) (C : Addr) : Obj := { cls := .ref C, data := .fields #[.ref h.objs.size, .none, .none, .none, .bool false, .none] }
noncomputable abbrev twoMore (h : Heap) (C : Addr) (rest : List Value) : Heap := (h.push { cls := .type "tuple", data := .seq rest.toArray }).push (bareExc h C)
theorem keep2 {rest : List Value} : ∀ b o, h.get? b = some o → (twoMore h C rest).get? b = some o := fun _ _ e => Heap.get?_push_of_some _ (Heap.get?_push_of_some _ e)
end
section
open PySem.W PySem.Builtin PySem.Builtin.ObjectAttr
variable {Pg : Program} {w : World} {A : Around} {R : Result → Shared → Prop} {s : Shared} {K : Frag} {x C B : Addr} {ox : Obj} {od : Option Obj} {cd : ClassData} {f : Str} {tk : Tok} {v : Value}
noncomputable abbrev veTail : List Value := [.type "ValueError", .type "Exception", .type "BaseException", .type "object"]
end
section
variable {X : Cx} {pins : List (Addr × Obj)} {σ : St} {H : Hp} {x : Addr} {s : Shared} {h' : Heap} {o : HO} {t' : Nat}
end
section
variable {X : Cx} {C : Addr} {x : Str} {p pos : Pos} {e : Expr} {es : List Expr} {t : TA}
end
structure ExcG (K : PySem.W.Frag) (C : Addr) : Prop where
  ga : PySem.W.findIn K (.ref C) "__getattribute__" = some (some (.builtin "BaseException.__getattribute__"))
  gh : PySem.W.findIn K (.ref C) "__getattr__" = some none
structure ExcQ (K : PySem.W.Frag) (C B : Addr) : Prop extends ExcG K C where
  cd : ∃ cd : ClassData, PySem.W.clsIn K C = some cd ∧ cd.mro = .ref C :: .ref B :: veTail ∧ cd.hasDict = true
  sa : PySem.W.findIn K (.ref C) "__setattr__" = some (some (.builtin "object.__setattr__"))
section
variable {X : Cx} {pins : List (Addr × Obj)} {σ : St} {H : Hp} {s : Shared} {nw : Bool} {a dx C B : Addr} {fs : List (Str × V)} {f : Str} {v : V} {A : Around} {E : Value → Shared → Prop}
theorem ExcQ.hd {K : PySem.W.Frag} (q : ExcQ K C B) : PySem.W.hasDictIn K C = true := by
  obtain ⟨cd, c1, _, c3⟩ := q.cd
  unfold PySem.W.hasDictIn
  rw [c1]; exact c3
end
section
variable {X : Cx} {pins : List (Addr × Obj)} {σ : St} {H H1 : Hp} {s s1 : Shared} {x : Addr} {o : HO}
theorem Inv.track (I : Inv X pins σ H1 s1) (hex : X.ex = []) (hn : s1.heap.get? x = none) (J : Inv X pins σ H s) (hx : H x = none) (new : ObjOk X.prog X.w (upd H x o) s.heap x o) : Inv X pins σ (upd H x o) s := by
  have n0 : X.s₀.heap.get? x = none := by
    cases q : X.s₀.heap.get? x with
    | none => rfl
    | some v => obtain ⟨o1, e1⟩ := I.base.there x v q (by rw [hex]; simp); rw [hn] at e1; cases e1
  have nl : x ≠ X.env.locals := by
    rintro rfl
    obtain ⟨m, ⟨o1, es, ep, e, _⟩, _⟩ := I.loc
    rw [hn] at e; cases e
  have nc : ∀ y c, X.env.cells.lookup y = some c → c ≠ x := by
    rintro y c hc rfl
    obtain ⟨v, o1, e, _⟩ := I.cell y c hc
    rw [hn] at e; cases e
  have np : ∀ p ∈ X.pn ++ pins, p.1 ≠ x := fun p hp z => by
    have e := (I.pin p hp).1
    rw [z, hn] at e; cases e
  refine ⟨J.ok, J.os, J.bare, ⟨J.base.keep, J.base.slot, fun b o e n hb => ?_, J.base.there, fun b xs e => ?_, fun b o v e => ?_, fun b ps e => ?_⟩, J.loc, J.cell, ?_, fun y c hc => ?_, fun p hp => ?_, fun b u e => ?_, J.len⟩
  · rw [upd_ne (by rintro rfl; rw [n0] at e; cases e)]; exact J.base.free b o e n hb
  · have e1 := J.base.tups b xs e; rw [upd_ne (ne_of_none e1 hx)]; exact e1
  · have e1 := J.base.frzs b o v e; rw [upd_ne (ne_of_none e1 hx)]; exact e1
  · obtain ⟨m, e1⟩ := J.base.tbls b ps e; exact ⟨m, by rw [upd_ne (ne_of_none e1 hx)]; exact e1⟩
  · rw [upd_ne nl.symm]; exact J.free
  · rw [upd_ne (nc y c hc)]; exact J.freeC y c hc
  · obtain ⟨a1, a2, a3, a4, a5⟩ := J.pin p hp
    exact ⟨a1, by rw [upd_ne (np p hp)]; exact a2, a3, a4, a5⟩
  · by_cases hb : b = x
    · subst hb
      rw [upd_same] at e; cases e
      exact new
    · rw [upd_ne hb] at e
      exact (J.hok b u e).stay (fun _ _ _ q => q) (fun c q => by rw [upd_ne (ne_of_none q hx)]; exact q) fun c xs q => by rw [upd_ne (ne_of_none q hx)]; exact q
end
section
variable {X : Cx} {CX : CXT} {k j : Nat} {C B : Addr} {ps : List Str} {sp : Sp} {EE : St → XK} {f m : Str} {pos pos' apos : Pos} {e o value : Expr} {ta tv : TE}
end
structure MkX (K : PySem.W.Frag) (C f : Addr) : Prop where
  at_ : ∀ h : Heap, K.In h → ∃ (nm q : Str) (N : Addr) (bs bm : List Value) (hd : Bool) (sn : List Str) (su : List Value) (ab : Bool) (co : Option Bool) (dd : Option Addr) (k0 k1 k2 k3 k5 : Option Value) (mN : Str → Option Value),
    h.get? C = some (excClassObj nm q C N bs bm hd sn su ab co dd k0 k1 k2 k3 k5 "ValueError.__new__") ∧ h.Ns N mN ∧ mN "__init__" = some (.ref f) ∧ OwnTail h veTail bm
  fn : ∃ oI : Obj, K.lookup f = some oI ∧ oI.cls = .type "function"
  kp : PySem.W.keepIn K (.ref C) = true
structure DefX (P : Program) (w : World) (K : PySem.W.Frag) (mg : Str → Option Value) (base : Heap) (CX : CXT) (k : Nat) (x : Str) (C : Addr) (ps : List Str) (sp : Sp) : Prop where
  ex : ∃ (f : Addr) (fd : FuncData), FnOk P w K mg base CX k f fd ps sp ∧ MkX K C f ∧ mg x = some (.ref C) ∧ Binds K fd ps []
section
variable {X : Cx} {CX : CXT} {k j : Nat} {C : Addr} {ps : List Str} {sp : Sp} {EE : St → XK} {x : Str} {p pos : Pos} {e : Expr} {es : List Expr} {t : TA}
end
end L2

set_option Elab.async false
set_option linter.all false
set_option maxRecDepth 100000
set_option maxHeartbeats 4000000
namespace L2
open PySem PySem.Spec PyProof.Rows
open Sem (wp)

noncomputable def Lies (h : Heap) (x C : Addr) (od : Option Addr) : Prop := ∃ vs sl, h.get? x = some ⟨.ref C, od, .fields vs, sl⟩
section
variable {M : Model} {A : Around} {E : Value → Shared → Prop} {s : Shared} {base : Heap} {env : Env} {outer l : List Env} {L x C : Addr} {od : Option Addr} {vs : Array Value} {sl : Array (Option Value)} {a0 fl : Value} {Q : Unit → Shared → Prop}
theorem landD (bs : base.StaysIn s.heap) (ff : s.heap.FunFrames base l) (tr : s.heap.TracedAtW base x (.ref C) a0 fl) (ly : Lies s.heap x C od)
    (q : ∀ h', base.StaysIn h' → h'.FunFrames base l → h'.TracedW base x (.ref C) a0 → s.heap.UpToSlots h' → Lies h' x C od → Q () { s with heap := h' }) : wpAny M A (setFlight (.ref x) none) Q E s := by
  obtain ⟨oe, ws, T, oT, ts, e1, c1, d1, d2, n1, n2, e3, d3, t3⟩ := tr
  obtain ⟨v2, s2, l1⟩ := ly
  have z3 : 3 < ts.size := (Array.getElem?_eq_some_iff.mp t3).1
  unfold setFlight
  refine wpAny_bind (wpAny_field e1 d1 d2 ?_)
  rw [if_pos (show (Value.ref T != Value.none) = true from by simp)]
  have oth : ∀ b, b ≠ T → (s.heap.update T (Obj.mapFields (·.setIfInBounds 3 ((none : Option Addr).elim Value.none fun f => rawInt f)))).get? b = s.heap.get? b := fun b nb => Heap.get?_update_other _ _ (Ne.symm nb)
  have nr : ∀ b o, s.heap.get? b = some o → (∀ us, o.data ≠ .fields us) → b ≠ T := fun b o e n z => by rw [z, e3] at e; cases e; exact n ts d3
  refine wpAny_setField e3 d3 z3 (q _ (fun b o e => (oth b fun z => by rw [z, n1] at e; cases e).trans (bs b o e)) (ff.of_keeps fun b o e n => ⟨o, (oth b (nr b o e n)).trans e, rfl⟩) ?_ (fun b o e n => ⟨o.slots, (oth b (nr b o e n)).trans e⟩) ⟨v2, s2, (oth x (Ne.symm n2)).trans l1⟩)
  exact ⟨oe, ws, T, _, _, (oth x (Ne.symm n2)).trans e1, c1, d1, d2, n1, n2, Heap.get?_update_self _ e3 (Obj.isFreed_of_fields (Obj.data_mapFields d3 _)), Obj.data_mapFields d3 _, by simp [z3]⟩
end

section
variable {X : Cx} {pins : List (Addr × Obj)} {σ : St} {H2 : Hp} {s2 : Shared} {h3 : Heap} {n : Bool} {x C : Addr} {od : Option Addr}
end
section
variable {P : Program} {w : World} {K : PySem.W.Frag} {mg : Str → Option Value} {base : Heap} {N : List Str} {qual : Str} {scope : Scope} {f : Addr} {cd : Value} {A : Around} {outer : List Env} {s : Shared} {H : Hp} {E : XK}
end

structure ExK (K : PySem.W.Frag) (C : Addr) : Prop where
  at_ : ∀ h : Heap, K.In h → ∃ (nm q : Str) (N : Addr) (bs bm : List Value) (hd : Bool) (sn : List Str) (su : List Value) (ab : Bool) (co : Option Bool) (dd : Option Addr) (k0 k1 k2 k3 k5 : Option Value) (nw : String),
    h.get? C = some (excClassObj nm q C N bs bm hd sn su ab co dd k0 k1 k2 k3 k5 nw) ∧ bm.contains (.type "BaseException") = true
theorem ExcC.k {K : PySem.W.Frag} {C : Addr} (M : ExcC K C) : ExK K C := ⟨fun h X => by
  obtain ⟨nm, q, N, bs, bm, hd, sn, su, ab, co, dd, k0, k1, k2, k3, k5, mN, c1, c2, c3, c4⟩ := M.at_ h X
  exact ⟨nm, q, N, bs, bm, hd, sn, su, ab, co, dd, k0, k1, k2, k3, k5, _, c1, c4.hasType (by decide)⟩⟩
theorem MkX.k {K : PySem.W.Frag} {C f : Addr} (M : MkX K C f) : ExK K C := ⟨fun h X => by
  obtain ⟨nm, q, N, bs, bm, hd, sn, su, ab, co, dd, k0, k1, k2, k3, k5, mN, c1, c2, c3, c4⟩ := M.at_ h X
  exact ⟨nm, q, N, bs, bm, hd, sn, su, ab, co, dd, k0, k1, k2, k3, k5, _, c1, c4.hasType (by decide)⟩⟩
section
variable {X : Cx} {H₀ : Hp} {EE : St → XK} {C : Addr} {e : Expr} {ta : TE} {pos : Pos}
end
section
variable {X : Cx} {H₀ : Hp} {CX : CXT} {EE : St → XK} {k j : Nat} {C : Addr} {ps : List Str} {sp : Sp} {x : Str} {np cpos pos : Pos} {e : Expr} {es : List Expr} {t : TA}
end
section
variable {σ : St} {H H₀ : Hp} {Q : VK} {D : Ends} {K : PySem.W.Frag} {C : Addr} {EE : St → XK} {t : TA} {sp : Sp}
end

section
variable {X : Cx} {pins : List (Addr × Obj)} {σ : St} {H : Hp} {x C : Addr} {od : Option Addr} {s : Shared}
theorem Air.landD (Z : Air X pins σ H x (.ref C) s) (ly : Lies s.heap x C od) {M : Model} {A : Around} {Q : Unit → Shared → Prop} {E : Value → Shared → Prop} (h : ∀ s', Air X pins σ H x (.ref C) s' → Lies s'.heap x C od → Q () s') : wpAny M A (setFlight (.ref x) none) Q E s := by
  obtain ⟨H0, s0, a0, B, I, os, bare, u, ok, fl, hB, hx, hn⟩ := Z.ex
  refine L2.landD fl.1 fl.2.2.1 fl.2.2.2.at ly fun h2 b2 g2 t2 u2 l2 => h _ ?_ l2
  obtain ⟨U, ok3, hB3⟩ := stay_of u ok I.frm I.stkFree hB b2 u2
  exact ⟨H0, s0, a0, B, I, os, bare, U, ok3, ⟨b2, fl.2.1, g2, t2⟩, hB3, hx, hn⟩
end
section
variable {X : Cx} {Cn n : Str} {c : Value} {i : Nat} {np pos : Pos} {b₀ : Stmt} {suite : List Stmt} {rest : List ExceptHandler} {ts : Addr → TS} {tr : TH}
end
section
variable {σ : St} {H : Hp} {D : Ends} {K : PySem.W.Frag}
end
section
open PySem.W
end
section
open PySem.W
variable {K : Frag} {C N A f : Addr} {nm q : Str} {bs : List Value} {hdct : Bool} {sn : List Str} {sub : List Value} {ab : Bool} {col : Option Bool} {dd : Option Addr} {k0 k1 k2 k3 k5 : Option Value} {oc c0 oc2 : Value} {od dA od2 : Option Addr} {es es2 : Array DictEntry} {ep ep2 : Nat} {sl slA sl2 : Array (Option Value)} {cdA : ClassData} {nw : String}
end
end L2

set_option Elab.async false
set_option linter.all false
set_option maxRecDepth 100000
set_option maxHeartbeats 4000000
namespace L2
open PySem PySem.Spec PyProof.Rows

theorem kV_of {P : Program} {w : World} {k : Key} {u : Value} (h : (mixKind P w).is k u = true) : RelV (kV k) u := by
  cases k with
  | inl i =>
    cases u <;> first | (exact absurd h (by intro z; cases z)) | skip
    rename_i j t
    have e : j = i := by simpa [mixKind, keyIs, Value.isInt] using h
    exact ⟨t, by rw [e]⟩
  | inr x =>
    cases u <;> first | (exact absurd h (by intro z; cases z)) | skip
    rename_i j t
    have e : j = x := by simpa [mixKind, keyIs, Value.isStrOf] using h
    exact ⟨t, by rw [e]⟩
theorem vals_at : ∀ {xs : List V} {us : List Value}, xs.length = us.length → (∀ (j : Nat) (u : Value), us[j]? = some u → ∃ x, xs[j]? = some x ∧ RelV x u) → Vals xs us
  | [], [], _, _ => .nil
  | x :: xs, u :: us, hl, h => by
    obtain ⟨y, e, r⟩ := h 0 u rfl
    cases e
    exact .cons r (vals_at (by simpa using hl) fun j v e => h (j + 1) v e)
theorem paired_get {α β : Type} {F : α → β → Prop} : ∀ {l : List α} {m : List β}, Paired F l m → ∀ {i : Nat} {b : β}, m[i]? = some b → ∃ a, l[i]? = some a ∧ F a b
  | _, _, .cons r t, 0, b, e => by cases e; exact ⟨_, rfl, r⟩
  | _, _, .cons r t, i + 1, b, e => paired_get t (i := i) e
theorem erase_map {α β : Type} (f : α → β) : ∀ (l : List α) (i : Nat), (l.map f).eraseIdx i = (l.eraseIdx i).map f
  | [], _ => rfl
  | _ :: _, 0 => rfl
  | a :: l, i + 1 => by rw [List.map_cons, List.eraseIdx_cons_succ, List.eraseIdx_cons_succ, List.map_cons, erase_map f l i]
noncomputable def viewO (v d : Addr) : HO := .ext fun h => h.IsValuesView v d
noncomputable def rListD : List V → Hp → VK → Prop := fun xs H Q => ∃ a kvs, xs = [.ref a] ∧ H a = some (.dK kvs) ∧ ∀ l, H l = none → Q (.ref l) (upd H l (.lst (kvs.map fun p => kV p.1)))
noncomputable def rValues : V → List V → Hp → VK → Prop := fun x vs H Q => ∃ a kvs, x = .ref a ∧ vs = [] ∧ H a = some (.dK kvs) ∧ ∀ v, H v = none → Q (.ref v) (upd H v (viewO v a))
noncomputable def rSumV : List V → Hp → VK → Prop := fun xs H Q => ∃ (v d : Addr) (kvs : List (Key × V)) (is : List Int), xs = [.ref v] ∧ H v = some (viewO v d) ∧ H d = some (.dK kvs) ∧ kvs.map (·.2) = is.map V.int ∧ Q (.int is.sum) H
noncomputable def rRemove : V → List V → Hp → VK → Prop := fun x vs H Q => ∃ (l : Addr) (ys : List Str) (z : Str), x = .ref l ∧ vs = [.str z] ∧ H l = some (.lst (ys.map V.str)) ∧ z ∈ ys ∧ Q .non (upd H l (.lst ((ys.erase z).map V.str)))
section
variable {X : Cx}
theorem call_listD (hc : X.calm = true) : CallR X (.type "list") rListD := by
  intro pins s σ H xs us Q I r h
  obtain ⟨a, kvs, rfl, ha, q⟩ := h
  obtain ⟨u, rfl, rx⟩ := vals1 r
  cases rx
  obtain ⟨z, lo, ws, rel, ob, es, ep, e1, e2⟩ := I.hok a _ ha
  have dat : s.heap.DictAt (mixKind X.prog X.w) a ws ep := ⟨ob, es, e1, e2⟩
  refine PySem.W.kdl_call (PySem.W.kdl_dict (knd := mixKind X.prog X.w) (kvs := ws) (ep := ep) lo) (I.ok.hd hc) dat (by rw [← rel.length]; exact z) fun h' tk acc c' kp e hi => ?_
  have hv : Vals (kvs.map fun p => kV p.1) acc.toList := by
    have h1 := hi.1
    have h2 := rel.length
    refine vals_at (by rw [List.length_map]; exact h2.trans (h1.symm.trans (Array.length_toList (xs := acc)).symm)) fun j u ej => ?_
    obtain ⟨k, x, ek, hk⟩ := hi.2 j u (by rw [← Array.getElem?_toList]; exact ej)
    obtain ⟨p, ep', hp⟩ := paired_get rel ek
    exact ⟨kV p.1, by rw [List.getElem?_map, ep']; rfl, by rw [hp.1]; exact kV_of hk⟩
  refine ⟨.ref s.heap.objs.size, _, I.laid (t' := tk) kp (Nat.le_refl _) (show ObjOk X.prog X.w _ h' _ (.lst (kvs.map fun p => kV p.1)) from ⟨by rw [List.length_map]; exact z, acc.toList, c', hv, ?_⟩), rfl, q _ I.fresh⟩
  rw [Array.toArray_toList]; exact e
noncomputable def rIsNB : R2 := fun x y H Q => ∃ a b, x = .bl a ∧ y = .bl b ∧ Q (.bl (!(a == b))) H
end
section
variable {σ : St} {H : Hp} {Q : VK} {xs : List V} {x y : V}
theorem rd_dpop1 {td ty : TE} : tDPop1 td ty σ H Q = td σ H fun x H1 => ∃ a, x = .ref a ∧ IsD H1 a ∧ ty σ H1 fun y H2 => ∃ kvs k v, H2 a = some (.dK kvs) ∧ y = kV k ∧ valV kvs k = some v ∧ Q v (upd H2 a (.dK (dropK kvs k))) := rfl
theorem rd_dget2 {td ty tx : TE} : tDGet2 td ty tx σ H Q = td σ H fun x H1 => ∃ a, x = .ref a ∧ IsD H1 a ∧ ty σ H1 fun y H2 => tx σ H2 fun z H3 => ∃ o, DGet H3 a y o ∧ Q (o.getD z) H3 := rfl
theorem rd_popAt : rPopAt x xs H Q = ∃ l ys i k y, x = .ref l ∧ xs = [.int i] ∧ H l = some (.lst ys) ∧ -(2 ^ 63) ≤ i ∧ i < 2 ^ 63 ∧ seqIndex? i ys.length = some k ∧ ys[k]? = some y ∧ Q y (upd H l (.lst (ys.eraseIdx k))) := rfl
theorem rd_listD : rListD xs H Q = ∃ a kvs, xs = [.ref a] ∧ H a = some (.dK kvs) ∧ ∀ l, H l = none → Q (.ref l) (upd H l (.lst (kvs.map fun p => kV p.1))) := rfl
theorem rd_values : rValues x xs H Q = ∃ a kvs, x = .ref a ∧ xs = [] ∧ H a = some (.dK kvs) ∧ ∀ v, H v = none → Q (.ref v) (upd H v (viewO v a)) := rfl
theorem rd_sumV : rSumV xs H Q = ∃ (v d : Addr) (kvs : List (Key × V)) (is : List Int), xs = [.ref v] ∧ H v = some (viewO v d) ∧ H d = some (.dK kvs) ∧ kvs.map (·.2) = is.map V.int ∧ Q (.int is.sum) H := rfl
theorem rd_remove : rRemove x xs H Q = ∃ (l : Addr) (ys : List Str) (z : Str), x = .ref l ∧ xs = [.str z] ∧ H l = some (.lst (ys.map V.str)) ∧ z ∈ ys ∧ Q .non (upd H l (.lst ((ys.erase z).map V.str))) := rfl
theorem rd_isnB : rIsNB x y H Q = ∃ a b, x = .bl a ∧ y = .bl b ∧ Q (.bl (!(a == b))) H := rfl
end
section
variable {i j : Int} {a b : Bool} {x y : Str}
end
end L2

set_option linter.all false
set_option maxHeartbeats 1000000
namespace L2
open PySem PySem.Spec PyProof.Rows N1 N5
section
variable {K : PySem.W.Frag} {tail : St} {te : Blk → TE} {Q : VK} {H1 : Hp}
theorem compL_ix {a : Addr} {xs : List V} (f : Nat → V) (hS : SqL K H1 a xs) (hz : xs.length ≤ sizeLine) (he : ∀ b i x H Q', xs[i]? = some x → Same H1 H → Q' (f i) H → te b (some x :: tail) H Q')
    (q : ∀ D, H1 D = none → Q (.ref D) (upd H1 D (.lst ((List.range xs.length).map f)))) : CompTail (none :: tail) (fun _ => gName 0) (fun _ => tYes) te Q (Itl K a) H1 := by
  refine comp_by xs.length (fun b D hD => ⟨fun i ys H => i ≤ xs.length ∧ ys = (List.range i).map f ∧ H = upd H1 D (.lst ys), ⟨Nat.zero_le _, rfl, rfl⟩, ?_, ?_, ?_⟩)
  · rintro i ys H ⟨hi, rfl, rfl⟩
    exact upd_same
  · rintro ys H ⟨_, rfl, rfl⟩
    exact ⟨⟨xs, (same_new hD).seq hS, Nat.le_refl _⟩, q D hD⟩
  · rintro i ys H hi ⟨_, rfl, rfl⟩
    refine ⟨⟨xs, xs[i], (same_new hD).seq hS, by simp [hi]⟩, fun x H3 ⟨e3, ex⟩ => ?_⟩
    subst e3
    refine he b i x _ _ (ex xs ((same_new hD).seq hS)) (same_new hD) (compNext upd_same (by rw [List.length_map, List.length_range]; omega) hi ⟨hi, ?_, ?_⟩)
    · rw [List.range_succ]; simp
    · funext a; by_cases ha : a = D <;> simp [upd, ha]
noncomputable def OffLists (P : V → Hp → Prop) : Prop := ∀ y H H' l zs, P y H → H l = some (.lst zs) → SameBut l H H' → P y H'
theorem compR_mk {lo : Int} {n : Nat} (P : Nat → V → Hp → Prop) (hP : ∀ i, OffLists (P i)) (hz : n ≤ sizeLine) (he : ∀ b (i : Nat) H Q', i < n → Same H1 H → (∀ y H', Same H H' → P i y H' → Q' y H') → te b (some (.int (lo + i)) :: tail) H Q')
    (q : ∀ D ys H', H1 D = none → Same H1 H' → H' D = some (.lst ys) → ys.length = n → (∀ i y, ys[i]? = some y → P i y H') → Q (.ref D) H') : CompTail (none :: tail) (fun _ => gName 0) (fun _ => tYes) te Q (Itr lo n) H1 := by
  refine comp_by n (fun b D hD => ⟨fun i ys H => i ≤ n ∧ ys.length = i ∧ H D = some (.lst ys) ∧ Same H1 H ∧ ∀ j y, ys[j]? = some y → P j y H, ⟨Nat.zero_le _, rfl, upd_same, same_new hD, fun j y e => by simp at e⟩, ?_, ?_, ?_⟩)
  · rintro i ys H ⟨hi, _, h, _⟩
    exact h
  · rintro ys H ⟨_, hl, h, sm, hall⟩
    exact ⟨Nat.le_refl _, q D ys H hD sm h hl hall⟩
  · rintro i ys H hi ⟨_, hl, h, sm, hall⟩
    refine ⟨hi, fun x H3 ⟨e3, ex⟩ => ?_⟩
    subst e3 ex
    refine he b i _ _ hi sm fun y H4 sm4 py => ?_
    have h4 := sm4 _ _ h
    have sb : SameBut D H4 (upd H4 D (.lst (ys ++ [y]))) := sameBut_upd
    refine compNext h4 (by omega) hi ⟨hi, by rw [List.length_append, hl]; rfl, upd_same, fun c o e => ?_, fun j y' e => ?_⟩
    · rw [upd_ne (ne_of_none e hD)]; exact sm4 _ _ (sm _ _ e)
    · by_cases hj : j < ys.length
      · rw [List.getElem?_append_left hj] at e
        have := hall j y' e
        exact hP j _ _ _ _ _ this h fun c o e n => by rw [upd_ne n]; exact sm4 _ _ e
      · rw [List.getElem?_append_right (by omega)] at e
        have hj0 : j = i := by have := (List.getElem?_eq_some_iff.mp e).1; simp at this; omega
        subst hj0
        rw [show j - ys.length = 0 by omega] at e
        cases e
        exact hP j _ _ _ _ _ py h4 sb
end
end L2
namespace N4
open PySem PySem.Spec PyProof.Rows L2 N1 N5
noncomputable def sp_checkG (K : PySem.W.Frag) : Sp := fun vs H Q _ => ∃ (n co r : V) (e : Addr) (kvs : List (Key × V)) (ks : List Str), vs = [n, co, r, .ref e] ∧ H e = some (.dK kvs) ∧ kvs.map (·.1) = ks.map Sum.inr ∧ rowR ks n co r = none ∧ ∀ H', Same H H' → Q .non H'
noncomputable def sp_initG (K : PySem.W.Frag) (C : Addr) : Sp := fun vs H Q _ => ∃ (p dx ra : Addr) (rs : List Rw), vs = [.ref p, .ref ra] ∧ H p = some (.ins C dx []) ∧ SqL K H ra (rs.map fun t => V.ref t.1) ∧ (∀ t ∈ rs, SqT K H t.1 [t.2.1, t.2.2.1, t.2.2.2]) ∧ initR rs = none ∧
  ∀ H', SameBut p H H' → StockAt K C H' p (rs.map thOf) → Q .non H'
theorem initR_none {rs : List Rw} (h : initR rs = none) : rs.length ≤ 60 ∧ stockR [] rs = none := by
  unfold initR at h
  split at h
  · cases h
  · exact ⟨by omega, h⟩
theorem wIn_ok {lo hi c : Int} (h1 : lo ≤ c) (h2 : c ≤ hi) : wIn lo hi (.int c) = true := by
  show (decide (lo ≤ c) && decide (c ≤ hi)) = true
  rw [decide_eq_true h1, decide_eq_true h2]; rfl
theorem stockR_ok : ∀ (rs : List Rw) (ks : List Str), (∀ t ∈ rs, ∃ z c q, t.2.1 = .str z ∧ t.2.2.1 = .int c ∧ t.2.2.2 = .int q ∧ nameB z.cps.toList = true ∧ 0 ≤ c ∧ c ≤ 10 ^ 30 ∧ 1 ≤ q ∧ q ≤ 1000) → (ks ++ rs.map fun t => sOf t.2.1).Nodup → stockR ks rs = none
  | [], _, _, _ => rfl
  | t :: rs, ks, h, nd => by
    obtain ⟨z, c, q, e1, e2, e3, hn, h1, h2, h3, h4⟩ := h t (List.mem_cons_self ..)
    have hz : ¬ z ∈ ks := fun hz => by
      rw [List.map_cons, List.nodup_append] at nd
      exact nd.2.2 z hz (sOf t.2.1) (List.mem_cons_self ..) (by rw [e1]; rfl)
    have r0 : rowR ks t.2.1 t.2.2.1 t.2.2.2 = none := by
      unfold rowR
      rw [e1, e2, e3]
      rw [if_neg (by show ¬ nameB z.cps.toList = false; rw [hn]; decide), if_neg (show ¬ sOf (.str z) ∈ ks from hz), if_neg (by rw [wIn_ok h1 h2]; decide), if_neg (by rw [wIn_ok h3 h4]; decide)]
    unfold stockR
    rw [r0]
    refine stockR_ok rs _ (fun t' ht => h t' (List.mem_cons_of_mem _ ht)) ?_
    rw [List.append_assoc]
    exact nd
theorem valV_nth {kvs : List (Key × V)} {i : Nat} {k : Key} {v : V} (nd : (kvs.map (·.1)).Nodup) (e : kvs[i]? = some (k, v)) : valV kvs k = some v := by
  induction kvs generalizing i with
  | nil => rw [List.getElem?_nil] at e; cases e
  | cons p r ih =>
    cases i with
    | zero => cases e; exact valV_pos rfl
    | succ i =>
      rw [List.map_cons, List.nodup_cons] at nd
      have hm : (k, v) ∈ r := List.mem_of_getElem? e
      rw [valV_neg (fun z => nd.1 (by rw [z]; exact List.mem_map_of_mem (f := (·.1)) hm))]
      exact ih nd.2 e
theorem inr_nodup {ks : List Str} (h : ks.Nodup) : (ks.map (Sum.inr : Str → Key)).Nodup := by
  unfold List.Nodup at *
  rw [List.pairwise_map]
  exact h.imp fun n e => n (by injection e)
section
variable {K : PySem.W.Frag} {C : Addr} {H H' : Hp} {p : Addr} {ts : List Th} {z : Str}
theorem StockAt.has (h : StockAt K C H p ts) : ∃ dx d kvs, H p = some (.ins C dx (flds d)) ∧ H d = some (.dK kvs) ∧ (kvs.map fun q => kV q.1) = ts.map (fun t => V.str t.1) ∧ (∀ z, (valV kvs (Sum.inr z)).isSome = decide (z ∈ ts.map (·.1))) ∧
    ((ts.map (·.1)).Nodup → ∀ (i : Nat) (t : Th), ts[i]? = some t → ∃ a, valV kvs (Sum.inr t.1) = some (.ref a) ∧ SqT K H a [.int i, .int t.2.1, .int t.2.2]) := by
  obtain ⟨dx, d, kvs, h1, h2, h3, h4⟩ := h.ex
  have h3' : kvs.map (·.1) = (ts.map (·.1)).map Sum.inr := by rw [h3, List.map_map]; rfl
  refine ⟨dx, d, kvs, h1, h2, ?_, fun z => key_mem h3', fun nd i t e => ?_⟩
  · have := congrArg (List.map kV) h3
    rw [List.map_map, List.map_map] at this
    exact this
  · obtain ⟨a, e1, e2⟩ := h4 i t e
    exact ⟨a, valV_nth (by rw [h3']; exact inr_nodup nd) e1, e2⟩
theorem StockAt.but {q D dx : Addr} {fs : List (Str × V)} (s : SameBut q H H') (hq : H q = some (.ins D dx fs)) (hp : p ≠ q) (h : StockAt K C H p ts) : StockAt K C H' p ts := by
  obtain ⟨dx', d, kvs, h1, h2, h3, h4⟩ := h.ex
  refine ⟨dx', d, kvs, s _ _ h1 hp, s _ _ h2 (ne_of h2 hq (by intro z; cases z)), h3, fun i t e => ?_⟩
  obtain ⟨a, e1, e2⟩ := h4 i t e
  exact ⟨a, e1, SqT.but s hq e2⟩
end
noncomputable def sp_has (K : PySem.W.Frag) (C : Addr) : Sp := fun vs H Q _ => ∃ (p : Addr) (ts : List Th) (z : Str), vs = [.ref p, .str z] ∧ StockAt K C H p ts ∧ Q (.bl (decide (z ∈ ts.map (·.1)))) H
noncomputable def sp_nms (K : PySem.W.Frag) (C : Addr) : Sp := fun vs H Q _ => ∃ (p : Addr) (ts : List Th), vs = [.ref p] ∧ StockAt K C H p ts ∧ ∀ l, H l = none → Q (.ref l) (upd H l (.lst ((ts.map (·.1)).map V.str)))
theorem mem_nth {ts : List Th} {z : Str} (h : z ∈ ts.map (·.1)) : ∃ (i : Nat) (t : Th), ts[i]? = some t ∧ t.1 = z := by
  obtain ⟨t, ht, e⟩ := List.mem_map.mp h
  obtain ⟨i, hi⟩ := List.mem_iff_getElem?.mp ht
  exact ⟨i, t, hi, e⟩
end N4

set_option linter.all false
set_option maxHeartbeats 1000000
namespace N4
open PySem PySem.Spec PyProof.Rows L2 N1 N5
theorem md_two {j : Nat} : md j = 26 ∨ md j = 36 := by unfold md; split <;> simp
theorem bc_mod {x y : Int} {j : Nat} (h : bc (x % md j) = bc (y % md j)) : x % md j = y % md j := by
  rcases md_two (j := j) with hm | hm <;> rw [hm] at h ⊢
  · exact bc_inj (by omega) (by omega) (by omega) (by omega) h
  · exact bc_inj (by omega) (by omega) (by omega) (by omega) h
noncomputable def nm1 (c : Int) (G : Nat → Int) (k : Nat) : List Nat := bc ((c + k / 8) % 26) :: ((List.range 7).map fun j => bc (G j % 36)).take (k % 8)
theorem nm1_name {c : Int} {G : Nat → Int} {k : Nat} : nameB (nm1 c G k) = true := by
  have hall : ∀ x ∈ nm1 c G k, x ∈ letters ++ figures := by
    intro x hx
    rcases List.mem_cons.mp hx with rfl | hx
    · exact List.mem_append_left _ bc_let
    · obtain ⟨j, _, rfl⟩ := List.mem_map.mp (List.mem_of_mem_take hx)
      exact bc_both
  have hl : (nm1 c G k).length ≤ 8 := by simp [nm1]; omega
  have hl1 : 1 ≤ (nm1 c G k).length := by simp [nm1]
  unfold nameB
  rw [decide_eq_true hl1, decide_eq_true hl]
  simp only [Bool.true_and]
  rw [show headIn (nm1 c G k) letters = true from decide_eq_true bc_let, Bool.true_and]
  exact List.all_eq_true.mpr fun x hx => decide_eq_true (hall x hx)
theorem nm1_inj {c : Int} {G : Nat → Int} {k k' : Nat} (hk : k < 61) (hk' : k' < 61) (h : nm1 c G k = nm1 c G k') : k = k' := by
  unfold nm1 at h
  injection h with h1 h2
  have e1 := bc_inj (by omega) (by omega) (by omega) (by omega) h1
  have e2 := congrArg List.length h2
  simp only [List.length_take, List.length_map, List.length_range] at e2
  omega
theorem tx_nodup {f : Nat → List Nat} {m : Nat} (h : ∀ a b, a < m → b < m → f a = f b → a = b) : ((List.range m).map fun k => tx (f k)).Nodup := by
  unfold List.Nodup
  rw [List.pairwise_map]
  refine List.Pairwise.imp_of_mem (R := fun a b => a ≠ b) ?_ List.nodup_range
  intro a b ha hb ne e
  exact ne (h a b (List.mem_range.mp ha) (List.mem_range.mp hb) (T_inj e))
structure RowsAt (K : PySem.W.Frag) (H : Hp) (r : Addr) (as : List Addr) (ts : List Th) : Prop where
  l : SqL K H r (as.map V.ref)
  n : as.length = ts.length
  m : ts.length ≤ 60
  at_ : ∀ (i : Nat) (a : Addr) (t : Th), as[i]? = some a → ts[i]? = some t → SqT K H a [.str t.1, .int t.2.1, .int t.2.2]
  ok : ∀ t ∈ ts, nameB t.1.cps.toList = true ∧ 0 ≤ t.2.1 ∧ t.2.1 ≤ 10 ^ 30 ∧ 1 ≤ t.2.2 ∧ t.2.2 ≤ 1000
  nd : (ts.map (·.1)).Nodup
theorem RowsAt.same {K : PySem.W.Frag} {H H' : Hp} {r : Addr} {as : List Addr} {ts : List Th} (s : Same H H') (h : RowsAt K H r as ts) : RowsAt K H' r as ts :=
  ⟨s.seq h.l, h.n, h.m, fun i a t e1 e2 => s.tup (h.at_ i a t e1 e2), h.ok, h.nd⟩
theorem StockAt.butL {K : PySem.W.Frag} {C : Addr} {H H' : Hp} {p l : Addr} {ts : List Th} {zs : List V} (s : SameBut l H H') (hl : H l = some (.lst zs)) (h : StockAt K C H p ts) : StockAt K C H' p ts := by
  obtain ⟨dx, d, kvs, h1, h2, h3, h4⟩ := h.ex
  refine ⟨dx, d, kvs, s _ _ h1 (ne_of h1 hl (by intro z; cases z)), s _ _ h2 (ne_of h2 hl (by intro z; cases z)), h3, fun i t e => ?_⟩
  obtain ⟨a, e1, e2⟩ := h4 i t e
  exact ⟨a, e1, SqT.butL s hl e2⟩
theorem RowsAt.butL {K : PySem.W.Frag} {H H' : Hp} {r l : Addr} {as : List Addr} {ts : List Th} {zs : List V} (s : SameBut l H H') (hl : H l = some (.lst zs)) (hr : SqL K H' r (as.map V.ref)) (h : RowsAt K H r as ts) : RowsAt K H' r as ts :=
  ⟨hr, h.n, h.m, fun i a t e1 e2 => SqT.butL s hl (h.at_ i a t e1 e2), h.ok, h.nd⟩
theorem slice_to {l : List Nat} {n : Int} (h0 : 0 ≤ n) (h1 : n ≤ l.length) : Txt.slice (tx l) none (some n) = tx (l.take n.toNat) := by
  have h := slice_closes_toL (x := tx l) h0 (by rw [T_len]; exact h1)
  rw [beq_iff_eq.mp h, T_list]
  show tx _ = tx _
  rw [show (0 : Int).toNat = 0 from rfl, List.drop_zero, Int.sub_zero]
noncomputable def rwOf (a : Addr) (t : Th) : Rw := (a, .str t.1, .int t.2.1, .int t.2.2)
theorem RowsAt.init {K : PySem.W.Frag} {H : Hp} {r : Addr} {as : List Addr} {ts : List Th} (h : RowsAt K H r as ts) : ∃ rs : List Rw, rs.map (fun t => V.ref t.1) = as.map V.ref ∧ (∀ t ∈ rs, SqT K H t.1 [t.2.1, t.2.2.1, t.2.2.2]) ∧ initR rs = none ∧ rs.map thOf = ts := by
  have hn := h.n
  have gt : ∀ (i : Nat) (x : Addr × Th), (as.zip ts)[i]? = some x → as[i]? = some x.1 ∧ ts[i]? = some x.2 := fun i x e => by
    rw [List.getElem?_zip_eq_some] at e; exact e
  have e1 : ((as.zip ts).map fun x => rwOf x.1 x.2).map thOf = ts := by
    rw [List.map_map]
    have : (thOf ∘ fun x : Addr × Th => rwOf x.1 x.2) = Prod.snd := by funext x; rfl
    rw [this, List.map_snd_zip (by omega)]
  refine ⟨(as.zip ts).map fun x => rwOf x.1 x.2, ?_, ?_, ?_, e1⟩
  · rw [List.map_map]
    have : ((fun t : Rw => V.ref t.1) ∘ fun x : Addr × Th => rwOf x.1 x.2) = V.ref ∘ Prod.fst := by funext x; rfl
    rw [this, ← List.map_map, List.map_fst_zip (by omega)]
  · intro t ht
    obtain ⟨x, hx, rfl⟩ := List.mem_map.mp ht
    obtain ⟨i, hi⟩ := List.mem_iff_getElem?.mp hx
    obtain ⟨h1, h2⟩ := gt i x hi
    exact h.at_ i x.1 x.2 h1 h2
  · unfold initR
    rw [if_neg (by rw [List.length_map, List.length_zip]; have := h.m; omega)]
    refine stockR_ok _ _ (fun t ht => ?_) ?_
    · obtain ⟨x, hx, rfl⟩ := List.mem_map.mp ht
      obtain ⟨i, hi⟩ := List.mem_iff_getElem?.mp hx
      obtain ⟨h1, h2⟩ := gt i x hi
      obtain ⟨o1, o2, o3, o4, o5⟩ := h.ok x.2 (List.mem_of_getElem? h2)
      exact ⟨x.2.1, x.2.2.1, x.2.2.2, rfl, rfl, rfl, o1, o2, o3, o4, o5⟩
    · rw [List.nil_append, List.map_map]
      have : ((fun t : Rw => sOf t.2.1) ∘ fun x : Addr × Th => rwOf x.1 x.2) = (fun t : Th => t.1) ∘ Prod.snd := by funext x; rfl
      rw [this, ← List.map_map, List.map_snd_zip (by omega)]
      exact h.nd
end N4

set_option linter.all false
set_option maxHeartbeats 1000000
namespace L2
open PySem PySem.Spec PyProof.Rows PySem.W
noncomputable def rSumL (K : PySem.W.Frag) : List V → Hp → VK → Prop := fun xs H Q => ∃ (p : Addr) (is : List Int), xs = [.ref p] ∧ SqL K H p (is.map V.int) ∧ Q (.int is.sum) H
theorem preSum_is (is : List Int) : preSum (fun i => is.getD i 0) is.length = is.sum := by
  have key : ∀ n, n ≤ is.length → preSum (fun i => is.getD i 0) n = (is.take n).sum := by
    intro n
    induction n with
    | zero => intro _; rfl
    | succ n ih =>
      intro h
      have e : is.take (n + 1) = is.take n ++ [is.getD n 0] := by
        rw [List.take_add_one, List.getD_eq_getElem?_getD, List.getElem?_eq_getElem (by omega)]
        rfl
      rw [preSum, ih (by omega), e, List.sum_append]
      simp
  have := key is.length (Nat.le_refl _)
  rwa [List.take_length] at this
section
variable {X : Cx}
theorem call_sumL (hc : X.calm = true) : CallR X (.builtin "sum") (rSumL X.K) := by
  intro pins s σ H xs us Q I r h
  obtain ⟨p, is, rfl, hp, q⟩ := h
  obtain ⟨u, rfl, ru⟩ := vals1 r
  cases ru
  obtain ⟨its, r, pl, hz⟩ := I.list hp
  have hlt : p < s.heap.objs.size := by obtain ⟨o, n, e, _⟩ := pl; exact Heap.lt_size e
  have hlen := r.length
  rw [List.length_map] at hlen
  refine call_sum_walkAnyS (wpAny_pyIter_list pl.isList ⟨s.heap.objs.size, _, _, _, _, _, _, fun i => is.getD i 0, rfl, (Walks.list (show X.A.in1.handled = none from I.ok.hd hc) s.heap.objs.size p (Nat.ne_of_lt hlt) its.toArray).toS, ⟨⟨_, Heap.get?_push_size _ rfl, rfl, rfl⟩, pl.isList.push _⟩, fun b hb => ?_, fun i v hP => ?_, fun s' t' hmv => ?_⟩)
  · show b < (s.heap.push _).objs.size
    rw [Heap.size_push]
    rcases List.mem_cons.mp hb with e | hb
    · rw [e]; exact Nat.lt_succ_self _
    · rw [List.mem_singleton.mp hb]; exact Nat.lt_succ_of_lt hlt
  · have hP : its.toArray[i]? = some v := hP
    have hi : i < is.length := by
      have := (Array.getElem?_eq_some_iff.mp hP).1
      rw [List.size_toArray] at this
      omega
    obtain ⟨u, hu, ru⟩ := r.get (i := i) (x := V.int (is[i])) (by simp [hi])
    have e : u = v := by
      have : its[i]? = some v := by simpa using hP
      rw [hu] at this; exact Option.some.inj this
    subst e
    show ∃ t, u = Value.int (is.getD i 0) t
    rw [List.getD_eq_getElem?_getD, List.getElem?_eq_getElem hi]
    exact ru
  · have hk : ∀ b o, s.heap.get? b = some o → s'.heap.get? b = some o := fun b o e =>
      hmv.heap b o (fun hI => absurd (Heap.lt_size e) (by rw [List.mem_singleton.mp hI]; exact Nat.lt_irrefl _)) (Heap.get?_push_of_some _ e)
    rw [Moved.eq_with hmv]
    refine ⟨.int is.sum, H, I.kept (t' := s'.toks) hk, ⟨t', ?_⟩, q⟩
    rw [List.size_toArray, ← hlen, preSum_is]
end
section
variable {σ : St} {H : Hp} {Q : VK} {D : Ends} {K : PySem.W.Frag} {xs : List V} {x y : V}
theorem rd_sumL : rSumL K xs H Q = ∃ (p : Addr) (is : List Int), xs = [.ref p] ∧ SqL K H p (is.map V.int) ∧ Q (.int is.sum) H := rfl
theorem rd_ipI {f : Int → Int → Int} : ipI f x y H Q = ∃ i j, x = .int i ∧ y = .int j ∧ Q (.int (f i j)) H := rfl
end
section
open PySem.W
variable {K : Frag} {C D : Addr} {cd : ClassData}
end
end L2
namespace N31
open PySem PySem.Spec PyProof.Rows L2 N1 N5
noncomputable def fldN (l : Addr) : List (Str × V) := putF "numbers" (.ref l) []
structure SumsAt (C : Addr) (H : Hp) (p l : Addr) (is : List Int) : Prop where
  o : ∃ dx, H p = some (.ins C dx (fldN l))
  l : H l = some (.lst (is.map V.int))
theorem SumsAt.same {C : Addr} {H H' : Hp} {p l : Addr} {is : List Int} (s : Same H H') (h : SumsAt C H p l is) : SumsAt C H' p l is :=
  ⟨h.o.imp fun dx e => s _ _ e, s _ _ h.l⟩
theorem SumsAt.put {C : Addr} {H : Hp} {p l : Addr} {is js : List Int} (h : SumsAt C H p l is) : SumsAt C (upd H l (.lst (js.map V.int))) p l js := by
  obtain ⟨⟨dx, e⟩, hl⟩ := h
  refine ⟨⟨dx, ?_⟩, upd_same⟩
  rw [upd_ne (ne_of e hl (by intro z; cases z))]; exact e
theorem map_set (is : List Int) (k : Nat) (v : Int) : (is.map V.int).set k (V.int v) = (is.set k v).map V.int := by
  rw [List.map_set]
end N31

set_option Elab.async false
set_option linter.all false
set_option maxRecDepth 100000
set_option maxHeartbeats 4000000
namespace L2
open PySem PySem.Spec PyProof.Rows

noncomputable def Ite (K : PySem.W.Frag) (a : Addr) : It :=
  ⟨fun i H => ∃ xs x, SqL K H a xs ∧ xs[i]? = some x, fun i H y H' => ∃ t x, y = .ref t ∧ H t = none ∧ H' = upd H t (.tup [.int i, x]) ∧ ∀ xs, SqL K H a xs → xs[i]? = some x, fun i H => ∃ xs, SqL K H a xs ∧ xs.length ≤ i⟩
section
variable {X : Cx}
noncomputable def iEnum (K : PySem.W.Frag) (ta : TA) : TI := fun σ H R => ta σ H fun vs H1 => ∃ a, vs = [.ref a] ∧ (∃ xs, SqL K H1 a xs) ∧ R (Ite K a) H1
end
section
variable {K : PySem.W.Frag} {σ : St} {H : Hp} {D : Ends}
theorem rd_ienum {ta : TA} {R : It → Hp → Prop} : iEnum K ta σ H R = ta σ H fun vs H1 => ∃ a, vs = [.ref a] ∧ (∃ xs, SqL K H1 a xs) ∧ R (Ite K a) H1 := rfl
end
end L2

set_option Elab.async false
set_option linter.all false
set_option maxRecDepth 100000
set_option maxHeartbeats 4000000
namespace L2
open PySem PySem.Spec PyProof.Rows
noncomputable def Itz (K : PySem.W.Frag) (a b : Addr) : It :=
  ⟨fun i H => ∃ xs ys x y, SqL K H a xs ∧ SqL K H b ys ∧ xs[i]? = some x ∧ ys[i]? = some y, fun i H v H' => ∃ t x y, v = .ref t ∧ H t = none ∧ H' = upd H t (.tup [x, y]) ∧ (∀ xs, SqL K H a xs → xs[i]? = some x) ∧ ∀ ys, SqL K H b ys → ys[i]? = some y,
    fun i H => ∃ xs ys, SqL K H a xs ∧ SqL K H b ys ∧ (xs.length ≤ i ∨ ys.length ≤ i)⟩
section
variable {X : Cx}
noncomputable def iZip (K : PySem.W.Frag) (ta : TA) : TI := fun σ H R => ta σ H fun vs H1 => ∃ a b, vs = [.ref a, .ref b] ∧ (∃ xs, SqL K H1 a xs) ∧ (∃ ys, SqL K H1 b ys) ∧ R (Itz K a b) H1
end
section
variable {K : PySem.W.Frag} {σ : St} {H : Hp} {D : Ends}
theorem rd_izip {ta : TA} {R : It → Hp → Prop} : iZip K ta σ H R = ta σ H fun vs H1 => ∃ a b, vs = [.ref a, .ref b] ∧ (∃ xs, SqL K H1 a xs) ∧ (∃ ys, SqL K H1 b ys) ∧ R (Itz K a b) H1 := rfl
end
end L2

set_option Elab.async false
set_option linter.all false
set_option maxRecDepth 100000
set_option maxHeartbeats 1000000
namespace N32
open PySem PySem.Spec PyProof.Rows L2 N1 N5 N31
noncomputable def lastIx (ys : List Str) (z : Str) : Nat → Option Nat
  | 0 => none
  | n + 1 => if ys.getD n Str.empty = z then some n else lastIx ys z n
theorem last_lt {ys : List Str} {z : Str} : ∀ {n j : Nat}, lastIx ys z n = some j → j < n ∧ ys.getD j Str.empty = z
  | 0, j, h => by cases h
  | n + 1, j, h => by
    unfold lastIx at h
    split at h
    · rename_i e
      cases h
      exact ⟨Nat.lt_succ_self _, e⟩
    · have := last_lt h
      exact ⟨by omega, this.2⟩
noncomputable def ear (ys : List Str) (i : Nat) : Option Nat := lastIx ys (ys.getD i Str.empty) i
noncomputable def W (R : Str → Int) (ys : List Str) (n j : Nat) : Int := if lastIx ys (ys.getD j Str.empty) n = some j then R (ys.getD j Str.empty) else 0
noncomputable def tl (f : Nat → Int) (b n : Nat) : Int := ((List.range' b (n - b)).map f).sum
end N32
namespace N32
open PySem PySem.Spec PyProof.Rows L2 N1 N5 N31 N4
noncomputable def rm (ts : List Th) (z : Str) : Int := ((ts.find? fun t => decide (t.1 = z)).map (·.2.2)).getD 0
theorem rm_at {ts : List Th} (nd : (ts.map (·.1)).Nodup) {i : Nat} {t : Th} (h : ts[i]? = some t) : rm ts t.1 = t.2.2 := by
  induction ts generalizing i with
  | nil => simp at h
  | cons u r ih =>
    rw [List.map_cons, List.nodup_cons] at nd
    cases i with
    | zero =>
      rw [List.getElem?_cons_zero] at h
      cases h
      simp [rm]
    | succ i =>
      rw [List.getElem?_cons_succ] at h
      have ne : ¬ u.1 = t.1 := fun e => nd.1 (by rw [e]; exact List.mem_map.mpr ⟨t, List.mem_of_getElem? h, rfl⟩)
      have := ih nd.2 h
      unfold rm at this ⊢
      rw [List.find?_cons_of_neg (by simpa using ne)]
      exact this
noncomputable def RoomsAt (H : Hp) (d : Addr) (ns : List Str) (R : Str → Int) : Prop := ∃ kvs : List (Key × V), H d = some (.dK kvs) ∧ ∀ z ∈ ns, valV kvs (Sum.inr z) = some (.int (R z))
theorem RoomsAt.same {H H' : Hp} {d : Addr} {ns : List Str} {R : Str → Int} (s : Same H H') (h : RoomsAt H d ns R) : RoomsAt H' d ns R := let ⟨kvs, h1, h2⟩ := h; ⟨kvs, s _ _ h1, h2⟩
theorem none_of {H H' : Hp} {D : Addr} (s : Same H H') (h : H' D = none) : H D = none := by
  cases e : H D with
  | none => rfl
  | some o => rw [s _ _ e] at h; cases h
noncomputable def sp32_check : Sp := fun vs H Q _ => ∃ (i : Int), vs = [.int i] ∧ 1 ≤ i ∧ i ≤ 1000000 ∧ Q .non H
noncomputable def sp32_thing (K : PySem.W.Frag) (C : Addr) : Sp := fun vs H Q _ => ∃ (p : Addr) (ts : List Th) (z : Str), vs = [.ref p, .str z] ∧ StockAt K C H p ts ∧ (ts.map (·.1)).Nodup ∧ z ∈ ts.map (·.1) ∧ ∀ (i : Nat) (t : Th), ts[i]? = some t → t.1 = z → ∀ a, SqT K H a [.int i, .int t.2.1, .int t.2.2] → Q (.ref a) H
noncomputable def sp32_room (K : PySem.W.Frag) (C : Addr) : Sp := fun vs H Q _ => ∃ (p : Addr) (ts : List Th) (z : Str), vs = [.ref p, .str z] ∧ StockAt K C H p ts ∧ (ts.map (·.1)).Nodup ∧ z ∈ ts.map (·.1) ∧ Q (.int (rm ts z)) H
section
variable {K : PySem.W.Frag} {σ : L2.St} {H : Hp} {Q : VK}
theorem rd_dget1 {td ty : TE} : tDGet1 td ty σ H Q = td σ H fun x H1 => ∃ a, x = .ref a ∧ IsD H1 a ∧ ty σ H1 fun y H2 => ∃ o, DGet H2 a y o ∧ Q (o.getD .non) H2 := rfl
end
end N32
namespace N32
open PySem PySem.Spec PyProof.Rows L2 N1 N5 N31 N4
theorem SqT.offL {K : PySem.W.Frag} {H : Hp} {a l : Addr} {xs zs : List V} {o : HO} (hl : H l = some (.lst zs)) (h : SqT K H a xs) : SqT K (upd H l o) a xs := by
  rcases h with (h | ⟨o', h⟩) | h
  · exact .inl (.inl (by rw [upd_ne (ne_of h hl (by intro z; cases z))]; exact h))
  · exact .inl (.inr ⟨o', by rw [upd_ne (ne_of h hl (by intro z; cases z))]; exact h⟩)
  · exact .inr h
theorem StockAt.offL {K : PySem.W.Frag} {C : Addr} {H : Hp} {p l : Addr} {ts : List Th} {zs : List V} {o : HO} (hl : H l = some (.lst zs)) (h : StockAt K C H p ts) : StockAt K C (upd H l o) p ts := by
  obtain ⟨dx, d, kvs, h1, h2, h3, h4⟩ := h.ex
  refine ⟨dx, d, kvs, by rw [upd_ne (ne_of h1 hl (by intro z; cases z))]; exact h1, by rw [upd_ne (ne_of h2 hl (by intro z; cases z))]; exact h2, h3, fun i t e => ?_⟩
  obtain ⟨a, e1, e2⟩ := h4 i t e
  exact ⟨a, e1, SqT.offL hl e2⟩
end N32
namespace N32
open PySem PySem.Spec PyProof.Rows L2 N1 N5 N31 N4
noncomputable def rmK (ns : List Int) (mo : Int) (j : Nat) : Int := 1 + (ns.getD 2 0 / 2).fdiv ((j : Int) + 1) % mo
theorem cut_tail (ws : List Str) : cutV (ws.map V.str) (some 1) none = (ws.drop 1).map V.str := by
  unfold cutV
  rw [show (some (1 : Int)) = some ((1 : Nat) : Int) from rfl, HT.sIx_nat, HT.sIx_none, List.length_map, ← List.map_drop, ← List.map_take]
  congr 1
  by_cases h : 1 ≤ ws.length
  · rw [Nat.min_eq_left h]
    exact List.take_of_length_le (by rw [List.length_drop]; omega)
  · have e : ws = [] := List.length_eq_zero_iff.mp (by omega)
    subst e; rfl
end N32

set_option linter.all false
namespace K03
theorem gcd_step {x y i j : Int} (hx : 0 ≤ x) (hy : 0 < y) (h : Int.gcd x y = Int.gcd i j) : Int.gcd y (x % y) = Int.gcd i j := by
  rw [← h, Int.gcd_comm x y]
  first
    | exact Int.gcd_emod ..
    | simp [Int.gcd_emod]
    | (show Nat.gcd y.natAbs (x % y).natAbs = Nat.gcd y.natAbs x.natAbs
       obtain ⟨a, rfl⟩ := Int.eq_ofNat_of_zero_le hx
       obtain ⟨b, rfl⟩ := Int.eq_ofNat_of_zero_le (Int.le_of_lt hy)
       rw [← Int.natCast_emod]
       simp only [Int.natAbs_natCast]
       rw [Nat.gcd_comm b (a % b), ← Nat.gcd_rec, ])
theorem gcd_zero_right' {x : Int} (hx : 0 ≤ x) : ((Int.gcd x 0 : Nat) : Int) = x := by
  show ((Nat.gcd x.natAbs 0 : Nat) : Int) = x
  rw [Nat.gcd_zero_right]; omega
theorem gcd_abs (i j : Int) : Int.gcd (if i < 0 then -i else i) (if j < 0 then -j else j) = Int.gcd i j := by
  show Nat.gcd _ _ = Nat.gcd _ _
  congr 1
  · split <;> omega
  · split <;> omega
theorem gcd_abs1 (i j : Int) : Int.gcd (if i < 0 then -i else i) j = Int.gcd i j := by
  show Nat.gcd _ _ = Nat.gcd _ _
  congr 1
  split <;> omega
theorem exact_fdiv {n d : Int} (h : d ∣ n) (hd : d ≠ 0) : d * n.fdiv d = n := by
  obtain ⟨q, rfl⟩ := h
  rw [Int.mul_fdiv_cancel_left _ hd]
theorem lowest {n m d : Int} (hm : m ≠ 0) (hd : d.natAbs = Int.gcd n m) (hs : 0 < d ↔ 0 < m) :
    n.fdiv d * m = n * m.fdiv d ∧ 0 < m.fdiv d ∧ Int.gcd (n.fdiv d) (m.fdiv d) = 1 ∧ (n.fdiv d).natAbs ≤ n.natAbs ∧ (m.fdiv d).natAbs ≤ m.natAbs := by
  have hg : 0 < Int.gcd n m := Nat.pos_of_ne_zero fun z => hm (Int.gcd_eq_zero_iff.mp z).2
  have hd0 : d ≠ 0 := by intro z; subst z; simp at hd; omega
  have dn : d ∣ n := by
    rw [← Int.natAbs_dvd_natAbs, hd]; exact Nat.gcd_dvd_left n.natAbs m.natAbs
  have dm : d ∣ m := by
    rw [← Int.natAbs_dvd_natAbs, hd]; exact Nat.gcd_dvd_right n.natAbs m.natAbs
  have e1 := exact_fdiv dn hd0
  have e2 := exact_fdiv dm hd0
  generalize n.fdiv d = t at *
  generalize m.fdiv d = b at *
  have hb0 : b ≠ 0 := by rintro rfl; simp at e2; exact hm e2.symm
  refine ⟨?_, ?_, ?_, ?_, ?_⟩
  · rw [← e1, ← e2]; simp only [Int.mul_assoc, Int.mul_comm, Int.mul_left_comm]
  · by_cases hp : 0 < d
    · have : 0 < m := hs.mp hp
      rw [← e2] at this
      rw [Int.mul_comm] at this; exact Int.pos_of_mul_pos_left this hp
    · have hn : ¬ 0 < m := fun z => hp (hs.mpr z)
      have hd1 : d < 0 := by omega
      rw [← e2] at hn
      refine Decidable.byContradiction fun hb => ?_
      have hb1 : b < 0 := by omega
      exact hn (Int.mul_pos_of_neg_of_neg hd1 hb1)
  · have : Int.gcd n m = d.natAbs * Int.gcd t b := by rw [← e1, ← e2, Int.gcd_mul_left]
    rw [← hd] at this
    have hp : 0 < d.natAbs := by omega
    have h2 : d.natAbs * Int.gcd t b = d.natAbs * 1 := by omega
    exact Nat.eq_of_mul_eq_mul_left hp h2
  · rw [← e1, Int.natAbs_mul]; exact Nat.le_mul_of_pos_left _ (by omega)
  · rw [← e2, Int.natAbs_mul]; exact Nat.le_mul_of_pos_left _ (by omega)
end K03

set_option Elab.async false
set_option linter.all false
set_option maxRecDepth 100000
set_option maxHeartbeats 1000000
open PySem PySem.Spec PyProof.Rows L2 N1 N5 N31 N4 N32
namespace N41
noncomputable def seg (T : List Int) (a b : Nat) : Int := ((T.take b).drop a).sum
noncomputable def leastAt (c r : Str → Int) (T : List Int) (S : Int) (ys : List Str) (n : Nat) : Int :=
  match ear ys n with
  | none => c (ys.getD n Str.empty) * S
  | some e => min (c (ys.getD n Str.empty) * S) (r (ys.getD n Str.empty) * seg T (e + 1) n)
noncomputable def fl (c r : Str → Int) (T : List Int) (S P : Int) (ys : List Str) : Nat → Int
  | 0 => 0
  | n + 1 => fl c r T S P ys n + (leastAt c r T S ys n - T.getD n 0 * (P - r (ys.getD n Str.empty)))
theorem seg_scale (D : Int) (T : List Int) (a b : Nat) : seg (T.map fun t => D * t) a b = D * seg T a b := by
  unfold seg
  rw [← List.map_take, ← List.map_drop]
  generalize (T.take b).drop a = l
  induction l with
  | nil => simp
  | cons x r ih => rw [List.map_cons, List.sum_cons, List.sum_cons, ih, Int.mul_add]
theorem getD_scale (D : Int) (T : List Int) (n : Nat) : (T.map fun t => D * t).getD n 0 = D * T.getD n 0 := by
  rw [List.getD_eq_getElem?_getD, List.getD_eq_getElem?_getD, List.getElem?_map]
  cases T[n]? with
  | none => simp
  | some x => rfl
theorem min_scale {D a b : Int} (h : 0 ≤ D) : min (D * a) (D * b) = D * min a b := by
  by_cases e : a ≤ b
  · rw [Int.min_eq_left e, Int.min_eq_left (Int.mul_le_mul_of_nonneg_left e h)]
  · have e' : b ≤ a := by omega
    rw [Int.min_eq_right e', Int.min_eq_right (Int.mul_le_mul_of_nonneg_left e' h)]
theorem fl_scale {D : Int} (hD : 0 ≤ D) (c r : Str → Int) (T : List Int) (S P : Int) (ys : List Str) : ∀ n, fl c r (T.map fun t => D * t) (D * S) P ys n = D * fl c r T S P ys n := by
  intro n
  induction n with
  | zero => simp [fl]
  | succ n ih =>
    have hl : leastAt c r (T.map fun t => D * t) (D * S) ys n = D * leastAt c r T S ys n := by
      unfold leastAt
      cases ear ys n with
      | none => show _ * (D * S) = D * (_ * S); rw [Int.mul_left_comm]
      | some e =>
        show min (_ * (D * S)) (_ * seg _ _ _) = D * min _ _
        rw [seg_scale, Int.mul_left_comm, Int.mul_left_comm _ D, min_scale hD]
    show fl c r _ _ P ys n + (_ - _ * _) = D * (fl c r T S P ys n + (_ - _ * _))
    rw [ih, hl, getD_scale, Int.mul_assoc, ← Int.mul_sub, ← Int.mul_add]
noncomputable def sm (f : Str → Int) (L : List Str) : Int := (L.map f).sum
theorem sm_nil (f : Str → Int) : sm f [] = 0 := rfl
theorem sm_cons (f : Str → Int) (x : Str) (L : List Str) : sm f (x :: L) = f x + sm f L := by unfold sm; rw [List.map_cons, List.sum_cons]
theorem sm_app (f : Str → Int) (L M : List Str) : sm f (L ++ M) = sm f L + sm f M := by unfold sm; rw [List.map_append, List.sum_append]
theorem sm_erase {f : Str → Int} {L : List Str} {z : Str} (h : z ∈ L) : sm f (L.erase z) = sm f L - f z := by
  induction L with
  | nil => cases h
  | cons x r ih =>
    by_cases e : x = z
    · subst e; rw [List.erase_cons_head, sm_cons]; omega
    · rw [List.erase_cons_tail (by simpa using e), sm_cons, sm_cons, ih ((List.mem_cons.mp h).resolve_left fun k => e k.symm)]; omega
theorem sm_lin {f g r : Str → Int} {k : Int} {L : List Str} (h : ∀ y ∈ L, f y = g y + k * r y) : sm f L = sm g L + k * sm r L := by
  induction L with
  | nil => simp [sm_nil]
  | cons x t ih =>
    rw [sm_cons, sm_cons, sm_cons, ih fun y hy => h y (List.mem_cons_of_mem _ hy), h x List.mem_cons_self, Int.mul_add]; omega
theorem sm_sub {f : Str → Int} {L M : List Str} (s : List.Sublist M L) (h : ∀ y ∈ L, 0 ≤ f y) : sm f M ≤ sm f L := by
  induction s with
  | slnil => exact Int.le_refl _
  | cons a s ih =>
    rw [sm_cons]
    have := ih fun y hy => h y (List.mem_cons_of_mem _ hy)
    have := h a List.mem_cons_self
    omega
  | cons_cons a s ih =>
    rw [sm_cons, sm_cons]
    have := ih fun y hy => h y (List.mem_cons_of_mem _ hy)
    omega
theorem seg_succ {T : List Int} {a n : Nat} (ha : a ≤ n) (hn : n < T.length) : seg T a (n + 1) = seg T a n + T.getD n 0 := by
  unfold seg
  rw [List.take_succ, List.getElem?_eq_getElem hn, List.drop_append_of_le_length (by rw [List.length_take]; omega), List.sum_append]
  rw [List.getD_eq_getElem?_getD, List.getElem?_eq_getElem hn]
  simp
theorem seg_self {T : List Int} {n : Nat} : seg T n n = 0 := by
  unfold seg
  rw [List.drop_eq_nil_of_le (by rw [List.length_take]; exact Nat.min_le_left _ _)]; rfl
theorem seg_nn {T : List Int} (h : ∀ t ∈ T, 0 ≤ t) {a b : Nat} : 0 ≤ seg T a b := by
  unfold seg
  have : ∀ t ∈ (T.take b).drop a, 0 ≤ t := fun t ht => h t (List.mem_of_mem_take (List.mem_of_mem_drop ht))
  generalize (T.take b).drop a = l at this
  induction l with
  | nil => simp
  | cons x r ih =>
    rw [List.sum_cons]
    have h1 := this x List.mem_cons_self
    have h2 := ih fun t ht => this t (List.mem_cons_of_mem _ ht)
    omega
noncomputable def cr (r : Str → Int) (T : List Int) (ys : List Str) (n : Nat) (y : Str) : Int :=
  match lastIx ys y n with
  | none => 0
  | some j => r y * seg T (j + 1) n
theorem cr_nn {r : Str → Int} {T : List Int} {ys : List Str} {n : Nat} {y : Str} (hr : 0 ≤ r y) (hT : ∀ t ∈ T, 0 ≤ t) : 0 ≤ cr r T ys n y := by
  unfold cr
  cases lastIx ys y n with
  | none => exact Int.le_refl _
  | some j => exact Int.mul_nonneg hr (seg_nn hT)
theorem cr_other {r : Str → Int} {T : List Int} {ys : List Str} {n : Nat} {y : Str} (hn : n < T.length) (h : y ≠ ys.getD n Str.empty) (ha : (lastIx ys y n).isSome = true) : cr r T ys (n + 1) y = cr r T ys n y + T.getD n 0 * r y := by
  unfold cr
  rw [show lastIx ys y (n + 1) = lastIx ys y n from if_neg fun e => h e.symm]
  cases e : lastIx ys y n with
  | none => rw [e] at ha; cases ha
  | some j =>
    have := (last_lt e).1
    show r y * seg T (j + 1) (n + 1) = r y * seg T (j + 1) n + _
    rw [seg_succ (by omega) hn, Int.mul_add, Int.mul_comm (T.getD n 0)]
theorem cr_self {r : Str → Int} {T : List Int} {ys : List Str} {n : Nat} : cr r T ys (n + 1) (ys.getD n Str.empty) = 0 := by
  unfold cr
  rw [show lastIx ys (ys.getD n Str.empty) (n + 1) = some n from if_pos rfl]
  show _ * seg T (n + 1) (n + 1) = 0
  rw [seg_self, Int.mul_zero]
theorem least_cr {c r : Str → Int} {T : List Int} {S : Int} {ys : List Str} {n : Nat} (ha : (lastIx ys (ys.getD n Str.empty) n).isSome = true) : leastAt c r T S ys n ≤ cr r T ys n (ys.getD n Str.empty) := by
  unfold leastAt cr ear
  cases e : lastIx ys (ys.getD n Str.empty) n with
  | none => rw [e] at ha; cases ha
  | some j => exact Int.min_le_right _ _
theorem least_cost {c r : Str → Int} {T : List Int} {S : Int} {ys : List Str} {n : Nat} : leastAt c r T S ys n ≤ c (ys.getD n Str.empty) * S := by
  unfold leastAt
  cases ear ys n with
  | none => exact Int.le_refl _
  | some j => exact Int.min_le_left _ _
structure Pays (c r : Str → Int) (T : List Int) (S P : Int) (ys : List Str) (n : Nat) (L : List Str) (paid : Int) : Prop where
  nd : L.Nodup
  fit : sm r L ≤ P
  asked : ∀ y ∈ L, (lastIx ys y n).isSome = true
  le : fl c r T S P ys n + sm (cr r T ys n) L ≤ paid * S
section
variable {c r : Str → Int} {T : List Int} {S P : Int} {ys : List Str} {n : Nat} {L M : List Str} {paid : Int}
theorem Pays.start (hP : 0 ≤ P) : Pays c r T S P ys 0 [] 0 := ⟨List.nodup_nil, hP, (fun y hy => by cases hy), by simp [fl, sm_nil]⟩
theorem Pays.cast (h : Pays c r T S P ys n L paid) (hr : ∀ y, 0 ≤ r y) (hT : ∀ t ∈ T, 0 ≤ t) (s : List.Sublist M L) : Pays c r T S P ys n M paid := by
  have h1 := sm_sub (f := r) s fun y _ => hr y
  have h2 := sm_sub (f := cr r T ys n) s fun y _ => cr_nn (hr y) hT
  exact ⟨h.nd.sublist s, Int.le_trans h1 h.fit, fun y hy => h.asked y (s.subset hy), by have := h.le; omega⟩
theorem asked_next {y : Str} (h : (lastIx ys y n).isSome = true) : (lastIx ys y (n + 1)).isSome = true := by
  unfold lastIx
  split
  · rfl
  · exact h
theorem Pays.hit (h : Pays c r T S P ys n L paid) (hT : ∀ t ∈ T, 0 ≤ t) (hn : n < T.length) (hz : ys.getD n Str.empty ∈ L) : Pays c r T S P ys (n + 1) L paid := by
  refine ⟨h.nd, h.fit, fun y hy => asked_next (h.asked y hy), ?_⟩
  have hTn : 0 ≤ T.getD n 0 := by
    rw [List.getD_eq_getElem?_getD, List.getElem?_eq_getElem hn]; exact hT _ (List.getElem_mem hn)
  have e1 : sm (cr r T ys (n + 1)) (L.erase (ys.getD n Str.empty)) = sm (cr r T ys n) (L.erase (ys.getD n Str.empty)) + T.getD n 0 * sm r (L.erase (ys.getD n Str.empty)) :=
    sm_lin fun y hy => cr_other hn (fun e => by rw [e] at hy; exact h.nd.not_mem_erase hy) (h.asked y (List.mem_of_mem_erase hy))
  rw [sm_erase hz, sm_erase hz, sm_erase hz, cr_self] at e1
  have e2 := least_cr (c := c) (r := r) (T := T) (S := S) (h.asked _ hz)
  have e3 : T.getD n 0 * (sm r L - r (ys.getD n Str.empty)) ≤ T.getD n 0 * (P - r (ys.getD n Str.empty)) := Int.mul_le_mul_of_nonneg_left (by have := h.fit; omega) hTn
  have e4 := h.le
  show fl c r T S P ys n + (leastAt c r T S ys n - T.getD n 0 * (P - r (ys.getD n Str.empty))) + _ ≤ _
  omega
theorem Pays.miss (h : Pays c r T S P ys n L paid) (hT : ∀ t ∈ T, 0 ≤ t) (hn : n < T.length) (hz : ys.getD n Str.empty ∉ L) (hf : sm r L + r (ys.getD n Str.empty) ≤ P) : Pays c r T S P ys (n + 1) (L ++ [ys.getD n Str.empty]) (paid + c (ys.getD n Str.empty)) := by
  refine ⟨?_, ?_, fun y hy => ?_, ?_⟩
  · rw [List.nodup_append]
    exact ⟨h.nd, by simp, fun a ha b hb e => hz (by rw [List.mem_singleton.mp hb] at e; rw [← e]; exact ha)⟩
  · rw [sm_app, sm_cons, sm_nil]; omega
  · rcases List.mem_append.mp hy with k | k
    · exact asked_next (h.asked y k)
    · rw [List.mem_singleton.mp k]
      unfold lastIx
      rw [if_pos rfl]; rfl
  have hTn : 0 ≤ T.getD n 0 := by
    rw [List.getD_eq_getElem?_getD, List.getElem?_eq_getElem hn]; exact hT _ (List.getElem_mem hn)
  have e1 : sm (cr r T ys (n + 1)) L = sm (cr r T ys n) L + T.getD n 0 * sm r L :=
    sm_lin fun y hy => cr_other hn (fun e => by rw [e] at hy; exact hz hy) (h.asked y hy)
  have e2 := least_cost (c := c) (r := r) (T := T) (S := S) (ys := ys) (n := n)
  have e3 : T.getD n 0 * sm r L ≤ T.getD n 0 * (P - r (ys.getD n Str.empty)) := Int.mul_le_mul_of_nonneg_left (by omega) hTn
  have e4 := h.le
  rw [sm_app, sm_cons, sm_nil, cr_self, e1, Int.add_mul]
  show fl c r T S P ys n + (leastAt c r T S ys n - T.getD n 0 * (P - r (ys.getD n Str.empty))) + _ ≤ _
  omega
end
end N41
namespace N41
noncomputable def cst (ts : List Th) (z : Str) : Int := ((ts.find? fun t => decide (t.1 = z)).map (·.2.1)).getD 0
theorem cst_at {ts : List Th} (nd : (ts.map (·.1)).Nodup) {i : Nat} {t : Th} (h : ts[i]? = some t) : cst ts t.1 = t.2.1 := by
  induction ts generalizing i with
  | nil => simp at h
  | cons u r ih =>
    rw [List.map_cons, List.nodup_cons] at nd
    cases i with
    | zero =>
      rw [List.getElem?_cons_zero] at h
      cases h
      simp [cst]
    | succ i =>
      rw [List.getElem?_cons_succ] at h
      have ne : ¬ u.1 = t.1 := fun e => nd.1 (by rw [e]; exact List.mem_map.mpr ⟨t, List.mem_of_getElem? h, rfl⟩)
      have := ih nd.2 h
      unfold cst at this ⊢
      rw [List.find?_cons_of_neg (by simpa using ne)]
      exact this
structure PrAt (K : PySem.W.Frag) (H : Hp) (p : Addr) (ps : List (Int × Int)) : Prop where
  ex : ∃ as : List Addr, SqL K H p (as.map V.ref) ∧ as.length = ps.length ∧ ∀ (i : Nat) (a : Addr) (q : Int × Int), as[i]? = some a → ps[i]? = some q → SqT K H a [.int q.1, .int q.2]
theorem PrAt.same {K : PySem.W.Frag} {H H' : Hp} {p : Addr} {ps : List (Int × Int)} (m : Same H H') (h : PrAt K H p ps) : PrAt K H' p ps := by
  obtain ⟨as, h1, h2, h3⟩ := h.ex
  exact ⟨as, m.seq h1, h2, fun i a q e1 e2 => m.tup (h3 i a q e1 e2)⟩
noncomputable def topsOf (S : Int) (ps : List (Int × Int)) : List Int := ps.map fun q => q.1 * S.fdiv q.2
noncomputable def sp41_div : Sp := fun vs H Q _ => ∃ (i j : Int), vs = [.int i, .int j] ∧ Q (.int (Int.gcd i j)) H
noncomputable def sp41_asks (K : PySem.W.Frag) (C : Addr) : Sp := fun vs H Q _ => ∃ (p a : Addr) (pl : Int) (ts : List Th) (ys : List Str), vs = [.ref p, .ref a, .int pl] ∧ StockAt K C H p ts ∧ (ts.map (·.1)).Nodup ∧ SqL K H a (ys.map V.str) ∧ ys.length ≤ 200 ∧ (∀ y ∈ ys, y ∈ ts.map (·.1)) ∧ (∀ y ∈ ys, rm ts y ≤ pl) ∧ 1 ≤ pl ∧ pl ≤ 1000000 ∧ ∀ H', Same H H' → Q (.bl true) H'
noncomputable def sp41_cost (K : PySem.W.Frag) (C : Addr) : Sp := fun vs H Q _ => ∃ (p : Addr) (ts : List Th) (z : Str), vs = [.ref p, .str z] ∧ StockAt K C H p ts ∧ (ts.map (·.1)).Nodup ∧ z ∈ ts.map (·.1) ∧ Q (.int (cst ts z)) H
end N41

set_option Elab.async false
set_option linter.all false
set_option maxRecDepth 100000
set_option maxHeartbeats 4000000
namespace L2
open PySem PySem.Spec PyProof.Rows
noncomputable abbrev tComp1I (wi : TI) (fs : List Nat) (tt : Blk → TT) (te : Blk → TE) : TE := tComp wi 1 fs (fun _ => gName 0) tt te
noncomputable abbrev g2 (K : PySem.W.Frag) : Blk → TG := fun _ => gTup K 2 (gCons (gName 0) (gCons (gName 1) gNil))
noncomputable abbrev tComp2 (K : PySem.W.Frag) (wi : TI) (fs : List Nat) (tt : Blk → TT) (te : Blk → TE) : TE := tComp wi 2 fs (g2 K) tt te
section
variable {X : Cx} {scope : Scope} {x y : Str} {px py pt : Pos} {n : Nat} {fs : List Nat} {elt iter c : Expr} {pos : Pos} {wi : TI} {tt : Blk → TT} {te : Blk → TE}
end
section
variable {K : PySem.W.Frag} {tail : St} {tt : Blk → TT} {te : Blk → TE} {Q : VK} {H1 : Hp} {σ : St} {H : Hp}
theorem rd_compI {wi : TI} {fs : List Nat} : tComp1I wi fs tt te σ H Q = wi σ H (CompTail (none :: fs.map fun j => σ.getD j none) (fun _ => gName 0) tt te Q) := rfl
theorem rd_comp2 {wi : TI} {fs : List Nat} : tComp2 K wi fs tt te σ H Q = wi σ H (CompTail (none :: none :: fs.map fun j => σ.getD j none) (g2 K) tt te Q) := rfl
end
end L2
namespace L2
open PySem PySem.Spec PyProof.Rows
section
variable {X : Cx}
end
end L2
namespace L2
open PySem PySem.Spec PyProof.Rows
section
variable {X : Cx} {scope : Scope} {x y v : Str} {px py pt pv' : Pos} {n i : Nat} {fs : List Nat} {elt iter c : Expr} {pos spos : Pos} {wi : TI} {tt : Blk → TT} {te : Blk → TE}
end
end L2

set_option linter.all false
set_option maxHeartbeats 1000000
namespace L2
open PySem PySem.Spec PyProof.Rows PySem.W
noncomputable def rMaxL (K : PySem.W.Frag) : List V → Hp → VK → Prop := fun xs H Q => ∃ (p : Addr) (is : List Int), xs = [.ref p] ∧ SqL K H p (is.map V.int) ∧ is ≠ [] ∧ ∀ v ∈ is, (∀ x ∈ is, x ≤ v) → Q (.int v) H
theorem best_gt (val : Nat → Int) : ∀ k, argBest (fun i j => decide (val i > val j)) k ≤ k ∧ ∀ j, j ≤ k → val j ≤ val (argBest (fun i j => decide (val i > val j)) k) := by
  intro k
  induction k with
  | zero => exact ⟨Nat.le_refl _, fun j hj => by rw [Nat.le_zero.mp hj]; exact Int.le_refl _⟩
  | succ k ih =>
    unfold argBest
    split
    · rename_i h
      have h := of_decide_eq_true h
      refine ⟨Nat.le_refl _, fun j hj => ?_⟩
      by_cases e : j = k + 1
      · rw [e]; exact Int.le_refl _
      · have := ih.2 j (by omega); omega
    · rename_i h
      have h : ¬ (val (k + 1) > _) := fun z => h (decide_eq_true z)
      refine ⟨Nat.le_succ_of_le ih.1, fun j hj => ?_⟩
      by_cases e : j = k + 1
      · rw [e]; omega
      · exact ih.2 j (by omega)
section
variable {X : Cx}
theorem ints_at {is : List Int} {its : List Value} (r : Vals (is.map V.int) its) {i : Nat} {v : Value} (hP : its.toArray[i]? = some v) : i < is.length ∧ ∃ t, v = Value.int (is.getD i 0) t := by
  have hlen := r.length
  rw [List.length_map] at hlen
  have hi : i < is.length := by
    have := (Array.getElem?_eq_some_iff.mp hP).1
    rw [List.size_toArray] at this
    omega
  obtain ⟨u, hu, ru⟩ := r.get (i := i) (x := V.int (is[i])) (by simp [hi])
  have e : u = v := by
    have : its[i]? = some v := by simpa using hP
    rw [hu] at this; exact Option.some.inj this
  subst e
  refine ⟨hi, ?_⟩
  rw [List.getD_eq_getElem?_getD, List.getElem?_eq_getElem hi]
  exact ru
theorem call_maxL (hc : X.calm = true) : CallR X (.builtin "max") (rMaxL X.K) := by
  intro pins s σ H xs us Q I r h
  obtain ⟨p, is, rfl, hp, hne, q⟩ := h
  obtain ⟨u, rfl, ru⟩ := vals1 r
  cases ru
  obtain ⟨its, r, pl, hz⟩ := I.list hp
  have hlt : p < s.heap.objs.size := by obtain ⟨o, n, e, _⟩ := pl; exact Heap.lt_size e
  have hlen := r.length
  rw [List.length_map] at hlen
  have hpos : 0 < is.length := List.length_pos_iff.mpr hne
  have hb := best_gt (fun i => is.getD i 0) (is.length - 1)
  refine call_max_walkS (wpAny_pyIter_list pl.isList ⟨s.heap.objs.size, _, _, _, _, _, _, fun i j => decide (is.getD i 0 > is.getD j 0), rfl, (Walks.list (show X.A.in1.handled = none from I.ok.hd hc) s.heap.objs.size p (Nat.ne_of_lt hlt) its.toArray).toS, ⟨⟨_, Heap.get?_push_size _ rfl, rfl, rfl⟩, pl.isList.push _⟩, fun b hb => ?_, by rw [List.size_toArray]; omega, CmpOf.ints_gt (fun i => is.getD i 0) (fun i v hP => (ints_at r hP).2), fun v s' hP hmv => ?_⟩)
  · show b < (s.heap.push _).objs.size
    rw [Heap.size_push]
    rcases List.mem_cons.mp hb with e | hb
    · rw [e]; exact Nat.lt_succ_self _
    · rw [List.mem_singleton.mp hb]; exact Nat.lt_succ_of_lt hlt
  · have hk : ∀ b o, s.heap.get? b = some o → s'.heap.get? b = some o := fun b o e =>
      hmv.heap b o (fun hI => absurd (Heap.lt_size e) (by rw [List.mem_singleton.mp hI]; exact Nat.lt_irrefl _)) (Heap.get?_push_of_some _ e)
    rw [Moved.eq_with hmv]
    rw [List.size_toArray, ← hlen] at hP
    obtain ⟨hi, t, rfl⟩ := ints_at r hP
    refine ⟨V.int _, H, I.kept (t' := s'.toks) hk, ⟨t, rfl⟩, q _ ?_ fun x hx => ?_⟩
    · rw [List.getD_eq_getElem?_getD, List.getElem?_eq_getElem hi]; exact List.getElem_mem hi
    · obtain ⟨j, hj⟩ := List.mem_iff_getElem?.mp hx
      have hjl := (List.getElem?_eq_some_iff.mp hj).1
      have := hb.2 j (by omega)
      rw [show is.getD j 0 = x by rw [List.getD_eq_getElem?_getD, hj]; rfl] at this
      exact this
end
section
variable {K : PySem.W.Frag} {H : Hp} {Q : VK} {xs : List V}
theorem rd_maxL : rMaxL K xs H Q = ∃ (p : Addr) (is : List Int), xs = [.ref p] ∧ SqL K H p (is.map V.int) ∧ is ≠ [] ∧ ∀ v ∈ is, (∀ x ∈ is, x ≤ v) → Q (.int v) H := rfl
end
section
variable {X : Cx}
end
end L2

set_option Elab.async false
set_option linter.all false
set_option maxRecDepth 100000
set_option maxHeartbeats 4000000
namespace L2
open PySem PySem.Spec PyProof.Rows
noncomputable def itemsO (v d : Addr) : HO := .ext fun h => h.IsItemsView v d
noncomputable def Iti (o : Obj) (d : Addr) : It :=
  ⟨fun i H => ∃ kvs p, H d = some (.frz o (.dK kvs)) ∧ kvs[i]? = some p, fun i H v H' => ∃ t k x, v = .ref t ∧ H t = none ∧ H' = upd H t (.tup [kV k, x]) ∧ ∀ kvs, H d = some (.frz o (.dK kvs)) → kvs[i]? = some (k, x),
    fun i H => ∃ kvs, H d = some (.frz o (.dK kvs)) ∧ kvs.length ≤ i⟩
section
variable {X : Cx}
noncomputable def rItems : V → List V → Hp → VK → Prop := fun x vs H Q => ∃ a kvs, x = .ref a ∧ vs = [] ∧ H a = some (.dK kvs) ∧ ∀ v, H v = none → Q (.ref v) (upd H v (itemsO v a))
noncomputable def iView (tv : TE) : TI := fun σ H R => tv σ H fun x H1 => ∃ v d kvs, x = .ref v ∧ H1 v = some (itemsO v d) ∧ H1 d = some (.dK kvs) ∧ ∀ o, R (Iti o d) (upd H1 d (.frz o (.dK kvs)))
end
section
variable {K : PySem.W.Frag} {tail : St} {te : Blk → TE} {Q : VK} {H1 : Hp} {σ : St} {H : Hp}
theorem rd_items {x : V} {vs : List V} : rItems x vs H Q = ∃ a kvs, x = .ref a ∧ vs = [] ∧ H a = some (.dK kvs) ∧ ∀ v, H v = none → Q (.ref v) (upd H v (itemsO v a)) := rfl
theorem rd_iview {tv : TE} {R : It → Hp → Prop} : iView tv σ H R = tv σ H fun x H1 => ∃ v d kvs, x = .ref v ∧ H1 v = some (itemsO v d) ∧ H1 d = some (.dK kvs) ∧ ∀ o, R (Iti o d) (upd H1 d (.frz o (.dK kvs))) := rfl
end
end L2

set_option Elab.async false
set_option linter.all false
set_option maxRecDepth 100000
set_option maxHeartbeats 1000000
namespace L2
open PySem PySem.Spec PyProof.Rows
theorem rd_augN {σ : St} {H : Hp} {D : Ends} {i : Nat} {te : TE} {ti : TIp} : tAug i te ti D σ H = ∃ x, σ[i]? = some (some x) ∧ te σ H fun y H1 => ti x y H1 fun z H2 => D.nx (σ.set i (some z)) H2 := rfl
end L2
namespace N41
open PySem PySem.Spec PyProof.Rows L2 N1 N5 N31 N4 N32
noncomputable def U41 : Int := 27720 * 1000003
theorem getD_s {ys : List Str} {k : Nat} (h : k < ys.length) : ys[k]? = some (ys.getD k Str.empty) := by rw [List.getD_eq_getElem?_getD, List.getElem?_eq_getElem h]; rfl
theorem fl_congr {c c' r r' : Str → Int} {T : List Int} {S P : Int} {ys : List Str} (h : ∀ y ∈ ys, c y = c' y ∧ r y = r' y) : ∀ n, n ≤ ys.length → fl c r T S P ys n = fl c' r' T S P ys n := by
  intro n hn
  induction n with
  | zero => rfl
  | succ n ih =>
    have hy := h (ys.getD n Str.empty) (List.mem_of_getElem? (getD_s hn))
    show fl c r T S P ys n + (leastAt c r T S ys n - _ * (P - r _)) = fl c' r' T S P ys n + (leastAt c' r' T S ys n - _ * (P - r' _))
    have hl : leastAt c r T S ys n = leastAt c' r' T S ys n := by
      unfold leastAt
      rw [hy.1, hy.2]
    rw [ih (by omega), hl, hy.2]
theorem scale_ratio {F S D : Int} (hD : 0 < D) : (D * F).fdiv (Int.gcd (D * F) (D * S)) = F.fdiv (Int.gcd F S) ∧ (D * S).fdiv (Int.gcd (D * F) (D * S)) = S.fdiv (Int.gcd F S) := by
  have e : ((Int.gcd (D * F) (D * S) : Nat) : Int) = D * (Int.gcd F S : Int) := by
    rw [Int.gcd_mul_left, Int.natCast_mul]
    rw [show ((D.natAbs : Nat) : Int) = D by omega]
  rw [e]
  exact ⟨Int.mul_fdiv_mul_of_pos _ _ hD, Int.mul_fdiv_mul_of_pos _ _ hD⟩
theorem worth_eq {U S D t b : Int} (hb : 0 < b) (hU : U = D * S) (hS : b ∣ S) : (U * t).fdiv b = D * (t * S.fdiv b) := by
  obtain ⟨s', rfl⟩ := hS
  rw [hU, Int.mul_fdiv_cancel_left _ (by omega)]
  rw [show D * (b * s') * t = b * (D * (t * s')) by rw [Int.mul_left_comm D b s', Int.mul_assoc, Int.mul_assoc, Int.mul_comm s' t]]
  exact Int.mul_fdiv_cancel_left _ (by omega)
noncomputable def ask1S (ys : List Str) (m : Nat) (c : Int) : Str := ys.getD (c % (m : Int)).toNat Str.empty
noncomputable def ask1 (ys : List Str) (m : Nat) : V → V
  | .int c => .str (ask1S ys m c)
  | _ => .non
structure PrI (K : PySem.W.Frag) (H : Hp) (as : List Addr) (ps : List (Int × Int)) : Prop where
  n : as.length = ps.length
  it : ∀ (i : Nat) (a : Addr) (q : Int × Int), as[i]? = some a → ps[i]? = some q → SqT K H a [.int q.1, .int q.2]
theorem PrI.same {K : PySem.W.Frag} {H H' : Hp} {as : List Addr} {ps : List (Int × Int)} (m : Same H H') (h : PrI K H as ps) : PrI K H' as ps := ⟨h.n, fun i a q e1 e2 => m.tup (h.it i a q e1 e2)⟩
theorem PrI.at {K : PySem.W.Frag} {H : Hp} {p : Addr} {as : List Addr} {ps : List (Int × Int)} (h : PrI K H as ps) (e : H p = some (.lst (as.map V.ref))) : PrAt K H p ps := ⟨as, SqL.of e, h.n, h.it⟩
noncomputable def worthOf (ps : List (Int × Int)) : List Int := ps.map fun q => (U41 * q.1).fdiv q.2
theorem worth_tops {ps : List (Int × Int)} {S D : Int} (hU : U41 = D * S) (h : ∀ q ∈ ps, 0 < q.2 ∧ q.2 ∣ S) : worthOf ps = (topsOf S ps).map fun t => D * t := by
  unfold worthOf topsOf
  rw [List.map_map]
  refine List.map_congr_left fun q hq => ?_
  exact worth_eq (h q hq).1 hU (h q hq).2
theorem due_eq {ps : List (Int × Int)} {S P : Int} {C R c r : Str → Int} {ys : List Str} (hS0 : 0 < S) (hSU : S ∣ U41) (h : ∀ q ∈ ps, 0 < q.2) (hall : ∀ q ∈ ps, q.2 ∣ S) (hc : ∀ y ∈ ys, c y = C y ∧ r y = R y) :
    (fl C R (worthOf ps) U41 P ys ys.length).fdiv (Int.gcd (fl C R (worthOf ps) U41 P ys ys.length) U41) = (fl c r (topsOf S ps) S P ys ys.length).fdiv (Int.gcd (fl c r (topsOf S ps) S P ys ys.length) S) ∧
    U41.fdiv (Int.gcd (fl C R (worthOf ps) U41 P ys ys.length) U41) = S.fdiv (Int.gcd (fl c r (topsOf S ps) S P ys ys.length) S) := by
  obtain ⟨D, hD⟩ := hSU
  rw [Int.mul_comm] at hD
  have hD0 : 0 < D := by
    have hu : (0 : Int) < U41 := by decide
    refine Decidable.byContradiction fun hn => ?_
    have := Int.mul_nonpos_of_nonpos_of_nonneg (show D ≤ 0 by omega) (Int.le_of_lt hS0)
    omega
  rw [worth_tops hD (fun q hq => ⟨h q hq, hall q hq⟩), hD, fl_scale (Int.le_of_lt hD0), fl_congr hc ys.length (Nat.le_refl _)]
  exact scale_ratio hD0
theorem PrI.drop {K : PySem.W.Frag} {H : Hp} {as : List Addr} {ps : List (Int × Int)} (h : PrI K H as ps) (n : Nat) : PrI K H (as.drop n) (ps.drop n) :=
  ⟨by rw [List.length_drop, List.length_drop, h.n], fun i a q e1 e2 => by
    rw [List.getElem?_drop] at e1 e2
    exact h.it _ a q e1 e2⟩
end N41
namespace L2
open PySem PySem.Spec PyProof.Rows
end L2

set_option linter.all false
set_option maxHeartbeats 1000000
namespace N6
open PySem PySem.Spec PyProof.Rows L2 N1 N5 N4
noncomputable def sfl (p d : Addr) (n : Int) : List (Str × V) := putF "rooms" (.ref d) (putF "places" (.int n) (putF "stock" (.ref p) []))
noncomputable abbrev Ly := List (Str × Int)
noncomputable def lyK (ls : Ly) : List (Key × V) := ls.map fun x => (Sum.inr x.1, .int x.2)
noncomputable def lyN (ls : Ly) : List Str := ls.map (·.1)
noncomputable def lyS (ls : Ly) : Int := (ls.map (·.2)).sum
structure ShelfAt (S : Addr) (H : Hp) (q p d : Addr) (n : Int) (ls : Ly) : Prop where
  o : ∃ dx, H q = some (.ins S dx (sfl p d n))
  d : H d = some (.dK (lyK ls))
  nd : (lyN ls).Nodup
theorem ShelfAt.same {S : Addr} {H H' : Hp} {q p d : Addr} {n : Int} {ls : Ly} (s : Same H H') (h : ShelfAt S H q p d n ls) : ShelfAt S H' q p d n ls :=
  ⟨h.o.imp fun _ e => s _ _ e, s _ _ h.d, h.nd⟩
structure StockX (K : PySem.W.Frag) (C : Addr) (H : Hp) (p : Addr) (ts : List Th) (d : Addr) : Prop where
  ex : ∃ (dx e : Addr) (kvs : List (Key × V)), e ≠ d ∧ H p = some (.ins C dx (flds e)) ∧ H e = some (.dK kvs) ∧ kvs.map (·.1) = ts.map (fun t => Sum.inr t.1) ∧
    ∀ (i : Nat) (t : Th), ts[i]? = some t → ∃ a, kvs[i]? = some (Sum.inr t.1, .ref a) ∧ SqT K H a [.int i, .int t.2.1, .int t.2.2]
section
variable {K : PySem.W.Frag} {C S : Addr} {H H' : Hp} {p q d : Addr} {ts : List Th} {n : Int} {ls : Ly} {z : Str}
theorem StockX.at (h : StockX K C H p ts d) : StockAt K C H p ts := by
  obtain ⟨dx, e, kvs, _, r⟩ := h.ex
  exact ⟨dx, e, kvs, r⟩
theorem StockX.of (h : StockAt K C H p ts) (hd : H d = none) : StockX K C H p ts d := by
  obtain ⟨dx, e, kvs, h1, h2, r⟩ := h.ex
  exact ⟨dx, e, kvs, ne_of_none h2 hd, h1, h2, r⟩
theorem StockX.same (s : Same H H') (h : StockX K C H p ts d) : StockX K C H' p ts d := by
  obtain ⟨dx, e, kvs, n, h1, h2, h3, h4⟩ := h.ex
  refine ⟨dx, e, kvs, n, s _ _ h1, s _ _ h2, h3, fun i t q => ?_⟩
  obtain ⟨a, e1, e2⟩ := h4 i t q
  exact ⟨a, e1, s.tup e2⟩
theorem SqT.butD {a : Addr} {xs : List V} {kvs : List (Key × V)} (s : SameBut d H H') (hd : H d = some (.dK kvs)) (h : SqT K H a xs) : SqT K H' a xs := by
  rcases h with (h | ⟨o, h⟩) | h
  · exact .inl (.inl (s _ _ h (ne_of h hd (by intro z; cases z))))
  · exact .inl (.inr ⟨o, s _ _ h (ne_of h hd (by intro z; cases z))⟩)
  · exact .inr h
theorem SqL.butD {a : Addr} {xs : List V} {kvs : List (Key × V)} (s : SameBut d H H') (hd : H d = some (.dK kvs)) (h : SqL K H a xs) : SqL K H' a xs := by
  rcases h with (h | ⟨o, h⟩) | h
  · exact .inl (.inl (s _ _ h (ne_of h hd (by intro z; cases z))))
  · exact .inl (.inr ⟨o, s _ _ h (ne_of h hd (by intro z; cases z))⟩)
  · exact .inr h
theorem StockX.butD {kvs' : List (Key × V)} (s : SameBut d H H') (hd : H d = some (.dK kvs')) (h : StockX K C H p ts d) : StockX K C H' p ts d := by
  obtain ⟨dx, e, kvs, n, h1, h2, h3, h4⟩ := h.ex
  refine ⟨dx, e, kvs, n, s _ _ h1 (ne_of h1 hd (by intro z; cases z)), s _ _ h2 n, h3, fun i t q => ?_⟩
  obtain ⟨a, e1, e2⟩ := h4 i t q
  exact ⟨a, e1, SqT.butD s hd e2⟩
theorem StockX.butL {l : Addr} {zs : List V} (s : SameBut l H H') (hl : H l = some (.lst zs)) (h : StockX K C H p ts d) : StockX K C H' p ts d := by
  obtain ⟨dx, e, kvs, n, h1, h2, h3, h4⟩ := h.ex
  refine ⟨dx, e, kvs, n, s _ _ h1 (ne_of h1 hl (by intro z; cases z)), s _ _ h2 (ne_of h2 hl (by intro z; cases z)), h3, fun i t q => ?_⟩
  obtain ⟨a, e1, e2⟩ := h4 i t q
  exact ⟨a, e1, SqT.butL s hl e2⟩
theorem ShelfAt.butL {l : Addr} {zs : List V} (s : SameBut l H H') (hl : H l = some (.lst zs)) (h : ShelfAt S H q p d n ls) : ShelfAt S H' q p d n ls :=
  ⟨h.o.imp fun _ e => s _ _ e (ne_of e hl (by intro z; cases z)), s _ _ h.d (ne_of h.d hl (by intro z; cases z)), h.nd⟩
theorem lyK_map : (lyK ls).map (·.1) = (lyN ls).map Sum.inr := by unfold lyK lyN; rw [List.map_map, List.map_map]; rfl
theorem lyK_vals : (lyK ls).map (·.2) = (ls.map (·.2)).map V.int := by unfold lyK; rw [List.map_map, List.map_map]; rfl
theorem lyK_mem : (valV (lyK ls) (Sum.inr z)).isSome = decide (z ∈ lyN ls) := key_mem lyK_map
theorem lyK_put {r : Int} (h : ¬ z ∈ lyN ls) : putK (lyK ls) (Sum.inr z) (.int r) = lyK (ls ++ [(z, r)]) := by
  have hv : valV (lyK ls) (Sum.inr z : Key) = none := by
    have := lyK_mem (ls := ls) (z := z)
    rw [decide_eq_false h] at this
    cases hv : valV (lyK ls) (Sum.inr z : Key) with
    | none => rfl
    | some v => rw [hv] at this; cases this
  rw [putK_new _ hv]
  unfold lyK
  rw [List.map_append]
  rfl
noncomputable def lyD (ls : Ly) (z : Str) : Ly := ls.filter fun x => decide (x.1 ≠ z)
theorem lyK_drop : dropK (lyK ls) (Sum.inr z) = lyK (lyD ls z) := by
  unfold dropK lyK lyD
  rw [List.filter_map]
  congr 1
  refine List.filter_congr fun x _ => ?_
  show decide ((Sum.inr x.1 : Key) ≠ Sum.inr z) = decide (x.1 ≠ z)
  exact decide_eq_decide.mpr ⟨fun h e => h (by rw [e]), fun h e => h (by injection e)⟩
theorem lyD_names (nd : (lyN ls).Nodup) : lyN (lyD ls z) = (lyN ls).erase z := by
  unfold lyN lyD at *
  rw [List.Nodup.erase_eq_filter nd, List.filter_map]
  congr 1
  refine List.filter_congr fun x _ => ?_
  by_cases h : x.1 = z
  · simp [h]
  · simp [h]
theorem lyD_sum : ∀ {ls : Ly} {z : Str} {r : Int}, (lyN ls).Nodup → (z, r) ∈ ls → lyS (lyD ls z) = lyS ls - r
  | x :: ls, z, r, nd, h => by
    unfold lyN at nd
    rw [List.map_cons, List.nodup_cons] at nd
    by_cases e : x.1 = z
    · have e2 : lyD (x :: ls) z = ls := by
        unfold lyD
        rw [List.filter_cons, if_neg (by simp [e])]
        refine List.filter_eq_self.mpr fun y hy => ?_
        simp only [decide_eq_true_eq]
        intro ey
        exact nd.1 (by rw [e, ← ey]; exact List.mem_map_of_mem hy)
      have e3 : x.2 = r := by
        rcases List.mem_cons.mp h with h | h
        · rw [← h]
        · exact absurd (by rw [e]; exact List.mem_map_of_mem (f := (·.1)) h) nd.1
      rw [e2]
      unfold lyS
      rw [List.map_cons, List.sum_cons]
      omega
    · have e2 : lyD (x :: ls) z = x :: lyD ls z := by
        unfold lyD
        rw [List.filter_cons, if_pos (by simp [e])]
      have h' : (z, r) ∈ ls := by
        rcases List.mem_cons.mp h with h | h
        · exact absurd (by rw [← h]) e
        · exact h
      have := lyD_sum (ls := ls) (z := z) (r := r) nd.2 h'
      rw [e2]
      unfold lyS at *
      rw [List.map_cons, List.sum_cons, List.map_cons, List.sum_cons, this]
      omega
end
theorem repr_name {z : Str} (h : nameB z.cps.toList = true) : (reprText z).length ≤ 1000 := by
  have hl := name_len h
  have hc : ∀ c ∈ z.cps.toList, c < 16 ^ 8 := fun c hc => by
    unfold nameB at h
    simp only [Bool.and_eq_true, List.all_eq_true, decide_eq_true_eq] at h
    rcases List.mem_append.mp (h.2 c hc) with h | h
    · have := mem_let.mp h; omega
    · have := mem_fig.mp h; omega
  have := PySem.StrLaws.reprText_len z hc
  omega
theorem ShelfAt.put {S : Addr} {H H1 : Hp} {q p d : Addr} {n : Int} {ls : Ly} {z : Str} {r : Int} (h : ShelfAt S H q p d n ls) (s : Same H H1) (hz : ¬ z ∈ lyN ls) : ShelfAt S (upd H1 d (.dK (putK (lyK ls) (Sum.inr z) (.int r)))) q p d n (ls ++ [(z, r)]) := by
  obtain ⟨dx, ho⟩ := h.o
  have h1 := s _ _ ho
  have h2 := s _ _ h.d
  refine ⟨⟨dx, by rw [upd_ne (ne_of h1 h2 (by intro z; cases z))]; exact h1⟩, by rw [upd_same, lyK_put hz], ?_⟩
  have e : lyN (ls ++ [(z, r)]) = lyN ls ++ [z] := by unfold lyN; rw [List.map_append]; rfl
  rw [e, List.nodup_append]
  exact ⟨h.nd, by simp, fun a ha b hb e => hz (by rw [List.mem_singleton.mp hb] at e; rw [← e]; exact ha)⟩
theorem ShelfAt.cast {S : Addr} {H : Hp} {q p d : Addr} {n : Int} {ls : Ly} {z : Str} (h : ShelfAt S H q p d n ls) : ShelfAt S (upd H d (.dK (dropK (lyK ls) (Sum.inr z)))) q p d n (lyD ls z) := by
  obtain ⟨dx, ho⟩ := h.o
  refine ⟨⟨dx, by rw [upd_ne (ne_of ho h.d (by intro z; cases z))]; exact ho⟩, by rw [upd_same, lyK_drop], ?_⟩
  rw [lyD_names h.nd]
  exact h.nd.erase z
noncomputable def sp_sinit (S : Addr) : Sp := fun vs H Q _ => ∃ (q dx p : Addr) (n : Int), vs = [.ref q, .ref p, .int n] ∧ H q = some (.ins S dx []) ∧ 1 ≤ n ∧ n ≤ 1000000 ∧ ∀ H' d, SameBut q H H' → H d = none → ShelfAt S H' q p d n [] → Q .non H'
noncomputable def sp_lying (S : Addr) : Sp := fun vs H Q _ => ∃ (q p d : Addr) (n : Int) (ls : Ly), vs = [.ref q] ∧ ShelfAt S H q p d n ls ∧ ∀ l, H l = none → Q (.ref l) (upd H l (.lst ((lyN ls).map V.str)))
noncomputable def sp_holds (S : Addr) : Sp := fun vs H Q _ => ∃ (q p d : Addr) (n : Int) (ls : Ly) (z : Str), vs = [.ref q, .str z] ∧ ShelfAt S H q p d n ls ∧ Q (.bl (decide (z ∈ lyN ls))) H
noncomputable def sp_left (S : Addr) : Sp := fun vs H Q _ => ∃ (q p d : Addr) (n : Int) (ls : Ly), vs = [.ref q] ∧ ShelfAt S H q p d n ls ∧ ∀ H', Same H H' → Q (.int (n - lyS ls)) H'
end N6

set_option linter.all false
set_option maxHeartbeats 1000000
namespace N6
open PySem PySem.Spec PyProof.Rows L2 N1 N5 N4
theorem bc_fig {k : Int} (h0 : 0 ≤ k) (h1 : k < 10) : bc (26 + k) ∈ letters ++ figures := by
  have := bc_both (i := 26 + k)
  rwa [Int.emod_eq_of_lt (by omega) (by omega)] at this
theorem name_more {l : List Nat} {c : Nat} (h : nameB l = true) (hl : l.length < 8) (hc : c ∈ letters ++ figures) : nameB (l ++ [c]) = true := by
  unfold nameB at h ⊢
  simp only [Bool.and_eq_true, decide_eq_true_eq, List.all_eq_true] at h ⊢
  obtain ⟨⟨⟨h1, h2⟩, h3⟩, h4⟩ := h
  refine ⟨⟨⟨by simp, by simp; omega⟩, ?_⟩, fun x hx => ?_⟩
  · cases l with
    | nil => simp at h1
    | cons a r => exact h3
  · rcases List.mem_append.mp hx with hx | hx
    · exact h4 x hx
    · rw [List.mem_singleton.mp hx]; exact hc
theorem nmL_len {F : Nat → Int} {at' : Int} {long k : Nat} : (nmL F at' long k).length = long := by simp [nmL]
theorem nmL_near {F : Nat → Int} {at' : Int} {long k k' : Nat} (h0 : 0 ≤ at') (h1 : at' < long) (hk : k < k' + 26) (hk' : k' < k + 26) (h : nmL F at' long k = nmL F at' long k') : k = k' := by
  have hl : at'.toNat < long := by omega
  have e := congrArg (fun l => l[at'.toNat]?) h
  simp only [nmL, List.getElem?_map, List.getElem?_range hl, Option.map_some, Option.some.injEq] at e
  unfold sgn at e
  rw [if_pos (by omega), if_pos (by omega)] at e
  have e2 := bc_mod e
  rcases md_two (j := at'.toNat) with hm | hm <;> rw [hm] at e2 <;> omega
noncomputable def nm3 (F : Nat → Int) (at' : Int) (long k : Nat) : List Nat := nmL F at' long k ++ if 25 < k then [bc (26 + (k : Int) / 26)] else []
theorem nm3_name {F : Nat → Int} {at' : Int} {long k : Nat} (h1 : 1 ≤ long) (h2 : long ≤ 8) (h3 : 25 < k → long ≤ 7) (hk : k < 61) : nameB (nm3 F at' long k) = true := by
  unfold nm3
  split
  · rename_i h
    exact name_more (nmL_name h1 h2) (by rw [nmL_len]; have := h3 h; omega) (bc_fig (by omega) (by omega))
  · rw [List.append_nil]; exact nmL_name h1 h2
theorem nm3_inj {F : Nat → Int} {at' : Int} {long k k' : Nat} (h0 : 0 ≤ at') (h1 : at' < long) (hk : k < 61) (hk' : k' < 61) (h : nm3 F at' long k = nm3 F at' long k') : k = k' := by
  have hl := congrArg List.length h
  unfold nm3 at h hl
  rw [List.length_append, List.length_append, nmL_len, nmL_len] at hl
  obtain ⟨e1, e2⟩ := List.append_inj h (by rw [nmL_len, nmL_len])
  by_cases c1 : 25 < k
  · by_cases c2 : 25 < k'
    · rw [if_pos c1, if_pos c2] at e2
      injection e2 with e3
      have e4 := bc_inj (by omega) (by omega) (by omega) (by omega) e3
      exact nmL_near h0 h1 (by omega) (by omega) e1
    · rw [if_pos c1, if_neg c2] at hl; simp at hl
  · by_cases c2 : 25 < k'
    · rw [if_neg c1, if_pos c2] at hl; simp at hl
    · exact nmL_near h0 h1 (by omega) (by omega) e1
theorem getD_str {ys : List Str} {i : Nat} (h : i < ys.length) : ys[i]? = some (ys.getD i Str.empty) := by
  rw [List.getD_eq_getElem?_getD, List.getElem?_eq_getElem h]; rfl
noncomputable def aOf : V → Addr
  | .ref a => a
  | _ => 0
noncomputable def Of (ys : List Str) (rs : List Int) (m : Nat) (ls : Ly) : Prop := ∀ x ∈ ls, ∃ i, i < m ∧ x = (ys.getD i Str.empty, rs.getD i 0)
theorem Of.mem {ys : List Str} {rs : List Int} {m i : Nat} {ls : Ly} (h : Of ys rs m ls) (nd : ys.Nodup) (hy : m ≤ ys.length) (hi : i < m) (hz : ys.getD i Str.empty ∈ lyN ls) : (ys.getD i Str.empty, rs.getD i 0) ∈ ls := by
  obtain ⟨x, hx, e⟩ := List.mem_map.mp hz
  obtain ⟨j, hj, rfl⟩ := h x hx
  have : ys[j]? = ys[i]? := by rw [getD_str (by omega), getD_str (by omega)]; exact congrArg some e
  have := (List.getElem?_inj (by omega) nd).mp this
  subst this
  exact hx
theorem Of.drop {ys : List Str} {rs : List Int} {m : Nat} {ls : Ly} {z : Str} (h : Of ys rs m ls) : Of ys rs m (lyD ls z) := fun x hx => h x (List.mem_filter.mp hx).1
theorem Of.snoc {ys : List Str} {rs : List Int} {m i : Nat} {ls : Ly} (h : Of ys rs m ls) (hi : i < m) : Of ys rs m (ls ++ [(ys.getD i Str.empty, rs.getD i 0)]) := fun x hx => by
  rcases List.mem_append.mp hx with hx | hx
  · exact h x hx
  · exact ⟨i, hi, List.mem_singleton.mp hx⟩
noncomputable def sp_mix : Sp := fun vs H Q _ => ∃ c k : Int, vs = [.int c, .int k] ∧ 0 ≤ k ∧ k ≤ 1000 ∧ ∀ v : Int, 0 ≤ v → Q (.int v) H
end N6

set_option Elab.async false
set_option linter.all false
set_option maxHeartbeats 1000000
namespace N6
open PySem PySem.Spec PyProof.Rows L2 N1 N5 N4
noncomputable def sp_thingG (K : PySem.W.Frag) (C : Addr) : Sp := fun vs H Q _ => ∃ (p : Addr) (ts : List Th) (z : Str), vs = [.ref p, .str z] ∧ StockAt K C H p ts ∧ (ts.map (·.1)).Nodup ∧ z ∈ ts.map (·.1) ∧ ∀ (i : Nat) (t : Th), ts[i]? = some t → t.1 = z → ∀ a, SqT K H a [.int i, .int t.2.1, .int t.2.2] → Q (.ref a) H
noncomputable def sp_roomG (K : PySem.W.Frag) (C : Addr) : Sp := fun vs H Q _ => ∃ (p : Addr) (ts : List Th) (z : Str), vs = [.ref p, .str z] ∧ StockAt K C H p ts ∧ (ts.map (·.1)).Nodup ∧ z ∈ ts.map (·.1) ∧ ∀ (i : Nat) (t : Th), ts[i]? = some t → t.1 = z → Q (.int t.2.2) H
noncomputable def sp_putG (K : PySem.W.Frag) (C S : Addr) : Sp := fun vs H Q _ => ∃ (q p d : Addr) (n : Int) (ls : Ly) (ts : List Th) (z : Str) (r : Int), vs = [.ref q, .str z] ∧ ShelfAt S H q p d n ls ∧ StockX K C H p ts d ∧ (ts.map (·.1)).Nodup ∧ ls.length ≤ 1000 ∧
  z ∈ ts.map (·.1) ∧ (∀ t ∈ ts, t.1 = z → t.2.2 = r) ∧ ¬ z ∈ lyN ls ∧ r ≤ n - lyS ls ∧ ∀ H', SameBut d H H' → ShelfAt S H' q p d n (ls ++ [(z, r)]) → Q .non H'
noncomputable def sp_castG (S : Addr) : Sp := fun vs H Q _ => ∃ (q p d : Addr) (n : Int) (ls : Ly) (z : Str), vs = [.ref q, .str z] ∧ ShelfAt S H q p d n ls ∧ z ∈ lyN ls ∧ ∀ H', SameBut d H H' → ShelfAt S H' q p d n (lyD ls z) → Q .non H'
end N6

set_option Elab.async false
set_option linter.all false
set_option maxRecDepth 100000
set_option maxHeartbeats 4000000
namespace L2
open PySem PySem.Spec PyProof.Rows

section
variable {M : Model} {A : Around} {E : Value → Shared → Prop} {s : Shared} {base : Heap} {env : Env} {outer l : List Env} {L e : Addr} {cls a0 fl : Value}
end

section
variable {X : Cx} {pins : List (Addr × Obj)} {σ : St} {scope : Scope} {xs : List Str} {fs : List Nat} {elt tg iter : Expr} {ifs : List Expr} {pos : Pos} {wi : TI} {g : Blk → TG} {tt : Blk → TT} {te : Blk → TE}
end
end L2

set_option linter.all false
set_option maxHeartbeats 1000000
namespace N08
open PySem PySem.Builtin PySem.Builtin.Str PySem.StrLaws
section
variable (x y : Str)
theorem sub_len {a : Nat} : (strSub x a x.length).length = x.length - a := by
  unfold strSub Str.length
  simp
theorem sub_list {a : Nat} : (strSub x a x.length).cps.toList = x.cps.toList.drop a := by
  rw [strSub_toList, List.take_of_length_le]
  rw [List.length_drop]
  simp [Str.length]
end
theorem str_ext {x y : Str} (h : x.cps.toList = y.cps.toList) : x = y := by
  cases x; cases y
  simpa using h
theorem cut_tail {x : Str} {a k : Nat} (h : a + k ≤ x.length) : Txt.slice (strSub x a x.length) (some (k : Int)) none = strSub x (a + k) x.length := by
  rw [PyProof.Rows.slice_from_eq (b := ((strSub x a x.length).length : Int)) (by omega) (by rw [sub_len]; omega) rfl]
  apply str_ext
  rw [sub_list, sub_len, List.take_of_length_le]
  · rw [sub_list]
    simp [List.drop_drop]
  · rw [List.length_drop, List.length_drop]
    simp [Str.length] at h ⊢
open PySem.NumText
end N08

namespace L2
open PySem PySem.Spec PyProof.Rows N1 N5
noncomputable def Like (K : PySem.W.Frag) (H : Hp) (x y : V) : Prop := (∃ z, x = .str z ∧ y = .str z) ∨ ∃ (a b : Addr) (as bs : List Addr), x = .ref a ∧ y = .ref b ∧ SqL K H a (as.map V.ref) ∧ SqL K H b (bs.map V.ref) ∧ as.length = bs.length ∧ ∀ (i : Nat) (p q : Addr), as[i]? = some p → bs[i]? = some q → ∃ xs, SqT K H p xs ∧ SqT K H q xs ∧ xs.all flatV = true
theorem eqV_self {x : V} (h : flatV x = true) : eqV x x = true := by
  cases x with
  | non => rfl
  | bl b => cases b <;> rfl
  | int i => exact beq_self_eq_true i
  | str z => rw [eqV_str]; simp
  | _ => cases h
theorem flatEq_self : ∀ {xs : List V}, xs.all flatV = true → flatEq xs xs = true
  | [], _ => rfl
  | x :: xs, h => by
    rw [List.all_cons, Bool.and_eq_true] at h
    show (eqV x x && flatEq xs xs) = true
    rw [eqV_self h.1, flatEq_self h.2]; rfl
section
variable {X : Cx}
end
section
variable {K : PySem.W.Frag} {tail : St} {te : Blk → TE} {Q : VK} {H1 : Hp}
end
section
variable {K : PySem.W.Frag} {tail : St} {te : Blk → TE} {Q : VK} {H1 : Hp}
end
section
variable {K : PySem.W.Frag} {H : Hp} {Q : VK} {xs : List V} {x y : V}
end
end L2
namespace N8
open PySem PySem.Spec PyProof.Rows L2 N1 N5 N08
inductive Pc where
  | line | num | ok (t : Th)
inductive R8 where
  | line | num | st (e : StE) | ok (ts : List Th)
noncomputable def rwOf (a : Addr) (t : Th) : Rw := (a, .str t.1, .int t.2.1, .int t.2.2)
noncomputable def word8 : R8 → Str
  | .line => Str.ofString "no line"
  | .num => Str.ofString "no number"
  | .st .noname => Str.ofString "no name"
  | .st .twice => Str.ofString "twice"
  | .st .nonum => Str.ofString "no number"
  | .st .many => Str.ofString "too many"
  | .ok _ => Str.empty
noncomputable def ThAt (K : PySem.W.Frag) (H : Hp) (as : List Addr) (ts : List Th) : Prop := as.length = ts.length ∧ ∀ (i : Nat) (a : Addr) (t : Th), as[i]? = some a → ts[i]? = some t → SqT K H a [.str t.1, .int t.2.1, .int t.2.2]
noncomputable def ResAt (K : PySem.W.Frag) (H : Hp) (x : V) : R8 → Prop
  | .ok ts => ∃ (p : Addr) (as : List Addr), x = .ref p ∧ H p = some (.lst (as.map V.ref)) ∧ ThAt K H as ts
  | r => x = .str (word8 r)
theorem ThAt.same {K : PySem.W.Frag} {H H' : Hp} {as : List Addr} {ts : List Th} (s : Same H H') (h : ThAt K H as ts) : ThAt K H' as ts := ⟨h.1, fun i a t e1 e2 => s.tup (h.2 i a t e1 e2)⟩
theorem ResAt.same {K : PySem.W.Frag} {H H' : Hp} {x : V} {r : R8} (s : Same H H') (h : ResAt K H x r) : ResAt K H' x r := by
  cases r with
  | ok ts => obtain ⟨p, as, e, hp, ht⟩ := h; exact ⟨p, as, e, s _ _ hp, ht.same s⟩
  | line => exact h
  | num => exact h
  | st e => exact h
theorem ResAt.like {K : PySem.W.Frag} {H : Hp} {x y : V} {r : R8} (h : ResAt K H x r) (h' : ResAt K H y r) : Like K H x y := by
  cases r with
  | ok ts =>
    obtain ⟨p, as, rfl, hp, ht⟩ := h
    obtain ⟨p2, as2, rfl, hp2, ht2⟩ := h'
    refine .inr ⟨p, p2, as, as2, rfl, rfl, SqL.of hp, SqL.of hp2, ht.1.trans ht2.1.symm, fun i a b e1 e2 => ?_⟩
    have hi : i < ts.length := by have := (List.getElem?_eq_some_iff.mp e1).1; have := ht.1; omega
    exact ⟨_, ht.2 i a _ e1 (List.getElem?_eq_getElem hi), ht2.2 i b _ e2 (List.getElem?_eq_getElem hi), rfl⟩
  | line => exact .inl ⟨_, h, h'⟩
  | num => exact .inl ⟨_, h, h'⟩
  | st e => exact .inl ⟨_, h, h'⟩
end N8
namespace N8
open PySem PySem.Spec PyProof.Rows L2 N1 N5 N08
section
variable {K : PySem.W.Frag} {C : Addr} {H H' : Hp} {p : Addr} {ts : List Th} {z : Str}
end
end N8
namespace L2
open PySem PySem.Spec PyProof.Rows
noncomputable abbrev g3 (K : PySem.W.Frag) : Blk → TG := fun _ => gTup K 3 (gCons (gName 0) (gCons (gName 1) (gCons (gName 2) gNil)))
noncomputable abbrev tComp3 (K : PySem.W.Frag) (wi : TI) (fs : List Nat) (te : Blk → TE) : TE := tComp wi 3 fs (g3 K) (fun _ => tYes) te
section
variable {X : Cx} {scope : Scope} {x y z : Str} {px py pz pt : Pos} {n : Nat} {fs : List Nat} {elt iter : Expr} {pos : Pos} {wi : TI} {te : Blk → TE}
end
section
variable {K : PySem.W.Frag} {tail : St} {te : Blk → TE} {Q : VK} {H1 : Hp} {σ : St} {H : Hp}
theorem rd_comp3 {wi : TI} {fs : List Nat} : tComp3 K wi fs te σ H Q = wi σ H (CompTail (none :: none :: none :: fs.map fun j => σ.getD j none) (g3 K) (fun _ => tYes) te Q) := rfl
end
end L2
namespace N8
open PySem PySem.Spec PyProof.Rows L2 N1 N5 N08
open PySem.Builtin.Str (strSub strKind)
end N8
namespace N8
open PySem PySem.Spec PyProof.Rows L2 N1 N5 N08
end N8
namespace N8
open PySem PySem.Spec PyProof.Rows L2 N1 N5 N08
end N8
namespace N8
open PySem PySem.Spec PyProof.Rows L2 N1 N5 N08
end N8
namespace N8
open PySem PySem.Spec PyProof.Rows L2 N1 N5 N08
end N8
namespace N8
open PySem PySem.Spec PyProof.Rows L2 N1 N5 N08
theorem ThAt.snoc {K : PySem.W.Frag} {H H' : Hp} {as : List Addr} {ts : List Th} {a l : Addr} {zs : List V} {t : Th} (h : ThAt K H as ts) (hl : H l = some (.lst zs)) (s : SameBut l H H') (ha : SqT K H a [.str t.1, .int t.2.1, .int t.2.2]) : ThAt K H' (as ++ [a]) (ts ++ [t]) := by
  refine ⟨by rw [List.length_append, List.length_append, h.1]; rfl, fun i b u e1 e2 => ?_⟩
  have hlen := h.1
  by_cases hi : i < as.length
  · rw [List.getElem?_append_left hi] at e1
    rw [List.getElem?_append_left (by omega)] at e2
    exact SqT.butL s hl (h.2 i b u e1 e2)
  · rw [List.getElem?_append_right (by omega)] at e1
    rw [List.getElem?_append_right (by omega)] at e2
    have hi0 : i - as.length = 0 := by have := (List.getElem?_eq_some_iff.mp e1).1; simp at this; omega
    rw [hi0] at e1
    rw [show i - ts.length = 0 by omega] at e2
    cases e1
    cases e2
    exact SqT.butL s hl ha
theorem ThAt.set {K : PySem.W.Frag} {H H' : Hp} {as : List Addr} {ts : List Th} {a l : Addr} {zs : List V} {t : Th} {k : Nat} (h : ThAt K H as ts) (hl : H l = some (.lst zs)) (s : SameBut l H H') (ha : SqT K H a [.str t.1, .int t.2.1, .int t.2.2]) : ThAt K H' (as.set k a) (ts.set k t) := by
  refine ⟨by rw [List.length_set, List.length_set, h.1], fun i b u e1 e2 => ?_⟩
  have hlen := h.1
  rw [List.getElem?_set] at e1 e2
  by_cases hk : k = i
  · rw [if_pos hk] at e1 e2
    by_cases hi : k < as.length
    · rw [if_pos hi] at e1
      rw [if_pos (by omega)] at e2
      cases e1
      cases e2
      exact SqT.butL s hl ha
    · rw [if_neg hi] at e1; cases e1
  · rw [if_neg hk] at e1 e2
    exact SqT.butL s hl (h.2 i b u e1 e2)
theorem ThAt.but {K : PySem.W.Frag} {H H' : Hp} {as : List Addr} {ts : List Th} {e : Addr} {kvs : List (Key × V)} (h : ThAt K H as ts) (he : H e = some (.dK kvs)) (s : SameBut e H H') : ThAt K H' as ts := by
  refine ⟨h.1, fun i a t e1 e2 => ?_⟩
  rcases h.2 i a t e1 e2 with (h | ⟨o, h⟩) | h
  · exact .inl (.inl (s _ _ h (ne_of h he (by intro z; cases z))))
  · exact .inl (.inr ⟨o, s _ _ h (ne_of h he (by intro z; cases z))⟩)
  · exact .inr h
end N8
namespace N8
open PySem PySem.Spec PyProof.Rows L2 N1 N5 N08
theorem put_keys {kvs : List (Key × V)} {ks : List Str} {z : Str} {v : V} (h : kvs.map (·.1) = ks.map Sum.inr) (nz : ¬ z ∈ ks) : (putK kvs (Sum.inr z) v).map (·.1) = (ks ++ [z]).map Sum.inr := by
  have hv : valV kvs (Sum.inr z : Key) = none := by
    have := key_mem (z := z) h
    rw [decide_eq_false nz] at this
    cases h : valV kvs (Sum.inr z : Key) with
    | none => rfl
    | some v => rw [h] at this; cases this
  rw [putK_new _ hv, List.map_append, h]
  simp
end N8
namespace N8
open PySem PySem.Spec PyProof.Rows L2 N1 N5 N08
end N8

set_option Elab.async false
set_option linter.all false
set_option maxRecDepth 100000
set_option maxHeartbeats 1000000
namespace L2
open PySem PySem.Spec PyProof.Rows N1 N5
noncomputable def LikeV (K : PySem.W.Frag) (H : Hp) (x y : V) : Prop := (flatV x = true ∧ y = x) ∨ ∃ (p q : Addr) (xs : List V), x = .ref p ∧ y = .ref q ∧ SqT K H p xs ∧ SqT K H q xs ∧ xs.all flatV = true
noncomputable def LikeT (K : PySem.W.Frag) (H : Hp) (x y : V) : Prop := ∃ (a b : Addr) (xs ys : List V), x = .ref a ∧ y = .ref b ∧ SqT K H a xs ∧ SqT K H b ys ∧ xs.length = ys.length ∧ ∀ (i : Nat) (u v : V), xs[i]? = some u → ys[i]? = some v → LikeV K H u v
section
variable {X : Cx}
end
section
variable {K : PySem.W.Frag} {tail : St} {te : Blk → TE} {Q : VK} {H1 : Hp}
end
end L2
namespace N12
open PySem PySem.Spec PyProof.Rows L2 N1 N5 N4 N6
noncomputable def sp12_names : Sp := fun vs H Q _ => ∃ (i : Int) (m : Nat), vs = [.int i, .int m] ∧ m ≤ 26 ∧ ∀ (p : Addr) (ys : List Str) (H' : Hp), H p = none → Same H H' → H' p = some (.lst (ys.map V.str)) → ys.length ≤ m → m ≤ ys.length → ys.Nodup → (∀ y ∈ ys, nameB y.cps.toList = true) → Q (.ref p) H'
noncomputable def rmOf (ts : List Th) (z : Str) : Int := match ts.find? (fun t => decide (t.1 = z)) with
  | some t => t.2.2
  | none => 0
theorem rmOf_is {ts : List Th} (nd : (ts.map (·.1)).Nodup) {t : Th} (h : t ∈ ts) : rmOf ts t.1 = t.2.2 := by
  unfold rmOf
  induction ts with
  | nil => cases h
  | cons a ts ih =>
    rw [List.map_cons, List.nodup_cons] at nd
    by_cases e : a.1 = t.1
    · rw [List.find?_cons_of_pos (by simpa using e)]
      rcases List.mem_cons.mp h with rfl | h'
      · rfl
      · exact absurd (List.mem_map.mpr ⟨t, h', e.symm⟩) nd.1
    · rw [List.find?_cons_of_neg (by simpa using e)]
      rcases List.mem_cons.mp h with rfl | h'
      · exact absurd rfl e
      · exact ih nd.2 h'
noncomputable def DueAt (H : Hp) (t : Addr) (z : Str) (r : Str × Bool) : Prop := if r.2 = true then ∃ u, H t = some (.tup [.str r.1, .ref u]) ∧ H u = some (.tup [.str z, .int (-1)]) else H t = some (.tup [.str r.1, .non])
theorem DueAt.same {H H' : Hp} {t : Addr} {z : Str} {r : Str × Bool} (s : Same H H') (h : DueAt H t z r) : DueAt H' t z r := by
  unfold DueAt at h ⊢
  split at h
  · rename_i e
    obtain ⟨u, h1, h2⟩ := h
    rw [if_pos e]
    exact ⟨u, s _ _ h1, s _ _ h2⟩
  · rename_i e
    rw [if_neg e]
    exact s _ _ h
theorem DueAt.like {K : PySem.W.Frag} {H : Hp} {t t' : Addr} {z : Str} {r : Str × Bool} (h : DueAt H t z r) (h' : DueAt H t' z r) : LikeT K H (.ref t) (.ref t') := by
  unfold DueAt at h h'
  split at h
  · rename_i e
    rw [if_pos e] at h'
    obtain ⟨u, h1, h2⟩ := h
    obtain ⟨u', h3, h4⟩ := h'
    refine ⟨t, t', _, _, rfl, rfl, SqT.of h1, SqT.of h3, rfl, fun i x y hx hy => ?_⟩
    match i with
    | 0 => cases hx; cases hy; exact .inl ⟨rfl, rfl⟩
    | 1 => cases hx; cases hy; exact .inr ⟨u, u', _, rfl, rfl, SqT.of h2, SqT.of h4, rfl⟩
    | i + 2 => cases hx
  · rename_i e
    rw [if_neg e] at h'
    refine ⟨t, t', _, _, rfl, rfl, SqT.of h, SqT.of h', rfl, fun i x y hx hy => ?_⟩
    match i with
    | 0 => cases hx; cases hy; exact .inl ⟨rfl, rfl⟩
    | 1 => cases hx; cases hy; exact .inl ⟨rfl, rfl⟩
    | i + 2 => cases hx
noncomputable def RmAt (H : Hp) (d : Addr) (ts : List Th) : Prop := ∃ (o : Obj), H d = some (.frz o (.dK (ts.map fun t => (Sum.inr t.1, .int t.2.2))))
theorem RmAt.same {H H' : Hp} {d : Addr} {ts : List Th} (s : Same H H') (h : RmAt H d ts) : RmAt H' d ts := let ⟨o, e⟩ := h; ⟨o, s _ _ e⟩
theorem RmAt.but {H H' : Hp} {d e : Addr} {ts : List Th} {u : HO} (s : SameBut e H H') (he : H e = some u) (hu : ∀ o v, u ≠ .frz o v) (h : RmAt H d ts) : RmAt H' d ts := by
  obtain ⟨o, hd⟩ := h
  exact ⟨o, s _ _ hd (fun z => by rw [z, he] at hd; cases hd; exact hu _ _ rfl)⟩
theorem RmAt.get {H : Hp} {d : Addr} {ts : List Th} {z : Str} (h : RmAt H d ts) : DGet H d (.str z) (valV (ts.map fun t => ((Sum.inr t.1 : Key), V.int t.2.2)) (Sum.inr z)) := by
  obtain ⟨o, e⟩ := h
  exact .inl ⟨_, Sum.inr z, .inr ⟨o, e⟩, rfl, rfl⟩
theorem rm_some {ts : List Th} {z : Str} (h : z ∈ ts.map (·.1)) : valV (ts.map fun t => ((Sum.inr t.1 : Key), V.int t.2.2)) (Sum.inr z) = some (.int (rmOf ts z)) := by
  unfold rmOf
  induction ts with
  | nil => cases h
  | cons a ts ih =>
    by_cases e : a.1 = z
    · subst e
      rw [List.find?_cons_of_pos (by simp)]
      simp [valV]
    · rw [List.find?_cons_of_neg (by simpa using e)]
      have h2 := ih ((List.mem_cons.mp (by rw [List.map_cons] at h; exact h)).resolve_left fun z => e z.symm)
      rw [← h2]
      simp [valV, e]
theorem DueAt.butD {H H' : Hp} {t d : Addr} {z : Str} {r : Str × Bool} {kvs : List (Key × V)} (s : SameBut d H H') (hd : H d = some (.dK kvs)) (h : DueAt H t z r) : DueAt H' t z r := by
  have key : ∀ (b : Addr) (xs : List V), H b = some (.tup xs) → H' b = some (.tup xs) := fun b xs e => s _ _ e (ne_of e hd (by intro z; cases z))
  unfold DueAt at h ⊢
  split at h
  · rename_i e
    obtain ⟨u, h1, h2⟩ := h
    rw [if_pos e]
    exact ⟨u, key _ _ h1, key _ _ h2⟩
  · rename_i e
    rw [if_neg e]
    exact key _ _ h
end N12

set_option Elab.async false
set_option linter.all false
set_option maxRecDepth 100000
set_option maxHeartbeats 1000000
namespace N41
open PySem PySem.Spec PyProof.Rows L2 N1 N5 N31 N4 N32
theorem pays_cast {c r : Str → Int} {T : List Int} {S P : Int} {ys : List Str} {n : Nat} {L M : List Str} {paid : Int} (h : Pays c r T S P ys n L paid) (hr : ∀ y ∈ L, 0 ≤ r y) (hT : ∀ t ∈ T, 0 ≤ t) (s : List.Sublist M L) : Pays c r T S P ys n M paid := by
  have h1 := sm_sub (f := r) s hr
  have h2 := sm_sub (f := cr r T ys n) s fun y hy => cr_nn (hr y hy) hT
  exact ⟨h.nd.sublist s, Int.le_trans h1 h.fit, fun y hy => h.asked y (s.subset hy), by have := h.le; omega⟩
structure PaysA (c r : Str → Int) (P : Int) (ys : List Str) (n : Nat) (L : List Str) (paid : Int) : Prop where
  nd : L.Nodup
  fit : sm r L ≤ P
  asked : ∀ y ∈ L, (lastIx ys y n).isSome = true
  all : ∀ (T : List Int) (S : Int), (∀ t ∈ T, 0 ≤ t) → T.length = ys.length → Pays c r T S P ys n L paid
section
variable {c r : Str → Int} {P : Int} {ys : List Str} {n : Nat} {L M : List Str} {paid : Int}
theorem PaysA.start (hP : 0 ≤ P) : PaysA c r P ys 0 [] 0 := ⟨List.nodup_nil, hP, (fun y hy => by cases hy), fun T S _ _ => Pays.start hP⟩
theorem PaysA.cast (h : PaysA c r P ys n L paid) (hr : ∀ y ∈ L, 0 ≤ r y) (s : List.Sublist M L) : PaysA c r P ys n M paid :=
  ⟨h.nd.sublist s, Int.le_trans (sm_sub (f := r) s hr) h.fit, fun y hy => h.asked y (s.subset hy), fun T S hT hl => pays_cast (h.all T S hT hl) hr hT s⟩
theorem PaysA.hit (h : PaysA c r P ys n L paid) (hn : n < ys.length) (hz : ys.getD n Str.empty ∈ L) : PaysA c r P ys (n + 1) L paid :=
  ⟨h.nd, h.fit, fun y hy => asked_next (h.asked y hy), fun T S hT hl => (h.all T S hT hl).hit hT (by omega) hz⟩
theorem PaysA.miss (h : PaysA c r P ys n L paid) (hn : n < ys.length) (hz : ys.getD n Str.empty ∉ L) (hf : sm r L + r (ys.getD n Str.empty) ≤ P) : PaysA c r P ys (n + 1) (L ++ [ys.getD n Str.empty]) (paid + c (ys.getD n Str.empty)) := by
  have h0 := (h.all (List.replicate ys.length 0) 1 (fun t ht => by rw [(List.mem_replicate.mp ht).2]; exact Int.le_refl _) (by simp)).miss (fun t ht => by rw [(List.mem_replicate.mp ht).2]; exact Int.le_refl _) (by simp; omega) hz hf
  exact ⟨h0.nd, h0.fit, h0.asked, fun T S hT hl => (h.all T S hT hl).miss hT (by omega) hz hf⟩
end
theorem erase_map {M : List Str} {k : Nat} : (M.map V.str).eraseIdx k = (M.eraseIdx k).map V.str := by
  induction M generalizing k with
  | nil => rfl
  | cons u r ih =>
    cases k with
    | zero => rfl
    | succ k => show V.str u :: (r.map V.str).eraseIdx k = _; rw [ih]; rfl
end N41

set_option Elab.async false
set_option linter.all false
set_option maxRecDepth 100000
set_option maxHeartbeats 4000000
namespace L2
open PySem PySem.Spec PyProof.Rows
noncomputable def LikeN (K : PySem.W.Frag) : Nat → Hp → V → V → Prop
  | 0, _, x, y => x = y ∧ flatV x = true
  | n + 1, H, x, y => LikeN K n H x y ∨ ∃ a b xs ys, x = .ref a ∧ y = .ref b ∧ ((SqL K H a xs ∧ SqL K H b ys) ∨ (SqT K H a xs ∧ SqT K H b ys)) ∧ xs.length = ys.length ∧ ∀ (i : Nat) (x' y' : V), xs[i]? = some x' → ys[i]? = some y' → LikeN K n H x' y'
noncomputable def LikeR (K : PySem.W.Frag) (n : Nat) (H : Hp) (x y : V) : Prop := ∃ a b xs ys, x = .ref a ∧ y = .ref b ∧ ((SqL K H a xs ∧ SqL K H b ys) ∨ (SqT K H a xs ∧ SqT K H b ys)) ∧ xs.length = ys.length ∧ ∀ (i : Nat) (x' y' : V), xs[i]? = some x' → ys[i]? = some y' → LikeN K n H x' y'
theorem LikeN.up {K : PySem.W.Frag} {H : Hp} {n : Nat} {x y : V} (h : LikeN K n H x y) : LikeN K (n + 1) H x y := by unfold LikeN; exact .inl h
theorem LikeN.of {K : PySem.W.Frag} {H : Hp} {n : Nat} {x y : V} (h : LikeR K n H x y) : LikeN K (n + 1) H x y := by unfold LikeN; exact .inr h
theorem LikeN.flat {K : PySem.W.Frag} {H : Hp} {x : V} (h : flatV x = true) : ∀ {n : Nat}, LikeN K n H x x := by
  intro n
  induction n with
  | zero => unfold LikeN; exact ⟨rfl, h⟩
  | succ n ih => exact ih.up
section
variable {X : Cx} {pins : List (Addr × Obj)} {σ : St} {H : Hp} {s : Shared}
theorem items_of {xs ys : List V} {us ws : List Value} {P : V → V → Prop} {R : Value → Value → Prop} (rx : Vals xs us) (ry : Vals ys ws) (hl : xs.length = ys.length) (h : ∀ (i : Nat) (x y : V), xs[i]? = some x → ys[i]? = some y → P x y) (k : ∀ x y u w, RelV x u → RelV y w → P x y → R u w) :
    ∀ j (h1 : j < us.toArray.size) (h2 : j < ws.toArray.size), R us.toArray[j] ws.toArray[j] := by
  intro j h1 h2
  have lx := rx.length
  have ly := ry.length
  rw [List.size_toArray] at h1 h2
  have hx : j < xs.length := by omega
  have hy : j < ys.length := by omega
  obtain ⟨u, hu, ru⟩ := rx.get (i := j) (x := xs[j]) (by simp [hx])
  obtain ⟨w, hw, rw'⟩ := ry.get (i := j) (x := ys[j]) (by simp [hy])
  have eu : us.toArray[j] = u := by
    have := List.getElem?_eq_getElem h1
    rw [this] at hu
    simpa using hu
  have ew : ws.toArray[j] = w := by
    have := List.getElem?_eq_getElem h2
    rw [this] at hw
    simpa using hw
  rw [eu, ew]
  exact k _ _ _ _ ru rw' (h j _ _ (List.getElem?_eq_getElem hx) (List.getElem?_eq_getElem hy))
theorem all_true {n : Nat} : ((List.range n).all fun _ => true) = true := by rw [List.all_eq_true]; intros; rfl
theorem likeR_rc {n : Nat} {x y : V} {u w : Value} {A : Around} (I : Inv X pins σ H s) (rx : RelV x u) (ry : RelV y w) (h : LikeR X.K n H x y) (hu : A.units < cLine)
    (k : ∀ x y u w, RelV x u → RelV y w → LikeN X.K n H x y → SeqAt.EqAt A.in1 s u w true) : SeqAt.RcAt A s u w true ∧ SeqAt.RcNeAt A s u w false := by
  obtain ⟨a, b, xs, ys, rfl, rfl, hq, hl, hall⟩ := h
  cases rx
  cases ry
  rcases hq with ⟨h1, h2⟩ | ⟨h1, h2⟩
  · obtain ⟨us, r1, p1, z1⟩ := I.list h1
    obtain ⟨ws, r2, p2, z2⟩ := I.list h2
    have lx := r1.length
    have ly := r2.length
    have he := items_of r1 r2 hl hall k
    have c1 := SeqAt.RcAt.lists (e := fun _ => true) p1.isList p2.isList (by simp; omega) hu he
    have c2 := SeqAt.RcNeAt.lists (e := fun _ => true) p1.isList p2.isList (by simp; omega) hu he
    rw [all_true] at c1 c2
    exact ⟨c1, c2⟩
  · obtain ⟨us, r1, p1, z1⟩ := I.tuple h1
    obtain ⟨ws, r2, p2, z2⟩ := I.tuple h2
    have lx := r1.length
    have ly := r2.length
    have he := items_of r1 r2 hl hall k
    have hsz : us.toArray.size = ws.toArray.size := by simp; omega
    have c1 := SeqAt.RcAt.tuples (e := fun _ => true) (show s.heap.IsTuple a us.toArray from p1) (show s.heap.IsTuple b ws.toArray from p2) hu he
    have c2 := SeqAt.RcNeAt.tuples (e := fun _ => true) (show s.heap.IsTuple a us.toArray from p1) (show s.heap.IsTuple b ws.toArray from p2) hu he
    rw [all_true, hsz, beq_self_eq_true, Bool.and_true] at c1 c2
    exact ⟨c1, c2⟩
theorem likeN_at (I : Inv X pins σ H s) : ∀ (n : Nat) (x y : V) (u w : Value) (A : Around), RelV x u → RelV y w → LikeN X.K n H x y → A.units + n < cLine → SeqAt.EqAt A s u w true := by
  intro n
  induction n with
  | zero =>
    intro x y u w A rx ry h hu
    unfold LikeN at h
    obtain ⟨rfl, f⟩ := h
    have := eqAt_V (A := A) (s := s) rx ry f f
    rw [show eqV x x = true from eqV_self f] at this
    exact this
  | succ n ih =>
    intro x y u w A rx ry h hu
    unfold LikeN at h
    rcases h with h | h
    · exact ih x y u w A rx ry h (by omega)
    · have c := likeR_rc I rx ry h (by omega) (fun x y u w r1 r2 k => ih x y u w A.in1 r1 r2 k (by show A.units + 1 + n < cLine; omega))
      obtain ⟨a, b, xs, ys, rfl, rfl, _⟩ := h
      cases rx
      cases ry
      by_cases e : a = b
      · subst e; exact SeqAt.EqAt.same _
      · exact SeqAt.EqAt.of_refs e c.1
noncomputable def rEqN (K : PySem.W.Frag) (n : Nat) : R2 := fun x y H Q => LikeR K n H x y ∧ Q (.bl true) H
noncomputable def rNeN (K : PySem.W.Frag) (n : Nat) : R2 := fun x y H Q => LikeR K n H x y ∧ Q (.bl false) H
theorem op_eqN {k : Nat} (n : Nat) (hr : Room k X.A) (hn : n ≤ 100 := by decide) : OpR X (compareOp .Eq) (rEqN X.K n) := by
  intro pins s σ H x y v u Q I rx ry h
  have hu : X.A.units < cLine := Nat.lt_of_le_of_lt (by omega) hr.un
  exact (likeR_rc I rx ry h.1 hu (fun x y u w r1 r2 k => likeN_at I n x y u w X.A.in1 r1 r2 k (by have := hr.un; show X.A.units + 1 + n < cLine; omega))).1 X.prog X.w X.xe _ ⟨.bl true, H, I, rfl, h.2⟩
theorem op_neN {k : Nat} (n : Nat) (hr : Room k X.A) (hn : n ≤ 100 := by decide) : OpR X (compareOp .NotEq) (rNeN X.K n) := by
  intro pins s σ H x y v u Q I rx ry h
  have hu : X.A.units < cLine := Nat.lt_of_le_of_lt (by omega) hr.un
  exact (likeR_rc I rx ry h.1 hu (fun x y u w r1 r2 k => likeN_at I n x y u w X.A.in1 r1 r2 k (by have := hr.un; show X.A.units + 1 + n < cLine; omega))).2 X.prog X.w X.xe _ ⟨.bl false, H, I, rfl, h.2⟩
theorem rd_eqN {K : PySem.W.Frag} {H : Hp} {Q : VK} {x y : V} {n : Nat} : rEqN K n x y H Q = (LikeR K n H x y ∧ Q (.bl true) H) := rfl
theorem rd_neN {K : PySem.W.Frag} {H : Hp} {Q : VK} {x y : V} {n : Nat} : rNeN K n x y H Q = (LikeR K n H x y ∧ Q (.bl false) H) := rfl
end
end L2

set_option linter.all false
set_option maxHeartbeats 1000000
namespace L2
open PySem PySem.Spec PyProof.Rows PySem.W
noncomputable def rMaxV : List V → Hp → VK → Prop := fun xs H Q => ∃ (v d : Addr) (kvs : List (Key × V)) (is : List Int), xs = [.ref v] ∧ H v = some (viewO v d) ∧ H d = some (.dK kvs) ∧ kvs.map (·.2) = is.map V.int ∧ is ≠ [] ∧ ∀ m ∈ is, (∀ x ∈ is, x ≤ m) → Q (.int m) H
section
variable {X : Cx}
theorem rd_maxV {xs : List V} {H : Hp} {Q : VK} : rMaxV xs H Q = ∃ (v d : Addr) (kvs : List (Key × V)) (is : List Int), xs = [.ref v] ∧ H v = some (viewO v d) ∧ H d = some (.dK kvs) ∧ kvs.map (·.2) = is.map V.int ∧ is ≠ [] ∧ ∀ m ∈ is, (∀ x ∈ is, x ≤ m) → Q (.int m) H := rfl
end
end L2

set_option Elab.async false
set_option linter.all false
set_option maxRecDepth 100000
set_option maxHeartbeats 1000000
namespace N14
open PySem PySem.Spec PyProof.Rows L2 N1 N5 N4 N6 N12 N32
noncomputable abbrev Row := Str × Bool × List Str
noncomputable def lyDs (ls : Ly) (gone : List Str) : Ly := gone.foldl lyD ls
noncomputable def okG (z : Str) : Ly → List Str → Prop
  | _, [] => True
  | ls, o :: r => o ≠ z ∧ o ∈ lyN ls ∧ okG z (lyD ls o) r
noncomputable def okRow (R : Str → Int) (n : Int) (ls : Ly) (z : Str) (row : Row) : Prop := row.1 = z ∧ row.2.1 = decide (z ∈ lyN ls) ∧ okG z ls row.2.2 ∧ (z ∉ lyN ls → R z ≤ n - lyS (lyDs ls row.2.2))
noncomputable def stepL (R : Str → Int) (ls : Ly) (z : Str) (gone : List Str) : Ly := if z ∈ lyN ls then lyDs ls gone else lyDs ls gone ++ [(z, R z)]
noncomputable def lastL (R : Str → Int) : Ly → List (Str × List Str) → Ly
  | ls, [] => ls
  | ls, (z, g) :: r => lastL R (stepL R ls z g) r
structure BookAt (K : PySem.W.Frag) (H : Hp) (b : Addr) (as gs : List Addr) (rs : List Row) : Prop where
  l : SqL K H b (as.map V.ref)
  n : as.length = rs.length
  m : gs.length = rs.length
  t : ∀ (i : Nat) (a g : Addr) (r : Row), as[i]? = some a → gs[i]? = some g → rs[i]? = some r → SqT K H a [.str r.1, .bl r.2.1, .ref g] ∧ SqL K H g (r.2.2.map V.str)
theorem BookAt.same {K : PySem.W.Frag} {H H' : Hp} {b : Addr} {as gs : List Addr} {rs : List Row} (s : Same H H') (h : BookAt K H b as gs rs) : BookAt K H' b as gs rs :=
  ⟨s.seq h.l, h.n, h.m, fun i a g r e1 e2 e3 => ⟨s.tup (h.t i a g r e1 e2 e3).1, s.seq (h.t i a g r e1 e2 e3).2⟩⟩
theorem BookAt.butD {K : PySem.W.Frag} {H H' : Hp} {b d : Addr} {kvs : List (Key × V)} {as gs : List Addr} {rs : List Row} (s : SameBut d H H') (hd : H d = some (.dK kvs)) (h : BookAt K H b as gs rs) : BookAt K H' b as gs rs :=
  ⟨SqL.butD s hd h.l, h.n, h.m, fun i a g r e1 e2 e3 => ⟨SqT.butD s hd (h.t i a g r e1 e2 e3).1, SqL.butD s hd (h.t i a g r e1 e2 e3).2⟩⟩
theorem lyD_le (ls : Ly) (z : Str) : (lyD ls z).length ≤ ls.length := List.length_filter_le _ _
theorem lyDs_le (ls : Ly) (g : List Str) : (lyDs ls g).length ≤ ls.length := by
  unfold lyDs
  induction g generalizing ls with
  | nil => exact Nat.le_refl _
  | cons x r ih => exact Nat.le_trans (ih _) (lyD_le _ _)
theorem lyD_mem {ls : Ly} {z u : Str} : u ∈ lyN (lyD ls z) ↔ u ∈ lyN ls ∧ u ≠ z := by
  unfold lyN lyD
  simp only [List.mem_map, List.mem_filter, decide_eq_true_eq]
  constructor
  · rintro ⟨x, ⟨h1, h2⟩, rfl⟩; exact ⟨⟨x, h1, rfl⟩, h2⟩
  · rintro ⟨⟨x, h1, rfl⟩, h2⟩; exact ⟨x, ⟨h1, h2⟩, rfl⟩
theorem lyDs_mem {ls : Ly} {g : List Str} {u : Str} : u ∈ lyN (lyDs ls g) ↔ u ∈ lyN ls ∧ u ∉ g := by
  unfold lyDs
  induction g generalizing ls with
  | nil => simp
  | cons x r ih =>
    rw [List.foldl_cons, ih, lyD_mem, List.mem_cons, and_assoc]
    constructor
    · rintro ⟨h1, h2, h3⟩; exact ⟨h1, fun h => h.elim h2 h3⟩
    · rintro ⟨h1, h2⟩; exact ⟨h1, fun h => h2 (.inl h), fun h => h2 (.inr h)⟩
noncomputable def zipG (ys : List Str) (rs : List Row) : List (Str × List Str) := ys.zip (rs.map (·.2.2))
noncomputable def stL (R : Str → Int) (ys : List Str) (rs : List Row) (i : Nat) : Ly := lastL R [] ((zipG ys rs).take i)
theorem stepL_le (R : Str → Int) (ls : Ly) (z : Str) (g : List Str) : (stepL R ls z g).length ≤ ls.length + 1 := by
  have h := lyDs_le ls g
  unfold stepL
  split
  · omega
  · rw [List.length_append]; simpa using h
theorem lastL_le (R : Str → Int) : ∀ (xs : List (Str × List Str)) (ls : Ly), (lastL R ls xs).length ≤ ls.length + xs.length
  | [], ls => by simp [lastL]
  | (z, g) :: r, ls => by
    have h := lastL_le R r (stepL R ls z g)
    have h' := stepL_le R ls z g
    simp only [lastL, List.length_cons]; omega
theorem stL_le (R : Str → Int) (ys : List Str) (rs : List Row) (i : Nat) : (stL R ys rs i).length ≤ i := by
  have h := lastL_le R ((zipG ys rs).take i) []
  rw [List.length_take] at h
  unfold stL
  simp only [List.length_nil] at h
  omega
structure Lawful (R : Str → Int) (n : Int) (ys : List Str) (rs : List Row) : Prop where
  len : ys.length = rs.length
  row : ∀ {i : Nat} {z : Str} {r : Row}, ys[i]? = some z → rs[i]? = some r → okRow R n (stL R ys rs i) z r
structure Told (H H' : Hp) (l : Addr) (qs : List Addr) (W : Nat → Ly) (n : Nat) : Prop where
  L : H' l = some (.lst (qs.map V.ref))
  N : qs.length = n
  d : (l :: qs).Nodup
  q : ∀ (j : Nat) (q : Addr), qs[j]? = some q → H q = none ∧ H' q = some (.lst ((lyN (W (j + 1))).map V.str))
theorem Told.same {H H' H1 : Hp} {l : Addr} {qs : List Addr} {W : Nat → Ly} {n : Nat} (h : Told H H' l qs W n) (s : Same H' H1) : Told H H1 l qs W n := ⟨s _ _ h.L, h.N, h.d, fun j q hj => ⟨(h.q j q hj).1, s _ _ (h.q j q hj).2⟩⟩
theorem Told.step {H H' H1 : Hp} {l d x : Addr} {qs : List Addr} {W : Nat → Ly} {n : Nat} {kvs : List (Key × V)} (h : Told H H' l qs W n) (hs : Same H H') (hd : H' d = some (.dK kvs)) (sb : SameBut d H' H1) (hH : Same H H1) (hx : H1 x = none) : Told H (upd (upd H1 x (.lst ((lyN (W (n + 1))).map V.str))) l (.lst ((qs ++ [x]).map V.ref))) l (qs ++ [x]) W (n + 1) := by
  have hld : l ≠ d := fun e => by have := h.L; rw [e, hd] at this; cases this
  have hl1 := sb _ _ h.L hld
  have hlx : l ≠ x := fun e => by rw [e, hx] at hl1; cases hl1
  have hqx : ∀ q ∈ qs, q ≠ x ∧ q ≠ l ∧ H1 q = H' q := fun q hq => by
    obtain ⟨j, hj⟩ := List.getElem?_of_mem hq
    have h2 := (h.q j q hj).2
    have hqd : q ≠ d := fun e => by rw [e, hd] at h2; cases h2
    have h3 := sb _ _ h2 hqd
    refine ⟨fun e => (by rw [e, hx] at h3; cases h3), fun e => (List.nodup_cons.mp h.d).1 (e ▸ hq), by rw [h3, h2]⟩
  refine ⟨upd_same, by rw [List.length_append, h.N]; rfl, ?_, ?_⟩
  · rw [← List.cons_append, List.nodup_append]
    refine ⟨h.d, List.nodup_cons.mpr ⟨by simp, List.nodup_nil⟩, fun y hy u hu => ?_⟩
    rw [List.mem_singleton] at hu
    rw [hu]
    rcases List.mem_cons.mp hy with e | e
    · rw [e]; exact hlx
    · exact (hqx y e).1
  · intro j q hj
    rcases Nat.lt_or_ge j qs.length with h1 | h1
    · rw [List.getElem?_append_left h1] at hj
      obtain ⟨n1, n2, n3⟩ := hqx q (List.mem_of_getElem? hj)
      rw [upd_ne n2, upd_ne n1, n3]
      exact h.q j q hj
    · rw [List.getElem?_append_right h1] at hj
      have e : j - qs.length = 0 := by
        rcases Nat.eq_zero_or_pos (j - qs.length) with e | e
        · exact e
        · rw [List.getElem?_eq_none (by simp; omega)] at hj; cases hj
      rw [e] at hj
      cases hj
      have ej : j = n := by have := h.N; omega
      subst ej
      refine ⟨?_, by rw [upd_ne hlx.symm]; exact upd_same⟩
      cases e2 : H x with
      | none => rfl
      | some o => rw [hH _ _ e2] at hx; cases hx
theorem same_none {H H' : Hp} {d : Addr} (s : Same H H') (h : H' d = none) : H d = none := by
  cases e : H d with
  | none => rfl
  | some o => rw [s _ _ e] at h; cases h
theorem DGet.f {H : Hp} {d : Addr} {z : Str} {o : Obj} {kvs : List (Key × V)} (h : H d = some (.frz o (.dK kvs))) : DGet H d (.str z) (valV kvs (Sum.inr z)) := by
  exact .inl ⟨kvs, Sum.inr z, .inr ⟨o, h⟩, rfl, rfl⟩
structure OkL (R : Str → Int) (ns : List Str) (ls : Ly) : Prop where
  nd : (lyN ls).Nodup
  r : ∀ x ∈ ls, x.2 = R x.1
  s : ∀ u ∈ lyN ls, u ∈ ns
theorem OkL.nil {R : Str → Int} {ns : List Str} : OkL R ns [] := ⟨List.nodup_nil, by simp, by simp [lyN]⟩
theorem OkL.drop {R : Str → Int} {ns : List Str} {ls : Ly} {z : Str} (h : OkL R ns ls) : OkL R ns (lyD ls z) :=
  ⟨by rw [lyD_names h.nd]; exact h.nd.erase _, fun x hx => h.r x (List.mem_filter.mp hx).1, fun u hu => h.s u (lyD_mem.mp hu).1⟩
theorem OkL.drops {R : Str → Int} {ns : List Str} {ls : Ly} {g : List Str} (h : OkL R ns ls) : OkL R ns (lyDs ls g) := by
  unfold lyDs
  induction g generalizing ls with
  | nil => exact h
  | cons x r ih => exact ih h.drop
theorem OkL.sum {R : Str → Int} {ns : List Str} {ls : Ly} {z : Str} (h : OkL R ns ls) (hz : z ∈ lyN ls) : lyS (lyD ls z) = lyS ls - R z := by
  obtain ⟨x, hx, e⟩ := List.mem_map.mp hz
  have hr := h.r x hx
  obtain ⟨x1, x2⟩ := x
  simp only at e hr
  rw [e] at hx hr
  rw [← hr]
  exact lyD_sum h.nd hx
theorem OkL.put {R : Str → Int} {ns : List Str} {ls : Ly} {z : Str} (h : OkL R ns ls) (hz : z ∉ lyN ls) (hn : z ∈ ns) : OkL R ns (ls ++ [(z, R z)]) := by
  have e : lyN (ls ++ [(z, R z)]) = lyN ls ++ [z] := by unfold lyN; rw [List.map_append]; rfl
  refine ⟨?_, ?_, ?_⟩
  · rw [e, List.nodup_append]
    refine ⟨h.nd, by simp, fun y hy u hu => ?_⟩
    rw [List.mem_singleton] at hu
    rw [hu]
    exact fun e => hz (e ▸ hy)
  · intro x hx
    rcases List.mem_append.mp hx with h1 | h1
    · exact h.r x h1
    · rw [List.mem_singleton.mp h1]
  · intro u hu
    rw [e] at hu
    rcases List.mem_append.mp hu with h1 | h1
    · exact h.s u h1
    · rw [List.mem_singleton.mp h1]; exact hn
theorem OkL.step {R : Str → Int} {ns : List Str} {ls : Ly} {z : Str} {g : List Str} (h : OkL R ns ls) (hn : z ∈ ns) : OkL R ns (stepL R ls z g) := by
  unfold stepL
  split
  · exact h.drops
  · rename_i hz
    exact h.drops.put (fun hh => hz (lyDs_mem.mp hh).1) hn
noncomputable def Kp (M : List Addr) (H H' : Hp) : Prop := ∀ b o, b ∉ M → H b = some o → H' b = some o
theorem Kp.trans {M : List Addr} {H H1 H2 : Hp} (h1 : Kp M H H1) (h2 : Kp M H1 H2) : Kp M H H2 := fun b o n e => h2 b o n (h1 b o n e)
theorem Kp.of {M : List Addr} {H H1 : Hp} (h : Same H H1) : Kp M H H1 := fun b o _ e => h b o e
theorem Kp.upd {M : List Addr} {H H1 : Hp} {p : Addr} {o : HO} (h : Kp M H H1) (hp : p ∈ M) : Kp M H (upd H1 p o) := fun b u n e => by
  have hb : b ≠ p := fun e2 => n (by rw [e2]; exact hp)
  rw [upd_ne hb]; exact h b u n e
theorem Kp.same {M : List Addr} {H0 H H1 : Hp} (s : Same H0 H) (h : Kp M H H1) (hn : ∀ p ∈ M, H0 p = none) : Same H0 H1 := fun b o e => h b o (fun hb => by rw [hn b hb] at e; cases e) (s b o e)
structure RunAt (M : List Addr) (H : Hp) (as gs es : List Addr) (R : Str → Int) (ys : List Str) (rs : List Row) : Prop where
  n : as.length = rs.length
  m : gs.length = rs.length
  k : es.length = rs.length
  t : ∀ (i : Nat) (a g : Addr) (r : Row), as[i]? = some a → gs[i]? = some g → rs[i]? = some r → a ∉ M ∧ g ∉ M ∧ H a = some (.tup [.str r.1, .bl r.2.1, .ref g]) ∧ H g = some (.lst (r.2.2.map V.str))
  q : ∀ (j : Nat) (x : Addr), es[j]? = some x → x ∉ M ∧ H x = some (.lst ((lyN (stL R ys rs (j + 1))).map V.str))
theorem RunAt.nil {M : List Addr} {H : Hp} {R : Str → Int} {ys : List Str} : RunAt M H [] [] [] R ys [] := ⟨rfl, rfl, rfl, by simp, by simp⟩
theorem RunAt.kp {M : List Addr} {H H' : Hp} {as gs es : List Addr} {R : Str → Int} {ys : List Str} {rs : List Row} (s : Kp M H H') (h : RunAt M H as gs es R ys rs) : RunAt M H' as gs es R ys rs :=
  ⟨h.n, h.m, h.k, fun i a g r e1 e2 e3 => let ⟨n1, n2, h1, h2⟩ := h.t i a g r e1 e2 e3; ⟨n1, n2, s _ _ n1 h1, s _ _ n2 h2⟩, fun j x e => let ⟨n1, h1⟩ := h.q j x e; ⟨n1, s _ _ n1 h1⟩⟩
structure Beh (H : Hp) (l : Addr) (es : List Addr) (W : Nat → Ly) (n : Nat) : Prop where
  L : H l = some (.lst (es.map V.ref))
  N : es.length = n
  q : ∀ (j : Nat) (x : Addr), es[j]? = some x → H x = some (.lst ((lyN (W (j + 1))).map V.str))
structure New (H H' : Hp) (h : Addr) (as gs : List Addr) (rs : List Row) : Prop where
  L : H' h = some (.lst (as.map V.ref))
  f : H h = none
  n : as.length = rs.length
  m : gs.length = rs.length
  t : ∀ (i : Nat) (a g : Addr) (r : Row), as[i]? = some a → gs[i]? = some g → rs[i]? = some r → H a = none ∧ H g = none ∧ g ≠ h ∧ H' a = some (.tup [.str r.1, .bl r.2.1, .ref g]) ∧ H' g = some (.lst (r.2.2.map V.str))
theorem Beh.same {H H' : Hp} {l : Addr} {es : List Addr} {W : Nat → Ly} {n : Nat} (s : Same H H') (h : Beh H l es W n) : Beh H' l es W n := ⟨s _ _ h.L, h.N, fun j x e => s _ _ (h.q j x e)⟩
noncomputable def ask1 (ys : List Str) (m : Nat) (c : Int) : Str := ys.getD (c % (m : Int)).toNat Str.empty
theorem BookAt.up {K : PySem.W.Frag} {H H' : Hp} {b : Addr} {as gs : List Addr} {rs : List Row} (h : BookAt K H b as gs rs) (s : Same H H') : BookAt K H' b as gs rs := h.same s
theorem lyK_vals (ls : Ly) : (lyK ls).map (·.2) = (ls.map (·.2)).map V.int := by
  unfold lyK
  rw [List.map_map, List.map_map]; rfl
theorem lyD_lt {ls : Ly} {z : Str} (h : z ∈ lyN ls) : (lyD ls z).length < ls.length := by
  obtain ⟨x, hx, e⟩ := List.mem_map.mp h
  unfold lyD
  exact List.length_filter_lt_length_iff_exists.mpr ⟨x, hx, by simp [e]⟩
theorem okG_le {z : Str} : ∀ {gone : List Str} {ls : Ly}, okG z ls gone → gone.length ≤ ls.length
  | [], _, _ => Nat.zero_le _
  | o :: r, ls, h => by
    have h1 := okG_le h.2.2
    have h2 := lyD_lt h.2.1
    rw [List.length_cons]; omega
theorem Lawful.le {R : Str → Int} {n : Int} {ys : List Str} {rs : List Row} (h : Lawful R n ys rs) {r : Row} (hr : r ∈ rs) : r.2.2.length ≤ rs.length := by
  obtain ⟨i, hi⟩ := List.getElem?_of_mem hr
  have h1 : i < rs.length := (List.getElem?_eq_some_iff.mp hi).1
  have h2 := List.getElem?_eq_getElem (show i < ys.length by rw [h.len]; exact h1)
  have h3 := okG_le (h.row h2 hi).2.2.1
  have h4 := stL_le R ys rs i
  omega
theorem New.gs {H H' : Hp} {h : Addr} {as gs : List Addr} {rs : List Row} (n : New H H' h as gs rs) {g : Addr} (hg : g ∈ gs) : H g = none ∧ g ≠ h ∧ ∃ r ∈ rs, H' g = some (.lst (r.2.2.map V.str)) := by
  obtain ⟨i, hi⟩ := List.getElem?_of_mem hg
  have h1 : i < gs.length := (List.getElem?_eq_some_iff.mp hi).1
  have e1 := List.getElem?_eq_getElem (show i < as.length by rw [n.n, ← n.m]; exact h1)
  have e2 := List.getElem?_eq_getElem (show i < rs.length by rw [← n.m]; exact h1)
  obtain ⟨_, k1, k2, _, k3⟩ := n.t i _ _ _ e1 hi e2
  exact ⟨k1, k2, _, List.mem_of_getElem? e2, k3⟩
theorem Beh.kp {M : List Addr} {H H' : Hp} {l : Addr} {es : List Addr} {W : Nat → Ly} {n : Nat} (k : Kp M H H') (h : Beh H l es W n) (n1 : l ∉ M) (n2 : ∀ x ∈ es, x ∉ M) : Beh H' l es W n :=
  ⟨k _ _ n1 h.L, h.N, fun j x e => k _ _ (n2 x (List.mem_of_getElem? e)) (h.q j x e)⟩
end N14

set_option Elab.async false
set_option linter.all false
set_option maxRecDepth 100000
set_option maxHeartbeats 1000000
namespace L2
open PySem PySem.Spec PyProof.Rows
structure DefB (P : Program) (w : World) (K : PySem.W.Frag) (mg : Str → Option Value) (base : Heap) (CX : CXT) (k : Nat) (x : Str) (C : Addr) (ps : List Str) (sp : Sp) : Prop where
  ex : ∃ (f : Addr) (fd : FuncData), FnOk P w K mg base CX k f fd ps sp ∧ Mk K C f ∧ mg x = some (.ref C) ∧ Binds K fd ps [] ∧ PySem.W.findCls K (.ref C) (.type "type") "__init__" = some (.val (.ref f)) ∧ PySem.W.keepIn K (.ref f) = true
  sp : PySem.W.specialIn K (.ref C) "__getattribute__" = some (some (.builtin "type.__getattribute__"))
  rd : PySem.W.readsIn K C (.type "type") = true
noncomputable def tCallS (sp : Sp) (EE : St → XK) (t : TA) : TE := fun σ H Q => t σ H fun vs H1 => sp vs H1 Q (EE σ)
section
variable {X : Cx} {CX : CXT} {k j : Nat} {C : Addr} {ps : List Str} {sp : Sp} {EE : St → XK} {x : Str} {pos apos : Pos} {e o : Expr} {es : List Expr} {t : TA}
theorem pe_initC {pl : Sem Bool} (D : DefB X.prog X.w X.K X.mg X.base CX j x C ps sp) (hr : Room k X.A) (hx : PassesS CX X EE) (he : PE X o (tC (.ref C))) (ha : PA X (e :: es) t) (hj : j ≤ k := by decide)
    (hst : starEach (e :: es) X.env = (false, eval e X.env) :: starEach es X.env := by rfl) (hpl : (backTo pos (starEach es X.env)).any (·.1) = false := by rfl)
    (ht : eval (.Call (.Attribute o "__init__" apos) (e :: es) [] pos) X.env = (do
      let ov ← eval o X.env
      standAt apos.atName
      let (f, first) ← holding [ov] (getMethod ov "__init__" pl)
      callWith pos f first (backTo pos (starEach (e :: es) X.env)) (backToKw pos (keywordEach [] X.env))) := by rfl) :
    PE X (.Call (.Attribute o "__init__" apos) (e :: es) [] pos) (tCallS sp EE t) := by
  obtain ⟨f, fd, F, M, hm, hb, hc, hk⟩ := D.ex
  intro pins s σ H Q I h
  refine PySem.W.methodCall_KW (pl := pl) (thn (he pins s σ H (fun v H1 => v = .ref C ∧ t σ H1 fun vs H2 => sp vs H2 Q (EE σ)) I ⟨rfl, h⟩) fun u s1 ⟨x, H1, I1, rx, q⟩ => ?_) ht
  obtain ⟨rfl, q⟩ := q
  obtain rfl : u = Value.ref C := rx
  refine PySem.W.method_cls I1.kIn D.sp (PySem.W.cls_value I1.kIn D.rd hc rfl ?_)
  have I2 := I1.tok (s1.toks + 1)
  exact PySem.W.callWith_K (first := []) (h₀ := X.base) I.ok.mod.kin hk (thn (ha pos pins _ σ H1 _ I2 q) fun us s2 ⟨vs, H2, I3, r, q2⟩ => ⟨I3.kIn, run_fnS (us := us) (vs := vs) (F.mono hj) hr hb hx I3 r q2⟩) hst hpl
theorem rd_callS {σ : St} {H : Hp} {Q : VK} : tCallS sp EE t σ H Q = t σ H fun vs H1 => sp vs H1 Q (EE σ) := rfl
end
end L2
namespace L2
open PySem PySem.Spec PyProof.Rows
end L2

set_option Elab.async false
set_option linter.all false
set_option maxRecDepth 100000
set_option maxHeartbeats 1000000
namespace N20
open PySem PySem.Spec PyProof.Rows L2 N1 N5 N4 N6 N12 N32 N14
theorem join_nilL : ∀ (l : List Nat), Str.join (Str.ofString "") (l.map fun c => (⟨#[c]⟩ : Str)) = tx l
  | [] => T_empty
  | [c] => rfl
  | c :: d :: r => by
    have ih := join_nilL (d :: r)
    show (⟨#[c]⟩ : Str) ++ Str.ofString "" ++ Str.join (Str.ofString "") ((d :: r).map fun c => (⟨#[c]⟩ : Str)) = tx (c :: d :: r)
    rw [ih, T_one, T_nil, T_app, T_app]
    rfl
theorem join_ones (l : List Nat) : Txt.join (Str.ofString "") (l.map fun c => (⟨#[c]⟩ : Str)) = tx l := by
  rw [← join_nilL]
  exact StrLaws.glued_eq_join _ _
theorem slice_from {l : List Nat} {n : Int} (h0 : 0 ≤ n) (h1 : n ≤ l.length) : Txt.slice (tx l) (some n) none = tx (l.drop n.toNat) := by
  rw [PyProof.Rows.slice_from_eq (b := ((tx l).length : Int)) h0 (by rw [T_len]; exact h1) rfl]
  show tx _ = tx _
  rw [T_list, T_len, List.take_of_length_le (by rw [List.length_drop]; omega)]
noncomputable def nm3 (B : List Nat) (at' : Nat) (e : Int) (k : Nat) : List Nat := B.take at' ++ [bc ((e + k) % 26)] ++ B.drop (at' + 1) ++ List.replicate (k / 26) 122
theorem nm3_len {B : List Nat} {at' : Nat} {e : Int} {k : Nat} (h : at' < B.length) : (nm3 B at' e k).length = B.length + k / 26 := by
  unfold nm3
  simp only [List.length_append, List.length_take, List.length_drop, List.length_cons, List.length_nil, List.length_replicate]
  omega
theorem nm3_at {B : List Nat} {at' : Nat} {e : Int} {k : Nat} (h : at' < B.length) : (nm3 B at' e k)[at']? = some (bc ((e + k) % 26)) := by
  unfold nm3
  rw [List.append_assoc, List.append_assoc, List.getElem?_append_right (by rw [List.length_take]; omega)]
  rw [List.length_take, show at' - min at' B.length = 0 by omega]
  rfl
theorem nm3_inj {B : List Nat} {at' : Nat} {e : Int} {k k' : Nat} (h : at' < B.length) (he : nm3 B at' e k = nm3 B at' e k') : k = k' := by
  have e1 := congrArg List.length he
  rw [nm3_len h, nm3_len h] at e1
  have e2 := nm3_at (e := e) (k := k) h
  rw [he, nm3_at h] at e2
  have e3 := bc_inj (by omega) (by omega) (by omega) (by omega) (Option.some.inj e2)
  omega
theorem nm3_name {B : List Nat} {at' : Nat} {e : Int} {k : Nat} (h : at' < B.length) (h6 : B.length ≤ 6) (hk : k < 78) (hB : ∀ c ∈ B, c ∈ letters ++ figures) (hh : ∃ c r, B = c :: r ∧ c ∈ letters) : nameB (nm3 B at' e k) = true := by
  have hall : ∀ x ∈ nm3 B at' e k, x ∈ letters ++ figures := by
    intro x hx
    unfold nm3 at hx
    rcases List.mem_append.mp hx with hx | hx
    · rcases List.mem_append.mp hx with hx | hx
      · rcases List.mem_append.mp hx with hx | hx
        · exact hB x (List.mem_of_mem_take hx)
        · rw [List.mem_singleton.mp hx]; exact List.mem_append_left _ bc_let
      · exact hB x (List.mem_of_mem_drop hx)
    · rw [List.eq_of_mem_replicate hx]; decide
  have hl := nm3_len (e := e) (k := k) h
  have hl1 : 1 ≤ (nm3 B at' e k).length := by omega
  have hl8 : (nm3 B at' e k).length ≤ 8 := by omega
  have hhd : headIn (nm3 B at' e k) letters = true := by
    obtain ⟨c, r, rfl, hc⟩ := hh
    cases at' with
    | zero => exact decide_eq_true bc_let
    | succ n => exact decide_eq_true hc
  unfold nameB
  rw [decide_eq_true hl1, decide_eq_true hl8, hhd]
  simp only [Bool.true_and]
  exact List.all_eq_true.mpr fun x hx => decide_eq_true (hall x hx)
noncomputable def sp20_stream : Sp := fun vs H Q _ => ∃ (c : Int) (m : Nat), vs = [.int c, .int m] ∧ m ≤ 1000 ∧ ∀ (p : Addr) (xs : List Int) (H' : Hp), H p = none → Same H H' → H' p = some (.lst (xs.map V.int)) → xs.length = m → (∀ x ∈ xs, 0 ≤ x) → Q (.ref p) H'
noncomputable def sp20_names : Sp := fun vs H Q _ => ∃ (c : Int) (m : Nat), vs = [.int c, .int m] ∧ m ≤ 60 ∧ ∀ (p : Addr) (ys : List Str) (H' : Hp), H p = none → Same H H' → H' p = some (.lst (ys.map V.str)) → ys.length = m → ys.Nodup → (∀ y ∈ ys, nameB y.cps.toList = true) → Q (.ref p) H'
noncomputable def sp20_rows (K : PySem.W.Frag) : Sp := fun vs H Q _ => ∃ (a : Addr) (ns : List Int), vs = [.ref a] ∧ SqL K H a (ns.map V.int) ∧ ns.length ≤ 63 ∧
  ∀ (r : Addr) (as : List Addr) (ts : List Th) (H' : Hp), Same H H' → H' r = some (.lst (as.map V.ref)) → RowsAt K H' r as ts → 1 ≤ ts.length → Q (.ref r) H'
noncomputable def sp20_places (K : PySem.W.Frag) : Sp := fun vs H Q _ => ∃ (r : Addr) (c : Int) (as : List Addr) (ts : List Th), vs = [.ref r, .int c] ∧ RowsAt K H r as ts ∧ 1 ≤ ts.length ∧ ∀ (n : Int) (H' : Hp), Same H H' → 1 ≤ n → n ≤ 1000000 → (∀ t ∈ ts, t.2.2 ≤ n) → Q (.int n) H'
noncomputable def sp20_asks (K : PySem.W.Frag) : Sp := fun vs H Q _ => ∃ (a r : Addr) (ns : List Int) (as : List Addr) (ts : List Th), vs = [.ref a, .ref r] ∧ SqL K H a (ns.map V.int) ∧ ns.length ≤ 63 ∧ RowsAt K H r as ts ∧ 1 ≤ ts.length ∧
  ∀ (p : Addr) (ys : List Str) (H' : Hp), Same H H' → H' p = some (.lst (ys.map V.str)) → ys.length ≤ 200 → (∀ y ∈ ys, y ∈ ts.map (·.1)) → Q (.ref p) H'
noncomputable def rmK (ts : List Th) : List (Key × V) := ts.map fun t => (Sum.inr t.1, .int t.2.2)
noncomputable def sp20_rooms (K : PySem.W.Frag) : Sp := fun vs H Q _ => ∃ (r : Addr) (as : List Addr) (ts : List Th), vs = [.ref r] ∧ RowsAt K H r as ts ∧ ∀ (e : Addr) (H' : Hp), Same H H' → H' e = some (.dK (rmK ts)) → Q (.ref e) H'
noncomputable def sp20_same (K : PySem.W.Frag) : Sp := fun vs H Q _ => ∃ (x y : Addr) (as gs as2 gs2 : List Addr) (rs : List N14.Row), vs = [.ref x, .ref y] ∧ H x = some (.lst (as.map V.ref)) ∧ (∀ (i : Nat) a, as[i]? = some a → ∃ xs, H a = some (.tup xs)) ∧ BookAt K H x as gs rs ∧ BookAt K H y as2 gs2 rs ∧ rs.length ≤ 200 ∧ ∀ H', Same H H' → Q (.bl true) H'
end N20
namespace N20
open PySem PySem.Spec PyProof.Rows L2 N1 N5 N4 N6 N12 N32 N14
noncomputable def th0 : Th := (Str.empty, 0, 0)
theorem th_at {ts : List Th} {i : Nat} (h : i < ts.length) : ts[i]? = some (ts.getD i th0) := by
  rw [List.getD_eq_getElem?_getD, List.getElem?_eq_getElem h]; rfl
theorem rows_ts {K : PySem.W.Frag} {H : Hp} {D : Addr} {yl : List V} {ts : List Th} (hD : H D = some (.lst yl)) (hl : yl.length = ts.length) (hm : ts.length ≤ 60) (nd : (ts.map (·.1)).Nodup) (hn : ∀ t ∈ ts, nameB t.1.cps.toList = true ∧ 0 ≤ t.2.1 ∧ t.2.1 ≤ 10 ^ 30 ∧ 1 ≤ t.2.2 ∧ t.2.2 ≤ 1000)
    (hall : ∀ i y, yl[i]? = some y → ∃ t, y = V.ref t ∧ SqT K H t [.str (ts.getD i th0).1, .int (ts.getD i th0).2.1, .int (ts.getD i th0).2.2]) : ∃ as, yl = as.map V.ref ∧ RowsAt K H D as ts := by
  have e : yl = (yl.map aOf).map V.ref := by
    rw [List.map_map]
    refine (List.map_id yl).symm.trans (List.map_congr_left fun y hy => ?_)
    obtain ⟨i, hi⟩ := List.mem_iff_getElem?.mp hy
    obtain ⟨t, rfl, _⟩ := hall i y hi
    rfl
  refine ⟨yl.map aOf, e, ⟨by rw [← e]; exact SqL.of hD, by rw [List.length_map, hl], hm, fun i a t h1 h2 => ?_, hn, nd⟩⟩
  rw [List.getElem?_map] at h1
  have hi : i < ts.length := (List.getElem?_eq_some_iff.mp h2).1
  rw [th_at hi] at h2
  cases h2
  cases hy' : yl[i]? with
  | none => rw [hy'] at h1; cases h1
  | some y =>
    rw [hy'] at h1
    obtain ⟨t, rfl, hs⟩ := hall i y hy'
    cases h1
    exact hs
noncomputable def lyOf (ts : List Th) : Ly := ts.map fun t => (t.1, t.2.2)
theorem lyOf_names (ts : List Th) : lyN (lyOf ts) = ts.map (·.1) := by unfold lyOf lyN; rw [List.map_map]; rfl
theorem lyOf_K (ts : List Th) : lyK (lyOf ts) = rmK ts := by unfold lyOf lyK rmK; rw [List.map_map]; rfl
noncomputable def mkTs (ys : List Str) (xs : List Int) (m : Nat) (w : Int) : List Th := (List.range m).map fun k => (ys.getD k Str.empty, xs.getD k 0 % 1000, 1 + xs.getD (m + k) 0 % w)
theorem mkTs_len {ys : List Str} {xs : List Int} {m : Nat} {w : Int} : (mkTs ys xs m w).length = m := by unfold mkTs; rw [List.length_map, List.length_range]
theorem mkTs_at {ys : List Str} {xs : List Int} {m : Nat} {w : Int} {k : Nat} (h : k < m) : (mkTs ys xs m w).getD k th0 = (ys.getD k Str.empty, xs.getD k 0 % 1000, 1 + xs.getD (m + k) 0 % w) := by
  unfold mkTs
  rw [List.getD_eq_getElem?_getD, List.getElem?_map, List.getElem?_range h]; rfl
theorem mkTs_names {ys : List Str} {xs : List Int} {m : Nat} {w : Int} (h : ys.length = m) : (mkTs ys xs m w).map (·.1) = ys := by
  unfold mkTs
  rw [List.map_map, ← h]
  refine List.ext_getElem? fun i => ?_
  rw [List.getElem?_map]
  by_cases hi : i < ys.length
  · rw [List.getElem?_range hi, List.getElem?_eq_getElem hi]
    show some (ys.getD i Str.empty) = _
    rw [List.getD_eq_getElem?_getD, List.getElem?_eq_getElem hi]; rfl
  · rw [List.getElem?_eq_none (by rw [List.length_range]; omega), List.getElem?_eq_none (by omega)]; rfl
theorem cat_ints (a b : List Int) : a.map V.int ++ b.map V.int = (a ++ b).map V.int := (List.map_append ..).symm
theorem sum_bounds : ∀ {l : List Int}, (∀ x ∈ l, 1 ≤ x ∧ x ≤ 1000) → (l.length : Int) ≤ l.sum ∧ l.sum ≤ 1000 * (l.length : Int)
  | [], _ => by simp
  | x :: r, h => by
    have h1 := h x (List.mem_cons_self ..)
    have h2 := sum_bounds (l := r) fun y hy => h y (List.mem_cons_of_mem _ hy)
    rw [List.sum_cons, List.length_cons]
    omega
theorem cut_8_68 (ns : List Int) : ∃ cs : List Int, cutV (ns.map V.int) (some 8) (some 68) = cs.map V.int ∧ cs.length ≤ ns.length - 8 := by
  unfold cutV
  rw [← List.map_drop, ← List.map_take]
  refine ⟨_, rfl, ?_⟩
  rw [List.length_take, List.length_drop, List.length_map]
  have e : HT.sIx ns.length 0 (some 8) = min 8 ns.length := HT.sIx_nat _ _ 8
  rw [e]
  omega
noncomputable def pick1 (ts : List Th) (c : Int) : Str := (ts.getD (c % (ts.length : Int)).toNat th0).1
noncomputable def pickV (ts : List Th) : V → V
  | .int c => .str (pick1 ts c)
  | _ => .non
theorem pickV_list {ts : List Th} {cs : List Int} : (cs.map V.int).map (pickV ts) = (cs.map (pick1 ts)).map V.str := by
  rw [List.map_map, List.map_map]; rfl
theorem zz_slice {k : Nat} (h : k < 78) : Txt.slice (Str.ofString "zz") none (some ((k : Int) / 26)) = tx (List.replicate (k / 26) 122) := by
  have e : Str.ofString "zz" = tx [122, 122] := by decide +kernel
  rw [e, slice_to (by omega) (by simp only [List.length_cons, List.length_nil]; omega), show ((k : Int) / 26).toNat = k / 26 by omega]
  have hq : k / 26 = 0 ∨ k / 26 = 1 ∨ k / 26 = 2 := by omega
  rcases hq with e | e | e <;> rw [e] <;> rfl
theorem int_at {xs : List Int} {i : Nat} (h : i < xs.length) : xs[i]? = some (xs.getD i 0) := by
  rw [List.getD_eq_getElem?_getD, List.getElem?_eq_getElem h]; rfl
end N20

set_option Elab.async false
set_option linter.all false
set_option maxRecDepth 100000
set_option maxHeartbeats 1000000
namespace NQ
open K03
noncomputable def rt (U v : Int) : Int × Int := (v.fdiv (Int.gcd v U : Nat), U.fdiv (Int.gcd v U : Nat))
section
variable {U W v w i x y : Int}
theorem rt_all (h : 0 < U) : (rt U v).1 * U = v * (rt U v).2 ∧ 0 < (rt U v).2 ∧ Int.gcd (rt U v).1 (rt U v).2 = 1 ∧ (rt U v).1.natAbs ≤ v.natAbs ∧ (rt U v).2.natAbs ≤ U.natAbs := by
  have hg : 0 < Int.gcd v U := Nat.pos_of_ne_zero fun z => by have := (Int.gcd_eq_zero_iff.mp z).2; omega
  exact lowest (d := ((Int.gcd v U : Nat) : Int)) (by omega) (Int.natAbs_natCast _) ⟨fun _ => h, fun _ => by omega⟩
theorem dvd_cop {a b c : Int} (h : b ∣ a * c) (g : Int.gcd a b = 1) : b ∣ c := by
  rw [← Int.natAbs_dvd_natAbs] at h ⊢
  rw [Int.natAbs_mul] at h
  exact Nat.Coprime.dvd_of_dvd_mul_left (show Nat.gcd b.natAbs a.natAbs = 1 by rw [Nat.gcd_comm]; exact g) h
theorem rt_uniq {p : Int × Int} (h : 0 < U) (h1 : 0 < p.2) (h2 : Int.gcd p.1 p.2 = 1) (h3 : p.1 * U = v * p.2) : p = rt U v := by
  obtain ⟨c1, c2, c3, _⟩ := rt_all (v := v) h
  generalize rt U v = q at c1 c2 c3
  have e : p.1 * q.2 = q.1 * p.2 := by
    have : (p.1 * q.2) * U = (q.1 * p.2) * U := by
      have a1 : (p.1 * q.2) * U = (p.1 * U) * q.2 := by simp only [Int.mul_assoc, Int.mul_comm, Int.mul_left_comm]
      have a2 : (q.1 * p.2) * U = (q.1 * U) * p.2 := by simp only [Int.mul_assoc, Int.mul_comm, Int.mul_left_comm]
      rw [a1, a2, h3, c1]
      simp only [Int.mul_assoc, Int.mul_comm, Int.mul_left_comm]
    exact Int.eq_of_mul_eq_mul_right (by omega) this
  have d1 : p.2 ∣ q.2 := by
    have : p.2 ∣ p.1 * q.2 := by rw [e]; exact Int.dvd_mul_left ..
    exact dvd_cop this h2
  have d2 : q.2 ∣ p.2 := by
    have : q.2 ∣ q.1 * p.2 := by rw [← e]; exact Int.dvd_mul_left ..
    exact dvd_cop this c3
  have e2 : p.2 = q.2 := Int.dvd_antisymm (by omega) (by omega) d1 d2
  have e1 : p.1 = q.1 := by
    rw [e2] at e
    exact Int.eq_of_mul_eq_mul_right (by omega) e
  exact Prod.ext e1 e2
theorem rt_eq (hU : 0 < U) (hW : 0 < W) (h : i * U = v * W) : rt W i = rt U v := by
  obtain ⟨c1, c2, c3, _⟩ := rt_all (v := i) hW
  refine rt_uniq hU c2 c3 ?_
  have : ((rt W i).1 * U) * W = (v * (rt W i).2) * W := by
    have a1 : ((rt W i).1 * U) * W = ((rt W i).1 * W) * U := by simp only [Int.mul_assoc, Int.mul_comm, Int.mul_left_comm]
    rw [a1, c1]
    have a2 : i * (rt W i).2 * U = (i * U) * (rt W i).2 := by simp only [Int.mul_assoc, Int.mul_comm, Int.mul_left_comm]
    rw [a2, h]
    simp only [Int.mul_assoc, Int.mul_comm, Int.mul_left_comm]
  exact Int.eq_of_mul_eq_mul_right (by omega) this
theorem rt_zero (hU : 0 < U) : rt U 0 = (0, 1) := (rt_uniq hU (p := (0, 1)) (by decide) (by decide) (by simp)).symm
theorem rt_plus (hU : 0 < U) : rt ((rt U x).2 * (rt U y).2) ((rt U x).1 * (rt U y).2 + (rt U y).1 * (rt U x).2) = rt U (x + y) := by
  obtain ⟨a1, a2, _⟩ := rt_all (v := x) hU
  obtain ⟨b1, b2, _⟩ := rt_all (v := y) hU
  refine rt_eq hU (Int.mul_pos a2 b2) ?_
  rw [Int.add_mul, Int.add_mul, show (rt U x).1 * (rt U y).2 * U = ((rt U x).1 * U) * (rt U y).2 by simp only [Int.mul_assoc, Int.mul_comm, Int.mul_left_comm], show (rt U y).1 * (rt U x).2 * U = ((rt U y).1 * U) * (rt U x).2 by simp only [Int.mul_assoc, Int.mul_comm, Int.mul_left_comm], a1, b1]
  simp only [Int.mul_assoc, Int.mul_comm, Int.mul_left_comm]
theorem rt_minus (hU : 0 < U) : rt ((rt U x).2 * (rt U y).2) ((rt U x).1 * (rt U y).2 - (rt U y).1 * (rt U x).2) = rt U (x - y) := by
  obtain ⟨a1, a2, _⟩ := rt_all (v := x) hU
  obtain ⟨b1, b2, _⟩ := rt_all (v := y) hU
  refine rt_eq hU (Int.mul_pos a2 b2) ?_
  rw [Int.sub_mul, Int.sub_mul, show (rt U x).1 * (rt U y).2 * U = ((rt U x).1 * U) * (rt U y).2 by simp only [Int.mul_assoc, Int.mul_comm, Int.mul_left_comm], show (rt U y).1 * (rt U x).2 * U = ((rt U y).1 * U) * (rt U x).2 by simp only [Int.mul_assoc, Int.mul_comm, Int.mul_left_comm], a1, b1]
  simp only [Int.mul_assoc, Int.mul_comm, Int.mul_left_comm]
theorem rt_of (hU : 0 < U) (hW : 0 < W) (h : W ∣ U) : rt W i = rt U (i * (U / W)) := by
  refine rt_eq hU hW ?_
  rw [Int.mul_assoc, Int.ediv_mul_cancel h]
theorem rt_under (hU : 0 < U) : (rt U x).1 * (rt U y).2 < (rt U y).1 * (rt U x).2 ↔ x < y := by
  obtain ⟨a1, a2, _⟩ := rt_all (v := x) hU
  obtain ⟨b1, b2, _⟩ := rt_all (v := y) hU
  have e1 : ((rt U x).1 * (rt U y).2) * U = x * ((rt U x).2 * (rt U y).2) := by
    rw [show (rt U x).1 * (rt U y).2 * U = ((rt U x).1 * U) * (rt U y).2 by simp only [Int.mul_assoc, Int.mul_comm, Int.mul_left_comm], a1, Int.mul_assoc]
  have e2 : ((rt U y).1 * (rt U x).2) * U = y * ((rt U x).2 * (rt U y).2) := by
    rw [show (rt U y).1 * (rt U x).2 * U = ((rt U y).1 * U) * (rt U x).2 by simp only [Int.mul_assoc, Int.mul_comm, Int.mul_left_comm], b1]
    simp only [Int.mul_assoc, Int.mul_comm, Int.mul_left_comm]
  have hp := Int.mul_pos a2 b2
  constructor
  · intro h
    have := Int.mul_lt_mul_of_pos_right h hU
    rw [e1, e2] at this
    exact Int.lt_of_mul_lt_mul_right this (by omega)
  · intro h
    have := Int.mul_lt_mul_of_pos_right h hp
    rw [← e1, ← e2] at this
    exact Int.lt_of_mul_lt_mul_right this (by omega)
end
end NQ

set_option Elab.async false
set_option linter.all false
set_option maxRecDepth 100000
set_option maxHeartbeats 4000000
namespace L2
open PySem PySem.Spec PyProof.Rows
noncomputable def Itk (o : Obj) (d : Addr) : It :=
  ⟨fun i H => ∃ kvs p, H d = some (.frz o (.dK kvs)) ∧ kvs[i]? = some p, fun i H v H' => H' = H ∧ ∀ kvs, H d = some (.frz o (.dK kvs)) → ∃ p, kvs[i]? = some p ∧ v = kV p.1,
    fun i H => ∃ kvs, H d = some (.frz o (.dK kvs)) ∧ kvs.length ≤ i⟩
noncomputable def tnK (o : Obj) (I d : Addr) (i : Nat) (h : Heap) : Prop := d ≠ I ∧ ∃ es ep, o.data = .dict es ep ∧ h.IsKeyIter I d i es.size ep
theorem turn_keys {P : Program} {w : World} {K : PySem.W.Frag} {tg : Expr} (o : Obj) (d I : Addr) : Turn P w K tg (Itk o d) [I] I (tnK o I d) where
  mem := by simp
  obj := fun i h st c hc => by
    obtain ⟨_, es, ep, _, o1, h1, h2, h3⟩ := st
    have hc : c = I := by simpa using hc
    subst hc
    exact ⟨_, h1, fun v z => by rw [h3] at z; cases z⟩
  keep := fun i h h' st kk => by
    obtain ⟨ne, es, ep, hd, o1, h1, h2, h3⟩ := st
    exact ⟨ne, es, ep, hd, o1, kk I (by simp) _ h1, h2, h3⟩
  item := by
    intro X hP hw hK hc i pins s σ H E J hf st hg
    subst hP hw hK
    obtain ⟨kvs, p, hd, hp⟩ := hg
    obtain ⟨ne, es, ep, hdat, h1⟩ := st
    obtain ⟨e, z, lo, ws, rel, ob, es2, ep2, e1, c1, d1, r1⟩ := J.hok d _ hd
    have e1' := e1
    rw [e] at e1'
    cases e1'
    rw [hdat] at d1
    cases d1
    have dat : s.heap.DictAt (mixKind X.prog X.w) d ws ep := ⟨o, es, e1, c1, hdat, r1⟩
    have hsz : es.size = ws.length := by
      obtain ⟨_, hpr, _⟩ := r1
      rw [← hpr.length]; simp
    rw [hsz] at h1
    have hlw : i < ws.length := by rw [← rel.length]; exact (List.getElem?_eq_some_iff.mp hp).1
    have hw : ws[i]? = some (ws[i]) := List.getElem?_eq_getElem hlw
    obtain ⟨p', hp', hpk, hpv⟩ := paired_get rel hw
    rw [hp] at hp'
    cases hp'
    obtain ⟨f0, f1, f2, f3, f4, f5⟩ := hf I (by simp)
    refine wpAny_pyNext_dict_item h1 dat (k := (ws[i]).1) (v := (ws[i]).2) hw fun key h' hkey hit' sb => ?_
    have I1 : Inv X pins σ H { s with heap := h' } := J.turned (t' := s.toks) (fun b o hb e => (sb.2 b hb).trans e) f0 f1 f3 f4 f5
    have rk : RelV (kV p.1) key := by rw [hpk]; exact kV_of hkey
    obtain ⟨o', e', c', d'⟩ := id hit'
    exact ⟨key, rfl, go_of (s := { s with heap := h' }) e' c' d' (by decide) ⟨kV p.1, H, I1, rk, ⟨rfl, fun kvs' hy' => by rw [hd] at hy'; cases hy'; exact ⟨p, hp, rfl⟩⟩, ⟨ne, es, ep, hdat, by rw [hsz]; exact hit'⟩, fun c hc => (hf c hc).1⟩⟩
  done := by
    intro X hP hw hK hc i pins s σ H E J hf st hg
    subst hP hw hK
    obtain ⟨kvs, hd, hl⟩ := hg
    obtain ⟨ne, es, ep, hdat, h1⟩ := st
    obtain ⟨e, z, lo, ws, rel, ob, es2, ep2, e1, c1, d1, r1⟩ := J.hok d _ hd
    have e1' := e1
    rw [e] at e1'
    cases e1'
    rw [hdat] at d1
    cases d1
    have dat : s.heap.DictAt (mixKind X.prog X.w) d ws ep := ⟨o, es, e1, c1, hdat, r1⟩
    have hsz : es.size = ws.length := by
      obtain ⟨_, hpr, _⟩ := r1
      rw [← hpr.length]; simp
    rw [hsz] at h1
    have hn : ws[i]? = none := List.getElem?_eq_none (by rw [← rel.length]; exact hl)
    obtain ⟨f0, f1, f2, f3, f4, f5⟩ := hf I (by simp)
    exact wpAny_pyNext_dict_end (J.ok.hd hc) h1 dat hn fun h' eb => ⟨rfl, J.turned (t' := s.toks) (fun b o hb e => eb b o hb e) f0 f1 f3 f4 f5⟩
  self := fun A i s Q E st h => by
    obtain ⟨_, es, ep, _, h1⟩ := st
    exact wpAny_pyIter_keyiter h1 h
section
variable {X : Cx}
noncomputable def iDict (tl : TE) : TI := fun σ H R => tl σ H fun x H1 => ∃ d kvs, x = .ref d ∧ ((H1 d = some (.dK kvs) ∧ ∀ o, R (Itk o d) (upd H1 d (.frz o (.dK kvs)))) ∨ ∃ o, H1 d = some (.frz o (.dK kvs)) ∧ R (Itk o d) H1)
theorem pi_dict {tg e : Expr} {tl : TE} (hl : PE X e tl) : PI X tg e (iDict tl) := by
  intro pins s σ H R I h
  refine thn (hl pins s σ H _ I h) fun u s1 ⟨x, H1, I1, rx, q⟩ => ?_
  obtain ⟨d, kvs, rfl, hq⟩ := q
  cases rx
  have key : ∀ (o : Obj) (H2 : Hp), Inv X pins σ H2 s1 → H2 d = some (.frz o (.dK kvs)) → R (Itk o d) H2 → wpAny (model X.prog X.w) X.A (pyIter (.ref d)) (PIE X pins σ tg R) X.xe s1 := by
    intro ob H2 I2 hd q
    obtain ⟨e, z, lo, ws, rel, ob', es2, ep2, e1, c1, d1, r1⟩ := I2.hok d _ hd
    have e1' := e1
    rw [e] at e1'
    cases e1'
    have dat : s1.heap.DictAt (mixKind X.prog X.w) d ws ep2 := ⟨ob, es2, e1, c1, d1, r1⟩
    have hsz : es2.size = ws.length := by
      obtain ⟨_, hpr, _⟩ := r1
      rw [← hpr.length]; simp
    refine wpAny_pyIter_dict lo dat ?_
    have I3 : Inv X pins σ H2 { s1 with heap := s1.heap.push { cls := .type "dict_keyiterator", data := .fields #[.ref d, .int 0 0, .int ws.length 0, .int ep2 0] } } := I2.kept (t' := s1.toks) fun b o e => Heap.get?_push_of_some _ e
    have ltd := Heap.lt_size e1
    refine ⟨s1.heap.objs.size, [s1.heap.objs.size], _, _, _, rfl, I3, turn_keys ob d s1.heap.objs.size, ⟨Nat.ne_of_lt ltd, es2, ep2, d1, ?_⟩, fun c hc => ?_, q⟩
    · rw [hsz]; exact ⟨_, Heap.get?_push_size _ rfl, rfl, rfl⟩
    · have hc : c = s1.heap.objs.size := by simpa using hc
      subst hc
      exact I2.fpOk (Nat.le_refl _) (I2.hok.fresh (Nat.le_refl _))
  rcases hq with ⟨hd, q⟩ | ⟨o, hd, q⟩
  · obtain ⟨z, lo, ws, rel, ob, es2, ep2, e1, c1, d1, r1⟩ := I1.hok d _ hd
    have I2 : Inv X pins σ (upd H1 d (.frz ob (.dK kvs))) { s1 with heap := s1.heap, toks := s1.toks } := I1.write (x := d) (e := d) (by rw [hd]; trivial) (.inl rfl) (fun b u _ e => e) ⟨ob, e1⟩ ⟨e1, z, lo, ws, rel, ob, es2, ep2, e1, c1, d1, r1⟩
    exact key ob _ I2 upd_same (q ob)
  · exact key o H1 I1 hd q
end
section
variable {σ : St} {H : Hp} {D : Ends}
theorem rd_idict {tl : TE} {R : It → Hp → Prop} : iDict tl σ H R = tl σ H fun x H1 => ∃ d kvs, x = .ref d ∧ ((H1 d = some (.dK kvs) ∧ ∀ o, R (Itk o d) (upd H1 d (.frz o (.dK kvs)))) ∨ ∃ o, H1 d = some (.frz o (.dK kvs)) ∧ R (Itk o d) H1) := rfl
theorem forK_by {o : Obj} {d : Addr} {kvs : List (Key × V)} {g : TG} {tb : TS} (Pv : Nat → St → Hp → Prop) (h0 : Pv 0 σ H) (hl : ∀ i σ H, i ≤ kvs.length → Pv i σ H → H d = some (.frz o (.dK kvs)))
    (hs : ∀ i p σ H, kvs[i]? = some p → Pv i σ H → g (kV p.1) σ H fun σ2 H2 => tb { D with nx := Pv (i + 1), ct := Pv (i + 1), bk := D.nx } σ2 H2) (hd : ∀ σ H, Pv kvs.length σ H → D.nx σ H) : ForTail g tb D σ (Itk o d) H := by
  refine ⟨fun i m σ H => i ≤ kvs.length ∧ m = kvs.length - i ∧ Pv i σ H, ⟨_, Nat.zero_le _, rfl, h0⟩, fun i m σ H ⟨hi, hm, hP⟩ => ?_⟩
  have hq := hl i σ H hi hP
  cases hx : kvs[i]? with
  | none =>
    have hn : kvs.length ≤ i := by simpa using hx
    have e : i = kvs.length := Nat.le_antisymm hi hn
    subst e
    exact .inl ⟨⟨kvs, hq, Nat.le_refl _⟩, hd σ H hP⟩
  | some p =>
    have hlt : i < kvs.length := (List.getElem?_eq_some_iff.mp hx).1
    refine .inr ⟨⟨kvs, p, hq, hx⟩, Pv (i + 1), fun σ' H' h => ⟨kvs.length - (i + 1), by omega, by omega, rfl, h⟩, ?_⟩
    rintro y H' ⟨rfl, hy⟩
    obtain ⟨p', hp', rfl⟩ := hy kvs hq
    have e := hp'.symm.trans hx
    cases e
    exact hs i _ σ H' hx hP
end
end L2

set_option Elab.async false
set_option linter.all false
set_option maxRecDepth 100000
set_option maxHeartbeats 1000000
namespace L2
open PySem PySem.Spec PyProof.Rows
theorem HOk.thaw {P : Program} {w : World} {H : Hp} {h : Heap} {d : Addr} {o : Obj} {u : HO} (ok : HOk P w H h) (e : H d = some (.frz o u)) : HOk P w (upd H d u) h := fun b v q => by
  have own : ∀ c y, H c = some (.own y) → upd H d u c = some (.own y) := fun c y r => by rw [upd_ne (fun z => by rw [z, e] at r; cases r)]; exact r
  have tup : ∀ c xs, H c = some (.tup xs) → upd H d u c = some (.tup xs) := fun c xs r => by rw [upd_ne (fun z => by rw [z, e] at r; cases r)]; exact r
  by_cases hb : b = d
  · rw [hb, upd_same] at q
    cases q
    rw [hb]
    exact (ok d _ e).2.stay (fun c v _ r => r) (fun c r => own c _ r) (fun c xs r => tup c xs r)
  · rw [upd_ne hb] at q
    exact (ok b v q).stay (fun c v _ r => r) (fun c r => own c _ r) (fun c xs r => tup c xs r)
section
variable {X : Cx} {pins : List (Addr × Obj)} {σ : St} {H : Hp} {s : Shared}
theorem Inv.thaw {d : Addr} {o : Obj} {u : HO} (I : Inv X pins σ H s) (e : H d = some (.frz o u)) (n : ∀ o' u', X.H₀ d ≠ some (.frz o' u')) : Inv X pins σ (upd H d u) s := by
  have hne : ∀ b, H b = none → b ≠ d := fun b hb z => by rw [z, e] at hb; cases hb
  refine ⟨I.ok, I.os, I.bare, ⟨I.base.keep, I.base.slot, fun b ob q k hx => ?_, I.base.there, fun b xs q => ?_, fun b ob v q => ?_, fun b ps q => ?_⟩, I.loc, I.cell, by rw [upd_ne (hne _ I.free)]; exact I.free, fun x c hc => by rw [upd_ne (hne _ (I.freeC x c hc))]; exact I.freeC x c hc, fun p hp => ?_, I.hok.thaw e, I.len⟩
  · have := I.base.free b ob q k hx
    rw [upd_ne (hne b this)]; exact this
  · have := I.base.tups b xs q
    rw [upd_ne (fun z => by rw [z, e] at this; cases this)]; exact this
  · have := I.base.frzs b ob v q
    rw [upd_ne (fun z => n ob v (by rw [← z]; exact q))]; exact this
  · obtain ⟨more, this⟩ := I.base.tbls b ps q
    exact ⟨more, by rw [upd_ne (fun z => by rw [z, e] at this; cases this)]; exact this⟩
  · obtain ⟨k1, k2, k3⟩ := I.pin p hp
    exact ⟨k1, by rw [upd_ne (hne _ k2)]; exact k2, k3⟩
noncomputable def Thw (H0 : Hp) (R : Hp → Prop) (H : Hp) : Prop := R H ∨ ∃ d o u, H d = some (.frz o u) ∧ (∀ o' u', H0 d ≠ some (.frz o' u')) ∧ R (upd H d u)
noncomputable def tThaw (H0 : Hp) (t : TS) : TS := fun D σ H => t { D with nx := fun σ H => Thw H0 (D.nx σ) H, rt := fun v H => Thw H0 (D.rt v) H } σ H
theorem ps_thaw {st : Stmt} {t : TS} (h : PS X st t) : PS X st (tThaw X.H₀ t) := by
  intro pins s σ H D I ht
  refine thn (h pins s σ H _ I ht) fun f s' hf => ?_
  cases f with
  | next =>
    obtain ⟨σ', H', I', hn | ⟨d, o, u, e, n, hn⟩⟩ := hf
    · exact ⟨σ', H', I', hn⟩
    · exact ⟨σ', _, I'.thaw e n, hn⟩
  | brk => exact hf
  | cont => exact hf
  | ret v =>
    obtain ⟨v, σ', H', I', r, hn | ⟨d, o, u, e, n, hn⟩⟩ := hf
    · exact ⟨v, σ', H', I', r, hn⟩
    · exact ⟨v, σ', _, I'.thaw e n, r, hn⟩
end
theorem rd_thaw {H0 : Hp} {t : TS} {D : Ends} {σ : St} {H : Hp} : tThaw H0 t D σ H = t { D with nx := fun σ H => Thw H0 (D.nx σ) H, rt := fun v H => Thw H0 (D.rt v) H } σ H := rfl
theorem Thw.same {H0 H : Hp} {R : Hp → Prop} (h : R H) : Thw H0 R H := .inl h
section
variable {tail : St} {te : Blk → TE} {Q : VK} {H1 : Hp}
theorem compK_ix {o : Obj} {d : Addr} {kvs : List (Key × V)} (f : Nat → V) (hS : H1 d = some (.frz o (.dK kvs))) (hz : kvs.length ≤ sizeLine) (he : ∀ b i p H Q', kvs[i]? = some p → Same H1 H → Q' (f i) H → te b (some (kV p.1) :: tail) H Q')
    (q : ∀ D, H1 D = none → Q (.ref D) (upd H1 D (.lst ((List.range kvs.length).map f)))) : CompTail (none :: tail) (fun _ => gName 0) (fun _ => tYes) te Q (Itk o d) H1 := by
  refine comp_by kvs.length (fun b D hD => ⟨fun i ys H => i ≤ kvs.length ∧ ys = (List.range i).map f ∧ H = upd H1 D (.lst ys), ⟨Nat.zero_le _, rfl, rfl⟩, ?_, ?_, ?_⟩)
  · rintro i ys H ⟨hi, rfl, rfl⟩
    exact upd_same
  · rintro ys H ⟨_, rfl, rfl⟩
    exact ⟨⟨kvs, same_new hD _ _ hS, Nat.le_refl _⟩, q D hD⟩
  · rintro i ys H hi ⟨_, rfl, rfl⟩
    refine ⟨⟨kvs, kvs[i], same_new hD _ _ hS, by simp [hi]⟩, fun x H3 ⟨e3, ex⟩ => ?_⟩
    subst e3
    obtain ⟨p, e1, e2⟩ := ex kvs (same_new hD _ _ hS)
    subst e2
    refine he b i p _ _ e1 (same_new hD) (compNext upd_same (by rw [List.length_map, List.length_range]; omega) hi ⟨hi, ?_, ?_⟩)
    · rw [List.range_succ]; simp
    · funext a; by_cases ha : a = D <;> simp [upd, ha]
end
end L2

set_option Elab.async false
set_option linter.all false
set_option maxRecDepth 100000
set_option maxHeartbeats 1000000
namespace L2
open PySem PySem.Spec PyProof.Rows
noncomputable def CHug (i j : Int) : Prop := i.natAbs < 10 ^ 1000 ∧ j.natAbs < 10 ^ 1000
theorem hug_pow : (10 : Nat) ^ 1000 ≤ 2 ^ 4000 := by decide +kernel
theorem bits_hug {i : Int} (h : i.natAbs < 10 ^ 1000) : Builtin.Int.intBits i ≤ 2 ^ 20 := by
  have h1 : Builtin.Int.intBits i ≤ 4000 := by
    unfold Builtin.Int.intBits
    split
    · omega
    · rename_i hne
      have := (Nat.log2_lt (n := i.natAbs) (k := 4000) (by simpa using hne)).mpr (Nat.lt_of_lt_of_le h hug_pow)
      omega
  exact Nat.le_trans h1 (by decide)
section
variable {X : Cx}
theorem op_mulH : OpR X (binaryOp .Mult) (rI CHug fun i j => .int (i * j)) := opI fun _ _ _ _ _ _ _ hc q => mul_int q (.of_bits (bits_hug hc.1) (bits_hug hc.2))
theorem op_fdivH : OpR X (binaryOp .FloorDiv) (rI (fun _ j => j ≠ 0 ∧ j.natAbs < 10 ^ 1000) fun i j => .int (i.fdiv j)) := opI fun i j _ _ _ _ _ hc q => by
  refine floordiv_int hc.1 q (.inl (PyProof.noPylong_of_log2 ?_))
  have h0 : j.natAbs ≠ 0 := by have := hc.1; omega
  exact Nat.lt_trans ((Nat.log2_lt h0).mpr (Nat.lt_of_lt_of_le hc.2 hug_pow)) (by decide)
end
section
open PySem.W
variable {K : Frag} {C N : Addr} {nm q : Str} {bs : List Value} {hdct : Bool} {sn : List Str} {sub : List Value} {ab : Bool} {col : Option Bool} {dd : Option Addr} {k0 k1 k2 k3 k5 : Option Value} {oc : Value} {od : Option Addr} {es : Array DictEntry} {ep : Nat} {sl : Array (Option Value)}
theorem excC_of0 (lC : K.lookup C = some (excClassObj nm q C N bs [.type "ValueError", .type "Exception", .type "BaseException", .type "object"] hdct sn sub ab col dd k0 k1 k2 k3 k5 "ValueError.__new__"))
    (lN : K.lookup N = some ⟨oc, od, .dict es ep, sl⟩) (sN : strKeysB es = true) (iN : nsFind es "__init__" = none) : ExcC K C :=
  ⟨fun h X => ⟨nm, q, N, bs, _, hdct, sn, sub, ab, col, dd, k0, k1, k2, k3, k5, nsFind es, X _ _ lC, ns_of X lN sN, iN, .base⟩⟩
end
end L2
namespace N57
open PySem PySem.Spec PyProof.Rows L2 N1 N5 N4 N6 N12 N32 N14 N20 NQ
noncomputable def RtA (H : Hp) (a : Addr) (U v : Int) : Prop := H a = some (.tup [.int (rt U v).1, .int (rt U v).2])
noncomputable def RtsA (H : Hp) (us : List Addr) (U : Int) (rs : List Int) : Prop := us.length = rs.length ∧ ∀ (i : Nat) (a : Addr) (v : Int), us[i]? = some a → rs[i]? = some v → RtA H a U v
structure Un (U : Int) (ts : List Th) : Prop where
  p : 0 < U
  b : U ≤ 10 ^ 180
  r : ∀ t ∈ ts, 1 ≤ t.2.2 ∧ t.2.2 ≤ 1000 ∧ t.2.2 ∣ U
  c : ∀ t ∈ ts, 0 ≤ t.2.1 ∧ t.2.1 ≤ 10 ^ 30
noncomputable def Bd (v : Int) : Prop := 0 ≤ v ∧ v ≤ 10 ^ 230
noncomputable def sh (U : Int) (ts : List Th) (z : Str) : Int := N41.cst ts z * (U / rm ts z)
noncomputable def N74s {α : Type} (f : Str → α) (z : Str) (v : α) : Str → α := fun y => if y = z then v else f y
structure DuX where
  rp : Addr
  dd : Addr
  rr : Addr
structure DuS where
  r : Int
  ks : List Str
  f : Str → Int
  rs : List Int
structure Dfs (p : Addr) (n : Int) (x : DuX) (fs : List (Str × V)) : Prop where
  st : fs.lookup (Str.ofString "stock") = some (.ref p)
  pl : fs.lookup (Str.ofString "places") = some (.int n)
  re : fs.lookup (Str.ofString "reached") = some (.ref x.rp)
  du : fs.lookup (Str.ofString "dues") = some (.ref x.dd)
  ri : fs.lookup (Str.ofString "rises") = some (.ref x.rr)
  n : fs.length < 500
  m : ∀ m ∈ [Str.ofString "asked", Str.ofString "owe", Str.ofString "choice", Str.ofString "gone", Str.ofString "came", Str.ofString "level", Str.ofString "due_of", Str.ofString "prices"], fs.lookup m = none
theorem putF_same {f : Str} {v : V} : ∀ {fs : List (Str × V)}, (fs.lookup f).isSome = true → (putF f v fs).length = fs.length := by
  intro fs
  induction fs with
  | nil => intro h; cases h
  | cons a r ih =>
    obtain ⟨g, y⟩ := a
    intro h
    show (if g = f then (g, v) :: r else (g, y) :: putF f v r).length = _
    by_cases e : g = f
    · rw [if_pos e]; rfl
    · rw [if_neg e]
      have h2 : (r.lookup f).isSome = true := by
        rw [List.lookup_cons] at h
        rw [show (f == g) = false from by simpa using fun k => e k.symm] at h
        exact h
      rw [List.length_cons, ih h2]; rfl
theorem Dfs.reach {p : Addr} {n : Int} {x : DuX} {fs : List (Str × V)} {a : Addr} (h : Dfs p n x fs) : Dfs p n { x with rp := a } (putF (Str.ofString "reached") (.ref a) fs) := by
  have ne : ∀ f, f ≠ Str.ofString "reached" → (putF (Str.ofString "reached") (V.ref a) fs).lookup f = fs.lookup f := fun f hf => by rw [lookup_putF, if_neg hf]
  refine ⟨by rw [ne _ (by decide)]; exact h.st, by rw [ne _ (by decide)]; exact h.pl, by rw [lookup_putF, if_pos rfl], by rw [ne _ (by decide)]; exact h.du, by rw [ne _ (by decide)]; exact h.ri, ?_, fun m hm => ?_⟩
  · rw [putF_same (by rw [h.re]; rfl)]; exact h.n
  · rw [ne m (fun e => by rw [e] at hm; revert hm; decide)]; exact h.m m hm
structure DuAt (C : Addr) (U : Int) (H : Hp) (q p : Addr) (n : Int) (x : DuX) (s : DuS) : Prop where
  o : ∃ dx fs, H q = some (.ins C dx fs) ∧ Dfs p n x fs
  rp : RtA H x.rp U s.r
  dd : ∃ kvs, H x.dd = some (.dK kvs) ∧ kvs.map (·.1) = s.ks.map Sum.inr ∧ ∀ y ∈ s.ks, ∃ a, valV kvs (Sum.inr y) = some (.ref a) ∧ RtA H a U (s.f y)
  rr : ∃ us, H x.rr = some (.lst (us.map V.ref)) ∧ RtsA H us U s.rs
  nd : s.ks.Nodup
  b : Bd s.r ∧ (∀ y ∈ s.ks, Bd (s.f y)) ∧ (∀ v ∈ s.rs, Bd v)
  l : s.ks.length ≤ 100 ∧ s.rs.length ≤ 1000
section
variable {C : Addr} {U : Int} {H H' : Hp} {q p : Addr} {n : Int} {x : DuX} {s : DuS} {us : List Addr} {rs : List Int} {ts : List Th}
theorem RtsA.keep (h : RtsA H us U rs) (k : ∀ v e, H v = some (.tup e) → H' v = some (.tup e)) : RtsA H' us U rs := ⟨h.1, fun i a v h1 h2 => k _ _ (h.2 i a v h1 h2)⟩
noncomputable def DuM (q : Addr) (x : DuX) : List Addr := [q, x.dd, x.rr]
theorem DuAt.keep (h : DuAt C U H q p n x s) (k1 : ∀ b ∈ DuM q x, ∀ o, H b = some o → H' b = some o) (k : ∀ v e, H v = some (.tup e) → H' v = some (.tup e)) : DuAt C U H' q p n x s := by
  obtain ⟨dx, fs, ho, hf⟩ := h.o
  obtain ⟨kvs, d1, d2, d3⟩ := h.dd
  obtain ⟨us, r1, r2⟩ := h.rr
  exact ⟨⟨dx, fs, k1 _ (by simp [DuM]) _ ho, hf⟩, k _ _ h.rp, ⟨kvs, k1 _ (by simp [DuM]) _ d1, d2, fun y hy => by obtain ⟨a, e1, e2⟩ := d3 y hy; exact ⟨a, e1, k _ _ e2⟩⟩, ⟨us, k1 _ (by simp [DuM]) _ r1, r2.keep k⟩, h.nd, h.b, h.l⟩
theorem DuAt.same (h : DuAt C U H q p n x s) (m : Same H H') : DuAt C U H' q p n x s := h.keep (fun b _ o e => m _ _ e) fun v e hv => m _ _ hv
theorem DuAt.tup (h : DuAt C U H q p n x s) (kp : Kp (DuM q x) H H') : ∀ v e, H v = some (.tup e) → H' v = some (.tup e) := fun v e hv => by
  obtain ⟨dx, fs, ho, _⟩ := h.o
  obtain ⟨kvs, d1, _⟩ := h.dd
  obtain ⟨us, r1, _⟩ := h.rr
  refine kp v _ (fun hm => ?_) hv
  have hm' : v = q ∨ v = x.dd ∨ v = x.rr := by simpa [DuM] using hm
  rcases hm' with k | k | k <;> rw [k] at hv
  · rw [ho] at hv; cases hv
  · rw [d1] at hv; cases hv
  · rw [r1] at hv; cases hv
theorem Un.sh (h : Un U ts) (nd : (ts.map (·.1)).Nodup) {z : Str} (hz : z ∈ ts.map (·.1)) : 0 ≤ sh U ts z ∧ sh U ts z ≤ 10 ^ 210 ∧ 1 ≤ rm ts z ∧ rm ts z ≤ 1000 ∧ rm ts z ∣ U ∧ 0 ≤ N41.cst ts z ∧ N41.cst ts z ≤ 10 ^ 30 := by
  obtain ⟨i, t, ht, e⟩ := mem_nth hz
  have hm := List.mem_of_getElem? ht
  obtain ⟨r1, r2, r3⟩ := h.r t hm
  obtain ⟨c1, c2⟩ := h.c t hm
  have e1 : rm ts z = t.2.2 := by rw [← e]; exact rm_at nd ht
  have e2 : N41.cst ts z = t.2.1 := by rw [← e]; exact N41.cst_at nd ht
  unfold N57.sh
  rw [e1, e2]
  have hd : 0 ≤ U / t.2.2 := Int.ediv_nonneg (by have := h.p; omega) (by omega)
  have hd2 : U / t.2.2 ≤ U := Int.ediv_le_self _ (by have := h.p; omega)
  have hb := h.b
  refine ⟨Int.mul_nonneg c1 hd, ?_, r1, r2, r3, c1, c2⟩
  calc t.2.1 * (U / t.2.2) ≤ 10 ^ 30 * 10 ^ 180 := Int.mul_le_mul c2 (by omega) hd (by decide)
    _ = 10 ^ 210 := by decide
end
theorem drop_keys {kvs : List (Key × V)} {ks : List Str} {z : Str} (h : kvs.map (·.1) = ks.map Sum.inr) (nd : ks.Nodup) : (dropK kvs (Sum.inr z)).map (·.1) = (ks.erase z).map Sum.inr := by
  unfold dropK
  rw [nd.erase_eq_filter]
  clear nd
  induction kvs generalizing ks with
  | nil =>
    cases ks with
    | nil => rfl
    | cons k ks => cases h
  | cons p kvs ih =>
    cases ks with
    | nil => cases h
    | cons k ks =>
    rw [List.map_cons, List.map_cons] at h
    have h1 : p.1 = Sum.inr k := (List.cons.inj h).1
    have h2 := ih (List.cons.inj h).2
    by_cases e : k = z
    · rw [List.filter_cons_of_neg (by rw [h1, e]; simp), List.filter_cons_of_neg (by rw [e]; simp)]; exact h2
    · rw [List.filter_cons_of_pos (by rw [h1]; simpa using e), List.filter_cons_of_pos (by simpa using e), List.map_cons, List.map_cons, h1, h2]
theorem drop_val {kvs : List (Key × V)} {k j : Key} (n : j ≠ k) : valV (dropK kvs k) j = valV kvs j := by
  induction kvs with
  | nil => rfl
  | cons p r ih =>
    unfold dropK at ih ⊢
    by_cases e : p.1 = k
    · rw [List.filter_cons_of_neg (by simpa using e), ih, valV_neg (fun h => n (by rw [← h, e]))]
    · rw [List.filter_cons_of_pos (by simpa using e)]
      by_cases e2 : p.1 = j
      · rw [valV_pos e2, valV_pos e2]
      · rw [valV_neg e2, valV_neg e2, ih]
theorem keys_val {kvs : List (Key × V)} {ks : List Str} (h : kvs.map (·.1) = ks.map Sum.inr) (z : Str) : (valV kvs (Sum.inr z)).isSome = decide (z ∈ ks) := by
  induction kvs generalizing ks with
  | nil =>
    cases ks with
    | nil => rfl
    | cons k ks => cases h
  | cons p kvs ih =>
    cases ks with
    | nil => cases h
    | cons k ks =>
    rw [List.map_cons, List.map_cons] at h
    have h1 : p.1 = Sum.inr k := (List.cons.inj h).1
    have h2 := ih (List.cons.inj h).2
    by_cases e : z = k
    · rw [valV_pos (by rw [h1, e]), e]; simp
    · rw [valV_neg (by rw [h1]; exact fun k' => e (Sum.inr.inj k').symm), h2]
      simp [e]
section
variable {C : Addr} {U : Int} {H H' : Hp} {q p : Addr} {n : Int} {x : DuX} {s : DuS} {us : List Addr} {rs : List Int} {ts : List Th} {z : Str} {a : Addr}
theorem DuAt.nq (h : DuAt C U H q p n x s) : q ≠ x.dd ∧ q ≠ x.rr ∧ x.dd ≠ x.rr := by
  obtain ⟨dx, fs, ho, _⟩ := h.o
  obtain ⟨kvs, d1, _⟩ := h.dd
  obtain ⟨us, r1, _⟩ := h.rr
  exact ⟨ne_of ho d1 (by intro z; cases z), ne_of ho r1 (by intro z; cases z), ne_of d1 r1 (by intro z; cases z)⟩
theorem DuAt.put (h : DuAt C U H q p n x s) {kvs : List (Key × V)} (hk : H x.dd = some (.dK kvs)) {v : Int} (ha : RtA H a U v) (hz : z ∉ s.ks) (hv : Bd v) (hl : s.ks.length < 100) : DuAt C U (upd H x.dd (.dK (putK kvs (Sum.inr z) (.ref a)))) q p n x ⟨s.r, s.ks ++ [z], N74s s.f z v, s.rs⟩ := by
  obtain ⟨dx, fs, ho, hf⟩ := h.o
  obtain ⟨kvs', d1, d2, d3⟩ := h.dd
  obtain ⟨us, r1, r2⟩ := h.rr
  rw [hk] at d1
  cases d1
  obtain ⟨e1, e2, e3⟩ := h.nq
  have kt : ∀ v e, H v = some (.tup e) → upd H x.dd (.dK (putK kvs (Sum.inr z) (.ref a))) v = some (.tup e) := fun v e hv => by rw [upd_ne (ne_of hv hk (by intro z; cases z))]; exact hv
  refine ⟨⟨dx, fs, by rw [upd_ne e1]; exact ho, hf⟩, kt _ _ h.rp, ⟨_, upd_same, N8.put_keys d2 hz, fun y hy => ?_⟩, ⟨us, by rw [upd_ne e3.symm]; exact r1, r2.keep kt⟩, ?_, ⟨h.b.1, fun y hy => ?_, h.b.2.2⟩, ?_, h.l.2⟩
  · by_cases e : y = z
    · refine ⟨a, by rw [valV_put, if_pos (by rw [e])], ?_⟩
      show RtA _ a U (N74s s.f z v y)
      rw [show N74s s.f z v y = v from if_pos e]; exact kt _ _ ha
    · obtain ⟨b, k1, k2⟩ := d3 y ((List.mem_append.mp hy).resolve_right fun k => e (List.mem_singleton.mp k))
      refine ⟨b, by rw [valV_put, if_neg (fun k => e (Sum.inr.inj k))]; exact k1, ?_⟩
      show RtA _ b U (N74s s.f z v y)
      rw [show N74s s.f z v y = s.f y from if_neg e]; exact kt _ _ k2
  · exact List.nodup_append.mpr ⟨h.nd, by simp, fun a ha b hb e => hz (by rw [← List.mem_singleton.mp hb, ← e]; exact ha)⟩
  · by_cases e : y = z
    · show Bd (N74s s.f z v y); rw [show N74s s.f z v y = v from if_pos e]; exact hv
    · show Bd (N74s s.f z v y); rw [show N74s s.f z v y = s.f y from if_neg e]; exact h.b.2.1 y ((List.mem_append.mp hy).resolve_right fun k => e (List.mem_singleton.mp k))
  · show (s.ks ++ [z]).length ≤ 100
    rw [List.length_append]; simp only [List.length_cons, List.length_nil]; omega
theorem DuAt.drop (h : DuAt C U H q p n x s) {kvs : List (Key × V)} (hk : H x.dd = some (.dK kvs)) : DuAt C U (upd H x.dd (.dK (dropK kvs (Sum.inr z)))) q p n x ⟨s.r, s.ks.erase z, s.f, s.rs⟩ := by
  obtain ⟨dx, fs, ho, hf⟩ := h.o
  obtain ⟨kvs', d1, d2, d3⟩ := h.dd
  obtain ⟨us, r1, r2⟩ := h.rr
  rw [hk] at d1
  cases d1
  obtain ⟨e1, e2, e3⟩ := h.nq
  have kt : ∀ v e, H v = some (.tup e) → upd H x.dd (.dK (dropK kvs (Sum.inr z))) v = some (.tup e) := fun v e hv => by rw [upd_ne (ne_of hv hk (by intro z; cases z))]; exact hv
  refine ⟨⟨dx, fs, by rw [upd_ne e1]; exact ho, hf⟩, kt _ _ h.rp, ⟨_, upd_same, drop_keys d2 h.nd, fun y hy => ?_⟩, ⟨us, by rw [upd_ne e3.symm]; exact r1, r2.keep kt⟩, h.nd.erase z, ⟨h.b.1, fun y hy => h.b.2.1 y (List.mem_of_mem_erase hy), h.b.2.2⟩, ?_, h.l.2⟩
  · have hyz : y ≠ z := ((List.Nodup.mem_erase_iff h.nd).mp hy).1
    obtain ⟨b, k1, k2⟩ := d3 y (List.mem_of_mem_erase hy)
    exact ⟨b, by rw [drop_val (fun k => hyz (Sum.inr.inj k))]; exact k1, kt _ _ k2⟩
  · exact Nat.le_trans (List.length_erase_le) h.l.1
theorem RtsA.set {us : List Addr} {rs : List Int} {k : Nat} {v : Int} (h : RtsA H us U rs) (ha : RtA H a U v) : RtsA H (us.set k a) U (rs.set k v) := ⟨by rw [List.length_set, List.length_set, h.1], fun i b w h1 h2 => by
  rw [List.getElem?_set] at h1 h2
  by_cases e : k = i
  · rw [if_pos e] at h1 h2
    split at h1
    · split at h2
      · cases h1; cases h2; exact ha
      · cases h2
    · cases h1
  · rw [if_neg e] at h1 h2
    exact h.2 i b w h1 h2⟩
theorem DuAt.reach (h : DuAt C U H q p n x s) {dx : Addr} {fs : List (Str × V)} (ho : H q = some (.ins C dx fs)) (hf : Dfs p n x fs) {v : Int} (ha : RtA H a U v) (hv : Bd v) : DuAt C U (upd H q (.ins C dx (putF (Str.ofString "reached") (.ref a) fs))) q p n { x with rp := a } ⟨v, s.ks, s.f, s.rs⟩ := by
  obtain ⟨kvs, d1, d2, d3⟩ := h.dd
  obtain ⟨us, r1, r2⟩ := h.rr
  obtain ⟨e1, e2, e3⟩ := h.nq
  have kt : ∀ v e, H v = some (.tup e) → upd H q (.ins C dx (putF (Str.ofString "reached") (.ref a) fs)) v = some (.tup e) := fun v e hv => by rw [upd_ne (ne_of hv ho (by intro z; cases z))]; exact hv
  exact ⟨⟨dx, _, upd_same, hf.reach⟩, kt _ _ ha, ⟨kvs, by rw [upd_ne e1.symm]; exact d1, d2, fun y hy => by obtain ⟨b, k1, k2⟩ := d3 y hy; exact ⟨b, k1, kt _ _ k2⟩⟩, ⟨us, by rw [upd_ne e2.symm]; exact r1, r2.keep kt⟩, h.nd, ⟨hv, h.b.2.1, h.b.2.2⟩, h.l⟩
theorem DuAt.rise (h : DuAt C U H q p n x s) {us' : List Addr} {rs' : List Int} (hr : RtsA H us' U rs') (hb : ∀ v ∈ rs', Bd v) (hl : rs'.length ≤ 1000) : DuAt C U (upd H x.rr (.lst (us'.map V.ref))) q p n x ⟨s.r, s.ks, s.f, rs'⟩ := by
  obtain ⟨dx, fs, ho, hf⟩ := h.o
  obtain ⟨kvs, d1, d2, d3⟩ := h.dd
  obtain ⟨us, r1, r2⟩ := h.rr
  obtain ⟨e1, e2, e3⟩ := h.nq
  have kt : ∀ v e, H v = some (.tup e) → upd H x.rr (.lst (us'.map V.ref)) v = some (.tup e) := fun v e hv => by rw [upd_ne (ne_of hv r1 (by intro z; cases z))]; exact hv
  exact ⟨⟨dx, fs, by rw [upd_ne e2]; exact ho, hf⟩, kt _ _ h.rp, ⟨kvs, by rw [upd_ne e3]; exact d1, d2, fun y hy => by obtain ⟨b, k1, k2⟩ := d3 y hy; exact ⟨b, k1, kt _ _ k2⟩⟩, ⟨us', upd_same, hr.keep kt⟩, h.nd, ⟨h.b.1, h.b.2.1, hb⟩, h.l.1, hl⟩
end
noncomputable def sp57_ratio : Sp := fun vs H Q _ => ∃ (i j : Int), vs = [.int i, .int j] ∧ 0 < j ∧ j < 10 ^ 1000 ∧ ∀ p, H p = none → Q (.ref p) (upd H p (.tup [.int (rt j i).1, .int (rt j i).2]))
noncomputable def sp57_plus : Sp := fun vs H Q _ => ∃ (a b : Addr) (U x y : Int), vs = [.ref a, .ref b] ∧ RtA H a U x ∧ RtA H b U y ∧ 0 < U ∧ U ≤ 10 ^ 180 ∧ (x.natAbs ≤ 10 ^ 240 ∧ y.natAbs ≤ 10 ^ 240) ∧ ∀ p, H p = none → Q (.ref p) (upd H p (.tup [.int (rt U (x + y)).1, .int (rt U (x + y)).2]))
noncomputable def sp57_minus : Sp := fun vs H Q _ => ∃ (a b : Addr) (U x y : Int), vs = [.ref a, .ref b] ∧ RtA H a U x ∧ RtA H b U y ∧ 0 < U ∧ U ≤ 10 ^ 180 ∧ (x.natAbs ≤ 10 ^ 240 ∧ y.natAbs ≤ 10 ^ 240) ∧ ∀ p, H p = none → Q (.ref p) (upd H p (.tup [.int (rt U (x - y)).1, .int (rt U (x - y)).2]))
noncomputable def sp57_under : Sp := fun vs H Q _ => ∃ (a b : Addr) (U x y : Int), vs = [.ref a, .ref b] ∧ RtA H a U x ∧ RtA H b U y ∧ 0 < U ∧ U ≤ 10 ^ 180 ∧ (x.natAbs ≤ 10 ^ 240 ∧ y.natAbs ≤ 10 ^ 240) ∧ Q (.bl (decide (x < y))) H
noncomputable def sp57_rinit (K : PySem.W.Frag) (C : Addr) : Sp := fun vs H Q _ => ∃ (q dx p : Addr) (n : Int), vs = [.ref q, .ref p, .int n] ∧ H q = some (.ins C dx []) ∧ 1 ≤ n ∧ n ≤ 1000000 ∧ ∀ H', SameBut q H H' → H' q = some (.ins C dx [(Str.ofString "stock", .ref p), (Str.ofString "places", .int n)]) → Q .non H'
noncomputable def sp57_init (C : Addr) : Sp := fun vs H Q _ => ∃ (q dx p : Addr) (n U : Int), vs = [.ref q, .ref p, .int n] ∧ H q = some (.ins C dx []) ∧ 1 ≤ n ∧ n ≤ 1000000 ∧ 0 < U ∧ ∀ (x : DuX) (H' : Hp), SameBut q H H' → (∀ b ∈ [x.dd, x.rr], H b = none) → DuAt C U H' q p n x ⟨0, [], fun _ => 0, []⟩ → Q .non H'
noncomputable def sp57_owe (K : PySem.W.Frag) (C S : Addr) : Sp := fun vs H Q _ => ∃ (q p : Addr) (n U : Int) (x : DuX) (s : DuS) (z : Str) (ts : List Th), vs = [.ref q, .str z] ∧ DuAt C U H q p n x s ∧ StockAt K S H p ts ∧ (ts.map (·.1)).Nodup ∧ z ∈ ts.map (·.1) ∧ z ∉ s.ks ∧ Un U ts ∧ s.ks.length < 100 ∧ s.r ≤ 10 ^ 229 ∧
  ∀ H', Kp (DuM q x) H H' → DuAt C U H' q p n x ⟨s.r, s.ks ++ [z], N74s s.f z (s.r + sh U ts z), s.rs⟩ → Q .non H'
noncomputable def askS (U : Int) (ts : List Th) (s : DuS) (z : Str) : DuS := if z ∈ s.ks then ⟨s.r, s.ks.erase z ++ [z], N74s s.f z (s.r + sh U ts z), s.rs ++ [0]⟩ else ⟨s.r, s.ks, s.f, s.rs ++ [0]⟩
noncomputable def goneS (s : DuS) (z : Str) : DuS := ⟨s.f z, s.ks.erase z, s.f, s.rs.set (s.rs.length - 1) (s.rs.getLastD 0 + (s.f z - s.r))⟩
noncomputable def sp57_asked (K : PySem.W.Frag) (C S : Addr) : Sp := fun vs H Q _ => ∃ (q p : Addr) (n U : Int) (x : DuX) (s : DuS) (z : Str) (ts : List Th), vs = [.ref q, .str z] ∧ DuAt C U H q p n x s ∧ StockAt K S H p ts ∧ (∀ H', Kp (DuM q x) H H' → StockAt K S H' p ts) ∧ (ts.map (·.1)).Nodup ∧ z ∈ ts.map (·.1) ∧ Un U ts ∧ s.rs.length < 1000 ∧ s.r ≤ 10 ^ 229 ∧
  ∀ H', Kp (DuM q x) H H' → DuAt C U H' q p n x (askS U ts s z) → Q .non H'
noncomputable def sp57_choice (C : Addr) : Sp := fun vs H Q _ => ∃ (q p l : Addr) (n U : Int) (x : DuX) (s : DuS), vs = [.ref q, .ref l] ∧ DuAt C U H q p n x s ∧ 0 < U ∧ U ≤ 10 ^ 180 ∧ s.ks ≠ [] ∧ ∀ (z : Str) (H' : Hp), Same H H' → z ∈ s.ks → (∀ y ∈ s.ks, s.f z ≤ s.f y) → Q (.str z) H'
noncomputable def sp57_gone (C : Addr) : Sp := fun vs H Q _ => ∃ (q p : Addr) (n U : Int) (x : DuX) (s : DuS) (z : Str), vs = [.ref q, .str z] ∧ DuAt C U H q p n x s ∧ 0 < U ∧ U ≤ 10 ^ 180 ∧ z ∈ s.ks ∧ 1 ≤ s.rs.length ∧ Bd (s.rs.getLastD 0 + (s.f z - s.r)) ∧
  ∀ (a : Addr) (H' : Hp), Kp (DuM q x) H H' → DuAt C U H' q p n { x with rp := a } (goneS s z) → Q .non H'
noncomputable def sp57_level (C : Addr) : Sp := fun vs H Q _ => ∃ (q p : Addr) (n U : Int) (x : DuX) (s : DuS), vs = [.ref q] ∧ DuAt C U H q p n x s ∧ Q (.ref x.rp) H
noncomputable def sp57_due (C N : Addr) : Sp := fun vs H Q E => ∃ (q p : Addr) (n U : Int) (x : DuX) (s : DuS) (z : Str), vs = [.ref q, .str z] ∧ DuAt C U H q p n x s ∧ (reprText z).length ≤ 1000 ∧ (z ∈ s.ks → ∀ a, RtA H a U (s.f z) → Q (.ref a) H) ∧ (z ∉ s.ks → ∀ H' e, Same H H' → H' e = none → E (.ref N) (some e) H')
noncomputable def sp57_prices (C : Addr) : Sp := fun vs H Q _ => ∃ (q p : Addr) (n U : Int) (x : DuX) (s : DuS), vs = [.ref q] ∧ DuAt C U H q p n x s ∧ ∀ (l : Addr) (us : List Addr), H l = none → RtsA H us U s.rs → Q (.ref l) (upd H l (.lst (us.map V.ref)))
noncomputable def CrA (K : PySem.W.Frag) (H : Hp) (a : Addr) (U x : Int) : Prop := ∃ t b : Int, SqT K H a [.int t, .int b] ∧ 0 < b ∧ t * U = x * b ∧ t.natAbs ≤ 10 ^ 240 ∧ b.natAbs ≤ 10 ^ 180
theorem RtA.cr {K : PySem.W.Frag} {H : Hp} {a : Addr} {U x : Int} (h : RtA H a U x) (hU : 0 < U) (hU2 : U ≤ 10 ^ 180) (hx : x.natAbs ≤ 10 ^ 240) : CrA K H a U x := by
  obtain ⟨c1, c2, _, c4, c5⟩ := rt_all (v := x) hU
  exact ⟨_, _, SqT.of h, c2, c1, Nat.le_trans c4 hx, Nat.le_trans c5 (by omega)⟩
theorem cr_sum {U x y f1 f2 o1 o2 t b : Int} (hU : 0 < U) (h1 : f1 * U = (x + y) * f2) (h2 : o1 * U = x * o2) (h3 : t * U = y * b) : f1 * o2 * b = f2 * (o1 * b + t * o2) := by
  refine Int.eq_of_mul_eq_mul_right (a := U) (by omega) ?_
  rw [show f1 * o2 * b * U = (f1 * U) * (o2 * b) by simp only [Int.mul_assoc, Int.mul_comm, Int.mul_left_comm], h1, show f2 * (o1 * b + t * o2) * U = f2 * ((o1 * U) * b + (t * U) * o2) by rw [Int.mul_assoc, Int.add_mul]; simp only [Int.mul_assoc, Int.mul_comm, Int.mul_left_comm], h2, h3, Int.add_mul, Int.add_mul, Int.mul_add]
  simp only [Int.mul_assoc, Int.mul_comm, Int.mul_left_comm]
noncomputable def sp57_rows (K : PySem.W.Frag) : Sp := fun vs H Q _ => ∃ (a : Addr) (ns : List Int), vs = [.ref a] ∧ SqL K H a (ns.map V.int) ∧ ns.length ≤ 63 ∧
  ∀ (r : Addr) (as : List Addr) (ts : List Th) (H' : Hp), Same H H' → H' r = some (.lst (as.map V.ref)) → RowsAt K H' r as ts → 1 ≤ ts.length → (∀ t ∈ ts, t.2.1 < 1000) → Q (.ref r) H'
noncomputable def sp57_priced (K : PySem.W.Frag) : Sp := fun vs H Q _ => ∃ (r : Addr) (c : Int) (as : List Addr) (ts : List Th), vs = [.ref r, .int c] ∧ RowsAt K H r as ts ∧ 1 ≤ ts.length ∧ (∀ t ∈ ts, t.2.1 < 1000) ∧
  ∀ (r' : Addr) (as' : List Addr) (ts' : List Th) (H' : Hp), Same H H' → H' r' = some (.lst (as'.map V.ref)) → RowsAt K H' r' as' ts' → 1 ≤ ts'.length → Q (.ref r') H'
noncomputable def sp57_whole : Sp := fun vs H Q _ => ∃ i : Int, vs = [.int i] ∧ Q (.bl true) H
noncomputable def sp57_shared : Sp := fun vs H Q _ => ∃ (i j : Int), vs = [.int i, .int j] ∧ 0 ≤ j ∧ Q (.int (Int.gcd i j)) H
noncomputable def sp57_lratio : Sp := fun vs H Q _ => ∃ (a : Addr) (U v : Int), vs = [.ref a] ∧ RtA H a U v ∧ 0 < U ∧ Q (.bl true) H
noncomputable def sp57_lunder : Sp := fun vs H Q _ => ∃ (a b : Addr) (U x y : Int), vs = [.ref a, .ref b] ∧ RtA H a U x ∧ RtA H b U y ∧ 0 < U ∧ U ≤ 10 ^ 180 ∧ (x.natAbs ≤ 10 ^ 240 ∧ y.natAbs ≤ 10 ^ 240) ∧ Q (.bl (decide (x < y))) H
noncomputable def sp57_lsum (K : PySem.W.Frag) : Sp := fun vs H Q _ => ∃ (a b c : Addr) (U x y : Int), vs = [.ref a, .ref b, .ref c] ∧ CrA K H a U (x + y) ∧ CrA K H b U x ∧ CrA K H c U y ∧ 0 < U ∧ Q (.bl true) H
structure LdA (H : Hp) (ld : Addr) (U : Int) (kvs : List (Key × V)) (ks : List Str) (f : Str → Int) : Prop where
  d : H ld = some (.dK kvs)
  k : kvs.map (·.1) = ks.map Sum.inr
  v : ∀ y ∈ ks, ∃ a, valV kvs (Sum.inr y) = some (.ref a) ∧ RtA H a U (f y)
  nd : ks.Nodup
noncomputable def sp57_lleast : Sp := fun vs H Q _ => ∃ (ld : Addr) (z : Str) (U : Int) (kvs : List (Key × V)) (ks : List Str) (f : Str → Int), vs = [.ref ld, .str z] ∧ LdA H ld U kvs ks f ∧ 0 < U ∧ U ≤ 10 ^ 180 ∧ (∀ y ∈ ks, Bd (f y)) ∧ z ∈ ks ∧ (∀ y ∈ ks, f z ≤ f y) ∧ ks.length ≤ 100 ∧ ∀ H', Same H H' → Q (.bl true) H'
noncomputable def sp57_not (C : Addr) : Sp := fun vs H Q _ => ∃ (q p : Addr) (n U : Int) (x : DuX) (s : DuS) (z : Str), vs = [.ref q, .str z] ∧ DuAt C U H q p n x s ∧ (reprText z).length ≤ 1000 ∧ z ∉ s.ks ∧ ∀ H', Same H H' → Q (.bl true) H'
theorem dget_rd {H : Hp} {a : Addr} {kvs : List (Key × V)} {k : Key} (e : Rd H a (.dK kvs)) : DGet H a (kV k) (valV kvs k) := .inl ⟨kvs, k, e, rfl, rfl⟩
theorem _root_.N4.RowsAt.snoc {K : PySem.W.Frag} {H H' : Hp} {l a : Addr} {as : List Addr} {ts : List Th} {t : Th} {xs : List V} (h : RowsAt K H l as ts) (hl : H l = some (.lst xs)) (sb : SameBut l H H') (hl' : H' l = some (.lst ((as ++ [a]).map V.ref))) (ha : SqT K H' a [.str t.1, .int t.2.1, .int t.2.2]) (ok : nameB t.1.cps.toList = true ∧ 0 ≤ t.2.1 ∧ t.2.1 ≤ 10 ^ 30 ∧ 1 ≤ t.2.2 ∧ t.2.2 ≤ 1000) (hn : t.1 ∉ ts.map (·.1)) (hm : ts.length < 60) : RowsAt K H' l (as ++ [a]) (ts ++ [t]) := by
  refine ⟨SqL.of hl', by rw [List.length_append, List.length_append, h.n]; rfl, by rw [List.length_append]; simp only [List.length_cons, List.length_nil]; omega, fun i b u e1 e2 => ?_, fun u hu => ?_, ?_⟩
  · by_cases hi : i < as.length
    · rw [List.getElem?_append_left hi] at e1
      rw [List.getElem?_append_left (by rw [← h.n]; exact hi)] at e2
      exact SqT.butL sb hl (h.at_ i b u e1 e2)
    · rw [List.getElem?_append_right (by omega)] at e1
      rw [List.getElem?_append_right (by rw [← h.n]; omega)] at e2
      have h0 : i - as.length = 0 := by
        have := (List.getElem?_eq_some_iff.mp e1).1
        simp at this; omega
      rw [h0] at e1
      rw [← h.n, h0] at e2
      cases e1
      cases e2
      exact ha
  · rcases List.mem_append.mp hu with hu | hu
    · exact h.ok u hu
    · rw [List.mem_singleton.mp hu]; exact ok
  · rw [List.map_append]
    exact List.nodup_append.mpr ⟨h.nd, by simp, fun x hx y hy e => hn (by have h1 : y = t.1 := List.mem_singleton.mp hy; rw [← h1, ← e]; exact hx)⟩
structure Low (k : Int) (s : DuS) : Prop where
  a : 0 ≤ s.r
  b : s.r ≤ k * 10 ^ 210
  c : ∀ y ∈ s.ks, s.r ≤ s.f y ∧ s.f y ≤ k * 10 ^ 210
structure Mt (q : Addr) (x : DuX) (ld rd : Addr) : Prop where
  n1 : ld ≠ x.dd
  n2 : rd ≠ x.dd
  n3 : ld ≠ rd
noncomputable def sp57_served (K : PySem.W.Frag) (C S : Addr) : Sp := fun vs H Q _ => ∃ (q p ld rd : Addr) (n U k : Int) (x : DuX) (s : DuS) (z : Str) (ts : List Th) (kvs : List (Key × V)) (ks : List Str), vs = [.ref q, .str z, .ref ld, .ref rd, .int n] ∧ DuAt C U H q p n x s ∧ (∀ H', Kp (ld :: DuM q x) H H' → StockAt K S H' p ts) ∧ (ts.map (·.1)).Nodup ∧ ts.length ≤ 60 ∧ Un U ts ∧ z ∈ ts.map (·.1) ∧ z ∉ s.ks ∧ rm ts z ≤ n ∧ (reprText z).length ≤ 1000 ∧ LdA H ld U kvs ks s.f ∧ ks.Perm s.ks ∧ (∀ y ∈ s.ks, y ∈ ts.map (·.1)) ∧ H rd = some (.dK (rmK ts)) ∧ Mt q x ld rd ∧ Low k s ∧ 0 ≤ k ∧ k ≤ 100 ∧ 1 ≤ s.rs.length ∧ s.rs.getLastD 0 = 0 ∧
  ∀ (H' : Hp) (x' : DuX) (s' : DuS) (kvs' : List (Key × V)) (ks' : List Str) (rv : Addr), Kp (ld :: DuM q x) H H' → DuAt C U H' q p n x' ⟨s'.r, s'.ks ++ [z], N74s s.f z (s'.r + sh U ts z), s'.rs⟩ → x'.dd = x.dd → x'.rr = x.rr → LdA H' ld U kvs' ks' s.f → ks'.Perm s'.ks → Low k s' → s'.f = s.f → (∀ y ∈ s'.ks, y ∈ s.ks) → s.r ≤ s'.r → s'.rs = s.rs.set (s.rs.length - 1) (s'.r - s.r) → RtA H' rv U s'.r → Q (.ref rv) H'
noncomputable def sp57_lprices (K : PySem.W.Frag) : Sp := fun vs H Q _ => ∃ (fo ke be le : Addr) (us ws : List Addr) (rs : List Int) (U r r' : Int), vs = [.ref fo, .ref ke, .ref be, .ref le] ∧ H fo = some (.lst (us.map V.ref)) ∧ H ke = some (.lst (ws.map V.ref)) ∧ RtsA H us U (rs ++ [r' - r]) ∧ RtsA H ws U rs ∧ RtA H be U r ∧ RtA H le U r' ∧ 0 < U ∧ U ≤ 10 ^ 180 ∧ Bd r ∧ Bd r' ∧ r ≤ r' ∧ rs.length ≤ 1000 ∧ ∀ H', Same H H' → Q (.bl true) H'
noncomputable def sp57_ldues (K : PySem.W.Frag) (C : Addr) : Sp := fun vs H Q _ => ∃ (q p ld th le : Addr) (n U : Int) (x : DuX) (s : DuS) (z : Str) (ts : List Th) (kvs : List (Key × V)) (ks : List Str) (fl : Str → Int), vs = [.ref q, .str z, .ref ld, .ref th, .ref le] ∧ DuAt C U H q p n x s ∧ (ts.map (·.1)).Nodup ∧ Un U ts ∧ z ∈ ts.map (·.1) ∧ z ∈ s.ks ∧ s.f z = s.r + sh U ts z ∧ (∀ y ∈ s.ks, s.r ≤ s.f y) ∧ (∀ y ∈ s.ks, (reprText y).length ≤ 1000) ∧ LdA H ld U kvs ks fl ∧ (∀ y ∈ ks, y ∈ s.ks ∧ (y ≠ z → fl y = s.f y)) ∧ SqT K H th [.str z, .int (N41.cst ts z), .int (rm ts z)] ∧ RtA H le U s.r ∧ ld ≠ x.dd ∧ ks.length < 100 ∧
  ∀ (H' : Hp) (kvs' : List (Key × V)), Kp [ld] H H' → LdA H' ld U kvs' (if z ∈ ks then ks else ks ++ [z]) s.f → Q (.bl true) H'
theorem cut_m1 {xs : List V} {v : V} : cutV (xs ++ [v]) none (some (-1)) = xs := by
  have h1 : HT.sIx (xs ++ [v]).length (xs ++ [v]).length (some (-1)) = xs.length := by
    unfold HT.sIx
    dsimp only
    rw [if_pos (by decide), List.length_append]
    simp only [List.length_cons, List.length_nil]
    omega
  unfold cutV
  rw [h1]
  show ((xs ++ [v]).drop 0).take (xs.length - 0) = xs
  rw [List.drop_zero, Nat.sub_zero, List.take_left]
theorem split_last {α : Type} {us : List α} {n : Nat} (h : us.length = n + 1) : ∃ pre u, us = pre ++ [u] ∧ pre.length = n := by
  refine ⟨us.dropLast, us.getLast (fun e => by rw [e] at h; cases h), (List.dropLast_concat_getLast _).symm, by rw [List.length_dropLast]; omega⟩
theorem rts_like {K : PySem.W.Frag} {H : Hp} {a b : Addr} {us ws : List Addr} {U : Int} {rs : List Int} (ha : H a = some (.lst (us.map V.ref))) (hb : H b = some (.lst (ws.map V.ref))) (h1 : RtsA H us U rs) (h2 : RtsA H ws U rs) : LikeR K 1 H (.ref a) (.ref b) := ⟨a, b, _, _, rfl, rfl, .inl ⟨SqL.of ha, SqL.of hb⟩, by rw [List.length_map, List.length_map, h1.1, h2.1], fun i x y e1 e2 => by
  rw [List.getElem?_map] at e1 e2
  cases a1 : us[i]? with
  | none => rw [a1] at e1; cases e1
  | some p =>
  cases a2 : ws[i]? with
  | none => rw [a2] at e2; cases e2
  | some q =>
  rw [a1] at e1
  rw [a2] at e2
  cases e1
  cases e2
  have hi : i < rs.length := by rw [← h1.1]; exact (List.getElem?_eq_some_iff.mp a1).1
  have he := List.getElem?_eq_getElem hi
  exact LikeN.of ⟨p, q, _, _, rfl, rfl, .inr ⟨SqT.of (h1.2 i p _ a1 he), SqT.of (h2.2 i q _ a2 he)⟩, rfl, fun j x y f1 f2 => by
    rw [f1] at f2
    cases f2
    match j, f1 with
    | 0, f1 => cases f1; exact LikeN.flat rfl
    | 1, f1 => cases f1; exact LikeN.flat rfl
    | j + 2, f1 => cases f1⟩⟩
theorem RtsA.left {H : Hp} {us : List Addr} {u : Addr} {U v : Int} {rs : List Int} (h : RtsA H (us ++ [u]) U (rs ++ [v])) : RtsA H us U rs ∧ RtA H u U v := by
  have hl : us.length = rs.length := by have := h.1; rw [List.length_append, List.length_append] at this; simpa using this
  refine ⟨⟨hl, fun i a w h1 h2 => h.2 i a w (by rw [List.getElem?_append_left ((List.getElem?_eq_some_iff.mp h1).1)]; exact h1) (by rw [List.getElem?_append_left ((List.getElem?_eq_some_iff.mp h2).1)]; exact h2)⟩, h.2 us.length u v (by rw [List.getElem?_append_right (Nat.le_refl _), Nat.sub_self]; rfl) (by rw [hl, List.getElem?_append_right (Nat.le_refl _), Nat.sub_self]; rfl)⟩
theorem rt_sign {U v : Int} (hU : 0 < U) (hv : 0 ≤ v) : ¬ (rt U v).1 < 0 := fun h => by
  obtain ⟨c1, c2, _⟩ := rt_all (v := v) hU
  have h1 := Int.mul_neg_of_neg_of_pos h hU
  have h2 := Int.mul_nonneg hv (Int.le_of_lt c2)
  omega
theorem N53k {kvs : List (Key × V)} {ks : List Str} {z : Str} {v : V} (h : kvs.map (·.1) = ks.map Sum.inr) : (putK kvs (Sum.inr z) v).map (·.1) = (if z ∈ ks then ks else ks ++ [z]).map Sum.inr := by
  by_cases hz : z ∈ ks
  · rw [if_pos hz]
    unfold putK
    rw [if_pos ?_, List.map_map, ← h]
    · refine List.map_congr_left fun p hp => ?_
      show (if p.1 = Sum.inr z then (p.1, v) else p).1 = p.1
      split <;> rfl
    · have h1 := keys_val h z
      rw [decide_eq_true hz] at h1
      rw [List.any_eq_true]
      have h2 : (Sum.inr z : Key) ∈ kvs.map (·.1) := by rw [h]; exact List.mem_map.mpr ⟨z, hz, rfl⟩
      obtain ⟨p, hp, e⟩ := List.mem_map.mp h2
      exact ⟨p, hp, decide_eq_true e⟩
  · rw [if_neg hz]; exact N8.put_keys h hz
theorem rmK_v {ts : List Th} {z : Str} (nd : (ts.map (·.1)).Nodup) (h : z ∈ ts.map (·.1)) : valV (N20.rmK ts) (Sum.inr z) = some (.int (rm ts z)) := by
  have e := rm_some h
  obtain ⟨i, t, ht, rfl⟩ := mem_nth h
  unfold N20.rmK
  rw [e, rmOf_is nd (List.mem_of_getElem? ht), rm_at nd ht]
theorem sm_perm {f : Str → Int} {a b : List Str} (h : a.Perm b) : N41.sm f a = N41.sm f b := by
  induction h with
  | nil => rfl
  | cons x _ ih => rw [N41.sm_cons, N41.sm_cons, ih]
  | swap x y l => rw [N41.sm_cons, N41.sm_cons, N41.sm_cons, N41.sm_cons]; omega
  | trans _ _ i1 i2 => rw [i1, i2]
theorem set_last {rs : List Int} (h : 1 ≤ rs.length) : rs.set (rs.length - 1) (rs.getLastD 0) = rs := by
  obtain ⟨pre, u, rfl, hl⟩ := split_last (us := rs) (n := rs.length - 1) (by omega)
  rw [List.getLastD_concat, show (pre ++ [u]).length - 1 = pre.length by rw [List.length_append]; rfl, List.set_append_right _ _ (Nat.le_refl _), Nat.sub_self]; rfl
theorem LdA.keep {H H' : Hp} {ld : Addr} {U : Int} {kvs : List (Key × V)} {ks : List Str} {f : Str → Int} (h : LdA H ld U kvs ks f) (h1 : H' ld = some (.dK kvs)) (kt : ∀ v e, H v = some (.tup e) → H' v = some (.tup e)) : LdA H' ld U kvs ks f := ⟨h1, h.k, fun y hy => by obtain ⟨a, e1, e2⟩ := h.v y hy; exact ⟨a, e1, kt _ _ e2⟩, h.nd⟩
theorem LdA.drop {H : Hp} {ld : Addr} {U : Int} {kvs : List (Key × V)} {ks : List Str} {f : Str → Int} {z : Str} (h : LdA H ld U kvs ks f) : LdA (upd H ld (.dK (dropK kvs (Sum.inr z)))) ld U (dropK kvs (Sum.inr z)) (ks.erase z) f := ⟨upd_same, drop_keys h.k h.nd, fun y hy => by
  have hyz : y ≠ z := ((List.Nodup.mem_erase_iff h.nd).mp hy).1
  obtain ⟨b, k1, k2⟩ := h.v y (List.mem_of_mem_erase hy)
  exact ⟨b, by rw [drop_val (fun k => hyz (Sum.inr.inj k))]; exact k1, by show _ = _; rw [upd_ne (ne_of k2 h.d (by intro z; cases z))]; exact k2⟩, h.nd.erase z⟩
theorem last_set {rs : List Int} {v : Int} (h : 1 ≤ rs.length) : (rs.set (rs.length - 1) v).getLastD 0 = v := by
  rw [List.getLastD_eq_getLast?, List.getLast?_eq_getElem?, List.length_set, List.getElem?_set_self (by omega)]; rfl
structure SvI (C : Addr) (U : Int) (H0 : Hp) (q p ld rd : Addr) (n k : Int) (x : DuX) (s : DuS) (ts : List Th) (H' : Hp) (x' : DuX) (s' : DuS) (kvs' : List (Key × V)) (ks' : List Str) (rv be : Addr) : Prop where
  kp : Kp (ld :: DuM q x) H0 H'
  d : DuAt C U H' q p n x' s'
  e1 : x'.dd = x.dd
  e2 : x'.rr = x.rr
  l : LdA H' ld U kvs' ks' s.f
  pm : ks'.Perm s'.ks
  lo : Low k s'
  f : s'.f = s.f
  su : ∀ y ∈ s'.ks, y ∈ s.ks
  le : s.r ≤ s'.r
  rs : s'.rs = s.rs.set (s.rs.length - 1) (s'.r - s.r)
  rv : RtA H' rv U s'.r
  rd : H' rd = some (.dK (N20.rmK ts))
  be : RtA H' be U s.r
section
variable {C : Addr} {U : Int} {H0 H' H2 : Hp} {q p ld rd : Addr} {n k : Int} {x x' : DuX} {s s' : DuS} {ts : List Th} {kvs' : List (Key × V)} {ks' : List Str} {rv be : Addr}
theorem SvI.same (h : SvI C U H0 q p ld rd n k x s ts H' x' s' kvs' ks' rv be) (m : Same H' H2) : SvI C U H0 q p ld rd n k x s ts H2 x' s' kvs' ks' rv be :=
  ⟨fun b o nb e => m _ _ (h.kp b o nb e), h.d.same m, h.e1, h.e2, h.l.keep (m _ _ h.l.d) (fun v e hv => m _ _ hv), h.pm, h.lo, h.f, h.su, h.le, h.rs, m _ _ h.rv, m _ _ h.rd, m _ _ h.be⟩
end
noncomputable def upr : List Th → Int
  | [] => 1
  | t :: ts => t.2.2 * upr ts
theorem upr_all {ts : List Th} (h : ∀ t ∈ ts, 1 ≤ t.2.2 ∧ t.2.2 ≤ 1000) : 0 < upr ts ∧ upr ts ≤ 1000 ^ ts.length ∧ ∀ t ∈ ts, t.2.2 ∣ upr ts := by
  induction ts with
  | nil => exact ⟨by decide, by decide, fun t ht => by cases ht⟩
  | cons t ts ih =>
    obtain ⟨i1, i2, i3⟩ := ih fun u hu => h u (List.mem_cons_of_mem _ hu)
    obtain ⟨h1, h2⟩ := h t List.mem_cons_self
    refine ⟨Int.mul_pos (by omega) i1, ?_, fun u hu => ?_⟩
    · show t.2.2 * upr ts ≤ 1000 ^ (ts.length + 1)
      rw [Int.pow_succ, Int.mul_comm (1000 ^ ts.length) 1000]
      exact Int.mul_le_mul h2 i2 (by omega) (by decide)
    · rcases List.mem_cons.mp hu with e | hu
      · rw [e]; exact Int.dvd_mul_right ..
      · exact Int.dvd_trans (i3 u hu) (Int.dvd_mul_left ..)
theorem pow_up (n : Nat) : ∀ k : Nat, (1000 : Int) ^ n ≤ 1000 ^ (n + k) := by
  intro k
  induction k with
  | zero => exact Int.le_refl _
  | succ k ih =>
    rw [← Nat.add_assoc, Int.pow_succ]
    have : (0 : Int) ≤ 1000 ^ (n + k) := Int.pow_nonneg (by decide)
    omega
theorem un_of {ts : List Th} (hl : ts.length ≤ 60) (h : ∀ t ∈ ts, nameB t.1.cps.toList = true ∧ 0 ≤ t.2.1 ∧ t.2.1 ≤ 10 ^ 30 ∧ 1 ≤ t.2.2 ∧ t.2.2 ≤ 1000) : Un (upr ts) ts := by
  obtain ⟨h1, h2, h3⟩ := upr_all (ts := ts) fun t ht => ⟨(h t ht).2.2.2.1, (h t ht).2.2.2.2⟩
  refine ⟨h1, Int.le_trans h2 ?_, fun t ht => ⟨(h t ht).2.2.2.1, (h t ht).2.2.2.2, h3 t ht⟩, fun t ht => ⟨(h t ht).2.1, (h t ht).2.2.1⟩⟩
  have e1 : (1000 : Int) ^ 60 = 10 ^ 180 := by decide +kernel
  rw [← e1]
  have := pow_up ts.length (60 - ts.length)
  rw [show ts.length + (60 - ts.length) = 60 by omega] at this
  exact this
open Classical in
noncomputable def Im (L : List Addr) (H : Hp) : Hp := fun b => if b ∈ L then none else H b
theorem Im.get {L : List Addr} {H : Hp} {b : Addr} {o : HO} (n : b ∉ L) (h : H b = some o) : Im L H b = some o := by unfold Im; rw [if_neg n]; exact h
theorem Im.at {L : List Addr} {H : Hp} {b : Addr} {o : HO} (h : Im L H b = some o) : b ∉ L ∧ H b = some o := by
  unfold Im at h
  split at h
  · cases h
  · rename_i n; exact ⟨n, h⟩
theorem Im.kp {L : List Addr} {H H' : Hp} {b : Addr} {o : HO} (k : Kp L H H') (h : Im L H b = some o) : Im L H' b = some o := by
  obtain ⟨n, e⟩ := Im.at h
  exact Im.get n (k _ _ n e)
theorem Im.same {L : List Addr} {H H' : Hp} (k : Kp L H H') : Same (Im L H) (Im L H') := fun b o h => Im.kp k h
theorem Im.to {L : List Addr} {H : Hp} : Same (Im L H) H := fun b o h => (Im.at h).2
theorem _root_.L2.SqT.im {K : PySem.W.Frag} {H : Hp} {L : List Addr} {a : Addr} {xs : List V} (h : SqT K H a xs) (n : ∀ b ∈ L, ∀ o, H b = some o → (∀ e, o ≠ .tup e) ∧ ∀ o' e, o ≠ .frz o' (.tup e)) : SqT K (Im L H) a xs := by
  rcases h with (h | ⟨o, h⟩) | h
  · exact .inl (.inl (Im.get (fun hb => (n a hb _ h).1 _ rfl) h))
  · exact .inl (.inr ⟨o, Im.get (fun hb => (n a hb _ h).2 _ _ rfl) h⟩)
  · exact .inr h
theorem cut_tk {xs : List V} {n : Nat} : cutV xs none (some (n : Int)) = xs.take n := by
  unfold cutV
  rw [HT.sIx_none, HT.sIx_nat, List.drop_zero, Nat.sub_zero]
  by_cases h : n ≤ xs.length
  · rw [Nat.min_eq_left h]
  · rw [Nat.min_eq_right (by omega), List.take_length, List.take_of_length_le (by omega)]
structure LwI (K : PySem.W.Frag) (C S : Addr) (U : Int) (H8 H : Hp) (q st ld ke be e td al : Addr) (n : Int) (x : DuX) (L : List Addr) (ts : List Th) (as : List Addr) (tks : List (Key × V)) (ys : List Str) (s : DuS) (kvs : List (Key × V)) (ks : List Str) (ws : List Addr) (i : Nat) : Prop where
  sm : Same H8 H
  d : DuAt C U H q st n x s
  eL : ld :: DuM q x = L
  l : LdA H ld U kvs ks s.f
  pm : ks.Perm s.ks
  lo : Low i s
  nm : ∀ y ∈ s.ks, y ∈ ts.map (·.1)
  rl : s.rs.length = i
  kn : ke ∉ L
  be : RtA H be U s.r
  ke : H ke = some (.lst (ws.map V.ref))
  ws : RtsA H ws U s.rs
  e : Im L H e = some (.dK (N20.rmK ts))
  td : Im L H td = some (.dK tks)
  al : Im L H al = some (.lst (ys.map V.str))
  tp : ∀ (j : Nat) (pa : Addr) (t : Th), as[j]? = some pa → ts[j]? = some t → SqT K (Im L H) pa [.str t.1, .int t.2.1, .int t.2.2]
theorem DuAt.newL {C : Addr} {U : Int} {H : Hp} {q p : Addr} {n : Int} {x : DuX} {s : DuS} {ld l : Addr} {u : HO} (h : DuAt C U H q p n x s) (hl : H ld = some u) (hn : H l = none) : l ∉ ld :: DuM q x := fun hm => by
  obtain ⟨dx, fs, ho, _⟩ := h.o
  obtain ⟨kvs, d1, _⟩ := h.dd
  obtain ⟨us, r1, _⟩ := h.rr
  have hm' : l = ld ∨ l = q ∨ l = x.dd ∨ l = x.rr := by simpa [DuM] using hm
  rcases hm' with k | k | k | k <;> rw [k] at hn
  · rw [hl] at hn; cases hn
  · rw [ho] at hn; cases hn
  · rw [d1] at hn; cases hn
  · rw [r1] at hn; cases hn
end N57

set_option Elab.async false
set_option linter.all false
set_option maxRecDepth 100000
set_option maxHeartbeats 4000000

namespace K57
open PySem PySem.Spec PyProof.Rows L2 K03 N1 N5 N4 N6 N12 N32 N41 N14 N20 NQ N57
local macro_rules | `(tactic| walk_at "rd") => `(tactic| simp only [rd_asg, rd_var, rd_c, rd_op, rd_I0, rd_I, rd_U, rd_name, rd_ifS, rd_test, rd_b, rd_ret, rd_retN, rd_next, rd_break, rd_cont, rd_cb, rd_cons, rd_nil, rd_call, rd_not, rd_or, rd_and, rd_andV, rd_orV, rd_notV, rd_if, rd_un, rd_eq, rd_ne, rd_par, rd_tup, rd_lst, rd_never, rd_drop, rd_gcons, rd_gnil, rd_gsub, rd_chain, rd_rng1, rd_rng2, rd_ilist, rd_itup, rd_for', scal, rd_comp, rd_istr, rd_sl, rd_noPart, rd_part, rd_slS, rd_slL, rd_bm, rd_bm0, tyV_str, rd_join, rd_find, rd_split, rd_all, rd_mulS, rd_jnil, rd_jcons, rd_fstr, rd_fmt, rd_fmtR, rd_dnewK, true_implies, false_implies, Bool.false_and, Bool.true_and, Bool.and_true, Bool.and_false, Bool.false_or, Bool.true_or, Bool.or_true, Bool.or_false, rd_eqQ, rd_neQ, rd_methE, rd_makeE, rd_fld, rd_sfld, rd_din, rd_dnotin, rd_dget, rd_dput, rd_gtup, rd_inS, rd_notinS, hasS_one, blk_K, Int.zero_add, Int.toNat_natCast, upd_upd, List.map_cons, List.map_nil, List.getD_cons_zero, List.getD_cons_succ, cxOf_K, List.length_cons, List.length_nil, List.getElem?_cons_zero, List.getElem?_cons_succ, List.set_cons_zero, List.set_cons_succ, Option.some.injEq, V.int.injEq, V.bl.injEq, V.str.injEq, V.ref.injEq, V.ty.injEq, exists_eq_left', exists_eq_left, exists_and_left, exists_eq, exists_eq', List.cons.injEq, and_true, true_and, decide_eq_true_eq, Bool.not_eq_true', decide_eq_false_iff_not, reduceCtorEq, exists_const, Bool.true_eq_false, Bool.false_eq_true, if_true, if_false, ite_true, ite_false, Bool.not_true, Bool.not_false, decide_true, decide_false, Bool.not_not, false_and, and_false, exists_false, false_or, or_false, true_or, or_true, and_assoc, not_true_eq_false, not_false_eq_true, Int.reduceToNat, Nat.reduceAdd, rd_tryV, rd_hclsV, rd_hasV, tryX_K, sui_K, rd_raise, rd_callE, rd_hnil, rd_ends, rd_isiE, exists_eq_right, sp_cell, sp_made, sp_is_name, sp_law, sp_is_whole, sp_within, sp_checkG, sp_initG, sp_has, sp_thingG, sp_roomG, sp32_room, sp32_thing, sp32_check, N41.sp41_asks, sp_putG, sp_castG, rd_listD, rd_values, rd_sumV, rd_remove, rd_dpop1, sp_nms, sp_sinit, sp_lying, sp_holds, sp_left, rd_ienum, rd_izip, sp_mix, sp12_names, rd_items, rd_iview, rd_comp3, rd_popAt, rd_compI, rd_comp2, rd_maxL, rd_maxV, rd_neN, rd_setL, rd_dget1, sp20_stream, sp20_names, sp20_rows, sp20_places, sp20_asks, sp20_rooms, sp20_same, rd_callS, rd_sumL, rd_dget2, rAdd, rd_augN, rd_ipI, rd_isnB, sp41_div, sp41_cost, sp57_ratio, sp57_plus, sp57_minus, sp57_under, sp57_rinit, sp57_init, sp57_owe, sp57_asked, sp57_choice, sp57_gone, sp57_level, sp57_due, sp57_prices, rd_eqN, sp57_rows, sp57_priced, sp57_whole, sp57_shared, sp57_lratio, sp57_lunder, sp57_lsum, sp57_lleast, sp57_not, rd_thaw, rd_idict, sp57_served, sp57_lprices, sp57_ldues])
local macro_rules | `(tactic| walk_at "hp") => `(tactic| first | with_reducible assumption | exact upd_same | (rw [upd_ne (by first | with_reducible assumption | exact ne_of_none (by with_reducible assumption) (by with_reducible assumption))]; first | with_reducible assumption | exact upd_same))
local macro_rules | `(tactic| walk_at "sq") => `(tactic| (repeat' first | with_reducible assumption | exact SqT.of upd_same | exact SqL.of upd_same | refine' Same.tup (Same.new (by with_reducible assumption)) ?_ | refine' Same.seq (Same.new (by with_reducible assumption)) ?_))
local macro_rules | `(tactic| walk_at "isi") => `(tactic| first | exact isi_ii | exact isi_ib | exact isi_bb | exact isi_is | exact isi_ss | exact isi_si | exact isi_sb | exact isi_bi | exact isi_bs | exact isi_ni | exact isi_ns | exact isi_tupt (by walk_at "hp") | exact isi_lstl (by walk_at "hp") | exact isi_tupl (by walk_at "hp") | exact isi_lstt (by walk_at "hp") | exact isi_tups (by walk_at "hp") | exact isi_lsts (by walk_at "hp") | exact isi_tupi (by walk_at "hp") | exact isi_lsti (by walk_at "hp"))
local macro_rules | `(tactic| walk_at "slen") => `(tactic| first | omega | decide +kernel | (refine le_app ?_ ?_ <;> walk_at "slen"))
local macro_rules | `(tactic| walk_at "side") => `(tactic| first | with_reducible assumption | with_reducible exact cdiv_of (by omega) (by omega) | with_reducible exact cpow_of (by decide) (by decide) (by decide) | with_reducible exact cmul_l (by omega) (by omega) | with_reducible exact cmul_r (by omega) (by omega) | omega | decide | decide +kernel | (have := line_val; omega) | (simp only [len_app, len_one, line_val]; omega) | (rw [line_val]; walk_at "slen"; done))
local macro_rules | `(tactic| walk_at "go1") => `(tactic| first | walk_at "rd" | ((with_reducible refine And.intro ?_ ?_); (focus (walk_at "side"; done))) | ((with_reducible apply isi_go); (focus (walk_at "isi"; done))) | ((with_reducible apply ixT_of); (focus (walk_at "sq"; done)); (focus rfl)) | ((with_reducible apply ixL_of); (focus (walk_at "sq"; done)); (focus rfl)) | ((with_reducible apply len_goT); (focus (walk_at "sq"; done))) | ((with_reducible apply len_goL); (focus (walk_at "sq"; done))) | ((with_reducible apply script_go); (focus (walk_at "sq"; done)); (focus (assumption; done))) | ((with_reducible apply cell_go); (focus (walk_at "sq"; done)); (focus (decide; done)); (focus (assumption; done))) | (intro (_ : List (Addr × PySem.Obj)) (_ : PySem.Value → PySem.Shared → Prop)) | with_reducible refine seq_go fun _ _ => ?_ | (refine leaf_go (by with_reducible assumption) ?_; subst_vars))
local macro_rules | `(tactic| walk_at "go") => `(tactic| repeat walk_at "go1")

noncomputable def top (i : Nat) : Stmt := PySem.Challenge.pw_castoff_k57_levels_and_prices.main.body.getD i (.Pass ⟨0, 0, 0, 0⟩)
structure Txt (K : PySem.W.Frag) (mg : Str → Option Value) (xNotThere xCastError xStock xRule xDues : Addr) : Prop where
  c_Stock : mg "Stock" = some (.ref xStock)
  cl_Stock : Cls K xStock
  n_Stock_things : NoAttr K xStock "things"
  c_Rule : mg "Rule" = some (.ref xRule)
  cl_Rule : Cls K xRule
  c_Dues : mg "Dues" = some (.ref xDues)
  cl_Dues : Cls K xDues
  n_Dues_stock : NoAttr K xDues "stock"
  n_Dues_places : NoAttr K xDues "places"
  n_Dues_reached : NoAttr K xDues "reached"
  n_Dues_dues : NoAttr K xDues "dues"
  n_Dues_rises : NoAttr K xDues "rises"
  c_NotThere : mg "NotThere" = some (.ref xNotThere)
  x_NotThere : ExcC K xNotThere
  c_CastError : mg "CastError" = some (.ref xCastError)
  x_CastError : ExcC K xCastError
  m_NotThere_NotThere : PySem.W.exmOne K (.ref xNotThere) (.ref xNotThere) = some true
  z_len : mg "len" = none
  z_isinstance : mg "isinstance" = none
  z_int : mg "int" = none
  z_bool : mg "bool" = none
  z_str : mg "str" = none
  z_list : mg "list" = none
  z_tuple : mg "tuple" = none
  z_all : mg "all" = none
  z_range : mg "range" = none
  z_sum : mg "sum" = none
  z_enumerate : mg "enumerate" = none
  z_zip : mg "zip" = none
  z_max : mg "max" = none
  z_min : mg "min" = none
  z_abs : mg "abs" = none
  g_LETTERS : ∃ t, mg "LETTERS" = some (.str "abcdefghijklmnopqrstuvwxyz" t)
  g_FIGURES : ∃ t, mg "FIGURES" = some (.str "0123456789" t)
  g_MOST_SIGNS : ∃ t, mg "MOST_SIGNS" = some (.int 8 t)
  g_MOST_THINGS : ∃ t, mg "MOST_THINGS" = some (.int 60 t)
  g_MOST_ROOM : ∃ t, mg "MOST_ROOM" = some (.int 1000 t)
  g_MOST_PLACES : ∃ t, mg "MOST_PLACES" = some (.int 1000000 t)
section
variable {P : Program} {w : World} {K : PySem.W.Frag} {mg : Str → Option Value} {base : Heap} {xNotThere xCastError xStock xRule xDues : Addr}
noncomputable abbrev s_made_of : Stmt := top 26
noncomputable abbrev s_is_name : Stmt := top 27
noncomputable abbrev s_is_whole : Stmt := top 10
noncomputable abbrev s_is_within : Stmt := top 11
noncomputable abbrev s_check_places : Stmt := top 19
noncomputable abbrev s_check_thing : Stmt := top 28
noncomputable abbrev s_Stock_init : Stmt := inClass (top 29) 0
noncomputable abbrev s_Stock_thing_of : Stmt := inClass (top 29) 3
noncomputable abbrev s_Stock_room_of : Stmt := inClass (top 29) 6
noncomputable abbrev s_Stock_cost_of : Stmt := inClass (top 29) 5
noncomputable abbrev s_divisor_of : Stmt := top 12
noncomputable abbrev s_ratio_of : Stmt := top 13
noncomputable abbrev s_plus_ratio : Stmt := top 14
noncomputable abbrev s_minus_ratio : Stmt := top 15
noncomputable abbrev s_under_ratio : Stmt := top 16
noncomputable abbrev s_Rule_init : Stmt := inClass (top 31) 0
noncomputable abbrev s_Dues_init : Stmt := inClass (top 33) 0
noncomputable abbrev s_Dues_owe : Stmt := inClass (top 33) 2
noncomputable abbrev s_Dues_asked : Stmt := inClass (top 33) 1
noncomputable abbrev s_Dues_choice : Stmt := inClass (top 33) 3
noncomputable abbrev s_Dues_gone : Stmt := inClass (top 33) 4
noncomputable abbrev s_Dues_came : Stmt := inClass (top 33) 5
noncomputable abbrev s_Dues_level : Stmt := inClass (top 33) 6
noncomputable abbrev s_Dues_due_of : Stmt := inClass (top 33) 7
noncomputable abbrev s_Dues_prices : Stmt := inClass (top 33) 8
noncomputable abbrev s_l_cell : Stmt := top 35
noncomputable abbrev s_l_stream : Stmt := top 36
noncomputable abbrev s_l_names : Stmt := top 37
noncomputable abbrev s_l_rows : Stmt := top 38
noncomputable abbrev s_l_places : Stmt := top 39
noncomputable abbrev s_l_asks : Stmt := top 40
noncomputable abbrev s_l_rooms : Stmt := top 41
noncomputable abbrev s_l_priced : Stmt := top 42
noncomputable abbrev s_l_whole : Stmt := top 43
noncomputable abbrev s_l_shared : Stmt := top 44
noncomputable abbrev s_l_ratio : Stmt := top 45
noncomputable abbrev s_l_under : Stmt := top 46
noncomputable abbrev s_l_sum : Stmt := top 47
noncomputable abbrev s_l_least : Stmt := top 48
noncomputable abbrev s_l_not_there : Stmt := top 49
noncomputable abbrev s_l_served : Stmt := top 50
noncomputable abbrev s_l_prices : Stmt := top 51
noncomputable abbrev s_l_dues : Stmt := top 52
noncomputable abbrev s_law : Stmt := top 53
theorem ok_made_of {f : Addr} {fd : FuncData} (F : Fun K "made_of" "made_of" s_made_of f fd) (T : Txt K mg xNotThere xCastError xStock xRule xDues)  : FnOk P w K mg base (CXE P w) 1 f fd ["text", "signs"] (sp_made) := by
  have sc : FnScope ["text", "signs"] ["text", "signs"] (defScope s_made_of) := ⟨rfl, rfl, rfl, by decide +kernel, rfl, by decide +kernel, by decide +kernel⟩
  refine F.okE sc (fun vs H Q E h => ?_) (fun cdv A outer s H vs Q E hr h => ?_)
  · obtain ⟨z, w, rfl, hz, q⟩ := h; rfl
  obtain ⟨z, w, rfl, hz, q⟩ := h
  refine ⟨_, (@pss_one _ _ _ (@ps_ret _ _ _ _ (pe_callB (call_all rfl) rfl T.z_all (by first | rfl | decide +kernel) (pa_cons (pe_comp1 "sign" [1] rfl rfl (pi_str (pv 0)) (fun b => (pe_cmpR op_inS (pv 0) (pv 1) (by with_unfolding_all rfl)))) pa_nil)))), ?_⟩
  rw [show start ["text", "signs"] [V.str z, V.str w] = [some (V.str z), some (V.str w)] from rfl]
  walk_at "go"
  refine compS_pure (fun c => V.bl (decide (c ∈ w.cps.toList))) hz (fun b c H' Q' hc sm q' => ?_) fun D hD => ?_
  · walk_at "go"
    exact q'
  · refine ⟨_, rfl, z.cps.toList.map fun c => decide (c ∈ w.cps.toList), ?_, ?_⟩
    · rw [List.map_map]; exact SqL.of upd_same
    · rw [List.all_map]; exact q _ (Same.new hD)
theorem ok_is_name {f : Addr} {fd : FuncData} (F : Fun K "is_name" "is_name" s_is_name f fd) (T : Txt K mg xNotThere xCastError xStock xRule xDues) (D_made_of : Def P w K mg base (CXE P w) 1 "made_of" ["text", "signs"] (sp_made)) : FnOk P w K mg base (CXE P w) 2 f fd ["thing"] (sp_is_name K) := by
  have sc : FnScope ["thing"] ["thing"] (defScope s_is_name) := ⟨rfl, rfl, rfl, by decide +kernel, rfl, by decide +kernel, by decide +kernel⟩
  refine F.okE sc (fun vs H Q E h => ?_) (fun cdv A outer s H vs Q E hr h => ?_)
  · obtain ⟨x, rfl, hx⟩ := h; rfl
  obtain ⟨x, rfl, hx⟩ := h
  refine ⟨_, (@pss_cons _ _ _ _ _ (ps_if (pt_not (pt_val (pe_callB call_isinst rfl T.z_isinstance (by first | rfl | decide +kernel) (pa_cons (pv 0) (pa_cons (pe_bltn (v := .ty "str") rfl T.z_str (by first | rfl | decide +kernel) rfl) pa_nil)))))
      (@pss_one _ _ _ (@ps_ret _ _ _ _ pe_bl))
      pss_nil)
    (@pss_cons _ _ _ _ _ (ps_if (PW.pt (pw_or (pt_cmpR op_lt (pe_callB call_len_str rfl T.z_len PySem.boot_len (pa_cons (pv 0) pa_nil)) pe_int (nomark _)) (pw_or1 (pt_cmpR op_gt (pe_callB call_len_str rfl T.z_len PySem.boot_len (pa_cons (pv 0) pa_nil)) (pe_gint rfl T.g_MOST_SIGNS) (nomark _)))))
      (@pss_one _ _ _ (@ps_ret _ _ _ _ pe_bl))
      pss_nil)
    (@pss_one _ _ _ (@ps_ret _ _ _ _ (pe_and (pe_cmpR op_inS (@pe_ix _ _ _ _ _ _ _ ix_str (pv 0) pe_int (fun _ _ => rfl)) (pe_gstr rfl T.g_LETTERS) (by with_unfolding_all rfl)) (pe_one (pe_callD D_made_of hr rfl pass_on (pa_cons (pv 0) (pa_cons (pe_op op_add_str (pe_gstr rfl T.g_LETTERS) (pe_gstr rfl T.g_FIGURES)) pa_nil))))))))), ?_⟩
  rw [show start ["thing"] [x] = [some (x)] from rfl]
  rcases hx with ⟨z, rfl, hz, q⟩ | ⟨hi, q⟩
  · walk_at "go"
    have hl := str_len (z := z)
    split
    · rename_i h1
      have e : nameB z.cps.toList = false := by unfold nameB; rw [decide_eq_false (show ¬ 1 ≤ z.cps.toList.length by omega)]; rfl
      rw [e] at q; exact q _ (Same.refl H)
    · rename_i h1
      refine ⟨hz, ?_⟩
      split
      · have e : nameB z.cps.toList = false := by unfold nameB; rw [decide_eq_false (show ¬ z.cps.toList.length ≤ 8 by omega), Bool.and_false]; rfl
        rw [e] at q; exact q _ (Same.refl H)
      · rename_i h2
        obtain ⟨c, r, hcr⟩ : ∃ c r, z.cps.toList = c :: r := by
          cases h : z.cps.toList with
          | nil => rw [h] at hl; simp at hl; omega
          | cons c r => exact ⟨c, r, rfl⟩
        have hn : nameB z.cps.toList = (decide (c ∈ letters) && z.cps.toList.all fun c => decide (c ∈ letters ++ figures)) := by
          unfold nameB; rw [decide_eq_true (show 1 ≤ z.cps.toList.length by omega), decide_eq_true (show z.cps.toList.length ≤ 8 by omega)]; rw [hcr]; rfl
        rw [hn] at q
        walk_at "go"
        refine ixS_of hz (by rw [hcr]; exact at_0) ?_
        walk_at "go"
        rw [let_list]
        split
        · rename_i hc
          rw [decide_eq_true hc, Bool.true_and] at q
          walk_at "go"
          rw [app_list, let_list, fig_list]
          exact q
        · rename_i hc
          rw [decide_eq_false hc, Bool.false_and] at q
          exact q _ (Same.refl H)
  · walk_at "go"
    refine ⟨_, hi, ?_⟩
    walk_at "go"
    exact q
theorem ok_is_whole {f : Addr} {fd : FuncData} (F : Fun K "is_whole" "is_whole" s_is_whole f fd) (T : Txt K mg xNotThere xCastError xStock xRule xDues)  : FnOk P w K mg base (CXE P w) 1 f fd ["thing"] (sp_is_whole K) := by
  have sc : FnScope ["thing"] ["thing"] (defScope s_is_whole) := ⟨rfl, rfl, rfl, by decide +kernel, rfl, by decide +kernel, by decide +kernel⟩
  refine F.okE sc (fun vs H Q E h => ?_) (fun cdv A outer s H vs Q E hr h => ?_)
  · obtain ⟨x, b, c, rfl, h1, h2, q⟩ := h; rfl
  obtain ⟨x, b, c, rfl, h1, h2, q⟩ := h
  refine ⟨_, (@pss_one _ _ _ (@ps_ret _ _ _ _ (pe_and (pe_callB call_isinst rfl T.z_isinstance (by first | rfl | decide +kernel) (pa_cons (pv 0) (pa_cons (pe_bltn (v := .ty "int") rfl T.z_int (by first | rfl | decide +kernel) rfl) pa_nil))) (pe_one (pe_not (pe_callB call_isinst rfl T.z_isinstance (by first | rfl | decide +kernel) (pa_cons (pv 0) (pa_cons (pe_bltn (v := .ty "bool") rfl T.z_bool (by first | rfl | decide +kernel) rfl) pa_nil)))))))), ?_⟩
  rw [show start ["thing"] [x] = [some (x)] from rfl]
  walk_at "go"
  refine ⟨_, h1, ?_⟩
  cases b
  · walk_at "go"
    exact q
  · walk_at "go"
    refine ⟨_, h2 rfl, ?_⟩
    walk_at "go"
    exact q
theorem ok_is_within {f : Addr} {fd : FuncData} (F : Fun K "is_within" "is_within" s_is_within f fd) (T : Txt K mg xNotThere xCastError xStock xRule xDues) (D_is_whole : Def P w K mg base (CXE P w) 1 "is_whole" ["thing"] (sp_is_whole K)) : FnOk P w K mg base (CXE P w) 2 f fd ["thing", "least", "most"] (sp_within K) := by
  have sc : FnScope ["thing", "least", "most"] ["thing", "least", "most"] (defScope s_is_within) := ⟨rfl, rfl, rfl, by decide +kernel, rfl, by decide +kernel, by decide +kernel⟩
  refine F.okE sc (fun vs H Q E h => ?_) (fun cdv A outer s H vs Q E hr h => ?_)
  · obtain ⟨v, lo, hi, rfl, hv, q⟩ := h; rfl
  obtain ⟨v, lo, hi, rfl, hv, q⟩ := h
  refine ⟨_, (@pss_one _ _ _ (@ps_ret _ _ _ _ (pe_and (pe_callD D_is_whole hr rfl pass_on (pa_cons (pv 0) pa_nil)) (pe_one (pe_chain op_le op_le (pv 1) (pv 0) (pv 2)))))), ?_⟩
  rw [show start ["thing", "least", "most"] [v, V.int lo, V.int hi] = [some (v), some (V.int lo), some (V.int hi)] from rfl]
  obtain ⟨b, c, h1, h2, h3, h4⟩ := num_isi (K := K) (H := H) hv
  walk_at "go"
  refine ⟨b, h1, c, h2, ?_⟩
  split
  · rename_i h
    obtain ⟨i, rfl⟩ := h3 h
    simp only [wIn] at q
    walk_at "go"
    split
    · rename_i h'
      rw [decide_eq_true h', Bool.true_and] at q; exact q
    · rename_i h'
      rw [decide_eq_false h', Bool.false_and] at q; exact q
  · rename_i h
    have e : wIn lo hi v = false := by
      cases v with
      | int i => exact absurd rfl (h4 (by simpa using h) i)
      | _ => rfl
    rw [e] at q; exact q
theorem ok_check_places {f : Addr} {fd : FuncData} (F : Fun K "check_places" "check_places" s_check_places f fd) (T : Txt K mg xNotThere xCastError xStock xRule xDues) (D_is_within : Def P w K mg base (CXE P w) 2 "is_within" ["thing", "least", "most"] (sp_within K)) : FnOk P w K mg base (CXE P w) 3 f fd ["places"] (sp32_check) := by
  have sc : FnScope ["places"] ["places"] (defScope s_check_places) := ⟨rfl, rfl, rfl, by decide +kernel, rfl, by decide +kernel, by decide +kernel⟩
  refine F.okE sc (fun vs H Q E h => ?_) (fun cdv A outer s H vs Q E hr h => ?_)
  · obtain ⟨i, rfl, h1, h2, q⟩ := h; rfl
  obtain ⟨i, rfl, h1, h2, q⟩ := h
  refine ⟨_, (@pss_one _ _ _ (ps_if (pt_not (pt_val (pe_callD D_is_within hr rfl pass_on (pa_cons (pv 0) (pa_cons pe_int (pa_cons (pe_gint rfl T.g_MOST_PLACES) pa_nil))))))
      (@pss_one _ _ _ ps_never)
      pss_nil)), ?_⟩
  rw [show start ["places"] [V.int i] = [some (V.int i)] from rfl]
  walk_at "go"
  rw [if_neg (by rw [wIn_ok h1 h2]; decide)]
  exact ⟨rfl, q⟩
theorem ok_check_thing {f : Addr} {fd : FuncData} (F : Fun K "check_thing" "check_thing" s_check_thing f fd) (T : Txt K mg xNotThere xCastError xStock xRule xDues) (D_is_name : Def P w K mg base (CXE P w) 2 "is_name" ["thing"] (sp_is_name K)) (D_is_within : Def P w K mg base (CXE P w) 2 "is_within" ["thing", "least", "most"] (sp_within K)) : FnOk P w K mg base (CXE P w) 3 f fd ["name", "cost", "room", "earlier"] (sp_checkG K) := by
  have sc : FnScope ["name", "cost", "room", "earlier"] ["name", "cost", "room", "earlier"] (defScope s_check_thing) := ⟨rfl, rfl, rfl, by decide +kernel, rfl, by decide +kernel, by decide +kernel⟩
  refine F.okE sc (fun vs H Q E h => ?_) (fun cdv A outer s H vs Q E hr h => ?_)
  · obtain ⟨n, co, r, e, kvs, ks, rfl, he, hk, hrow, q⟩ := h; rfl
  obtain ⟨n, co, r, e, kvs, ks, rfl, he, hk, hrow, q⟩ := h
  refine ⟨_, (@pss_cons _ _ _ _ _ (ps_if (pt_not (pt_val (pe_callD D_is_name hr rfl pass_on (pa_cons (pv 0) pa_nil))))
      (@pss_one _ _ _ ps_never)
      pss_nil)
    (@pss_cons _ _ _ _ _ (ps_if (pt_cmp (pc_din (hu_of hr) (pv 0) (pv 3)))
      (@pss_one _ _ _ ps_never)
      pss_nil)
    (@pss_cons _ _ _ _ _ (ps_if (pt_not (pt_val (pe_callD D_is_within hr rfl pass_on (pa_cons (pv 1) (pa_cons pe_int (pa_cons (pe_op op_pow pe_int pe_int) pa_nil))))))
      (@pss_one _ _ _ ps_never)
      pss_nil)
    (@pss_one _ _ _ (ps_if (pt_not (pt_val (pe_callD D_is_within hr rfl pass_on (pa_cons (pv 2) (pa_cons pe_int (pa_cons (pe_gint rfl T.g_MOST_ROOM) pa_nil))))))
      (@pss_one _ _ _ ps_never)
      pss_nil))))), ?_⟩
  rw [show start ["name", "cost", "room", "earlier"] [n, co, r, V.ref e] = [some (n), some (co), some (r), some (V.ref e)] from rfl]
  obtain ⟨z, c, w, rfl, rfl, rfl, nz, hb, h1, h2, h3, h4⟩ := rowR_none hrow
  have line := line_val
  have hz8 := name_len hb
  walk_at "go"
  intro H1 sm1
  rw [hb]
  have he1 := sm1 _ _ he
  walk_at "go"
  refine ⟨_, DGet.k (k := Sum.inr z) he1, ?_⟩
  rw [key_mem hk, decide_eq_false nz]
  walk_at "go"
  refine ⟨rfl, ?_⟩
  split
  · rename_i h
    exact absurd h (by rw [wIn_ok h1 h2]; decide)
  · walk_at "go"
    refine ⟨rfl, ?_⟩
    split
    · rename_i h
      exact absurd h (by rw [wIn_ok h3 h4]; decide)
    · walk_at "go"
      exact q _ sm1
theorem ok_Stock_init {f : Addr} {fd : FuncData} (F : Fun K "__init__" "Stock.__init__" s_Stock_init f fd) (T : Txt K mg xNotThere xCastError xStock xRule xDues) (D_check_thing : Def P w K mg base (CXE P w) 3 "check_thing" ["name", "cost", "room", "earlier"] (sp_checkG K)) : FnOk P w K mg base (CXE P w) 4 f fd ["self", "rows"] (sp_initG K xStock) := by
  have sc : FnScope ["self", "rows", "name", "cost", "room"] ["self", "rows"] (defScope s_Stock_init) := ⟨rfl, rfl, rfl, by decide +kernel, rfl, by decide +kernel, by decide +kernel⟩
  refine F.okE sc (fun vs H Q E h => ?_) (fun cdv A outer s H vs Q E hr h => ?_)
  · obtain ⟨p, dx, ra, rs, rfl, hp, hrs, hall, er, q⟩ := h; rfl
  obtain ⟨p, dx, ra, rs, rfl, hp, hrs, hall, er, q⟩ := h
  refine ⟨_, (@pss_cons _ _ _ _ _ (ps_if (pt_cmpR op_gt (pe_callB call_len_seq rfl T.z_len PySem.boot_len (pa_cons (pv 1) pa_nil)) (pe_gint rfl T.g_MOST_THINGS) (nomark _))
      (@pss_one _ _ _ ps_never)
      pss_nil)
    (@pss_cons _ _ _ _ _ (ps_fld (pv 0) pe_dnewK rfl)
    (@pss_one _ _ _ (ps_for own_out rfl (pi_list (pv 1)) (pg_tup rfl (pgs_cons (pg_name (i := 2) sc.nd rfl (Or.inl rfl)) (pgs_cons (pg_name (i := 3) sc.nd rfl (Or.inl rfl)) (pgs_cons (pg_name (i := 4) sc.nd rfl (Or.inl rfl)) pgs_nil))))
      (@pss_cons _ _ _ _ _ (ps_expr (pe_callD D_check_thing hr rfl pass_on (pa_cons (pv 2) (pa_cons (pv 3) (pa_cons (pv 4) (pa_cons (pe_fld (pv 0) rfl) pa_nil))))))
      (@pss_one _ _ _ (ps_dput (hu_of hr) (pe_fld (pv 0) rfl) (pv 2) (pe_tup (pa_cons (pe_callB call_lenD rfl T.z_len PySem.boot_len (pa_cons (pe_fld (pv 0) rfl) pa_nil)) (pa_cons (pv 3) (pa_cons (pv 4) pa_nil)))) rfl))))))), ?_⟩
  rw [show start ["self", "rows", "name", "cost", "room"] [V.ref p, V.ref ra] = [some (V.ref p), some (V.ref ra), none, none, none] from rfl]
  have line := line_val
  obtain ⟨hl60, hstk⟩ := initR_none er
  walk_at "go"
  rw [List.length_map]
  split
  · rename_i h
    exact absurd h (by omega)
  · rename_i h
    walk_at "go"
    intro d hd
    have npd : p ≠ d := ne_of_none hp hd
    walk_at "go"
    refine ⟨xStock, dx, [], by rw [upd_ne npd]; exact hp, T.cl_Stock, T.n_Stock_things, by decide, ?_⟩
    have sb0 : SameBut p H (upd (upd H d (.dK [])) p (.ins xStock dx (flds d))) := fun b o e n => by rw [upd_ne n, upd_ne (ne_of_none e hd)]; exact e
    have hp0 : upd (upd H d (.dK [])) p (.ins xStock dx (flds d)) p = some (.ins xStock dx (flds d)) := upd_same
    have hd0 : upd (upd H d (.dK [])) p (.ins xStock dx (flds d)) d = some (.dK []) := by rw [upd_ne npd.symm, upd_same]
    unfold flds at sb0 hp0 hd0
    generalize upd (upd H d (HO.dK [])) p (HO.ins xStock dx (putF (Str.ofString "things") (V.ref d) [])) = H0 at sb0 hp0 hd0 ⊢
    walk_at "go"
    refine ⟨⟨_, SqL.but sb0 hp hrs⟩, ?_⟩
    refine forL_by (xs := rs.map fun t => V.ref t.1) (fun i σ H' => ∃ v1 v2 v3, σ = [some (V.ref p), some (V.ref ra), v1, v2, v3] ∧ SameBut p H H' ∧ H' p = some (.ins xStock dx (flds d)) ∧ MidAt K H' d (rs.take i) ∧ stockR (nmsOf (rs.take i)) (rs.drop i) = none) ⟨none, none, none, rfl, sb0, hp0, ⟨[], hd0, rfl, fun j t e => by simp at e⟩, by rw [List.take_zero, List.drop_zero]; exact hstk⟩ (fun i σ H' _ h_ => by obtain ⟨v1, v2, v3, _, sb, _⟩ := h_; exact SqL.but sb hp hrs) ?_ ?_
    · rintro i x σ H' hx ⟨v1, v2, v3, rfl, sb, hp', ⟨kvs, hd', hk, hm⟩, hst⟩
      rw [List.getElem?_map] at hx
      cases ht : rs[i]? with
      | none => rw [ht] at hx; cases hx
      | some t =>
        rw [ht] at hx
        simp only [Option.map_some, Option.some.injEq] at hx
        subst hx
        have hi : i < rs.length := (List.getElem?_eq_some_iff.mp ht).1
        have r1 := SqT.but sb hp (hall t (List.mem_of_getElem? ht))
        rw [stockR_step ht] at hst
        have hkl : kvs.length = i := by
          have := congrArg List.length hk
          simp [nmsOf] at this; omega
        cases hrow : rowR (nmsOf (rs.take i)) t.2.1 t.2.2.1 t.2.2.2 with
        | some e => rw [hrow] at hst; cases hst
        | none =>
          rw [hrow] at hst
          obtain ⟨z, c, q', e1, e2, e3, nz, hb, _⟩ := rowR_none hrow
          walk_at "go"
          refine ⟨_, r1, rfl, ?_⟩
          walk_at "go"
          refine ⟨xStock, dx, flds d, hp', T.cl_Stock, T.n_Stock_things, _, flds_things, d, rfl, kvs, hd', _, hk, hrow, fun H1 sm1 => ?_⟩
          rw [e1, e2, e3]
          have hp1 := sm1 _ _ hp'
          have hd1 := sm1 _ _ hd'
          walk_at "go"
          refine ⟨xStock, dx, flds d, hp1, T.cl_Stock, T.n_Stock_things, _, flds_things, ?_⟩
          walk_at "go"
          refine ⟨kvs, hd1, by omega, fun t2 ht2 => ?_⟩
          have np2 : p ≠ t2 := ne_of_none hp1 ht2
          have nd2 : d ≠ t2 := ne_of_none hd1 ht2
          have hd2 : upd H1 t2 (.tup [.int kvs.length, .int c, .int q']) d = some (.dK kvs) := by rw [upd_ne nd2]; exact hd1
          refine ⟨xStock, dx, flds d, by rw [upd_ne np2]; exact hp1, T.cl_Stock, T.n_Stock_things, _, flds_things, d, rfl, _, DPut.k (k := Sum.inr z) hd2 (by omega), ?_, ?_, ?_, ?_⟩
          · intro b o eb nb
            have h1 := sm1 _ _ (sb b o eb nb)
            rw [upd_ne (ne_of_none eb hd), upd_ne (ne_of_none h1 ht2)]
            exact h1
          · rw [upd_ne npd, upd_ne np2]; exact hp1
          · rw [List.take_add_one, ht]
            refine MidAt.snoc hd2 hk (fun j t' e => ?_) e1 e2 e3 nz upd_same
            obtain ⟨a, q1, q2⟩ := hm j t' e
            exact ⟨a, q1, (sm1.trans (Same.new ht2)).tup q2⟩
          · rw [List.take_add_one, ht]
            have e : nmsOf (rs.take kvs.length ++ (some t).toList) = nmsOf (rs.take kvs.length) ++ [sOf t.2.1] := by unfold nmsOf; simp
            rw [e]; exact hst
    · rintro σ H' ⟨v1, v2, v3, rfl, sb, hp', ⟨kvs, hd', hk, hm⟩, hst⟩
      simp only [List.length_map, List.take_length, List.drop_length] at hk hm hst
      show Q V.non H'
      refine q _ sb ⟨dx, d, kvs, hp', hd', ?_, fun i t ht => ?_⟩
      · rw [hk]; unfold nmsOf; rw [List.map_map, List.map_map]; rfl
      · rw [List.getElem?_map] at ht
        cases hr : rs[i]? with
        | none => rw [hr] at ht; cases ht
        | some t' =>
          rw [hr] at ht
          simp only [Option.map_some, Option.some.injEq] at ht
          subst ht
          exact hm i t' hr
theorem ok_Stock_thing_of {f : Addr} {fd : FuncData} (F : Fun K "thing_of" "Stock.thing_of" s_Stock_thing_of f fd) (T : Txt K mg xNotThere xCastError xStock xRule xDues)  : FnOk P w K mg base (CXE P w) 1 f fd ["self", "name"] (sp32_thing K xStock) := by
  have sc : FnScope ["self", "name"] ["self", "name"] (defScope s_Stock_thing_of) := ⟨rfl, rfl, rfl, by decide +kernel, rfl, by decide +kernel, by decide +kernel⟩
  refine F.okE sc (fun vs H Q E h => ?_) (fun cdv A outer s H vs Q E hr h => ?_)
  · obtain ⟨p, ts, z, rfl, hs, nd, hz, q⟩ := h; rfl
  obtain ⟨p, ts, z, rfl, hs, nd, hz, q⟩ := h
  refine ⟨_, (@pss_cons _ _ _ _ _ (ps_if (pt_cmp (pc_dnotin (hu_of hr) (pv 1) (pe_fld (pv 0) rfl)))
      (@pss_one _ _ _ ps_never)
      pss_nil)
    (@pss_one _ _ _ (@ps_ret _ _ _ _ (pe_dget (hu_of hr) (pe_fld (pv 0) rfl) (pv 1) (fun _ _ => rfl))))), ?_⟩
  rw [show start ["self", "name"] [V.ref p, V.str z] = [some (V.ref p), some (V.str z)] from rfl]
  obtain ⟨dx, d, kvs, h1, h2, h3, h4, h5⟩ := StockAt.has hs
  have line := line_val
  walk_at "go"
  refine ⟨xStock, dx, flds d, h1, T.cl_Stock, T.n_Stock_things, _, flds_things, d, rfl, _, DGet.k (k := Sum.inr z) h2, ?_⟩
  rw [h4, decide_eq_true hz]
  obtain ⟨i, t, ht, rfl⟩ := mem_nth hz
  obtain ⟨a, e1, e2⟩ := h5 nd i t ht
  walk_at "go"
  refine ⟨xStock, dx, flds d, h1, T.cl_Stock, T.n_Stock_things, _, flds_things, ?_⟩
  walk_at "go"
  refine ⟨V.ref a, by rw [← e1]; exact DGet.k (k := Sum.inr t.1) h2, ?_⟩
  exact q i t ht rfl a e2
theorem ok_Stock_room_of {f : Addr} {fd : FuncData} (F : Fun K "room_of" "Stock.room_of" s_Stock_room_of f fd) (T : Txt K mg xNotThere xCastError xStock xRule xDues) (D_Stock_thing_of : DefM P w K mg base (CXE P w) 1 xStock "thing_of" ["self", "name"] (sp32_thing K xStock)) : FnOk P w K mg base (CXE P w) 2 f fd ["self", "name"] (sp32_room K xStock) := by
  have sc : FnScope ["self", "name"] ["self", "name"] (defScope s_Stock_room_of) := ⟨rfl, rfl, rfl, by decide +kernel, rfl, by decide +kernel, by decide +kernel⟩
  refine F.okE sc (fun vs H Q E h => ?_) (fun cdv A outer s H vs Q E hr h => ?_)
  · obtain ⟨p, ts, z, rfl, hs, nd, hz, q⟩ := h; rfl
  obtain ⟨p, ts, z, rfl, hs, nd, hz, q⟩ := h
  refine ⟨_, (@pss_one _ _ _ (@ps_ret _ _ _ _ (@pe_ix _ _ _ _ _ _ _ ix_tup (pe_methS D_Stock_thing_of T.cl_Stock hr (passS pass_on) (pv 0) (pa_cons (pv 1) pa_nil)) pe_int (fun _ _ => rfl)))), ?_⟩
  rw [show start ["self", "name"] [V.ref p, V.str z] = [some (V.ref p), some (V.str z)] from rfl]
  obtain ⟨dx, d, kvs, h1, h2, h3, h4, h5⟩ := StockAt.has hs
  walk_at "go"
  refine ⟨dx, flds d, h1, by rfl, ?_⟩
  walk_at "go"
  refine ⟨ts, hs, nd, hz, fun i t ht e a ha => ?_⟩
  subst e
  refine ixT_of ha rfl ?_
  rw [rm_at nd ht] at q
  exact q
theorem ok_Stock_cost_of {f : Addr} {fd : FuncData} (F : Fun K "cost_of" "Stock.cost_of" s_Stock_cost_of f fd) (T : Txt K mg xNotThere xCastError xStock xRule xDues) (D_Stock_thing_of : DefM P w K mg base (CXE P w) 1 xStock "thing_of" ["self", "name"] (sp32_thing K xStock)) : FnOk P w K mg base (CXE P w) 2 f fd ["self", "name"] (sp41_cost K xStock) := by
  have sc : FnScope ["self", "name"] ["self", "name"] (defScope s_Stock_cost_of) := ⟨rfl, rfl, rfl, by decide +kernel, rfl, by decide +kernel, by decide +kernel⟩
  refine F.okE sc (fun vs H Q E h => ?_) (fun cdv A outer s H vs Q E hr h => ?_)
  · obtain ⟨p, ts, z, rfl, hs, nd, hz, q⟩ := h; rfl
  obtain ⟨p, ts, z, rfl, hs, nd, hz, q⟩ := h
  refine ⟨_, (@pss_one _ _ _ (@ps_ret _ _ _ _ (@pe_ix _ _ _ _ _ _ _ ix_tup (pe_methS D_Stock_thing_of T.cl_Stock hr (passS pass_on) (pv 0) (pa_cons (pv 1) pa_nil)) pe_int (fun _ _ => rfl)))), ?_⟩
  rw [show start ["self", "name"] [V.ref p, V.str z] = [some (V.ref p), some (V.str z)] from rfl]
  obtain ⟨dx, d, kvs, h1, h2, h3, h4, h5⟩ := StockAt.has hs
  walk_at "go"
  refine ⟨dx, flds d, h1, by rfl, ?_⟩
  walk_at "go"
  refine ⟨ts, hs, nd, hz, fun i t ht e a ha => ?_⟩
  subst e
  refine ixT_of ha rfl ?_
  rw [cst_at nd ht] at q
  exact q
theorem ok_divisor_of {f : Addr} {fd : FuncData} (F : Fun K "divisor_of" "divisor_of" s_divisor_of f fd) (T : Txt K mg xNotThere xCastError xStock xRule xDues)  : FnOk P w K mg base (CXE P w) 1 f fd ["one", "other"] (sp41_div) := by
  have sc : FnScope ["one", "other", "greater", "lesser", "rest"] ["one", "other"] (defScope s_divisor_of) := ⟨rfl, rfl, rfl, by decide +kernel, rfl, by decide +kernel, by decide +kernel⟩
  refine F.okE sc (fun vs H Q E h => ?_) (fun cdv A outer s H vs Q E hr h => ?_)
  · obtain ⟨i, j, rfl, q⟩ := h; rfl
  obtain ⟨i, j, rfl, q⟩ := h
  refine ⟨_, (@pss_cons _ _ _ _ _ (ps_set (i := 2) sc.nd rfl (Or.inl rfl) (pe_callB call_abs rfl T.z_abs (by first | rfl | decide +kernel) (pa_cons (pv 0) pa_nil)))
    (@pss_cons _ _ _ _ _ (ps_set (i := 3) sc.nd rfl (Or.inl rfl) (pe_callB call_abs rfl T.z_abs (by first | rfl | decide +kernel) (pa_cons (pv 1) pa_nil)))
    (@pss_cons _ _ _ _ _ (ps_while own_out (pt_cmpR op_ne (pv 3) pe_int (nomark _))
      (@pss_cons _ _ _ _ _ (ps_set (i := 4) sc.nd rfl (Or.inl rfl) (pe_op op_mod (pv 2) (pv 3)))
      (@pss_cons _ _ _ _ _ (ps_set (i := 2) sc.nd rfl (Or.inl rfl) (pv 3))
      (@pss_one _ _ _ (ps_set (i := 3) sc.nd rfl (Or.inl rfl) (pv 4))))))
    (@pss_one _ _ _ (@ps_ret _ _ _ _ (pv 2)))))), ?_⟩
  rw [show start ["one", "other", "greater", "lesser", "rest"] [V.int i, V.int j] = [some (V.int i), some (V.int j), none, none, none] from rfl]
  walk_at "go"
  refine while_d (m0 := (if j < 0 then -j else j).toNat) (fun m σ H' => ∃ (x y : Int) (r : Option V), σ = [some (V.int i), some (V.int j), some (V.int x), some (V.int y), r] ∧ H' = H ∧ 0 ≤ x ∧ 0 ≤ y ∧ m = y.toNat ∧ Int.gcd x y = Int.gcd i j) ⟨_, _, _, rfl, rfl, by split <;> omega, by split <;> omega, rfl, gcd_abs i j⟩ ?_
  rintro m σ H' ⟨x, y, r, rfl, rfl, hx, hy, rfl, hg⟩
  walk_at "go"
  split
  · rename_i hy0
    refine ⟨fun σ' H'' => ∃ m', m' < y.toNat ∧ ∃ (x y : Int) (r : Option V), σ' = [some (V.int i), some (V.int j), some (V.int x), some (V.int y), r] ∧ H'' = H' ∧ 0 ≤ x ∧ 0 ≤ y ∧ m' = y.toNat ∧ Int.gcd x y = Int.gcd i j, fun _ _ h => h, ?_⟩
    have hp : 0 < y := by omega
    walk_at "go"
    have h1 := Int.emod_nonneg x (show y ≠ 0 by omega)
    have h2 := Int.emod_lt_of_pos x hp
    exact ⟨(x % y).toNat, by omega, by omega, h1, rfl, gcd_step hx hp hg⟩
  · rename_i hy0
    have hy0 : y = 0 := by omega
    subst hy0
    walk_at "go"
    have hh := gcd_zero_right' hx
    rw [hg] at hh
    rw [← hh]; exact q
theorem ok_ratio_of {f : Addr} {fd : FuncData} (F : Fun K "ratio_of" "ratio_of" s_ratio_of f fd) (T : Txt K mg xNotThere xCastError xStock xRule xDues) (D_divisor_of : Def P w K mg base (CXE P w) 1 "divisor_of" ["one", "other"] (sp41_div)) : FnOk P w K mg base (CXE P w) 2 f fd ["top", "bottom"] (sp57_ratio) := by
  have sc : FnScope ["top", "bottom", "divisor"] ["top", "bottom"] (defScope s_ratio_of) := ⟨rfl, rfl, rfl, by decide +kernel, rfl, by decide +kernel, by decide +kernel⟩
  refine F.okE sc (fun vs H Q E h => ?_) (fun cdv A outer s H vs Q E hr h => ?_)
  · obtain ⟨i, j, rfl, hj, hb, q⟩ := h; rfl
  obtain ⟨i, j, rfl, hj, hb, q⟩ := h
  refine ⟨_, (@pss_cons _ _ _ _ _ (ps_if (pt_cmpR op_eq (pv 1) pe_int (nomark _))
      (@pss_one _ _ _ ps_never)
      pss_nil)
    (@pss_cons _ _ _ _ _ (ps_set (i := 2) sc.nd rfl (Or.inl rfl) (pe_callD D_divisor_of hr rfl pass_on (pa_cons (pv 0) (pa_cons (pv 1) pa_nil))))
    (@pss_cons _ _ _ _ _ (ps_if (pt_cmpR op_lt (pv 1) pe_int (nomark _))
      (@pss_one _ _ _ (ps_set (i := 2) sc.nd rfl (Or.inl rfl) (pe_op op_sub pe_int (pv 2))))
      pss_nil)
    (@pss_one _ _ _ (@ps_ret _ _ _ _ (pe_tup (pa_cons (pe_op op_fdivH (pv 0) (pv 2)) (pa_cons (pe_op op_fdivH (pv 1) (pv 2)) pa_nil)))))))), ?_⟩
  rw [show start ["top", "bottom", "divisor"] [V.int i, V.int j] = [some (V.int i), some (V.int j), none] from rfl]
  have line := line_val
  have hg : 0 < Int.gcd i j := Nat.pos_of_ne_zero fun z => by have := (Int.gcd_eq_zero_iff.mp z).2; omega
  have hgb : Int.gcd i j ≤ j.natAbs := Nat.le_of_dvd (by omega) (Nat.gcd_dvd_right _ _)
  walk_at "go"
  rw [if_neg (by omega)]
  walk_at "go"
  rw [if_neg (by omega)]
  rename_i rest hrest
  subst hrest
  walk_at "go"
  exact fun p hp => q p hp
theorem ok_plus_ratio {f : Addr} {fd : FuncData} (F : Fun K "plus_ratio" "plus_ratio" s_plus_ratio f fd) (T : Txt K mg xNotThere xCastError xStock xRule xDues) (D_ratio_of : Def P w K mg base (CXE P w) 2 "ratio_of" ["top", "bottom"] (sp57_ratio)) : FnOk P w K mg base (CXE P w) 3 f fd ["one", "other"] (sp57_plus) := by
  have sc : FnScope ["one", "other"] ["one", "other"] (defScope s_plus_ratio) := ⟨rfl, rfl, rfl, by decide +kernel, rfl, by decide +kernel, by decide +kernel⟩
  refine F.okE sc (fun vs H Q E h => ?_) (fun cdv A outer s H vs Q E hr h => ?_)
  · obtain ⟨a, b, U, x, y, rfl, ha, hb, hU, hU2, ⟨hx, hy⟩, q⟩ := h; rfl
  obtain ⟨a, b, U, x, y, rfl, ha, hb, hU, hU2, ⟨hx, hy⟩, q⟩ := h
  refine ⟨_, (@pss_one _ _ _ (@ps_ret _ _ _ _ (pe_callD D_ratio_of hr rfl pass_on (pa_cons (pe_op op_add (pe_op op_mulH (@pe_ix _ _ _ _ _ _ _ ix_tup (pv 0) pe_int (fun _ _ => rfl)) (@pe_ix _ _ _ _ _ _ _ ix_tup (pv 1) pe_int (fun _ _ => rfl))) (pe_op op_mulH (@pe_ix _ _ _ _ _ _ _ ix_tup (pv 1) pe_int (fun _ _ => rfl)) (@pe_ix _ _ _ _ _ _ _ ix_tup (pv 0) pe_int (fun _ _ => rfl)))) (pa_cons (pe_op op_mulH (@pe_ix _ _ _ _ _ _ _ ix_tup (pv 0) pe_int (fun _ _ => rfl)) (@pe_ix _ _ _ _ _ _ _ ix_tup (pv 1) pe_int (fun _ _ => rfl))) pa_nil))))), ?_⟩
  rw [show start ["one", "other"] [V.ref a, V.ref b] = [some (V.ref a), some (V.ref b)] from rfl]
  have line := line_val
  obtain ⟨a1, a2, a3, a4, a5⟩ := rt_all (v := x) hU
  obtain ⟨b1, b2, b3, b4, b5⟩ := rt_all (v := y) hU
  have B : (10 : Nat) ^ 240 < 10 ^ 1000 := by decide +kernel
  have B2 : (10 : Nat) ^ 180 < 10 ^ 1000 := by decide +kernel
  have hUn : U.natAbs ≤ 10 ^ 180 := by omega
  have c1 : (rt U x).1.natAbs < 10 ^ 1000 := Nat.lt_of_le_of_lt (Nat.le_trans a4 hx) B
  have c2 : (rt U x).2.natAbs < 10 ^ 1000 := Nat.lt_of_le_of_lt (Nat.le_trans a5 hUn) B2
  have d1 : (rt U y).1.natAbs < 10 ^ 1000 := Nat.lt_of_le_of_lt (Nat.le_trans b4 hy) B
  have d2 : (rt U y).2.natAbs < 10 ^ 1000 := Nat.lt_of_le_of_lt (Nat.le_trans b5 hUn) B2
  unfold RtA at ha hb
  clear B B2
  walk_at "go"
  have hbd : (rt U x).2 * (rt U y).2 < 10 ^ 1000 := by
    have h1 : (rt U x).2 ≤ 10 ^ 180 := by omega
    have h2 : (rt U y).2 ≤ 10 ^ 180 := by omega
    calc (rt U x).2 * (rt U y).2 ≤ 10 ^ 180 * 10 ^ 180 := Int.mul_le_mul h1 h2 (by omega) (by decide +kernel)
      _ < 10 ^ 1000 := by decide +kernel
  refine ixT_of (SqT.of ha) (v := V.int (rt U x).1) rfl (ixT_of (SqT.of hb) (v := V.int (rt U y).2) rfl ⟨_, rfl, _, rfl, ⟨c1, d2⟩, ixT_of (SqT.of hb) (v := V.int (rt U y).1) rfl (ixT_of (SqT.of ha) (v := V.int (rt U x).2) rfl ⟨_, rfl, _, rfl, ⟨d1, c2⟩, ixT_of (SqT.of ha) (v := V.int (rt U x).2) rfl (ixT_of (SqT.of hb) (v := V.int (rt U y).2) rfl ⟨_, rfl, _, rfl, ⟨c2, d2⟩, Int.mul_pos a2 b2, hbd, ?_⟩)⟩)⟩)
  rw [rt_plus hU]
  exact q
theorem ok_minus_ratio {f : Addr} {fd : FuncData} (F : Fun K "minus_ratio" "minus_ratio" s_minus_ratio f fd) (T : Txt K mg xNotThere xCastError xStock xRule xDues) (D_ratio_of : Def P w K mg base (CXE P w) 2 "ratio_of" ["top", "bottom"] (sp57_ratio)) : FnOk P w K mg base (CXE P w) 3 f fd ["one", "other"] (sp57_minus) := by
  have sc : FnScope ["one", "other"] ["one", "other"] (defScope s_minus_ratio) := ⟨rfl, rfl, rfl, by decide +kernel, rfl, by decide +kernel, by decide +kernel⟩
  refine F.okE sc (fun vs H Q E h => ?_) (fun cdv A outer s H vs Q E hr h => ?_)
  · obtain ⟨a, b, U, x, y, rfl, ha, hb, hU, hU2, ⟨hx, hy⟩, q⟩ := h; rfl
  obtain ⟨a, b, U, x, y, rfl, ha, hb, hU, hU2, ⟨hx, hy⟩, q⟩ := h
  refine ⟨_, (@pss_one _ _ _ (@ps_ret _ _ _ _ (pe_callD D_ratio_of hr rfl pass_on (pa_cons (pe_op op_sub (pe_op op_mulH (@pe_ix _ _ _ _ _ _ _ ix_tup (pv 0) pe_int (fun _ _ => rfl)) (@pe_ix _ _ _ _ _ _ _ ix_tup (pv 1) pe_int (fun _ _ => rfl))) (pe_op op_mulH (@pe_ix _ _ _ _ _ _ _ ix_tup (pv 1) pe_int (fun _ _ => rfl)) (@pe_ix _ _ _ _ _ _ _ ix_tup (pv 0) pe_int (fun _ _ => rfl)))) (pa_cons (pe_op op_mulH (@pe_ix _ _ _ _ _ _ _ ix_tup (pv 0) pe_int (fun _ _ => rfl)) (@pe_ix _ _ _ _ _ _ _ ix_tup (pv 1) pe_int (fun _ _ => rfl))) pa_nil))))), ?_⟩
  rw [show start ["one", "other"] [V.ref a, V.ref b] = [some (V.ref a), some (V.ref b)] from rfl]
  have line := line_val
  obtain ⟨a1, a2, a3, a4, a5⟩ := rt_all (v := x) hU
  obtain ⟨b1, b2, b3, b4, b5⟩ := rt_all (v := y) hU
  have B : (10 : Nat) ^ 240 < 10 ^ 1000 := by decide +kernel
  have B2 : (10 : Nat) ^ 180 < 10 ^ 1000 := by decide +kernel
  have hUn : U.natAbs ≤ 10 ^ 180 := by omega
  have c1 : (rt U x).1.natAbs < 10 ^ 1000 := Nat.lt_of_le_of_lt (Nat.le_trans a4 hx) B
  have c2 : (rt U x).2.natAbs < 10 ^ 1000 := Nat.lt_of_le_of_lt (Nat.le_trans a5 hUn) B2
  have d1 : (rt U y).1.natAbs < 10 ^ 1000 := Nat.lt_of_le_of_lt (Nat.le_trans b4 hy) B
  have d2 : (rt U y).2.natAbs < 10 ^ 1000 := Nat.lt_of_le_of_lt (Nat.le_trans b5 hUn) B2
  unfold RtA at ha hb
  clear B B2
  walk_at "go"
  have hbd : (rt U x).2 * (rt U y).2 < 10 ^ 1000 := by
    have h1 : (rt U x).2 ≤ 10 ^ 180 := by omega
    have h2 : (rt U y).2 ≤ 10 ^ 180 := by omega
    calc (rt U x).2 * (rt U y).2 ≤ 10 ^ 180 * 10 ^ 180 := Int.mul_le_mul h1 h2 (by omega) (by decide +kernel)
      _ < 10 ^ 1000 := by decide +kernel
  refine ixT_of (SqT.of ha) (v := V.int (rt U x).1) rfl (ixT_of (SqT.of hb) (v := V.int (rt U y).2) rfl ⟨_, rfl, _, rfl, ⟨c1, d2⟩, ixT_of (SqT.of hb) (v := V.int (rt U y).1) rfl (ixT_of (SqT.of ha) (v := V.int (rt U x).2) rfl ⟨_, rfl, _, rfl, ⟨d1, c2⟩, ixT_of (SqT.of ha) (v := V.int (rt U x).2) rfl (ixT_of (SqT.of hb) (v := V.int (rt U y).2) rfl ⟨_, rfl, _, rfl, ⟨c2, d2⟩, Int.mul_pos a2 b2, hbd, ?_⟩)⟩)⟩)
  rw [rt_minus hU]
  exact q
theorem ok_under_ratio {f : Addr} {fd : FuncData} (F : Fun K "under_ratio" "under_ratio" s_under_ratio f fd) (T : Txt K mg xNotThere xCastError xStock xRule xDues)  : FnOk P w K mg base (CXE P w) 3 f fd ["one", "other"] (sp57_under) := by
  have sc : FnScope ["one", "other"] ["one", "other"] (defScope s_under_ratio) := ⟨rfl, rfl, rfl, by decide +kernel, rfl, by decide +kernel, by decide +kernel⟩
  refine F.okE sc (fun vs H Q E h => ?_) (fun cdv A outer s H vs Q E hr h => ?_)
  · obtain ⟨a, b, U, x, y, rfl, ha, hb, hU, hU2, ⟨hx, hy⟩, q⟩ := h; rfl
  obtain ⟨a, b, U, x, y, rfl, ha, hb, hU, hU2, ⟨hx, hy⟩, q⟩ := h
  refine ⟨_, (@pss_one _ _ _ (@ps_ret _ _ _ _ (pe_cmpR op_lt (pe_op op_mulH (@pe_ix _ _ _ _ _ _ _ ix_tup (pv 0) pe_int (fun _ _ => rfl)) (@pe_ix _ _ _ _ _ _ _ ix_tup (pv 1) pe_int (fun _ _ => rfl))) (pe_op op_mulH (@pe_ix _ _ _ _ _ _ _ ix_tup (pv 1) pe_int (fun _ _ => rfl)) (@pe_ix _ _ _ _ _ _ _ ix_tup (pv 0) pe_int (fun _ _ => rfl))) (nomark _)))), ?_⟩
  rw [show start ["one", "other"] [V.ref a, V.ref b] = [some (V.ref a), some (V.ref b)] from rfl]
  have line := line_val
  obtain ⟨a1, a2, a3, a4, a5⟩ := rt_all (v := x) hU
  obtain ⟨b1, b2, b3, b4, b5⟩ := rt_all (v := y) hU
  have B : (10 : Nat) ^ 240 < 10 ^ 1000 := by decide +kernel
  have B2 : (10 : Nat) ^ 180 < 10 ^ 1000 := by decide +kernel
  have hUn : U.natAbs ≤ 10 ^ 180 := by omega
  have c1 : (rt U x).1.natAbs < 10 ^ 1000 := Nat.lt_of_le_of_lt (Nat.le_trans a4 hx) B
  have c2 : (rt U x).2.natAbs < 10 ^ 1000 := Nat.lt_of_le_of_lt (Nat.le_trans a5 hUn) B2
  have d1 : (rt U y).1.natAbs < 10 ^ 1000 := Nat.lt_of_le_of_lt (Nat.le_trans b4 hy) B
  have d2 : (rt U y).2.natAbs < 10 ^ 1000 := Nat.lt_of_le_of_lt (Nat.le_trans b5 hUn) B2
  unfold RtA at ha hb
  clear B B2
  walk_at "go"
  refine ixT_of (SqT.of ha) (v := V.int (rt U x).1) rfl (ixT_of (SqT.of hb) (v := V.int (rt U y).2) rfl ⟨_, rfl, _, rfl, ⟨c1, d2⟩, ixT_of (SqT.of hb) (v := V.int (rt U y).1) rfl (ixT_of (SqT.of ha) (v := V.int (rt U x).2) rfl ⟨_, rfl, _, rfl, ⟨d1, c2⟩, ?_⟩)⟩)
  rw [show decide ((rt U x).1 * (rt U y).2 < (rt U y).1 * (rt U x).2) = decide (x < y) by rw [decide_eq_decide]; exact rt_under hU]
  exact q
theorem ok_Rule_init {f : Addr} {fd : FuncData} (F : Fun K "__init__" "Rule.__init__" s_Rule_init f fd) (T : Txt K mg xNotThere xCastError xStock xRule xDues) (D_check_places : Def P w K mg base (CXE P w) 3 "check_places" ["places"] (sp32_check)) : FnOk P w K mg base (CXE P w) 4 f fd ["self", "stock", "places"] (sp57_rinit K xDues) := by
  have sc : FnScope ["self", "stock", "places"] ["self", "stock", "places"] (defScope s_Rule_init) := ⟨rfl, rfl, rfl, by decide +kernel, rfl, by decide +kernel, by decide +kernel⟩
  refine F.okE sc (fun vs H Q E h => ?_) (fun cdv A outer s H vs Q E hr h => ?_)
  · obtain ⟨q', dx, p, n, rfl, hq, h1, h2, q⟩ := h; rfl
  obtain ⟨q', dx, p, n, rfl, hq, h1, h2, q⟩ := h
  refine ⟨_, (@pss_cons _ _ _ _ _ (ps_expr (pe_callD D_check_places hr rfl pass_on (pa_cons (pv 2) pa_nil)))
    (@pss_cons _ _ _ _ _ (ps_fld (pv 0) (pv 1) rfl)
    (@pss_one _ _ _ (ps_fld (pv 0) (pv 2) rfl)))), ?_⟩
  rw [show start ["self", "stock", "places"] [V.ref q', V.ref p, V.int n] = [some (V.ref q'), some (V.ref p), some (V.int n)] from rfl]
  walk_at "go"
  refine ⟨_, dx, [], hq, T.cl_Dues, T.n_Dues_stock, by decide, ?_⟩
  walk_at "go"
  refine ⟨_, dx, _, upd_same, T.cl_Dues, T.n_Dues_places, by simp [putF], ?_⟩
  walk_at "go"
  exact q _ (fun b o e nb => by rw [upd_ne nb]; exact e) upd_same
theorem ok_Dues_init {f : Addr} {fd : FuncData} (F : Fun K "__init__" "Dues.__init__" s_Dues_init f fd) (T : Txt K mg xNotThere xCastError xStock xRule xDues) (D_Rule_init : DefB P w K mg base (CXE P w) 4 "Rule" xRule ["self", "stock", "places"] (sp57_rinit K xDues)) : FnOk P w K mg base (CXE P w) 5 f fd ["self", "stock", "places"] (sp57_init xDues) := by
  have sc : FnScope ["self", "stock", "places"] ["self", "stock", "places"] (defScope s_Dues_init) := ⟨rfl, rfl, rfl, by decide +kernel, rfl, by decide +kernel, by decide +kernel⟩
  refine F.okE sc (fun vs H Q E h => ?_) (fun cdv A outer s H vs Q E hr h => ?_)
  · obtain ⟨q', dx, p, n, U, rfl, hq, h1, h2, hU, q⟩ := h; rfl
  obtain ⟨q', dx, p, n, U, rfl, hq, h1, h2, hU, q⟩ := h
  refine ⟨_, (@pss_cons _ _ _ _ _ (ps_expr (pe_initC D_Rule_init hr (passS pass_on) (pe_glob (v := .ref xRule) rfl T.c_Rule rfl) (pa_cons (pv 0) (pa_cons (pv 1) (pa_cons (pv 2) pa_nil)))))
    (@pss_cons _ _ _ _ _ (ps_fld (pv 0) (pe_tup (pa_cons pe_int (pa_cons pe_int pa_nil))) rfl)
    (@pss_cons _ _ _ _ _ (ps_fld (pv 0) pe_dnewK rfl)
    (@pss_one _ _ _ (ps_fld (pv 0) (@pe_lst _ _ _ _ pa_nil) rfl))))), ?_⟩
  rw [show start ["self", "stock", "places"] [V.ref q', V.ref p, V.int n] = [some (V.ref q'), some (V.ref p), some (V.int n)] from rfl]
  have line := line_val
  walk_at "go"
  refine ⟨dx, hq, h1, h2, fun H1 sb1 hq1 => ?_⟩
  rename_i rest hrest
  subst hrest
  walk_at "go"
  intro rp hrp
  have n1 : q' ≠ rp := ne_of_none hq1 hrp
  refine ⟨xDues, dx, _, by rw [upd_ne n1]; exact hq1, T.cl_Dues, T.n_Dues_reached, by show 2 < 1000; decide, ?_⟩
  have hq2 : upd (upd H1 rp (.tup [V.int 0, V.int 1])) q' (.ins xDues dx (putF (Str.ofString "reached") (V.ref rp) [(Str.ofString "stock", V.ref p), (Str.ofString "places", V.int n)])) q' = some (.ins xDues dx [(Str.ofString "stock", V.ref p), (Str.ofString "places", V.int n), (Str.ofString "reached", V.ref rp)]) := upd_same
  have hrp2 : upd (upd H1 rp (.tup [V.int 0, V.int 1])) q' (.ins xDues dx (putF (Str.ofString "reached") (V.ref rp) [(Str.ofString "stock", V.ref p), (Str.ofString "places", V.int n)])) rp = some (.tup [V.int 0, V.int 1]) := by rw [upd_ne n1.symm, upd_same]
  have sb2 : SameBut q' H (upd (upd H1 rp (.tup [V.int 0, V.int 1])) q' (.ins xDues dx (putF (Str.ofString "reached") (V.ref rp) [(Str.ofString "stock", V.ref p), (Str.ofString "places", V.int n)]))) := fun b o e nb => by
    have e1 := sb1 _ _ e nb
    rw [upd_ne nb, upd_ne (ne_of_none e1 hrp)]; exact e1
  generalize upd (upd H1 rp (.tup [V.int 0, V.int 1])) q' (.ins xDues dx (putF (Str.ofString "reached") (V.ref rp) [(Str.ofString "stock", V.ref p), (Str.ofString "places", V.int n)])) = H2 at hq2 hrp2 sb2 ⊢
  clear sb1 hq1 hrp
  rename_i rest hrest
  subst hrest
  walk_at "go"
  intro dd hdd
  have n2 : q' ≠ dd := ne_of_none hq2 hdd
  have n3 : rp ≠ dd := ne_of_none hrp2 hdd
  refine ⟨xDues, dx, _, by rw [upd_ne n2]; exact hq2, T.cl_Dues, T.n_Dues_dues, by show 3 < 1000; decide, ?_⟩
  have hq3 : upd (upd H2 dd (.dK [])) q' (.ins xDues dx (putF (Str.ofString "dues") (V.ref dd) [(Str.ofString "stock", V.ref p), (Str.ofString "places", V.int n), (Str.ofString "reached", V.ref rp)])) q' = some (.ins xDues dx [(Str.ofString "stock", V.ref p), (Str.ofString "places", V.int n), (Str.ofString "reached", V.ref rp), (Str.ofString "dues", V.ref dd)]) := upd_same
  have hrp3 : upd (upd H2 dd (.dK [])) q' (.ins xDues dx (putF (Str.ofString "dues") (V.ref dd) [(Str.ofString "stock", V.ref p), (Str.ofString "places", V.int n), (Str.ofString "reached", V.ref rp)])) rp = some (.tup [V.int 0, V.int 1]) := by rw [upd_ne n1.symm, upd_ne n3]; exact hrp2
  have hdd3 : upd (upd H2 dd (.dK [])) q' (.ins xDues dx (putF (Str.ofString "dues") (V.ref dd) [(Str.ofString "stock", V.ref p), (Str.ofString "places", V.int n), (Str.ofString "reached", V.ref rp)])) dd = some (.dK []) := by rw [upd_ne n2.symm, upd_same]
  have sb3 : SameBut q' H (upd (upd H2 dd (.dK [])) q' (.ins xDues dx (putF (Str.ofString "dues") (V.ref dd) [(Str.ofString "stock", V.ref p), (Str.ofString "places", V.int n), (Str.ofString "reached", V.ref rp)]))) := fun b o e nb => by
    have e1 := sb2 _ _ e nb
    rw [upd_ne nb, upd_ne (ne_of_none e1 hdd)]; exact e1
  have hdd0 : H dd = none := by
    cases k : H dd with
    | none => rfl
    | some o => rw [sb2 _ _ k n2.symm] at hdd; cases hdd
  generalize upd (upd H2 dd (.dK [])) q' (.ins xDues dx (putF (Str.ofString "dues") (V.ref dd) [(Str.ofString "stock", V.ref p), (Str.ofString "places", V.int n), (Str.ofString "reached", V.ref rp)])) = H3 at hq3 hrp3 hdd3 sb3 ⊢
  clear sb2 hq2 hrp2 hdd
  rename_i rest hrest
  subst hrest
  walk_at "go"
  intro rr hrr
  have n4 : q' ≠ rr := ne_of_none hq3 hrr
  have hrr0 : H rr = none := by
    cases k : H rr with
    | none => rfl
    | some o => rw [sb3 _ _ k n4.symm] at hrr; cases hrr
  refine ⟨xDues, dx, _, by rw [upd_ne n4]; exact hq3, T.cl_Dues, T.n_Dues_rises, by show 4 < 1000; decide, ?_⟩
  walk_at "go"
  refine q ⟨rp, dd, rr⟩ _ (fun b o e nb => ?_) (fun b hb => ?_) ⟨⟨dx, _, upd_same, ⟨by rfl, by rfl, by rfl, by rfl, by rfl, by show 5 < 500; decide, fun m hm => ?_⟩⟩, ?_, ⟨[], ?_, rfl, fun y hy => by cases hy⟩, ⟨[], ?_, rfl, fun i a v h => by simp at h⟩, List.nodup_nil, ⟨⟨by decide, by decide⟩, (fun y hy => by cases hy), (fun v hv => by cases hv)⟩, by decide, by decide⟩
  · have e1 := sb3 _ _ e nb
    rw [upd_ne nb, upd_ne (ne_of_none e1 hrr)]; exact e1
  · simp only [List.mem_cons, List.not_mem_nil, or_false] at hb
    rcases hb with e | e <;> rw [e]
    · exact hdd0
    · exact hrr0
  · have hm' : m = Str.ofString "asked" ∨ m = Str.ofString "owe" ∨ m = Str.ofString "choice" ∨ m = Str.ofString "gone" ∨ m = Str.ofString "came" ∨ m = Str.ofString "level" ∨ m = Str.ofString "due_of" ∨ m = Str.ofString "prices" := by simpa using hm
    rcases hm' with e | e | e | e | e | e | e | e <;> rw [e] <;> rfl
  · show _ = some (HO.tup [V.int (rt U 0).1, V.int (rt U 0).2])
    rw [rt_zero hU, upd_ne n1.symm, upd_ne (ne_of_none hrp3 hrr)]; exact hrp3
  · rw [upd_ne n2.symm, upd_ne (ne_of_none hdd3 hrr)]; exact hdd3
  · rw [upd_ne n4.symm, upd_same]; rfl
theorem ok_Dues_owe {f : Addr} {fd : FuncData} (F : Fun K "owe" "Dues.owe" s_Dues_owe f fd) (T : Txt K mg xNotThere xCastError xStock xRule xDues) (D_plus_ratio : Def P w K mg base (CXE P w) 3 "plus_ratio" ["one", "other"] (sp57_plus)) (D_ratio_of : Def P w K mg base (CXE P w) 2 "ratio_of" ["top", "bottom"] (sp57_ratio)) (D_Stock_cost_of : DefM P w K mg base (CXE P w) 2 xStock "cost_of" ["self", "name"] (sp41_cost K xStock)) (D_Stock_room_of : DefM P w K mg base (CXE P w) 2 xStock "room_of" ["self", "name"] (sp32_room K xStock)) : FnOk P w K mg base (CXE P w) 5 f fd ["self", "name"] (sp57_owe K xDues xStock) := by
  have sc : FnScope ["self", "name"] ["self", "name"] (defScope s_Dues_owe) := ⟨rfl, rfl, rfl, by decide +kernel, rfl, by decide +kernel, by decide +kernel⟩
  refine F.okE sc (fun vs H Q E h => ?_) (fun cdv A outer s H vs Q E hr h => ?_)
  · obtain ⟨q', p, n, U, x, s, z, ts, rfl, hd, hs, nd, hz, hzk, hU, hkl, hr1, q⟩ := h; rfl
  obtain ⟨q', p, n, U, x, s, z, ts, rfl, hd, hs, nd, hz, hzk, hU, hkl, hr1, q⟩ := h
  refine ⟨_, (@pss_one _ _ _ (ps_dput (hu_of hr) (pe_fld (pv 0) rfl) (pv 1) (pe_callD D_plus_ratio hr rfl pass_on (pa_cons (pe_fld (pv 0) rfl) (pa_cons (pe_callD D_ratio_of hr rfl pass_on (pa_cons (pe_methS D_Stock_cost_of T.cl_Stock hr (passS pass_on) (pe_fld (pv 0) rfl) (pa_cons (pv 1) pa_nil)) (pa_cons (pe_methS D_Stock_room_of T.cl_Stock hr (passS pass_on) (pe_fld (pv 0) rfl) (pa_cons (pv 1) pa_nil)) pa_nil))) pa_nil))) rfl)), ?_⟩
  rw [show start ["self", "name"] [V.ref q', V.str z] = [some (V.ref q'), some (V.str z)] from rfl]
  have line := line_val
  obtain ⟨dx, fs, ho, hf⟩ := hd.o
  obtain ⟨dy, e, kvs0, g1, g2, g3, g4, g5⟩ := StockAt.has hs
  obtain ⟨sh0, sh1, rm1, rm2, rm3, c1, c2⟩ := hU.sh nd hz
  obtain ⟨hr0, hr2⟩ := hd.b.1
  have hUp := hU.p
  have hUb := hU.b
  obtain ⟨kvs, d1, d2, d3⟩ := hd.dd
  have hkn : kvs.length ≤ 100 := by
    have := congrArg List.length d2
    rw [List.length_map, List.length_map] at this
    have := hd.l.1
    omega
  walk_at "go"
  refine ⟨xDues, dx, fs, ho, T.cl_Dues, T.n_Dues_reached, _, hf.re, xDues, dx, fs, ho, T.cl_Dues, T.n_Dues_stock, _, hf.st, p, rfl, dy, flds e, g1, by rfl, p, rfl, ts, hs, nd, hz, ?_⟩
  refine ⟨xDues, dx, fs, ho, T.cl_Dues, T.n_Dues_stock, _, hf.st, p, rfl, dy, flds e, g1, by rfl, p, rfl, ts, hs, nd, hz, by omega, Int.lt_of_le_of_lt rm2 (by decide +kernel), fun p1 hp1 => ?_⟩
  have eS : rt (rm ts z) (cst ts z) = rt U (sh U ts z) := rt_of hUp (by omega) rm3
  rw [eS]
  have sm1 : Same H (upd H p1 (.tup [V.int (rt U (sh U ts z)).1, V.int (rt U (sh U ts z)).2])) := Same.new hp1
  have h11 : RtA (upd H p1 (.tup [V.int (rt U (sh U ts z)).1, V.int (rt U (sh U ts z)).2])) p1 U (sh U ts z) := upd_same
  generalize upd H p1 (.tup [V.int (rt U (sh U ts z)).1, V.int (rt U (sh U ts z)).2]) = H1 at sm1 h11 ⊢
  refine ⟨x.rp, rfl, U, s.r, sm1 _ _ hd.rp, sh U ts z, h11, hUp, hUb, by omega, by omega, fun p2 hp2 => ?_⟩
  have sm2 : Same H1 (upd H1 p2 (.tup [V.int (rt U (s.r + sh U ts z)).1, V.int (rt U (s.r + sh U ts z)).2])) := Same.new hp2
  have h22 : RtA (upd H1 p2 (.tup [V.int (rt U (s.r + sh U ts z)).1, V.int (rt U (s.r + sh U ts z)).2])) p2 U (s.r + sh U ts z) := upd_same
  generalize upd H1 p2 (.tup [V.int (rt U (s.r + sh U ts z)).1, V.int (rt U (s.r + sh U ts z)).2]) = H2 at sm2 h22 ⊢
  have smA := sm1.trans sm2
  refine ⟨xDues, dx, fs, smA _ _ ho, T.cl_Dues, T.n_Dues_dues, _, hf.du, x.dd, rfl, _, DPut.k (k := Sum.inr z) (smA _ _ d1) (by omega), ?_⟩
  walk_at "go"
  exact q _ (fun b o nb e => by rw [upd_ne (fun k => nb (by rw [k]; simp [DuM]))]; exact smA _ _ e) ((hd.same smA).put (smA _ _ d1) h22 hzk ⟨by omega, by omega⟩ hkl)
theorem ok_Dues_asked {f : Addr} {fd : FuncData} (F : Fun K "asked" "Dues.asked" s_Dues_asked f fd) (T : Txt K mg xNotThere xCastError xStock xRule xDues) (D_Dues_owe : DefM P w K mg base (CXE P w) 5 xDues "owe" ["self", "name"] (sp57_owe K xDues xStock)) : FnOk P w K mg base (CXE P w) 6 f fd ["self", "name"] (sp57_asked K xDues xStock) := by
  have sc : FnScope ["self", "name"] ["self", "name"] (defScope s_Dues_asked) := ⟨rfl, rfl, rfl, by decide +kernel, rfl, by decide +kernel, by decide +kernel⟩
  refine F.okE sc (fun vs H Q E h => ?_) (fun cdv A outer s H vs Q E hr h => ?_)
  · obtain ⟨q', p, n, U, x, s, z, ts, rfl, hd, hs, hst, nd, hz, hU, hrl, hr1, q⟩ := h; rfl
  obtain ⟨q', p, n, U, x, s, z, ts, rfl, hd, hs, hst, nd, hz, hU, hrl, hr1, q⟩ := h
  refine ⟨_, (@pss_cons _ _ _ _ _ (ps_expr (pe_bm PySem.F.plainAttrs_list PySem.F.slot_list_append PySem.F.type_list_append mt_append (pe_fld (pv 0) rfl) (pa_cons (pe_tup (pa_cons pe_int (pa_cons pe_int pa_nil))) pa_nil)))
    (@pss_one _ _ _ (ps_if (pt_cmp (pc_din (hu_of hr) (pv 1) (pe_fld (pv 0) rfl)))
      (@pss_cons _ _ _ _ _ (ps_expr (pe_dpop1 (pe_fld (pv 0) rfl) (pv 1) ⟨rfl, rfl, rfl, rfl⟩))
      (@pss_one _ _ _ (ps_expr (pe_methS D_Dues_owe T.cl_Dues hr (passS pass_on) (pv 0) (pa_cons (pv 1) pa_nil)))))
      pss_nil))), ?_⟩
  rw [show start ["self", "name"] [V.ref q', V.str z] = [some (V.ref q'), some (V.str z)] from rfl]
  have line := line_val
  obtain ⟨dx, fs, ho, hf⟩ := hd.o
  obtain ⟨us, r1, r2⟩ := hd.rr
  have hul : us.length < 1000 := by rw [r2.1]; exact hrl
  have hUp := hU.p
  walk_at "go"
  refine ⟨xDues, dx, fs, ho, T.cl_Dues, T.n_Dues_rises, _, hf.ri, .inl ⟨rfl, _, SqL.of r1⟩, by omega, fun p1 hp1 => ?_⟩
  have sm1 : Same H (upd H p1 (.tup [V.int 0, V.int 1])) := Same.new hp1
  have h11 : RtA (upd H p1 (.tup [V.int 0, V.int 1])) p1 U 0 := by
    show _ = some (HO.tup [V.int (rt U 0).1, V.int (rt U 0).2])
    rw [rt_zero hUp]; exact upd_same
  generalize upd H p1 (.tup [V.int 0, V.int 1]) = H1 at sm1 h11 ⊢
  refine ⟨x.rr, _, _, rfl, rfl, sm1 _ _ r1, by rw [List.length_map]; omega, ?_⟩
  rw [show us.map V.ref ++ [V.ref p1] = (us ++ [p1]).map V.ref by rw [List.map_append]; rfl]
  have hd1 := (hd.same sm1).rise (us' := us ++ [p1]) (rs' := s.rs ++ [0]) ⟨by rw [List.length_append, List.length_append, r2.1]; rfl, fun i a v k1 k2 => by
    by_cases hi : i < us.length
    · rw [List.getElem?_append_left hi] at k1
      rw [List.getElem?_append_left (by rw [← r2.1]; exact hi)] at k2
      exact sm1 _ _ (r2.2 i a v k1 k2)
    · rw [List.getElem?_append_right (by omega)] at k1
      rw [List.getElem?_append_right (by rw [← r2.1]; omega)] at k2
      have h0 : i - us.length = 0 := by
        have := (List.getElem?_eq_some_iff.mp k1).1
        simp at this; omega
      rw [h0] at k1
      rw [← r2.1, h0] at k2
      cases k1
      cases k2
      exact h11⟩ (fun v hv => by
      rcases List.mem_append.mp hv with hv | hv
      · exact hd.b.2.2 v hv
      · rw [List.mem_singleton.mp hv]; exact ⟨by decide, by decide⟩) (by rw [List.length_append]; simp only [List.length_cons, List.length_nil]; omega)
  have kp1 : Kp (DuM q' x) H (upd H1 x.rr (.lst ((us ++ [p1]).map V.ref))) := fun b o nb e => by rw [upd_ne (fun k => nb (by rw [k]; simp [DuM]))]; exact sm1 _ _ e
  generalize upd H1 x.rr (.lst ((us ++ [p1]).map V.ref)) = H2 at hd1 kp1 ⊢
  obtain ⟨dx2, fs2, ho2, hf2⟩ := hd1.o
  obtain ⟨kvs, d1, d2, d3⟩ := hd1.dd
  have d2' : kvs.map (·.1) = s.ks.map Sum.inr := d2
  rename_i rest hrest
  subst hrest
  walk_at "go"
  refine ⟨xDues, dx2, fs2, ho2, T.cl_Dues, T.n_Dues_dues, _, hf2.du, x.dd, rfl, _, DGet.k (k := Sum.inr z) d1, ?_⟩
  rw [keys_val d2' z]
  by_cases hzk : z ∈ s.ks
  · rw [if_pos (decide_eq_true hzk)]
    obtain ⟨a, k1, k2⟩ := d3 z hzk
    walk_at "go"
    refine ⟨xDues, dx2, fs2, ho2, T.cl_Dues, T.n_Dues_dues, _, hf2.du, x.dd, rfl, .inl ⟨_, .inl d1⟩, _, d1, Sum.inr z, rfl, _, k1, ?_⟩
    have hd2 := hd1.drop (z := z) d1
    have kp2 : Kp (DuM q' x) H (upd H2 x.dd (.dK (dropK kvs (Sum.inr z)))) := fun b o nb e => by rw [upd_ne (fun k => nb (by rw [k]; simp [DuM]))]; exact kp1 b o nb e
    generalize upd H2 x.dd (.dK (dropK kvs (Sum.inr z))) = H3 at hd2 kp2 ⊢
    obtain ⟨dx3, fs3, ho3, hf3⟩ := hd2.o
    rename_i rest hrest
    subst hrest
    walk_at "go"
    refine ⟨dx3, fs3, ho3, hf3.m _ (by simp), p, n, U, x, _, hd2, ts, hst _ kp2, nd, hz, fun h => ((List.Nodup.mem_erase_iff hd.nd).mp h).1 rfl, hU, ?_, hr1, fun H4 kp hd4 => ?_⟩
    · show (s.ks.erase z).length < 100
      have := List.length_erase_of_mem hzk
      have h0 := List.length_pos_of_mem hzk
      have := hd.l.1
      omega
    · have e : askS U ts s z = ⟨s.r, s.ks.erase z ++ [z], N74s s.f z (s.r + sh U ts z), s.rs ++ [0]⟩ := if_pos hzk
      rw [e] at q
      exact q H4 (kp2.trans kp) hd4
  · rw [if_neg (by simp [hzk])]
    have e : askS U ts s z = ⟨s.r, s.ks, s.f, s.rs ++ [0]⟩ := if_neg hzk
    rw [e] at q
    exact q H2 kp1 hd1
theorem ok_Dues_choice {f : Addr} {fd : FuncData} (F : Fun K "choice" "Dues.choice" s_Dues_choice f fd) (T : Txt K mg xNotThere xCastError xStock xRule xDues) (D_under_ratio : Def P w K mg base (CXE P w) 3 "under_ratio" ["one", "other"] (sp57_under)) : FnOk P w K mg base (CXE P w) 4 f fd ["self", "lying"] (sp57_choice xDues) := by
  have sc : FnScope ["self", "lying", "names", "least", "name"] ["self", "lying"] (defScope s_Dues_choice) := ⟨rfl, rfl, rfl, by decide +kernel, rfl, by decide +kernel, by decide +kernel⟩
  refine F.okE sc (fun vs H Q E h => ?_) (fun cdv A outer s H vs Q E hr h => ?_)
  · obtain ⟨q', p, l, n, U, x, s, rfl, hd, hU, hU2, hne, q⟩ := h; rfl
  obtain ⟨q', p, l, n, U, x, s, rfl, hd, hU, hU2, hne, q⟩ := h
  refine ⟨_, (@pss_cons _ _ _ _ _ (ps_set (i := 2) sc.nd rfl (Or.inl rfl) (pe_callTy (call_listD rfl) rfl T.z_list (by first | rfl | decide +kernel) (pa_cons (pe_fld (pv 0) rfl) pa_nil)))
    (@pss_cons _ _ _ _ _ (ps_set (i := 3) sc.nd rfl (Or.inl rfl) (@pe_ix _ _ _ _ _ _ _ ix_list (pv 2) pe_int (fun _ _ => rfl)))
    (@pss_cons _ _ _ _ _ (ps_for own_out rfl (pi_list (pv 2)) (pg_name (i := 4) sc.nd rfl (Or.inl rfl))
      (@pss_one _ _ _ (ps_if (pt_val (pe_callD D_under_ratio hr rfl pass_on (pa_cons (pe_dget (hu_of hr) (pe_fld (pv 0) rfl) (pv 4) (fun _ _ => rfl)) (pa_cons (pe_dget (hu_of hr) (pe_fld (pv 0) rfl) (pv 3) (fun _ _ => rfl)) pa_nil))))
        (@pss_one _ _ _ (ps_set (i := 3) sc.nd rfl (Or.inl rfl) (pv 4)))
        pss_nil)))
    (@pss_one _ _ _ (@ps_ret _ _ _ _ (pv 3)))))), ?_⟩
  rw [show start ["self", "lying", "names", "least", "name"] [V.ref q', V.ref l] = [some (V.ref q'), some (V.ref l), none, none, none] from rfl]
  have line := line_val
  obtain ⟨dx, fs, ho, hf⟩ := hd.o
  obtain ⟨kvs, d1, d2, d3⟩ := hd.dd
  have eK : kvs.map (fun p => kV p.1) = s.ks.map V.str := by
    have h1 : kvs.map (fun p => kV p.1) = (kvs.map (·.1)).map kV := by rw [List.map_map]; rfl
    rw [h1, d2, List.map_map]; rfl
  have hbd : ∀ y ∈ s.ks, (s.f y).natAbs ≤ 10 ^ 240 := fun y hy => by
    obtain ⟨b1, b2⟩ := hd.b.2.1 y hy
    have : (10 : Int) ^ 230 ≤ 10 ^ 240 := by decide +kernel
    omega
  have hl0 : 0 < s.ks.length := List.length_pos_iff.mpr hne
  walk_at "go"
  refine ⟨xDues, dx, fs, ho, T.cl_Dues, T.n_Dues_dues, _, hf.du, x.dd, rfl, _, d1, fun l1 hl1 => ?_⟩
  rw [eK]
  have sm1 : Same H (upd H l1 (.lst (s.ks.map V.str))) := Same.new hl1
  have h11 : upd H l1 (.lst (s.ks.map V.str)) l1 = some (.lst (s.ks.map V.str)) := upd_same
  generalize upd H l1 (.lst (s.ks.map V.str)) = H1 at sm1 h11 ⊢
  rename_i rest hrest
  subst hrest
  walk_at "go"
  refine ixL_of (SqL.of h11) (v := V.str (s.ks.getD 0 Str.empty)) (atI_nat (j := 0) (by rw [List.getElem?_map, getD_str hl0]; rfl)) ?_
  have hz0 : s.ks.getD 0 Str.empty ∈ s.ks := List.mem_of_getElem? (getD_str hl0)
  generalize s.ks.getD 0 Str.empty = z0 at hz0 ⊢
  rename_i rest hrest
  subst hrest
  walk_at "go"
  refine ⟨⟨_, SqL.of h11⟩, ?_⟩
  rename_i rest hrest
  refine forL_by (xs := s.ks.map V.str) (fun i σ H' => ∃ (z : Str) (v4 : Option V), σ = [some (V.ref q'), some (V.ref l), some (V.ref l1), some (V.str z), v4] ∧ H' = H1 ∧ z ∈ s.ks ∧ ∀ y ∈ s.ks.take i, s.f z ≤ s.f y) ⟨z0, none, rfl, rfl, hz0, fun y hy => by rw [List.take_zero] at hy; cases hy⟩ (fun i σ H' _ h_ => by obtain ⟨_, _, _, rfl, _⟩ := h_; exact SqL.of h11) ?_ ?_
  · clear hrest
    rintro i v σ H' hv ⟨z, v4, rfl, rfl, hz, hmin⟩
    have hi : i < s.ks.length := by
      have := (List.getElem?_eq_some_iff.mp hv).1
      rw [List.length_map] at this; exact this
    rw [List.getElem?_map, getD_str hi] at hv
    cases hv
    have hy : s.ks.getD i Str.empty ∈ s.ks := List.mem_of_getElem? (getD_str hi)
    have htk : s.ks.take (i + 1) = s.ks.take i ++ [s.ks.getD i Str.empty] := by rw [List.take_succ, getD_str hi]; rfl
    generalize s.ks.getD i Str.empty = y at hy htk ⊢
    obtain ⟨a1, e1, e2⟩ := d3 y hy
    obtain ⟨b1, g1, g2⟩ := d3 z hz
    walk_at "go"
    refine ⟨xDues, dx, fs, sm1 _ _ ho, T.cl_Dues, T.n_Dues_dues, _, hf.du, x.dd, rfl, _, by rw [← e1]; exact DGet.k (k := Sum.inr y) (sm1 _ _ d1), xDues, dx, fs, sm1 _ _ ho, T.cl_Dues, T.n_Dues_dues, _, hf.du, x.dd, rfl, _, by rw [← g1]; exact DGet.k (k := Sum.inr z) (sm1 _ _ d1), a1, rfl, b1, rfl, U, s.f y, sm1 _ _ e2, s.f z, sm1 _ _ g2, hU, hU2, hbd y hy, hbd z hz, ?_⟩
    by_cases hlt : s.f y < s.f z
    · rw [if_pos hlt]
      walk_at "go"
      intro u hu
      rw [htk] at hu
      rcases List.mem_append.mp hu with hu | hu
      · exact Int.le_trans (Int.le_of_lt hlt) (hmin u hu)
      · rw [List.mem_singleton.mp hu]; exact Int.le_refl _
    · rw [if_neg hlt]
      exact ⟨hz, fun u hu => by
        rw [htk] at hu
        rcases List.mem_append.mp hu with hu | hu
        · exact hmin u hu
        · rw [List.mem_singleton.mp hu]; omega⟩
  · rintro σ H' ⟨z, v4, rfl, rfl, hz, hmin⟩
    rw [List.length_map, List.take_length] at hmin
    subst hrest
    walk_at "go"
    exact q z H' sm1 hz hmin
theorem ok_Dues_gone {f : Addr} {fd : FuncData} (F : Fun K "gone" "Dues.gone" s_Dues_gone f fd) (T : Txt K mg xNotThere xCastError xStock xRule xDues) (D_plus_ratio : Def P w K mg base (CXE P w) 3 "plus_ratio" ["one", "other"] (sp57_plus)) (D_minus_ratio : Def P w K mg base (CXE P w) 3 "minus_ratio" ["one", "other"] (sp57_minus)) : FnOk P w K mg base (CXE P w) 5 f fd ["self", "name"] (sp57_gone xDues) := by
  have sc : FnScope ["self", "name", "due"] ["self", "name"] (defScope s_Dues_gone) := ⟨rfl, rfl, rfl, by decide +kernel, rfl, by decide +kernel, by decide +kernel⟩
  refine F.okE sc (fun vs H Q E h => ?_) (fun cdv A outer s H vs Q E hr h => ?_)
  · obtain ⟨q', p, n, U, x, s, z, rfl, hd, hU, hU2, hz, hrl, hbd, q⟩ := h; rfl
  obtain ⟨q', p, n, U, x, s, z, rfl, hd, hU, hU2, hz, hrl, hbd, q⟩ := h
  refine ⟨_, (@pss_cons _ _ _ _ _ (ps_set (i := 2) sc.nd rfl (Or.inl rfl) (pe_dpop1 (pe_fld (pv 0) rfl) (pv 1) ⟨rfl, rfl, rfl, rfl⟩))
    (@pss_cons _ _ _ _ _ (ps_asg (pe_callD D_plus_ratio hr rfl pass_on (pa_cons (@pe_ix _ _ _ _ _ _ _ ix_list (pe_fld (pv 0) rfl) (pe_un un_neg pe_int) (fun _ _ => rfl)) (pa_cons (pe_callD D_minus_ratio hr rfl pass_on (pa_cons (pv 2) (pa_cons (pe_fld (pv 0) rfl) pa_nil))) pa_nil))) (pg_sub (pe_fld (pv 0) rfl) (pe_un un_neg pe_int) set_list))
    (@pss_one _ _ _ (ps_fld (pv 0) (pv 2) rfl)))), ?_⟩
  rw [show start ["self", "name", "due"] [V.ref q', V.str z] = [some (V.ref q'), some (V.str z), none] from rfl]
  have line := line_val
  obtain ⟨dx, fs, ho, hf⟩ := hd.o
  obtain ⟨kvs, d1, d2, d3⟩ := hd.dd
  obtain ⟨us, r1, r2⟩ := hd.rr
  obtain ⟨a, k1, k2⟩ := d3 z hz
  have B : (10 : Int) ^ 230 ≤ 10 ^ 240 := by decide +kernel
  have hul := r2.1
  walk_at "go"
  refine ⟨xDues, dx, fs, ho, T.cl_Dues, T.n_Dues_dues, _, hf.du, x.dd, rfl, .inl ⟨_, .inl d1⟩, _, d1, Sum.inr z, rfl, _, k1, ?_⟩
  have hd1 := hd.drop (z := z) d1
  have ka1 : RtA (upd H x.dd (.dK (dropK kvs (Sum.inr z)))) a U (s.f z) := by
    show _ = _
    rw [upd_ne (ne_of k2 d1 (by intro z; cases z))]; exact k2
  have kp1 : Kp (DuM q' x) H (upd H x.dd (.dK (dropK kvs (Sum.inr z)))) := fun b o nb e => by rw [upd_ne (fun k => nb (by rw [k]; simp [DuM]))]; exact e
  generalize upd H x.dd (.dK (dropK kvs (Sum.inr z))) = H1 at hd1 ka1 kp1 ⊢
  obtain ⟨dx1, fs1, ho1, hf1⟩ := hd1.o
  obtain ⟨us1, p1, p2⟩ := hd1.rr
  have p2' : RtsA H1 us1 U s.rs := p2
  have hul1 := p2'.1
  obtain ⟨L, hL⟩ : ∃ L : Nat, us1.length = L + 1 := ⟨us1.length - 1, by omega⟩
  have hlast : us1[L]? = some (us1[L]'(by omega)) := List.getElem?_eq_getElem (by omega)
  generalize us1[L]'(by omega) = ua at hlast
  have hrl2 : s.rs[L]? = some (s.rs.getLastD 0) := by
    rw [List.getLastD_eq_getLast?, List.getLast?_eq_getElem?, show s.rs.length - 1 = L by omega, List.getElem?_eq_getElem (by omega)]; rfl
  have kua := p2'.2 L ua _ hlast hrl2
  rename_i rest hrest
  subst hrest
  walk_at "go"
  have e1 : us1 = us1.dropLast ++ [ua] := by
    refine List.ext_getElem? fun i => ?_
    by_cases hi : i < L
    · rw [List.getElem?_append_left (by rw [List.length_dropLast]; omega), List.getElem?_dropLast, if_pos (by omega)]
    · by_cases hi2 : i = L
      · rw [hi2, hlast, List.getElem?_append_right (by rw [List.length_dropLast]; omega), List.length_dropLast, show L - (us1.length - 1) = 0 by omega]; rfl
      · rw [List.getElem?_eq_none (by omega), List.getElem?_eq_none (by rw [List.length_append, List.length_dropLast]; simp only [List.length_cons, List.length_nil]; omega)]
  obtain ⟨f0, f1⟩ := hd.b.2.1 z hz
  obtain ⟨r0, r3⟩ := hd.b.1
  obtain ⟨l0, l1⟩ := hd.b.2.2 _ (List.mem_of_getElem? hrl2)
  obtain ⟨n0, n1⟩ := hbd
  refine ⟨xDues, dx1, fs1, ho1, T.cl_Dues, T.n_Dues_rises, _, hf1.ri, ixL_of (SqL.of p1) (v := V.ref ua) ?_ ⟨xDues, dx1, fs1, ho1, T.cl_Dues, T.n_Dues_reached, _, hf1.re, x.rp, rfl, U, s.f z, ka1, s.r, hd1.rp, hU, hU2, by omega, by omega, fun pm hpm => ?_⟩⟩
  · rw [e1, List.map_append]; exact atI_last _ _
  have sm2 : Same H1 (upd H1 pm (.tup [V.int (rt U (s.f z - s.r)).1, V.int (rt U (s.f z - s.r)).2])) := Same.new hpm
  have hpm2 : RtA (upd H1 pm (.tup [V.int (rt U (s.f z - s.r)).1, V.int (rt U (s.f z - s.r)).2])) pm U (s.f z - s.r) := upd_same
  generalize upd H1 pm (.tup [V.int (rt U (s.f z - s.r)).1, V.int (rt U (s.f z - s.r)).2]) = H2 at sm2 hpm2 ⊢
  refine ⟨ua, rfl, U, _, sm2 _ _ kua, _, hpm2, hU, hU2, by omega, by omega, fun pn hpn => ?_⟩
  unfold goneS at q
  generalize s.rs.getLastD 0 + (s.f z - s.r) = nv at n0 n1 q ⊢
  have sm3 : Same H2 (upd H2 pn (.tup [V.int (rt U nv).1, V.int (rt U nv).2])) := Same.new hpn
  have hpn3 : RtA (upd H2 pn (.tup [V.int (rt U nv).1, V.int (rt U nv).2])) pn U nv := upd_same
  generalize upd H2 pn (.tup [V.int (rt U nv).1, V.int (rt U nv).2]) = H3 at sm3 hpn3 ⊢
  have hd3 := (hd1.same sm2).same sm3
  have kp3 : Kp (DuM q' x) H H3 := fun b o nb e => sm3 _ _ (sm2 _ _ (kp1 b o nb e))
  have p23 : RtsA H3 us1 U s.rs := (p2'.keep fun v e h => sm2 _ _ h).keep fun v e h => sm3 _ _ h
  refine ⟨xDues, dx1, fs1, sm3 _ _ (sm2 _ _ ho1), T.cl_Dues, T.n_Dues_rises, _, hf1.ri, x.rr, rfl, _, sm3 _ _ (sm2 _ _ p1), L, ?_, ?_⟩
  · unfold ixN
    rw [List.length_map, hL, if_neg (by omega), if_pos (by omega)]
    congr 1
    omega
  rw [← List.map_set]
  have hd4 := hd3.rise (p23.set (k := L) hpn3) (fun v hv => by
    rcases List.mem_or_eq_of_mem_set hv with h | h
    · exact hd.b.2.2 v h
    · rw [h]; exact ⟨n0, n1⟩) (by rw [List.length_set]; exact hd.l.2)
  have ka4 : RtA (upd H3 x.rr (.lst ((us1.set L pn).map V.ref))) a U (s.f z) := by
    show _ = _
    rw [upd_ne (ne_of (sm3 _ _ (sm2 _ _ ka1)) (sm3 _ _ (sm2 _ _ p1)) (by intro z; cases z))]; exact sm3 _ _ (sm2 _ _ ka1)
  have kp4 : Kp (DuM q' x) H (upd H3 x.rr (.lst ((us1.set L pn).map V.ref))) := fun b o nb e => by rw [upd_ne (fun k => nb (by rw [k]; simp [DuM]))]; exact kp3 b o nb e
  generalize upd H3 x.rr (.lst ((us1.set L pn).map V.ref)) = H4 at hd4 ka4 kp4 ⊢
  obtain ⟨dx4, fs4, ho4, hf4⟩ := hd4.o
  rename_i rest hrest
  subst hrest
  walk_at "go"
  refine ⟨xDues, dx4, fs4, ho4, T.cl_Dues, T.n_Dues_reached, by have := hf4.n; omega, ?_⟩
  walk_at "go"
  have hd5 := hd4.reach ho4 hf4 ka4 ⟨f0, f1⟩
  have eL : L = s.rs.length - 1 := by omega
  rw [eL] at hd5
  exact q a _ (fun b o nb e => by rw [upd_ne (fun k => nb (by rw [k]; simp [DuM]))]; exact kp4 b o nb e) hd5
theorem ok_Dues_came {f : Addr} {fd : FuncData} (F : Fun K "came" "Dues.came" s_Dues_came f fd) (T : Txt K mg xNotThere xCastError xStock xRule xDues) (D_Dues_owe : DefM P w K mg base (CXE P w) 5 xDues "owe" ["self", "name"] (sp57_owe K xDues xStock)) : FnOk P w K mg base (CXE P w) 6 f fd ["self", "name"] (sp57_owe K xDues xStock) := by
  have sc : FnScope ["self", "name"] ["self", "name"] (defScope s_Dues_came) := ⟨rfl, rfl, rfl, by decide +kernel, rfl, by decide +kernel, by decide +kernel⟩
  refine F.okE sc (fun vs H Q E h => ?_) (fun cdv A outer s H vs Q E hr h => ?_)
  · obtain ⟨q', p, n, U, x, s, z, ts, rfl, hd, hs, nd, hz, hzk, hU, hkl, hr1, q⟩ := h; rfl
  obtain ⟨q', p, n, U, x, s, z, ts, rfl, hd, hs, nd, hz, hzk, hU, hkl, hr1, q⟩ := h
  refine ⟨_, (@pss_one _ _ _ (ps_expr (pe_methS D_Dues_owe T.cl_Dues hr (passS pass_on) (pv 0) (pa_cons (pv 1) pa_nil)))), ?_⟩
  rw [show start ["self", "name"] [V.ref q', V.str z] = [some (V.ref q'), some (V.str z)] from rfl]
  have line := line_val
  obtain ⟨dx, fs, ho, hf⟩ := hd.o
  walk_at "go"
  exact ⟨dx, fs, ho, hf.m _ (by simp), p, n, U, x, s, hd, ts, hs, nd, hz, hzk, hU, hkl, hr1, fun H' kp hd' => q H' kp hd'⟩
theorem ok_Dues_level {f : Addr} {fd : FuncData} (F : Fun K "level" "Dues.level" s_Dues_level f fd) (T : Txt K mg xNotThere xCastError xStock xRule xDues)  : FnOk P w K mg base (CXE P w) 1 f fd ["self"] (sp57_level xDues) := by
  have sc : FnScope ["self"] ["self"] (defScope s_Dues_level) := ⟨rfl, rfl, rfl, by decide +kernel, rfl, by decide +kernel, by decide +kernel⟩
  refine F.okE sc (fun vs H Q E h => ?_) (fun cdv A outer s H vs Q E hr h => ?_)
  · obtain ⟨q', p, n, U, x, s, rfl, hd, q⟩ := h; rfl
  obtain ⟨q', p, n, U, x, s, rfl, hd, q⟩ := h
  refine ⟨_, (@pss_one _ _ _ (@ps_ret _ _ _ _ (pe_fld (pv 0) rfl))), ?_⟩
  rw [show start ["self"] [V.ref q'] = [some (V.ref q')] from rfl]
  obtain ⟨dx, fs, ho, hf⟩ := hd.o
  walk_at "go"
  exact ⟨xDues, dx, fs, ho, T.cl_Dues, T.n_Dues_reached, _, hf.re, q⟩
theorem ok_Dues_due_of {f : Addr} {fd : FuncData} (F : Fun K "due_of" "Dues.due_of" s_Dues_due_of f fd) (T : Txt K mg xNotThere xCastError xStock xRule xDues)  : FnOk P w K mg base (CXE P w) 1 f fd ["self", "name"] (sp57_due xDues xNotThere) := by
  have sc : FnScope ["self", "name"] ["self", "name"] (defScope s_Dues_due_of) := ⟨rfl, rfl, rfl, by decide +kernel, rfl, by decide +kernel, by decide +kernel⟩
  refine F.okE sc (fun vs H Q E h => ?_) (fun cdv A outer s H vs Q E hr h => ?_)
  · obtain ⟨q', p, n, U, x, s, z, rfl, hd, hrz, q, qe⟩ := h; rfl
  obtain ⟨q', p, n, U, x, s, z, rfl, hd, hrz, q, qe⟩ := h
  refine ⟨_, (@pss_cons _ _ _ _ _ (ps_if (pt_cmp (pc_dnotin (hu_of hr) (pv 1) (pe_fld (pv 0) rfl)))
      (@pss_one _ _ _ (ps_raise T.x_NotThere rfl rfl T.c_NotThere raises (pa_cons (pe_fstr (pj_cons (pe_fmtR (pv 1)) (pj_cons pe_str pj_nil))) pa_nil)))
      pss_nil)
    (@pss_one _ _ _ (@ps_ret _ _ _ _ (pe_dget (hu_of hr) (pe_fld (pv 0) rfl) (pv 1) (fun _ _ => rfl))))), ?_⟩
  rw [show start ["self", "name"] [V.ref q', V.str z] = [some (V.ref q'), some (V.str z)] from rfl]
  have line := line_val
  obtain ⟨dx, fs, ho, hf⟩ := hd.o
  obtain ⟨kvs, d1, d2, d3⟩ := hd.dd
  walk_at "go"
  refine ⟨xDues, dx, fs, ho, T.cl_Dues, T.n_Dues_dues, _, hf.du, x.dd, rfl, _, DGet.k (k := Sum.inr z) d1, ?_⟩
  rw [keys_val d2 z]
  by_cases hz : z ∈ s.ks
  · rw [if_neg (by simp [hz])]
    obtain ⟨a, k1, k2⟩ := d3 z hz
    rename_i rest hrest
    subst hrest
    walk_at "go"
    exact ⟨xDues, dx, fs, ho, T.cl_Dues, T.n_Dues_dues, _, hf.du, x.dd, rfl, _, by rw [← k1]; exact DGet.k (k := Sum.inr z) d1, q hz a k2⟩
  · rw [if_pos (by simp [hz])]
    have z0 : Str.empty.length = 0 := rfl
    have z1 : (Str.ofString " does not lie on the shelf").length = 26 := rfl
    have e1 : (Str.empty ++ reprText z).length ≤ sizeLine := by rw [len_app]; omega
    have e2 : (Str.empty ++ reprText z ++ Str.ofString " does not lie on the shelf").length ≤ sizeLine := by rw [len_app, len_app]; omega
    exact ⟨by omega, e1, e2, e2, by omega, fun e he => qe hz H e (Same.refl H) he⟩
theorem ok_Dues_prices {f : Addr} {fd : FuncData} (F : Fun K "prices" "Dues.prices" s_Dues_prices f fd) (T : Txt K mg xNotThere xCastError xStock xRule xDues)  : FnOk P w K mg base (CXE P w) 1 f fd ["self"] (sp57_prices xDues) := by
  have sc : FnScope ["self"] ["self"] (defScope s_Dues_prices) := ⟨rfl, rfl, rfl, by decide +kernel, rfl, by decide +kernel, by decide +kernel⟩
  refine F.okE sc (fun vs H Q E h => ?_) (fun cdv A outer s H vs Q E hr h => ?_)
  · obtain ⟨q', p, n, U, x, s, rfl, hd, q⟩ := h; rfl
  obtain ⟨q', p, n, U, x, s, rfl, hd, q⟩ := h
  refine ⟨_, (@pss_one _ _ _ (@ps_ret _ _ _ _ (pe_callTy call_list_of rfl T.z_list (by first | rfl | decide +kernel) (pa_cons (pe_fld (pv 0) rfl) pa_nil)))), ?_⟩
  rw [show start ["self"] [V.ref q'] = [some (V.ref q')] from rfl]
  have line := line_val
  obtain ⟨dx, fs, ho, hf⟩ := hd.o
  obtain ⟨us, r1, r2⟩ := hd.rr
  walk_at "go"
  exact ⟨xDues, dx, fs, ho, T.cl_Dues, T.n_Dues_rises, _, hf.ri, x.rr, rfl, _, .inl (SqL.of r1), fun l hl => q l us hl r2⟩
theorem ok_l_cell {f : Addr} {fd : FuncData} (F : Fun K "_law_cell" "_law_cell" s_l_cell f fd) (T : Txt K mg xNotThere xCastError xStock xRule xDues)  : FnOk P w K mg base (CXE P w) 1 f fd ["_law_script", "_law_k"] (sp_cell K) := by
  have sc : FnScope ["_law_script", "_law_k"] ["_law_script", "_law_k"] (defScope s_l_cell) := ⟨rfl, rfl, rfl, by decide +kernel, rfl, by decide +kernel, by decide +kernel⟩
  refine F.okE sc (fun vs H Q E h => ?_) (fun cdv A outer s H vs Q E hr h => ?_)
  · obtain ⟨a, ns, k, rfl, hS, h0, hl, q⟩ := h; rfl
  obtain ⟨a, ns, k, rfl, hS, h0, hl, q⟩ := h
  refine ⟨_, (@pss_cons _ _ _ _ _ (ps_if (pt_cmpR op_lt (pv 1) (pe_callB call_len_seq rfl T.z_len PySem.boot_len (pa_cons (pv 0) pa_nil)) (nomark _))
      (@pss_one _ _ _ (@ps_ret _ _ _ _ (@pe_ix _ _ _ _ _ _ _ ix_list (pv 0) (pv 1) (fun _ _ => rfl))))
      pss_nil)
    (@pss_one _ _ _ (@ps_ret _ _ _ _ pe_int))), ?_⟩
  rw [show start ["_law_script", "_law_k"] [V.ref a, V.int k] = [some (V.ref a), some (V.int k)] from rfl]
  walk_at "go"
  rw [List.length_map]
  split
  · rename_i hk
    exact ixL_of hS (atI_of h0 (getMap (by omega))) q
  · rename_i hk
    rw [List.getD_eq_getElem?_getD, List.getElem?_eq_none (by omega)] at q
    walk_at "go"
    exact q
theorem ok_l_stream {f : Addr} {fd : FuncData} (F : Fun K "_law_stream" "_law_stream" s_l_stream f fd) (T : Txt K mg xNotThere xCastError xStock xRule xDues)  : FnOk P w K mg base (CXE P w) 1 f fd ["_law_cell_here", "_law_many"] (sp20_stream) := by
  have sc : FnScope ["_law_cell_here", "_law_many", "_law_found", "_law_number", "_law_k"] ["_law_cell_here", "_law_many"] (defScope s_l_stream) := ⟨rfl, rfl, rfl, by decide +kernel, rfl, by decide +kernel, by decide +kernel⟩
  refine F.okE sc (fun vs H Q E h => ?_) (fun cdv A outer s H vs Q E hr h => ?_)
  · obtain ⟨c, m, rfl, hm, q⟩ := h; rfl
  obtain ⟨c, m, rfl, hm, q⟩ := h
  refine ⟨_, (@pss_cons _ _ _ _ _ (ps_set (i := 2) sc.nd rfl (Or.inl rfl) (@pe_lst _ _ _ _ pa_nil))
    (@pss_cons _ _ _ _ _ (ps_set (i := 3) sc.nd rfl (Or.inl rfl) (pe_op op_add (pe_op op_mod (pv 0) pe_int) pe_int))
    (@pss_cons _ _ _ _ _ (ps_for own_out rfl (pi_range1 rfl T.z_range (pa_cons (pv 1) pa_nil)) (pg_name (i := 4) sc.nd rfl (Or.inl rfl))
      (@pss_cons _ _ _ _ _ (ps_set (i := 3) sc.nd rfl (Or.inl rfl) (pe_op op_mod (pe_op op_add (pe_op op_add (pe_op op_mul (pv 3) pe_int) (pe_op op_mul pe_int (pv 4))) pe_int) pe_int))
      (@pss_one _ _ _ (ps_expr (pe_bm PySem.F.plainAttrs_list PySem.F.slot_list_append PySem.F.type_list_append mt_append (pv 2) (pa_cons (pe_op op_fdiv (pv 3) pe_int) pa_nil))))))
    (@pss_one _ _ _ (@ps_ret _ _ _ _ (pv 2)))))), ?_⟩
  rw [show start ["_law_cell_here", "_law_many", "_law_found", "_law_number", "_law_k"] [V.int c, V.int m] = [some (V.int c), some (V.int m), none, none, none] from rfl]
  have line := line_val
  have hx0 := Int.emod_nonneg c (show (2147483629 : Int) ≠ 0 by decide)
  have hx1 := Int.emod_lt_of_pos c (show (0 : Int) < 2147483629 by decide)
  walk_at "go"
  intro p hp
  rename_i rest hrest
  subst hrest
  walk_at "go"
  refine forR_by (fun k σ H' => ∃ (nu : Int) (v4 : Option V) (xs : List Int), σ = [some (V.int c), some (V.int m), some (V.ref p), some (V.int nu), v4] ∧ 0 ≤ nu ∧ nu < 10 ^ 10 ∧ H' = upd H p (.lst (xs.map V.int)) ∧ xs.length ≤ k ∧ k ≤ xs.length ∧ ∀ x ∈ xs, 0 ≤ x) ⟨_, none, [], rfl, by omega, by omega, rfl, Nat.le_refl _, Nat.le_refl _, by simp⟩ ?_ ?_
  · rintro k σ H' hk ⟨nu, v4, xs, rfl, h0, h1, rfl, hl1, hl2, hxs⟩
    walk_at "go"
    have hy0 := Int.emod_nonneg (nu * 48271 + 7919 * (k : Int) + 1) (show (2147483647 : Int) ≠ 0 by decide)
    have hy1 := Int.emod_lt_of_pos (nu * 48271 + 7919 * (k : Int) + 1) (show (0 : Int) < 2147483647 by decide)
    generalize (nu * 48271 + 7919 * (k : Int) + 1) % 2147483647 = u at hy0 hy1 ⊢
    refine ⟨.inl ⟨rfl, _, SqL.of upd_same⟩, cdiv_of (by decide) (by decide), p, _, _, rfl, rfl, upd_same, by rw [List.length_map]; omega, by omega, by omega, xs ++ [u / 5], ?_, by rw [List.length_append]; simp only [List.length_cons, List.length_nil]; omega, by rw [List.length_append]; simp only [List.length_cons, List.length_nil]; omega, fun x hx => ?_⟩
    · rw [upd_upd, List.map_append]; rfl
    · rcases List.mem_append.mp hx with hx | hx
      · exact hxs x hx
      · rw [List.mem_singleton.mp hx]; omega
  · rintro σ H' ⟨nu, v4, xs, rfl, h0, h1, rfl, hl1, hl2, hxs⟩
    walk_at "go"
    exact q p xs _ hp (Same.new hp) upd_same (by omega) hxs
theorem ok_l_names {f : Addr} {fd : FuncData} (F : Fun K "_law_names" "_law_names" s_l_names f fd) (T : Txt K mg xNotThere xCastError xStock xRule xDues)  : FnOk P w K mg base (CXE P w) 1 f fd ["_law_cell_here", "_law_many"] (sp20_names) := by
  have sc : FnScope ["_law_cell_here", "_law_many", "_law_signs", "_law_tail", "_law_size", "_law_at", "_law_base", "_law_names_here", "_law_k", "_law_sign"] ["_law_cell_here", "_law_many"] (defScope s_l_names) := ⟨rfl, rfl, rfl, by decide +kernel, rfl, by decide +kernel, by decide +kernel⟩
  refine F.okE sc (fun vs H Q E h => ?_) (fun cdv A outer s H vs Q E hr h => ?_)
  · obtain ⟨c, m, rfl, hm, q⟩ := h; rfl
  obtain ⟨c, m, rfl, hm, q⟩ := h
  refine ⟨_, (@pss_cons _ _ _ _ _ (ps_set (i := 2) sc.nd rfl (Or.inr rfl) pe_str)
    (@pss_cons _ _ _ _ _ (ps_set (i := 3) sc.nd rfl (Or.inr rfl) (pe_bm PySem.F.plainAttrs_str PySem.F.slot_str_join PySem.F.type_str_join mt_join pe_str (pa_cons (pe_comp1 "_law_k" [2, 0] rfl rfl (pi_range2 rfl T.z_range (pa_cons pe_int (pa_cons pe_int pa_nil))) (fun b => (@pe_ix _ _ _ _ _ _ _ ix_str (pv 1) (pe_op op_mod (pe_op op_add (pe_op op_fdiv (pv 2) pe_int) (pe_op op_mulH (pe_op op_mul pe_int (pv 0)) (pv 0))) pe_int) (fun _ _ => rfl)))) pa_nil)))
    (@pss_cons _ _ _ _ _ (ps_if (pt_cmpR op_eq (pe_op op_mod (pv 0) pe_int) pe_int (nomark _))
      (@pss_one _ _ _ (@ps_ret _ _ _ _ (pe_comp1 "_law_k" [2, 3, 0] rfl rfl (pi_range1 rfl T.z_range (pa_cons (pv 1) pa_nil)) (fun b => (pe_op op_add_str (@pe_ix _ _ _ _ _ _ _ ix_str (pv 1) (pe_op op_mod (pe_op op_add (pe_op op_fdiv (pv 3) pe_int) (pe_op op_fdiv (pv 0) pe_int)) pe_int) (fun _ _ => rfl)) (pe_slice sl_str (pv 2) po_none (po_some (pe_op op_mod (pv 0) pe_int))))))))
      pss_nil)
    (@pss_cons _ _ _ _ _ (ps_set (i := 4) sc.nd rfl (Or.inl rfl) (pe_op op_add pe_int (pe_op op_mod (pe_op op_fdiv (pv 0) pe_int) pe_int)))
    (@pss_cons _ _ _ _ _ (ps_set (i := 5) sc.nd rfl (Or.inl rfl) (pe_op op_mod (pe_op op_fdiv (pv 0) pe_int) (pv 4)))
    (@pss_cons _ _ _ _ _ (ps_set (i := 6) sc.nd rfl (Or.inl rfl) (pe_op op_add_str (@pe_ix _ _ _ _ _ _ _ ix_str (pv 2) (pe_op op_mod (pe_op op_fdiv (pv 0) pe_int) pe_int) (fun _ _ => rfl)) (pe_slice sl_str (pv 3) po_none (po_some (pe_op op_sub (pv 4) pe_int)))))
    (@pss_cons _ _ _ _ _ (ps_set (i := 7) sc.nd rfl (Or.inl rfl) (@pe_lst _ _ _ _ pa_nil))
    (@pss_cons _ _ _ _ _ (ps_for own_out rfl (pi_range1 rfl T.z_range (pa_cons (pv 1) pa_nil)) (pg_name (i := 8) sc.nd rfl (Or.inl rfl))
      (@pss_cons _ _ _ _ _ (ps_set (i := 9) sc.nd rfl (Or.inl rfl) (@pe_ix _ _ _ _ _ _ _ ix_str (pv 2) (pe_op op_mod (pe_op op_add (pe_op op_fdiv (pv 0) pe_int) (pv 8)) pe_int) (fun _ _ => rfl)))
      (@pss_one _ _ _ (ps_expr (pe_bm PySem.F.plainAttrs_list PySem.F.slot_list_append PySem.F.type_list_append mt_append (pv 7) (pa_cons (pe_op op_add_str (pe_op op_add_str (pe_op op_add_str (pe_slice sl_str (pv 6) po_none (po_some (pv 5))) (pv 9)) (pe_slice sl_str (pv 6) (po_some (pe_op op_add (pv 5) pe_int)) po_none)) (pe_slice sl_str pe_str po_none (po_some (pe_op op_fdiv (pv 8) pe_int)))) pa_nil))))))
    (@pss_one _ _ _ (@ps_ret _ _ _ _ (pv 7))))))))))), ?_⟩
  rw [show start ["_law_cell_here", "_law_many", "_law_signs", "_law_tail", "_law_size", "_law_at", "_law_base", "_law_names_here", "_law_k", "_law_sign"] [V.int c, V.int m] = [some (V.int c), some (V.int m), none, none, none, none, none, none, none, none] from rfl]
  have line := line_val
  have bl := both_length
  walk_at "go"
  refine compR_pure (n := 7) (fun k => V.str ⟨#[bc ((c / 36 + 5 * k * k) % 36)]⟩) (by omega) (fun b k H' Q' hk sm q' => ?_) fun D hD => ?_
  · walk_at "go"
    refine ⟨⟨by omega, by omega⟩, by decide, ixS_of (by omega) (ix_bc _ (by decide) (by decide)) q'⟩
  have etl : (List.range 7).map (fun i : Nat => V.str ⟨#[bc ((c / 36 + 5 * (1 + (i : Int)) * (1 + (i : Int))) % 36)]⟩) = (((List.range 7).map fun j : Nat => bc ((c / 36 + 5 * (1 + (j : Int)) * (1 + (j : Int))) % 36)).map fun c => (⟨#[c]⟩ : Str)).map V.str := by
    rw [List.map_map, List.map_map]; rfl
  rw [etl]
  clear etl
  have htl : ((List.range 7).map fun j : Nat => bc ((c / 36 + 5 * (1 + (j : Int)) * (1 + (j : Int))) % 36)).length = 7 ∧ True := ⟨by rw [List.length_map, List.length_range], trivial⟩
  have hnm1 : ∀ k, nm1 (c / 4) (fun j : Nat => c / 36 + 5 * (1 + (j : Int)) * (1 + (j : Int))) k = bc ((c / 4 + k / 8) % 26) :: ((List.range 7).map fun j : Nat => bc ((c / 36 + 5 * (1 + (j : Int)) * (1 + (j : Int))) % 36)).take (k % 8) := fun k => rfl
  have hnd : ((List.range m).map fun k => tx (nm1 (c / 4) (fun j : Nat => c / 36 + 5 * (1 + (j : Int)) * (1 + (j : Int))) k)).Nodup := tx_nodup fun a b ha hb e => nm1_inj (by omega) (by omega) e
  have hnn : ∀ k, nameB (nm1 (c / 4) (fun j : Nat => c / 36 + 5 * (1 + (j : Int)) * (1 + (j : Int))) k) = true := fun k => nm1_name
  have htc : ∀ x ∈ (List.range 7).map (fun j : Nat => bc ((c / 36 + 5 * (1 + (j : Int)) * (1 + (j : Int))) % 36)), x ∈ letters ++ figures := fun x hx => by
    obtain ⟨j, _, rfl⟩ := List.mem_map.mp hx
    exact bc_both
  generalize nm1 (c / 4) (fun j : Nat => c / 36 + 5 * (1 + (j : Int)) * (1 + (j : Int))) = N at hnm1 hnd hnn
  generalize (List.range 7).map (fun j : Nat => bc ((c / 36 + 5 * (1 + (j : Int)) * (1 + (j : Int))) % 36)) = tl at htl hnm1 htc ⊢
  have hsum : ((tl.map fun c => (⟨#[c]⟩ : Str)).map (·.length)).sum ≤ 7 := by
    rw [List.map_map, show ((·.length) ∘ fun c => (⟨#[c]⟩ : Str)) = fun _ => 1 from rfl, List.map_const', htl.1]
    decide
  refine ⟨D, rfl, tl.map fun c => (⟨#[c]⟩ : Str), SqL.of upd_same, ?_, ?_⟩
  · have e0 : (Str.ofString "").length = 0 := by decide +kernel
    rw [e0]; omega
  rw [N20.join_ones]
  have smD : Same H (upd H D (.lst ((tl.map fun c => (⟨#[c]⟩ : Str)).map V.str))) := Same.new hD
  generalize upd H D (.lst ((tl.map fun c => (⟨#[c]⟩ : Str)).map V.str)) = H1 at smD ⊢
  clear hD hsum
  rename_i rest hrest
  subst hrest
  walk_at "go"
  split
  · walk_at "go"
    have hzl : (tx tl).length = 7 ∧ True := ⟨by rw [T_len]; exact htl.1, trivial⟩
    refine compR_pure (fun k => V.str (tx (N k.toNat))) (by omega) (fun b k H' Q' hk sm q' => ?_) fun D hD => ?_
    · have hl7 := htl.1
      walk_at "go"
      refine ixS_of (by omega) (ix_bc _ (by decide) (by decide)) ⟨by decide, by omega, _, rfl, ?_⟩
      rw [slice_to (by omega) (by omega)]
      refine ⟨by rw [len_one, T_len, List.length_take]; omega, ?_⟩
      rw [T_one, T_app, show ((k : Int) % 8).toNat = k % 8 by omega]
      rw [Int.zero_add, Int.toNat_natCast, hnm1] at q'
      exact q'
    · have e : (List.range m).map (fun k : Nat => V.str (tx (N (0 + (k : Int)).toNat))) = ((List.range m).map fun k => tx (N k)).map V.str := by
        rw [List.map_map]
        refine List.map_congr_left fun k _ => ?_
        rw [Int.zero_add, Int.toNat_natCast]
        rfl
      rw [e]
      refine q D ((List.range m).map fun k => tx (N k)) _ (same_none smD hD) (smD.trans (Same.new hD)) upd_same (by simp) hnd fun y hy => ?_
      obtain ⟨k, _, rfl⟩ := List.mem_map.mp hy
      rw [T_list]
      exact hnn k
  · clear hnm1 hnd hnn N
    have hs1 : 1 ≤ (1 + c / 4 % 6).toNat := by omega
    have hs6 : (1 + c / 4 % 6).toNat ≤ 6 := by omega
    have h8 : (1 + c / 4 % 6) = ((1 + c / 4 % 6).toNat : Int) := by omega
    walk_at "go"
    rw [h8]
    clear h8
    generalize (1 + c / 4 % 6).toNat = sz at hs1 hs6 ⊢
    have ha0 := Int.emod_nonneg (c / 24) (show (sz : Int) ≠ 0 by omega)
    have ha1 := Int.emod_lt_of_pos (c / 24) (show (0 : Int) < sz by omega)
    generalize c / 24 % (sz : Int) = at0 at ha0 ha1 ⊢
    obtain ⟨at', rfl⟩ : ∃ at' : Nat, at0 = at' := ⟨at0.toNat, by omega⟩
    have hl7 := htl.1
    have hzl : (tx tl).length = 7 ∧ True := ⟨by rw [T_len]; exact htl.1, trivial⟩
    refine ixS_of (by omega) (ix_bc _ (by decide) (by decide)) ⟨by omega, _, rfl, ?_⟩
    rw [slice_to (by omega) (by omega), show ((sz : Int) - 1).toNat = sz - 1 by omega]
    refine ⟨by rw [len_one, T_len, List.length_take]; omega, ?_⟩
    rw [T_one, T_app]
    have hBl : ([bc (c / 36 % 26)] ++ tl.take (sz - 1)).length = sz ∧ True := ⟨by rw [List.length_append, List.length_take]; simp only [List.length_cons, List.length_nil]; omega, trivial⟩
    have hBc : ∀ x ∈ [bc (c / 36 % 26)] ++ tl.take (sz - 1), x ∈ letters ++ figures := fun x hx => by
      rcases List.mem_append.mp hx with hx | hx
      · rw [List.mem_singleton.mp hx]; exact List.mem_append_left _ bc_let
      · exact htc x (List.mem_of_mem_take hx)
    have hBh : ∃ d r, [bc (c / 36 % 26)] ++ tl.take (sz - 1) = d :: r ∧ d ∈ letters := ⟨_, _, rfl, bc_let⟩
    generalize [bc (c / 36 % 26)] ++ tl.take (sz - 1) = B at hBl hBc hBh ⊢
    have hB1 := hBl.1
    rename_i rest hrest
    subst hrest
    walk_at "go"
    intro p hp
    rename_i rest hrest
    subst hrest
    walk_at "go"
    rename_i rest hrest
    refine forR_by (fun k σ H' => ∃ (v8 v9 : Option V), σ = [some (V.int c), some (V.int m), some (V.str (Str.ofString "abcdefghijklmnopqrstuvwxyz0123456789")), some (V.str (tx tl)), some (V.int sz), some (V.int at'), some (V.str (tx B)), some (V.ref p), v8, v9] ∧ H' = upd H1 p (.lst (((List.range k).map fun k => tx (nm3 B at' (c / 1296) k)).map V.str))) ⟨none, none, rfl, rfl⟩ ?_ ?_
    · clear hrest
      rintro k σ H' hk ⟨v8, v9, rfl, rfl⟩
      have hlen : (((List.range k).map fun k => tx (nm3 B at' (c / 1296) k)).map V.str).length = k ∧ True := ⟨by simp, trivial⟩
      have hlen1 := hlen.1
      have hBt : (tx B).length = sz ∧ True := ⟨by rw [T_len]; exact hB1, trivial⟩
      have hBt1 := hBt.1
      rw [List.range_succ, List.map_append, List.map_append]
      generalize hz : (((List.range k).map fun k => tx (nm3 B at' (c / 1296) k)).map V.str) = zs at hlen1 ⊢
      clear hz hlen hBt
      walk_at "go"
      refine ixS_of (by omega) (ix_bc _ (by decide) (by decide)) ?_
      rename_i rest hrest
      subst hrest
      walk_at "go"
      have e1 : Txt.slice (tx B) none (some (at' : Int)) = tx (B.take at') := slice_to (by omega) (by omega)
      have e2 : Txt.slice (tx B) (some ((at' : Int) + 1)) none = tx (B.drop (at' + 1)) := by
        have := slice_from (l := B) (n := (at' : Int) + 1) (by omega) (by omega)
        rw [show ((at' : Int) + 1).toNat = at' + 1 by omega] at this
        exact this
      have e3 : Txt.slice (Str.ofString "zz") none (some ((k : Int) / 26)) = tx (List.replicate (k / 26) 122) := zz_slice (by omega)
      rw [e1, e2, e3]
      have z2 : (Str.ofString "zz").length = 2 := by decide +kernel
      have l1 : (tx (B.take at')).length ≤ 6 := by rw [T_len, List.length_take]; omega
      have l2 : (tx (B.drop (at' + 1))).length ≤ 6 := by rw [T_len, List.length_drop]; omega
      have l3 : (tx (List.replicate (k / 26) 122)).length ≤ 6 := by rw [T_len, List.length_replicate]; omega
      refine ⟨.inl ⟨rfl, _, SqL.of upd_same⟩, by omega, by rw [len_one]; omega, by omega, by rw [len_app, len_one]; omega, cdiv_of (by decide) (by decide), by omega, by rw [len_app, len_app, len_one]; omega, p, _, _, rfl, rfl, upd_same, by omega, ?_⟩
      rw [upd_upd, T_one, T_app, T_app, T_app]
      rfl
    · rintro σ H' ⟨v8, v9, rfl, rfl⟩
      subst hrest
      walk_at "go"
      exact q p ((List.range m).map fun k => tx (nm3 B at' (c / 1296) k)) _ (same_none smD hp) (smD.trans (Same.new hp)) upd_same (by simp) (tx_nodup fun a b ha hb e => nm3_inj (by omega) e) (fun y hy => by
        obtain ⟨k, hk, rfl⟩ := List.mem_map.mp hy
        rw [T_list]
        exact nm3_name (by omega) (by omega) (by have := List.mem_range.mp hk; omega) hBc hBh)
theorem ok_l_rows {f : Addr} {fd : FuncData} (F : Fun K "_law_rows" "_law_rows" s_l_rows f fd) (T : Txt K mg xNotThere xCastError xStock xRule xDues) (D_l_cell : Def P w K mg base (CXE P w) 1 "_law_cell" ["_law_script", "_law_k"] (sp_cell K)) (D_l_names : Def P w K mg base (CXE P w) 1 "_law_names" ["_law_cell_here", "_law_many"] (sp20_names)) (D_l_stream : Def P w K mg base (CXE P w) 1 "_law_stream" ["_law_cell_here", "_law_many"] (sp20_stream)) : FnOk P w K mg base (CXE P w) 2 f fd ["_law_script"] (sp57_rows K) := by
  have sc : FnScope ["_law_script", "_law_cell_here", "_law_many", "_law_names_here", "_law_wide", "_law_xs"] ["_law_script"] (defScope s_l_rows) := ⟨rfl, rfl, rfl, by decide +kernel, rfl, by decide +kernel, by decide +kernel⟩
  refine F.okE sc (fun vs H Q E h => ?_) (fun cdv A outer s H vs Q E hr h => ?_)
  · obtain ⟨a, ns, rfl, hS, hl, q⟩ := h; rfl
  obtain ⟨a, ns, rfl, hS, hl, q⟩ := h
  refine ⟨_, (@pss_cons _ _ _ _ _ (ps_set (i := 1) sc.nd rfl (Or.inl rfl) (pe_callD D_l_cell hr rfl pass_on (pa_cons (pv 0) (pa_cons pe_int pa_nil))))
    (@pss_cons _ _ _ _ _ (ps_set (i := 2) sc.nd rfl (Or.inr rfl) (pe_op op_add pe_int (pe_op op_mod (pv 1) pe_int)))
    (@pss_cons _ _ _ _ _ (ps_if (pt_cmpR op_eq (pe_op op_mod (pe_op op_fdiv (pv 1) pe_int) pe_int) pe_int (nomark _))
      (@pss_one _ _ _ (ps_set (i := 2) sc.nd rfl (Or.inr rfl) (pe_op op_add pe_int (pe_op op_mod (pe_op op_fdiv (pv 1) pe_int) pe_int))))
      pss_nil)
    (@pss_cons _ _ _ _ _ (ps_set (i := 3) sc.nd rfl (Or.inr rfl) (pe_callD D_l_names hr rfl pass_on (pa_cons (pe_callD D_l_cell hr rfl pass_on (pa_cons (pv 0) (pa_cons pe_int pa_nil))) (pa_cons (pv 2) pa_nil))))
    (@pss_cons _ _ _ _ _ (ps_set (i := 4) sc.nd rfl (Or.inr rfl) (@pe_ix _ _ _ _ _ _ _ ix_list (@pe_lst _ _ _ _ (pa_cons pe_int (pa_cons pe_int (pa_cons pe_int pa_nil)))) (pe_op op_mod (pe_callD D_l_cell hr rfl pass_on (pa_cons (pv 0) (pa_cons pe_int pa_nil))) pe_int) (fun _ _ => rfl)))
    (@pss_cons _ _ _ _ _ (ps_set (i := 5) sc.nd rfl (Or.inr rfl) (pe_callD D_l_stream hr rfl pass_on (pa_cons (pe_callD D_l_cell hr rfl pass_on (pa_cons (pv 0) (pa_cons pe_int pa_nil))) (pa_cons (pe_op op_mul pe_int (pv 2)) pa_nil))))
    (@pss_one _ _ _ (@ps_ret _ _ _ _ (pe_comp1 "_law_k" [3, 5, 4, 2] rfl rfl (pi_range1 rfl T.z_range (pa_cons (pv 2) pa_nil)) (fun b => (pe_tup (pa_cons (@pe_ix _ _ _ _ _ _ _ ix_list (pv 1) (pv 0) (fun _ _ => rfl)) (pa_cons (pe_op op_mod (@pe_ix _ _ _ _ _ _ _ ix_list (pv 2) (pv 0) (fun _ _ => rfl)) pe_int) (pa_cons (pe_op op_add pe_int (pe_op op_mod (@pe_ix _ _ _ _ _ _ _ ix_list (pv 2) (pe_op op_add (pv 4) (pv 0)) (fun _ _ => rfl)) (pv 3))) pa_nil)))))))))))))), ?_⟩
  rw [show start ["_law_script", "_law_cell_here", "_law_many", "_law_names_here", "_law_wide", "_law_xs"] [V.ref a] = [some (V.ref a), none, none, none, none, none] from rfl]
  have line := line_val
  walk_at "go"
  rename_i rest hrest
  have key : ∀ m : Nat, 1 ≤ m → m ≤ 60 → rest [some (V.ref a), some (V.int (ns.getD 0 0)), some (V.int m), none, none, none] H := by
    intro m hm1 hm2
    subst hrest
    walk_at "go"
    refine ⟨m, rfl, hm2, fun np ys H1 hnp sm1 hny hyl ynd hyn => ?_⟩
    have hyl1 := Nat.le_of_eq hyl
    have hyl2 := Nat.le_of_eq hyl.symm
    have hnames : ∀ xs w, (mkTs ys xs m w).map (·.1) = ys := fun xs w => mkTs_names hyl
    clear hyl
    have hS1 := sm1.seq hS
    rename_i rest hrest
    subst hrest
    walk_at "go"
    intro wp hwp
    refine ⟨ns, (Same.new hwp).seq hS1, by decide, hl, by decide, ?_⟩
    obtain ⟨v, hv, hM⟩ := atI_in (xs := [V.int 1, V.int 4, V.int 1000]) (i := ns.getD 2 0 % 3) (by omega) (by simp; omega)
    refine ixL_of (SqL.of upd_same) hv ?_
    obtain ⟨mo, rfl, hmo1, hmo2⟩ : ∃ mo : Int, v = V.int mo ∧ 1 ≤ mo ∧ mo ≤ 1000 := by
      simp only [List.mem_cons, List.not_mem_nil, or_false] at hM
      rcases hM with rfl | rfl | rfl
      · exact ⟨1, rfl, by decide, by decide⟩
      · exact ⟨4, rfl, by decide, by decide⟩
      · exact ⟨1000, rfl, by decide, by decide⟩
    have sm2 := sm1.trans (Same.new (o := .lst [V.int 1, V.int 4, V.int 1000]) hwp)
    have hny2 := Same.new (o := .lst [V.int 1, V.int 4, V.int 1000]) hwp _ _ hny
    generalize upd H1 wp (.lst [V.int 1, V.int 4, V.int 1000]) = H2 at sm2 hny2 ⊢
    clear hv hM hny hS1 sm1 hwp hnp
    have hS2 := sm2.seq hS
    rename_i rest hrest
    subst hrest
    walk_at "go"
    refine ⟨2 * m, by omega, by omega, fun xp xs H3 hxp sm3 hx3 hxl hx0 => ?_⟩
    have hxl2 := Nat.le_of_eq hxl.symm
    clear hxl
    have sm03 := sm2.trans sm3
    have hny3 := sm3 _ _ hny2
    rename_i rest hrest
    subst hrest
    walk_at "go"
    refine compR_mk (n := m) (fun i y H => ∃ t, y = V.ref t ∧ SqT K H t [.str ((mkTs ys xs m mo).getD i th0).1, .int ((mkTs ys xs m mo).getD i th0).2.1, .int ((mkTs ys xs m mo).getD i th0).2.2]) (fun i y H H' l zs ⟨t, e, h⟩ hl sb => ⟨t, e, SqT.butL sb hl h⟩) (by omega) (fun b i H4 Q' hi sm4 q' => ?_) fun D yl H4 hD sm4 hD4 hyl4 hall => ?_
    · have hny4 := sm4 _ _ hny3
      have hx4 := sm4 _ _ hx3
      rw [mkTs_at hi] at q'
      have g1 := N41.getD_s (ys := ys) (k := i) (by omega)
      have g2 := int_at (xs := xs) (i := i) (by omega)
      have g3 := int_at (xs := xs) (i := m + i) (by omega)
      walk_at "go"
      refine ixL_of (SqL.of hny4) (v := V.str (ys.getD i Str.empty)) (atI_nat (by rw [List.getElem?_map, g1]; rfl)) ?_
      refine ixL_of (SqL.of hx4) (v := V.int (xs.getD i 0)) (atI_nat (by rw [List.getElem?_map, g2]; rfl)) ⟨_, rfl, by decide, ?_⟩
      rw [show (m : Int) + (i : Int) = ((m + i : Nat) : Int) by omega]
      refine ixL_of (SqL.of hx4) (v := V.int (xs.getD (m + i) 0)) (atI_nat (by rw [List.getElem?_map, g3]; rfl)) ⟨_, rfl, by omega, by omega, fun p hp => ?_⟩
      exact q' _ _ (Same.new hp) ⟨p, rfl, SqT.of upd_same⟩
    · have hok : ∀ t ∈ mkTs ys xs m mo, nameB t.1.cps.toList = true ∧ 0 ≤ t.2.1 ∧ t.2.1 ≤ 10 ^ 30 ∧ 1 ≤ t.2.2 ∧ t.2.2 ≤ 1000 := fun t ht => by
        have hin : t.1 ∈ ys := by rw [← hnames xs mo]; exact List.mem_map.mpr ⟨t, ht, rfl⟩
        have hnn := hyn _ hin
        unfold mkTs at ht
        obtain ⟨k, _, rfl⟩ := List.mem_map.mp ht
        have f0 := Int.emod_nonneg (xs.getD (m + k) 0) (show mo ≠ 0 by omega)
        have f1 := Int.emod_lt_of_pos (xs.getD (m + k) 0) (show 0 < mo by omega)
        exact ⟨hnn, by show 0 ≤ xs.getD k 0 % 1000; omega, by show xs.getD k 0 % 1000 ≤ 10 ^ 30; omega, by show 1 ≤ 1 + xs.getD (m + k) 0 % mo; omega, by show 1 + xs.getD (m + k) 0 % mo ≤ 1000; omega⟩
      obtain ⟨as, rfl, hR⟩ := rows_ts (K := K) hD4 (by rw [hyl4, mkTs_len]) (by rw [mkTs_len]; exact hm2) (by rw [hnames]; exact ynd) hok hall
      exact q D as _ _ (sm03.trans sm4) hD4 hR (by rw [mkTs_len]; exact hm1) fun t ht => by
        unfold mkTs at ht
        obtain ⟨k, _, rfl⟩ := List.mem_map.mp ht
        show xs.getD k 0 % 1000 < 1000
        omega
  clear hrest
  split
  · have k := key (20 + ns.getD 0 0 / 72 % 41).toNat (by omega) (by omega)
    rw [show (((20 + ns.getD 0 0 / 72 % 41).toNat : Nat) : Int) = 20 + ns.getD 0 0 / 72 % 41 by omega] at k
    exact ⟨cdiv_of (by decide) (by decide), by decide, k⟩
  · have k := key (1 + ns.getD 0 0 % 8).toNat (by omega) (by omega)
    rw [show (((1 + ns.getD 0 0 % 8).toNat : Nat) : Int) = 1 + ns.getD 0 0 % 8 by omega] at k
    exact k
theorem ok_l_places {f : Addr} {fd : FuncData} (F : Fun K "_law_places" "_law_places" s_l_places f fd) (T : Txt K mg xNotThere xCastError xStock xRule xDues)  : FnOk P w K mg base (CXE P w) 1 f fd ["_law_rows_here", "_law_cell_here"] (sp20_places K) := by
  have sc : FnScope ["_law_rows_here", "_law_cell_here", "_law_rooms_here"] ["_law_rows_here", "_law_cell_here"] (defScope s_l_places) := ⟨rfl, rfl, rfl, by decide +kernel, rfl, by decide +kernel, by decide +kernel⟩
  refine F.okE sc (fun vs H Q E h => ?_) (fun cdv A outer s H vs Q E hr h => ?_)
  · obtain ⟨r, c, as, ts, rfl, hR, h1, q⟩ := h; rfl
  obtain ⟨r, c, as, ts, rfl, hR, h1, q⟩ := h
  refine ⟨_, (@pss_cons _ _ _ _ _ (ps_comp1 (i := 2) "_law_row" [] sc.nd rfl rfl rfl rfl (pi_list (pv 0)) (fun b => (@pe_ix _ _ _ _ _ _ _ ix_tup (pv 0) pe_int (fun _ _ => rfl))))
    (@pss_cons _ _ _ _ _ (ps_if (pt_cmpR op_eq (pe_op op_mod (pe_op op_fdiv (pv 1) pe_int) pe_int) pe_int (nomark _))
      (@pss_one _ _ _ (@ps_ret _ _ _ _ (pe_op op_pow pe_int pe_int)))
      pss_nil)
    (@pss_one _ _ _ (@ps_ret _ _ _ _ (pe_op op_add (pe_callB (call_maxL rfl) rfl T.z_max (by first | rfl | decide +kernel) (pa_cons (pv 2) pa_nil)) (pe_op op_mod (pv 1) (pe_callB (call_sumL rfl) rfl T.z_sum (by first | rfl | decide +kernel) (pa_cons (pv 2) pa_nil)))))))), ?_⟩
  rw [show start ["_law_rows_here", "_law_cell_here", "_law_rooms_here"] [V.ref r, V.int c] = [some (V.ref r), some (V.int c), none] from rfl]
  have line := line_val
  have hn := hR.n
  have hm := hR.m
  walk_at "go"
  refine ⟨⟨_, hR.l⟩, ?_⟩
  refine compL_ix (fun i => V.int (ts.getD i th0).2.2) hR.l (by rw [List.length_map]; omega) (fun b i x H' Q' hx sm q' => ?_) fun D hD => ?_
  · rw [List.getElem?_map] at hx
    cases ha : as[i]? with
    | none => rw [ha] at hx; cases hx
    | some p =>
    rw [ha] at hx
    cases hx
    have hi : i < ts.length := by rw [← hn]; exact (List.getElem?_eq_some_iff.mp ha).1
    have hT := sm.tup (hR.at_ i p _ ha (th_at hi))
    walk_at "go"
    exact q'
  have eD : (List.range (as.map V.ref).length).map (fun i => V.int (ts.getD i th0).2.2) = (ts.map (·.2.2)).map V.int := by
    rw [List.length_map, hn, List.map_map]
    refine List.ext_getElem? fun i => ?_
    rw [List.getElem?_map, List.getElem?_map]
    by_cases hi : i < ts.length
    · rw [List.getElem?_range hi, th_at hi]; rfl
    · rw [List.getElem?_eq_none (by rw [List.length_range]; omega), List.getElem?_eq_none (by omega)]; rfl
  rw [eD]
  clear eD
  have smD : Same H (upd H D (.lst ((ts.map (·.2.2)).map V.int))) := Same.new hD
  have hDD : upd H D (.lst ((ts.map (·.2.2)).map V.int)) D = some (.lst ((ts.map (·.2.2)).map V.int)) := upd_same
  generalize upd H D (.lst ((ts.map (·.2.2)).map V.int)) = H1 at smD hDD ⊢
  clear hD
  have hrb : ∀ x ∈ ts.map (·.2.2), 1 ≤ x ∧ x ≤ 1000 := fun x hx => by
    obtain ⟨t, ht, rfl⟩ := List.mem_map.mp hx
    exact (hR.ok t ht).2.2.2
  have hsum : (ts.map (·.2.2)).sum ≤ 60000 ∧ 1 ≤ (ts.map (·.2.2)).sum := by
    have hlen : (ts.map (·.2.2)).length = ts.length := List.length_map ..
    have := sum_bounds hrb
    omega
  rename_i rest hrest
  subst hrest
  walk_at "go"
  split
  · refine ⟨cpow_of (by decide) (by decide) (by decide), ?_⟩
    refine q _ _ smD ?_ ?_ ?_
    · decide
    · decide
    · intro t ht
      have := (hR.ok t ht).2.2.2.2
      show t.2.2 ≤ 1000000
      omega
  · rename_i rest hrest
    walk_at "go"
    refine ⟨ts.map (·.2.2), SqL.of hDD, fun e => by have := congrArg List.length e; rw [List.length_map, List.length_nil] at this; omega, fun v hv hmax => ⟨ts.map (·.2.2), SqL.of hDD, by omega, ?_⟩⟩
    have hvb := hrb v hv
    have f0 := Int.emod_nonneg c (show (ts.map (·.2.2)).sum ≠ 0 by omega)
    have f1 := Int.emod_lt_of_pos c (show 0 < (ts.map (·.2.2)).sum by omega)
    exact q _ _ smD (by omega) (by omega) (fun t ht => by have := hmax _ (List.mem_map.mpr ⟨t, ht, rfl⟩); omega)
theorem ok_l_asks {f : Addr} {fd : FuncData} (F : Fun K "_law_asks" "_law_asks" s_l_asks f fd) (T : Txt K mg xNotThere xCastError xStock xRule xDues) (D_l_cell : Def P w K mg base (CXE P w) 1 "_law_cell" ["_law_script", "_law_k"] (sp_cell K)) (D_l_stream : Def P w K mg base (CXE P w) 1 "_law_stream" ["_law_cell_here", "_law_many"] (sp20_stream)) : FnOk P w K mg base (CXE P w) 2 f fd ["_law_script", "_law_rows_here"] (sp20_asks K) := by
  have sc : FnScope ["_law_script", "_law_rows_here", "_law_most", "_law_picks"] ["_law_script", "_law_rows_here"] (defScope s_l_asks) := ⟨rfl, rfl, rfl, by decide +kernel, rfl, by decide +kernel, by decide +kernel⟩
  refine F.okE sc (fun vs H Q E h => ?_) (fun cdv A outer s H vs Q E hr h => ?_)
  · obtain ⟨a, r, ns, as, ts, rfl, hS, hl, hR, h1, q⟩ := h; rfl
  obtain ⟨a, r, ns, as, ts, rfl, hS, hl, hR, h1, q⟩ := h
  refine ⟨_, (@pss_cons _ _ _ _ _ (ps_set (i := 2) sc.nd rfl (Or.inl rfl) pe_int)
    (@pss_cons _ _ _ _ _ (ps_if (pt_cmpR op_eq (pe_op op_mod (pe_callD D_l_cell hr rfl pass_on (pa_cons (pv 0) (pa_cons pe_int pa_nil))) pe_int) pe_int (nomark _))
      (@pss_one _ _ _ (ps_set (i := 2) sc.nd rfl (Or.inl rfl) pe_int))
      pss_nil)
    (@pss_cons _ _ _ _ _ (ps_set (i := 3) sc.nd rfl (Or.inl rfl) (pe_op op_cat (pe_slice sl_list (pv 0) (po_some pe_int) (po_some pe_int)) (pe_callD D_l_stream hr rfl pass_on (pa_cons (pe_callD D_l_cell hr rfl pass_on (pa_cons (pv 0) (pa_cons pe_int pa_nil))) (pa_cons (pe_op op_mod (pe_callD D_l_cell hr rfl pass_on (pa_cons (pv 0) (pa_cons pe_int pa_nil))) (pv 2)) pa_nil)))))
    (@pss_one _ _ _ (@ps_ret _ _ _ _ (pe_comp1 "_law_pick" [1] rfl rfl (pi_list (pv 3)) (fun b => (@pe_ix _ _ _ _ _ _ _ ix_tup (@pe_ix _ _ _ _ _ _ _ ix_list (pv 1) (pe_op op_mod (pv 0) (pe_callB call_len_seq rfl T.z_len PySem.boot_len (pa_cons (pv 1) pa_nil))) (fun _ _ => rfl)) pe_int (fun _ _ => rfl))))))))), ?_⟩
  rw [show start ["_law_script", "_law_rows_here", "_law_most", "_law_picks"] [V.ref a, V.ref r] = [some (V.ref a), some (V.ref r), none, none] from rfl]
  have line := line_val
  have hn := hR.n
  have hm := hR.m
  walk_at "go"
  rename_i rest hrest
  have key : ∀ mo : Int, 1 ≤ mo → mo ≤ 139 → rest [some (V.ref a), some (V.ref r), some (V.int mo), none] H := by
    intro mo hm1 hm2
    subst hrest
    walk_at "go"
    obtain ⟨cs, hcs, hcl⟩ := cut_8_68 ns
    refine ⟨_, hS, fun p hp => ?_⟩
    rw [hcs]
    have s1 : Same H (upd H p (.lst (cs.map V.int))) := Same.new hp
    have k1 : upd H p (.lst (cs.map V.int)) p = some (.lst (cs.map V.int)) := upd_same
    generalize upd H p (.lst (cs.map V.int)) = H1 at s1 k1 ⊢
    have f0 := Int.emod_nonneg (ns.getD 5 0) (show mo ≠ 0 by omega)
    have f1 := Int.emod_lt_of_pos (ns.getD 5 0) (show 0 < mo by omega)
    refine ⟨ns, s1.seq hS, by decide, hl, ns, s1.seq hS, by decide, hl, by omega, (ns.getD 5 0 % mo).toNat, by omega, by omega, fun p1 xs H2 hp1 s2 k2 hxl hx0 => ?_⟩
    have hxl1 : xs.length ≤ 138 := by rw [hxl]; omega
    clear hxl
    refine ⟨p, p1, _, _, rfl, rfl, s2 _ _ k1, k2, by rw [List.length_map, List.length_map]; omega, fun p2 hp2 => ?_⟩
    rw [cat_ints]
    have hpl : (cs ++ xs).length ≤ 200 := by rw [List.length_append]; omega
    have s3 := (s1.trans s2).trans (Same.new (o := .lst ((cs ++ xs).map V.int)) hp2)
    have k3 : upd H2 p2 (.lst ((cs ++ xs).map V.int)) p2 = some (.lst ((cs ++ xs).map V.int)) := upd_same
    generalize upd H2 p2 (.lst ((cs ++ xs).map V.int)) = H3 at s3 k3 ⊢
    generalize cs ++ xs = ps at hpl k3
    clear k1 k2 s1 s2 hp2 hp hcs
    have hR3 := hR.same s3
    rename_i rest hrest
    subst hrest
    walk_at "go"
    refine ⟨⟨_, SqL.of k3⟩, ?_⟩
    refine compL_pure (pickV ts) (SqL.of k3) (by rw [List.length_map]; omega) (fun b x H4 Q' hx sm4 q' => ?_) fun D hD => ?_
    · obtain ⟨c, hc, rfl⟩ := List.mem_map.mp hx
      have hR4 := hR3.same sm4
      have g0 := Int.emod_nonneg c (show (ts.length : Int) ≠ 0 by omega)
      have g1 := Int.emod_lt_of_pos c (show (0 : Int) < ts.length by omega)
      have ht := th_at (ts := ts) (i := (c % (ts.length : Int)).toNat) (by omega)
      have ha := List.getElem?_eq_getElem (l := as) (i := (c % (ts.length : Int)).toNat) (by omega)
      have hT := hR4.at_ _ _ _ ha ht
      walk_at "go"
      refine ⟨_, .inl hR4.l, ?_⟩
      rw [List.length_map, hn]
      refine ⟨by omega, ?_⟩
      refine ixL_of hR4.l (v := V.ref _) (by rw [show c % (ts.length : Int) = (((c % (ts.length : Int)).toNat : Nat) : Int) by omega]; exact atI_nat (by rw [List.getElem?_map, ha]; rfl)) ?_
      exact ⟨_, _, 0, _, rfl, rfl, hT, rfl, q'⟩
    · rw [pickV_list]
      exact q D _ _ (s3.trans (Same.new hD)) upd_same (by rw [List.length_map]; exact hpl) (fun y hy => by
        obtain ⟨c, hc, rfl⟩ := List.mem_map.mp hy
        have g0 := Int.emod_nonneg c (show (ts.length : Int) ≠ 0 by omega)
        have g1 := Int.emod_lt_of_pos c (show (0 : Int) < ts.length by omega)
        exact List.mem_map.mpr ⟨_, List.mem_of_getElem? (th_at (ts := ts) (i := (c % (ts.length : Int)).toNat) (by omega)), rfl⟩)
  clear hrest
  split
  · exact key 139 (by decide) (by decide)
  · exact key 30 (by decide) (by decide)
theorem ok_l_rooms {f : Addr} {fd : FuncData} (F : Fun K "_law_rooms" "_law_rooms" s_l_rooms f fd) (T : Txt K mg xNotThere xCastError xStock xRule xDues)  : FnOk P w K mg base (CXE P w) 1 f fd ["_law_rows_here"] (sp20_rooms K) := by
  have sc : FnScope ["_law_rows_here", "_law_rooms_here", "_law_name", "_law_cost", "_law_room"] ["_law_rows_here"] (defScope s_l_rooms) := ⟨rfl, rfl, rfl, by decide +kernel, rfl, by decide +kernel, by decide +kernel⟩
  refine F.okE sc (fun vs H Q E h => ?_) (fun cdv A outer s H vs Q E hr h => ?_)
  · obtain ⟨r, as, ts, rfl, hR, q⟩ := h; rfl
  obtain ⟨r, as, ts, rfl, hR, q⟩ := h
  refine ⟨_, (@pss_cons _ _ _ _ _ (ps_set (i := 1) sc.nd rfl (Or.inl rfl) pe_dnewK)
    (@pss_cons _ _ _ _ _ (ps_for own_out rfl (pi_list (pv 0)) (pg_tup rfl (pgs_cons (pg_name (i := 2) sc.nd rfl (Or.inl rfl)) (pgs_cons (pg_name (i := 3) sc.nd rfl (Or.inl rfl)) (pgs_cons (pg_name (i := 4) sc.nd rfl (Or.inl rfl)) pgs_nil))))
      (@pss_one _ _ _ (ps_dput (hu_of hr) (pv 1) (pv 2) (pv 4) rfl)))
    (@pss_one _ _ _ (@ps_ret _ _ _ _ (pv 1))))), ?_⟩
  rw [show start ["_law_rows_here", "_law_rooms_here", "_law_name", "_law_cost", "_law_room"] [V.ref r] = [some (V.ref r), none, none, none, none] from rfl]
  have line := line_val
  have hn := hR.n
  have hm := hR.m
  walk_at "go"
  intro e he
  have sme : Same H (upd H e (.dK [])) := Same.new he
  have hee : upd H e (.dK []) e = some (.dK []) := upd_same
  generalize upd H e (.dK []) = H1 at sme hee ⊢
  rename_i rest hrest
  subst hrest
  walk_at "go"
  refine ⟨⟨_, sme.seq hR.l⟩, ?_⟩
  rename_i rest hrest
  refine forL_by (xs := as.map V.ref) (fun i σ H' => ∃ (v2 v3 v4 : Option V), σ = [some (V.ref r), some (V.ref e), v2, v3, v4] ∧ Same H H' ∧ H' e = some (.dK (lyK (lyOf (ts.take i))))) ⟨none, none, none, rfl, sme, hee⟩ (fun i σ H' _ ⟨_, _, _, _, sm, _⟩ => sm.seq hR.l) ?_ ?_
  · clear hrest
    rintro i u σ H' hu ⟨v2, v3, v4, rfl, sm, hE⟩
    rw [List.getElem?_map] at hu
    cases ha : as[i]? with
    | none => rw [ha] at hu; cases hu
    | some p =>
    rw [ha] at hu
    cases hu
    have hi : i < ts.length := by rw [← hn]; exact (List.getElem?_eq_some_iff.mp ha).1
    have ht := th_at hi
    have hT := sm.tup (hR.at_ i p _ ha ht)
    have hno : ¬ (ts.getD i th0).1 ∈ lyN (lyOf (ts.take i)) := by
      rw [lyOf_names]
      intro hmem
      have nd := hR.nd
      rw [← List.take_append_drop i ts, List.map_append, List.nodup_append] at nd
      refine nd.2.2 _ hmem _ ?_ rfl
      rw [List.drop_eq_getElem_cons hi, List.map_cons]
      rw [List.getElem?_eq_getElem hi] at ht
      rw [← Option.some.inj ht]
      exact List.mem_cons_self ..
    generalize ts.getD i th0 = t at hT hno ht
    walk_at "go"
    refine ⟨_, hT, rfl, _, _, rfl, _, _, rfl, _, _, rfl, rfl, ?_⟩
    walk_at "go"
    refine ⟨_, DPut.k (k := Sum.inr t.1) hE (by unfold lyK lyOf; rw [List.length_map, List.length_map, List.length_take]; omega), fun b o e' => by rw [upd_ne (ne_of_none e' he)]; exact sm _ _ e', ?_⟩
    rw [upd_same, lyK_put hno, List.take_add_one, ht]
    unfold lyOf
    rw [List.map_append]
    rfl
  · rintro σ H' ⟨v2, v3, v4, rfl, sm, hE⟩
    rw [List.length_map, hn, List.take_length, lyOf_K] at hE
    subst hrest
    walk_at "go"
    exact q e H' sm hE
theorem ok_l_priced {f : Addr} {fd : FuncData} (F : Fun K "_law_priced" "_law_priced" s_l_priced f fd) (T : Txt K mg xNotThere xCastError xStock xRule xDues)  : FnOk P w K mg base (CXE P w) 1 f fd ["_law_rows_here", "_law_cell_here"] (sp57_priced K) := by
  have sc : FnScope ["_law_rows_here", "_law_cell_here", "_law_priced_here", "_law_name", "_law_cost", "_law_room", "_law_great"] ["_law_rows_here", "_law_cell_here"] (defScope s_l_priced) := ⟨rfl, rfl, rfl, by decide +kernel, rfl, by decide +kernel, by decide +kernel⟩
  refine F.okE sc (fun vs H Q E h => ?_) (fun cdv A outer s H vs Q E hr h => ?_)
  · obtain ⟨r, c, as, ts, rfl, hR, ht1, hc, q⟩ := h; rfl
  obtain ⟨r, c, as, ts, rfl, hR, ht1, hc, q⟩ := h
  refine ⟨_, (@pss_cons _ _ _ _ _ (ps_set (i := 2) sc.nd rfl (Or.inl rfl) (@pe_lst _ _ _ _ pa_nil))
    (@pss_cons _ _ _ _ _ (ps_for own_out rfl (pi_list (pv 0)) (pg_tup rfl (pgs_cons (pg_name (i := 3) sc.nd rfl (Or.inl rfl)) (pgs_cons (pg_name (i := 4) sc.nd rfl (Or.inl rfl)) (pgs_cons (pg_name (i := 5) sc.nd rfl (Or.inl rfl)) pgs_nil))))
      (@pss_cons _ _ _ _ _ (ps_if (pt_cmpR op_eq (pe_op op_mod (pv 1) pe_int) pe_int (nomark _))
        (@pss_one _ _ _ (ps_set (i := 4) sc.nd rfl (Or.inl rfl) (pe_op op_mod (pv 4) pe_int)))
        pss_nil)
      (@pss_cons _ _ _ _ _ (ps_if (pt_cmpR op_eq (pe_op op_mod (pv 1) pe_int) pe_int (nomark _))
        (@pss_cons _ _ _ _ _ (ps_set (i := 6) sc.nd rfl (Or.inl rfl) (pe_op op_mod (pe_op op_pow (pe_op op_mulH (pv 4) (pe_op op_add pe_int (pe_op op_mod (pe_op op_fdiv (pv 1) pe_int) pe_int))) pe_int) (pe_op op_add (pe_op op_pow pe_int pe_int) pe_int)))
        (@pss_one _ _ _ (ps_set (i := 4) sc.nd rfl (Or.inl rfl) (@pe_ix _ _ _ _ _ _ _ ix_list (@pe_lst _ _ _ _ (pa_cons (pe_op op_mod (pv 4) pe_int) (pa_cons (pv 6) pa_nil))) (pe_op op_mod (pe_op op_fdiv (pv 4) pe_int) pe_int) (fun _ _ => rfl)))))
        pss_nil)
      (@pss_cons _ _ _ _ _ (ps_if (pt_cmpR op_eq (pe_op op_mod (pv 1) pe_int) pe_int (nomark _))
        (@pss_one _ _ _ (ps_set (i := 4) sc.nd rfl (Or.inl rfl) (pe_op op_add pe_int (pe_op op_mod (pe_op op_fdiv (pv 1) pe_int) pe_int))))
        pss_nil)
      (@pss_one _ _ _ (ps_expr (pe_bm PySem.F.plainAttrs_list PySem.F.slot_list_append PySem.F.type_list_append mt_append (pv 2) (pa_cons (pe_tup (pa_cons (pv 3) (pa_cons (pv 4) (pa_cons (pv 5) pa_nil)))) pa_nil))))))))
    (@pss_one _ _ _ (@ps_ret _ _ _ _ (pv 2))))), ?_⟩
  rw [show start ["_law_rows_here", "_law_cell_here", "_law_priced_here", "_law_name", "_law_cost", "_law_room", "_law_great"] [V.ref r, V.int c] = [some (V.ref r), some (V.int c), none, none, none, none, none] from rfl]
  have line := line_val
  have hn := hR.n
  have hm := hR.m
  walk_at "go"
  intro p hp
  have sm0 : Same H (upd H p (.lst [])) := Same.new hp
  have hp0 : upd H p (.lst []) p = some (.lst (([] : List Addr).map V.ref)) := upd_same
  generalize upd H p (.lst []) = H0 at sm0 hp0 ⊢
  rename_i rest hrest
  subst hrest
  walk_at "go"
  refine ⟨⟨_, sm0.seq hR.l⟩, ?_⟩
  rename_i rest hrest
  refine forL_by (xs := as.map V.ref) (fun i σ H' => ∃ (as' : List Addr) (ts' : List Th) (v3 v4 v5 v6 : Option V), σ = [some (V.ref r), some (V.int c), some (V.ref p), v3, v4, v5, v6] ∧ Same H H' ∧ H' p = some (.lst (as'.map V.ref)) ∧ RowsAt K H' p as' ts' ∧ ts'.map (·.1) = (ts.take i).map (·.1)) ⟨[], [], none, none, none, none, rfl, sm0, hp0, ⟨SqL.of hp0, rfl, by decide, (fun i a t h => by simp at h), (fun t ht => by cases ht), List.nodup_nil⟩, rfl⟩ (fun i σ H' _ h_ => by obtain ⟨_, _, _, _, _, _, _, sm, _⟩ := h_; exact sm.seq hR.l) ?_ ?_
  · clear hrest
    rintro i u σ H' hu ⟨as', ts', v3, v4, v5, v6, rfl, sm, hp', hR', hnm⟩
    rw [List.getElem?_map] at hu
    cases ha : as[i]? with
    | none => rw [ha] at hu; cases hu
    | some pa =>
    rw [ha] at hu
    cases hu
    have hi : i < ts.length := by rw [← hn]; exact (List.getElem?_eq_some_iff.mp ha).1
    have ht := th_at hi
    have hT := sm.tup (hR.at_ i pa _ ha ht)
    have hok := hR.ok _ (List.mem_of_getElem? ht)
    have hc1 := hc _ (List.mem_of_getElem? ht)
    have htk : (ts.take (i + 1)).map (·.1) = (ts.take i).map (·.1) ++ [(ts.getD i th0).1] := by rw [List.take_succ, ht, List.map_append]; rfl
    have hno : (ts.getD i th0).1 ∉ (ts.take i).map (·.1) := fun hmem => by
      have nd := hR.nd
      rw [← List.take_append_drop i ts, List.map_append, List.nodup_append] at nd
      refine nd.2.2 _ hmem _ ?_ rfl
      rw [List.drop_eq_getElem_cons hi, List.map_cons]
      rw [List.getElem?_eq_getElem hi] at ht
      rw [← Option.some.inj ht]
      exact List.mem_cons_self ..
    have hl' : ts'.length = i := by
      have := congrArg List.length hnm
      rw [List.length_map, List.length_map, List.length_take] at this
      omega
    generalize ts.getD i th0 = t at hT hno ht hok hc1 htk
    obtain ⟨k1, k2, k3, k4, k5⟩ := hok
    walk_at "go"
    refine ⟨_, hT, rfl, _, _, rfl, _, _, rfl, _, _, rfl, rfl, ?_⟩
    walk_at "go"
    rename_i rest hrest
    have key : ∀ w : Int, 0 ≤ w → w < 1000 → rest [some (V.ref r), some (V.int c), some (V.ref p), some (V.str t.1), some (V.int w), some (V.int t.2.2), v6] H' := by
      intro w hw0 hw1
      subst hrest
      walk_at "go"
      rename_i rest hrest
      have key2 : ∀ (w : Int) (v6 : Option V) (H2 : Hp), 0 ≤ w → w ≤ 10 ^ 30 → Same H' H2 → rest [some (V.ref r), some (V.int c), some (V.ref p), some (V.str t.1), some (V.int w), some (V.int t.2.2), v6] H2 := by
        intro w v6 H2 hw0 hw1 sm2
        subst hrest
        walk_at "go"
        rename_i rest hrest
        have key3 : ∀ (w : Int), 0 ≤ w → w ≤ 10 ^ 30 → rest [some (V.ref r), some (V.int c), some (V.ref p), some (V.str t.1), some (V.int w), some (V.int t.2.2), v6] H2 := by
          intro w hw0 hw1
          subst hrest
          walk_at "go"
          refine ⟨.inl ⟨rfl, _, SqL.of (sm2 _ _ hp')⟩, by omega, fun ta hta => ?_⟩
          have sm3 : Same H2 (upd H2 ta (.tup [V.str t.1, V.int w, V.int t.2.2])) := Same.new hta
          have hta3 : upd H2 ta (.tup [V.str t.1, V.int w, V.int t.2.2]) ta = some (.tup [V.str t.1, V.int w, V.int t.2.2]) := upd_same
          generalize upd H2 ta (.tup [V.str t.1, V.int w, V.int t.2.2]) = H3 at sm3 hta3 ⊢
          have sm23 := sm2.trans sm3
          have hp3 := sm23 _ _ hp'
          have hal : as'.length ≤ 60 := by rw [hR'.n]; exact hR'.m
          refine ⟨p, _, _, rfl, rfl, hp3, by rw [List.length_map]; omega, ?_⟩
          rw [show as'.map V.ref ++ [V.ref ta] = (as' ++ [ta]).map V.ref by rw [List.map_append]; rfl]
          have sb4 : SameBut p H3 (upd H3 p (.lst ((as' ++ [ta]).map V.ref))) := sameBut_upd
          have npt : ta ≠ p := fun e => by rw [e, hp3] at hta3; cases hta3
          refine ⟨fun b o e => ?_, as' ++ [ta], upd_same, ts' ++ [(t.1, w, t.2.2)], (hR'.same sm23).snoc (t := (t.1, w, t.2.2)) hp3 sb4 upd_same (SqT.of (by rw [upd_ne npt]; exact hta3)) ⟨k1, hw0, hw1, k4, k5⟩ (by rw [hnm]; exact hno) (by omega), ?_⟩
          · rw [upd_ne (ne_of_none e hp)]; exact sm23 _ _ (sm _ _ e)
          · rw [htk, List.map_append, hnm]; rfl
        clear hrest
        split
        · exact ⟨cdiv_of (by decide) (by decide), by decide, key3 _ (by omega) (by omega)⟩
        · exact key3 w hw0 hw1
      clear hrest
      split
      · walk_at "go"
        have u0 := Int.emod_nonneg (c / 4) (show (1000 : Int) ≠ 0 by decide)
        have u1 := Int.emod_lt_of_pos (c / 4) (show (0 : Int) < 1000 by decide)
        generalize c / 4 % 1000 = u at u0 u1 ⊢
        have hT9 : (10000 : Nat) < 10 ^ 1000 := by decide +kernel
        have hp1 : 0 ≤ w * (7919 + u) := Int.mul_nonneg hw0 (by omega)
        have hp2 : w * (7919 + u) ≤ 1000 * 9000 := Int.mul_le_mul (by omega) (by omega) (by omega) (by decide)
        refine ⟨⟨Nat.lt_trans (by omega) hT9, Nat.lt_trans (by omega) hT9⟩, cpow_of (by decide) (by decide) (by omega), cpow_of (by decide) (by decide) (by decide), by decide, ?_⟩
        have e0 := Int.emod_nonneg ((w * (7919 + u)) ^ 5) (show (10 ^ 30 + 1 : Int) ≠ 0 by decide)
        have e1 := Int.emod_lt_of_pos ((w * (7919 + u)) ^ 5) (show (0 : Int) < 10 ^ 30 + 1 by decide)
        generalize (w * (7919 + u)) ^ 5 % (10 ^ 30 + 1) = gr at e0 e1 ⊢
        clear hp1 hp2 hT9
        rename_i rest2 hrest2
        subst hrest2
        walk_at "go"
        intro l hl
        refine ⟨cdiv_of (by decide) (by decide), by decide, ?_⟩
        have h2 : w / 10 % 2 = 0 ∨ w / 10 % 2 = 1 := by omega
        rcases h2 with e | e <;> rw [e]
        · exact ixL_of (SqL.of upd_same) (v := V.int (w % 10)) rfl (key2 _ _ _ (by omega) (by omega) (Same.new hl))
        · exact ixL_of (SqL.of upd_same) (v := V.int gr) rfl (key2 _ _ _ (by omega) (by omega) (Same.new hl))
      · exact key2 w v6 H' hw0 (by omega) (Same.refl _)
    clear hrest
    split
    · exact ⟨by decide, key _ (by omega) (by omega)⟩
    · exact key _ k2 hc1
  · rintro σ H' ⟨as', ts', v3, v4, v5, v6, rfl, sm, hp', hR', hnm⟩
    rw [List.length_map, hn, List.take_length] at hnm
    subst hrest
    walk_at "go"
    refine q p as' ts' H' sm hp' hR' ?_
    have := congrArg List.length hnm
    rw [List.length_map, List.length_map] at this
    omega
theorem ok_l_whole {f : Addr} {fd : FuncData} (F : Fun K "_law_whole" "_law_whole" s_l_whole f fd) (T : Txt K mg xNotThere xCastError xStock xRule xDues)  : FnOk P w K mg base (CXE P w) 1 f fd ["_law_found"] (sp57_whole) := by
  have sc : FnScope ["_law_found"] ["_law_found"] (defScope s_l_whole) := ⟨rfl, rfl, rfl, by decide +kernel, rfl, by decide +kernel, by decide +kernel⟩
  refine F.okE sc (fun vs H Q E h => ?_) (fun cdv A outer s H vs Q E hr h => ?_)
  · obtain ⟨i, rfl, q⟩ := h; rfl
  obtain ⟨i, rfl, q⟩ := h
  refine ⟨_, (@pss_one _ _ _ (@ps_ret _ _ _ _ (pe_and (pe_callB call_isinst rfl T.z_isinstance (by first | rfl | decide +kernel) (pa_cons (pv 0) (pa_cons (pe_bltn (v := .ty "int") rfl T.z_int (by first | rfl | decide +kernel) rfl) pa_nil))) (pe_one (pe_not (pe_callB call_isinst rfl T.z_isinstance (by first | rfl | decide +kernel) (pa_cons (pv 0) (pa_cons (pe_bltn (v := .ty "bool") rfl T.z_bool (by first | rfl | decide +kernel) rfl) pa_nil)))))))), ?_⟩
  rw [show start ["_law_found"] [V.int i] = [some (V.int i)] from rfl]
  walk_at "go"
  exact q
theorem ok_l_shared {f : Addr} {fd : FuncData} (F : Fun K "_law_shared" "_law_shared" s_l_shared f fd) (T : Txt K mg xNotThere xCastError xStock xRule xDues)  : FnOk P w K mg base (CXE P w) 1 f fd ["_law_one", "_law_other"] (sp57_shared) := by
  have sc : FnScope ["_law_one", "_law_other"] ["_law_one", "_law_other"] (defScope s_l_shared) := ⟨rfl, rfl, rfl, by decide +kernel, rfl, by decide +kernel, by decide +kernel⟩
  refine F.okE sc (fun vs H Q E h => ?_) (fun cdv A outer s H vs Q E hr h => ?_)
  · obtain ⟨i, j, rfl, hj, q⟩ := h; rfl
  obtain ⟨i, j, rfl, hj, q⟩ := h
  refine ⟨_, (@pss_cons _ _ _ _ _ (ps_set (i := 0) sc.nd rfl (Or.inl rfl) (pe_callB call_abs rfl T.z_abs (by first | rfl | decide +kernel) (pa_cons (pv 0) pa_nil)))
    (@pss_cons _ _ _ _ _ (ps_while own_out (pt_cmpR op_ne (pv 1) pe_int (nomark _))
      (@pss_one _ _ _ (ps_par (i := 0) (j := 1) rfl sc.nd rfl rfl (by decide) rfl rfl (pa_cons (pv 1) (pa_cons (pe_op op_mod (pv 0) (pv 1)) pa_nil)) rfl)))
    (@pss_one _ _ _ (@ps_ret _ _ _ _ (pv 0))))), ?_⟩
  rw [show start ["_law_one", "_law_other"] [V.int i, V.int j] = [some (V.int i), some (V.int j)] from rfl]
  walk_at "go"
  rename_i rest hrest
  refine while_d (m0 := j.toNat) (fun m σ H' => ∃ (x y : Int), σ = [some (V.int x), some (V.int y)] ∧ H' = H ∧ 0 ≤ x ∧ 0 ≤ y ∧ m = y.toNat ∧ Int.gcd x y = Int.gcd i j) ⟨_, _, rfl, rfl, by split <;> omega, hj, rfl, gcd_abs1 i j⟩ ?_
  rintro m σ H' ⟨x, y, rfl, rfl, hx, hy, rfl, hg⟩
  walk_at "go"
  split
  · rename_i hy0
    refine ⟨fun σ' H'' => ∃ m', m' < y.toNat ∧ ∃ (x y : Int), σ' = [some (V.int x), some (V.int y)] ∧ H'' = H' ∧ 0 ≤ x ∧ 0 ≤ y ∧ m' = y.toNat ∧ Int.gcd x y = Int.gcd i j, fun _ _ h => h, ?_⟩
    have hp : 0 < y := by omega
    walk_at "go"
    have h1 := Int.emod_nonneg x (show y ≠ 0 by omega)
    have h2 := Int.emod_lt_of_pos x hp
    exact ⟨(x % y).toNat, by omega, by omega, h1, rfl, gcd_step hx hp hg⟩
  · rename_i hy0
    have hy0 : y = 0 := by omega
    subst hy0
    subst hrest
    walk_at "go"
    have hh := gcd_zero_right' hx
    rw [hg] at hh
    rw [← hh]; exact q
theorem ok_l_ratio {f : Addr} {fd : FuncData} (F : Fun K "_law_ratio" "_law_ratio" s_l_ratio f fd) (T : Txt K mg xNotThere xCastError xStock xRule xDues) (D_l_whole : Def P w K mg base (CXE P w) 1 "_law_whole" ["_law_found"] (sp57_whole)) (D_l_shared : Def P w K mg base (CXE P w) 1 "_law_shared" ["_law_one", "_law_other"] (sp57_shared)) : FnOk P w K mg base (CXE P w) 2 f fd ["_law_found"] (sp57_lratio) := by
  have sc : FnScope ["_law_found"] ["_law_found"] (defScope s_l_ratio) := ⟨rfl, rfl, rfl, by decide +kernel, rfl, by decide +kernel, by decide +kernel⟩
  refine F.okE sc (fun vs H Q E h => ?_) (fun cdv A outer s H vs Q E hr h => ?_)
  · obtain ⟨a, U, v, rfl, ha, hU, q⟩ := h; rfl
  obtain ⟨a, U, v, rfl, ha, hU, q⟩ := h
  refine ⟨_, (@pss_cons _ _ _ _ _ (ps_if (PW.pt (pw_or (pt_not (pt_val (pe_callB call_isinst rfl T.z_isinstance (by first | rfl | decide +kernel) (pa_cons (pv 0) (pa_cons (pe_bltn (v := .ty "tuple") rfl T.z_tuple (by first | rfl | decide +kernel) rfl) pa_nil))))) (pw_or (pt_cmpR op_ne (pe_callB call_len_seq rfl T.z_len PySem.boot_len (pa_cons (pv 0) pa_nil)) pe_int (nomark _)) (pw_or (pt_not (pt_val (pe_callD D_l_whole hr rfl pass_on (pa_cons (@pe_ix _ _ _ _ _ _ _ ix_tup (pv 0) pe_int (fun _ _ => rfl)) pa_nil)))) (pw_or1 (pt_not (pt_val (pe_callD D_l_whole hr rfl pass_on (pa_cons (@pe_ix _ _ _ _ _ _ _ ix_tup (pv 0) pe_int (fun _ _ => rfl)) pa_nil)))))))))
      (@pss_one _ _ _ (@ps_ret _ _ _ _ pe_bl))
      pss_nil)
    (@pss_one _ _ _ (@ps_ret _ _ _ _ (pe_and (pe_cmpR op_gt (@pe_ix _ _ _ _ _ _ _ ix_tup (pv 0) pe_int (fun _ _ => rfl)) pe_int (nomark _)) (pe_one (pe_cmpR op_eq (pe_callD D_l_shared hr rfl pass_on (pa_cons (@pe_ix _ _ _ _ _ _ _ ix_tup (pv 0) pe_int (fun _ _ => rfl)) (pa_cons (@pe_ix _ _ _ _ _ _ _ ix_tup (pv 0) pe_int (fun _ _ => rfl)) pa_nil))) pe_int (nomark _))))))), ?_⟩
  rw [show start ["_law_found"] [V.ref a] = [some (V.ref a)] from rfl]
  have line := line_val
  obtain ⟨c1, c2, c3, _⟩ := rt_all (v := v) hU
  unfold RtA at ha
  walk_at "go"
  refine ⟨_, .inr (SqT.of ha), ?_⟩
  rw [if_neg (by show ¬ ¬ ((2 : Nat) : Int) = 2; decide)]
  refine ixT_of (SqT.of ha) (v := V.int (rt U v).1) rfl ⟨_, rfl, ixT_of (SqT.of ha) (v := V.int (rt U v).2) rfl ⟨_, rfl, ?_⟩⟩
  rename_i rest hrest
  subst hrest
  walk_at "go"
  refine ixT_of (SqT.of ha) (v := V.int (rt U v).2) rfl ⟨_, rfl, ?_⟩
  rw [if_pos c2]
  refine ixT_of (SqT.of ha) (v := V.int (rt U v).1) rfl (ixT_of (SqT.of ha) (v := V.int (rt U v).2) rfl ⟨_, rfl, _, rfl, by omega, ?_⟩)
  rw [c3, decide_eq_true (by rfl)]
  exact q
theorem ok_l_under {f : Addr} {fd : FuncData} (F : Fun K "_law_under" "_law_under" s_l_under f fd) (T : Txt K mg xNotThere xCastError xStock xRule xDues)  : FnOk P w K mg base (CXE P w) 1 f fd ["_law_one", "_law_other"] (sp57_lunder) := by
  have sc : FnScope ["_law_one", "_law_other"] ["_law_one", "_law_other"] (defScope s_l_under) := ⟨rfl, rfl, rfl, by decide +kernel, rfl, by decide +kernel, by decide +kernel⟩
  refine F.okE sc (fun vs H Q E h => ?_) (fun cdv A outer s H vs Q E hr h => ?_)
  · obtain ⟨a, b, U, x, y, rfl, ha, hb, hU, hU2, ⟨hx, hy⟩, q⟩ := h; rfl
  obtain ⟨a, b, U, x, y, rfl, ha, hb, hU, hU2, ⟨hx, hy⟩, q⟩ := h
  refine ⟨_, (@pss_one _ _ _ (@ps_ret _ _ _ _ (pe_cmpR op_lt (pe_op op_mulH (@pe_ix _ _ _ _ _ _ _ ix_tup (pv 0) pe_int (fun _ _ => rfl)) (@pe_ix _ _ _ _ _ _ _ ix_tup (pv 1) pe_int (fun _ _ => rfl))) (pe_op op_mulH (@pe_ix _ _ _ _ _ _ _ ix_tup (pv 1) pe_int (fun _ _ => rfl)) (@pe_ix _ _ _ _ _ _ _ ix_tup (pv 0) pe_int (fun _ _ => rfl))) (nomark _)))), ?_⟩
  rw [show start ["_law_one", "_law_other"] [V.ref a, V.ref b] = [some (V.ref a), some (V.ref b)] from rfl]
  have line := line_val
  obtain ⟨a1, a2, a3, a4, a5⟩ := rt_all (v := x) hU
  obtain ⟨b1, b2, b3, b4, b5⟩ := rt_all (v := y) hU
  have B : (10 : Nat) ^ 240 < 10 ^ 1000 := by decide +kernel
  have B2 : (10 : Nat) ^ 180 < 10 ^ 1000 := by decide +kernel
  have hUn : U.natAbs ≤ 10 ^ 180 := by omega
  have c1 : (rt U x).1.natAbs < 10 ^ 1000 := Nat.lt_of_le_of_lt (Nat.le_trans a4 hx) B
  have c2 : (rt U x).2.natAbs < 10 ^ 1000 := Nat.lt_of_le_of_lt (Nat.le_trans a5 hUn) B2
  have d1 : (rt U y).1.natAbs < 10 ^ 1000 := Nat.lt_of_le_of_lt (Nat.le_trans b4 hy) B
  have d2 : (rt U y).2.natAbs < 10 ^ 1000 := Nat.lt_of_le_of_lt (Nat.le_trans b5 hUn) B2
  unfold RtA at ha hb
  clear B B2
  walk_at "go"
  refine ixT_of (SqT.of ha) (v := V.int (rt U x).1) rfl (ixT_of (SqT.of hb) (v := V.int (rt U y).2) rfl ⟨_, rfl, _, rfl, ⟨c1, d2⟩, ixT_of (SqT.of hb) (v := V.int (rt U y).1) rfl (ixT_of (SqT.of ha) (v := V.int (rt U x).2) rfl ⟨_, rfl, _, rfl, ⟨d1, c2⟩, ?_⟩)⟩)
  rw [show decide ((rt U x).1 * (rt U y).2 < (rt U y).1 * (rt U x).2) = decide (x < y) by rw [decide_eq_decide]; exact rt_under hU]
  exact q
theorem ok_l_sum {f : Addr} {fd : FuncData} (F : Fun K "_law_sum" "_law_sum" s_l_sum f fd) (T : Txt K mg xNotThere xCastError xStock xRule xDues)  : FnOk P w K mg base (CXE P w) 1 f fd ["_law_found", "_law_one", "_law_other"] (sp57_lsum K) := by
  have sc : FnScope ["_law_found", "_law_one", "_law_other", "_law_top"] ["_law_found", "_law_one", "_law_other"] (defScope s_l_sum) := ⟨rfl, rfl, rfl, by decide +kernel, rfl, by decide +kernel, by decide +kernel⟩
  refine F.okE sc (fun vs H Q E h => ?_) (fun cdv A outer s H vs Q E hr h => ?_)
  · obtain ⟨a, b, c, U, x, y, rfl, ⟨f1, f2, ha, f3, f4, f5, f6⟩, ⟨o1, o2, hb, o3, o4, o5, o6⟩, ⟨t1, b1, hc, t3, t4, t5, t6⟩, hU, q⟩ := h; rfl
  obtain ⟨a, b, c, U, x, y, rfl, ⟨f1, f2, ha, f3, f4, f5, f6⟩, ⟨o1, o2, hb, o3, o4, o5, o6⟩, ⟨t1, b1, hc, t3, t4, t5, t6⟩, hU, q⟩ := h
  refine ⟨_, (@pss_cons _ _ _ _ _ (ps_set (i := 3) sc.nd rfl (Or.inl rfl) (pe_op op_add (pe_op op_mulH (@pe_ix _ _ _ _ _ _ _ ix_tup (pv 1) pe_int (fun _ _ => rfl)) (@pe_ix _ _ _ _ _ _ _ ix_tup (pv 2) pe_int (fun _ _ => rfl))) (pe_op op_mulH (@pe_ix _ _ _ _ _ _ _ ix_tup (pv 2) pe_int (fun _ _ => rfl)) (@pe_ix _ _ _ _ _ _ _ ix_tup (pv 1) pe_int (fun _ _ => rfl)))))
    (@pss_one _ _ _ (@ps_ret _ _ _ _ (pe_cmpR op_eq (pe_op op_mulH (pe_op op_mulH (@pe_ix _ _ _ _ _ _ _ ix_tup (pv 0) pe_int (fun _ _ => rfl)) (@pe_ix _ _ _ _ _ _ _ ix_tup (pv 1) pe_int (fun _ _ => rfl))) (@pe_ix _ _ _ _ _ _ _ ix_tup (pv 2) pe_int (fun _ _ => rfl))) (pe_op op_mulH (@pe_ix _ _ _ _ _ _ _ ix_tup (pv 0) pe_int (fun _ _ => rfl)) (pv 3)) (nomark _))))), ?_⟩
  rw [show start ["_law_found", "_law_one", "_law_other", "_law_top"] [V.ref a, V.ref b, V.ref c] = [some (V.ref a), some (V.ref b), some (V.ref c), none] from rfl]
  have line := line_val
  have B : (10 : Nat) ^ 240 < 10 ^ 1000 := by decide +kernel
  have B2 : (10 : Nat) ^ 180 < 10 ^ 1000 := by decide +kernel
  have g1 := Nat.lt_of_le_of_lt f5 B
  have g2 := Nat.lt_of_le_of_lt f6 B2
  have g3 := Nat.lt_of_le_of_lt o5 B
  have g4 := Nat.lt_of_le_of_lt o6 B2
  have g5 := Nat.lt_of_le_of_lt t5 B
  have g6 := Nat.lt_of_le_of_lt t6 B2
  have B3 : (10 : Nat) ^ 240 * 10 ^ 180 < 10 ^ 1000 := by decide +kernel
  have B4 : (10 : Nat) ^ 240 * 10 ^ 180 + 10 ^ 240 * 10 ^ 180 < 10 ^ 1000 := by decide +kernel
  have m1 : (f1 * o2).natAbs < 10 ^ 1000 := by rw [Int.natAbs_mul]; exact Nat.lt_of_le_of_lt (Nat.mul_le_mul f5 o6) B3
  have m2 : (o1 * b1 + t1 * o2).natAbs < 10 ^ 1000 := by
    refine Nat.lt_of_le_of_lt (Int.natAbs_add_le _ _) ?_
    rw [Int.natAbs_mul, Int.natAbs_mul]
    exact Nat.lt_of_le_of_lt (Nat.add_le_add (Nat.mul_le_mul o5 t6) (Nat.mul_le_mul t5 o6)) B4
  have key := cr_sum hU f4 o4 t4
  clear B B2 B3 B4 f5 f6 o5 o6 t5 t6
  walk_at "go"
  refine ⟨⟨g3, g6⟩, ixT_of hc (v := V.int t1) rfl (ixT_of hb (v := V.int o2) rfl ⟨_, rfl, _, rfl, ⟨g5, g4⟩, ?_⟩)⟩
  rename_i rest hrest
  subst hrest
  walk_at "go"
  refine ⟨⟨g1, g4⟩, ixT_of hc (v := V.int b1) rfl ⟨_, rfl, ⟨m1, g6⟩, ixT_of ha (v := V.int f2) rfl ⟨_, rfl, ⟨g2, m2⟩, ?_⟩⟩⟩
  rw [decide_eq_true key]
  exact q
theorem ok_l_least {f : Addr} {fd : FuncData} (F : Fun K "_law_least" "_law_least" s_l_least f fd) (T : Txt K mg xNotThere xCastError xStock xRule xDues) (D_l_under : Def P w K mg base (CXE P w) 1 "_law_under" ["_law_one", "_law_other"] (sp57_lunder)) : FnOk P w K mg base (CXE P w) 2 f fd ["_law_dues_here", "_law_pick"] (sp57_lleast) := by
  have sc : FnScope ["_law_dues_here", "_law_pick", "_law_name"] ["_law_dues_here", "_law_pick"] (defScope s_l_least) := ⟨rfl, rfl, rfl, by decide +kernel, rfl, by decide +kernel, by decide +kernel⟩
  refine F.okE sc (fun vs H Q E h => ?_) (fun cdv A outer s H vs Q E hr h => ?_)
  · obtain ⟨ld, z, U, kvs, ks, f, rfl, hd, hU, hU2, hbd, hz, hmin, hkl, q⟩ := h; rfl
  obtain ⟨ld, z, U, kvs, ks, f, rfl, hd, hU, hU2, hbd, hz, hmin, hkl, q⟩ := h
  refine ⟨_, (@pss_cons _ _ _ _ _ (ps_thaw (ps_for own_out rfl (pi_dict (pv 0)) (pg_name (i := 2) sc.nd rfl (Or.inl rfl))
      (@pss_one _ _ _ (ps_if (pt_val (pe_callD D_l_under hr rfl pass_on (pa_cons (pe_dget (hu_of hr) (pv 0) (pv 2) (fun _ _ => rfl)) (pa_cons (pe_dget (hu_of hr) (pv 0) (pv 1) (fun _ _ => rfl)) pa_nil))))
        (@pss_one _ _ _ (@ps_ret _ _ _ _ pe_bl))
        pss_nil))))
    (@pss_one _ _ _ (@ps_ret _ _ _ _ pe_bl))), ?_⟩
  rw [show start ["_law_dues_here", "_law_pick", "_law_name"] [V.ref ld, V.str z] = [some (V.ref ld), some (V.str z), none] from rfl]
  have line := line_val
  have hb240 : ∀ y ∈ ks, (f y).natAbs ≤ 10 ^ 240 := fun y hy => by
    obtain ⟨b1, b2⟩ := hbd y hy
    have : (10 : Int) ^ 230 ≤ 10 ^ 240 := by decide +kernel
    omega
  walk_at "go"
  refine ⟨kvs, .inl ⟨hd.d, fun o => ?_⟩⟩
  have hfz : upd H ld (.frz o (.dK kvs)) ld = some (.frz o (.dK kvs)) := upd_same
  have kt : ∀ v e, H v = some (.tup e) → upd H ld (.frz o (.dK kvs)) v = some (.tup e) := fun v e hv => by rw [upd_ne (ne_of hv hd.d (by intro z; cases z))]; exact hv
  have back : upd (upd H ld (.frz o (.dK kvs))) ld (.dK kvs) = H := by
    funext b
    by_cases e : b = ld
    · rw [e, upd_same, hd.d]
    · rw [upd_ne e, upd_ne e]
  generalize upd H ld (.frz o (.dK kvs)) = H1 at hfz kt back ⊢
  rename_i rest hrest
  refine forK_by (kvs := kvs) (fun i σ H' => ∃ v2 : Option V, σ = [some (V.ref ld), some (V.str z), v2] ∧ H' = H1) ⟨none, rfl, rfl⟩ (fun i σ H' _ h_ => by obtain ⟨_, _, rfl⟩ := h_; exact hfz) ?_ ?_
  · clear hrest
    rintro i p σ H' hp ⟨v2, rfl, rfl⟩
    obtain ⟨y, hy, hyk⟩ : ∃ y, y ∈ ks ∧ p.1 = Sum.inr y := by
      have h1 : (kvs.map (·.1))[i]? = some p.1 := by rw [List.getElem?_map, hp]; rfl
      rw [hd.k, List.getElem?_map] at h1
      cases e : ks[i]? with
      | none => rw [e] at h1; cases h1
      | some y => rw [e] at h1; exact ⟨y, List.mem_of_getElem? e, (Option.some.inj h1).symm⟩
    obtain ⟨a1, e1, e2⟩ := hd.v y hy
    obtain ⟨b1, g1, g2⟩ := hd.v z hz
    rw [hyk, show kV (Sum.inr y) = V.str y from rfl]
    have hle := hmin y hy
    walk_at "go"
    refine ⟨_, by rw [← e1]; exact dget_rd (k := Sum.inr y) (.inr ⟨o, hfz⟩), _, by rw [← g1]; exact dget_rd (k := Sum.inr z) (.inr ⟨o, hfz⟩), a1, rfl, b1, rfl, U, f y, kt _ _ e2, f z, kt _ _ g2, hU, hU2, hb240 y hy, hb240 z hz, ?_⟩
    rw [if_neg (by omega)]
    trivial
  · rintro σ H' ⟨v2, rfl, rfl⟩
    refine .inr ⟨ld, o, .dK kvs, hfz, fun o' u' e => ?_, ?_⟩
    · have e' : H ld = _ := e
      rw [hd.d] at e'
      cases e'
    rw [back]
    subst hrest
    walk_at "go"
    exact q H (Same.refl H)
theorem ok_l_not_there {f : Addr} {fd : FuncData} (F : Fun K "_law_not_there" "_law_not_there" s_l_not_there f fd) (T : Txt K mg xNotThere xCastError xStock xRule xDues) (D_Dues_due_of : DefM P w K mg base (CXE P w) 1 xDues "due_of" ["self", "name"] (sp57_due xDues xNotThere)) : FnOk P w K mg base (CXE P w) 2 f fd ["_law_rule", "_law_name"] (sp57_not xDues) := by
  have sc : FnScope ["_law_rule", "_law_name"] ["_law_rule", "_law_name"] (defScope s_l_not_there) := ⟨rfl, rfl, rfl, by decide +kernel, rfl, by decide +kernel, by decide +kernel⟩
  refine F.okE sc (fun vs H Q E h => ?_) (fun cdv A outer s H vs Q E hr h => ?_)
  · obtain ⟨q', p, n, U, x, s, z, rfl, hd, hrz, hz, q⟩ := h; rfl
  obtain ⟨q', p, n, U, x, s, z, rfl, hd, hrz, hz, q⟩ := h
  refine ⟨_, (@pss_cons _ _ _ _ _ (ps_tryV rfl rfl (fun t hp => (@pss_one _ _ _ (ps_expr (pe_methS D_Dues_due_of T.cl_Dues hr hp (pv 0) (pa_cons (pv 1) pa_nil)))))
      (ph_clsV rfl T.c_NotThere (fun x => (@pss_one _ _ _ (@ps_ret _ _ _ _ pe_bl))) ph_nil))
    (@pss_one _ _ _ (@ps_ret _ _ _ _ pe_bl))), ?_⟩
  rw [show start ["_law_rule", "_law_name"] [V.ref q', V.str z] = [some (V.ref q'), some (V.str z)] from rfl]
  have line := line_val
  obtain ⟨dx, fs, ho, hf⟩ := hd.o
  walk_at "go"
  exact ⟨dx, fs, ho, hf.m _ (by simp), p, n, U, x, s, hd, hrz, fun h => absurd h hz, fun _ H' e sm he => ⟨true, T.m_NotThere_NotThere, by rw [if_pos rfl]; exact q H' sm⟩⟩
theorem ok_l_served {f : Addr} {fd : FuncData} (F : Fun K "_law_served" "_law_served" s_l_served f fd) (T : Txt K mg xNotThere xCastError xStock xRule xDues) (D_Dues_level : DefM P w K mg base (CXE P w) 1 xDues "level" ["self"] (sp57_level xDues)) (D_Dues_choice : DefM P w K mg base (CXE P w) 4 xDues "choice" ["self", "lying"] (sp57_choice xDues)) (D_l_least : Def P w K mg base (CXE P w) 2 "_law_least" ["_law_dues_here", "_law_pick"] (sp57_lleast)) (D_Dues_gone : DefM P w K mg base (CXE P w) 5 xDues "gone" ["self", "name"] (sp57_gone xDues)) (D_l_sum : Def P w K mg base (CXE P w) 1 "_law_sum" ["_law_found", "_law_one", "_law_other"] (sp57_lsum K)) (D_Dues_prices : DefM P w K mg base (CXE P w) 1 xDues "prices" ["self"] (sp57_prices xDues)) (D_l_not_there : Def P w K mg base (CXE P w) 2 "_law_not_there" ["_law_rule", "_law_name"] (sp57_not xDues)) (D_Dues_came : DefM P w K mg base (CXE P w) 6 xDues "came" ["self", "name"] (sp57_owe K xDues xStock)) : FnOk P w K mg base (CXE P w) 7 f fd ["_law_rule", "_law_name", "_law_dues_here", "_law_rooms_here", "_law_places_here"] (sp57_served K xDues xStock) := by
  have sc : FnScope ["_law_rule", "_law_name", "_law_dues_here", "_law_rooms_here", "_law_places_here", "_law_left", "_law_before", "_law_reached", "_law_pick"] ["_law_rule", "_law_name", "_law_dues_here", "_law_rooms_here", "_law_places_here"] (defScope s_l_served) := ⟨rfl, rfl, rfl, by decide +kernel, rfl, by decide +kernel, by decide +kernel⟩
  refine F.okE sc (fun vs H Q E h => ?_) (fun cdv A outer s H vs Q E hr h => ?_)
  · obtain ⟨q', p, ld, rd, n, U, k, x, s, z, ts, kvs, ks, rfl, hd, hst, nd, htl, hU, hz, hzk, hrp, hrz, hl, hpm, hkn, hrd, hmt, hlow, hk0, hk1, hr1, hrl, q⟩ := h; rfl
  obtain ⟨q', p, ld, rd, n, U, k, x, s, z, ts, kvs, ks, rfl, hd, hst, nd, htl, hU, hz, hzk, hrp, hrz, hl, hpm, hkn, hrd, hmt, hlow, hk0, hk1, hr1, hrl, q⟩ := h
  refine ⟨_, (@pss_cons _ _ _ _ _ (ps_thaw (ps_set (i := 5) sc.nd rfl (Or.inl rfl) (pe_op op_sub (pv 4) (pe_callB (call_sumL rfl) rfl T.z_sum (by first | rfl | decide +kernel) (pa_cons (pe_comp1 "_law_other" [3] rfl rfl (pi_dict (pv 2)) (fun b => (pe_dget (hu_of hr) (pv 1) (pv 0) (fun _ _ => rfl)))) pa_nil)))))
    (@pss_cons _ _ _ _ _ (ps_set (i := 6) sc.nd rfl (Or.inl rfl) (pe_methS0 D_Dues_level T.cl_Dues hr (passS pass_on) (pv 0)))
    (@pss_cons _ _ _ _ _ (ps_set (i := 7) sc.nd rfl (Or.inl rfl) (pv 6))
    (@pss_cons _ _ _ _ _ (ps_while own_out (pt_cmpR op_lt (pv 5) (pe_dget (hu_of hr) (pv 3) (pv 1) (fun _ _ => rfl)) (nomark _))
      (@pss_cons _ _ _ _ _ (ps_set (i := 8) sc.nd rfl (Or.inl rfl) (pe_methS D_Dues_choice T.cl_Dues hr (passS pass_on) (pv 0) (pa_cons (pe_callTy (call_listD rfl) rfl T.z_list (by first | rfl | decide +kernel) (pa_cons (pv 2) pa_nil)) pa_nil)))
      (@pss_cons _ _ _ _ _ (ps_if (PW.pt (pw_or (pt_cmp (pc_dnotin (hu_of hr) (pv 8) (pv 2))) (pw_or1 (pt_not (pt_val (pe_callD D_l_least hr rfl pass_on (pa_cons (pv 2) (pa_cons (pv 8) pa_nil))))))))
        (@pss_one _ _ _ (@ps_ret _ _ _ _ pe_non))
        pss_nil)
      (@pss_cons _ _ _ _ _ (ps_set (i := 7) sc.nd rfl (Or.inl rfl) (pe_dpop1 (pv 2) (pv 8) ⟨rfl, rfl, rfl, rfl⟩))
      (@pss_cons _ _ _ _ _ (ps_set (i := 5) sc.nd rfl (Or.inl rfl) (pe_op op_add (pv 5) (pe_dget (hu_of hr) (pv 3) (pv 8) (fun _ _ => rfl))))
      (@pss_cons _ _ _ _ _ (ps_expr (pe_methS D_Dues_gone T.cl_Dues hr (passS pass_on) (pv 0) (pa_cons (pv 8) pa_nil)))
      (@pss_one _ _ _ (ps_if (PW.pt (pw_or (pt_cmpR (op_neQ hr) (pe_methS0 D_Dues_level T.cl_Dues hr (passS pass_on) (pv 0)) (pv 7) (nomark _)) (pw_or1 (pt_not (pt_val (pe_callD D_l_sum hr rfl pass_on (pa_cons (pv 7) (pa_cons (pv 6) (pa_cons (@pe_ix _ _ _ _ _ _ _ ix_list (pe_methS0 D_Dues_prices T.cl_Dues hr (passS pass_on) (pv 0)) (pe_un un_neg pe_int) (fun _ _ => rfl)) pa_nil)))))))))
        (@pss_one _ _ _ (@ps_ret _ _ _ _ pe_non))
        pss_nil))))))))
    (@pss_cons _ _ _ _ _ (ps_if (pt_not (pt_val (pe_callD D_l_not_there hr rfl pass_on (pa_cons (pv 0) (pa_cons (pv 1) pa_nil)))))
      (@pss_one _ _ _ (@ps_ret _ _ _ _ pe_non))
      pss_nil)
    (@pss_cons _ _ _ _ _ (ps_expr (pe_methS D_Dues_came T.cl_Dues hr (passS pass_on) (pv 0) (pa_cons (pv 1) pa_nil)))
    (@pss_one _ _ _ (@ps_ret _ _ _ _ (pv 7))))))))), ?_⟩
  rw [show start ["_law_rule", "_law_name", "_law_dues_here", "_law_rooms_here", "_law_places_here", "_law_left", "_law_before", "_law_reached", "_law_pick"] [V.ref q', V.str z, V.ref ld, V.ref rd, V.int n] = [some (V.ref q'), some (V.str z), some (V.ref ld), some (V.ref rd), some (V.int n), none, none, none, none] from rfl]
  have line := line_val
  obtain ⟨dx, fs, ho, hf⟩ := hd.o
  have hUp := hU.p
  have hUb := hU.b
  have hkk := hl.k
  have hkl : kvs.length ≤ 100 := by
    have h1 := congrArg List.length hkk
    rw [List.length_map, List.length_map, hpm.length_eq] at h1
    have := hd.l.1
    omega
  walk_at "go"
  refine ⟨kvs, .inl ⟨hl.d, fun o => ?_⟩⟩
  have hfz : upd H ld (.frz o (.dK kvs)) ld = some (.frz o (.dK kvs)) := upd_same
  have hrd1 : upd H ld (.frz o (.dK kvs)) rd = some (.dK (rmK ts)) := by rw [upd_ne hmt.n3.symm]; exact hrd
  have back : upd (upd H ld (.frz o (.dK kvs))) ld (.dK kvs) = H ∧ True := ⟨by
    funext b
    by_cases e : b = ld
    · rw [e, upd_same, hl.d]
    · rw [upd_ne e, upd_ne e], trivial⟩
  refine compK_ix (fun i => V.int (rm ts (ks.getD i Str.empty))) hfz (by rw [sizeLine_eq]; omega) (fun b i pp H2 Q' hp sm2 q' => ?_) fun D hD => ?_
  · have hik : i < ks.length := by
      have h1 := (List.getElem?_eq_some_iff.mp hp).1
      have h2 := congrArg List.length hkk
      rw [List.length_map, List.length_map] at h2
      omega
    have hy : ks.getD i Str.empty ∈ ks := List.mem_of_getElem? (getD_str hik)
    have hyk : pp.1 = Sum.inr (ks.getD i Str.empty) := by
      have h1 : (kvs.map (·.1))[i]? = some pp.1 := by rw [List.getElem?_map, hp]; rfl
      rw [hkk, List.getElem?_map, getD_str hik] at h1
      exact (Option.some.inj h1).symm
    rw [hyk, show kV (Sum.inr (ks.getD i Str.empty)) = V.str (ks.getD i Str.empty) from rfl]
    generalize ks.getD i Str.empty = y at hy q' ⊢
    walk_at "go"
    exact ⟨_, by rw [← rmK_v nd (hkn y (hpm.mem_iff.mp hy))]; exact dget_rd (k := Sum.inr y) (.inl (sm2 _ _ hrd1)), q'⟩
  · have eL : (List.range kvs.length).map (fun i => V.int (rm ts (ks.getD i Str.empty))) = (ks.map (rm ts)).map V.int := by
      have h2 := congrArg List.length hkk
      rw [List.length_map, List.length_map] at h2
      rw [h2, List.map_map]
      refine List.ext_getElem? fun i => ?_
      rw [List.getElem?_map, List.getElem?_map]
      by_cases hi : i < ks.length
      · rw [List.getElem?_range hi, getD_str hi]; rfl
      · rw [List.getElem?_eq_none (by rw [List.length_range]; omega), List.getElem?_eq_none (by omega)]; rfl
    rw [eL]
    have smD : Same (upd H ld (.frz o (.dK kvs))) (upd (upd H ld (.frz o (.dK kvs))) D (.lst ((ks.map (rm ts)).map V.int))) := Same.new hD
    have hDl : D ≠ ld := fun e => by rw [e, hfz] at hD; cases hD
    refine ⟨D, rfl, _, SqL.of upd_same, .inr ⟨ld, o, .dK kvs, smD _ _ hfz, fun o' u' e => ?_, ?_⟩⟩
    · have e' : H ld = _ := e
      rw [hl.d] at e'
      cases e'
    have smA : Same H (upd (upd (upd H ld (.frz o (.dK kvs))) D (.lst ((ks.map (rm ts)).map V.int))) ld (.dK kvs)) := fun b u e => by
      by_cases hb : b = ld
      · rw [hb] at e ⊢
        rw [upd_same, ← e, hl.d]
      · rw [upd_ne hb]
        exact smD _ _ (by rw [upd_ne hb]; exact e)
    rw [show (ks.map (rm ts)).sum = N41.sm (rm ts) ks from rfl]
    generalize upd (upd (upd H ld (.frz o (.dK kvs))) D (.lst ((ks.map (rm ts)).map V.int))) ld (.dK kvs) = H1 at smA ⊢
    clear smD hfz hrd1 back hD hDl eL
    have hd1 := hd.same smA
    obtain ⟨dx1, fs1, ho1, hf1⟩ := hd1.o
    have hl1 := hl.keep (smA _ _ hl.d) (fun v e h => smA _ _ h)
    have hrd1 := smA _ _ hrd
    rename_i rest hrest
    subst hrest
    walk_at "go"
    refine ⟨dx1, fs1, ho1, hf1.m _ (by simp), p, n, U, x, s, hd1, ?_⟩
    have hbe : RtA H1 x.rp U s.r := hd1.rp
    rename_i rest hrest
    subst hrest
    walk_at "go"
    rename_i rest hrest
    subst hrest
    walk_at "go"
    have hz60 : rm ts z ≤ n := hrp
    have iv0 : SvI xDues U H q' p ld rd n k x s ts H1 x s kvs ks x.rp x.rp := ⟨fun b o nb e => smA _ _ e, hd1, rfl, rfl, hl1, hpm, hlow, rfl, fun y hy => hy, Int.le_refl _, by rw [show s.r - s.r = s.rs.getLastD 0 by rw [hrl]; omega]; exact (set_last hr1).symm, hbe, hrd1, hbe⟩
    refine while_d (m0 := ks.length) (fun m σ H' => ∃ (x' : DuX) (s' : DuS) (kvs' : List (Key × V)) (ks' : List Str) (rv : Addr) (v8 : Option V), σ = [some (V.ref q'), some (V.str z), some (V.ref ld), some (V.ref rd), some (V.int n), some (V.int (n - N41.sm (rm ts) ks')), some (V.ref x.rp), some (V.ref rv), v8] ∧ SvI xDues U H q' p ld rd n k x s ts H' x' s' kvs' ks' rv x.rp ∧ m = ks'.length) ⟨x, s, kvs, ks, x.rp, none, rfl, iv0, rfl⟩ ?_
    clear iv0 hd1 hl1 hrd1 hbe smA ho1 hf1
    rintro m σ H' ⟨x', s', kvs', ks', rv, v8, rfl, iv, hm⟩
    have hzr := rmK_v nd hz
    walk_at "go"
    refine ⟨_, by rw [← hzr]; exact dget_rd (k := Sum.inr z) (.inl iv.rd), _, rfl, ?_⟩
    have hpl := iv.pm.length_eq
    have hd' := iv.d
    obtain ⟨dx2, fs2, ho2, hf2⟩ := hd'.o
    split
    · rename_i hlt
      refine ⟨fun σ' H'' => ∃ m', m' < m ∧ ∃ (x' : DuX) (s' : DuS) (kvs' : List (Key × V)) (ks' : List Str) (rv : Addr) (v8 : Option V), σ' = [some (V.ref q'), some (V.str z), some (V.ref ld), some (V.ref rd), some (V.int n), some (V.int (n - N41.sm (rm ts) ks')), some (V.ref x.rp), some (V.ref rv), v8] ∧ SvI xDues U H q' p ld rd n k x s ts H'' x' s' kvs' ks' rv x.rp ∧ m' = ks'.length, fun _ _ h => h, ?_⟩
      have hne : s'.ks ≠ [] := fun e => by
        have h1 := sm_perm (f := rm ts) iv.pm
        rw [e, N41.sm_nil] at h1
        omega
      walk_at "go"
      refine ⟨dx2, fs2, ho2, hf2.m _ (by simp), _, iv.l.d, fun l1 hl1 => ?_⟩
      have sm1 : Same H' (upd H' l1 (.lst (kvs'.map fun p => kV p.1))) := Same.new hl1
      generalize upd H' l1 (.lst (kvs'.map fun p => kV p.1)) = H2 at sm1 ⊢
      refine ⟨p, n, U, x', s', hd'.same sm1, hUp, hUb, hne, fun pk H3 sm3 hpk hleast => ?_⟩
      have iv3 := (iv.same sm1).same sm3
      clear iv hd' ho2 hf2 sm1 sm3 hl1
      have hpkl : pk ∈ ks' := iv3.pm.mem_iff.mpr hpk
      have hpkt : pk ∈ ts.map (·.1) := hkn pk (iv3.su pk hpk)
      have hkl2 : ks'.length ≤ 100 := by rw [hpl]; exact iv3.d.l.1
      have hbd2 : ∀ y ∈ ks', Bd (s.f y) := fun y hy => by rw [← iv3.f]; exact iv3.d.b.2.1 y (iv3.pm.mem_iff.mp hy)
      rename_i rest hrest
      subst hrest
      walk_at "go"
      refine ⟨_, dget_rd (k := Sum.inr pk) (.inl iv3.l.d), ?_⟩
      rw [keys_val iv3.l.k pk, if_neg (by simp [hpkl])]
      refine ⟨U, kvs', ks', s.f, iv3.l, hUp, hUb, hbd2, hpkl, fun y hy => by rw [← iv3.f]; exact hleast y (iv3.pm.mem_iff.mp hy), hkl2, fun H4 sm4 => ?_⟩
      have iv4 := iv3.same sm4
      clear iv3 sm4
      obtain ⟨a1, e1, e2⟩ := iv4.l.v pk hpkl
      rename_i rest hrest
      subst hrest
      walk_at "go"
      refine ⟨.inl ⟨_, .inl iv4.l.d⟩, _, iv4.l.d, Sum.inr pk, rfl, _, e1, ?_⟩
      have hl5 := iv4.l.drop (z := pk)
      have kt5 : ∀ v e, H4 v = some (.tup e) → upd H4 ld (.dK (dropK kvs' (Sum.inr pk))) v = some (.tup e) := fun v e hv => by rw [upd_ne (ne_of hv iv4.l.d (by intro z; cases z))]; exact hv
      obtain ⟨dx4, fs4, ho4, hf4⟩ := iv4.d.o
      obtain ⟨us4, rr4, rr4b⟩ := iv4.d.rr
      have nq : q' ≠ ld := ne_of ho4 iv4.l.d (by intro z; cases z)
      have nr : x'.rr ≠ ld := ne_of rr4 iv4.l.d (by intro z; cases z)
      have ndd : x'.dd ≠ ld := by rw [iv4.e1]; exact hmt.n1.symm
      have hd5 : DuAt xDues U (upd H4 ld (.dK (dropK kvs' (Sum.inr pk)))) q' p n x' s' := iv4.d.keep (fun b hb o' e => by
        have hb' : b = q' ∨ b = x'.dd ∨ b = x'.rr := by simpa [DuM] using hb
        rw [upd_ne ?_]
        · exact e
        · rcases hb' with k | k | k <;> rw [k]
          · exact nq
          · exact ndd
          · exact nr) kt5
      have hrd5 : upd H4 ld (.dK (dropK kvs' (Sum.inr pk))) rd = some (.dK (rmK ts)) := by rw [upd_ne hmt.n3.symm]; exact iv4.rd
      have ha5 : RtA (upd H4 ld (.dK (dropK kvs' (Sum.inr pk)))) a1 U (s.f pk) := kt5 _ _ e2
      have hbe5 : RtA (upd H4 ld (.dK (dropK kvs' (Sum.inr pk)))) x.rp U s.r := kt5 _ _ iv4.be
      have kp5 : Kp (ld :: DuM q' x) H (upd H4 ld (.dK (dropK kvs' (Sum.inr pk)))) := fun b o' nb e => by rw [upd_ne (fun k => nb (by rw [k]; simp))]; exact iv4.kp b o' nb e
      generalize upd H4 ld (.dK (dropK kvs' (Sum.inr pk))) = H5 at hl5 kt5 hd5 hrd5 ha5 hbe5 kp5 ⊢
      clear kt5 ho4 hf4 rr4 rr4b
      obtain ⟨dx5, fs5, ho5, hf5⟩ := hd5.o
      rename_i rest hrest
      subst hrest
      walk_at "go"
      refine ⟨_, by rw [← rmK_v nd hpkt]; exact dget_rd (k := Sum.inr pk) (.inl hrd5), _, rfl, ?_⟩
      have eLf : n - N41.sm (rm ts) ks' + rm ts pk = n - N41.sm (rm ts) (ks'.erase pk) := by rw [N41.sm_erase hpkl]; omega
      rw [eLf]
      clear eLf
      have hrs1 : 1 ≤ s'.rs.length := by rw [iv4.rs, List.length_set]; exact hr1
      have hlast : s'.rs.getLastD 0 = s'.r - s.r := by rw [iv4.rs]; exact last_set hr1
      have hfp : s'.f pk = s.f pk := by rw [iv4.f]
      obtain ⟨lo1, lo2⟩ := iv4.lo.c pk hpk
      have hle := iv4.le
      have hs0 := hlow.a
      obtain ⟨bf0, bf1⟩ := iv4.d.b.2.1 pk hpk
      rename_i rest hrest
      subst hrest
      walk_at "go"
      refine ⟨dx5, fs5, ho5, hf5.m _ (by simp), p, n, U, x', s', hd5, hUp, hUb, hpk, hrs1, ⟨by rw [hlast]; omega, by rw [hlast]; omega⟩, fun a6 H6 kp6 hd6 => ?_⟩
      have eM : DuM q' x' = DuM q' x := by unfold DuM; rw [iv4.e1, iv4.e2]
      have nld : ld ∉ DuM q' x' := fun h => by
        have h' : ld = q' ∨ ld = x'.dd ∨ ld = x'.rr := by simpa [DuM] using h
        rcases h' with k | k | k
        · exact nq k.symm
        · exact ndd k.symm
        · exact nr k.symm
      have kt6 := hd5.tup kp6
      have hl6 := hl5.keep (kp6 _ _ nld hl5.d) kt6
      have nrd : rd ∉ DuM q' x' := fun h => by
        have h' : rd = q' ∨ rd = x'.dd ∨ rd = x'.rr := by simpa [DuM] using h
        obtain ⟨us5, rr5, _⟩ := hd5.rr
        rcases h' with k | k | k
        · rw [k, ho5] at hrd5; cases hrd5
        · rw [iv4.e1] at k; exact hmt.n2 k
        · rw [k, rr5] at hrd5; cases hrd5
      have hrd6 := kp6 _ _ nrd hrd5
      have ha6 : RtA H6 a1 U (s.f pk) := kt6 _ _ ha5
      have hbe6 : RtA H6 x.rp U s.r := kt6 _ _ hbe5
      have kpA : Kp (ld :: DuM q' x) H H6 := fun b o' nb e => kp6 b o' (fun k => nb (by rw [eM] at k; exact List.mem_cons_of_mem _ k)) (kp5 b o' nb e)
      obtain ⟨dx6, fs6, ho6, hf6⟩ := hd6.o
      have hrp6 : RtA H6 a6 U (s.f pk) := by rw [← hfp]; exact hd6.rp
      have B : (10 : Int) ^ 230 ≤ 10 ^ 240 := by decide +kernel
      rename_i rest hrest
      subst hrest
      walk_at "go"
      refine ⟨dx6, fs6, ho6, hf6.m _ (by simp), p, n, U, _, _, hd6, ?_⟩
      refine ⟨_, ⟨a6, a1, _, _, rfl, rfl, .inr ⟨SqT.of hrp6, SqT.of ha6⟩, rfl, rfl, rfl⟩, ?_⟩
      rw [flatEq_self (by rfl), if_neg (by decide)]
      refine ⟨dx6, fs6, ho6, hf6.m _ (by simp), p, n, U, _, _, hd6, fun l6 us6 hl6n hus6 => ?_⟩
      have erl : (goneS s' pk).rs.length = s'.rs.length := by unfold goneS; rw [List.length_set]
      obtain ⟨pre, u, rfl, hpr⟩ := split_last (us := us6) (n := s'.rs.length - 1) (by rw [hus6.1, erl]; omega)
      have hu : RtA H6 u U (s.f pk - s.r) := hus6.2 (s'.rs.length - 1) u (s.f pk - s.r) (by rw [List.getElem?_append_right (by omega), hpr, Nat.sub_self]; rfl) (by
        show (s'.rs.set (s'.rs.length - 1) (s'.rs.getLastD 0 + (s'.f pk - s'.r)))[s'.rs.length - 1]? = _
        rw [List.getElem?_set_self (by omega), hlast, hfp]
        congr 1
        omega)
      have smP : Same H6 (upd H6 l6 (.lst ((pre ++ [u]).map V.ref))) := Same.new hl6n
      have hlP : upd H6 l6 (.lst ((pre ++ [u]).map V.ref)) l6 = some (.lst (pre.map V.ref ++ [V.ref u])) := by rw [upd_same, List.map_append]; rfl
      generalize upd H6 l6 (.lst ((pre ++ [u]).map V.ref)) = H7 at smP hlP ⊢
      have ha7 : RtA H7 a1 U (s.f pk) := smP _ _ ha6
      have hbe7 : RtA H7 x.rp U s.r := smP _ _ hbe6
      have hu7 : RtA H7 u U (s.f pk - s.r) := smP _ _ hu
      refine ixL_of (SqL.of hlP) (v := V.ref u) (atI_last _ _) ⟨u, rfl, U, s.r, s.f pk - s.r, ?_, hbe7.cr hUp hUb (by omega), hu7.cr hUp hUb (by omega), hUp, ?_⟩
      · rw [show s.r + (s.f pk - s.r) = s.f pk by omega]
        exact ha7.cr hUp hUb (by omega)
      have hkl3 := List.length_erase_of_mem hpkl
      have hk0' := List.length_pos_of_mem hpkl
      have sv : SvI xDues U H q' p ld rd n k x s ts H7 { x' with rp := a6 } (goneS s' pk) (dropK kvs' (Sum.inr pk)) (ks'.erase pk) a1 x.rp := ⟨fun b o' nb e => smP _ _ (kpA b o' nb e), hd6.same smP, iv4.e1, iv4.e2, hl6.keep (smP _ _ hl6.d) (fun v e h => smP _ _ h), iv4.pm.erase pk, ⟨bf0, lo2, fun y hy => ⟨hleast y (List.mem_of_mem_erase hy), (iv4.lo.c y (List.mem_of_mem_erase hy)).2⟩⟩, iv4.f, fun y hy => iv4.su y (List.mem_of_mem_erase hy), by show s.r ≤ s'.f pk; omega, by
        show s'.rs.set (s'.rs.length - 1) (s'.rs.getLastD 0 + (s'.f pk - s'.r)) = s.rs.set (s.rs.length - 1) (s'.f pk - s.r)
        rw [hlast, iv4.rs, List.length_set, List.set_set]
        congr 1
        omega, by show RtA H7 a1 U (s'.f pk); rw [hfp]; exact ha7, smP _ _ hrd6, hbe7⟩
      exact ⟨_, by omega, _, _, _, _, rfl, sv, rfl⟩
    · rename_i hge
      have hzs : z ∉ s'.ks := fun h => hzk (iv.su z h)
      walk_at "go"
      refine ⟨p, n, U, x', s', hd', hrz, hzs, fun H8 sm8 => ?_⟩
      have iv8 := iv.same sm8
      clear iv hd' ho2 hf2 sm8
      obtain ⟨dx8, fs8, ho8, hf8⟩ := iv8.d.o
      have hlb := iv8.lo.b
      have hk60 : s'.ks.length ≤ 60 := by
        have h1 := List.Nodup.length_le_of_subset iv8.d.nd (fun y hy => hkn y (iv8.su y hy))
        rw [List.length_map] at h1
        omega
      have B : (100 : Int) * 10 ^ 210 ≤ 10 ^ 229 := by decide +kernel
      have hkB : k * 10 ^ 210 ≤ 100 * 10 ^ 210 := Int.mul_le_mul_of_nonneg_right hk1 (by decide +kernel)
      have eM : DuM q' x' = DuM q' x := by unfold DuM; rw [iv8.e1, iv8.e2]
      rename_i rest hrest
      subst hrest
      walk_at "go"
      refine ⟨dx8, fs8, ho8, hf8.m _ (by simp), p, n, U, x', s', iv8.d, ts, hst _ iv8.kp, nd, hz, hzs, hU, by omega, by omega, fun H9 kp9 hd9 => ?_⟩
      have kt9 := iv8.d.tup kp9
      obtain ⟨us8, rr8, rr8b⟩ := iv8.d.rr
      have nld : ld ∉ DuM q' x' := fun h => by
        have h' : ld = q' ∨ ld = x'.dd ∨ ld = x'.rr := by simpa [DuM] using h
        have hld := iv8.l.d
        rcases h' with k | k | k
        · rw [k, ho8] at hld; cases hld
        · rw [iv8.e1] at k; exact hmt.n1 k
        · rw [k, rr8] at hld; cases hld
      clear rr8b
      rename_i rest hrest
      subst hrest
      walk_at "go"
      have ef := iv8.f
      refine q H9 x' s' kvs' ks' rv (fun b o' nb e => kp9 b o' (fun k => nb (by rw [eM] at k; exact List.mem_cons_of_mem _ k)) (iv8.kp b o' nb e)) (by rw [← ef]; exact hd9) iv8.e1 iv8.e2 (iv8.l.keep (kp9 _ _ nld iv8.l.d) kt9) iv8.pm iv8.lo ef iv8.su iv8.le iv8.rs (kt9 _ _ iv8.rv)
theorem ok_l_prices {f : Addr} {fd : FuncData} (F : Fun K "_law_prices" "_law_prices" s_l_prices f fd) (T : Txt K mg xNotThere xCastError xStock xRule xDues) (D_l_ratio : Def P w K mg base (CXE P w) 2 "_law_ratio" ["_law_found"] (sp57_lratio)) (D_l_sum : Def P w K mg base (CXE P w) 1 "_law_sum" ["_law_found", "_law_one", "_law_other"] (sp57_lsum K)) : FnOk P w K mg base (CXE P w) 3 f fd ["_law_found", "_law_kept", "_law_before", "_law_level"] (sp57_lprices K) := by
  have sc : FnScope ["_law_found", "_law_kept", "_law_before", "_law_level", "_law_price"] ["_law_found", "_law_kept", "_law_before", "_law_level"] (defScope s_l_prices) := ⟨rfl, rfl, rfl, by decide +kernel, rfl, by decide +kernel, by decide +kernel⟩
  refine F.okE sc (fun vs H Q E h => ?_) (fun cdv A outer s H vs Q E hr h => ?_)
  · obtain ⟨fo, ke, be, le, us, ws, rs, U, r, r', rfl, hfo, hke, hus, hws, hbe, hle, hU, hU2, hbr, hbr', hrr, hrs, q⟩ := h; rfl
  obtain ⟨fo, ke, be, le, us, ws, rs, U, r, r', rfl, hfo, hke, hus, hws, hbe, hle, hU, hU2, hbr, hbr', hrr, hrs, q⟩ := h
  refine ⟨_, (@pss_cons _ _ _ _ _ (ps_if (PW.pt (pw_or (pt_not (pt_val (pe_callB call_isinst rfl T.z_isinstance (by first | rfl | decide +kernel) (pa_cons (pv 0) (pa_cons (pe_bltn (v := .ty "list") rfl T.z_list (by first | rfl | decide +kernel) rfl) pa_nil))))) (pw_or (pt_cmpR op_ne (pe_callB call_len_seq rfl T.z_len PySem.boot_len (pa_cons (pv 0) pa_nil)) (pe_op op_add (pe_callB call_len_seq rfl T.z_len PySem.boot_len (pa_cons (pv 1) pa_nil)) pe_int) (nomark _)) (pw_or1 (pt_cmpR (op_neN 1 hr) (pe_slice sl_list (pv 0) po_none (po_some (pe_un un_neg pe_int))) (pv 1) (nomark _))))))
      (@pss_one _ _ _ (@ps_ret _ _ _ _ pe_bl))
      pss_nil)
    (@pss_cons _ _ _ _ _ (ps_set (i := 4) sc.nd rfl (Or.inl rfl) (@pe_ix _ _ _ _ _ _ _ ix_list (pv 0) (pe_un un_neg pe_int) (fun _ _ => rfl)))
    (@pss_cons _ _ _ _ _ (ps_if (PW.pt (pw_or (pt_not (pt_val (pe_callD D_l_ratio hr rfl pass_on (pa_cons (pv 4) pa_nil)))) (pw_or (pt_cmpR op_lt (@pe_ix _ _ _ _ _ _ _ ix_tup (pv 4) pe_int (fun _ _ => rfl)) pe_int (nomark _)) (pw_or1 (pt_not (pt_val (pe_callD D_l_ratio hr rfl pass_on (pa_cons (pv 3) pa_nil))))))))
      (@pss_one _ _ _ (@ps_ret _ _ _ _ pe_bl))
      pss_nil)
    (@pss_one _ _ _ (@ps_ret _ _ _ _ (pe_callD D_l_sum hr rfl pass_on (pa_cons (pv 3) (pa_cons (pv 2) (pa_cons (pv 4) pa_nil))))))))), ?_⟩
  rw [show start ["_law_found", "_law_kept", "_law_before", "_law_level", "_law_price"] [V.ref fo, V.ref ke, V.ref be, V.ref le] = [some (V.ref fo), some (V.ref ke), some (V.ref be), some (V.ref le), none] from rfl]
  have line := line_val
  have B : (10 : Int) ^ 230 ≤ 10 ^ 240 := by decide +kernel
  obtain ⟨b0, b1⟩ := hbr
  obtain ⟨b2, b3⟩ := hbr'
  obtain ⟨pre, u, rfl, hpl⟩ := split_last (us := us) (n := rs.length) (by rw [hus.1, List.length_append]; rfl)
  obtain ⟨hpre, hu⟩ := hus.left
  have hwl := hws.1
  walk_at "go"
  refine ⟨_, .inl (SqL.of hfo), _, .inl (SqL.of hke), ?_⟩
  rw [if_neg (by rw [List.length_map, List.length_map, List.length_append]; simp only [List.length_cons, List.length_nil]; omega)]
  refine ⟨_, SqL.of hfo, fun l1 hl1 => ?_⟩
  rw [List.map_append, show [u].map V.ref = [V.ref u] from rfl, cut_m1]
  have sm1 : Same H (upd H l1 (.lst (pre.map V.ref))) := Same.new hl1
  have hl11 : upd H l1 (.lst (pre.map V.ref)) l1 = some (.lst (pre.map V.ref)) := upd_same
  generalize upd H l1 (.lst (pre.map V.ref)) = H1 at sm1 hl11 ⊢
  refine ⟨rts_like hl11 (sm1 _ _ hke) (hpre.keep fun v e h => sm1 _ _ h) (hws.keep fun v e h => sm1 _ _ h), ?_⟩
  have hfo1 := sm1 _ _ hfo
  rw [List.map_append, show [u].map V.ref = [V.ref u] from rfl] at hfo1
  have hu1 : RtA H1 u U (r' - r) := sm1 _ _ hu
  have hbe1 : RtA H1 be U r := sm1 _ _ hbe
  have hle1 : RtA H1 le U r' := sm1 _ _ hle
  rename_i rest hrest
  subst hrest
  walk_at "go"
  refine ixL_of (SqL.of hfo1) (v := V.ref u) (atI_last _ _) ?_
  rename_i rest hrest
  subst hrest
  walk_at "go"
  refine ⟨U, _, hu1, hU, ixT_of (SqT.of hu1) (v := V.int (rt U (r' - r)).1) rfl ⟨_, rfl, ?_⟩⟩
  rw [if_neg (rt_sign hU (by omega))]
  refine ⟨U, _, hle1, hU, ?_⟩
  rename_i rest hrest
  subst hrest
  walk_at "go"
  refine ⟨U, r, r' - r, ?_, hbe1.cr hU hU2 (by omega), hu1.cr hU hU2 (by omega), hU, q H1 sm1⟩
  rw [show r + (r' - r) = r' by omega]
  exact hle1.cr hU hU2 (by omega)
theorem ok_l_dues {f : Addr} {fd : FuncData} (F : Fun K "_law_dues" "_law_dues" s_l_dues f fd) (T : Txt K mg xNotThere xCastError xStock xRule xDues) (D_Dues_due_of : DefM P w K mg base (CXE P w) 1 xDues "due_of" ["self", "name"] (sp57_due xDues xNotThere)) (D_l_ratio : Def P w K mg base (CXE P w) 2 "_law_ratio" ["_law_found"] (sp57_lratio)) (D_l_sum : Def P w K mg base (CXE P w) 1 "_law_sum" ["_law_found", "_law_one", "_law_other"] (sp57_lsum K)) (D_l_under : Def P w K mg base (CXE P w) 1 "_law_under" ["_law_one", "_law_other"] (sp57_lunder)) : FnOk P w K mg base (CXE P w) 3 f fd ["_law_rule", "_law_name", "_law_dues_here", "_law_thing", "_law_level"] (sp57_ldues K xDues) := by
  have sc : FnScope ["_law_rule", "_law_name", "_law_dues_here", "_law_thing", "_law_level", "_law_found", "_law_other"] ["_law_rule", "_law_name", "_law_dues_here", "_law_thing", "_law_level"] (defScope s_l_dues) := ⟨rfl, rfl, rfl, by decide +kernel, rfl, by decide +kernel, by decide +kernel⟩
  refine F.okE sc (fun vs H Q E h => ?_) (fun cdv A outer s H vs Q E hr h => ?_)
  · obtain ⟨q', p, ld, th, le, n, U, x, s, z, ts, kvs, ks, fl, rfl, hd, nd, hU, hz, hzk, hfz, hlo, hrz, hl, hks, hth, hle, hne, hkl, q⟩ := h; rfl
  obtain ⟨q', p, ld, th, le, n, U, x, s, z, ts, kvs, ks, fl, rfl, hd, nd, hU, hz, hzk, hfz, hlo, hrz, hl, hks, hth, hle, hne, hkl, q⟩ := h
  refine ⟨_, (@pss_cons _ _ _ _ _ (ps_set (i := 5) sc.nd rfl (Or.inl rfl) (pe_methS D_Dues_due_of T.cl_Dues hr (passS pass_on) (pv 0) (pa_cons (pv 1) pa_nil)))
    (@pss_cons _ _ _ _ _ (ps_if (PW.pt (pw_or (pt_not (pt_val (pe_callD D_l_ratio hr rfl pass_on (pa_cons (pv 5) pa_nil)))) (pw_or1 (pt_not (pt_val (pe_callD D_l_sum hr rfl pass_on (pa_cons (pv 5) (pa_cons (pv 4) (pa_cons (pe_tup (pa_cons (@pe_ix _ _ _ _ _ _ _ ix_tup (pv 3) pe_int (fun _ _ => rfl)) (pa_cons (@pe_ix _ _ _ _ _ _ _ ix_tup (pv 3) pe_int (fun _ _ => rfl)) pa_nil))) pa_nil)))))))))
      (@pss_one _ _ _ (@ps_ret _ _ _ _ pe_bl))
      pss_nil)
    (@pss_cons _ _ _ _ _ (ps_thaw (ps_for own_out rfl (pi_dict (pv 2)) (pg_name (i := 6) sc.nd rfl (Or.inl rfl))
      (@pss_cons _ _ _ _ _ (ps_if (PW.pt (pw_and (pt_cmpR op_ne (pv 6) (pv 1) (nomark _)) (pw_and1 (pt_cmpR (op_neQ hr) (pe_methS D_Dues_due_of T.cl_Dues hr (passS pass_on) (pv 0) (pa_cons (pv 6) pa_nil)) (pe_dget (hu_of hr) (pv 2) (pv 6) (fun _ _ => rfl)) (nomark _)))))
        (@pss_one _ _ _ (@ps_ret _ _ _ _ pe_bl))
        pss_nil)
      (@pss_one _ _ _ (ps_if (pt_val (pe_callD D_l_under hr rfl pass_on (pa_cons (pe_methS D_Dues_due_of T.cl_Dues hr (passS pass_on) (pv 0) (pa_cons (pv 6) pa_nil)) (pa_cons (pv 4) pa_nil))))
        (@pss_one _ _ _ (@ps_ret _ _ _ _ pe_bl))
        pss_nil)))))
    (@pss_cons _ _ _ _ _ (ps_dput (hu_of hr) (pv 2) (pv 1) (pv 5) rfl)
    (@pss_one _ _ _ (@ps_ret _ _ _ _ pe_bl)))))), ?_⟩
  rw [show start ["_law_rule", "_law_name", "_law_dues_here", "_law_thing", "_law_level", "_law_found", "_law_other"] [V.ref q', V.str z, V.ref ld, V.ref th, V.ref le] = [some (V.ref q'), some (V.str z), some (V.ref ld), some (V.ref th), some (V.ref le), none, none] from rfl]
  have line := line_val
  obtain ⟨dx, fs, ho, hf⟩ := hd.o
  have hUp := hU.p
  have hUb := hU.b
  have B : (10 : Int) ^ 230 ≤ 10 ^ 240 := by decide +kernel
  have hB : ∀ y ∈ s.ks, (s.f y).natAbs ≤ 10 ^ 240 := fun y hy => by
    obtain ⟨b1, b2⟩ := hd.b.2.1 y hy
    omega
  obtain ⟨r0, r1⟩ := hd.b.1
  obtain ⟨sh0, sh1, rm1, rm2, rm3, c1, c2⟩ := hU.sh nd hz
  walk_at "go"
  refine ⟨dx, fs, ho, hf.m _ (by simp), p, n, U, x, s, hd, hrz z hzk, fun hz1 a ha => ?_, fun h => absurd hzk h⟩
  rename_i rest hrest
  subst hrest
  walk_at "go"
  refine ⟨U, _, ha, hUp, ixT_of hth (v := V.int (cst ts z)) rfl (ixT_of hth (v := V.int (rm ts z)) rfl ⟨by omega, fun p1 hp1 => ?_⟩)⟩
  have sm1 : Same H (upd H p1 (.tup [V.int (cst ts z), V.int (rm ts z)])) := Same.new hp1
  have hp11 : upd H p1 (.tup [V.int (cst ts z), V.int (rm ts z)]) p1 = some (.tup [V.int (cst ts z), V.int (rm ts z)]) := upd_same
  generalize upd H p1 (.tup [V.int (cst ts z), V.int (rm ts z)]) = H1 at sm1 hp11 ⊢
  have ha1 : RtA H1 a U (s.f z) := sm1 _ _ ha
  have hle1 : RtA H1 le U s.r := sm1 _ _ hle
  have hd1 := hd.same sm1
  have B2 : (10 : Nat) ^ 30 ≤ 10 ^ 240 := by decide +kernel
  have B3 : (1000 : Nat) ≤ 10 ^ 180 := by decide +kernel
  refine ⟨U, s.r, sh U ts z, by rw [← hfz]; exact ha1.cr hUp hUb (hB z hzk), hle1.cr hUp hUb (by omega), ⟨_, _, SqT.of hp11, by omega, ?_, Nat.le_trans (by omega) B2, Nat.le_trans (by omega) B3⟩, hUp, ?_⟩
  · unfold N57.sh
    rw [Int.mul_assoc, Int.ediv_mul_cancel rm3]
  obtain ⟨dx1, fs1, ho1, hf1⟩ := hd1.o
  have hl1 : H1 ld = some (.dK kvs) := sm1 _ _ hl.d
  rename_i rest hrest
  subst hrest
  walk_at "go"
  refine ⟨kvs, .inl ⟨hl1, fun o => ?_⟩⟩
  have hfz1 : upd H1 ld (.frz o (.dK kvs)) ld = some (.frz o (.dK kvs)) := upd_same
  have kt : ∀ v e, H1 v = some (.tup e) → upd H1 ld (.frz o (.dK kvs)) v = some (.tup e) := fun v e hv => by rw [upd_ne (ne_of hv hl1 (by intro z; cases z))]; exact hv
  obtain ⟨us, rr1, rr2⟩ := hd1.rr
  obtain ⟨kd, dd1, dd2⟩ := hd1.dd
  have hd2 : DuAt xDues U (upd H1 ld (.frz o (.dK kvs))) q' p n x s := hd1.keep (fun b hb o' e => by
    have hb' : b = q' ∨ b = x.dd ∨ b = x.rr := by simpa [DuM] using hb
    rw [upd_ne ?_]
    · exact e
    · rcases hb' with k | k | k <;> rw [k]
      · exact ne_of ho1 hl1 (by intro z; cases z)
      · exact hne.symm
      · exact ne_of rr1 hl1 (by intro z; cases z)) kt
  have hle2 : RtA (upd H1 ld (.frz o (.dK kvs))) le U s.r := kt _ _ hle1
  have back : upd (upd H1 ld (.frz o (.dK kvs))) ld (.dK kvs) = H1 := by
    funext b
    by_cases e : b = ld
    · rw [e, upd_same, hl1]
    · rw [upd_ne e, upd_ne e]
  generalize upd H1 ld (.frz o (.dK kvs)) = H2 at hfz1 kt hd2 back hle2 ⊢
  obtain ⟨dx2, fs2, ho2, hf2⟩ := hd2.o
  rename_i rest hrest
  refine forK_by (kvs := kvs) (fun i σ H' => ∃ v6 : Option V, σ = [some (V.ref q'), some (V.str z), some (V.ref ld), some (V.ref th), some (V.ref le), some (V.ref a), v6] ∧ H' = H2) ⟨none, rfl, rfl⟩ (fun i σ H' _ h_ => by obtain ⟨_, _, rfl⟩ := h_; exact hfz1) ?_ ?_
  · clear hrest
    rintro i pp σ H' hp ⟨v6, rfl, rfl⟩
    obtain ⟨y, hy, hyk⟩ : ∃ y, y ∈ ks ∧ pp.1 = Sum.inr y := by
      have h1 : (kvs.map (·.1))[i]? = some pp.1 := by rw [List.getElem?_map, hp]; rfl
      rw [hl.k, List.getElem?_map] at h1
      cases e : ks[i]? with
      | none => rw [e] at h1; cases h1
      | some y => rw [e] at h1; exact ⟨y, List.mem_of_getElem? e, (Option.some.inj h1).symm⟩
    obtain ⟨a1, e1, e2⟩ := hl.v y hy
    obtain ⟨hys, hyf⟩ := hks y hy
    have e2' : RtA H' a1 U (fl y) := kt _ _ (sm1 _ _ e2)
    rw [hyk, show kV (Sum.inr y) = V.str y from rfl]
    have hloy := hlo y hys
    walk_at "go"
    rename_i rest2 hrest2
    have key : rest2 [some (V.ref q'), some (V.str z), some (V.ref ld), some (V.ref th), some (V.ref le), some (V.ref a), some (V.str y)] H' := by
      subst hrest2
      walk_at "go"
      refine ⟨dx2, fs2, ho2, hf2.m _ (by simp), p, n, U, x, s, hd2, hrz y hys, fun hy1 a2 ha2 => ?_, fun h => absurd hys h⟩
      refine ⟨U, s.f y, ha2, s.r, hle2, hUp, hUb, hB y hys, by omega, ?_⟩
      rw [if_neg (by omega)]
      trivial
    clear hrest2
    split
    · rename_i hyz
      refine ⟨dx2, fs2, ho2, hf2.m _ (by simp), p, n, U, x, s, hd2, hrz y hys, fun hy1 a2 ha2 => ⟨_, by rw [← e1]; exact dget_rd (k := Sum.inr y) (.inr ⟨o, hfz1⟩), ?_⟩, fun h => absurd hys h⟩
      rw [← hyf hyz] at ha2
      refine ⟨_, ⟨a2, a1, _, _, rfl, rfl, .inr ⟨SqT.of ha2, SqT.of e2'⟩, rfl, rfl, rfl⟩, ?_⟩
      rw [flatEq_self (by rfl), if_neg (by decide)]
      exact key
    · exact key
  · rintro σ H' ⟨v6, rfl, rfl⟩
    refine .inr ⟨ld, o, .dK kvs, hfz1, fun o' u' e => ?_, ?_⟩
    · have e' : H ld = _ := e
      rw [hl.d] at e'
      cases e'
    rw [back]
    clear back
    subst hrest
    walk_at "go"
    have hkl2 : kvs.length < 100 := by
      have := congrArg List.length hl.k
      rw [List.length_map, List.length_map] at this
      omega
    refine ⟨_, DPut.k (k := Sum.inr z) hl1 (by omega), ?_⟩
    walk_at "go"
    have kt3 : ∀ v e, H1 v = some (.tup e) → upd H1 ld (.dK (putK kvs (Sum.inr z) (.ref a))) v = some (.tup e) := fun v e hv => by rw [upd_ne (ne_of hv hl1 (by intro z; cases z))]; exact hv
    refine q _ (putK kvs (Sum.inr z) (.ref a)) (fun b o' nb e => by rw [upd_ne (fun k => nb (by rw [k]; simp))]; exact sm1 _ _ e) ⟨upd_same, N53k hl.k, fun y hy => ?_, ?_⟩
    · by_cases e : y = z
      · exact ⟨a, by rw [valV_put, if_pos (by rw [e])], by rw [e]; exact kt3 _ _ ha1⟩
      · have hyk : y ∈ ks := by
          by_cases hzk' : z ∈ ks
          · rw [if_pos hzk'] at hy; exact hy
          · rw [if_neg hzk'] at hy; exact (List.mem_append.mp hy).resolve_right fun k => e (List.mem_singleton.mp k)
        obtain ⟨b, k1, k2⟩ := hl.v y hyk
        refine ⟨b, by rw [valV_put, if_neg (fun k => e (Sum.inr.inj k))]; exact k1, ?_⟩
        rw [← (hks y hyk).2 e]
        exact kt3 _ _ (sm1 _ _ k2)
    · by_cases hzk' : z ∈ ks
      · rw [if_pos hzk']; exact hl.nd
      · rw [if_neg hzk']
        exact List.nodup_append.mpr ⟨hl.nd, by simp, fun a ha b hb e => hzk' (by rw [← List.mem_singleton.mp hb, ← e]; exact ha)⟩
theorem ok_law {f : Addr} {fd : FuncData} (F : Fun K "law" "law" s_law f fd) (T : Txt K mg xNotThere xCastError xStock xRule xDues) (D_l_cell : Def P w K mg base (CXE P w) 1 "_law_cell" ["_law_script", "_law_k"] (sp_cell K)) (D_l_rows : Def P w K mg base (CXE P w) 2 "_law_rows" ["_law_script"] (sp57_rows K)) (D_l_priced : Def P w K mg base (CXE P w) 1 "_law_priced" ["_law_rows_here", "_law_cell_here"] (sp57_priced K)) (D_l_rooms : Def P w K mg base (CXE P w) 1 "_law_rooms" ["_law_rows_here"] (sp20_rooms K)) (D_l_places : Def P w K mg base (CXE P w) 1 "_law_places" ["_law_rows_here", "_law_cell_here"] (sp20_places K)) (D_Stock_init : DefI P w K mg base (CXE P w) 4 "Stock" xStock ["self", "rows"] (sp_initG K xStock)) (D_Dues_init : DefI P w K mg base (CXE P w) 5 "Dues" xDues ["self", "stock", "places"] (sp57_init xDues)) (D_Dues_level : DefM P w K mg base (CXE P w) 1 xDues "level" ["self"] (sp57_level xDues)) (D_Dues_prices : DefM P w K mg base (CXE P w) 1 xDues "prices" ["self"] (sp57_prices xDues)) (D_l_asks : Def P w K mg base (CXE P w) 2 "_law_asks" ["_law_script", "_law_rows_here"] (sp20_asks K)) (D_Dues_asked : DefM P w K mg base (CXE P w) 6 xDues "asked" ["self", "name"] (sp57_asked K xDues xStock)) (D_l_served : Def P w K mg base (CXE P w) 7 "_law_served" ["_law_rule", "_law_name", "_law_dues_here", "_law_rooms_here", "_law_places_here"] (sp57_served K xDues xStock)) (D_l_prices : Def P w K mg base (CXE P w) 3 "_law_prices" ["_law_found", "_law_kept", "_law_before", "_law_level"] (sp57_lprices K)) (D_l_dues : Def P w K mg base (CXE P w) 3 "_law_dues" ["_law_rule", "_law_name", "_law_dues_here", "_law_thing", "_law_level"] (sp57_ldues K xDues)) : FnOk P w K mg base (CXE P w) 9 f fd ["_law_script"] (sp_law K) := by
  have sc : FnScope ["_law_script", "_law_rows_here", "_law_rooms_here", "_law_things", "_law_row", "_law_places_here", "_law_rule", "_law_dues_here", "_law_kept", "_law_before", "_law_name", "_law_reached", "_law_level", "_law_found"] ["_law_script"] (defScope s_law) := ⟨rfl, rfl, rfl, by decide +kernel, rfl, by decide +kernel, by decide +kernel⟩
  refine F.okE sc (fun vs H Q E h => ?_) (fun cdv A outer s H vs Q E hr h => ?_)
  · obtain ⟨a, ns, rfl, hS, hl, q⟩ := h; rfl
  obtain ⟨a, ns, rfl, hS, hl, q⟩ := h
  refine ⟨_, (@pss_cons _ _ _ _ _ (ps_set (i := 1) sc.nd rfl (Or.inl rfl) (pe_callD D_l_priced hr rfl pass_on (pa_cons (pe_callD D_l_rows hr rfl pass_on (pa_cons (pv 0) pa_nil)) (pa_cons (pe_callD D_l_cell hr rfl pass_on (pa_cons (pv 0) (pa_cons pe_int pa_nil))) pa_nil))))
    (@pss_cons _ _ _ _ _ (ps_set (i := 2) sc.nd rfl (Or.inl rfl) (pe_callD D_l_rooms hr rfl pass_on (pa_cons (pv 1) pa_nil)))
    (@pss_cons _ _ _ _ _ (ps_set (i := 3) sc.nd rfl (Or.inl rfl) pe_dnewK)
    (@pss_cons _ _ _ _ _ (ps_for own_out rfl (pi_list (pv 1)) (pg_name (i := 4) sc.nd rfl (Or.inl rfl))
      (@pss_one _ _ _ (ps_dput (hu_of hr) (pv 3) (@pe_ix _ _ _ _ _ _ _ ix_tup (pv 4) pe_int (fun _ _ => rfl)) (pv 4) rfl)))
    (@pss_cons _ _ _ _ _ (ps_set (i := 5) sc.nd rfl (Or.inl rfl) (pe_callD D_l_places hr rfl pass_on (pa_cons (pv 1) (pa_cons (pe_callD D_l_cell hr rfl pass_on (pa_cons (pv 0) (pa_cons pe_int pa_nil))) pa_nil))))
    (@pss_cons _ _ _ _ _ (ps_set (i := 6) sc.nd rfl (Or.inl rfl) (pe_makeS D_Dues_init hr rfl (passS pass_on) (pa_cons (pe_makeS D_Stock_init hr rfl (passS pass_on) (pa_cons (pe_callTy call_list_of rfl T.z_list (by first | rfl | decide +kernel) (pa_cons (pv 1) pa_nil)) pa_nil)) (pa_cons (pv 5) pa_nil))))
    (@pss_cons _ _ _ _ _ (ps_set (i := 7) sc.nd rfl (Or.inl rfl) pe_dnewK)
    (@pss_cons _ _ _ _ _ (ps_set (i := 8) sc.nd rfl (Or.inl rfl) (@pe_lst _ _ _ _ pa_nil))
    (@pss_cons _ _ _ _ _ (ps_set (i := 9) sc.nd rfl (Or.inl rfl) (pe_tup (pa_cons pe_int (pa_cons pe_int pa_nil))))
    (@pss_cons _ _ _ _ _ (ps_if (PW.pt (pw_or (pt_cmpR (op_neQ hr) (pe_methS0 D_Dues_level T.cl_Dues hr (passS pass_on) (pv 6)) (pv 9) (nomark _)) (pw_or1 (pt_cmpR (op_neQ hr) (pe_methS0 D_Dues_prices T.cl_Dues hr (passS pass_on) (pv 6)) (@pe_lst _ _ _ _ pa_nil) (nomark _)))))
      (@pss_one _ _ _ (@ps_ret _ _ _ _ pe_bl))
      pss_nil)
    (@pss_cons _ _ _ _ _ (ps_for own_out rfl (pi_list (pe_slice sl_list (pe_callD D_l_asks hr rfl pass_on (pa_cons (pv 0) (pa_cons (pv 1) pa_nil))) po_none (po_some pe_int))) (pg_name (i := 10) sc.nd rfl (Or.inl rfl))
      (@pss_cons _ _ _ _ _ (ps_expr (pe_methS D_Dues_asked T.cl_Dues hr (passS pass_on) (pv 6) (pa_cons (pv 10) pa_nil)))
      (@pss_cons _ _ _ _ _ (ps_set (i := 11) sc.nd rfl (Or.inl rfl) (pv 9))
      (@pss_cons _ _ _ _ _ (ps_if (pt_cmp (pc_dnotin (hu_of hr) (pv 10) (pv 7)))
        (@pss_one _ _ _ (ps_set (i := 11) sc.nd rfl (Or.inl rfl) (pe_callD D_l_served hr rfl pass_on (pa_cons (pv 6) (pa_cons (pv 10) (pa_cons (pv 7) (pa_cons (pv 2) (pa_cons (pv 5) pa_nil))))))))
        pss_nil)
      (@pss_cons _ _ _ _ _ (ps_set (i := 12) sc.nd rfl (Or.inl rfl) (pe_methS0 D_Dues_level T.cl_Dues hr (passS pass_on) (pv 6)))
      (@pss_cons _ _ _ _ _ (ps_set (i := 13) sc.nd rfl (Or.inl rfl) (pe_methS0 D_Dues_prices T.cl_Dues hr (passS pass_on) (pv 6)))
      (@pss_cons _ _ _ _ _ (ps_if (PW.pt (pw_or (pt_cmpR op_isN (pv 11) pe_non (nomark _)) (pw_or1 (pt_cmpR (op_neQ hr) (pv 12) (pv 11) (nomark _)))))
        (@pss_one _ _ _ (@ps_ret _ _ _ _ pe_bl))
        pss_nil)
      (@pss_cons _ _ _ _ _ (ps_if (pt_not (pt_val (pe_callD D_l_prices hr rfl pass_on (pa_cons (pv 13) (pa_cons (pv 8) (pa_cons (pv 9) (pa_cons (pv 12) pa_nil)))))))
        (@pss_one _ _ _ (@ps_ret _ _ _ _ pe_bl))
        pss_nil)
      (@pss_cons _ _ _ _ _ (ps_if (pt_not (pt_val (pe_callD D_l_dues hr rfl pass_on (pa_cons (pv 6) (pa_cons (pv 10) (pa_cons (pv 7) (pa_cons (pe_dget (hu_of hr) (pv 3) (pv 10) (fun _ _ => rfl)) (pa_cons (pv 12) pa_nil))))))))
        (@pss_one _ _ _ (@ps_ret _ _ _ _ pe_bl))
        pss_nil)
      (@pss_cons _ _ _ _ _ (ps_set (i := 8) sc.nd rfl (Or.inl rfl) (pe_callTy call_list_of rfl T.z_list (by first | rfl | decide +kernel) (pa_cons (pv 13) pa_nil)))
      (@pss_cons _ _ _ _ _ (ps_expr (pe_bm0 PySem.F.plainAttrs_list PySem.F.slot_list_clear PySem.F.type_list_clear mt_clear (pv 13)))
      (@pss_one _ _ _ (ps_set (i := 9) sc.nd rfl (Or.inl rfl) (pv 12))))))))))))))
    (@pss_one _ _ _ (@ps_ret _ _ _ _ (pe_cmpR (op_eqN 1 hr) (pe_methS0 D_Dues_prices T.cl_Dues hr (passS pass_on) (pv 6)) (pv 8) (nomark _))))))))))))))), ?_⟩
  rw [show start ["_law_script", "_law_rows_here", "_law_rooms_here", "_law_things", "_law_row", "_law_places_here", "_law_rule", "_law_dues_here", "_law_kept", "_law_before", "_law_name", "_law_reached", "_law_level", "_law_found"] [V.ref a] = [some (V.ref a), none, none, none, none, none, none, none, none, none, none, none, none, none] from rfl]
  have line := line_val
  walk_at "go"
  intro r0 as0 ts0 H1 sm1 hr1 hR1 ht1 hc1
  have hS1 := sm1.seq hS
  refine ⟨ns, hS1, by decide, hl, as0, ts0, hR1, ht1, hc1, fun r as ts H2 sm2 hr2 hR2 ht2 => ?_⟩
  have hS2 := sm2.seq hS1
  clear hr1 hR1 ht1 hc1 sm1 sm2 hS1
  have htl := hR2.m
  have nd := hR2.nd
  have hokk := hR2.ok
  rename_i rest hrest
  subst hrest
  walk_at "go"
  refine ⟨as, ts, hR2, fun e H3 sm3 he => ?_⟩
  have hR3 := hR2.same sm3
  have hS3 := sm3.seq hS2
  have hr3 := sm3 _ _ hr2
  clear sm3 hS2 hR2 hr2
  rename_i rest hrest
  subst hrest
  walk_at "go"
  intro td htd
  have s4 : Same H3 (upd H3 td (.dK [])) := Same.new htd
  have htd4 : upd H3 td (.dK []) td = some (.dK []) := upd_same
  generalize upd H3 td (.dK []) = H4 at s4 htd4 ⊢
  have hR4 := hR3.same s4
  have hS4 := s4.seq hS3
  have hr4 := s4 _ _ hr3
  have he4 := s4 _ _ he
  have nte : e ≠ td := fun k => by rw [k, htd] at he; cases he
  have hn := hR4.n
  clear s4 hR3 hS3 hr3 he htd
  rename_i rest hrest
  subst hrest
  walk_at "go"
  refine ⟨⟨_, hR4.l⟩, ?_⟩
  rename_i rest hrest
  refine forL_by (xs := as.map V.ref) (fun i σ H' => ∃ (tks : List (Key × V)) (v4 : Option V), σ = [some (V.ref a), some (V.ref r), some (V.ref e), some (V.ref td), v4, none, none, none, none, none, none, none, none, none] ∧ SameBut td H4 H' ∧ H' td = some (.dK tks) ∧ tks.length ≤ i ∧ ∀ (j : Nat) (pa : Addr) (t : Th), j < i → as[j]? = some pa → ts[j]? = some t → valV tks (Sum.inr t.1) = some (.ref pa)) ⟨[], none, rfl, fun b o e _ => e, htd4, Nat.le_refl _, fun j pa t hj => absurd hj (Nat.not_lt_zero j)⟩ (fun i σ H' _ h_ => by obtain ⟨_, _, _, sb, _⟩ := h_; exact SqL.butD sb htd4 hR4.l) ?_ ?_
  · clear hrest
    rintro i u σ H' hu ⟨tks, v4, rfl, sb, htd', hlt, hvt⟩
    rw [List.getElem?_map] at hu
    cases ha : as[i]? with
    | none => rw [ha] at hu; cases hu
    | some pa =>
    rw [ha] at hu
    cases hu
    have hi : i < ts.length := by rw [← hn]; exact (List.getElem?_eq_some_iff.mp ha).1
    have ht := th_at hi
    have hT := SqT.butD sb htd4 (hR4.at_ i pa _ ha ht)
    walk_at "go"
    refine ⟨_, DPut.k (k := Sum.inr (ts.getD i th0).1) htd' (by omega), ?_⟩
    have hlp := length_putK tks (Sum.inr (ts.getD i th0).1 : Key) (V.ref pa)
    refine ⟨fun b o e nb => by rw [upd_ne nb]; exact sb _ _ e nb, _, upd_same, by omega, fun j pb t hj h1 h2 => ?_⟩
    rw [valV_put]
    by_cases hji : j = i
    · rw [hji] at h1 h2
      rw [ha] at h1
      rw [ht] at h2
      cases h1
      cases h2
      rw [if_pos rfl]
    · rw [if_neg (fun k => hji ?_)]
      · exact hvt j pb t (by omega) h1 h2
      · have k1 : t.1 = (ts.getD i th0).1 := Sum.inr.inj k
        have g1 : (ts.map (·.1))[j]? = some t.1 := by rw [List.getElem?_map, h2]; rfl
        have g2 : (ts.map (·.1))[i]? = some (ts.getD i th0).1 := by rw [List.getElem?_map, ht]; rfl
        rw [← k1] at g2
        exact (List.getElem?_inj (by rw [List.length_map]; have := (List.getElem?_eq_some_iff.mp h2).1; exact this) nd).mp (g1.trans g2.symm)
  · rintro σ H5 ⟨tks, v4, rfl, sb, htd5, hlt, hvt⟩
    rw [List.length_map, hn] at hvt hlt
    have hR5 : RowsAt K H5 r as ts := ⟨SqL.butD sb htd4 hR4.l, hR4.n, hR4.m, fun i b t e1 e2 => SqT.butD sb htd4 (hR4.at_ i b t e1 e2), hR4.ok, hR4.nd⟩
    have hS5 := SqL.butD sb htd4 hS4
    have he5 := sb _ _ he4 nte
    have hr5 := sb _ _ hr4 (ne_of hr4 htd4 (by intro z; cases z))
    clear sb hR4 hS4 he4 hr4 htd4
    subst hrest
    walk_at "go"
    refine ⟨as, ts, hR5, ht2, fun n H6 sm6 hn1 hn2 hnt => ?_⟩
    have hR6 := hR5.same sm6
    have hS6 := sm6.seq hS5
    have he6 := sm6 _ _ he5
    have hr6 := sm6 _ _ hr5
    have htd6 := sm6 _ _ htd5
    clear hR5 hS5 he5 hr5 htd5 sm6
    rename_i rest hrest
    subst hrest
    walk_at "go"
    refine ⟨_, .inl hR6.l, fun D hD => ?_⟩
    have smD : Same H6 (upd H6 D (.lst (as.map V.ref))) := Same.new hD
    have hDD : upd H6 D (.lst (as.map V.ref)) D = some (.lst (as.map V.ref)) := upd_same
    generalize upd H6 D (.lst (as.map V.ref)) = H7 at smD hDD ⊢
    have hR7 := hR6.same smD
    have hRD : RowsAt K H7 D as ts := ⟨SqL.of hDD, hR7.n, hR7.m, hR7.at_, hR7.ok, hR7.nd⟩
    obtain ⟨rws, e1, e2, e3, e4⟩ := hRD.init
    intro st dx hst hdx ne1
    have smx : Same H7 (upd (upd H7 dx (.own st)) st (.ins xStock dx [])) := fun b o e => by rw [upd_ne (ne_of_none e hst), upd_ne (ne_of_none e hdx)]; exact e
    refine ⟨dx, upd_same, rws, by rw [e1]; exact smx.seq hRD.l, fun t ht => smx.tup (e2 t ht), e3, fun H8 sb8 stk => ?_⟩
    rw [e4] at stk
    have sm8 : Same H7 H8 := same_made hst hdx sb8
    have sm68 := smD.trans sm8
    clear smx hRD e1 e2 e3 e4 sb8 hst hdx ne1 smD hD hDD hR7 sm8
    have hR8 := hR6.same sm68
    have hS8 := sm68.seq hS6
    have he8 := sm68 _ _ he6
    have hr8 := sm68 _ _ hr6
    have htd8 := sm68 _ _ htd6
    clear hR6 hS6 he6 hr6 htd6 sm68
    have hU := un_of htl hokk
    generalize upr ts = U at hU
    have hUp := hU.p
    have hUb := hU.b
    intro q9 dy hq9 hdy ne9
    refine ⟨dy, upd_same, hn1, hn2, U, hUp, fun x H9 sb9 hfr hd9 => ?_⟩
    have smq : Same H8 (upd (upd H8 dy (.own q9)) q9 (.ins xDues dy [])) := fun b o e => by rw [upd_ne (ne_of_none e hq9), upd_ne (ne_of_none e hdy)]; exact e
    have sm9 : Same H8 H9 := same_made hq9 hdy sb9
    have hfr8 : ∀ b ∈ DuM q9 x, H8 b = none := fun b hb => by
      have hb' : b = q9 ∨ b = x.dd ∨ b = x.rr := by simpa [DuM] using hb
      have nn : ∀ b, (upd (upd H8 dy (.own q9)) q9 (.ins xDues dy [])) b = none → H8 b = none := fun b k => by
        cases k2 : H8 b with
        | none => rfl
        | some o => rw [smq _ _ k2] at k; cases k
      rcases hb' with k | k | k <;> rw [k]
      · exact hq9
      · exact nn _ (hfr _ (by simp))
      · exact nn _ (hfr _ (by simp))
    clear smq sb9 hfr hq9 hdy ne9
    rename_i rest hrest
    subst hrest
    walk_at "go"
    intro ld hld
    have s10 : Same H9 (upd H9 ld (.dK [])) := Same.new hld
    have hld10 : upd H9 ld (.dK []) ld = some (.dK []) := upd_same
    have hld8 : H8 ld = none := by
      cases k2 : H8 ld with
      | none => rfl
      | some o => rw [sm9 _ _ k2] at hld; cases hld
    obtain ⟨kd9, dd9, dd9b⟩ := hd9.dd
    have nld : ld ≠ x.dd := fun k => by rw [k, dd9] at hld; cases hld
    generalize upd H9 ld (.dK []) = H10 at s10 hld10 ⊢
    have hd10 := hd9.same s10
    have sm10 := sm9.trans s10
    clear hd9 s10 hld dd9 dd9b
    rename_i rest hrest
    subst hrest
    walk_at "go"
    intro ke hke
    have s11 : Same H10 (upd H10 ke (.lst [])) := Same.new hke
    have hke11 : upd H10 ke (.lst []) ke = some (.lst (([] : List Addr).map V.ref)) := upd_same
    generalize upd H10 ke (.lst []) = H11 at s11 hke11 ⊢
    have nke := hd10.newL hld10 hke
    have hd11 := hd10.same s11
    have sm11 := sm10.trans s11
    have hld11 := s11 _ _ hld10
    clear hd10 s11 hke hld10 sm10
    rename_i rest hrest
    subst hrest
    walk_at "go"
    intro be hbe
    have s12 : Same H11 (upd H11 be (.tup [V.int 0, V.int 1])) := Same.new hbe
    have hbe12 : RtA (upd H11 be (.tup [V.int 0, V.int 1])) be U 0 := by
      show _ = some (HO.tup [V.int (rt U 0).1, V.int (rt U 0).2])
      rw [rt_zero hUp]; exact upd_same
    generalize upd H11 be (.tup [V.int 0, V.int 1]) = H12 at s12 hbe12 ⊢
    have hd12 := hd11.same s12
    have sm12 := sm11.trans s12
    have hld12 := s12 _ _ hld11
    have hke12 := s12 _ _ hke11
    clear hd11 s12 hbe hld11 hke11 sm11 sm9
    obtain ⟨dx12, fs12, ho12, hf12⟩ := hd12.o
    have hS12 := sm12.seq hS8
    have hR12 := hR8.same sm12
    have he12 := sm12 _ _ he8
    have htd12 := sm12 _ _ htd8
    rename_i rest hrest
    subst hrest
    walk_at "go"
    refine ⟨dx12, fs12, ho12, hf12.m _ (by simp), st, n, U, x, _, hd12, ?_⟩
    refine ⟨_, ⟨x.rp, be, _, _, rfl, rfl, .inr ⟨SqT.of hd12.rp, SqT.of hbe12⟩, rfl, rfl, rfl⟩, ?_⟩
    rw [flatEq_self (by rfl), if_neg (by decide)]
    refine ⟨dx12, fs12, ho12, hf12.m _ (by simp), st, n, U, x, _, hd12, fun l1 us1 hl1 hus1 => ⟨by omega, fun l2 hl2 => ?_⟩⟩
    have hus0 : us1 = [] := List.length_eq_zero_iff.mp hus1.1
    rw [hus0] at hl2 ⊢
    have sma : Same H12 (upd H12 l1 (.lst (([] : List Addr).map V.ref))) := Same.new hl1
    have smb : Same (upd H12 l1 (.lst (([] : List Addr).map V.ref))) (upd (upd H12 l1 (.lst (([] : List Addr).map V.ref))) l2 (.lst [])) := Same.new hl2
    have hl1b : upd (upd H12 l1 (.lst (([] : List Addr).map V.ref))) l2 (.lst []) l1 = some (.lst []) := smb _ _ upd_same
    have s13 := sma.trans smb
    refine ⟨_, ⟨l1, l2, [], [], rfl, rfl, .inl ⟨SqL.of hl1b, SqL.of upd_same⟩, rfl, rfl, rfl⟩, ?_⟩
    rw [flatEq_self (by rfl), if_neg (by decide)]
    generalize upd (upd H12 l1 (.lst (([] : List Addr).map V.ref))) l2 (.lst []) = H13 at s13 ⊢
    clear sma smb hl1b hus0 hus1 hl1 hl2 ho12 hf12
    have hd13 := hd12.same s13
    have sm13 := sm12.trans s13
    have hld13 := s13 _ _ hld12
    have hke13 := s13 _ _ hke12
    have hbe13 : RtA H13 be U 0 := s13 _ _ hbe12
    have hS13 := s13.seq hS12
    have hR13 := hR12.same s13
    have he13 := s13 _ _ he12
    have htd13 := s13 _ _ htd12
    clear hd12 sm12 hld12 hke12 hbe12 hS12 hR12 he12 htd12 s13
    rename_i rest hrest
    subst hrest
    walk_at "go"
    refine ⟨as, ts, hR13, ht2, fun ap ys0 H14 s14 hap hyl hyin => ⟨_, SqL.of hap, fun al hal => ?_⟩⟩
    rw [show cutV (ys0.map V.str) none (some 100) = (ys0.take 100).map V.str by rw [show (some (100 : Int)) = some ((100 : Nat) : Int) from rfl, cut_tk, List.map_take]]
    have hyin2 : ∀ y ∈ ys0.take 100, y ∈ ts.map (·.1) := fun y hy => hyin y (List.mem_of_mem_take hy)
    have hyl2 : (ys0.take 100).length ≤ 100 := by rw [List.length_take]; omega
    generalize ys0.take 100 = ys at hyin2 hyl2 ⊢
    have s15 : Same H14 (upd H14 al (.lst (ys.map V.str))) := Same.new hal
    have hal15 : upd H14 al (.lst (ys.map V.str)) al = some (.lst (ys.map V.str)) := upd_same
    generalize upd H14 al (.lst (ys.map V.str)) = H15 at s15 hal15 ⊢
    have sA := s14.trans s15
    have hd15 := hd13.same sA
    obtain ⟨dx15, fs15, ho15, hf15⟩ := hd15.o
    obtain ⟨kd15, dd15, dd15b⟩ := hd15.dd
    obtain ⟨us15, rr15, rr15b⟩ := hd15.rr
    have hld15 := sA _ _ hld13
    have nL : ∀ b, H8 b ≠ none → b ∉ ld :: DuM q9 x := fun b hb hm => by
      rcases List.mem_cons.mp hm with k | k
      · rw [k] at hb; exact hb hld8
      · exact hb (hfr8 b k)
    have ntp : ∀ b ∈ ld :: DuM q9 x, ∀ o, H15 b = some o → (∀ e, o ≠ .tup e) ∧ ∀ o' e, o ≠ .frz o' (.tup e) := fun b hb o ho => by
      have hb' : b = ld ∨ b = q9 ∨ b = x.dd ∨ b = x.rr := by simpa [DuM] using hb
      rcases hb' with k | k | k | k <;> rw [k] at ho
      · rw [hld15] at ho; cases ho; exact ⟨(by intro e z; cases z), (by intro o' e z; cases z)⟩
      · rw [ho15] at ho; cases ho; exact ⟨(by intro e z; cases z), (by intro o' e z; cases z)⟩
      · rw [dd15] at ho; cases ho; exact ⟨(by intro e z; cases z), (by intro o' e z; cases z)⟩
      · rw [rr15] at ho; cases ho; exact ⟨(by intro e z; cases z), (by intro o' e z; cases z)⟩
    have nal : al ∉ ld :: DuM q9 x := fun hm => by
      have hb' : al = ld ∨ al = q9 ∨ al = x.dd ∨ al = x.rr := by simpa [DuM] using hm
      have hd14 := hd13.same s14
      obtain ⟨dxx, fsx, hox, hfx⟩ := hd14.o
      obtain ⟨kdx, ddx, _⟩ := hd14.dd
      obtain ⟨usx, rrx, _⟩ := hd14.rr
      rcases hb' with k | k | k | k <;> rw [k] at hal
      · rw [s14 _ _ hld13] at hal; cases hal
      · rw [hox] at hal; cases hal
      · rw [ddx] at hal; cases hal
      · rw [rrx] at hal; cases hal
    have lw0 : LwI K xDues xStock U H8 H15 q9 st ld ke be e td al n x (ld :: DuM q9 x) ts as tks ys ⟨0, [], fun _ => 0, []⟩ [] [] [] 0 := ⟨sm13.trans sA, hd15, rfl, ⟨hld15, rfl, (fun y hy => by cases hy), List.nodup_nil⟩, List.Perm.refl _, ⟨Int.le_refl _, by decide, (fun y hy => by cases hy)⟩, (fun y hy => by cases hy), rfl, nke, sA _ _ hbe13, sA _ _ hke13, ⟨rfl, fun i a v h => by simp at h⟩, Im.get (nL e (by rw [he8]; simp)) (sA _ _ he13), Im.get (nL td (by rw [htd8]; simp)) (sA _ _ htd13), Im.get nal hal15, fun j pa t h1 h2 => ((hR13.same sA).at_ j pa t h1 h2).im ntp⟩
    have hst8 : ∀ H', Same H8 H' → StockAt K xStock H' st ts := fun H' m => stk.same m
    clear hal15 hd15 ho15 hf15 dd15 dd15b rr15 rr15b hld15 ntp nal sA hd13 sm13 hld13 hke13 hbe13 hS13 hR13 he13 htd13 s14 s15 hap hyl hyin hal
    refine ⟨⟨_, SqL.of (Im.at lw0.al).2⟩, ?_⟩
    rename_i rest hrest
    have hL8 : ∀ b ∈ ld :: DuM q9 x, H8 b = none := fun b hb => by
      rcases List.mem_cons.mp hb with k | k
      · rw [k]; exact hld8
      · exact hfr8 b k
    have hLt : ld :: DuM q9 x = ld :: DuM q9 x ∧ True := ⟨rfl, trivial⟩
    have exd : ∀ x2 : DuX, ld :: DuM q9 x2 = ld :: DuM q9 x → x2.dd = x.dd ∧ x2.rr = x.rr := fun x2 h => by
      have h1 : [q9, x2.dd, x2.rr] = [q9, x.dd, x.rr] := (List.cons.inj h).2
      simpa using h1
    have kX : ∀ x2 : DuX, ld :: DuM q9 x2 = ld :: DuM q9 x → DuM q9 x2 = DuM q9 x := fun x2 h => (List.cons.inj h).2
    refine forL_by (xs := ys.map V.str) (fun i σ H' => ∃ (x2 : DuX) (s : DuS) (kvs : List (Key × V)) (ks : List Str) (ke be : Addr) (ws : List Addr) (v10 v11 v12 v13 : Option V), σ = [some (V.ref a), some (V.ref r), some (V.ref e), some (V.ref td), v4, some (V.int n), some (V.ref q9), some (V.ref ld), some (V.ref ke), some (V.ref be), v10, v11, v12, v13] ∧ LwI K xDues xStock U H8 H' q9 st ld ke be e td al n x2 (ld :: DuM q9 x) ts as tks ys s kvs ks ws i) ⟨x, _, [], [], ke, be, [], none, none, none, none, rfl, lw0⟩ (fun i σ H' _ h_ => by obtain ⟨_, _, _, _, _, _, _, _, _, _, _, _, lw⟩ := h_; exact SqL.of (Im.at lw.al).2) ?_ ?_
    · clear hrest lw0 nke ke be
      rintro i v σ H' hv ⟨x2, s, kvs, ks, ke, be, ws, v10, v11, v12, v13, rfl, lw⟩
      have hi : i < ys.length := by
        have := (List.getElem?_eq_some_iff.mp hv).1
        rw [List.length_map] at this; exact this
      rw [List.getElem?_map, getD_str hi] at hv
      cases hv
      have hz := hyin2 _ (List.mem_of_getElem? (getD_str hi))
      generalize ys.getD i Str.empty = z at hz ⊢
      obtain ⟨exd1, exd2⟩ := exd x2 lw.eL
      have eDM := kX x2 lw.eL
      obtain ⟨dx2, fs2, ho2, hf2⟩ := lw.d.o
      obtain ⟨sh0, sh1, rm1, rm2, rm3, c1, c2⟩ := hU.sh nd hz
      have hk60 : s.ks.length ≤ 60 := by
        have h1 := List.Nodup.length_le_of_subset lw.d.nd (fun y hy => lw.nm y hy)
        rw [List.length_map] at h1
        omega
      have hlob := lw.lo.b
      have hlo0 := lw.lo.a
      have B1 : (100 : Int) * 10 ^ 210 ≤ 10 ^ 229 := by decide +kernel
      have hiB : (i : Int) * 10 ^ 210 ≤ 100 * 10 ^ 210 := Int.mul_le_mul_of_nonneg_right (by omega) (by decide +kernel)
      have hi1 : ((i + 1 : Nat) : Int) * 10 ^ 210 = (i : Int) * 10 ^ 210 + 10 ^ 210 := by rw [show ((i + 1 : Nat) : Int) = (i : Int) + 1 by omega, Int.add_mul, Int.one_mul]
      have hrsl : s.rs.length ≤ i ∧ i ≤ s.rs.length := ⟨Nat.le_of_eq lw.rl, Nat.le_of_eq lw.rl.symm⟩
      have hML : ∀ b ∈ DuM q9 x2, b ∈ ld :: DuM q9 x := fun b hb => by rw [eDM] at hb; exact List.mem_cons_of_mem _ hb
      have kpL : ∀ {Ha Hb : Hp}, Kp (DuM q9 x2) Ha Hb → Kp (ld :: DuM q9 x) Ha Hb := fun k b o nb ee => k b o (fun h => nb (hML b h)) ee
      have hstk : ∀ Hb, Kp (ld :: DuM q9 x) H' Hb → StockAt K xStock Hb st ts := fun Hb kp => hst8 _ (Kp.same lw.sm kp hL8)
      walk_at "go"
      refine ⟨dx2, fs2, ho2, hf2.m _ (by simp), st, n, U, x2, s, lw.d, ts, hst8 _ lw.sm, fun Hb kp => hstk _ (kpL kp), nd, hz, hU, by omega, by omega, fun H1 kp1 hd1 => ?_⟩
      have nld0 := nld
      have nld : ld ∉ DuM q9 x2 := fun h => by
        have h' : ld = q9 ∨ ld = x2.dd ∨ ld = x2.rr := by simpa [DuM] using h
        have hld := lw.l.d
        obtain ⟨us9, rr9, _⟩ := lw.d.rr
        rcases h' with k | k | k
        · rw [k, ho2] at hld; cases hld
        · rw [exd1] at k; exact nld k
        · rw [k, rr9] at hld; cases hld
      have kt1 := lw.d.tup kp1
      have hl1 := lw.l.keep (kp1 _ _ nld lw.l.d) kt1
      have hbe1 : RtA H1 be U s.r := kt1 _ _ lw.be
      rename_i rest hrest
      subst hrest
      walk_at "go"
      rename_i rest hrest
      have hreps : ∀ y ∈ ts.map (·.1), (reprText y).length ≤ 1000 := fun y hy => by
        obtain ⟨j, u, hu, rfl⟩ := mem_nth hy
        exact repr_name (hokk u (List.mem_of_getElem? hu)).1
      have key : ∀ (HF : Hp) (x3 : DuX) (sF : DuS) (kvs2 : List (Key × V)) (ks2 : List Str) (fl : Str → Int) (rv : Addr), Kp (ld :: DuM q9 x) H' HF → DuAt xDues U HF q9 st n x3 sF → x3.dd = x.dd → x3.rr = x.rr → LdA HF ld U kvs2 ks2 fl → (∀ y ∈ ks2, y ∈ sF.ks ∧ (y ≠ z → fl y = sF.f y)) → (if z ∈ ks2 then ks2 else ks2 ++ [z]).Perm sF.ks → z ∈ sF.ks → sF.f z = sF.r + sh U ts z → Low (i + 1 : Nat) sF → s.r ≤ sF.r → sF.rs = s.rs ++ [sF.r - s.r] → (∀ y ∈ sF.ks, y ∈ ts.map (·.1)) → RtA HF rv U sF.r → rest [some (V.ref a), some (V.ref r), some (V.ref e), some (V.ref td), v4, some (V.int n), some (V.ref q9), some (V.ref ld), some (V.ref ke), some (V.ref be), some (V.str z), some (V.ref rv), v12, v13] HF := by
        intro HF x3 sF kvs2 ks2 fl rv kpF hdF e31 e32 hlF hk2 hpF hzF hfF hloF hler hrsF hnmF hrv
        obtain ⟨dxF, fsF, hoF, hfsF⟩ := hdF.o
        obtain ⟨dxw, fsw, how, hfw⟩ := lw.d.o
        obtain ⟨kdw, ddw, ddwb⟩ := lw.d.dd
        obtain ⟨usw, rrw, rrwb⟩ := lw.d.rr
        have hldw := lw.l.d
        have ktF : ∀ v e, H' v = some (.tup e) → HF v = some (.tup e) := fun v ee hv => kpF v _ (fun h => by
          have h' : v = ld ∨ v = q9 ∨ v = x.dd ∨ v = x.rr := by simpa [DuM] using h
          rcases h' with k | k | k | k <;> rw [k] at hv
          · rw [hldw] at hv; cases hv
          · rw [how] at hv; cases hv
          · rw [← exd1, ddw] at hv; cases hv
          · rw [← exd2, rrw] at hv; cases hv) hv
        clear ddwb rrwb
        have smF : Same H8 HF := Kp.same lw.sm kpF hL8
        have hbeF : RtA HF be U s.r := ktF _ _ lw.be
        have hwsF := lw.ws.keep ktF
        subst hrest
        walk_at "go"
        refine ⟨dxF, fsF, hoF, hfsF.m _ (by simp), st, n, U, x3, sF, hdF, ?_⟩
        rename_i rest hrest
        subst hrest
        walk_at "go"
        refine ⟨dxF, fsF, hoF, hfsF.m _ (by simp), st, n, U, x3, sF, hdF, fun fo us hfo hus => ?_⟩
        have smG : Same HF (upd HF fo (.lst (us.map V.ref))) := Same.new hfo
        have hfoG : upd HF fo (.lst (us.map V.ref)) fo = some (.lst (us.map V.ref)) := upd_same
        have nfo := hdF.newL hlF.d hfo
        have h3x : DuM q9 x3 = DuM q9 x := by unfold DuM; rw [e31, e32]
        have nfo3 := nfo
        rw [h3x] at nfo3
        have hfo0 : H' fo = none := by
          cases k2 : H' fo with
          | none => rfl
          | some o => rw [kpF _ _ nfo3 k2] at hfo; cases hfo
        generalize upd HF fo (.lst (us.map V.ref)) = HG at smG hfoG ⊢
        have hdG := hdF.same smG
        have hlG := hlF.keep (smG _ _ hlF.d) (fun v ee h => smG _ _ h)
        have husG := hus.keep (fun v ee h => smG _ _ h)
        have hkeG : HG ke = some (.lst (ws.map V.ref)) := smG _ _ (kpF _ _ lw.kn lw.ke)
        have hwsG := hwsF.keep (fun v ee h => smG _ _ h)
        have hbeG : RtA HG be U s.r := smG _ _ hbeF
        have hrvG : RtA HG rv U sF.r := smG _ _ hrv
        have kpG : Kp (ld :: DuM q9 x) H' HG := fun b o nb ee => smG _ _ (kpF b o nb ee)
        have hleG : RtA HG x3.rp U sF.r := hdG.rp
        have eXL : ld :: DuM q9 x3 = ld :: DuM q9 x := by unfold DuM; rw [e31, e32]
        clear smG hfo hus hdF hlF hbeF hwsF hrv kpF ktF hoF hfsF
        rename_i rest hrest
        subst hrest
        walk_at "go"
        refine ⟨_, ⟨x3.rp, rv, _, _, rfl, rfl, .inr ⟨SqT.of hleG, SqT.of hrvG⟩, rfl, rfl, rfl⟩, ?_⟩
        rw [flatEq_self (by rfl), if_neg (by decide)]
        have husG' : RtsA HG us U (s.rs ++ [sF.r - s.r]) := by rw [← hrsF]; exact husG
        rename_i rest hrest
        subst hrest
        walk_at "go"
        refine ⟨us, hfoG, ws, hkeG, s.rs, U, s.r, sF.r, husG', hwsG, hbeG, hleG, hUp, hUb, lw.d.b.1, hdG.b.1, hler, by omega, fun HI smI => ?_⟩
        have hdI := hdG.same smI
        have hlI := hlG.keep (smI _ _ hlG.d) (fun v ee h => smI _ _ h)
        have husI := husG.keep (fun v ee h => smI _ _ h)
        have hfoI := smI _ _ hfoG
        have hleI : RtA HI x3.rp U sF.r := smI _ _ hleG
        have kpI : Kp (ld :: DuM q9 x) H' HI := fun b o nb ee => smI _ _ (kpG b o nb ee)
        have imI := Im.same kpI
        clear smI hdG hlG husG hfoG hleG kpG husG' hkeG hwsG hbeG hrvG
        have htdI := (Im.at (imI _ _ lw.td)).2
        obtain ⟨j, u, hu, huz⟩ := mem_nth hz
        obtain ⟨pa, hpa⟩ : ∃ pa, as[j]? = some pa := ⟨_, List.getElem?_eq_getElem (by rw [hn]; exact (List.getElem?_eq_some_iff.mp hu).1)⟩
        have hval := hvt j pa u (List.getElem?_eq_some_iff.mp hu).1 hpa hu
        have hth := Im.to.tup (imI.tup (lw.tp j pa u hpa hu))
        have eC : cst ts z = u.2.1 := by rw [← huz]; exact cst_at nd hu
        have eR : rm ts z = u.2.2 := by rw [← huz]; exact rm_at nd hu
        rw [huz] at hval hth
        rw [← eC, ← eR] at hth
        clear eC eR huz
        rename_i rest hrest
        subst hrest
        walk_at "go"
        refine ⟨_, by rw [← hval]; exact dget_rd (k := Sum.inr z) (.inl htdI), ?_⟩
        have hkl2 : ks2.length ≤ 60 := by
          have h1 := hpF.length_eq
          have h2 := List.Nodup.length_le_of_subset hdI.nd (fun y hy => hnmF y hy)
          rw [List.length_map] at h2
          split at h1
          · omega
          · rw [List.length_append] at h1; simp only [List.length_cons, List.length_nil] at h1; omega
        refine ⟨st, pa, rfl, n, U, x3, sF, hdI, ts, nd, hU, hz, hzF, hfF, fun y hy => (hloF.c y hy).1, fun y hy => hreps y (hnmF y hy), kvs2, ks2, fl, hlI, hk2, hth, hleI, by rw [e31]; exact nld0, by omega, fun HJ kvs3 kpJ hlJ => ?_⟩
        have ktJ : ∀ v ee, HI v = some (.tup ee) → HJ v = some (.tup ee) := fun v ee hv => kpJ v _ (fun h => by rw [List.mem_singleton.mp h, hlI.d] at hv; cases hv) hv
        have nlx : ∀ b ∈ DuM q9 x3, b ≠ ld := fun b hb k => by
          have hb' : b = q9 ∨ b = x3.dd ∨ b = x3.rr := by simpa [DuM] using hb
          obtain ⟨dxI, fsI, hoI, _⟩ := hdI.o
          obtain ⟨usI, rrI, _⟩ := hdI.rr
          have hldI := hlI.d
          rcases hb' with g | g | g
          · rw [← k, g, hoI] at hldI; cases hldI
          · exact nld0 (by rw [← k, g, e31])
          · rw [← k, g, rrI] at hldI; cases hldI
        have hdJ : DuAt xDues U HJ q9 st n x3 sF := hdI.keep (fun b hb o ee => kpJ b o (fun h => nlx b hb (List.mem_singleton.mp h)) ee) ktJ
        have hfoJ := kpJ _ _ (fun h => nfo (by rw [List.mem_singleton.mp h]; exact List.mem_cons_self)) hfoI
        have husJ := husI.keep ktJ
        have hleJ : RtA HJ x3.rp U sF.r := ktJ _ _ hleI
        have kpJ' : Kp (ld :: DuM q9 x) H' HJ := fun b o nb ee => kpJ b o (fun h => nb (by rw [List.mem_singleton.mp h]; exact List.mem_cons_self)) (kpI b o nb ee)
        clear hdI hlI husI hfoI hleI kpI imI kpJ ktJ nlx hth htdI hval
        rename_i rest hrest
        subst hrest
        walk_at "go"
        refine ⟨_, .inl (SqL.of hfoJ), fun ke2 hke2 => ?_⟩
        have smK : Same HJ (upd HJ ke2 (.lst (us.map V.ref))) := Same.new hke2
        have hkeK : upd HJ ke2 (.lst (us.map V.ref)) ke2 = some (.lst (us.map V.ref)) := upd_same
        have nk2 := hdJ.newL hlJ.d hke2
        have nkf : fo ≠ ke2 := ne_of_none hfoJ hke2
        generalize upd HJ ke2 (.lst (us.map V.ref)) = HK at smK hkeK ⊢
        have hfoK := smK _ _ hfoJ
        rename_i rest hrest
        subst hrest
        walk_at "go"
        refine ⟨.inl ⟨rfl, _, SqL.of hfoK⟩, fo, _, rfl, rfl, hfoK, ?_⟩
        rename_i rest hrest
        have sbL : SameBut fo HK (upd HK fo (.lst [])) := sameBut_upd
        have ktL : ∀ v ee, HJ v = some (.tup ee) → upd HK fo (.lst []) v = some (.tup ee) := fun v ee hv => sbL _ _ (smK _ _ hv) (fun k => by rw [k, hfoJ] at hv; cases hv)
        have keL := sbL _ _ hkeK nkf.symm
        have ldL : upd HK fo (.lst []) ld = some (.dK kvs3) := sbL _ _ (smK _ _ hlJ.d) (fun k => nfo (by rw [← k]; exact List.mem_cons_self))
        have nfx : ∀ b ∈ DuM q9 x3, b ≠ fo := fun b hb k => nfo (by rw [← k]; exact List.mem_cons_of_mem _ hb)
        have hdL : DuAt xDues U (upd HK fo (.lst [])) q9 st n x3 sF := hdJ.keep (fun b hb o ee => sbL _ _ (smK _ _ ee) (nfx b hb)) ktL
        have kpZ : Kp (ld :: DuM q9 x) H' (upd HK fo (.lst [])) := fun b o nb ee => sbL _ _ (smK _ _ (kpJ' b o nb ee)) (fun k => by rw [k, hfo0] at ee; cases ee)
        have hleL : RtA (upd HK fo (.lst [])) x3.rp U sF.r := ktL _ _ hleJ
        have husL := husJ.keep ktL
        have hlL := hlJ.keep ldL ktL
        show rest _ _
        generalize upd HK fo (.lst []) = HL at sbL ktL keL ldL hdL kpZ hleL husL hlL ⊢
        have imZ := Im.same kpZ
        have hrl1 : sF.rs.length = i + 1 ∧ True := ⟨by rw [hrsF, List.length_append, lw.rl]; rfl, trivial⟩
        have lwN : LwI K xDues xStock U H8 HL q9 st ld ke2 x3.rp e td al n x3 (ld :: DuM q9 x) ts as tks ys sF kvs3 (if z ∈ ks2 then ks2 else ks2 ++ [z]) us (i + 1) := ⟨Kp.same lw.sm kpZ hL8, hdL, eXL, hlL, hpF, hloF, hnmF, hrl1.1, by rw [← eXL]; exact nk2, hleL, keL, husL, imZ _ _ lw.e, imZ _ _ lw.td, imZ _ _ lw.al, fun j pa t h1 h2 => imZ.tup (lw.tp j pa t h1 h2)⟩
        subst hrest
        walk_at "go"
        exact ⟨x3, sF, kvs3, _, us, lwN⟩
      clear hrest
      refine ⟨_, dget_rd (k := Sum.inr z) (.inl hl1.d), ?_⟩
      rw [keys_val hl1.k z]
      by_cases hzk : z ∈ ks
      · rw [if_neg (by simp [hzk])]
        have hzs : z ∈ s.ks := lw.pm.mem_iff.mp hzk
        have eA : askS U ts s z = ⟨s.r, s.ks.erase z ++ [z], N74s s.f z (s.r + sh U ts z), s.rs ++ [0]⟩ := if_pos hzs
        rw [eA] at hd1
        refine key H1 x2 _ kvs ks s.f be (kpL kp1) hd1 exd1 exd2 hl1 (fun y hy => ⟨?_, fun hyz => (if_neg hyz).symm⟩) ?_ (by simp) (if_pos rfl) ⟨hlo0, by show s.r ≤ _; rw [hi1]; omega, fun y hy => ?_⟩ (Int.le_refl _) (by show s.rs ++ [0] = s.rs ++ [s.r - s.r]; rw [Int.sub_self]) (fun y hy => ?_) hbe1
        · have hys := lw.pm.mem_iff.mp hy
          by_cases hyz : y = z
          · rw [hyz]; simp
          · exact List.mem_append_left _ ((List.mem_erase_of_ne hyz).mpr hys)
        · rw [if_pos hzk]
          exact lw.pm.trans ((List.perm_cons_erase hzs).trans (List.perm_append_singleton z _).symm)
        · show s.r ≤ N74s s.f z (s.r + sh U ts z) y ∧ N74s s.f z (s.r + sh U ts z) y ≤ _
          by_cases hyz : y = z
          · rw [show N74s s.f z (s.r + sh U ts z) y = s.r + sh U ts z from if_pos hyz, hi1]; omega
          · rw [show N74s s.f z (s.r + sh U ts z) y = s.f y from if_neg hyz, hi1]
            have hys : y ∈ s.ks := by
              rcases List.mem_append.mp hy with h | h
              · exact List.mem_of_mem_erase h
              · exact absurd (List.mem_singleton.mp h) hyz
            obtain ⟨g1, g2⟩ := lw.lo.c y hys
            omega
        · rcases List.mem_append.mp hy with h | h
          · exact lw.nm y (List.mem_of_mem_erase h)
          · rw [List.mem_singleton.mp h]; exact hz
      · rw [if_pos (by simp [hzk])]
        have hzs : z ∉ s.ks := fun h => hzk (lw.pm.mem_iff.mpr h)
        have eA : askS U ts s z = ⟨s.r, s.ks, s.f, s.rs ++ [0]⟩ := if_neg hzs
        rw [eA] at hd1
        have heL := Im.at lw.e
        have ne1 : e ≠ x2.dd := fun k => heL.1 (by rw [k, exd1]; simp [DuM])
        have ne2 : ld ≠ e := fun k => heL.1 (by rw [← k]; simp)
        have he1 : H1 e = some (.dK (N20.rmK ts)) := kp1 _ _ (fun h => heL.1 (hML e h)) heL.2
        refine ⟨st, U, (i : Int), x2, _, hd1, ts, fun Hb kp => hstk _ (fun b o nb ee => kp b o (fun h => nb (by rw [eDM] at h; exact h)) (kpL kp1 b o nb ee)), nd, htl, hU, hz, hzs, ?_, hreps z hz, kvs, ks, hl1, lw.pm, lw.nm, he1, ⟨by rw [exd1]; exact nld0, ne1, ne2⟩, ⟨hlo0, hlob, lw.lo.c⟩, by omega, by omega, by show 1 ≤ (s.rs ++ [0]).length; rw [List.length_append]; simp, by show (s.rs ++ [0]).getLastD 0 = 0; rw [List.getLastD_concat], fun HF x3 s3 kvs3 ks3 rv kpF hdF e31 e32 hlF hpF hloF hfF hsuF hleF hrsF hrvF => ?_⟩
        · obtain ⟨j, u, hu, rfl⟩ := mem_nth hz
          rw [rm_at nd hu]
          exact hnt u (List.mem_of_getElem? hu)
        have kpF' : Kp (ld :: DuM q9 x) H1 HF := fun b o nb ee => kpF b o (fun h => nb (by rw [eDM] at h; exact h)) ee
        have hrs3 : s3.rs = s.rs ++ [s3.r - s.r] := by
          rw [hrsF]
          show (s.rs ++ [0]).set ((s.rs ++ [0]).length - 1) (s3.r - s.r) = _
          have h0 : (s.rs ++ [(0 : Int)]).length - 1 = s.rs.length := by rw [List.length_append]; rfl
          rw [h0, List.set_append_right _ _ (Nat.le_refl _), Nat.sub_self]
          rfl
        have hz3 : z ∉ ks3 := fun h => hzs (hsuF z (hpF.mem_iff.mp h))
        have hlb3 := hloF.b
        refine key HF x3 _ kvs3 ks3 s.f rv ((kpL kp1).trans kpF') hdF (e31.trans exd1) (e32.trans exd2) hlF (fun y hy => ⟨List.mem_append_left _ (hpF.mem_iff.mp hy), fun hyz => (if_neg hyz).symm⟩) ?_ (by simp) (if_pos rfl) ⟨hloF.a, by show s3.r ≤ _; rw [hi1]; omega, fun y hy => ?_⟩ hleF hrs3 (fun y hy => ?_) hrvF
        · rw [if_neg hz3]
          exact hpF.append_right [z]
        · show s3.r ≤ N74s s.f z (s3.r + sh U ts z) y ∧ N74s s.f z (s3.r + sh U ts z) y ≤ _
          by_cases hyz : y = z
          · rw [show N74s s.f z (s3.r + sh U ts z) y = s3.r + sh U ts z from if_pos hyz, hi1]; omega
          · rw [show N74s s.f z (s3.r + sh U ts z) y = s.f y from if_neg hyz, hi1]
            have hys : y ∈ s3.ks := by
              rcases List.mem_append.mp hy with h | h
              · exact h
              · exact absurd (List.mem_singleton.mp h) hyz
            obtain ⟨g1, g2⟩ := hloF.c y hys
            rw [hfF] at g1 g2
            exact ⟨g1, by have : (s.f : Str → Int) y ≤ (i : Int) * 10 ^ 210 := g2; omega⟩
        · rcases List.mem_append.mp hy with h | h
          · exact lw.nm y (hsuF y h)
          · rw [List.mem_singleton.mp h]; exact hz
    · rintro σ H' ⟨x2, s, kvs, ks, ke, be, ws, v10, v11, v12, v13, rfl, lw⟩
      obtain ⟨dx2, fs2, ho2, hf2⟩ := lw.d.o
      subst hrest
      walk_at "go"
      refine ⟨dx2, fs2, ho2, hf2.m _ (by simp), st, n, U, x2, s, lw.d, fun l us hl hus => ?_⟩
      have smZ : Same H' (upd H' l (.lst (us.map V.ref))) := Same.new hl
      exact ⟨rts_like upd_same (smZ _ _ lw.ke) (hus.keep fun v ee h => smZ _ _ h) (lw.ws.keep fun v ee h => smZ _ _ h), q _⟩
end
theorem all_mk {l : PySem.W.OpenLaw} {w : World} {K : PySem.W.Frag} {h : Heap} {mg : Str → Option Value} {fa f0 f1 f2 f3 f4 f5 f6 f7 f8 f9 f10 f11 f12 f13 f14 f15 f16 f17 f18 f19 f20 f21 f22 f23 f24 f25 f26 f27 f28 f29 f30 f31 f32 f33 f34 f35 f36 f37 f38 f39 f40 f41 f42 f43 xNotThere xCastError xStock xRule xDues : Addr} (X : K.In h) (G : h.Ns mainGlobals mg) (hfa : mg "law" = some (.ref fa))
    {od0 an0 od1 an1 od2 an2 od3 an3 od4 an4 od5 an5 od6 an6 od7 an7 od8 an8 od9 an9 od10 an10 od11 an11 od12 an12 od13 an13 od14 an14 od15 an15 od16 an16 od17 an17 od18 an18 od19 an19 od20 an20 od21 an21 od22 an22 od23 an23 od24 an24 od25 an25 od26 an26 od27 an27 od28 an28 od29 an29 od30 an30 od31 an31 od32 an32 od33 an33 od34 an34 od35 an35 od36 an36 od37 an37 od38 an38 od39 an39 od40 an40 od41 an41 od42 an42 od43 an43 : Option Addr} {sl0 sl1 sl2 sl3 sl4 sl5 sl6 sl7 sl8 sl9 sl10 sl11 sl12 sl13 sl14 sl15 sl16 sl17 sl18 sl19 sl20 sl21 sl22 sl23 sl24 sl25 sl26 sl27 sl28 sl29 sl30 sl31 sl32 sl33 sl34 sl35 sl36 sl37 sl38 sl39 sl40 sl41 sl42 sl43 : Array (Option Value)} {oc0 kV0 dc0 pm0 cd0 ct0 oc1 kV1 dc1 pm1 cd1 ct1 oc2 kV2 dc2 pm2 cd2 ct2 oc3 kV3 dc3 pm3 cd3 ct3 oc4 kV4 dc4 pm4 cd4 ct4 oc5 kV5 dc5 pm5 cd5 ct5 oc6 kV6 dc6 pm6 cd6 ct6 oc7 kV7 dc7 pm7 cd7 ct7 oc8 kV8 dc8 pm8 cd8 ct8 oc9 kV9 dc9 pm9 cd9 ct9 oc10 kV10 dc10 pm10 cd10 ct10 oc11 kV11 dc11 pm11 cd11 ct11 oc12 kV12 dc12 pm12 cd12 ct12 oc13 kV13 dc13 pm13 cd13 ct13 oc14 kV14 dc14 pm14 cd14 ct14 oc15 kV15 dc15 pm15 cd15 ct15 oc16 kV16 dc16 pm16 cd16 ct16 oc17 kV17 dc17 pm17 cd17 ct17 oc18 kV18 dc18 pm18 cd18 ct18 oc19 kV19 dc19 pm19 cd19 ct19 oc20 kV20 dc20 pm20 cd20 ct20 oc21 kV21 dc21 pm21 cd21 ct21 oc22 kV22 dc22 pm22 cd22 ct22 oc23 kV23 dc23 pm23 cd23 ct23 oc24 kV24 dc24 pm24 cd24 ct24 oc25 kV25 dc25 pm25 cd25 ct25 oc26 kV26 dc26 pm26 cd26 ct26 oc27 kV27 dc27 pm27 cd27 ct27 oc28 kV28 dc28 pm28 cd28 ct28 oc29 kV29 dc29 pm29 cd29 ct29 oc30 kV30 dc30 pm30 cd30 ct30 oc31 kV31 dc31 pm31 cd31 ct31 oc32 kV32 dc32 pm32 cd32 ct32 oc33 kV33 dc33 pm33 cd33 ct33 oc34 kV34 dc34 pm34 cd34 ct34 oc35 kV35 dc35 pm35 cd35 ct35 oc36 kV36 dc36 pm36 cd36 ct36 oc37 kV37 dc37 pm37 cd37 ct37 oc38 kV38 dc38 pm38 cd38 ct38 oc39 kV39 dc39 pm39 cd39 ct39 oc40 kV40 dc40 pm40 cd40 ct40 oc41 kV41 dc41 pm41 cd41 ct41 oc42 kV42 dc42 pm42 cd42 ct42 oc43 kV43 dc43 pm43 cd43 ct43 : Value}
    (a0 : PySem.W.nsIn K mainGlobals "made_of" = some (some (.ref f0))) (l0 : K.lookup f0 = some ⟨oc0, od0, .func (PySem.W.fnOf "made_of" "made_of" (defArgs s_made_of) (defBody s_made_of) (defScope s_made_of) .none kV0 dc0 pm0 an0 cd0 ct0), sl0⟩) (c0 : PySem.W.codeIn K cd0 "made_of" = true) (k0 : PySem.W.keepIn K (.ref f0) = true)
    (a1 : PySem.W.nsIn K mainGlobals "is_name" = some (some (.ref f1))) (l1 : K.lookup f1 = some ⟨oc1, od1, .func (PySem.W.fnOf "is_name" "is_name" (defArgs s_is_name) (defBody s_is_name) (defScope s_is_name) .none kV1 dc1 pm1 an1 cd1 ct1), sl1⟩) (c1 : PySem.W.codeIn K cd1 "is_name" = true) (k1 : PySem.W.keepIn K (.ref f1) = true)
    (a2 : PySem.W.nsIn K mainGlobals "is_whole" = some (some (.ref f2))) (l2 : K.lookup f2 = some ⟨oc2, od2, .func (PySem.W.fnOf "is_whole" "is_whole" (defArgs s_is_whole) (defBody s_is_whole) (defScope s_is_whole) .none kV2 dc2 pm2 an2 cd2 ct2), sl2⟩) (c2 : PySem.W.codeIn K cd2 "is_whole" = true) (k2 : PySem.W.keepIn K (.ref f2) = true)
    (a3 : PySem.W.nsIn K mainGlobals "is_within" = some (some (.ref f3))) (l3 : K.lookup f3 = some ⟨oc3, od3, .func (PySem.W.fnOf "is_within" "is_within" (defArgs s_is_within) (defBody s_is_within) (defScope s_is_within) .none kV3 dc3 pm3 an3 cd3 ct3), sl3⟩) (c3 : PySem.W.codeIn K cd3 "is_within" = true) (k3 : PySem.W.keepIn K (.ref f3) = true)
    (a4 : PySem.W.nsIn K mainGlobals "check_places" = some (some (.ref f4))) (l4 : K.lookup f4 = some ⟨oc4, od4, .func (PySem.W.fnOf "check_places" "check_places" (defArgs s_check_places) (defBody s_check_places) (defScope s_check_places) .none kV4 dc4 pm4 an4 cd4 ct4), sl4⟩) (c4 : PySem.W.codeIn K cd4 "check_places" = true) (k4 : PySem.W.keepIn K (.ref f4) = true)
    (a5 : PySem.W.nsIn K mainGlobals "check_thing" = some (some (.ref f5))) (l5 : K.lookup f5 = some ⟨oc5, od5, .func (PySem.W.fnOf "check_thing" "check_thing" (defArgs s_check_thing) (defBody s_check_thing) (defScope s_check_thing) .none kV5 dc5 pm5 an5 cd5 ct5), sl5⟩) (c5 : PySem.W.codeIn K cd5 "check_thing" = true) (k5 : PySem.W.keepIn K (.ref f5) = true)
    (a6 : PySem.W.findIn K (.ref xStock) "__init__" = some (some (.ref f6))) (l6 : K.lookup f6 = some ⟨oc6, od6, .func (PySem.W.fnOf "__init__" "Stock.__init__" (defArgs s_Stock_init) (defBody s_Stock_init) (defScope s_Stock_init) .none kV6 dc6 pm6 an6 cd6 ct6), sl6⟩) (c6 : PySem.W.codeIn K cd6 "Stock.__init__" = true) (n6 : PySem.W.isFn K (.ref f6) = true) (k6 : PySem.W.keepIn K (.ref xStock) = true) (m6 : PySem.W.makesIn K xStock = true) (kf6 : PySem.W.keepIn K (.ref f6) = true)
    (a7 : PySem.W.findIn K (.ref xStock) "thing_of" = some (some (.ref f7))) (l7 : K.lookup f7 = some ⟨oc7, od7, .func (PySem.W.fnOf "thing_of" "Stock.thing_of" (defArgs s_Stock_thing_of) (defBody s_Stock_thing_of) (defScope s_Stock_thing_of) .none kV7 dc7 pm7 an7 cd7 ct7), sl7⟩) (c7 : PySem.W.codeIn K cd7 "Stock.thing_of" = true) (n7 : PySem.W.isFn K (.ref f7) = true) (k7 : PySem.W.keepIn K (.ref f7) = true)
    (a8 : PySem.W.findIn K (.ref xStock) "room_of" = some (some (.ref f8))) (l8 : K.lookup f8 = some ⟨oc8, od8, .func (PySem.W.fnOf "room_of" "Stock.room_of" (defArgs s_Stock_room_of) (defBody s_Stock_room_of) (defScope s_Stock_room_of) .none kV8 dc8 pm8 an8 cd8 ct8), sl8⟩) (c8 : PySem.W.codeIn K cd8 "Stock.room_of" = true) (n8 : PySem.W.isFn K (.ref f8) = true) (k8 : PySem.W.keepIn K (.ref f8) = true)
    (a9 : PySem.W.findIn K (.ref xStock) "cost_of" = some (some (.ref f9))) (l9 : K.lookup f9 = some ⟨oc9, od9, .func (PySem.W.fnOf "cost_of" "Stock.cost_of" (defArgs s_Stock_cost_of) (defBody s_Stock_cost_of) (defScope s_Stock_cost_of) .none kV9 dc9 pm9 an9 cd9 ct9), sl9⟩) (c9 : PySem.W.codeIn K cd9 "Stock.cost_of" = true) (n9 : PySem.W.isFn K (.ref f9) = true) (k9 : PySem.W.keepIn K (.ref f9) = true)
    (a10 : PySem.W.nsIn K mainGlobals "divisor_of" = some (some (.ref f10))) (l10 : K.lookup f10 = some ⟨oc10, od10, .func (PySem.W.fnOf "divisor_of" "divisor_of" (defArgs s_divisor_of) (defBody s_divisor_of) (defScope s_divisor_of) .none kV10 dc10 pm10 an10 cd10 ct10), sl10⟩) (c10 : PySem.W.codeIn K cd10 "divisor_of" = true) (k10 : PySem.W.keepIn K (.ref f10) = true)
    (a11 : PySem.W.nsIn K mainGlobals "ratio_of" = some (some (.ref f11))) (l11 : K.lookup f11 = some ⟨oc11, od11, .func (PySem.W.fnOf "ratio_of" "ratio_of" (defArgs s_ratio_of) (defBody s_ratio_of) (defScope s_ratio_of) .none kV11 dc11 pm11 an11 cd11 ct11), sl11⟩) (c11 : PySem.W.codeIn K cd11 "ratio_of" = true) (k11 : PySem.W.keepIn K (.ref f11) = true)
    (a12 : PySem.W.nsIn K mainGlobals "plus_ratio" = some (some (.ref f12))) (l12 : K.lookup f12 = some ⟨oc12, od12, .func (PySem.W.fnOf "plus_ratio" "plus_ratio" (defArgs s_plus_ratio) (defBody s_plus_ratio) (defScope s_plus_ratio) .none kV12 dc12 pm12 an12 cd12 ct12), sl12⟩) (c12 : PySem.W.codeIn K cd12 "plus_ratio" = true) (k12 : PySem.W.keepIn K (.ref f12) = true)
    (a13 : PySem.W.nsIn K mainGlobals "minus_ratio" = some (some (.ref f13))) (l13 : K.lookup f13 = some ⟨oc13, od13, .func (PySem.W.fnOf "minus_ratio" "minus_ratio" (defArgs s_minus_ratio) (defBody s_minus_ratio) (defScope s_minus_ratio) .none kV13 dc13 pm13 an13 cd13 ct13), sl13⟩) (c13 : PySem.W.codeIn K cd13 "minus_ratio" = true) (k13 : PySem.W.keepIn K (.ref f13) = true)
    (a14 : PySem.W.nsIn K mainGlobals "under_ratio" = some (some (.ref f14))) (l14 : K.lookup f14 = some ⟨oc14, od14, .func (PySem.W.fnOf "under_ratio" "under_ratio" (defArgs s_under_ratio) (defBody s_under_ratio) (defScope s_under_ratio) .none kV14 dc14 pm14 an14 cd14 ct14), sl14⟩) (c14 : PySem.W.codeIn K cd14 "under_ratio" = true) (k14 : PySem.W.keepIn K (.ref f14) = true)
    (a15 : PySem.W.findIn K (.ref xRule) "__init__" = some (some (.ref f15))) (l15 : K.lookup f15 = some ⟨oc15, od15, .func (PySem.W.fnOf "__init__" "Rule.__init__" (defArgs s_Rule_init) (defBody s_Rule_init) (defScope s_Rule_init) .none kV15 dc15 pm15 an15 cd15 ct15), sl15⟩) (c15 : PySem.W.codeIn K cd15 "Rule.__init__" = true) (n15 : PySem.W.isFn K (.ref f15) = true) (k15 : PySem.W.keepIn K (.ref xRule) = true) (m15 : PySem.W.makesIn K xRule = true) (kf15 : PySem.W.keepIn K (.ref f15) = true)
    (fc15 : PySem.W.findCls K (.ref xRule) (.type "type") "__init__" = some (.val (.ref f15))) (sc15 : PySem.W.specialIn K (.ref xRule) "__getattribute__" = some (some (.builtin "type.__getattribute__"))) (rc15 : PySem.W.readsIn K xRule (.type "type") = true)
    (a16 : PySem.W.findIn K (.ref xDues) "__init__" = some (some (.ref f16))) (l16 : K.lookup f16 = some ⟨oc16, od16, .func (PySem.W.fnOf "__init__" "Dues.__init__" (defArgs s_Dues_init) (defBody s_Dues_init) (defScope s_Dues_init) .none kV16 dc16 pm16 an16 cd16 ct16), sl16⟩) (c16 : PySem.W.codeIn K cd16 "Dues.__init__" = true) (n16 : PySem.W.isFn K (.ref f16) = true) (k16 : PySem.W.keepIn K (.ref xDues) = true) (m16 : PySem.W.makesIn K xDues = true) (kf16 : PySem.W.keepIn K (.ref f16) = true)
    (a17 : PySem.W.findIn K (.ref xDues) "owe" = some (some (.ref f17))) (l17 : K.lookup f17 = some ⟨oc17, od17, .func (PySem.W.fnOf "owe" "Dues.owe" (defArgs s_Dues_owe) (defBody s_Dues_owe) (defScope s_Dues_owe) .none kV17 dc17 pm17 an17 cd17 ct17), sl17⟩) (c17 : PySem.W.codeIn K cd17 "Dues.owe" = true) (n17 : PySem.W.isFn K (.ref f17) = true) (k17 : PySem.W.keepIn K (.ref f17) = true)
    (a18 : PySem.W.findIn K (.ref xDues) "asked" = some (some (.ref f18))) (l18 : K.lookup f18 = some ⟨oc18, od18, .func (PySem.W.fnOf "asked" "Dues.asked" (defArgs s_Dues_asked) (defBody s_Dues_asked) (defScope s_Dues_asked) .none kV18 dc18 pm18 an18 cd18 ct18), sl18⟩) (c18 : PySem.W.codeIn K cd18 "Dues.asked" = true) (n18 : PySem.W.isFn K (.ref f18) = true) (k18 : PySem.W.keepIn K (.ref f18) = true)
    (a19 : PySem.W.findIn K (.ref xDues) "choice" = some (some (.ref f19))) (l19 : K.lookup f19 = some ⟨oc19, od19, .func (PySem.W.fnOf "choice" "Dues.choice" (defArgs s_Dues_choice) (defBody s_Dues_choice) (defScope s_Dues_choice) .none kV19 dc19 pm19 an19 cd19 ct19), sl19⟩) (c19 : PySem.W.codeIn K cd19 "Dues.choice" = true) (n19 : PySem.W.isFn K (.ref f19) = true) (k19 : PySem.W.keepIn K (.ref f19) = true)
    (a20 : PySem.W.findIn K (.ref xDues) "gone" = some (some (.ref f20))) (l20 : K.lookup f20 = some ⟨oc20, od20, .func (PySem.W.fnOf "gone" "Dues.gone" (defArgs s_Dues_gone) (defBody s_Dues_gone) (defScope s_Dues_gone) .none kV20 dc20 pm20 an20 cd20 ct20), sl20⟩) (c20 : PySem.W.codeIn K cd20 "Dues.gone" = true) (n20 : PySem.W.isFn K (.ref f20) = true) (k20 : PySem.W.keepIn K (.ref f20) = true)
    (a21 : PySem.W.findIn K (.ref xDues) "came" = some (some (.ref f21))) (l21 : K.lookup f21 = some ⟨oc21, od21, .func (PySem.W.fnOf "came" "Dues.came" (defArgs s_Dues_came) (defBody s_Dues_came) (defScope s_Dues_came) .none kV21 dc21 pm21 an21 cd21 ct21), sl21⟩) (c21 : PySem.W.codeIn K cd21 "Dues.came" = true) (n21 : PySem.W.isFn K (.ref f21) = true) (k21 : PySem.W.keepIn K (.ref f21) = true)
    (a22 : PySem.W.findIn K (.ref xDues) "level" = some (some (.ref f22))) (l22 : K.lookup f22 = some ⟨oc22, od22, .func (PySem.W.fnOf "level" "Dues.level" (defArgs s_Dues_level) (defBody s_Dues_level) (defScope s_Dues_level) .none kV22 dc22 pm22 an22 cd22 ct22), sl22⟩) (c22 : PySem.W.codeIn K cd22 "Dues.level" = true) (n22 : PySem.W.isFn K (.ref f22) = true) (k22 : PySem.W.keepIn K (.ref f22) = true)
    (a23 : PySem.W.findIn K (.ref xDues) "due_of" = some (some (.ref f23))) (l23 : K.lookup f23 = some ⟨oc23, od23, .func (PySem.W.fnOf "due_of" "Dues.due_of" (defArgs s_Dues_due_of) (defBody s_Dues_due_of) (defScope s_Dues_due_of) .none kV23 dc23 pm23 an23 cd23 ct23), sl23⟩) (c23 : PySem.W.codeIn K cd23 "Dues.due_of" = true) (n23 : PySem.W.isFn K (.ref f23) = true) (k23 : PySem.W.keepIn K (.ref f23) = true)
    (a24 : PySem.W.findIn K (.ref xDues) "prices" = some (some (.ref f24))) (l24 : K.lookup f24 = some ⟨oc24, od24, .func (PySem.W.fnOf "prices" "Dues.prices" (defArgs s_Dues_prices) (defBody s_Dues_prices) (defScope s_Dues_prices) .none kV24 dc24 pm24 an24 cd24 ct24), sl24⟩) (c24 : PySem.W.codeIn K cd24 "Dues.prices" = true) (n24 : PySem.W.isFn K (.ref f24) = true) (k24 : PySem.W.keepIn K (.ref f24) = true)
    (a25 : PySem.W.nsIn K mainGlobals "_law_cell" = some (some (.ref f25))) (l25 : K.lookup f25 = some ⟨oc25, od25, .func (PySem.W.fnOf "_law_cell" "_law_cell" (defArgs s_l_cell) (defBody s_l_cell) (defScope s_l_cell) .none kV25 dc25 pm25 an25 cd25 ct25), sl25⟩) (c25 : PySem.W.codeIn K cd25 "_law_cell" = true) (k25 : PySem.W.keepIn K (.ref f25) = true)
    (a26 : PySem.W.nsIn K mainGlobals "_law_stream" = some (some (.ref f26))) (l26 : K.lookup f26 = some ⟨oc26, od26, .func (PySem.W.fnOf "_law_stream" "_law_stream" (defArgs s_l_stream) (defBody s_l_stream) (defScope s_l_stream) .none kV26 dc26 pm26 an26 cd26 ct26), sl26⟩) (c26 : PySem.W.codeIn K cd26 "_law_stream" = true) (k26 : PySem.W.keepIn K (.ref f26) = true)
    (a27 : PySem.W.nsIn K mainGlobals "_law_names" = some (some (.ref f27))) (l27 : K.lookup f27 = some ⟨oc27, od27, .func (PySem.W.fnOf "_law_names" "_law_names" (defArgs s_l_names) (defBody s_l_names) (defScope s_l_names) .none kV27 dc27 pm27 an27 cd27 ct27), sl27⟩) (c27 : PySem.W.codeIn K cd27 "_law_names" = true) (k27 : PySem.W.keepIn K (.ref f27) = true)
    (a28 : PySem.W.nsIn K mainGlobals "_law_rows" = some (some (.ref f28))) (l28 : K.lookup f28 = some ⟨oc28, od28, .func (PySem.W.fnOf "_law_rows" "_law_rows" (defArgs s_l_rows) (defBody s_l_rows) (defScope s_l_rows) .none kV28 dc28 pm28 an28 cd28 ct28), sl28⟩) (c28 : PySem.W.codeIn K cd28 "_law_rows" = true) (k28 : PySem.W.keepIn K (.ref f28) = true)
    (a29 : PySem.W.nsIn K mainGlobals "_law_places" = some (some (.ref f29))) (l29 : K.lookup f29 = some ⟨oc29, od29, .func (PySem.W.fnOf "_law_places" "_law_places" (defArgs s_l_places) (defBody s_l_places) (defScope s_l_places) .none kV29 dc29 pm29 an29 cd29 ct29), sl29⟩) (c29 : PySem.W.codeIn K cd29 "_law_places" = true) (k29 : PySem.W.keepIn K (.ref f29) = true)
    (a30 : PySem.W.nsIn K mainGlobals "_law_asks" = some (some (.ref f30))) (l30 : K.lookup f30 = some ⟨oc30, od30, .func (PySem.W.fnOf "_law_asks" "_law_asks" (defArgs s_l_asks) (defBody s_l_asks) (defScope s_l_asks) .none kV30 dc30 pm30 an30 cd30 ct30), sl30⟩) (c30 : PySem.W.codeIn K cd30 "_law_asks" = true) (k30 : PySem.W.keepIn K (.ref f30) = true)
    (a31 : PySem.W.nsIn K mainGlobals "_law_rooms" = some (some (.ref f31))) (l31 : K.lookup f31 = some ⟨oc31, od31, .func (PySem.W.fnOf "_law_rooms" "_law_rooms" (defArgs s_l_rooms) (defBody s_l_rooms) (defScope s_l_rooms) .none kV31 dc31 pm31 an31 cd31 ct31), sl31⟩) (c31 : PySem.W.codeIn K cd31 "_law_rooms" = true) (k31 : PySem.W.keepIn K (.ref f31) = true)
    (a32 : PySem.W.nsIn K mainGlobals "_law_priced" = some (some (.ref f32))) (l32 : K.lookup f32 = some ⟨oc32, od32, .func (PySem.W.fnOf "_law_priced" "_law_priced" (defArgs s_l_priced) (defBody s_l_priced) (defScope s_l_priced) .none kV32 dc32 pm32 an32 cd32 ct32), sl32⟩) (c32 : PySem.W.codeIn K cd32 "_law_priced" = true) (k32 : PySem.W.keepIn K (.ref f32) = true)
    (a33 : PySem.W.nsIn K mainGlobals "_law_whole" = some (some (.ref f33))) (l33 : K.lookup f33 = some ⟨oc33, od33, .func (PySem.W.fnOf "_law_whole" "_law_whole" (defArgs s_l_whole) (defBody s_l_whole) (defScope s_l_whole) .none kV33 dc33 pm33 an33 cd33 ct33), sl33⟩) (c33 : PySem.W.codeIn K cd33 "_law_whole" = true) (k33 : PySem.W.keepIn K (.ref f33) = true)
    (a34 : PySem.W.nsIn K mainGlobals "_law_shared" = some (some (.ref f34))) (l34 : K.lookup f34 = some ⟨oc34, od34, .func (PySem.W.fnOf "_law_shared" "_law_shared" (defArgs s_l_shared) (defBody s_l_shared) (defScope s_l_shared) .none kV34 dc34 pm34 an34 cd34 ct34), sl34⟩) (c34 : PySem.W.codeIn K cd34 "_law_shared" = true) (k34 : PySem.W.keepIn K (.ref f34) = true)
    (a35 : PySem.W.nsIn K mainGlobals "_law_ratio" = some (some (.ref f35))) (l35 : K.lookup f35 = some ⟨oc35, od35, .func (PySem.W.fnOf "_law_ratio" "_law_ratio" (defArgs s_l_ratio) (defBody s_l_ratio) (defScope s_l_ratio) .none kV35 dc35 pm35 an35 cd35 ct35), sl35⟩) (c35 : PySem.W.codeIn K cd35 "_law_ratio" = true) (k35 : PySem.W.keepIn K (.ref f35) = true)
    (a36 : PySem.W.nsIn K mainGlobals "_law_under" = some (some (.ref f36))) (l36 : K.lookup f36 = some ⟨oc36, od36, .func (PySem.W.fnOf "_law_under" "_law_under" (defArgs s_l_under) (defBody s_l_under) (defScope s_l_under) .none kV36 dc36 pm36 an36 cd36 ct36), sl36⟩) (c36 : PySem.W.codeIn K cd36 "_law_under" = true) (k36 : PySem.W.keepIn K (.ref f36) = true)
    (a37 : PySem.W.nsIn K mainGlobals "_law_sum" = some (some (.ref f37))) (l37 : K.lookup f37 = some ⟨oc37, od37, .func (PySem.W.fnOf "_law_sum" "_law_sum" (defArgs s_l_sum) (defBody s_l_sum) (defScope s_l_sum) .none kV37 dc37 pm37 an37 cd37 ct37), sl37⟩) (c37 : PySem.W.codeIn K cd37 "_law_sum" = true) (k37 : PySem.W.keepIn K (.ref f37) = true)
    (a38 : PySem.W.nsIn K mainGlobals "_law_least" = some (some (.ref f38))) (l38 : K.lookup f38 = some ⟨oc38, od38, .func (PySem.W.fnOf "_law_least" "_law_least" (defArgs s_l_least) (defBody s_l_least) (defScope s_l_least) .none kV38 dc38 pm38 an38 cd38 ct38), sl38⟩) (c38 : PySem.W.codeIn K cd38 "_law_least" = true) (k38 : PySem.W.keepIn K (.ref f38) = true)
    (a39 : PySem.W.nsIn K mainGlobals "_law_not_there" = some (some (.ref f39))) (l39 : K.lookup f39 = some ⟨oc39, od39, .func (PySem.W.fnOf "_law_not_there" "_law_not_there" (defArgs s_l_not_there) (defBody s_l_not_there) (defScope s_l_not_there) .none kV39 dc39 pm39 an39 cd39 ct39), sl39⟩) (c39 : PySem.W.codeIn K cd39 "_law_not_there" = true) (k39 : PySem.W.keepIn K (.ref f39) = true)
    (a40 : PySem.W.nsIn K mainGlobals "_law_served" = some (some (.ref f40))) (l40 : K.lookup f40 = some ⟨oc40, od40, .func (PySem.W.fnOf "_law_served" "_law_served" (defArgs s_l_served) (defBody s_l_served) (defScope s_l_served) .none kV40 dc40 pm40 an40 cd40 ct40), sl40⟩) (c40 : PySem.W.codeIn K cd40 "_law_served" = true) (k40 : PySem.W.keepIn K (.ref f40) = true)
    (a41 : PySem.W.nsIn K mainGlobals "_law_prices" = some (some (.ref f41))) (l41 : K.lookup f41 = some ⟨oc41, od41, .func (PySem.W.fnOf "_law_prices" "_law_prices" (defArgs s_l_prices) (defBody s_l_prices) (defScope s_l_prices) .none kV41 dc41 pm41 an41 cd41 ct41), sl41⟩) (c41 : PySem.W.codeIn K cd41 "_law_prices" = true) (k41 : PySem.W.keepIn K (.ref f41) = true)
    (a42 : PySem.W.nsIn K mainGlobals "_law_dues" = some (some (.ref f42))) (l42 : K.lookup f42 = some ⟨oc42, od42, .func (PySem.W.fnOf "_law_dues" "_law_dues" (defArgs s_l_dues) (defBody s_l_dues) (defScope s_l_dues) .none kV42 dc42 pm42 an42 cd42 ct42), sl42⟩) (c42 : PySem.W.codeIn K cd42 "_law_dues" = true) (k42 : PySem.W.keepIn K (.ref f42) = true)
    (a43 : PySem.W.nsIn K mainGlobals "law" = some (some (.ref f43))) (l43 : K.lookup f43 = some ⟨oc43, od43, .func (PySem.W.fnOf "law" "law" (defArgs s_law) (defBody s_law) (defScope s_law) .none kV43 dc43 pm43 an43 cd43 ct43), sl43⟩) (c43 : PySem.W.codeIn K cd43 "law" = true) (k43 : PySem.W.keepIn K (.ref f43) = true)
    (z_len : PySem.W.nsIn K mainGlobals "len" = some none)
    (z_isinstance : PySem.W.nsIn K mainGlobals "isinstance" = some none)
    (z_int : PySem.W.nsIn K mainGlobals "int" = some none)
    (z_bool : PySem.W.nsIn K mainGlobals "bool" = some none)
    (z_str : PySem.W.nsIn K mainGlobals "str" = some none)
    (z_list : PySem.W.nsIn K mainGlobals "list" = some none)
    (z_tuple : PySem.W.nsIn K mainGlobals "tuple" = some none)
    (z_all : PySem.W.nsIn K mainGlobals "all" = some none)
    (z_range : PySem.W.nsIn K mainGlobals "range" = some none)
    (z_sum : PySem.W.nsIn K mainGlobals "sum" = some none)
    (z_enumerate : PySem.W.nsIn K mainGlobals "enumerate" = some none)
    (z_zip : PySem.W.nsIn K mainGlobals "zip" = some none)
    (z_max : PySem.W.nsIn K mainGlobals "max" = some none)
    (z_min : PySem.W.nsIn K mainGlobals "min" = some none)
    (z_abs : PySem.W.nsIn K mainGlobals "abs" = some none)
    {tk_LETTERS : Tok} (g_LETTERS : PySem.W.nsIn K mainGlobals "LETTERS" = some (some (.str "abcdefghijklmnopqrstuvwxyz" tk_LETTERS)))
    {tk_FIGURES : Tok} (g_FIGURES : PySem.W.nsIn K mainGlobals "FIGURES" = some (some (.str "0123456789" tk_FIGURES)))
    {tk_MOST_SIGNS : Tok} (g_MOST_SIGNS : PySem.W.nsIn K mainGlobals "MOST_SIGNS" = some (some (.int 8 tk_MOST_SIGNS)))
    {tk_MOST_THINGS : Tok} (g_MOST_THINGS : PySem.W.nsIn K mainGlobals "MOST_THINGS" = some (some (.int 60 tk_MOST_THINGS)))
    {tk_MOST_ROOM : Tok} (g_MOST_ROOM : PySem.W.nsIn K mainGlobals "MOST_ROOM" = some (some (.int 1000 tk_MOST_ROOM)))
    {tk_MOST_PLACES : Tok} (g_MOST_PLACES : PySem.W.nsIn K mainGlobals "MOST_PLACES" = some (some (.int 1000000 tk_MOST_PLACES)))
    (a_Stock : PySem.W.nsIn K mainGlobals "Stock" = some (some (.ref xStock))) (pg_Stock : PySem.W.plainGet K xStock Str.empty = true) (hd_Stock : PySem.W.hasDictIn K xStock = true) (po_Stock : PySem.W.plainOver K xStock = true) (sa_Stock : PySem.W.findIn K (.ref xStock) "__setattr__" = some (some (.builtin "object.__setattr__")))
    (n_Stock_things : PySem.W.findIn K (.ref xStock) "things" = some none)
    (a_Rule : PySem.W.nsIn K mainGlobals "Rule" = some (some (.ref xRule))) (pg_Rule : PySem.W.plainGet K xRule Str.empty = true) (hd_Rule : PySem.W.hasDictIn K xRule = true) (po_Rule : PySem.W.plainOver K xRule = true) (sa_Rule : PySem.W.findIn K (.ref xRule) "__setattr__" = some (some (.builtin "object.__setattr__")))
    (a_Dues : PySem.W.nsIn K mainGlobals "Dues" = some (some (.ref xDues))) (pg_Dues : PySem.W.plainGet K xDues Str.empty = true) (hd_Dues : PySem.W.hasDictIn K xDues = true) (po_Dues : PySem.W.plainOver K xDues = true) (sa_Dues : PySem.W.findIn K (.ref xDues) "__setattr__" = some (some (.builtin "object.__setattr__")))
    (n_Dues_stock : PySem.W.findIn K (.ref xDues) "stock" = some none)
    (n_Dues_places : PySem.W.findIn K (.ref xDues) "places" = some none)
    (n_Dues_reached : PySem.W.findIn K (.ref xDues) "reached" = some none)
    (n_Dues_dues : PySem.W.findIn K (.ref xDues) "dues" = some none)
    (n_Dues_rises : PySem.W.findIn K (.ref xDues) "rises" = some none)
    (a_NotThere : PySem.W.nsIn K mainGlobals "NotThere" = some (some (.ref xNotThere)))
    (a_CastError : PySem.W.nsIn K mainGlobals "CastError" = some (some (.ref xCastError)))
    {cA oA : Value} {dA eA : Option Addr} {cdA : ClassData} {slA smA : Array (Option Value)} {esA : Array DictEntry} {epA : Nat} (lA : K.lookup xCastError = some ⟨cA, dA, .cls cdA, slA⟩) (lNA : K.lookup cdA.ns = some ⟨oA, eA, .dict esA epA, smA⟩) (sNA : strKeysB esA = true) (iNA : nsFind esA "__init__" = none)
    {nm_NotThere q_NotThere : Str} {N_NotThere : Addr} {bs_NotThere : List Value} {hd_NotThere : Bool} {sn_NotThere : List Str} {su_NotThere : List Value} {ab_NotThere : Bool} {co_NotThere : Option Bool} {dd_NotThere : Option Addr} {k0_NotThere k1_NotThere k2_NotThere k3_NotThere k5_NotThere : Option Value} {oc_NotThere : Value} {od_NotThere : Option Addr} {es_NotThere : Array DictEntry} {ep_NotThere : Nat} {sl_NotThere : Array (Option Value)}
    (lC_NotThere : K.lookup xNotThere = some (excClassObj nm_NotThere q_NotThere xNotThere N_NotThere bs_NotThere [.ref xCastError, .type "ValueError", .type "Exception", .type "BaseException", .type "object"] hd_NotThere sn_NotThere su_NotThere ab_NotThere co_NotThere dd_NotThere k0_NotThere k1_NotThere k2_NotThere k3_NotThere k5_NotThere "ValueError.__new__")) (lN_NotThere : K.lookup N_NotThere = some ⟨oc_NotThere, od_NotThere, .dict es_NotThere ep_NotThere, sl_NotThere⟩) (sN_NotThere : strKeysB es_NotThere = true) (iN_NotThere : nsFind es_NotThere "__init__" = none)
    {nm_CastError q_CastError : Str} {N_CastError : Addr} {bs_CastError : List Value} {hd_CastError : Bool} {sn_CastError : List Str} {su_CastError : List Value} {ab_CastError : Bool} {co_CastError : Option Bool} {dd_CastError : Option Addr} {k0_CastError k1_CastError k2_CastError k3_CastError k5_CastError : Option Value} {oc_CastError : Value} {od_CastError : Option Addr} {es_CastError : Array DictEntry} {ep_CastError : Nat} {sl_CastError : Array (Option Value)}
    (lC_CastError : K.lookup xCastError = some (excClassObj nm_CastError q_CastError xCastError N_CastError bs_CastError [.type "ValueError", .type "Exception", .type "BaseException", .type "object"] hd_CastError sn_CastError su_CastError ab_CastError co_CastError dd_CastError k0_CastError k1_CastError k2_CastError k3_CastError k5_CastError "ValueError.__new__")) (lN_CastError : K.lookup N_CastError = some ⟨oc_CastError, od_CastError, .dict es_CastError ep_CastError, sl_CastError⟩) (sN_CastError : strKeysB es_CastError = true) (iN_CastError : nsFind es_CastError "__init__" = none)
    {cc_NotThere : ClassData} (b_NotThere : PySem.W.subIn K (.ref xNotThere) (.type "BaseException") = some true) (cl_NotThere : PySem.W.clsIn K xNotThere = some cc_NotThere) (ty_NotThere : PySem.W.typeIn K (.ref xNotThere) = some (.type "type"))
    (s_NotThere_NotThere : PySem.W.subIn K (.ref xNotThere) (.ref xNotThere) = some true)
    : ∃ fd : FuncData, (∀ (s : Shared) (v : Value), BindsTo s fd ⟨[v], []⟩ [("_law_script", v)]) ∧ ∀ base : Heap, K.In base → base.Ns mainGlobals mg → FnOk l.prog w K mg base (CXE l.prog w) 9 fa fd ["_law_script"] (sp_law K) := by
  have e := hfa.symm.trans (PySem.W.mg_of X G a43)
  cases e
  have T : Txt K mg xNotThere xCastError xStock xRule xDues := ⟨PySem.W.mg_of X G a_Stock, ⟨pg_Stock, hd_Stock, po_Stock, sa_Stock⟩, n_Stock_things, PySem.W.mg_of X G a_Rule, ⟨pg_Rule, hd_Rule, po_Rule, sa_Rule⟩, PySem.W.mg_of X G a_Dues, ⟨pg_Dues, hd_Dues, po_Dues, sa_Dues⟩, n_Dues_stock, n_Dues_places, n_Dues_reached, n_Dues_dues, n_Dues_rises, PySem.W.mg_of X G a_NotThere, excC_of lC_NotThere lN_NotThere sN_NotThere iN_NotThere lA lNA sNA iNA, PySem.W.mg_of X G a_CastError, excC_of0 lC_CastError lN_CastError sN_CastError iN_CastError, exm_ref b_NotThere cl_NotThere ty_NotThere s_NotThere_NotThere, PySem.W.mg_none_of X G z_len, PySem.W.mg_none_of X G z_isinstance, PySem.W.mg_none_of X G z_int, PySem.W.mg_none_of X G z_bool, PySem.W.mg_none_of X G z_str, PySem.W.mg_none_of X G z_list, PySem.W.mg_none_of X G z_tuple, PySem.W.mg_none_of X G z_all, PySem.W.mg_none_of X G z_range, PySem.W.mg_none_of X G z_sum, PySem.W.mg_none_of X G z_enumerate, PySem.W.mg_none_of X G z_zip, PySem.W.mg_none_of X G z_max, PySem.W.mg_none_of X G z_min, PySem.W.mg_none_of X G z_abs, ⟨_, PySem.W.mg_of X G g_LETTERS⟩, ⟨_, PySem.W.mg_of X G g_FIGURES⟩, ⟨_, PySem.W.mg_of X G g_MOST_SIGNS⟩, ⟨_, PySem.W.mg_of X G g_MOST_THINGS⟩, ⟨_, PySem.W.mg_of X G g_MOST_ROOM⟩, ⟨_, PySem.W.mg_of X G g_MOST_PLACES⟩⟩
  have F0 := fun_mk (st := s_made_of) l0 c0 k0
  have F1 := fun_mk (st := s_is_name) l1 c1 k1
  have F2 := fun_mk (st := s_is_whole) l2 c2 k2
  have F3 := fun_mk (st := s_is_within) l3 c3 k3
  have F4 := fun_mk (st := s_check_places) l4 c4 k4
  have F5 := fun_mk (st := s_check_thing) l5 c5 k5
  have F6 := fun_mk (st := s_Stock_init) l6 c6 kf6
  have F7 := fun_mk (st := s_Stock_thing_of) l7 c7 k7
  have F8 := fun_mk (st := s_Stock_room_of) l8 c8 k8
  have F9 := fun_mk (st := s_Stock_cost_of) l9 c9 k9
  have F10 := fun_mk (st := s_divisor_of) l10 c10 k10
  have F11 := fun_mk (st := s_ratio_of) l11 c11 k11
  have F12 := fun_mk (st := s_plus_ratio) l12 c12 k12
  have F13 := fun_mk (st := s_minus_ratio) l13 c13 k13
  have F14 := fun_mk (st := s_under_ratio) l14 c14 k14
  have F15 := fun_mk (st := s_Rule_init) l15 c15 kf15
  have F16 := fun_mk (st := s_Dues_init) l16 c16 kf16
  have F17 := fun_mk (st := s_Dues_owe) l17 c17 k17
  have F18 := fun_mk (st := s_Dues_asked) l18 c18 k18
  have F19 := fun_mk (st := s_Dues_choice) l19 c19 k19
  have F20 := fun_mk (st := s_Dues_gone) l20 c20 k20
  have F21 := fun_mk (st := s_Dues_came) l21 c21 k21
  have F22 := fun_mk (st := s_Dues_level) l22 c22 k22
  have F23 := fun_mk (st := s_Dues_due_of) l23 c23 k23
  have F24 := fun_mk (st := s_Dues_prices) l24 c24 k24
  have F25 := fun_mk (st := s_l_cell) l25 c25 k25
  have F26 := fun_mk (st := s_l_stream) l26 c26 k26
  have F27 := fun_mk (st := s_l_names) l27 c27 k27
  have F28 := fun_mk (st := s_l_rows) l28 c28 k28
  have F29 := fun_mk (st := s_l_places) l29 c29 k29
  have F30 := fun_mk (st := s_l_asks) l30 c30 k30
  have F31 := fun_mk (st := s_l_rooms) l31 c31 k31
  have F32 := fun_mk (st := s_l_priced) l32 c32 k32
  have F33 := fun_mk (st := s_l_whole) l33 c33 k33
  have F34 := fun_mk (st := s_l_shared) l34 c34 k34
  have F35 := fun_mk (st := s_l_ratio) l35 c35 k35
  have F36 := fun_mk (st := s_l_under) l36 c36 k36
  have F37 := fun_mk (st := s_l_sum) l37 c37 k37
  have F38 := fun_mk (st := s_l_least) l38 c38 k38
  have F39 := fun_mk (st := s_l_not_there) l39 c39 k39
  have F40 := fun_mk (st := s_l_served) l40 c40 k40
  have F41 := fun_mk (st := s_l_prices) l41 c41 k41
  have F42 := fun_mk (st := s_l_dues) l42 c42 k42
  have F43 := fun_mk (st := s_law) l43 c43 k43
  refine ⟨PySem.W.fnOf "law" "law" (defArgs s_law) (defBody s_law) (defScope s_law) .none kV43 dc43 pm43 an43 cd43 ct43, fun s v => .of_eq rfl, fun base _ _ => ?_⟩
  have D_made_of : Def l.prog w K mg base (CXE l.prog w) 1 "made_of" ["text", "signs"] (sp_made) := ⟨⟨f0, _, ok_made_of F0 T , PySem.W.mg_of X G a0, k0, F0.binds (ps := ["text", "signs"]) fun _ _ _ _ _ _ us hl => match us, hl with | [_, _], _ => rfl⟩⟩
  have D_is_name : Def l.prog w K mg base (CXE l.prog w) 2 "is_name" ["thing"] (sp_is_name K) := ⟨⟨f1, _, ok_is_name F1 T D_made_of, PySem.W.mg_of X G a1, k1, F1.binds (ps := ["thing"]) fun _ _ _ _ _ _ us hl => match us, hl with | [_], _ => rfl⟩⟩
  have D_is_whole : Def l.prog w K mg base (CXE l.prog w) 1 "is_whole" ["thing"] (sp_is_whole K) := ⟨⟨f2, _, ok_is_whole F2 T , PySem.W.mg_of X G a2, k2, F2.binds (ps := ["thing"]) fun _ _ _ _ _ _ us hl => match us, hl with | [_], _ => rfl⟩⟩
  have D_is_within : Def l.prog w K mg base (CXE l.prog w) 2 "is_within" ["thing", "least", "most"] (sp_within K) := ⟨⟨f3, _, ok_is_within F3 T D_is_whole, PySem.W.mg_of X G a3, k3, F3.binds (ps := ["thing", "least", "most"]) fun _ _ _ _ _ _ us hl => match us, hl with | [_, _, _], _ => rfl⟩⟩
  have D_check_places : Def l.prog w K mg base (CXE l.prog w) 3 "check_places" ["places"] (sp32_check) := ⟨⟨f4, _, ok_check_places F4 T D_is_within, PySem.W.mg_of X G a4, k4, F4.binds (ps := ["places"]) fun _ _ _ _ _ _ us hl => match us, hl with | [_], _ => rfl⟩⟩
  have D_check_thing : Def l.prog w K mg base (CXE l.prog w) 3 "check_thing" ["name", "cost", "room", "earlier"] (sp_checkG K) := ⟨⟨f5, _, ok_check_thing F5 T D_is_name D_is_within, PySem.W.mg_of X G a5, k5, F5.binds (ps := ["name", "cost", "room", "earlier"]) fun _ _ _ _ _ _ us hl => match us, hl with | [_, _, _, _], _ => rfl⟩⟩
  have D_Stock_init : DefI l.prog w K mg base (CXE l.prog w) 4 "Stock" xStock ["self", "rows"] (sp_initG K xStock) := ⟨⟨f6, _, ok_Stock_init F6 T D_check_thing, ⟨m6, a6, n6, k6⟩, PySem.W.mg_of X G a_Stock, F6.binds (ps := ["self", "rows"]) fun _ _ _ _ _ _ us hl => match us, hl with | [_, _], _ => rfl⟩⟩
  have D_Stock_thing_of : DefM l.prog w K mg base (CXE l.prog w) 1 xStock "thing_of" ["self", "name"] (sp32_thing K xStock) := ⟨⟨f7, _, ok_Stock_thing_of F7 T , ⟨a7, n7, k7⟩, F7.binds (ps := ["self", "name"]) fun _ _ _ _ _ _ us hl => match us, hl with | [_, _], _ => rfl⟩⟩
  have D_Stock_room_of : DefM l.prog w K mg base (CXE l.prog w) 2 xStock "room_of" ["self", "name"] (sp32_room K xStock) := ⟨⟨f8, _, ok_Stock_room_of F8 T D_Stock_thing_of, ⟨a8, n8, k8⟩, F8.binds (ps := ["self", "name"]) fun _ _ _ _ _ _ us hl => match us, hl with | [_, _], _ => rfl⟩⟩
  have D_Stock_cost_of : DefM l.prog w K mg base (CXE l.prog w) 2 xStock "cost_of" ["self", "name"] (sp41_cost K xStock) := ⟨⟨f9, _, ok_Stock_cost_of F9 T D_Stock_thing_of, ⟨a9, n9, k9⟩, F9.binds (ps := ["self", "name"]) fun _ _ _ _ _ _ us hl => match us, hl with | [_, _], _ => rfl⟩⟩
  have D_divisor_of : Def l.prog w K mg base (CXE l.prog w) 1 "divisor_of" ["one", "other"] (sp41_div) := ⟨⟨f10, _, ok_divisor_of F10 T , PySem.W.mg_of X G a10, k10, F10.binds (ps := ["one", "other"]) fun _ _ _ _ _ _ us hl => match us, hl with | [_, _], _ => rfl⟩⟩
  have D_ratio_of : Def l.prog w K mg base (CXE l.prog w) 2 "ratio_of" ["top", "bottom"] (sp57_ratio) := ⟨⟨f11, _, ok_ratio_of F11 T D_divisor_of, PySem.W.mg_of X G a11, k11, F11.binds (ps := ["top", "bottom"]) fun _ _ _ _ _ _ us hl => match us, hl with | [_, _], _ => rfl⟩⟩
  have D_plus_ratio : Def l.prog w K mg base (CXE l.prog w) 3 "plus_ratio" ["one", "other"] (sp57_plus) := ⟨⟨f12, _, ok_plus_ratio F12 T D_ratio_of, PySem.W.mg_of X G a12, k12, F12.binds (ps := ["one", "other"]) fun _ _ _ _ _ _ us hl => match us, hl with | [_, _], _ => rfl⟩⟩
  have D_minus_ratio : Def l.prog w K mg base (CXE l.prog w) 3 "minus_ratio" ["one", "other"] (sp57_minus) := ⟨⟨f13, _, ok_minus_ratio F13 T D_ratio_of, PySem.W.mg_of X G a13, k13, F13.binds (ps := ["one", "other"]) fun _ _ _ _ _ _ us hl => match us, hl with | [_, _], _ => rfl⟩⟩
  have D_under_ratio : Def l.prog w K mg base (CXE l.prog w) 3 "under_ratio" ["one", "other"] (sp57_under) := ⟨⟨f14, _, ok_under_ratio F14 T , PySem.W.mg_of X G a14, k14, F14.binds (ps := ["one", "other"]) fun _ _ _ _ _ _ us hl => match us, hl with | [_, _], _ => rfl⟩⟩
  have D_Rule_init : DefB l.prog w K mg base (CXE l.prog w) 4 "Rule" xRule ["self", "stock", "places"] (sp57_rinit K xDues) := ⟨⟨f15, _, ok_Rule_init F15 T D_check_places, ⟨m15, a15, n15, k15⟩, PySem.W.mg_of X G a_Rule, F15.binds (ps := ["self", "stock", "places"]) fun _ _ _ _ _ _ us hl => match us, hl with | [_, _, _], _ => rfl, fc15, kf15⟩, sc15, rc15⟩
  have D_Dues_init : DefI l.prog w K mg base (CXE l.prog w) 5 "Dues" xDues ["self", "stock", "places"] (sp57_init xDues) := ⟨⟨f16, _, ok_Dues_init F16 T D_Rule_init, ⟨m16, a16, n16, k16⟩, PySem.W.mg_of X G a_Dues, F16.binds (ps := ["self", "stock", "places"]) fun _ _ _ _ _ _ us hl => match us, hl with | [_, _, _], _ => rfl⟩⟩
  have D_Dues_owe : DefM l.prog w K mg base (CXE l.prog w) 5 xDues "owe" ["self", "name"] (sp57_owe K xDues xStock) := ⟨⟨f17, _, ok_Dues_owe F17 T D_plus_ratio D_ratio_of D_Stock_cost_of D_Stock_room_of, ⟨a17, n17, k17⟩, F17.binds (ps := ["self", "name"]) fun _ _ _ _ _ _ us hl => match us, hl with | [_, _], _ => rfl⟩⟩
  have D_Dues_asked : DefM l.prog w K mg base (CXE l.prog w) 6 xDues "asked" ["self", "name"] (sp57_asked K xDues xStock) := ⟨⟨f18, _, ok_Dues_asked F18 T D_Dues_owe, ⟨a18, n18, k18⟩, F18.binds (ps := ["self", "name"]) fun _ _ _ _ _ _ us hl => match us, hl with | [_, _], _ => rfl⟩⟩
  have D_Dues_choice : DefM l.prog w K mg base (CXE l.prog w) 4 xDues "choice" ["self", "lying"] (sp57_choice xDues) := ⟨⟨f19, _, ok_Dues_choice F19 T D_under_ratio, ⟨a19, n19, k19⟩, F19.binds (ps := ["self", "lying"]) fun _ _ _ _ _ _ us hl => match us, hl with | [_, _], _ => rfl⟩⟩
  have D_Dues_gone : DefM l.prog w K mg base (CXE l.prog w) 5 xDues "gone" ["self", "name"] (sp57_gone xDues) := ⟨⟨f20, _, ok_Dues_gone F20 T D_plus_ratio D_minus_ratio, ⟨a20, n20, k20⟩, F20.binds (ps := ["self", "name"]) fun _ _ _ _ _ _ us hl => match us, hl with | [_, _], _ => rfl⟩⟩
  have D_Dues_came : DefM l.prog w K mg base (CXE l.prog w) 6 xDues "came" ["self", "name"] (sp57_owe K xDues xStock) := ⟨⟨f21, _, ok_Dues_came F21 T D_Dues_owe, ⟨a21, n21, k21⟩, F21.binds (ps := ["self", "name"]) fun _ _ _ _ _ _ us hl => match us, hl with | [_, _], _ => rfl⟩⟩
  have D_Dues_level : DefM l.prog w K mg base (CXE l.prog w) 1 xDues "level" ["self"] (sp57_level xDues) := ⟨⟨f22, _, ok_Dues_level F22 T , ⟨a22, n22, k22⟩, F22.binds (ps := ["self"]) fun _ _ _ _ _ _ us hl => match us, hl with | [_], _ => rfl⟩⟩
  have D_Dues_due_of : DefM l.prog w K mg base (CXE l.prog w) 1 xDues "due_of" ["self", "name"] (sp57_due xDues xNotThere) := ⟨⟨f23, _, ok_Dues_due_of F23 T , ⟨a23, n23, k23⟩, F23.binds (ps := ["self", "name"]) fun _ _ _ _ _ _ us hl => match us, hl with | [_, _], _ => rfl⟩⟩
  have D_Dues_prices : DefM l.prog w K mg base (CXE l.prog w) 1 xDues "prices" ["self"] (sp57_prices xDues) := ⟨⟨f24, _, ok_Dues_prices F24 T , ⟨a24, n24, k24⟩, F24.binds (ps := ["self"]) fun _ _ _ _ _ _ us hl => match us, hl with | [_], _ => rfl⟩⟩
  have D_l_cell : Def l.prog w K mg base (CXE l.prog w) 1 "_law_cell" ["_law_script", "_law_k"] (sp_cell K) := ⟨⟨f25, _, ok_l_cell F25 T , PySem.W.mg_of X G a25, k25, F25.binds (ps := ["_law_script", "_law_k"]) fun _ _ _ _ _ _ us hl => match us, hl with | [_, _], _ => rfl⟩⟩
  have D_l_stream : Def l.prog w K mg base (CXE l.prog w) 1 "_law_stream" ["_law_cell_here", "_law_many"] (sp20_stream) := ⟨⟨f26, _, ok_l_stream F26 T , PySem.W.mg_of X G a26, k26, F26.binds (ps := ["_law_cell_here", "_law_many"]) fun _ _ _ _ _ _ us hl => match us, hl with | [_, _], _ => rfl⟩⟩
  have D_l_names : Def l.prog w K mg base (CXE l.prog w) 1 "_law_names" ["_law_cell_here", "_law_many"] (sp20_names) := ⟨⟨f27, _, ok_l_names F27 T , PySem.W.mg_of X G a27, k27, F27.binds (ps := ["_law_cell_here", "_law_many"]) fun _ _ _ _ _ _ us hl => match us, hl with | [_, _], _ => rfl⟩⟩
  have D_l_rows : Def l.prog w K mg base (CXE l.prog w) 2 "_law_rows" ["_law_script"] (sp57_rows K) := ⟨⟨f28, _, ok_l_rows F28 T D_l_cell D_l_names D_l_stream, PySem.W.mg_of X G a28, k28, F28.binds (ps := ["_law_script"]) fun _ _ _ _ _ _ us hl => match us, hl with | [_], _ => rfl⟩⟩
  have D_l_places : Def l.prog w K mg base (CXE l.prog w) 1 "_law_places" ["_law_rows_here", "_law_cell_here"] (sp20_places K) := ⟨⟨f29, _, ok_l_places F29 T , PySem.W.mg_of X G a29, k29, F29.binds (ps := ["_law_rows_here", "_law_cell_here"]) fun _ _ _ _ _ _ us hl => match us, hl with | [_, _], _ => rfl⟩⟩
  have D_l_asks : Def l.prog w K mg base (CXE l.prog w) 2 "_law_asks" ["_law_script", "_law_rows_here"] (sp20_asks K) := ⟨⟨f30, _, ok_l_asks F30 T D_l_cell D_l_stream, PySem.W.mg_of X G a30, k30, F30.binds (ps := ["_law_script", "_law_rows_here"]) fun _ _ _ _ _ _ us hl => match us, hl with | [_, _], _ => rfl⟩⟩
  have D_l_rooms : Def l.prog w K mg base (CXE l.prog w) 1 "_law_rooms" ["_law_rows_here"] (sp20_rooms K) := ⟨⟨f31, _, ok_l_rooms F31 T , PySem.W.mg_of X G a31, k31, F31.binds (ps := ["_law_rows_here"]) fun _ _ _ _ _ _ us hl => match us, hl with | [_], _ => rfl⟩⟩
  have D_l_priced : Def l.prog w K mg base (CXE l.prog w) 1 "_law_priced" ["_law_rows_here", "_law_cell_here"] (sp57_priced K) := ⟨⟨f32, _, ok_l_priced F32 T , PySem.W.mg_of X G a32, k32, F32.binds (ps := ["_law_rows_here", "_law_cell_here"]) fun _ _ _ _ _ _ us hl => match us, hl with | [_, _], _ => rfl⟩⟩
  have D_l_whole : Def l.prog w K mg base (CXE l.prog w) 1 "_law_whole" ["_law_found"] (sp57_whole) := ⟨⟨f33, _, ok_l_whole F33 T , PySem.W.mg_of X G a33, k33, F33.binds (ps := ["_law_found"]) fun _ _ _ _ _ _ us hl => match us, hl with | [_], _ => rfl⟩⟩
  have D_l_shared : Def l.prog w K mg base (CXE l.prog w) 1 "_law_shared" ["_law_one", "_law_other"] (sp57_shared) := ⟨⟨f34, _, ok_l_shared F34 T , PySem.W.mg_of X G a34, k34, F34.binds (ps := ["_law_one", "_law_other"]) fun _ _ _ _ _ _ us hl => match us, hl with | [_, _], _ => rfl⟩⟩
  have D_l_ratio : Def l.prog w K mg base (CXE l.prog w) 2 "_law_ratio" ["_law_found"] (sp57_lratio) := ⟨⟨f35, _, ok_l_ratio F35 T D_l_whole D_l_shared, PySem.W.mg_of X G a35, k35, F35.binds (ps := ["_law_found"]) fun _ _ _ _ _ _ us hl => match us, hl with | [_], _ => rfl⟩⟩
  have D_l_under : Def l.prog w K mg base (CXE l.prog w) 1 "_law_under" ["_law_one", "_law_other"] (sp57_lunder) := ⟨⟨f36, _, ok_l_under F36 T , PySem.W.mg_of X G a36, k36, F36.binds (ps := ["_law_one", "_law_other"]) fun _ _ _ _ _ _ us hl => match us, hl with | [_, _], _ => rfl⟩⟩
  have D_l_sum : Def l.prog w K mg base (CXE l.prog w) 1 "_law_sum" ["_law_found", "_law_one", "_law_other"] (sp57_lsum K) := ⟨⟨f37, _, ok_l_sum F37 T , PySem.W.mg_of X G a37, k37, F37.binds (ps := ["_law_found", "_law_one", "_law_other"]) fun _ _ _ _ _ _ us hl => match us, hl with | [_, _, _], _ => rfl⟩⟩
  have D_l_least : Def l.prog w K mg base (CXE l.prog w) 2 "_law_least" ["_law_dues_here", "_law_pick"] (sp57_lleast) := ⟨⟨f38, _, ok_l_least F38 T D_l_under, PySem.W.mg_of X G a38, k38, F38.binds (ps := ["_law_dues_here", "_law_pick"]) fun _ _ _ _ _ _ us hl => match us, hl with | [_, _], _ => rfl⟩⟩
  have D_l_not_there : Def l.prog w K mg base (CXE l.prog w) 2 "_law_not_there" ["_law_rule", "_law_name"] (sp57_not xDues) := ⟨⟨f39, _, ok_l_not_there F39 T D_Dues_due_of, PySem.W.mg_of X G a39, k39, F39.binds (ps := ["_law_rule", "_law_name"]) fun _ _ _ _ _ _ us hl => match us, hl with | [_, _], _ => rfl⟩⟩
  have D_l_served : Def l.prog w K mg base (CXE l.prog w) 7 "_law_served" ["_law_rule", "_law_name", "_law_dues_here", "_law_rooms_here", "_law_places_here"] (sp57_served K xDues xStock) := ⟨⟨f40, _, ok_l_served F40 T D_Dues_level D_Dues_choice D_l_least D_Dues_gone D_l_sum D_Dues_prices D_l_not_there D_Dues_came, PySem.W.mg_of X G a40, k40, F40.binds (ps := ["_law_rule", "_law_name", "_law_dues_here", "_law_rooms_here", "_law_places_here"]) fun _ _ _ _ _ _ us hl => match us, hl with | [_, _, _, _, _], _ => rfl⟩⟩
  have D_l_prices : Def l.prog w K mg base (CXE l.prog w) 3 "_law_prices" ["_law_found", "_law_kept", "_law_before", "_law_level"] (sp57_lprices K) := ⟨⟨f41, _, ok_l_prices F41 T D_l_ratio D_l_sum, PySem.W.mg_of X G a41, k41, F41.binds (ps := ["_law_found", "_law_kept", "_law_before", "_law_level"]) fun _ _ _ _ _ _ us hl => match us, hl with | [_, _, _, _], _ => rfl⟩⟩
  have D_l_dues : Def l.prog w K mg base (CXE l.prog w) 3 "_law_dues" ["_law_rule", "_law_name", "_law_dues_here", "_law_thing", "_law_level"] (sp57_ldues K xDues) := ⟨⟨f42, _, ok_l_dues F42 T D_Dues_due_of D_l_ratio D_l_sum D_l_under, PySem.W.mg_of X G a42, k42, F42.binds (ps := ["_law_rule", "_law_name", "_law_dues_here", "_law_thing", "_law_level"]) fun _ _ _ _ _ _ us hl => match us, hl with | [_, _, _, _, _], _ => rfl⟩⟩
  exact ok_law F43 T D_l_cell D_l_rows D_l_priced D_l_rooms D_l_places D_Stock_init D_Dues_init D_Dues_level D_Dues_prices D_l_asks D_Dues_asked D_l_served D_l_prices D_l_dues
end K57
theorem PySem.W.Fast.tw8632561946561679988 : True := trivial
theorem PySem.W.Fast.tw13984709807666544392 : True := trivial
theorem PySem.W.Fast.tw18426500153998241586 : True := trivial
theorem PySem.W.Fast.tw17846593342223612266 : True := trivial
theorem PySem.W.Fast.tw1986863493066611559 : True := trivial
theorem PySem.W.Fast.tw6950518723752517555 : True := trivial
theorem PySem.W.Fast.tw2186253755541382182 : True := trivial
theorem PySem.W.Fast.tw12105198608423010893 : True := trivial
theorem PySem.W.Fast.tw10432471553741171488 : True := trivial
theorem PySem.W.Fast.tw1579246292720839726 : True := trivial
theorem PySem.W.Fast.tw9831473912829007546 : True := trivial
theorem PySem.W.Fast.tw11383804031254902100 : True := trivial
theorem PySem.W.Fast.tw6711019610807395446 : True := trivial
theorem PySem.W.Fast.tw11383068564052014218 : True := trivial
theorem PySem.W.Fast.tw12539874371837251789 : True := trivial
theorem PySem.W.Fast.tw18042780393110179630 : True := trivial
theorem PySem.W.Fast.tw15777976356698114170 : True := trivial
theorem PySem.W.Fast.tw15968934970423171693 : True := trivial
theorem PySem.W.Fast.tw12112399632591350644 : True := trivial
theorem PySem.W.Fast.tw11631594089837445282 : True := trivial
theorem PySem.W.Fast.tw14594910975999146900 : True := trivial
theorem PySem.W.Fast.tw7474975537674811029 : True := trivial
theorem PySem.W.Fast.tw18326971522965291263 : True := trivial
theorem PySem.W.Fast.tw17437443413468099220 : True := trivial
theorem PySem.W.Fast.tw9332361957500733657 : True := trivial
theorem PySem.W.Fast.tw17555656015246708462 : True := trivial
theorem PySem.W.Fast.tw3847982143123898821 : True := trivial
theorem PySem.W.Fast.tw7161591039530825405 : True := trivial
theorem PySem.W.Fast.tw7120877696841473697 : True := trivial
theorem PySem.W.Fast.tw2558932412139512772 : True := trivial
theorem PySem.W.Fast.tw12734446182091807056 : True := trivial
theorem PySem.W.Fast.tw1573309677839570193 : True := trivial
theorem PySem.W.Fast.tw7278484950676761949 : True := trivial
theorem PySem.W.Fast.tw4061287643665168947 : True := trivial
theorem PySem.W.Fast.tw3855517571779793168 : True := trivial
open PySem PySem.W PyProof.Rows
set_option maxRecDepth 100000 in
set_option maxHeartbeats 0 in
theorem PySem.Challenge.cw_castoff_k57_levels_and_prices_holds : PySem.Challenge.rw_castoff_k57_levels_and_prices.Holds := by
  w_on; o_law; k_head; (case hw => w_witness2)
  k_fill
  refine L2.walk_ofKE (l := PySem.Challenge.rw_castoff_k57_levels_and_prices) (n := 63) (k := 9) (x := "_law_script") (sp := N1.sp_law) rfl (by decide) rfl ⟨rfl, by decide, by decide⟩ (fun w h Y => PySem.W.kIn_of Y) ?F ?S
  case F =>
    intro w mg fa h KX G hmg
    refine' K57.all_mk KX G hmg ?a0 ?l0 ?c0 ?k0 ?a1 ?l1 ?c1 ?k1 ?a2 ?l2 ?c2 ?k2 ?a3 ?l3 ?c3 ?k3 ?a4 ?l4 ?c4 ?k4 ?a5 ?l5 ?c5 ?k5 ?a6 ?l6 ?c6 ?n6 ?k6 ?m6 ?kf6 ?a7 ?l7 ?c7 ?n7 ?k7 ?a8 ?l8 ?c8 ?n8 ?k8 ?a9 ?l9 ?c9 ?n9 ?k9 ?a10 ?l10 ?c10 ?k10 ?a11 ?l11 ?c11 ?k11 ?a12 ?l12 ?c12 ?k12 ?a13 ?l13 ?c13 ?k13 ?a14 ?l14 ?c14 ?k14 ?a15 ?l15 ?c15 ?n15 ?k15 ?m15 ?kf15 ?fc15 ?sc15 ?rc15 ?a16 ?l16 ?c16 ?n16 ?k16 ?m16 ?kf16 ?a17 ?l17 ?c17 ?n17 ?k17 ?a18 ?l18 ?c18 ?n18 ?k18 ?a19 ?l19 ?c19 ?n19 ?k19 ?a20 ?l20 ?c20 ?n20 ?k20 ?a21 ?l21 ?c21 ?n21 ?k21 ?a22 ?l22 ?c22 ?n22 ?k22 ?a23 ?l23 ?c23 ?n23 ?k23 ?a24 ?l24 ?c24 ?n24 ?k24 ?a25 ?l25 ?c25 ?k25 ?a26 ?l26 ?c26 ?k26 ?a27 ?l27 ?c27 ?k27 ?a28 ?l28 ?c28 ?k28 ?a29 ?l29 ?c29 ?k29 ?a30 ?l30 ?c30 ?k30 ?a31 ?l31 ?c31 ?k31 ?a32 ?l32 ?c32 ?k32 ?a33 ?l33 ?c33 ?k33 ?a34 ?l34 ?c34 ?k34 ?a35 ?l35 ?c35 ?k35 ?a36 ?l36 ?c36 ?k36 ?a37 ?l37 ?c37 ?k37 ?a38 ?l38 ?c38 ?k38 ?a39 ?l39 ?c39 ?k39 ?a40 ?l40 ?c40 ?k40 ?a41 ?l41 ?c41 ?k41 ?a42 ?l42 ?c42 ?k42 ?a43 ?l43 ?c43 ?k43 ?z_len ?z_isinstance ?z_int ?z_bool ?z_str ?z_list ?z_tuple ?z_all ?z_range ?z_sum ?z_enumerate ?z_zip ?z_max ?z_min ?z_abs ?g_LETTERS ?g_FIGURES ?g_MOST_SIGNS ?g_MOST_THINGS ?g_MOST_ROOM ?g_MOST_PLACES ?a_Stock ?pg_Stock ?hd_Stock ?po_Stock ?sa_Stock ?n_Stock_things ?a_Rule ?pg_Rule ?hd_Rule ?po_Rule ?sa_Rule ?a_Dues ?pg_Dues ?hd_Dues ?po_Dues ?sa_Dues ?n_Dues_stock ?n_Dues_places ?n_Dues_reached ?n_Dues_dues ?n_Dues_rises ?a_NotThere ?a_CastError ?lA ?lNA ?sNA ?iNA ?lC_NotThere ?lN_NotThere ?sN_NotThere ?iN_NotThere ?lC_CastError ?lN_CastError ?sN_CastError ?iN_CastError ?b_NotThere ?cl_NotThere ?ty_NotThere ?s_NotThere_NotThere
    (case a_Stock => k_is)
    (case a_Rule => k_is)
    (case a_Dues => k_is)
    (case a_NotThere => k_is)
    (case a_CastError => k_is)
    (case a0 => k_is)
    (case l0 => k_is)
    (case c0 => k_is)
    (case k0 => k_is)
    (case a1 => k_is)
    (case l1 => k_is)
    (case c1 => k_is)
    (case k1 => k_is)
    (case a2 => k_is)
    (case l2 => k_is)
    (case c2 => k_is)
    (case k2 => k_is)
    (case a3 => k_is)
    (case l3 => k_is)
    (case c3 => k_is)
    (case k3 => k_is)
    (case a4 => k_is)
    (case l4 => k_is)
    (case c4 => k_is)
    (case k4 => k_is)
    (case a5 => k_is)
    (case l5 => k_is)
    (case c5 => k_is)
    (case k5 => k_is)
    (case a6 => k_is)
    (case l6 => k_is)
    (case c6 => k_is)
    (case n6 => k_is)
    (case k6 => k_is)
    (case m6 => k_is)
    (case kf6 => k_is)
    (case a7 => k_is)
    (case l7 => k_is)
    (case c7 => k_is)
    (case n7 => k_is)
    (case k7 => k_is)
    (case a8 => k_is)
    (case l8 => k_is)
    (case c8 => k_is)
    (case n8 => k_is)
    (case k8 => k_is)
    (case a9 => k_is)
    (case l9 => k_is)
    (case c9 => k_is)
    (case n9 => k_is)
    (case k9 => k_is)
    (case a10 => k_is)
    (case l10 => k_is)
    (case c10 => k_is)
    (case k10 => k_is)
    (case a11 => k_is)
    (case l11 => k_is)
    (case c11 => k_is)
    (case k11 => k_is)
    (case a12 => k_is)
    (case l12 => k_is)
    (case c12 => k_is)
    (case k12 => k_is)
    (case a13 => k_is)
    (case l13 => k_is)
    (case c13 => k_is)
    (case k13 => k_is)
    (case a14 => k_is)
    (case l14 => k_is)
    (case c14 => k_is)
    (case k14 => k_is)
    (case a15 => k_is)
    (case l15 => k_is)
    (case c15 => k_is)
    (case n15 => k_is)
    (case k15 => k_is)
    (case m15 => k_is)
    (case kf15 => k_is)
    (case fc15 => k_is)
    (case sc15 => k_is)
    (case rc15 => k_is)
    (case a16 => k_is)
    (case l16 => k_is)
    (case c16 => k_is)
    (case n16 => k_is)
    (case k16 => k_is)
    (case m16 => k_is)
    (case kf16 => k_is)
    (case a17 => k_is)
    (case l17 => k_is)
    (case c17 => k_is)
    (case n17 => k_is)
    (case k17 => k_is)
    (case a18 => k_is)
    (case l18 => k_is)
    (case c18 => k_is)
    (case n18 => k_is)
    (case k18 => k_is)
    (case a19 => k_is)
    (case l19 => k_is)
    (case c19 => k_is)
    (case n19 => k_is)
    (case k19 => k_is)
    (case a20 => k_is)
    (case l20 => k_is)
    (case c20 => k_is)
    (case n20 => k_is)
    (case k20 => k_is)
    (case a21 => k_is)
    (case l21 => k_is)
    (case c21 => k_is)
    (case n21 => k_is)
    (case k21 => k_is)
    (case a22 => k_is)
    (case l22 => k_is)
    (case c22 => k_is)
    (case n22 => k_is)
    (case k22 => k_is)
    (case a23 => k_is)
    (case l23 => k_is)
    (case c23 => k_is)
    (case n23 => k_is)
    (case k23 => k_is)
    (case a24 => k_is)
    (case l24 => k_is)
    (case c24 => k_is)
    (case n24 => k_is)
    (case k24 => k_is)
    (case a25 => k_is)
    (case l25 => k_is)
    (case c25 => k_is)
    (case k25 => k_is)
    (case a26 => k_is)
    (case l26 => k_is)
    (case c26 => k_is)
    (case k26 => k_is)
    (case a27 => k_is)
    (case l27 => k_is)
    (case c27 => k_is)
    (case k27 => k_is)
    (case a28 => k_is)
    (case l28 => k_is)
    (case c28 => k_is)
    (case k28 => k_is)
    (case a29 => k_is)
    (case l29 => k_is)
    (case c29 => k_is)
    (case k29 => k_is)
    (case a30 => k_is)
    (case l30 => k_is)
    (case c30 => k_is)
    (case k30 => k_is)
    (case a31 => k_is)
    (case l31 => k_is)
    (case c31 => k_is)
    (case k31 => k_is)
    (case a32 => k_is)
    (case l32 => k_is)
    (case c32 => k_is)
    (case k32 => k_is)
    (case a33 => k_is)
    (case l33 => k_is)
    (case c33 => k_is)
    (case k33 => k_is)
    (case a34 => k_is)
    (case l34 => k_is)
    (case c34 => k_is)
    (case k34 => k_is)
    (case a35 => k_is)
    (case l35 => k_is)
    (case c35 => k_is)
    (case k35 => k_is)
    (case a36 => k_is)
    (case l36 => k_is)
    (case c36 => k_is)
    (case k36 => k_is)
    (case a37 => k_is)
    (case l37 => k_is)
    (case c37 => k_is)
    (case k37 => k_is)
    (case a38 => k_is)
    (case l38 => k_is)
    (case c38 => k_is)
    (case k38 => k_is)
    (case a39 => k_is)
    (case l39 => k_is)
    (case c39 => k_is)
    (case k39 => k_is)
    (case a40 => k_is)
    (case l40 => k_is)
    (case c40 => k_is)
    (case k40 => k_is)
    (case a41 => k_is)
    (case l41 => k_is)
    (case c41 => k_is)
    (case k41 => k_is)
    (case a42 => k_is)
    (case l42 => k_is)
    (case c42 => k_is)
    (case k42 => k_is)
    (case a43 => k_is)
    (case l43 => k_is)
    (case c43 => k_is)
    (case k43 => k_is)
    (case z_len => k_is)
    (case z_isinstance => k_is)
    (case z_int => k_is)
    (case z_bool => k_is)
    (case z_str => k_is)
    (case z_list => k_is)
    (case z_tuple => k_is)
    (case z_all => k_is)
    (case z_range => k_is)
    (case z_sum => k_is)
    (case z_enumerate => k_is)
    (case z_zip => k_is)
    (case z_max => k_is)
    (case z_min => k_is)
    (case z_abs => k_is)
    (case g_LETTERS => k_is)
    (case g_FIGURES => k_is)
    (case g_MOST_SIGNS => k_is)
    (case g_MOST_THINGS => k_is)
    (case g_MOST_ROOM => k_is)
    (case g_MOST_PLACES => k_is)
    (case pg_Stock => k_is)
    (case hd_Stock => k_is)
    (case po_Stock => k_is)
    (case sa_Stock => k_is)
    (case n_Stock_things => k_is)
    (case pg_Rule => k_is)
    (case hd_Rule => k_is)
    (case po_Rule => k_is)
    (case sa_Rule => k_is)
    (case pg_Dues => k_is)
    (case hd_Dues => k_is)
    (case po_Dues => k_is)
    (case sa_Dues => k_is)
    (case n_Dues_stock => k_is)
    (case n_Dues_places => k_is)
    (case n_Dues_reached => k_is)
    (case n_Dues_dues => k_is)
    (case n_Dues_rises => k_is)
    (case lA => k_is)
    (case lNA => k_is)
    (case sNA => rfl)
    (case iNA => rfl)
    (case lC_NotThere => k_is)
    (case lN_NotThere => k_is)
    (case sN_NotThere => rfl)
    (case iN_NotThere => rfl)
    (case lC_CastError => k_is)
    (case lN_CastError => k_is)
    (case sN_CastError => rfl)
    (case iN_CastError => rfl)
    (case b_NotThere => k_is)
    (case cl_NotThere => k_is)
    (case ty_NotThere => k_is)
    (case s_NotThere_NotThere => k_is)
  case S => exact fun K H a ns hl hO hS => ⟨a, ns, rfl, hS, hl, fun _ => rfl⟩

