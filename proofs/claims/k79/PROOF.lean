import PyProof.Rows.All
import Wide.All
import OpenK.AllK
import Wide.FinOn
import Lean
import PyProof.EqAt
import PyProof.EqKinds
import PyProof.TupleCall
import KE.KTryMore
import PyProof.StationsW
import PyProof.ExcBaseAll.ValueError
import PyProof.ExcClass2
import PyProof.RulesAs
import PyProof.NsDelKeeps
import KE.KIntText
import PyProof.StrWalks
import PyProof.StrBlockH
import PyProof.Rows.StrNews
import PyProof.Rows.StrJoin2
import PyProof.ConsumeWalk
import PyProof.FString
import PyProof.NeData
import KE.IntTextLaws
import PyProof.ExcInit
import PyProof.InstStoreFacts
import OpenK.KMake
import OpenK.KCls
import PyProof.ExcArgs
import PyProof.Rows.Catch
import KE.KDictList
import KE.KDictSum
import KE.KUnpack
import PyProof.MeetsSeq
import PyProof.Rows.StrInSeq3
import PyProof.EnumMake
import PyProof.EnumStmt
import PyProof.EnumFor
import PyProof.LayNew
import PyProof.Rows.EnumRows
import PyProof.ZipIter
import KE.KTurns
import PyProof.Rows.FactsT2
import KE.KTurnsDict
import KE.KPairComp
import PyProof.StrLawsChain
import PyProof.StrLawsFirst
import KE.IntTextText
import PyProof.Rows.CatFin
import PyProof.Rows.StrClose5
import PyProof.Rows.StrFirst2
import PyProof.Ascii
import PyProof.SumAny
import PyProof.WalksS
import PyProof.ConsumeS
import PyProof.WalkInts
import KE.KEqDict
import KE.KIsAll
import PySem.Challenge.RW_castoff_k79_whole_late_and_prompt
-- CHANGE: your row's module here, as the last of these rows
set_option Elab.async false
set_option linter.all false
set_option maxRecDepth 100000
namespace L2
open PySem PySem.Spec PyProof.Rows

noncomputable abbrev Key := Sum Int Str
noncomputable def keyIs : Key → Value → Bool
  | .inl k, v => Value.isInt k v
  | .inr x, v => Value.isStrOf x v
noncomputable def keyH (w : World) : Key → Int
  | .inl k => hashInt k
  | .inr x => hashStr w x
theorem keyIs_shape : ∀ {k : Key} {v : Value}, keyIs k v = true → (∃ i t, k = Sum.inl i ∧ v = Value.int i t) ∨ (∃ x t, k = Sum.inr x ∧ v = Value.str x t)
  | .inl i, v, h => by
    obtain ⟨t, e⟩ := Value.isInt_shape (k := i) (v := v) h
    exact .inl ⟨i, t, rfl, e⟩
  | .inr x, v, h => by
    obtain ⟨t, e⟩ := Value.isStrOf_shape (x := x) (v := v) h
    exact .inr ⟨x, t, rfl, e⟩
theorem keyIs_int (i : Int) (t : Tok) : keyIs (.inl i) (.int i t) = true := by simp [keyIs, Value.isInt]
theorem keyIs_str (x : Str) (t : Tok) : keyIs (.inr x) (.str x t) = true := by simp [keyIs, Value.isStrOf]
theorem key_ll (a b : Int) : decide ((Sum.inl a : Key) = Sum.inl b) = (a == b) := by
  by_cases e : a = b
  · subst e; simp
  · have h : ¬ (Sum.inl a : Key) = Sum.inl b := fun q => e (Sum.inl.inj q)
    rw [decide_eq_false h]
    exact (beq_eq_false_iff_ne.mpr e).symm
theorem key_rr (a b : Str) : decide ((Sum.inr a : Key) = Sum.inr b) = decide (a = b) := by
  by_cases e : a = b
  · subst e; simp
  · have h : ¬ (Sum.inr a : Key) = Sum.inr b := fun q => e (Sum.inr.inj q)
    rw [decide_eq_false h, decide_eq_false e]
theorem key_lr (a : Int) (b : Str) : decide ((Sum.inl a : Key) = Sum.inr b) = false := decide_eq_false (fun q => nomatch q)
theorem key_rl (a : Str) (b : Int) : decide ((Sum.inr a : Key) = Sum.inl b) = false := decide_eq_false (fun q => nomatch q)

noncomputable def mixKind (prog : Program) (w : World) : PySem.KeyKind prog w Key where
  is := keyIs
  hash := keyH w
  inj := fun v a b ha hb => by
    rcases keyIs_shape ha with ⟨i, t, rfl, rfl⟩ | ⟨x, t, rfl, rfl⟩
    · rcases keyIs_shape hb with ⟨j, u, rfl, e⟩ | ⟨y, u, rfl, e⟩
      · injection e with e1 _; rw [e1]
      · exact nomatch e
    · rcases keyIs_shape hb with ⟨j, u, rfl, e⟩ | ⟨y, u, rfl, e⟩
      · exact nomatch e
      · injection e with e1 _; rw [e1]
  byValue := fun k v h => by
    rcases keyIs_shape h with ⟨i, t, rfl, rfl⟩ | ⟨x, t, rfl, rfl⟩ <;> rfl
  pyHash := fun hv h => by
    rcases keyIs_shape hv with ⟨i, t, rfl, rfl⟩ | ⟨x, t, rfl, rfl⟩
    · exact wpAny_pyHash_int h
    · exact wpAny_pyHash_str h
  eqBool := fun hu hv h => by
    rcases keyIs_shape hu with ⟨i, t, rfl, rfl⟩ | ⟨x, t, rfl, rfl⟩
    · rcases keyIs_shape hv with ⟨j, u, rfl, rfl⟩ | ⟨y, u, rfl, rfl⟩
      · rw [key_ll] at h; exact wpAny_eqBool_int h
      · rw [key_lr] at h; exact SeqAt.EqAt.int_str i t y u _ _ _ _ h
    · rcases keyIs_shape hv with ⟨j, u, rfl, rfl⟩ | ⟨y, u, rfl, rfl⟩
      · rw [key_rl] at h; exact SeqAt.EqAt.str_int x t j u _ _ _ _ h
      · rw [key_rr] at h; exact wpAny_eqBool_str h
  «strs» := fun k x t v h => by
    rcases keyIs_shape h with ⟨i, u, rfl, e⟩ | ⟨y, u, rfl, e⟩
    · exact nomatch e
    · injection e with e1 _
      subst e1
      cases v <;> rfl

theorem mixKind_int (prog : Program) (w : World) (i : Int) (t : Tok) : (mixKind prog w).is (.inl i) (.int i t) = true := keyIs_int i t
theorem mixKind_str (prog : Program) (w : World) (x : Str) (t : Tok) : (mixKind prog w).is (.inr x) (.str x t) = true := keyIs_str x t
end L2

namespace L2
open PySem PySem.Spec PyProof.Rows

inductive V where
  | non | bl (b : Bool) | int (i : Int) | str (x : Str) | byt (b : Array UInt8) | flt (b : UInt64) | ref (a : Addr) | ty (n : String)
  deriving DecidableEq

noncomputable def RelV : V → Value → Prop
  | .non, u => u = Value.none
  | .bl b, u => u = Value.bool b
  | .int i, u => ∃ t, u = Value.int i t
  | .str x, u => ∃ t, u = Value.str x t
  | .byt b, u => ∃ t, u = Value.bytes b t
  | .flt b, u => ∃ t, u = Value.float b t
  | .ref a, u => u = Value.ref a
  | .ty n, u => u = Value.type n

noncomputable abbrev Vals : List V → List Value → Prop := Paired RelV
theorem Vals.length {xs : List V} {us : List Value} (r : Vals xs us) : xs.length = us.length := Paired.length r
theorem Vals.get : ∀ {xs : List V} {us : List Value} {i : Nat} {x : V}, Vals xs us → xs[i]? = some x → ∃ u, us[i]? = some u ∧ RelV x u
  | _, _, _, _, .nil, e => by simp at e
  | _, _, 0, _, .cons r _, e => by simp at e; subst e; exact ⟨_, rfl, r⟩
  | _, _, i + 1, x, .cons _ t, e => by
    obtain ⟨u, h1, h2⟩ := Vals.get (i := i) (x := x) t (by simpa using e)
    exact ⟨u, by simpa using h1, h2⟩
theorem Vals.set {x : V} {u : Value} (r : RelV x u) : ∀ {xs : List V} {us : List Value} (i : Nat), Vals xs us → Vals (xs.set i x) (us.set i u)
  | _, _, _, .nil => .nil
  | _, _, 0, .cons _ t => .cons r t
  | _, _, i + 1, .cons q t => .cons q (Vals.set r i t)
theorem Vals.append : ∀ {xs ys : List V} {us ws : List Value}, Vals xs us → Vals ys ws → Vals (xs ++ ys) (us ++ ws)
  | _, _, _, _, .nil, s => s
  | _, _, _, _, .cons r t, s => .cons r (Vals.append t s)
theorem Vals.take : ∀ {xs : List V} {us : List Value} (n : Nat), Vals xs us → Vals (xs.take n) (us.take n)
  | _, _, 0, _ => .nil
  | _, _, _ + 1, .nil => .nil
  | _, _, n + 1, .cons r t => .cons r (Vals.take n t)
theorem Vals.drop : ∀ {xs : List V} {us : List Value} (n : Nat), Vals xs us → Vals (xs.drop n) (us.drop n)
  | _, _, 0, r => r
  | _, _, _ + 1, .nil => .nil
  | _, _, n + 1, .cons _ t => Vals.drop n t
noncomputable def RelO : Option V → Option Value → Prop
  | some v, some u => RelV v u
  | none, none => True
  | _, _ => False
noncomputable def KV {κ : Type} : List (κ × V) → List (κ × Value) → Prop := Paired fun (p : κ × V) (q : κ × Value) => p.1 = q.1 ∧ RelV p.2 q.2

noncomputable def kV : Key → V
  | .inl i => .int i
  | .inr x => .str x

inductive HO where
  /-- a list -/
  | lst (xs : List V)
  /-- a tuple (never changes) -/
  | tup (xs : List V)
  /-- a dict whose keys are ints and texts; one whose keys are tuples of ints and texts (the empty one is both) -/
  | dK (kvs : List (Key × V)) | dT (kvs : List (List Key × V))
  /-- a set of ints: its members, its size -/
  | set (S : Int → Bool) (n : Nat)
  /-- an instance of the class at C, its dict at dx, its attributes -/
  | ins (C dx : Addr) (fs : List (Str × V))
  /-- the dict of the instance at x -/
  | own (x : Addr)
  /-- the dict of an exception -/
  | xd (fs : List (Str × V))
  /-- a bound method, f of x -/
  | met (f x : Addr)
  /-- a range object lo, lo + 1, .. below hi -/
  | rng (lo hi : Int)
  /-- a thing that is known to the object (the script; a dict while a loop walks it): read, never written while it is so -/
  | frz (o : Obj) (u : HO)
  /-- a code object's table -/
  | tbl (ps : Array Value)
  /-- any other thing, by what is true of its one object (a def of one's own: SetO a S n := HO.ext fun h => ..) -/
  | ext (φ : Heap → Prop)

noncomputable abbrev Hp := Addr → Option HO
noncomputable def upd (H : Hp) (a : Addr) (o : HO) : Hp := fun b => if b = a then some o else H b
theorem upd_same {H : Hp} {a : Addr} {o : HO} : upd H a o a = some o := by unfold upd; rw [if_pos rfl]
theorem upd_ne {H : Hp} {a b : Addr} {o : HO} (h : b ≠ a) : upd H a o b = H b := by unfold upd; rw [if_neg h]
theorem upd_upd {H : Hp} {a : Addr} {o u : HO} : upd (upd H a o) a u = upd H a u := by
  funext b; unfold upd; split <;> rfl
theorem ne_of {H : Hp} {a b : Addr} {o u : HO} (h : H a = some o) (h' : H b = some u) (d : o ≠ u) : a ≠ b := by
  intro e; subst e; rw [h] at h'; exact d (Option.some.inj h')
theorem ne_of_none {H : Hp} {a b : Addr} {o : HO} (h : H a = some o) (h' : H b = none) : a ≠ b := by
  intro e; subst e; rw [h] at h'; cases h'

section
variable (P : Program) (w : World)
noncomputable def ObjOk (H : Hp) (h : Heap) (a : Addr) : HO → Prop
  | .lst xs => xs.length ≤ sizeLine ∧ ∃ (its : List Value) (n : Nat), Vals xs its ∧ h.get? a = some { cls := .type "list", data := .seq its.toArray n }
  | .tup xs => xs.length ≤ sizeLine ∧ ∃ its : List Value, Vals xs its ∧ IsTup h a its.toArray
  | .dK kvs => kvs.length ≤ sizeLine ∧ (a == sysModules) = false ∧ ∃ vs, KV kvs vs ∧ h.DictOf (mixKind P w) a vs
  | .dT kvs => kvs.length ≤ sizeLine ∧ (a == sysModules) = false ∧ ∃ xs : List (List Key × Addr × Value),
      Paired (fun (p : List Key × V) (q : List Key × Addr × Value) => p.1 = q.1 ∧ H q.2.1 = some (.tup (p.1.map kV)) ∧ RelV p.2 q.2.2) kvs xs ∧
      ∃ o es ep, h.get? a = some o ∧ o.ExactDict ∧ o.data = .dict es ep ∧ es.toList = xs.map (entryOfKey (tupleKind (mixKind P w))) ∧ (xs.map (·.1)).Nodup
  | .set S n => h.SetOf (intKind P w) a S n
  | .ins C dx fs => H dx = some (.own a) ∧ fs.length ≤ 1000 ∧ dx ≠ a ∧ h.get? a = some (PySem.W.instObj C dx) ∧
      ∃ mA, h.Ns1 dx mA ∧ (∀ f, RelO (fs.lookup f) (mA f)) ∧ PySem.Within mA (fs.map (·.1))
  | .own _ => ∃ o, h.get? a = some o
  | .xd fs => ∃ mA, h.Ns1 a mA ∧ ∀ f, RelO (fs.lookup f) (mA f)
  | .rng lo hi => ∃ t u v, h.get? a = some { cls := .type "range", data := .fields #[.int lo t, .int hi u, .int 1 v] }
  | .frz o u => h.get? a = some o ∧ ObjOk H h a u
  | .tbl ps => h.get? a = some { cls := .none, data := .fields ps }
  | .met f x => h.get? a = some (PySem.W.methodObj (.ref f) (.ref x))
  | .ext φ => φ h ∧ (∃ o, h.get? a = some o) ∧ ∀ h1 h2 : Heap, φ h1 → (∀ o, h1.get? a = some o → h2.get? a = some o) → φ h2
noncomputable def HOk (H : Hp) (h : Heap) : Prop := ∀ a o, H a = some o → ObjOk P w H h a o
end

section
variable {P : Program} {w : World} {H H' : Hp} {h h' : Heap} {a : Addr} {o : HO}
theorem ObjOk.lt (x : ObjOk P w H h a o) : a < h.objs.size := by
  cases o with
  | lst xs => obtain ⟨_, _, _, _, e⟩ := x; exact Heap.lt_size e
  | tup xs => obtain ⟨_, _, _, p⟩ := x; exact p.lt
  | dK kvs => obtain ⟨_, _, _, _, o, _, _, e, _⟩ := x; exact Heap.lt_size e
  | dT kvs => obtain ⟨_, _, _, _, o, _, _, e, _⟩ := x; exact Heap.lt_size e
  | set S n => obtain ⟨o, _, _, _, e, _⟩ := x; exact Heap.lt_size e
  | ins C dx fs => obtain ⟨_, _, _, e, _⟩ := x; exact Heap.lt_size e
  | own y => obtain ⟨_, e⟩ := x; exact Heap.lt_size e
  | xd fs => obtain ⟨_, ⟨_, _, _, e, _⟩, _⟩ := x; exact Heap.lt_size e
  | rng lo hi => obtain ⟨_, _, _, e⟩ := x; exact Heap.lt_size e
  | frz ob u => obtain ⟨e, _⟩ := x; exact Heap.lt_size e
  | tbl ps => exact Heap.lt_size (show h.get? a = some _ from x)
  | met f y => exact Heap.lt_size (show h.get? a = some _ from x)
  | ext φ => obtain ⟨_, ⟨_, e⟩, _⟩ := x; exact Heap.lt_size e
theorem Paired.mapP {α β : Type} {F G : α → β → Prop} : ∀ {l₁ : List α} {l₂ : List β}, Paired F l₁ l₂ → (∀ a b, F a b → G a b) → Paired G l₁ l₂
  | _, _, .nil, _ => .nil
  | _, _, .cons r t, f => .cons (f _ _ r) (Paired.mapP t f)
theorem ObjOk.stay (x : ObjOk P w H h a o) (k : ∀ b u, (b = a ∨ H b = some (.own a)) → h.get? b = some u → h'.get? b = some u)
    (ho : ∀ b, H b = some (.own a) → H' b = some (.own a)) (ht : ∀ b xs, H b = some (.tup xs) → H' b = some (.tup xs)) : ObjOk P w H' h' a o := by
  induction o with
  | lst xs => obtain ⟨z, its, n, r, e⟩ := x; exact ⟨z, its, n, r, k _ _ (.inl rfl) e⟩
  | tup xs => obtain ⟨z, its, r, ob, e, c⟩ := x; exact ⟨z, its, r, ob, k _ _ (.inl rfl) e, c⟩
  | dK kvs => obtain ⟨z, y, vs, r, ob, es, ep, e, c⟩ := x; exact ⟨z, y, vs, r, ob, es, ep, k _ _ (.inl rfl) e, c⟩
  | dT kvs =>
    obtain ⟨z, y, xs, r, ob, es, ep, e, c⟩ := x
    exact ⟨z, y, xs, Paired.mapP r fun p q z => ⟨z.1, ht _ _ z.2.1, z.2.2⟩, ob, es, ep, k _ _ (.inl rfl) e, c⟩
  | set S n => obtain ⟨ob, es, ep, t, e, c⟩ := x; exact ⟨ob, es, ep, t, k _ _ (.inl rfl) e, c⟩
  | ins C dx fs =>
    obtain ⟨d, z, ne, e, mA, ⟨od, es, ep, e2, c⟩, r⟩ := x
    exact ⟨ho _ d, z, ne, k _ _ (.inl rfl) e, mA, ⟨od, es, ep, k _ _ (.inr d) e2, c⟩, r⟩
  | own y => obtain ⟨ob, e⟩ := x; exact ⟨ob, k _ _ (.inl rfl) e⟩
  | xd fs => obtain ⟨mA, ⟨od, es, ep, e, c⟩, r⟩ := x; exact ⟨mA, ⟨od, es, ep, k _ _ (.inl rfl) e, c⟩, r⟩
  | rng lo hi => obtain ⟨t, u, v, e⟩ := x; exact ⟨t, u, v, k _ _ (.inl rfl) e⟩
  | frz ob u ih => obtain ⟨e, q⟩ := x; exact ⟨k _ _ (.inl rfl) e, ih q⟩
  | tbl ps =>
    have e : h.get? a = some { cls := .none, data := .fields ps } := x
    show h'.get? a = some { cls := .none, data := .fields ps }
    exact k a _ (.inl rfl) e
  | met f y =>
    have e : h.get? a = some (PySem.W.methodObj (.ref f) (.ref y)) := x
    show h'.get? a = some (PySem.W.methodObj (.ref f) (.ref y))
    exact k a _ (.inl rfl) e
  | ext φ => obtain ⟨p, ⟨o, e⟩, st⟩ := x; exact ⟨st _ _ p fun o q => k _ _ (.inl rfl) q, ⟨o, k _ _ (.inl rfl) e⟩, st⟩
theorem HOk.lt (x : HOk P w H h) (e : H a = some o) : a < h.objs.size := (x a o e).lt
theorem HOk.fresh (x : HOk P w H h) (e : h.objs.size ≤ a) : H a = none := by
  cases q : H a with
  | none => rfl
  | some u => exact absurd (Nat.lt_of_lt_of_le (x.lt q) e) (Nat.lt_irrefl _)
theorem HOk.kept (x : HOk P w H h) (k : ∀ b u, h.get? b = some u → h'.get? b = some u) : HOk P w H h' := fun a o e =>
  (x a o e).stay (fun b u _ q => k b u q) (fun _ q => q) fun _ _ q => q
theorem HOk.laid (x : HOk P w H h) (k : ∀ b u, h.get? b = some u → h'.get? b = some u) (hp : h.objs.size ≤ a) (new : ObjOk P w (upd H a o) h' a o) : HOk P w (upd H a o) h' := fun b u e => by
  have hn := x.fresh hp
  by_cases hb : b = a
  · subst hb; rw [upd_same] at e; cases e; exact new
  · rw [upd_ne hb] at e
    exact (x b u e).stay (fun c v _ q => k c v q) (fun c q => by rw [upd_ne (ne_of_none q hn)]; exact q) fun c xs q => by rw [upd_ne (ne_of_none q hn)]; exact q
end

noncomputable def Rd (H : Hp) (a : Addr) (u : HO) : Prop := H a = some u ∨ ∃ o, H a = some (.frz o u)
theorem Rd.ok {P : Program} {w : World} {H : Hp} {h : Heap} {a : Addr} {u : HO} (r : Rd H a u) (x : HOk P w H h) : ObjOk P w H h a u := by
  rcases r with r | ⟨o, r⟩
  · exact x a u r
  · obtain ⟨_, q⟩ := x a _ r
    exact q
noncomputable def Mut : Option HO → Prop
  | some (.lst _) => True
  | some (.dK _) => True
  | some (.dT _) => True
  | some (.set _ _) => True
  | some (.ins _ _ _) => True
  | some (.ext _) => True
  | _ => False
section
variable {P : Program} {w : World} {H : Hp} {h h' : Heap} {x e : Addr} {o' : HO}
theorem HOk.write (ok : HOk P w H h) (mu : Mut (H x)) (he : e = x ∨ H e = some (.own x)) (k : ∀ b u, b ≠ e → h.get? b = some u → h'.get? b = some u) (heo : ∃ u, h'.get? e = some u)
    (new : ObjOk P w (upd H x o') h' x o') : HOk P w (upd H x o') h' := fun b u q => by
  have nown : ∀ c y, H c = some (.own y) → c ≠ x := fun c y r z => by subst z; rw [r] at mu; exact mu
  have ntup : ∀ c xs, H c = some (.tup xs) → c ≠ x := fun c xs r z => by subst z; rw [r] at mu; exact mu
  by_cases hb : b = x
  · subst hb; rw [upd_same] at q; cases q; exact new
  · rw [upd_ne hb] at q
    by_cases hbe : b = e
    · have q' : H b = some (.own x) := by
        rcases he with z | z
        · exact absurd (hbe.trans z) hb
        · rw [hbe]; exact z
      rw [q] at q'; cases q'
      obtain ⟨v, hv⟩ := heo
      exact ⟨v, by rw [hbe]; exact hv⟩
    · refine (ok b u q).stay (fun c v hc r => k c v ?_ r) (fun c r => by rw [upd_ne (nown c b r)]; exact r) fun c xs r => by rw [upd_ne (ntup c xs r)]; exact r
      rcases hc with rfl | hc
      · exact hbe
      · rintro rfl
        rcases he with z | z
        · exact nown c b hc z
        · rw [hc] at z; cases z; exact hb rfl
end

structure Un (fs ex : List Addr) (H H' : Hp) (h h' : Heap) : Prop where
  keep : ∀ b o, h.get? b = some o → H b = none → b ∉ fs → b ∉ ex → h'.get? b = some o
  slot : ∀ b o, h.get? b = some o → H b = none → b ∈ fs → b ∉ ex → ∃ sl, h'.get? b = some { o with slots := sl }
  free : ∀ b o, h.get? b = some o → H b = none → b ∉ ex → H' b = none
  there : ∀ b o, h.get? b = some o → b ∉ ex → ∃ o', h'.get? b = some o'
  tups : ∀ b xs, H b = some (.tup xs) → H' b = some (.tup xs)
  frzs : ∀ b o u, H b = some (.frz o u) → H' b = some (.frz o u)
  tbls : ∀ b ps, H b = some (.tbl ps) → ∃ more, H' b = some (.tbl (ps ++ more))
section
variable {fs fs' ex ex' : List Addr} {H H1 H2 : Hp} {h h1 h2 h' : Heap} {a x e : Addr} {o : HO}
theorem Un.any (u : Un fs ex H H1 h h1) {b : Addr} {ob : Obj} (q : h.get? b = some ob) (n : H b = none) (hx : b ∉ ex) : ∃ sl, h1.get? b = some { ob with slots := sl } := by
  by_cases hb : b ∈ fs
  · exact u.slot b ob q n hb hx
  · exact ⟨ob.slots, u.keep b ob q n hb hx⟩
theorem Un.kept (k : ∀ b u, h.get? b = some u → h'.get? b = some u) : Un fs ex H H h h' :=
  ⟨fun b ob q _ _ _ => k b ob q, fun b ob q _ _ _ => ⟨ob.slots, k b ob q⟩, fun _ _ _ n _ => n, fun b ob q _ => ⟨ob, k b ob q⟩, fun _ _ q => q, fun _ _ _ q => q, fun _ ps q => ⟨#[], by rw [q]; simp⟩⟩
theorem Un.refl : Un fs ex H H h h := Un.kept fun _ _ q => q
theorem Un.laid (k : ∀ b u, h.get? b = some u → h'.get? b = some u) (hp : h.objs.size ≤ a) (hn : H a = none) : Un fs ex H (upd H a o) h h' where
  keep := fun b u q _ _ _ => k b u q
  slot := fun b u q _ _ _ => ⟨u.slots, k b u q⟩
  free := fun b u q n _ => by rw [upd_ne (Nat.ne_of_lt (Nat.lt_of_lt_of_le (Heap.lt_size q) hp))]; exact n
  there := fun b u q _ => ⟨u, k b u q⟩
  tups := fun b xs q => by rw [upd_ne (ne_of_none q hn)]; exact q
  frzs := fun b u xs q => by rw [upd_ne (ne_of_none q hn)]; exact q
  tbls := fun b ps q => ⟨#[], by rw [upd_ne (ne_of_none q hn), q]; simp⟩
theorem Un.write (mu : Mut (H x)) (he : e = x ∨ H e = some (.own x)) (k : ∀ b u, b ≠ e → h.get? b = some u → h'.get? b = some u) (heo : ∃ u, h'.get? e = some u) : Un fs ex H (upd H x o) h h' := by
  have hx : ∀ b, H b = none → b ≠ x := fun b n z => by subst z; rw [n] at mu; exact mu
  have hb : ∀ b, H b = none → b ≠ e := fun b n z => by
    subst z
    rcases he with r | r
    · exact hx b n r
    · rw [n] at r; cases r
  have hm : ∀ b u, H b = some u → ¬ Mut (some u) → b ≠ x := fun b u q nm z => by subst z; rw [q] at mu; exact nm mu
  refine ⟨fun b u q n _ _ => k b u (hb b n) q, fun b u q n _ _ => ⟨u.slots, k b u (hb b n) q⟩, fun b u q n _ => by rw [upd_ne (hx b n)]; exact n, fun b u q _ => ?_,
    fun b xs q => by rw [upd_ne (hm b _ q fun z => z)]; exact q, fun b u xs q => by rw [upd_ne (hm b _ q fun z => z)]; exact q, fun b ps q => ⟨#[], by rw [upd_ne (hm b _ q fun z => z), q]; simp⟩⟩
  by_cases hbe : b = e
  · subst hbe; exact heo
  · exact ⟨u, k b u hbe q⟩
end

noncomputable def trk (h : Heap) (H : Hp) : List Addr := (List.range h.objs.size).filter fun a => (H a).isSome
noncomputable def hidT (h : Heap) (H : Hp) : Heap := PySem.W.hideAll h (trk h H)
theorem hidT_size (h : Heap) (H : Hp) : (hidT h H).objs.size = h.objs.size := PySem.W.hideAll_size _ _
theorem hidT_get {h : Heap} {H : Hp} {b : Addr} {o : Obj} (e : h.get? b = some o) (n : H b = none) : (hidT h H).get? b = some o :=
  PySem.W.hideAll_get _ e fun hm => by
    have q : (H b).isSome = true := (List.mem_filter.mp hm).2
    rw [n] at q; simp at q
theorem of_hidT {h : Heap} {H : Hp} {b : Addr} {o : Obj} (e : (hidT h H).get? b = some o) : h.get? b = some o ∧ H b = none := by
  have e' : h.get? b = some o := PySem.W.of_hideAll (trk h H) e
  refine ⟨e', ?_⟩
  cases q : H b with
  | none => rfl
  | some x =>
    have hm : b ∈ trk h H := List.mem_filter.mpr ⟨List.mem_range.mpr (Heap.lt_size e'), by simp [q]⟩
    have z : (hidT h H).get? b = none := PySem.W.hideAll_none (trk h H) hm
    rw [z] at e; cases e

noncomputable def allNews (g h : Heap) (L : Addr) : List (Addr × Obj) := (List.range h.objs.size).filterMap fun a => if a = L ∨ (g.get? a).isSome = true then none else (h.get? a).map fun o => (a, o)
noncomputable def rest (g h : Heap) (L d : Addr) : List (Addr × Obj) := (allNews g h L).filter fun p => decide (p.1 ≠ d)
end L2

namespace L2
open PySem PySem.Spec PyProof.Rows

structure Mod (K : PySem.W.Frag) (mg : Str → Option Value) (base : Heap) : Prop where
  kin : K.In base
  glob : base.Ns mainGlobals mg
  blt : ∃ mb, base.Ns builtinsNs mb ∧ ∀ x : Str, x ≠ "__name__" → mb x = bootBuiltins x
  nolimit : base.NoLimit

structure Cx where
  prog : Program
  w : World
  K : PySem.W.Frag
  mg : Str → Option Value
  base : Heap
  A : Around
  N : List Str
  s₀ : Shared
  H₀ : Hp
  env : Env
  outer : List Env
  stack : List Env
  ex : List Addr
  fn : Str → Bool
  calm : Bool
  pn : List (Addr × Obj)
  xe : Value → Shared → Prop
noncomputable def frs (l : List Env) : List Addr := l.filterMap (·.frame)
noncomputable abbrev Cx.fs (X : Cx) : List Addr := frs X.outer

noncomputable def Vis (sc : Scope) (x : Str) : Prop := sc.names.lookup x = some .local ∨ sc.names.lookup x = some .cell ∨ sc.names.lookup x = some .free
noncomputable def Loc (sc : Scope) (x : Str) : Prop := sc.names.lookup x = some .local ∨ sc.names.lookup x = some .cell
noncomputable def Look (env : Env) (h : Heap) (m : Str → Option Value) (x : Str) (u : Value) : Prop :=
  (env.kindOf x = some .local ∧ m x = some u) ∨ ((env.kindOf x = some .cell ∨ env.kindOf x = some .free) ∧ ∃ c, env.cells.lookup x = some c ∧ h.IsCell c (some u))

structure Cx.Ok (X : Cx) : Prop where
  mod : Mod X.K X.mg X.base
  kind : X.env.scope.kind = .function
  glob : X.env.globals = mainGlobals
  blt : X.env.builtins = builtinsNs
  above : X.s₀.heap.objs.size ≤ X.env.locals
  inj : ∀ x y c, X.env.cells.lookup x = some c → X.env.cells.lookup y = some c → x = y
  has : ∀ x, (X.env.kindOf x = some .cell ∨ X.env.kindOf x = some .free) → ∃ c, X.env.cells.lookup x = some c
  cab : ∀ x c, X.fn x = true → X.env.cells.lookup x = some c → X.s₀.heap.objs.size ≤ c
  hd : X.calm = true → X.A.handled = none
  frames : X.A.frames = some X.stack
  stk : X.stack = X.outer ∨ (X.stack = X.env :: X.outer ∧ X.env.frame = some X.env.locals)
  exf : ∀ b ∈ X.ex, b ≠ X.env.locals ∧ ∀ x c, X.env.cells.lookup x = some c → c ≠ b
  bs : ∀ b o, X.base.get? b = some o → X.s₀.heap.get? b = some o ∧ X.H₀ b = none
  bsz : X.base.objs.size ≤ X.s₀.heap.objs.size
  noex : ∀ b o, X.base.get? b = some o → b ∉ X.ex
  exfs : ∀ b ∈ X.ex, b ∉ X.fs
  funs : X.s₀.heap.FunFrames X.base X.outer
  frf : ∀ b ∈ X.fs, X.H₀ b = none

structure Inv (X : Cx) (pins : List (Addr × Obj)) (σ : List (Option V)) (H : Hp) (s : Shared) : Prop where
  ok : X.Ok
  os : s.os = X.s₀.os
  bare : AllBare s.gens
  base : Un X.fs X.ex X.H₀ H X.s₀.heap s.heap
  loc : ∃ m, s.heap.Ns X.env.locals m ∧ ∀ (i : Nat) (x : Str) (v : V), X.N[i]? = some x → σ[i]? = some (some v) → Vis X.env.scope x → ∃ u, RelV v u ∧ Look X.env s.heap m x u
  cell : ∀ x c, X.env.cells.lookup x = some c → ∃ v, s.heap.IsCell c v
  free : H X.env.locals = none
  freeC : ∀ x c, X.env.cells.lookup x = some c → H c = none
  pin : ∀ p ∈ X.pn ++ pins, s.heap.get? p.1 = some p.2 ∧ H p.1 = none ∧ p.1 ≠ X.env.locals ∧ p.1 ∉ X.fs ∧ ∀ v, p.2.data ≠ .cell v
  hok : HOk X.prog X.w H s.heap
  len : σ.length = X.N.length

section
variable {X : Cx} {pins : List (Addr × Obj)} {σ : List (Option V)} {H H' : Hp} {s : Shared} {h' : Heap}

theorem Cx.Ok.nofr (ok : X.Ok) {b : Addr} {o : Obj} (e : X.base.get? b = some o) : b ∉ X.fs := fun hb => by
  have := (ok.funs.mem hb).1
  rw [e] at this; cases this
theorem Inv.bs (I : Inv X pins σ H s) : ∀ b o, X.base.get? b = some o → s.heap.get? b = some o ∧ H b = none := fun b o e =>
  ⟨I.base.keep b o (I.ok.bs b o e).1 (I.ok.bs b o e).2 (I.ok.nofr e) (I.ok.noex b o e), I.base.free b o (I.ok.bs b o e).1 (I.ok.bs b o e).2 (I.ok.noex b o e)⟩
theorem Inv.bk (I : Inv X pins σ H s) : ∀ b o, X.base.get? b = some o → s.heap.get? b = some o := fun b o e => (I.bs b o e).1
theorem Inv.mod (I : Inv X pins σ H s) : Mod X.K X.mg X.base := I.ok.mod
theorem Inv.kIn (I : Inv X pins σ H s) : X.K.In s.heap := I.ok.mod.kin.keeps I.bk
theorem Inv.lt (I : Inv X pins σ H s) : X.env.locals < s.heap.objs.size := let ⟨_, hn, _⟩ := I.loc; hn.lt
theorem Inv.sz (I : Inv X pins σ H s) : X.s₀.heap.objs.size ≤ s.heap.objs.size := Nat.le_trans I.ok.above (Nat.le_of_lt I.lt)
theorem Inv.nofs (I : Inv X pins σ H s) {a : Addr} (h : s.heap.objs.size ≤ a) : a ∉ X.fs := fun hb => by
  obtain ⟨_, o, ho, _⟩ := I.ok.funs.mem hb
  exact absurd (Nat.lt_of_lt_of_le (Heap.lt_size ho) (Nat.le_trans I.sz h)) (Nat.lt_irrefl _)
theorem Inv.cne (I : Inv X pins σ H s) : ∀ x c, X.env.cells.lookup x = some c → c ≠ X.env.locals := fun x c e z => by
  obtain ⟨v, o, ho, hd⟩ := I.cell x c e
  obtain ⟨m, ⟨o', es, ep, ho', hd', _⟩, _⟩ := I.loc
  rw [z, ho'] at ho; cases ho; rw [hd'] at hd; cases hd
theorem Inv.funs (I : Inv X pins σ H s) : s.heap.FunFrames X.base X.outer := by
  have all : ∀ (l : List Env), (∀ b ∈ frs l, b ∈ X.fs) → X.s₀.heap.FunFrames X.base l → s.heap.FunFrames X.base l := by
    intro l
    induction l with
    | nil => intro _ _; trivial
    | cons env r ih =>
      intro hs hl
      obtain ⟨hk, ⟨L, o, hf, hn, ho, hd⟩, hr⟩ := hl
      have hL : L ∈ X.fs := hs L (by unfold frs; rw [List.filterMap_cons, hf]; exact List.mem_cons_self)
      obtain ⟨sl, e⟩ := I.base.slot L o ho (I.ok.frf L hL) hL fun z => I.ok.exfs L z hL
      exact ⟨hk, ⟨L, _, hf, hn, e, hd⟩, ih (fun b hb => hs b (by unfold frs; rw [List.filterMap_cons, hf]; exact List.mem_cons_of_mem _ hb)) hr⟩
  exact all X.outer (fun _ hb => hb) I.ok.funs

theorem Inv.stack (I : Inv X pins σ H s) : s.heap.FunFrames X.base X.stack := by
  rcases I.ok.stk with e | ⟨e, hf⟩
  · rw [e]; exact I.funs
  · rw [e]
    obtain ⟨m, hn, _⟩ := I.loc
    refine .cons (by rw [I.ok.kind]; decide) hf hn ?_ I.funs
    exact Heap.get?_none_of_le (Nat.le_trans I.ok.bsz I.ok.above)
theorem Inv.stkSub (I : Inv X pins σ H s) : ∀ b ∈ frs X.stack, b ∈ X.env.locals :: X.fs := fun b hb => by
  rcases I.ok.stk with e | ⟨e, hf⟩
  · rw [e] at hb; exact List.mem_cons_of_mem _ hb
  · rw [e] at hb
    unfold frs at hb
    rw [List.filterMap_cons, hf] at hb
    exact hb
theorem Inv.stkFree (I : Inv X pins σ H s) : ∀ b ∈ frs X.stack, H b = none := fun b hb => by
  rcases List.mem_cons.mp (I.stkSub b hb) with e | hb
  · rw [e]; exact I.free
  · obtain ⟨_, o, ho, _⟩ := I.ok.funs.mem hb
    exact I.base.free b o ho (I.ok.frf b hb) fun z => I.ok.exfs b z hb

theorem Inv.step {g' : Array GenState} {t' : Nat} {d' : Drawn} {ch : List Addr} (I : Inv X pins σ H s)
    (hch : ∀ b ∈ ch, (b ∈ X.ex ∨ X.s₀.heap.objs.size ≤ b) ∧ b ≠ X.env.locals ∧ (∀ x c, X.env.cells.lookup x = some c → c ≠ b) ∧ ∀ p ∈ X.pn ++ pins, p.1 ≠ b)
    (keep : ∀ b o, b ≠ X.env.locals → b ∉ X.fs → b ∉ ch → s.heap.get? b = some o → H b = none → h'.get? b = some o)
    (slot : ∀ b o, b ≠ X.env.locals → b ∈ X.fs → b ∉ ch → s.heap.get? b = some o → H b = none → ∃ sl, h'.get? b = some { o with slots := sl }) (free : ∀ b o, b ∉ ch → s.heap.get? b = some o → H b = none → H' b = none)
    (there : ∀ b o, b ∉ ch → s.heap.get? b = some o → ∃ o', h'.get? b = some o')
    (tups : ∀ b xs, H b = some (.tup xs) → H' b = some (.tup xs)) (frzs : ∀ b o u, H b = some (.frz o u) → H' b = some (.frz o u)) (tbls : ∀ b ps, H b = some (.tbl ps) → ∃ more, H' b = some (.tbl (ps ++ more)))
    (ns : ∀ m, s.heap.Ns X.env.locals m → h'.Ns X.env.locals m) (hok : HOk X.prog X.w H' h') (hg : AllBare g') :
    Inv X pins σ H' { s with heap := h', gens := g', drawn := d', toks := t' } := by
  have neL : ∀ b o, X.s₀.heap.get? b = some o → b ≠ X.env.locals := fun b o e => Nat.ne_of_lt (Nat.lt_of_lt_of_le (Heap.lt_size e) I.ok.above)
  have neC : ∀ b o, X.s₀.heap.get? b = some o → b ∉ X.ex → b ∉ ch := fun b o e hx hb => by
    rcases (hch b hb).1 with z | z
    · exact hx z
    · exact absurd (Nat.lt_of_lt_of_le (Heap.lt_size e) z) (Nat.lt_irrefl _)
  have cellK : ∀ x c, X.env.cells.lookup x = some c → ∀ v, s.heap.IsCell c v → h'.IsCell c v := fun x c e v ⟨o, ho, hd⟩ => by
    have nch : c ∉ ch := fun z => (hch c z).2.2.1 x c e rfl
    by_cases hc : c ∈ X.fs
    · obtain ⟨sl, q⟩ := slot c o (I.cne x c e) hc nch ho (I.freeC x c e)
      exact ⟨_, q, hd⟩
    · exact ⟨o, keep c o (I.cne x c e) hc nch ho (I.freeC x c e), hd⟩
  refine ⟨I.ok, I.os, hg, ⟨fun b o e n hb hx => ?_, fun b o e n hb hx => ?_, fun b o e n hx => ?_, fun b o e hx => ?_, fun b xs e => tups b xs (I.base.tups b xs e), fun b o xs e => frzs b o xs (I.base.frzs b o xs e), fun b ps e => ?_⟩, ?_, fun x c e => ?_, ?_, fun x c e => ?_, fun p hp => ?_, hok, I.len⟩
  · exact keep b o (neL b o e) hb (neC b o e hx) (I.base.keep b o e n hb hx) (I.base.free b o e n hx)
  · obtain ⟨sl, e1⟩ := I.base.slot b o e n hb hx
    obtain ⟨sl', e2⟩ := slot b _ (neL b o e) hb (neC b o e hx) e1 (I.base.free b o e n hx)
    exact ⟨sl', e2⟩
  · obtain ⟨o', e1⟩ := I.base.there b o e hx
    exact free b o' (neC b o e hx) e1 (I.base.free b o e n hx)
  · obtain ⟨o', e1⟩ := I.base.there b o e hx
    exact there b o' (neC b o e hx) e1
  · obtain ⟨m1, e1⟩ := I.base.tbls b ps e
    obtain ⟨m2, e2⟩ := tbls b _ e1
    exact ⟨m1 ++ m2, by rw [e2, Array.append_assoc]⟩
  · obtain ⟨m, hn, hl⟩ := I.loc
    refine ⟨m, ns m hn, fun i x v e1 e2 e3 => ?_⟩
    obtain ⟨u, r, l⟩ := hl i x v e1 e2 e3
    refine ⟨u, r, ?_⟩
    rcases l with l | ⟨k, c, e, z⟩
    · exact .inl l
    · exact .inr ⟨k, c, e, cellK x c e _ z⟩
  · obtain ⟨v, z⟩ := I.cell x c e
    exact ⟨v, cellK x c e v z⟩
  · obtain ⟨m, ⟨o, _, _, ho, _⟩, _⟩ := I.loc
    exact free _ o (fun z => (hch _ z).2.1 rfl) ho I.free
  · obtain ⟨v, o, ho, hd⟩ := I.cell x c e
    exact free c o (fun z => (hch c z).2.2.1 x c e rfl) ho (I.freeC x c e)
  · obtain ⟨e, n, ne, nf, d⟩ := I.pin p hp
    have nch : p.1 ∉ ch := fun z => (hch p.1 z).2.2.2 p hp rfl
    exact ⟨keep p.1 p.2 ne nf nch e n, free p.1 p.2 nch e n, ne, nf, d⟩
theorem Inv.un {t' : Nat} (I : Inv X pins σ H s) (u : Un X.fs [] H H' s.heap h') (hok : HOk X.prog X.w H' h') : Inv X pins σ H' { s with heap := h', toks := t' } := by
  obtain ⟨m, ⟨o, es, ep, ho, r⟩, _⟩ := id I.loc
  obtain ⟨sl, hL⟩ := u.any ho I.free (by simp)
  exact I.step (g' := s.gens) (d' := s.drawn) (ch := []) (fun _ z => nomatch z) (fun b o _ hb _ e n => u.keep b o e n hb (by simp)) (fun b o _ hb _ e n => u.slot b o e n hb (by simp)) (fun b o _ e n => u.free b o e n (by simp)) (fun b o _ e => u.there b o e (by simp)) u.tups u.frzs u.tbls (fun m' hm => by
    obtain ⟨o', es', ep', ho', r'⟩ := hm
    rw [ho] at ho'; cases ho'
    exact ⟨_, es', ep', hL, r'⟩) hok I.bare
theorem Inv.call {g' : Array GenState} {t' : Nat} {d' : Drawn} {ch : List Addr} (I : Inv X pins σ H s) (u : Un (frs X.stack) ch H H' s.heap h') (hok : HOk X.prog X.w H' h') (hg : AllBare g')
    (hch : ∀ b ∈ ch, (b ∈ X.ex ∨ X.s₀.heap.objs.size ≤ b) ∧ b ≠ X.env.locals ∧ (∀ x c, X.env.cells.lookup x = some c → c ≠ b) ∧ ∀ p ∈ X.pn ++ pins, p.1 ≠ b) :
    Inv X pins σ H' { s with heap := h', gens := g', drawn := d', toks := t' } := by
  obtain ⟨m, ⟨o, es, ep, ho, r⟩, _⟩ := id I.loc
  obtain ⟨sl, hL⟩ := u.any ho I.free fun z => (hch _ z).2.1 rfl
  exact I.step (ch := ch) hch (fun b o hL hb hc e n => u.keep b o e n (fun z => (List.mem_cons.mp (I.stkSub b z)).elim hL hb) hc) (fun b o _ _ hc e n => u.any e n hc) (fun b o hc e n => u.free b o e n hc) (fun b o hc e => u.there b o e hc) u.tups u.frzs u.tbls (fun m' hm => by
    obtain ⟨o', es', ep', ho', r'⟩ := hm
    rw [ho] at ho'; cases ho'
    exact ⟨_, es', ep', hL, r'⟩) hok hg
theorem Inv.turned {t' : Nat} {it : Addr} (I : Inv X pins σ H s) (k : ∀ b o, b ≠ it → s.heap.get? b = some o → h'.get? b = some o) (hn : H it = none) (hL : it ≠ X.env.locals)
    (h1 : it ∈ X.ex ∨ X.s₀.heap.objs.size ≤ it) (h2 : ∀ x c, X.env.cells.lookup x = some c → c ≠ it) (h3 : ∀ p ∈ X.pn ++ pins, p.1 ≠ it) : Inv X pins σ H { s with heap := h', toks := t' } := by
  have nit : ∀ b u, H b = some u → b ≠ it := fun b u e z => by rw [z, hn] at e; cases e
  refine I.step (g' := s.gens) (d' := s.drawn) (ch := [it]) (fun b hb => ?_) (fun b o _ _ hc e _ => k b o (fun z => hc (by simp [z])) e) (fun b o _ _ hc e _ => ⟨o.slots, k b o (fun z => hc (by simp [z])) e⟩) (fun _ _ _ _ n => n)
    (fun b o hc e => ⟨o, k b o (fun z => hc (by simp [z])) e⟩) (fun _ _ e => e) (fun _ _ _ e => e) (fun b ps e => ⟨#[], by rw [e]; simp⟩) (fun m hm => ?_) (fun b u e => ?_) I.bare
  · have e : b = it := by simpa using hb
    subst e
    exact ⟨h1, hL, h2, h3⟩
  · obtain ⟨o, es, ep, ho, r⟩ := hm
    exact ⟨o, es, ep, k _ o (Ne.symm hL) ho, r⟩
  · refine (I.hok b u e).stay (fun c v hc q => k c v ?_ q) (fun _ q => q) fun _ _ q => q
    rcases hc with z | z
    · rw [z]; exact nit b u e
    · exact nit c _ z
theorem Inv.tok (I : Inv X pins σ H s) (t : Nat) : Inv X pins σ H { s with toks := t } := I.un (h' := s.heap) (t' := t) Un.refl I.hok
theorem Inv.kept {t' : Nat} (I : Inv X pins σ H s) (k : ∀ b u, s.heap.get? b = some u → h'.get? b = some u) : Inv X pins σ H { s with heap := h', toks := t' } := I.un (Un.kept k) (I.hok.kept k)
theorem Inv.laid {a : Addr} {o : HO} {t' : Nat} (I : Inv X pins σ H s) (k : ∀ b u, s.heap.get? b = some u → h'.get? b = some u) (hp : s.heap.objs.size ≤ a) (new : ObjOk X.prog X.w (upd H a o) h' a o) :
    Inv X pins σ (upd H a o) { s with heap := h', toks := t' } := I.un (Un.laid k hp (I.hok.fresh hp)) (I.hok.laid k hp new)
theorem Inv.write {x e : Addr} {o : HO} {t' : Nat} (I : Inv X pins σ H s) (mu : Mut (H x)) (he : e = x ∨ H e = some (.own x)) (k : ∀ b u, b ≠ e → s.heap.get? b = some u → h'.get? b = some u) (heo : ∃ u, h'.get? e = some u)
    (new : ObjOk X.prog X.w (upd H x o) h' x o) : Inv X pins σ (upd H x o) { s with heap := h', toks := t' } := I.un (Un.write mu he k heo) (I.hok.write mu he k heo new)
theorem Inv.weak {σ' : List (Option V)} (I : Inv X pins σ H s) (hl : σ'.length = σ.length) (w : ∀ (i : Nat) v, σ'[i]? = some (some v) → σ[i]? = some (some v)) : Inv X pins σ' H s :=
  ⟨I.ok, I.os, I.bare, I.base, let ⟨m, hn, hl'⟩ := I.loc; ⟨m, hn, fun i x v e1 e2 e3 => hl' i x v e1 (w i v e2) e3⟩, I.cell, I.free, I.freeC, I.pin, I.hok, hl.trans I.len⟩
theorem Inv.pins_of {pins' : List (Addr × Obj)} (I : Inv X pins σ H s) (h : ∀ p ∈ pins', s.heap.get? p.1 = some p.2 ∧ H p.1 = none ∧ p.1 ≠ X.env.locals ∧ p.1 ∉ X.fs ∧ ∀ v, p.2.data ≠ .cell v) : Inv X pins' σ H s :=
  ⟨I.ok, I.os, I.bare, I.base, I.loc, I.cell, I.free, I.freeC, fun p hp => (List.mem_append.mp hp).elim (fun z => I.pin p (List.mem_append_left _ z)) (h p), I.hok, I.len⟩

theorem nodup_ix {N : List Str} (hN : N.Nodup) {i j : Nat} {x : Str} (a : N[i]? = some x) (b : N[j]? = some x) : i = j := by
  obtain ⟨h1, e1⟩ := List.getElem?_eq_some_iff.mp a
  obtain ⟨h2, e2⟩ := List.getElem?_eq_some_iff.mp b
  exact (List.getElem_inj hN).mp (e1.trans e2.symm)

theorem store_ok2 {M : Model} {A : Around} {E : Value → Shared → Prop} {i : Nat} {x : Str} {v : V} {u : Value} {Q : Unit → Shared → Prop} (I : Inv X pins σ H s) (hN : X.N.Nodup) (hi : X.N[i]? = some x) (hx : Loc X.env.scope x) (r : RelV v u)
    (h : ∀ s', Inv X pins (σ.set i (some v)) H s' → (∃ a, Heap.SameBut a s.heap s'.heap ∧ (a = X.env.locals ∨ X.env.cells.lookup x = some a)) → Q () s') (hf : X.fn x = true ∨ X.env.scope.names.lookup x = some .local := by first | exact .inl rfl | exact .inr rfl | assumption) : wpAny M A (storeName X.env x u) Q E s := by
  obtain ⟨m, hn, hl⟩ := id I.loc
  have hcls : (X.env.scope.kind == .class || (X.env.scope.kind == .module && X.env.locals != X.env.globals)) = false := by rw [I.ok.kind]; rfl
  have hiσ : i < σ.length := by rw [I.len]; exact (List.getElem?_eq_some_iff.mp hi).1
  have cne := I.cne
  have tracked : ∀ {a : Addr} {h' : Heap}, (∃ o, s.heap.get? a = some o ∧ H a = none) → Heap.SameBut a s.heap h' → HOk X.prog X.w H h' := fun {a h'} ha hs b ob e => by
    obtain ⟨_, _, hfree⟩ := ha
    refine (I.hok b ob e).stay (fun c w' hc q => (hs.2 c ?_).trans q) (fun _ q => q) fun _ _ q => q
    rintro rfl
    rcases hc with rfl | hc
    · rw [hfree] at e; cases e
    · rw [hfree] at hc; cases hc
  rcases hx with hk | hk
  · refine wpAny_storeName_local hk hn (fun h' hn' hs => ?_) hcls
    obtain ⟨oL, _, _, hoL, _⟩ := id hn
    refine h _ ⟨I.ok, I.os, I.bare, ⟨fun b o e n hb hx => ?_, fun b o e n hb hx => ?_, I.base.free, fun b o e hx => ?_, I.base.tups, I.base.frzs, I.base.tbls⟩, ⟨_, hn', fun j y v' e1 e2 e3 => ?_⟩, fun y c e => ?_, I.free, I.freeC, fun p hp => ?_, tracked ⟨oL, hoL, I.free⟩ hs, by simpa using I.len⟩ ⟨_, hs, .inl rfl⟩
    · exact (hs.2 b (Nat.ne_of_lt (Nat.lt_of_lt_of_le (Heap.lt_size e) I.ok.above))).trans (I.base.keep b o e n hb hx)
    · obtain ⟨sl, e1⟩ := I.base.slot b o e n hb hx
      exact ⟨sl, (hs.2 b (Nat.ne_of_lt (Nat.lt_of_lt_of_le (Heap.lt_size e) I.ok.above))).trans e1⟩
    · obtain ⟨o', e1⟩ := I.base.there b o e hx
      exact ⟨o', (hs.2 b (Nat.ne_of_lt (Nat.lt_of_lt_of_le (Heap.lt_size e) I.ok.above))).trans e1⟩
    · by_cases hj : j = i
      · subst hj
        rw [hi] at e1; cases e1
        rw [List.getElem?_set_self hiσ] at e2
        cases e2
        exact ⟨u, r, .inl ⟨hk, by simp⟩⟩
      · rw [List.getElem?_set_ne (Ne.symm hj)] at e2
        obtain ⟨u', r', q⟩ := hl j y v' e1 e2 e3
        refine ⟨u', r', ?_⟩
        rcases q with ⟨k, e⟩ | ⟨k, c, e, z⟩
        · refine .inl ⟨k, ?_⟩
          have : y ≠ x := fun e => hj (nodup_ix hN e1 (e ▸ hi))
          simp [this, e]
        · exact .inr ⟨k, c, e, z.sameBut hs (cne y c e)⟩
    · obtain ⟨w', z⟩ := I.cell y c e
      exact ⟨w', z.sameBut hs (cne y c e)⟩
    · obtain ⟨e, n, ne, nf, d⟩ := I.pin p hp
      exact ⟨(hs.2 p.1 ne).trans e, n, ne, nf, d⟩
  · have hfn : X.fn x = true := by
      rcases hf with z | z
      · exact z
      · rw [z] at hk; cases hk
    obtain ⟨c, hc⟩ := I.ok.has x (.inl hk)
    obtain ⟨w', z⟩ := I.cell x c hc
    refine wpAny_storeName_cell I.ok.kind hk hc z (fun h' hc' hs => ?_)
    obtain ⟨oc, hoc, hocd⟩ := id z
    refine h { s with heap := h' } ⟨I.ok, I.os, I.bare, ⟨fun b o e n hb hx => ?_, fun b o e n hb hx => ?_, I.base.free, fun b o e hx => ?_, I.base.tups, I.base.frzs, I.base.tbls⟩, ⟨m, hn.sameBut hs (Ne.symm (cne x c hc)), fun j y v' e1 e2 e3 => ?_⟩, fun y c' e => ?_, I.free, I.freeC, fun p hp => ?_, tracked ⟨oc, hoc, I.freeC x c hc⟩ hs, by simpa using I.len⟩ ⟨c, hs, .inr hc⟩
    · exact (hs.2 b (Nat.ne_of_lt (Nat.lt_of_lt_of_le (Heap.lt_size e) (I.ok.cab x c hfn hc)))).trans (I.base.keep b o e n hb hx)
    · obtain ⟨sl, e1⟩ := I.base.slot b o e n hb hx
      exact ⟨sl, (hs.2 b (Nat.ne_of_lt (Nat.lt_of_lt_of_le (Heap.lt_size e) (I.ok.cab x c hfn hc)))).trans e1⟩
    · obtain ⟨o', e1⟩ := I.base.there b o e hx
      exact ⟨o', (hs.2 b (Nat.ne_of_lt (Nat.lt_of_lt_of_le (Heap.lt_size e) (I.ok.cab x c hfn hc)))).trans e1⟩
    · by_cases hj : j = i
      · subst hj
        rw [hi] at e1; cases e1
        rw [List.getElem?_set_self hiσ] at e2
        cases e2
        exact ⟨u, r, .inr ⟨.inl hk, c, hc, hc'⟩⟩
      · rw [List.getElem?_set_ne (Ne.symm hj)] at e2
        obtain ⟨u', r', q⟩ := hl j y v' e1 e2 e3
        refine ⟨u', r', ?_⟩
        rcases q with q | ⟨k, c', e, z'⟩
        · exact .inl q
        · refine .inr ⟨k, c', e, z'.sameBut hs ?_⟩
          rintro rfl
          exact hj (nodup_ix hN e1 (I.ok.inj _ _ _ e hc ▸ hi))
    · by_cases hcc : c' = c
      · subst hcc; exact ⟨_, hc'⟩
      · obtain ⟨w2, z2⟩ := I.cell y c' e
        exact ⟨w2, z2.sameBut hs hcc⟩
    · obtain ⟨e, n, ne, nf, d⟩ := I.pin p hp
      refine ⟨(hs.2 p.1 ?_).trans e, n, ne, nf, d⟩
      intro q
      rw [q, hoc] at e
      have q' : oc = p.2 := Option.some.inj e
      exact d w' (by rw [← q']; exact hocd)
theorem store_ok {M : Model} {A : Around} {E : Value → Shared → Prop} {i : Nat} {x : Str} {v : V} {u : Value} {Q : Unit → Shared → Prop} (I : Inv X pins σ H s) (hN : X.N.Nodup) (hi : X.N[i]? = some x) (hx : Loc X.env.scope x) (r : RelV v u)
    (h : ∀ s', Inv X pins (σ.set i (some v)) H s' → Q () s') (hf : X.fn x = true ∨ X.env.scope.names.lookup x = some .local := by first | exact .inl rfl | exact .inr rfl | assumption) : wpAny M A (storeName X.env x u) Q E s :=
  store_ok2 I hN hi hx r (fun s' I' _ => h s' I') hf
theorem Inv.call' {s' : Shared} {ch : List Addr} (I : Inv X pins σ H s) (ho : s'.os = s.os) (u : Un (frs X.stack) ch H H' s.heap s'.heap) (hok : HOk X.prog X.w H' s'.heap) (hg : AllBare s'.gens)
    (hch : ∀ b ∈ ch, (b ∈ X.ex ∨ X.s₀.heap.objs.size ≤ b) ∧ b ≠ X.env.locals ∧ (∀ x c, X.env.cells.lookup x = some c → c ≠ b) ∧ ∀ p ∈ X.pn ++ pins, p.1 ≠ b) : Inv X pins σ H' s' := by
  obtain ⟨h', g', d', t', o'⟩ := s'
  have e : o' = s.os := ho
  subst e
  exact I.call (g' := g') (t' := t') (d' := d') u hok hg hch
end

noncomputable abbrev XK := Value → Option Addr → Hp → Prop
noncomputable abbrev St := List (Option V)
noncomputable abbrev VK := V → Hp → Prop
noncomputable abbrev TE := St → Hp → VK → Prop
noncomputable abbrev TT := St → Hp → (Bool → Hp → Prop) → Prop
noncomputable abbrev TA := St → Hp → (List V → Hp → Prop) → Prop
structure Ends where
  nx : St → Hp → Prop
  rt : VK
  bk : St → Hp → Prop := fun _ _ => False
  ct : St → Hp → Prop := fun _ _ => False
noncomputable abbrev TS := Ends → St → Hp → Prop

noncomputable def EP (X : Cx) (pins : List (Addr × Obj)) (σ : St) (Q : VK) (u : Value) (s' : Shared) : Prop := ∃ v H', Inv X pins σ H' s' ∧ RelV v u ∧ Q v H'
noncomputable def TP (X : Cx) (pins : List (Addr × Obj)) (σ : St) (Q : Bool → Hp → Prop) (b : Bool) (s' : Shared) : Prop := ∃ H', Inv X pins σ H' s' ∧ Q b H'
noncomputable def AP (X : Cx) (pins : List (Addr × Obj)) (σ : St) (Q : List V → Hp → Prop) (us : List Value) (s' : Shared) : Prop := ∃ vs H', Inv X pins σ H' s' ∧ Vals vs us ∧ Q vs H'
noncomputable def SP (X : Cx) (pins : List (Addr × Obj)) (D : Ends) (f : Flow) (s' : Shared) : Prop :=
  match f with
  | .next => ∃ σ' H', Inv X pins σ' H' s' ∧ D.nx σ' H'
  | .brk => ∃ σ' H', Inv X pins σ' H' s' ∧ D.bk σ' H'
  | .cont => ∃ σ' H', Inv X pins σ' H' s' ∧ D.ct σ' H'
  | .ret u => ∃ v σ' H', Inv X pins σ' H' s' ∧ RelV v u ∧ D.rt v H'

noncomputable def PE (X : Cx) (e : Expr) (t : TE) : Prop :=
  ∀ (pins : List (Addr × Obj)) (s : Shared) (σ : St) (H : Hp) (Q : VK), Inv X pins σ H s → t σ H Q → wpAny (model X.prog X.w) X.A (eval e X.env) (EP X pins σ Q) X.xe s
noncomputable def PT (X : Cx) (e : Expr) (t : TT) : Prop :=
  ∀ (pins : List (Addr × Obj)) (s : Shared) (σ : St) (H : Hp) (Q : Bool → Hp → Prop), Inv X pins σ H s → t σ H Q → wpAny (model X.prog X.w) X.A (isTrue e X.env (eval e X.env)) (TP X pins σ Q) X.xe s
noncomputable def PW (X : Cx) (e : Expr) (t : TT) : Prop :=
  ∀ (whole : Sem Value) (pins : List (Addr × Obj)) (s : Shared) (σ : St) (H : Hp) (Q : Bool → Hp → Prop), Inv X pins σ H s → t σ H Q → wpAny (model X.prog X.w) X.A (isTrue e X.env whole) (TP X pins σ Q) X.xe s
theorem PW.pt {X : Cx} {e : Expr} {t : TT} (h : PW X e t) : PT X e t := h _
noncomputable def PA (X : Cx) (es : List Expr) (t : TA) : Prop :=
  ∀ (pos : Pos) (pins : List (Addr × Obj)) (s : Shared) (σ : St) (H : Hp) (Q : List V → Hp → Prop), Inv X pins σ H s → t σ H Q → wpAny (model X.prog X.w) X.A (spliced (backTo pos (starEach es X.env))) (AP X pins σ Q) X.xe s
noncomputable def PS (X : Cx) (st : Stmt) (t : TS) : Prop :=
  ∀ (pins : List (Addr × Obj)) (s : Shared) (σ : St) (H : Hp) (D : Ends), Inv X pins σ H s → t D σ H → wpAny (model X.prog X.w) X.A (exec st X.env) (SP X pins D) X.xe s
noncomputable def PSs (X : Cx) (st : List Stmt) (t : TS) : Prop :=
  ∀ (pins : List (Addr × Obj)) (s : Shared) (σ : St) (H : Hp) (D : Ends), Inv X pins σ H s → t D σ H → wpAny (model X.prog X.w) X.A (execs st X.env) (SP X pins D) X.xe s
theorem thn {α : Type} {t : Sem α} {Q Q' : α → Shared → Prop} {M : Model} {A : Around} {E : Value → Shared → Prop} {s : Shared} (h : wpAny M A t Q E s) (hQ : ∀ a s, Q a s → Q' a s) : wpAny M A t Q' E s := wpAny_mono h hQ fun _ _ x => x
end L2

namespace L2
open PySem PySem.Spec PyProof.Rows
section
variable {X : Cx}

noncomputable def tVar (i : Nat) : TE := fun σ H Q => ∃ v, σ[i]? = some (some v) ∧ Q v H
noncomputable def tC (v : V) : TE := fun _ H Q => Q v H
theorem pe_var {i : Nat} {x : Str} {pos : Pos} (hN : X.N[i]? = some x) (hv : Vis X.env.scope x) (hd : (x == ("__debug__" : Str)) = false := by decide) (hcd : (x == ("__classdict__" : Str)) = false := by decide) : PE X (.Name x pos) (tVar i) := by
  intro pins s σ H Q I h
  obtain ⟨v, e, h⟩ := h
  obtain ⟨m, hn, hl⟩ := I.loc
  obtain ⟨u, r, l⟩ := hl i x v hN e hv
  have fin : EP X pins σ Q u s := ⟨v, H, I, r, h⟩
  rcases l with ⟨hk, hm⟩ | ⟨hk, c, hc, hcell⟩
  · exact wpAny_Name (wpAny_loadName_local I.ok.kind hk hn hm fin) hd
  · rcases hk with hk | hk
    · exact wpAny_Name (wpAny_loadName_cell I.ok.kind hk hc hcell fin) hd
    · exact wpAny_Name (wpAny_loadName_free I.ok.kind hk hc hcell fin hcd) hd
theorem pe_int {i j pos} : PE X (.Constant (.int i) j pos) (tC (.int i)) := fun _ _ _ H _ I h => wpAny_Constant_int ⟨.int i, H, I.tok _, ⟨_, rfl⟩, h⟩
theorem pe_bl {b j pos} : PE X (.Constant (.bool b) j pos) (tC (.bl b)) := fun _ _ _ H _ I h => Constant_bool ⟨.bl b, H, I, rfl, h⟩
theorem pe_str {x j pos} : PE X (.Constant (.str x) j pos) (tC (.str x)) := fun _ _ _ H _ I h => Calls.Constant_str ⟨.str x, H, I.tok _, ⟨_, rfl⟩, h⟩

noncomputable def Gl (X : Cx) (x : Str) : Prop := X.env.kindOf x = some .globalImplicit
theorem ld_glob {E : Value → Shared → Prop} {pins : List (Addr × Obj)} {s : Shared} {σ : St} {H : Hp} {x : Str} {u : Value} {pos : Pos} {Q : Value → Shared → Prop} (I : Inv X pins σ H s) (hg : Gl X x) (hm : X.mg x = some u) (h : Q u s)
    (hd : (x == ("__debug__" : Str)) = false := by decide) : wpAny (model X.prog X.w) X.A (eval (.Name x pos) X.env) Q E s :=
  Calls.Name_function_global I.ok.kind hg (Calls.loadGlobal_global (by rw [I.ok.glob]; exact I.mod.glob.keeps I.bk) hm h) hd
theorem ld_blt {E : Value → Shared → Prop} {pins : List (Addr × Obj)} {s : Shared} {σ : St} {H : Hp} {x : Str} {u : Value} {pos : Pos} {Q : Value → Shared → Prop} (I : Inv X pins σ H s) (hg : Gl X x) (hm : X.mg x = none) (hv : bootBuiltins x = some u) (h : Q u s)
    (hn : x ≠ "__name__" := by decide) (hd : (x == ("__debug__" : Str)) = false := by decide) : wpAny (model X.prog X.w) X.A (eval (.Name x pos) X.env) Q E s := by
  obtain ⟨mb, h1, h2⟩ := I.mod.blt
  exact Calls.Name_function_global I.ok.kind hg (Calls.loadGlobal_builtin (by rw [I.ok.glob]; exact I.mod.glob.keeps I.bk) hm (by rw [I.ok.blt]; exact h1.keeps I.bk) ((h2 x hn).trans hv) h) hd
theorem pe_glob {x : Str} {v : V} {u : Value} {pos : Pos} (hg : Gl X x) (hm : X.mg x = some u) (r : RelV v u) (hd : (x == ("__debug__" : Str)) = false := by decide) : PE X (.Name x pos) (tC v) :=
  fun _ _ _ H _ I h => ld_glob I hg hm ⟨v, H, I, r, h⟩ hd
theorem pe_bltn {x : Str} {v : V} {u : Value} {pos : Pos} (hg : Gl X x) (hm : X.mg x = none) (hv : bootBuiltins x = some u) (r : RelV v u) (hn : x ≠ "__name__" := by decide) (hd : (x == ("__debug__" : Str)) = false := by decide) : PE X (.Name x pos) (tC v) :=
  fun _ _ _ H _ I h => ld_blt I hg hm hv ⟨v, H, I, r, h⟩ hn hd

variable {a b : Expr} {ta tb : TE} {pos : Pos}
noncomputable def PC (X : Cx) (op : CmpOp) (a b : Expr) (t : TE) : Prop :=
  ∀ (pins : List (Addr × Obj)) (s : Shared) (σ : St) (H : Hp) (Q : VK), Inv X pins σ H s → t σ H Q →
    wpAny (model X.prog X.w) X.A (eval a X.env) (fun v s₁ => wpAny (model X.prog X.w) X.A (eval b X.env) (fun u s₂ => wpAny (model X.prog X.w) X.A (compareOp op v u) (EP X pins σ Q) X.xe s₂) X.xe s₁) X.xe s
theorem nobehind (b : Expr) {op : CmpOp} (h : op ≠ .In) (h2 : op ≠ .NotIn) : behindInMarks op b = false := by
  have e1 : (op == CmpOp.In) = false := by cases op <;> first | rfl | exact absurd rfl h
  have e2 : (op == CmpOp.NotIn) = false := by cases op <;> first | rfl | exact absurd rfl h2
  cases b <;> simp [behindInMarks, e1, e2]
noncomputable def tB (t : TE) : TT := fun σ H Q => t σ H fun x H1 => ∃ c, x = .bl c ∧ Q c H1
theorem pt_cmp {op : CmpOp} {t : TE} (h : PC X op a b t) (h1 : behindInMarks op b = false := by first | exact nobehind _ (by decide) (by decide) | rfl) : PT X (.Compare a [op] [b] pos) (tB t) := by
  intro pins s σ H Q I hw
  refine wpAny_isTrue_Compare1 (thn (h pins s σ H _ I hw) fun v s1 h1 => thn h1 fun u s2 h2 => thn h2 fun c s3 ⟨x, H1, I1, r1, q1⟩ => ?_) h1
  obtain ⟨d, rfl, q⟩ := q1
  cases r1
  exact wpAny_truthy_bool ⟨H1, I1, q⟩
theorem pt_val {e : Expr} {t : TE} (h : PE X e t) (he : ∀ whole, isTrue e X.env whole = (do let v ← whole; standAt e.pos; holding [v] (truthy v)) := by intro _; rfl) : PT X e (tB t) := by
  intro pins s σ H Q I hw
  refine isTrue_plain (thn (h pins s σ H _ I hw) fun v s1 ⟨x, H1, I1, r1, q1⟩ => ?_) (he _)
  obtain ⟨d, rfl, q⟩ := q1
  cases r1
  exact wpAny_truthy_bool ⟨H1, I1, q⟩

variable {tA tB' : TT} {rest : List Expr}
noncomputable def tAnd (t u : TT) : TT := fun σ H Q => t σ H fun c H1 => if c = true then u σ H1 Q else Q false H1
noncomputable def tOr (t u : TT) : TT := fun σ H Q => t σ H fun c H1 => if c = true then Q true H1 else u σ H1 Q
noncomputable def tNot (t : TT) : TT := fun σ H Q => t σ H fun c H1 => Q (!c) H1
theorem pw_and1 (ha : PT X a tA) : PW X (.BoolOp .And [a] pos) tA := by
  intro wh pins s σ H Q I h
  refine isTrue_and (thn (ha pins s σ H Q I h) fun c s1 e => ?_)
  cases c with
  | true => exact isTrue_and_nil e
  | false => exact e
theorem pw_or1 (ha : PT X a tA) : PW X (.BoolOp .Or [a] pos) tA := by
  intro wh pins s σ H Q I h
  refine isTrue_or (thn (ha pins s σ H Q I h) fun c s1 e => ?_)
  cases c with
  | false => exact isTrue_or_nil e
  | true => exact e
theorem pw_and (ha : PT X a tA) (hb : PW X (.BoolOp .And (b :: rest) pos) tB') : PW X (.BoolOp .And (a :: b :: rest) pos) (tAnd tA tB') := by
  intro wh pins s σ H Q I h
  refine isTrue_and (thn (ha pins s σ H _ I h) fun c s1 ⟨H1, I1, q1⟩ => ?_)
  cases c with
  | true => exact hb wh pins s1 σ H1 Q I1 q1
  | false => exact ⟨H1, I1, q1⟩
theorem pw_or (ha : PT X a tA) (hb : PW X (.BoolOp .Or (b :: rest) pos) tB') : PW X (.BoolOp .Or (a :: b :: rest) pos) (tOr tA tB') := by
  intro wh pins s σ H Q I h
  refine isTrue_or (thn (ha pins s σ H _ I h) fun c s1 ⟨H1, I1, q1⟩ => ?_)
  cases c with
  | true => exact ⟨H1, I1, q1⟩
  | false => exact hb wh pins s1 σ H1 Q I1 q1
theorem pt_not (ha : PT X a tA) : PT X (.UnaryOp .Not a pos) (tNot tA) := by
  intro pins s σ H Q I h
  exact isTrue_not (ha pins s σ H (fun c H1 => Q (!c) H1) I h)
noncomputable def tAndV (ta tb : TE) : TE := fun σ H Q => ta σ H fun x H1 => ∃ c, x = .bl c ∧ if c = true then tb σ H1 Q else Q (.bl false) H1
noncomputable def tOrV (ta tb : TE) : TE := fun σ H Q => ta σ H fun x H1 => ∃ c, x = .bl c ∧ if c = true then Q (.bl true) H1 else tb σ H1 Q
noncomputable def tNotV (ta : TE) : TE := fun σ H Q => ta σ H fun x H1 => ∃ c, x = .bl c ∧ Q (.bl (!c)) H1
theorem pe_one {op} {t : TE} (h : PE X a t) : PE X (.BoolOp op [a] pos) t := fun pins s σ H Q I hw => BoolOp_one (h pins s σ H Q I hw)
theorem pe_and (ha : PE X a ta) (hb : PE X (.BoolOp .And (b :: rest) pos) tb) : PE X (.BoolOp .And (a :: b :: rest) pos) (tAndV ta tb) := by
  intro pins s σ H Q I h
  refine BoolOp_and (thn (ha pins s σ H _ I h) fun v s1 ⟨x, H1, I1, r1, q1⟩ => ?_)
  obtain ⟨c, rfl, q1⟩ := q1
  cases r1
  refine wpAny_truthy_bool ?_
  cases c with
  | true => exact hb pins s1 σ H1 Q I1 q1
  | false => exact ⟨.bl false, H1, I1, rfl, q1⟩
theorem pe_not (ha : PE X a ta) : PE X (.UnaryOp .Not a pos) (tNotV ta) := by
  intro pins s σ H Q I h
  refine UnaryOp_ (thn (ha pins s σ H _ I h) fun v s1 ⟨x, H1, I1, r1, q1⟩ => ?_)
  obtain ⟨c, rfl, q1⟩ := q1
  cases r1
  exact not_of (wpAny_truthy_bool ⟨.bl (!c), H1, I1, rfl, q1⟩)
noncomputable def tIf (t : TT) (ta tb : TE) : TE := fun σ H Q => t σ H fun c H1 => if c = true then ta σ H1 Q else tb σ H1 Q
end
end L2

namespace L2
open PySem PySem.Spec PyProof.Rows

noncomputable def SqL (K : PySem.W.Frag) (H : Hp) (a : Addr) (xs : List V) : Prop :=
  Rd H a (.lst xs) ∨
    ∃ (o : Obj) (its : Array Value) (n : Nat), K.lookup a = some o ∧ o.cls = .type "list" ∧ o.dict = none ∧ o.data = .seq its n ∧ its.size ≤ sizeLine ∧ Vals xs its.toList
noncomputable def SqT (K : PySem.W.Frag) (H : Hp) (a : Addr) (xs : List V) : Prop :=
  Rd H a (.tup xs) ∨
    ∃ (o : Obj) (its : Array Value) (n : Nat), K.lookup a = some o ∧ o.cls = .type "tuple" ∧ o.data = .seq its n ∧ its.size ≤ sizeLine ∧ Vals xs its.toList
noncomputable def absV : Value → Option V
  | .none => some .non
  | .bool b => some (.bl b)
  | .int i _ => some (.int i)
  | .str x _ => some (.str x)
  | .bytes b _ => some (.byt b)
  | .float b _ => some (.flt b)
  | .ref a => some (.ref a)
  | .type n => some (.ty n)
  | _ => none
theorem RelV.abs {x : V} {u : Value} (r : RelV x u) : absV u = some x := by
  cases x with
  | non => cases r; rfl
  | bl _ => cases r; rfl
  | int _ => obtain ⟨t, rfl⟩ := r; rfl
  | str _ => obtain ⟨t, rfl⟩ := r; rfl
  | byt _ => obtain ⟨t, rfl⟩ := r; rfl
  | flt _ => obtain ⟨t, rfl⟩ := r; rfl
  | ref _ => cases r; rfl
  | ty _ => cases r; rfl
theorem RelV.inj {x y : V} {u : Value} (r : RelV x u) (q : RelV y u) : x = y := Option.some.inj (r.abs.symm.trans q.abs)
theorem Vals.inj : ∀ {xs ys : List V} {us : List Value}, Vals xs us → Vals ys us → xs = ys
  | _, _, _, .nil, .nil => rfl
  | _, _, _, .cons r t, .cons r' t' => by rw [r.inj r', Vals.inj t t']
section
variable {X : Cx} {pins : List (Addr × Obj)} {σ : St} {H : Hp} {s : Shared} {a : Addr} {xs ys : List V}
theorem SqL.of {K : PySem.W.Frag} (h : H a = some (.lst xs)) : SqL K H a xs := .inl (.inl h)
theorem SqT.of {K : PySem.W.Frag} (h : H a = some (.tup xs)) : SqT K H a xs := .inl (.inl h)
theorem Inv.list (I : Inv X pins σ H s) (h : SqL X.K H a xs) : ∃ its : List Value, Vals xs its ∧ PlainL s.heap a its.toArray ∧ xs.length ≤ sizeLine := by
  rcases h with h | ⟨o, its, n, hk, hc, hd, hs, hz, r⟩
  · obtain ⟨z, its, n, r, e⟩ := h.ok I.hok
    exact ⟨its, r, ⟨_, n, e, rfl, rfl, rfl⟩, z⟩
  · refine ⟨its.toList, r, ⟨o, n, I.kIn a o hk, hc, hd, by simpa using hs⟩, ?_⟩
    have e := r.length
    simp only [Array.length_toList] at e
    omega
theorem Inv.tuple (I : Inv X pins σ H s) (h : SqT X.K H a xs) : ∃ its : List Value, Vals xs its ∧ IsTup s.heap a its.toArray ∧ xs.length ≤ sizeLine := by
  rcases h with h | ⟨o, its, n, hk, hc, hs, hz, r⟩
  · obtain ⟨z, its, r, p⟩ := h.ok I.hok
    exact ⟨its, r, p, z⟩
  · refine ⟨its.toList, r, ⟨o, I.kIn a o hk, hc, n, by simpa using hs⟩, ?_⟩
    have e := r.length
    simp only [Array.length_toList] at e
    omega
theorem Inv.list_inj (I : Inv X pins σ H s) (h : SqL X.K H a xs) (h' : SqL X.K H a ys) : xs = ys := by
  obtain ⟨its, r, ⟨o, n, e, _, _, d⟩, _⟩ := I.list h
  obtain ⟨its', r', ⟨o', n', e', _, _, d'⟩, _⟩ := I.list h'
  rw [e] at e'; cases e'
  rw [d] at d'
  injection d' with d1 _
  have : its = its' := by simpa using congrArg Array.toList d1
  subst this
  exact r.inj r'
end

noncomputable abbrev Cx.wish (X : Cx) (E : Value → Shared → Prop) : Cx := { X with xe := E }
noncomputable abbrev Cx.nox (X : Cx) : Cx := X.wish fun _ _ => False
theorem Cx.Ok.wish {X : Cx} (ok : X.Ok) (E : Value → Shared → Prop) : (X.wish E).Ok :=
  ⟨ok.mod, ok.kind, ok.glob, ok.blt, ok.above, ok.inj, ok.has, ok.cab, ok.hd, ok.frames, ok.stk, ok.exf, ok.bs, ok.bsz, ok.noex, ok.exfs, ok.funs, ok.frf⟩
theorem Cx.Ok.unwish {X : Cx} {E : Value → Shared → Prop} (ok : (X.wish E).Ok) : X.Ok :=
  ⟨ok.mod, ok.kind, ok.glob, ok.blt, ok.above, ok.inj, ok.has, ok.cab, ok.hd, ok.frames, ok.stk, ok.exf, ok.bs, ok.bsz, ok.noex, ok.exfs, ok.funs, ok.frf⟩
section
variable {X : Cx} {pins : List (Addr × Obj)} {σ : St} {H : Hp} {s : Shared} {E : Value → Shared → Prop}
theorem Inv.wish (I : Inv X pins σ H s) (E : Value → Shared → Prop) : Inv (X.wish E) pins σ H s := ⟨I.ok.wish E, I.os, I.bare, I.base, I.loc, I.cell, I.free, I.freeC, I.pin, I.hok, I.len⟩
theorem Inv.unwish (I : Inv (X.wish E) pins σ H s) : Inv X pins σ H s := ⟨I.ok.unwish, I.os, I.bare, I.base, I.loc, I.cell, I.free, I.freeC, I.pin, I.hok, I.len⟩
theorem SP.unwish {D : Ends} {f : Flow} {s' : Shared} (h : SP (X.wish E) pins D f s') : SP X pins D f s' := by
  cases f with
  | next => obtain ⟨σ', H', I, q⟩ := h; exact ⟨σ', H', I.unwish, q⟩
  | brk => obtain ⟨σ', H', I, q⟩ := h; exact ⟨σ', H', I.unwish, q⟩
  | cont => obtain ⟨σ', H', I, q⟩ := h; exact ⟨σ', H', I.unwish, q⟩
  | ret u => obtain ⟨v, σ', H', I, r, q⟩ := h; exact ⟨v, σ', H', I.unwish, r, q⟩
theorem PSs.nox {st : List Stmt} {t : TS} (h : PSs X.nox st t) : PSs X st t := fun pins s σ H D I hw =>
  wpAny_mono (h pins s σ H D (I.wish _) hw) (fun _ _ q => q.unwish) fun _ _ z => False.elim z
end

section
variable {X : Cx} {st : Stmt} {rest : List Stmt} {t u : TS} {e : Expr} {te : TE} {pos : Pos}
noncomputable def tNext : TS := fun D σ H => D.nx σ H
noncomputable def tSeq (t u : TS) : TS := fun D σ H => t { D with nx := u D } σ H
theorem pss_nil : PSs X [] tNext := fun _ _ σ H _ I h => wpAny_execs_nil ⟨σ, H, I, h⟩
theorem pss_cons (h1 : PS X st t) (h2 : PSs X rest u) : PSs X (st :: rest) (tSeq t u) := by
  intro pins s σ H D I h
  refine wpAny_execs_cons (thn (h1 pins s σ H { D with nx := u D } I h) fun f s1 q => ?_)
  cases f with
  | next =>
    obtain ⟨σ', H', I', q⟩ := q
    exact h2 pins s1 σ' H' D I' q
  | ret v => exact q
  | brk => exact q
  | cont => exact q
theorem pss_one (h1 : PS X st t) : PSs X [st] t := by
  intro pins s σ H D I h
  refine wpAny_execs_cons (thn (h1 pins s σ H D I h) fun f s1 q => ?_)
  cases f with
  | next => exact wpAny_execs_nil q
  | ret v => exact q
  | brk => exact q
  | cont => exact q
noncomputable def tBreak : TS := fun D σ H => D.bk σ H
noncomputable def tCont : TS := fun D σ H => D.ct σ H
theorem Inv.quiet {pins : List (Addr × Obj)} {σ : St} {H : Hp} {s : Shared} (I : Inv X pins σ H s) : interactive X.env = false := by simp [interactive, I.ok.kind]
noncomputable def tDrop (te : TE) : TS := fun D σ H => te σ H fun _ H1 => D.nx σ H1
theorem ps_expr (he : PE X e te) (hs : swapsWith e none pos.line X.env = pure false := by rfl) : PS X (.Expr e pos) (tDrop te) := by
  intro pins s σ H D I h
  exact wpAny_Expr_any (thn (he pins s σ H _ I h) fun v s1 ⟨x, H1, I1, r1, q1⟩ => ⟨σ, H1, I1, q1⟩) I.quiet hs
noncomputable def tRet (te : TE) : TS := fun D σ H => te σ H D.rt
theorem ps_ret (he : PE X e te) : PS X (.Return (some e) pos) (tRet te) := by
  intro pins s σ H D I h
  exact wpAny_Return_some (thn (he pins s σ H _ I h) fun v s1 ⟨x, H1, I1, r1, q1⟩ => ⟨x, σ, H1, I1, r1, q1⟩)
noncomputable def tRetN : TS := fun D _ H => D.rt .non H
noncomputable def tIfS (c : TT) (t u : TS) : TS := fun D σ H => c σ H fun b H1 => if b = true then t D σ H1 else u D σ H1
theorem ps_if {c : Expr} {a b : List Stmt} {tc : TT} (hc : PT X c tc) (ha : PSs X a t) (hb : PSs X b u) : PS X (.If c a b pos) (tIfS tc t u) := by
  intro pins s σ H D I h
  refine wpAny_If (thn (hc pins s σ H _ I h) fun d s1 ⟨H1, I1, q1⟩ => ?_)
  cases d with
  | true => exact ha pins s1 σ H1 D I1 q1
  | false => exact hb pins s1 σ H1 D I1 q1
noncomputable def tNever : TS := fun _ _ _ => False
theorem ps_never : PS X st tNever := fun _ _ _ _ _ _ h => h.elim
end

noncomputable abbrev TG := V → St → Hp → (St → Hp → Prop) → Prop
noncomputable abbrev TGs := List V → St → Hp → (St → Hp → Prop) → Prop
noncomputable def PG (X : Cx) (target : Expr) (t : TG) : Prop :=
  ∀ (pins : List (Addr × Obj)) (s : Shared) (σ : St) (H : Hp) (v : V) (u : Value) (Q : St → Hp → Prop), Inv X pins σ H s → RelV v u → t v σ H Q →
    wpAny (model X.prog X.w) X.A (assign target X.env u) (fun _ s' => ∃ σ' H', Inv X pins σ' H' s' ∧ Q σ' H') X.xe s
noncomputable def PGs (X : Cx) (ts : List Expr) (t : TGs) : Prop :=
  ∀ (pins : List (Addr × Obj)) (s : Shared) (σ : St) (H : Hp) (vs : List V) (us : List Value) (Q : St → Hp → Prop), Inv X pins σ H s → Vals vs us → t vs σ H Q →
    wpAny (model X.prog X.w) X.A (assignInOrder ((assignEach ts X.env).map (·.2)) us) (fun _ s' => ∃ σ' H', Inv X pins σ' H' s' ∧ Q σ' H') X.xe s
noncomputable abbrev TSet := V → V → V → Hp → (Hp → Prop) → Prop
noncomputable def PSet (X : Cx) (t : TSet) : Prop :=
  ∀ (pins : List (Addr × Obj)) (s : Shared) (σ : St) (H : Hp) (o i v : V) (ov iv u : Value) (Q : Hp → Prop), Inv X pins σ H s → RelV o ov → RelV i iv → RelV v u → t o i v H Q →
    wpAny (model X.prog X.w) X.A (setItem ov iv u) (fun _ s' => ∃ H', Inv X pins σ H' s' ∧ Q H') X.xe s
noncomputable abbrev TIp := V → V → Hp → VK → Prop
noncomputable def PIp (X : Cx) (op : Operator) (t : TIp) : Prop :=
  ∀ (pins : List (Addr × Obj)) (s : Shared) (σ : St) (H : Hp) (x y : V) (v u : Value) (Q : VK), Inv X pins σ H s → RelV x v → RelV y u → t x y H Q →
    wpAny (model X.prog X.w) X.A (inplaceOp op v u) (EP X pins σ Q) X.xe s
section
variable {X : Cx} {pos : Pos}
noncomputable def gName (i : Nat) : TG := fun v σ H Q => Q (σ.set i (some v)) H
theorem pg_name {i : Nat} {x : Str} (hN : X.N.Nodup) (hi : X.N[i]? = some x) (hx : Loc X.env.scope x) (hf : X.fn x = true ∨ X.env.scope.names.lookup x = some .local := by first | exact .inl rfl | exact .inr rfl | assumption) : PG X (.Name x pos) (gName i) := by
  intro pins s σ H v u Q I r h
  exact wpAny_assign_Name (store_ok I hN hi hx r (fun s' I' => ⟨_, H, I', h⟩) hf)
noncomputable def gNil : TGs := fun vs σ H Q => vs = [] ∧ Q σ H
noncomputable def gCons (t : TG) (u : TGs) : TGs := fun vs σ H Q => ∃ v r, vs = v :: r ∧ t v σ H fun σ' H' => u r σ' H' Q
theorem pgs_nil : PGs X [] gNil := by
  intro pins s σ H vs us Q I r h
  obtain ⟨e, h⟩ := h
  subst e
  cases r
  exact assignInOrder_nil ⟨σ, H, I, h⟩
theorem pgs_cons {e : Expr} {es : List Expr} {t : TG} {u : TGs} (h1 : PG X e t) (h2 : PGs X es u)
    (hs : (assignEach (e :: es) X.env).map (·.2) = assign e X.env :: (assignEach es X.env).map (·.2) := by rfl) : PGs X (e :: es) (gCons t u) := by
  intro pins s σ H vs us Q I r h
  obtain ⟨v, vr, e1, h⟩ := h
  subst e1
  cases r with
  | cons r rr =>
    rw [hs]
    refine assignInOrder_cons (thn (h1 pins s σ H _ _ _ I r h) fun _ s1 ⟨σ1, H1, I1, q1⟩ => ?_)
    exact h2 pins s1 σ1 H1 _ _ Q I1 rr q1
noncomputable def gTup (K : PySem.W.Frag) (n : Nat) (t : TGs) : TG := fun v σ H Q => ∃ a xs, v = .ref a ∧ SqT K H a xs ∧ xs.length = n ∧ t xs σ H Q
theorem pg_tup {es : List Expr} {k : Nat} {t : TGs} {n : Nat} (hc : X.calm = true) (h : PGs X es t)
    (hn : (assignEach es X.env).length = n := by rfl) (hst : (assignEach es X.env).findIdx? (·.1) = none := by rfl) : PG X (.Tuple es k pos) (gTup X.K n t) := by
  intro pins s σ H v u Q I r hw
  obtain ⟨a, xs, e1, hq, hl, hw⟩ := hw
  subst e1
  cases r
  obtain ⟨its, rv, ht, hz⟩ := I.tuple hq
  refine assign_Tuple_tuple (I.ok.hd hc) ht (by simp [hn, ← hl, rv.length]) hst fun h' hx => ?_
  have I1 : Inv X pins σ H { s with heap := h' } := I.kept (t' := s.toks) fun b o e => hx b o (Nat.ne_of_lt (Heap.lt_size e)) e
  exact h pins _ σ H xs _ Q I1 (by simpa using rv) hw
noncomputable def gSub (to ti : TE) (t : TSet) : TG := fun v σ H Q => to σ H fun o H1 => ti σ H1 fun i H2 => t o i v H2 fun H3 => Q σ H3
theorem pg_sub {o i : Expr} {to ti : TE} {t : TSet} (ho : PE X o to) (hi : PE X i ti) (hs : PSet X t)
    (ha : ∀ v, assign (.Subscript o i pos) X.env v = (do
      let ov ← holding [v] (eval o X.env)
      let iv ← holding [v, ov] (eval i X.env)
      standAt pos
      holding [v, ov, iv] (setItem ov iv v)
      release [v, ov, iv] []) := by intro _; rfl) : PG X (.Subscript o i pos) (gSub to ti t) := by
  intro pins s σ H v u Q I r h
  rw [ha]
  refine wpAny_bind (wpAny_holding (thn (ho pins s σ H _ I h) fun ov s1 ⟨x, H1, I1, r1, q1⟩ => ?_))
  refine wpAny_bind (wpAny_holding (thn (hi pins s1 σ H1 _ I1 q1) fun iv s2 ⟨y, H2, I2, r2, q2⟩ => ?_))
  refine wpAny_bind (wpAny_standAt (wpAny_bind (wpAny_holding (thn (hs pins s2 σ H2 x y v ov iv u _ I2 r1 r2 r q2) fun _ s3 ⟨H3, I3, q3⟩ => ?_))))
  exact wpAny_release ⟨σ, H3, I3, q3⟩
noncomputable def tAsg (te : TE) (g : TG) : TS := fun D σ H => te σ H fun x H1 => g x σ H1 D.nx
theorem ps_asg {tg e : Expr} {te : TE} {g : TG} (he : PE X e te) (hg : PG X tg g) (hs : swapsWithSole [tg] e pos.line X.env = pure false := by rfl) (hw : swappedStores [tg] e X.env = pure none := by rfl)
    (h1 : (assignEach [tg] X.env).map (·.2) = [assign tg X.env] := by rfl) : PS X (.Assign [tg] e pos) (tAsg te g) := by
  intro pins s σ H D I h
  refine wpAny_Assign_stores (thn (he pins s σ H _ I h) fun v s1 ⟨x, H1, I1, r1, q1⟩ => ?_) hs hw
  rw [h1]
  exact thn (hg pins s1 σ H1 x v _ I1 r1 q1) fun _ s2 q => q
theorem ps_set {i : Nat} {x : Str} {e : Expr} {te : TE} {pos' : Pos} (hN : X.N.Nodup) (hi : X.N[i]? = some x) (hx : Loc X.env.scope x) (he : PE X e te) (hs : swapsWith e (some (.Name x pos')) pos.line X.env = pure false := by rfl) (hf : X.fn x = true ∨ X.env.scope.names.lookup x = some .local := by first | exact .inl rfl | exact .inr rfl | assumption) :
    PS X (.Assign [.Name x pos'] e pos) (tAsg te (gName i)) := by
  intro pins s σ H D I h
  refine wpAny_Assign_Name (thn (he pins s σ H _ I h) fun v s1 ⟨y, H1, I1, r1, q1⟩ => ?_) hs
  exact store_ok I1 hN hi hx r1 (fun s2 I2 => ⟨_, H1, I2, q1⟩) hf
noncomputable def tPar (i j : Nat) (ta : TA) : TS := fun D σ H => ta σ H fun vs H1 => ∃ v w, vs = [v, w] ∧ D.nx ((σ.set i (some v)).set j (some w)) H1
noncomputable def tAug (i : Nat) (te : TE) (ti : TIp) : TS := fun D σ H => ∃ x, σ[i]? = some (some x) ∧ te σ H fun y H1 => ti x y H1 fun z H2 => D.nx (σ.set i (some z)) H2
theorem ps_aug {i : Nat} {x : Str} {e : Expr} {te : TE} {op : Operator} {ti : TIp} {pos' : Pos} (hN : X.N.Nodup) (hi : X.N[i]? = some x) (hx : Loc X.env.scope x) (he : PE X e te) (ho : PIp X op ti) (hf : X.fn x = true ∨ X.env.scope.names.lookup x = some .local := by first | exact .inl rfl | exact .inr rfl | assumption) :
    PS X (.AugAssign (.Name x pos') op e pos) (tAug i te ti) := by
  intro pins s σ H D I h
  obtain ⟨v, e1, h⟩ := h
  obtain ⟨m, hn, hl⟩ := I.loc
  have vis : Vis X.env.scope x := by rcases hx with k | k; exact .inl k; exact .inr (.inl k)
  obtain ⟨u, r, l⟩ := hl i x v hi e1 vis
  refine wpAny_AugAssign_Name ?_
  have go : wpAny (model X.prog X.w) X.A (eval e X.env) (fun w s₂ => wpAny (model X.prog X.w) X.A (inplaceOp op u w) (fun r s₃ => wpAny (model X.prog X.w) X.A (storeName X.env x r) (fun _ => SP X pins D .next) X.xe s₃) X.xe s₂) X.xe s := by
    refine thn (he pins s σ H _ I h) fun w s1 ⟨y, H1, I1, r1, q1⟩ => ?_
    refine thn (ho pins s1 σ H1 v y u w _ I1 r r1 q1) fun z s2 ⟨zv, H2, I2, r2, q2⟩ => ?_
    exact store_ok I2 hN hi hx r2 (fun s3 I3 => ⟨_, H2, I3, q2⟩) hf
  rcases l with ⟨hk, hm⟩ | ⟨hk, c, hc, hcell⟩
  · exact wpAny_loadName_local I.ok.kind hk hn hm go
  · rcases hk with hk | hk
    · exact wpAny_loadName_cell I.ok.kind hk hc hcell go
    · rcases hx with k | k
      · have : X.env.scope.names.lookup x = some .free := hk
        rw [k] at this; cases this
      · have : X.env.scope.names.lookup x = some .free := hk
        rw [k] at this; cases this
noncomputable def tAugS (to ti te : TE) (tget : V → V → Hp → VK → Prop) (tip : TIp) (tset : TSet) : TS := fun D σ H => to σ H fun o H1 => ti σ H1 fun i H2 => tget o i H2 fun x H3 => te σ H3 fun y H4 => tip x y H4 fun z H5 => tset o i z H5 fun H6 => D.nx σ H6
noncomputable def PGet (X : Cx) (t : V → V → Hp → VK → Prop) : Prop :=
  ∀ (pins : List (Addr × Obj)) (s : Shared) (σ : St) (H : Hp) (o i : V) (ov iv : Value) (Q : VK), Inv X pins σ H s → RelV o ov → RelV i iv → t o i H Q →
    wpAny (model X.prog X.w) X.A (getItem ov iv) (EP X pins σ Q) X.xe s
theorem ps_augS {o i e : Expr} {to ti te : TE} {tget : V → V → Hp → VK → Prop} {tip : TIp} {tset : TSet} {op : Operator} {tpos : Pos} (ho : PE X o to) (hi : PE X i ti) (hg : PGet X tget) (he : PE X e te) (hp : PIp X op tip) (hs : PSet X tset)
    (ha : ∀ ov iv new, augStore i ov iv new = (do holding [new, ov, iv] (setItem ov iv new); release [new, ov, iv] []; pure .next) := by intros; rfl) : PS X (.AugAssign (.Subscript o i tpos) op e pos) (tAugS to ti te tget tip tset) := by
  intro pins s σ H D I h
  refine wpAny_AugAssign_SubscriptAny (thn (ho pins s σ H _ I h) fun ov s1 ⟨x1, H1, I1, r1, q1⟩ => ?_) ha
  refine thn (hi pins s1 σ H1 _ I1 q1) fun iv s2 ⟨x2, H2, I2, r2, q2⟩ => ?_
  refine thn (hg pins s2 σ H2 x1 x2 ov iv _ I2 r1 r2 q2) fun old s3 ⟨x3, H3, I3, r3, q3⟩ => ?_
  refine thn (he pins s3 σ H3 _ I3 q3) fun v s4 ⟨x4, H4, I4, r4, q4⟩ => ?_
  refine thn (hp pins s4 σ H4 x3 x4 old v _ I4 r3 r4 q4) fun new s5 ⟨x5, H5, I5, r5, q5⟩ => ?_
  exact thn (hs pins s5 σ H5 x1 x2 x5 ov iv new _ I5 r1 r2 r5 q5) fun _ s6 ⟨H6, I6, q6⟩ => ⟨σ, H6, I6, q6⟩
noncomputable def ipI (f : Int → Int → Int) : TIp := fun x y H Q => ∃ i j, x = .int i ∧ y = .int j ∧ Q (.int (f i j)) H
theorem ip_add : PIp X .Add (ipI fun i j => i + j) := by
  intro pins s σ H x y v u Q I r1 r2 h
  obtain ⟨i, j, e1, e2, q⟩ := h
  subst e1; subst e2
  obtain ⟨t, rfl⟩ := r1
  obtain ⟨t', rfl⟩ := r2
  exact iadd_int ⟨.int _, H, I.tok _, ⟨_, rfl⟩, q⟩
end

section
variable {X : Cx} {pos : Pos}
end

structure It where
  go : Nat → Hp → Prop
  yld : Nat → Hp → V → Hp → Prop
  stop : Nat → Hp → Prop
noncomputable def FpOk (X : Cx) (pins : List (Addr × Obj)) (H : Hp) (b : Addr) : Prop :=
  H b = none ∧ b ≠ X.env.locals ∧ b ∉ X.fs ∧ (b ∈ X.ex ∨ X.s₀.heap.objs.size ≤ b) ∧ (∀ x c, X.env.cells.lookup x = some c → c ≠ b) ∧ ∀ p ∈ X.pn ++ pins, p.1 ≠ b
theorem Inv.fpOk {X : Cx} {pins : List (Addr × Obj)} {σ : St} {H H' : Hp} {s : Shared} {b : Addr} (I : Inv X pins σ H s) (hb : s.heap.objs.size ≤ b) (hn : H' b = none) : FpOk X pins H' b := by
  refine ⟨hn, Nat.ne_of_gt (Nat.lt_of_lt_of_le I.lt hb), I.nofs hb, .inr (Nat.le_trans I.sz hb), fun x c e z => ?_, fun p hp z => ?_⟩
  · obtain ⟨v, q⟩ := I.cell x c e
    exact absurd (Nat.lt_of_lt_of_le q.lt (by rw [z]; exact hb)) (Nat.lt_irrefl _)
  · exact absurd (Nat.lt_of_lt_of_le (Heap.lt_size (I.pin p hp).1) (by rw [z]; exact hb)) (Nat.lt_irrefl _)
structure Turn (P : Program) (w : World) (K : PySem.W.Frag) (tg : Expr) (J : It) (fp : List Addr) (it : Addr) (tn : Nat → Heap → Prop) : Prop where
  mem : it ∈ fp
  obj : ∀ i h, tn i h → ∀ b ∈ fp, ∃ o, h.get? b = some o ∧ ∀ v, o.data ≠ .cell v
  keep : ∀ i h h', tn i h → (∀ b ∈ fp, ∀ o, h.get? b = some o → h'.get? b = some o) → tn i h'
  item : ∀ (X : Cx), X.prog = P → X.w = w → X.K = K → X.calm = true → ∀ (i : Nat) (pins : List (Addr × Obj)) (s : Shared) (σ : St) (H : Hp) (E : Value → Shared → Prop), Inv X pins σ H s → (∀ b ∈ fp, FpOk X pins H b) → tn i s.heap → J.go i H →
    wpAny (model P w) X.A (pyNext (.ref it)) (fun r s1 => ∃ u, r = some u ∧
      wpAny (model P w) X.A (letOwnedTupleGo tg (.ref it) u) (fun _ s2 => ∃ x H', Inv X pins σ H' s2 ∧ RelV x u ∧ J.yld i H x H' ∧ tn (i + 1) s2.heap ∧ ∀ b ∈ fp, H' b = none) E s1) E s
  done : ∀ (X : Cx), X.prog = P → X.w = w → X.K = K → X.calm = true → ∀ (i : Nat) (pins : List (Addr × Obj)) (s : Shared) (σ : St) (H : Hp) (E : Value → Shared → Prop), Inv X pins σ H s → (∀ b ∈ fp, FpOk X pins H b) → tn i s.heap → J.stop i H →
    wpAny (model P w) X.A (pyNext (.ref it)) (fun r s1 => r = none ∧ Inv X pins σ H s1) E s
  self : ∀ (A : Around) (i : Nat) (s : Shared) (Q : Value → Shared → Prop) (E : Value → Shared → Prop), tn i s.heap → Q (.ref it) s → wpAny (model P w) A (pyIter (.ref it)) Q E s
noncomputable abbrev TI := St → Hp → (It → Hp → Prop) → Prop
noncomputable def PIE (X : Cx) (pins : List (Addr × Obj)) (σ : St) (tg : Expr) (R : It → Hp → Prop) (itv : Value) (s2 : Shared) : Prop :=
  ∃ (it : Addr) (fp : List Addr) (tn : Nat → Heap → Prop) (J : It) (H' : Hp), itv = .ref it ∧ Inv X pins σ H' s2 ∧ Turn X.prog X.w X.K tg J fp it tn ∧ tn 0 s2.heap ∧ (∀ b ∈ fp, FpOk X pins H' b) ∧ R J H'
noncomputable def PI (X : Cx) (tg iter : Expr) (wi : TI) : Prop :=
  ∀ (pins : List (Addr × Obj)) (s : Shared) (σ : St) (H : Hp) (R : It → Hp → Prop), Inv X pins σ H s → wi σ H R →
    wpAny (model X.prog X.w) X.A (eval iter X.env) (fun v s1 => wpAny (model X.prog X.w) X.A (pyIter v) (PIE X pins σ tg R) X.xe s1) X.xe s

theorem go_of {M : Model} {A : Around} {E : Value → Shared → Prop} {s : Shared} {tg : Expr} {it : Addr} {u : Value} {o : Obj} {n : String} {vs : Array Value} {Q : Unit → Shared → Prop} (ho : s.heap.get? it = some o) (hc : o.cls = .type n) (hd : o.data = .fields vs)
    (hn : ["enumerate", "zip", "dict_itemiterator", "dict_reverseitemiterator", "odict_iterator", "itertools.zip_longest", "itertools.pairwise"].contains n = false) (hQ : Q () s) : wpAny M A (letOwnedTupleGo tg (.ref it) u) Q E s := by
  unfold letOwnedTupleGo
  cases tg <;> first
    | exact wpAny_pure hQ
    | (cases u <;> first
        | exact wpAny_pure hQ
        | (refine wpAny_bind (wpAny_load ho ?_)
           rw [hc, hd]
           show wpAny M A (if (["enumerate", "zip", "dict_itemiterator", "dict_reverseitemiterator", "odict_iterator", "itertools.zip_longest", "itertools.pairwise"].contains n && vs[0]? == some (rawInt _)) = true then _ else _) Q E s
           rw [if_neg (by intro h; rw [hn, Bool.false_and] at h; cases h)]
           exact wpAny_pure hQ))

noncomputable def Itl (K : PySem.W.Frag) (a : Addr) : It :=
  ⟨fun i H => ∃ xs x, SqL K H a xs ∧ xs[i]? = some x, fun i H x H' => H' = H ∧ ∀ xs, SqL K H a xs → xs[i]? = some x, fun i H => ∃ xs, SqL K H a xs ∧ xs.length ≤ i⟩
noncomputable def Itt (K : PySem.W.Frag) (a : Addr) : It :=
  ⟨fun i H => ∃ xs x, SqT K H a xs ∧ xs[i]? = some x, fun i H x H' => H' = H ∧ ∀ xs, SqT K H a xs → xs[i]? = some x, fun i H => ∃ xs, SqT K H a xs ∧ xs.length ≤ i⟩
noncomputable def Itr (lo : Int) (n : Nat) : It := ⟨fun i _ => i < n, fun i H x H' => H' = H ∧ x = .int (lo + i), fun i _ => n ≤ i⟩
theorem turn_list {P : Program} {w : World} {K : PySem.W.Frag} {tg : Expr} (a it : Addr) : Turn P w K tg (Itl K a) [it] it (fun i h => h.IsListIter it a i) where
  mem := by simp
  obj := fun i h st b hb => by
    have e : b = it := by simpa using hb
    subst e
    obtain ⟨o, e, c, d⟩ := st
    exact ⟨o, e, fun v z => by rw [d] at z; cases z⟩
  keep := fun i h h' st k => st.at fun o e => k it (by simp) o e
  item := by
    intro X hP hw hK hc i pins s σ H E I hf st hg
    subst hP hw hK
    obtain ⟨xs, x, hq, hx⟩ := hg
    obtain ⟨its, rv, p, hz⟩ := I.list hq
    obtain ⟨u, hu, ru⟩ := rv.get hx
    obtain ⟨f0, f1, f2, f3, f4, f5⟩ := hf it (by simp)
    refine wpAny_pyNext_list_item st p.isList (x := u) (by simpa using hu) fun h' st' sb => ?_
    have I1 : Inv X pins σ H { s with heap := h' } := I.turned (t' := s.toks) (fun b o hb e => (sb.2 b hb).trans e) f0 f1 f3 f4 f5
    obtain ⟨o, e, c, d⟩ := id st'
    exact ⟨u, rfl, go_of (s := { s with heap := h' }) e c d (by decide) ⟨x, H, I1, ru, ⟨rfl, fun ys hy => by rw [I.list_inj hy hq]; exact hx⟩, st', fun b hb => (hf b hb).1⟩⟩
  done := by
    intro X hP hw hK hc i pins s σ H E I hf st hg
    subst hP hw hK
    obtain ⟨xs, hq, hx⟩ := hg
    obtain ⟨its, rv, p, hz⟩ := I.list hq
    obtain ⟨f0, f1, f2, f3, f4, f5⟩ := hf it (by simp)
    have hl := rv.length
    exact wpAny_pyNext_list_end (I.ok.hd hc) st p.isList (by simp; omega) fun h' eb => ⟨rfl, I.turned (t' := s.toks) (fun b o hb e => eb b o hb e) f0 f1 f3 f4 f5⟩
  self := fun _ _ _ _ _ st h => wpAny_pyIter_listiter st h
theorem turn_range {P : Program} {w : World} {K : PySem.W.Frag} {tg : Expr} (it : Addr) (lo : Int) (n : Nat) : Turn P w K tg (Itr lo n) [it] it (fun i h => IsRangeIter h it (lo + (i : Nat) * 1) ((n : Int) - (i : Nat)) 1) where
  mem := by simp
  obj := fun i h st b hb => by
    have e : b = it := by simpa using hb
    subst e
    exact ⟨_, st, fun v z => by
      have z' : Data.fields _ = Data.cell v := z
      cases z'⟩
  keep := fun i h h' st k => k it (by simp) _ st
  item := by
    intro X hP hw hK hc i pins s σ H E I hf st hg
    subst hP hw hK
    obtain ⟨f0, f1, f2, f3, f4, f5⟩ := hf it (by simp)
    have W := Walks.range (prog := X.prog) (w := X.w) (I.ok.hd hc) it lo 1 n
    refine W.item i s _ _ hg st fun v h' tk hv st' kk => ?_
    obtain ⟨t, rfl⟩ := hv
    have I1 : Inv X pins σ H { s with heap := h', toks := tk } := I.turned (fun b o hb e => kk b o (by simpa using hb) e) f0 f1 f3 f4 f5
    refine ⟨_, rfl, go_of (s := { s with heap := h', toks := tk }) (n := "range_iterator") st' rfl rfl (by decide) ⟨.int (lo + i), H, I1, ⟨t, ?_⟩, ⟨rfl, rfl⟩, st', fun b hb => (hf b hb).1⟩⟩
    rw [Int.mul_one]
  done := by
    intro X hP hw hK hc i pins s σ H E I hf st hg
    subst hP hw hK
    obtain ⟨f0, f1, f2, f3, f4, f5⟩ := hf it (by simp)
    exact wpAny_pyNext_range_end (I.ok.hd hc) st (by have : n ≤ i := hg; omega) fun h' eb => ⟨rfl, I.turned (t' := s.toks) (fun b o hb e => eb b o hb e) f0 f1 f3 f4 f5⟩
  self := fun _ _ _ _ _ st h => wpAny_pyIter_rangeiter st h
end L2

namespace L2
open PySem PySem.Spec PyProof.Rows
section
variable {X : Cx} {tg : Expr}
noncomputable def iList (K : PySem.W.Frag) (tl : TE) : TI := fun σ H R => tl σ H fun x H1 => ∃ a, x = .ref a ∧ (∃ xs, SqL K H1 a xs) ∧ R (Itl K a) H1
noncomputable def iTup (K : PySem.W.Frag) (tl : TE) : TI := fun σ H R => tl σ H fun x H1 => ∃ a, x = .ref a ∧ (∃ xs, SqT K H1 a xs) ∧ R (Itt K a) H1
theorem pi_list {l : Expr} {tl : TE} (hl : PE X l tl) : PI X tg l (iList X.K tl) := by
  intro pins s σ H R I h
  refine thn (hl pins s σ H _ I h) fun v s1 ⟨x, H1, I1, r1, q1⟩ => ?_
  obtain ⟨a, e, ⟨xs, hq⟩, q⟩ := q1
  subst e
  cases r1
  obtain ⟨its, rv, p, hz⟩ := I1.list hq
  refine wpAny_pyIter_list p.isList ?_
  refine ⟨s1.heap.objs.size, [s1.heap.objs.size], _, _, H1, rfl, I1.kept (t' := s1.toks) fun b o e => Heap.get?_push_of_some _ e, turn_list a _, ⟨_, Heap.get?_push_size _ rfl, rfl, rfl⟩, fun b hb => ?_, q⟩
  have e : b = s1.heap.objs.size := by simpa using hb
  subst e
  exact I1.fpOk (Nat.le_refl _) (I1.hok.fresh (Nat.le_refl _))
theorem range_it {pins : List (Addr × Obj)} {σ : St} {H : Hp} {s : Shared} {R : It → Hp → Prop} {E : Value → Shared → Prop} {lo hi : Int} {t u v : Tok} {tk : Nat} (I : Inv X pins σ H s) (h1 : -(2 ^ 62) ≤ lo) (h2 : lo < 2 ^ 62) (h3 : -(2 ^ 62) ≤ hi) (h4 : hi < 2 ^ 62)
    (q : R (Itr lo (hi - lo).toNat) H) : wpAny (model X.prog X.w) X.A (pyIter (.ref s.heap.objs.size)) (PIE X pins σ tg R) E { s with heap := s.heap.push { cls := .type "range", data := .fields #[.int lo t, .int hi u, .int 1 v] }, toks := tk } := by
  refine wpAny_pyIter_range (IsRange.new ..) (small_one h1 h2 h3 h4) ?_
  have I1 : Inv X pins σ H { s with heap := s.heap.push { cls := .type "range", data := .fields #[.int lo t, .int hi u, .int 1 v] }, toks := tk } := I.kept fun b o e => Heap.get?_push_of_some _ e
  refine ⟨(s.heap.push { cls := .type "range", data := .fields #[.int lo t, .int hi u, .int 1 v] }).objs.size, [(s.heap.push { cls := .type "range", data := .fields #[.int lo t, .int hi u, .int 1 v] }).objs.size], _, _, H, rfl,
    I1.kept (t' := tk) fun b o e => Heap.get?_push_of_some _ e, turn_range _ lo (hi - lo).toNat, ?_, fun b hb => ?_, q⟩
  · have e1 : lo + ((0 : Nat) : Int) * 1 = lo := by simp
    have e2 : (((hi - lo).toNat : Nat) : Int) - ((0 : Nat) : Int) = Builtin.Range.rangeSize lo hi 1 := by rw [rangeSize_one]; split <;> omega
    show IsRangeIter _ _ (lo + ((0 : Nat) : Int) * 1) ((((hi - lo).toNat : Nat) : Int) - ((0 : Nat) : Int)) 1
    rw [e1, e2]
    exact Heap.get?_push_size _ rfl
  · have e : b = (s.heap.push { cls := .type "range", data := .fields #[.int lo t, .int hi u, .int 1 v] }).objs.size := by simpa using hb
    subst e
    exact I1.fpOk (Nat.le_refl _) (I1.hok.fresh (Nat.le_refl _))
noncomputable def iRng1 (ta : TA) : TI := fun σ H R => ta σ H fun vs H1 => ∃ j : Int, vs = [.int j] ∧ -(2 ^ 62) ≤ j ∧ j < 2 ^ 62 ∧ R (Itr 0 j.toNat) H1
noncomputable def iRng2 (ta : TA) : TI := fun σ H R => ta σ H fun vs H1 => ∃ i j : Int, vs = [.int i, .int j] ∧ (-(2 ^ 62) ≤ i ∧ i < 2 ^ 62 ∧ -(2 ^ 62) ≤ j ∧ j < 2 ^ 62) ∧ R (Itr i (j - i).toNat) H1
theorem pi_range1 {a : Expr} {ta : TA} {p pos : Pos} (hg : Gl X "range") (hm : X.mg "range" = none) (ha : PA X [a] ta) (hs : starEach [a] X.env = [(false, eval a X.env)] := by rfl) : PI X tg (.Call (.Name "range" p) [a] [] pos) (iRng1 ta) := by
  intro pins s σ H R I h
  refine Call_ (ld_blt I hg hm boot_range (PyProof.Rows.callWith_type1 (thn (ha pos pins s σ H _ I h) fun us s1 ⟨vs, H1, I1, r1, q1⟩ => ?_) hs rfl))
  obtain ⟨j, e, q1, q2, q⟩ := q1
  subst e
  cases r1 with
  | cons r rr =>
    cases rr
    obtain ⟨t, rfl⟩ := r
    exact call_range_1 (range_it I1 (by omega) (by omega) q1 q2 (by simpa using q))
noncomputable def tFor (wi : TI) (g : TG) (tb : TS) : TS := fun D σ H => wi σ H fun J H1 => ∃ W : Nat → Nat → St → Hp → Prop, (∃ m, W 0 m σ H1) ∧ ∀ i m σ H, W i m σ H →
  (J.stop i H ∧ D.nx σ H) ∨ (J.go i H ∧ ∃ N : St → Hp → Prop, (∀ σ' H', N σ' H' → ∃ m', m' < m ∧ W (i + 1) m' σ' H') ∧ ∀ x H', J.yld i H x H' → g x σ H' fun σ2 H2 => tb { D with nx := N, ct := N, bk := D.nx } σ2 H2)
noncomputable def pinsAt (fp : List Addr) (h : Heap) : List (Addr × Obj) := fp.filterMap fun b => (h.get? b).map fun o => (b, o)
theorem mem_pinsAt {fp : List Addr} {h : Heap} {b : Addr} {o : Obj} (hb : b ∈ fp) (e : h.get? b = some o) : (b, o) ∈ pinsAt fp h := List.mem_filterMap.mpr ⟨b, hb, by rw [e]; rfl⟩
theorem of_pinsAt {fp : List Addr} {h : Heap} {p : Addr × Obj} (hp : p ∈ pinsAt fp h) : p.1 ∈ fp ∧ h.get? p.1 = some p.2 := by
  obtain ⟨b, hb, e⟩ := List.mem_filterMap.mp hp
  cases q : h.get? b with
  | none => rw [q] at e; cases e
  | some o =>
    rw [q] at e
    have e' : (b, o) = p := Option.some.inj e
    subst e'
    exact ⟨hb, q⟩
theorem Inv.pinned {pins : List (Addr × Obj)} {σ : St} {H : Hp} {s : Shared} {fp : List Addr} (I : Inv X pins σ H s) (hf : ∀ b ∈ fp, FpOk X pins H b) (ho : ∀ b ∈ fp, ∃ o, s.heap.get? b = some o ∧ ∀ v, o.data ≠ .cell v) : Inv X (pins ++ pinsAt fp s.heap) σ H s :=
  I.pins_of fun p hp => (List.mem_append.mp hp).elim (fun z => I.pin p (List.mem_append_right _ z)) fun z => by
    obtain ⟨hb, e⟩ := of_pinsAt z
    obtain ⟨f0, f1, f2, _⟩ := hf p.1 hb
    obtain ⟨o, e', d⟩ := ho p.1 hb
    rw [e] at e'; cases e'
    exact ⟨e, f0, f1, f2, d⟩
theorem Inv.unpinned {pins pl : List (Addr × Obj)} {σ : St} {H : Hp} {s : Shared} (I : Inv X (pins ++ pl) σ H s) : Inv X pins σ H s := I.pins_of fun p hp => I.pin p (List.mem_append_right _ (List.mem_append_left _ hp))
theorem ps_for {iter : Expr} {body : List Stmt} {wi : TI} {g : TG} {tb : TS} {pos : Pos} (hp : PassesOwn (model X.prog X.w) X.A X.env X.xe) (hc : X.calm = true) (hi : PI X tg iter wi) (hg : PG X tg g) (hb : PSs X body tb)
    (hs : ∀ x, foldedSetIterable iter X.env x = pure x := by intro _; rfl) : PS X (.For tg iter body [] pos) (tFor wi g tb) := by
  intro pins s σ H D I h
  refine wpAny_For (thn (hi pins s σ H _ I h) fun v s1 h1 => thn h1 fun itv s2 h2 => ?_) hs
  obtain ⟨it, fp, tn, J, H2, e, I2, T, st2, f2, W, ⟨m0, w0⟩, turn⟩ := h2
  subst e
  -- what stays true of the iterator's objects through the loop
  have stat : ∀ {H' : Hp}, (∀ b ∈ fp, H' b = none) → ∀ b ∈ fp, FpOk X pins H' b := fun hn b hb => ⟨hn b hb, (f2 b hb).2⟩
  refine codeAny_forLoop_any (fun n s' => ∃ i σ' H', Inv X pins σ' H' s' ∧ tn i s'.heap ∧ (∀ b ∈ fp, H' b = none) ∧ W i n σ' H') ?_ m0 ⟨0, σ, H2, I2, st2, fun b hb => (f2 b hb).1, w0⟩
  rintro n s3 ⟨i, σ3, H3, I3, st3, fr3, w3⟩
  rcases turn i n σ3 H3 w3 with ⟨stop, qn⟩ | ⟨go, N, hN, step⟩
  · refine wpAny_passesOwn hp (thn (T.done X rfl rfl rfl hc i pins s3 σ3 H3 X.xe I3 (stat fr3) st3 stop) fun r s4 ⟨hr, I4⟩ => ?_)
    subst hr
    exact wpAny_execs_nil ⟨σ3, H3, I4, qn⟩
  · refine wpAny_passesOwn hp (thn (T.item X rfl rfl rfl hc i pins s3 σ3 H3 X.xe I3 (stat fr3) st3 go) fun r s4 ⟨u, hr, h4⟩ => ?_)
    subst hr
    refine wpAny_passesOwn hp (thn h4 fun _ s5 ⟨x, H5, I5, r5, y5, st5, fr5⟩ => ?_)
    have I5' := I5.pinned (stat fr5) (T.obj _ _ st5)
    refine wpAny_passesOwn hp (thn (hg _ s5 σ3 H5 x u _ I5' r5 (step x H5 y5)) fun _ s6 ⟨σ6, H6, I6, q6⟩ => ?_)
    refine wpAny_passesOwn hp (thn (hb _ s6 σ6 H6 _ I6 q6) fun f s7 q7 => ?_)
    have again : ∀ {σ7 : St} {H7 : Hp}, Inv X (pins ++ pinsAt fp s5.heap) σ7 H7 s7 → N σ7 H7 → ∃ m, m < n ∧ ∃ i σ' H', Inv X pins σ' H' s7 ∧ tn i s7.heap ∧ (∀ b ∈ fp, H' b = none) ∧ W i m σ' H' := fun {σ7 H7} I7 n7 => by
      obtain ⟨m', hm, w7⟩ := hN σ7 H7 n7
      refine ⟨m', hm, i + 1, σ7, H7, I7.unpinned, T.keep _ _ _ st5 fun b hb o e => (I7.pin (b, o) (List.mem_append_right _ (List.mem_append_right _ (mem_pinsAt hb e)))).1, fun b hb => ?_, w7⟩
      obtain ⟨o, e, d⟩ := T.obj _ _ st5 b hb
      exact (I7.pin (b, o) (List.mem_append_right _ (List.mem_append_right _ (mem_pinsAt hb e)))).2.1
    cases f with
    | next => obtain ⟨σ7, H7, I7, n7⟩ := q7; exact again I7 n7
    | cont => obtain ⟨σ7, H7, I7, n7⟩ := q7; exact again I7 n7
    | brk => obtain ⟨σ7, H7, I7, q7⟩ := q7; exact ⟨σ7, H7, I7.unpinned, q7⟩
    | ret v => obtain ⟨x7, σ7, H7, I7, r7, q7⟩ := q7; exact ⟨x7, σ7, H7, I7.unpinned, r7, q7⟩
end

theorem for_list {K : PySem.W.Frag} {a : Addr} {xs : List V} {g : TG} {tb : TS} {D : Ends} {σ : St} {H : Hp} (Pv : Nat → St → Hp → Prop) (h0 : Pv 0 σ H) (hl : ∀ i σ H, i ≤ xs.length → Pv i σ H → SqL K H a xs)
    (hs : ∀ i x σ H, xs[i]? = some x → Pv i σ H → g x σ H fun σ2 H2 => tb { D with nx := Pv (i + 1), ct := Pv (i + 1), bk := D.nx } σ2 H2) (hd : ∀ σ H, Pv xs.length σ H → D.nx σ H) :
    ∃ W : Nat → Nat → St → Hp → Prop, (∃ m, W 0 m σ H) ∧ ∀ i m σ H, W i m σ H →
      ((Itl K a).stop i H ∧ D.nx σ H) ∨ ((Itl K a).go i H ∧ ∃ N : St → Hp → Prop, (∀ σ' H', N σ' H' → ∃ m', m' < m ∧ W (i + 1) m' σ' H') ∧ ∀ x H', (Itl K a).yld i H x H' → g x σ H' fun σ2 H2 => tb { D with nx := N, ct := N, bk := D.nx } σ2 H2) := by
  refine ⟨fun i m σ H => m = xs.length - i ∧ i ≤ xs.length ∧ Pv i σ H, ⟨xs.length, by simp, Nat.zero_le _, h0⟩, ?_⟩
  rintro i m σ H ⟨rfl, hi, p⟩
  have q := hl i σ H hi p
  by_cases hlt : i < xs.length
  · refine .inr ⟨⟨xs, xs[i], q, by simp [hlt]⟩, Pv (i + 1), fun σ' H' p' => ⟨xs.length - (i + 1), by omega, rfl, hlt, p'⟩, fun x H' y => ?_⟩
    obtain ⟨e, y⟩ := y
    subst e
    exact hs i x σ _ (y xs q) p
  · have e : i = xs.length := by omega
    subst e
    exact .inl ⟨⟨xs, q, Nat.le_refl _⟩, hd σ H p⟩
theorem for_range {lo : Int} {n : Nat} {g : TG} {tb : TS} {D : Ends} {σ : St} {H : Hp} (Pv : Nat → St → Hp → Prop) (h0 : Pv 0 σ H)
    (hs : ∀ i σ H, i < n → Pv i σ H → g (.int (lo + i)) σ H fun σ2 H2 => tb { D with nx := Pv (i + 1), ct := Pv (i + 1), bk := D.nx } σ2 H2) (hd : ∀ σ H, Pv n σ H → D.nx σ H) :
    ∃ W : Nat → Nat → St → Hp → Prop, (∃ m, W 0 m σ H) ∧ ∀ i m σ H, W i m σ H →
      ((Itr lo n).stop i H ∧ D.nx σ H) ∨ ((Itr lo n).go i H ∧ ∃ N : St → Hp → Prop, (∀ σ' H', N σ' H' → ∃ m', m' < m ∧ W (i + 1) m' σ' H') ∧ ∀ x H', (Itr lo n).yld i H x H' → g x σ H' fun σ2 H2 => tb { D with nx := N, ct := N, bk := D.nx } σ2 H2) := by
  refine ⟨fun i m σ H => m = n - i ∧ i ≤ n ∧ Pv i σ H, ⟨n, by simp, Nat.zero_le _, h0⟩, ?_⟩
  rintro i m σ H ⟨rfl, hi, p⟩
  by_cases hlt : i < n
  · refine .inr ⟨hlt, Pv (i + 1), fun σ' H' p' => ⟨n - (i + 1), by omega, rfl, hlt, p'⟩, fun x H' y => ?_⟩
    obtain ⟨e, y⟩ := y
    subst e y
    exact hs i σ _ hlt p
  · have e : i = n := by omega
    subst e
    exact .inl ⟨Nat.le_refl _, hd σ H p⟩
end L2

namespace L2
open PySem PySem.Spec PyProof.Rows

noncomputable abbrev R2 := V → V → Hp → VK → Prop
noncomputable def OpR (X : Cx) (f : Value → Value → Sem Value) (r : R2) : Prop :=
  ∀ (pins : List (Addr × Obj)) (s : Shared) (σ : St) (H : Hp) (x y : V) (v u : Value) (Q : VK), Inv X pins σ H s → RelV x v → RelV y u → r x y H Q →
    wpAny (model X.prog X.w) X.A (f v u) (EP X pins σ Q) X.xe s
noncomputable def UnR (X : Cx) (f : Value → Sem Value) (r : V → Hp → VK → Prop) : Prop :=
  ∀ (pins : List (Addr × Obj)) (s : Shared) (σ : St) (H : Hp) (x : V) (v : Value) (Q : VK), Inv X pins σ H s → RelV x v → r x H Q →
    wpAny (model X.prog X.w) X.A (f v) (EP X pins σ Q) X.xe s
noncomputable def CallR (X : Cx) (f : Value) (r : List V → Hp → VK → Prop) : Prop :=
  ∀ (pins : List (Addr × Obj)) (s : Shared) (σ : St) (H : Hp) (xs : List V) (us : List Value) (Q : VK), Inv X pins σ H s → Vals xs us → r xs H Q →
    wpAny (model X.prog X.w) X.A (call f us) (EP X pins σ Q) X.xe s
noncomputable def tOp (r : R2) (ta tb : TE) : TE := fun σ H Q => ta σ H fun x H1 => tb σ H1 fun y H2 => r x y H2 Q
noncomputable def tUn (r : V → Hp → VK → Prop) (ta : TE) : TE := fun σ H Q => ta σ H fun x H1 => r x H1 Q
noncomputable def rI (C : Int → Int → Prop) (g : Int → Int → V) : R2 := fun x y H Q => ∃ i j, x = .int i ∧ y = .int j ∧ C i j ∧ Q (g i j) H
noncomputable def rI0 (g : Int → Int → V) : R2 := fun x y H Q => ∃ i j, x = .int i ∧ y = .int j ∧ Q (g i j) H
noncomputable def rU (g : Int → V) : V → Hp → VK → Prop := fun x H Q => ∃ i, x = .int i ∧ Q (g i) H

section
variable {X : Cx} {a b c : Expr} {ta tb tc : TE} {pos : Pos}

theorem binT (ha : PE X a ta) (hb : PE X b tb) {pins : List (Addr × Obj)} {s : Shared} {σ : St} {H : Hp} {R : V → V → Hp → Prop} (I : Inv X pins σ H s)
    (h : ta σ H fun x H1 => tb σ H1 fun y H2 => R x y H2) {Q : Value → Shared → Prop} {f : Value → Value → Sem Value}
    (hf : ∀ v u s2 x y H2, Inv X pins σ H2 s2 → RelV x v → RelV y u → R x y H2 → wpAny (model X.prog X.w) X.A (f v u) Q X.xe s2) :
    wpAny (model X.prog X.w) X.A (eval a X.env) (fun v s₁ => wpAny (model X.prog X.w) X.A (eval b X.env) (fun u s₂ => wpAny (model X.prog X.w) X.A (f v u) Q X.xe s₂) X.xe s₁) X.xe s := by
  refine thn (ha pins s σ H _ I h) fun v s1 ⟨x, H1, I1, r1, q1⟩ => ?_
  refine thn (hb pins s1 σ H1 _ I1 q1) fun u s2 ⟨y, H2, I2, r2, q2⟩ => ?_
  exact hf v u s2 x y H2 I2 r1 r2 q2

theorem pe_op {op : Operator} {r : R2} (ho : OpR X (binaryOp op) r) (ha : PE X a ta) (hb : PE X b tb) : PE X (.BinOp a op b pos) (tOp r ta tb) := by
  intro pins s σ H Q I h
  exact wpAny_BinOp (binT ha hb I h fun v u s2 x y H2 I2 rx ry q => ho pins s2 σ H2 x y v u Q I2 rx ry q)
theorem pe_un {op : UnaryOp} {r : V → Hp → VK → Prop} (ho : UnR X (unaryOp op) r) (ha : PE X a ta) : PE X (.UnaryOp op a pos) (tUn r ta) := by
  intro pins s σ H Q I h
  exact UnaryOp_ (thn (ha pins s σ H _ I h) fun v s1 ⟨x, H1, I1, r1, q1⟩ => ho pins s1 σ H1 x v Q I1 r1 q1)
theorem opI {f : Value → Value → Sem Value} {C : Int → Int → Prop} {g : Int → Int → Int}
    (rule : ∀ (i j : Int) (t u : Tok) (s : Shared) (Q : Value → Shared → Prop) (E : Value → Shared → Prop), C i j → Q (.int (g i j) s.toks) { s with toks := s.toks + 1 } → wpAny (model X.prog X.w) X.A (f (.int i t) (.int j u)) Q E s) :
    OpR X f (rI C fun i j => .int (g i j)) := by
  intro pins s σ H x y v u Q I rx ry h
  obtain ⟨i, j, rfl, rfl, hc, q⟩ := h
  obtain ⟨t, rfl⟩ := rx
  obtain ⟨t', rfl⟩ := ry
  exact rule i j t t' s _ _ hc ⟨.int (g i j), H, I.tok _, ⟨_, rfl⟩, q⟩
theorem opI0 {f : Value → Value → Sem Value} {g : Int → Int → Int}
    (rule : ∀ (i j : Int) (t u : Tok) (s : Shared) (Q : Value → Shared → Prop) (E : Value → Shared → Prop), Q (.int (g i j) s.toks) { s with toks := s.toks + 1 } → wpAny (model X.prog X.w) X.A (f (.int i t) (.int j u)) Q E s) :
    OpR X f (rI0 fun i j => .int (g i j)) := by
  intro pins s σ H x y v u Q I rx ry h
  obtain ⟨i, j, rfl, rfl, q⟩ := h
  obtain ⟨t, rfl⟩ := rx
  obtain ⟨t', rfl⟩ := ry
  exact rule i j t t' s _ _ ⟨.int (g i j), H, I.tok _, ⟨_, rfl⟩, q⟩
theorem opB0 {f : Value → Value → Sem Value} {g : Int → Int → Bool}
    (rule : ∀ (i j : Int) (t u : Tok) (s : Shared) (Q : Value → Shared → Prop) (E : Value → Shared → Prop), Q (.bool (g i j)) s → wpAny (model X.prog X.w) X.A (f (.int i t) (.int j u)) Q E s) :
    OpR X f (rI0 fun i j => .bl (g i j)) := by
  intro pins s σ H x y v u Q I rx ry h
  obtain ⟨i, j, rfl, rfl, q⟩ := h
  obtain ⟨t, rfl⟩ := rx
  obtain ⟨t', rfl⟩ := ry
  exact rule i j t t' s _ _ ⟨.bl (g i j), H, I, rfl, q⟩

noncomputable def CDiv (i j : Int) : Prop := 0 < j ∧ j < 1073741824
noncomputable def CPow (i j : Int) : Prop := 0 ≤ j ∧ j ≤ 1000000 ∧ i.natAbs < 2 ^ 64
noncomputable def CMul (i j : Int) : Prop := (-(2 ^ 64) < i ∧ i < 2 ^ 64) ∨ (-(2 ^ 64) < j ∧ j < 2 ^ 64)
theorem CMul.ok {i j : Int} (h : CMul i j) : IntMulOk i j := by
  rcases h with ⟨h1, h2⟩ | ⟨h1, h2⟩
  · exact .of_left (intBits_le_64 h1 h2)
  · exact .of_right (intBits_le_64 h1 h2)
theorem op_add : OpR X (binaryOp .Add) (rI0 fun i j => .int (i + j)) := opI0 fun _ _ _ _ _ _ _ q => add_int q
theorem op_sub : OpR X (binaryOp .Sub) (rI0 fun i j => .int (i - j)) := opI0 fun _ _ _ _ _ _ _ q => sub_int q
theorem op_mul : OpR X (binaryOp .Mult) (rI CMul fun i j => .int (i * j)) := opI fun _ _ _ _ _ _ _ hc q => mul_int q hc.ok
theorem op_fdiv : OpR X (binaryOp .FloorDiv) (rI CDiv fun i j => .int (i / j)) := opI fun i j _ _ _ _ _ hc q => by
  have h1 : (0 : Int) < j := hc.1
  have h2 : j < 1073741824 := hc.2
  exact floordiv_int (by omega) (by rw [Int.fdiv_eq_ediv_of_nonneg i (by omega)]; exact q) (.inl (PyProof.noPylong_small (by omega)))
theorem op_mod : OpR X (binaryOp .Mod) (rI (fun _ j => 0 < j) fun i j => .int (i % j)) := opI fun i j _ _ _ _ _ hc q => by
  have h1 : (0 : Int) < j := hc
  exact mod_int' (by omega) (by rw [Int.fmod_eq_emod_of_nonneg i (by omega)]; exact q)
theorem op_pow : OpR X (binaryOp .Pow) (rI CPow fun i j => .int (i ^ j.toNat)) := opI fun _ _ _ _ _ _ _ hc q => pow_int_small hc.1 hc.2.1 hc.2.2 q
theorem unI {f : Value → Sem Value} {g : Int → Int}
    (rule : ∀ (i : Int) (t : Tok) (s : Shared) (Q : Value → Shared → Prop) (E : Value → Shared → Prop), Q (.int (g i) s.toks) { s with toks := s.toks + 1 } → wpAny (model X.prog X.w) X.A (f (.int i t)) Q E s) :
    UnR X f (rU fun i => .int (g i)) := by
  intro pins s σ H x v Q I rx h
  obtain ⟨i, rfl, q⟩ := h
  obtain ⟨t, rfl⟩ := rx
  exact rule i t s _ _ ⟨.int (g i), H, I.tok _, ⟨_, rfl⟩, q⟩
theorem un_neg : UnR X (unaryOp .USub) (rU fun i => .int (-i)) := unI fun _ _ _ _ _ q => neg_int q
end

noncomputable def scal : V → V → Bool
  | .non, .non => true | .non, .int _ => true | .int _, .non => true | .non, .bl _ => true | .bl _, .non => true | .non, .str _ => true | .str _, .non => true
  | .int _, .int _ => true | .bl _, .bl _ => true | .str _, .str _ => true | .byt _, .byt _ => true
  | .int _, .str _ => true | .str _, .int _ => true | .bl _, .str _ => true | .str _, .bl _ => true
  | _, _ => false
noncomputable def rEq : R2 := fun x y H Q => scal x y = true ∧ Q (.bl (decide (x = y))) H
noncomputable def rNe : R2 := fun x y H Q => scal x y = true ∧ Q (.bl (!decide (x = y))) H

theorem dec_int {i j : Int} : decide (V.int i = V.int j) = (i == j) := by
  rw [Bool.eq_iff_iff]
  simp
theorem dec_bl {i j : Bool} : decide (V.bl i = V.bl j) = (i == j) := by
  rw [Bool.eq_iff_iff]
  simp
theorem dec_str {i j : Str} : decide (V.str i = V.str j) = (i == j) := by
  rw [Bool.eq_iff_iff]
  simp
theorem dec_byt {i j : Array UInt8} : decide (V.byt i = V.byt j) = (i.toList == j.toList) := by
  rw [Bool.eq_iff_iff]
  cases i
  cases j
  simp

section
variable {X : Cx} {a b c : Expr} {ta tb tc : TE} {pos : Pos}
theorem fin_bl {pins : List (Addr × Obj)} {σ : St} {H : Hp} {s : Shared} {Q : VK} {k k' : Bool} (I : Inv X pins σ H s) (q : Q (.bl k) H) (e : k = k') : EP X pins σ Q (.bool k') s := by
  subst e
  exact ⟨.bl k, H, I, rfl, q⟩
theorem op_eq : OpR X (compareOp .Eq) rEq := by
  intro pins s σ H x y v u Q I rx ry h
  obtain ⟨hs, q⟩ := h
  cases x with
  | non =>
    cases rx
    cases y with
    | non => cases ry; exact PySem.EqNone.eq_none_none (fin_bl I q (by simp))
    | bl j => cases ry; exact PySem.EqNone.eq_none_bool (fin_bl I q (by simp))
    | int j => obtain ⟨t', rfl⟩ := ry; exact PySem.EqNone.eq_none_int (fin_bl I q (by simp))
    | str j => obtain ⟨t', rfl⟩ := ry; exact PySem.EqNone.eq_none_str (fin_bl I q (by simp))
    | _ => exact absurd (show false = true from hs) Bool.false_ne_true
  | bl i =>
    cases rx
    cases y with
    | non => cases ry; exact PySem.EqNone.eq_bool_none (fin_bl I q (by simp))
    | bl j => cases ry; exact eq_bool (fin_bl I q dec_bl)
    | str j => obtain ⟨t', rfl⟩ := ry; exact PySem.EqMixed.eq_bool_str (fin_bl I q (by simp))
    | _ => exact absurd (show false = true from hs) Bool.false_ne_true
  | int i =>
    obtain ⟨t, rfl⟩ := rx
    cases y with
    | non => cases ry; exact PySem.EqNone.eq_int_none (fin_bl I q (by simp))
    | int j => obtain ⟨t', rfl⟩ := ry; exact eq_int (fin_bl I q dec_int)
    | str j => obtain ⟨t', rfl⟩ := ry; exact PySem.EqMixed.eq_int_str (fin_bl I q (by simp))
    | _ => exact absurd (show false = true from hs) Bool.false_ne_true
  | str i =>
    obtain ⟨t, rfl⟩ := rx
    cases y with
    | non => cases ry; exact PySem.EqNone.eq_str_none (fin_bl I q (by simp))
    | bl j => cases ry; exact PySem.EqMixed.eq_str_bool (fin_bl I q (by simp))
    | int j => obtain ⟨t', rfl⟩ := ry; exact PySem.EqMixed.eq_str_int (fin_bl I q (by simp))
    | str j => obtain ⟨t', rfl⟩ := ry; exact eq_str (fin_bl I q dec_str)
    | _ => exact absurd (show false = true from hs) Bool.false_ne_true
  | byt i =>
    obtain ⟨t, rfl⟩ := rx
    cases y with
    | byt j => obtain ⟨t', rfl⟩ := ry; exact PySem.W.eq_bytes (fin_bl I q dec_byt)
    | _ => exact absurd (show false = true from hs) Bool.false_ne_true
  | _ => cases y <;> exact absurd (show false = true from hs) Bool.false_ne_true
theorem op_ne : OpR X (compareOp .NotEq) rNe := by
  intro pins s σ H x y v u Q I rx ry h
  obtain ⟨hs, q⟩ := h
  cases x with
  | non =>
    cases rx
    cases y with
    | non => cases ry; exact PySem.EqNone.ne_none_none (fin_bl I q (by simp))
    | bl j => cases ry; exact PySem.EqNone.ne_none_bool (fin_bl I q (by simp))
    | int j => obtain ⟨t', rfl⟩ := ry; exact PySem.EqNone.ne_none_int (fin_bl I q (by simp))
    | str j => obtain ⟨t', rfl⟩ := ry; exact PySem.EqNone.ne_none_str (fin_bl I q (by simp))
    | _ => exact absurd (show false = true from hs) Bool.false_ne_true
  | bl i =>
    cases rx
    cases y with
    | non => cases ry; exact PySem.EqNone.ne_bool_none (fin_bl I q (by simp))
    | bl j => cases ry; exact ne_bool (fin_bl I q (congrArg not dec_bl))
    | str j => obtain ⟨t', rfl⟩ := ry; exact PySem.EqMixed.ne_bool_str (fin_bl I q (by simp))
    | _ => exact absurd (show false = true from hs) Bool.false_ne_true
  | int i =>
    obtain ⟨t, rfl⟩ := rx
    cases y with
    | non => cases ry; exact PySem.EqNone.ne_int_none (fin_bl I q (by simp))
    | int j => obtain ⟨t', rfl⟩ := ry; exact ne_int (fin_bl I q (congrArg not dec_int))
    | str j => obtain ⟨t', rfl⟩ := ry; exact PySem.EqMixed.ne_int_str (fin_bl I q (by simp))
    | _ => exact absurd (show false = true from hs) Bool.false_ne_true
  | str i =>
    obtain ⟨t, rfl⟩ := rx
    cases y with
    | non => cases ry; exact PySem.EqNone.ne_str_none (fin_bl I q (by simp))
    | bl j => cases ry; exact PySem.EqMixed.ne_str_bool (fin_bl I q (by simp))
    | int j => obtain ⟨t', rfl⟩ := ry; exact PySem.EqMixed.ne_str_int (fin_bl I q (by simp))
    | str j => obtain ⟨t', rfl⟩ := ry; exact ne_str (fin_bl I q (congrArg not dec_str))
    | _ => exact absurd (show false = true from hs) Bool.false_ne_true
  | byt i =>
    obtain ⟨t, rfl⟩ := rx
    cases y with
    | byt j => obtain ⟨t', rfl⟩ := ry; exact PySem.W.ne_bytes (fin_bl I q (congrArg not dec_byt))
    | _ => exact absurd (show false = true from hs) Bool.false_ne_true
  | _ => cases y <;> exact absurd (show false = true from hs) Bool.false_ne_true

theorem op_lt : OpR X (compareOp .Lt) (rI0 fun i j => .bl (decide (i < j))) := opB0 fun _ _ _ _ _ _ _ q => lt_int q
theorem op_le : OpR X (compareOp .LtE) (rI0 fun i j => .bl (decide (i ≤ j))) := opB0 fun _ _ _ _ _ _ _ q => le_int q
theorem op_gt : OpR X (compareOp .Gt) (rI0 fun i j => .bl (decide (j < i))) := opB0 fun _ _ _ _ _ _ _ q => gt_int q
theorem op_in_str : OpR X (compareOp .In) (fun x y H Q => ∃ i j, x = .str i ∧ y = .str j ∧ Q (.bl (!(Builtin.Str.occurrences j i 0 j.length 1).isEmpty)) H) := by
  intro pins s σ H x y v u Q I rx ry h
  obtain ⟨i, j, rfl, rfl, q⟩ := h
  obtain ⟨t, rfl⟩ := rx
  obtain ⟨t', rfl⟩ := ry
  exact in_str (fin_bl I q rfl)

theorem nomark (b : Expr) {op : CmpOp} (h : op ≠ .In := by decide) (h2 : op ≠ .NotIn := by decide) : behindInMarks op b = false := by
  have e1 : (op == CmpOp.In) = false := by cases op <;> first | rfl | exact absurd rfl h
  have e2 : (op == CmpOp.NotIn) = false := by cases op <;> first | rfl | exact absurd rfl h2
  cases b <;> simp [behindInMarks, e1, e2]
theorem pe_cmpR {op : CmpOp} {r : R2} (ho : OpR X (compareOp op) r) (ha : PE X a ta) (hb : PE X b tb) (hm : behindInMarks op b = false) : PE X (.Compare a [op] [b] pos) (tOp r ta tb) := by
  intro pins s σ H Q I h
  exact wpAny_Compare1 (binT ha hb I h fun v u s2 x y H2 I2 rx ry q => ho pins s2 σ H2 x y v u Q I2 rx ry q) hm
noncomputable def tTest (t : TE) : TT := fun σ H Q => t σ H fun x H' => ∃ k, x = .bl k ∧ Q k H'
theorem pt_cmpR {op : CmpOp} {r : R2} (ho : OpR X (compareOp op) r) (ha : PE X a ta) (hb : PE X b tb) (hm : behindInMarks op b = false) : PT X (.Compare a [op] [b] pos) (tTest (tOp r ta tb)) := by
  intro pins s σ H Q I h
  refine wpAny_isTrue_Compare1 (thn (ha pins s σ H _ I h) fun v s1 ⟨x, H1, I1, r1, q1⟩ => thn (hb pins s1 σ H1 _ I1 q1) fun u s2 ⟨y, H2, I2, r2, q2⟩ =>
    thn (ho pins s2 σ H2 x y v u _ I2 r1 r2 q2) fun c s3 ⟨z, H3, I3, r3, k, e, q3⟩ => ?_) hm
  subst e
  cases r3
  exact wpAny_truthy_bool ⟨H3, I3, q3⟩
noncomputable def tChain (r r' : R2) (ta tb tc : TE) : TE := fun σ H Q => ta σ H fun x H1 => tb σ H1 fun y H2 => r x y H2 fun z H3 => ∃ k, z = .bl k ∧
  (if k = true then tc σ H3 fun w' H4 => r' y w' H4 Q else Q (.bl false) H3)
theorem pe_chain {op op' : CmpOp} {r r' : R2} (ho : OpR X (compareOp op) r) (ho' : OpR X (compareOp op') r') (ha : PE X a ta) (hb : PE X b tb) (hc : PE X c tc)
    (hm : lastMarks [op, op'] [b, c] = false := by with_unfolding_all rfl) : PE X (.Compare a [op, op'] [b, c] pos) (tChain r r' ta tb tc) := by
  intro pins s σ H Q I h
  refine Compare_chain (thn (ha pins s σ H _ I h) fun v s1 ⟨x, H1, I1, r1, q1⟩ => chain_link (thn (hb pins s1 σ H1 _ I1 q1) fun u s2 ⟨y, H2, I2, r2, q2⟩ =>
    thn (ho pins s2 σ H2 x y v u _ I2 r1 r2 q2) fun d s3 ⟨z, H3, I3, r3, k, e, q3⟩ => ?_)) hm
  subst e
  cases r3
  refine wpAny_truthy_bool ?_
  cases k with
  | false => exact ite_ff ⟨.bl false, H3, I3, rfl, q3⟩
  | true => exact ite_tt (chain_last (thn (hc pins s3 σ H3 _ I3 q3) fun w' s4 ⟨z', H4, I4, r4, q4⟩ => ho' pins s4 σ H4 y z' u w' Q I4 r2 r4 q4))
theorem pt_chain {op op' : CmpOp} {r r' : R2} (ho : OpR X (compareOp op) r) (ho' : OpR X (compareOp op') r') (ha : PE X a ta) (hb : PE X b tb) (hc : PE X c tc)
    (hm : lastMarks [op, op'] [b, c] = false := by with_unfolding_all rfl) : PT X (.Compare a [op, op'] [b, c] pos) (tTest (tChain r r' ta tb tc)) := by
  intro pins s σ H Q I h
  refine isTrue_chain (thn (ha pins s σ H _ I h) fun v s1 ⟨x, H1, I1, r1, q1⟩ => test_link (thn (hb pins s1 σ H1 _ I1 q1) fun u s2 ⟨y, H2, I2, r2, q2⟩ =>
    thn (ho pins s2 σ H2 x y v u _ I2 r1 r2 q2) fun d s3 ⟨z, H3, I3, r3, k, e, q3⟩ => ?_)) hm
  subst e
  cases r3
  refine wpAny_truthy_bool ?_
  cases k with
  | false =>
    obtain ⟨k', e', q'⟩ := q3
    cases e'
    exact ite_ff ⟨H3, I3, q'⟩
  | true =>
    refine ite_tt (test_last (thn (hc pins s3 σ H3 _ I3 q3) fun w' s4 ⟨z', H4, I4, r4, q4⟩ => thn (ho' pins s4 σ H4 y z' u w' _ I4 r2 r4 q4) fun d' s5 ⟨z2, H5, I5, r5, k2, e2, q5⟩ => ?_))
    subst e2
    cases r5
    exact wpAny_truthy_bool ⟨H5, I5, q5⟩

theorem line63 : (sizeLine : Nat) < 2 ^ 63 := by rw [sizeLine_eq]; decide
theorem op_add_str : OpR X (binaryOp .Add) (fun x y H Q => ∃ i j, x = .str i ∧ y = .str j ∧ i.length + j.length ≤ sizeLine ∧ Q (.str (i ++ j)) H) := by
  intro pins s σ H x y v u Q I rx ry h
  obtain ⟨i, j, rfl, rfl, hz, q⟩ := h
  obtain ⟨t, rfl⟩ := rx
  obtain ⟨t', rfl⟩ := ry
  exact add_str (fun t' tk => ⟨.str (i ++ j), H, I.tok _, ⟨_, rfl⟩, q⟩) hz
theorem vals1 {x : V} {us : List Value} (r : Vals [x] us) : ∃ u, us = [u] ∧ RelV x u := by
  cases r with
  | cons r1 r2 => cases r2; exact ⟨_, rfl, r1⟩
theorem vals2 {x y : V} {us : List Value} (r : Vals [x, y] us) : ∃ u w', us = [u, w'] ∧ RelV x u ∧ RelV y w' := by
  cases r with
  | cons r1 r2 =>
    cases r2 with
    | cons r3 r4 => cases r4; exact ⟨_, _, rfl, r1, r3⟩
theorem call_abs : CallR X (.builtin "abs") (fun xs H Q => ∃ i, xs = [.int i] ∧ Q (.int (if i < 0 then -i else i)) H) := by
  intro pins s σ H xs us Q I r h
  obtain ⟨i, rfl, q⟩ := h
  obtain ⟨u, rfl, t, rfl⟩ := vals1 r
  exact call_abs_int fun u tk => ⟨.int (if i < 0 then -i else i), H, I.tok _, ⟨_, rfl⟩, q⟩
theorem call_int1 : CallR X (.type "int") (fun xs H Q => (∃ i, xs = [.int i] ∧ Q (.int i) H) ∨ ∃ k, xs = [.bl k] ∧ Q (.int (if k then 1 else 0)) H) := by
  intro pins s σ H xs us Q I r h
  rcases h with ⟨i, rfl, q⟩ | ⟨k, rfl, q⟩
  · obtain ⟨u, rfl, t, rfl⟩ := vals1 r
    exact call_int_int ⟨.int i, H, I, ⟨_, rfl⟩, q⟩
  · obtain ⟨u, rfl, r1⟩ := vals1 r
    cases r1
    exact call_int_bool ⟨.int (if k then 1 else 0), H, I.tok _, ⟨_, rfl⟩, q⟩
end
end L2

namespace L2
open PySem PySem.Spec PyProof.Rows

structure ObjM (h : Heap) (x dx C : Addr) (mA : Str → Option Value) : Prop where
  obj : h.get? x = some (PySem.W.instObj C dx)
  ns : h.Ns1 dx mA
  ne : dx ≠ x

theorem lookIn_ns {h : Heap} {dx : Addr} {mA : Str → Option Value} (n : h.Ns1 dx mA) : ∃ od, h.get? dx = some od ∧ ∀ name, PySem.W.lookIn name od = some (mA name) := by
  obtain ⟨o, es, ep, ho, hd, hk, _, hm⟩ := n
  refine ⟨o, ho, fun name => ?_⟩
  have e := hm name
  unfold nsFind findBy at e
  rw [← Array.find?_toList] at e
  unfold PySem.W.lookIn
  rw [hd]
  dsimp only
  split
  · rename_i y q
    rw [q] at e
    exact congrArg some e
  · rename_i q
    rw [q] at e
    have a : es.toList.any (·.refKey) = false := by
      rw [List.any_eq_false]
      intro y hy
      obtain ⟨z, t, hkey⟩ := hk y (Array.mem_toList_iff.mp hy)
      simp [DictEntry.refKey, hkey]
    have a' : ¬ es.toList.any (·.refKey) = true := by rw [a]; exact Bool.false_ne_true
    rw [if_neg a']
    exact congrArg some e

theorem ObjM.look {h : Heap} {x dx C : Addr} {mA : Str → Option Value} (I : ObjM h x dx C mA) : ∃ od, PySem.W.InstAt h x (PySem.W.instObj C dx) C (some od) ∧ ∀ name, PySem.W.lookIn name od = some (mA name) :=
  let ⟨od, ho, hl⟩ := lookIn_ns I.ns
  ⟨od, ⟨I.obj, rfl, rfl, ho⟩, hl⟩

section
variable {prog : Program} {w : World} {A : Around} {E : Value → Shared → Prop} {s : Shared} {K : PySem.W.Frag} {x dx C f : Addr} {mA : Str → Option Value} {name : Str} {v : Value}

theorem get_map {expr : Bool} {Q : Value → Shared → Prop} (X : K.In s.heap) (I : ObjM s.heap x dx C mA) (hg : PySem.W.plainGet K C name = true) (hh : PySem.W.hasDictIn K C = true)
    (ha : PySem.W.findIn K (.ref C) name = some none) (hv : mA name = some v) (hv' : PySem.W.handedIn v = true) (h : Q v { s with toks := s.toks + 1 }) :
    wpAny (model prog w) A (getAttr (.ref x) name expr) Q E s := by
  obtain ⟨od, J, hl⟩ := I.look
  exact PySem.W.get_value X J (PySem.W.plainGet_of hg).1 (PySem.W.findObj_own hh ha rfl (by rw [hl, hv])) hv' h

theorem get_meth {pl : Sem Bool} {Q : Value × List Value → Shared → Prop} (X : K.In s.heap) (I : ObjM s.heap x dx C mA) (hg : PySem.W.plainGet K C name = true)
    (hf : PySem.W.findIn K (.ref C) name = some (some (.ref f))) (ht : PySem.W.isFn K (.ref f) = true) (hv : mA name = none) (h : Q (.ref f, [.ref x]) s) :
    wpAny (model prog w) A (getMethod (.ref x) name pl) Q E s := by
  obtain ⟨od, J, hl⟩ := I.look
  exact PySem.W.method_fn X J (PySem.W.plainGet_of hg).1 (PySem.W.plainGet_of hg).2 hf (beq_iff_eq.mp ht) (by show (PySem.W.lookIn name od).map (·.isSome) = some false; rw [hl, hv]; rfl) h

theorem set_map {ns : List Str} {Q : Unit → Shared → Prop} (X : K.In s.heap) (I : ObjM s.heap x dx C mA)
    (hs : PySem.W.findIn K (.ref C) "__setattr__" = some (some (.builtin "object.__setattr__"))) (hp : PySem.W.plainOver K C = true) (ht : PySem.W.takerIn K C name = some none) (hh : PySem.W.hasDictIn K C = true)
    (hw : PySem.Within mA ns) (hsz : ns.length ≤ sizeLine)
    (h : ∀ h', ObjM h' x dx C (fun y => if y = name then some v else mA y) → Heap.SameBut dx s.heap h' → Q () { s with heap := h', toks := s.toks + 2 }) :
    wpAny (model prog w) A (setAttr (.ref x) name v) Q E s := by
  obtain ⟨od, J, hl⟩ := I.look
  refine PySem.W.set_plain X J hs (PySem.W.osa_open (s := { s with toks := s.toks + 1 }) (r := none) X J hp ht fun b => ?_)
  obtain ⟨cd, hc, hd'⟩ := PySem.W.any_some hh
  have hx : s.heap.get? x = some ⟨.ref C, some dx, .plain, #[]⟩ := I.obj
  refine wpAny_bind (wpAny_pure (wpAny_bind (wpAny_bind (wpAny_loadPart hx (wpAny_bind (PySem.W.Looks.here (s := { s with toks := s.toks + 1 }) (PySem.W.looks_clsIn X hc) ?_))))))
  rw [hd']
  refine wpAny_pure (a := some dx) (wpAny_bind (wpAny_pure (wpAny_bind ?_)))
  refine wpAny_nsSet1 (s := { s with toks := s.toks + 1 }) I.ns fun h' hn2 hs2 => ?_
  obtain ⟨oD, esD, epD, hoD, hdD, hcD⟩ := hn2.count (PySem.Within.cons name v hw)
  refine wpAny_bind (wpAny_lookBehind hoD (by rw [hdD]; exact pastItsLine_dict (Nat.le_trans hcD (by rw [List.length_cons]; omega))) ?_)
  exact wpAny_pure (h _ ⟨(hs2.2 _ (Ne.symm I.ne)).trans I.obj, hn2, I.ne⟩ hs2)

theorem make_map {R : Result → Shared → Prop} {vs : List Value} {kw : List (Str × Value)} (X : K.In s.heap) (hm : PySem.W.makesIn K C = true)
    (hi : PySem.W.findIn K (.ref C) "__init__" = some (some (.ref f))) (hf : PySem.W.typeIn K (.ref f) = some (.type "function"))
    (h : codeAny (model prog w) (A.under (.builtin "type.__call__" ⟨.ref C :: vs, kw⟩)) (.call (.ref f) ⟨.ref (s.heap.objs.size + 1) :: vs, kw⟩) (PySem.W.InitBack (s.heap.objs.size + 1) R)
      { s with heap := (s.heap.push PySem.W.emptyDict).push (PySem.W.instObj C s.heap.objs.size) }) :
    codeAny (model prog w) A (.call (.ref C) ⟨vs, kw⟩) R s := by
  obtain ⟨hh, g, d, t, os⟩ := s
  exact PySem.W.make_core (PySem.W.makes_of X hm) (PySem.W.looks_findIn X hi) (fun self => PySem.W.bind_fn X self hf) (.inl rfl) h
end

noncomputable def putF (f : Str) (v : V) : List (Str × V) → List (Str × V)
  | [] => [(f, v)]
  | (g, x) :: r => if g = f then (g, v) :: r else (g, x) :: putF f v r
theorem lookup_putF (f g : Str) (v : V) : ∀ fs : List (Str × V), (putF f v fs).lookup g = if g = f then some v else fs.lookup g
  | [] => by
    show List.lookup g [(f, v)] = _
    by_cases h : g = f
    · have hb : (g == f) = true := beq_iff_eq.mpr h
      simp only [List.lookup, hb, if_pos h]
    · have hb : (g == f) = false := beq_eq_false_iff_ne.mpr h
      simp only [List.lookup, hb, if_neg h]
  | (k, x) :: r => by
    have ih := lookup_putF f g v r
    rw [show putF f v ((k, x) :: r) = (if k = f then (k, v) :: r else (k, x) :: putF f v r) from rfl]
    by_cases hk : k = f
    · rw [if_pos hk]
      by_cases h : g = k
      · have hb : (g == k) = true := beq_iff_eq.mpr h
        simp only [List.lookup, hb, if_pos (h.trans hk)]
      · have hb : (g == k) = false := beq_eq_false_iff_ne.mpr h
        simp only [List.lookup, hb, if_neg (fun e : g = f => h (e.trans hk.symm))]
    · rw [if_neg hk]
      by_cases h : g = k
      · have hb : (g == k) = true := beq_iff_eq.mpr h
        simp only [List.lookup, hb, if_neg (fun e : g = f => hk (h.symm.trans e))]
      · have hb : (g == k) = false := beq_eq_false_iff_ne.mpr h
        simp only [List.lookup, hb]
        exact ih
theorem keys_putF (f : Str) (v : V) : ∀ fs : List (Str × V), f ∈ (putF f v fs).map (·.1) ∧ ∀ g, g ∈ fs.map (·.1) → g ∈ (putF f v fs).map (·.1)
  | [] => ⟨by simp [putF], fun g h => by simp at h⟩
  | (k, x) :: r => by
    obtain ⟨i1, i2⟩ := keys_putF f v r
    rw [show putF f v ((k, x) :: r) = (if k = f then (k, v) :: r else (k, x) :: putF f v r) from rfl]
    by_cases hk : k = f
    · rw [if_pos hk]
      subst hk
      exact ⟨by simp, fun g h => by simpa using h⟩
    · rw [if_neg hk]
      refine ⟨?_, fun g h => ?_⟩
      · rw [List.map_cons]
        exact List.mem_cons_of_mem _ i1
      · rw [List.map_cons] at h ⊢
        rcases List.mem_cons.mp h with e | e
        · exact List.mem_cons.mpr (.inl e)
        · exact List.mem_cons_of_mem _ (i2 g e)
theorem length_putF (f : Str) (v : V) : ∀ fs : List (Str × V), (putF f v fs).length ≤ fs.length + 1
  | [] => by simp [putF]
  | (k, x) :: r => by
    have ih := length_putF f v r
    rw [show putF f v ((k, x) :: r) = (if k = f then (k, v) :: r else (k, x) :: putF f v r) from rfl]
    by_cases hk : k = f
    · rw [if_pos hk, List.length_cons, List.length_cons]; omega
    · rw [if_neg hk, List.length_cons, List.length_cons]; omega

theorem RelO.some_of {v : V} {o : Option Value} (r : RelO (some v) o) : ∃ u, o = some u ∧ RelV v u := by
  cases o with
  | none => exact (show False from r).elim
  | some u => exact ⟨u, rfl, r⟩
theorem RelO.none_of {o : Option Value} (r : RelO none o) : o = none := by
  cases o with
  | none => rfl
  | some u => exact (show False from r).elim
theorem handed_of {v : V} {u : Value} (r : RelV v u) : PySem.W.handedIn u = true := by
  cases v with
  | non => cases (show u = Value.none from r); rfl
  | bl b => cases (show u = Value.bool b from r); rfl
  | int i => obtain ⟨t, e⟩ := (show ∃ t, u = Value.int i t from r); cases e; rfl
  | str x => obtain ⟨t, e⟩ := (show ∃ t, u = Value.str x t from r); cases e; rfl
  | byt b => obtain ⟨t, e⟩ := (show ∃ t, u = Value.bytes b t from r); cases e; rfl
  | flt b => obtain ⟨t, e⟩ := (show ∃ t, u = Value.float b t from r); cases e; rfl
  | ref a => cases (show u = Value.ref a from r); rfl
  | ty n => cases (show u = Value.type n from r); rfl

section
variable {P : Program} {w : World} {H H' : Hp} {h h' : Heap} {a C dx : Addr} {fs fs' : List (Str × V)}
theorem ins_get (hok : HOk P w H h) (e : H a = some (.ins C dx fs)) : ∃ mA, ObjM h a dx C mA ∧ (∀ f, RelO (fs.lookup f) (mA f)) ∧ PySem.Within mA (fs.map (·.1)) ∧ fs.length ≤ 1000 ∧ H dx = some (.own a) := by
  obtain ⟨d, z, ne, ob, mA, n, r, q⟩ := (show ObjOk P w H h a (.ins C dx fs) from hok a _ e)
  exact ⟨mA, ⟨ob, n, ne⟩, r, q, z, d⟩
end

structure Cls (K : PySem.W.Frag) (C : Addr) : Prop where
  pg : PySem.W.plainGet K C Str.empty = true
  hd : PySem.W.hasDictIn K C = true
  po : PySem.W.plainOver K C = true
  sa : PySem.W.findIn K (.ref C) "__setattr__" = some (some (.builtin "object.__setattr__"))
theorem Cls.get {K : PySem.W.Frag} {C : Addr} (c : Cls K C) (f : Str) : PySem.W.plainGet K C f = true := c.pg
noncomputable def NoAttr (K : PySem.W.Frag) (C : Addr) (f : Str) : Prop := PySem.W.findIn K (.ref C) f = some none
theorem NoAttr.taker {K : PySem.W.Frag} {C : Addr} {f : Str} (n : NoAttr K C f) : PySem.W.takerIn K C f = some none := by
  unfold PySem.W.takerIn
  rw [show PySem.W.findIn K (.ref C) f = some none from n]
  rfl
structure Con (K : PySem.W.Frag) (C : Addr) (f : Str) (v : V) (u : Value) : Prop where
  at_ : PySem.W.findIn K (.ref C) f = some (some u)
  rel : RelV v u
  get : PySem.W.specialIn K u "__get__" = some none
  cp : PySem.W.copiedNames.contains f = false
structure Meth (K : PySem.W.Frag) (C : Addr) (m : Str) (f : Addr) : Prop where
  at_ : PySem.W.findIn K (.ref C) m = some (some (.ref f))
  fn : PySem.W.isFn K (.ref f) = true
  kp : PySem.W.keepIn K (.ref f) = true

section
variable {X : Cx} {pins : List (Addr × Obj)} {σ : St} {H : Hp} {s : Shared} {a C dx : Addr} {fs : List (Str × V)} {f : Str} {v : V} {A : Around} {E : Value → Shared → Prop}

theorem getattr_ok {b : Bool} {Q : Value → Shared → Prop} (I : Inv X pins σ H s) (e : H a = some (.ins C dx fs)) (c : Cls X.K C) (n : NoAttr X.K C f) (l : fs.lookup f = some v)
    (h : ∀ u s', Inv X pins σ H s' → RelV v u → Q u s') : wpAny (model X.prog X.w) A (getAttr (.ref a) f b) Q E s := by
  obtain ⟨mA, O, r, _, _, _⟩ := ins_get I.hok e
  obtain ⟨u, hu, ru⟩ := RelO.some_of (v := v) (o := mA f) (by rw [← l]; exact r f)
  exact get_map I.kIn O (c.get f) c.hd n hu (handed_of ru) (h u _ (I.tok _) ru)

theorem getmeth_ok {m : Str} {g : Addr} {pl : Sem Bool} {Q : Value × List Value → Shared → Prop} (I : Inv X pins σ H s) (e : H a = some (.ins C dx fs)) (c : Cls X.K C) (k : Meth X.K C m g) (l : fs.lookup m = none)
    (h : Q (.ref g, [.ref a]) s) : wpAny (model X.prog X.w) A (getMethod (.ref a) m pl) Q E s := by
  obtain ⟨mA, O, r, _, _, _⟩ := ins_get I.hok e
  have hn : mA m = none := RelO.none_of (by rw [← l]; exact r m)
  exact get_meth I.kIn O (c.get m) k.at_ k.fn hn h

theorem setattr_ok {y : V} {u : Value} {Q : Unit → Shared → Prop} (I : Inv X pins σ H s) (e : H a = some (.ins C dx fs)) (c : Cls X.K C) (n : NoAttr X.K C f) (hl : fs.length < 1000) (ry : RelV y u)
    (h : ∀ s', Inv X pins σ (upd H a (.ins C dx (putF f y fs))) s' → Q () s') : wpAny (model X.prog X.w) A (setAttr (.ref a) f u) Q E s := by
  obtain ⟨mA, O, r, wi, _, ho⟩ := ins_get I.hok e
  have hz : (fs.map (·.1)).length ≤ sizeLine := by rw [List.length_map, sizeLine_eq]; omega
  refine set_map I.kIn O c.sa c.po n.taker c.hd wi hz fun h' O' sb => h _ ?_
  have hd : ∃ o, h'.get? dx = some o := let ⟨o, _, _, e', _⟩ := O'.ns; ⟨o, e'⟩
  refine I.write (x := a) (e := dx) (by rw [e]; exact True.intro) (.inr ho) (fun b q hb z => (sb.2 b hb).trans z) hd ?_
  refine ⟨by rw [upd_ne O.ne]; exact ho, ?_, O.ne, O'.obj, _, O'.ns, fun g => ?_, fun g hg => ?_⟩
  · have := length_putF f y fs; omega
  · show RelO ((putF f y fs).lookup g) (if g = f then some u else mA g)
    rw [lookup_putF]
    by_cases q : g = f
    · rw [if_pos q, if_pos q]; exact ry
    · rw [if_neg q, if_neg q]; exact r g
  · by_cases q : g = f
    · rw [q]; exact (keys_putF f y fs).1
    · refine (keys_putF f y fs).2 g (wi g fun z => hg ?_)
      show (if g = f then some u else mA g) = none
      rw [if_neg q]; exact z

theorem Inv.made (I : Inv X pins σ H s) : Inv X pins σ (upd (upd H s.heap.objs.size (.own (s.heap.objs.size + 1))) (s.heap.objs.size + 1) (.ins C s.heap.objs.size []))
    { s with heap := (s.heap.push PySem.W.emptyDict).push (PySem.W.instObj C s.heap.objs.size) } := by
  have e1 : (s.heap.push PySem.W.emptyDict).get? s.heap.objs.size = some PySem.W.emptyDict := Heap.get?_push_size s.heap rfl
  have e2 : ((s.heap.push PySem.W.emptyDict).push (PySem.W.instObj C s.heap.objs.size)).get? (s.heap.objs.size + 1) = some (PySem.W.instObj C s.heap.objs.size) := by
    have := Heap.get?_push_size (s.heap.push PySem.W.emptyDict) (o := PySem.W.instObj C s.heap.objs.size) rfl
    rwa [Heap.size_push] at this
  have e3 : (s.heap.push PySem.W.emptyDict).Ns s.heap.objs.size (fun _ => none) := ⟨PySem.W.emptyDict, #[], _, e1, rfl, (fun e he => absurd he (by simp)), fun _ => rfl⟩
  have I1 := I.laid (a := s.heap.objs.size) (o := .own (s.heap.objs.size + 1)) (h' := s.heap.push PySem.W.emptyDict) (t' := s.toks) (fun b u q => Heap.get?_push_of_some _ q) (Nat.le_refl _) ⟨_, e1⟩
  refine I1.laid (a := s.heap.objs.size + 1) (o := .ins C s.heap.objs.size []) (t' := s.toks) (fun b u q => Heap.get?_push_of_some _ q) (Nat.le_of_eq (Heap.size_push _ _)) ?_
  have ne : s.heap.objs.size ≠ s.heap.objs.size + 1 := Nat.ne_of_lt (Nat.lt_succ_self _)
  refine ⟨by rw [upd_ne ne, upd_same], Nat.zero_le _, ne, e2, fun _ => none, (Heap.Ns1.of_empty e3).at fun o q => Heap.get?_push_of_some _ q, fun _ => True.intro, fun y hy => absurd rfl hy⟩

theorem attr_of {prog : Program} {w : World} {env : Env} {e : Expr} {f : Str} {pos : Pos} {s : Shared} {Q : Value → Shared → Prop} (hb : attributeBase e f env (eval e env) = eval e env)
    (h : wpAny (model prog w) A (eval e env) (fun o s₁ => wpAny (model prog w) A (getAttr o f true) Q E s₁) E s) : wpAny (model prog w) A (eval (.Attribute e f pos) env) Q E s :=
  Attribute_any_ h (by rw [arm_eval_Attribute, hb])
end

noncomputable def tFld (K : PySem.W.Frag) (ta : TE) (f : Str) : TE := fun σ H Q => ta σ H fun x H1 => ∃ a C dx fs v, x = .ref a ∧ H1 a = some (.ins C dx fs) ∧ Cls K C ∧ NoAttr K C f ∧ fs.lookup f = some v ∧ Q v H1
noncomputable def sFld (K : PySem.W.Frag) (ta tv : TE) (f : Str) : TS := fun D σ H => tv σ H fun y H1 => ta σ H1 fun x H2 => ∃ a C dx fs, x = .ref a ∧ H2 a = some (.ins C dx fs) ∧ Cls K C ∧ NoAttr K C f ∧ fs.length < 1000 ∧
  D.nx σ (upd H2 a (.ins C dx (putF f y fs)))
noncomputable def InOp (X : Cx) (op : Operator) (rd : V → V → Hp → VK → Prop) : Prop :=
  ∀ (pins : List (Addr × Obj)) (s : Shared) (σ : St) (H : Hp) (x y : V) (u v : Value) (Q : VK), Inv X pins σ H s → RelV x u → RelV y v → rd x y H Q → wpAny (model X.prog X.w) X.A (inplaceOp op u v) (EP X pins σ Q) X.xe s
noncomputable def sFldAug (K : PySem.W.Frag) (ta tv : TE) (rd : V → V → Hp → VK → Prop) (f : Str) : TS := fun D σ H => ta σ H fun x H1 => ∃ a C dx fs v, x = .ref a ∧ H1 a = some (.ins C dx fs) ∧ Cls K C ∧ NoAttr K C f ∧ fs.lookup f = some v ∧
  tv σ H1 fun y H2 => rd v y H2 fun z H3 => ∃ dx' fs', H3 a = some (.ins C dx' fs') ∧ fs'.length < 1000 ∧ D.nx σ (upd H3 a (.ins C dx' (putF f z fs')))

section
variable {X : Cx} {o e value : Expr} {f : Str} {pos pos' tpos : Pos} {ta tv : TE}
theorem pe_fld (he : PE X e ta) (hb : attributeBase e f X.env (eval e X.env) = eval e X.env) : PE X (.Attribute e f pos) (tFld X.K ta f) := by
  intro pins s σ H Q I h
  refine attr_of hb (thn (he pins s σ H _ I h) fun u s1 ⟨x, H1, I1, rx, a, C, dx, fs, v, ex, ea, c, n, l, q⟩ => ?_)
  subst ex
  obtain rfl : u = Value.ref a := rx
  exact getattr_ok I1 ea c n l fun u' s2 I2 ru => ⟨v, H1, I2, ru, q⟩
theorem ps_fld (ha : PE X o ta) (hv : PE X value tv) (hs : swapsWith value (some (.Attribute o f pos')) pos.line X.env = pure false) : PS X (.Assign [.Attribute o f pos'] value pos) (sFld X.K ta tv f) := by
  intro pins s σ H D I h
  refine plainObj_wpAny_Assign_Attribute (thn (hv pins s σ H _ I h) fun u s1 ⟨y, H1, I1, ry, q⟩ => thn (ha pins s1 σ H1 _ I1 q) fun ov s2 ⟨x, H2, I2, rx, a, C, dx, fs, ex, ea, c, n, l, q2⟩ => ?_) hs
  subst ex
  obtain rfl : ov = Value.ref a := rx
  exact setattr_ok I2 ea c n l ry fun s3 I3 => ⟨σ, _, I3, q2⟩
theorem ps_fldaug {op : Operator} {rd : V → V → Hp → VK → Prop} (ha : PE X o ta) (hv : PE X value tv) (hop : InOp X op rd) : PS X (.AugAssign (.Attribute o f tpos) op value pos) (sFldAug X.K ta tv rd f) := by
  intro pins s σ H D I h
  refine wpAny_AugAssign_AttributeAny (thn (ha pins s σ H _ I h) fun ov s1 ⟨x, H1, I1, rx, a, C, dx, fs, v, ex, ea, c, n, l, q⟩ => ?_)
  subst ex
  obtain rfl : ov = Value.ref a := rx
  refine getattr_ok I1 ea c n l fun u s2 I2 ru => thn (hv pins s2 σ H1 _ I2 q) fun w3 s3 ⟨y, H2, I3, ry, q3⟩ => thn (hop pins s3 σ H2 v y u w3 _ I3 ru ry q3) fun w4 s4 ⟨z, H3, I4, rz, dx', fs', ea', l', q4⟩ => ?_
  exact setattr_ok I4 ea' c n l' rz fun s5 I5 => ⟨σ, _, I5, q4⟩
noncomputable def rAdd : V → V → Hp → VK → Prop := fun x y H Q => ∃ i j, x = .int i ∧ y = .int j ∧ Q (.int (i + j)) H
theorem in_add : InOp X .Add rAdd := by
  rintro pins s σ H x y u v Q I rx ry ⟨i, j, rfl, rfl, q⟩
  obtain ⟨t, rfl⟩ := (show ∃ t, u = Value.int i t from rx)
  obtain ⟨t', rfl⟩ := (show ∃ t', v = Value.int j t' from ry)
  exact PyProof.Rows.iadd_int ⟨.int (i + j), H, I.tok _, ⟨_, rfl⟩, q⟩
end

section
variable {X : Cx} {pins : List (Addr × Obj)} {σ : St} {H : Hp} {s : Shared} {A : Around} {E : Value → Shared → Prop} {Q : Value → Shared → Prop} {c : Value} {b : Bool}
inductive TyOf (K : PySem.W.Frag) (H : Hp) : V → Value → Prop where
  | non : TyOf K H .non (.type "NoneType")
  | bl (x : Bool) : TyOf K H (.bl x) (.type "bool")
  | int (i : Int) : TyOf K H (.int i) (.type "int")
  | str (x : Str) : TyOf K H (.str x) (.type "str")
  | flt (x : UInt64) : TyOf K H (.flt x) (.type "float")
  | lst {a : Addr} {xs : List V} (e : H a = some (.lst xs)) : TyOf K H (.ref a) (.type "list")
  | frz {a : Addr} {o : Obj} {xs : List V} (e : H a = some (.frz o (.lst xs))) : TyOf K H (.ref a) (.type "list")
  | tup {a : Addr} {xs : List V} (e : H a = some (.tup xs)) : TyOf K H (.ref a) (.type "tuple")
  | dK {a : Addr} {kvs : List (Key × V)} (e : H a = some (.dK kvs)) : TyOf K H (.ref a) (.type "dict")
  | dT {a : Addr} {kvs : List (List Key × V)} (e : H a = some (.dT kvs)) : TyOf K H (.ref a) (.type "dict")
  | ins {a C dx : Addr} {fs : List (Str × V)} (e : H a = some (.ins C dx fs)) (cl : Cls K C) (ha : PySem.W.findIn K (.ref C) "__class__" = some (some (.builtin "object.__class__")))
      (hn : PySem.W.specialIn K (.builtin "object.__class__") "__get__" = some (some (.builtin "getset_descriptor.__get__"))) (htk : PySem.W.takesIn K (.builtin "object.__class__") = some true)
      (hm : PySem.W.mroIn K C (.type "object") = some true) : TyOf K H (.ref a) (.ref C)
theorem isinst_ok {x : V} {u t : Value} (I : Inv X pins σ H s) (rx : RelV x u) (ty : TyOf X.K H x t) (e : PySem.W.kitOne X.K t c = some b) (h : ∀ tk, Q (.bool b) { s with toks := tk }) :
    wpAny (model X.prog X.w) A (call (.builtin "isinstance") [u, c]) Q E s := by
  cases ty with
  | non => cases (show u = Value.none from rx); exact PySem.W.kia_one PySem.W.kitx_none I.kIn True.intro e (fun z => nomatch z) h
  | bl y => cases (show u = Value.bool y from rx); exact PySem.W.kia_one PySem.W.kitx_bool I.kIn True.intro e (fun z => nomatch z) h
  | int i => obtain ⟨t, q⟩ := (show ∃ t, u = Value.int i t from rx); cases q; exact PySem.W.kia_one PySem.W.kitx_int I.kIn True.intro e (fun z => nomatch z) h
  | str y => obtain ⟨t, q⟩ := (show ∃ t, u = Value.str y t from rx); cases q; exact PySem.W.kia_one PySem.W.kitx_str I.kIn True.intro e (fun z => nomatch z) h
  | flt y => obtain ⟨t, q⟩ := (show ∃ t, u = Value.float y t from rx); cases q; exact PySem.W.kia_one PySem.W.kitx_float I.kIn True.intro e (fun z => nomatch z) h
  | @lst a xs ea =>
    cases (show u = Value.ref a from rx)
    obtain ⟨_, _, n, _, h1⟩ := (show ObjOk X.prog X.w H s.heap a (.lst xs) from I.hok a _ ea)
    exact PySem.W.kia_one PySem.W.kitx_list I.kIn ⟨_, h1, rfl⟩ e (fun z => nomatch z) h
  | @frz a ob xs ea =>
    cases (show u = Value.ref a from rx)
    obtain ⟨_, _, _, n, _, h1⟩ := (show ObjOk X.prog X.w H s.heap a (.frz ob (.lst xs)) from I.hok a _ ea)
    exact PySem.W.kia_one PySem.W.kitx_list I.kIn ⟨_, h1, rfl⟩ e (fun z => nomatch z) h
  | @tup a xs ea =>
    cases (show u = Value.ref a from rx)
    obtain ⟨_, _, _, p⟩ := (show ObjOk X.prog X.w H s.heap a (.tup xs) from I.hok a _ ea)
    obtain ⟨o, h1, h2, _⟩ := p
    exact PySem.W.kia_one PySem.W.kitx_tuple I.kIn ⟨o, h1, h2⟩ e (fun z => nomatch z) h
  | @dK a kvs ea =>
    cases (show u = Value.ref a from rx)
    obtain ⟨_, _, vs, _, p⟩ := (show ObjOk X.prog X.w H s.heap a (.dK kvs) from I.hok a _ ea)
    obtain ⟨o, es, ep, h1, h2, _⟩ := p
    exact PySem.W.kia_one PySem.W.kitx_dict I.kIn ⟨o, h1, h2.1⟩ e (fun z => nomatch z) h
  | @dT a kvs ea =>
    cases (show u = Value.ref a from rx)
    obtain ⟨_, _, xs, _, o, es, ep, h1, h2, _⟩ := (show ObjOk X.prog X.w H s.heap a (.dT kvs) from I.hok a _ ea)
    exact PySem.W.kia_one PySem.W.kitx_dict I.kIn ⟨o, h1, h2.1⟩ e (fun z => nomatch z) h
  | @ins a C dx fs ea cl ha hn htk hm =>
    cases (show u = Value.ref a from rx)
    obtain ⟨mA, O, _⟩ := ins_get I.hok ea
    obtain ⟨od, J, _⟩ := O.look
    exact PySem.W.kia_one (PySem.W.kitx_own (cl.get _) cl.hd ha hn htk hm) I.kIn J e (fun z => nomatch z) h
end
end L2

namespace L2
open PySem PySem.Spec PyProof.Rows

structure Room (k : Nat) (A : Around) : Prop where
  hd : A.handled = none
  dp : A.depth + 3 * k + 5 < recursionLimit
  un : A.units + 16 * k + 200 < cLine
theorem Room.mono {j k : Nat} {A : Around} (r : Room k A) (h : j ≤ k) : Room j A := ⟨r.hd, by have := r.dp; omega, by have := r.un; omega⟩
theorem Room.deeper {k : Nat} {A : Around} (r : Room (k + 1) A) (env : Env) : Room k (A.deeper env) :=
  ⟨r.hd, by have := r.dp; show A.depth + 1 + 3 * k + 5 < _; omega, by have := r.un; show A.units + 3 + 16 * k + 200 < _; omega⟩
theorem make_depth {A : Around} {C : Addr} {us : List Value} {kw : List (Str × Value)} : (A.under (.builtin "type.__call__" ⟨.ref C :: us, kw⟩)).depth = A.depth + 1 := by
  first | rfl | simp [Around.under, Code.weight, Code.isCreation, Code.isGuard, Code.isCaller, Code.frames, Code.isFrame, guardIds]
theorem make_units {A : Around} {C : Addr} {us : List Value} {kw : List (Str × Value)} : (A.under (.builtin "type.__call__" ⟨.ref C :: us, kw⟩)).units = A.units + 1 := by
  first | rfl | simp [Around.under, Code.cUnits, Code.frames, Code.isFrame]
theorem Room.make {k : Nat} {A : Around} (r : Room (k + 1) A) (C : Addr) (us : List Value) (kw : List (Str × Value)) : Room k (A.under (.builtin "type.__call__" ⟨.ref C :: us, kw⟩)) :=
  ⟨r.hd, by have := r.dp; rw [make_depth]; omega, by have := r.un; rw [make_units]; omega⟩
theorem Room.depth {k : Nat} {A : Around} (r : Room k A) : A.depth < recursionLimit := by have := r.dp; omega
theorem Room.units {k : Nat} {A : Around} (r : Room k A) : A.units + 64 < cLine := by have := r.un; omega
noncomputable def tNil : TA := fun _ H Q => Q [] H
noncomputable def tCons (ta : TE) (tr : TA) : TA := fun σ H Q => ta σ H fun x H1 => tr σ H1 fun xs H2 => Q (x :: xs) H2
section
variable {X : Cx} {e : Expr} {es : List Expr} {te : TE} {t : TA} {pos : Pos}
theorem pa_nil : PA X [] tNil := fun _ _ _ _ H Q I h => Calls.spliced_nil ⟨[], H, I, .nil, h⟩
theorem pa_cons (ha : PE X e te) (hr : PA X es t) (hs : starEach (e :: es) X.env = (false, eval e X.env) :: starEach es X.env := by rfl) : PA X (e :: es) (tCons te t) := by
  intro pos pins s σ H Q I h
  rw [hs]
  show wpAny _ _ (spliced ((false, eval e X.env) :: backTo pos (starEach es X.env))) _ _ s
  refine Calls.spliced_cons (thn (ha pins s σ H _ I h) fun u s1 ⟨x, H1, I1, r1, q1⟩ => ?_)
  exact thn (hr pos pins s1 σ H1 _ I1 q1) fun us s2 ⟨xs, H2, I2, r2, q2⟩ => ⟨x :: xs, H2, I2, .cons r1 r2, q2⟩

noncomputable def tTup (t : TA) : TE := fun σ H Q => t σ H fun xs H1 => xs.length ≤ sizeLine ∧ ∀ p, H1 p = none → Q (.ref p) (upd H1 p (.tup xs))
noncomputable def tLst (t : TA) : TE := fun σ H Q => t σ H fun xs H1 => xs.length ≤ sizeLine ∧ ∀ p, H1 p = none → Q (.ref p) (upd H1 p (.lst xs))
theorem pe_tup {x1} (h : PA X es t) : PE X (.Tuple es x1 pos) (tTup t) := by
  intro pins s σ H Q I hq
  refine wpAny_Tuple_spliced (thn (h pos pins s σ H _ I hq) fun us s1 ⟨xs, H1, I1, r, z, q⟩ => ⟨by rw [← r.length]; exact z, ?_⟩)
  have hf : H1 s1.heap.objs.size = none := I1.hok.fresh (Nat.le_refl _)
  refine ⟨.ref s1.heap.objs.size, upd H1 s1.heap.objs.size (.tup xs), I1.laid (t' := s1.toks) (fun b u e => Heap.get?_push_of_some _ e) (Nat.le_refl _) ?_, rfl, q _ hf⟩
  exact ⟨z, us, r, ⟨_, Heap.get?_push_size _ rfl, rfl, _, rfl⟩⟩
theorem pe_lst (h : PA X es t) : PE X (.List es pos) (tLst t) := by
  intro pins s σ H Q I hq
  refine wpAny_List_spliced (thn (h pos pins s σ H _ I hq) fun us s1 ⟨xs, H1, I1, r, z, q⟩ => ⟨by rw [← r.length]; exact z, ?_⟩)
  have hf : H1 s1.heap.objs.size = none := I1.hok.fresh (Nat.le_refl _)
  refine ⟨.ref s1.heap.objs.size, upd H1 s1.heap.objs.size (.lst xs), I1.laid (t' := s1.toks) (fun b u e => Heap.get?_push_of_some _ e) (Nat.le_refl _) ?_, rfl, q _ hf⟩
  exact ⟨z, us, 0, r, Heap.get?_push_size _ rfl⟩
end

noncomputable abbrev Sp := List V → Hp → VK → XK → Prop
noncomputable abbrev CXT := List Env → Hp → Shared → XK → Value → Shared → Prop

structure Env0 (P : Program) (w : World) (K : PySem.W.Frag) (mg : Str → Option Value) (base : Heap) (A : Around) (outer : List Env) (s : Shared) (H : Hp) : Prop where
  frames : A.frames = some outer
  mod : Mod K mg base
  bs : ∀ b o, base.get? b = some o → s.heap.get? b = some o ∧ H b = none
  bsz : base.objs.size ≤ s.heap.objs.size
  funs : s.heap.FunFrames base outer
  frf : ∀ b ∈ frs outer, H b = none
  hok : HOk P w H s.heap
  bare : AllBare s.gens
noncomputable def CE (outer : List Env) (P : Program) (w : World) (H : Hp) (s : Shared) (Q : VK) (u : Value) (s' : Shared) : Prop :=
  ∃ v H', s'.os = s.os ∧ AllBare s'.gens ∧ Un (frs outer) [] H H' s.heap s'.heap ∧ HOk P w H' s'.heap ∧ RelV v u ∧ Q v H'
noncomputable def CR (CX : CXT) (outer : List Env) (P : Program) (w : World) (H : Hp) (s : Shared) (Q : VK) (E : XK) (r : Result) (s' : Shared) : Prop :=
  match r with
  | .ok (.ret u) => CE outer P w H s Q u s'
  | .ok _ => False
  | .error e => CX outer H s E e s'
structure FnOk (P : Program) (w : World) (K : PySem.W.Frag) (mg : Str → Option Value) (base : Heap) (CX : CXT) (k : Nat) (f : Addr) (fd : FuncData) (ps : List Str) (sp : Sp) : Prop where
  len : ∀ vs H Q E, sp vs H Q E → vs.length = ps.length
  run : ∀ (A : Around) (outer : List Env) (s : Shared) (H : Hp) (args : Args) (us : List Value) (vs : List V) (Q : VK) (E : XK), Room k A → Env0 P w K mg base A outer s H → BindsTo s fd args (ps.zip us) → Vals vs us → sp vs H Q E →
    codeAny (model P w) A (.call (.ref f) args) (CR CX outer P w H s Q E) s
theorem FnOk.mono {P : Program} {w : World} {K : PySem.W.Frag} {mg : Str → Option Value} {base : Heap} {CX : CXT} {j k : Nat} {f : Addr} {fd : FuncData} {ps : List Str} {sp : Sp} (F : FnOk P w K mg base CX j f fd ps sp) (h : j ≤ k) :
    FnOk P w K mg base CX k f fd ps sp := ⟨F.len, fun A outer s H args us vs Q E hr => F.run A outer s H args us vs Q E (hr.mono h)⟩
theorem Env0.make {P : Program} {w : World} {K : PySem.W.Frag} {mg : Str → Option Value} {base : Heap} {A : Around} {outer : List Env} {s : Shared} {H : Hp} (e : Env0 P w K mg base A outer s H) (C : Addr) (us : List Value) (kw : List (Str × Value)) :
    Env0 P w K mg base (A.under (.builtin "type.__call__" ⟨.ref C :: us, kw⟩)) outer s H := ⟨by first | exact e.frames | (simpa [Around.under, Code.envs, Code.isFrame, pushEnvs] using e.frames), e.mod, e.bs, e.bsz, e.funs, e.frf, e.hok, e.bare⟩
section
variable {X : Cx} {pins : List (Addr × Obj)} {σ : St} {H : Hp} {s s' : Shared}
theorem Inv.env0 (I : Inv X pins σ H s) : Env0 X.prog X.w X.K X.mg X.base X.A X.stack s H :=
  ⟨I.ok.frames, I.ok.mod, I.bs, Nat.le_trans I.ok.bsz I.sz, I.stack, I.stkFree, I.hok, I.bare⟩
theorem Inv.after {Q : VK} {u : Value} (I : Inv X pins σ H s) (h : CE X.stack X.prog X.w H s Q u s') : EP X pins σ Q u s' := by
  obtain ⟨v, H', os, bare, un, hok, r, q⟩ := h
  obtain ⟨hh, g, d, t, os'⟩ := s'
  obtain rfl : os' = s.os := os
  exact ⟨v, H', I.call (h' := hh) (g' := g) (d' := d) (t' := t) (ch := []) un hok bare (fun b z => absurd z (by simp)), r, q⟩
end

noncomputable def tCall (sp : Sp) (dvs : List V) (E : XK) (t : TA) : TE := fun σ H Q => t σ H fun vs H1 => sp (vs ++ dvs) H1 Q E
noncomputable def Binds (K : PySem.W.Frag) (fd : FuncData) (ps : List Str) (ds : List Value) : Prop :=
  ∀ (s : Shared) (us : List Value), K.In s.heap → (us ++ ds).length = ps.length → BindsTo s fd ⟨us, []⟩ (ps.zip (us ++ ds))
theorem Binds.all {K : PySem.W.Frag} {fd : FuncData} {ps : List Str} (h : ∀ us : List Value, us.length = ps.length → bindArgs fd ⟨us, []⟩ = pure (ps.zip us)) : Binds K fd ps [] := fun s us _ hl => by
  rw [List.append_nil] at hl ⊢
  exact .of_eq (h us hl)

noncomputable def Passes (CX : CXT) (X : Cx) (E : XK) : Prop := ∀ (pins : List (Addr × Obj)) (σ : St) (H : Hp) (s : Shared) (e : Value) (s' : Shared), Inv X pins σ H s → CX X.stack H s E e s' → X.xe e s'

section
variable {X : Cx} {CX : CXT} {k : Nat} {f C : Addr} {fd : FuncData} {ps : List Str} {sp : Sp} {dvs : List V} {ds : List Value} {E : XK} {x m : Str} {p pos apos : Pos} {e o : Expr} {es : List Expr} {ta : TE} {t : TA}

theorem run_fn {pins : List (Addr × Obj)} {σ : St} {H : Hp} {s : Shared} {Q : VK} {us : List Value} {vs : List V} (F : FnOk X.prog X.w X.K X.mg X.base CX k f fd ps sp) (hr : Room k X.A) (hb : Binds X.K fd ps ds) (hd : Vals dvs ds) (hx : Passes CX X E)
    (I : Inv X pins σ H s) (r : Vals vs us) (h : sp (vs ++ dvs) H Q E) : wpAny (model X.prog X.w) X.A (call (.ref f) us) (EP X pins σ Q) X.xe s := by
  have r2 : Vals (vs ++ dvs) (us ++ ds) := r.append hd
  have hl : (us ++ ds).length = ps.length := by rw [← r2.length]; exact F.len _ _ _ _ h
  refine wpAny_call (codeAny_mono (F.run X.A X.stack s H ⟨us, []⟩ (us ++ ds) (vs ++ dvs) Q E hr I.env0 (hb s us I.kIn hl) r2 h) fun r s' hq => ?_)
  cases r with
  | error e => exact hx pins σ H s e s' I hq
  | ok fl =>
    cases fl with
    | ret u => exact I.after hq
    | next => exact False.elim hq
    | brk => exact False.elim hq
    | cont => exact False.elim hq

theorem pe_call (F : FnOk X.prog X.w X.K X.mg X.base CX k f fd ps sp) (hr : Room k X.A) (hg : Gl X x) (hm : X.mg x = some (.ref f)) (hk : PySem.W.keepIn X.K (.ref f) = true) (hb : Binds X.K fd ps ds) (hd : Vals dvs ds) (hx : Passes CX X E)
    (ha : PA X (e :: es) t) (hdb : (x == ("__debug__" : Str)) = false := by decide) (he : starEach (e :: es) X.env = (false, eval e X.env) :: starEach es X.env := by rfl) (hpl : (backTo pos (starEach es X.env)).any (·.1) = false := by rfl) :
    PE X (.Call (.Name x p) (e :: es) [] pos) (tCall sp dvs E t) := by
  intro pins s σ H Q I h
  refine wpAny_Call_Name_kw (ld_glob I hg hm ?_ hdb)
  refine PySem.W.callWith_K (h₀ := X.base) I.ok.mod.kin hk (thn (ha pos pins s σ H _ I h) fun us s1 ⟨vs, H1, I1, r, q⟩ => ⟨I1.kIn, ?_⟩) he hpl
  exact run_fn F hr hb hd hx I1 r q
structure Mk (K : PySem.W.Frag) (C f : Addr) : Prop where
  makes : PySem.W.makesIn K C = true
  init : PySem.W.findIn K (.ref C) "__init__" = some (some (.ref f))
  fn : PySem.W.isFn K (.ref f) = true
  kp : PySem.W.keepIn K (.ref C) = true

end

section
variable {X : Cx} {CX : CXT} {k : Nat} {f C : Addr} {fd : FuncData} {ps ks : List Str} {sp : Sp} {E : XK} {x m : Str} {p pos apos kpos : Pos} {e o : Expr} {es : List Expr} {kws : List Keyword} {te ta : TE} {t tk : TA} {nm : Option Str}
structure KBinds (K : PySem.W.Frag) (fd : FuncData) (ps ks : List Str) (g : List Value → List Value → List Value) (gV : List V → List V → List V) : Prop where
  to : ∀ (s : Shared) (us ws : List Value), K.In s.heap → (g us ws).length = ps.length → BindsTo s fd ⟨us, ks.zip ws⟩ (ps.zip (g us ws))
  rel : ∀ {vs : List V} {us : List Value} {zs : List V} {ws : List Value}, Vals vs us → Vals zs ws → Vals (gV vs zs) (g us ws)
variable {g : List Value → List Value → List Value} {gV : List V → List V → List V}
end

structure FnScope (N P : List Str) (sc : Scope) : Prop where
  kind : sc.kind = .function
  co : sc.isCoroutine = false
  gen : sc.isGenerator = false
  nd : N.Nodup
  pre : N.take P.length = P
  par : ∀ x ∈ P, sc.names.lookup x = some .local ∨ sc.names.lookup x = some .cell
  nofree : ∀ y ∈ sc.names, y.2 ≠ .free

theorem bindL_out {kindOf : Str → Option NameKind} {x : Str} : ∀ {binds : List (Str × Value)} {m : Str → Option Value}, (∀ v, (x, v) ∉ binds) → bindL kindOf binds m x = m x
  | [], _, _ => rfl
  | (n, v) :: r, m, h => by
    unfold bindL
    rw [bindL_out fun w hw => h w (List.mem_cons_of_mem _ hw)]
    split
    · have : x ≠ n := by rintro rfl; exact h v List.mem_cons_self
      simp [this]
    · rfl
theorem bindC_out {kindOf : Str → Option NameKind} {x : Str} : ∀ {binds : List (Str × Value)} {m : Str → Option Value}, (∀ v, (x, v) ∉ binds) → bindC kindOf binds m x = m x
  | [], _, _ => rfl
  | (n, v) :: r, m, h => by
    unfold bindC
    rw [bindC_out fun w hw => h w (List.mem_cons_of_mem _ hw)]
    split
    · rfl
    · have : x ≠ n := by rintro rfl; exact h v List.mem_cons_self
      simp [this]
theorem bindL_get {kindOf : Str → Option NameKind} {x : Str} {v : Value} : ∀ {P : List Str} {vs : List Value} {i : Nat} {m : Str → Option Value}, P.Nodup → P[i]? = some x → vs[i]? = some v → kindOf x = some .local →
    bindL kindOf (P.zip vs) m x = some v
  | [], _, _, _, _, h, _, _ => by simp at h
  | _ :: _, [], _, _, _, _, h, _ => by simp at h
  | p :: P, w :: vs, 0, m, nd, h1, h2, hk => by
    simp at h1 h2; subst h1; subst h2
    show bindL kindOf ((p, w) :: P.zip vs) m p = _
    unfold bindL
    rw [bindL_out fun v hv => (List.nodup_cons.mp nd).1 (List.of_mem_zip hv).1, if_pos hk]
    simp
  | p :: P, w :: vs, i + 1, m, nd, h1, h2, hk => by
    show bindL kindOf ((p, w) :: P.zip vs) m x = _
    unfold bindL
    exact bindL_get (i := i) (List.nodup_cons.mp nd).2 (by simpa using h1) (by simpa using h2) hk
theorem bindC_get {kindOf : Str → Option NameKind} {x : Str} {v : Value} : ∀ {P : List Str} {vs : List Value} {i : Nat} {m : Str → Option Value}, P.Nodup → P[i]? = some x → vs[i]? = some v → kindOf x ≠ some .local →
    bindC kindOf (P.zip vs) m x = some v
  | [], _, _, _, _, h, _, _ => by simp at h
  | _ :: _, [], _, _, _, _, h, _ => by simp at h
  | p :: P, w :: vs, 0, m, nd, h1, h2, hk => by
    simp at h1 h2; subst h1; subst h2
    show bindC kindOf ((p, w) :: P.zip vs) m p = _
    unfold bindC
    rw [bindC_out fun v hv => (List.nodup_cons.mp nd).1 (List.of_mem_zip hv).1, if_neg hk]
    simp
  | p :: P, w :: vs, i + 1, m, nd, h1, h2, hk => by
    show bindC kindOf ((p, w) :: P.zip vs) m x = _
    unfold bindC
    exact bindC_get (i := i) (List.nodup_cons.mp nd).2 (by simpa using h1) (by simpa using h2) hk

noncomputable def start (N : List Str) (vs : List V) : St := vs.map some ++ List.replicate (N.length - vs.length) none

noncomputable def cxOf (CX : CXT) (P : Program) (w : World) (K : PySem.W.Frag) (mg : Str → Option Value) (base : Heap) (N : List Str) (qual : Str) (scope : Scope) (f : Addr) (cd : Value) (A : Around) (outer : List Env) (s : Shared) (H : Hp) (E : XK) : Cx where
  prog := P
  w := w
  K := K
  mg := mg
  base := base
  A := A.deeper (envOfC qual scope s.heap.objs.size f cd)
  N := N
  s₀ := s
  H₀ := H
  env := envOfC qual scope s.heap.objs.size f cd
  outer := outer
  stack := envOfC qual scope s.heap.objs.size f cd :: outer
  ex := []
  calm := true
  fn := fun _ => true
  pn := []
  xe := fun e s' => wpAny (model P w) (A.deeper (envOfC qual scope s.heap.objs.size f cd)) (leaving (envOfC qual scope s.heap.objs.size f cd) e) (fun _ s'' => CX outer H s E e s'') (fun e' s'' => CX outer H s E e' s'') s'

theorem cell_has {sc : Scope} {n : Nat} {x : Str} (h : sc.names.lookup x = some .cell) : ∃ c, (cellsFrom n sc.names []).lookup x = some c := by
  have q := PySem.W.cellsFrom_some sc.names n [] (.inl h)
  exact Option.isSome_iff_exists.mp q

theorem inv_start {CX : CXT} {P : Program} {w : World} {K : PySem.W.Frag} {mg : Str → Option Value} {base : Heap} {N ps : List Str} {qual : Str} {scope : Scope} {f : Addr} {cd : Value} {A : Around} {outer : List Env} {s s1 : Shared} {H : Hp} {E : XK} {us : List Value} {vs : List V}
    (S : FnScope N ps scope) (hd : A.handled = none) (e0 : Env0 P w K mg base A outer s H) (hl : vs.length = ps.length) (r : Vals vs us)
    (x : InCallC s s.heap.objs.size (bindL (envOfC qual scope s.heap.objs.size f cd).kindOf (ps.zip us) fun _ => none) (cellsFrom (s.heap.objs.size + 1) scope.names []) (bindC (envOfC qual scope s.heap.objs.size f cd).kindOf (ps.zip us) fun _ => none) s1) :
    Inv (cxOf CX P w K mg base N qual scope f cd A outer s H E) [] (start N vs) H s1 := by
  have hpl : ps.length ≤ N.length := by have := congrArg List.length S.pre; rw [List.length_take] at this; omega
  obtain ⟨h1, tk, rfl, hk⟩ := x.done
  have noA : ∀ b : Addr, b ∉ (cxOf CX P w K mg base N qual scope f cd A outer s H E).ex := fun b z => absurd (show b ∈ ([] : List Addr) from z) (by simp)
  refine ⟨⟨e0.mod, S.kind, rfl, rfl, Nat.le_refl _, fun y z c h1 h2 => ?_, fun y hy => ?_, fun y c _ h => ?_, fun _ => hd, Around.frames_deeper e0.frames, .inr ⟨rfl, rfl⟩, fun b z => absurd z (noA b), e0.bs, e0.bsz, fun b _ _ => noA b, fun b z => absurd z (noA b), e0.funs, e0.frf⟩,
    rfl, e0.bare, Un.kept hk, ⟨_, x.toInCall.ns, fun i y v h1 h2 h3 => ?_⟩, fun y c h => ⟨_, x.cell y c h⟩, e0.hok.fresh (Nat.le_refl _), fun y c h => ?_, fun p hp => absurd (show p ∈ ([] : List (Addr × Obj)) from hp) (by simp), e0.hok.kept hk, ?_⟩
  · exact name_of_addr x.apart (PySem.mem_of_lookup h1) (PySem.mem_of_lookup h2)
  · have hy : scope.names.lookup y = some .cell ∨ scope.names.lookup y = some .free := hy
    rcases hy with hy | hy
    · exact cell_has hy
    · exact absurd rfl (S.nofree _ (PySem.mem_of_lookup hy))
  · exact Nat.le_of_lt (x.above y c (PySem.mem_of_lookup h))
  · have hi : i < vs.length := by
      unfold start at h2
      by_cases hi : i < vs.length
      · exact hi
      · rw [List.getElem?_append_right (by simpa using hi)] at h2
        rw [List.getElem?_replicate] at h2
        split at h2 <;> cases h2
    have ha : vs[i]? = some v := by
      unfold start at h2
      rw [List.getElem?_append_left (by simpa using hi), List.getElem?_map] at h2
      cases e : vs[i]? with
      | none => rw [e] at h2; cases h2
      | some a => rw [e] at h2; cases h2; rfl
    obtain ⟨u, hu, rv⟩ := r.get ha
    have hp : ps[i]? = some y := by
      rw [← S.pre, List.getElem?_take_of_lt (by omega)]; exact h1
    have ndP : ps.Nodup := by rw [← S.pre]; exact S.nd.sublist (List.take_sublist _ _)
    refine ⟨u, rv, ?_⟩
    rcases S.par y (List.mem_of_getElem? hp) with k | k
    · exact .inl ⟨k, bindL_get ndP hp hu k⟩
    · obtain ⟨c, e⟩ := cell_has (n := s.heap.objs.size + 1) k
      refine .inr ⟨.inl k, c, e, ?_⟩
      have q := x.cell y c e
      rw [bindC_get ndP hp hu (by show scope.names.lookup y ≠ _; rw [k]; decide)] at q
      exact q
  · exact e0.hok.fresh (Nat.le_of_lt (x.above y c (PySem.mem_of_lookup h)))
  · unfold start
    show _ = N.length
    rw [List.length_append, List.length_map, List.length_replicate]
    omega

theorem fn_of {CX : CXT} {P : Program} {w : World} {K : PySem.W.Frag} {mg : Str → Option Value} {base : Heap} {k : Nat} {f : Addr} {name qual : Str} {params : Arguments} {body : List Stmt} {scope : Scope} {dV kV doc pm cdv ct oc : Value} {an od : Option Addr}
    {osl : Array (Option Value)} {N ps : List Str} {sp : Sp} (lk : K.lookup f = some ⟨oc, od, .func (PySem.W.fnOf name qual params body scope dV kV doc pm an cdv ct), osl⟩) (hcd : PySem.W.codeIn K cdv qual = true) (S : FnScope N ps scope)
    (len : ∀ vs H Q E, sp vs H Q E → vs.length = ps.length)
    (hbody : ∀ (A : Around) (outer : List Env) (s : Shared) (H : Hp) (vs : List V) (Q : VK) (E : XK), Room k (A.deeper (envOfC qual scope s.heap.objs.size f cdv)) → sp vs H Q E →
      ∃ t, PSs (cxOf CX P w K mg base N qual scope f cdv A outer s H E) body t ∧ t { nx := fun _ H' => Q .non H', rt := Q } (start N vs) H) :
    FnOk P w K mg base CX (k + 1) f (PySem.W.fnOf name qual params body scope dV kV doc pm an cdv ct) ps sp := by
  refine ⟨len, fun A outer s H args us vs Q E hr e0 hb r hsp => ?_⟩
  have hl := len _ _ _ _ hsp
  have KX : K.In s.heap := e0.mod.kin.keeps fun b o e => (e0.bs b o e).1
  have lim : s.heap.NoLimit := e0.mod.nolimit.keeps fun b o e => (e0.bs b o e).1
  have hkind : ∀ y ∈ ps.zip us, scope.names.lookup y.1 = some .local ∨ (scope.names.lookup y.1 = some .cell ∧ ((cellsFrom (s.heap.objs.size + 1) scope.names []).lookup y.1).isSome = true) := fun ⟨n, v⟩ hy => by
    rcases S.par n (List.of_mem_zip hy).1 with q | q
    · exact .inl q
    · exact .inr ⟨q, PySem.W.cellsFrom_some _ _ _ (.inl q)⟩
  refine codeAny_call_function hr.depth (KX _ _ lk) rfl S.co S.gen rfl (PySem.W.codeRec_of KX hcd) (hb _ _ _ _ ?_)
  refine wpAny_newFunctionEnv_cells S.kind hkind fun env he s1 x => ?_
  subst he
  refine ⟨lim.keeps x.toInCall.keep, codeAny_func ?_⟩
  obtain ⟨t, ht, hq⟩ := hbody A outer s H vs Q E (hr.deeper _) hsp
  have I : Inv (cxOf CX P w K mg base N qual scope f cdv A outer s H E) [] (start N vs) H s1 := inv_start S hr.hd e0 hl r x
  refine wpAny_mono (ht [] s1 (start N vs) H _ I hq) (fun fl s' hs => ?_) fun e s' hs => hs
  have fin : ∀ {σ' : St} {H' : Hp} {v : V} {u : Value}, Inv (cxOf CX P w K mg base N qual scope f cdv A outer s H E) [] σ' H' s' → RelV v u → Q v H' → CE outer P w H s Q u s' :=
    fun {σ' H' v u} J rv q => ⟨v, H', J.os, J.bare, J.base, J.hok, rv, q⟩
  cases fl with
  | ret u =>
    obtain ⟨v, σ', H', J, rv, q⟩ := hs
    exact fin J rv q
  | next =>
    obtain ⟨σ', H', J, q⟩ := hs
    exact fin (v := V.non) (u := Value.none) J rfl q
  | brk =>
    obtain ⟨_, _, _, q⟩ := hs
    exact False.elim q
  | cont =>
    obtain ⟨_, _, _, q⟩ := hs
    exact False.elim q
end L2

namespace L2
open PySem PySem.Spec PyProof.Rows
section
variable {X : Cx} {x : Str} {p pos : Pos} {e : Expr} {es : List Expr} {t : TA} {id T : String} {r : List V → Hp → VK → Prop}

noncomputable def tCB (r : List V → Hp → VK → Prop) (t : TA) : TE := fun σ H Q => t σ H fun vs H1 => r vs H1 Q
theorem pe_callB (hc : CallR X (.builtin id) r) (hg : Gl X x) (hm : X.mg x = none) (hv : bootBuiltins x = some (.builtin id)) (ha : PA X (e :: es) t) (hn : x ≠ "__name__" := by decide) (hdb : (x == ("__debug__" : Str)) = false := by decide)
    (he : starEach (e :: es) X.env = (false, eval e X.env) :: starEach es X.env := by rfl) (hpl : (backTo pos (starEach es X.env)).any (·.1) = false := by rfl) : PE X (.Call (.Name x p) (e :: es) [] pos) (tCB r t) := by
  intro pins s σ H Q I h
  refine wpAny_Call_Name_kw (ld_blt I hg hm hv ?_ hn hdb)
  exact PyProof.Rows.callWith_builtin1 (thn (ha pos pins s σ H _ I h) fun us s1 ⟨vs, H1, I1, r1, q1⟩ => hc pins s1 σ H1 vs us Q I1 r1 q1) he hpl
theorem pe_callTy (hc : CallR X (.type T) r) (hg : Gl X x) (hm : X.mg x = none) (hv : bootBuiltins x = some (.type T)) (ha : PA X (e :: es) t) (hn : x ≠ "__name__" := by decide) (hdb : (x == ("__debug__" : Str)) = false := by decide)
    (he : starEach (e :: es) X.env = (false, eval e X.env) :: starEach es X.env := by rfl) (hpl : (backTo pos (starEach es X.env)).any (·.1) = false := by rfl) : PE X (.Call (.Name x p) (e :: es) [] pos) (tCB r t) := by
  intro pins s σ H Q I h
  refine wpAny_Call_Name_kw (ld_blt I hg hm hv ?_ hn hdb)
  exact PyProof.Rows.callWith_type1 (thn (ha pos pins s σ H _ I h) fun us s1 ⟨vs, H1, I1, r1, q1⟩ => hc pins s1 σ H1 vs us Q I1 r1 q1) he hpl
end
end L2

namespace HT
open PySem PyProof.Rows

section
open PySem.SeqAt
open PySem.AutoSeq1 (wpAny_loadPart')
open PySem.MeetsSeq PySem.MeetsSeq2 PySem.MeetsSeq3

end

section
variable {prog : Program} {w : World} {A : Around} {E : Value → Shared → Prop} {s : Shared}

noncomputable def sIx (n d : Nat) : Option Int → Nat
  | none => d
  | some v => if v < 0 then (v + (n : Int)).toNat else min v.toNat n
theorem sIx_nat (n d k : Nat) : sIx n d (some (k : Int)) = min k n := by
  show (if (k : Int) < 0 then ((k : Int) + (n : Int)).toNat else min (k : Int).toNat n) = min k n
  rw [if_neg (by omega), Int.toNat_natCast]
end
end HT

namespace L2
open PySem PySem.Spec PyProof.Rows

noncomputable abbrev TO := St → Hp → (Option Int → Hp → Prop) → Prop
noncomputable def PO (X : Cx) (e : Option Expr) (t : TO) : Prop :=
  ∀ (pins : List (Addr × Obj)) (s : Shared) (σ : St) (H : Hp) (Q : Option Int → Hp → Prop), Inv X pins σ H s → t σ H Q →
    wpAny (model X.prog X.w) X.A (evalPart e X.env) (fun u s' => ∃ o H', Inv X pins σ H' s' ∧ IsPart u o ∧ Q o H') X.xe s
noncomputable def tNoPart : TO := fun _ H Q => Q none H
noncomputable def tPart (t : TE) : TO := fun σ H Q => t σ H fun x H1 => ∃ i, x = .int i ∧ Q (some i) H1

section
variable {X : Cx} {e : Expr} {te : TE} {lo hi : Option Expr} {tl th : TO} {pos p2 : Pos}

theorem po_none : PO X none tNoPart := by
  intro pins s σ H Q I h
  rw [evalPart_none]
  exact wpAny_pure ⟨none, H, I, .none, h⟩
theorem po_some (h : PE X e te) : PO X (some e) (tPart te) := by
  intro pins s σ H Q I hw
  rw [evalPart_some]
  refine thn (h pins s σ H _ I hw) fun u s1 ⟨x, H1, I1, r1, q1⟩ => ?_
  obtain ⟨i, rfl, q⟩ := q1
  obtain ⟨t, rfl⟩ := r1
  exact ⟨some i, H1, I1, .int i t, q⟩

noncomputable def SlR (X : Cx) (r : V → Option Int → Option Int → Hp → VK → Prop) : Prop :=
  ∀ (pins : List (Addr × Obj)) (s : Shared) (σ : St) (H : Hp) (x : V) (v vl vu : Value) (lo hi : Option Int) (sl : Addr) (Q : VK), Inv X pins σ H s → RelV x v → s.heap.IsSliceOf sl vl vu .none → IsPart vl lo → IsPart vu hi → r x lo hi H Q →
    ∃ T id, typeLookup (.type T) "__getitem__" = pure (some (.builtin id)) ∧ s.TypeIs v T ∧ wpAny (model X.prog X.w) X.A (getItem v (.ref sl)) (EP X pins σ Q) X.xe s
noncomputable def tSl (r : V → Option Int → Option Int → Hp → VK → Prop) (te : TE) (tl th : TO) : TE := fun σ H Q => te σ H fun x H1 => tl σ H1 fun l H2 => th σ H2 fun u H3 => r x l u H3 Q
theorem pe_slice {r : V → Option Int → Option Int → Hp → VK → Prop} (hr : SlR X r) (he : PE X e te) (hl : PO X lo tl) (hu : PO X hi th) : PE X (.Subscript e (.Slice lo hi none p2) pos) (tSl r te tl th) := by
  intro pins s σ H Q I h
  refine Subscript_ (thn (he pins s σ H _ I h) fun v s1 ⟨x, H1, I1, r1, q1⟩ => ?_)
  refine wpAny_Slice (thn (hl pins s1 σ H1 _ I1 q1) fun vl s2 ⟨l, H2, I2, pl, q2⟩ => thn (hu pins s2 σ H2 _ I2 q2) fun vu s3 ⟨u, H3, I3, pu, q3⟩ => ?_)
  rw [evalPart_none]
  refine wpAny_pure ?_
  have I4 : Inv X pins σ H3 { s3 with heap := s3.heap.push { cls := .type "slice", data := .fields #[vl, vu, .none] } } := I3.kept (t' := s3.toks) fun b ob q => Heap.get?_push_of_some _ q
  obtain ⟨T, id, hT, ht, hg⟩ := hr pins { s3 with heap := s3.heap.push { cls := .type "slice", data := .fields #[vl, vu, .none] } } σ H3 x v vl vu l u s3.heap.objs.size Q I4 r1 (Heap.IsSliceOf.new ..) pl pu q3
  show wpAny (model X.prog X.w) X.A (subscriptTail e (.Slice lo hi none p2) v (.ref s3.heap.objs.size)) (EP X pins σ Q) X.xe { s3 with heap := s3.heap.push { cls := .type "slice", data := .fields #[vl, vu, .none] } }
  exact tail_any (ops := [.ref s3.heap.objs.size, v]) ht hT hg (by with_unfolding_all rfl)

noncomputable def cutV (xs : List V) (lo hi : Option Int) : List V := (xs.drop (HT.sIx xs.length 0 lo)).take (HT.sIx xs.length xs.length hi - HT.sIx xs.length 0 lo)
theorem cutV_length (xs : List V) (lo hi : Option Int) : (cutV xs lo hi).length ≤ xs.length := by
  unfold cutV
  rw [List.length_take, List.length_drop]
  omega
end
end L2

namespace L2
open PySem PySem.Spec PyProof.Rows

noncomputable def ixN (n : Nat) (i : Int) : Option Nat := if 0 ≤ i then (if i < n then some i.toNat else none) else if -(n : Int) ≤ i then some (i + n).toNat else none
noncomputable def atI {α : Type} (xs : List α) (i : Int) : Option α := (ixN xs.length i).bind fun j => xs[j]?
theorem ixN_seq {n : Nat} {i : Int} {j : Nat} (h : ixN n i = some j) : seqIndex? i n = some j ∧ j < n ∧ -(n : Int) ≤ i ∧ i < n := by
  unfold ixN at h
  by_cases h0 : 0 ≤ i
  · rw [if_pos h0] at h
    by_cases h1 : i < n
    · rw [if_pos h1] at h
      have e : i.toNat = j := Option.some.inj h
      exact ⟨by rw [seqIndex_of h0 h1, e], by omega, by omega, h1⟩
    · rw [if_neg h1] at h; cases h
  · rw [if_neg h0] at h
    by_cases h1 : -(n : Int) ≤ i
    · rw [if_pos h1] at h
      have e : (i + n).toNat = j := Option.some.inj h
      exact ⟨by rw [seqIndex_neg (by omega) h1, e], by omega, h1, by omega⟩
    · rw [if_neg h1] at h; cases h
theorem atI_get {α : Type} {xs : List α} {i : Int} {v : α} (h : atI xs i = some v) : ∃ j, seqIndex? i xs.length = some j ∧ xs[j]? = some v ∧ j < xs.length ∧ -(xs.length : Int) ≤ i ∧ i < xs.length := by
  unfold atI at h
  cases e : ixN xs.length i with
  | none => rw [e] at h; cases h
  | some j =>
    rw [e] at h
    obtain ⟨h1, h2, h3, h4⟩ := ixN_seq e
    exact ⟨j, h1, h, h2, h3, h4⟩
theorem atI_nat {α : Type} {xs : List α} {j : Nat} {v : α} (h : xs[j]? = some v) : atI xs (j : Int) = some v := by
  have hj : j < xs.length := (List.getElem?_eq_some_iff.mp h).1
  have e : ixN xs.length (j : Int) = some j := by
    unfold ixN
    rw [if_pos (by omega), if_pos (by omega)]; simp
  unfold atI; rw [e]; exact h
noncomputable def PlainIx (b : Expr) : Prop := ∀ o i, subscripted b false o i = operate [o, i] (getItem o i)
noncomputable def IxR (X : Cx) (r : R2) : Prop :=
  ∀ (value slice : Expr) (pins : List (Addr × Obj)) (s : Shared) (σ : St) (H : Hp) (x y : V) (v u : Value) (Q : VK), Inv X pins σ H s → RelV x v → RelV y u → r x y H Q →
    subscripted slice false v u = operate [v, u] (getItem v u) → wpAny (model X.prog X.w) X.A (subscriptTail value slice v u) (EP X pins σ Q) X.xe s
noncomputable def MtR (X : Cx) (id : String) (r : V → List V → Hp → VK → Prop) : Prop :=
  ∀ (pins : List (Addr × Obj)) (s : Shared) (σ : St) (H : Hp) (x : V) (xs : List V) (v : Value) (us : List Value) (Q : VK), Inv X pins σ H s → RelV x v → Vals xs us → r x xs H Q →
    wpAny (model X.prog X.w) X.A (call (.builtin id) (v :: us)) (EP X pins σ Q) X.xe s
section
variable {X : Cx} {a b : Expr} {ta tb : TE} {pos : Pos}
theorem pe_ix {r : R2} (hr : IxR X r) (ha : PE X a ta) (hb : PE X b tb) (hs : PlainIx b) : PE X (.Subscript a b pos) (tOp r ta tb) := by
  intro pins s σ H Q I h
  exact Subscript_ (binT ha hb I h fun v u s2 x y H2 I2 rx ry q => hr a b pins s2 σ H2 x y v u Q I2 rx ry q (hs _ _))

noncomputable def rIxL (K : PySem.W.Frag) : R2 := fun x y H Q => ∃ p xs i v, x = .ref p ∧ y = .int i ∧ SqL K H p xs ∧ atI xs i = some v ∧ Q v H
noncomputable def rIxT (K : PySem.W.Frag) : R2 := fun x y H Q => ∃ p xs i v, x = .ref p ∧ y = .int i ∧ SqT K H p xs ∧ atI xs i = some v ∧ Q v H
noncomputable def rIxS : R2 := fun x y H Q => ∃ z i c, x = .str z ∧ y = .int i ∧ z.length ≤ sizeLine ∧ atI z.cps.toList i = some c ∧ Q (.str ⟨#[c]⟩) H
theorem ix_list : IxR X (rIxL X.K) := by
  intro value slice pins s σ H x y v u Q I rx ry h hs
  obtain ⟨p, xs, i, z, rfl, rfl, hq, he, q⟩ := h
  cases rx
  obtain ⟨t, rfl⟩ := ry
  obtain ⟨its, r, pl, hz⟩ := I.list hq
  obtain ⟨j, h1, h2, h3, h4, h5⟩ := atI_get he
  obtain ⟨w, ew, rw'⟩ := r.get h2
  have hl := r.length
  have hn := line63
  have fin : EP X pins σ Q w s := ⟨z, H, I, rw', q⟩
  by_cases h0 : 0 ≤ i
  · have hj : i.toNat = j := by
      rw [seqIndex_of h0 h5] at h1
      exact Option.some.inj h1
    exact item_listR pl.isList h0 (by omega) (by rw [hj]; simpa using ew) fin hs
  · have hj : (i + (its.toArray.size : Int)).toNat = j := by
      rw [seqIndex_neg (by omega) h4] at h1
      rw [List.size_toArray, ← hl]
      exact Option.some.inj h1
    exact subscriptTail_builtinR (x := w) pl.isList.typeIs slot_list_getitem.lookup
      (wpAny_getItem_list_neg (Q := fun r s' => r = w ∧ EP X pins σ Q r s') pl.isList (by omega) (by rw [List.size_toArray] <;> omega) (by omega) (by rw [hj]; simpa using ew) ⟨rfl, fin⟩) hs
theorem ix_tup : IxR X (rIxT X.K) := by
  intro value slice pins s σ H x y v u Q I rx ry h hs
  obtain ⟨p, xs, i, z, rfl, rfl, hq, he, q⟩ := h
  cases rx
  obtain ⟨t, rfl⟩ := ry
  obtain ⟨its, r, pl, hz⟩ := I.tuple hq
  obtain ⟨j, h1, h2, h3, h4, h5⟩ := atI_get he
  obtain ⟨w, ew, rw'⟩ := r.get h2
  have hl := r.length
  have hn := line63
  have fin : EP X pins σ Q w s := ⟨z, H, I, rw', q⟩
  exact subscriptTail_builtinR (x := w) pl.typeIs slot_tuple_getitem.lookup
    (getItem_tuple (j := j) (Q := fun r s' => r = w ∧ EP X pins σ Q r s') pl (by omega) (by omega) (by rw [List.size_toArray, ← hl]; exact h1) (by simpa using ew) ⟨rfl, fin⟩) hs
theorem ix_str : IxR X rIxS := by
  intro value slice pins s σ H x y v u Q I rx ry h hs
  obtain ⟨z, i, c, rfl, rfl, hz, he, q⟩ := h
  obtain ⟨t, rfl⟩ := rx
  obtain ⟨t', rfl⟩ := ry
  obtain ⟨j, h1, h2, h3, h4, h5⟩ := atI_get he
  have hl : z.cps.toList.length = z.length := by simp [Str.length]
  rw [hl] at h1 h4 h5
  have hn := line63
  exact tail_any (typeIs_str s z t) slot_str_getitem.lookup (getItem_str (c := c) (by
    have e1 : decide (i < -(2 ^ 63 : Int)) = false := decide_eq_false (by omega)
    have e2 : decide (i ≥ 2 ^ 63) = false := decide_eq_false (by omega)
    rw [e1, e2, Bool.or_false]) (by rw [h1]; simpa using h2) ⟨.str ⟨#[c]⟩, H, I.tok _, ⟨_, rfl⟩, q⟩) hs
theorem mapSeq_set (its : List Value) (n j : Nat) (u : Value) : Obj.mapSeq (·.setIfInBounds j u) { cls := .type "list", data := .seq its.toArray n } = { cls := .type "list", data := .seq (its.set j u).toArray n } := by
  simp [Obj.mapSeq]
theorem Inv.lst {pins : List (Addr × Obj)} {σ : St} {H : Hp} {s : Shared} {p : Addr} {xs : List V} (I : Inv X pins σ H s) (h : H p = some (.lst xs)) :
    ∃ (its : List Value) (n : Nat), Vals xs its ∧ s.heap.get? p = some { cls := .type "list", data := .seq its.toArray n } ∧ xs.length ≤ sizeLine := by
  obtain ⟨z, its, n, r, e⟩ := I.hok p _ h
  exact ⟨its, n, r, e, z⟩
theorem Inv.lstUpd {pins : List (Addr × Obj)} {σ : St} {H : Hp} {s : Shared} {p : Addr} {xs ys : List V} {its its' : List Value} {n n' : Nat} {f : Obj → Obj} (I : Inv X pins σ H s) (h : H p = some (.lst xs))
    (ho : s.heap.get? p = some { cls := .type "list", data := .seq its.toArray n }) (hf : f { cls := .type "list", data := .seq its.toArray n } = { cls := .type "list", data := .seq its'.toArray n' }) (r : Vals ys its') (hz : ys.length ≤ sizeLine) (t : Nat) :
    Inv X pins σ (upd H p (.lst ys)) { s with heap := s.heap.update p f, toks := t } := by
  have e : (s.heap.update p f).get? p = some { cls := .type "list", data := .seq its'.toArray n' } := by
    rw [Heap.get?_update_self f ho (by rw [hf] <;> rfl), hf]
  refine I.write (x := p) (e := p) (by rw [h]; trivial) (.inl rfl) (fun b u hb q => (Heap.get?_update_other _ _ (Ne.symm hb)).trans q) ⟨_, e⟩ ?_
  exact ⟨hz, its', n', r, e⟩
noncomputable def rSetL : V → V → V → Hp → (Hp → Prop) → Prop := fun o i v H Q => ∃ p xs k j, o = .ref p ∧ i = .int k ∧ H p = some (.lst xs) ∧ ixN xs.length k = some j ∧ Q (upd H p (.lst (xs.set j v)))
theorem set_list : PSet X rSetL := by
  intro pins s σ H o i v ov iv u Q I ro ri rv h
  obtain ⟨p, xs, k, j, rfl, rfl, hp, hj, q⟩ := h
  cases ro
  obtain ⟨t, rfl⟩ := ri
  obtain ⟨its, n, r, ho, hz⟩ := I.lst hp
  obtain ⟨h1, h2, h3, h4⟩ := ixN_seq hj
  have hl := r.length
  have hn := line63
  have I' : Inv X pins σ (upd H p (.lst (xs.set j v))) { s with heap := s.heap.update p (Obj.mapSeq (·.setIfInBounds j u)) } :=
    I.lstUpd hp ho (mapSeq_set its n j u) (r.set rv j) (by rw [List.length_set]; exact hz) s.toks
  by_cases h0 : 0 ≤ k
  · have hk : k.toNat = j := by
      rw [seqIndex_of h0 h4] at h1
      exact Option.some.inj h1
    exact PySem.W.ki_setAt ho h0 (by omega) (by rw [List.size_toArray, ← hl]; exact h4) (by rw [hk]; exact ⟨_, I', q⟩)
  · have hk : (k + (its.toArray.size : Int)).toNat = j := by
      rw [seqIndex_neg (by omega) h3] at h1
      rw [List.size_toArray, ← hl]
      exact Option.some.inj h1
    exact PySem.W.ki_setBack ho (by omega) (by rw [List.size_toArray, ← hl]; exact h3) (by omega) (by rw [hk]; exact ⟨_, I', q⟩)

theorem slice_bounds (lo hi : Option Int) (n : Nat) : (sliceBounds lo hi none n).1 = ((HT.sIx n 0 lo : Nat) : Int) ∧ (sliceBounds lo hi none n).2.1 = ((HT.sIx n n hi : Nat) : Int) ∧ (sliceBounds lo hi none n).2.2 = 1 := by
  refine ⟨?_, ?_, rfl⟩
  · cases lo with
    | none => simp [sliceBounds, HT.sIx]
    | some i =>
      simp only [sliceBounds, HT.sIx, Option.getD_none, show (1 : Int) > 0 by decide, if_true]
      by_cases h : i < 0
      · simp only [h, if_true] <;> omega
      · simp only [h, if_false] <;> omega
  · cases hi with
    | none => simp [sliceBounds, HT.sIx]
    | some i =>
      simp only [sliceBounds, HT.sIx, Option.getD_none, show (1 : Int) > 0 by decide, if_true]
      by_cases h : i < 0
      · simp only [h, if_true] <;> omega
      · simp only [h, if_false] <;> omega
theorem slicePick_cut (its : List Value) (lo hi : Option Int) : slicePick its.toArray lo hi none = ((its.drop (HT.sIx its.length 0 lo)).take (HT.sIx its.length its.length hi - HT.sIx its.length 0 lo)).toArray := by
  obtain ⟨h1, h2, h3⟩ := slice_bounds lo hi its.toArray.size
  unfold slicePick
  rw [h1, h2, h3]
  simp only [sliceRange_one, pick_run, List.size_toArray] <;> rfl
noncomputable def rSlL (K : PySem.W.Frag) : V → Option Int → Option Int → Hp → VK → Prop := fun x lo hi H Q => ∃ a xs, x = .ref a ∧ SqL K H a xs ∧ ∀ p, H p = none → Q (.ref p) (upd H p (.lst (cutV xs lo hi)))
theorem sl_list : SlR X (rSlL X.K) := by
  intro pins s σ H x v vl vu lo hi sl Q I rx hs pl pu h
  obtain ⟨a, xs, rfl, hx, q⟩ := h
  cases rx
  obtain ⟨its, r, ht, hz⟩ := I.list hx
  have hlen := r.length
  refine ⟨"list", _, slot_list_getitem.lookup, ht.isList.typeIs, ?_⟩
  refine wpAny_getItem_list_slice ht.isList hs pl pu .none (by simp) ?_ (by rw [List.size_toArray] <;> omega)
  rw [slicePick_cut, ← hlen]
  refine ⟨.ref s.heap.objs.size, _, I.laid (t' := s.toks) (o := .lst (cutV xs lo hi)) (fun b ob q => Heap.get?_push_of_some _ q) (Nat.le_refl _) ?_, rfl, q _ (I.hok.fresh (Nat.le_refl _))⟩
  exact ⟨Nat.le_trans (cutV_length xs lo hi) hz, _, 0, (r.drop (HT.sIx xs.length 0 lo)).take (HT.sIx xs.length xs.length hi - HT.sIx xs.length 0 lo), Heap.get?_push_size _ rfl⟩

noncomputable def flatV : V → Bool
  | .non => true
  | .bl _ => true
  | .int _ => true
  | .str _ => true
  | _ => false
noncomputable def eqV : V → V → Bool
  | .non, .non => true
  | .bl a, .bl b => a == b
  | .bl a, .int b => (if a then 1 else 0) == b
  | .int a, .bl b => a == (if b then 1 else 0)
  | .int a, .int b => a == b
  | .str a, .str b => a == b
  | _, _ => false
theorem eqAt_V {A : Around} {s : Shared} {y x : V} {u v : Value} (ry : RelV y u) (rx : RelV x v) (fy : flatV y = true) (fx : flatV x = true) : SeqAt.EqAt A s u v (eqV y x) := by
  cases y with
  | non =>
    cases ry
    cases x with
    | non => cases rx; exact SeqAt.EqAt.same _
    | bl b => cases rx; exact SeqAt.EqAt.none_bool b
    | int b => obtain ⟨t, rfl⟩ := rx; exact SeqAt.EqAt.none_int b t
    | str b => obtain ⟨t, rfl⟩ := rx; exact SeqAt.EqAt.none_str b t
    | _ => exact absurd (show false = true from fx) Bool.false_ne_true
  | bl a =>
    cases ry
    cases x with
    | non => cases rx; exact SeqAt.EqAt.bool_none a
    | bl b => cases rx; exact SeqAt.EqAt.bool_bool a b
    | int b => obtain ⟨t, rfl⟩ := rx; exact SeqAt.EqAt.bool_int a b t
    | str b => obtain ⟨t, rfl⟩ := rx; exact SeqAt.EqAt.bool_str a b t
    | _ => exact absurd (show false = true from fx) Bool.false_ne_true
  | int a =>
    obtain ⟨t', rfl⟩ := ry
    cases x with
    | non => cases rx; exact SeqAt.EqAt.int_none a t'
    | bl b => cases rx; exact SeqAt.EqAt.int_bool a t' b
    | int b => obtain ⟨t, rfl⟩ := rx; exact SeqAt.EqAt.int_int a t' b t
    | str b => obtain ⟨t, rfl⟩ := rx; exact SeqAt.EqAt.int_str a t' b t
    | _ => exact absurd (show false = true from fx) Bool.false_ne_true
  | str a =>
    obtain ⟨t', rfl⟩ := ry
    cases x with
    | non => cases rx; exact SeqAt.EqAt.str_none a t'
    | bl b => cases rx; exact SeqAt.EqAt.str_bool a t' b
    | int b => obtain ⟨t, rfl⟩ := rx; exact SeqAt.EqAt.str_int a t' b t
    | str b => obtain ⟨t, rfl⟩ := rx; exact SeqAt.EqAt.str_str a t' b t
    | _ => exact absurd (show false = true from fx) Bool.false_ne_true
  | _ => exact absurd (show false = true from fy) Bool.false_ne_true
noncomputable def eqU (x : V) (u : Value) : Bool := match u with
  | .none => eqV .non x
  | .bool b => eqV (.bl b) x
  | .int i _ => eqV (.int i) x
  | .str z _ => eqV (.str z) x
  | _ => false
theorem eqU_of {x y : V} {u : Value} (r : RelV y u) (f : flatV y = true) : eqU x u = eqV y x := by
  cases y with
  | non => cases r; rfl
  | bl b => cases r; rfl
  | int i => obtain ⟨t, rfl⟩ := r; rfl
  | str z => obtain ⟨t, rfl⟩ := r; rfl
  | _ => exact absurd (show false = true from f) Bool.false_ne_true
theorem any_eqU {x : V} : ∀ {xs : List V} {us : List Value}, Vals xs us → xs.all flatV = true → us.any (eqU x) = xs.any fun y => eqV y x
  | _, _, .nil, _ => rfl
  | y :: xs, u :: us, .cons r t, f => by
    rw [List.all_cons, Bool.and_eq_true] at f
    rw [List.any_cons, List.any_cons, eqU_of r f.1, any_eqU t f.2]
theorem mem_eqAt {A : Around} {s : Shared} {x : V} {v : Value} (rx : RelV x v) (fx : flatV x = true) : ∀ {xs : List V} {us : List Value}, Vals xs us → xs.all flatV = true → ∀ u ∈ us, SeqAt.EqAt A s u v (eqU x u)
  | _, _, .nil, _ => fun u hu => by cases hu
  | y :: xs, u :: us, .cons r t, f => fun u' hu => by
    rw [List.all_cons, Bool.and_eq_true] at f
    rcases List.mem_cons.mp hu with rfl | hu
    · rw [eqU_of r f.1]; exact eqAt_V r rx f.1 fx
    · exact mem_eqAt rx fx t f.2 u' hu
noncomputable def inV (x : V) (xs : List V) : Bool := xs.any fun y => eqV y x
noncomputable def rIn (K : PySem.W.Frag) (neg : Bool) : R2 := fun x y H Q => ∃ p xs, y = .ref p ∧ (SqL K H p xs ∨ SqT K H p xs) ∧ flatV x = true ∧ xs.all flatV = true ∧ Q (.bl (if neg then !inV x xs else inV x xs)) H
theorem op_in_seq : OpR X (compareOp .In) (rIn X.K false) := by
  intro pins s σ H x y v u Q I rx ry h
  obtain ⟨p, xs, rfl, hq, fx, fs, q⟩ := h
  cases ry
  rcases hq with hq | hq
  · obtain ⟨its, r, pl, hz⟩ := I.list hq
    refine SeqAt.in_listAt (eqU x) pl.isList (fun w hw => mem_eqAt rx fx r fs w (by simpa using hw)) ⟨.bl _, H, I, rfl, ?_⟩
    rw [show its.toArray.any (eqU x) = its.any (eqU x) by simp, any_eqU r fs]
    exact q
  · obtain ⟨its, r, pl, hz⟩ := I.tuple hq
    refine SeqAt.in_tupleAt (eqU x) pl (fun w hw => mem_eqAt rx fx r fs w (by simpa using hw)) ⟨.bl _, H, I, rfl, ?_⟩
    rw [show its.toArray.any (eqU x) = its.any (eqU x) by simp, any_eqU r fs]
    exact q
theorem call_len_seq : CallR X (.builtin "len") (fun xs H Q => ∃ p ys, xs = [.ref p] ∧ (SqL X.K H p ys ∨ SqT X.K H p ys) ∧ Q (.int ys.length) H) := by
  intro pins s σ H xs us Q I r h
  obtain ⟨p, ys, rfl, hq, q⟩ := h
  obtain ⟨u, rfl, rx⟩ := vals1 r
  cases rx
  have hn := line63
  rcases hq with hq | hq
  · obtain ⟨its, r', pl, hz⟩ := I.list hq
    have hlen := r'.length
    exact Calls.call_len_list pl.isList (by simp only [List.size_toArray] <;> omega) ⟨.int ys.length, H, I.tok _, ⟨s.toks + 1, by rw [List.size_toArray, hlen]⟩, q⟩
  · obtain ⟨its, r', pl, hz⟩ := I.tuple hq
    have hlen := r'.length
    exact len_tuple pl (by simp only [List.size_toArray] <;> omega) ⟨.int ys.length, H, I.tok _, ⟨s.toks + 1, by rw [List.size_toArray, hlen]⟩, q⟩
theorem call_len_str : CallR X (.builtin "len") (fun xs H Q => ∃ z, xs = [.str z] ∧ z.length ≤ sizeLine ∧ Q (.int z.length) H) := by
  intro pins s σ H xs us Q I r h
  obtain ⟨z, rfl, hz, q⟩ := h
  obtain ⟨u, rfl, t, rfl⟩ := vals1 r
  have hn := line63
  exact len_str (by omega) ⟨.int z.length, H, I.tok _, ⟨_, rfl⟩, q⟩
theorem call_list_of : CallR X (.type "list") (fun xs H Q => ∃ p ys, xs = [.ref p] ∧ (SqL X.K H p ys ∨ SqT X.K H p ys) ∧ ∀ l, H l = none → Q (.ref l) (upd H l (.lst ys))) := by
  intro pins s σ H xs us Q I r h
  obtain ⟨p, ys, rfl, hq, q⟩ := h
  obtain ⟨u, rfl, rx⟩ := vals1 r
  cases rx
  have fin : ∀ (its : List Value), Vals ys its → ys.length ≤ sizeLine → ∀ (h' : Heap) (c' : Nat), (∀ b o', s.heap.get? b = some o' → h'.get? b = some o') →
      h'.get? s.heap.objs.size = some { cls := .type "list", dict := none, data := .seq its.toArray c', slots := #[] } → EP X pins σ Q (.ref s.heap.objs.size) { s with heap := h' } := fun its r' hz h' c' kp e =>
    ⟨.ref s.heap.objs.size, _, I.laid (t' := s.toks) kp (Nat.le_refl _) (show ObjOk X.prog X.w _ h' _ (.lst ys) from ⟨hz, its, c', r', e⟩), rfl, q _ (I.hok.fresh (Nat.le_refl _))⟩
  rcases hq with hq | hq
  · obtain ⟨its, r', pl, hz⟩ := I.list hq
    have hlen := r'.length
    obtain ⟨o, ho, hc, n, hd⟩ := pl.isList
    exact call_list_seq p (.inl rfl) ho hc hd (fun h' c' kp e => fin its r' hz h' c' kp e) (by simp only [List.size_toArray] <;> omega)
  · obtain ⟨its, r', pl, hz⟩ := I.tuple hq
    have hlen := r'.length
    obtain ⟨o, ho, hc, n, hd⟩ := pl
    exact call_list_seq p (.inr rfl) ho hc hd (fun h' c' kp e => fin its r' hz h' c' kp e) (by simp only [List.size_toArray] <;> omega)
noncomputable def tyV (K : PySem.W.Frag) (T : String) (x : V) (H : Hp) : Prop := match x with
  | .str _ => T = "str"
  | .int _ => T = "int"
  | .ref p => (T = "list" ∧ ∃ xs, SqL K H p xs) ∨ (T = "tuple" ∧ ∃ o, K.lookup p = some o ∧ o.cls = .type "tuple" ∧ o.dict = none) ∨
      (T = "dict" ∧ ((∃ kvs, H p = some (.dK kvs)) ∨ ∃ kvs, H p = some (.dT kvs))) ∨ (T = "set" ∧ ∃ S n, H p = some (.set S n))
  | _ => False
theorem tyV_is {pins : List (Addr × Obj)} {σ : St} {H : Hp} {s : Shared} {T : String} {x : V} {v : Value} (I : Inv X pins σ H s) (r : RelV x v) (ty : tyV X.K T x H) :
    s.TypeIs v T ∧ ∀ a, v = .ref a → ∃ ob, s.heap.get? a = some ob ∧ ob.dict = none := by
  cases x with
  | str z =>
    obtain ⟨t, rfl⟩ := r
    cases (show T = "str" from ty)
    exact ⟨typeIs_str s z t, fun _ e => nomatch e⟩
  | int i =>
    obtain ⟨t, rfl⟩ := r
    cases (show T = "int" from ty)
    exact ⟨typeIs_int s i t, fun _ e => nomatch e⟩
  | ref p =>
    cases r
    rcases ty with ⟨rfl, xs, hq⟩ | ⟨rfl, o, hk, hc, hd⟩ | ⟨rfl, hk⟩ | ⟨rfl, S, n, hk⟩
    · obtain ⟨its, _, pl, _⟩ := I.list hq
      refine ⟨pl.isList.typeIs, fun a e => ?_⟩
      cases e
      obtain ⟨o, n, e, c, hd, _⟩ := pl
      exact ⟨o, e, hd⟩
    · refine ⟨⟨o, I.kIn p o hk, hc⟩, fun a e => ?_⟩
      cases e
      exact ⟨o, I.kIn _ o hk, hd⟩
    · have z : ∃ o, s.heap.get? p = some o ∧ o.ExactDict := by
        rcases hk with ⟨kvs, hk⟩ | ⟨kvs, hk⟩
        · obtain ⟨_, _, _, _, o, _, _, e, ex, _⟩ := I.hok p _ hk
          exact ⟨o, e, ex⟩
        · obtain ⟨_, _, _, _, o, _, _, e, ex, _⟩ := I.hok p _ hk
          exact ⟨o, e, ex⟩
      obtain ⟨o, e, ex⟩ := z
      refine ⟨⟨o, e, ex.1⟩, fun a e2 => ?_⟩
      cases e2
      exact ⟨o, e, ex.2.1⟩
    · obtain ⟨o, _, _, _, e, ex, _⟩ := I.hok p _ hk
      refine ⟨⟨o, e, ex.1⟩, fun a e2 => ?_⟩
      cases e2
      exact ⟨o, e, ex.2.1⟩
  | _ => exact False.elim ty
noncomputable def tBM0 (K : PySem.W.Frag) (T : String) (r : V → List V → Hp → VK → Prop) (to : TE) : TE := fun σ H Q => to σ H fun x H1 => tyV K T x H1 ∧ r x [] H1 Q
noncomputable def tBM (K : PySem.W.Frag) (T : String) (r : V → List V → Hp → VK → Prop) (to : TE) (t : TA) : TE := fun σ H Q => to σ H fun x H1 => tyV K T x H1 ∧ t σ H1 fun xs H2 => r x xs H2 Q
variable {o e : Expr} {es : List Expr} {to : TE} {t : TA} {name : Str} {apos cpos : Pos} {T id : String} {r : V → List V → Hp → VK → Prop}
theorem pe_bm0 (pa : PlainAttrs T) (slot : Slot T name id) (hty : typeOf (.builtin id) = pure (.type "method_descriptor")) (hm : MtR X id r) (ho : PE X o to)
    (hbase : attributeBase o name X.env (eval o X.env) = eval o X.env := by rfl) (hline : (apos.endLine == cpos.line) = true := by rfl) : PE X (.Call (.Attribute o name apos) [] [] cpos) (tBM0 X.K T r to) := by
  intro pins s σ H Q I h
  refine wpAny_Call_method0_late hbase hline (thn (ho pins s σ H _ I h) fun v s1 ⟨x, H1, I1, r1, ty, q1⟩ => ?_)
  obtain ⟨h1, h2⟩ := tyV_is I1 r1 ty
  exact ⟨T, id, pa, slot, hty, h1, h2, Calls.callWith_builtin rfl (PySem.evalArgs_none (hm pins s1 σ H1 x [] v [] Q I1 r1 .nil q1))⟩
theorem pe_bm (pa : PlainAttrs T) (slot : Slot T name id) (hty : typeOf (.builtin id) = pure (.type "method_descriptor")) (hm : MtR X id r) (ho : PE X o to) (ha : PA X (e :: es) t)
    (hbase : attributeBase o name X.env (eval o X.env) = eval o X.env := by rfl)
    (hfew : ((backTo cpos (starEach (e :: es) X.env)).all (fun x => !x.1) && (backToKw cpos (keywordEach [] X.env)).all (fun x => x.1.isSome)
      && decide ((e :: es).length + ([] : List Keyword).length + (if ([] : List Keyword).isEmpty then 0 else 1) < 30)) = true := by rfl)
    (hline : (apos.endLine == cpos.line) = true := by rfl) (hs : starEach (e :: es) X.env = (false, eval e X.env) :: starEach es X.env := by rfl) (hplain : (backTo cpos (starEach es X.env)).any (·.1) = false := by rfl) :
    PE X (.Call (.Attribute o name apos) (e :: es) [] cpos) (tBM X.K T r to t) := by
  intro pins s σ H Q I h
  refine wpAny_Call_method_late hbase hfew hline rfl (thn (ho pins s σ H _ I h) fun v s1 ⟨x, H1, I1, r1, ty, q1⟩ => ?_)
  obtain ⟨h1, h2⟩ := tyV_is I1 r1 ty
  refine ⟨T, id, pa, slot, hty, h1, h2, ?_⟩
  have hA := ha cpos pins s1 σ H1 _ I1 q1
  rw [hs] at hA ⊢
  refine Calls.callWith_builtin (by show (false || (backTo cpos (starEach es X.env)).any (·.1)) = false; rw [hplain] <;> rfl) (Calls.evalArgs_plain ?_)
  exact thn hA fun us s2 ⟨vs, H2, I2, r2, q2⟩ => hm pins s2 σ H2 x vs v us Q I2 r1 r2 q2
end
end L2

namespace L2
open PySem PySem.Spec PyProof.Rows

noncomputable def MtM (X : Cx) (id : String) (r : V → List V → Hp → VK → Prop) : Prop :=
  ∀ (pins : List (Addr × Obj)) (s : Shared) (σ : St) (H : Hp) (x : V) (xs : List V) (v : Value) (us : List Value) (Q : VK), Inv X pins σ H s → RelV x v → Vals xs us → r x xs H Q →
    wpAny (model X.prog X.w) X.A (call (.builtin id) (v :: us)) (EP X pins σ Q) X.xe s

theorem Vals.one : ∀ {x : V} {us : List Value}, Vals [x] us → ∃ u, us = [u] ∧ RelV x u
  | _, _, .cons r .nil => ⟨_, rfl, r⟩
theorem Vals.zero : ∀ {us : List Value}, Vals [] us → us = []
  | _, .nil => rfl
theorem Vals.dropLast {xs : List V} {us : List Value} (h : Vals xs us) : Vals xs.dropLast us.dropLast := by
  induction h with
  | nil => exact .nil
  | cons r t ih =>
    cases t with
    | nil => exact .nil
    | cons q t' => exact .cons r ih
theorem Vals.eraseIdx : ∀ {xs : List V} {us : List Value} (i : Nat), Vals xs us → Vals (xs.eraseIdx i) (us.eraseIdx i)
  | _, _, _, .nil => .nil
  | _, _, 0, .cons _ t => t
  | _, _, i + 1, .cons r t => .cons r (Vals.eraseIdx i t)
theorem Vals.rep {xs : List V} {us : List Value} (h : Vals xs us) : ∀ k : Nat, Vals (List.replicate k xs).flatten (List.replicate k us).flatten
  | 0 => .nil
  | k + 1 => by
    rw [List.replicate_succ, List.replicate_succ, List.flatten_cons, List.flatten_cons]
    exact Vals.append h (Vals.rep h k)
theorem erase_last {α : Type} (l : List α) : l.eraseIdx (l.length - 1) = l.dropLast := by
  induction l with
  | nil => rfl
  | cons a r ih =>
    cases r with
    | nil => rfl
    | cons b r =>
      have e : (a :: b :: r).length - 1 = ((b :: r).length - 1) + 1 := by
        have h1 : (a :: b :: r).length = r.length + 2 := rfl
        have h2 : (b :: r).length = r.length + 1 := rfl
        omega
      rw [e, List.eraseIdx_cons_succ, ih]
      all_goals rfl
theorem foldl_rep (its : List Value) : ∀ (k : Nat) (acc : List Value),
    List.foldl (fun x1 x2 => x1 ++ x2) acc.toArray (List.replicate k its.toArray) = (acc ++ (List.replicate k its).flatten).toArray
  | 0, acc => by simp
  | k + 1, acc => by
    have e : acc.toArray ++ its.toArray = (acc ++ its).toArray := by simp
    have e2 : (acc ++ its) ++ (List.replicate k its).flatten = acc ++ (List.replicate (k + 1) its).flatten := by
      rw [List.replicate_succ, List.flatten_cons, List.append_assoc]
    rw [← e2, ← foldl_rep its k (acc ++ its), ← e, List.replicate_succ, List.foldl_cons]

section
variable {X : Cx} {pins : List (Addr × Obj)} {σ : St} {H : Hp} {s : Shared} {l b : Addr} {xs ys zs : List V}

theorem Inv.lset {its its' : List Value} {n : Nat} {f : Array Value → Array Value} {t' : Nat} (I : Inv X pins σ H s) (hH : H l = some (.lst xs))
    (e : s.heap.get? l = some { cls := .type "list", data := .seq its.toArray n }) (hf : f its.toArray = its'.toArray) (hv : Vals ys its') (hz : ys.length ≤ sizeLine) :
    Inv X pins σ (upd H l (.lst ys)) { s with heap := s.heap.update l (Obj.mapSeq f), toks := t' } := by
  have q := PySem.IsL.update e f
  rw [hf] at q
  refine I.write (x := l) (e := l) (by rw [hH]; exact trivial) (.inl rfl) (fun b' u hb hu => (Heap.get?_update_other s.heap (Obj.mapSeq f) (Ne.symm hb)).trans hu) ⟨_, q⟩ ?_
  exact ⟨hz, its', _, hv, q⟩
theorem Inv.lnew {its : List Value} {t' : Nat} (I : Inv X pins σ H s) (hv : Vals ys its) (hz : ys.length ≤ sizeLine) :
    Inv X pins σ (upd H s.heap.objs.size (.lst ys)) { s with heap := s.heap.push { cls := .type "list", data := .seq its.toArray }, toks := t' } :=
  I.laid (fun _ _ q => Heap.get?_push_of_some _ q) (Nat.le_refl _) ⟨hz, its, 0, hv, Heap.get?_push_size _ rfl⟩
theorem Inv.fresh (I : Inv X pins σ H s) : H s.heap.objs.size = none := I.hok.fresh (Nat.le_refl _)
theorem Inv.lstM (I : Inv X pins σ H s) (hH : H l = some (.lst xs)) : xs.length ≤ sizeLine ∧ ∃ (its : List Value) (n : Nat), Vals xs its ∧ xs.length = its.length ∧ s.heap.get? l = some { cls := .type "list", data := .seq its.toArray n } := by
  obtain ⟨z, its, n, r, e⟩ := I.hok l _ hH
  exact ⟨z, its, n, r, r.length, e⟩

theorem notLongL {n : Nat} (h : n ≤ sizeLine) : Builtin.List.listTooLong n = false := by
  unfold Builtin.List.listTooLong
  exact decide_eq_false (by omega)
end

section
variable {X : Cx}

noncomputable def rAppend : V → List V → Hp → VK → Prop := fun x vs H Q => ∃ l xs y, x = .ref l ∧ vs = [y] ∧ H l = some (.lst xs) ∧ xs.length < sizeLine ∧ Q .non (upd H l (.lst (xs ++ [y])))
theorem mt_append : MtM X "list.append" rAppend := by
  intro pins s σ H x vs v us Q I rx rv h
  obtain ⟨l, xs, y, rfl, rfl, hH, hz, q⟩ := h
  cases rx
  obtain ⟨u, rfl, ru⟩ := rv.one
  obtain ⟨z, its, n, r, hl, e⟩ := I.lstM hH
  refine call_meets F.slot_list_append ⟨_, e, rfl⟩ F.entry_list_append (F.args_list_append_2 _ _) (PySem.list_append l its.toArray n u (by rw [List.size_toArray]; omega)) ⟨e, ?_⟩
  refine ⟨.non, _, I.lset (its' := its ++ [u]) hH e (by simp) (r.append (.cons ru .nil)) ?_, rfl, q⟩
  rw [List.length_append, List.length_singleton]
  omega

noncomputable def rPop : V → List V → Hp → VK → Prop := fun x vs H Q => ∃ l xs y, x = .ref l ∧ vs = [] ∧ H l = some (.lst xs) ∧ xs[xs.length - 1]? = some y ∧ Q y (upd H l (.lst xs.dropLast))
theorem mt_pop : MtM X "list.pop" rPop := by
  intro pins s σ H x vs v us Q I rx rv h
  obtain ⟨l, xs, y, rfl, rfl, hH, hy, q⟩ := h
  cases rx
  have hus := rv.zero
  subst hus
  obtain ⟨z, its, n, r, hl, e⟩ := I.lstM hH
  obtain ⟨u, hu, ru⟩ := r.get hy
  have hy' : its.toArray[its.toArray.size - 1]? = some u := by
    show its.toArray[its.length - 1]? = some u
    rw [← Array.getElem?_toList, ← hl]
    exact hu
  refine call_meets F.slot_list_pop ⟨_, e, rfl⟩ F.entry_list_pop (F.args_list_pop_1 _) (MeetsSeq.list_pop_last l its.toArray n u hy' (by rw [List.size_toArray]; omega)) ⟨e, ?_⟩
  refine ⟨y, _, I.lset (its' := its.dropLast) hH e ?_ r.dropLast ?_, ru, q⟩
  · show its.toArray.eraseIdxIfInBounds (its.toArray.size - 1) = its.dropLast.toArray
    rw [List.size_toArray, List.eraseIdxIfInBounds_toArray, erase_last]
  · rw [List.length_dropLast]
    omega

noncomputable def rRep : R2 := fun x y H Q => ∃ l k xs, x = .ref l ∧ y = .int k ∧ H l = some (.lst xs) ∧ -(2 ^ 63) ≤ k ∧ k < 2 ^ 63 ∧ xs.length * k.toNat ≤ sizeLine ∧
  ∀ p, H p = none → Q (.ref p) (upd H p (.lst (List.replicate k.toNat xs).flatten))
theorem len_rep {α : Type} (xs : List α) (k : Nat) : (List.replicate k xs).flatten.length = k * xs.length := by
  induction k with
  | zero => simp
  | succ k ih => rw [List.replicate_succ, List.flatten_cons, List.length_append, ih, Nat.succ_mul, Nat.add_comm]
theorem op_rep : OpR X (binaryOp .Mult) rRep := by
  intro pins s σ H x y v u Q I rx ry h
  obtain ⟨l, k, xs, rfl, rfl, hH, h1, h2, hz, q⟩ := h
  cases rx
  obtain ⟨t, rfl⟩ := ry
  obtain ⟨z, its, n, r, hl, e⟩ := I.lstM hH
  have hlen : its.toArray.size * k.toNat ≤ sizeLine := by rw [List.size_toArray, ← hl]; exact hz
  have hcap : ¬ its.toArray.size * k.toNat > (2 ^ 63 - 1) / 8 := by
    have : (sizeLine : Nat) ≤ (2 ^ 63 - 1) / 8 := by decide
    omega
  have hfit : ¬ (!Builtin.List.listFitsIndex k) = true := by
    rw [fitsIndex_both h1 h2]
    exact Bool.false_ne_true
  have hlong : ¬ Builtin.List.listTooLong (its.toArray.size * k.toNat) = true := by
    rw [notLongL hlen]
    exact Bool.false_ne_true
  have hnew : List.foldl (fun x1 x2 => x1 ++ x2) #[] (List.replicate (if its.toArray.isEmpty = true then 0 else k.toNat) its.toArray) = (List.replicate k.toNat its).flatten.toArray := by
    have f0 : ∀ m : Nat, List.foldl (fun x1 x2 => x1 ++ x2) #[] (List.replicate m its.toArray) = (List.replicate m its).flatten.toArray := fun m => by
      have := foldl_rep its m []
      rw [List.nil_append] at this
      exact this
    rw [f0]
    cases its with
    | nil => simp
    | cons a r' => rw [if_neg (by simp)]
  refine wpAny_binaryOp_repeat_ref (T := "list") (U := "int") (by decide) ⟨_, e, rfl⟩ (fun s' => typeIs_int s' k t) noFill_list_mul F.fills_int_mul F.slot_int_rmul repeat_list F.slot_int_index.lookup
    (call_meets F.slot_int_rmul (typeIs_int s k t) F.entry_int_rmul (F.args_int_rmul_2 _ _) (int___rmul___int_list k t l its.toArray n)
      ⟨e, rfl, ⟨_, e, rfl⟩, call_meets F.slot_list_mul ⟨_, e, rfl⟩ F.entry_list_mul (F.args_list_mul_2 _ _) (AutoListH.list___mul___list_int_3 l its.toArray n k t hfit hcap hlong) ⟨e, ?_⟩⟩)
  rw [hnew]
  exact ⟨.ref _, _, I.lnew (t' := s.toks) (r.rep k.toNat) (by rw [len_rep, Nat.mul_comm]; exact hz), rfl, q _ I.fresh⟩

end

section
variable {prog : Program} {w : World} {A : Around} {E : Value → Shared → Prop} {s : Shared}
end

section
variable {X : Cx}
end
end L2

namespace Att
open PySem PySem.W PySem.Calls PyProof.Rows

theorem ints_of_wellAll {P : Params} {h : Heap} : ∀ (ns : List Int) (vs : List Value), WellAll P h vs (ns.map WData.int) → IntsAre vs ns := by
  intro ns
  induction ns with
  | nil =>
    intro vs w
    rw [List.map_nil] at w
    cases w
    exact .nil
  | cons n ns ih =>
    intro vs w
    rw [List.map_cons] at w
    cases w with
    | cons a b =>
      cases a
      exact .cons _ _ (ih _ b)

theorem script_of {l : OpenLaw} {n : Nat} (hn : l.most = some n) {P : Params} {h : Heap} {args : List WData} {vals : List Value}
    (hpre : l.row.toRowW.claim.pre args = true) (hwl : WellAll P h vals args) :
    ∃ a vs ns, vals = [Value.ref a] ∧ args = [WData.list (ns.map WData.int)] ∧ h.get? a = some { cls := .type "list", data := .seq vs.toArray } ∧ IntsAre vs ns ∧ ns.length ≤ n := by
  have hsh : WShape.hasAll [] args [.list .int] = true := (pre_splitW hpre).1
  have hc : l.pre.holds [] { args := args } = true := (pre_splitW hpre).2
  obtain ⟨d, r, rfl, h1, h2⟩ := hasAllW_cons hsh
  obtain rfl := hasAllW_nil h2
  obtain ⟨xs, rfl, h3⟩ := hasW_list h1
  obtain ⟨ns, rfl⟩ := items_int h3
  have hlen : ns.length ≤ n := by
    unfold OpenLaw.pre at hc
    have h4 : (WTm.not (.lt (.lit (.int (n : Int))) (.len (.arg 0)))).holds [] { args := [.list (ns.map .int)] } = true := by
      have h4 := (holds_andW hc).1
      rw [hn] at h4
      exact h4
    have h5 := condW_of h4 (w_not (w_lt w_lit (w_len_list (w_arg rfl))))
    rw [List.length_map] at h5
    refine Nat.le_of_not_lt fun q => ?_
    have q' : (n : Int) < ((ns.length : Nat) : Int) := by omega
    first
      | (rw [decide_eq_true q'] at h5; exact absurd h5 (by decide))
      | (simp at h5; omega)
  cases hwl with
  | cons w1 w2 =>
    cases w2
    cases w1 with
    | list ho hall => exact ⟨_, _, ns, rfl, rfl, ho, ints_of_wellAll ns _ hall, hlen⟩

theorem post_true (l : OpenLaw) (args : List WData) : l.row.toRowW.claim.post args (.bool true) args = true :=
  postW_of (r := l.row.toRowW) (X := (true == true))
    (show WShape.has [] (.bool true) .bool = true by first | rfl | decide | simp [WShape.has, WShape.arms, WShape.armsAll])
    (show (WTm.eq .res (.lit (.bool true))).value [] { args := args, res := some (.bool true), after := args } = some (.bool (true == true)) from w_eq_bool (w_res rfl) w_lit) rfl

theorem attach_call {l : OpenLaw} {n : Nat} {q : Program} {loose : List Str} {XP : (Str → Option Value) → Heap → Prop} {YP : World → Heap → Prop} {d : DefRec}
    (hn : l.most = some n) (hdf : d.params.defaults = [])
    (call : ∀ (w : World) (s₀ s₁ : Shared) (mg mb : Str → Option Value) (fa : Addr) (o : Obj) (pm cd doc : Value) (a : Addr) (vs : List Value) (ns : List Int),
      Ground q loose [] XP w s₀ mg mb s₁.heap → YP w s₁.heap →
      s₁.heap.get? fa = some o → o.data = .func (docDef d.name d.params d.body d.scope pm cd doc) → s₁.heap.CodeRec cd d.name → mg d.name = some (.ref fa) →
      s₁.heap.get? a = some { cls := .type "list", data := .seq vs.toArray } → IntsAre vs ns → ns.length ≤ n → s₁.gens = #[] →
      codeAny (model l.prog w) callerA (.call (.ref fa) ⟨[.ref a], []⟩) (fun r s' => r = .ok (.ret (.bool true)) ∧ OldK s₁.heap s'.heap ∧ s'.os = s₁.os ∧ AllBare s'.gens) s₁) :
    WalkO q loose XP YP l.row.toRowW d [] (fun f vs => PySem.call f vs) := by
  intro w s₀ s₁ mg mb G Y fa o pm cd doc dV kV ho hd hcd hD hmg hg args vals as hpre hlay hrd hwl hlo
  obtain rfl : dV = .none := Dflts.none hD hdf
  obtain rfl : kV = .none := Dflts.noKw hD
  obtain ⟨a, vs, ns, rfl, rfl, hobj, hints, hlen⟩ := script_of hn hpre hwl
  refine enter_call (codeAny_mono (call w s₀ s₁ mg mb fa o pm cd doc a vs ns G Y ho (fd_plain hd) hcd hmg hobj hints hlen hg) fun r s' hq => ?_)
  obtain ⟨rfl, h2, h3, h4⟩ := hq
  exact ⟨.inl ⟨.bool true, .bool true, [], rfl, fun _ => rfl, .bool true, post_true l _, fun _ => ⟨List.Pairwise.nil, fun _ hm => (nomatch hm)⟩⟩, h2, h3, h4⟩

section
variable {prog : Program} {w : World} {A : Around} {E : Value → Shared → Prop} {s : Shared} {K : Frag}

end
end Att

namespace L2
open PySem PySem.Spec PyProof.Rows

theorem vals_ints : ∀ {vs : List Value} {ns : List Int}, IntsAre vs ns → Vals (ns.map V.int) vs
  | _, _, .nil => .nil
  | _, _, .cons n t h => .cons ⟨t, rfl⟩ (vals_ints h)

noncomputable def Only (H : Hp) : Prop := ∀ b, H b = none ∨ ∃ o xs, H b = some (.frz o (.lst xs))

theorem law_call {P : Program} {w : World} {K : PySem.W.Frag} {mg mb : Str → Option Value} {CX : CXT} {k : Nat} {fa a : Addr} {fd : FuncData} {x : Str} {sp : Sp} {s₁ : Shared} {vs : List Value} {ns : List Int}
    (KX : K.In s₁.heap) (hns : s₁.heap.Ns mainGlobals mg) (hb : s₁.heap.Ns builtinsNs mb) (hbb : ∀ x : Str, x ≠ "__name__" → mb x = bootBuiltins x) (hlim : s₁.heap.NoLimit) (hg : s₁.gens = #[])
    (ha : s₁.heap.get? a = some { cls := .type "list", data := .seq vs.toArray }) (hi : IntsAre vs ns) (hl : ns.length ≤ sizeLine) (hr : Room k callerA)
    (F : ∀ base : Heap, K.In base → base.Ns mainGlobals mg → FnOk P w K mg base CX k fa fd [x] sp) (hbind : ∀ (s : Shared) (u : Value), BindsTo s fd ⟨[u], []⟩ [(x, u)])
    (hsp : ∀ H : Hp, Only H → SqL K H a (ns.map V.int) → sp [.ref a] H (fun v _ => v = .bl true) fun _ _ _ => False)
    (hCX : ∀ H e s', CX [] H s₁ (fun _ _ _ => False) e s' → False) :
    codeAny (model P w) callerA (.call (.ref fa) ⟨[.ref a], []⟩) (fun r s' => r = .ok (.ret (.bool true)) ∧ OldK s₁.heap s'.heap ∧ s'.os = s₁.os ∧ AllBare s'.gens) s₁ := by
  have rv := vals_ints hi
  have lenV := hi.length
  -- from an abstract heap in which nothing but the script may be tracked
  have core : ∀ H : Hp, Only H → SqL K H a (ns.map V.int) → HOk P w H s₁.heap → (∀ b, H b ≠ none → b = a) → (H a ≠ none → K.lookup a = none) →
      codeAny (model P w) callerA (.call (.ref fa) ⟨[.ref a], []⟩) (fun r s' => r = .ok (.ret (.bool true)) ∧ OldK s₁.heap s'.heap ∧ s'.os = s₁.os ∧ AllBare s'.gens) s₁ := by
    intro H hO hS hok hA hK
    have base_of : ∀ {b : Addr} {o : Obj}, s₁.heap.get? b = some o → H b = none → (hidT s₁.heap H).get? b = some o := fun e n => hidT_get e n
    have noA : ∀ {b : Addr} {o : Obj} {es : Array DictEntry} {ep : Nat}, s₁.heap.get? b = some o → o.data = .dict es ep → H b = none := fun {b o es ep} e d => by
      cases q : H b with
      | none => rfl
      | some u =>
        have e' : b = a := hA b (by rw [q]; simp)
        subst e'
        rw [ha] at e; cases e
        have d' : Data.seq vs.toArray _ = Data.dict es ep := d
        cases d'
    have nsK : ∀ {b : Addr} {m : Str → Option Value}, s₁.heap.Ns b m → (hidT s₁.heap H).Ns b m := fun {b m} ⟨o, es, ep, e, d, r⟩ => ⟨o, es, ep, base_of e (noA e d), d, r⟩
    have hKb : K.In (hidT s₁.heap H) := fun b o e => base_of (KX b o e) (by
      cases q : H b with
      | none => rfl
      | some u =>
        have e' : b = a := hA b (by rw [q]; simp)
        subst e'
        rw [hK (by rw [q]; simp)] at e; cases e)
    have hM : Mod K mg (hidT s₁.heap H) := ⟨hKb, nsK hns, ⟨mb, nsK hb, hbb⟩, let ⟨mc, h1, h2⟩ := hlim; ⟨mc, nsK h1, h2⟩⟩
    have e0 : Env0 P w K mg (hidT s₁.heap H) callerA [] s₁ H := ⟨rfl, hM, fun b o e => of_hidT e, Nat.le_of_eq (hidT_size _ _), trivial, fun b hb => absurd (show b ∈ ([] : List Addr) from hb) (by simp), hok, .of_eq hg⟩
    refine codeAny_mono ((F _ hKb (nsK hns)).run callerA [] s₁ H ⟨[.ref a], []⟩ [.ref a] [.ref a] _ _ hr e0 (hbind s₁ (.ref a)) (.cons rfl .nil) (hsp H hO hS)) fun r s' h => ?_
    cases r with
    | error e => exact (hCX H e s' h).elim
    | ok fl =>
      cases fl with
      | next => exact False.elim h
      | brk => exact False.elim h
      | cont => exact False.elim h
      | ret u =>
        obtain ⟨v, H', os, bare, un, hok', r', q⟩ := h
        have q' : v = .bl true := q
        subst q'
        obtain rfl : u = Value.bool true := r'
        refine ⟨rfl, OldK.of_keep fun b o e => ?_, os, bare⟩
        cases q : H b with
        | none => exact un.keep b o e q (by intro z; exact absurd (show b ∈ ([] : List Addr) from z) (by simp)) (by simp)
        | some u =>
          rcases hO b with z | ⟨ob, xs, z⟩
          · rw [q] at z; cases z
          · have z2 := un.frzs b ob _ z
            obtain ⟨e1, _⟩ := hok b _ z
            obtain ⟨e2, _⟩ := hok' b _ z2
            rw [e] at e1; cases e1
            exact e2
  cases hk : K.lookup a with
  | some o =>
    -- the script is one of the module's own objects
    have e := KX a o hk
    rw [ha] at e
    cases e
    refine core (fun _ => none) (fun _ => .inl rfl) (.inr ⟨_, vs.toArray, _, hk, rfl, rfl, rfl, by rw [List.size_toArray, lenV]; exact hl, by simpa using rv⟩) (fun b u z => by have z' : (none : Option HO) = some u := z; cases z') (fun b z => absurd rfl z) fun z => absurd rfl z
  | none =>
    refine core (fun b => if b = a then some (.frz { cls := .type "list", data := .seq vs.toArray } (.lst (ns.map V.int))) else none) (fun b => ?_) (.inl (.inr ⟨{ cls := .type "list", data := .seq vs.toArray }, if_pos rfl⟩)) (fun b u z => ?_) (fun b z => ?_) fun _ => hk
    · by_cases hb : b = a
      · exact .inr ⟨_, _, if_pos hb⟩
      · exact .inl (if_neg hb)
    · by_cases hb : b = a
      · have z' := (if_pos hb).symm.trans z
        cases z'
        subst hb
        exact ⟨ha, by rw [List.length_map]; exact hl, vs, _, rv, ha⟩
      · have z' := (if_neg hb).symm.trans z
        cases z'
    · by_cases hb : b = a
      · exact hb
      · exact absurd (if_neg hb) z
end L2

namespace L2
open PySem PySem.Spec PyProof.Rows

theorem walk_of {l : PySem.W.OpenLaw} {n k : Nat} {q : Program} {loose : List Str} {XP : (Str → Option Value) → Heap → Prop} {YP : World → Heap → Prop} {d : DefRec} {K : Params → PySem.W.Frag} {CX : World → CXT} {sp : World → Sp} {x : Str}
    (hn : l.most = some n) (hn2 : n ≤ sizeLine) (hdf : d.params.defaults = []) (hr : Room k callerA)
    (hY : ∀ (w : World) (h : Heap), YP w h → (K w.params).In h)
    (F : ∀ (w : World) (mg : Str → Option Value) (fa : Addr) (h : Heap), (K w.params).In h → h.Ns mainGlobals mg → mg d.name = some (.ref fa) →
      ∃ fd : FuncData, (∀ (s : Shared) (u : Value), BindsTo s fd ⟨[u], []⟩ [(x, u)]) ∧
        ∀ base : Heap, (K w.params).In base → base.Ns mainGlobals mg → FnOk l.prog w (K w.params) mg base (CX w) k fa fd [x] (sp w))
    (hsp : ∀ (w : World) (H : Hp) (a : Addr) (ns : List Int), ns.length ≤ n → Only H → SqL (K w.params) H a (ns.map V.int) → sp w [.ref a] H (fun v _ => v = .bl true) fun _ _ _ => False)
    (hCX : ∀ (w : World) (H : Hp) (s : Shared) (e : Value) (s' : Shared), CX w [] H s (fun _ _ _ => False) e s' → False) :
    PySem.W.WalkO q loose XP YP l.row.toRowW d [] (fun f vs => PySem.call f vs) := by
  refine Att.attach_call hn hdf fun w s₀ s₁ mg mb fa o pm cd doc a vs ns G Y ho hd hcd hmg hobj hints hlen hg => ?_
  have KX := hY w _ Y
  obtain ⟨fd, hb, hF⟩ := F w mg fa _ KX G.T.g hmg
  exact law_call KX G.T.g G.T.b G.T.builtins G.T.nolimit hg hobj hints (Nat.le_trans hlen hn2) hr hF hb (fun H hO hS => hsp w H a ns hlen hO hS) fun H e s' => hCX w H s₁ e s'
theorem walk_ofK {l : PySem.W.OpenLaw} {n k : Nat} {q : Program} {loose : List Str} {XP : (Str → Option Value) → Heap → Prop} {YP : World → Heap → Prop} {d : DefRec} {K : Params → PySem.W.Frag} {CX : CXT} {sp : PySem.W.Frag → Sp} {x : Str}
    (hn : l.most = some n) (hn2 : n ≤ sizeLine) (hdf : d.params.defaults = []) (hr : Room k callerA)
    (hY : ∀ (w : World) (h : Heap), YP w h → (K w.params).In h)
    (F : ∀ (w : World) (mg : Str → Option Value) (fa : Addr) (h : Heap), (K w.params).In h → h.Ns mainGlobals mg → mg d.name = some (.ref fa) →
      ∃ fd : FuncData, (∀ (s : Shared) (u : Value), BindsTo s fd ⟨[u], []⟩ [(x, u)]) ∧
        ∀ base : Heap, (K w.params).In base → base.Ns mainGlobals mg → FnOk l.prog w (K w.params) mg base CX k fa fd [x] (sp (K w.params)))
    (hsp : ∀ (K : PySem.W.Frag) (H : Hp) (a : Addr) (ns : List Int), ns.length ≤ n → Only H → SqL K H a (ns.map V.int) → sp K [.ref a] H (fun v _ => v = .bl true) fun _ _ _ => False)
    (hCX : ∀ (H : Hp) (s : Shared) (e : Value) (s' : Shared), CX [] H s (fun _ _ _ => False) e s' → False) :
    PySem.W.WalkO q loose XP YP l.row.toRowW d [] (fun f vs => PySem.call f vs) :=
  walk_of (K := K) (CX := fun _ => CX) (sp := fun w => sp (K w.params)) hn hn2 hdf hr hY F (fun w H a ns h1 h2 h3 => hsp (K w.params) H a ns h1 h2 h3) fun _ H s e s' => hCX H s e s'
end L2

namespace L2
open PySem PySem.Spec PyProof.Rows

noncomputable def inClass (s : Stmt) (j : Nat) : Stmt := match s with
  | .ClassDef _ _ _ body _ _ _ _ _ _ _ => body.getD j (.Pass ⟨0, 0, 0, 0⟩)
  | _ => .Pass ⟨0, 0, 0, 0⟩
noncomputable def defArgs (s : Stmt) : Arguments := match s with
  | .FunctionDef _ a _ _ _ _ _ _ _ _ => a
  | _ => { posonlyargs := [], args := [], vararg := none, kwonlyargs := [], kw_defaults := [], kwarg := none, defaults := [] }
noncomputable def defBody (s : Stmt) : List Stmt := match s with
  | .FunctionDef _ _ b _ _ _ _ _ _ _ => b
  | _ => []
noncomputable def defScope (s : Stmt) : Scope := match s with
  | .FunctionDef _ _ _ _ _ _ sc _ _ _ => sc
  | _ => { kind := .function, names := [], isGenerator := false, isCoroutine := false }

noncomputable abbrev CX0 : CXT := fun _ _ _ _ _ _ => False
noncomputable abbrev E0 : XK := fun _ _ _ => False
theorem pass0 {X : Cx} : Passes CX0 X E0 := fun _ _ _ _ _ _ _ h => h.elim

structure Fun (K : PySem.W.Frag) (x qual : Str) (st : Stmt) (f : Addr) (fd : FuncData) : Prop where
  ex : ∃ (oc : Value) (od : Option Addr) (kV doc pm : Value) (an : Option Addr) (cdv ct : Value) (osl : Array (Option Value)),
    fd = PySem.W.fnOf x qual (defArgs st) (defBody st) (defScope st) .none kV doc pm an cdv ct ∧ K.lookup f = some ⟨oc, od, .func fd, osl⟩ ∧ PySem.W.codeIn K cdv qual = true
  kp : PySem.W.keepIn K (.ref f) = true
section
variable {P : Program} {w : World} {K : PySem.W.Frag} {mg : Str → Option Value} {base : Heap}
theorem Fun.ok {x qual : Str} {st : Stmt} {f : Addr} {fd : FuncData} {N ps : List Str} {k : Nat} {sp : Sp} (F : Fun K x qual st f fd) (S : FnScope N ps (defScope st)) (len : ∀ vs H Q E, sp vs H Q E → vs.length = ps.length)
    (hbody : ∀ (cdv : Value) (A : Around) (outer : List Env) (s : Shared) (H : Hp) (vs : List V) (Q : VK) (E : XK), Room k (A.deeper (envOfC qual (defScope st) s.heap.objs.size f cdv)) → sp vs H Q E →
      ∃ t, PSs (cxOf CX0 P w K mg base N qual (defScope st) f cdv A outer s H E).nox (defBody st) t ∧ t { nx := fun _ H' => Q .non H', rt := Q } (start N vs) H) : FnOk P w K mg base CX0 (k + 1) f fd ps sp := by
  obtain ⟨oc, od, kV, doc, pm, an, cdv, ct, osl, rfl, lk, hcd⟩ := F.ex
  refine fn_of lk hcd S len fun A outer s H vs Q E hr hsp => ?_
  obtain ⟨t, h, q⟩ := hbody cdv A outer s H vs Q E hr hsp
  exact ⟨t, h.nox, q⟩
theorem Fun.binds {x qual : Str} {st : Stmt} {f : Addr} {fd : FuncData} {ps : List Str} (F : Fun K x qual st f fd)
    (h : ∀ (kV doc pm : Value) (an : Option Addr) (cdv ct : Value) (us : List Value), us.length = ps.length → bindArgs (PySem.W.fnOf x qual (defArgs st) (defBody st) (defScope st) .none kV doc pm an cdv ct) ⟨us, []⟩ = pure (ps.zip us)) : Binds K fd ps [] := by
  obtain ⟨oc, od, kV, doc, pm, an, cdv, ct, osl, rfl, lk, hcd⟩ := F.ex
  exact .all (h kV doc pm an cdv ct)
theorem fun_mk {x qual : Str} {st : Stmt} {f : Addr} {oc : Value} {od an : Option Addr} {osl : Array (Option Value)} {kV doc pm cdv ct : Value} (l : K.lookup f = some ⟨oc, od, .func (PySem.W.fnOf x qual (defArgs st) (defBody st) (defScope st) .none kV doc pm an cdv ct), osl⟩)
    (c : PySem.W.codeIn K cdv qual = true) (k : PySem.W.keepIn K (.ref f) = true) : Fun K x qual st f (PySem.W.fnOf x qual (defArgs st) (defBody st) (defScope st) .none kV doc pm an cdv ct) := ⟨⟨oc, od, kV, doc, pm, an, cdv, ct, osl, rfl, l, c⟩, k⟩
end
theorem hu_of {A : Around} {k : Nat} (hr : Room k A) : A.units + 1 < cLine := Nat.lt_of_le_of_lt (Nat.add_le_add_left (by decide : 1 ≤ 64) _) hr.units
section
variable {X : Cx}
theorem pv (i : Nat) {x : Str} {pos : Pos} (hN : X.N[i]? = some x := by rfl) (hv : Vis X.env.scope x := by first | exact Or.inl rfl | exact Or.inr (Or.inl rfl) | exact Or.inr (Or.inr rfl)) (hd : (x == ("__debug__" : Str)) = false := by decide)
    (hcd : (x == ("__classdict__" : Str)) = false := by decide) : PE X (.Name x pos) (tVar i) := pe_var hN hv hd hcd
end

noncomputable def Same (H H' : Hp) : Prop := ∀ b o, H b = some o → H' b = some o
theorem Same.refl (H : Hp) : Same H H := fun _ _ h => h
theorem Same.trans {H H1 H2 : Hp} (a : Same H H1) (b : Same H1 H2) : Same H H2 := fun c o h => b c o (a c o h)
theorem Same.seq {K : PySem.W.Frag} {H H' : Hp} {a : Addr} {xs : List V} (e : Same H H') (h : SqL K H a xs) : SqL K H' a xs := by
  rcases h with (h | ⟨o, h⟩) | h
  · exact .inl (.inl (e _ _ h))
  · exact .inl (.inr ⟨o, e _ _ h⟩)
  · exact .inr h

end L2

set_option Elab.async false
set_option linter.all false
set_option maxRecDepth 100000
namespace L2
open PySem PySem.Spec PyProof.Rows

section
variable {κ : Type} [DecidableEq κ]
noncomputable def valV (kvs : List (κ × V)) (k : κ) : Option V := (kvs.find? fun kv => decide (kv.1 = k)).map (·.2)
noncomputable def putK (kvs : List (κ × V)) (k : κ) (v : V) : List (κ × V) :=
  if (kvs.any fun kv => decide (kv.1 = k)) = true then kvs.map (fun kv => if kv.1 = k then (kv.1, v) else kv) else kvs ++ [(k, v)]
noncomputable def dropK (kvs : List (κ × V)) (k : κ) : List (κ × V) := kvs.filter fun kv => decide (kv.1 ≠ k)

theorem valV_pos {p : κ × V} {r : List (κ × V)} {k : κ} (e : p.1 = k) : valV (p :: r) k = some p.2 := by simp [valV, List.find?_cons, e]
theorem valV_neg {p : κ × V} {r : List (κ × V)} {k : κ} (e : ¬ p.1 = k) : valV (p :: r) k = valV r k := by simp [valV, List.find?_cons, e]
theorem valV_any (k : κ) : ∀ kvs : List (κ × V), (kvs.any fun kv => decide (kv.1 = k)) = (valV kvs k).isSome
  | [] => rfl
  | p :: r => by
    rw [List.any_cons]
    by_cases e : p.1 = k
    · simp only [valV_pos e, decide_eq_true e, Bool.true_or, Option.isSome_some]
    · rw [valV_neg e, decide_eq_false e, Bool.false_or]; exact valV_any k r
theorem valV_map (k j : κ) (y : V) : ∀ kvs : List (κ × V), valV (kvs.map fun kv => if kv.1 = k then (kv.1, y) else kv) j = (valV kvs j).map fun x => if j = k then y else x
  | [] => rfl
  | p :: r => by
    have ih := valV_map k j y r
    rw [List.map_cons]
    by_cases h : p.1 = k
    · rw [if_pos h]
      by_cases e : p.1 = j
      · rw [valV_pos (p := (p.1, y)) e, valV_pos e, Option.map_some, if_pos (e.symm.trans h)]
      · rw [valV_neg (p := (p.1, y)) e, valV_neg e, ih]
    · rw [if_neg h]
      by_cases e : p.1 = j
      · rw [valV_pos (p := p) e, valV_pos e, Option.map_some, if_neg (fun z => h (e.trans z))]
      · rw [valV_neg (p := p) e, valV_neg e, ih]
theorem valV_snoc (k j : κ) (y : V) : ∀ kvs : List (κ × V), valV kvs k = none → valV (kvs ++ [(k, y)]) j = if j = k then some y else valV kvs j
  | [], _ => by
    by_cases e : k = j
    · rw [if_pos e.symm]; exact valV_pos (p := (k, y)) e
    · rw [if_neg (fun z => e z.symm)]; exact valV_neg (p := (k, y)) e
  | p :: r, hn => by
    rw [List.cons_append]
    have hk : ¬ p.1 = k := fun z => by rw [valV_pos z] at hn; cases hn
    rw [valV_neg hk] at hn
    have ih := valV_snoc k j y r hn
    by_cases e : p.1 = j
    · rw [valV_pos e, valV_pos e, if_neg (fun z => hk (e.trans z))]
    · rw [valV_neg e, valV_neg e, ih]
theorem valV_put (kvs : List (κ × V)) (k j : κ) (y : V) : valV (putK kvs k y) j = if j = k then some y else valV kvs j := by
  unfold putK
  by_cases a : (kvs.any fun kv => decide (kv.1 = k)) = true
  · rw [if_pos a, valV_map]
    rw [valV_any] at a
    by_cases e : j = k
    · obtain ⟨x, hx⟩ := Option.isSome_iff_exists.mp a
      rw [if_pos e, e, hx, Option.map_some, if_pos rfl]
    · rw [if_neg e]
      cases valV kvs j with
      | none => rfl
      | some x => rw [Option.map_some, if_neg e]
  · rw [if_neg a]
    refine valV_snoc k j y kvs ?_
    rw [valV_any] at a
    cases q : valV kvs k with
    | none => rfl
    | some x => rw [q] at a; exact (a rfl).elim
theorem length_putK (kvs : List (κ × V)) (k : κ) (v : V) : (putK kvs k v).length ≤ kvs.length + 1 := by
  unfold putK
  split
  · rw [List.length_map]; omega
  · rw [List.length_append, List.length_cons, List.length_nil]; omega
theorem putK_new {kvs : List (κ × V)} {k : κ} (v : V) (h : valV kvs k = none) : putK kvs k v = kvs ++ [(k, v)] := by
  unfold putK
  rw [valV_any, h]
  exact if_neg (by decide)

theorem RelO.isSome_eq {o : Option V} {u : Option Value} (r : RelO o u) : o.isSome = u.isSome := by
  cases o with
  | none => cases u with
    | none => rfl
    | some _ => exact (show False from r).elim
  | some _ => cases u with
    | none => exact (show False from r).elim
    | some _ => rfl
theorem RelO.getD {o : Option V} {u : Option Value} {d : V} {d' : Value} (r : RelO o u) (rd : RelV d d') : RelV (o.getD d) (u.getD d') := by
  cases o with
  | none => cases u with
    | none => exact rd
    | some _ => exact (show False from r).elim
  | some _ => cases u with
    | none => exact (show False from r).elim
    | some _ => exact r

theorem KV.val {kvs : List (κ × V)} {vs : List (κ × Value)} (r : KV kvs vs) (k : κ) : RelO (valV kvs k) (valueAt vs k) := by
  unfold KV at r
  induction r with
  | nil => exact True.intro
  | @cons p q ps qs h t ih =>
    obtain ⟨h1, h2⟩ := h
    by_cases e : p.1 = k
    · have e' : q.1 = k := h1.symm.trans e
      have b : valueAt (q :: qs) k = some q.2 := by simp [valueAt, List.find?_cons, e']
      rw [valV_pos e, b]; exact h2
    · have e' : ¬ q.1 = k := fun z => e (h1.trans z)
      have b : valueAt (q :: qs) k = valueAt qs k := by simp [valueAt, List.find?_cons, e']
      rw [valV_neg e, b]; exact ih
theorem KV.any {kvs : List (κ × V)} {vs : List (κ × Value)} (r : KV kvs vs) (k : κ) : (kvs.any fun kv => decide (kv.1 = k)) = vs.any fun kv => decide (kv.1 = k) := by
  unfold KV at r
  induction r with
  | nil => rfl
  | cons h t ih => rw [List.any_cons, List.any_cons, ih, h.1]
theorem KV.repl {kvs : List (κ × V)} {vs : List (κ × Value)} (r : KV kvs vs) (k : κ) {y : V} {u : Value} (ry : RelV y u) :
    KV (kvs.map fun kv => if kv.1 = k then (kv.1, y) else kv) (vs.map fun kv => if kv.1 = k then (kv.1, u) else kv) := by
  unfold KV at r ⊢
  induction r with
  | nil => exact .nil
  | @cons p q ps qs h t ih =>
    rw [List.map_cons, List.map_cons]
    refine .cons ?_ ih
    obtain ⟨h1, h2⟩ := h
    by_cases e : p.1 = k
    · rw [if_pos e, if_pos (h1.symm.trans e)]; exact ⟨h1, ry⟩
    · rw [if_neg e, if_neg (fun z => e (h1.trans z))]; exact ⟨h1, h2⟩
theorem KV.put {kvs : List (κ × V)} {vs : List (κ × Value)} (r : KV kvs vs) (k : κ) {y : V} {u : Value} (ry : RelV y u) : KV (putK kvs k y) (stored vs k u) := by
  unfold putK stored
  rw [r.any k]
  by_cases e : (vs.any fun kv => decide (kv.1 = k)) = true
  · rw [if_pos e, if_pos e]; exact r.repl k ry
  · rw [if_neg e, if_neg e]; exact Paired.snoc r ⟨rfl, ry⟩
theorem KV.drop {kvs : List (κ × V)} {vs : List (κ × Value)} (r : KV kvs vs) (k : κ) : KV (dropK kvs k) (without vs k) := by
  unfold KV at r ⊢
  unfold dropK without
  induction r with
  | nil => exact .nil
  | @cons p q ps qs h t ih =>
    obtain ⟨h1, h2⟩ := h
    rw [List.filter_cons, List.filter_cons]
    by_cases e : p.1 = k
    · have a : ¬ decide (p.1 ≠ k) = true := by simp [e]
      have b : ¬ decide (q.1 ≠ k) = true := by simp [h1.symm.trans e]
      rw [if_neg a, if_neg b]; exact ih
    · have e' : ¬ q.1 = k := fun z => e (h1.trans z)
      have a : decide (p.1 ≠ k) = true := by simp [e]
      have b : decide (q.1 ≠ k) = true := by simp [e']
      rw [if_pos a, if_pos b]; exact .cons ⟨h1, h2⟩ ih
theorem KV.length {kvs : List (κ × V)} {vs : List (κ × Value)} (r : KV kvs vs) : kvs.length = vs.length := Paired.length r
theorem dropK_le (kvs : List (κ × V)) (k : κ) : (dropK kvs k).length ≤ kvs.length := List.length_filter_le _ _
end


theorem kV_is {P : Program} {w : World} {k : Key} {u : Value} (r : RelV (kV k) u) : (mixKind P w).is k u = true := by
  cases k with
  | inl i => obtain ⟨t, e⟩ := (show ∃ t, u = Value.int i t from r); subst e; exact mixKind_int P w i t
  | inr x => obtain ⟨t, e⟩ := (show ∃ t, u = Value.str x t from r); subst e; exact mixKind_str P w x t
theorem items_are {P : Program} {w : World} : ∀ {ks : List Key} {us : List Value}, Vals (ks.map kV) us → ItemsAre (mixKind P w) ks us
  | [], _, r => by rw [List.map_nil] at r; cases r; exact .nil
  | k :: ks, _, r => by
    rw [List.map_cons] at r
    cases r with
    | cons h t => exact .cons (kV_is h) (items_are t)

noncomputable abbrev KT (H : Hp) : List (List Key × V) → List (List Key × Addr × Value) → Prop := Paired fun p q => p.1 = q.1 ∧ H q.2.1 = some (.tup (p.1.map kV)) ∧ RelV p.2 q.2.2
theorem KT.val {H : Hp} {kvs : List (List Key × V)} {xs : List (List Key × Addr × Value)} (r : KT H kvs xs) (k : List Key) : RelO (valV kvs k) ((atKey xs k).map (·.2)) := by
  induction r with
  | nil => exact True.intro
  | @cons p q ps qs h t ih =>
    obtain ⟨h1, _, h2⟩ := h
    by_cases e : p.1 = k
    · have e' : q.1 = k := h1.symm.trans e
      have b : atKey (q :: qs) k = some q.2 := by simp [atKey, List.find?_cons, e']
      rw [valV_pos e, b]; exact h2
    · have e' : ¬ q.1 = k := fun z => e (h1.trans z)
      have b : atKey (q :: qs) k = atKey qs k := by simp [atKey, List.find?_cons, e']
      rw [valV_neg e, b]; exact ih
theorem KT.repl {H : Hp} {kvs : List (List Key × V)} {xs : List (List Key × Addr × Value)} (r : KT H kvs xs) (k : List Key) {y : V} {u : Value} (ry : RelV y u) :
    KT H (kvs.map fun kv => if kv.1 = k then (kv.1, y) else kv) (xs.map (putAt k u)) := by
  induction r with
  | nil => exact .nil
  | @cons p q ps qs h t ih =>
    rw [List.map_cons, List.map_cons]
    refine .cons ?_ ih
    obtain ⟨h1, h2, h3⟩ := h
    unfold putAt
    by_cases e : p.1 = k
    · rw [if_pos e, if_pos (h1.symm.trans e)]; exact ⟨h1, h2, ry⟩
    · rw [if_neg e, if_neg (fun z => e (h1.trans z))]; exact ⟨h1, h2, h3⟩
theorem KT.put {H : Hp} {kvs : List (List Key × V)} {xs : List (List Key × Addr × Value)} (r : KT H kvs xs) (k : List Key) {b : Addr} {y : V} {u : Value} (hb : H b = some (.tup (k.map kV))) (ry : RelV y u) :
    KT H (putK kvs k y) (storedH xs k b u) := by
  have e : (kvs.any fun kv => decide (kv.1 = k)) = (atKey xs k).isSome := by
    rw [valV_any, (r.val k).isSome_eq, Option.isSome_map]
  unfold putK storedH
  rw [e]
  by_cases q : (atKey xs k).isSome = true
  · rw [if_pos q, if_pos q]; exact r.repl k ry
  · rw [if_neg q, if_neg q]; exact Paired.snoc r ⟨rfl, hb, ry⟩
theorem KT.keeps {H H' : Hp} {kvs : List (List Key × V)} {xs : List (List Key × Addr × Value)} (r : KT H kvs xs) (ht : ∀ b ys, H b = some (.tup ys) → H' b = some (.tup ys)) : KT H' kvs xs :=
  Paired.mapP r fun _ _ z => ⟨z.1, ht _ _ z.2.1, z.2.2⟩

section
variable {P : Program} {w : World} {H : Hp} {h : Heap} {a : Addr}
theorem rd_of {u : HO} (ok : HOk P w H h) (e : Rd H a u) : ObjOk P w H h a u := e.ok ok
theorem dk_rd {kvs : List (Key × V)} (ok : HOk P w H h) (e : Rd H a (.dK kvs)) : kvs.length ≤ sizeLine ∧ (a == sysModules) = false ∧ ∃ vs, KV kvs vs ∧ h.DictOf (mixKind P w) a vs :=
  show ObjOk P w H h a (.dK kvs) from rd_of ok e
theorem dk_of {kvs : List (Key × V)} (ok : HOk P w H h) (e : H a = some (.dK kvs)) : kvs.length ≤ sizeLine ∧ (a == sysModules) = false ∧ ∃ vs, KV kvs vs ∧ h.DictOf (mixKind P w) a vs := dk_rd ok (.inl e)
theorem key_of {ks : List Key} (ok : HOk P w H h) (e : H a = some (.tup (ks.map kV))) : (tupleKind (mixKind P w)).is h ks a := by
  obtain ⟨_, its, r, o, h1, h2, n, h3⟩ := (show ObjOk P w H h a (.tup (ks.map kV)) from ok a _ e)
  exact ⟨o, its.toArray, n, h1, h2, h3, by simpa using items_are r⟩
theorem dt_rd {kvs : List (List Key × V)} (ok : HOk P w H h) (e : Rd H a (.dT kvs)) : kvs.length ≤ sizeLine ∧ (a == sysModules) = false ∧
    ∃ xs, KT H kvs xs ∧ h.DictOfH (tupleKind (mixKind P w)) a xs := by
  obtain ⟨z, y, xs, r, o, es, ep, h1, h2, h3, h4, h5⟩ := (show ObjOk P w H h a (.dT kvs) from rd_of ok e)
  refine ⟨z, y, xs, r, o, es, ep, h1, h2, h3, h4, fun x hx => ?_, h5⟩
  have all : ∀ {l : List (List Key × V)} {m : List (List Key × Addr × Value)}, KT H l m → ∀ x ∈ m, (tupleKind (mixKind P w)).is h x.1 x.2.1 := by
    intro l m q
    induction q with
    | nil => intro x hx; exact nomatch hx
    | @cons p q ps qs hq t ih =>
      intro x hx
      rcases List.mem_cons.mp hx with e | hx
      · subst e
        exact key_of ok (by rw [← hq.1]; exact hq.2.1)
      · exact ih x hx
  exact all r x hx
theorem dt_of {kvs : List (List Key × V)} (ok : HOk P w H h) (e : H a = some (.dT kvs)) : kvs.length ≤ sizeLine ∧ (a == sysModules) = false ∧
    ∃ xs, KT H kvs xs ∧ h.DictOfH (tupleKind (mixKind P w)) a xs := dt_rd ok (.inl e)
end

noncomputable def DGet (H : Hp) (a : Addr) (y : V) (r : Option V) : Prop :=
  (∃ kvs k, Rd H a (.dK kvs) ∧ y = kV k ∧ r = valV kvs k) ∨ ∃ kvs k b, Rd H a (.dT kvs) ∧ y = .ref b ∧ H b = some (.tup (k.map kV)) ∧ r = valV kvs k
noncomputable def DPut (H : Hp) (a : Addr) (y v : V) (H' : Hp) : Prop :=
  (∃ kvs k, H a = some (.dK kvs) ∧ y = kV k ∧ kvs.length < sizeLine ∧ H' = upd H a (.dK (putK kvs k v))) ∨
  ∃ kvs k b, H a = some (.dT kvs) ∧ y = .ref b ∧ H b = some (.tup (k.map kV)) ∧ kvs.length < sizeLine ∧ H' = upd H a (.dT (putK kvs k v))
theorem DGet.k {H : Hp} {a : Addr} {kvs : List (Key × V)} {k : Key} (e : H a = some (.dK kvs)) : DGet H a (kV k) (valV kvs k) := .inl ⟨kvs, k, .inl e, rfl, rfl⟩
theorem DPut.k {H : Hp} {a : Addr} {kvs : List (Key × V)} {k : Key} {v : V} (e : H a = some (.dK kvs)) (hl : kvs.length < sizeLine) : DPut H a (kV k) v (upd H a (.dK (putK kvs k v))) := .inl ⟨kvs, k, e, rfl, hl, rfl⟩
section
variable {X : Cx} {pins : List (Addr × Obj)} {σ : St} {H : Hp} {s : Shared} {a : Addr} {y v : V} {u r : Value} {o : Option V} {A : Around} {E : Value → Shared → Prop}

theorem Inv.big (I : Inv X pins σ H s) : sysModules < s.heap.objs.size := by
  have h : mainGlobals < s.heap.objs.size := (I.mod.glob.keeps I.bk).lt
  exact Nat.lt_trans (by decide) h

theorem d_getItem {Q : Value → Shared → Prop} (hu : A.units + 1 < cLine) (I : Inv X pins σ H s) (g : DGet H a y (some v)) (ry : RelV y u) (h : ∀ w' s', Inv X pins σ H s' → RelV v w' → Q w' s') :
    wpAny (model X.prog X.w) A (getItem (.ref a) u) Q E s := by
  rcases g with ⟨kvs, k, e, ey, l⟩ | ⟨kvs, k, b, e, ey, eb, l⟩
  · subst ey
    obtain ⟨z, hd, vs, rel, dd⟩ := dk_rd I.hok e
    obtain ⟨w', hw, rw'⟩ := RelO.some_of (v := v) (o := valueAt vs k) (by rw [l]; exact rel.val k)
    exact wpAny_getItem_of (kV_is ry) dd.mapOf hw (h w' _ (I.tok _) rw')
  · subst ey
    cases (show u = Value.ref b from ry)
    obtain ⟨z, hd, xs, rel, dd⟩ := dt_rd I.hok e
    obtain ⟨w', hw, rw'⟩ := RelO.some_of (v := v) (o := (atKey xs k).map (·.2)) (by rw [l]; exact rel.val k)
    obtain ⟨p, hp, hp2⟩ := Option.map_eq_some_iff.mp hw
    refine wpAny_getItem_heap (tupleKind_room_in1 hu) (key_of I.hok eb) dd hp ?_
    rw [hp2]
    exact h w' _ (I.tok _) rw'
theorem d_in {Q : Value → Shared → Prop} (hu : A.units + 1 < cLine) (I : Inv X pins σ H s) (g : DGet H a y o) (ry : RelV y u) (h : ∀ s', Inv X pins σ H s' → Q (.bool o.isSome) s') :
    wpAny (model X.prog X.w) A (compareOp .In u (.ref a)) Q E s := by
  rcases g with ⟨kvs, k, e, ey, l⟩ | ⟨kvs, k, b, e, ey, eb, l⟩
  · subst ey
    obtain ⟨z, hd, vs, rel, dd⟩ := dk_rd I.hok e
    refine wpAny_in_of (kV_is ry) hd dd.mapOf ?_
    rw [← (rel.val k).isSome_eq, ← l]
    exact h _ (I.tok _)
  · subst ey
    cases (show u = Value.ref b from ry)
    obtain ⟨z, hd, xs, rel, dd⟩ := dt_rd I.hok e
    refine wpAny_in_heap (tupleKind_room_in1 hu) (key_of I.hok eb) hd dd ?_
    have q := (rel.val k).isSome_eq
    rw [Option.isSome_map] at q
    rw [← q, ← l]
    exact h _ (I.tok _)
theorem d_notIn {Q : Value → Shared → Prop} (hu : A.units + 1 < cLine) (I : Inv X pins σ H s) (g : DGet H a y o) (ry : RelV y u) (h : ∀ s', Inv X pins σ H s' → Q (.bool (!o.isSome)) s') :
    wpAny (model X.prog X.w) A (compareOp .NotIn u (.ref a)) Q E s := by
  rcases g with ⟨kvs, k, e, ey, l⟩ | ⟨kvs, k, b, e, ey, eb, l⟩
  · subst ey
    obtain ⟨z, hd, vs, rel, dd⟩ := dk_rd I.hok e
    refine wpAny_notIn_of (kV_is ry) hd dd.mapOf ?_
    rw [← (rel.val k).isSome_eq, ← l]
    exact h _ (I.tok _)
  · subst ey
    cases (show u = Value.ref b from ry)
    obtain ⟨z, hd, xs, rel, dd⟩ := dt_rd I.hok e
    refine wpAny_notIn_heap (tupleKind_room_in1 hu) (key_of I.hok eb) hd dd ?_
    have q := (rel.val k).isSome_eq
    rw [Option.isSome_map] at q
    rw [← q, ← l]
    exact h _ (I.tok _)
theorem d_write {h' : Heap} {t' : Nat} {ob : HO} (I : Inv X pins σ H s) (mu : Mut (H a)) (hs : Heap.SameBut a s.heap h') (he : ∃ q, h'.get? a = some q) (new : ObjOk X.prog X.w (upd H a ob) h' a ob) :
    Inv X pins σ (upd H a ob) { s with heap := h', toks := t' } :=
  I.write (x := a) (e := a) mu (.inl rfl) (fun b q hb z => (hs.2 b hb).trans z) he new
theorem dk_new {P : Program} {w : World} {H' : Hp} {h' : Heap} {kvs : List (Key × V)} {vs : List (Key × Value)} (z : kvs.length ≤ sizeLine) (hd : (a == sysModules) = false) (rel : KV kvs vs) (dd : h'.DictOf (mixKind P w) a vs) :
    ObjOk P w H' h' a (.dK kvs) := ⟨z, hd, vs, rel, dd⟩
theorem d_setItem {H' : Hp} {Q : Unit → Shared → Prop} (hu : A.units + 1 < cLine) (I : Inv X pins σ H s) (g : DPut H a y v H') (ry : RelV y u) (rv : RelV v r) (h : ∀ s', Inv X pins σ H' s' → Q () s') :
    wpAny (model X.prog X.w) A (setItem (.ref a) u r) Q E s := by
  rcases g with ⟨kvs, k, e, ey, l, eH⟩ | ⟨kvs, k, b, e, ey, eb, l, eH⟩
  · subst ey eH
    obtain ⟨z, hd, vs, rel, dd⟩ := dk_of I.hok e
    have hz : vs.length ≤ sizeLine := by rw [← rel.length]; exact z
    have hl : (putK kvs k v).length ≤ sizeLine := by have := length_putK kvs k v; omega
    refine wpAny_setItem_pairs (hsz := hz) (kV_is ry) dd fun h' dd' hs => h _ ?_
    have he : ∃ q, h'.get? a = some q := let ⟨q, _, _, hq, _⟩ := dd'; ⟨q, hq⟩
    exact d_write I (by rw [e]; exact True.intro) hs he (dk_new hl hd (rel.put k rv) dd')
  · subst ey eH
    cases (show u = Value.ref b from ry)
    obtain ⟨z, hd, xs, rel, dd⟩ := dt_of I.hok e
    have hz : xs.length ≤ sizeLine := by rw [← Paired.length rel]; exact z
    have hl : (putK kvs k v).length ≤ sizeLine := by have := length_putK kvs k v; omega
    refine wpAny_setItem_heap (hsz := hz) (tupleKind_room_in1 hu) (key_of I.hok eb) dd fun h' dd' hs => h _ ?_
    obtain ⟨q, es, ep, hq, h2, h3, h4, _, h5⟩ := dd'
    refine d_write I (by rw [e]; exact True.intro) hs ⟨q, hq⟩ ⟨hl, hd, _, (rel.put k eb rv).keeps fun c ys ec => ?_, q, es, ep, hq, h2, h3, h4, h5⟩
    rw [upd_ne (ne_of ec e (fun z => nomatch z))]
    exact ec
end

section
variable {X : Cx} {pins : List (Addr × Obj)} {σ : St} {H : Hp} {s : Shared} {a : Addr} {kvs : List (Key × V)} {k : Key} {u : Value} {A : Around} {E : Value → Shared → Prop}
theorem d_pop {v : V} {more : List Value} {Q : Value → Shared → Prop} (I : Inv X pins σ H s) (e : H a = some (.dK kvs)) (ry : RelV (kV k) u) (l : valV kvs k = some v) (hm : more = [] ∨ ∃ x, more = [x])
    (h : ∀ w' s', Inv X pins σ (upd H a (.dK (dropK kvs k))) s' → RelV v w' → Q w' s') : wpAny (model X.prog X.w) A (call (.builtin "dict.pop") (.ref a :: u :: more)) Q E s := by
  obtain ⟨z, hd, vs, rel, dd⟩ := dk_of I.hok e
  obtain ⟨w', hw, rw'⟩ := RelO.some_of (v := v) (o := valueAt vs k) (by rw [← l]; exact rel.val k)
  have hp : (keyPart u).isSome = true := by
    cases k with
    | inl i => obtain ⟨t, q⟩ := (show ∃ t, u = Value.int i t from ry); subst q; rfl
    | inr x => obtain ⟨t, q⟩ := (show ∃ t, u = Value.str x t from ry); subst q; rfl
  have ha : argsOk "dict.pop" ⟨.ref a :: u :: more, []⟩ := by
    rcases hm with q | ⟨x, q⟩
    · subst q; exact PySem.F.args_dict_pop_2 _ _
    · subst q; exact PySem.F.args_dict_pop_3 _ _ _
  refine call_meetsIn PySem.F.slot_dict_pop dd.typeIs PySem.F.entry_dict_pop ha (meets_dict_pop_there (mixKind X.prog X.w) a (kV_is ry) more hm hp)
    ⟨vs, w', dd, by rw [← rel.length]; exact z, hw, fun h' dd' hs => h w' _ ?_ rw'⟩
  have he : ∃ q, h'.get? a = some q := let ⟨q, _, _, hq, _⟩ := dd'; ⟨q, hq⟩
  exact d_write I (by rw [e]; exact True.intro) hs he (dk_new (Nat.le_trans (dropK_le kvs k) z) hd (rel.drop k) dd')
theorem d_len {Q : Value → Shared → Prop} (I : Inv X pins σ H s) (e : Rd H a (.dK kvs)) (h : ∀ t s', Inv X pins σ H s' → Q (.int kvs.length t) s') : wpAny (model X.prog X.w) A (call (.builtin "len") [.ref a]) Q E s := by
  obtain ⟨z, hd, vs, rel, dd⟩ := dk_rd I.hok e
  refine call_len_dict hd dd (by rw [← rel.length]; rw [sizeLine_eq] at z; omega) ?_
  rw [← rel.length]
  exact h _ _ (I.tok _)
end


noncomputable def NoSl (i : Expr) : Prop := ∀ ov iv, subscripted i false ov iv = operate [ov, iv] (getItem ov iv)
theorem subD_of {prog : Program} {w : World} {A : Around} {E : Value → Shared → Prop} {s : Shared} {env : Env} {value slice : Expr} {pos : Pos} {T id : String} {Q : Value → Shared → Prop}
    (hl : typeLookup (.type T) "__getitem__" = pure (some (.builtin id))) (hs : NoSl slice)
    (h : wpAny (model prog w) A (eval value env) (fun o s₁ => wpAny (model prog w) A (eval slice env) (fun i s₂ => s₂.TypeIs o T ∧ wpAny (model prog w) A (getItem o i) Q E s₂) E s₁) E s) :
    wpAny (model prog w) A (eval (.Subscript value slice pos) env) Q E s := by
  refine Subscript_ (wpAny_mono h (fun o s₁ h₁ => wpAny_mono h₁ (fun i s₂ h₂ => ?_) fun _ _ x => x) fun _ _ x => x)
  obtain ⟨hT, h₂⟩ := h₂
  unfold subscriptTail
  refine wpAny_bind ?_
  rw [getitemInPython_of_ne hT.not_modules]
  refine wpAny_bind (wpAny_specialOf hT hl ?_)
  have fin : wpAny (model prog w) A (subscripted slice false o i) (fun r s₃ => wpAny (model prog w) A (letTemporaryGo value o r >>= fun _ => pure r) Q E s₃) E s₂ := by
    rw [hs o i]
    exact wpAny_operating (wpAny_mono h₂ (fun r s₃ h₃ => wpAny_bind (wpAny_letTemporaryGo (wpAny_pure h₃))) fun _ _ x => x)
  first
    | exact wpAny_pure (wpAny_bind fin)
    | exact wpAny_bind (wpAny_pure (wpAny_bind fin))
    | exact wpAny_bind fin

theorem dict_typeIs {X : Cx} {pins : List (Addr × Obj)} {σ : St} {H : Hp} {s : Shared} {a : Addr} {y : V} {o : Option V} (I : Inv X pins σ H s) (g : DGet H a y o) : s.TypeIs (.ref a) "dict" := by
  rcases g with ⟨kvs, k, e, _, _⟩ | ⟨kvs, k, b, e, _, _, _⟩
  · obtain ⟨_, _, vs, _, dd⟩ := dk_rd I.hok e
    exact dd.typeIs
  · obtain ⟨_, _, xs, _, dd⟩ := dt_rd I.hok e
    exact dd.typeIs
noncomputable def tDGet (td ty : TE) : TE := fun σ H Q => td σ H fun x H1 => ty σ H1 fun y H2 => ∃ a v, x = .ref a ∧ DGet H2 a y (some v) ∧ Q v H2
noncomputable def tDIn (ty td : TE) : TE := fun σ H Q => ty σ H fun y H1 => td σ H1 fun x H2 => ∃ a o, x = .ref a ∧ DGet H2 a y o ∧ Q (.bl o.isSome) H2
noncomputable def tDNotIn (ty td : TE) : TE := fun σ H Q => ty σ H fun y H1 => td σ H1 fun x H2 => ∃ a o, x = .ref a ∧ DGet H2 a y o ∧ Q (.bl (!o.isSome)) H2
noncomputable def sDPut (td ty tv : TE) : TS := fun D σ H => tv σ H fun v H1 => td σ H1 fun x H2 => ty σ H2 fun y H3 => ∃ a H4, x = .ref a ∧ DPut H3 a y v H4 ∧ D.nx σ H4
section
variable {X : Cx} {o i e value : Expr} {pos pos' tpos : Pos} {td ty tv : TE}
theorem pe_dget (hu : X.A.units + 1 < cLine) (ho : PE X o td) (hi : PE X i ty) (hs : NoSl i) : PE X (.Subscript o i pos) (tDGet td ty) := by
  intro pins s σ H Q I h
  refine subD_of PySem.F.slot_dict_getitem.lookup hs (thn (ho pins s σ H _ I h) fun u s1 ⟨x, H1, I1, rx, q1⟩ => thn (hi pins s1 σ H1 _ I1 q1) fun iv s2 ⟨y, H2, I2, ry, a, v, ex, g, q2⟩ => ?_)
  subst ex
  obtain rfl : u = Value.ref a := rx
  exact ⟨dict_typeIs I2 g, d_getItem hu I2 g ry fun w' s3 I3 rw' => ⟨v, H2, I3, rw', q2⟩⟩
theorem pc_din (hu : X.A.units + 1 < cLine) (hi : PE X i ty) (ho : PE X o td) : PC X .In i o (tDIn ty td) := by
  intro pins s σ H Q I h
  refine thn (hi pins s σ H _ I h) fun iv s1 ⟨y, H1, I1, ry, q1⟩ => thn (ho pins s1 σ H1 _ I1 q1) fun u s2 ⟨x, H2, I2, rx, a, ov, ex, g, q2⟩ => ?_
  subst ex
  obtain rfl : u = Value.ref a := rx
  exact d_in hu I2 g ry fun s3 I3 => ⟨.bl ov.isSome, H2, I3, rfl, q2⟩
theorem pc_dnotin (hu : X.A.units + 1 < cLine) (hi : PE X i ty) (ho : PE X o td) : PC X .NotIn i o (tDNotIn ty td) := by
  intro pins s σ H Q I h
  refine thn (hi pins s σ H _ I h) fun iv s1 ⟨y, H1, I1, ry, q1⟩ => thn (ho pins s1 σ H1 _ I1 q1) fun u s2 ⟨x, H2, I2, rx, a, ov, ex, g, q2⟩ => ?_
  subst ex
  obtain rfl : u = Value.ref a := rx
  exact d_notIn hu I2 g ry fun s3 I3 => ⟨.bl (!ov.isSome), H2, I3, rfl, q2⟩
theorem ps_dput (hu : X.A.units + 1 < cLine) (ho : PE X o td) (hi : PE X i ty) (hv : PE X value tv) (hs : swapsWith value (some (.Subscript o i pos')) pos.line X.env = pure false) :
    PS X (.Assign [.Subscript o i pos'] value pos) (sDPut td ty tv) := by
  intro pins s σ H D I h
  refine wpAny_Assign_Subscript (thn (hv pins s σ H _ I h) fun r s1 ⟨v, H1, I1, rv, q1⟩ => thn (ho pins s1 σ H1 _ I1 q1) fun u s2 ⟨x, H2, I2, rx, q2⟩ => thn (hi pins s2 σ H2 _ I2 q2) fun iv s3 ⟨y, H3, I3, ry, a, H4, ex, g, q3⟩ => ?_) hs
  subst ex
  obtain rfl : u = Value.ref a := rx
  exact d_setItem hu I3 g ry rv fun s4 I4 => ⟨σ, H4, I4, q3⟩
end


theorem dk_empty {P : Program} {w : World} {H : Hp} (h : Heap) (hb : sysModules < h.objs.size) : ObjOk P w H (h.push { cls := .type "dict", data := .dict #[] }) h.objs.size (.dK []) :=
  ⟨Nat.zero_le _, beq_eq_false_iff_ne.mpr (Ne.symm (Nat.ne_of_lt hb)), [], .nil, Heap.DictOf.new h⟩
noncomputable def tDNewK : TE := fun _ H Q => ∀ p, H p = none → Q (.ref p) (upd H p (.dK []))
section
variable {X : Cx} {pos : Pos}
theorem pe_dnewK : PE X (.Dict [] [] pos) tDNewK := fun pins s σ H Q I h =>
  wpAny_Dict_empty ⟨.ref s.heap.objs.size, _, I.laid (a := s.heap.objs.size) (o := .dK []) (t' := s.toks) (fun _ _ q => Heap.get?_push_of_some _ q) (Nat.le_refl _) (dk_empty s.heap I.big), rfl, h _ (I.hok.fresh (Nat.le_refl _))⟩
end

structure M1 (X : Cx) (o : Expr) (m : Str) (apos : Pos) (e : Expr) (cpos : Pos) : Prop where
  base : attributeBase o m X.env (eval o X.env) = eval o X.env
  few : ((backTo cpos (starEach [e] X.env)).all (fun x => !x.1) && (backToKw cpos (keywordEach [] X.env)).all (fun x => x.1.isSome)
    && decide (([e] : List Expr).length + ([] : List Keyword).length + (if ([] : List Keyword).isEmpty then 0 else 1) < 30)) = true
  line : (apos.endLine == cpos.line) = true
  trees : backTo cpos (starEach [e] X.env) = [(false, eval e X.env)]
structure M2 (X : Cx) (o : Expr) (m : Str) (apos : Pos) (e f : Expr) (cpos : Pos) : Prop where
  base : attributeBase o m X.env (eval o X.env) = eval o X.env
  few : ((backTo cpos (starEach [e, f] X.env)).all (fun x => !x.1) && (backToKw cpos (keywordEach [] X.env)).all (fun x => x.1.isSome)
    && decide (([e, f] : List Expr).length + ([] : List Keyword).length + (if ([] : List Keyword).isEmpty then 0 else 1) < 30)) = true
  line : (apos.endLine == cpos.line) = true
  trees : backTo cpos (starEach [e, f] X.env) = [(false, eval e X.env), (false, eval f X.env)]

noncomputable def IsD (H : Hp) (a : Addr) : Prop := (∃ kvs, Rd H a (.dK kvs)) ∨ ∃ kvs, Rd H a (.dT kvs)
theorem isD_at {X : Cx} {pins : List (Addr × Obj)} {σ : St} {H : Hp} {s : Shared} {a : Addr} (I : Inv X pins σ H s) (d : IsD H a) :
    s.TypeIs (.ref a) "dict" ∧ (∀ b, Value.ref a = .ref b → ∃ ob, s.heap.get? b = some ob ∧ ob.dict = none) ∧ (a == sysModules) = false := by
  rcases d with ⟨kvs, e⟩ | ⟨kvs, e⟩
  · obtain ⟨_, hd, vs, _, dd⟩ := dk_rd I.hok e
    refine ⟨dd.typeIs, fun b q => ?_, hd⟩
    cases q
    obtain ⟨ob, _, _, h1, h2, _⟩ := dd
    exact ⟨ob, h1, h2.2.1⟩
  · obtain ⟨_, hd, xs, _, dd⟩ := dt_rd I.hok e
    refine ⟨dd.typeIs, fun b q => ?_, hd⟩
    cases q
    obtain ⟨ob, _, _, h1, h2, _⟩ := dd
    exact ⟨ob, h1, h2.2.1⟩

section
variable {X : Cx} {pins : List (Addr × Obj)} {σ : St} {H : Hp} {s : Shared} {a : Addr} {y d : V} {u r : Value} {o : Option V} {A : Around} {E : Value → Shared → Prop}
theorem d_get2 {Q : Value → Shared → Prop} (hu : A.units + 1 < cLine) (I : Inv X pins σ H s) (g : DGet H a y o) (ry : RelV y u) (rd : RelV d r) (h : ∀ w' s', Inv X pins σ H s' → RelV (o.getD d) w' → Q w' s') :
    wpAny (model X.prog X.w) A (call (.builtin "dict.get") [.ref a, u, r]) Q E s := by
  rcases g with ⟨kvs, k, e, ey, l⟩ | ⟨kvs, k, b, e, ey, eb, l⟩
  · subst ey
    obtain ⟨z, hd, vs, rel, dd⟩ := dk_rd I.hok e
    refine call_meetsIn PySem.F.slot_dict_get dd.typeIs PySem.F.entry_dict_get (PySem.F.args_dict_get_3 _ _ _) (meets_dict_get_default (mixKind X.prog X.w) a (kV_is ry) hd r) ⟨_, dd.mapOf, h _ _ (I.tok _) ?_⟩
    rw [l]
    exact (rel.val k).getD rd
  · subst ey
    cases (show u = Value.ref b from ry)
    obtain ⟨z, hd, xs, rel, dd⟩ := dt_rd I.hok e
    refine call_meetsIn PySem.F.slot_dict_get dd.typeIs PySem.F.entry_dict_get (PySem.F.args_dict_get_3 _ _ _) (meetsH_dict_get_default (tupleKind (mixKind X.prog X.w)) a b hd r) ⟨tupleKind_room_in1 hu, k, xs, key_of I.hok eb, dd, h _ _ (I.tok _) ?_⟩
    rw [l]
    exact (rel.val k).getD rd
end

noncomputable def tDGet2 (td ty tx : TE) : TE := fun σ H Q => td σ H fun x H1 => ∃ a, x = .ref a ∧ IsD H1 a ∧ ty σ H1 fun y H2 => tx σ H2 fun z H3 => ∃ o, DGet H3 a y o ∧ Q (o.getD z) H3
noncomputable def tDPop1 (td ty : TE) : TE := fun σ H Q => td σ H fun x H1 => ∃ a, x = .ref a ∧ IsD H1 a ∧ ty σ H1 fun y H2 => ∃ kvs k v, H2 a = some (.dK kvs) ∧ y = kV k ∧ valV kvs k = some v ∧ Q v (upd H2 a (.dK (dropK kvs k)))
section
variable {X : Cx} {o e f : Expr} {apos cpos : Pos} {td ty tx : TE}
theorem pe_dget2 (hu : X.A.units + 1 < cLine) (ho : PE X o td) (he : PE X e ty) (hf : PE X f tx) (m : M2 X o "get" apos e f cpos) : PE X (.Call (.Attribute o "get" apos) [e, f] [] cpos) (tDGet2 td ty tx) := by
  intro pins s σ H Q I h
  refine wpAny_Call_method m.base m.few m.line PySem.F.plainAttrs_dict PySem.F.slot_dict_get PySem.F.type_dict_get (thn (ho pins s σ H _ I h) fun u s1 ⟨x, H1, I1, rx, a, ex, d, q1⟩ => ?_)
  subst ex
  obtain rfl : u = Value.ref a := rx
  obtain ⟨t1, t2, _⟩ := isD_at I1 d
  refine ⟨t1, t2, ?_⟩
  rw [m.trees]
  refine Calls.callWith_builtin rfl (Calls.evalArgs_plain (Calls.spliced_cons (thn (he pins s1 σ H1 _ I1 q1) fun iv s2 ⟨y, H2, I2, ry, q2⟩ =>
    Calls.spliced_cons (thn (hf pins s2 σ H2 _ I2 q2) fun fv s3 ⟨z, H3, I3, rz, ov, g, q3⟩ => Calls.spliced_nil ?_))))
  exact d_get2 hu I3 g ry rz fun w' s4 I4 rw' => ⟨_, H3, I4, rw', q3⟩
theorem pe_dpop1 (ho : PE X o td) (he : PE X e ty) (m : M1 X o "pop" apos e cpos) : PE X (.Call (.Attribute o "pop" apos) [e] [] cpos) (tDPop1 td ty) := by
  intro pins s σ H Q I h
  refine wpAny_Call_method m.base m.few m.line PySem.F.plainAttrs_dict PySem.F.slot_dict_pop PySem.F.type_dict_pop (thn (ho pins s σ H _ I h) fun u s1 ⟨x, H1, I1, rx, a, ex, d, q1⟩ => ?_)
  subst ex
  obtain rfl : u = Value.ref a := rx
  obtain ⟨t1, t2, _⟩ := isD_at I1 d
  refine ⟨t1, t2, ?_⟩
  rw [m.trees]
  refine Calls.callWith_builtin rfl (Calls.evalArgs_plain (Calls.spliced_cons (thn (he pins s1 σ H1 _ I1 q1) fun iv s2 ⟨y, H2, I2, ry, kvs, k, v, ea, ey, l, q2⟩ => Calls.spliced_nil ?_)))
  subst ey
  exact d_pop I2 ea ry l (.inl rfl) fun w' s3 I3 rw' => ⟨v, _, I3, rw', q2⟩
end

section
variable {X : Cx} {pins : List (Addr × Obj)} {σ : St} {H : Hp} {s : Shared} {a : Addr} {kvs : List (Key × V)} {A : Around} {E : Value → Shared → Prop}
end


section
variable {X : Cx} {pins : List (Addr × Obj)} {σ : St} {H : Hp} {s : Shared} {a : Addr} {y : V} {u : Value} {A : Around} {E : Value → Shared → Prop}
end
end L2

namespace L2
open PySem PySem.Spec PyProof.Rows
section
variable {X : Cx}
theorem call_lenD : CallR X (.builtin "len") (fun xs H Q => ∃ a kvs, xs = [V.ref a] ∧ H a = some (.dK kvs) ∧ Q (.int kvs.length) H) := by
  intro pins s σ H xs us Q I r h
  obtain ⟨a, kvs, rfl, ha, q⟩ := h
  obtain ⟨u, rfl, ru⟩ := vals1 r
  cases ru
  exact d_len I (.inl ha) fun t s' I' => ⟨.int kvs.length, H, I', ⟨t, rfl⟩, q⟩
end
section
variable {κ : Type} [DecidableEq κ]
theorem valV_not {kvs : List (κ × V)} {k : κ} (h : valV kvs k = none) : ¬ k ∈ kvs.map (·.1) := by
  intro m
  obtain ⟨p, hp, e⟩ := List.mem_map.mp m
  have q : (kvs.any fun kv => decide (kv.1 = k)) = true := List.any_eq_true.mpr ⟨p, hp, decide_eq_true e⟩
  rw [valV_any, h] at q
  exact absurd q (by simp)
theorem valV_in {kvs : List (κ × V)} {k : κ} {v : V} (h : valV kvs k = some v) : k ∈ kvs.map (·.1) := by
  have q : (kvs.any fun kv => decide (kv.1 = k)) = true := by
    rw [valV_any, h]
    all_goals rfl
  obtain ⟨p, hp, e⟩ := List.any_eq_true.mp q
  exact List.mem_map.mpr ⟨p, hp, of_decide_eq_true e⟩
end
end L2

set_option Elab.async false
set_option linter.all false
set_option maxRecDepth 100000
set_option maxHeartbeats 4000000
namespace L2
open PySem PySem.Spec PyProof.Rows

structure Def (P : Program) (w : World) (K : PySem.W.Frag) (mg : Str → Option Value) (base : Heap) (CX : CXT) (k : Nat) (x : Str) (ps : List Str) (sp : Sp) : Prop where
  ex : ∃ (f : Addr) (fd : FuncData), FnOk P w K mg base CX k f fd ps sp ∧ mg x = some (.ref f) ∧ PySem.W.keepIn K (.ref f) = true ∧ Binds K fd ps []
noncomputable def tCallD (sp : Sp) (E : XK) (t : TA) : TE := fun σ H Q => t σ H fun vs H1 => sp vs H1 Q E
section
variable {X : Cx} {CX : CXT} {k j : Nat} {ps : List Str} {sp : Sp} {E : XK} {x : Str} {p pos : Pos} {e : Expr} {es : List Expr} {t : TA}
theorem pe_callD (D : Def X.prog X.w X.K X.mg X.base CX j x ps sp) (hr : Room k X.A) (hg : Gl X x) (hx : Passes CX X E) (ha : PA X (e :: es) t) (hj : j ≤ k := by decide)
    (hdb : (x == ("__debug__" : Str)) = false := by decide) (he : starEach (e :: es) X.env = (false, eval e X.env) :: starEach es X.env := by rfl) (hpl : (backTo pos (starEach es X.env)).any (·.1) = false := by rfl) :
    PE X (.Call (.Name x p) (e :: es) [] pos) (tCallD sp E t) := by
  obtain ⟨f, fd, F, hm, hk, hb⟩ := D.ex
  intro pins s σ H Q I h
  refine pe_call (F.mono hj) hr hg hm hk hb .nil hx ha hdb he hpl pins s σ H Q I ?_
  show t σ H fun vs H1 => sp (vs ++ []) H1 Q E
  have z : (fun (vs : List V) (H1 : Hp) => sp (vs ++ []) H1 Q E) = fun vs H1 => sp vs H1 Q E := by funext vs H1; rw [List.append_nil]
  rw [z]
  exact h
end

noncomputable def CBig (i j : Int) : Prop := i.natAbs < 10 ^ 100 ∧ j.natAbs < 10 ^ 100
theorem big_pow : (10 : Nat) ^ 100 ≤ 2 ^ 1000 := by decide +kernel
theorem bits_of {i : Int} (h : i.natAbs < 10 ^ 100) : Builtin.Int.intBits i ≤ 2 ^ 20 := by
  have h1 : Builtin.Int.intBits i ≤ 1000 := by
    unfold Builtin.Int.intBits
    split
    · omega
    · rename_i hne
      have := (Nat.log2_lt (n := i.natAbs) (k := 1000) (by simpa using hne)).mpr (Nat.lt_of_lt_of_le h big_pow)
      omega
  exact Nat.le_trans h1 (by decide)
section
variable {X : Cx}
theorem op_mulB : OpR X (binaryOp .Mult) (rI CBig fun i j => .int (i * j)) := opI fun _ _ _ _ _ _ _ hc q => mul_int q (.of_bits (bits_of hc.1) (bits_of hc.2))
theorem op_fdivB : OpR X (binaryOp .FloorDiv) (rI (fun _ j => j ≠ 0 ∧ j.natAbs < 10 ^ 100) fun i j => .int (i.fdiv j)) := opI fun i j _ _ _ _ _ hc q => by
  refine floordiv_int hc.1 q (.inl (PyProof.noPylong_of_log2 ?_))
  have h0 : j.natAbs ≠ 0 := by have := hc.1; omega
  exact Nat.lt_trans ((Nat.log2_lt h0).mpr (Nat.lt_of_lt_of_le hc.2 big_pow)) (by decide)
end

noncomputable def Isi (K : PySem.W.Frag) (H : Hp) (x : V) (n : String) (b : Bool) : Prop := ∃ t, TyOf K H x t ∧ PySem.W.kitOne K t (.type n) = some b
section
variable {X : Cx}
theorem call_isinst : CallR X (.builtin "isinstance") (fun xs H Q => ∃ x n b, xs = [x, .ty n] ∧ Isi X.K H x n b ∧ Q (.bl b) H) := by
  intro pins s σ H xs us Q I r h
  obtain ⟨x, n, b, rfl, ⟨t, ty, e⟩, q⟩ := h
  obtain ⟨u, c, rfl, r1, r2⟩ := vals2 r
  cases r2
  exact isinst_ok I r1 ty e fun tk => ⟨.bl b, H, I.tok _, rfl, q⟩
end
section
variable {K : PySem.W.Frag} {H : Hp}
theorem isi_ii {i : Int} : Isi K H (.int i) "int" true := ⟨_, .int i, rfl⟩
theorem isi_ib {i : Int} : Isi K H (.int i) "bool" false := ⟨_, .int i, by with_unfolding_all rfl⟩
theorem isi_is {i : Int} : Isi K H (.int i) "str" false := ⟨_, .int i, by with_unfolding_all rfl⟩
theorem isi_bb {i : Bool} : Isi K H (.bl i) "bool" true := ⟨_, .bl i, rfl⟩
theorem isi_bi {i : Bool} : Isi K H (.bl i) "int" true := ⟨_, .bl i, by with_unfolding_all rfl⟩
theorem isi_bs {i : Bool} : Isi K H (.bl i) "str" false := ⟨_, .bl i, by with_unfolding_all rfl⟩
theorem isi_ss {i : Str} : Isi K H (.str i) "str" true := ⟨_, .str i, rfl⟩
theorem isi_si {i : Str} : Isi K H (.str i) "int" false := ⟨_, .str i, by with_unfolding_all rfl⟩
theorem isi_sb {i : Str} : Isi K H (.str i) "bool" false := ⟨_, .str i, by with_unfolding_all rfl⟩
theorem isi_ni : Isi K H .non "int" false := ⟨_, .non, by with_unfolding_all rfl⟩
theorem isi_ns : Isi K H .non "str" false := ⟨_, .non, by with_unfolding_all rfl⟩
theorem isi_lstl {a : Addr} {xs : List V} (e : H a = some (.lst xs)) : Isi K H (.ref a) "list" true := ⟨_, .lst e, rfl⟩
theorem isi_lsts {a : Addr} {xs : List V} (e : H a = some (.lst xs)) : Isi K H (.ref a) "str" false := ⟨_, .lst e, by with_unfolding_all rfl⟩
theorem isi_lsti {a : Addr} {xs : List V} (e : H a = some (.lst xs)) : Isi K H (.ref a) "int" false := ⟨_, .lst e, by with_unfolding_all rfl⟩
theorem isi_lstt {a : Addr} {xs : List V} (e : H a = some (.lst xs)) : Isi K H (.ref a) "tuple" false := ⟨_, .lst e, by with_unfolding_all rfl⟩
theorem isi_tupt {a : Addr} {xs : List V} (e : H a = some (.tup xs)) : Isi K H (.ref a) "tuple" true := ⟨_, .tup e, rfl⟩
theorem isi_tups {a : Addr} {xs : List V} (e : H a = some (.tup xs)) : Isi K H (.ref a) "str" false := ⟨_, .tup e, by with_unfolding_all rfl⟩
theorem isi_tupi {a : Addr} {xs : List V} (e : H a = some (.tup xs)) : Isi K H (.ref a) "int" false := ⟨_, .tup e, by with_unfolding_all rfl⟩
theorem isi_tupl {a : Addr} {xs : List V} (e : H a = some (.tup xs)) : Isi K H (.ref a) "list" false := ⟨_, .tup e, by with_unfolding_all rfl⟩
theorem isi_go {x : V} {n : String} {b : Bool} {R : Bool → Prop} (h : Isi K H x n b) (q : R b) : ∃ b, Isi K H x n b ∧ R b := ⟨b, h, q⟩
theorem len_goL {p : Addr} {xs : List V} {R : List V → Prop} (h : SqL K H p xs) (q : R xs) : ∃ ys, (SqL K H p ys ∨ SqT K H p ys) ∧ R ys := ⟨xs, .inl h, q⟩
theorem len_goT {p : Addr} {xs : List V} {R : List V → Prop} (h : SqT K H p xs) (q : R xs) : ∃ ys, (SqL K H p ys ∨ SqT K H p ys) ∧ R ys := ⟨xs, .inr h, q⟩
theorem ixT_of {p : Addr} {xs : List V} {i : Int} {v : V} {Q : VK} (h : SqT K H p xs) (e : atI xs i = some v) (q : Q v H) : rIxT K (.ref p) (.int i) H Q := ⟨p, xs, i, v, rfl, rfl, h, e, q⟩
theorem ixL_of {p : Addr} {xs : List V} {i : Int} {v : V} {Q : VK} (h : SqL K H p xs) (e : atI xs i = some v) (q : Q v H) : rIxL K (.ref p) (.int i) H Q := ⟨p, xs, i, v, rfl, rfl, h, e, q⟩
end

theorem atI_of {α : Type} {xs : List α} {i : Int} {v : α} (h0 : 0 ≤ i) (h : xs[i.toNat]? = some v) : atI xs i = some v := by
  unfold atI ixN
  have hl : i.toNat < xs.length := (List.getElem?_eq_some_iff.mp h).1
  rw [if_pos h0, if_pos (show i < xs.length by omega)]
  exact h
theorem cxOf_K {CX : CXT} {P : Program} {w : World} {K : PySem.W.Frag} {mg : Str → Option Value} {base : Heap} {N : List Str} {qual : Str} {scope : Scope} {f : Addr} {cd : Value} {A : Around} {outer : List Env} {s : Shared} {H : Hp} {E : XK} :
    (cxOf CX P w K mg base N qual scope f cd A outer s H E).K = K := rfl
theorem getMap {ns : List Int} {k : Nat} (h : k < ns.length) : (ns.map V.int)[k]? = some (V.int (ns.getD k 0)) := by
  rw [List.getElem?_map, List.getD_eq_getElem?_getD, List.getElem?_eq_getElem h]; rfl
theorem Same.tup {K : PySem.W.Frag} {H H' : Hp} {a : Addr} {xs : List V} (e : Same H H') (h : SqT K H a xs) : SqT K H' a xs := by
  rcases h with (h | ⟨o, h⟩) | h
  · exact .inl (.inl (e _ _ h))
  · exact .inl (.inr ⟨o, e _ _ h⟩)
  · exact .inr h
theorem Same.new {H : Hp} {p : Addr} {o : HO} (h : H p = none) : Same H (upd H p o) := fun b u e => by
  rw [upd_ne (ne_of_none e h)]; exact e

section
variable {σ : St} {H : Hp} {Q : VK} {QT : Bool → Hp → Prop} {QA : List V → Hp → Prop} {D : Ends} {K : PySem.W.Frag}
theorem rd_asg {te : TE} {g : TG} : tAsg te g D σ H = te σ H fun x H1 => g x σ H1 D.nx := rfl
theorem rd_var {i : Nat} : tVar i σ H Q = ∃ v, σ[i]? = some (some v) ∧ Q v H := rfl
theorem rd_c {v : V} : tC v σ H Q = Q v H := rfl
theorem rd_op {r : R2} {ta tb : TE} : tOp r ta tb σ H Q = ta σ H fun x H1 => tb σ H1 fun y H2 => r x y H2 Q := rfl
theorem rd_I0 {g : Int → Int → V} {x y : V} : rI0 g x y H Q = ∃ i j, x = .int i ∧ y = .int j ∧ Q (g i j) H := rfl
theorem rd_I {C : Int → Int → Prop} {g : Int → Int → V} {x y : V} : rI C g x y H Q = ∃ i j, x = .int i ∧ y = .int j ∧ C i j ∧ Q (g i j) H := rfl
theorem rd_U {g : Int → V} {x : V} : rU g x H Q = ∃ i, x = .int i ∧ Q (g i) H := rfl
theorem rd_name {i : Nat} {v : V} {N : St → Hp → Prop} : gName i v σ H N = N (σ.set i (some v)) H := rfl
theorem rd_ifS {c : TT} {t u : TS} : tIfS c t u D σ H = c σ H fun b H1 => if b = true then t D σ H1 else u D σ H1 := rfl
theorem rd_test {t : TE} : tTest t σ H QT = t σ H fun x H' => ∃ k, x = .bl k ∧ QT k H' := rfl
theorem rd_b {t : TE} : tB t σ H QT = t σ H fun x H1 => ∃ c, x = .bl c ∧ QT c H1 := rfl
theorem rd_ret {te : TE} : tRet te D σ H = te σ H D.rt := rfl
theorem rd_retN : tRetN D σ H = D.rt .non H := rfl
theorem rd_next : tNext D σ H = D.nx σ H := rfl
theorem rd_break : tBreak D σ H = D.bk σ H := rfl
theorem rd_cont : tCont D σ H = D.ct σ H := rfl
theorem rd_cb {r : List V → Hp → VK → Prop} {t : TA} : tCB r t σ H Q = t σ H fun vs H1 => r vs H1 Q := rfl
theorem rd_cons {ta : TE} {tr : TA} : tCons ta tr σ H QA = ta σ H fun x H1 => tr σ H1 fun xs H2 => QA (x :: xs) H2 := rfl
theorem rd_nil : tNil σ H QA = QA [] H := rfl
theorem rd_call {sp : Sp} {E : XK} {t : TA} : tCallD sp E t σ H Q = t σ H fun vs H1 => sp vs H1 Q E := rfl
theorem rd_not {t : TT} : tNot t σ H QT = t σ H fun c H1 => QT (!c) H1 := rfl
theorem rd_or {t u : TT} : tOr t u σ H QT = t σ H fun c H1 => if c = true then QT true H1 else u σ H1 QT := rfl
theorem rd_and {t u : TT} : tAnd t u σ H QT = t σ H fun c H1 => if c = true then u σ H1 QT else QT false H1 := rfl
theorem rd_andV {ta tb : TE} : tAndV ta tb σ H Q = ta σ H fun x H1 => ∃ c, x = .bl c ∧ if c = true then tb σ H1 Q else Q (.bl false) H1 := rfl
theorem rd_orV {ta tb : TE} : tOrV ta tb σ H Q = ta σ H fun x H1 => ∃ c, x = .bl c ∧ if c = true then Q (.bl true) H1 else tb σ H1 Q := rfl
theorem rd_notV {ta : TE} : tNotV ta σ H Q = ta σ H fun x H1 => ∃ c, x = .bl c ∧ Q (.bl (!c)) H1 := rfl
theorem rd_if {t : TT} {ta tb : TE} : tIf t ta tb σ H Q = t σ H fun c H1 => if c = true then ta σ H1 Q else tb σ H1 Q := rfl
theorem rd_un {r : V → Hp → VK → Prop} {ta : TE} : tUn r ta σ H Q = ta σ H fun x H1 => r x H1 Q := rfl
theorem rd_eq {x y : V} : rEq x y H Q = (scal x y = true ∧ Q (.bl (decide (x = y))) H) := rfl
theorem rd_ne {x y : V} : rNe x y H Q = (scal x y = true ∧ Q (.bl (!decide (x = y))) H) := rfl
theorem rd_par {i j : Nat} {ta : TA} : tPar i j ta D σ H = ta σ H fun vs H1 => ∃ v w, vs = [v, w] ∧ D.nx ((σ.set i (some v)).set j (some w)) H1 := rfl
theorem rd_tup {t : TA} : tTup t σ H Q = t σ H fun xs H1 => xs.length ≤ sizeLine ∧ ∀ p, H1 p = none → Q (.ref p) (upd H1 p (.tup xs)) := rfl
theorem rd_lst {t : TA} : tLst t σ H Q = t σ H fun xs H1 => xs.length ≤ sizeLine ∧ ∀ p, H1 p = none → Q (.ref p) (upd H1 p (.lst xs)) := rfl
theorem rd_never : tNever D σ H = False := rfl
theorem rd_drop {te : TE} : tDrop te D σ H = te σ H fun _ H1 => D.nx σ H1 := rfl
theorem rd_gcons {t : TG} {u : TGs} {vs : List V} {N : St → Hp → Prop} : gCons t u vs σ H N = ∃ v r, vs = v :: r ∧ t v σ H fun σ' H' => u r σ' H' N := rfl
theorem rd_gnil {vs : List V} {N : St → Hp → Prop} : gNil vs σ H N = (vs = [] ∧ N σ H) := rfl
theorem rd_gsub {to ti : TE} {t : TSet} {v : V} {N : St → Hp → Prop} : gSub to ti t v σ H N = to σ H fun o H1 => ti σ H1 fun i H2 => t o i v H2 fun H3 => N σ H3 := rfl
theorem rd_chain {r r' : R2} {ta tb tc : TE} : tChain r r' ta tb tc σ H Q = ta σ H fun x H1 => tb σ H1 fun y H2 => r x y H2 fun z H3 => ∃ k, z = .bl k ∧
  (if k = true then tc σ H3 fun w' H4 => r' y w' H4 Q else Q (.bl false) H3) := rfl
theorem rd_rng1 {ta : TA} {R : It → Hp → Prop} : iRng1 ta σ H R = ta σ H fun vs H1 => ∃ j : Int, vs = [.int j] ∧ -(2 ^ 62) ≤ j ∧ j < 2 ^ 62 ∧ R (Itr 0 j.toNat) H1 := rfl
theorem rd_rng2 {ta : TA} {R : It → Hp → Prop} : iRng2 ta σ H R = ta σ H fun vs H1 => ∃ i j : Int, vs = [.int i, .int j] ∧ (-(2 ^ 62) ≤ i ∧ i < 2 ^ 62 ∧ -(2 ^ 62) ≤ j ∧ j < 2 ^ 62) ∧ R (Itr i (j - i).toNat) H1 := rfl
theorem rd_ilist {tl : TE} {R : It → Hp → Prop} : iList K tl σ H R = tl σ H fun x H1 => ∃ a, x = .ref a ∧ (∃ xs, SqL K H1 a xs) ∧ R (Itl K a) H1 := rfl
theorem rd_itup {tl : TE} {R : It → Hp → Prop} : iTup K tl σ H R = tl σ H fun x H1 => ∃ a, x = .ref a ∧ (∃ xs, SqT K H1 a xs) ∧ R (Itt K a) H1 := rfl
noncomputable def ForTail (g : TG) (tb : TS) (D : Ends) (σ : St) : It → Hp → Prop := fun J H1 => ∃ W : Nat → Nat → St → Hp → Prop, (∃ m, W 0 m σ H1) ∧ ∀ i m σ H, W i m σ H →
  (J.stop i H ∧ D.nx σ H) ∨ (J.go i H ∧ ∃ N : St → Hp → Prop, (∀ σ' H', N σ' H' → ∃ m', m' < m ∧ W (i + 1) m' σ' H') ∧ ∀ x H', J.yld i H x H' → g x σ H' fun σ2 H2 => tb { D with nx := N, ct := N, bk := D.nx } σ2 H2)
theorem rd_for' {wi : TI} {g : TG} {tb : TS} : tFor wi g tb D σ H = wi σ H (ForTail g tb D σ) := rfl
theorem forR_by {lo : Int} {n : Nat} {g : TG} {tb : TS} (Pv : Nat → St → Hp → Prop) (h0 : Pv 0 σ H)
    (hs : ∀ i σ H, i < n → Pv i σ H → g (.int (lo + i)) σ H fun σ2 H2 => tb { D with nx := Pv (i + 1), ct := Pv (i + 1), bk := D.nx } σ2 H2) (hd : ∀ σ H, Pv n σ H → D.nx σ H) : ForTail g tb D σ (Itr lo n) H := for_range Pv h0 hs hd
theorem forL_by {a : Addr} {xs : List V} {g : TG} {tb : TS} (Pv : Nat → St → Hp → Prop) (h0 : Pv 0 σ H) (hl : ∀ i σ H, i ≤ xs.length → Pv i σ H → SqL K H a xs)
    (hs : ∀ i x σ H, xs[i]? = some x → Pv i σ H → g x σ H fun σ2 H2 => tb { D with nx := Pv (i + 1), ct := Pv (i + 1), bk := D.nx } σ2 H2) (hd : ∀ σ H, Pv xs.length σ H → D.nx σ H) : ForTail g tb D σ (Itl K a) H := for_list Pv h0 hl hs hd
theorem seq_go {t u : TS} (h : ∀ rest : St → Hp → Prop, rest = u D → t { D with nx := rest } σ H) : tSeq t u D σ H := h _ rfl
theorem leaf_go {rest r : St → Hp → Prop} (h : rest = r) (q : r σ H) : rest σ H := by rw [h]; exact q
theorem cell_go {a : Addr} {ns : List Int} {k : Int} {R : List Int → Prop} (h : SqL K H a (ns.map V.int)) (h0 : 0 ≤ k) (hl : ns.length ≤ 63) (q : R ns) : ∃ x : List Int, SqL K H a (x.map V.int) ∧ 0 ≤ k ∧ x.length ≤ 63 ∧ R x := ⟨ns, h, h0, hl, q⟩
theorem cdiv_of {i j : Int} (h1 : 0 < j) (h2 : j < 1073741824) : CDiv i j := ⟨h1, h2⟩
theorem cpow_of {i j : Int} (h1 : 0 ≤ j) (h2 : j ≤ 1000000) (h3 : i.natAbs < 2 ^ 64) : CPow i j := ⟨h1, h2, h3⟩
theorem cmul_l {i j : Int} (h1 : -(2 ^ 64) < i) (h2 : i < 2 ^ 64) : CMul i j := .inl ⟨h1, h2⟩
theorem cmul_r {i j : Int} (h1 : -(2 ^ 64) < j) (h2 : j < 2 ^ 64) : CMul i j := .inr ⟨h1, h2⟩
end
end L2

set_option Elab.async false
set_option linter.all false
set_option maxRecDepth 100000
set_option maxHeartbeats 4000000
namespace L2
open PySem PySem.Spec PyProof.Rows

section
variable {P : Program} {w : World} {H : Hp} {h : Heap} {a : Addr} {o : HO}
end

noncomputable def Spares (fs : List Addr) (H' : Hp) (g h B : Heap) : Prop := ∀ b o, h.get? b = some o → b ∉ fs → (H' b ≠ none ∨ ∃ u, g.get? b = some u) → B.get? b = some o
section
variable {P : Program} {w : World}
end
section
variable {X : Cx} {pins : List (Addr × Obj)} {σ : St} {H1 H2 : Hp} {s1 : Shared} {h2 h3 B : Heap}
end

section
variable {P : Program} {w : World} {K : PySem.W.Frag} {mg : Str → Option Value} {base : Heap} {N : List Str} {qual : Str} {scope : Scope} {f : Addr} {cd : Value} {A : Around} {outer : List Env} {s : Shared} {H : Hp} {E : XK}
end
end L2

set_option Elab.async false
set_option linter.all false
set_option maxRecDepth 100000
set_option maxHeartbeats 4000000
namespace L2
open PySem PySem.Spec PyProof.Rows

structure ExcC (K : PySem.W.Frag) (C : Addr) : Prop where
  at_ : ∀ h : Heap, K.In h → ∃ (nm q : Str) (N : Addr) (bs bm : List Value) (hdct : Bool) (sn : List Str) (sub : List Value) (ab : Bool) (col : Option Bool) (dd : Option Addr) (k0 k1 k2 k3 k5 : Option Value) (mN : Str → Option Value),
    h.get? C = some (excClassObj nm q C N bs bm hdct sn sub ab col dd k0 k1 k2 k3 k5 "ValueError.__new__") ∧ h.Ns N mN ∧ mN "__init__" = none ∧
    OwnTail h [.type "ValueError", .type "Exception", .type "BaseException", .type "object"] bm
section
variable {X : Cx} {EE : St → XK} {C : Addr} {x : Str} {np cpos pos : Pos} {e : Expr} {es : List Expr} {t : TA}
end
section
variable {P : Program} {w : World} {K : PySem.W.Frag} {mg : Str → Option Value} {base : Heap} {N : List Str} {qual : Str} {scope : Scope} {f : Addr} {cd : Value} {A : Around} {outer : List Env} {s : Shared} {H : Hp} {E : XK}
end

noncomputable def PassesS (CX : CXT) (X : Cx) (EE : St → XK) : Prop := ∀ (pins : List (Addr × Obj)) (σ : St) (H : Hp) (s : Shared) (e : Value) (s' : Shared), Inv X pins σ H s → CX X.stack H s (EE σ) e s' → X.xe e s'
section
variable {X : Cx} {CX : CXT} {k j : Nat} {ps : List Str} {sp : Sp} {EE : St → XK} {x : Str} {p pos : Pos} {e : Expr} {es : List Expr} {t : TA}
end

structure Air (X : Cx) (pins : List (Addr × Obj)) (σ : St) (H : Hp) (x : Addr) (cls : Value) (s : Shared) : Prop where
  ex : ∃ (H0 : Hp) (s0 : Shared) (a0 : Value) (B : Heap), Inv X pins σ H0 s0 ∧ s.os = s0.os ∧ AllBare s.gens ∧ Un (frs X.stack) [] H0 H s0.heap s.heap ∧ HOk X.prog X.w H s.heap ∧
    Heap.FlyingW B X.stack x cls a0 s.heap ∧ Spares (frs X.stack) H s0.heap s.heap B ∧ H x = none ∧ s0.heap.get? x = none
section
variable {X : Cx} {pins : List (Addr × Obj)} {σ : St} {H : Hp} {x : Addr} {cls : Value} {s : Shared}
end
section
variable {X : Cx} {pins : List (Addr × Obj)} {σ : St} {H : Hp} {x : Addr} {cls : Value} {s : Shared}
end

noncomputable abbrev TH := Value → Addr → TS
section
variable {X : Cx} {C : Str} {c : Value} {np pos : Pos} {b₀ : Stmt} {suite : List Stmt} {rest : List ExceptHandler} {ts : TS} {tr : TH}
end

section
variable {X : Cx} {pins : List (Addr × Obj)} {σ : St} {H : Hp} {x : Addr} {cls : Value} {s : Shared}
end
section
variable {X : Cx} {C n : Str} {c : Value} {i : Nat} {np pos : Pos} {b₀ : Stmt} {suite : List Stmt} {rest : List ExceptHandler} {ts : TS} {tr : TH}
end

section
variable {X : Cx} {body : List Stmt} {h₀ : ExceptHandler} {hs : List ExceptHandler} {pos : Pos} {tb : (St → XK) → TS} {th : TH} {pins : List (Addr × Obj)} {σ : St} {H : Hp} {s : Shared} {pn : List (Addr × Obj)} {xe : Value → Shared → Prop}
end
end L2

set_option Elab.async false
set_option linter.all false
set_option maxRecDepth 100000
set_option maxHeartbeats 4000000
namespace L2
open PySem PySem.Spec PyProof.Rows PySem.W

section
variable {X : Cx}
end

section
variable {σ : St} {H : Hp} {Q : VK} {D : Ends} {K : Frag}
end

end L2

set_option Elab.async false
set_option linter.all false
set_option maxRecDepth 100000
set_option maxHeartbeats 4000000
namespace L2
open PySem PySem.Spec PyProof.Rows

theorem compLoop_any {prog : Program} {w : World} {A : Around} {R : Result → Shared → Prop} {s : Shared} {elt target iter : Expr} {ifs : List Expr} {scope : Scope} {pos : Pos} {it acc : Value} {env : Env} (I : Nat → Shared → Prop)
    (turn : ∀ n s, I n s → wpAny (model prog w) A (pyNext it) (fun r s₁ => match r with
      | none => R (.ok .next) s₁
      | some v => wpAny (model prog w) A (letOwnedTupleGo target it v) (fun _ s₁ => wpAny (model prog w) A (assign target env v) (fun _ s₂ =>
          wpAny (model prog w) A (forIn ifs true fun c r => if r = true then do let ok ← isTrue c env (eval c env); pure (ForInStep.yield ok) else pure (ForInStep.yield r)) (fun ok s₃ =>
            if ok = true then wpAny (model prog w) A (eval elt env) (fun x s₄ =>
              wpAny (model prog w) A (call (.builtin "list.append") [acc, x]) (fun _ s₅ => ∃ m, m < n ∧ I m s₅) (notedBy (model prog w) A env fun e s' => R (.error e) s') s₄) (notedBy (model prog w) A env fun e s' => R (.error e) s') s₃
            else ∃ m, m < n ∧ I m s₃) (notedBy (model prog w) A env fun e s' => R (.error e) s') s₂) (notedBy (model prog w) A env fun e s' => R (.error e) s') s₁) (notedBy (model prog w) A env fun e s' => R (.error e) s') s₁) (notedBy (model prog w) A env fun e s' => R (.error e) s') s)
    (n : Nat) (h : I n s) :
    codeAny (model prog w) A (.compLoop (.ListComp elt [⟨target, iter, ifs, 0⟩] scope pos) 0 it acc env) R s := by
  refine codeAny_loop rfl I (fun n s hI => ?_) n h
  show wpAny _ A ((compTurn (.ListComp elt [⟨target, iter, ifs, 0⟩] scope pos) 0 it acc env).onRaise (fun x => do noteFrame x env; theTreesLotGoes x)) _ _ s
  refine wpAny_noted ?_
  rw [compTurn_list]
  refine wpAny_bind (wpAny_standAt (wpAny_bind (wpAny_mono (turn n s hI) (fun r s₁ h₁ => ?_) fun _ _ h' => h')))
  cases r with
  | none => exact wpAny_pure h₁
  | some v =>
    refine wpAny_bind (wpAny_mono h₁ (fun _ s₁ h₁ => ?_) fun _ _ h' => h')
    refine wpAny_bind (wpAny_mono h₁ (fun _ s₂ h₂ => wpAny_bind (wpAny_mono h₂ (fun ok s₃ h₃ => ?_) fun _ _ h' => h')) fun _ _ h' => h')
    cases ok with
    | false => exact wpAny_pure ⟨rfl, h₃⟩
    | true =>
      exact wpAny_bind (wpAny_bind (wpAny_mono h₃ (fun x s₄ h₄ => wpAny_bind (wpAny_mono h₄ (fun _ s₅ h₅ => wpAny_pure (wpAny_pure ⟨rfl, h₅⟩)) fun _ _ h' => h')) fun _ _ h' => h'))

noncomputable def clo (env : Env) : List (Str × NameKind) → List (Str × Addr) → List (Str × Addr)
  | [], cs => cs
  | (n, k) :: r, cs => clo env r (if (k == .free) = true then (match env.cells.lookup n with | some c => (n, c) :: cs | none => cs) else cs)
theorem clo_loop {env : Env} : ∀ (names : List (Str × NameKind)) (cs : List (Str × Addr)), (∀ y ∈ names, y.2 = .free → ∃ c, env.cells.lookup y.1 = some c) →
    (forIn (m := Sem) names cs fun (x : Str × NameKind) (r : List (Str × Addr)) => match x with | (name, kind) => if (kind == .free) = true then do let c ← cellOf env name; pure (ForInStep.yield ((name, c) :: r)) else pure (ForInStep.yield r)) = pure (clo env names cs)
  | [], cs, _ => rfl
  | (n, k) :: r, cs, h => by
    rw [List.forIn_cons]
    have ih := fun cs => clo_loop r cs fun y hy => h y (List.mem_cons_of_mem _ hy)
    by_cases hk : (k == NameKind.free) = true
    · obtain ⟨c, hc⟩ := h (n, k) List.mem_cons_self (by simpa using hk)
      have e : cellOf env n = pure c := by unfold cellOf; rw [show env.cells.lookup n = some c from hc]
      simp only [hk, if_true, e, clo]
      rw [show env.cells.lookup n = some c from hc]
      exact ih _
    · simp only [hk, clo]
      exact ih _
theorem clo_closure {scope : Scope} {env : Env} (h : ∀ y ∈ scope.names, y.2 = .free → ∃ c, env.cells.lookup y.1 = some c) : closureFor scope env = pure (clo env scope.names []) := by
  unfold closureFor
  show (forIn (m := Sem) scope.names ([] : List (Str × Addr)) _ >>= fun r => pure r) = _
  rw [clo_loop scope.names [] h]
  rfl

theorem clo_cells {env : Env} {x : Str} {c : Addr} : ∀ (names : List (Str × NameKind)) (cs : List (Str × Addr)), (clo env names cs).lookup x = some c → env.cells.lookup x = some c ∨ cs.lookup x = some c
  | [], cs, h => .inr h
  | (n, k) :: r, cs, h => by
    unfold clo at h
    rcases clo_cells r _ h with q | q
    · exact .inl q
    · split at q
      · split at q
        · rename_i c' hc
          rw [List.lookup_cons] at q
          cases hx : x == n with
          | true =>
            rw [hx] at q
            have e : x = n := by simpa using hx
            subst e
            simp only [Option.some.injEq] at q
            subst q
            exact .inl hc
          | false => rw [hx] at q; exact .inr q
        · exact .inr q
      · exact .inr q
theorem clo_has {env : Env} {x : Str} {c : Addr} (hc : env.cells.lookup x = some c) : ∀ (names : List (Str × NameKind)) (cs : List (Str × Addr)), (cs.lookup x = some c ∨ (cs.lookup x = none ∧ (x, NameKind.free) ∈ names)) → (clo env names cs).lookup x = some c
  | [], cs, h => by
    rcases h with h | ⟨_, h⟩
    · exact h
    · cases h
  | (n, k) :: r, cs, h => by
    unfold clo
    refine clo_has hc r _ ?_
    by_cases hx : x = n
    · subst hx
      by_cases hk : (k == NameKind.free) = true
      · rw [if_pos hk, hc]
        exact .inl (by simp [List.lookup_cons])
      · rw [if_neg hk]
        rcases h with h | ⟨h1, h2⟩
        · exact .inl h
        · refine .inr ⟨h1, ?_⟩
          rcases List.mem_cons.mp h2 with e | e
          · cases e; exact absurd rfl hk
          · exact e
    · have hb : (x == n) = false := by simpa using hx
      have key : ∀ cs' : List (Str × Addr), cs'.lookup x = cs.lookup x → (cs'.lookup x = some c ∨ (cs'.lookup x = none ∧ (x, NameKind.free) ∈ r)) := fun cs' e => by
        rw [e]
        rcases h with h | ⟨h1, h2⟩
        · exact .inl h
        · refine .inr ⟨h1, ?_⟩
          rcases List.mem_cons.mp h2 with e | e
          · cases e; exact absurd rfl hx
          · exact e
      refine key _ ?_
      split
      · split
        · simp [List.lookup_cons, hb]
        · rfl
      · rfl
theorem relabel_kind {env : Env} {k' : NameKind} : ∀ {names : List (Str × NameKind)} {x : Str}, (∀ y ∈ names, y.2 ≠ .cell) →
    (names.map fun (n, k) => if (k == NameKind.free && env.scope.kind == .function && env.kindOf n == some .cell) then (n, NameKind.cell) else (n, k)).lookup x = some k' → (k' = .cell ∨ k' = .free) → (x, NameKind.free) ∈ names
  | [], _, _, h, _ => by simp at h
  | (n, k) :: r, x, hc, h, hk => by
    have ih := @relabel_kind env k' r x (fun y hy => hc y (List.mem_cons_of_mem _ hy))
    have h' : List.lookup x ((if (k == NameKind.free && env.scope.kind == .function && env.kindOf n == some .cell) = true then (n, NameKind.cell) else (n, k)) :: (r.map fun (n, k) => if (k == NameKind.free && env.scope.kind == .function && env.kindOf n == some .cell) then (n, NameKind.cell) else (n, k))) = some k' := h
    by_cases hx : x = n
    · subst hx
      by_cases q : (k == NameKind.free && env.scope.kind == .function && env.kindOf x == some .cell) = true
      · have : k = .free := by simp only [Bool.and_eq_true, beq_iff_eq] at q; exact q.1.1
        subst this
        exact List.mem_cons_self
      · rw [if_neg q, List.lookup_cons] at h'
        simp only [beq_self_eq_true] at h'
        have e : k = k' := Option.some.inj h'
        rcases hk with z | z
        · exact absurd (e.trans z) (hc (x, k) List.mem_cons_self)
        · rw [e.trans z]; exact List.mem_cons_self
    · have hb : (x == n) = false := by simpa using hx
      refine List.mem_cons_of_mem _ (ih ?_ hk)
      split at h'
      · rw [List.lookup_cons, hb] at h'; exact h'
      · rw [List.lookup_cons, hb] at h'; exact h'
theorem lookup_relabel_free {env : Env} : ∀ {names : List (Str × NameKind)} {x : Str}, names.lookup x = some .free →
    (names.map fun (n, k) => if (k == NameKind.free && env.scope.kind == .function && env.kindOf n == some .cell) then (n, NameKind.cell) else (n, k)).lookup x = some .cell ∨
    (names.map fun (n, k) => if (k == NameKind.free && env.scope.kind == .function && env.kindOf n == some .cell) then (n, NameKind.cell) else (n, k)).lookup x = some .free
  | [], _, h => by simp at h
  | (n, k) :: r, x, h => by
    have ih := @lookup_relabel_free env r x
    show List.lookup x ((if (k == NameKind.free && env.scope.kind == .function && env.kindOf n == some .cell) = true then (n, NameKind.cell) else (n, k)) :: _) = _ ∨ List.lookup x ((if (k == NameKind.free && env.scope.kind == .function && env.kindOf n == some .cell) = true then (n, NameKind.cell) else (n, k)) :: _) = _
    cases hx : x == n with
    | true =>
      simp only [List.lookup_cons, hx] at h
      cases h
      split
      · left; simp [List.lookup_cons, hx]
      · right; simp [List.lookup_cons, hx]
    | false =>
      simp only [List.lookup_cons, hx] at h
      split
      · simp only [List.lookup_cons, hx]; exact ih h
      · simp only [List.lookup_cons, hx]; exact ih h

structure Blk where
  s : Shared
  H : Hp
  C : Addr
  fp : List Addr
noncomputable abbrev Cx.blk (X : Cx) (scope : Scope) (N' : List Str) (b : Blk) : Cx :=
  { X with N := N', s₀ := b.s, H₀ := b.H, env := compEnvC scope (clo X.env scope.names []) b.C X.env, outer := X.stack, ex := b.fp, fn := fun _ => false, pn := [], xe := fun _ _ => False }
noncomputable def around (N : List Str) (fs : List Nat) : List Str := fs.map fun j => N.getD j ""
noncomputable def compOkB (N : List Str) (esc scope : Scope) (xs : List Str) (fs : List Nat) : Bool :=
  decide (xs ++ around N fs).Nodup && (match scope.kind with | .function => true | _ => false) && xs.all (fun x => decide (scope.names.lookup x = some .local)) &&
  scope.names.all (fun y => decide (y.2 ≠ .cell) && (!decide (y.2 = .local) || decide (scope.names.lookup y.1 = some .local)) && (!decide (y.2 = .free) || decide (esc.names.lookup y.1 = some .cell) || decide (esc.names.lookup y.1 = some .free))) &&
  fs.all fun j => decide (j < N.length) && decide (scope.names.lookup (N.getD j "") = some .free)
structure CompOk (N : List Str) (esc scope : Scope) (xs : List Str) (fs : List Nat) : Prop where
  nd : (xs ++ around N fs).Nodup
  kind : scope.kind = .function
  own : ∀ x ∈ xs, scope.names.lookup x = some .local
  cell : ∀ y ∈ scope.names, y.2 ≠ .cell
  names : ∀ y ∈ scope.names, y.2 = .local → scope.names.lookup y.1 = some .local
  free : ∀ y ∈ scope.names, y.2 = .free → esc.names.lookup y.1 = some .cell ∨ esc.names.lookup y.1 = some .free
  fs : ∀ j ∈ fs, j < N.length ∧ scope.names.lookup (N.getD j "") = some .free
theorem compOk_of {N : List Str} {esc scope : Scope} {xs : List Str} {fs : List Nat} (h : compOkB N esc scope xs fs = true) : CompOk N esc scope xs fs := by
  unfold compOkB at h
  simp only [Bool.and_eq_true, decide_eq_true_eq, List.all_eq_true] at h
  obtain ⟨⟨⟨⟨h1, h2⟩, h3⟩, h4⟩, h5⟩ := h
  refine ⟨h1, ?_, h3, fun y hy => (h4 y hy).1.1, fun y hy e => ?_, fun y hy e => ?_, h5⟩
  · split at h2
    · assumption
    · cases h2
  · have := (h4 y hy).1.2
    simpa [e] using this
  · have := (h4 y hy).2
    simpa [e] using this

section
variable {X : Cx} {pins : List (Addr × Obj)} {σ : St} {H : Hp} {s : Shared} {scope : Scope} {xs : List Str} {fs : List Nat} {fp : List Addr} {C : Addr}
theorem blk_ok (I : Inv X pins σ H s) (O : CompOk X.N X.env.scope scope xs fs) (hf : ∀ b ∈ fp, FpOk X pins H b) (hC : s.heap.objs.size ≤ C) (hfp : ∀ b ∈ fp, b < s.heap.objs.size) : (X.blk scope (xs ++ around X.N fs) ⟨s, H, C, fp⟩).Ok := by
  have hcl : ∀ x c, (clo X.env scope.names []).lookup x = some c → X.env.cells.lookup x = some c := fun x c e => by
    rcases clo_cells _ _ e with q | q
    · exact q
    · cases q
  have hsz : ∀ b o, X.base.get? b = some o → b < X.s₀.heap.objs.size := fun b o e => Nat.lt_of_lt_of_le (Heap.lt_size e) I.ok.bsz
  refine ⟨I.ok.mod, O.kind, I.ok.glob, I.ok.blt, hC, fun x y c h1 h2 => I.ok.inj x y c (hcl x c h1) (hcl y c h2), fun x hx => ?_, fun x c z => (by cases z), I.ok.hd, I.ok.frames, .inl rfl, fun b hb => ⟨Nat.ne_of_lt (Nat.lt_of_lt_of_le (hfp b hb) hC), fun x c e => (hf b hb).2.2.2.2.1 x c (hcl x c e)⟩, I.bs, Nat.le_trans I.ok.bsz I.sz, fun b o e hb => ?_, fun b hb hs => ?_, I.stack, I.stkFree⟩
  · have hm : (x, NameKind.free) ∈ scope.names := by
      rcases hx with hx | hx
      · exact relabel_kind (env := X.env) O.cell (show (scope.names.map _).lookup x = some NameKind.cell from hx) (.inl rfl)
      · exact relabel_kind (env := X.env) O.cell (show (scope.names.map _).lookup x = some NameKind.free from hx) (.inr rfl)
    obtain ⟨c, hc⟩ := I.ok.has x (O.free _ hm rfl)
    exact ⟨c, clo_has hc _ _ (.inr ⟨rfl, hm⟩)⟩
  · obtain ⟨_, _, _, h4, _⟩ := hf b hb
    rcases h4 with h4 | h4
    · exact I.ok.noex b o e h4
    · exact absurd (Nat.lt_of_lt_of_le (hsz b o e) h4) (Nat.lt_irrefl _)
  · obtain ⟨_, h2, h3, _⟩ := hf b hb
    exact (List.mem_cons.mp (I.stkSub b hs)).elim h2 h3
theorem blk_in {h1 : Heap} {t : Nat} {D : Addr} {m : Str → Option Value} (I : Inv X pins σ H s) (O : CompOk X.N X.env.scope scope xs fs) (hf : ∀ b ∈ fp, FpOk X pins H b) (hD : s.heap.objs.size ≤ D) (hC : s.heap.objs.size ≤ C) (hfp : ∀ b ∈ fp, b < s.heap.objs.size) (hDC : D ≠ C)
    (k : ∀ b u, s.heap.get? b = some u → h1.get? b = some u) (hDo : h1.get? D = some { cls := .type "list", data := .seq #[] 0 }) (hn : h1.Ns C m) :
    Inv (X.blk scope (xs ++ around X.N fs) ⟨s, H, C, fp⟩) [] (xs.map (fun _ => none) ++ fs.map fun j => σ.getD j none) (upd H D (.lst [])) { s with heap := h1, toks := t } := by
  have hcl : ∀ x c, (clo X.env scope.names []).lookup x = some c → X.env.cells.lookup x = some c := fun x c e => by
    rcases clo_cells _ _ e with q | q
    · exact q
    · cases q
  have ok := blk_ok (C := C) I O hf hC hfp
  have hnD : H D = none := I.hok.fresh hD
  refine ⟨ok, rfl, I.bare, Un.laid k hD hnD, ⟨m, hn, fun i x v e1 e2 e3 => ?_⟩, fun x c e => ?_, ?_, fun x c e => ?_, fun p hp => absurd (show p ∈ ([] : List (Addr × Obj)) from hp) (by simp), I.hok.laid k hD ⟨Nat.zero_le _, [], 0, .nil, hDo⟩, by simp [around]⟩
  · by_cases hi : i < xs.length
    · rw [List.getElem?_append_left (by simpa using hi), List.getElem?_map] at e2
      cases q : xs[i]? with
      | none => rw [q] at e2; cases e2
      | some a => rw [q] at e2; cases e2
    · have hi : xs.length ≤ i := Nat.le_of_not_lt hi
      rw [List.getElem?_append_right (by simpa using hi)] at e1 e2
      unfold around at e1
      rw [List.length_map] at e2
      rw [List.getElem?_map] at e1 e2
      cases q : fs[i - xs.length]? with
      | none => rw [q] at e2; cases e2
      | some j =>
        rw [q] at e1 e2
        simp only [Option.map_some, Option.some.injEq] at e1 e2
        obtain ⟨hj, hl⟩ := O.fs j (List.mem_of_getElem? q)
        obtain ⟨m0, _, hl0⟩ := I.loc
        have e1' : X.N[j]? = some x := by rw [← e1, List.getD_eq_getElem?_getD, List.getElem?_eq_getElem hj]; rfl
        have e2' : σ[j]? = some (some v) := by
          rw [List.getD_eq_getElem?_getD] at e2
          cases z : σ[j]? with
          | none => rw [z] at e2; cases e2
          | some y => rw [z] at e2; simp only [Option.getD_some] at e2; rw [e2]
        rw [e1] at hl
        have hm : (x, NameKind.free) ∈ scope.names := PySem.mem_of_lookup hl
        have hk := O.free _ hm rfl
        obtain ⟨u, r, l⟩ := hl0 j x v e1' e2' (hk.elim (fun z => .inr (.inl z)) fun z => .inr (.inr z))
        refine ⟨u, r, ?_⟩
        rcases l with ⟨z, _⟩ | ⟨_, c, hc, cell⟩
        · have z' : X.env.scope.names.lookup x = some .local := z
          rcases hk with hk | hk <;> (rw [z'] at hk; cases hk)
        · refine .inr ⟨?_, c, clo_has hc _ _ (.inr ⟨rfl, hm⟩), ?_⟩
          · exact lookup_relabel_free (env := X.env) hl
          · obtain ⟨o, ho, hd⟩ := cell
            exact ⟨o, k _ _ ho, hd⟩
  · obtain ⟨v, o, ho, hd⟩ := I.cell x c (hcl x c e)
    exact ⟨v, o, k _ _ ho, hd⟩
  · show upd H D (.lst []) C = none
    rw [upd_ne (Ne.symm hDC)]; exact I.hok.fresh hC
  · obtain ⟨v, q⟩ := I.cell x c (hcl x c e)
    rw [upd_ne (Nat.ne_of_lt (Nat.lt_of_lt_of_le q.lt hD))]
    exact I.freeC x c (hcl x c e)
theorem blk_out {N' : List Str} {σ' : St} {H' : Hp} {s' : Shared} {h2 : Heap} {pl : List (Addr × Obj)} (I : Inv X pins σ H s) (hf : ∀ b ∈ fp, FpOk X pins H b) (hC : s.heap.objs.size ≤ C) (J : Inv (X.blk scope N' ⟨s, H, C, fp⟩) pl σ' H' s') (sb : Heap.SameBut C s'.heap h2) :
    Inv X pins σ H' { s' with heap := h2 } := by
  have u := J.base
  have ne : ∀ b o, s.heap.get? b = some o → b ≠ C := fun b o e => Nat.ne_of_lt (Nat.lt_of_lt_of_le (Heap.lt_size e) hC)
  refine I.call' (ch := fp) J.os ⟨fun b o e n h1 h2 => (sb.2 b (ne b o e)).trans (u.keep b o e n h1 h2), fun b o e n h1 h2 => ?_, u.free, fun b o e hx => ?_, u.tups, u.frzs, u.tbls⟩ (fun a o e => ?_) J.bare fun b hb => ?_
  · obtain ⟨sl, q⟩ := u.slot b o e n h1 h2
    exact ⟨sl, (sb.2 b (ne b o e)).trans q⟩
  · obtain ⟨o', q⟩ := u.there b o e hx
    exact ⟨o', (sb.2 b (ne b o e)).trans q⟩
  · have fr : H' C = none := J.free
    refine (J.hok a o e).stay (fun b v hc q => (sb.2 b ?_).trans q) (fun _ q => q) fun _ _ q => q
    rcases hc with rfl | hc
    · exact ne_of_none e fr
    · exact ne_of_none hc fr
  · obtain ⟨_, h2, h3, h4, h5, h6⟩ := hf b hb
    exact ⟨h4, h2, h5, h6⟩
end
end L2

set_option Elab.async false
set_option linter.all false
set_option maxRecDepth 100000
set_option maxHeartbeats 4000000
namespace L2
open PySem PySem.Spec PyProof.Rows

noncomputable def Kept (σ σ' : St) : Prop := ∀ (i : Nat) (v : V), σ[i]? = some (some v) → σ'[i]? = some (some v)
noncomputable def PTs (X : Cx) (ifs : List Expr) (t : TT) : Prop :=
  ∀ (pins : List (Addr × Obj)) (s : Shared) (σ : St) (H : Hp) (Q : Bool → Hp → Prop), Inv X pins σ H s → t σ H Q →
    wpAny (model X.prog X.w) X.A (forIn ifs true fun c r => if r = true then do let ok ← isTrue c X.env (eval c X.env); pure (ForInStep.yield ok) else pure (ForInStep.yield r)) (TP X pins σ Q) X.xe s
noncomputable def tYes : TT := fun _ H Q => Q true H
theorem pts_nil {X : Cx} : PTs X [] tYes := fun _ _ _ H _ I h => wpAny_tests_nil ⟨H, I, h⟩
theorem pts_one {X : Cx} {c : Expr} {t : TT} (hc : PT X c t) : PTs X [c] t := fun pins s σ H Q I h => wpAny_tests_one (hc pins s σ H Q I h)

noncomputable def CompTail (σ0 : St) (g : Blk → TG) (tt : Blk → TT) (te : Blk → TE) (Q : VK) (J : It) (H1 : Hp) : Prop := ∀ (b : Blk) (D : Addr), H1 D = none → ∃ W : Nat → Nat → List V → Hp → Prop, (∃ m, W 0 m [] (upd H1 D (.lst []))) ∧ ∀ i m ys H2, W i m ys H2 → H2 D = some (.lst ys) ∧
  ((J.stop i H2 ∧ Q (.ref D) H2) ∨ (J.go i H2 ∧ ∀ x H3, J.yld i H2 x H3 → g b x σ0 H3 fun σ6 H6 => Kept σ0 σ6 ∧ tt b σ6 H6 fun ok H7 =>
    if ok = true then te b σ6 H7 fun y H8 => H8 D = some (.lst ys) ∧ ys.length < sizeLine ∧ ∃ m', m' < m ∧ W (i + 1) m' (ys ++ [y]) (upd H8 D (.lst (ys ++ [y])))
    else ∃ m', m' < m ∧ W (i + 1) m' ys H7))
noncomputable def tComp (wi : TI) (n : Nat) (fs : List Nat) (g : Blk → TG) (tt : Blk → TT) (te : Blk → TE) : TE := fun σ H Q => wi σ H (CompTail (List.replicate n none ++ fs.map fun j => σ.getD j none) g tt te Q)

section
variable {X : Cx} {pins : List (Addr × Obj)} {σ : St} {scope : Scope} {xs : List Str} {fs : List Nat} {elt tg iter : Expr} {ifs : List Expr} {pos : Pos} {wi : TI} {g : Blk → TG} {tt : Blk → TT} {te : Blk → TE}
theorem turned_of {H : Hp} {s : Shared} {C : Addr} {h2 : Heap} (I : Inv X pins σ H s) (F : FpOk X pins H C) (sb : Heap.SameBut C s.heap h2) : Inv X pins σ H { s with heap := h2 } :=
  I.turned (t' := s.toks) (fun b o hb e => (sb.2 b hb).trans e) F.1 F.2.1 F.2.2.2.1 F.2.2.2.2.1 F.2.2.2.2.2
theorem comp_run {Q : VK} {itv : Value} {s2 : Shared} {E : Value → Shared → Prop} {RR : Value → Addr → Result → Shared → Prop} (hc : X.calm = true) (O : CompOk X.N X.env.scope scope xs fs)
    (hg : ∀ b, PG (X.blk scope (xs ++ around X.N fs) b) tg (g b)) (ht : ∀ b, PTs (X.blk scope (xs ++ around X.N fs) b) ifs (tt b)) (he : ∀ b, PE (X.blk scope (xs ++ around X.N fs) b) elt (te b))
    (h : PIE X pins σ tg (CompTail (List.replicate xs.length none ++ fs.map fun j => σ.getD j none) g tt te Q) itv s2)
    (hR : ∀ D C s' m H', s'.heap.Ns C m → Inv X pins σ H' s' → Q (.ref D) H' → FpOk X pins H' C → RR (.ref D) C (.ok .next) s') :
    wpAny (model X.prog X.w) X.A (newList []) (fun acc s₃ => wpAny (model X.prog X.w) X.A (newFunctionEnv scope X.env.globals (clo X.env scope.names []) [] X.env.qual none .none (some X.env)) (fun cenv s₄ =>
      codeAny (model X.prog X.w) X.A (.compStart (.ListComp elt [⟨tg, iter, ifs, 0⟩] scope pos) 0 itv acc { cenv with scope := relabel scope X.env }) (RR acc cenv.locals) s₄) E s₃) E s2 := by
  obtain ⟨it, fp, tn, J, H2, rfl, I2, T, st2, f2, rd⟩ := h
  have hfp : ∀ b ∈ fp, b < s2.heap.objs.size := fun b hb => by
    obtain ⟨o, e, _⟩ := T.obj _ _ st2 b hb
    exact Heap.lt_size e
  refine wpAny_newObj_type (wpAny_newFunctionEnv O.cell (by intro y hy; simp at hy) (fun h₁ hns₁ hsb₁ => ?_) O.kind)
  dsimp only at hns₁ hsb₁ ⊢
  generalize hH2 : s2.heap.push { cls := .type "list", dict := none, data := .seq ([] : List Value).toArray } = HH at hns₁ hsb₁ ⊢
  have hC : HH.objs.size = s2.heap.objs.size + 1 := by rw [← hH2, Heap.size_push]
  have hDC : s2.heap.objs.size ≠ HH.objs.size := by rw [hC]; exact Nat.ne_of_lt (Nat.lt_succ_self _)
  have hCle : s2.heap.objs.size ≤ HH.objs.size := by rw [hC]; exact Nat.le_succ _
  have old : ∀ b o, s2.heap.get? b = some o → h₁.get? b = some o := fun b o e => hsb₁.extBut b o (by rw [hC]; exact Nat.ne_of_lt (Nat.lt_succ_of_lt (Heap.lt_size e))) (Heap.get?_push_of_some _ (hH2 ▸ Heap.get?_push_of_some _ e))
  have hacc : h₁.get? s2.heap.objs.size = some { cls := .type "list", data := .seq #[] 0 } := hsb₁.extBut _ _ hDC (Heap.get?_push_of_some _ (hH2 ▸ Heap.get?_push_size _ rfl))
  obtain ⟨W, ⟨m0, w0⟩, turn⟩ := rd ⟨s2, H2, HH.objs.size, fp⟩ s2.heap.objs.size I2.fresh
  have I3 := blk_in (t := s2.toks + ([] : List (Str × Value)).length) I2 O f2 (Nat.le_refl _) hCle hfp hDC old hacc hns₁
  rw [show xs.map (fun _ => (none : Option V)) = List.replicate xs.length none from List.map_const' ..] at I3
  generalize hX : X.blk scope (xs ++ around X.N fs) ⟨s2, H2, HH.objs.size, fp⟩ = X' at I3
  have stat : ∀ {H' : Hp}, (∀ b ∈ fp, H' b = none) → ∀ b ∈ fp, FpOk X' [] H' b := fun hn b hb => by
    subst hX
    refine ⟨hn b hb, ?_, ?_, .inl hb, fun x c e => ?_, fun p hp => absurd hp (by simp)⟩
    · exact (I3.ok.exf b hb).1
    · exact I3.ok.exfs b hb
    · exact (I3.ok.exf b hb).2 x c e
  have fr3 : ∀ b ∈ fp, upd H2 s2.heap.objs.size (.lst []) b = none := fun b hb => by
    rw [upd_ne (Nat.ne_of_lt (hfp b hb))]; exact (f2 b hb).1
  have ccell : ∀ y c, X.env.cells.lookup y = some c → c ≠ HH.objs.size := fun y c e => by
    obtain ⟨v, q⟩ := I2.cell y c e
    exact Nat.ne_of_lt (Nat.lt_of_lt_of_le q.lt hCle)
  have cloc : HH.objs.size ≠ X.env.locals := (Nat.ne_of_lt (Nat.lt_of_lt_of_le I2.lt hCle)).symm
  have eP : X'.prog = X.prog := by rw [← hX]
  have ew : X'.w = X.w := by rw [← hX]
  have eK : X'.K = X.K := by rw [← hX]
  have eA : X'.A = X.A := by rw [← hX]
  have ec : X'.calm = true := by rw [← hX]; exact hc
  have ex : X'.xe = fun _ _ => False := by rw [← hX]
  have een : X'.env = compEnvC scope (clo X.env scope.names []) HH.objs.size X.env := by rw [← hX]
  have hg' := hg ⟨s2, H2, HH.objs.size, fp⟩
  have ht' := ht ⟨s2, H2, HH.objs.size, fp⟩
  have he' := he ⟨s2, H2, HH.objs.size, fp⟩
  rw [hX] at hg' ht' he'
  have st1 : tn 0 h₁ := T.keep _ _ _ st2 fun b hb o e => old b o e
  have loop : ∀ s₃ : Shared, s₃ = { s2 with heap := h₁, toks := s2.toks + ([] : List (Str × Value)).length } →
      codeAny (model X.prog X.w) X.A (.compLoop (.ListComp elt [⟨tg, iter, ifs, 0⟩] scope pos) 0 (.ref it) (.ref s2.heap.objs.size) (compEnvC scope (clo X.env scope.names []) HH.objs.size X.env))
        (RR (.ref s2.heap.objs.size) HH.objs.size) s₃ := by
    rintro s₃ rfl
    refine compLoop_any (fun n s' => ∃ i ys H', Inv X' [] (List.replicate xs.length none ++ fs.map fun j => σ.getD j none) H' s' ∧ tn i s'.heap ∧ (∀ b ∈ fp, H' b = none) ∧ W i n ys H') ?_ m0 ⟨0, [], _, I3, st1, fr3, w0⟩
    rintro n s4 ⟨i, ys, H4, I4, st4, fr4, w4⟩
    obtain ⟨hD4, tn4⟩ := turn i n ys H4 w4
    rcases tn4 with ⟨stop, qn⟩ | ⟨go, step⟩
    · have td := T.done X' eP ew eK ec i [] s4 _ H4 (notedBy (model X.prog X.w) X.A (compEnvC scope (clo X.env scope.names []) HH.objs.size X.env) fun e s' => RR (.ref s2.heap.objs.size) HH.objs.size (.error e) s') I4 (stat fr4) st4 stop
      rw [eA] at td
      refine thn td fun r s5 ⟨hr, I5⟩ => ?_
      subst hr
      obtain ⟨m5, hn5, _⟩ := I5.loc
      rw [een] at hn5
      have fr5 : H4 HH.objs.size = none := by have := I5.free; rw [een] at this; exact this
      rw [← hX] at I5
      exact hR _ _ _ m5 H4 hn5 (blk_out I2 f2 hCle I5 (Heap.SameBut.refl ..)) qn (I2.fpOk hCle fr5)
    · have ti := T.item X' eP ew eK ec i [] s4 _ H4 (notedBy (model X.prog X.w) X.A (compEnvC scope (clo X.env scope.names []) HH.objs.size X.env) fun e s' => RR (.ref s2.heap.objs.size) HH.objs.size (.error e) s') I4 (stat fr4) st4 go
      rw [eA] at ti
      refine thn ti fun r s5 ⟨u, hr, h5⟩ => ?_
      subst hr
      refine thn h5 fun _ s6 ⟨x, H6, I6, r6, y6, st6, fr6⟩ => ?_
      have I6' := I6.pinned (stat fr6) (T.obj _ _ st6)
      have g1 := hg' _ s6 _ H6 x u _ I6' r6 (step x H6 y6)
      rw [eP, ew, eA, een, ex] at g1
      refine wpAny_mono g1 (fun _ s7 ⟨σ7, H7, I7, kp7, q7⟩ => ?_) fun _ _ z => z.elim
      have t1 := ht' _ s7 σ7 H7 _ I7 q7
      rw [eP, ew, eA, een, ex] at t1
      have back : ∀ {H9 : Hp} {s9 : Shared}, Inv X' ([] ++ pinsAt fp s6.heap) σ7 H9 s9 → Inv X' [] (List.replicate xs.length none ++ fs.map fun j => σ.getD j none) H9 s9 ∧ tn (i + 1) s9.heap ∧ ∀ b ∈ fp, H9 b = none := fun {H9 s9} I9 => by
        refine ⟨I9.unpinned.weak ?_ kp7, T.keep _ _ _ st6 fun b hb o e => (I9.pin (b, o) (List.mem_append_right _ (List.mem_append_right _ (mem_pinsAt hb e)))).1, fun b hb => ?_⟩
        · rw [I9.len, I4.len]
        · obtain ⟨o, e, d⟩ := T.obj _ _ st6 b hb
          exact (I9.pin (b, o) (List.mem_append_right _ (List.mem_append_right _ (mem_pinsAt hb e)))).2.1
      refine wpAny_mono t1 (fun ok s8 ⟨H8, I8, q8⟩ => ?_) fun _ _ z => z.elim
      cases ok with
      | false =>
        rw [if_neg Bool.false_ne_true] at q8 ⊢
        obtain ⟨m', hm, w8⟩ := q8
        obtain ⟨b1, b2, b3⟩ := back I8
        exact ⟨m', hm, i + 1, ys, H8, b1, b2, b3, w8⟩
      | true =>
        rw [if_pos rfl] at q8 ⊢
        have e1 := he' _ s8 σ7 H8 _ I8 q8
        rw [eP, ew, eA, een, ex] at e1
        refine wpAny_mono e1 (fun uy s9 ⟨y, H9, I9, r9, hD9, hz, m', hm, w9⟩ => ?_) fun _ _ z => z.elim
        have a1 := mt_append (X := X') (pins := [] ++ pinsAt fp s6.heap) (s := s9) (σ := σ7) (H := H9) (x := .ref s2.heap.objs.size) (xs := [y]) (v := .ref s2.heap.objs.size) (us := [uy]) (Q := fun _ H' => H' = upd H9 s2.heap.objs.size (.lst (ys ++ [y]))) I9 rfl (.cons r9 .nil) ⟨_, ys, y, rfl, rfl, hD9, hz, rfl⟩
        rw [eP, ew, eA, ex] at a1
        refine wpAny_mono a1 (fun _ s10 ⟨_, H10, I10, _, e10⟩ => ?_) fun _ _ z => z.elim
        subst e10
        obtain ⟨b1, b2, b3⟩ := back I10
        exact ⟨m', hm, i + 1, _, _, b1, b2, b3, w9⟩
  exact codeAny_compStart_list (loop _ rfl) (T.self _ 0 _ _ _ st1 (loop _ rfl))
theorem pe_compG (hc : X.calm = true) (hok : compOkB X.N X.env.scope scope xs fs = true) (hi : PI X tg iter wi)
    (hg : ∀ b, PG (X.blk scope (xs ++ around X.N fs) b) tg (g b)) (ht : ∀ b, PTs (X.blk scope (xs ++ around X.N fs) b) ifs (tt b)) (he : ∀ b, PE (X.blk scope (xs ++ around X.N fs) b) elt (te b))
    (hs : ∀ x, foldedSetIterable iter X.env x = pure x := by intro _; rfl) :
    PE X (.ListComp elt [⟨tg, iter, ifs, 0⟩] scope pos) (tComp wi xs.length fs g tt te) := by
  intro pins s σ H Q I h
  have O := compOk_of hok
  rw [eval_ListComp]
  refine wpAny_comprehension_free (use := none) rfl hs (clo_closure fun y hy hf => I.ok.has _ (O.free y hy hf)) O.kind O.names (thn (hi pins s σ H _ I h) fun v s1 h1 => thn h1 fun itv s2 h2 => ?_)
  exact comp_run (RR := fun acc C => compPost (model X.prog X.w) X.A X.xe none (EP X pins σ Q) acc C) hc O hg ht he h2 fun D C s' m H' hn I' q F => ⟨m, hn, fun h2 sb => ⟨.ref D, H', turned_of I' F sb, rfl, q⟩⟩
theorem ps_comp {y : Str} {py : Pos} {i : Nat} (hN : X.N.Nodup) (hy : X.N[i]? = some y) (hyl : X.env.kindOf y = some .local) (hc : X.calm = true) (hok : compOkB X.N X.env.scope scope xs fs = true) (hi : PI X tg iter wi)
    (hg : ∀ b, PG (X.blk scope (xs ++ around X.N fs) b) tg (g b)) (ht : ∀ b, PTs (X.blk scope (xs ++ around X.N fs) b) ifs (tt b)) (he : ∀ b, PE (X.blk scope (xs ++ around X.N fs) b) elt (te b)) {spos : Pos}
    (hsw : swapsWith (.ListComp elt [⟨tg, iter, ifs, 0⟩] scope pos) (some (.Name y py)) spos.line X.env = pure true := by rfl)
    (hs : ∀ x, foldedSetIterable iter X.env x = pure x := by intro _; rfl) :
    PS X (.Assign [.Name y py] (.ListComp elt [⟨tg, iter, ifs, 0⟩] scope pos) spos) (tAsg (tComp wi xs.length fs g tt te) (gName i)) := by
  intro pins s σ H D I h
  have O := compOk_of hok
  rw [exec_Assign_Name_used _ _ _ _ hsw]
  refine wpAny_bind (wpAny_standAt (wpAny_bind ?_))
  show wpAny _ X.A (do let _ ← comprehension (.ListComp elt [⟨tg, iter, ifs, 0⟩] scope pos) scope X.env _ (newList []) false (eval iter X.env) (some (assign (.Name y py) X.env))) _ _ s
  refine wpAny_bind (wpAny_mono (wpAny_comprehension_free (use := some (assign (.Name y py) X.env)) (Q := fun _ s' => SP X pins D .next s') rfl hs (clo_closure fun y hy hf => I.ok.has _ (O.free y hy hf)) O.kind O.names
    (thn (hi pins s σ H _ I h) fun v s1 h1 => thn h1 fun itv s2 h2 => ?_)) (fun _ s' hq => wpAny_pure (wpAny_pure hq)) fun _ _ e => e)
  refine comp_run (RR := fun acc C => compPost (model X.prog X.w) X.A X.xe (some (assign (.Name y py) X.env)) (fun _ s' => SP X pins D .next s') acc C) hc O hg ht he h2 fun D' C s' m H' hn I0 q0 F => ?_
  show wpAny _ X.A (assign (.Name y py) X.env (.ref D')) _ _ _
  refine wpAny_assign_Name (store_ok2 I0 hN hy (.inl hyl) (v := .ref D') rfl (fun s3 I3 hsb => ?_) (.inr hyl))
  obtain ⟨a, sb3, ha⟩ := hsb
  have haC : C ≠ a := by
    rcases ha with rfl | ha
    · exact F.2.1
    · exact (F.2.2.2.2.1 y a ha).symm
  exact ⟨m, hn.sameBut sb3 haC, fun h4 sb4 => ⟨_, H', turned_of I3 F sb4, q0⟩⟩
end
end L2

set_option Elab.async false
set_option linter.all false
set_option maxRecDepth 100000
set_option maxHeartbeats 4000000
namespace L2
open PySem PySem.Spec PyProof.Rows

noncomputable def Its (z : Str) : It := ⟨fun i _ => i < z.cps.size, fun i H x H' => H' = H ∧ ∃ c, z.cps[i]? = some c ∧ x = .str ⟨#[c]⟩, fun i _ => z.cps.size ≤ i⟩
noncomputable def iStr (tl : TE) : TI := fun σ H R => tl σ H fun x H1 => ∃ z, x = .str z ∧ R (Its z) H1
section
variable {P : Program} {w : World} {K : PySem.W.Frag} {tg : Expr}
theorem turn_str (ty : String) (hty : ty = "str_ascii_iterator" ∨ ty = "str_iterator") (z : Str) (t : Tok) (it : Addr) : Turn P w K tg (Its z) [it] it (fun i h => i ≤ z.cps.size ∧ h.IsStrIter it ty z t i) where
  mem := by simp
  obj := fun i h st b hb => by
    have e : b = it := by simpa using hb
    subst e
    obtain ⟨o, e, c, d⟩ := st.2
    exact ⟨o, e, fun v z => by rw [d] at z; cases z⟩
  keep := fun i h h' st k => ⟨st.1, by obtain ⟨o, e, r⟩ := st.2; exact ⟨o, k it (by simp) o e, r⟩⟩
  item := by
    intro X hP hw hK hc i pins s σ H E I hf st hg
    subst hP hw hK
    obtain ⟨f0, f1, f2, f3, f4, f5⟩ := hf it (by simp)
    have W : Walks X.prog X.w X.A it [it] [it] z.cps.size (SignAt z) (fun i h => h.IsStrIter it ty z t i) := by
      rcases hty with rfl | rfl
      · exact Walks.strAscii (I.ok.hd hc) it z t
      · exact Walks.strWide (I.ok.hd hc) it z t
    refine W.item i s _ _ hg st.2 fun v h' tk hv st' kk => ?_
    obtain ⟨c, u, hcc, rfl⟩ := hv
    have I1 : Inv X pins σ H { s with heap := h', toks := tk } := I.turned (fun b o hb e => kk b o (by simpa using hb) e) f0 f1 f3 f4 f5
    obtain ⟨o, e, cc, d⟩ := id st'
    refine ⟨_, rfl, go_of (s := { s with heap := h', toks := tk }) (n := ty) e cc d (by rcases hty with rfl | rfl <;> decide) ⟨.str ⟨#[c]⟩, H, I1, ⟨u, rfl⟩, ⟨rfl, c, hcc, rfl⟩, ⟨hg, st'⟩, fun b hb => (hf b hb).1⟩⟩
  done := by
    intro X hP hw hK hc i pins s σ H E I hf st hg
    subst hP hw hK
    obtain ⟨f0, f1, f2, f3, f4, f5⟩ := hf it (by simp)
    have W : Walks X.prog X.w X.A it [it] [it] z.cps.size (SignAt z) (fun i h => h.IsStrIter it ty z t i) := by
      rcases hty with rfl | rfl
      · exact Walks.strAscii (I.ok.hd hc) it z t
      · exact Walks.strWide (I.ok.hd hc) it z t
    have hi : i = z.cps.size := Nat.le_antisymm st.1 hg
    subst hi
    exact W.done s _ _ st.2 fun h' tk kk => ⟨rfl, I.turned (fun b o hb e => kk b o (by simpa using hb) e) f0 f1 f3 f4 f5⟩
  self := fun _ _ _ _ _ st h => by
    rcases hty with rfl | rfl
    · exact wpAny_pyIter_striter_ascii st.2 h
    · exact wpAny_pyIter_striter_wide st.2 h
end
section
variable {X : Cx} {tg : Expr}
theorem pi_str {l : Expr} {tl : TE} (hl : PE X l tl) : PI X tg l (iStr tl) := by
  intro pins s σ H R I h
  refine thn (hl pins s σ H _ I h) fun v s1 ⟨x, H1, I1, r1, q1⟩ => ?_
  obtain ⟨z, e, q⟩ := q1
  subst e
  obtain ⟨t, rfl⟩ := r1
  have fin : ∀ ty, (ty = "str_ascii_iterator" ∨ ty = "str_iterator") → PIE X pins σ tg R (.ref s1.heap.objs.size) { s1 with heap := s1.heap.push { cls := .type ty, data := .fields #[.str z t, .int 0 0] } } := fun ty hty => by
    refine ⟨s1.heap.objs.size, [s1.heap.objs.size], _, _, H1, rfl, I1.kept (t' := s1.toks) fun b o e => Heap.get?_push_of_some _ e, turn_str ty hty z t _, ⟨Nat.zero_le _, _, Heap.get?_push_size _ rfl, rfl, rfl⟩, fun b hb => ?_, q⟩
    have e : b = s1.heap.objs.size := by simpa using hb
    subst e
    exact I1.fpOk (Nat.le_refl _) I1.fresh
  cases ha : z.cps.all (· < 128)
  · exact wpAny_pyIter_wide ha (fin _ (.inr rfl))
  · exact wpAny_pyIter_ascii ha (fin _ (.inl rfl))

noncomputable def rSlS : V → Option Int → Option Int → Hp → VK → Prop := fun x lo hi H Q => ∃ z, x = .str z ∧ z.length ≤ sizeLine ∧ Q (.str (Txt.slice z lo hi)) H
noncomputable def rJoin (K : PySem.W.Frag) : V → List V → Hp → VK → Prop := fun x vs H Q => ∃ z p ys, x = .str z ∧ vs = [.ref p] ∧ SqL K H p (ys.map V.str) ∧ (ys.map (·.length)).sum + ys.length * z.length ≤ 16777216 ∧ Q (.str (Txt.join z ys)) H
noncomputable def rFind : V → List V → Hp → VK → Prop := fun x vs H Q => ∃ z y, x = .str z ∧ vs = [.str y] ∧ Q (.int (Txt.find z y)) H
noncomputable def rSplit : V → List V → Hp → VK → Prop := fun x vs H Q => ∃ z y, x = .str z ∧ vs = [.str y] ∧ (y.length == 0) = false ∧ z.length + 2 ≤ sizeLine ∧ ∀ p, H p = none → Q (.ref p) (upd H p (.lst ((Txt.split z y).map V.str)))
noncomputable def rMulS : R2 := fun x y H Q => ∃ z n, x = .str z ∧ y = .int n ∧ MulOk z n ∧ Q (.str (Txt.mul z n)) H
noncomputable def rAll (K : PySem.W.Frag) : List V → Hp → VK → Prop := fun xs H Q => ∃ (p : Addr) (bs : List Bool), xs = [.ref p] ∧ SqL K H p (bs.map V.bl) ∧ Q (.bl (bs.all id)) H
theorem call_all (hc : X.calm = true) : CallR X (.builtin "all") (rAll X.K) := by
  intro pins s σ H xs us Q I r h
  obtain ⟨p, bs, rfl, hp, q⟩ := h
  obtain ⟨u, rfl, ru⟩ := vals1 r
  cases ru
  obtain ⟨its, r, pl, hz⟩ := I.list hp
  have hlt : p < s.heap.objs.size := by obtain ⟨o, n, e, _⟩ := pl; exact Heap.lt_size e
  refine call_all_walk (wpAny_pyIter_list pl.isList ⟨s.heap.objs.size, _, _, _, _, _, fun i => bs.getD i true, rfl, Walks.list (show X.A.in1.handled = none from I.ok.hd hc) s.heap.objs.size p (Nat.ne_of_lt hlt) its.toArray, ⟨⟨_, Heap.get?_push_size _ rfl, rfl, rfl⟩, pl.isList.push _⟩, ?_, fun h' tk kk => ?_⟩)
  · intro i v s' Q' E' hP hQ'
    have hP : its.toArray[i]? = some v := hP
    have hlen := r.length
    rw [List.length_map] at hlen
    have hi : i < bs.length := by
      have := (Array.getElem?_eq_some_iff.mp hP).1
      rw [List.size_toArray] at this
      omega
    obtain ⟨u, hu, ru⟩ := r.get (i := i) (x := V.bl (bs[i])) (by simp [hi])
    have e : u = v := by
      have : its[i]? = some v := by simpa using hP
      rw [hu] at this; exact Option.some.inj this
    subst e
    cases ru
    dsimp only at hQ'
    rw [List.getD_eq_getElem?_getD, List.getElem?_eq_getElem hi] at hQ'
    exact wpAny_pure hQ'
  · refine ⟨.bl _, H, I.kept (t' := tk) fun b o e => kk b o ?_ (Heap.get?_push_of_some _ e), rfl, ?_⟩
    · simpa using Nat.ne_of_lt (Heap.lt_size e)
    · have hlen := r.length
      rw [List.length_map] at hlen
      have : ((List.range its.toArray.size).all fun i => bs.getD i true) = bs.all id := by
        rw [List.size_toArray, ← hlen]
        rw [Bool.eq_iff_iff, List.all_eq_true, List.all_eq_true]
        constructor
        · intro h x hx
          obtain ⟨i, hi, rfl⟩ := List.mem_iff_getElem.mp hx
          have := h i (by simpa using hi)
          simpa [List.getD_eq_getElem?_getD, List.getElem?_eq_getElem hi] using this
        · intro h i hi
          have hi : i < bs.length := by simpa using hi
          rw [List.getD_eq_getElem?_getD, List.getElem?_eq_getElem hi]
          exact h _ (List.getElem_mem hi)
      rw [this]; exact q
end
noncomputable abbrev TJ := Str → St → Hp → (Str → Hp → Prop) → Prop
noncomputable def jNil : TJ := fun acc _ H Q => Q acc H
noncomputable def jCons (te : TE) (tr : TJ) : TJ := fun acc σ H Q => te σ H fun x H1 => ∃ y, x = .str y ∧ (acc ++ y).length ≤ sizeLine ∧ tr (acc ++ y) σ H1 Q
noncomputable def tFstr (t : TJ) : TE := fun σ H Q => t Str.empty σ H fun out H1 => out.length ≤ sizeLine ∧ Q (.str out) H1
noncomputable def tFmt (te : TE) : TE := fun σ H Q => te σ H fun x H1 => (∃ z, x = .str z ∧ z.length ≤ sizeLine ∧ Q (.str z) H1) ∨ ∃ i, x = .int i ∧ i.natAbs.log2 < 1920 ∧ Q (.str (toString i)) H1
noncomputable def tFmtR (te : TE) : TE := fun σ H Q => te σ H fun x H1 => ∃ z, x = .str z ∧ (PySem.reprText z).length ≤ sizeLine ∧ Q (.str (PySem.reprText z)) H1
section
variable {X : Cx} {e v₁ v₂ : Expr} {es : List Expr} {te : TE} {tr t : TJ} {pos : Pos}
end
end L2

set_option Elab.async false
set_option linter.all false
set_option maxRecDepth 100000
set_option maxHeartbeats 4000000
namespace L2
open PySem PySem.Spec PyProof.Rows

noncomputable abbrev tComp1 (wi : TI) (fs : List Nat) (te : Blk → TE) : TE := tComp wi 1 fs (fun _ => gName 0) (fun _ => tYes) te
section
variable {X : Cx} {scope : Scope} {x : Str} {px : Pos} {fs : List Nat} {elt iter : Expr} {pos : Pos} {wi : TI} {te : Blk → TE}
theorem pg_own (hok : compOkB X.N X.env.scope scope [x] fs = true) (b : Blk) : PG (X.blk scope ([x] ++ around X.N fs) b) (.Name x px) (gName 0) :=
  pg_name (compOk_of hok).nd rfl (.inl (lookup_relabel_local ((compOk_of hok).own x (by simp)))) (.inr (lookup_relabel_local ((compOk_of hok).own x (by simp))))
theorem pe_comp1 (x : Str) (fs : List Nat) (hc : X.calm = true) (hok : compOkB X.N X.env.scope scope [x] fs = true) (hi : PI X (.Name x px) iter wi) (he : ∀ b, PE (X.blk scope ([x] ++ around X.N fs) b) elt (te b))
    (hs : ∀ x, foldedSetIterable iter X.env x = pure x := by intro _; rfl) : PE X (.ListComp elt [⟨.Name x px, iter, [], 0⟩] scope pos) (tComp1 wi fs te) :=
  pe_compG (xs := [x]) (g := fun _ => gName 0) (tt := fun _ => tYes) hc hok hi (pg_own hok) (fun _ => pts_nil) he hs
end
theorem kept0 {x : Option V} {r : St} : Kept (none :: r) (x :: r) := fun i v e => by
  cases i with
  | zero => cases e
  | succ i => exact e

section
variable {K : PySem.W.Frag} {tail : St} {te : Blk → TE} {Q : VK} {H1 : Hp}
noncomputable def CompNext (D : Addr) (n i : Nat) (ys : List V) (Pv : Nat → List V → Hp → Prop) : VK := fun y H4 => H4 D = some (.lst ys) ∧ ys.length < sizeLine ∧ ∃ m', m' < n - i ∧ (m' = n - (i + 1) ∧ i + 1 ≤ n ∧ Pv (i + 1) (ys ++ [y]) (upd H4 D (.lst (ys ++ [y]))))
theorem compNext {D : Addr} {n i : Nat} {ys : List V} {Pv : Nat → List V → Hp → Prop} {y : V} {H4 : Hp} (h1 : H4 D = some (.lst ys)) (h2 : ys.length < sizeLine) (h3 : i < n) (h4 : Pv (i + 1) (ys ++ [y]) (upd H4 D (.lst (ys ++ [y])))) : CompNext D n i ys Pv y H4 :=
  ⟨h1, h2, n - (i + 1), by omega, rfl, h3, h4⟩
theorem comp_by {J : It} (n : Nat)
    (h : ∀ (b : Blk) (D : Addr), H1 D = none → ∃ Pv : Nat → List V → Hp → Prop, Pv 0 [] (upd H1 D (.lst [])) ∧ (∀ i ys H, Pv i ys H → H D = some (.lst ys)) ∧ (∀ ys H, Pv n ys H → J.stop n H ∧ Q (.ref D) H) ∧
      ∀ i ys H, i < n → Pv i ys H → J.go i H ∧ ∀ x H3, J.yld i H x H3 → te b (some x :: tail) H3 (CompNext D n i ys Pv)) : CompTail (none :: tail) (fun _ => gName 0) (fun _ => tYes) te Q J H1 := by
  intro b D hD
  obtain ⟨Pv, p0, p1, p2, p3⟩ := h b D hD
  refine ⟨fun i m ys H => m = n - i ∧ i ≤ n ∧ Pv i ys H, ⟨n, rfl, Nat.zero_le _, p0⟩, ?_⟩
  rintro i m ys H ⟨rfl, hi, p⟩
  refine ⟨p1 i ys H p, ?_⟩
  by_cases hlt : i < n
  · obtain ⟨go, st⟩ := p3 i ys H hlt p
    refine .inr ⟨go, fun x H3 y => ⟨kept0, ?_⟩⟩
    exact st x H3 y
  · have e : i = n := by omega
    subst e
    exact .inl (p2 ys H p)
theorem same_new {D : Addr} {o : HO} (h : H1 D = none) : Same H1 (upd H1 D o) := fun b u e => by rw [upd_ne (ne_of_none e h)]; exact e
theorem compS_pure {z : Str} (f : Nat → V) (hz : z.cps.size ≤ sizeLine) (he : ∀ b c H Q', c ∈ z.cps.toList → Same H1 H → Q' (f c) H → te b (some (.str ⟨#[c]⟩) :: tail) H Q')
    (q : ∀ D, H1 D = none → Q (.ref D) (upd H1 D (.lst (z.cps.toList.map f)))) : CompTail (none :: tail) (fun _ => gName 0) (fun _ => tYes) te Q (Its z) H1 := by
  refine comp_by z.cps.size (fun b D hD => ⟨fun i ys H => i ≤ z.cps.size ∧ ys = (z.cps.toList.take i).map f ∧ H = upd H1 D (.lst ys), ⟨Nat.zero_le _, rfl, rfl⟩, ?_, ?_, ?_⟩)
  · rintro i ys H ⟨hi, rfl, rfl⟩
    exact upd_same
  · rintro ys H ⟨_, rfl, rfl⟩
    refine ⟨Nat.le_refl _, ?_⟩
    have e : z.cps.toList.take z.cps.size = z.cps.toList := List.take_of_length_le (by simp)
    rw [e]; exact q D hD
  · rintro i ys H hi ⟨_, rfl, rfl⟩
    refine ⟨hi, fun x H3 ⟨e3, c, hc, ex⟩ => ?_⟩
    subst e3 ex
    have hc' : z.cps.toList[i]? = some c := by simpa using hc
    refine he b c _ _ (List.mem_of_getElem? hc') (same_new hD) (compNext upd_same (by rw [List.length_map, List.length_take, Array.length_toList]; omega) hi ⟨hi, ?_, ?_⟩)
    · rw [List.take_add_one, hc']; simp
    · funext a; by_cases ha : a = D <;> simp [upd, ha]
end

section
variable {σ : St} {H : Hp} {Q : VK} {D : Ends} {K : PySem.W.Frag}
theorem rd_comp {wi : TI} {fs : List Nat} {te : Blk → TE} : tComp1 wi fs te σ H Q = wi σ H (CompTail (none :: fs.map fun j => σ.getD j none) (fun _ => gName 0) (fun _ => tYes) te Q) := rfl
theorem rd_istr {tl : TE} {R : It → Hp → Prop} : iStr tl σ H R = tl σ H fun x H1 => ∃ z, x = .str z ∧ R (Its z) H1 := rfl
theorem rd_sl {r : V → Option Int → Option Int → Hp → VK → Prop} {te : TE} {tl th : TO} : tSl r te tl th σ H Q = te σ H fun x H1 => tl σ H1 fun l H2 => th σ H2 fun u H3 => r x l u H3 Q := rfl
theorem rd_noPart {QO : Option Int → Hp → Prop} : tNoPart σ H QO = QO none H := rfl
theorem rd_part {t : TE} {QO : Option Int → Hp → Prop} : tPart t σ H QO = t σ H fun x H1 => ∃ i, x = .int i ∧ QO (some i) H1 := rfl
theorem rd_slS {x : V} {lo hi : Option Int} : rSlS x lo hi H Q = ∃ z, x = .str z ∧ z.length ≤ sizeLine ∧ Q (.str (Txt.slice z lo hi)) H := rfl
theorem rd_slL {x : V} {lo hi : Option Int} : rSlL K x lo hi H Q = ∃ a xs, x = .ref a ∧ SqL K H a xs ∧ ∀ p, H p = none → Q (.ref p) (upd H p (.lst (cutV xs lo hi))) := rfl
theorem rd_bm {T : String} {r : V → List V → Hp → VK → Prop} {to : TE} {t : TA} : tBM K T r to t σ H Q = to σ H fun x H1 => tyV K T x H1 ∧ t σ H1 fun xs H2 => r x xs H2 Q := rfl
theorem rd_bm0 {T : String} {r : V → List V → Hp → VK → Prop} {to : TE} : tBM0 K T r to σ H Q = to σ H fun x H1 => tyV K T x H1 ∧ r x [] H1 Q := rfl
theorem tyV_str {z : Str} : tyV K "str" (.str z) H = True := eq_true rfl
theorem rd_join {x : V} {vs : List V} : rJoin K x vs H Q = ∃ z p ys, x = .str z ∧ vs = [.ref p] ∧ SqL K H p (ys.map V.str) ∧ (ys.map (·.length)).sum + ys.length * z.length ≤ 16777216 ∧ Q (.str (Txt.join z ys)) H := rfl
theorem rd_find {x : V} {vs : List V} : rFind x vs H Q = ∃ z y, x = .str z ∧ vs = [.str y] ∧ Q (.int (Txt.find z y)) H := rfl
theorem rd_split {x : V} {vs : List V} : rSplit x vs H Q = ∃ z y, x = .str z ∧ vs = [.str y] ∧ (y.length == 0) = false ∧ z.length + 2 ≤ sizeLine ∧ ∀ p, H p = none → Q (.ref p) (upd H p (.lst ((Txt.split z y).map V.str))) := rfl
theorem rd_all {xs : List V} : rAll K xs H Q = ∃ (p : Addr) (bs : List Bool), xs = [.ref p] ∧ SqL K H p (bs.map V.bl) ∧ Q (.bl (bs.all id)) H := rfl
theorem rd_mulS {x y : V} : rMulS x y H Q = ∃ z n, x = .str z ∧ y = .int n ∧ MulOk z n ∧ Q (.str (Txt.mul z n)) H := rfl
theorem rd_jnil {acc : Str} {QS : Str → Hp → Prop} : jNil acc σ H QS = QS acc H := rfl
theorem rd_jcons {te : TE} {tr : TJ} {acc : Str} {QS : Str → Hp → Prop} : jCons te tr acc σ H QS = te σ H fun x H1 => ∃ y, x = .str y ∧ (acc ++ y).length ≤ sizeLine ∧ tr (acc ++ y) σ H1 QS := rfl
theorem rd_fstr {t : TJ} : tFstr t σ H Q = t Str.empty σ H fun out H1 => out.length ≤ sizeLine ∧ Q (.str out) H1 := rfl
theorem rd_fmtR {te : TE} : tFmtR te σ H Q = te σ H fun x H1 => ∃ z, x = .str z ∧ (PySem.reprText z).length ≤ sizeLine ∧ Q (.str (PySem.reprText z)) H1 := rfl
theorem rd_fmt {te : TE} : tFmt te σ H Q = te σ H fun x H1 => (∃ z, x = .str z ∧ z.length ≤ sizeLine ∧ Q (.str z) H1) ∨ ∃ i, x = .int i ∧ i.natAbs.log2 < 1920 ∧ Q (.str (toString i)) H1 := rfl
theorem rd_dnewK : tDNewK σ H Q = ∀ p, H p = none → Q (.ref p) (upd H p (.dK [])) := rfl
theorem ixS_of {z : Str} {i : Int} {c : Nat} (hz : z.length ≤ sizeLine) (e : atI z.cps.toList i = some c) (q : Q (.str ⟨#[c]⟩) H) : rIxS (.str z) (.int i) H Q := ⟨z, i, c, rfl, rfl, hz, e, q⟩
theorem blk_K {X : Cx} {scope : Scope} {N' : List Str} {b : Blk} : (X.blk scope N' b).K = X.K := rfl
end
section
variable {X : Cx} {x : Str} {pos : Pos}
theorem pe_gint {i : Int} (hg : Gl X x) (hm : ∃ t, X.mg x = some (.int i t)) (hd : (x == ("__debug__" : Str)) = false := by decide) : PE X (.Name x pos) (tC (.int i)) := by
  obtain ⟨t, hm⟩ := hm
  exact pe_glob hg hm ⟨t, rfl⟩ hd
theorem pe_gstr {z : Str} (hg : Gl X x) (hm : ∃ t, X.mg x = some (.str z t)) (hd : (x == ("__debug__" : Str)) = false := by decide) : PE X (.Name x pos) (tC (.str z)) := by
  obtain ⟨t, hm⟩ := hm
  exact pe_glob hg hm ⟨t, rfl⟩ hd
end
theorem line_val : sizeLine = 16777216 := by decide
theorem len_app {a b : Str} : (a ++ b).length = a.length + b.length := strLen_append a b
theorem len_one {c : Nat} : (⟨#[c]⟩ : Str).length = 1 := rfl
theorem str_len {z : Str} : z.cps.toList.length = z.length := by simp [Str.length]
theorem app_list {a b : Str} : (a ++ b).cps.toList = a.cps.toList ++ b.cps.toList := by
  show (a.cps ++ b.cps).toList = _
  simp
theorem atI_in {α : Type} {xs : List α} {i : Int} (h0 : 0 ≤ i) (h1 : i < xs.length) : ∃ v, atI xs i = some v ∧ v ∈ xs := by
  refine ⟨xs[i.toNat], ?_, List.getElem_mem (by omega)⟩
  exact atI_of h0 (by rw [List.getElem?_eq_getElem (by omega)])
theorem script_go {K : PySem.W.Frag} {H : Hp} {a : Addr} {ns : List Int} {R : List Int → Prop} (h : SqL K H a (ns.map V.int)) (hl : ns.length ≤ 63) (q : R ns) : ∃ x : List Int, SqL K H a (x.map V.int) ∧ x.length ≤ 63 ∧ R x := ⟨ns, h, hl, q⟩
noncomputable def hasS (z y : Str) : Bool := !(Builtin.Str.occurrences z y 0 z.length 1).isEmpty
theorem hasS_one {z : Str} {c : Nat} : hasS z ⟨#[c]⟩ = decide (c ∈ z.cps.toList) := StrLaws.found_one z c
noncomputable def rInS : R2 := fun x y H Q => ∃ i j, x = .str i ∧ y = .str j ∧ Q (.bl (hasS j i)) H
noncomputable def rNotInS : R2 := fun x y H Q => ∃ i j, x = .str i ∧ y = .str j ∧ Q (.bl (!hasS j i)) H
theorem op_inS {X : Cx} : OpR X (compareOp .In) rInS := op_in_str
theorem rd_inS {x y : V} {H : Hp} {Q : VK} : rInS x y H Q = ∃ i j, x = .str i ∧ y = .str j ∧ Q (.bl (hasS j i)) H := rfl
theorem rd_notinS {x y : V} {H : Hp} {Q : VK} : rNotInS x y H Q = ∃ i j, x = .str i ∧ y = .str j ∧ Q (.bl (!hasS j i)) H := rfl
theorem at_0 {α : Type} {c : α} {r : List α} : atI (c :: r) 0 = some c := atI_of (by decide) rfl
end L2

set_option Elab.async false
set_option linter.all false
set_option maxRecDepth 100000
set_option maxHeartbeats 4000000
namespace L2
open PySem PySem.Spec PyProof.Rows

noncomputable def flatEq (xs ys : List V) : Bool := match xs, ys with
  | [], [] => true
  | x :: xs, y :: ys => eqV x y && flatEq xs ys
  | _, _ => false
theorem eqV_str {x y : Str} : eqV (.str x) (.str y) = decide (x = y) := rfl
noncomputable def EqQ (K : PySem.W.Frag) (H : Hp) (x y : V) (r : Bool) : Prop := ∃ a b xs ys, x = .ref a ∧ y = .ref b ∧ ((SqL K H a xs ∧ SqL K H b ys) ∨ (SqT K H a xs ∧ SqT K H b ys)) ∧ xs.all flatV = true ∧ ys.all flatV = true ∧ r = flatEq xs ys
section
variable {X : Cx} {pins : List (Addr × Obj)} {σ : St} {H : Hp} {s : Shared}
noncomputable def rEqQ (K : PySem.W.Frag) : R2 := fun x y H Q => ∃ r, EqQ K H x y r ∧ Q (.bl r) H
noncomputable def rNeQ (K : PySem.W.Frag) : R2 := fun x y H Q => ∃ r, EqQ K H x y r ∧ Q (.bl (!r)) H
end
section
variable {K : PySem.W.Frag} {H : Hp} {Q : VK} {x y : V}
theorem rd_eqQ : rEqQ K x y H Q = ∃ r, EqQ K H x y r ∧ Q (.bl r) H := rfl
theorem rd_neQ : rNeQ K x y H Q = ∃ r, EqQ K H x y r ∧ Q (.bl (!r)) H := rfl
theorem all_strs {xs : List Str} : (xs.map V.str).all flatV = true := by
  rw [List.all_map]
  exact List.all_eq_true.mpr fun _ _ => rfl
end
end L2

set_option Elab.async false
set_option linter.all false
set_option maxRecDepth 100000
set_option maxHeartbeats 4000000
namespace L2
open PySem PySem.Spec PyProof.Rows

structure TryB where
  pn : List (Addr × Obj)
  xe : Value → Shared → Prop
  EE : St → XK
section
variable {X : Cx} {C n : Str} {c : Value} {i : Nat} {np pos : Pos} {b₀ : Stmt} {suite : List Stmt} {rest : List ExceptHandler} {ts : Addr → TS} {tr : TH}
end
section
variable {σ : St} {H : Hp} {D : Ends} {K : PySem.W.Frag}
end
end L2

set_option Elab.async false
set_option linter.all false
set_option maxRecDepth 100000
set_option maxHeartbeats 4000000
namespace L2
open PySem PySem.Spec PyProof.Rows

structure DefM (P : Program) (w : World) (K : PySem.W.Frag) (mg : Str → Option Value) (base : Heap) (CX : CXT) (k : Nat) (C : Addr) (m : Str) (ps : List Str) (sp : Sp) : Prop where
  ex : ∃ (f : Addr) (fd : FuncData), FnOk P w K mg base CX k f fd ps sp ∧ Meth K C m f ∧ Binds K fd ps []
structure DefI (P : Program) (w : World) (K : PySem.W.Frag) (mg : Str → Option Value) (base : Heap) (CX : CXT) (k : Nat) (x : Str) (C : Addr) (ps : List Str) (sp : Sp) : Prop where
  ex : ∃ (f : Addr) (fd : FuncData), FnOk P w K mg base CX k f fd ps sp ∧ Mk K C f ∧ mg x = some (.ref C) ∧ Binds K fd ps []
noncomputable def tMethE (C : Addr) (m : Str) (sp : Sp) (EE : St → XK) (ta : TE) (t : TA) : TE := fun σ H Q => ta σ H fun x H1 => ∃ a dx fs, x = .ref a ∧ H1 a = some (.ins C dx fs) ∧ fs.lookup m = none ∧ t σ H1 fun vs H2 => sp (x :: vs) H2 Q (EE σ)
noncomputable def tMakeE (C : Addr) (sp : Sp) (EE : St → XK) (t : TA) : TE := fun σ H Q => t σ H fun vs H1 => ∀ x dx, H1 x = none → H1 dx = none → dx ≠ x → sp (.ref x :: vs) (upd (upd H1 dx (.own x)) x (.ins C dx [])) (fun v H2 => v = .non ∧ Q (.ref x) H2) (EE σ)
section
variable {X : Cx} {CX : CXT} {k j : Nat} {f C : Addr} {fd : FuncData} {ps : List Str} {sp : Sp} {EE : St → XK} {E : XK} {x m : Str} {p pos apos : Pos} {e o : Expr} {es : List Expr} {ta : TE} {t : TA}
theorem passS (h : Passes CX X E) : PassesS CX X fun _ => E := fun pins σ H s e s' I hc => h pins σ H s e s' I hc
theorem run_fnS {pins : List (Addr × Obj)} {σ : St} {H : Hp} {s : Shared} {Q : VK} {us : List Value} {vs : List V} (F : FnOk X.prog X.w X.K X.mg X.base CX k f fd ps sp) (hr : Room k X.A) (hb : Binds X.K fd ps []) (hx : PassesS CX X EE)
    (I : Inv X pins σ H s) (r : Vals vs us) (h : sp vs H Q (EE σ)) : wpAny (model X.prog X.w) X.A (call (.ref f) us) (EP X pins σ Q) X.xe s := by
  have hl : us.length = ps.length := by rw [← r.length]; exact F.len _ _ _ _ h
  have hb' := hb s us I.kIn (by simpa using hl)
  rw [List.append_nil] at hb'
  refine wpAny_call (codeAny_mono (F.run X.A X.stack s H ⟨us, []⟩ us vs Q (EE σ) hr I.env0 hb' r h) fun r s' hq => ?_)
  cases r with
  | error e => exact hx pins σ H s e s' I hq
  | ok fl =>
    cases fl with
    | ret u => exact I.after hq
    | next => exact False.elim hq
    | brk => exact False.elim hq
    | cont => exact False.elim hq
theorem pe_methS {pl : Sem Bool} (D : DefM X.prog X.w X.K X.mg X.base CX j C m ps sp) (c : Cls X.K C) (hr : Room k X.A) (hx : PassesS CX X EE) (he : PE X o ta) (ha : PA X (e :: es) t) (hj : j ≤ k := by decide)
    (hst : starEach (e :: es) X.env = (false, eval e X.env) :: starEach es X.env := by rfl) (hpl : (backTo pos (starEach es X.env)).any (·.1) = false := by rfl)
    (ht : eval (.Call (.Attribute o m apos) (e :: es) [] pos) X.env = (do
      let ov ← eval o X.env
      standAt apos.atName
      let (f, first) ← holding [ov] (getMethod ov m pl)
      callWith pos f first (backTo pos (starEach (e :: es) X.env)) (backToKw pos (keywordEach [] X.env))) := by rfl) :
    PE X (.Call (.Attribute o m apos) (e :: es) [] pos) (tMethE C m sp EE ta t) := by
  obtain ⟨f, fd, F, hm, hb⟩ := D.ex
  intro pins s σ H Q I h
  refine PySem.W.methodCall_KW (pl := pl) (thn (he pins s σ H _ I h) fun u s1 ⟨x, H1, I1, rx, a, dx, fs, ex, ea, l, q⟩ => ?_) ht
  subst ex
  obtain rfl : u = Value.ref a := rx
  refine getmeth_ok I1 ea c hm l ?_
  refine PySem.W.callWith_K (first := [.ref a]) (h₀ := X.base) I.ok.mod.kin hm.kp (thn (ha pos pins s1 σ H1 _ I1 q) fun us s2 ⟨vs, H2, I2, r, q2⟩ => ⟨I2.kIn, ?_⟩) hst hpl
  exact run_fnS (us := .ref a :: us) (vs := .ref a :: vs) (F.mono hj) hr hb hx I2 (.cons rfl r) q2
theorem pe_methS0 {pl : Sem Bool} (D : DefM X.prog X.w X.K X.mg X.base CX j C m ps sp) (c : Cls X.K C) (hr : Room k X.A) (hx : PassesS CX X EE) (he : PE X o ta) (hj : j ≤ k := by decide)
    (ht : eval (.Call (.Attribute o m apos) [] [] pos) X.env = (do
      let ov ← eval o X.env
      standAt apos.atName
      let (f, first) ← holding [ov] (getMethod ov m pl)
      callWith pos f first (backTo pos (starEach [] X.env)) (backToKw pos (keywordEach [] X.env))) := by rfl) :
    PE X (.Call (.Attribute o m apos) [] [] pos) (tMethE C m sp EE ta tNil) := by
  obtain ⟨f, fd, F, hm, hb⟩ := D.ex
  intro pins s σ H Q I h
  refine PySem.W.methodCall_KW (pl := pl) (thn (he pins s σ H _ I h) fun u s1 ⟨x, H1, I1, rx, a, dx, fs, ex, ea, l, q⟩ => ?_) ht
  subst ex
  obtain rfl : u = Value.ref a := rx
  refine getmeth_ok I1 ea c hm l ?_
  exact PySem.W.callWith_K0 (first := [.ref a]) I1.kIn hm.kp (run_fnS (us := [.ref a]) (vs := [.ref a]) (F.mono hj) hr hb hx I1 (.cons rfl .nil) q)
theorem pe_makeS (D : DefI X.prog X.w X.K X.mg X.base CX j x C ps sp) (hr : Room k X.A) (hg : Gl X x) (hx : PassesS CX X EE) (ha : PA X (e :: es) t) (hj : j + 1 ≤ k := by decide) (hdb : (x == ("__debug__" : Str)) = false := by decide)
    (he : starEach (e :: es) X.env = (false, eval e X.env) :: starEach es X.env := by rfl) (hpl : (backTo pos (starEach es X.env)).any (·.1) = false := by rfl) :
    PE X (.Call (.Name x p) (e :: es) [] pos) (tMakeE C sp EE t) := by
  obtain ⟨f, fd, F, M, hm, hb⟩ := D.ex
  intro pins s0 σ H0 Q I0 h
  refine wpAny_Call_Name_kw (ld_glob I0 hg hm ?_ hdb)
  refine PySem.W.callWith_K (h₀ := X.base) I0.ok.mod.kin M.kp (thn (ha pos pins s0 σ H0 _ I0 h) fun us s ⟨vs, H, I, r, q⟩ => ⟨I.kIn, ?_⟩) he hpl
  have hq := q (s.heap.objs.size + 1) s.heap.objs.size (I.hok.fresh (Nat.le_succ _)) (I.hok.fresh (Nat.le_refl _)) (Nat.ne_of_lt (Nat.lt_succ_self _))
  have I2 := Inv.made (C := C) I
  have r2 : Vals (V.ref (s.heap.objs.size + 1) :: vs) (Value.ref (s.heap.objs.size + 1) :: us) := .cons rfl r
  have hl : (Value.ref (s.heap.objs.size + 1) :: us).length = ps.length := by
    rw [← r2.length]; exact F.len _ _ _ _ hq
  have hb' := fun s' (h' : X.K.In s'.heap) => hb s' (Value.ref (s.heap.objs.size + 1) :: us) h' (by simpa using hl)
  have hr' : Room (j + 1) X.A := hr.mono hj
  refine wpAny_call (make_map (f := f) I.kIn M.makes M.init (beq_iff_eq.mp M.fn) (codeAny_mono (F.run _ X.stack _ _ ⟨Value.ref (s.heap.objs.size + 1) :: us, []⟩ (Value.ref (s.heap.objs.size + 1) :: us) _ _ (EE σ) (hr'.make C us [])
    (I2.env0.make C us []) (by have := hb' _ I2.kIn; rw [List.append_nil] at this; exact this) r2 hq) fun r s' hq' => ?_))
  cases r with
  | error e => exact hx pins σ _ _ e s' I2 hq'
  | ok fl =>
    cases fl with
    | ret u =>
      obtain ⟨v, H', I3, rv, ev, q3⟩ := I2.after hq'
      subst ev
      exact ⟨rv, ⟨V.ref (s.heap.objs.size + 1), H', I3, rfl, q3⟩⟩
    | next => exact False.elim hq'
    | brk => exact False.elim hq'
    | cont => exact False.elim hq'
end
section
variable {σ : St} {H : Hp} {Q : VK} {D : Ends} {K : PySem.W.Frag}
theorem rd_methE {C : Addr} {m : Str} {sp : Sp} {EE : St → XK} {ta : TE} {t : TA} : tMethE C m sp EE ta t σ H Q = ta σ H fun x H1 => ∃ a dx fs, x = .ref a ∧ H1 a = some (.ins C dx fs) ∧ fs.lookup m = none ∧ t σ H1 fun vs H2 => sp (x :: vs) H2 Q (EE σ) := rfl
theorem rd_makeE {C : Addr} {sp : Sp} {EE : St → XK} {t : TA} : tMakeE C sp EE t σ H Q = t σ H fun vs H1 => ∀ x dx, H1 x = none → H1 dx = none → dx ≠ x → sp (.ref x :: vs) (upd (upd H1 dx (.own x)) x (.ins C dx [])) (fun v H2 => v = .non ∧ Q (.ref x) H2) (EE σ) := rfl
theorem rd_fld {ta : TE} {f : Str} : tFld K ta f σ H Q = ta σ H fun x H1 => ∃ a C dx fs v, x = .ref a ∧ H1 a = some (.ins C dx fs) ∧ Cls K C ∧ NoAttr K C f ∧ fs.lookup f = some v ∧ Q v H1 := rfl
theorem rd_sfld {ta tv : TE} {f : Str} : sFld K ta tv f D σ H = tv σ H fun y H1 => ta σ H1 fun x H2 => ∃ a C dx fs, x = .ref a ∧ H2 a = some (.ins C dx fs) ∧ Cls K C ∧ NoAttr K C f ∧ fs.length < 1000 ∧ D.nx σ (upd H2 a (.ins C dx (putF f y fs))) := rfl
theorem rd_din {ty td : TE} : tDIn ty td σ H Q = ty σ H fun y H1 => td σ H1 fun x H2 => ∃ a o, x = .ref a ∧ DGet H2 a y o ∧ Q (.bl o.isSome) H2 := rfl
theorem rd_dnotin {ty td : TE} : tDNotIn ty td σ H Q = ty σ H fun y H1 => td σ H1 fun x H2 => ∃ a o, x = .ref a ∧ DGet H2 a y o ∧ Q (.bl (!o.isSome)) H2 := rfl
theorem rd_dget {td ty : TE} : tDGet td ty σ H Q = td σ H fun x H1 => ty σ H1 fun y H2 => ∃ a v, x = .ref a ∧ DGet H2 a y (some v) ∧ Q v H2 := rfl
theorem rd_dput {td ty tv : TE} : sDPut td ty tv D σ H = tv σ H fun v H1 => td σ H1 fun x H2 => ty σ H2 fun y H3 => ∃ a H4, x = .ref a ∧ DPut H3 a y v H4 ∧ D.nx σ H4 := rfl
theorem rd_gtup {n : Nat} {t : TGs} {v : V} {N : St → Hp → Prop} : gTup K n t v σ H N = ∃ a xs, v = .ref a ∧ SqT K H a xs ∧ xs.length = n ∧ t xs σ H N := rfl
end
theorem le_app {a b : Str} {n : Nat} (h1 : a.length ≤ n / 2) (h2 : b.length ≤ n / 2) : (a ++ b).length ≤ n := by
  rw [len_app]; omega
end L2

set_option linter.all false
set_option maxHeartbeats 1000000
namespace N1
open PySem L2
noncomputable def letters : List Nat := List.range' 97 26
noncomputable def figures : List Nat := List.range' 48 10
theorem let_list : (Str.ofString "abcdefghijklmnopqrstuvwxyz").cps.toList = letters := by decide +kernel
theorem fig_list : (Str.ofString "0123456789").cps.toList = figures := by decide +kernel
theorem let_len : (Str.ofString "abcdefghijklmnopqrstuvwxyz").length = 26 := by decide +kernel
theorem fig_len : (Str.ofString "0123456789").length = 10 := by decide +kernel
theorem both_list : (Str.ofString "abcdefghijklmnopqrstuvwxyz0123456789").cps.toList = letters ++ figures := by decide +kernel
theorem both_len : (letters ++ figures).length = 36 := by decide
noncomputable def headIn (l : List Nat) (s : List Nat) : Bool := match l with
  | [] => false
  | c :: _ => decide (c ∈ s)
noncomputable def nameB (l : List Nat) : Bool := decide (1 ≤ l.length) && decide (l.length ≤ 8) && headIn l letters && l.all fun c => decide (c ∈ letters ++ figures)
end N1

set_option linter.all false
set_option maxHeartbeats 1000000
namespace N1
open PySem L2
end N1

set_option linter.all false
set_option maxHeartbeats 1000000
namespace N1
open PySem L2
noncomputable def tx (l : List Nat) : Str := ⟨l.toArray⟩
theorem T_list {l : List Nat} : (tx l).cps.toList = l := by simp [tx]
theorem T_eq {z : Str} : tx z.cps.toList = z := by cases z; simp [tx]
theorem T_inj {a b : List Nat} (h : tx a = tx b) : a = b := by rw [← T_list (l := a), h, T_list]
theorem T_app {a b : List Nat} : tx a ++ tx b = tx (a ++ b) := by
  have h := app_list (a := tx a) (b := tx b)
  rw [T_list, T_list] at h
  rw [← T_eq (z := tx a ++ tx b), h]
theorem T_len {l : List Nat} : (tx l).length = l.length := by rw [← str_len, T_list]
theorem T_one {c : Nat} : (⟨#[c]⟩ : Str) = tx [c] := rfl
inductive AskR where
  | ok (ps : List (List Nat))
  | many
  | noname
theorem both_length : (Str.ofString "abcdefghijklmnopqrstuvwxyz0123456789").length = 36 := by decide +kernel
noncomputable def bc (i : Int) : Nat := (letters ++ figures).getD i.toNat 0
theorem ix_bc (i : Int) {k : Int} (h0 : 0 < k) (h1 : k ≤ 36) : atI (Str.ofString "abcdefghijklmnopqrstuvwxyz0123456789").cps.toList (i % k) = some (bc (i % k)) := by
  have h2 := Int.emod_lt_of_pos i h0
  have h3 := Int.emod_nonneg i (show k ≠ 0 by omega)
  refine atI_of h3 ?_
  have h4 : (i % k).toNat < (letters ++ figures).length := by rw [both_len]; omega
  unfold bc
  rw [both_list, List.getD_eq_getElem?_getD, List.getElem?_eq_getElem h4]
  rfl
end N1

set_option linter.all false
set_option maxHeartbeats 1000000
namespace N1
open PySem PySem.Spec PyProof.Rows L2
noncomputable def sp_cell (K : PySem.W.Frag) : Sp := fun vs H Q _ => ∃ (a : Addr) (ns : List Int) (k : Int), vs = [.ref a, .int k] ∧ SqL K H a (ns.map V.int) ∧ 0 ≤ k ∧ ns.length ≤ 63 ∧ Q (.int (ns.getD k.toNat 0)) H
noncomputable def sp_made : Sp := fun vs H Q _ => ∃ (z w : Str), vs = [.str z, .str w] ∧ z.length ≤ sizeLine ∧ ∀ H', Same H H' → Q (.bl (z.cps.toList.all fun c => decide (c ∈ w.cps.toList))) H'
noncomputable def sp_is_name (K : PySem.W.Frag) : Sp := fun vs H Q _ => ∃ (x : V), vs = [x] ∧ ((∃ z : Str, x = .str z ∧ z.length ≤ sizeLine ∧ ∀ H', Same H H' → Q (.bl (nameB z.cps.toList)) H') ∨ (Isi K H x "str" false ∧ Q (.bl false) H))
noncomputable def sp_law (K : PySem.W.Frag) : Sp := fun vs H Q _ => ∃ (a : Addr) (ns : List Int), vs = [.ref a] ∧ SqL K H a (ns.map V.int) ∧ ns.length ≤ 63 ∧ ∀ H', Q (.bl true) H'
end N1

set_option linter.all false
set_option maxHeartbeats 1000000
namespace N1
open PySem PySem.Spec PyProof.Rows L2
inductive StE where
  | noname | twice | nonum | many
noncomputable def nOk : V → Bool
  | .str z => nameB z.cps.toList
  | _ => false
noncomputable def sOf : V → Str
  | .str z => z
  | _ => Str.empty
noncomputable def wIn (lo hi : Int) : V → Bool
  | .int i => decide (lo ≤ i) && decide (i ≤ hi)
  | _ => false
noncomputable abbrev Rw := Addr × V × V × V
noncomputable def rowR (ks : List Str) (n c r : V) : Option StE := if nOk n = false then some .noname else if sOf n ∈ ks then some .twice else if wIn 0 (10 ^ 30) c = false then some .nonum else if wIn 1 1000 r = false then some .nonum else none
noncomputable def stockR (ks : List Str) : List Rw → Option StE
  | [] => none
  | t :: rs => match rowR ks t.2.1 t.2.2.1 t.2.2.2 with
    | some e => some e
    | none => stockR (ks ++ [sOf t.2.1]) rs
noncomputable def initR (rs : List Rw) : Option StE := if 60 < rs.length then some .many else stockR [] rs
theorem num_isi {K : PySem.W.Frag} {H : Hp} {v : V} (h : flatV v = true) : ∃ b c, Isi K H v "int" b ∧ (b = true → Isi K H v "bool" c) ∧ ((b && !c) = true → ∃ i, v = .int i) ∧ ((b && !c) = false → ∀ i, v ≠ .int i) := by
  cases v with
  | non => exact ⟨false, false, isi_ni, fun h => by (cases h), fun h => by (cases h), fun _ i h => by cases h⟩
  | bl b => exact ⟨true, true, isi_bi, fun _ => isi_bb, fun h => by (cases h), fun _ i h => by cases h⟩
  | int i => exact ⟨true, false, isi_ii, fun _ => isi_ib, fun _ => ⟨i, rfl⟩, fun h => by cases h⟩
  | str z => exact ⟨false, false, isi_si, fun h => by (cases h), fun h => by (cases h), fun _ i h => by cases h⟩
  | _ => cases h
noncomputable def sp_is_whole (K : PySem.W.Frag) : Sp := fun vs H Q _ => ∃ (x : V) (b c : Bool), vs = [x] ∧ Isi K H x "int" b ∧ (b = true → Isi K H x "bool" c) ∧ Q (.bl (b && !c)) H
noncomputable def sp_within (K : PySem.W.Frag) : Sp := fun vs H Q _ => ∃ (v : V) (lo hi : Int), vs = [v, .int lo, .int hi] ∧ flatV v = true ∧ Q (.bl (wIn lo hi v)) H
noncomputable def SameBut (p : Addr) (H H' : Hp) : Prop := ∀ b o, H b = some o → b ≠ p → H' b = some o
theorem SameBut.trans {p : Addr} {H H1 H2 : Hp} (h1 : SameBut p H H1) (h2 : SameBut p H1 H2) : SameBut p H H2 := fun b o e n => h2 b o (h1 b o e n) n
theorem SameBut.of {p : Addr} {H H1 : Hp} (h : Same H H1) : SameBut p H H1 := fun b o e _ => h b o e
theorem sameBut_upd {p : Addr} {H : Hp} {o : HO} : SameBut p H (upd H p o) := fun b u e n => by rw [upd_ne n]; exact e
noncomputable abbrev Th := Str × Int × Int
noncomputable def flds (d : Addr) : List (Str × V) := putF "things" (.ref d) []
structure StockAt (K : PySem.W.Frag) (C : Addr) (H : Hp) (p : Addr) (ts : List Th) : Prop where
  ex : ∃ (dx d : Addr) (kvs : List (Key × V)), H p = some (.ins C dx (flds d)) ∧ H d = some (.dK kvs) ∧ kvs.map (·.1) = ts.map (fun t => Sum.inr t.1) ∧
    ∀ (i : Nat) (t : Th), ts[i]? = some t → ∃ a, kvs[i]? = some (Sum.inr t.1, .ref a) ∧ SqT K H a [.int i, .int t.2.1, .int t.2.2]
theorem StockAt.same {K : PySem.W.Frag} {C : Addr} {H H' : Hp} {p : Addr} {ts : List Th} (s : Same H H') (h : StockAt K C H p ts) : StockAt K C H' p ts := by
  obtain ⟨dx, d, kvs, h1, h2, h3, h4⟩ := h.ex
  refine ⟨dx, d, kvs, s _ _ h1, s _ _ h2, h3, fun i t e => ?_⟩
  obtain ⟨a, e1, e2⟩ := h4 i t e
  exact ⟨a, e1, s.tup e2⟩
noncomputable def iOf : V → Int
  | .int i => i
  | _ => 0
noncomputable def thOf (t : Rw) : Th := (sOf t.2.1, iOf t.2.2.1, iOf t.2.2.2)
theorem SqT.but {K : PySem.W.Frag} {H H' : Hp} {p a C dx : Addr} {fs : List (Str × V)} {xs : List V} (s : SameBut p H H') (hp : H p = some (.ins C dx fs)) (h : SqT K H a xs) : SqT K H' a xs := by
  rcases h with (h | ⟨o, h⟩) | h
  · exact .inl (.inl (s _ _ h (ne_of h hp (by intro z; cases z))))
  · exact .inl (.inr ⟨o, s _ _ h (ne_of h hp (by intro z; cases z))⟩)
  · exact .inr h
theorem SqL.but {K : PySem.W.Frag} {H H' : Hp} {p a C dx : Addr} {fs : List (Str × V)} {xs : List V} (s : SameBut p H H') (hp : H p = some (.ins C dx fs)) (h : SqL K H a xs) : SqL K H' a xs := by
  rcases h with (h | ⟨o, h⟩) | h
  · exact .inl (.inl (s _ _ h (ne_of h hp (by intro z; cases z))))
  · exact .inl (.inr ⟨o, s _ _ h (ne_of h hp (by intro z; cases z))⟩)
  · exact .inr h
theorem key_mem {kvs : List (Key × V)} {ks : List Str} {z : Str} (h : kvs.map (·.1) = ks.map Sum.inr) : (valV kvs (Sum.inr z)).isSome = decide (z ∈ ks) := by
  have e : (Sum.inr z : Key) ∈ kvs.map (·.1) ↔ z ∈ ks := by
    rw [h, List.mem_map]
    constructor
    · rintro ⟨a, ha, e⟩; injection e with e; subst e; exact ha
    · intro h; exact ⟨z, h, rfl⟩
  cases hv : valV kvs (Sum.inr z : Key) with
  | none => rw [decide_eq_false fun q => valV_not hv (e.mpr q)]; rfl
  | some v => rw [decide_eq_true (e.mp (valV_in hv))]; rfl
theorem flds_things {d : Addr} : (flds d).lookup ("things" : Str) = some (V.ref d) := by
  unfold flds
  rw [lookup_putF, if_pos rfl]
theorem rowR_none {ks : List Str} {n co r : V} (h : rowR ks n co r = none) : ∃ z c q, n = .str z ∧ co = .int c ∧ r = .int q ∧ ¬ z ∈ ks ∧ nameB z.cps.toList = true ∧ 0 ≤ c ∧ c ≤ 10 ^ 30 ∧ 1 ≤ q ∧ q ≤ 1000 := by
  unfold rowR at h
  split at h
  · cases h
  rename_i h1
  split at h
  · cases h
  rename_i h2
  split at h
  · cases h
  rename_i h3
  split at h
  · cases h
  rename_i h4
  cases n with
  | str z =>
    cases co with
    | int c =>
      cases r with
      | int q =>
        simp only [wIn, Bool.and_eq_false_iff, decide_eq_false_iff_not, not_or, Decidable.not_not] at h3 h4
        exact ⟨z, c, q, rfl, rfl, rfl, h2, by simpa [nOk] using h1, h3.1, h3.2, h4.1, h4.2⟩
      | _ => exact absurd rfl h4
    | _ => exact absurd rfl h3
  | _ => exact absurd rfl h1
theorem stockR_step {ks : List Str} {rs : List Rw} {i : Nat} {t : Rw} (h : rs[i]? = some t) : stockR ks (rs.drop i) = match rowR ks t.2.1 t.2.2.1 t.2.2.2 with
    | some e => some e
    | none => stockR (ks ++ [sOf t.2.1]) (rs.drop (i + 1)) := by
  have e : rs.drop i = t :: rs.drop (i + 1) := by
    obtain ⟨hi, rfl⟩ := List.getElem?_eq_some_iff.mp h
    exact List.drop_eq_getElem_cons hi
  rw [e]
  rfl
noncomputable def nmsOf (rs : List Rw) : List Str := rs.map fun t => sOf t.2.1
structure MidAt (K : PySem.W.Frag) (H : Hp) (d : Addr) (rs : List Rw) : Prop where
  ex : ∃ kvs : List (Key × V), H d = some (.dK kvs) ∧ kvs.map (·.1) = (nmsOf rs).map Sum.inr ∧ ∀ (j : Nat) (t : Rw), rs[j]? = some t → ∃ a, kvs[j]? = some (Sum.inr (sOf t.2.1), .ref a) ∧ SqT K H a [.int j, .int (iOf t.2.2.1), .int (iOf t.2.2.2)]
theorem MidAt.snoc {K : PySem.W.Frag} {H : Hp} {d a : Addr} {rs : List Rw} {t : Rw} {kvs : List (Key × V)} {c q : Int} {z : Str} (h1 : H d = some (.dK kvs)) (h2 : kvs.map (·.1) = (nmsOf rs).map Sum.inr)
    (h3 : ∀ (j : Nat) (t : Rw), rs[j]? = some t → ∃ a, kvs[j]? = some (Sum.inr (sOf t.2.1), .ref a) ∧ SqT K H a [.int j, .int (iOf t.2.2.1), .int (iOf t.2.2.2)])
    (e1 : t.2.1 = .str z) (e2 : t.2.2.1 = .int c) (e3 : t.2.2.2 = .int q) (nz : ¬ z ∈ nmsOf rs) (ha : H a = some (.tup [.int kvs.length, .int c, .int q])) :
    MidAt K (upd H d (.dK (putK kvs (Sum.inr z) (.ref a)))) d (rs ++ [t]) := by
  have hl : kvs.length = rs.length := by
    have := congrArg List.length h2
    simpa [nmsOf] using this
  have hv : valV kvs (Sum.inr z : Key) = none := by
    have := key_mem (z := z) h2
    rw [decide_eq_false nz] at this
    cases h : valV kvs (Sum.inr z : Key) with
    | none => rfl
    | some v => rw [h] at this; cases this
  have keep2 : ∀ {b : Addr} {xs : List V} {o : List (Key × V)}, SqT K H b xs → SqT K (upd H d (.dK o)) b xs := fun {b xs o} h => by
    rcases h with (h | ⟨o', h⟩) | h
    · exact .inl (.inl (by rw [upd_ne (ne_of h h1 (by intro z; cases z))]; exact h))
    · exact .inl (.inr ⟨_, by rw [upd_ne (ne_of h h1 (by intro z; cases z))]; exact h⟩)
    · exact .inr h
  refine ⟨_, upd_same, ?_, fun j t' hj => ?_⟩
  · rw [putK_new _ hv, List.map_append, h2]
    simp [nmsOf, e1, sOf]
  · rw [putK_new _ hv]
    by_cases hlt : j < rs.length
    · rw [List.getElem?_append_left hlt] at hj
      obtain ⟨b, e, hb⟩ := h3 j t' hj
      exact ⟨b, by rw [List.getElem?_append_left (by omega)]; exact e, keep2 hb⟩
    · rw [List.getElem?_append_right (by omega)] at hj
      have hj0 : j - rs.length = 0 := by
        have := (List.getElem?_eq_some_iff.mp hj).1
        simp at this; omega
      rw [hj0] at hj
      cases hj
      have ej : j = rs.length := by omega
      subst ej
      refine ⟨a, ?_, ?_⟩
      · rw [← hl, List.getElem?_append_right (by omega)]; simp [e1, sOf]
      · rw [e2, e3]
        refine keep2 (SqT.of ?_)
        rw [ha, hl]; rfl
end N1

set_option linter.all false
set_option maxHeartbeats 1000000
namespace L2
open PySem PySem.Spec PyProof.Rows
section
variable {X : Cx} {pins : List (Addr × Obj)} {σ : St} {H : Hp} {s : Shared}
theorem pa_consK {c : Const} {j pos} {es : List Expr} {te : TE} {t : TA} (ha : PE X (.Constant c j pos) te) (hr : PA X es t) : PA X (.Constant c j pos :: es) (tCons te t) := pa_cons ha hr rfl
end
theorem rd_setL {o i v : V} {H : Hp} {Q : Hp → Prop} : rSetL o i v H Q = ∃ p xs k j, o = .ref p ∧ i = .int k ∧ H p = some (.lst xs) ∧ ixN xs.length k = some j ∧ Q (upd H p (.lst (xs.set j v))) := rfl
end L2
namespace N5
open PySem PySem.Spec PyProof.Rows L2 N1
noncomputable def md (j : Nat) : Int := if j = 0 then 26 else 36
noncomputable def sgn (F : Nat → Int) (at' : Int) (k j : Nat) : Nat := bc ((F j + if (j : Int) = at' then (k : Int) else 0) % md j)
noncomputable def nmL (F : Nat → Int) (at' : Int) (long k : Nat) : List Nat := (List.range long).map (sgn F at' k)
theorem bc_let {i : Int} : bc (i % 26) ∈ letters := by
  have h1 := Int.emod_nonneg i (show (26 : Int) ≠ 0 by decide)
  have h2 := Int.emod_lt_of_pos i (show (0 : Int) < 26 by decide)
  unfold bc
  generalize i % 26 = x at *
  have h3 : x.toNat < letters.length := by simp [letters]; omega
  rw [List.getD_eq_getElem?_getD, List.getElem?_append_left h3, List.getElem?_eq_getElem h3]
  exact List.getElem_mem h3
theorem bc_both {i : Int} : bc (i % 36) ∈ letters ++ figures := by
  have h1 := Int.emod_nonneg i (show (36 : Int) ≠ 0 by decide)
  have h2 := Int.emod_lt_of_pos i (show (0 : Int) < 36 by decide)
  unfold bc
  generalize i % 36 = x at *
  have h3 : x.toNat < (letters ++ figures).length := by rw [both_len]; omega
  rw [List.getD_eq_getElem?_getD, List.getElem?_eq_getElem h3]
  exact List.getElem_mem h3
theorem bc_inj {x y : Int} (hx0 : 0 ≤ x) (hx : x < 36) (hy0 : 0 ≤ y) (hy : y < 36) (h : bc x = bc y) : x = y := by
  have key : ∀ a : Fin 36, ∀ b : Fin 36, (letters ++ figures).getD a.val 0 = (letters ++ figures).getD b.val 0 → a = b := by decide +kernel
  have := key ⟨x.toNat, by omega⟩ ⟨y.toNat, by omega⟩ h
  have := congrArg Fin.val this
  simp at this
  omega
theorem nmL_name {F : Nat → Int} {at' : Int} {long k : Nat} (h1 : 1 ≤ long) (h2 : long ≤ 8) : nameB (nmL F at' long k) = true := by
  obtain ⟨n, rfl⟩ : ∃ n, long = n + 1 := ⟨long - 1, by omega⟩
  have hall : ∀ c ∈ nmL F at' (n + 1) k, c ∈ letters ++ figures := by
    intro c hc
    obtain ⟨j, _, rfl⟩ := List.mem_map.mp hc
    have hm : md j = 26 ∨ md j = 36 := by unfold md; split <;> simp
    unfold sgn
    rcases hm with hm | hm <;> rw [hm]
    · exact List.mem_append_left _ bc_let
    · exact bc_both
  have hl : (nmL F at' (n + 1) k).length = n + 1 := by simp [nmL]
  have hh : headIn (nmL F at' (n + 1) k) letters = true := by
    unfold nmL
    rw [List.range_succ_eq_map, List.map_cons]
    show decide (sgn F at' k 0 ∈ letters) = true
    rw [decide_eq_true_eq]
    unfold sgn md
    rw [if_pos rfl]
    exact bc_let
  unfold nameB
  rw [hl, hh, decide_eq_true h1, decide_eq_true h2]
  simp only [Bool.true_and]
  exact List.all_eq_true.mpr fun c hc => decide_eq_true (hall c hc)
structure Good (ys : List Str) (i : Nat) (t : Rw) : Prop where
  n : ∃ z, ys[i]? = some z ∧ t.2.1 = .str z
  c : ∃ c, t.2.2.1 = .int c ∧ 0 ≤ c ∧ c ≤ 10 ^ 30
  r : ∃ r, t.2.2.2 = .int r ∧ 1 ≤ r ∧ r ≤ 1000
structure Kind (ys : List Str) (i : Nat) (ways : Int) (t : Rw) : Prop where
  n1 : ways % 2 = 1 → nOk t.2.1 = false
  n2 : ways % 2 = 0 → ways / 2 % 2 = 1 ∧ 0 < i → ∃ j z, j < i ∧ ys[j]? = some z ∧ t.2.1 = .str z
  n3 : ways % 2 = 0 → ¬ (ways / 2 % 2 = 1 ∧ 0 < i) → ∃ z, ys[i]? = some z ∧ t.2.1 = .str z
  c1 : ways / 4 % 2 = 1 → wIn 0 (10 ^ 30) t.2.2.1 = false
  c2 : ways / 4 % 2 = 0 → wIn 0 (10 ^ 30) t.2.2.1 = true
  r1 : ways / 8 % 2 = 1 → wIn 1 1000 t.2.2.2 = false
  r2 : ways / 8 % 2 = 0 → wIn 1 1000 t.2.2.2 = true
theorem ne1 : Str.ofString "no name" ≠ Str.ofString "nothing" := by decide +kernel
theorem SqT.butL {K : PySem.W.Frag} {H H' : Hp} {p a : Addr} {zs : List V} {xs : List V} (s : SameBut p H H') (hp : H p = some (.lst zs)) (h : SqT K H a xs) : SqT K H' a xs := by
  rcases h with (h | ⟨o, h⟩) | h
  · exact .inl (.inl (s _ _ h (ne_of h hp (by intro z; cases z))))
  · exact .inl (.inr ⟨o, s _ _ h (ne_of h hp (by intro z; cases z))⟩)
  · exact .inr h
theorem same_made {H H' : Hp} {x dx C : Addr} (hx : H x = none) (hd : H dx = none) (s : SameBut x (upd (upd H dx (.own x)) x (.ins C dx [])) H') : Same H H' := fun b o e => by
  have n1 := ne_of_none e hx
  have n2 := ne_of_none e hd
  exact s b o (by rw [upd_ne n1, upd_ne n2]; exact e) n1
theorem name_len {z : Str} (h : nameB z.cps.toList = true) : z.length ≤ 8 := by
  unfold nameB at h
  simp only [Bool.and_eq_true, decide_eq_true_eq] at h
  have := h.1.1.2
  rw [str_len] at this; exact this
end N5

set_option Elab.async false
set_option linter.all false
set_option maxRecDepth 100000
set_option maxHeartbeats 4000000
namespace L2
open PySem PySem.Spec PyProof.Rows
open Sem (wp)

section
variable {Pg : Program} {w : World} {A : Around} {E : Value → Shared → Prop} {h : Heap} {g : Array GenState} {d : Drawn} {t : Nat} {os : OsState}
variable {nm q : Str} {C N : Addr} {bs bm bmB : List Value} {hd : Bool} {sn : List Str} {su : List Value} {ab : Bool} {co : Option Bool} {dd : Option Addr} {k0 k1 k2 k3 k5 : Option Value} {B nw ni : String}
noncomputable abbrev bareExc (h : Heap) (C : Addr) : Obj := { cls := .ref C, data := .fields #[.ref h.objs.size, .none, .none, .none, .bool false, .none] }
noncomputable abbrev twoMore (h : Heap) (C : Addr) (rest : List Value) : Heap := (h.push { cls := .type "tuple", data := .seq rest.toArray }).push (bareExc h C)
theorem keep2 {rest : List Value} : ∀ b o, h.get? b = some o → (twoMore h C rest).get? b = some o := fun _ _ e => Heap.get?_push_of_some _ (Heap.get?_push_of_some _ e)
end
section
open PySem.W PySem.Builtin PySem.Builtin.ObjectAttr
variable {Pg : Program} {w : World} {A : Around} {R : Result → Shared → Prop} {s : Shared} {K : Frag} {x C B : Addr} {ox : Obj} {od : Option Obj} {cd : ClassData} {f : Str} {tk : Tok} {v : Value}
noncomputable abbrev veTail : List Value := [.type "ValueError", .type "Exception", .type "BaseException", .type "object"]
end
section
variable {X : Cx} {pins : List (Addr × Obj)} {σ : St} {H : Hp} {x : Addr} {s : Shared} {h' : Heap} {o : HO} {t' : Nat}
end
section
variable {X : Cx} {C : Addr} {x : Str} {p pos : Pos} {e : Expr} {es : List Expr} {t : TA}
end
structure ExcG (K : PySem.W.Frag) (C : Addr) : Prop where
  ga : PySem.W.findIn K (.ref C) "__getattribute__" = some (some (.builtin "BaseException.__getattribute__"))
  gh : PySem.W.findIn K (.ref C) "__getattr__" = some none
structure ExcQ (K : PySem.W.Frag) (C B : Addr) : Prop extends ExcG K C where
  cd : ∃ cd : ClassData, PySem.W.clsIn K C = some cd ∧ cd.mro = .ref C :: .ref B :: veTail ∧ cd.hasDict = true
  sa : PySem.W.findIn K (.ref C) "__setattr__" = some (some (.builtin "object.__setattr__"))
section
variable {X : Cx} {pins : List (Addr × Obj)} {σ : St} {H : Hp} {s : Shared} {nw : Bool} {a dx C B : Addr} {fs : List (Str × V)} {f : Str} {v : V} {A : Around} {E : Value → Shared → Prop}
end
section
variable {X : Cx} {pins : List (Addr × Obj)} {σ : St} {H H1 : Hp} {s s1 : Shared} {x : Addr} {o : HO}
end
section
variable {X : Cx} {CX : CXT} {k j : Nat} {C B : Addr} {ps : List Str} {sp : Sp} {EE : St → XK} {f m : Str} {pos pos' apos : Pos} {e o value : Expr} {ta tv : TE}
end
structure MkX (K : PySem.W.Frag) (C f : Addr) : Prop where
  at_ : ∀ h : Heap, K.In h → ∃ (nm q : Str) (N : Addr) (bs bm : List Value) (hd : Bool) (sn : List Str) (su : List Value) (ab : Bool) (co : Option Bool) (dd : Option Addr) (k0 k1 k2 k3 k5 : Option Value) (mN : Str → Option Value),
    h.get? C = some (excClassObj nm q C N bs bm hd sn su ab co dd k0 k1 k2 k3 k5 "ValueError.__new__") ∧ h.Ns N mN ∧ mN "__init__" = some (.ref f) ∧ OwnTail h veTail bm
  fn : ∃ oI : Obj, K.lookup f = some oI ∧ oI.cls = .type "function"
  kp : PySem.W.keepIn K (.ref C) = true
structure DefX (P : Program) (w : World) (K : PySem.W.Frag) (mg : Str → Option Value) (base : Heap) (CX : CXT) (k : Nat) (x : Str) (C : Addr) (ps : List Str) (sp : Sp) : Prop where
  ex : ∃ (f : Addr) (fd : FuncData), FnOk P w K mg base CX k f fd ps sp ∧ MkX K C f ∧ mg x = some (.ref C) ∧ Binds K fd ps []
section
variable {X : Cx} {CX : CXT} {k j : Nat} {C : Addr} {ps : List Str} {sp : Sp} {EE : St → XK} {x : Str} {p pos : Pos} {e : Expr} {es : List Expr} {t : TA}
end
end L2

set_option Elab.async false
set_option linter.all false
set_option maxRecDepth 100000
set_option maxHeartbeats 4000000
namespace L2
open PySem PySem.Spec PyProof.Rows
open Sem (wp)

section
variable {M : Model} {A : Around} {E : Value → Shared → Prop} {s : Shared} {base : Heap} {env : Env} {outer l : List Env} {L x C : Addr} {od : Option Addr} {vs : Array Value} {sl : Array (Option Value)} {a0 fl : Value} {Q : Unit → Shared → Prop}
end

section
variable {X : Cx} {pins : List (Addr × Obj)} {σ : St} {H2 : Hp} {s2 : Shared} {h3 : Heap} {n : Bool} {x C : Addr} {od : Option Addr}
end
section
variable {P : Program} {w : World} {K : PySem.W.Frag} {mg : Str → Option Value} {base : Heap} {N : List Str} {qual : Str} {scope : Scope} {f : Addr} {cd : Value} {A : Around} {outer : List Env} {s : Shared} {H : Hp} {E : XK}
end

structure ExK (K : PySem.W.Frag) (C : Addr) : Prop where
  at_ : ∀ h : Heap, K.In h → ∃ (nm q : Str) (N : Addr) (bs bm : List Value) (hd : Bool) (sn : List Str) (su : List Value) (ab : Bool) (co : Option Bool) (dd : Option Addr) (k0 k1 k2 k3 k5 : Option Value) (nw : String),
    h.get? C = some (excClassObj nm q C N bs bm hd sn su ab co dd k0 k1 k2 k3 k5 nw) ∧ bm.contains (.type "BaseException") = true
section
variable {X : Cx} {H₀ : Hp} {EE : St → XK} {C : Addr} {e : Expr} {ta : TE} {pos : Pos}
end
section
variable {X : Cx} {H₀ : Hp} {CX : CXT} {EE : St → XK} {k j : Nat} {C : Addr} {ps : List Str} {sp : Sp} {x : Str} {np cpos pos : Pos} {e : Expr} {es : List Expr} {t : TA}
end
section
variable {σ : St} {H H₀ : Hp} {Q : VK} {D : Ends} {K : PySem.W.Frag} {C : Addr} {EE : St → XK} {t : TA} {sp : Sp}
end

section
variable {X : Cx} {pins : List (Addr × Obj)} {σ : St} {H : Hp} {x C : Addr} {od : Option Addr} {s : Shared}
end
section
variable {X : Cx} {Cn n : Str} {c : Value} {i : Nat} {np pos : Pos} {b₀ : Stmt} {suite : List Stmt} {rest : List ExceptHandler} {ts : Addr → TS} {tr : TH}
end
section
variable {σ : St} {H : Hp} {D : Ends} {K : PySem.W.Frag}
end
section
open PySem.W
end
section
open PySem.W
variable {K : Frag} {C N A f : Addr} {nm q : Str} {bs : List Value} {hdct : Bool} {sn : List Str} {sub : List Value} {ab : Bool} {col : Option Bool} {dd : Option Addr} {k0 k1 k2 k3 k5 : Option Value} {oc c0 oc2 : Value} {od dA od2 : Option Addr} {es es2 : Array DictEntry} {ep ep2 : Nat} {sl slA sl2 : Array (Option Value)} {cdA : ClassData} {nw : String}
end
end L2

set_option Elab.async false
set_option linter.all false
set_option maxRecDepth 100000
set_option maxHeartbeats 4000000
namespace L2
open PySem PySem.Spec PyProof.Rows

theorem kV_of {P : Program} {w : World} {k : Key} {u : Value} (h : (mixKind P w).is k u = true) : RelV (kV k) u := by
  cases k with
  | inl i =>
    cases u <;> first | (exact absurd h (by intro z; cases z)) | skip
    rename_i j t
    have e : j = i := by simpa [mixKind, keyIs, Value.isInt] using h
    exact ⟨t, by rw [e]⟩
  | inr x =>
    cases u <;> first | (exact absurd h (by intro z; cases z)) | skip
    rename_i j t
    have e : j = x := by simpa [mixKind, keyIs, Value.isStrOf] using h
    exact ⟨t, by rw [e]⟩
theorem vals_get : ∀ {xs : List V} {us : List Value}, Vals xs us → ∀ {i : Nat} {u : Value}, us[i]? = some u → ∃ x, xs[i]? = some x ∧ RelV x u
  | _, _, .cons r t, 0, u, e => by cases e; exact ⟨_, rfl, r⟩
  | _, _, .cons r t, i + 1, u, e => vals_get t (i := i) e
theorem vals_at : ∀ {xs : List V} {us : List Value}, xs.length = us.length → (∀ (j : Nat) (u : Value), us[j]? = some u → ∃ x, xs[j]? = some x ∧ RelV x u) → Vals xs us
  | [], [], _, _ => .nil
  | x :: xs, u :: us, hl, h => by
    obtain ⟨y, e, r⟩ := h 0 u rfl
    cases e
    exact .cons r (vals_at (by simpa using hl) fun j v e => h (j + 1) v e)
theorem paired_get {α β : Type} {F : α → β → Prop} : ∀ {l : List α} {m : List β}, Paired F l m → ∀ {i : Nat} {b : β}, m[i]? = some b → ∃ a, l[i]? = some a ∧ F a b
  | _, _, .cons r t, 0, b, e => by cases e; exact ⟨_, rfl, r⟩
  | _, _, .cons r t, i + 1, b, e => paired_get t (i := i) e
theorem erase_map {α β : Type} (f : α → β) : ∀ (l : List α) (i : Nat), (l.map f).eraseIdx i = (l.eraseIdx i).map f
  | [], _ => rfl
  | _ :: _, 0 => rfl
  | a :: l, i + 1 => by rw [List.map_cons, List.eraseIdx_cons_succ, List.eraseIdx_cons_succ, List.map_cons, erase_map f l i]
theorem erase_at (z : Str) : ∀ l : List Str, l.eraseIdx (l.idxOf z) = l.erase z
  | [] => rfl
  | a :: l => by
    by_cases h : a = z
    · subst h; simp
    · have e : (a :: l).idxOf z = l.idxOf z + 1 := by rw [List.idxOf_cons, show (a == z) = false from beq_false_of_ne h]; rfl
      rw [e, List.eraseIdx_cons_succ, erase_at z l, List.erase_cons_tail (by simpa using h)]
noncomputable def viewO (v d : Addr) : HO := .ext fun h => h.IsValuesView v d
noncomputable def rListD : List V → Hp → VK → Prop := fun xs H Q => ∃ a kvs, xs = [.ref a] ∧ H a = some (.dK kvs) ∧ ∀ l, H l = none → Q (.ref l) (upd H l (.lst (kvs.map fun p => kV p.1)))
noncomputable def rValues : V → List V → Hp → VK → Prop := fun x vs H Q => ∃ a kvs, x = .ref a ∧ vs = [] ∧ H a = some (.dK kvs) ∧ ∀ v, H v = none → Q (.ref v) (upd H v (viewO v a))
noncomputable def rSumV : List V → Hp → VK → Prop := fun xs H Q => ∃ (v d : Addr) (kvs : List (Key × V)) (is : List Int), xs = [.ref v] ∧ H v = some (viewO v d) ∧ H d = some (.dK kvs) ∧ kvs.map (·.2) = is.map V.int ∧ Q (.int is.sum) H
noncomputable def rRemove : V → List V → Hp → VK → Prop := fun x vs H Q => ∃ (l : Addr) (ys : List Str) (z : Str), x = .ref l ∧ vs = [.str z] ∧ H l = some (.lst (ys.map V.str)) ∧ z ∈ ys ∧ Q .non (upd H l (.lst ((ys.erase z).map V.str)))
section
variable {X : Cx}
theorem call_listD (hc : X.calm = true) : CallR X (.type "list") rListD := by
  intro pins s σ H xs us Q I r h
  obtain ⟨a, kvs, rfl, ha, q⟩ := h
  obtain ⟨u, rfl, rx⟩ := vals1 r
  cases rx
  obtain ⟨z, lo, ws, rel, ob, es, ep, e1, e2⟩ := I.hok a _ ha
  have dat : s.heap.DictAt (mixKind X.prog X.w) a ws ep := ⟨ob, es, e1, e2⟩
  refine PySem.W.kdl_call (PySem.W.kdl_dict (knd := mixKind X.prog X.w) (kvs := ws) (ep := ep) lo) (I.ok.hd hc) dat (by rw [← rel.length]; exact z) fun h' tk acc c' kp e hi => ?_
  have hv : Vals (kvs.map fun p => kV p.1) acc.toList := by
    have h1 := hi.1
    have h2 := rel.length
    refine vals_at (by rw [List.length_map]; exact h2.trans (h1.symm.trans (Array.length_toList (xs := acc)).symm)) fun j u ej => ?_
    obtain ⟨k, x, ek, hk⟩ := hi.2 j u (by rw [← Array.getElem?_toList]; exact ej)
    obtain ⟨p, ep', hp⟩ := paired_get rel ek
    exact ⟨kV p.1, by rw [List.getElem?_map, ep']; rfl, by rw [hp.1]; exact kV_of hk⟩
  refine ⟨.ref s.heap.objs.size, _, I.laid (t' := tk) kp (Nat.le_refl _) (show ObjOk X.prog X.w _ h' _ (.lst (kvs.map fun p => kV p.1)) from ⟨by rw [List.length_map]; exact z, acc.toList, c', hv, ?_⟩), rfl, q _ I.fresh⟩
  rw [Array.toArray_toList]; exact e
theorem mt_remove : MtM X "list.remove" rRemove := by
  intro pins s σ H x vs v us Q I rx rv h
  obtain ⟨l, ys, z, rfl, rfl, hH, hz, q⟩ := h
  cases rx
  obtain ⟨u, rfl, ru⟩ := rv.one
  obtain ⟨t, rfl⟩ := ru
  obtain ⟨hs, its, n, r, hl, e⟩ := I.lstM hH
  have hj : ys.idxOf z < ys.length := List.idxOf_lt_length_iff.mpr hz
  have at_ : ∀ (m : Nat) (u : Value), its[m]? = some u → ∃ y t, ys[m]? = some y ∧ u = .str y t := fun m u em => by
    obtain ⟨x, ex, rx⟩ := vals_get r em
    rw [List.getElem?_map] at ex
    cases hy : ys[m]? with
    | none => rw [hy] at ex; cases ex
    | some y =>
      rw [hy] at ex
      cases ex
      obtain ⟨t, e⟩ := rx
      exact ⟨y, t, rfl, e⟩
  have ev : ∀ y, y ∈ its.toArray → MeetsSeq.EqGives y (.str z t) (PyProof.Rows.isStrOf z y) := fun y hy => by
    obtain ⟨m, hm⟩ := List.mem_iff_getElem?.mp (by simpa using hy)
    obtain ⟨y', t', _, rfl⟩ := at_ m y hm
    exact eqGives_str y' z t' t
  have hit : ∀ (m : Nat) (hm : m < its.toArray.size), ∃ y t, ys[m]? = some y ∧ its.toArray[m] = .str y t := fun m hm => at_ m _ (by simp)
  refine call_meets F.slot_list_remove ⟨_, e, rfl⟩ F.entry_list_remove (F.args_list_remove_2 _ _) (MeetsSeq.list_remove l its.toArray n (.str z t) (isStrOf z) ev (ys.idxOf z) (by rw [List.size_toArray, ← hl, List.length_map]; exact hj) ?_ ?_ (by rw [List.size_toArray]; omega)) ⟨e, ?_⟩
  · obtain ⟨y, t', h1, h2⟩ := hit (ys.idxOf z) (by rw [List.size_toArray, ← hl, List.length_map]; exact hj)
    rw [h2]
    have e3 : ys[ys.idxOf z]? = some z := by rw [List.getElem?_eq_getElem hj, List.getElem_idxOf hj]
    rw [e3] at h1; cases h1
    simp [isStrOf]
  · intro m hm hlt
    obtain ⟨y, t', h1, h2⟩ := hit m hm
    rw [h2]
    have e3 : (ys[m]'(by omega) == z) = false := List.not_of_lt_findIdx hlt
    rw [List.getElem?_eq_getElem (by omega)] at h1
    cases h1
    exact e3
  · refine ⟨.non, _, I.lset (its' := its.eraseIdx (ys.idxOf z)) hH e ?_ (ys := (ys.erase z).map V.str) ?_ ?_, rfl, q⟩
    · rw [List.eraseIdxIfInBounds_toArray]
    · have := r.eraseIdx (ys.idxOf z)
      have e5 : (ys.map V.str).eraseIdx (ys.idxOf z) = (ys.erase z).map V.str := by
        rw [erase_map, erase_at]
      rw [e5] at this
      exact this
    · have := List.length_erase_le (a := z) (l := ys)
      rw [List.length_map] at hs ⊢
      omega
end
section
variable {σ : St} {H : Hp} {Q : VK} {xs : List V} {x y : V}
theorem rd_dpop1 {td ty : TE} : tDPop1 td ty σ H Q = td σ H fun x H1 => ∃ a, x = .ref a ∧ IsD H1 a ∧ ty σ H1 fun y H2 => ∃ kvs k v, H2 a = some (.dK kvs) ∧ y = kV k ∧ valV kvs k = some v ∧ Q v (upd H2 a (.dK (dropK kvs k))) := rfl
theorem rd_dget2 {td ty tx : TE} : tDGet2 td ty tx σ H Q = td σ H fun x H1 => ∃ a, x = .ref a ∧ IsD H1 a ∧ ty σ H1 fun y H2 => tx σ H2 fun z H3 => ∃ o, DGet H3 a y o ∧ Q (o.getD z) H3 := rfl
theorem rd_listD : rListD xs H Q = ∃ a kvs, xs = [.ref a] ∧ H a = some (.dK kvs) ∧ ∀ l, H l = none → Q (.ref l) (upd H l (.lst (kvs.map fun p => kV p.1))) := rfl
theorem rd_values : rValues x xs H Q = ∃ a kvs, x = .ref a ∧ xs = [] ∧ H a = some (.dK kvs) ∧ ∀ v, H v = none → Q (.ref v) (upd H v (viewO v a)) := rfl
theorem rd_sumV : rSumV xs H Q = ∃ (v d : Addr) (kvs : List (Key × V)) (is : List Int), xs = [.ref v] ∧ H v = some (viewO v d) ∧ H d = some (.dK kvs) ∧ kvs.map (·.2) = is.map V.int ∧ Q (.int is.sum) H := rfl
theorem rd_remove : rRemove x xs H Q = ∃ (l : Addr) (ys : List Str) (z : Str), x = .ref l ∧ xs = [.str z] ∧ H l = some (.lst (ys.map V.str)) ∧ z ∈ ys ∧ Q .non (upd H l (.lst ((ys.erase z).map V.str))) := rfl
end
section
variable {i j : Int} {a b : Bool} {x y : Str}
end
end L2

set_option linter.all false
set_option maxHeartbeats 1000000
namespace L2
open PySem PySem.Spec PyProof.Rows N1 N5
section
variable {K : PySem.W.Frag} {tail : St} {te : Blk → TE} {Q : VK} {H1 : Hp}
noncomputable def OffLists (P : V → Hp → Prop) : Prop := ∀ y H H' l zs, P y H → H l = some (.lst zs) → SameBut l H H' → P y H'
theorem compR_mk {lo : Int} {n : Nat} (P : Nat → V → Hp → Prop) (hP : ∀ i, OffLists (P i)) (hz : n ≤ sizeLine) (he : ∀ b (i : Nat) H Q', i < n → Same H1 H → (∀ y H', Same H H' → P i y H' → Q' y H') → te b (some (.int (lo + i)) :: tail) H Q')
    (q : ∀ D ys H', H1 D = none → Same H1 H' → H' D = some (.lst ys) → ys.length = n → (∀ i y, ys[i]? = some y → P i y H') → Q (.ref D) H') : CompTail (none :: tail) (fun _ => gName 0) (fun _ => tYes) te Q (Itr lo n) H1 := by
  refine comp_by n (fun b D hD => ⟨fun i ys H => i ≤ n ∧ ys.length = i ∧ H D = some (.lst ys) ∧ Same H1 H ∧ ∀ j y, ys[j]? = some y → P j y H, ⟨Nat.zero_le _, rfl, upd_same, same_new hD, fun j y e => by simp at e⟩, ?_, ?_, ?_⟩)
  · rintro i ys H ⟨hi, _, h, _⟩
    exact h
  · rintro ys H ⟨_, hl, h, sm, hall⟩
    exact ⟨Nat.le_refl _, q D ys H hD sm h hl hall⟩
  · rintro i ys H hi ⟨_, hl, h, sm, hall⟩
    refine ⟨hi, fun x H3 ⟨e3, ex⟩ => ?_⟩
    subst e3 ex
    refine he b i _ _ hi sm fun y H4 sm4 py => ?_
    have h4 := sm4 _ _ h
    have sb : SameBut D H4 (upd H4 D (.lst (ys ++ [y]))) := sameBut_upd
    refine compNext h4 (by omega) hi ⟨hi, by rw [List.length_append, hl]; rfl, upd_same, fun c o e => ?_, fun j y' e => ?_⟩
    · rw [upd_ne (ne_of_none e hD)]; exact sm4 _ _ (sm _ _ e)
    · by_cases hj : j < ys.length
      · rw [List.getElem?_append_left hj] at e
        have := hall j y' e
        exact hP j _ _ _ _ _ this h fun c o e n => by rw [upd_ne n]; exact sm4 _ _ e
      · rw [List.getElem?_append_right (by omega)] at e
        have hj0 : j = i := by have := (List.getElem?_eq_some_iff.mp e).1; simp at this; omega
        subst hj0
        rw [show j - ys.length = 0 by omega] at e
        cases e
        exact hP j _ _ _ _ _ py h4 sb
end
end L2
namespace N4
open PySem PySem.Spec PyProof.Rows L2 N1 N5
noncomputable def sp_checkG (K : PySem.W.Frag) : Sp := fun vs H Q _ => ∃ (n co r : V) (e : Addr) (kvs : List (Key × V)) (ks : List Str), vs = [n, co, r, .ref e] ∧ H e = some (.dK kvs) ∧ kvs.map (·.1) = ks.map Sum.inr ∧ rowR ks n co r = none ∧ ∀ H', Same H H' → Q .non H'
noncomputable def sp_initG (K : PySem.W.Frag) (C : Addr) : Sp := fun vs H Q _ => ∃ (p dx ra : Addr) (rs : List Rw), vs = [.ref p, .ref ra] ∧ H p = some (.ins C dx []) ∧ SqL K H ra (rs.map fun t => V.ref t.1) ∧ (∀ t ∈ rs, SqT K H t.1 [t.2.1, t.2.2.1, t.2.2.2]) ∧ initR rs = none ∧
  ∀ H', SameBut p H H' → StockAt K C H' p (rs.map thOf) → Q .non H'
theorem initR_none {rs : List Rw} (h : initR rs = none) : rs.length ≤ 60 ∧ stockR [] rs = none := by
  unfold initR at h
  split at h
  · cases h
  · exact ⟨by omega, h⟩
theorem wIn_ok {lo hi c : Int} (h1 : lo ≤ c) (h2 : c ≤ hi) : wIn lo hi (.int c) = true := by
  show (decide (lo ≤ c) && decide (c ≤ hi)) = true
  rw [decide_eq_true h1, decide_eq_true h2]; rfl
theorem stockR_ok : ∀ (rs : List Rw) (ks : List Str), (∀ t ∈ rs, ∃ z c q, t.2.1 = .str z ∧ t.2.2.1 = .int c ∧ t.2.2.2 = .int q ∧ nameB z.cps.toList = true ∧ 0 ≤ c ∧ c ≤ 10 ^ 30 ∧ 1 ≤ q ∧ q ≤ 1000) → (ks ++ rs.map fun t => sOf t.2.1).Nodup → stockR ks rs = none
  | [], _, _, _ => rfl
  | t :: rs, ks, h, nd => by
    obtain ⟨z, c, q, e1, e2, e3, hn, h1, h2, h3, h4⟩ := h t (List.mem_cons_self ..)
    have hz : ¬ z ∈ ks := fun hz => by
      rw [List.map_cons, List.nodup_append] at nd
      exact nd.2.2 z hz (sOf t.2.1) (List.mem_cons_self ..) (by rw [e1]; rfl)
    have r0 : rowR ks t.2.1 t.2.2.1 t.2.2.2 = none := by
      unfold rowR
      rw [e1, e2, e3]
      rw [if_neg (by show ¬ nameB z.cps.toList = false; rw [hn]; decide), if_neg (show ¬ sOf (.str z) ∈ ks from hz), if_neg (by rw [wIn_ok h1 h2]; decide), if_neg (by rw [wIn_ok h3 h4]; decide)]
    unfold stockR
    rw [r0]
    refine stockR_ok rs _ (fun t' ht => h t' (List.mem_cons_of_mem _ ht)) ?_
    rw [List.append_assoc]
    exact nd
theorem valV_nth {kvs : List (Key × V)} {i : Nat} {k : Key} {v : V} (nd : (kvs.map (·.1)).Nodup) (e : kvs[i]? = some (k, v)) : valV kvs k = some v := by
  induction kvs generalizing i with
  | nil => rw [List.getElem?_nil] at e; cases e
  | cons p r ih =>
    cases i with
    | zero => cases e; exact valV_pos rfl
    | succ i =>
      rw [List.map_cons, List.nodup_cons] at nd
      have hm : (k, v) ∈ r := List.mem_of_getElem? e
      rw [valV_neg (fun z => nd.1 (by rw [z]; exact List.mem_map_of_mem (f := (·.1)) hm))]
      exact ih nd.2 e
theorem inr_nodup {ks : List Str} (h : ks.Nodup) : (ks.map (Sum.inr : Str → Key)).Nodup := by
  unfold List.Nodup at *
  rw [List.pairwise_map]
  exact h.imp fun n e => n (by injection e)
section
variable {K : PySem.W.Frag} {C : Addr} {H H' : Hp} {p : Addr} {ts : List Th} {z : Str}
theorem StockAt.has (h : StockAt K C H p ts) : ∃ dx d kvs, H p = some (.ins C dx (flds d)) ∧ H d = some (.dK kvs) ∧ (kvs.map fun q => kV q.1) = ts.map (fun t => V.str t.1) ∧ (∀ z, (valV kvs (Sum.inr z)).isSome = decide (z ∈ ts.map (·.1))) ∧
    ((ts.map (·.1)).Nodup → ∀ (i : Nat) (t : Th), ts[i]? = some t → ∃ a, valV kvs (Sum.inr t.1) = some (.ref a) ∧ SqT K H a [.int i, .int t.2.1, .int t.2.2]) := by
  obtain ⟨dx, d, kvs, h1, h2, h3, h4⟩ := h.ex
  have h3' : kvs.map (·.1) = (ts.map (·.1)).map Sum.inr := by rw [h3, List.map_map]; rfl
  refine ⟨dx, d, kvs, h1, h2, ?_, fun z => key_mem h3', fun nd i t e => ?_⟩
  · have := congrArg (List.map kV) h3
    rw [List.map_map, List.map_map] at this
    exact this
  · obtain ⟨a, e1, e2⟩ := h4 i t e
    exact ⟨a, valV_nth (by rw [h3']; exact inr_nodup nd) e1, e2⟩
end
noncomputable def pick (w : Nat) (i : Nat) (t : Th) : Int := if w = 0 then i else if w = 1 then t.2.1 else t.2.2
noncomputable def sp_nms (K : PySem.W.Frag) (C : Addr) : Sp := fun vs H Q _ => ∃ (p : Addr) (ts : List Th), vs = [.ref p] ∧ StockAt K C H p ts ∧ ∀ l, H l = none → Q (.ref l) (upd H l (.lst ((ts.map (·.1)).map V.str)))
theorem mem_nth {ts : List Th} {z : Str} (h : z ∈ ts.map (·.1)) : ∃ (i : Nat) (t : Th), ts[i]? = some t ∧ t.1 = z := by
  obtain ⟨t, ht, e⟩ := List.mem_map.mp h
  obtain ⟨i, hi⟩ := List.mem_iff_getElem?.mp ht
  exact ⟨i, t, hi, e⟩
end N4

set_option linter.all false
set_option maxHeartbeats 1000000
namespace N4
open PySem PySem.Spec PyProof.Rows L2 N1 N5
theorem md_two {j : Nat} : md j = 26 ∨ md j = 36 := by unfold md; split <;> simp
theorem bc_mod {x y : Int} {j : Nat} (h : bc (x % md j) = bc (y % md j)) : x % md j = y % md j := by
  rcases md_two (j := j) with hm | hm <;> rw [hm] at h ⊢
  · exact bc_inj (by omega) (by omega) (by omega) (by omega) h
  · exact bc_inj (by omega) (by omega) (by omega) (by omega) h
theorem tx_nodup {f : Nat → List Nat} {m : Nat} (h : ∀ a b, a < m → b < m → f a = f b → a = b) : ((List.range m).map fun k => tx (f k)).Nodup := by
  unfold List.Nodup
  rw [List.pairwise_map]
  refine List.Pairwise.imp_of_mem (R := fun a b => a ≠ b) ?_ List.nodup_range
  intro a b ha hb ne e
  exact ne (h a b (List.mem_range.mp ha) (List.mem_range.mp hb) (T_inj e))
structure RowsAt (K : PySem.W.Frag) (H : Hp) (r : Addr) (as : List Addr) (ts : List Th) : Prop where
  l : SqL K H r (as.map V.ref)
  n : as.length = ts.length
  m : ts.length ≤ 60
  at_ : ∀ (i : Nat) (a : Addr) (t : Th), as[i]? = some a → ts[i]? = some t → SqT K H a [.str t.1, .int t.2.1, .int t.2.2]
  ok : ∀ t ∈ ts, nameB t.1.cps.toList = true ∧ 0 ≤ t.2.1 ∧ t.2.1 ≤ 10 ^ 30 ∧ 1 ≤ t.2.2 ∧ t.2.2 ≤ 1000
  nd : (ts.map (·.1)).Nodup
noncomputable def rwOf (a : Addr) (t : Th) : Rw := (a, .str t.1, .int t.2.1, .int t.2.2)
theorem RowsAt.init {K : PySem.W.Frag} {H : Hp} {r : Addr} {as : List Addr} {ts : List Th} (h : RowsAt K H r as ts) : ∃ rs : List Rw, rs.map (fun t => V.ref t.1) = as.map V.ref ∧ (∀ t ∈ rs, SqT K H t.1 [t.2.1, t.2.2.1, t.2.2.2]) ∧ initR rs = none ∧ rs.map thOf = ts := by
  have hn := h.n
  have gt : ∀ (i : Nat) (x : Addr × Th), (as.zip ts)[i]? = some x → as[i]? = some x.1 ∧ ts[i]? = some x.2 := fun i x e => by
    rw [List.getElem?_zip_eq_some] at e; exact e
  have e1 : ((as.zip ts).map fun x => rwOf x.1 x.2).map thOf = ts := by
    rw [List.map_map]
    have : (thOf ∘ fun x : Addr × Th => rwOf x.1 x.2) = Prod.snd := by funext x; rfl
    rw [this, List.map_snd_zip (by omega)]
  refine ⟨(as.zip ts).map fun x => rwOf x.1 x.2, ?_, ?_, ?_, e1⟩
  · rw [List.map_map]
    have : ((fun t : Rw => V.ref t.1) ∘ fun x : Addr × Th => rwOf x.1 x.2) = V.ref ∘ Prod.fst := by funext x; rfl
    rw [this, ← List.map_map, List.map_fst_zip (by omega)]
  · intro t ht
    obtain ⟨x, hx, rfl⟩ := List.mem_map.mp ht
    obtain ⟨i, hi⟩ := List.mem_iff_getElem?.mp hx
    obtain ⟨h1, h2⟩ := gt i x hi
    exact h.at_ i x.1 x.2 h1 h2
  · unfold initR
    rw [if_neg (by rw [List.length_map, List.length_zip]; have := h.m; omega)]
    refine stockR_ok _ _ (fun t ht => ?_) ?_
    · obtain ⟨x, hx, rfl⟩ := List.mem_map.mp ht
      obtain ⟨i, hi⟩ := List.mem_iff_getElem?.mp hx
      obtain ⟨h1, h2⟩ := gt i x hi
      obtain ⟨o1, o2, o3, o4, o5⟩ := h.ok x.2 (List.mem_of_getElem? h2)
      exact ⟨x.2.1, x.2.2.1, x.2.2.2, rfl, rfl, rfl, o1, o2, o3, o4, o5⟩
    · rw [List.nil_append, List.map_map]
      have : ((fun t : Rw => sOf t.2.1) ∘ fun x : Addr × Th => rwOf x.1 x.2) = (fun t : Th => t.1) ∘ Prod.snd := by funext x; rfl
      rw [this, ← List.map_map, List.map_snd_zip (by omega)]
      exact h.nd
end N4

set_option linter.all false
set_option maxHeartbeats 1000000
namespace N6
open PySem PySem.Spec PyProof.Rows L2 N1 N5 N4
noncomputable def sfl (p d : Addr) (n : Int) : List (Str × V) := putF "rooms" (.ref d) (putF "places" (.int n) (putF "stock" (.ref p) []))
noncomputable abbrev Ly := List (Str × Int)
noncomputable def lyK (ls : Ly) : List (Key × V) := ls.map fun x => (Sum.inr x.1, .int x.2)
noncomputable def lyN (ls : Ly) : List Str := ls.map (·.1)
structure ShelfAt (S : Addr) (H : Hp) (q p d : Addr) (n : Int) (ls : Ly) : Prop where
  o : ∃ dx, H q = some (.ins S dx (sfl p d n))
  d : H d = some (.dK (lyK ls))
  nd : (lyN ls).Nodup
structure StockX (K : PySem.W.Frag) (C : Addr) (H : Hp) (p : Addr) (ts : List Th) (d : Addr) : Prop where
  ex : ∃ (dx e : Addr) (kvs : List (Key × V)), e ≠ d ∧ H p = some (.ins C dx (flds e)) ∧ H e = some (.dK kvs) ∧ kvs.map (·.1) = ts.map (fun t => Sum.inr t.1) ∧
    ∀ (i : Nat) (t : Th), ts[i]? = some t → ∃ a, kvs[i]? = some (Sum.inr t.1, .ref a) ∧ SqT K H a [.int i, .int t.2.1, .int t.2.2]
section
variable {K : PySem.W.Frag} {C S : Addr} {H H' : Hp} {p q d : Addr} {ts : List Th} {n : Int} {ls : Ly} {z : Str}
theorem SqL.butD {a : Addr} {xs : List V} {kvs : List (Key × V)} (s : SameBut d H H') (hd : H d = some (.dK kvs)) (h : SqL K H a xs) : SqL K H' a xs := by
  rcases h with (h | ⟨o, h⟩) | h
  · exact .inl (.inl (s _ _ h (ne_of h hd (by intro z; cases z))))
  · exact .inl (.inr ⟨o, s _ _ h (ne_of h hd (by intro z; cases z))⟩)
  · exact .inr h
end
noncomputable def sp_placesG : Sp := fun vs H Q _ => ∃ n : Int, vs = [.int n] ∧ 1 ≤ n ∧ n ≤ 1000000 ∧ Q .non H
end N6

set_option linter.all false
set_option maxHeartbeats 1000000
namespace N6
open PySem PySem.Spec PyProof.Rows L2 N1 N5 N4
theorem inV_strs {z : Str} {ys : List Str} : inV (.str z) (ys.map V.str) = decide (z ∈ ys) := by
  unfold inV
  induction ys with
  | nil => rfl
  | cons y ys ih =>
    rw [List.map_cons, List.any_cons, ih, eqV_str]
    by_cases h : y = z
    · subst h; simp
    · have h' : ¬ z = y := fun e => h e.symm
      simp [h, h']
theorem in_go {K : PySem.W.Frag} {H : Hp} {p : Addr} {z : Str} {ys : List Str} {Q : VK} (h : SqL K H p (ys.map V.str)) (q : Q (.bl (decide (z ∈ ys))) H) : rIn K false (.str z) (.ref p) H Q := by
  refine ⟨p, _, rfl, .inl h, rfl, all_strs, ?_⟩
  rw [if_neg (by decide), inV_strs]
  exact q
theorem both_app : Str.ofString "abcdefghijklmnopqrstuvwxyz" ++ Str.ofString "0123456789" = Str.ofString "abcdefghijklmnopqrstuvwxyz0123456789" := by decide +kernel
theorem ix_let (i : Int) : atI (Str.ofString "abcdefghijklmnopqrstuvwxyz").cps.toList (i % 26) = some (bc (i % 26)) := by
  have h2 := Int.emod_lt_of_pos i (show (0 : Int) < 26 by decide)
  have h3 := Int.emod_nonneg i (show (26 : Int) ≠ 0 by decide)
  refine atI_of h3 ?_
  have hl : letters.length = 26 := by decide
  have h4 : (i % 26).toNat < letters.length := by rw [hl]; omega
  unfold bc
  rw [let_list, List.getD_eq_getElem?_getD, List.getElem?_append_left h4, List.getElem?_eq_getElem h4]
  rfl
theorem bc_fig {k : Int} (h0 : 0 ≤ k) (h1 : k < 10) : bc (26 + k) ∈ letters ++ figures := by
  have := bc_both (i := 26 + k)
  rwa [Int.emod_eq_of_lt (by omega) (by omega)] at this
theorem name_more {l : List Nat} {c : Nat} (h : nameB l = true) (hl : l.length < 8) (hc : c ∈ letters ++ figures) : nameB (l ++ [c]) = true := by
  unfold nameB at h ⊢
  simp only [Bool.and_eq_true, decide_eq_true_eq, List.all_eq_true] at h ⊢
  obtain ⟨⟨⟨h1, h2⟩, h3⟩, h4⟩ := h
  refine ⟨⟨⟨by simp, by simp; omega⟩, ?_⟩, fun x hx => ?_⟩
  · cases l with
    | nil => simp at h1
    | cons a r => exact h3
  · rcases List.mem_append.mp hx with hx | hx
    · exact h4 x hx
    · rw [List.mem_singleton.mp hx]; exact hc
theorem nmL_len {F : Nat → Int} {at' : Int} {long k : Nat} : (nmL F at' long k).length = long := by simp [nmL]
theorem nmL_near {F : Nat → Int} {at' : Int} {long k k' : Nat} (h0 : 0 ≤ at') (h1 : at' < long) (hk : k < k' + 26) (hk' : k' < k + 26) (h : nmL F at' long k = nmL F at' long k') : k = k' := by
  have hl : at'.toNat < long := by omega
  have e := congrArg (fun l => l[at'.toNat]?) h
  simp only [nmL, List.getElem?_map, List.getElem?_range hl, Option.map_some, Option.some.injEq] at e
  unfold sgn at e
  rw [if_pos (by omega), if_pos (by omega)] at e
  have e2 := bc_mod e
  rcases md_two (j := at'.toNat) with hm | hm <;> rw [hm] at e2 <;> omega
theorem nmL_succ {F : Nat → Int} {at' : Int} {j k : Nat} : nmL F at' (j + 1) k = nmL F at' j k ++ [sgn F at' k j] := by
  unfold nmL
  rw [List.range_succ, List.map_append]
  rfl
noncomputable def nm3 (F : Nat → Int) (at' : Int) (long k : Nat) : List Nat := nmL F at' long k ++ if 25 < k then [bc (26 + (k : Int) / 26)] else []
theorem nm3_name {F : Nat → Int} {at' : Int} {long k : Nat} (h1 : 1 ≤ long) (h2 : long ≤ 8) (h3 : 25 < k → long ≤ 7) (hk : k < 61) : nameB (nm3 F at' long k) = true := by
  unfold nm3
  split
  · rename_i h
    exact name_more (nmL_name h1 h2) (by rw [nmL_len]; have := h3 h; omega) (bc_fig (by omega) (by omega))
  · rw [List.append_nil]; exact nmL_name h1 h2
theorem nm3_inj {F : Nat → Int} {at' : Int} {long k k' : Nat} (h0 : 0 ≤ at') (h1 : at' < long) (hk : k < 61) (hk' : k' < 61) (h : nm3 F at' long k = nm3 F at' long k') : k = k' := by
  have hl := congrArg List.length h
  unfold nm3 at h hl
  rw [List.length_append, List.length_append, nmL_len, nmL_len] at hl
  obtain ⟨e1, e2⟩ := List.append_inj h (by rw [nmL_len, nmL_len])
  by_cases c1 : 25 < k
  · by_cases c2 : 25 < k'
    · rw [if_pos c1, if_pos c2] at e2
      injection e2 with e3
      have e4 := bc_inj (by omega) (by omega) (by omega) (by omega) e3
      exact nmL_near h0 h1 (by omega) (by omega) e1
    · rw [if_pos c1, if_neg c2] at hl; simp at hl
  · by_cases c2 : 25 < k'
    · rw [if_neg c1, if_pos c2] at hl; simp at hl
    · exact nmL_near h0 h1 (by omega) (by omega) e1
theorem getD_str {ys : List Str} {i : Nat} (h : i < ys.length) : ys[i]? = some (ys.getD i Str.empty) := by
  rw [List.getD_eq_getElem?_getD, List.getElem?_eq_getElem h]; rfl
theorem getD_int {rs : List Int} {i : Nat} (h : i < rs.length) : rs[i]? = some (rs.getD i 0) := by
  rw [List.getD_eq_getElem?_getD, List.getElem?_eq_getElem h]; rfl
noncomputable def aOf : V → Addr
  | .ref a => a
  | _ => 0
end N6

set_option Elab.async false
set_option linter.all false
set_option maxHeartbeats 1000000
namespace N6
open PySem PySem.Spec PyProof.Rows L2 N1 N5 N4
noncomputable def sp_thingG (K : PySem.W.Frag) (C : Addr) : Sp := fun vs H Q _ => ∃ (p : Addr) (ts : List Th) (z : Str), vs = [.ref p, .str z] ∧ StockAt K C H p ts ∧ (ts.map (·.1)).Nodup ∧ z ∈ ts.map (·.1) ∧ ∀ (i : Nat) (t : Th), ts[i]? = some t → t.1 = z → ∀ a, SqT K H a [.int i, .int t.2.1, .int t.2.2] → Q (.ref a) H
noncomputable def sp_roomG (K : PySem.W.Frag) (C : Addr) : Sp := fun vs H Q _ => ∃ (p : Addr) (ts : List Th) (z : Str), vs = [.ref p, .str z] ∧ StockAt K C H p ts ∧ (ts.map (·.1)).Nodup ∧ z ∈ ts.map (·.1) ∧ ∀ (i : Nat) (t : Th), ts[i]? = some t → t.1 = z → Q (.int t.2.2) H
end N6

set_option Elab.async false
set_option linter.all false
set_option maxRecDepth 100000
set_option maxHeartbeats 4000000
namespace L2
open PySem PySem.Spec PyProof.Rows

theorem Inv.turned2 {X : Cx} {pins : List (Addr × Obj)} {σ : St} {H : Hp} {s : Shared} {h' : Heap} {t' : Nat} {fp : List Addr} (I : Inv X pins σ H s) (k : ∀ b o, b ∉ fp → s.heap.get? b = some o → h'.get? b = some o) (hf : ∀ it ∈ fp, FpOk X pins H it) :
    Inv X pins σ H { s with heap := h', toks := t' } := by
  have nit : ∀ b u, H b = some u → b ∉ fp := fun b u e z => by rw [(hf b z).1] at e; cases e
  refine I.step (g' := s.gens) (d' := s.drawn) (ch := fp) (fun b hb => ?_) (fun b o _ _ hc e _ => k b o hc e) (fun b o _ _ hc e _ => ⟨o.slots, k b o hc e⟩) (fun _ _ _ _ n => n)
    (fun b o hc e => ⟨o, k b o hc e⟩) (fun _ _ e => e) (fun _ _ _ e => e) (fun b ps e => ⟨#[], by rw [e]; simp⟩) (fun m hm => ?_) (fun b u e => ?_) I.bare
  · obtain ⟨_, h1, _, h2, h3, h4⟩ := hf b hb
    exact ⟨h2, h1, h3, h4⟩
  · obtain ⟨o, es, ep, ho, r⟩ := hm
    exact ⟨o, es, ep, k _ o (fun z => (hf _ z).2.1 rfl) ho, r⟩
  · refine (I.hok b u e).stay (fun c v hc q => k c v ?_ q) (fun _ q => q) fun _ _ q => q
    rcases hc with z | z
    · rw [z]; exact nit b u e
    · exact nit c _ z
noncomputable def Ite (K : PySem.W.Frag) (a : Addr) : It :=
  ⟨fun i H => ∃ xs x, SqL K H a xs ∧ xs[i]? = some x, fun i H y H' => ∃ t x, y = .ref t ∧ H t = none ∧ H' = upd H t (.tup [.int i, x]) ∧ ∀ xs, SqL K H a xs → xs[i]? = some x, fun i H => ∃ xs, SqL K H a xs ∧ xs.length ≤ i⟩
noncomputable def tnE (e it a : Addr) (i : Nat) (h : Heap) : Prop := (∃ old, IsEnum h e it i old) ∧ h.IsListIter it a i
theorem turn_enum {P : Program} {w : World} {K : PySem.W.Frag} {es : List Expr} {k : Nat} {pos : Pos} (a e it : Addr) (ne : e ≠ it) : Turn P w K (.Tuple es k pos) (Ite K a) [e, it] e (tnE e it a) where
  mem := by simp
  obj := fun i h st b hb => by
    obtain ⟨⟨old, h1⟩, o, h2, c, d⟩ := st
    have hb : b = e ∨ b = it := by simpa using hb
    rcases hb with rfl | rfl
    · exact ⟨_, h1, fun v z => by cases z⟩
    · exact ⟨o, h2, fun v z => by rw [d] at z; cases z⟩
  keep := fun i h h' st kk => by
    obtain ⟨⟨old, h1⟩, h2⟩ := st
    exact ⟨⟨old, kk e (by simp) _ h1⟩, h2.at fun o q => kk it (by simp) o q⟩
  item := by
    intro X hP hw hK hc i pins s σ H E I hf st hg
    subst hP hw hK
    obtain ⟨xs, x, hq, hx⟩ := hg
    obtain ⟨its, rv, p, hz⟩ := I.list hq
    obtain ⟨u, hu, ru⟩ := rv.get hx
    obtain ⟨⟨old, h1⟩, h2⟩ := st
    have hlt : e < s.heap.objs.size := Heap.lt_size h1
    have hit : it < s.heap.objs.size := by obtain ⟨o, q, _⟩ := id h2; exact Heap.lt_size q
    refine wpAny_pyNext_enum_item h1 h2 p.isList (x := u) (by simpa using hu) ne fun h' eo it' ht hs hk => ?_
    refine ⟨_, rfl, wpAny_letOwnedTupleGo_enum (s := { s with heap := h', toks := s.toks + 1 }) eo fun h3 e3 sb => ?_⟩
    have hf0 : H s.heap.objs.size = none := I.hok.fresh (Nat.le_refl _)
    have nt : ∀ b ∈ [e, it], b ≠ s.heap.objs.size := fun b hb => by
      have hb : b = e ∨ b = it := by simpa using hb
      rcases hb with rfl | rfl
      · exact Nat.ne_of_lt hlt
      · exact Nat.ne_of_lt hit
    have I0 : Inv X pins σ (upd H s.heap.objs.size (.tup [.int i, x])) { s with heap := s.heap.push { cls := .type "tuple", data := .seq #[.int i s.toks, u] }, toks := s.toks + 1 } :=
      I.laid (fun b u e => Heap.get?_push_of_some _ e) (Nat.le_refl _) ⟨by simp [sizeLine]; try decide, [.int i s.toks, u], .cons ⟨_, rfl⟩ (.cons ru .nil), ⟨_, Heap.get?_push_size _ rfl, rfl, _, rfl⟩⟩
    have hfp : ∀ b ∈ [e, it], FpOk X pins (upd H s.heap.objs.size (.tup [.int i, x])) b := fun b hb => by
      obtain ⟨f0, f1, f2, f3, f4, f5⟩ := hf b hb
      exact ⟨by rw [upd_ne (nt b hb)]; exact f0, f1, f2, f3, f4, f5⟩
    have I1 : Inv X pins σ (upd H s.heap.objs.size (.tup [.int i, x])) { s with heap := h3, toks := s.toks + 1 } := by
      refine Inv.turned2 (s := { s with heap := s.heap.push { cls := .type "tuple", data := .seq #[.int i s.toks, u] }, toks := s.toks + 1 }) (t' := s.toks + 1) I0 (fun b o hb q => ?_) hfp
      have hb' : b ≠ e ∧ b ≠ it := by simpa using hb
      refine (sb.2 b hb'.1).trans ?_
      rcases Heap.get?_push_cases q with ⟨rfl, rfl⟩ | q2
      · exact ht
      · exact hk b o hb'.1 hb'.2 q2
    refine ⟨.ref s.heap.objs.size, upd H s.heap.objs.size (.tup [.int i, x]), I1, rfl, ⟨_, x, rfl, hf0, rfl, fun ys hy => by rw [I.list_inj hy hq]; exact hx⟩, ⟨⟨u, ?_⟩, ?_⟩, fun b hb => (hfp b hb).1⟩
    · show IsEnum h3 e it ((i + 1 : Nat) : Int) u
      rw [show ((i + 1 : Nat) : Int) = (i : Int) + 1 from rfl]
      exact e3
    · exact it'.at fun o q => (sb.2 it (Ne.symm ne)).trans q
  done := by
    intro X hP hw hK hc i pins s σ H E I hf st hg
    subst hP hw hK
    obtain ⟨xs, hq, hx⟩ := hg
    obtain ⟨its, rv, p, hz⟩ := I.list hq
    obtain ⟨⟨old, h1⟩, h2⟩ := st
    have hl := rv.length
    exact wpAny_pyNext_enum_end (I.ok.hd hc) h1 h2 p.isList (by simp; omega) fun h' eb => ⟨rfl, Inv.turned2 (t' := s.toks) I (fun b o hb q => eb b o (fun z => hb (by simp [z])) q) hf⟩
  self := fun _ _ _ _ _ st h => wpAny_pyIter_enum st.1.choose_spec h
section
variable {X : Cx}
noncomputable def iEnum (K : PySem.W.Frag) (ta : TA) : TI := fun σ H R => ta σ H fun vs H1 => ∃ a, vs = [.ref a] ∧ (∃ xs, SqL K H1 a xs) ∧ R (Ite K a) H1
theorem pi_enum {l : Expr} {ta : TA} {p pos pp : Pos} {es : List Expr} {k : Nat} (hg : Gl X "enumerate") (hm : X.mg "enumerate" = none) (ha : PA X [l] ta) (hs : starEach [l] X.env = [(false, eval l X.env)] := by rfl) : PI X (.Tuple es k pp) (.Call (.Name "enumerate" p) [l] [] pos) (iEnum X.K ta) := by
  intro pins s σ H R I h
  refine Call_ (ld_blt I hg hm boot_enumerate (PyProof.Rows.callWith_type1 (thn (ha pos pins s σ H _ I h) fun us s1 ⟨vs, H1, I1, r1, q1⟩ => ?_) hs rfl))
  obtain ⟨a, e, ⟨xs, hq⟩, q⟩ := q1
  subst e
  cases r1 with
  | cons r rr =>
    cases rr
    cases r
    obtain ⟨its, rv, p', hz⟩ := I1.list hq
    refine call_enumerate_list p'.isList fun h' h1 h2 h3 h4 => ?_
    refine wpAny_pyIter_enum h1 ?_
    refine ⟨_, [s1.heap.objs.size + 1, s1.heap.objs.size], _, _, H1, rfl, I1.kept (t' := s1.toks) h4, turn_enum a _ _ (Nat.succ_ne_self _), ⟨⟨_, h1⟩, h2⟩, fun b hb => ?_, q⟩
    have hb : b = s1.heap.objs.size + 1 ∨ b = s1.heap.objs.size := by simpa using hb
    rcases hb with rfl | rfl
    · exact I1.fpOk (Nat.le_succ _) (I1.hok.fresh (Nat.le_succ _))
    · exact I1.fpOk (Nat.le_refl _) (I1.hok.fresh (Nat.le_refl _))
end
section
variable {K : PySem.W.Frag} {σ : St} {H : Hp} {D : Ends}
theorem rd_ienum {ta : TA} {R : It → Hp → Prop} : iEnum K ta σ H R = ta σ H fun vs H1 => ∃ a, vs = [.ref a] ∧ (∃ xs, SqL K H1 a xs) ∧ R (Ite K a) H1 := rfl
theorem forE_by {a : Addr} {xs : List V} {g : TG} {tb : TS} (Pv : Nat → St → Hp → Prop) (h0 : Pv 0 σ H) (hl : ∀ i σ H, i ≤ xs.length → Pv i σ H → SqL K H a xs)
    (hs : ∀ i x σ H t, xs[i]? = some x → Pv i σ H → H t = none → g (.ref t) σ (upd H t (.tup [.int i, x])) fun σ2 H2 => tb { D with nx := Pv (i + 1), ct := Pv (i + 1), bk := D.nx } σ2 H2) (hd : ∀ σ H, Pv xs.length σ H → D.nx σ H) : ForTail g tb D σ (Ite K a) H := by
  refine ⟨fun i m σ H => i ≤ xs.length ∧ m = xs.length - i ∧ Pv i σ H, ⟨_, Nat.zero_le _, rfl, h0⟩, fun i m σ H ⟨hi, hm, hP⟩ => ?_⟩
  have hq := hl i σ H hi hP
  cases hx : xs[i]? with
  | none =>
    have hn : xs.length ≤ i := by simpa using hx
    have e : i = xs.length := Nat.le_antisymm hi hn
    subst e
    exact .inl ⟨⟨xs, hq, Nat.le_refl _⟩, hd σ H hP⟩
  | some x =>
    have hlt : i < xs.length := (List.getElem?_eq_some_iff.mp hx).1
    refine .inr ⟨⟨xs, x, hq, hx⟩, Pv (i + 1), fun σ' H' h => ⟨xs.length - (i + 1), by omega, by omega, rfl, h⟩, ?_⟩
    rintro y H' ⟨t, x', rfl, ht, rfl, hy⟩
    have e := (hy xs hq).symm.trans hx
    cases e
    exact hs i x σ H t hx hP ht
end
end L2

set_option Elab.async false
set_option linter.all false
set_option maxRecDepth 100000
set_option maxHeartbeats 4000000
namespace L2
open PySem PySem.Spec PyProof.Rows
section
variable {X : Cx}
end
section
variable {K : PySem.W.Frag} {σ : St} {H : Hp} {D : Ends}
end
end L2

set_option Elab.async false
set_option linter.all false
set_option maxRecDepth 100000
set_option maxHeartbeats 4000000
namespace L2
open PySem PySem.Spec PyProof.Rows
noncomputable abbrev tComp1I (wi : TI) (fs : List Nat) (tt : Blk → TT) (te : Blk → TE) : TE := tComp wi 1 fs (fun _ => gName 0) tt te
noncomputable abbrev g2 (K : PySem.W.Frag) : Blk → TG := fun _ => gTup K 2 (gCons (gName 0) (gCons (gName 1) gNil))
section
variable {X : Cx} {scope : Scope} {x y : Str} {px py pt : Pos} {n : Nat} {fs : List Nat} {elt iter c : Expr} {pos : Pos} {wi : TI} {tt : Blk → TT} {te : Blk → TE}
theorem pe_compI (x : Str) (fs : List Nat) (hc : X.calm = true) (hok : compOkB X.N X.env.scope scope [x] fs = true) (hi : PI X (.Name x px) iter wi) (ht : ∀ b, PT (X.blk scope ([x] ++ around X.N fs) b) c (tt b)) (he : ∀ b, PE (X.blk scope ([x] ++ around X.N fs) b) elt (te b))
    (hs : ∀ x, foldedSetIterable iter X.env x = pure x := by intro _; rfl) : PE X (.ListComp elt [⟨.Name x px, iter, [c], 0⟩] scope pos) (tComp1I wi fs tt te) :=
  pe_compG (xs := [x]) (g := fun _ => gName 0) (tt := tt) hc hok hi (pg_own hok) (fun b => pts_one (ht b)) he hs
end
section
variable {K : PySem.W.Frag} {tail : St} {tt : Blk → TT} {te : Blk → TE} {Q : VK} {H1 : Hp} {σ : St} {H : Hp}
theorem rd_compI {wi : TI} {fs : List Nat} : tComp1I wi fs tt te σ H Q = wi σ H (CompTail (none :: fs.map fun j => σ.getD j none) (fun _ => gName 0) tt te Q) := rfl
theorem same_put {H H' : Hp} {p : Addr} {o : HO} (s : Same H H') (h : H p = none) : Same H (upd H' p o) := fun b u e => by
  rw [upd_ne (ne_of_none e h)]; exact s b u e
theorem compL_if {a : Addr} {xs : List V} (p : V → Bool) (f : V → V) (hS : SqL K H1 a xs) (hz : xs.length ≤ sizeLine) (ht : ∀ b x H QT, x ∈ xs → Same H1 H → (∀ H', Same H H' → QT (p x) H') → tt b (some x :: tail) H QT)
    (he : ∀ b x H Q', x ∈ xs → p x = true → Same H1 H → (∀ H', Same H H' → Q' (f x) H') → te b (some x :: tail) H Q')
    (q : ∀ D H', H1 D = none → Same H1 H' → H' D = some (.lst ((xs.filter p).map f)) → Q (.ref D) H') : CompTail (none :: tail) (fun _ => gName 0) tt te Q (Itl K a) H1 := by
  intro b D hD
  refine ⟨fun i m ys H => m = xs.length - i ∧ i ≤ xs.length ∧ ys = ((xs.take i).filter p).map f ∧ H D = some (.lst ys) ∧ Same H1 H, ⟨_, rfl, Nat.zero_le _, rfl, upd_same, same_new hD⟩, ?_⟩
  rintro i m ys H ⟨rfl, hi, rfl, hd, sm⟩
  refine ⟨hd, ?_⟩
  by_cases hlt : i < xs.length
  · refine .inr ⟨⟨xs, xs[i], sm.seq hS, by simp [hlt]⟩, fun x H3 ⟨e3, ex⟩ => ⟨kept0, ?_⟩⟩
    subst e3
    have hx := ex xs (sm.seq hS)
    have hm := List.mem_of_getElem? hx
    have hl : (((xs.take i).filter p).map f).length ≤ i := by
      rw [List.length_map]; exact Nat.le_trans (List.length_filter_le _ _) (by rw [List.length_take]; omega)
    refine ht b x _ _ hm sm fun H7 s7 => ?_
    have htk : (xs.take (i + 1)).filter p = (xs.take i).filter p ++ [x].filter p := by rw [List.take_add_one, hx, List.filter_append]; rfl
    by_cases hp : p x = true
    · rw [if_pos hp]
      refine he b x H7 _ hm hp (sm.trans s7) fun H8 s8 => ?_
      have hd8 := (s7.trans s8) _ _ hd
      refine ⟨hd8, by omega, xs.length - (i + 1), by omega, rfl, hlt, ?_, upd_same, same_put ((sm.trans s7).trans s8) hD⟩
      rw [htk, List.filter_cons_of_pos hp, List.filter_nil, List.map_append]; rfl
    · rw [if_neg hp]
      refine ⟨xs.length - (i + 1), by omega, rfl, hlt, ?_, s7 _ _ hd, sm.trans s7⟩
      rw [htk, List.filter_cons_of_neg hp, List.filter_nil, List.append_nil]
  · have e : i = xs.length := by omega
    subst e
    refine .inl ⟨⟨xs, sm.seq hS, Nat.le_refl _⟩, q D H hD sm ?_⟩
    rw [hd, List.take_length]
end
end L2
namespace L2
open PySem PySem.Spec PyProof.Rows
section
variable {X : Cx}
noncomputable def rInsert0 : V → List V → Hp → VK → Prop := fun x vs H Q => ∃ l xs y, x = .ref l ∧ vs = [.int 0, y] ∧ H l = some (.lst xs) ∧ xs.length < sizeLine ∧ Q .non (upd H l (.lst (y :: xs)))
theorem mt_insert : MtM X "list.insert" rInsert0 := by
  intro pins s σ H x vs v us Q I rx rv h
  obtain ⟨l, xs, y, rfl, rfl, hH, hz, q⟩ := h
  cases rx
  cases rv with
  | cons r0 rr =>
    obtain ⟨t0, rfl⟩ := r0
    obtain ⟨u, rfl, ru⟩ := Vals.one rr
    obtain ⟨z, its, n, r, hl, e⟩ := I.lstM hH
    refine call_meets F.slot_list_insert ⟨_, e, rfl⟩ F.entry_list_insert (F.args_list_insert_3 _ _ _) (AutoSeq1.list_insert_list_int_val_1 l its.toArray n 0 t0 u (by decide) (by rw [List.size_toArray]; omega)) ⟨e, ?_⟩
    refine ⟨.non, _, I.lset (its' := u :: its) hH e ?_ (.cons ru r) ?_, rfl, q⟩
    · simp
    · rw [List.length_cons]; omega
theorem rd_insert {x : V} {vs : List V} {H : Hp} {Q : VK} : rInsert0 x vs H Q = ∃ l xs y, x = .ref l ∧ vs = [.int 0, y] ∧ H l = some (.lst xs) ∧ xs.length < sizeLine ∧ Q .non (upd H l (.lst (y :: xs))) := rfl
end
end L2
namespace L2
open PySem PySem.Spec PyProof.Rows
section
variable {X : Cx} {scope : Scope} {x y v : Str} {px py pt pv' : Pos} {n i : Nat} {fs : List Nat} {elt iter c : Expr} {pos spos : Pos} {wi : TI} {tt : Blk → TT} {te : Blk → TE}
theorem ps_compI (x : Str) (fs : List Nat) (hN : X.N.Nodup) (hy : X.N[i]? = some v) (hyl : X.env.kindOf v = some .local) (hc : X.calm = true) (hok : compOkB X.N X.env.scope scope [x] fs = true) (hi : PI X (.Name x px) iter wi) (ht : ∀ b, PT (X.blk scope ([x] ++ around X.N fs) b) c (tt b)) (he : ∀ b, PE (X.blk scope ([x] ++ around X.N fs) b) elt (te b))
    (hsw : swapsWith (.ListComp elt [⟨.Name x px, iter, [c], 0⟩] scope pos) (some (.Name v pv')) spos.line X.env = pure true := by rfl)
    (hs : ∀ x, foldedSetIterable iter X.env x = pure x := by intro _; rfl) : PS X (.Assign [.Name v pv'] (.ListComp elt [⟨.Name x px, iter, [c], 0⟩] scope pos) spos) (tAsg (tComp1I wi fs tt te) (gName i)) :=
  ps_comp (xs := [x]) (g := fun _ => gName 0) (tt := tt) hN hy hyl hc hok hi (pg_own hok) (fun b => pts_one (ht b)) he hsw hs
end
end L2

set_option Elab.async false
set_option linter.all false
set_option maxRecDepth 100000
set_option maxHeartbeats 4000000
namespace L2
open PySem PySem.Spec PyProof.Rows
section
variable {X : Cx}
end
section
variable {K : PySem.W.Frag} {tail : St} {te : Blk → TE} {Q : VK} {H1 : Hp} {σ : St} {H : Hp}
end
end L2

set_option Elab.async false
set_option linter.all false
set_option maxRecDepth 100000
set_option maxHeartbeats 4000000
namespace L2
open PySem PySem.Spec PyProof.Rows

section
variable {M : Model} {A : Around} {E : Value → Shared → Prop} {s : Shared} {base : Heap} {env : Env} {outer l : List Env} {L e : Addr} {cls a0 fl : Value}
end

section
variable {X : Cx} {pins : List (Addr × Obj)} {σ : St} {scope : Scope} {xs : List Str} {fs : List Nat} {elt tg iter : Expr} {ifs : List Expr} {pos : Pos} {wi : TI} {g : Blk → TG} {tt : Blk → TT} {te : Blk → TE}
end
end L2

set_option linter.all false
set_option maxHeartbeats 1000000
namespace N08
open PySem PySem.Builtin PySem.Builtin.Str PySem.StrLaws
section
variable (x y : Str)
end
open PySem.NumText
end N08

namespace L2
open PySem PySem.Spec PyProof.Rows N1 N5
theorem eqV_self {x : V} (h : flatV x = true) : eqV x x = true := by
  cases x with
  | non => rfl
  | bl b => cases b <;> rfl
  | int i => exact beq_self_eq_true i
  | str z => rw [eqV_str]; simp
  | _ => cases h
section
variable {X : Cx}
end
section
variable {K : PySem.W.Frag} {tail : St} {te : Blk → TE} {Q : VK} {H1 : Hp}
end
section
variable {K : PySem.W.Frag} {tail : St} {te : Blk → TE} {Q : VK} {H1 : Hp}
end
section
variable {K : PySem.W.Frag} {H : Hp} {Q : VK} {xs : List V} {x y : V}
end
end L2
namespace N8
open PySem PySem.Spec PyProof.Rows L2 N1 N5 N08
inductive Pc where
  | line | num | ok (t : Th)
inductive R8 where
  | line | num | st (e : StE) | ok (ts : List Th)
noncomputable def rwOf (a : Addr) (t : Th) : Rw := (a, .str t.1, .int t.2.1, .int t.2.2)
end N8
namespace N8
open PySem PySem.Spec PyProof.Rows L2 N1 N5 N08
section
variable {K : PySem.W.Frag} {C : Addr} {H H' : Hp} {p : Addr} {ts : List Th} {z : Str}
end
end N8
namespace L2
open PySem PySem.Spec PyProof.Rows
noncomputable abbrev g3 (K : PySem.W.Frag) : Blk → TG := fun _ => gTup K 3 (gCons (gName 0) (gCons (gName 1) (gCons (gName 2) gNil)))
section
variable {X : Cx} {scope : Scope} {x y z : Str} {px py pz pt : Pos} {n : Nat} {fs : List Nat} {elt iter : Expr} {pos : Pos} {wi : TI} {te : Blk → TE}
end
section
variable {K : PySem.W.Frag} {tail : St} {te : Blk → TE} {Q : VK} {H1 : Hp} {σ : St} {H : Hp}
end
end L2
namespace N8
open PySem PySem.Spec PyProof.Rows L2 N1 N5 N08
open PySem.Builtin.Str (strSub strKind)
end N8
namespace N8
open PySem PySem.Spec PyProof.Rows L2 N1 N5 N08
end N8
namespace N8
open PySem PySem.Spec PyProof.Rows L2 N1 N5 N08
end N8
namespace N8
open PySem PySem.Spec PyProof.Rows L2 N1 N5 N08
end N8
namespace N8
open PySem PySem.Spec PyProof.Rows L2 N1 N5 N08
end N8
namespace N8
open PySem PySem.Spec PyProof.Rows L2 N1 N5 N08
end N8
namespace N8
open PySem PySem.Spec PyProof.Rows L2 N1 N5 N08
end N8
namespace N8
open PySem PySem.Spec PyProof.Rows L2 N1 N5 N08
end N8

set_option Elab.async false
set_option linter.all false
set_option maxRecDepth 100000
set_option maxHeartbeats 1000000
namespace L2
open PySem PySem.Spec PyProof.Rows N1 N5
section
variable {X : Cx}
end
section
variable {K : PySem.W.Frag} {tail : St} {te : Blk → TE} {Q : VK} {H1 : Hp}
end
end L2
namespace N12
open PySem PySem.Spec PyProof.Rows L2 N1 N5 N4 N6
noncomputable def sp12_names : Sp := fun vs H Q _ => ∃ (i : Int) (m : Nat), vs = [.int i, .int m] ∧ m ≤ 26 ∧ ∀ (p : Addr) (ys : List Str) (H' : Hp), H p = none → Same H H' → H' p = some (.lst (ys.map V.str)) → ys.length ≤ m → m ≤ ys.length → ys.Nodup → (∀ y ∈ ys, nameB y.cps.toList = true) → Q (.ref p) H'
theorem nodup_set {ys : List Str} {z : Str} (nd : ys.Nodup) (h : z ∉ ys) (j : Nat) : (ys.set j z).Nodup := by
  induction ys generalizing j with
  | nil => exact nd
  | cons a ys ih =>
    rw [List.nodup_cons] at nd
    have h1 : z ≠ a := fun e => h (by rw [e]; exact List.mem_cons_self)
    have h2 : z ∉ ys := fun e => h (List.mem_cons_of_mem _ e)
    cases j with
    | zero => exact List.nodup_cons.mpr ⟨h2, nd.2⟩
    | succ j =>
      refine List.nodup_cons.mpr ⟨fun e => ?_, ih nd.2 h2 j⟩
      rcases List.mem_or_eq_of_mem_set e with e | e
      · exact nd.1 e
      · exact h1 e.symm
theorem ixN_at {n k : Nat} (h : k < n) : ixN n (k : Int) = some k := by
  unfold ixN
  rw [if_pos (by omega), if_pos (by omega)]
  simp
theorem seven : (Str.ofString "7").cps.toList = [55] ∧ (Str.ofString "7").length = 1 := by decide +kernel
end N12

set_option linter.all false
set_option maxHeartbeats 1000000
namespace L2
open PySem PySem.Spec PyProof.Rows PySem.W
section
variable {X : Cx}
end
section
variable {K : PySem.W.Frag} {H : Hp} {Q : VK} {xs : List V}
end
section
variable {X : Cx}
end
end L2

set_option linter.all false
set_option maxHeartbeats 1000000
namespace L2
open PySem PySem.Spec PyProof.Rows PySem.W
noncomputable def rSumL (K : PySem.W.Frag) : List V → Hp → VK → Prop := fun xs H Q => ∃ (p : Addr) (is : List Int), xs = [.ref p] ∧ SqL K H p (is.map V.int) ∧ Q (.int is.sum) H
noncomputable def rGetL (K : PySem.W.Frag) : V → V → Hp → VK → Prop := fun o i H Q => ∃ (p : Addr) (xs : List V) (k : Nat) (v : V), o = .ref p ∧ i = .int k ∧ SqL K H p xs ∧ xs[k]? = some v ∧ Q v H
theorem preSum_is (is : List Int) : preSum (fun i => is.getD i 0) is.length = is.sum := by
  have key : ∀ n, n ≤ is.length → preSum (fun i => is.getD i 0) n = (is.take n).sum := by
    intro n
    induction n with
    | zero => intro _; rfl
    | succ n ih =>
      intro h
      have e : is.take (n + 1) = is.take n ++ [is.getD n 0] := by
        rw [List.take_add_one, List.getD_eq_getElem?_getD, List.getElem?_eq_getElem (by omega)]
        rfl
      rw [preSum, ih (by omega), e, List.sum_append]
      simp
  have := key is.length (Nat.le_refl _)
  rwa [List.take_length] at this
section
variable {X : Cx}
theorem call_sumL (hc : X.calm = true) : CallR X (.builtin "sum") (rSumL X.K) := by
  intro pins s σ H xs us Q I r h
  obtain ⟨p, is, rfl, hp, q⟩ := h
  obtain ⟨u, rfl, ru⟩ := vals1 r
  cases ru
  obtain ⟨its, r, pl, hz⟩ := I.list hp
  have hlt : p < s.heap.objs.size := by obtain ⟨o, n, e, _⟩ := pl; exact Heap.lt_size e
  have hlen := r.length
  rw [List.length_map] at hlen
  refine call_sum_walkAnyS (wpAny_pyIter_list pl.isList ⟨s.heap.objs.size, _, _, _, _, _, _, fun i => is.getD i 0, rfl, (Walks.list (show X.A.in1.handled = none from I.ok.hd hc) s.heap.objs.size p (Nat.ne_of_lt hlt) its.toArray).toS, ⟨⟨_, Heap.get?_push_size _ rfl, rfl, rfl⟩, pl.isList.push _⟩, fun b hb => ?_, fun i v hP => ?_, fun s' t' hmv => ?_⟩)
  · show b < (s.heap.push _).objs.size
    rw [Heap.size_push]
    rcases List.mem_cons.mp hb with e | hb
    · rw [e]; exact Nat.lt_succ_self _
    · rw [List.mem_singleton.mp hb]; exact Nat.lt_succ_of_lt hlt
  · have hP : its.toArray[i]? = some v := hP
    have hi : i < is.length := by
      have := (Array.getElem?_eq_some_iff.mp hP).1
      rw [List.size_toArray] at this
      omega
    obtain ⟨u, hu, ru⟩ := r.get (i := i) (x := V.int (is[i])) (by simp [hi])
    have e : u = v := by
      have : its[i]? = some v := by simpa using hP
      rw [hu] at this; exact Option.some.inj this
    subst e
    show ∃ t, u = Value.int (is.getD i 0) t
    rw [List.getD_eq_getElem?_getD, List.getElem?_eq_getElem hi]
    exact ru
  · have hk : ∀ b o, s.heap.get? b = some o → s'.heap.get? b = some o := fun b o e =>
      hmv.heap b o (fun hI => absurd (Heap.lt_size e) (by rw [List.mem_singleton.mp hI]; exact Nat.lt_irrefl _)) (Heap.get?_push_of_some _ e)
    rw [Moved.eq_with hmv]
    refine ⟨.int is.sum, H, I.kept (t' := s'.toks) hk, ⟨t', ?_⟩, q⟩
    rw [List.size_toArray, ← hlen, preSum_is]
theorem get_list : PGet X (rGetL X.K) := by
  intro pins s σ H o i ov iv Q I ro ri h
  obtain ⟨p, xs, k, v, rfl, rfl, hq, he, q⟩ := h
  cases ro
  obtain ⟨t, rfl⟩ := ri
  obtain ⟨its, r, pl, hz⟩ := I.list hq
  obtain ⟨w, ew, rw'⟩ := r.get he
  have hl := r.length
  have hn := line63
  have hk := (List.getElem?_eq_some_iff.mp he).1
  exact wpAny_getItem_list pl.isList (by omega) (by omega) (by simpa using ew) ⟨v, H, I, rw', q⟩
end
section
variable {σ : St} {H : Hp} {Q : VK} {D : Ends} {K : PySem.W.Frag} {xs : List V} {x y : V}
theorem rd_sumL : rSumL K xs H Q = ∃ (p : Addr) (is : List Int), xs = [.ref p] ∧ SqL K H p (is.map V.int) ∧ Q (.int is.sum) H := rfl
theorem rd_augS {to ti te : TE} {tget : V → V → Hp → VK → Prop} {tip : TIp} {tset : TSet} : tAugS to ti te tget tip tset D σ H = to σ H fun o H1 => ti σ H1 fun i H2 => tget o i H2 fun x H3 => te σ H3 fun y H4 => tip x y H4 fun z H5 => tset o i z H5 fun H6 => D.nx σ H6 := rfl
theorem rd_ipI {f : Int → Int → Int} : ipI f x y H Q = ∃ i j, x = .int i ∧ y = .int j ∧ Q (.int (f i j)) H := rfl
end
section
open PySem.W
variable {K : Frag} {C D : Addr} {cd : ClassData}
theorem kit_own {b : Bool} (self : subIn K (.ref C) (.ref C) = some true) (cl : clsIn K D = some cd) (ty : typeIn K (.ref D) = some (.type "type")) (s : subIn K (.ref C) (.ref D) = some b) : kitOne K (.ref C) (.ref D) = some b := by
  by_cases e : C = D
  · subst e
    rw [self] at s
    cases s
    unfold kitOne
    rw [if_pos (by simp)]
  · unfold kitOne kitCls
    rw [if_neg (by simp [e])]
    dsimp only
    rw [cl, ty]
    exact s
end
end L2
namespace N31
open PySem PySem.Spec PyProof.Rows L2 N1 N5
noncomputable def fldN (l : Addr) : List (Str × V) := putF "numbers" (.ref l) []
structure SumsAt (C : Addr) (H : Hp) (p l : Addr) (is : List Int) : Prop where
  o : ∃ dx, H p = some (.ins C dx (fldN l))
  l : H l = some (.lst (is.map V.int))
noncomputable def Off (K : PySem.W.Frag) (a : Addr) (xs : List V) (b : Addr) : Prop := ∀ (H2 : Hp) (o : HO), SqL K H2 a xs → SqL K (upd H2 b o) a xs
end N31

set_option Elab.async false
set_option linter.all false
set_option maxRecDepth 100000
set_option maxHeartbeats 1000000
namespace N71
open PySem PySem.Spec PyProof.Rows L2 N1 N5 N4 N6 N12
theorem putF_len {f : Str} {v : V} : ∀ {fs : List (Str × V)}, (fs.lookup f).isSome = true → (putF f v fs).length = fs.length := by
  intro fs
  induction fs with
  | nil => intro h; cases h
  | cons p r ih =>
    obtain ⟨g, x⟩ := p
    intro h
    by_cases e : g = f
    · subst e; simp [putF]
    · have h2 : (r.lookup f).isSome = true := by
        rw [List.lookup_cons] at h
        rw [show (f == g) = false from beq_false_of_ne (fun z => e z.symm)] at h
        exact h
      have := ih h2
      simp [putF, e, this]
theorem valV_drop_same (kvs : List (Key × V)) (k : Key) : valV (dropK kvs k) k = none := by
  induction kvs with
  | nil => rfl
  | cons p r ih =>
    by_cases e : p.1 = k
    · have : dropK (p :: r) k = dropK r k := by unfold dropK; rw [List.filter_cons_of_neg (by simp [e])]
      rw [this]; exact ih
    · have : dropK (p :: r) k = p :: dropK r k := by unfold dropK; rw [List.filter_cons_of_pos (by simp [e])]
      rw [this, valV_neg e]; exact ih
theorem valV_dropK {kvs : List (Key × V)} {k j : Key} (n : j ≠ k) : valV (dropK kvs k) j = valV kvs j := by
  induction kvs with
  | nil => rfl
  | cons p r ih =>
    by_cases e : p.1 = k
    · have h1 : dropK (p :: r) k = dropK r k := by unfold dropK; rw [List.filter_cons_of_neg (by simp [e])]
      rw [h1, ih, valV_neg (fun z => n (by rw [← z, e]))]
    · have h1 : dropK (p :: r) k = p :: dropK r k := by unfold dropK; rw [List.filter_cons_of_pos (by simp [e])]
      rw [h1]
      by_cases e2 : p.1 = j
      · rw [valV_pos e2, valV_pos e2]
      · rw [valV_neg e2, valV_neg e2]; exact ih
theorem dropK_ls (kvs : List (Key × V)) (k : Key) : (dropK kvs k).length ≤ kvs.length := dropK_le kvs k
structure TwA where
  st : Addr
  si : Addr
  ro : Addr
  he : Addr
  la : Addr
  so : Addr
  en : Addr
  fi : Addr
structure Tfs (x : TwA) (pd : Int) (fs : List (Str × V)) : Prop where
  st : fs.lookup (Str.ofString "stock") = some (.ref x.st)
  si : fs.lookup (Str.ofString "sizes") = some (.ref x.si)
  ro : fs.lookup (Str.ofString "row") = some (.ref x.ro)
  he : fs.lookup (Str.ofString "held") = some (.ref x.he)
  la : fs.lookup (Str.ofString "late") = some (.ref x.la)
  so : fs.lookup (Str.ofString "store") = some (.ref x.so)
  en : fs.lookup (Str.ofString "entries") = some (.ref x.en)
  fi : fs.lookup (Str.ofString "finds") = some (.ref x.fi)
  pd : fs.lookup (Str.ofString "paid") = some (.int pd)
  n : fs.length < 500
  m : ∀ m ∈ [Str.ofString "levels", Str.ofString "stored", Str.ofString "shelf_of", Str.ofString "fetch", Str.ofString "come", Str.ofString "fall_off", Str.ofString "write", Str.ofString "settle", Str.ofString "read", Str.ofString "keep", Str.ofString "rest", Str.ofString "ahead", Str.ofString "diary", Str.ofString "found", Str.ofString "spent"], fs.lookup m = none
theorem Tfs.paid {x : TwA} {pd pd' : Int} {fs : List (Str × V)} (h : Tfs x pd fs) : Tfs x pd' (putF (Str.ofString "paid") (.int pd') fs) := by
  have k : ∀ g, g ≠ Str.ofString "paid" → (putF (Str.ofString "paid") (.int pd') fs).lookup g = fs.lookup g := fun g n => by rw [lookup_putF, if_neg n]
  refine ⟨?_, ?_, ?_, ?_, ?_, ?_, ?_, ?_, by rw [lookup_putF, if_pos rfl], ?_, ?_⟩
  · rw [k _ (by decide +kernel)]; exact h.st
  · rw [k _ (by decide +kernel)]; exact h.si
  · rw [k _ (by decide +kernel)]; exact h.ro
  · rw [k _ (by decide +kernel)]; exact h.he
  · rw [k _ (by decide +kernel)]; exact h.la
  · rw [k _ (by decide +kernel)]; exact h.so
  · rw [k _ (by decide +kernel)]; exact h.en
  · rw [k _ (by decide +kernel)]; exact h.fi
  · rw [putF_len (by rw [h.pd]; rfl)]; exact h.n
  · intro m hm
    have hne : ∀ m ∈ [Str.ofString "levels", Str.ofString "stored", Str.ofString "shelf_of", Str.ofString "fetch", Str.ofString "come", Str.ofString "fall_off", Str.ofString "write", Str.ofString "settle", Str.ofString "read", Str.ofString "keep", Str.ofString "rest", Str.ofString "ahead", Str.ofString "diary", Str.ofString "found", Str.ofString "spent"], m ≠ Str.ofString "paid" := by decide +kernel
    rw [k _ (hne m hm)]; exact h.m m hm
theorem Tfs.late {x : TwA} {pd : Int} {l : Addr} {fs : List (Str × V)} (h : Tfs x pd fs) : Tfs { x with la := l } pd (putF (Str.ofString "late") (.ref l) fs) := by
  have k : ∀ g, g ≠ Str.ofString "late" → (putF (Str.ofString "late") (.ref l) fs).lookup g = fs.lookup g := fun g n => by rw [lookup_putF, if_neg n]
  refine ⟨?_, ?_, ?_, ?_, by rw [lookup_putF, if_pos rfl], ?_, ?_, ?_, ?_, ?_, ?_⟩
  · rw [k _ (by decide +kernel)]; exact h.st
  · rw [k _ (by decide +kernel)]; exact h.si
  · rw [k _ (by decide +kernel)]; exact h.ro
  · rw [k _ (by decide +kernel)]; exact h.he
  · rw [k _ (by decide +kernel)]; exact h.so
  · rw [k _ (by decide +kernel)]; exact h.en
  · rw [k _ (by decide +kernel)]; exact h.fi
  · rw [k _ (by decide +kernel)]; exact h.pd
  · rw [putF_len (by rw [h.la]; rfl)]; exact h.n
  · intro m hm
    have hne : ∀ m ∈ [Str.ofString "levels", Str.ofString "stored", Str.ofString "shelf_of", Str.ofString "fetch", Str.ofString "come", Str.ofString "fall_off", Str.ofString "write", Str.ofString "settle", Str.ofString "read", Str.ofString "keep", Str.ofString "rest", Str.ofString "ahead", Str.ofString "diary", Str.ofString "found", Str.ofString "spent"], m ≠ Str.ofString "late" := by decide +kernel
    rw [k _ (hne m hm)]; exact h.m m hm
structure TwS where
  zs : List Int
  R : List Str
  kh : List (Key × V)
  kl : List (Key × V)
  ks : List (Key × V)
  es : List V
  ff : List Int
  pd : Int
structure TwAt (C : Addr) (H : Hp) (t : Addr) (x : TwA) (s : TwS) : Prop where
  o : ∃ dx fs, H t = some (.ins C dx fs) ∧ Tfs x s.pd fs
  si : H x.si = some (.lst (s.zs.map V.int))
  ro : H x.ro = some (.lst (s.R.map V.str))
  he : H x.he = some (.dK s.kh)
  la : H x.la = some (.dK s.kl)
  so : H x.so = some (.dK s.ks)
  en : H x.en = some (.lst s.es)
  fi : H x.fi = some (.lst (s.ff.map V.int))
  d1 : x.he ≠ x.la
  d2 : x.he ≠ x.so
  d3 : x.la ≠ x.so
  l1 : x.ro ≠ x.si
  l2 : x.ro ≠ x.en
  l3 : x.ro ≠ x.fi
  l4 : x.si ≠ x.en
  l5 : x.si ≠ x.fi
  l6 : x.en ≠ x.fi
theorem TwAt.same {C : Addr} {H H' : Hp} {t : Addr} {x : TwA} {s : TwS} (m : Same H H') (h : TwAt C H t x s) : TwAt C H' t x s := by
  obtain ⟨dx, fs, h1, h2⟩ := h.o
  exact ⟨⟨dx, fs, m _ _ h1, h2⟩, m _ _ h.si, m _ _ h.ro, m _ _ h.he, m _ _ h.la, m _ _ h.so, m _ _ h.en, m _ _ h.fi, h.d1, h.d2, h.d3, h.l1, h.l2, h.l3, h.l4, h.l5, h.l6⟩
noncomputable def own (t : Addr) (x : TwA) : List Addr := [t, x.ro, x.he, x.la, x.so, x.en, x.fi]
noncomputable def Off (L : List Addr) (H H' : Hp) : Prop := ∀ b o, H b = some o → b ∉ L → H' b = some o
theorem Off.trans {L : List Addr} {H H1 H2 : Hp} (a : Off L H H1) (b : Off L H1 H2) : Off L H H2 := fun c o e n => b c o (a c o e n) n
theorem Off.of {L : List Addr} {H H1 : Hp} (s : Same H H1) : Off L H H1 := fun c o e _ => s c o e
theorem Off.put {L : List Addr} {H : Hp} {b : Addr} {o : HO} (h : b ∈ L) : Off L H (upd H b o) := fun c u e n => by
  rw [upd_ne (fun z => n (by rw [z]; exact h))]; exact e
section
variable {C : Addr} {H : Hp} {t : Addr} {x : TwA} {s : TwS}
theorem TwAt.nt (h : TwAt C H t x s) {b : Addr} {u : HO} (e : H b = some u) (n : ∀ C dx fs, u ≠ .ins C dx fs) : t ≠ b := by
  obtain ⟨dx, fs, h1, _⟩ := h.o
  exact fun z => by rw [← z, h1] at e; cases e; exact n _ _ _ rfl
theorem TwAt.row (h : TwAt C H t x s) (R : List Str) : TwAt C (upd H x.ro (.lst (R.map V.str))) t x { s with R := R } := by
  obtain ⟨dx, fs, h1, h2⟩ := h.o
  have nt := h.nt h.ro (by intro _ _ _ z; cases z)
  refine ⟨⟨dx, fs, by rw [upd_ne nt]; exact h1, h2⟩, by rw [upd_ne h.l1.symm]; exact h.si, upd_same, ?_, ?_, ?_, by rw [upd_ne h.l2.symm]; exact h.en, by rw [upd_ne h.l3.symm]; exact h.fi, h.d1, h.d2, h.d3, h.l1, h.l2, h.l3, h.l4, h.l5, h.l6⟩
  · rw [upd_ne (ne_of h.he h.ro (by intro z; cases z))]; exact h.he
  · rw [upd_ne (ne_of h.la h.ro (by intro z; cases z))]; exact h.la
  · rw [upd_ne (ne_of h.so h.ro (by intro z; cases z))]; exact h.so
theorem TwAt.held (h : TwAt C H t x s) (k : List (Key × V)) : TwAt C (upd H x.he (.dK k)) t x { s with kh := k } := by
  obtain ⟨dx, fs, h1, h2⟩ := h.o
  have nt := h.nt h.he (by intro _ _ _ z; cases z)
  refine ⟨⟨dx, fs, by rw [upd_ne nt]; exact h1, h2⟩, ?_, ?_, upd_same, by rw [upd_ne h.d1.symm]; exact h.la, by rw [upd_ne h.d2.symm]; exact h.so, ?_, ?_, h.d1, h.d2, h.d3, h.l1, h.l2, h.l3, h.l4, h.l5, h.l6⟩
  · rw [upd_ne (ne_of h.si h.he (by intro z; cases z))]; exact h.si
  · rw [upd_ne (ne_of h.ro h.he (by intro z; cases z))]; exact h.ro
  · rw [upd_ne (ne_of h.en h.he (by intro z; cases z))]; exact h.en
  · rw [upd_ne (ne_of h.fi h.he (by intro z; cases z))]; exact h.fi
theorem TwAt.late (h : TwAt C H t x s) (k : List (Key × V)) : TwAt C (upd H x.la (.dK k)) t x { s with kl := k } := by
  obtain ⟨dx, fs, h1, h2⟩ := h.o
  have nt := h.nt h.la (by intro _ _ _ z; cases z)
  refine ⟨⟨dx, fs, by rw [upd_ne nt]; exact h1, h2⟩, ?_, ?_, by rw [upd_ne h.d1]; exact h.he, upd_same, by rw [upd_ne h.d3.symm]; exact h.so, ?_, ?_, h.d1, h.d2, h.d3, h.l1, h.l2, h.l3, h.l4, h.l5, h.l6⟩
  · rw [upd_ne (ne_of h.si h.la (by intro z; cases z))]; exact h.si
  · rw [upd_ne (ne_of h.ro h.la (by intro z; cases z))]; exact h.ro
  · rw [upd_ne (ne_of h.en h.la (by intro z; cases z))]; exact h.en
  · rw [upd_ne (ne_of h.fi h.la (by intro z; cases z))]; exact h.fi
theorem TwAt.store (h : TwAt C H t x s) (k : List (Key × V)) : TwAt C (upd H x.so (.dK k)) t x { s with ks := k } := by
  obtain ⟨dx, fs, h1, h2⟩ := h.o
  have nt := h.nt h.so (by intro _ _ _ z; cases z)
  refine ⟨⟨dx, fs, by rw [upd_ne nt]; exact h1, h2⟩, ?_, ?_, by rw [upd_ne h.d2]; exact h.he, by rw [upd_ne h.d3]; exact h.la, upd_same, ?_, ?_, h.d1, h.d2, h.d3, h.l1, h.l2, h.l3, h.l4, h.l5, h.l6⟩
  · rw [upd_ne (ne_of h.si h.so (by intro z; cases z))]; exact h.si
  · rw [upd_ne (ne_of h.ro h.so (by intro z; cases z))]; exact h.ro
  · rw [upd_ne (ne_of h.en h.so (by intro z; cases z))]; exact h.en
  · rw [upd_ne (ne_of h.fi h.so (by intro z; cases z))]; exact h.fi
theorem TwAt.entry (h : TwAt C H t x s) (k : List V) : TwAt C (upd H x.en (.lst k)) t x { s with es := k } := by
  obtain ⟨dx, fs, h1, h2⟩ := h.o
  have nt := h.nt h.en (by intro _ _ _ z; cases z)
  refine ⟨⟨dx, fs, by rw [upd_ne nt]; exact h1, h2⟩, by rw [upd_ne h.l4]; exact h.si, by rw [upd_ne h.l2]; exact h.ro, ?_, ?_, ?_, upd_same, by rw [upd_ne h.l6.symm]; exact h.fi, h.d1, h.d2, h.d3, h.l1, h.l2, h.l3, h.l4, h.l5, h.l6⟩
  · rw [upd_ne (ne_of h.he h.en (by intro z; cases z))]; exact h.he
  · rw [upd_ne (ne_of h.la h.en (by intro z; cases z))]; exact h.la
  · rw [upd_ne (ne_of h.so h.en (by intro z; cases z))]; exact h.so
theorem TwAt.find (h : TwAt C H t x s) (k : List Int) : TwAt C (upd H x.fi (.lst (k.map V.int))) t x { s with ff := k } := by
  obtain ⟨dx, fs, h1, h2⟩ := h.o
  have nt := h.nt h.fi (by intro _ _ _ z; cases z)
  refine ⟨⟨dx, fs, by rw [upd_ne nt]; exact h1, h2⟩, by rw [upd_ne h.l5]; exact h.si, by rw [upd_ne h.l3]; exact h.ro, ?_, ?_, ?_, by rw [upd_ne h.l6]; exact h.en, upd_same, h.d1, h.d2, h.d3, h.l1, h.l2, h.l3, h.l4, h.l5, h.l6⟩
  · rw [upd_ne (ne_of h.he h.fi (by intro z; cases z))]; exact h.he
  · rw [upd_ne (ne_of h.la h.fi (by intro z; cases z))]; exact h.la
  · rw [upd_ne (ne_of h.so h.fi (by intro z; cases z))]; exact h.so
end
theorem TwAt.paid {C : Addr} {H : Hp} {t : Addr} {x : TwA} {s : TwS} (h : TwAt C H t x s) {dx : Addr} {fs : List (Str × V)} (ho : H t = some (.ins C dx fs)) (hf : Tfs x s.pd fs) (n : Int) : TwAt C (upd H t (.ins C dx (putF (Str.ofString "paid") (.int n) fs))) t x { s with pd := n } := by
  have nt : ∀ (b : Addr) (u : HO), H b = some u → (∀ C dx fs, u ≠ .ins C dx fs) → b ≠ t := fun b u e k => (h.nt e k).symm
  refine ⟨⟨dx, _, upd_same, hf.paid⟩, ?_, ?_, ?_, ?_, ?_, ?_, ?_, h.d1, h.d2, h.d3, h.l1, h.l2, h.l3, h.l4, h.l5, h.l6⟩
  · rw [upd_ne (nt _ _ h.si (by intro _ _ _ z; cases z))]; exact h.si
  · rw [upd_ne (nt _ _ h.ro (by intro _ _ _ z; cases z))]; exact h.ro
  · rw [upd_ne (nt _ _ h.he (by intro _ _ _ z; cases z))]; exact h.he
  · rw [upd_ne (nt _ _ h.la (by intro _ _ _ z; cases z))]; exact h.la
  · rw [upd_ne (nt _ _ h.so (by intro _ _ _ z; cases z))]; exact h.so
  · rw [upd_ne (nt _ _ h.en (by intro _ _ _ z; cases z))]; exact h.en
  · rw [upd_ne (nt _ _ h.fi (by intro _ _ _ z; cases z))]; exact h.fi
theorem TwAt.newLate {C : Addr} {H : Hp} {t : Addr} {x : TwA} {s : TwS} (h : TwAt C H t x s) {dx : Addr} {fs : List (Str × V)} (ho : H t = some (.ins C dx fs)) (hf : Tfs x s.pd fs) {l : Addr} (hl : H l = none) : TwAt C (upd (upd H l (.dK [])) t (.ins C dx (putF (Str.ofString "late") (.ref l) fs))) t { x with la := l } { s with kl := [] } := by
  have m : Same H (upd H l (.dK [])) := Same.new hl
  have ntl : l ≠ t := (ne_of_none ho hl).symm
  have nt : ∀ (b : Addr) (u : HO), H b = some u → (∀ C dx fs, u ≠ .ins C dx fs) → b ≠ t := fun b u e k => (h.nt e k).symm
  refine ⟨⟨dx, _, upd_same, hf.late⟩, ?_, ?_, ?_, by rw [upd_ne ntl]; exact upd_same, ?_, ?_, ?_, ne_of_none h.he hl, h.d2, (ne_of_none h.so hl).symm, h.l1, h.l2, h.l3, h.l4, h.l5, h.l6⟩
  · rw [upd_ne (nt _ _ h.si (by intro _ _ _ z; cases z))]; exact m _ _ h.si
  · rw [upd_ne (nt _ _ h.ro (by intro _ _ _ z; cases z))]; exact m _ _ h.ro
  · rw [upd_ne (nt _ _ h.he (by intro _ _ _ z; cases z))]; exact m _ _ h.he
  · rw [upd_ne (nt _ _ h.so (by intro _ _ _ z; cases z))]; exact m _ _ h.so
  · rw [upd_ne (nt _ _ h.en (by intro _ _ _ z; cases z))]; exact m _ _ h.en
  · rw [upd_ne (nt _ _ h.fi (by intro _ _ _ z; cases z))]; exact m _ _ h.fi
noncomputable def lateV (kl : List (Key × V)) : V → Bool
  | .str y => (valV kl (Sum.inr y)).isSome
  | _ => false
theorem filt_late (R : List Str) (kl : List (Key × V)) : ((R.map V.str).filter (lateV kl)).map (fun v => v) = (R.filter fun y => (valV kl (Sum.inr y)).isSome).map V.str := by
  rw [List.map_id', List.filter_map]; rfl
structure StockT (K : PySem.W.Frag) (S : Addr) (H : Hp) (p : Addr) (ts : List Th) (L : List Addr) : Prop where
  ex : ∃ (dx d : Addr) (kvs : List (Key × V)), H p = some (.ins S dx (flds d)) ∧ H d = some (.dK kvs) ∧ p ∉ L ∧ d ∉ L ∧ kvs.map (·.1) = ts.map (fun t => Sum.inr t.1) ∧
    ∀ (i : Nat) (t : Th), ts[i]? = some t → ∃ a, kvs[i]? = some (Sum.inr t.1, .ref a) ∧ ((Rd H a (.tup [.int i, .int t.2.1, .int t.2.2]) ∧ a ∉ L) ∨ ∀ H', SqT K H' a [.int i, .int t.2.1, .int t.2.2])
theorem StockT.at {K : PySem.W.Frag} {S : Addr} {H : Hp} {p : Addr} {ts : List Th} {L : List Addr} (h : StockT K S H p ts L) : StockAt K S H p ts := by
  obtain ⟨dx, d, kvs, h1, h2, _, _, h3, h4⟩ := h.ex
  refine ⟨dx, d, kvs, h1, h2, h3, fun i t e => ?_⟩
  obtain ⟨a, e1, e2 | e2⟩ := h4 i t e
  · exact ⟨a, e1, .inl e2.1⟩
  · exact ⟨a, e1, e2 H⟩
theorem StockT.off {K : PySem.W.Frag} {S : Addr} {H H' : Hp} {p : Addr} {ts : List Th} {L : List Addr} (o : Off L H H') (h : StockT K S H p ts L) : StockT K S H' p ts L := by
  obtain ⟨dx, d, kvs, h1, h2, n1, n2, h3, h4⟩ := h.ex
  refine ⟨dx, d, kvs, o _ _ h1 n1, o _ _ h2 n2, n1, n2, h3, fun i t e => ?_⟩
  obtain ⟨a, e1, ⟨e2, n⟩ | e2⟩ := h4 i t e
  · refine ⟨a, e1, .inl ⟨?_, n⟩⟩
    rcases e2 with h | ⟨ob, h⟩
    · exact .inl (o _ _ h n)
    · exact .inr ⟨ob, o _ _ h n⟩
  · exact ⟨a, e1, .inr e2⟩
theorem StockT.mono {K : PySem.W.Frag} {S : Addr} {H : Hp} {p : Addr} {ts : List Th} {L L' : List Addr} (m : ∀ b ∈ L', b ∈ L ∨ H b = none) (h : StockT K S H p ts L) : StockT K S H p ts L' := by
  obtain ⟨dx, d, kvs, h1, h2, n1, n2, h3, h4⟩ := h.ex
  have k : ∀ (b : Addr) (u : HO), H b = some u → b ∉ L → b ∉ L' := fun b u e n z => by
    rcases m b z with h | h
    · exact n h
    · rw [h] at e; cases e
  refine ⟨dx, d, kvs, h1, h2, k _ _ h1 n1, k _ _ h2 n2, h3, fun i t e => ?_⟩
  obtain ⟨a, e1, ⟨e2, n⟩ | e2⟩ := h4 i t e
  · refine ⟨a, e1, .inl ⟨e2, ?_⟩⟩
    rcases e2 with h | ⟨ob, h⟩
    · exact k _ _ h n
    · exact k _ _ h n
  · exact ⟨a, e1, .inr e2⟩
theorem StockT.of {K : PySem.W.Frag} {S : Addr} {H : Hp} {p : Addr} {ts : List Th} (h : StockAt K S H p ts) : StockT K S H p ts [] := by
  obtain ⟨dx, d, kvs, h1, h2, h3, h4⟩ := h.ex
  refine ⟨dx, d, kvs, h1, h2, List.not_mem_nil, List.not_mem_nil, h3, fun i t e => ?_⟩
  obtain ⟨a, e1, e2⟩ := h4 i t e
  rcases e2 with e2 | e2
  · exact ⟨a, e1, .inl ⟨e2, List.not_mem_nil⟩⟩
  · exact ⟨a, e1, .inr fun _ => .inr e2⟩
theorem Off.mono {L L' : List Addr} {H H' : Hp} (m : ∀ b ∈ L, b ∈ L') (o : Off L H H') : Off L' H H' := fun b u e n => o b u e fun z => n (m b z)
structure TwL (s : TwS) (B : Nat) (hd : Str → Prop) : Prop where
  h : ∀ y, hd y → ∃ i : Int, valV s.kh (Sum.inr y) = some (.int i)
  l : ∀ y, (valV s.kl (Sum.inr y)).isSome = true → hd y
  st : ∀ y v, valV s.ks (Sum.inr y) = some v → ∃ i : Int, v = .int i
  n1 : s.kh.length ≤ B
  n2 : s.kl.length ≤ B
  n3 : s.ks.length ≤ B
  n4 : s.es.length ≤ B
  b : B ≤ 100000
theorem TwL.iff {s : TwS} {B B' : Nat} {p q : Str → Prop} (h : TwL s B p) (e : ∀ u, p u ↔ q u) (hB : B ≤ B') (hb : B' ≤ 100000) : TwL s B' q :=
  ⟨fun y hy => h.h y ((e y).mpr hy), fun y hy => (e y).mp (h.l y hy), h.st, Nat.le_trans h.n1 hB, Nat.le_trans h.n2 hB, Nat.le_trans h.n3 hB, Nat.le_trans h.n4 hB, hb⟩
theorem mem_come {R : List Str} {z u : Str} : u ∈ z :: R.erase z ↔ u ∈ R ∨ u = z := by
  rw [List.mem_cons]
  constructor
  · rintro (h | h)
    · exact .inr h
    · exact .inl (List.mem_of_mem_erase h)
  · rintro (h | h)
    · by_cases e : u = z
      · exact .inl e
      · exact .inr ((List.mem_erase_of_ne e).mpr h)
    · exact .inl h
theorem nd_come {R : List Str} {z : Str} (nd : R.Nodup) : (z :: R.erase z).Nodup := List.nodup_cons.mpr ⟨nd.not_mem_erase, nd.erase z⟩
theorem drop_last {R1 : List Str} {S : Nat} (nd : R1.Nodup) (hl : R1.length = S + 1) : ∃ y, R1[R1.length - 1]? = some y ∧ R1.dropLast = R1.take S ∧ y ∈ R1 ∧ ∀ u, u ∈ R1.dropLast ↔ u ∈ R1 ∧ u ≠ y := by
  have hS : S < R1.length := by omega
  have e1 : R1.dropLast = R1.take S := by rw [List.dropLast_eq_take, show R1.length - 1 = S by omega]
  have e2 : R1 = R1.take S ++ [R1[S]] := by
    have := List.take_append_drop S R1
    rw [List.drop_eq_getElem_cons hS, List.drop_eq_nil_of_le (by omega)] at this
    exact this.symm
  refine ⟨R1[S], by rw [show R1.length - 1 = S by omega, List.getElem?_eq_getElem hS], e1, List.getElem_mem hS, fun u => ?_⟩
  rw [e1]
  have nd2 : (R1.take S ++ [R1[S]]).Nodup := by rw [← e2]; exact nd
  have nin : R1[S] ∉ R1.take S := fun h => (List.nodup_append.mp nd2).2.2 _ h _ List.mem_cons_self rfl
  constructor
  · intro h
    exact ⟨List.mem_of_mem_take h, fun e => nin (by rw [← e]; exact h)⟩
  · rintro ⟨h1, h2⟩
    rw [e2] at h1
    rcases List.mem_append.mp h1 with h | h
    · exact h
    · exact absurd (List.mem_singleton.mp h) h2
noncomputable def lvl : List Int → List Str → Nat → List Str
  | [], _, _ => []
  | z :: _, R, 0 => R.take z.toNat
  | z :: zs, R, i + 1 => lvl zs (R.drop z.toNat) i
noncomputable def pre (zs : List Int) (i : Nat) : Int := (zs.take i).sum
theorem pre_nn {zs : List Int} (h : ∀ z ∈ zs, 1 ≤ z) (i : Nat) : 0 ≤ pre zs i := by
  unfold pre
  induction zs generalizing i with
  | nil => simp
  | cons a l ih =>
    cases i with
    | zero => simp
    | succ i =>
      have h1 := h a List.mem_cons_self
      have h2 := ih (fun z hz => h z (List.mem_cons_of_mem _ hz)) i
      rw [List.take_succ_cons, List.sum_cons]; omega
theorem pre_succ {zs : List Int} {i : Nat} (h : i < zs.length) : pre zs (i + 1) = pre zs i + zs.getD i 0 := by
  unfold pre
  rw [List.take_add_one, List.getElem?_eq_getElem h, List.sum_append, List.getD_eq_getElem?_getD, List.getElem?_eq_getElem h]
  simp
theorem lvl_is {zs : List Int} (h : ∀ z ∈ zs, 1 ≤ z) : ∀ {R : List Str} {i : Nat}, i < zs.length → lvl zs R i = (R.drop (pre zs i).toNat).take (zs.getD i 0).toNat := by
  induction zs with
  | nil => intro R i hi; cases hi
  | cons a l ih =>
    intro R i hi
    cases i with
    | zero => simp [lvl, pre]
    | succ i =>
      have h1 := h a List.mem_cons_self
      have h2 := pre_nn (zs := l) (fun z hz => h z (List.mem_cons_of_mem _ hz)) i
      have e : pre (a :: l) (i + 1) = a + pre l i := by unfold pre; rw [List.take_succ_cons, List.sum_cons]
      show lvl l (R.drop a.toNat) i = _
      rw [ih (fun z hz => h z (List.mem_cons_of_mem _ hz)) (by simpa using hi), e, List.drop_drop, show a.toNat + (pre l i).toNat = (a + pre l i).toNat by omega]
      rfl
theorem lvl_sub {zs : List Int} : ∀ {R : List Str} {i : Nat} {u : Str}, u ∈ lvl zs R i → u ∈ R := by
  induction zs with
  | nil => intro R i u h; cases h
  | cons a l ih =>
    intro R i u h
    cases i with
    | zero => exact List.mem_of_mem_take h
    | succ i => exact List.mem_of_mem_drop (ih (R := R.drop a.toNat) h)
theorem lvl_all {zs : List Int} (h : ∀ z ∈ zs, 1 ≤ z) : ∀ {R : List Str} {u : Str}, (R.length : Int) ≤ zs.sum → u ∈ R → ∃ i, i < zs.length ∧ u ∈ lvl zs R i := by
  induction zs with
  | nil =>
    intro R u hs hu
    have : R.length = 0 := by simp at hs; simp [hs]
    rw [List.length_eq_zero_iff.mp this] at hu
    cases hu
  | cons a l ih =>
    intro R u hs hu
    have h1 := h a List.mem_cons_self
    rw [List.sum_cons] at hs
    have h3 : 0 ≤ l.sum := by
      have := pre_nn (zs := l) (fun z hz => h z (List.mem_cons_of_mem _ hz)) l.length
      unfold pre at this
      rw [List.take_length] at this
      exact this
    rw [← List.take_append_drop a.toNat R] at hu
    rcases List.mem_append.mp hu with hu | hu
    · exact ⟨0, by simp, hu⟩
    · obtain ⟨i, hi, hui⟩ := ih (fun z hz => h z (List.mem_cons_of_mem _ hz)) (R := R.drop a.toNat) (by rw [List.length_drop]; omega) hu
      exact ⟨i + 1, by simpa using hi, hui⟩
theorem cut_gen (xs : List V) (a b : Nat) (h : a ≤ b) : cutV xs (some (a : Int)) (some (b : Int)) = (xs.drop a).take (b - a) := by
  unfold cutV
  rw [HT.sIx_nat, HT.sIx_nat]
  by_cases h1 : a ≤ xs.length
  · rw [Nat.min_eq_left h1]
    by_cases h2 : b ≤ xs.length
    · rw [Nat.min_eq_left h2]
    · rw [Nat.min_eq_right (by omega), List.take_of_length_le (by rw [List.length_drop]; exact Nat.le_refl _), List.take_of_length_le (by rw [List.length_drop]; omega)]
  · rw [Nat.min_eq_right (by omega), Nat.min_eq_right (by omega), Nat.sub_self, List.take_zero, List.drop_eq_nil_of_le (by omega), List.take_nil]
theorem cut_lvl {zs : List Int} {R : List Str} {i : Nat} (h : ∀ z ∈ zs, 1 ≤ z ∧ z ≤ 1000000) (hi : i < zs.length) : cutV (R.map V.str) (some (pre zs i)) (some (pre zs i + zs.getD i 0)) = (lvl zs R i).map V.str := by
  have h0 := pre_nn (fun z hz => (h z hz).1) i
  have hz := h _ (List.mem_of_getElem? (getD_int hi))
  rw [lvl_is (fun z hz => (h z hz).1) hi]
  have e1 : pre zs i = ((pre zs i).toNat : Int) := by omega
  have e2 : pre zs i + zs.getD i 0 = (((pre zs i).toNat + (zs.getD i 0).toNat : Nat) : Int) := by omega
  have := cut_gen (R.map V.str) (pre zs i).toNat ((pre zs i).toNat + (zs.getD i 0).toNat) (by omega)
  rw [← e1, ← e2] at this
  rw [this, show (pre zs i).toNat + (zs.getD i 0).toNat - (pre zs i).toNat = (zs.getD i 0).toNat by omega, ← List.map_drop, ← List.map_take]
noncomputable def LvAt (H : Hp) (as : List Addr) (zs : List Int) (R : List Str) (n : Nat) : Prop := as.length = n ∧ ∀ (i : Nat) (a : Addr), as[i]? = some a → H a = some (.lst ((lvl zs R i).map V.str))
theorem LvAt.same {H H' : Hp} {as : List Addr} {zs : List Int} {R : List Str} {n : Nat} (s : Same H H') (h : LvAt H as zs R n) : LvAt H' as zs R n := ⟨h.1, fun i a e => s _ _ (h.2 i a e)⟩
noncomputable def sp71_tell (w : Nat) (K : PySem.W.Frag) (C : Addr) : Sp := fun vs H Q _ => ∃ (p : Addr) (ts : List Th) (z : Str), vs = [.ref p, .str z] ∧ StockAt K C H p ts ∧ (ts.map (·.1)).Nodup ∧ z ∈ ts.map (·.1) ∧ ∀ (i : Nat) (t : Th), ts[i]? = some t → t.1 = z → Q (.int (pick w i t)) H
noncomputable def sp71_levels (C : Addr) : Sp := fun vs H Q _ => ∃ (t : Addr) (x : TwA) (s : TwS), vs = [.ref t] ∧ TwAt C H t x s ∧ s.zs.length ≤ 6 ∧ (∀ z ∈ s.zs, 1 ≤ z ∧ z ≤ 1000000) ∧
  ∀ (p : Addr) (as : List Addr) (H' : Hp), H p = none → Same H H' → H' p = some (.lst (as.map V.ref)) → LvAt H' as s.zs s.R s.zs.length → (∀ a ∈ as, H a = none) → as.Nodup → p ∉ as → Q (.ref p) H'
structure Tow (K : PySem.W.Frag) (C S : Addr) (H : Hp) (t : Addr) (x : TwA) (s : TwS) (ts : List Th) (B : Nat) : Prop where
  tw : TwAt C H t x s
  sk : StockT K S H x.st ts (own t x)
  l : TwL s B (fun y => y ∈ s.R)
  nd : s.R.Nodup
  rs : (s.R.length : Int) ≤ s.zs.sum
  z1 : 1 ≤ s.zs.length
  zl : s.zs.length ≤ 6
  zz : ∀ z ∈ s.zs, 1 ≤ z ∧ z ≤ 1000000
  rn : ∀ y ∈ s.R, y ∈ ts.map (·.1)
  tn : (ts.map (·.1)).Nodup
  tl : ts.length ≤ 59
  ff : s.ff.length = s.zs.length + 1
theorem Tow.rl {K : PySem.W.Frag} {C S : Addr} {H : Hp} {t : Addr} {x : TwA} {s : TwS} {ts : List Th} {B : Nat} (h : Tow K C S H t x s ts B) : s.R.length ≤ 59 := by
  have h1 := List.Nodup.length_le_of_subset h.nd (fun y hy => h.rn y hy)
  rw [List.length_map] at h1
  exact Nat.le_trans h1 h.tl
theorem Tow.s1 {K : PySem.W.Frag} {C S : Addr} {H : Hp} {t : Addr} {x : TwA} {s : TwS} {ts : List Th} {B : Nat} (h : Tow K C S H t x s ts B) : 1 ≤ s.zs.sum := by
  have h1 := h.z1
  have h2 := h.zz
  cases e : s.zs with
  | nil => rw [e] at h1; cases h1
  | cons a l =>
    rw [e] at h2
    have h3 := h2 a List.mem_cons_self
    have h4 := pre_nn (zs := l) (fun z hz => (h2 z (List.mem_cons_of_mem _ hz)).1) l.length
    unfold pre at h4
    rw [List.take_length] at h4
    rw [List.sum_cons]; omega
theorem Tow.same {K : PySem.W.Frag} {C S : Addr} {H H' : Hp} {t : Addr} {x : TwA} {s : TwS} {ts : List Th} {B : Nat} (m : Same H H') (h : Tow K C S H t x s ts B) : Tow K C S H' t x s ts B :=
  ⟨h.tw.same m, h.sk.off (.of m), h.l, h.nd, h.rs, h.z1, h.zl, h.zz, h.rn, h.tn, h.tl, h.ff⟩
noncomputable def cameR (z : Str) (s : TwS) : List Str := (z :: s.R.erase z).take s.zs.sum.toNat
theorem tow_came {K : PySem.W.Frag} {C S : Addr} {H H' : Hp} {t : Addr} {x : TwA} {s s' : TwS} {ts : List Th} {B B' : Nat} {z : Str} (h : Tow K C S H t x s ts B) (hz : z ∈ ts.map (·.1)) (o : Off (own t x) H H') (hT : TwAt C H' t x s') (eR : s'.R = cameR z s) (eZ : s'.zs = s.zs) (hL : TwL s' B' (fun y => y ∈ s'.R)) (hF : s'.ff.length = s.zs.length + 1) : Tow K C S H' t x s' ts B' := by
  have hs1 := h.s1
  refine ⟨hT, h.sk.off o, hL, ?_, ?_, by rw [eZ]; exact h.z1, by rw [eZ]; exact h.zl, by rw [eZ]; exact h.zz, fun y hy => ?_, h.tn, h.tl, by rw [eZ]; exact hF⟩
  · rw [eR]; exact (nd_come h.nd).sublist (List.take_sublist _ _)
  · rw [eR, eZ]; unfold cameR; rw [List.length_take]; omega
  · rw [eR] at hy
    rcases mem_come.mp (List.mem_of_mem_take hy) with h1 | h1
    · exact h.rn y h1
    · rw [h1]; exact hz
noncomputable def sp71_sizes (K : PySem.W.Frag) : Sp := fun vs H Q _ => ∃ (a : Addr) (zs : List Int), vs = [.ref a] ∧ SqL K H a (zs.map V.int) ∧ 1 ≤ zs.length ∧ zs.length ≤ 6 ∧ (∀ z ∈ zs, 1 ≤ z ∧ z ≤ 1000000) ∧ Q .non H
noncomputable def sp71_rooms (K : PySem.W.Frag) (S : Addr) : Sp := fun vs H Q _ => ∃ (p a : Addr) (ts : List Th) (ys : List Str), vs = [.ref p, .ref a] ∧ StockAt K S H p ts ∧ (ts.map (·.1)).Nodup ∧ SqL K H a (ys.map V.str) ∧ (∀ y ∈ ys, y ∈ ts.map (·.1)) ∧ (∀ t ∈ ts, t.2.2 = 1) ∧ ys.length ≤ 60 ∧ Q .non H
theorem step_new {H1 Hk : Hp} {t l C dx : Addr} {fs : List (Str × V)} {o : HO} {f : Str} (sb : SameBut t H1 Hk) (ht : Hk t = some (.ins C dx fs)) (hl : Hk l = none) :
    SameBut t H1 (upd (upd Hk l o) t (.ins C dx (putF f (.ref l) fs))) ∧ upd (upd Hk l o) t (.ins C dx (putF f (.ref l) fs)) t = some (.ins C dx (putF f (.ref l) fs)) ∧ upd (upd Hk l o) t (.ins C dx (putF f (.ref l) fs)) l = some o ∧
      (∀ b u, Hk b = some u → b ≠ t → upd (upd Hk l o) t (.ins C dx (putF f (.ref l) fs)) b = some u) ∧ H1 l = none ∧ l ≠ t ∧ (∀ b u, Hk b = some u → b ≠ l) := by
  have ntl : l ≠ t := (ne_of_none ht hl).symm
  have kp : ∀ b u, Hk b = some u → b ≠ t → upd (upd Hk l o) t (.ins C dx (putF f (.ref l) fs)) b = some u := fun b u e n => by
    rw [upd_ne n, upd_ne (ne_of_none e hl)]; exact e
  refine ⟨fun b u e n => kp b u (sb b u e n) n, upd_same, by rw [upd_ne ntl]; exact upd_same, kp, ?_, ntl, fun b u e => ne_of_none e hl⟩
  cases q : H1 l with
  | none => rfl
  | some u => rw [sb _ _ q ntl] at hl; cases hl
theorem putF_le {f : Str} {v : V} {fs : List (Str × V)} {k : Nat} (h : fs.length ≤ k) : (putF f v fs).length ≤ k + 1 := Nat.le_trans (length_putF f v fs) (Nat.succ_le_succ h)
noncomputable def f1 (x : TwA) : List (Str × V) := putF (Str.ofString "sizes") (.ref x.si) (putF (Str.ofString "stock") (.ref x.st) [])
noncomputable def f3 (x : TwA) : List (Str × V) := putF (Str.ofString "late") (.ref x.la) (putF (Str.ofString "held") (.ref x.he) (putF (Str.ofString "row") (.ref x.ro) (f1 x)))
noncomputable def f6 (x : TwA) : List (Str × V) := putF (Str.ofString "paid") (.int 0) (putF (Str.ofString "finds") (.ref x.fi) (putF (Str.ofString "entries") (.ref x.en) (putF (Str.ofString "store") (.ref x.so) (f3 x))))
theorem tfs_init (x : TwA) : Tfs x 0 (f6 x) := by
  unfold f6 f3 f1
  refine ⟨?_, ?_, ?_, ?_, ?_, ?_, ?_, ?_, ?_, ?_, ?_⟩
  case refine_10 => exact Nat.lt_of_le_of_lt (putF_le (putF_le (putF_le (putF_le (putF_le (putF_le (putF_le (putF_le (putF_le (Nat.le_refl _)))))))))) (by decide)
  case refine_11 =>
    intro m hm
    have hne : ∀ m ∈ [Str.ofString "levels", Str.ofString "stored", Str.ofString "shelf_of", Str.ofString "fetch", Str.ofString "come", Str.ofString "fall_off", Str.ofString "write", Str.ofString "settle", Str.ofString "read", Str.ofString "keep", Str.ofString "rest", Str.ofString "ahead", Str.ofString "diary", Str.ofString "found", Str.ofString "spent"], m ≠ Str.ofString "paid" ∧ m ≠ Str.ofString "finds" ∧ m ≠ Str.ofString "entries" ∧ m ≠ Str.ofString "store" ∧ m ≠ Str.ofString "late" ∧ m ≠ Str.ofString "held" ∧ m ≠ Str.ofString "row" ∧ m ≠ Str.ofString "sizes" ∧ m ≠ Str.ofString "stock" := by decide +kernel
    obtain ⟨h1, h2, h3, h4, h5, h6, h7, h8, h9⟩ := hne m hm
    rw [lookup_putF, if_neg h1, lookup_putF, if_neg h2, lookup_putF, if_neg h3, lookup_putF, if_neg h4, lookup_putF, if_neg h5, lookup_putF, if_neg h6, lookup_putF, if_neg h7, lookup_putF, if_neg h8, lookup_putF, if_neg h9]
    rfl
  all_goals repeat first | (rw [lookup_putF, if_pos rfl]; done) | rw [lookup_putF, if_neg (by decide +kernel)]
theorem StockT.ins {K : PySem.W.Frag} {S C : Addr} {H : Hp} {p t dx : Addr} {ts : List Th} {L : List Addr} (ht : H t = some (.ins C dx [])) (h : StockT K S H p ts L) : StockT K S H p ts (t :: L) := by
  obtain ⟨dy, d, kvs, h1, h2, n1, n2, h3, h4⟩ := h.ex
  have k : ∀ (b : Addr) (u : HO), H b = some u → u ≠ .ins C dx [] → b ∉ L → b ∉ t :: L := fun b u e ne n z => by
    rcases List.mem_cons.mp z with h | h
    · rw [h, ht] at e; cases e; exact ne rfl
    · exact n h
  refine ⟨dy, d, kvs, h1, h2, k _ _ h1 (by intro z; injection z with _ _ z; cases z) n1, k _ _ h2 (by intro z; cases z) n2, h3, fun i t' e => ?_⟩
  obtain ⟨a, e1, ⟨e2, n⟩ | e2⟩ := h4 i t' e
  · refine ⟨a, e1, .inl ⟨e2, ?_⟩⟩
    rcases e2 with h | ⟨ob, h⟩
    · exact k _ _ h (by intro z; cases z) n
    · exact k _ _ h (by intro z; cases z) n
  · exact ⟨a, e1, .inr e2⟩
theorem rep0 (n : Nat) : (List.replicate ((n : Int) + 1).toNat [V.int 0]).flatten = (List.replicate (n + 1) (0 : Int)).map V.int := by
  rw [show ((n : Int) + 1).toNat = n + 1 by omega, List.map_replicate, List.flatten_replicate_singleton]
end N71
namespace L2
open PySem PySem.Spec PyProof.Rows
noncomputable def tOr2 (t1 t2 : TE) : TE := fun σ H Q => t1 σ H Q ∨ t2 σ H Q
theorem pe_or2 {X : Cx} {e : Expr} {t1 t2 : TE} (h1 : PE X e t1) (h2 : PE X e t2) : PE X e (tOr2 t1 t2) := fun pins s σ H Q I h => h.elim (h1 pins s σ H Q I) (h2 pins s σ H Q I)
theorem rd_or2 {t1 t2 : TE} {σ : St} {H : Hp} {Q : VK} : tOr2 t1 t2 σ H Q = (t1 σ H Q ∨ t2 σ H Q) := rfl
end L2
namespace L2
open PySem PySem.Spec PyProof.Rows
section
variable {K : PySem.W.Frag} {σ : St} {H : Hp} {D : Ends} {Q : VK}
theorem rd_pop {x : V} {vs : List V} : rPop x vs H Q = ∃ l xs y, x = .ref l ∧ vs = [] ∧ H l = some (.lst xs) ∧ xs[xs.length - 1]? = some y ∧ Q y (upd H l (.lst xs.dropLast)) := rfl
theorem rd_fldaug {ta tv : TE} {rd : V → V → Hp → VK → Prop} {f : Str} : sFldAug K ta tv rd f D σ H = ta σ H fun x H1 => ∃ a C dx fs v, x = .ref a ∧ H1 a = some (.ins C dx fs) ∧ Cls K C ∧ NoAttr K C f ∧ fs.lookup f = some v ∧
  tv σ H1 fun y H2 => rd v y H2 fun z H3 => ∃ dx' fs', H3 a = some (.ins C dx' fs') ∧ fs'.length < 1000 ∧ D.nx σ (upd H3 a (.ins C dx' (putF f z fs'))) := rfl
theorem rd_aug {i : Nat} {te : TE} {ti : TIp} : tAug i te ti D σ H = ∃ x, σ[i]? = some (some x) ∧ te σ H fun y H1 => ti x y H1 fun z H2 => D.nx (σ.set i (some z)) H2 := rfl
end
end L2
namespace L2
open PySem PySem.Spec PyProof.Rows N1 N5
noncomputable def LikeLL (K : PySem.W.Frag) (H : Hp) (x y : V) : Prop := ∃ (a b : Addr) (as bs : List Addr), x = .ref a ∧ y = .ref b ∧ SqL K H a (as.map V.ref) ∧ SqL K H b (bs.map V.ref) ∧ as.length = bs.length ∧ ∀ (i : Nat) (p q : Addr), as[i]? = some p → bs[i]? = some q → ∃ xs, SqL K H p xs ∧ SqL K H q xs ∧ xs.all flatV = true
noncomputable def rNeLL (K : PySem.W.Frag) : R2 := fun x y H Q => LikeLL K H x y ∧ Q (.bl false) H
section
variable {X : Cx}
end
theorem rd_neLL {K : PySem.W.Frag} {H : Hp} {Q : VK} {x y : V} : rNeLL K x y H Q = (LikeLL K H x y ∧ Q (.bl false) H) := rfl
end L2
namespace N71
open PySem PySem.Spec PyProof.Rows L2 N1 N5 N4 N6 N12
noncomputable def sp71_lsizes : Sp := fun vs H Q _ => ∃ c : Int, vs = [.int c] ∧ ∀ (p : Addr) (zs : List Int) (H' : Hp), H p = none → Same H H' → H' p = some (.lst (zs.map V.int)) → 1 ≤ zs.length → zs.length ≤ 6 → (∀ z ∈ zs, 1 ≤ z ∧ z ≤ 1000000) → Q (.ref p) H'
theorem Tow.up {K : PySem.W.Frag} {C S : Addr} {H : Hp} {t : Addr} {x : TwA} {s : TwS} {ts : List Th} {B B' : Nat} (h : Tow K C S H t x s ts B) (hB : B ≤ B') (hb : B' ≤ 100000) : Tow K C S H t x s ts B' :=
  ⟨h.tw, h.sk, h.l.iff (fun _ => Iff.rfl) hB hb, h.nd, h.rs, h.z1, h.zl, h.zz, h.rn, h.tn, h.tl, h.ff⟩
theorem cut_5_105 (ns : List Int) : ∃ cs : List Int, cutV (ns.map V.int) (some 5) (some 105) = cs.map V.int ∧ cs.length ≤ ns.length := by
  unfold cutV
  rw [← List.map_drop, ← List.map_take]
  refine ⟨_, rfl, ?_⟩
  rw [List.length_take, List.length_drop]
  exact Nat.le_trans (Nat.min_le_right _ _) (Nat.sub_le _ _)
theorem own_off {L L' : List Addr} {H : Hp} {b : Addr} {o : HO} (m : ∀ c ∈ L', c ∈ L ∨ H c = none) (e : H b = some o) (n : b ∉ L) : b ∉ L' := fun h => by
  rcases m b h with h | h
  · exact n h
  · rw [h] at e; cases e
end N71

set_option Elab.async false
set_option linter.all false
set_option maxRecDepth 100000
set_option maxHeartbeats 4000000
namespace L2
open PySem PySem.Spec PyProof.Rows
noncomputable def Itk (o : Obj) (d : Addr) : It :=
  ⟨fun i H => ∃ kvs p, H d = some (.frz o (.dK kvs)) ∧ kvs[i]? = some p, fun i H v H' => H' = H ∧ ∀ kvs, H d = some (.frz o (.dK kvs)) → ∃ p, kvs[i]? = some p ∧ v = kV p.1,
    fun i H => ∃ kvs, H d = some (.frz o (.dK kvs)) ∧ kvs.length ≤ i⟩
noncomputable def tnK (o : Obj) (I d : Addr) (i : Nat) (h : Heap) : Prop := d ≠ I ∧ ∃ es ep, o.data = .dict es ep ∧ h.IsKeyIter I d i es.size ep
theorem turn_keys {P : Program} {w : World} {K : PySem.W.Frag} {tg : Expr} (o : Obj) (d I : Addr) : Turn P w K tg (Itk o d) [I] I (tnK o I d) where
  mem := by simp
  obj := fun i h st c hc => by
    obtain ⟨_, es, ep, _, o1, h1, h2, h3⟩ := st
    have hc : c = I := by simpa using hc
    subst hc
    exact ⟨_, h1, fun v z => by rw [h3] at z; cases z⟩
  keep := fun i h h' st kk => by
    obtain ⟨ne, es, ep, hd, o1, h1, h2, h3⟩ := st
    exact ⟨ne, es, ep, hd, o1, kk I (by simp) _ h1, h2, h3⟩
  item := by
    intro X hP hw hK hc i pins s σ H E J hf st hg
    subst hP hw hK
    obtain ⟨kvs, p, hd, hp⟩ := hg
    obtain ⟨ne, es, ep, hdat, h1⟩ := st
    obtain ⟨e, z, lo, ws, rel, ob, es2, ep2, e1, c1, d1, r1⟩ := J.hok d _ hd
    have e1' := e1
    rw [e] at e1'
    cases e1'
    rw [hdat] at d1
    cases d1
    have dat : s.heap.DictAt (mixKind X.prog X.w) d ws ep := ⟨o, es, e1, c1, hdat, r1⟩
    have hsz : es.size = ws.length := by
      obtain ⟨_, hpr, _⟩ := r1
      rw [← hpr.length]; simp
    rw [hsz] at h1
    have hlw : i < ws.length := by rw [← rel.length]; exact (List.getElem?_eq_some_iff.mp hp).1
    have hw : ws[i]? = some (ws[i]) := List.getElem?_eq_getElem hlw
    obtain ⟨p', hp', hpk, hpv⟩ := paired_get rel hw
    rw [hp] at hp'
    cases hp'
    obtain ⟨f0, f1, f2, f3, f4, f5⟩ := hf I (by simp)
    refine wpAny_pyNext_dict_item h1 dat (k := (ws[i]).1) (v := (ws[i]).2) hw fun key h' hkey hit' sb => ?_
    have I1 : Inv X pins σ H { s with heap := h' } := J.turned (t' := s.toks) (fun b o hb e => (sb.2 b hb).trans e) f0 f1 f3 f4 f5
    have rk : RelV (kV p.1) key := by rw [hpk]; exact kV_of hkey
    obtain ⟨o', e', c', d'⟩ := id hit'
    exact ⟨key, rfl, go_of (s := { s with heap := h' }) e' c' d' (by decide) ⟨kV p.1, H, I1, rk, ⟨rfl, fun kvs' hy' => by rw [hd] at hy'; cases hy'; exact ⟨p, hp, rfl⟩⟩, ⟨ne, es, ep, hdat, by rw [hsz]; exact hit'⟩, fun c hc => (hf c hc).1⟩⟩
  done := by
    intro X hP hw hK hc i pins s σ H E J hf st hg
    subst hP hw hK
    obtain ⟨kvs, hd, hl⟩ := hg
    obtain ⟨ne, es, ep, hdat, h1⟩ := st
    obtain ⟨e, z, lo, ws, rel, ob, es2, ep2, e1, c1, d1, r1⟩ := J.hok d _ hd
    have e1' := e1
    rw [e] at e1'
    cases e1'
    rw [hdat] at d1
    cases d1
    have dat : s.heap.DictAt (mixKind X.prog X.w) d ws ep := ⟨o, es, e1, c1, hdat, r1⟩
    have hsz : es.size = ws.length := by
      obtain ⟨_, hpr, _⟩ := r1
      rw [← hpr.length]; simp
    rw [hsz] at h1
    have hn : ws[i]? = none := List.getElem?_eq_none (by rw [← rel.length]; exact hl)
    obtain ⟨f0, f1, f2, f3, f4, f5⟩ := hf I (by simp)
    exact wpAny_pyNext_dict_end (J.ok.hd hc) h1 dat hn fun h' eb => ⟨rfl, J.turned (t' := s.toks) (fun b o hb e => eb b o hb e) f0 f1 f3 f4 f5⟩
  self := fun A i s Q E st h => by
    obtain ⟨_, es, ep, _, h1⟩ := st
    exact wpAny_pyIter_keyiter h1 h
section
variable {X : Cx}
noncomputable def iDict (tl : TE) : TI := fun σ H R => tl σ H fun x H1 => ∃ d kvs, x = .ref d ∧ ((H1 d = some (.dK kvs) ∧ ∀ o, R (Itk o d) (upd H1 d (.frz o (.dK kvs)))) ∨ ∃ o, H1 d = some (.frz o (.dK kvs)) ∧ R (Itk o d) H1)
theorem pi_dict {tg e : Expr} {tl : TE} (hl : PE X e tl) : PI X tg e (iDict tl) := by
  intro pins s σ H R I h
  refine thn (hl pins s σ H _ I h) fun u s1 ⟨x, H1, I1, rx, q⟩ => ?_
  obtain ⟨d, kvs, rfl, hq⟩ := q
  cases rx
  have key : ∀ (o : Obj) (H2 : Hp), Inv X pins σ H2 s1 → H2 d = some (.frz o (.dK kvs)) → R (Itk o d) H2 → wpAny (model X.prog X.w) X.A (pyIter (.ref d)) (PIE X pins σ tg R) X.xe s1 := by
    intro ob H2 I2 hd q
    obtain ⟨e, z, lo, ws, rel, ob', es2, ep2, e1, c1, d1, r1⟩ := I2.hok d _ hd
    have e1' := e1
    rw [e] at e1'
    cases e1'
    have dat : s1.heap.DictAt (mixKind X.prog X.w) d ws ep2 := ⟨ob, es2, e1, c1, d1, r1⟩
    have hsz : es2.size = ws.length := by
      obtain ⟨_, hpr, _⟩ := r1
      rw [← hpr.length]; simp
    refine wpAny_pyIter_dict lo dat ?_
    have I3 : Inv X pins σ H2 { s1 with heap := s1.heap.push { cls := .type "dict_keyiterator", data := .fields #[.ref d, .int 0 0, .int ws.length 0, .int ep2 0] } } := I2.kept (t' := s1.toks) fun b o e => Heap.get?_push_of_some _ e
    have ltd := Heap.lt_size e1
    refine ⟨s1.heap.objs.size, [s1.heap.objs.size], _, _, _, rfl, I3, turn_keys ob d s1.heap.objs.size, ⟨Nat.ne_of_lt ltd, es2, ep2, d1, ?_⟩, fun c hc => ?_, q⟩
    · rw [hsz]; exact ⟨_, Heap.get?_push_size _ rfl, rfl, rfl⟩
    · have hc : c = s1.heap.objs.size := by simpa using hc
      subst hc
      exact I2.fpOk (Nat.le_refl _) (I2.hok.fresh (Nat.le_refl _))
  rcases hq with ⟨hd, q⟩ | ⟨o, hd, q⟩
  · obtain ⟨z, lo, ws, rel, ob, es2, ep2, e1, c1, d1, r1⟩ := I1.hok d _ hd
    have I2 : Inv X pins σ (upd H1 d (.frz ob (.dK kvs))) { s1 with heap := s1.heap, toks := s1.toks } := I1.write (x := d) (e := d) (by rw [hd]; trivial) (.inl rfl) (fun b u _ e => e) ⟨ob, e1⟩ ⟨e1, z, lo, ws, rel, ob, es2, ep2, e1, c1, d1, r1⟩
    exact key ob _ I2 upd_same (q ob)
  · exact key o H1 I1 hd q
end
section
variable {σ : St} {H : Hp} {D : Ends}
theorem rd_idict {tl : TE} {R : It → Hp → Prop} : iDict tl σ H R = tl σ H fun x H1 => ∃ d kvs, x = .ref d ∧ ((H1 d = some (.dK kvs) ∧ ∀ o, R (Itk o d) (upd H1 d (.frz o (.dK kvs)))) ∨ ∃ o, H1 d = some (.frz o (.dK kvs)) ∧ R (Itk o d) H1) := rfl
theorem forK_by {o : Obj} {d : Addr} {kvs : List (Key × V)} {g : TG} {tb : TS} (Pv : Nat → St → Hp → Prop) (h0 : Pv 0 σ H) (hl : ∀ i σ H, i ≤ kvs.length → Pv i σ H → H d = some (.frz o (.dK kvs)))
    (hs : ∀ i p σ H, kvs[i]? = some p → Pv i σ H → g (kV p.1) σ H fun σ2 H2 => tb { D with nx := Pv (i + 1), ct := Pv (i + 1), bk := D.nx } σ2 H2) (hd : ∀ σ H, Pv kvs.length σ H → D.nx σ H) : ForTail g tb D σ (Itk o d) H := by
  refine ⟨fun i m σ H => i ≤ kvs.length ∧ m = kvs.length - i ∧ Pv i σ H, ⟨_, Nat.zero_le _, rfl, h0⟩, fun i m σ H ⟨hi, hm, hP⟩ => ?_⟩
  have hq := hl i σ H hi hP
  cases hx : kvs[i]? with
  | none =>
    have hn : kvs.length ≤ i := by simpa using hx
    have e : i = kvs.length := Nat.le_antisymm hi hn
    subst e
    exact .inl ⟨⟨kvs, hq, Nat.le_refl _⟩, hd σ H hP⟩
  | some p =>
    have hlt : i < kvs.length := (List.getElem?_eq_some_iff.mp hx).1
    refine .inr ⟨⟨kvs, p, hq, hx⟩, Pv (i + 1), fun σ' H' h => ⟨kvs.length - (i + 1), by omega, by omega, rfl, h⟩, ?_⟩
    rintro y H' ⟨rfl, hy⟩
    obtain ⟨p', hp', rfl⟩ := hy kvs hq
    have e := hp'.symm.trans hx
    cases e
    exact hs i _ σ H' hx hP
end
end L2

set_option Elab.async false
set_option linter.all false
set_option maxRecDepth 100000
set_option maxHeartbeats 1000000
namespace N74
open PySem PySem.Spec PyProof.Rows L2 N1 N5 N4 N6 N12 N71
structure Gt where
  h : Str → Int
  l : Str → Bool
  st : Str → Int
  es : List (List V)
noncomputable def setF {α : Type} (f : Str → α) (z : Str) (v : α) : Str → α := fun y => if y = z then v else f y
theorem setF_same {α : Type} {f : Str → α} {z : Str} {v : α} : setF f z v z = v := if_pos rfl
theorem setF_ne {α : Type} {f : Str → α} {z y : Str} {v : α} (n : y ≠ z) : setF f z v y = f y := if_neg n
noncomputable def wrT (z : Str) (v : Int) : List V := [.str (Str.ofString "write"), .str z, .int v]
noncomputable def Gt.write (g : Gt) (z : Str) : Gt := { g with st := setF g.st z (g.h z), es := g.es ++ [wrT z (g.h z)] }
noncomputable def Gt.late (g : Gt) (z : Str) (b : Bool) : Gt := { g with l := setF g.l z b }
noncomputable def Gt.hold (g : Gt) (z : Str) (v : Int) : Gt := { g with h := setF g.h z v }
noncomputable def settleG (pr : Bool) (z : Str) (g : Gt) : Gt := if pr then g.write z else g.late z true
noncomputable def fallG (z : Str) (g : Gt) : Gt := if g.l z then (g.late z false).write z else g
noncomputable def lastS (R : List Str) : Str := (R[R.length - 1]?).getD Str.empty
noncomputable def comeG (S : Int) (R : List Str) (z : Str) (g : Gt) : Gt := if S < ((z :: R.erase z).length : Int) then fallG (lastS (z :: R.erase z)) g else g
noncomputable def fetchG (w z : Str) (g : Gt) : Gt := { g with es := g.es ++ [[.str w, .str z]], h := setF g.h z (g.st z) }
noncomputable def readG (S : Int) (R : List Str) (z : Str) (g : Gt) : Gt := comeG S R z (if z ∈ R then g else fetchG (Str.ofString "fetch") z g)
noncomputable def keepG (pr : Bool) (S : Int) (R : List Str) (z : Str) (v : Int) (g : Gt) : Gt := comeG S R z (settleG pr z (g.hold z v))
noncomputable def aheadG (S : Int) (R : List Str) (z : Str) (g : Gt) : Gt := if z ∈ R then g else comeG S R z (fetchG (Str.ofString "ahead") z g)
noncomputable def writesG (ys : List Str) (g : Gt) : Gt := ys.foldl (fun g y => g.write y) g
noncomputable def restG (R : List Str) (g : Gt) : Gt := { writesG (R.filter g.l) g with l := fun _ => false }
structure TwG (H : Hp) (s : TwS) (g : Gt) (B : Nat) (hd : Str → Prop) : Prop where
  h : ∀ y, hd y → valV s.kh (Sum.inr y) = some (.int (g.h y))
  l : ∀ y, (valV s.kl (Sum.inr y)).isSome = g.l y
  lh : ∀ y, g.l y = true → hd y
  st : ∀ y, (valV s.ks (Sum.inr y)).getD (.int 0) = .int (g.st y)
  es : ∃ us : List Addr, s.es = us.map V.ref ∧ us.length = g.es.length ∧ ∀ (i : Nat) (u : Addr) (e : List V), us[i]? = some u → g.es[i]? = some e → H u = some (.tup e)
  n1 : s.kh.length ≤ B
  n2 : s.kl.length ≤ B
  n3 : s.ks.length ≤ B
  n4 : s.es.length ≤ B
  b : B ≤ 100000
  fl : ∀ e ∈ g.es, e.all flatV = true
section
variable {H H' : Hp} {s s' : TwS} {g : Gt} {B B' : Nat} {hd q : Str → Prop} {z : Str}
theorem TwG.toL (h : TwG H s g B hd) : TwL s B hd := by
  refine ⟨fun y hy => ⟨_, h.h y hy⟩, fun y hy => h.lh y (by rw [← h.l y]; exact hy), fun y v hv => ?_, h.n1, h.n2, h.n3, h.n4, h.b⟩
  have := h.st y
  rw [hv] at this
  exact ⟨_, this⟩
theorem TwG.keep (h : TwG H s g B hd) (k : ∀ v e, H v = some (.tup e) → H' v = some (.tup e)) : TwG H' s g B hd := by
  obtain ⟨us, e1, e2, e3⟩ := h.es
  exact ⟨h.h, h.l, h.lh, h.st, ⟨us, e1, e2, fun i u e h1 h2 => k _ _ (e3 i u e h1 h2)⟩, h.n1, h.n2, h.n3, h.n4, h.b, h.fl⟩
theorem TwG.same (m : Same H H') (h : TwG H s g B hd) : TwG H' s g B hd := h.keep fun v e hv => m _ _ hv
theorem keepT {C t : Addr} {x : TwA} (hT : TwAt C H t x s') (o : Off (own t x) H H') : ∀ v e, H v = some (.tup e) → H' v = some (.tup e) := fun v e hv => by
  refine o v _ hv fun hm => ?_
  obtain ⟨dx, fs, h1, h2⟩ := hT.o
  have hm' : v = t ∨ v = x.ro ∨ v = x.he ∨ v = x.la ∨ v = x.so ∨ v = x.en ∨ v = x.fi := by simpa [own] using hm
  rcases hm' with e | e | e | e | e | e | e <;> rw [e] at hv
  · rw [h1] at hv; cases hv
  · rw [hT.ro] at hv; cases hv
  · rw [hT.he] at hv; cases hv
  · rw [hT.la] at hv; cases hv
  · rw [hT.so] at hv; cases hv
  · rw [hT.en] at hv; cases hv
  · rw [hT.fi] at hv; cases hv
theorem TwG.off {C t : Addr} {x : TwA} (hT : TwAt C H t x s') (o : Off (own t x) H H') (h : TwG H s g B hd) : TwG H' s g B hd := h.keep (keepT hT o)
theorem TwG.iff (h : TwG H s g B hd) (e : ∀ u, hd u ↔ q u) (hB : B ≤ B') (hb : B' ≤ 100000) : TwG H s g B' q :=
  ⟨fun y hy => h.h y ((e y).mpr hy), h.l, fun y hy => (e y).mp (h.lh y hy), h.st, h.es, Nat.le_trans h.n1 hB, Nat.le_trans h.n2 hB, Nat.le_trans h.n3 hB, Nat.le_trans h.n4 hB, hb, h.fl⟩
theorem TwG.cast (h : TwG H s g B hd) (e1 : s'.kh = s.kh) (e2 : s'.kl = s.kl) (e3 : s'.ks = s.ks) (e4 : s'.es = s.es) : TwG H s' g B hd :=
  ⟨by rw [e1]; exact h.h, by rw [e2]; exact h.l, h.lh, by rw [e3]; exact h.st, by rw [e4]; exact h.es, by rw [e1]; exact h.n1, by rw [e2]; exact h.n2, by rw [e3]; exact h.n3, by rw [e4]; exact h.n4, h.b, h.fl⟩
theorem inr_ne {y z : Str} (e : y ≠ z) : (Sum.inr y : Key) ≠ Sum.inr z := fun h => e (by injection h)
theorem es_snoc {us : List Addr} {ee : List (List V)} {u : Addr} {e : List V} (hl : us.length = ee.length) (k : ∀ v e, H v = some (.tup e) → H' v = some (.tup e)) (h : ∀ (i : Nat) (u : Addr) (e : List V), us[i]? = some u → ee[i]? = some e → H u = some (.tup e)) (hu : H' u = some (.tup e)) :
    ∀ (i : Nat) (v : Addr) (f : List V), (us ++ [u])[i]? = some v → (ee ++ [e])[i]? = some f → H' v = some (.tup f) := by
  intro i v f h1 h2
  by_cases hi : i < us.length
  · rw [List.getElem?_append_left hi] at h1
    rw [List.getElem?_append_left (by omega)] at h2
    exact k _ _ (h i v f h1 h2)
  · have h3 := (List.getElem?_eq_some_iff.mp h1).1
    rw [List.length_append] at h3
    have h4 : i = us.length := by simp at h3; omega
    subst h4
    rw [List.getElem?_append_right (Nat.le_refl _), Nat.sub_self] at h1
    rw [hl, List.getElem?_append_right (Nat.le_refl _), Nat.sub_self] at h2
    cases h1
    cases h2
    exact hu
theorem fl_snoc {ee : List (List V)} {e : List V} (h : ∀ e ∈ ee, e.all flatV = true) (he : e.all flatV = true) : ∀ f ∈ ee ++ [e], f.all flatV = true := fun f hf => by
  rcases List.mem_append.mp hf with h1 | h1
  · exact h f h1
  · rw [List.mem_singleton.mp h1]; exact he
theorem TwG.wrote (h : TwG H s g B hd) (hz : hd z) (k : ∀ v e, H v = some (.tup e) → H' v = some (.tup e)) {u : Addr} (hu : H' u = some (.tup (wrT z (g.h z)))) (hB : B + 1 ≤ 100000) : TwG H' { s with ks := putK s.ks (Sum.inr z) (.int (g.h z)), es := s.es ++ [.ref u] } (g.write z) (B + 1) hd := by
  obtain ⟨us, e1, e2, e3⟩ := h.es
  have h5 := length_putK s.ks (Sum.inr z : Key) (V.int (g.h z))
  refine ⟨h.h, h.l, h.lh, fun y => ?_, ⟨us ++ [u], by rw [List.map_append, e1]; rfl, by show _ = (g.es ++ [_]).length; rw [List.length_append, List.length_append, e2]; rfl, es_snoc e2 k e3 hu⟩, Nat.le_succ_of_le h.n1, Nat.le_succ_of_le h.n2, by have := h.n3; show (putK _ _ _).length ≤ _; omega, by have := h.n4; show (s.es ++ [_]).length ≤ _; rw [List.length_append]; show s.es.length + 1 ≤ _; omega, hB, fl_snoc h.fl rfl⟩
  show (valV (putK s.ks (Sum.inr z) (.int (g.h z))) (Sum.inr y)).getD (.int 0) = .int (setF g.st z (g.h z) y)
  rw [valV_put]
  by_cases e : y = z
  · subst e; rw [if_pos rfl, setF_same]; rfl
  · rw [if_neg (inr_ne e), setF_ne e]; exact h.st y
theorem TwG.noted (h : TwG H s g B hd) (k : ∀ v e, H v = some (.tup e) → H' v = some (.tup e)) {u : Addr} {e : List V} (hu : H' u = some (.tup e)) (he : e.all flatV = true) (hB : B + 1 ≤ 100000) {pd : Int} : TwG H' { s with pd := pd, es := s.es ++ [.ref u] } { g with es := g.es ++ [e] } (B + 1) hd := by
  obtain ⟨us, e1, e2, e3⟩ := h.es
  exact ⟨h.h, h.l, h.lh, h.st, ⟨us ++ [u], by rw [List.map_append, e1]; rfl, by show _ = (g.es ++ [_]).length; rw [List.length_append, List.length_append, e2]; rfl, es_snoc e2 k e3 hu⟩, Nat.le_succ_of_le h.n1, Nat.le_succ_of_le h.n2, Nat.le_succ_of_le h.n3, by have := h.n4; show (s.es ++ [_]).length ≤ _; rw [List.length_append]; show s.es.length + 1 ≤ _; omega, hB, fl_snoc h.fl he⟩
theorem TwG.fetched (h : TwG H s g B hd) (k : ∀ v e, H v = some (.tup e) → H' v = some (.tup e)) {u : Addr} {w : Str} (hu : H' u = some (.tup [.str w, .str z])) (hB : B + 1 ≤ 100000) {pd : Int} : TwG H' { s with pd := pd, es := s.es ++ [.ref u], kh := putK s.kh (Sum.inr z) (.int (g.st z)) } (fetchG w z g) (B + 1) (fun y => hd y ∨ y = z) := by
  obtain ⟨us, e1, e2, e3⟩ := h.es
  have h5 := length_putK s.kh (Sum.inr z : Key) (V.int (g.st z))
  refine ⟨fun y hy => ?_, h.l, fun y hy => .inl (h.lh y hy), h.st, ⟨us ++ [u], by rw [List.map_append, e1]; rfl, by show _ = (g.es ++ [_]).length; rw [List.length_append, List.length_append, e2]; rfl, es_snoc e2 k e3 hu⟩, by have := h.n1; show (putK _ _ _).length ≤ _; omega, Nat.le_succ_of_le h.n2, Nat.le_succ_of_le h.n3, by have := h.n4; show (s.es ++ [_]).length ≤ _; rw [List.length_append]; show s.es.length + 1 ≤ _; omega, hB, fl_snoc h.fl rfl⟩
  show valV (putK s.kh (Sum.inr z) (.int (g.st z))) (Sum.inr y) = some (.int (setF g.h z (g.st z) y))
  rw [valV_put]
  by_cases e : y = z
  · subst e; rw [if_pos rfl, setF_same]
  · rw [if_neg (inr_ne e), setF_ne e]; exact h.h y (hy.resolve_right e)
theorem TwG.kept (h : TwG H s g B hd) (v : Int) (hB : B + 1 ≤ 100000) : TwG H { s with kh := putK s.kh (Sum.inr z) (.int v) } (g.hold z v) (B + 1) (fun y => hd y ∨ y = z) := by
  have h5 := length_putK s.kh (Sum.inr z : Key) (V.int v)
  refine ⟨fun y hy => ?_, h.l, fun y hy => .inl (h.lh y hy), h.st, h.es, by have := h.n1; show (putK _ _ _).length ≤ _; omega, Nat.le_succ_of_le h.n2, Nat.le_succ_of_le h.n3, Nat.le_succ_of_le h.n4, hB, h.fl⟩
  show valV (putK s.kh (Sum.inr z) (.int v)) (Sum.inr y) = some (.int (setF g.h z v y))
  rw [valV_put]
  by_cases e : y = z
  · subst e; rw [if_pos rfl, setF_same]
  · rw [if_neg (inr_ne e), setF_ne e]; exact h.h y (hy.resolve_right e)
theorem TwG.lateOn (h : TwG H s g B hd) (hz : hd z) (hB : B + 1 ≤ 100000) : TwG H { s with kl := putK s.kl (Sum.inr z) (.bl true) } (g.late z true) (B + 1) hd := by
  have h5 := length_putK s.kl (Sum.inr z : Key) (V.bl true)
  refine ⟨h.h, fun y => ?_, fun y hy => ?_, h.st, h.es, Nat.le_succ_of_le h.n1, by have := h.n2; show (putK _ _ _).length ≤ _; omega, Nat.le_succ_of_le h.n3, Nat.le_succ_of_le h.n4, hB, h.fl⟩
  · show (valV (putK s.kl (Sum.inr z) (.bl true)) (Sum.inr y)).isSome = setF g.l z true y
    rw [valV_put]
    by_cases e : y = z
    · subst e; rw [if_pos rfl, setF_same]; rfl
    · rw [if_neg (inr_ne e), setF_ne e]; exact h.l y
  · by_cases e : y = z
    · rw [e]; exact hz
    · have hy2 : setF g.l z true y = true := hy
      rw [setF_ne e] at hy2
      exact h.lh y hy2
theorem TwG.lateOff (h : TwG H s g B hd) : TwG H { s with kl := dropK s.kl (Sum.inr z) } (g.late z false) B hd := by
  have h5 := dropK_ls s.kl (Sum.inr z : Key)
  refine ⟨h.h, fun y => ?_, fun y hy => ?_, h.st, h.es, h.n1, by have := h.n2; show (dropK _ _).length ≤ _; omega, h.n3, h.n4, h.b, h.fl⟩
  · show (valV (dropK s.kl (Sum.inr z)) (Sum.inr y)).isSome = setF g.l z false y
    by_cases e : y = z
    · subst e; rw [valV_drop_same, setF_same]; rfl
    · rw [valV_dropK (inr_ne e), setF_ne e]; exact h.l y
  · have hy2 : setF g.l z false y = true := hy
    by_cases e : y = z
    · rw [e, setF_same] at hy2; cases hy2
    · rw [setF_ne e] at hy2; exact h.lh y hy2
theorem TwG.popped (h : TwG H s g B hd) (hz : g.l z = false) : TwG H { s with kh := dropK s.kh (Sum.inr z) } g B (fun y => hd y ∧ y ≠ z) := by
  have h5 := dropK_ls s.kh (Sum.inr z : Key)
  refine ⟨fun y hy => ?_, h.l, fun y hy => ⟨h.lh y hy, fun e => by rw [e, hz] at hy; cases hy⟩, h.st, h.es, by have := h.n1; show (dropK _ _).length ≤ _; omega, h.n2, h.n3, h.n4, h.b, h.fl⟩
  show valV (dropK s.kh (Sum.inr z)) (Sum.inr y) = _
  rw [valV_dropK (inr_ne hy.2)]; exact h.h y hy.1
theorem TwG.noLate (h : TwG H s g B hd) : TwG H { s with kl := [] } { g with l := fun _ => false } B hd :=
  ⟨h.h, (fun y => rfl), (fun y hy => by cases hy), h.st, h.es, h.n1, Nat.zero_le _, h.n3, h.n4, h.b, h.fl⟩
end
structure TowG (K : PySem.W.Frag) (C S : Addr) (H : Hp) (t : Addr) (x : TwA) (s : TwS) (g : Gt) (ts : List Th) (B : Nat) : Prop where
  to : Tow K C S H t x s ts B
  g : TwG H s g B (fun y => y ∈ s.R)
theorem TowG.same {K : PySem.W.Frag} {C S : Addr} {H H' : Hp} {t : Addr} {x : TwA} {s : TwS} {g : Gt} {ts : List Th} {B : Nat} (m : Same H H') (h : TowG K C S H t x s g ts B) : TowG K C S H' t x s g ts B := ⟨h.to.same m, h.g.same m⟩
noncomputable def costOf (ts : List Th) (z : Str) : Int := ((ts.find? fun t => t.1 = z).map fun t => t.2.1).getD 0
theorem costOf_at {ts : List Th} {z : Str} {i : Nat} {t : Th} (nd : (ts.map (·.1)).Nodup) (h : ts[i]? = some t) (e : t.1 = z) : costOf ts z = t.2.1 := by
  unfold costOf
  cases hf : ts.find? (fun t => t.1 = z) with
  | none =>
    rw [List.find?_eq_none] at hf
    exact absurd (by simpa using e) (hf t (List.mem_of_getElem? h))
  | some t' =>
    have h1 := List.mem_of_find?_eq_some hf
    have h2 : t'.1 = z := by simpa using List.find?_some hf
    obtain ⟨j, hj⟩ := List.mem_iff_getElem?.mp h1
    have ij : i = j := by
      have hi := (List.getElem?_eq_some_iff.mp h).1
      have hj' := (List.getElem?_eq_some_iff.mp hj).1
      refine (List.getElem_inj (h₀ := show i < (ts.map fun t : Th => t.1).length by simpa using hi) (h₁ := show j < (ts.map fun t : Th => t.1).length by simpa using hj') nd).mp ?_
      have a1 : ts[i] = t := (List.getElem?_eq_some_iff.mp h).2
      have a2 : ts[j] = t' := (List.getElem?_eq_some_iff.mp hj).2
      rw [List.getElem_map, List.getElem_map, a1, a2, e, h2]
    subst ij
    rw [hj] at h
    cases h
    rfl
noncomputable def sp74_write (C : Addr) : Sp := fun vs H Q _ => ∃ (t : Addr) (x : TwA) (s : TwS) (g : Gt) (z : Str) (B : Nat) (hd : Str → Prop), vs = [.ref t, .str z] ∧ TwAt C H t x s ∧ TwG H s g B hd ∧ B ≤ 90000 ∧ hd z ∧
  ∀ (s' : TwS) (H' : Hp), Off (own t x) H H' → TwAt C H' t x s' → s'.R = s.R → s'.zs = s.zs → s'.ff = s.ff → s'.pd = s.pd → s'.kl = s.kl → TwG H' s' (g.write z) (B + 1) hd → Q .non H'
noncomputable def sp74_settle (C : Addr) (pr : Bool) : Sp := fun vs H Q _ => ∃ (t : Addr) (x : TwA) (s : TwS) (g : Gt) (z : Str) (B : Nat) (hd : Str → Prop), vs = [.ref t, .str z] ∧ TwAt C H t x s ∧ TwG H s g B hd ∧ B ≤ 90000 ∧ hd z ∧
  ∀ (s' : TwS) (H' : Hp), Off (own t x) H H' → TwAt C H' t x s' → s'.R = s.R → s'.zs = s.zs → s'.ff = s.ff → s'.pd = s.pd → TwG H' s' (settleG pr z g) (B + 1) hd → Q .non H'
noncomputable def sp74_fall (C : Addr) : Sp := fun vs H Q _ => ∃ (t : Addr) (x : TwA) (s : TwS) (g : Gt) (z : Str) (B : Nat) (hd : Str → Prop), vs = [.ref t, .str z] ∧ TwAt C H t x s ∧ TwG H s g B hd ∧ B ≤ 90000 ∧ hd z ∧
  ∀ (s' : TwS) (H' : Hp), Off (own t x) H H' → TwAt C H' t x s' → s'.R = s.R → s'.zs = s.zs → s'.ff = s.ff → s'.pd = s.pd → TwG H' s' (fallG z g) (B + 1) (fun y => hd y ∧ y ≠ z) → Q .non H'
noncomputable def sp74_come (C : Addr) : Sp := fun vs H Q _ => ∃ (t : Addr) (x : TwA) (s : TwS) (g : Gt) (z : Str) (B : Nat), vs = [.ref t, .str z] ∧ TwAt C H t x s ∧ TwG H s g B (fun y => y ∈ s.R ∨ y = z) ∧ B ≤ 90000 ∧ s.R.Nodup ∧ s.R.length ≤ 60 ∧ (s.R.length : Int) ≤ s.zs.sum ∧ 1 ≤ s.zs.sum ∧
  ∀ (s' : TwS) (H' : Hp), Off (own t x) H H' → TwAt C H' t x s' → s'.R = (z :: s.R.erase z).take s.zs.sum.toNat → s'.zs = s.zs → s'.ff = s.ff → s'.pd = s.pd → TwG H' s' (comeG s.zs.sum s.R z g) (B + 1) (fun y => y ∈ s'.R) → Q .non H'
noncomputable def sp74_stored (K : PySem.W.Frag) (C S : Addr) : Sp := fun vs H Q _ => ∃ (t : Addr) (x : TwA) (s : TwS) (g : Gt) (z : Str) (ts : List Th) (B : Nat) (hd : Str → Prop), vs = [.ref t, .str z] ∧ TwAt C H t x s ∧ StockT K S H x.st ts (own t x) ∧ (ts.map (·.1)).Nodup ∧ z ∈ ts.map (·.1) ∧ TwG H s g B hd ∧ Q (.int (g.st z)) H
noncomputable def sp74_fetch (K : PySem.W.Frag) (C S : Addr) : Sp := fun vs H Q _ => ∃ (t : Addr) (x : TwA) (s : TwS) (g : Gt) (w z : Str) (ts : List Th) (B : Nat) (p : Str → Prop), vs = [.ref t, .str w, .str z] ∧ TwAt C H t x s ∧ StockT K S H x.st ts (own t x) ∧ (ts.map (·.1)).Nodup ∧ z ∈ ts.map (·.1) ∧ TwG H s g B p ∧ B ≤ 90000 ∧
  ∀ (s' : TwS) (H' : Hp), Off (own t x) H H' → TwAt C H' t x s' → s'.R = s.R → s'.zs = s.zs → s'.ff = s.ff → s'.pd = s.pd + costOf ts z → TwG H' s' (fetchG w z g) (B + 1) (fun y => p y ∨ y = z) → Q .non H'
noncomputable def sp74_diary (C : Addr) : Sp := fun vs H Q _ => ∃ (t : Addr) (x : TwA) (s : TwS), vs = [.ref t] ∧ TwAt C H t x s ∧ s.es.length ≤ 100000 ∧ ∀ (p : Addr) (H' : Hp), H p = none → Same H H' → H' p = some (.lst s.es) → Q (.ref p) H'
noncomputable def g0 : Gt := ⟨fun _ => 0, fun _ => false, fun _ => 0, []⟩
section
variable {X : Cx}
end
structure V74 (pr : Bool) (g : Gt) (vs : Str → List Int) (kv : Str → Int) : Prop where
  last : ∀ y, ∃ pre, vs y = pre ++ [kv y]
  a : ∀ y, g.l y = true → g.h y = kv y
  b : ∀ y, g.l y = false → g.st y = kv y
  c : ∀ y, g.st y ∈ vs y
  p : pr = true → ∀ y, g.l y = false
section
variable {pr : Bool} {g : Gt} {vs : Str → List Int} {kv : Str → Int}
end
noncomputable def kvsOf (ys : List Str) (la : Str → Addr) : List (Key × V) := ys.map fun y => (Sum.inr y, V.ref (la y))
theorem DGet.rd {H : Hp} {a : Addr} {kvs : List (Key × V)} {k : Key} (e : Rd H a (.dK kvs)) : DGet H a (kV k) (valV kvs k) := .inl ⟨kvs, k, e, rfl, rfl⟩
structure VAt (H : Hp) (t : Addr) (x : TwA) (d0 : Addr) (ys : List Str) (la : Str → Addr) (vs : Str → List Int) : Prop where
  d : Rd H d0 (.dK (kvsOf ys la))
  l : ∀ y ∈ ys, H (la y) = some (.lst ((vs y).map V.int))
  nd : d0 ∉ own t x
  n : ∀ y ∈ ys, la y ∉ x.si :: own t x
end N74

set_option Elab.async false
set_option linter.all false
set_option maxRecDepth 100000
set_option maxHeartbeats 1000000
namespace N74
open PySem PySem.Spec PyProof.Rows L2 N1 N5 N4 N6 N12 N71
theorem dict_go {H : Hp} {d : Addr} {kvs : List (Key × V)} {R : It → Hp → Prop} (h : Rd H d (.dK kvs)) (q : ∀ o H1, SameBut d H H1 → H1 d = some (.frz o (.dK kvs)) → R (Itk o d) H1) :
    ∃ kvs, (H d = some (.dK kvs) ∧ ∀ o, R (Itk o d) (upd H d (.frz o (.dK kvs)))) ∨ ∃ o, H d = some (.frz o (.dK kvs)) ∧ R (Itk o d) H := by
  refine ⟨kvs, ?_⟩
  rcases h with h | ⟨o, h⟩
  · exact .inl ⟨h, fun o => q o _ sameBut_upd upd_same⟩
  · exact .inr ⟨o, h, q o H (.of (Same.refl H)) h⟩
theorem TwG.es_le {H : Hp} {s : TwS} {g : Gt} {B : Nat} {hd : Str → Prop} (h : TwG H s g B hd) : s.es.length ≤ 100000 := Nat.le_trans h.n4 h.b
theorem TowG.up {K : PySem.W.Frag} {C S : Addr} {H : Hp} {t : Addr} {x : TwA} {s : TwS} {g : Gt} {ts : List Th} {B B' : Nat} (h : TowG K C S H t x s g ts B) (hB : B ≤ B') (hb : B' ≤ 100000) : TowG K C S H t x s g ts B' := ⟨h.to.up hB hb, h.g.iff (fun _ => Iff.rfl) hB hb⟩
end N74
namespace L2
open PySem PySem.Spec PyProof.Rows
end L2

set_option Elab.async false
set_option linter.all false
set_option maxRecDepth 100000
set_option maxHeartbeats 1000000
namespace L2
open PySem PySem.Spec PyProof.Rows
end L2
namespace N76
open PySem PySem.Spec PyProof.Rows L2 N1 N5 N4 N6 N12 N71 N74
structure StA where
  li : Addr
  ne : Addr
  la : Addr
  fa : Addr
  no : Addr
noncomputable def stKv (a : StA) : List (Key × V) := [(Sum.inr (Str.ofString "line"), .ref a.li), (Sum.inr (Str.ofString "near"), .ref a.ne), (Sum.inr (Str.ofString "late"), .ref a.la), (Sum.inr (Str.ofString "far"), .ref a.fa), (Sum.inr (Str.ofString "notes"), .ref a.no)]
structure StAt (H : Hp) (t : Addr) (a : StA) (s : TwS) : Prop where
  d : H t = some (.dK (stKv a))
  li : H a.li = some (.lst (s.R.map V.str))
  ne : H a.ne = some (.dK s.kh)
  la : H a.la = some (.dK s.kl)
  fa : H a.fa = some (.dK s.ks)
  no : H a.no = some (.lst s.es)
  c1 : t ≠ a.ne
  c2 : t ≠ a.la
  c3 : t ≠ a.fa
  c4 : a.ne ≠ a.la
  c5 : a.ne ≠ a.fa
  c6 : a.la ≠ a.fa
  c7 : a.li ≠ a.no
section
variable {H H' : Hp} {t : Addr} {a : StA} {s : TwS}
end
theorem ite_chain {p q A B : Prop} [Decidable p] [Decidable q] : (if p then if q then A else B else B) = if p ∧ q then A else B := by
  by_cases h1 : p
  · by_cases h2 : q
    · rw [if_pos h1, if_pos h2, if_pos ⟨h1, h2⟩]
    · rw [if_pos h1, if_neg h2, if_neg fun h => h2 h.2]
  · rw [if_neg h1, if_neg fun h => h1 h.1]
noncomputable def stepR (S : Int) (R : List Str) (d : Int) (z : Str) : List Str := if 6 < d then R else if d = 6 ∧ z ∈ R then R else (z :: R.erase z).take S.toNat
noncomputable def stepG (pr : Bool) (S : Int) (R : List Str) (d : Int) (z : Str) (v : Int) (g : Gt) : Gt := if 6 < d then restG R g else if d = 6 then aheadG S R z g else if d < 3 then readG S R z g else keepG pr S R z v g
noncomputable def stepA (S : Int) (R : List Str) (d : Int) (z : Str) (v : Int) (g : Gt) : V := if 6 < d then .int ((R.filter g.l).length : Nat) else if d = 6 then .bl (decide (z ∉ R)) else if d < 3 then .int ((readG S R z g).h z) else .int v
theorem fallG_h (z : Str) (g : Gt) : (fallG z g).h = g.h := by unfold fallG; split <;> rfl
theorem comeG_h (S : Int) (R : List Str) (z : Str) (g : Gt) : (comeG S R z g).h = g.h := by unfold comeG; split; (· exact fallG_h _ _); (· rfl)
theorem settleG_h (pr : Bool) (z : Str) (g : Gt) : (settleG pr z g).h = g.h := by unfold settleG; split <;> rfl
theorem stepA_kind {S : Int} {R : List Str} {d : Int} {z : Str} {v : Int} {g : Gt} : (d = 6 ∧ ∃ b, stepA S R d z v g = .bl b) ∨ (d ≠ 6 ∧ ∃ n, stepA S R d z v g = .int n) := by
  unfold stepA
  by_cases h6 : 6 < d
  · rw [if_pos h6]; exact .inr ⟨by omega, _, rfl⟩
  · rw [if_neg h6]
    by_cases d6 : d = 6
    · rw [if_pos d6]; exact .inl ⟨d6, _, rfl⟩
    · rw [if_neg d6]
      by_cases d3 : d < 3
      · rw [if_pos d3]; exact .inr ⟨d6, _, rfl⟩
      · rw [if_neg d3]; exact .inr ⟨d6, _, rfl⟩
noncomputable def s0 (zs : List Int) : TwS := ⟨zs, [], [], [], [], [], [], 0⟩
theorem stock_step {K : PySem.W.Frag} {S : Addr} {H H' : Hp} {p : Addr} {ts : List Th} {L L1 M : List Addr} (h : StockT K S H p ts L) (o : Off M H H') (hM : ∀ b ∈ M, b ∈ L) (m : ∀ b ∈ L1, b ∈ L ∨ H b = none) : StockT K S H' p ts L1 :=
  ((h.mono (L' := L ++ L1) (fun b hb => by
    rcases List.mem_append.mp hb with k | k
    · exact .inl k
    · exact m b k)).off (o.mono fun b hb => List.mem_append_left _ (hM b hb))).mono fun b hb => .inl (List.mem_append_right _ hb)
theorem tow_step {K : PySem.W.Frag} {C S : Addr} {H H' : Hp} {t : Addr} {x : TwA} {s : TwS} {g : Gt} {ts : List Th} {B : Nat} {M : List Addr} (h : TowG K C S H t x s g ts B) (o : Off M H H') (n : ∀ b ∈ x.si :: own t x, b ∉ M) (kt : ∀ v e, H v = some (.tup e) → H' v = some (.tup e)) (sk : StockT K S H' x.st ts (own t x)) : TowG K C S H' t x s g ts B := by
  obtain ⟨dx, fs, h1, h2⟩ := h.to.tw.o
  exact ⟨⟨⟨⟨dx, fs, o _ _ h1 (n _ (by simp [own])), h2⟩, o _ _ h.to.tw.si (n _ (by simp [own])), o _ _ h.to.tw.ro (n _ (by simp [own])), o _ _ h.to.tw.he (n _ (by simp [own])), o _ _ h.to.tw.la (n _ (by simp [own])), o _ _ h.to.tw.so (n _ (by simp [own])), o _ _ h.to.tw.en (n _ (by simp [own])), o _ _ h.to.tw.fi (n _ (by simp [own])), h.to.tw.d1, h.to.tw.d2, h.to.tw.d3, h.to.tw.l1, h.to.tw.l2, h.to.tw.l3, h.to.tw.l4, h.to.tw.l5, h.to.tw.l6⟩, sk, h.to.l, h.to.nd, h.to.rs, h.to.z1, h.to.zl, h.to.zz, h.to.rn, h.to.tn, h.to.tl, h.to.ff⟩, h.g.keep kt⟩
theorem own_some {C : Addr} {H : Hp} {t : Addr} {x : TwA} {s : TwS} (h : TwAt C H t x s) : ∀ b ∈ x.si :: own t x, ∃ o, H b = some o := fun b hb => by
  obtain ⟨dx, fs, h1, h2⟩ := h.o
  have hb' : b = x.si ∨ b = t ∨ b = x.ro ∨ b = x.he ∨ b = x.la ∨ b = x.so ∨ b = x.en ∨ b = x.fi := by simpa [own] using hb
  rcases hb' with h' | h' | h' | h' | h' | h' | h' | h' <;> rw [h']
  · exact ⟨_, h.si⟩
  · exact ⟨_, h1⟩
  · exact ⟨_, h.ro⟩
  · exact ⟨_, h.he⟩
  · exact ⟨_, h.la⟩
  · exact ⟨_, h.so⟩
  · exact ⟨_, h.en⟩
  · exact ⟨_, h.fi⟩
end N76

set_option Elab.async false
set_option linter.all false
set_option maxRecDepth 100000
set_option maxHeartbeats 1000000
namespace N75
open PySem PySem.Spec PyProof.Rows L2 N1 N5 N4 N6 N12 N71 N74 N76
noncomputable def wsE (h : Str → Int) (ws : List Str) : List (List V) := ws.map fun y => wrT y (h y)
noncomputable def OkW (h : Str → Int) : List Str → (Str → Bool) → (Str → Int) → (Str → Bool) → (Str → Int) → Prop
  | [], o, f, o', f' => o' = o ∧ f' = f
  | y :: ws, o, f, o', f' => o y = true ∧ OkW h ws (setF o y false) (setF f y (h y)) o' f'
section
variable {h h' : Str → Int} {ws : List Str} {o o' : Str → Bool} {f f' : Str → Int}
end
theorem come_new (S : Int) (R : List Str) (z : Str) (g : Gt) : ∃ ws, (comeG S R z g).es = g.es ++ wsE g.h ws ∧ OkW g.h ws g.l g.st (comeG S R z g).l (comeG S R z g).st ∧ ws.length ≤ 1 := by
  unfold comeG
  split
  · unfold fallG
    split
    · rename_i hl
      exact ⟨[_], rfl, ⟨hl, rfl, rfl⟩, Nat.le_refl _⟩
    · exact ⟨[], by rw [show wsE g.h [] = [] from rfl, List.append_nil], ⟨rfl, rfl⟩, Nat.zero_le _⟩
  · exact ⟨[], by rw [show wsE g.h [] = [] from rfl, List.append_nil], ⟨rfl, rfl⟩, Nat.zero_le _⟩
noncomputable def keptB (d : Int) : Prop := 3 ≤ d ∧ d < 6
instance (d : Int) : Decidable (keptB d) := inferInstanceAs (Decidable (3 ≤ d ∧ d < 6))
noncomputable def o1 (d : Int) (z : Str) (g : Gt) : Str → Bool := if keptB d then setF g.l z true else g.l
noncomputable def h1 (d : Int) (z : Str) (v : Int) (g : Gt) : Str → Int := if keptB d then setF g.h z v else g.h
noncomputable def preW (R : List Str) (d : Int) (z : Str) : Option Str := if z ∈ R then none else if d < 3 then some (Str.ofString "fetch") else if d = 6 then some (Str.ofString "ahead") else none
noncomputable def preE (z : Str) : Option Str → List (List V)
  | none => []
  | some w => [[.str w, .str z]]
theorem writes_es (ws : List Str) : ∀ g : Gt, (writesG ws g).es = g.es ++ wsE g.h ws := by
  induction ws with
  | nil => intro g; rw [show wsE g.h [] = [] from rfl, List.append_nil]; rfl
  | cons y ws ih =>
    intro g
    show (writesG ws (g.write y)).es = _
    rw [ih]
    show (g.es ++ [wrT y (g.h y)]) ++ wsE g.h ws = g.es ++ (wrT y (g.h y) :: wsE g.h ws)
    rw [List.append_assoc]; rfl
theorem writes_ok (ws : List Str) : ∀ (g : Gt) (o : Str → Bool), ws.Nodup → (∀ y ∈ ws, o y = true) → OkW g.h ws o g.st (fun y => o y && decide (y ∉ ws)) (writesG ws g).st := by
  induction ws with
  | nil =>
    intro g o _ _
    refine ⟨?_, rfl⟩
    funext y; simp
  | cons z ws ih =>
    intro g o nd hin
    have hz := List.nodup_cons.mp nd
    refine ⟨hin z (by simp), ?_⟩
    have := ih (g.write z) (setF o z false) hz.2 (fun y hy => by rw [setF_ne (fun e => hz.1 (by rw [← e]; exact hy))]; exact hin y (List.mem_cons_of_mem _ hy))
    have e : (fun y => setF o z false y && decide (y ∉ ws)) = fun y => o y && decide (y ∉ z :: ws) := by
      funext y
      by_cases k : y = z
      · subst k; rw [setF_same]; simp
      · rw [setF_ne k]; simp [k]
    rw [e] at this
    exact this
noncomputable def ts75 (ys : List Str) (cs : List Int) : List Th := (List.range ys.length).map fun i => (ys.getD i Str.empty, cs.getD i 0, 1)
theorem ts75_len (ys : List Str) (cs : List Int) : (ts75 ys cs).length = ys.length := by unfold ts75; rw [List.length_map, List.length_range]
theorem ts75_at {ys : List Str} {cs : List Int} {i : Nat} (h : i < ys.length) : (ts75 ys cs)[i]? = some (ys.getD i Str.empty, cs.getD i 0, 1) := by
  unfold ts75; rw [List.getElem?_map, List.getElem?_range h]; rfl
theorem ts75_names (ys : List Str) (cs : List Int) : (ts75 ys cs).map (·.1) = ys := by
  refine List.ext_getElem? fun i => ?_
  rw [List.getElem?_map]
  by_cases h : i < ys.length
  · rw [ts75_at h, getD_str h]; rfl
  · rw [List.getElem?_eq_none (by rw [ts75_len]; omega), List.getElem?_eq_none (by omega)]; rfl
theorem rows75 {K : PySem.W.Frag} {H : Hp} {D : Addr} {yl : List V} {ys : List Str} {cs : List Int} (hD : H D = some (.lst yl)) (hl : yl.length = ys.length) (hm : ys.length ≤ 60) (nd : ys.Nodup) (hn : ∀ y ∈ ys, nameB y.cps.toList = true) (hc : ∀ i, 0 ≤ cs.getD i 0 ∧ cs.getD i 0 ≤ 10 ^ 30)
    (hall : ∀ i y, yl[i]? = some y → ∃ t, y = V.ref t ∧ SqT K H t [.str (ys.getD i Str.empty), .int (cs.getD i 0), .int 1]) : ∃ as, yl = as.map V.ref ∧ RowsAt K H D as (ts75 ys cs) := by
  have e : yl = (yl.map aOf).map V.ref := by
    rw [List.map_map]
    refine (List.map_id yl).symm.trans (List.map_congr_left fun y hy => ?_)
    obtain ⟨i, hi⟩ := List.mem_iff_getElem?.mp hy
    obtain ⟨t, rfl, _⟩ := hall i y hi
    rfl
  have hlen := ts75_len ys cs
  refine ⟨yl.map aOf, e, ⟨by rw [← e]; exact SqL.of hD, by rw [List.length_map, hlen, hl], by rw [hlen]; exact hm, fun i a t h1 h2 => ?_, fun t ht => ?_, by rw [ts75_names]; exact nd⟩⟩
  · have hi : i < ys.length := by rw [← hlen]; exact (List.getElem?_eq_some_iff.mp h2).1
    rw [ts75_at hi] at h2
    cases h2
    rw [List.getElem?_map] at h1
    cases hy' : yl[i]? with
    | none => rw [hy'] at h1; cases h1
    | some y =>
      rw [hy'] at h1
      obtain ⟨t, rfl, hs⟩ := hall i y hy'
      cases h1
      exact hs
  · obtain ⟨i, hi⟩ := List.mem_iff_getElem?.mp ht
    have hil : i < ys.length := by rw [← hlen]; exact (List.getElem?_eq_some_iff.mp hi).1
    rw [ts75_at hil] at hi
    cases hi
    exact ⟨hn _ (List.mem_of_getElem? (getD_str hil)), (hc i).1, (hc i).2, by show (1 : Int) ≤ 1; decide, by show (1 : Int) ≤ 1000; decide⟩
noncomputable def mixF (c k : Int) : Int := (c % 1000000007 + 7919 * k + 1) * (c % 1000000007 + 7919 * k + 1) % 2147483647 * 48271 % 2147483629
noncomputable def valL (j : Int) : Int := if j = 0 then 10 ^ 30 else if j = 1 then -10 ^ 30 else 0
noncomputable def valM (v : Int) : Int := if v % 11 = 5 then valL (v / 11 % 3) else if v % 3 = 0 then v / 3 % 7 - 3 else v ^ 5 % (2 * 10 ^ 30 + 1) - 10 ^ 30
noncomputable def sp75_mix : Sp := fun vs H Q _ => ∃ c k : Int, vs = [.int c, .int k] ∧ 0 ≤ k ∧ k ≤ 1000 ∧ (0 ≤ mixF c k → mixF c k < 2147483629 → Q (.int (mixF c k)) H)
noncomputable def sp75_value : Sp := fun vs H Q _ => ∃ (c : Int) (k : Nat), vs = [.int c, .int k] ∧ k ≤ 200 ∧ ∀ (H' : Hp), -(10 ^ 30) ≤ valM (mixF c k) → valM (mixF c k) ≤ 10 ^ 30 → Same H H' → Q (.int (valM (mixF c k))) H'
structure Lw (H : Hp) (L : List Addr) (np co fa va ow cp : Addr) (ys : List Str) (oc : Obj) (kc kf kv ko : List (Key × V)) (cells : List Int) : Prop where
  hnp : H np = some (.lst (ys.map V.str))
  hco : H co = some (.frz oc (.dK kc))
  hfa : H fa = some (.dK kf)
  hva : H va = some (.dK kv)
  how : H ow = some (.dK ko)
  hcp : H cp = some (.lst (cells.map V.int))
  off : ∀ b ∈ [np, co, fa, va, ow, cp], b ∉ L
  d1 : va ≠ ow
  d2 : va ≠ fa
  d3 : ow ≠ fa
section
variable {H H' : Hp} {L L' : List Addr} {np co fa va ow cp : Addr} {ys : List Str} {oc : Obj} {kc kf kv ko k : List (Key × V)} {cells : List Int}
end
noncomputable def EnAt (H : Hp) (as : List Addr) (es : List (List V)) : Prop := as.length = es.length ∧ ∀ (i : Nat) (a : Addr) (e : List V), as[i]? = some a → es[i]? = some e → H a = some (.tup e)
theorem EnAt.same {H H' : Hp} {as : List Addr} {es : List (List V)} (h : EnAt H as es) (k : ∀ v e, H v = some (.tup e) → H' v = some (.tup e)) : EnAt H' as es := ⟨h.1, fun i a e h1 h2 => k _ _ (h.2 i a e h1 h2)⟩
structure Kn (g : Gt) (o : Str → Bool) (h : Str → Int) (ys : List Str) (kf kv ko : List (Key × V)) : Prop where
  ho : ∀ y, (valV ko (Sum.inr y)).isSome = o y
  hv : ∀ y, o y = true → valV kv (Sum.inr y) = some (.int (h y))
  hf : ∀ y ∈ ys, valV kf (Sum.inr y) = some (.int (g.st y))
noncomputable def sp75_spent (C : Addr) : Sp := fun vs H Q _ => ∃ (t : Addr) (x : TwA) (s : TwS), vs = [.ref t] ∧ TwAt C H t x s ∧ Q (.int s.pd) H
end N75

set_option Elab.async false
set_option linter.all false
set_option maxRecDepth 100000
set_option maxHeartbeats 4000000
namespace L2
open PySem PySem.Spec PyProof.Rows
noncomputable def LikeN (K : PySem.W.Frag) : Nat → Hp → V → V → Prop
  | 0, _, x, y => x = y ∧ flatV x = true
  | n + 1, H, x, y => LikeN K n H x y ∨ ∃ a b xs ys, x = .ref a ∧ y = .ref b ∧ ((SqL K H a xs ∧ SqL K H b ys) ∨ (SqT K H a xs ∧ SqT K H b ys)) ∧ xs.length = ys.length ∧ ∀ (i : Nat) (x' y' : V), xs[i]? = some x' → ys[i]? = some y' → LikeN K n H x' y'
noncomputable def LikeR (K : PySem.W.Frag) (n : Nat) (H : Hp) (x y : V) : Prop := ∃ a b xs ys, x = .ref a ∧ y = .ref b ∧ ((SqL K H a xs ∧ SqL K H b ys) ∨ (SqT K H a xs ∧ SqT K H b ys)) ∧ xs.length = ys.length ∧ ∀ (i : Nat) (x' y' : V), xs[i]? = some x' → ys[i]? = some y' → LikeN K n H x' y'
theorem LikeN.up {K : PySem.W.Frag} {H : Hp} {n : Nat} {x y : V} (h : LikeN K n H x y) : LikeN K (n + 1) H x y := by unfold LikeN; exact .inl h
theorem LikeN.of {K : PySem.W.Frag} {H : Hp} {n : Nat} {x y : V} (h : LikeR K n H x y) : LikeN K (n + 1) H x y := by unfold LikeN; exact .inr h
theorem LikeN.flat {K : PySem.W.Frag} {H : Hp} {x : V} (h : flatV x = true) : ∀ {n : Nat}, LikeN K n H x x := by
  intro n
  induction n with
  | zero => unfold LikeN; exact ⟨rfl, h⟩
  | succ n ih => exact ih.up
section
variable {X : Cx} {pins : List (Addr × Obj)} {σ : St} {H : Hp} {s : Shared}
theorem items_of {xs ys : List V} {us ws : List Value} {P : V → V → Prop} {R : Value → Value → Prop} (rx : Vals xs us) (ry : Vals ys ws) (hl : xs.length = ys.length) (h : ∀ (i : Nat) (x y : V), xs[i]? = some x → ys[i]? = some y → P x y) (k : ∀ x y u w, RelV x u → RelV y w → P x y → R u w) :
    ∀ j (h1 : j < us.toArray.size) (h2 : j < ws.toArray.size), R us.toArray[j] ws.toArray[j] := by
  intro j h1 h2
  have lx := rx.length
  have ly := ry.length
  rw [List.size_toArray] at h1 h2
  have hx : j < xs.length := by omega
  have hy : j < ys.length := by omega
  obtain ⟨u, hu, ru⟩ := rx.get (i := j) (x := xs[j]) (by simp [hx])
  obtain ⟨w, hw, rw'⟩ := ry.get (i := j) (x := ys[j]) (by simp [hy])
  have eu : us.toArray[j] = u := by
    have := List.getElem?_eq_getElem h1
    rw [this] at hu
    simpa using hu
  have ew : ws.toArray[j] = w := by
    have := List.getElem?_eq_getElem h2
    rw [this] at hw
    simpa using hw
  rw [eu, ew]
  exact k _ _ _ _ ru rw' (h j _ _ (List.getElem?_eq_getElem hx) (List.getElem?_eq_getElem hy))
theorem all_true {n : Nat} : ((List.range n).all fun _ => true) = true := by rw [List.all_eq_true]; intros; rfl
theorem likeR_rc {n : Nat} {x y : V} {u w : Value} {A : Around} (I : Inv X pins σ H s) (rx : RelV x u) (ry : RelV y w) (h : LikeR X.K n H x y) (hu : A.units < cLine)
    (k : ∀ x y u w, RelV x u → RelV y w → LikeN X.K n H x y → SeqAt.EqAt A.in1 s u w true) : SeqAt.RcAt A s u w true ∧ SeqAt.RcNeAt A s u w false := by
  obtain ⟨a, b, xs, ys, rfl, rfl, hq, hl, hall⟩ := h
  cases rx
  cases ry
  rcases hq with ⟨h1, h2⟩ | ⟨h1, h2⟩
  · obtain ⟨us, r1, p1, z1⟩ := I.list h1
    obtain ⟨ws, r2, p2, z2⟩ := I.list h2
    have lx := r1.length
    have ly := r2.length
    have he := items_of r1 r2 hl hall k
    have c1 := SeqAt.RcAt.lists (e := fun _ => true) p1.isList p2.isList (by simp; omega) hu he
    have c2 := SeqAt.RcNeAt.lists (e := fun _ => true) p1.isList p2.isList (by simp; omega) hu he
    rw [all_true] at c1 c2
    exact ⟨c1, c2⟩
  · obtain ⟨us, r1, p1, z1⟩ := I.tuple h1
    obtain ⟨ws, r2, p2, z2⟩ := I.tuple h2
    have lx := r1.length
    have ly := r2.length
    have he := items_of r1 r2 hl hall k
    have hsz : us.toArray.size = ws.toArray.size := by simp; omega
    have c1 := SeqAt.RcAt.tuples (e := fun _ => true) (show s.heap.IsTuple a us.toArray from p1) (show s.heap.IsTuple b ws.toArray from p2) hu he
    have c2 := SeqAt.RcNeAt.tuples (e := fun _ => true) (show s.heap.IsTuple a us.toArray from p1) (show s.heap.IsTuple b ws.toArray from p2) hu he
    rw [all_true, hsz, beq_self_eq_true, Bool.and_true] at c1 c2
    exact ⟨c1, c2⟩
theorem likeN_at (I : Inv X pins σ H s) : ∀ (n : Nat) (x y : V) (u w : Value) (A : Around), RelV x u → RelV y w → LikeN X.K n H x y → A.units + n < cLine → SeqAt.EqAt A s u w true := by
  intro n
  induction n with
  | zero =>
    intro x y u w A rx ry h hu
    unfold LikeN at h
    obtain ⟨rfl, f⟩ := h
    have := eqAt_V (A := A) (s := s) rx ry f f
    rw [show eqV x x = true from eqV_self f] at this
    exact this
  | succ n ih =>
    intro x y u w A rx ry h hu
    unfold LikeN at h
    rcases h with h | h
    · exact ih x y u w A rx ry h (by omega)
    · have c := likeR_rc I rx ry h (by omega) (fun x y u w r1 r2 k => ih x y u w A.in1 r1 r2 k (by show A.units + 1 + n < cLine; omega))
      obtain ⟨a, b, xs, ys, rfl, rfl, _⟩ := h
      cases rx
      cases ry
      by_cases e : a = b
      · subst e; exact SeqAt.EqAt.same _
      · exact SeqAt.EqAt.of_refs e c.1
noncomputable def rEqN (K : PySem.W.Frag) (n : Nat) : R2 := fun x y H Q => LikeR K n H x y ∧ Q (.bl true) H
noncomputable def rNeN (K : PySem.W.Frag) (n : Nat) : R2 := fun x y H Q => LikeR K n H x y ∧ Q (.bl false) H
theorem op_eqN {k : Nat} (n : Nat) (hr : Room k X.A) (hn : n ≤ 100 := by decide) : OpR X (compareOp .Eq) (rEqN X.K n) := by
  intro pins s σ H x y v u Q I rx ry h
  have hu : X.A.units < cLine := Nat.lt_of_le_of_lt (by omega) hr.un
  exact (likeR_rc I rx ry h.1 hu (fun x y u w r1 r2 k => likeN_at I n x y u w X.A.in1 r1 r2 k (by have := hr.un; show X.A.units + 1 + n < cLine; omega))).1 X.prog X.w X.xe _ ⟨.bl true, H, I, rfl, h.2⟩
theorem op_neN {k : Nat} (n : Nat) (hr : Room k X.A) (hn : n ≤ 100 := by decide) : OpR X (compareOp .NotEq) (rNeN X.K n) := by
  intro pins s σ H x y v u Q I rx ry h
  have hu : X.A.units < cLine := Nat.lt_of_le_of_lt (by omega) hr.un
  exact (likeR_rc I rx ry h.1 hu (fun x y u w r1 r2 k => likeN_at I n x y u w X.A.in1 r1 r2 k (by have := hr.un; show X.A.units + 1 + n < cLine; omega))).2 X.prog X.w X.xe _ ⟨.bl false, H, I, rfl, h.2⟩
theorem rd_eqN {K : PySem.W.Frag} {H : Hp} {Q : VK} {x y : V} {n : Nat} : rEqN K n x y H Q = (LikeR K n H x y ∧ Q (.bl true) H) := rfl
theorem rd_neN {K : PySem.W.Frag} {H : Hp} {Q : VK} {x y : V} {n : Nat} : rNeN K n x y H Q = (LikeR K n H x y ∧ Q (.bl false) H) := rfl
end
end L2

set_option Elab.async false
set_option linter.all false
set_option maxRecDepth 100000
set_option maxHeartbeats 1000000
namespace L2
open PySem PySem.Spec PyProof.Rows PySem.W
section
variable {X : Cx}
end
end L2

set_option Elab.async false
set_option linter.all false
set_option maxRecDepth 100000
set_option maxHeartbeats 1000000
namespace L2
open PySem PySem.Spec PyProof.Rows PySem.W
structure ClsA (K : PySem.W.Frag) (C : Addr) : Prop where
  ca : PySem.W.findIn K (.ref C) "__class__" = some (some (.builtin "object.__class__"))
  gs : PySem.W.specialIn K (.builtin "object.__class__") "__get__" = some (some (.builtin "getset_descriptor.__get__"))
  tk : PySem.W.takesIn K (.builtin "object.__class__") = some true
  mo : PySem.W.mroIn K C (.type "object") = some true
noncomputable def rIsiB (K : PySem.W.Frag) : List V → Hp → VK → Prop := fun xs H Q => ∃ (p C dx D : Addr) (fs : List (Str × V)) (b : Bool), xs = [.ref p, .ref D] ∧ H p = some (.ins C dx fs) ∧ Cls K C ∧ ClsA K C ∧ PySem.W.kitOne K (.ref C) (.ref D) = some b ∧ Q (.bl b) H
section
variable {X : Cx}
theorem call_isiB : CallR X (.builtin "isinstance") (rIsiB X.K) := by
  intro pins s σ H xs us Q I r h
  obtain ⟨p, C, dx, D, fs, b, rfl, hp, c1, c2, e, q⟩ := h
  obtain ⟨u, c, rfl, r1, r2⟩ := vals2 r
  cases r1
  cases r2
  obtain ⟨mA, ob, _⟩ := ins_get I.hok hp
  obtain ⟨od, J, _⟩ := ob.look
  exact PySem.W.kia_one (kitx_own (c1.get _) c1.hd c2.ca c2.gs c2.tk c2.mo) I.kIn J e (by intro z; cases z) fun tk => ⟨.bl b, H, I.tok _, rfl, q⟩
end
theorem rd_isiB {K : PySem.W.Frag} {xs : List V} {H : Hp} {Q : VK} : rIsiB K xs H Q = ∃ (p C dx D : Addr) (fs : List (Str × V)) (b : Bool), xs = [.ref p, .ref D] ∧ H p = some (.ins C dx fs) ∧ Cls K C ∧ ClsA K C ∧ PySem.W.kitOne K (.ref C) (.ref D) = some b ∧ Q (.bl b) H := rfl
end L2

set_option Elab.async false
set_option linter.all false
set_option maxRecDepth 100000
set_option maxHeartbeats 1000000
namespace N79
open PySem PySem.Spec PyProof.Rows L2 N1 N5 N4 N6 N12 N71 N74 N76 N75
noncomputable def shx (zs : List Int) (R : List Str) (z : Str) : Nat := ((List.range zs.length).find? fun i => decide (z ∈ lvl zs R i)).getD zs.length
theorem shx_at {zs : List Int} {R : List Str} {z : Str} {i : Nat} (hi : i < zs.length) (h : z ∈ lvl zs R i) (n : ∀ j, j < i → z ∉ lvl zs R j) : shx zs R z = i := by
  have e : (List.range zs.length).find? (fun i => decide (z ∈ lvl zs R i)) = some i := List.find?_range_eq_some.mpr ⟨decide_eq_true h, List.mem_range.mpr hi, fun j hj => by simp [n j hj]⟩
  unfold shx
  rw [e]; rfl
theorem shx_no {zs : List Int} {R : List Str} {z : Str} (n : ∀ j, j < zs.length → z ∉ lvl zs R j) : shx zs R z = zs.length := by
  have e : (List.range zs.length).find? (fun i => decide (z ∈ lvl zs R i)) = none := List.find?_eq_none.mpr fun j hj => by simp [n j (List.mem_range.mp hj)]
  unfold shx
  rw [e]; rfl
noncomputable def bump (ff : List Int) (k : Nat) : List Int := ff.set k (ff.getD k 0 + 1)
noncomputable def stepF (ff zs : List Int) (R : List Str) (d : Int) (z : Str) : List Int := if d < 6 then bump ff (shx zs R z) else ff
noncomputable def sp79_shelf (K : PySem.W.Frag) (C S : Addr) : Sp := fun vs H Q _ => ∃ (t : Addr) (x : TwA) (s : TwS) (z : Str) (ts : List Th), vs = [.ref t, .str z] ∧ TwAt C H t x s ∧ StockT K S H x.st ts (own t x) ∧ (ts.map (·.1)).Nodup ∧ z ∈ ts.map (·.1) ∧ s.zs.length ≤ 6 ∧ (∀ z ∈ s.zs, 1 ≤ z ∧ z ≤ 1000000) ∧ (s.R.length : Int) ≤ s.zs.sum ∧
  ∀ (k : Nat) (H' : Hp), Same H H' → k ≤ s.zs.length → (k < s.zs.length ↔ z ∈ s.R) → shx s.zs s.R z ≤ k → k ≤ shx s.zs s.R z → Q (.int k) H'
noncomputable def sp79_read (K : PySem.W.Frag) (C S : Addr) : Sp := fun vs H Q _ => ∃ (t : Addr) (x : TwA) (s : TwS) (g : Gt) (z : Str) (ts : List Th) (B : Nat), vs = [.ref t, .str z] ∧ TowG K C S H t x s g ts B ∧ z ∈ ts.map (·.1) ∧ B ≤ 80000 ∧
  ∀ (s' : TwS) (H' : Hp), Off (own t x) H H' → TowG K C S H' t x s' (readG s.zs.sum s.R z g) ts (B + 2) → s'.R = cameR z s → s'.zs = s.zs → s'.pd = s.pd + (if z ∈ s.R then 0 else costOf ts z) → s'.ff = bump s.ff (shx s.zs s.R z) → Q (.int ((readG s.zs.sum s.R z g).h z)) H'
noncomputable def sp79_keep (K : PySem.W.Frag) (C S : Addr) (pr : Bool) : Sp := fun vs H Q _ => ∃ (t : Addr) (x : TwA) (s : TwS) (g : Gt) (z : Str) (v : Int) (ts : List Th) (B : Nat), vs = [.ref t, .str z, .int v] ∧ -(10 ^ 30) ≤ v ∧ v ≤ 10 ^ 30 ∧ TowG K C S H t x s g ts B ∧ z ∈ ts.map (·.1) ∧ B ≤ 80000 ∧
  ∀ (s' : TwS) (H' : Hp), Off (own t x) H H' → TowG K C S H' t x s' (keepG pr s.zs.sum s.R z v g) ts (B + 3) → s'.R = cameR z s → s'.zs = s.zs → s'.pd = s.pd → s'.ff = bump s.ff (shx s.zs s.R z) → Q .non H'
noncomputable def sp79_ahead (K : PySem.W.Frag) (C S : Addr) : Sp := fun vs H Q _ => ∃ (t : Addr) (x : TwA) (s : TwS) (g : Gt) (z : Str) (ts : List Th) (B : Nat), vs = [.ref t, .str z] ∧ TowG K C S H t x s g ts B ∧ z ∈ ts.map (·.1) ∧ B ≤ 80000 ∧
  ∀ (s' : TwS) (H' : Hp), Off (own t x) H H' → TowG K C S H' t x s' (aheadG s.zs.sum s.R z g) ts (B + 2) → s'.R = (if z ∈ s.R then s.R else cameR z s) → s'.zs = s.zs → s'.pd = s.pd + (if z ∈ s.R then 0 else costOf ts z) → s'.ff = s.ff → Q (.bl (decide (z ∉ s.R))) H'
noncomputable def sp79_rest (K : PySem.W.Frag) (C S : Addr) : Sp := fun vs H Q _ => ∃ (t : Addr) (x : TwA) (s : TwS) (g : Gt) (ts : List Th) (B : Nat), vs = [.ref t] ∧ TowG K C S H t x s g ts B ∧ B ≤ 80000 ∧
  ∀ (x' : TwA) (s' : TwS) (H' : Hp), Off (own t x) H H' → (∀ b ∈ own t x', b ∈ own t x ∨ H b = none) → TowG K C S H' t x' s' (restG s.R g) ts (B + 100) → s'.R = s.R → s'.zs = s.zs → s'.pd = s.pd → s'.ff = s.ff → x'.st = x.st → x'.si = x.si → Q (.int ((s.R.filter g.l).length : Nat)) H'
noncomputable def sp79_init (K : PySem.W.Frag) (C S : Addr) : Sp := fun vs H Q _ => ∃ (t dx p a : Addr) (ts : List Th) (zs : List Int), vs = [.ref t, .ref p, .ref a] ∧ H t = some (.ins C dx []) ∧ StockAt K S H p ts ∧ (ts.map (·.1)).Nodup ∧ (∀ t ∈ ts, t.2.2 = 1) ∧ ts.length ≤ 59 ∧ SqL K H a (zs.map V.int) ∧ 1 ≤ zs.length ∧ zs.length ≤ 6 ∧ (∀ z ∈ zs, 1 ≤ z ∧ z ≤ 1000000) ∧
  ∀ (x : TwA) (s : TwS) (H' : Hp), SameBut t H H' → TowG K C S H' t x s g0 ts 1 → s.R = [] → s.zs = zs → s.pd = 0 → s.ff = List.replicate (zs.length + 1) 0 → x.st = p → (∀ b ∈ x.si :: own t x, b = t ∨ H b = none) → Q .non H'
noncomputable def sp79_found (C : Addr) : Sp := fun vs H Q _ => ∃ (t : Addr) (x : TwA) (s : TwS), vs = [.ref t] ∧ TwAt C H t x s ∧ ∀ (p : Addr) (H' : Hp), H p = none → Same H H' → H' p = some (.lst (s.ff.map V.int)) → Q (.ref p) H'
noncomputable def sp79_done (K : PySem.W.Frag) (C1 C2 Sk : Addr) : Sp := fun vs H Q _ => ∃ (C t : Addr) (z : Str) (d v : Int) (pr : Bool) (x : TwA) (s : TwS) (g : Gt) (ts : List Th) (B : Nat), vs = [.ref t, .str z, .int d, .int v] ∧ (pr = true ∧ C = C2 ∨ pr = false ∧ C = C1) ∧ TowG K C Sk H t x s g ts B ∧ z ∈ ts.map (·.1) ∧ B ≤ 80000 ∧ 0 ≤ d ∧ d ≤ 6 ∧ -(10 ^ 30) ≤ v ∧ v ≤ 10 ^ 30 ∧
  ∀ (s' : TwS) (H' : Hp), Off (own t x) H H' → TowG K C Sk H' t x s' (stepG pr s.zs.sum s.R d z v g) ts (B + 100) → s'.R = stepR s.zs.sum s.R d z → s'.zs = s.zs → s'.pd = s.pd + (if (preW s.R d z).isSome then costOf ts z else 0) → s'.ff = stepF s.ff s.zs s.R d z → Q (stepA s.zs.sum s.R d z v g) H'
structure Told3 (H : Hp) (p : Addr) (zs : List Int) (R : List Str) (ff : List Int) (pd : Int) (lv fo : Addr) (as : List Addr) : Prop where
  o : H p = some (.lst [.ref lv, .ref fo, .int pd])
  l : H lv = some (.lst (as.map V.ref))
  a : LvAt H as zs R zs.length
  f : H fo = some (.lst (ff.map V.int))
theorem Told3.same {H H' : Hp} {p lv fo : Addr} {zs ff : List Int} {R : List Str} {pd : Int} {as : List Addr} (m : Same H H') (h : Told3 H p zs R ff pd lv fo as) : Told3 H' p zs R ff pd lv fo as := ⟨m _ _ h.o, m _ _ h.l, h.a.same m, m _ _ h.f⟩
theorem strs_alike {K : PySem.W.Frag} {H : Hp} {a b : Addr} {xs : List V} (hf : xs.all flatV = true) (h1 : H a = some (.lst xs)) (h2 : H b = some (.lst xs)) {n : Nat} : LikeN K (n + 1) H (.ref a) (.ref b) := LikeN.of ⟨a, b, xs, xs, rfl, rfl, .inl ⟨SqL.of h1, SqL.of h2⟩, rfl, fun i x y e1 e2 => by
  rw [e1] at e2
  cases e2
  exact LikeN.flat (List.all_eq_true.mp hf _ (List.mem_of_getElem? e1))⟩
theorem flat_ints (xs : List Int) : (xs.map V.int).all flatV = true := by rw [List.all_eq_true]; intro x hx; obtain ⟨i, _, rfl⟩ := List.mem_map.mp hx; rfl
theorem flat_strs (xs : List Str) : (xs.map V.str).all flatV = true := by rw [List.all_eq_true]; intro x hx; obtain ⟨i, _, rfl⟩ := List.mem_map.mp hx; rfl
theorem lv_like {K : PySem.W.Frag} {H : Hp} {a b : Addr} {as bs : List Addr} {zs : List Int} {R : List Str} (h1 : H a = some (.lst (as.map V.ref))) (l1 : LvAt H as zs R zs.length) (h2 : H b = some (.lst (bs.map V.ref))) (l2 : LvAt H bs zs R zs.length) {n : Nat} : LikeR K (n + 1) H (.ref a) (.ref b) := ⟨a, b, _, _, rfl, rfl, .inl ⟨SqL.of h1, SqL.of h2⟩, by rw [List.length_map, List.length_map, l1.1, l2.1], fun i x y e1 e2 => by
  rw [List.getElem?_map] at e1 e2
  cases a1 : as[i]? with
  | none => rw [a1] at e1; cases e1
  | some p =>
  cases a2 : bs[i]? with
  | none => rw [a2] at e2; cases e2
  | some q =>
  rw [a1] at e1
  rw [a2] at e2
  cases e1
  cases e2
  exact strs_alike (flat_strs _) (l1.2 i p a1) (l2.2 i q a2)⟩
theorem told_like {K : PySem.W.Frag} {H : Hp} {p q lv fo lw fp : Addr} {zs ff : List Int} {R : List Str} {pd : Int} {as bs : List Addr} (h : Told3 H p zs R ff pd lv fo as) (k : Told3 H q zs R ff pd lw fp bs) : LikeR K 3 H (.ref p) (.ref q) := ⟨p, q, _, _, rfl, rfl, .inl ⟨SqL.of h.o, SqL.of k.o⟩, rfl, fun i x y e1 e2 => by
  match i, e1, e2 with
  | 0, e1, e2 => cases e1; cases e2; exact LikeN.of (lv_like h.l h.a k.l k.a)
  | 1, e1, e2 => cases e1; cases e2; exact strs_alike (flat_ints _) h.f k.f
  | 2, e1, e2 => cases e1; cases e2; exact LikeN.flat rfl
  | i + 3, e1, e2 => cases e1⟩
theorem LikeN.same {K : PySem.W.Frag} {H H' : Hp} (m : Same H H') : ∀ {n : Nat} {x y : V}, LikeN K n H x y → LikeN K n H' x y := by
  intro n
  induction n with
  | zero => intro x y h; unfold LikeN at h ⊢; exact h
  | succ n ih =>
    intro x y h
    unfold LikeN at h ⊢
    rcases h with h | ⟨a, b, xs, ys, e1, e2, h1, h2, h3⟩
    · exact .inl (ih h)
    · exact .inr ⟨a, b, xs, ys, e1, e2, h1.imp (fun h => ⟨m.seq h.1, m.seq h.2⟩) (fun h => ⟨m.tup h.1, m.tup h.2⟩), h2, fun i x y p q => ih (h3 i x y p q)⟩
theorem LikeR.same {K : PySem.W.Frag} {H H' : Hp} (m : Same H H') {n : Nat} {x y : V} (h : LikeR K n H x y) : LikeR K n H' x y := by
  obtain ⟨a, b, xs, ys, e1, e2, h1, h2, h3⟩ := h
  exact ⟨a, b, xs, ys, e1, e2, h1.imp (fun h => ⟨m.seq h.1, m.seq h.2⟩) (fun h => ⟨m.tup h.1, m.tup h.2⟩), h2, fun i x y p q => LikeN.same m (h3 i x y p q)⟩
open Classical in
noncomputable def Rst (L : List Addr) (H : Hp) : Hp := fun b => if b ∈ L then none else H b
theorem Rst.get {L : List Addr} {H : Hp} {b : Addr} {o : HO} (n : b ∉ L) (h : H b = some o) : Rst L H b = some o := by unfold Rst; rw [if_neg n]; exact h
theorem Rst.at {L : List Addr} {H : Hp} {b : Addr} {o : HO} (h : Rst L H b = some o) : b ∉ L ∧ H b = some o := by
  unfold Rst at h
  split at h
  · cases h
  · rename_i n; exact ⟨n, h⟩
theorem Rst.same {L : List Addr} {H : Hp} : Same (Rst L H) H := fun b o h => (Rst.at h).2
theorem Rst.step {L L' : List Addr} {H H' : Hp} (o : Off L H H') (m : ∀ b ∈ L', b ∈ L ∨ H b = none) : Same (Rst L H) (Rst L' H') := fun b u h => by
  obtain ⟨n, e⟩ := Rst.at h
  exact Rst.get (own_off m e n) (o _ _ e n)
theorem Rst.mono {L : List Addr} {H H' : Hp} (s : Same H H') : Same (Rst L H) (Rst L H') := Rst.step (.of s) fun b hb => .inl hb
theorem Rst.new {L : List Addr} {H H' : Hp} {p : Addr} {o : HO} (hL : ∀ b ∈ L, ∃ o, H b = some o) (hp : H p = none) (h : H' p = some o) : Rst L H' p = some o := Rst.get (fun hb => by obtain ⟨u, e⟩ := hL p hb; rw [hp] at e; cases e) h
structure Tw where
  C : Addr
  t : Addr
  x : TwA
  s : TwS
  g : Gt
noncomputable def Tw.ow (w : Tw) : List Addr := w.x.si :: own w.t w.x
noncomputable def Lall (ks : List Addr) (ws : List Tw) : List Addr := ks ++ ws.flatMap Tw.ow
structure Tws (K : PySem.W.Frag) (S st : Addr) (ts : List Th) (B : Nat) (H : Hp) (ks : List Addr) (ws : List Tw) : Prop where
  ok : ∀ w ∈ ws, TowG K w.C S H w.t w.x w.s w.g ts B
  ap : ws.Pairwise fun a b => ∀ c ∈ a.ow, c ∉ b.ow
  sk : StockT K S H st ts (Lall ks ws)
  es : ∀ w ∈ ws, w.x.st = st
  kk : ∀ c ∈ ks, ∀ w ∈ ws, c ∉ w.ow
  kl : ∀ c ∈ ks, ∃ o, H c = some o ∧ ∀ e, o ≠ .tup e
section
variable {K : PySem.W.Frag} {S st : Addr} {ts : List Th} {B B' : Nat} {H H' : Hp} {ks : List Addr} {ws l1 l2 : List Tw} {w w' : Tw}
theorem mem_Lall {c : Addr} : c ∈ Lall ks ws ↔ c ∈ ks ∨ ∃ w ∈ ws, c ∈ w.ow := by unfold Lall; rw [List.mem_append, List.mem_flatMap]
theorem Tws.live (h : Tws K S st ts B H ks ws) : ∀ b ∈ Lall ks ws, ∃ o, H b = some o := fun b hb => by
  rcases mem_Lall.mp hb with hb | ⟨w, hw, hb⟩
  · obtain ⟨o, e, _⟩ := h.kl b hb; exact ⟨o, e⟩
  · exact own_some (h.ok w hw).to.tw b hb
theorem own_notup {C : Addr} {H : Hp} {t : Addr} {x : TwA} {s : TwS} (h : TwAt C H t x s) : ∀ b ∈ x.si :: own t x, ∀ e, H b ≠ some (.tup e) := fun b hb e z => by
  obtain ⟨dx, fs, ho, _⟩ := h.o
  have hb' : b = x.si ∨ b = t ∨ b = x.ro ∨ b = x.he ∨ b = x.la ∨ b = x.so ∨ b = x.en ∨ b = x.fi := by simpa [own] using hb
  rcases hb' with k | k | k | k | k | k | k | k <;> rw [k] at z
  · rw [h.si] at z; cases z
  · rw [ho] at z; cases z
  · rw [h.ro] at z; cases z
  · rw [h.he] at z; cases z
  · rw [h.la] at z; cases z
  · rw [h.so] at z; cases z
  · rw [h.en] at z; cases z
  · rw [h.fi] at z; cases z
theorem Tws.notup (h : Tws K S st ts B H ks ws) : ∀ b ∈ Lall ks ws, ∀ e, H b ≠ some (.tup e) := fun b hb e z => by
  rcases mem_Lall.mp hb with hb | ⟨w, hw, hb⟩
  · obtain ⟨o, k1, k2⟩ := h.kl b hb; rw [k1] at z; cases z; exact k2 _ rfl
  · exact own_notup (h.ok w hw).to.tw b hb e z
theorem Tws.same (m : Same H H') (h : Tws K S st ts B H ks ws) : Tws K S st ts B H' ks ws := ⟨fun w hw => (h.ok w hw).same m, h.ap, h.sk.off (.of m), h.es, h.kk, fun c hc => by obtain ⟨o, e, n⟩ := h.kl c hc; exact ⟨o, m _ _ e, n⟩⟩
theorem Tws.deed (h : Tws K S st ts B H ks (l1 ++ w :: l2)) (o : Off (own w.t w.x) H H') (m : ∀ b ∈ own w'.t w'.x, b ∈ own w.t w.x ∨ H b = none) (tw : TowG K w'.C S H' w'.t w'.x w'.s w'.g ts B') (hB : B ≤ B') (est : w'.x.st = w.x.st) (esi : w'.x.si = w.x.si) :
    Tws K S st ts B' H' ks (l1 ++ w' :: l2) ∧ Same (Rst (Lall ks (l1 ++ w :: l2)) H) (Rst (Lall ks (l1 ++ w' :: l2)) H') ∧ ∀ c ∈ ks, ∀ o, H c = some o → H' c = some o := by
  have hw := h.ok w (by simp)
  have hb : B' ≤ 100000 := tw.g.b
  have kt := keepT hw.to.tw o
  have m2 : ∀ b ∈ w'.ow, b ∈ w.ow ∨ H b = none := fun b hb => by
    rcases List.mem_cons.mp hb with e | e
    · exact .inl (by rw [e, esi]; exact List.mem_cons_self)
    · exact (m b e).imp (List.mem_cons_of_mem _) id
  have mL : ∀ b ∈ Lall ks (l1 ++ w' :: l2), b ∈ Lall ks (l1 ++ w :: l2) ∨ H b = none := fun b hb => by
    rcases mem_Lall.mp hb with hb | ⟨v, hv, hb⟩
    · exact .inl (mem_Lall.mpr (.inl hb))
    · rcases List.mem_append.mp hv with hv | hv
      · exact .inl (mem_Lall.mpr (.inr ⟨v, List.mem_append_left _ hv, hb⟩))
      · rcases List.mem_cons.mp hv with e | hv
        · rw [e] at hb; exact (m2 b hb).imp (fun k => mem_Lall.mpr (.inr ⟨w, by simp, k⟩)) id
        · exact .inl (mem_Lall.mpr (.inr ⟨v, List.mem_append_right _ (List.mem_cons_of_mem _ hv), hb⟩))
  have oL : Off (Lall ks (l1 ++ w :: l2)) H H' := o.mono fun b hb => mem_Lall.mpr (.inr ⟨w, by simp, List.mem_cons_of_mem _ hb⟩)
  have hap := List.pairwise_append.mp h.ap
  have hap2 := List.pairwise_cons.mp hap.2.1
  have far : ∀ v ∈ l1 ++ l2, (∀ c ∈ v.ow, c ∉ w.ow) ∧ ∀ c ∈ w.ow, c ∉ v.ow := fun v hv => by
    rcases List.mem_append.mp hv with hv | hv
    · exact ⟨hap.2.2 v hv w List.mem_cons_self, fun c h1 h2 => hap.2.2 v hv w List.mem_cons_self c h2 h1⟩
    · exact ⟨fun c h1 h2 => hap2.1 v hv c h2 h1, hap2.1 v hv⟩
  have lv : ∀ v ∈ l1 ++ l2, v ∈ l1 ++ w :: l2 := fun v hv => by
    rcases List.mem_append.mp hv with hv | hv
    · exact List.mem_append_left _ hv
    · exact List.mem_append_right _ (List.mem_cons_of_mem _ hv)
  have sk := stock_step h.sk oL (fun b hb => hb) mL
  have far2 : ∀ v ∈ l1 ++ l2, (∀ c ∈ v.ow, c ∉ w'.ow) := fun v hv c h1 h2 => by
    rcases m2 c h2 with k | k
    · exact (far v hv).1 c h1 k
    · obtain ⟨u, e⟩ := own_some (h.ok v (lv v hv)).to.tw c h1; rw [k] at e; cases e
  have okv : ∀ v ∈ l1 ++ l2, TowG K v.C S H' v.t v.x v.s v.g ts B' := fun v hv =>
    (tow_step (h.ok v (lv v hv)) (M := own w.t w.x) o (fun b h1 h2 => (far v hv).1 b h1 (List.mem_cons_of_mem _ h2)) kt (by
      rw [h.es v (lv v hv)]
      exact sk.mono fun b hb => .inl (mem_Lall.mpr (.inr ⟨v, by
        rcases List.mem_append.mp hv with hv | hv
        · exact List.mem_append_left _ hv
        · exact List.mem_append_right _ (List.mem_cons_of_mem _ hv), List.mem_cons_of_mem _ hb⟩)))).up hB hb
  have all : ∀ v ∈ l1 ++ w' :: l2, v = w' ∨ v ∈ l1 ++ l2 := fun v hv => by
    rcases List.mem_append.mp hv with hv | hv
    · exact .inr (List.mem_append_left _ hv)
    · rcases List.mem_cons.mp hv with e | hv
      · exact .inl e
      · exact .inr (List.mem_append_right _ hv)
  have kw : ∀ c ∈ ks, c ∉ w.ow := fun c hc => h.kk c hc w (by simp)
  refine ⟨⟨fun v hv => (all v hv).elim (fun e => by rw [e]; exact tw) (okv v), ?_, sk, fun v hv => (all v hv).elim (fun e => by rw [e, est]; exact h.es w (by simp)) (fun k => h.es v (lv v k)), fun c hc v hv => (all v hv).elim (fun e => ?_) (fun k => h.kk c hc v (lv v k)), fun c hc => ?_⟩, Rst.step oL mL, fun c hc u e => o _ _ e fun k => kw c hc (List.mem_cons_of_mem _ k)⟩
  · refine List.pairwise_append.mpr ⟨hap.1, List.pairwise_cons.mpr ⟨fun v hv c h1 h2 => far2 v (List.mem_append_right _ hv) c h2 h1, hap2.2⟩, fun a ha b hb => ?_⟩
    rcases List.mem_cons.mp hb with e | hb
    · rw [e]; exact far2 a (List.mem_append_left _ ha)
    · exact hap.2.2 a ha b (List.mem_cons_of_mem _ hb)
  · rw [e]
    obtain ⟨u, k, _⟩ := h.kl c hc
    exact own_off m2 k (kw c hc)
  · obtain ⟨u, k1, k2⟩ := h.kl c hc
    exact ⟨u, o _ _ k1 fun k => kw c hc (List.mem_cons_of_mem _ k), k2⟩
theorem Tws.put {c : Addr} {u : HO} (h : Tws K S st ts B H ks ws) (hc : c ∈ ks) (hu : ∀ e, u ≠ .tup e) (sb : SameBut c H H') (hc' : H' c = some u) :
    Tws K S st ts B H' ks ws ∧ Same (Rst (Lall ks ws) H) (Rst (Lall ks ws) H') := by
  have o : Off [c] H H' := fun b v e n => sb b v e fun z => n (by rw [z]; simp)
  have oL : Off (Lall ks ws) H H' := o.mono fun b hb => by rw [List.mem_singleton.mp hb]; exact mem_Lall.mpr (.inl hc)
  obtain ⟨u0, k1, k2⟩ := h.kl c hc
  have kt : ∀ v e, H v = some (.tup e) → H' v = some (.tup e) := fun v e hv => sb _ _ hv fun z => by rw [z, k1] at hv; cases hv; exact k2 _ rfl
  have sk := stock_step h.sk oL (fun b hb => hb) (fun b hb => .inl hb)
  refine ⟨⟨fun v hv => tow_step (h.ok v hv) (M := [c]) o (fun b h1 h2 => h.kk c hc v hv (by rw [← List.mem_singleton.mp h2]; exact h1)) kt (by
      rw [h.es v hv]
      exact sk.mono fun b hb => .inl (mem_Lall.mpr (.inr ⟨v, hv, List.mem_cons_of_mem _ hb⟩))), h.ap, sk, h.es, h.kk, fun d hd => ?_⟩, Rst.step oL fun b hb => .inl hb⟩
  by_cases e : d = c
  · rw [e]; exact ⟨u, hc', hu⟩
  · obtain ⟨v, p1, p2⟩ := h.kl d hd; exact ⟨v, sb _ _ p1 e, p2⟩
end
noncomputable def wrB (e : List V) : Bool := decide (e[0]? = some (.str (Str.ofString "write")))
noncomputable def wzB (y : Str) (e : List V) : Bool := wrB e && decide (e[1]? = some (.str y))
noncomputable def cameE (es : List (List V)) : List (List V) := es.filter fun e => !wrB e
noncomputable def cw (y : Str) (es : List (List V)) : Nat := (es.filter (wzB y)).length
noncomputable def FmE (es : List (List V)) : Prop := ∀ e ∈ es, ∃ w z tl, e = .str w :: .str z :: tl
theorem came_wr {es : List (List V)} {z : Str} {v : Int} : cameE (es ++ [wrT z v]) = cameE es := by
  unfold cameE
  rw [List.filter_append, show ([wrT z v].filter fun e => !wrB e) = [] from rfl, List.append_nil]
theorem came_one {es : List (List V)} {e : List V} : cameE (es ++ [e]) = cameE es ++ cameE [e] := by unfold cameE; rw [List.filter_append]
theorem wzB_wr {y z : Str} {v : Int} : wzB y (wrT z v) = decide (z = y) := by
  have e : wzB y (wrT z v) = (true && decide (some (V.str z) = some (V.str y))) := rfl
  rw [e, Bool.true_and]
  by_cases h : z = y
  · rw [h]; simp
  · rw [decide_eq_false h, decide_eq_false (fun k => h (by cases k; rfl))]
theorem cw_wr {es : List (List V)} {y z : Str} {v : Int} : cw y (es ++ [wrT z v]) = cw y es + (if y = z then 1 else 0) := by
  unfold cw
  rw [List.filter_append, List.length_append]
  congr 1
  by_cases h : y = z
  · rw [if_pos h, List.filter_cons_of_pos (by rw [wzB_wr, h]; exact decide_eq_true rfl)]; rfl
  · rw [if_neg h, List.filter_cons_of_neg (by rw [wzB_wr]; simp; exact fun k => h k.symm)]; rfl
theorem cw_fe {es : List (List V)} {y w z : Str} (hw : w ≠ Str.ofString "write") : cw y (es ++ [[.str w, .str z]]) = cw y es := by
  unfold cw
  rw [List.filter_append, List.filter_cons_of_neg (by
    have e : wzB y [.str w, .str z] = (decide (some (V.str w) = some (V.str (Str.ofString "write"))) && decide (some (V.str z) = some (V.str y))) := rfl
    rw [e, decide_eq_false (fun k => hw (by cases k; rfl)), Bool.false_and]; decide), List.filter_nil, List.append_nil]
theorem FmE.wr {es : List (List V)} {z : Str} {v : Int} (h : FmE es) : FmE (es ++ [wrT z v]) := fun e he => by
  rcases List.mem_append.mp he with he | he
  · exact h e he
  · rw [List.mem_singleton.mp he]; exact ⟨_, _, _, rfl⟩
theorem FmE.fe {es : List (List V)} {w z : Str} (h : FmE es) : FmE (es ++ [[.str w, .str z]]) := fun e he => by
  rcases List.mem_append.mp he with he | he
  · exact h e he
  · rw [List.mem_singleton.mp he]; exact ⟨_, _, _, rfl⟩
structure RelG (hd : Str → Prop) (g1 g2 : Gt) (cv : Str → Int) (kp : Str → Nat) : Prop where
  a1 : ∀ y, hd y → g1.h y = cv y
  a2 : ∀ y, hd y → g2.h y = cv y
  b1 : ∀ y, g1.l y = false → g1.st y = cv y
  b2 : ∀ y, g2.st y = cv y
  p : ∀ y, g2.l y = false
  lh : ∀ y, g1.l y = true → hd y
  ca : cameE g1.es = cameE g2.es
  n2 : ∀ y, cw y g2.es = kp y
  n1 : ∀ y, cw y g1.es + (if g1.l y = true then 1 else 0) ≤ kp y
  n3 : ∀ y, 0 < kp y → g1.l y = true ∨ 0 < cw y g1.es
  f1 : FmE g1.es
  f2 : FmE g2.es
noncomputable def upN (kp : Str → Nat) (z : Str) : Str → Nat := fun y => if y = z then kp y + 1 else kp y
section
variable {hd q : Str → Prop} {g1 g2 : Gt} {cv : Str → Int} {kp : Str → Nat} {z w : Str} {v S : Int} {R : List Str}
theorem RelG.iff (h : RelG hd g1 g2 cv kp) (e : ∀ u, q u → hd u) (l : ∀ u, g1.l u = true → q u) : RelG q g1 g2 cv kp := ⟨fun y k => h.a1 y (e y k), fun y k => h.a2 y (e y k), h.b1, h.b2, h.p, l, h.ca, h.n2, h.n1, h.n3, h.f1, h.f2⟩
theorem RelG.zero : RelG (fun y => y ∈ ([] : List Str)) g0 g0 (fun _ => 0) (fun _ => 0) :=
  ⟨(fun y k => by cases k), (fun y k => by cases k), (fun _ _ => rfl), (fun _ => rfl), (fun _ => rfl), (fun y k => by cases k), rfl, (fun _ => rfl), (fun _ => Nat.le_refl _), (fun y k => absurd k (Nat.lt_irrefl 0)), (fun e he => by cases he), (fun e he => by cases he)⟩
theorem RelG.fetch (h : RelG hd g1 g2 cv kp) (hz : ¬ hd z) (hw : w ≠ Str.ofString "write") : RelG (fun y => hd y ∨ y = z) (fetchG w z g1) (fetchG w z g2) cv kp := by
  have hl : g1.l z = false := by cases k : g1.l z with | false => rfl | true => exact absurd (h.lh z k) hz
  refine ⟨fun y k => ?_, fun y k => ?_, h.b1, h.b2, h.p, fun y k => .inl (h.lh y k), ?_, fun y => ?_, fun y => ?_, fun y k => ?_, h.f1.fe, h.f2.fe⟩
  · show setF g1.h z (g1.st z) y = cv y
    by_cases e : y = z
    · rw [e, setF_same]; exact h.b1 z hl
    · rw [setF_ne e]; exact h.a1 y (k.resolve_right e)
  · show setF g2.h z (g2.st z) y = cv y
    by_cases e : y = z
    · rw [e, setF_same]; exact h.b2 z
    · rw [setF_ne e]; exact h.a2 y (k.resolve_right e)
  · show cameE (g1.es ++ [_]) = cameE (g2.es ++ [_])
    rw [came_one, came_one, h.ca]
  · show cw y (g2.es ++ [[.str w, .str z]]) = kp y
    rw [cw_fe hw]; exact h.n2 y
  · show cw y (g1.es ++ [[.str w, .str z]]) + _ ≤ kp y
    rw [cw_fe hw]; exact h.n1 y
  · show g1.l y = true ∨ 0 < cw y (g1.es ++ [[.str w, .str z]])
    rw [cw_fe hw]; exact h.n3 y k
theorem RelG.keep (h : RelG hd g1 g2 cv kp) : RelG (fun y => hd y ∨ y = z) (settleG false z (g1.hold z v)) (settleG true z (g2.hold z v)) (setF cv z v) (upN kp z) := by
  have hh : ∀ {f : Str → Int} y, (hd y → f y = cv y) → (hd y ∨ y = z) → setF f z v y = setF cv z v y := fun y k1 k2 => by
    by_cases e : y = z
    · rw [e, setF_same, setF_same]
    · rw [setF_ne e, setF_ne e]; exact k1 (k2.resolve_right e)
  refine ⟨fun y k => hh y (h.a1 y) k, fun y k => hh y (h.a2 y) k, fun y k => ?_, fun y => ?_, h.p, fun y k => ?_, ?_, fun y => ?_, fun y => ?_, fun y k => ?_, h.f1, h.f2.wr⟩
  · have k' : setF g1.l z true y = false := k
    show g1.st y = setF cv z v y
    by_cases e : y = z
    · rw [e, setF_same] at k'; cases k'
    · rw [setF_ne e] at k' ⊢; exact h.b1 y k'
  · show setF g2.st z (setF g2.h z v z) y = setF cv z v y
    by_cases e : y = z
    · rw [e, setF_same, setF_same, setF_same]
    · rw [setF_ne e, setF_ne e]; exact h.b2 y
  · have k' : setF g1.l z true y = true := k
    by_cases e : y = z
    · exact .inr e
    · rw [setF_ne e] at k'; exact .inl (h.lh y k')
  · show cameE g1.es = cameE (g2.es ++ [wrT z (setF g2.h z v z)])
    rw [came_wr]; exact h.ca
  · show cw y (g2.es ++ [wrT z (setF g2.h z v z)]) = upN kp z y
    rw [cw_wr, h.n2]
    unfold upN
    split <;> rfl
  · show cw y g1.es + (if setF g1.l z true y = true then 1 else 0) ≤ upN kp z y
    have := h.n1 y
    unfold upN
    by_cases e : y = z
    · rw [e, setF_same, if_pos rfl, if_pos rfl]
      rw [e] at this
      omega
    · rw [setF_ne e, if_neg e]; exact this
  · show setF g1.l z true y = true ∨ 0 < cw y g1.es
    by_cases e : y = z
    · rw [e, setF_same]; exact .inl rfl
    · rw [setF_ne e]
      exact h.n3 y (by unfold upN at k; rw [if_neg e] at k; exact k)
theorem RelG.write (h : RelG hd g1 g2 cv kp) (hz : g1.l z = true) : RelG hd ((g1.late z false).write z) g2 cv kp := by
  refine ⟨h.a1, h.a2, fun y k => ?_, h.b2, h.p, fun y k => ?_, ?_, h.n2, fun y => ?_, fun y k => ?_, h.f1.wr, h.f2⟩
  · have k' : setF g1.l z false y = false := k
    show setF g1.st z (g1.h z) y = cv y
    by_cases e : y = z
    · rw [e, setF_same]; exact h.a1 z (h.lh z hz)
    · rw [setF_ne e] at k' ⊢; exact h.b1 y k'
  · have k' : setF g1.l z false y = true := k
    by_cases e : y = z
    · rw [e, setF_same] at k'; cases k'
    · rw [setF_ne e] at k'; exact h.lh y k'
  · show cameE (g1.es ++ [wrT z (g1.h z)]) = _
    rw [came_wr]; exact h.ca
  · show cw y (g1.es ++ [wrT z (g1.h z)]) + (if setF g1.l z false y = true then 1 else 0) ≤ kp y
    have := h.n1 y
    rw [cw_wr]
    by_cases e : y = z
    · rw [e, setF_same, if_pos rfl, if_neg (by decide)]
      rw [e, hz, if_pos rfl] at this
      omega
    · rw [setF_ne e, if_neg e]; exact this
  · show setF g1.l z false y = true ∨ 0 < cw y (g1.es ++ [wrT z (g1.h z)])
    rw [cw_wr]
    by_cases e : y = z
    · rw [if_pos e]; exact .inr (by omega)
    · rw [setF_ne e, if_neg e]; exact h.n3 y k
theorem RelG.fall (h : RelG hd g1 g2 cv kp) : RelG (fun y => hd y ∧ y ≠ z) (fallG z g1) (fallG z g2) cv kp := by
  have e2 : fallG z g2 = g2 := by unfold fallG; rw [h.p z]; rfl
  rw [e2]
  unfold fallG
  by_cases hz : g1.l z = true
  · rw [if_pos hz]
    refine (h.write hz).iff (fun u k => k.1) fun u k => ?_
    have k' : setF g1.l z false u = true := k
    by_cases e : u = z
    · rw [e, setF_same] at k'; cases k'
    · rw [setF_ne e] at k'; exact ⟨h.lh u k', e⟩
  · rw [if_neg hz]
    exact h.iff (fun u k => k.1) fun u k => ⟨h.lh u k, fun e => hz (by rw [← e]; exact k)⟩
theorem RelG.come (h : RelG (fun y => y ∈ R ∨ y = z) g1 g2 cv kp) (nd : R.Nodup) (hS : 1 ≤ S) (hR : (R.length : Int) ≤ S) (k1 : ∀ y, (comeG S R z g1).l y = true → y ∈ (z :: R.erase z).take S.toNat) : RelG (fun y => y ∈ (z :: R.erase z).take S.toNat) (comeG S R z g1) (comeG S R z g2) cv kp := by
  have hm : ∀ u, u ∈ (z :: R.erase z).take S.toNat → u ∈ R ∨ u = z := fun u hu => by
    rcases List.mem_cons.mp (List.mem_of_mem_take hu) with e | e
    · exact .inr e
    · exact .inl (List.mem_of_mem_erase e)
  unfold comeG at k1 ⊢
  by_cases hf : S < ((z :: R.erase z).length : Int)
  · rw [if_pos hf] at k1 ⊢
    rw [if_pos hf]
    refine (h.fall (z := lastS (z :: R.erase z))).iff (fun u hu => ⟨hm u hu, fun e => ?_⟩) k1
    have ndz : (z :: R.erase z).Nodup := List.nodup_cons.mpr ⟨fun k => absurd rfl ((List.Nodup.mem_erase_iff nd).mp k).1, nd.erase z⟩
    have hl : (z :: R.erase z).length ≤ S.toNat + 1 := by
      have := List.length_erase_le (a := z) (l := R)
      rw [List.length_cons]; omega
    generalize z :: R.erase z = W at hu e ndz hl hf
    have hp : 0 < W.length := by omega
    obtain ⟨i, hi⟩ := List.mem_iff_getElem?.mp hu
    have hi2 : i < S.toNat := by
      have := (List.getElem?_eq_some_iff.mp hi).1
      rw [List.length_take] at this; omega
    rw [List.getElem?_take, if_pos hi2] at hi
    have hlast : W[W.length - 1]? = some u := by
      rw [e]; unfold lastS
      rw [List.getElem?_eq_getElem (show W.length - 1 < W.length by omega)]; rfl
    have := (List.getElem?_inj (by exact (List.getElem?_eq_some_iff.mp hi).1) ndz).mp (hi.trans hlast.symm)
    omega
  · rw [if_neg hf] at k1 ⊢
    rw [if_neg hf]
    exact h.iff hm k1
end
section
variable {hd q : Str → Prop} {g1 g2 : Gt} {cv : Str → Int} {kp : Str → Nat} {z w : Str} {v S d : Int} {R : List Str}
theorem come_h (g : Gt) : (comeG S R z g).h = g.h := by
  unfold comeG
  split
  · unfold fallG; split <;> rfl
  · rfl
theorem RelG.step (h : RelG (fun y => y ∈ R) g1 g2 cv kp) (nd : R.Nodup) (hS : 1 ≤ S) (hR : (R.length : Int) ≤ S) (h0 : 0 ≤ d) (h6 : d ≤ 6) (l : ∀ y, (stepG false S R d z v g1).l y = true → y ∈ stepR S R d z) :
    RelG (fun y => y ∈ stepR S R d z) (stepG false S R d z v g1) (stepG true S R d z v g2) (if keptB d then setF cv z v else cv) (if keptB d then upN kp z else kp) ∧ stepA S R d z v g1 = stepA S R d z v g2 := by
  have old : z ∈ R → RelG (fun y => y ∈ R ∨ y = z) g1 g2 cv kp := fun hz => h.iff (fun u k => k.elim id fun e => by rw [e]; exact hz) fun u k => .inl (h.lh u k)
  by_cases d6 : d = 6
  · have hk : ¬ keptB d := fun k => by have := k.2; omega
    rw [if_neg hk, if_neg hk]
    have e1 : ∀ pr g, stepG pr S R d z v g = aheadG S R z g := fun pr g => by unfold stepG; rw [if_neg (by omega), if_pos d6]
    refine ⟨?_, by unfold stepA; rw [if_neg (by omega), if_pos d6, if_neg (by omega), if_pos d6]⟩
    rw [e1] at l ⊢
    rw [e1]
    by_cases hz : z ∈ R
    · have eR : stepR S R d z = R := by unfold stepR; rw [if_neg (show ¬ 6 < d by omega), if_pos ⟨d6, hz⟩]
      have eA : ∀ g, aheadG S R z g = g := fun g => by unfold aheadG; rw [if_pos hz]
      rw [eA, eA, eR]
      exact h
    · have eR : stepR S R d z = (z :: R.erase z).take S.toNat := by unfold stepR; rw [if_neg (show ¬ 6 < d by omega), if_neg (fun k => hz k.2)]
      have eA : ∀ g, aheadG S R z g = comeG S R z (fetchG (Str.ofString "ahead") z g) := fun g => by unfold aheadG; rw [if_neg hz]
      rw [eA, eR] at l
      rw [eA, eA, eR]
      exact (h.fetch hz (by decide)).come nd hS hR l
  · have eR : stepR S R d z = (z :: R.erase z).take S.toNat := by unfold stepR; rw [if_neg (by omega), if_neg (fun k => d6 k.1)]
    rw [eR] at l ⊢
    by_cases d3 : d < 3
    · have hk : ¬ keptB d := fun k => by have := k.1; omega
      rw [if_neg hk, if_neg hk]
      have e1 : ∀ pr g, stepG pr S R d z v g = readG S R z g := fun pr g => by unfold stepG; rw [if_neg (by omega), if_neg d6, if_pos d3]
      have e2 : ∀ g, stepA S R d z v g = .int ((readG S R z g).h z) := fun g => by unfold stepA; rw [if_neg (by omega), if_neg d6, if_pos d3]
      rw [e1] at l ⊢
      rw [e1, e2, e2]
      unfold readG at l ⊢
      rw [come_h, come_h]
      by_cases hz : z ∈ R
      · rw [if_pos hz] at l ⊢
        rw [if_pos hz, h.a1 z hz, h.a2 z hz]
        exact ⟨(old hz).come nd hS hR l, rfl⟩
      · rw [if_neg hz] at l ⊢
        rw [if_neg hz]
        have hf := h.fetch (w := Str.ofString "fetch") hz (by decide)
        rw [hf.a1 z (.inr rfl), hf.a2 z (.inr rfl)]
        exact ⟨hf.come nd hS hR l, rfl⟩
    · have hk : keptB d := ⟨by omega, by omega⟩
      rw [if_pos hk, if_pos hk]
      have e1 : ∀ pr g, stepG pr S R d z v g = keepG pr S R z v g := fun pr g => by unfold stepG; rw [if_neg (by omega), if_neg d6, if_neg d3]
      have e2 : ∀ g, stepA S R d z v g = .int v := fun g => by unfold stepA; rw [if_neg (by omega), if_neg d6, if_neg d3]
      rw [e1] at l ⊢
      rw [e1, e2, e2]
      exact ⟨h.keep.come nd hS hR l, rfl⟩
theorem writes_l (ws : List Str) : ∀ (g : Gt) (l : Str → Bool), writesG ws { g with l := l } = { writesG ws g with l := l } := by
  induction ws with
  | nil => intro g l; rfl
  | cons y ws ih => intro g l; exact ih (g.write y) l
theorem RelG.writes (ws : List Str) : ∀ g1 : Gt, ws.Nodup → (∀ y ∈ ws, g1.l y = true) → RelG hd g1 g2 cv kp → RelG hd { writesG ws g1 with l := fun y => g1.l y && decide (y ∉ ws) } g2 cv kp := by
  induction ws with
  | nil =>
    intro g1 _ _ h
    have e : ({ writesG [] g1 with l := fun y => g1.l y && decide (y ∉ ([] : List Str)) } : Gt) = g1 := by
      show ({ g1 with l := _ } : Gt) = g1
      have : (fun y => g1.l y && decide (y ∉ ([] : List Str))) = g1.l := by funext y; simp
      rw [this]
    rw [e]; exact h
  | cons z ws ih =>
    intro g1 nd hl h
    obtain ⟨nz, nd'⟩ := List.nodup_cons.mp nd
    have h1 := ih ((g1.late z false).write z) nd' (fun y hy => by
      show setF g1.l z false y = true
      rw [setF_ne (fun e => nz (by rw [← e]; exact hy))]; exact hl y (List.mem_cons_of_mem _ hy)) (h.write (hl z List.mem_cons_self))
    have e : (g1.late z false).write z = { g1.write z with l := setF g1.l z false } := rfl
    rw [e, writes_l] at h1
    have e2 : (fun y => ({ g1.write z with l := setF g1.l z false } : Gt).l y && decide (y ∉ ws)) = fun y => g1.l y && decide (y ∉ z :: ws) := by
      funext y
      show (setF g1.l z false y && decide (y ∉ ws)) = _
      by_cases k : y = z
      · rw [k, setF_same]; simp
      · rw [setF_ne k]; simp [k]
    rw [e2] at h1
    exact h1
theorem RelG.rest (h : RelG (fun y => y ∈ R) g1 g2 cv kp) (nd : R.Nodup) : RelG (fun y => y ∈ R) (restG R g1) g2 cv kp := by
  have h1 := RelG.writes (R.filter g1.l) g1 (nd.sublist List.filter_sublist) (fun y hy => (List.mem_filter.mp hy).2) h
  have e : (fun y => g1.l y && decide (y ∉ R.filter g1.l)) = fun _ => false := by
    funext y
    cases k : g1.l y with
    | false => rfl
    | true => rw [decide_eq_false (fun n => n (List.mem_filter.mpr ⟨h.lh y k, k⟩)), Bool.and_false]
  rw [e] at h1
  exact h1
theorem come_len (g : Gt) : (comeG S R z g).es.length ≤ g.es.length + 1 := by
  obtain ⟨ws, e, _, hl⟩ := come_new S R z g
  rw [e, List.length_append, show (wsE g.h ws).length = ws.length by unfold wsE; rw [List.length_map]]
  omega
theorem step_len {pr : Bool} (g : Gt) (h : R.length ≤ 8) : (stepG pr S R d z v g).es.length ≤ g.es.length + 8 := by
  unfold stepG
  split
  · show (writesG (R.filter g.l) g).es.length ≤ _
    rw [writes_es, List.length_append, show (wsE g.h (R.filter g.l)).length = (R.filter g.l).length by unfold wsE; rw [List.length_map]]
    have := List.length_filter_le g.l R
    omega
  · split
    · unfold aheadG
      split
      · omega
      · refine Nat.le_trans (come_len _) ?_
        show (g.es ++ [_]).length + 1 ≤ _
        rw [List.length_append]; simp only [List.length_cons, List.length_nil]; omega
    · split
      · unfold readG
        refine Nat.le_trans (come_len _) ?_
        split
        · omega
        · show (g.es ++ [_]).length + 1 ≤ _
          rw [List.length_append]; simp only [List.length_cons, List.length_nil]; omega
      · unfold keepG
        refine Nat.le_trans (come_len _) ?_
        unfold settleG
        split
        · show (g.es ++ [_]).length + 1 ≤ _
          rw [List.length_append]; simp only [List.length_cons, List.length_nil]; omega
        · show g.es.length + 1 ≤ _
          omega
theorem rest_len (g : Gt) (h : R.length ≤ 8) : (restG R g).es.length ≤ g.es.length + 8 := by
  have := step_len (S := 1) (R := R) (d := 7) (z := Str.empty) (v := 0) (pr := false) g h
  unfold stepG at this
  rw [if_pos (by decide)] at this
  exact this
end
noncomputable def rowV (H : Hp) (p : List V → Bool) : V → Bool
  | .ref u => match H u with
    | some (.tup e) => p e
    | _ => false
  | _ => false
theorem rowV_at {H : Hp} {p : List V → Bool} {u : Addr} {e : List V} (h : H u = some (.tup e)) : rowV H p (.ref u) = p e := by
  show (match H u with | some (.tup e) => p e | _ => false) = p e
  rw [h]
theorem rows_filter {H : Hp} {p : List V → Bool} : ∀ {us : List Addr} {es : List (List V)}, EnAt H us es → ∃ us', (us.map V.ref).filter (rowV H p) = us'.map V.ref ∧ EnAt H us' (es.filter p) := by
  intro us
  induction us with
  | nil =>
    intro es h
    have : es = [] := List.length_eq_zero_iff.mp h.1.symm
    subst this
    exact ⟨[], rfl, rfl, fun i a e k => by simp at k⟩
  | cons u us ih =>
    intro es h
    cases es with
    | nil => cases h.1
    | cons e es =>
    have hu := h.2 0 u e rfl rfl
    obtain ⟨us', e1, e2⟩ := ih (es := es) ⟨by have := h.1; simpa using this, fun i a x k1 k2 => h.2 (i + 1) a x k1 k2⟩
    rw [List.map_cons]
    by_cases hp : p e = true
    · refine ⟨u :: us', by rw [List.filter_cons_of_pos (by rw [rowV_at hu]; exact hp), e1]; rfl, ?_⟩
      rw [List.filter_cons_of_pos hp]
      refine ⟨by rw [List.length_cons, List.length_cons, e2.1], fun i a x k1 k2 => ?_⟩
      cases i with
      | zero => cases k1; cases k2; exact hu
      | succ i => exact e2.2 i a x k1 k2
    · refine ⟨us', by rw [List.filter_cons_of_neg (by rw [rowV_at hu]; exact hp), e1], ?_⟩
      rw [List.filter_cons_of_neg hp]
      exact e2
theorem rows_like {K : PySem.W.Frag} {H : Hp} {a b : Addr} {as bs : List Addr} {es : List (List V)} (ha : H a = some (.lst (as.map V.ref))) (hb : H b = some (.lst (bs.map V.ref))) (h1 : EnAt H as es) (h2 : EnAt H bs es) (fl : ∀ e ∈ es, e.all flatV = true) {n : Nat} : LikeR K (n + 1) H (.ref a) (.ref b) := ⟨a, b, _, _, rfl, rfl, .inl ⟨SqL.of ha, SqL.of hb⟩, by rw [List.length_map, List.length_map, h1.1, h2.1], fun i x y e1 e2 => by
  rw [List.getElem?_map] at e1 e2
  cases a1 : as[i]? with
  | none => rw [a1] at e1; cases e1
  | some p =>
  cases a2 : bs[i]? with
  | none => rw [a2] at e2; cases e2
  | some q =>
  rw [a1] at e1
  rw [a2] at e2
  cases e1
  cases e2
  have hi : i < es.length := by rw [← h1.1]; exact (List.getElem?_eq_some_iff.mp a1).1
  have he := List.getElem?_eq_getElem hi
  exact LikeN.of ⟨p, q, _, _, rfl, rfl, .inr ⟨SqT.of (h1.2 i p _ a1 he), SqT.of (h2.2 i q _ a2 he)⟩, rfl, fun j x y f1 f2 => by
    rw [f1] at f2
    cases f2
    exact LikeN.flat (List.all_eq_true.mp (fl _ (List.mem_of_getElem? he)) _ (List.mem_of_getElem? f1))⟩⟩
noncomputable def sp79_told (K : PySem.W.Frag) (C1 C2 Sk : Addr) : Sp := fun vs H Q _ => ∃ (C t : Addr) (x : TwA) (s : TwS) (g : Gt) (ts : List Th) (B : Nat), vs = [.ref t] ∧ (C = C2 ∨ C = C1) ∧ TowG K C Sk H t x s g ts B ∧
  ∀ (p lv fo : Addr) (as : List Addr) (H' : Hp), (∀ b ∈ p :: lv :: fo :: as, H b = none) → Same H H' → Told3 H' p s.zs s.R s.ff s.pd lv fo as → Q (.ref p) H'
noncomputable def sp79_came (K : PySem.W.Frag) (C1 C2 Sk : Addr) : Sp := fun vs H Q _ => ∃ (C t : Addr) (x : TwA) (s : TwS) (g : Gt) (ts : List Th) (B : Nat), vs = [.ref t] ∧ (C = C2 ∨ C = C1) ∧ TowG K C Sk H t x s g ts B ∧ FmE g.es ∧
  ∀ (p : Addr) (us : List Addr) (H' : Hp), Same H H' → H' p = some (.lst (us.map V.ref)) → EnAt H' us (cameE g.es) → Q (.ref p) H'
noncomputable def sp79_writes (K : PySem.W.Frag) (C1 C2 Sk : Addr) : Sp := fun vs H Q _ => ∃ (C t : Addr) (z : Str) (x : TwA) (s : TwS) (g : Gt) (ts : List Th) (B : Nat), vs = [.ref t, .str z] ∧ (C = C2 ∨ C = C1) ∧ TowG K C Sk H t x s g ts B ∧ FmE g.es ∧ ∀ H', Same H H' → Q (.int (cw z g.es : Nat)) H'
noncomputable def Kp4 (K : PySem.W.Frag) (H : Hp) (a : Addr) : Prop := ∃ l r e s, H a = some (.tup [.ref l, .ref r, .ref e, .ref s]) ∧ LikeR K 3 H (.ref l) (.ref r) ∧ LikeR K 3 H (.ref e) (.ref s)
theorem Kp4.same {K : PySem.W.Frag} {H H' : Hp} {a : Addr} (m : Same H H') (h : Kp4 K H a) : Kp4 K H' a := by
  obtain ⟨l, r, e, s, h1, h2, h3⟩ := h
  exact ⟨l, r, e, s, m _ _ h1, LikeR.same m h2, LikeR.same m h3⟩
noncomputable def sp79_kept (K : PySem.W.Frag) (C1 C2 Sk : Addr) : Sp := fun vs H Q _ => ∃ (t1 t2 : Addr) (x1 x2 : TwA) (s1 s2 : TwS) (g1 g2 : Gt) (ts : List Th) (B : Nat), vs = [.ref t1, .ref t2] ∧ TowG K C1 Sk H t1 x1 s1 g1 ts B ∧ TowG K C2 Sk H t2 x2 s2 g2 ts B ∧ s2.zs = s1.zs ∧ s2.R = s1.R ∧ g1.es.length ≤ 1000 ∧
  ∀ (a : Addr) (H' : Hp), Same H H' → (∀ L : List Addr, (∀ b ∈ L, ∃ o, H b = some o) → (∀ b ∈ L, ∀ e, H b ≠ some (.tup e)) → Kp4 K (Rst L H') a) → Q (.ref a) H'
noncomputable def sp79_stores (K : PySem.W.Frag) (C1 C2 Sk : Addr) : Sp := fun vs H Q _ => ∃ (t1 t2 kd : Addr) (x1 x2 : TwA) (s1 s2 : TwS) (g1 g2 : Gt) (ts : List Th) (B : Nat) (kk : List (Key × V)) (cv : Str → Int) (kp : Str → Nat), vs = [.ref t1, .ref t2, .ref kd] ∧ TowG K C1 Sk H t1 x1 s1 g1 ts B ∧ TowG K C2 Sk H t2 x2 s2 g2 ts B ∧ RelG (fun y => y ∈ s1.R) g1 g2 cv kp ∧ (∀ y, g1.l y = false) ∧ H kd = some (.dK kk) ∧ (∀ (i : Nat) p, kk[i]? = some p → ∃ y, p.1 = Sum.inr y ∧ y ∈ ts.map (·.1) ∧ valV kk (Sum.inr y) = some (.int (kp y : Nat))) ∧ kd ∉ x1.si :: own t1 x1 ∧ kd ∉ x2.si :: own t2 x2 ∧ StockT K Sk H x1.st ts (kd :: own t1 x1) ∧ StockT K Sk H x2.st ts (kd :: own t2 x2) ∧
  ∀ H', SameBut kd H H' → TowG K C1 Sk H' t1 x1 s1 g1 ts B → TowG K C2 Sk H' t2 x2 s2 g2 ts B → Q (.bl true) H'
theorem en_of {K : PySem.W.Frag} {C S : Addr} {H : Hp} {t : Addr} {x : TwA} {s : TwS} {g : Gt} {ts : List Th} {B : Nat} (h : TowG K C S H t x s g ts B) : ∃ us : List Addr, s.es = us.map V.ref ∧ EnAt H us g.es := by
  obtain ⟨us, u1, u2, u3⟩ := h.g.es
  exact ⟨us, u1, u2, u3⟩
theorem frozen2 {K : PySem.W.Frag} {C S : Addr} {H H' : Hp} {t kd : Addr} {x : TwA} {s : TwS} {g : Gt} {ts : List Th} {B : Nat} {kk : List (Key × V)} (h : TowG K C S H t x s g ts B) (hk : H kd = some (.dK kk)) (n : kd ∉ x.si :: own t x) (sk : StockT K S H x.st ts (kd :: own t x)) (sb : SameBut kd H H') : TowG K C S H' t x s g ts B :=
  have o : Off [kd] H H' := fun b v e n => sb b v e fun z => n (by rw [z]; simp)
  tow_step h o (fun b h1 h2 => n (by rw [← List.mem_singleton.mp h2]; exact h1)) (fun v e hv => sb _ _ hv (ne_of hv hk (by intro z; cases z))) (stock_step sk o (fun b hb => by rw [List.mem_singleton.mp hb]; exact List.mem_cons_self) fun b hb => .inl (List.mem_cons_of_mem _ hb))
theorem some_str {a b : Str} : decide (some (V.str a) = some (V.str b)) = decide (a = b) := by
  by_cases h : a = b
  · rw [h]; simp
  · rw [decide_eq_false h, decide_eq_false (fun k => h (by cases k; rfl))]
theorem wrB_at {w : Str} {tl : List V} : wrB (.str w :: tl) = decide (w = Str.ofString "write") := some_str
theorem wzB_at {w y z : Str} {tl : List V} : wzB z (.str w :: .str y :: tl) = (decide (w = Str.ofString "write") && decide (y = z)) := by
  show (decide (some (V.str w) = some (V.str (Str.ofString "write"))) && decide (some (V.str y) = some (V.str z))) = _
  rw [some_str, some_str]
theorem cut_all {xs : List V} {n : Nat} (h : xs.length ≤ n) : cutV xs none (some (n : Int)) = xs := by
  unfold cutV
  rw [HT.sIx_nat, Nat.min_eq_right h]
  show (xs.drop 0).take (xs.length - 0) = xs
  rw [List.drop_zero, Nat.sub_zero, List.take_length]
noncomputable def absM (c : Int) (i : Nat) : Int := if valM (mixF c i) < 0 then -valM (mixF c i) else valM (mixF c i)
noncomputable def csV (c : Int) (m : Nat) : List Int := (List.range m).map (absM c)
theorem csV_at {c : Int} {m i : Nat} (h : i < m) : (csV c m).getD i 0 = absM c i := by
  unfold csV
  rw [List.getD_eq_getElem?_getD, List.getElem?_map, List.getElem?_range h]; rfl
theorem csV_out {c : Int} {m i : Nat} (h : ¬ i < m) : (csV c m).getD i 0 = 0 := by
  unfold csV
  rw [List.getD_eq_getElem?_getD, List.getElem?_eq_none (by rw [List.length_map, List.length_range]; omega)]; rfl
section
variable {K : PySem.W.Frag} {S st : Addr} {ts : List Th} {B : Nat} {H H' : Hp} {ks : List Addr} {ws : List Tw} {w : Tw}
theorem Tws.zero (h : StockAt K S H st ts) : Tws K S st ts B H [] [] := ⟨(fun w hw => by cases hw), List.Pairwise.nil, StockT.of h, (fun w hw => by cases hw), (fun c hc => by cases hc), (fun c hc => by cases hc)⟩
theorem Tws.add (h : Tws K S st ts B H ks ws) (m : Same H H') (tw : TowG K w.C S H' w.t w.x w.s w.g ts B) (n : ∀ b ∈ w.ow, H b = none) (e : w.x.st = st) : Tws K S st ts B H' ks (ws ++ [w]) := by
  have far : ∀ b o, H b = some o → b ∉ w.ow := fun b o k hb => by rw [n b hb] at k; cases k
  refine ⟨fun v hv => ?_, List.pairwise_append.mpr ⟨h.ap, List.pairwise_singleton _ _, fun a ha b hb c hc => ?_⟩, (h.sk.mono fun b hb => ?_).off (.of m), fun v hv => ?_, fun c hc v hv => ?_, fun c hc => ?_⟩
  · rcases List.mem_append.mp hv with hv | hv
    · exact (h.ok v hv).same m
    · rw [List.mem_singleton.mp hv]; exact tw
  · rw [List.mem_singleton.mp hb]
    obtain ⟨o, k⟩ := own_some (h.ok a ha).to.tw c hc
    exact far c o k
  · rcases mem_Lall.mp hb with hb | ⟨v, hv, hb⟩
    · exact .inl (mem_Lall.mpr (.inl hb))
    · rcases List.mem_append.mp hv with hv | hv
      · exact .inl (mem_Lall.mpr (.inr ⟨v, hv, hb⟩))
      · rw [List.mem_singleton.mp hv] at hb; exact .inr (n b hb)
  · rcases List.mem_append.mp hv with hv | hv
    · exact h.es v hv
    · rw [List.mem_singleton.mp hv]; exact e
  · obtain ⟨o, k, _⟩ := h.kl c hc
    rcases List.mem_append.mp hv with hv | hv
    · exact h.kk c hc v hv
    · rw [List.mem_singleton.mp hv]; exact far c o k
  · obtain ⟨o, k, k2⟩ := h.kl c hc
    exact ⟨o, m _ _ k, k2⟩
theorem Tws.addK {c : Addr} {o : HO} (h : Tws K S st ts B H ks ws) (m : Same H H') (hc : H c = none) (hc' : H' c = some o) (ho : ∀ e, o ≠ .tup e) : Tws K S st ts B H' (c :: ks) ws := by
  refine ⟨fun v hv => (h.ok v hv).same m, h.ap, (h.sk.mono fun b hb => ?_).off (.of m), h.es, fun d hd v hv => ?_, fun d hd => ?_⟩
  · rcases mem_Lall.mp hb with hb | hb
    · rcases List.mem_cons.mp hb with e | hb
      · rw [e]; exact .inr hc
      · exact .inl (mem_Lall.mpr (.inl hb))
    · exact .inl (mem_Lall.mpr (.inr hb))
  · rcases List.mem_cons.mp hd with e | hd
    · rw [e]
      intro k
      obtain ⟨u, k2⟩ := own_some (h.ok v hv).to.tw c k
      rw [hc] at k2; cases k2
    · exact h.kk d hd v hv
  · rcases List.mem_cons.mp hd with e | hd
    · rw [e]; exact ⟨o, hc', ho⟩
    · obtain ⟨u, k1, k2⟩ := h.kl d hd; exact ⟨u, m _ _ k1, k2⟩
theorem Tws.addR (m : Same H H') (n : ∀ b ∈ w.ow, H b = none) : Same (Rst (Lall ks ws) H) (Rst (Lall ks (ws ++ [w])) H') := Rst.step (.of m) fun b hb => by
  rcases mem_Lall.mp hb with hb | ⟨v, hv, hb⟩
  · exact .inl (mem_Lall.mpr (.inl hb))
  · rcases List.mem_append.mp hv with hv | hv
    · exact .inl (mem_Lall.mpr (.inr ⟨v, hv, hb⟩))
    · rw [List.mem_singleton.mp hv] at hb; exact .inr (n b hb)
theorem Tws.addKR {c : Addr} (m : Same H H') (hc : H c = none) : Same (Rst (Lall ks ws) H) (Rst (Lall (c :: ks) ws) H') := Rst.step (.of m) fun b hb => by
  rcases mem_Lall.mp hb with hb | hb
  · rcases List.mem_cons.mp hb with e | hb
    · rw [e]; exact .inr hc
    · exact .inl (mem_Lall.mpr (.inl hb))
  · exact .inl (mem_Lall.mpr (.inr hb))
end
structure KK (kk : List (Key × V)) (ys : List Str) (kp : Str → Nat) (n : Nat) : Prop where
  k : ∀ p ∈ kk, ∃ y, p.1 = Sum.inr y ∧ y ∈ ys
  v : ∀ y ∈ ys, valV kk (Sum.inr y) = some (.int (kp y : Nat))
  n : kk.length ≤ n
theorem mem_putK {kk : List (Key × V)} {k : Key} {v : V} {p : Key × V} (h : p ∈ putK kk k v) : p.1 = k ∨ ∃ p0 ∈ kk, p.1 = p0.1 := by
  unfold putK at h
  split at h
  · obtain ⟨p0, h0, rfl⟩ := List.mem_map.mp h
    refine .inr ⟨p0, h0, ?_⟩
    split <;> rfl
  · rcases List.mem_append.mp h with h | h
    · exact .inr ⟨p, h, rfl⟩
    · rw [List.mem_singleton.mp h]; exact .inl rfl
theorem KK.put {kk : List (Key × V)} {ys : List Str} {kp : Str → Nat} {n : Nat} {z : Str} (h : KK kk ys kp n) (hz : z ∈ ys) : KK (putK kk (Sum.inr z) (.int ((kp z : Nat) + 1))) ys (upN kp z) (n + 1) := by
  refine ⟨fun p hp => ?_, fun y hy => ?_, by have := length_putK kk (Sum.inr z : Key) (V.int ((kp z : Nat) + 1)); have := h.n; omega⟩
  · rcases mem_putK hp with e | ⟨p0, h0, e⟩
    · exact ⟨z, e, hz⟩
    · rw [e]; exact h.k p0 h0
  · unfold upN
    by_cases e : y = z
    · rw [e, valV_put, if_pos rfl, if_pos rfl]; rfl
    · rw [valV_put, if_neg (fun k => e (Sum.inr.inj k)), if_neg e]; exact h.v y hy
theorem KK.add {kk : List (Key × V)} {ys : List Str} {n : Nat} {z : Str} (h : KK kk ys (fun _ => 0) n) : KK (putK kk (Sum.inr z) (.int 0)) (ys ++ [z]) (fun _ => 0) (n + 1) := by
  refine ⟨fun p hp => ?_, fun y hy => ?_, by have := length_putK kk (Sum.inr z : Key) (V.int 0); have := h.n; omega⟩
  · rcases mem_putK hp with e | ⟨p0, h0, e⟩
    · exact ⟨z, e, by simp⟩
    · rw [e]
      obtain ⟨y, h1, h2⟩ := h.k p0 h0
      exact ⟨y, h1, List.mem_append_left _ h2⟩
  · by_cases e : y = z
    · rw [e, valV_put, if_pos rfl]; rfl
    · rw [valV_put, if_neg (fun k => e (Sum.inr.inj k))]
      rcases List.mem_append.mp hy with hy | hy
      · exact h.v y hy
      · exact absurd (List.mem_singleton.mp hy) e
theorem none_of {Ha Hb : Hp} {b : Addr} (sm : Same Ha Hb) (e : Hb b = none) : Ha b = none := by
  cases k : Ha b with
  | none => rfl
  | some o => rw [sm _ _ k] at e; cases e
structure Iv (K : PySem.W.Frag) (S st : Addr) (ts : List Th) (B : Nat) (H : Hp) (kd kl np cp la : Addr) (kk : List (Key × V)) (ks : List Addr) (ys : List Str) (cells : List Int) (last : List Str) (ws : List Tw) : Prop where
  tws : Tws K S st ts B H [kl, kd] ws
  hkd : H kd = some (.dK kk)
  hkl : H kl = some (.lst (ks.map V.ref))
  kq : ∀ a ∈ ks, Kp4 K (Rst (Lall [kl, kd] ws) H) a
  rnp : Rst (Lall [kl, kd] ws) H np = some (.lst (ys.map V.str))
  rcp : Rst (Lall [kl, kd] ws) H cp = some (.lst (cells.map V.int))
  rla : Rst (Lall [kl, kd] ws) H la = some (.lst (last.map V.str))
section
variable {K : PySem.W.Frag} {S st : Addr} {ts : List Th} {B B' : Nat} {H H' : Hp} {kd kl np cp la : Addr} {kk : List (Key × V)} {ks : List Addr} {ys : List Str} {cells : List Int} {last : List Str} {ws l1 l2 : List Tw} {w w' : Tw}
theorem Iv.same (h : Iv K S st ts B H kd kl np cp la kk ks ys cells last ws) (m : Same H H') : Iv K S st ts B H' kd kl np cp la kk ks ys cells last ws :=
  have r := Rst.mono (L := Lall [kl, kd] ws) m
  ⟨h.tws.same m, m _ _ h.hkd, m _ _ h.hkl, fun a ha => (h.kq a ha).same r, r _ _ h.rnp, r _ _ h.rcp, r _ _ h.rla⟩
theorem Iv.deed (h : Iv K S st ts B H kd kl np cp la kk ks ys cells last (l1 ++ w :: l2)) (o : Off (own w.t w.x) H H') (m : ∀ b ∈ own w'.t w'.x, b ∈ own w.t w.x ∨ H b = none) (tw : TowG K w'.C S H' w'.t w'.x w'.s w'.g ts B') (hB : B ≤ B') (est : w'.x.st = w.x.st) (esi : w'.x.si = w.x.si) : Iv K S st ts B' H' kd kl np cp la kk ks ys cells last (l1 ++ w' :: l2) := by
  obtain ⟨t, r, k⟩ := h.tws.deed o m tw hB est esi
  exact ⟨t, k kd (by simp) _ h.hkd, k kl (by simp) _ h.hkl, fun a ha => (h.kq a ha).same r, r _ _ h.rnp, r _ _ h.rcp, r _ _ h.rla⟩
theorem Iv.putD {k' : List (Key × V)} (h : Iv K S st ts B H kd kl np cp la kk ks ys cells last ws) : Iv K S st ts B (upd H kd (.dK k')) kd kl np cp la k' ks ys cells last ws := by
  obtain ⟨t, r⟩ := h.tws.put (c := kd) (u := .dK k') (by simp) (by intro e z; cases z) sameBut_upd upd_same
  exact ⟨t, upd_same, by rw [upd_ne (ne_of h.hkl h.hkd (by intro z; cases z))]; exact h.hkl, fun a ha => (h.kq a ha).same r, r _ _ h.rnp, r _ _ h.rcp, r _ _ h.rla⟩
theorem Iv.putL {a : Addr} (h : Iv K S st ts B H kd kl np cp la kk ks ys cells last ws) (ha : Kp4 K (Rst (Lall [kl, kd] ws) H) a) : Iv K S st ts B (upd H kl (.lst ((ks ++ [a]).map V.ref))) kd kl np cp la kk (ks ++ [a]) ys cells last ws := by
  obtain ⟨t, r⟩ := h.tws.put (c := kl) (u := .lst ((ks ++ [a]).map V.ref)) (by simp) (by intro e z; cases z) sameBut_upd upd_same
  exact ⟨t, by rw [upd_ne (ne_of h.hkd h.hkl (by intro z; cases z))]; exact h.hkd, upd_same, fun b hb => by
    rcases List.mem_append.mp hb with hb | hb
    · exact (h.kq b hb).same r
    · rw [List.mem_singleton.mp hb]; exact ha.same r, r _ _ h.rnp, r _ _ h.rcp, r _ _ h.rla⟩
theorem Iv.newL {lb : Addr} {l : List Str} (h : Iv K S st ts B H kd kl np cp la kk ks ys cells last ws) (m : Same H H') (hn : H lb = none) (hl : H' lb = some (.lst (l.map V.str))) : Iv K S st ts B H' kd kl np cp lb kk ks ys cells l ws :=
  have h' := h.same m
  ⟨h'.tws, h'.hkd, h'.hkl, h'.kq, h'.rnp, h'.rcp, Rst.new h.tws.live hn hl⟩
end
theorem third_R {R : List Str} {d : Int} {z : Str} (h : R.length ≤ 1) (h0 : 0 ≤ d) (h6 : d ≤ 6) : stepR 1 R d z = [z] := by
  unfold stepR
  rw [if_neg (by omega)]
  split
  · rename_i k
    match R, h, k with
    | [], _, k => cases k.2
    | [x], _, k => rw [List.mem_singleton.mp k.2]
    | x :: y :: r, h, _ => simp at h
  · rfl
theorem levels_one {K : PySem.W.Frag} {H : Hp} {p q la : Addr} {as : List Addr} {R : List Str} (hp : H p = some (.lst (as.map V.ref))) (hA : LvAt H as [1] R 1) (hR : R.length ≤ 1) (hq : H q = some (.lst [.ref la])) (hla : H la = some (.lst (R.map V.str))) : LikeR K 3 H (.ref p) (.ref q) := by
  refine ⟨p, q, _, _, rfl, rfl, .inl ⟨SqL.of hp, SqL.of hq⟩, by rw [List.length_map, hA.1]; rfl, fun i x y e1 e2 => ?_⟩
  match i, e1, e2 with
  | 0, e1, e2 =>
    cases e2
    rw [List.getElem?_map] at e1
    cases ha : as[0]? with
    | none => rw [ha] at e1; cases e1
    | some u =>
    rw [ha] at e1
    cases e1
    have h1 := hA.2 0 u ha
    have e : lvl [1] R 0 = R := by show R.take 1 = R; exact List.take_of_length_le hR
    rw [e] at h1
    exact strs_alike (flat_strs _) h1 hla
  | i + 1, e1, e2 => cases e2
end N79

set_option Elab.async false
set_option linter.all false
set_option maxRecDepth 100000
set_option maxHeartbeats 4000000

namespace K79
open PySem PySem.Spec PyProof.Rows L2 N1 N5 N4 N6 N12 N71 N74 N76 N75 N79
local macro_rules | `(tactic| walk_at "rd") => `(tactic| simp only [rd_asg, rd_var, rd_c, rd_op, rd_I0, rd_I, rd_U, rd_name, rd_ifS, rd_test, rd_b, rd_ret, rd_retN, rd_next, rd_break, rd_cont, rd_cb, rd_cons, rd_nil, rd_call, rd_not, rd_or, rd_and, rd_andV, rd_orV, rd_notV, rd_if, rd_un, rd_eq, rd_ne, rd_par, rd_tup, rd_lst, rd_never, rd_drop, rd_gcons, rd_gnil, rd_gsub, rd_chain, rd_rng1, rd_rng2, rd_ilist, rd_itup, rd_for', scal, rd_comp, rd_istr, rd_sl, rd_noPart, rd_part, rd_slS, rd_slL, rd_bm, rd_bm0, tyV_str, rd_join, rd_find, rd_split, rd_all, rd_mulS, rd_jnil, rd_jcons, rd_fstr, rd_fmt, rd_fmtR, rd_dnewK, true_implies, false_implies, Bool.false_and, Bool.true_and, Bool.and_true, Bool.and_false, Bool.false_or, Bool.true_or, Bool.or_true, Bool.or_false, rd_eqQ, rd_neQ, rd_methE, rd_makeE, rd_fld, rd_sfld, rd_din, rd_dnotin, rd_dget, rd_dput, rd_gtup, rd_inS, rd_notinS, hasS_one, blk_K, Int.zero_add, Int.toNat_natCast, upd_upd, List.map_cons, List.map_nil, List.getD_cons_zero, List.getD_cons_succ, cxOf_K, List.length_cons, List.length_nil, List.getElem?_cons_zero, List.getElem?_cons_succ, List.set_cons_zero, List.set_cons_succ, Option.some.injEq, V.int.injEq, V.bl.injEq, V.str.injEq, V.ref.injEq, V.ty.injEq, exists_eq_left', exists_eq_left, exists_and_left, exists_eq, exists_eq', List.cons.injEq, and_true, true_and, decide_eq_true_eq, Bool.not_eq_true', decide_eq_false_iff_not, reduceCtorEq, exists_const, Bool.true_eq_false, Bool.false_eq_true, if_true, if_false, ite_true, ite_false, Bool.not_true, Bool.not_false, decide_true, decide_false, Bool.not_not, false_and, and_false, exists_false, false_or, or_false, true_or, or_true, and_assoc, not_true_eq_false, not_false_eq_true, Int.reduceToNat, Nat.reduceAdd, sp_cell, sp_made, sp_is_name, sp_law, sp_is_whole, sp_within, sp_checkG, sp_initG, sp_thingG, sp_roomG, rd_listD, rd_values, rd_sumV, rd_remove, rd_dpop1, rd_dget2, rd_insert, rd_pop, rd_fldaug, rd_aug, rd_sumL, rd_ienum, rd_compI, sp_nms, sp12_names, sp71_levels, sp71_tell, sp71_sizes, sp71_rooms, sp_placesG, rd_or2, rd_neLL, rd_setL, sp71_lsizes, rd_augS, rd_ipI, sp74_write, sp74_settle, sp74_fall, sp74_come, sp74_stored, sp74_fetch, sp74_diary, rd_dget, sp75_mix, sp75_value, sp75_spent, sp79_shelf, sp79_read, sp79_keep, sp79_ahead, sp79_rest, sp79_init, sp79_found, sp79_done, sp79_told, sp79_came, sp79_writes, sp79_kept, sp79_stores, rd_isiB, rd_eqN, rd_neN, rd_idict])
local macro_rules | `(tactic| walk_at "hp") => `(tactic| first | with_reducible assumption | exact upd_same | (rw [upd_ne (by first | with_reducible assumption | exact ne_of_none (by with_reducible assumption) (by with_reducible assumption))]; first | with_reducible assumption | exact upd_same))
local macro_rules | `(tactic| walk_at "sq") => `(tactic| (repeat' first | with_reducible assumption | exact SqT.of upd_same | exact SqL.of upd_same | refine' Same.tup (Same.new (by with_reducible assumption)) ?_ | refine' Same.seq (Same.new (by with_reducible assumption)) ?_))
local macro_rules | `(tactic| walk_at "isi") => `(tactic| first | exact isi_ii | exact isi_ib | exact isi_bb | exact isi_is | exact isi_ss | exact isi_si | exact isi_sb | exact isi_bi | exact isi_bs | exact isi_ni | exact isi_ns | exact isi_tupt (by walk_at "hp") | exact isi_lstl (by walk_at "hp") | exact isi_tupl (by walk_at "hp") | exact isi_lstt (by walk_at "hp") | exact isi_tups (by walk_at "hp") | exact isi_lsts (by walk_at "hp") | exact isi_tupi (by walk_at "hp") | exact isi_lsti (by walk_at "hp"))
local macro_rules | `(tactic| walk_at "slen") => `(tactic| first | omega | decide +kernel | (refine le_app ?_ ?_ <;> walk_at "slen"))
local macro_rules | `(tactic| walk_at "side") => `(tactic| first | with_reducible assumption | with_reducible exact cdiv_of (by omega) (by omega) | with_reducible exact cpow_of (by decide) (by decide) (by decide) | with_reducible exact cmul_l (by omega) (by omega) | with_reducible exact cmul_r (by omega) (by omega) | omega | decide | decide +kernel | (have := line_val; omega) | (simp only [len_app, len_one, line_val]; omega) | (rw [line_val]; walk_at "slen"; done))
local macro_rules | `(tactic| walk_at "go1") => `(tactic| first | walk_at "rd" | ((with_reducible refine And.intro ?_ ?_); (focus (walk_at "side"; done))) | ((with_reducible apply isi_go); (focus (walk_at "isi"; done))) | ((with_reducible apply ixT_of); (focus (walk_at "sq"; done)); (focus rfl)) | ((with_reducible apply ixL_of); (focus (walk_at "sq"; done)); (focus rfl)) | ((with_reducible apply len_goT); (focus (walk_at "sq"; done))) | ((with_reducible apply len_goL); (focus (walk_at "sq"; done))) | ((with_reducible apply script_go); (focus (walk_at "sq"; done)); (focus (assumption; done))) | ((with_reducible apply cell_go); (focus (walk_at "sq"; done)); (focus (decide; done)); (focus (assumption; done))) | (intro (_ : List (Addr × PySem.Obj)) (_ : PySem.Value → PySem.Shared → Prop)) | with_reducible refine seq_go fun _ _ => ?_ | (refine leaf_go (by with_reducible assumption) ?_; subst_vars))
local macro_rules | `(tactic| walk_at "go") => `(tactic| repeat walk_at "go1")

noncomputable def top (i : Nat) : Stmt := PySem.Challenge.pw_castoff_k79_whole_late_and_prompt.main.body.getD i (.Pass ⟨0, 0, 0, 0⟩)
structure Txt (K : PySem.W.Frag) (mg : Str → Option Value) (xStock xTower xPrompt : Addr) : Prop where
  c_Stock : mg "Stock" = some (.ref xStock)
  cl_Stock : Cls K xStock
  n_Stock_things : NoAttr K xStock "things"
  c_Tower : mg "Tower" = some (.ref xTower)
  cl_Tower : Cls K xTower
  n_Tower_stock : NoAttr K xTower "stock"
  n_Tower_sizes : NoAttr K xTower "sizes"
  n_Tower_row : NoAttr K xTower "row"
  n_Tower_held : NoAttr K xTower "held"
  n_Tower_late : NoAttr K xTower "late"
  n_Tower_store : NoAttr K xTower "store"
  n_Tower_entries : NoAttr K xTower "entries"
  n_Tower_finds : NoAttr K xTower "finds"
  n_Tower_paid : NoAttr K xTower "paid"
  c_Prompt : mg "Prompt" = some (.ref xPrompt)
  cl_Prompt : Cls K xPrompt
  n_Prompt_stock : NoAttr K xPrompt "stock"
  n_Prompt_sizes : NoAttr K xPrompt "sizes"
  n_Prompt_row : NoAttr K xPrompt "row"
  n_Prompt_held : NoAttr K xPrompt "held"
  n_Prompt_late : NoAttr K xPrompt "late"
  n_Prompt_store : NoAttr K xPrompt "store"
  n_Prompt_entries : NoAttr K xPrompt "entries"
  n_Prompt_finds : NoAttr K xPrompt "finds"
  n_Prompt_paid : NoAttr K xPrompt "paid"
  ia_Prompt : ClsA K xPrompt
  ia_Tower : ClsA K xTower
  i_Tower_Prompt : PySem.W.kitOne K (.ref xTower) (.ref xPrompt) = some false
  i_Prompt_Tower : PySem.W.kitOne K (.ref xPrompt) (.ref xTower) = some true
  z_len : mg "len" = none
  z_isinstance : mg "isinstance" = none
  z_int : mg "int" = none
  z_bool : mg "bool" = none
  z_str : mg "str" = none
  z_list : mg "list" = none
  z_all : mg "all" = none
  z_range : mg "range" = none
  z_sum : mg "sum" = none
  z_enumerate : mg "enumerate" = none
  z_abs : mg "abs" = none
  g_LETTERS : ∃ t, mg "LETTERS" = some (.str "abcdefghijklmnopqrstuvwxyz" t)
  g_FIGURES : ∃ t, mg "FIGURES" = some (.str "0123456789" t)
  g_MOST_SIGNS : ∃ t, mg "MOST_SIGNS" = some (.int 8 t)
  g_MOST_THINGS : ∃ t, mg "MOST_THINGS" = some (.int 60 t)
  g_MOST_ROOM : ∃ t, mg "MOST_ROOM" = some (.int 1000 t)
  g_MOST_PLACES : ∃ t, mg "MOST_PLACES" = some (.int 1000000 t)
  g_MOST_SHELVES : ∃ t, mg "MOST_SHELVES" = some (.int 6 t)
section
variable {P : Program} {w : World} {K : PySem.W.Frag} {mg : Str → Option Value} {base : Heap} {xStock xTower xPrompt : Addr}
noncomputable abbrev s_made_of : Stmt := top 20
noncomputable abbrev s_is_name : Stmt := top 21
noncomputable abbrev s_is_whole : Stmt := top 9
noncomputable abbrev s_is_within : Stmt := top 10
noncomputable abbrev s_check_thing : Stmt := top 22
noncomputable abbrev s_Stock_init : Stmt := inClass (top 23) 0
noncomputable abbrev s_Stock_names : Stmt := inClass (top 23) 1
noncomputable abbrev s_check_places : Stmt := top 13
noncomputable abbrev s_Stock_thing_of : Stmt := inClass (top 23) 3
noncomputable abbrev s_Stock_number_of : Stmt := inClass (top 23) 4
noncomputable abbrev s_Stock_cost_of : Stmt := inClass (top 23) 5
noncomputable abbrev s_Stock_room_of : Stmt := inClass (top 23) 6
noncomputable abbrev s_check_sizes : Stmt := top 28
noncomputable abbrev s_check_rooms : Stmt := top 25
noncomputable abbrev s_Tower_write : Stmt := inClass (top 29) 10
noncomputable abbrev s_Tower_settle : Stmt := inClass (top 29) 11
noncomputable abbrev s_Tower_fall_off : Stmt := inClass (top 29) 9
noncomputable abbrev s_Tower_come : Stmt := inClass (top 29) 8
noncomputable abbrev s_Tower_levels : Stmt := inClass (top 29) 1
noncomputable abbrev s_Tower_shelf_of : Stmt := inClass (top 29) 6
noncomputable abbrev s_Tower_stored : Stmt := inClass (top 29) 2
noncomputable abbrev s_Tower_fetch : Stmt := inClass (top 29) 7
noncomputable abbrev s_Tower_read : Stmt := inClass (top 29) 12
noncomputable abbrev s_Tower_keep : Stmt := inClass (top 29) 13
noncomputable abbrev s_Tower_ahead : Stmt := inClass (top 29) 15
noncomputable abbrev s_Tower_rest : Stmt := inClass (top 29) 14
noncomputable abbrev s_Tower_diary : Stmt := inClass (top 29) 3
noncomputable abbrev s_Tower_found : Stmt := inClass (top 29) 4
noncomputable abbrev s_Tower_spent : Stmt := inClass (top 29) 5
noncomputable abbrev s_Tower_init : Stmt := inClass (top 29) 0
noncomputable abbrev s_Prompt_write : Stmt := inClass (top 29) 10
noncomputable abbrev s_Prompt_settle : Stmt := inClass (top 30) 0
noncomputable abbrev s_Prompt_fall_off : Stmt := inClass (top 29) 9
noncomputable abbrev s_Prompt_come : Stmt := inClass (top 29) 8
noncomputable abbrev s_Prompt_levels : Stmt := inClass (top 29) 1
noncomputable abbrev s_Prompt_shelf_of : Stmt := inClass (top 29) 6
noncomputable abbrev s_Prompt_stored : Stmt := inClass (top 29) 2
noncomputable abbrev s_Prompt_fetch : Stmt := inClass (top 29) 7
noncomputable abbrev s_Prompt_read : Stmt := inClass (top 29) 12
noncomputable abbrev s_Prompt_keep : Stmt := inClass (top 29) 13
noncomputable abbrev s_Prompt_ahead : Stmt := inClass (top 29) 15
noncomputable abbrev s_Prompt_diary : Stmt := inClass (top 29) 3
noncomputable abbrev s_Prompt_found : Stmt := inClass (top 29) 4
noncomputable abbrev s_Prompt_spent : Stmt := inClass (top 29) 5
noncomputable abbrev s_Prompt_init : Stmt := inClass (top 29) 0
noncomputable abbrev s_l_cell_at : Stmt := top 32
noncomputable abbrev s_l_mix : Stmt := top 33
noncomputable abbrev s_l_names : Stmt := top 34
noncomputable abbrev s_l_sizes : Stmt := top 35
noncomputable abbrev s_l_value : Stmt := top 36
noncomputable abbrev s_l_done : Stmt := top 38
noncomputable abbrev s_l_told : Stmt := top 39
noncomputable abbrev s_l_came : Stmt := top 40
noncomputable abbrev s_l_writes : Stmt := top 41
noncomputable abbrev s_l_kept : Stmt := top 42
noncomputable abbrev s_l_stores : Stmt := top 43
noncomputable abbrev s_law : Stmt := top 44
theorem ok_made_of {f : Addr} {fd : FuncData} (F : Fun K "made_of" "made_of" s_made_of f fd) (T : Txt K mg xStock xTower xPrompt)  : FnOk P w K mg base CX0 1 f fd ["text", "signs"] (sp_made) := by
  have sc : FnScope ["text", "signs"] ["text", "signs"] (defScope s_made_of) := ⟨rfl, rfl, rfl, by decide +kernel, rfl, by decide +kernel, by decide +kernel⟩
  refine F.ok sc (fun vs H Q E h => ?_) (fun cdv A outer s H vs Q E hr h => ?_)
  · obtain ⟨z, w, rfl, hz, q⟩ := h; rfl
  obtain ⟨z, w, rfl, hz, q⟩ := h
  refine ⟨_, (@pss_one _ _ _ (@ps_ret _ _ _ _ (pe_callB (call_all rfl) rfl T.z_all (by first | rfl | decide +kernel) (pa_cons (pe_comp1 "sign" [1] rfl rfl (pi_str (pv 0)) (fun b => (pe_cmpR op_inS (pv 0) (pv 1) (by with_unfolding_all rfl)))) pa_nil)))), ?_⟩
  rw [show start ["text", "signs"] [V.str z, V.str w] = [some (V.str z), some (V.str w)] from rfl]
  walk_at "go"
  refine compS_pure (fun c => V.bl (decide (c ∈ w.cps.toList))) hz (fun b c H' Q' hc sm q' => ?_) fun D hD => ?_
  · walk_at "go"
    exact q'
  · refine ⟨_, rfl, z.cps.toList.map fun c => decide (c ∈ w.cps.toList), ?_, ?_⟩
    · rw [List.map_map]; exact SqL.of upd_same
    · rw [List.all_map]; exact q _ (Same.new hD)
theorem ok_is_name {f : Addr} {fd : FuncData} (F : Fun K "is_name" "is_name" s_is_name f fd) (T : Txt K mg xStock xTower xPrompt) (D_made_of : Def P w K mg base CX0 1 "made_of" ["text", "signs"] (sp_made)) : FnOk P w K mg base CX0 2 f fd ["thing"] (sp_is_name K) := by
  have sc : FnScope ["thing"] ["thing"] (defScope s_is_name) := ⟨rfl, rfl, rfl, by decide +kernel, rfl, by decide +kernel, by decide +kernel⟩
  refine F.ok sc (fun vs H Q E h => ?_) (fun cdv A outer s H vs Q E hr h => ?_)
  · obtain ⟨x, rfl, hx⟩ := h; rfl
  obtain ⟨x, rfl, hx⟩ := h
  refine ⟨_, (@pss_cons _ _ _ _ _ (ps_if (pt_not (pt_val (pe_callB call_isinst rfl T.z_isinstance (by first | rfl | decide +kernel) (pa_cons (pv 0) (pa_cons (pe_bltn (v := .ty "str") rfl T.z_str (by first | rfl | decide +kernel) rfl) pa_nil)))))
      (@pss_one _ _ _ (@ps_ret _ _ _ _ pe_bl))
      pss_nil)
    (@pss_cons _ _ _ _ _ (ps_if (PW.pt (pw_or (pt_cmpR op_lt (pe_callB call_len_str rfl T.z_len PySem.boot_len (pa_cons (pv 0) pa_nil)) pe_int (nomark _)) (pw_or1 (pt_cmpR op_gt (pe_callB call_len_str rfl T.z_len PySem.boot_len (pa_cons (pv 0) pa_nil)) (pe_gint rfl T.g_MOST_SIGNS) (nomark _)))))
      (@pss_one _ _ _ (@ps_ret _ _ _ _ pe_bl))
      pss_nil)
    (@pss_one _ _ _ (@ps_ret _ _ _ _ (pe_and (pe_cmpR op_inS (@pe_ix _ _ _ _ _ _ _ ix_str (pv 0) pe_int (fun _ _ => rfl)) (pe_gstr rfl T.g_LETTERS) (by with_unfolding_all rfl)) (pe_one (pe_callD D_made_of hr rfl pass0 (pa_cons (pv 0) (pa_cons (pe_op op_add_str (pe_gstr rfl T.g_LETTERS) (pe_gstr rfl T.g_FIGURES)) pa_nil))))))))), ?_⟩
  rw [show start ["thing"] [x] = [some (x)] from rfl]
  rcases hx with ⟨z, rfl, hz, q⟩ | ⟨hi, q⟩
  · walk_at "go"
    have hl := str_len (z := z)
    split
    · rename_i h1
      have e : nameB z.cps.toList = false := by unfold nameB; rw [decide_eq_false (show ¬ 1 ≤ z.cps.toList.length by omega)]; rfl
      rw [e] at q; exact q _ (Same.refl H)
    · rename_i h1
      refine ⟨hz, ?_⟩
      split
      · have e : nameB z.cps.toList = false := by unfold nameB; rw [decide_eq_false (show ¬ z.cps.toList.length ≤ 8 by omega), Bool.and_false]; rfl
        rw [e] at q; exact q _ (Same.refl H)
      · rename_i h2
        obtain ⟨c, r, hcr⟩ : ∃ c r, z.cps.toList = c :: r := by
          cases h : z.cps.toList with
          | nil => rw [h] at hl; simp at hl; omega
          | cons c r => exact ⟨c, r, rfl⟩
        have hn : nameB z.cps.toList = (decide (c ∈ letters) && z.cps.toList.all fun c => decide (c ∈ letters ++ figures)) := by
          unfold nameB; rw [decide_eq_true (show 1 ≤ z.cps.toList.length by omega), decide_eq_true (show z.cps.toList.length ≤ 8 by omega)]; rw [hcr]; rfl
        rw [hn] at q
        walk_at "go"
        refine ixS_of hz (by rw [hcr]; exact at_0) ?_
        walk_at "go"
        rw [let_list]
        split
        · rename_i hc
          rw [decide_eq_true hc, Bool.true_and] at q
          walk_at "go"
          rw [app_list, let_list, fig_list]
          exact q
        · rename_i hc
          rw [decide_eq_false hc, Bool.false_and] at q
          exact q _ (Same.refl H)
  · walk_at "go"
    refine ⟨_, hi, ?_⟩
    walk_at "go"
    exact q
theorem ok_is_whole {f : Addr} {fd : FuncData} (F : Fun K "is_whole" "is_whole" s_is_whole f fd) (T : Txt K mg xStock xTower xPrompt)  : FnOk P w K mg base CX0 1 f fd ["thing"] (sp_is_whole K) := by
  have sc : FnScope ["thing"] ["thing"] (defScope s_is_whole) := ⟨rfl, rfl, rfl, by decide +kernel, rfl, by decide +kernel, by decide +kernel⟩
  refine F.ok sc (fun vs H Q E h => ?_) (fun cdv A outer s H vs Q E hr h => ?_)
  · obtain ⟨x, b, c, rfl, h1, h2, q⟩ := h; rfl
  obtain ⟨x, b, c, rfl, h1, h2, q⟩ := h
  refine ⟨_, (@pss_one _ _ _ (@ps_ret _ _ _ _ (pe_and (pe_callB call_isinst rfl T.z_isinstance (by first | rfl | decide +kernel) (pa_cons (pv 0) (pa_cons (pe_bltn (v := .ty "int") rfl T.z_int (by first | rfl | decide +kernel) rfl) pa_nil))) (pe_one (pe_not (pe_callB call_isinst rfl T.z_isinstance (by first | rfl | decide +kernel) (pa_cons (pv 0) (pa_cons (pe_bltn (v := .ty "bool") rfl T.z_bool (by first | rfl | decide +kernel) rfl) pa_nil)))))))), ?_⟩
  rw [show start ["thing"] [x] = [some (x)] from rfl]
  walk_at "go"
  refine ⟨_, h1, ?_⟩
  cases b
  · walk_at "go"
    exact q
  · walk_at "go"
    refine ⟨_, h2 rfl, ?_⟩
    walk_at "go"
    exact q
theorem ok_is_within {f : Addr} {fd : FuncData} (F : Fun K "is_within" "is_within" s_is_within f fd) (T : Txt K mg xStock xTower xPrompt) (D_is_whole : Def P w K mg base CX0 1 "is_whole" ["thing"] (sp_is_whole K)) : FnOk P w K mg base CX0 2 f fd ["thing", "least", "most"] (sp_within K) := by
  have sc : FnScope ["thing", "least", "most"] ["thing", "least", "most"] (defScope s_is_within) := ⟨rfl, rfl, rfl, by decide +kernel, rfl, by decide +kernel, by decide +kernel⟩
  refine F.ok sc (fun vs H Q E h => ?_) (fun cdv A outer s H vs Q E hr h => ?_)
  · obtain ⟨v, lo, hi, rfl, hv, q⟩ := h; rfl
  obtain ⟨v, lo, hi, rfl, hv, q⟩ := h
  refine ⟨_, (@pss_one _ _ _ (@ps_ret _ _ _ _ (pe_and (pe_callD D_is_whole hr rfl pass0 (pa_cons (pv 0) pa_nil)) (pe_one (pe_chain op_le op_le (pv 1) (pv 0) (pv 2)))))), ?_⟩
  rw [show start ["thing", "least", "most"] [v, V.int lo, V.int hi] = [some (v), some (V.int lo), some (V.int hi)] from rfl]
  obtain ⟨b, c, h1, h2, h3, h4⟩ := num_isi (K := K) (H := H) hv
  walk_at "go"
  refine ⟨b, h1, c, h2, ?_⟩
  split
  · rename_i h
    obtain ⟨i, rfl⟩ := h3 h
    simp only [wIn] at q
    walk_at "go"
    split
    · rename_i h'
      rw [decide_eq_true h', Bool.true_and] at q; exact q
    · rename_i h'
      rw [decide_eq_false h', Bool.false_and] at q; exact q
  · rename_i h
    have e : wIn lo hi v = false := by
      cases v with
      | int i => exact absurd rfl (h4 (by simpa using h) i)
      | _ => rfl
    rw [e] at q; exact q
theorem ok_check_thing {f : Addr} {fd : FuncData} (F : Fun K "check_thing" "check_thing" s_check_thing f fd) (T : Txt K mg xStock xTower xPrompt) (D_is_name : Def P w K mg base CX0 2 "is_name" ["thing"] (sp_is_name K)) (D_is_within : Def P w K mg base CX0 2 "is_within" ["thing", "least", "most"] (sp_within K)) : FnOk P w K mg base CX0 3 f fd ["name", "cost", "room", "earlier"] (sp_checkG K) := by
  have sc : FnScope ["name", "cost", "room", "earlier"] ["name", "cost", "room", "earlier"] (defScope s_check_thing) := ⟨rfl, rfl, rfl, by decide +kernel, rfl, by decide +kernel, by decide +kernel⟩
  refine F.ok sc (fun vs H Q E h => ?_) (fun cdv A outer s H vs Q E hr h => ?_)
  · obtain ⟨n, co, r, e, kvs, ks, rfl, he, hk, hrow, q⟩ := h; rfl
  obtain ⟨n, co, r, e, kvs, ks, rfl, he, hk, hrow, q⟩ := h
  refine ⟨_, (@pss_cons _ _ _ _ _ (ps_if (pt_not (pt_val (pe_callD D_is_name hr rfl pass0 (pa_cons (pv 0) pa_nil))))
      (@pss_one _ _ _ ps_never)
      pss_nil)
    (@pss_cons _ _ _ _ _ (ps_if (pt_cmp (pc_din (hu_of hr) (pv 0) (pv 3)))
      (@pss_one _ _ _ ps_never)
      pss_nil)
    (@pss_cons _ _ _ _ _ (ps_if (pt_not (pt_val (pe_callD D_is_within hr rfl pass0 (pa_cons (pv 1) (pa_cons pe_int (pa_cons (pe_op op_pow pe_int pe_int) pa_nil))))))
      (@pss_one _ _ _ ps_never)
      pss_nil)
    (@pss_one _ _ _ (ps_if (pt_not (pt_val (pe_callD D_is_within hr rfl pass0 (pa_cons (pv 2) (pa_cons pe_int (pa_cons (pe_gint rfl T.g_MOST_ROOM) pa_nil))))))
      (@pss_one _ _ _ ps_never)
      pss_nil))))), ?_⟩
  rw [show start ["name", "cost", "room", "earlier"] [n, co, r, V.ref e] = [some (n), some (co), some (r), some (V.ref e)] from rfl]
  obtain ⟨z, c, w, rfl, rfl, rfl, nz, hb, h1, h2, h3, h4⟩ := rowR_none hrow
  have line := line_val
  have hz8 := name_len hb
  walk_at "go"
  intro H1 sm1
  rw [hb]
  have he1 := sm1 _ _ he
  walk_at "go"
  refine ⟨_, DGet.k (k := Sum.inr z) he1, ?_⟩
  rw [key_mem hk, decide_eq_false nz]
  walk_at "go"
  refine ⟨rfl, ?_⟩
  split
  · rename_i h
    exact absurd h (by rw [wIn_ok h1 h2]; decide)
  · walk_at "go"
    refine ⟨rfl, ?_⟩
    split
    · rename_i h
      exact absurd h (by rw [wIn_ok h3 h4]; decide)
    · walk_at "go"
      exact q _ sm1
theorem ok_Stock_init {f : Addr} {fd : FuncData} (F : Fun K "__init__" "Stock.__init__" s_Stock_init f fd) (T : Txt K mg xStock xTower xPrompt) (D_check_thing : Def P w K mg base CX0 3 "check_thing" ["name", "cost", "room", "earlier"] (sp_checkG K)) : FnOk P w K mg base CX0 4 f fd ["self", "rows"] (sp_initG K xStock) := by
  have sc : FnScope ["self", "rows", "name", "cost", "room"] ["self", "rows"] (defScope s_Stock_init) := ⟨rfl, rfl, rfl, by decide +kernel, rfl, by decide +kernel, by decide +kernel⟩
  refine F.ok sc (fun vs H Q E h => ?_) (fun cdv A outer s H vs Q E hr h => ?_)
  · obtain ⟨p, dx, ra, rs, rfl, hp, hrs, hall, er, q⟩ := h; rfl
  obtain ⟨p, dx, ra, rs, rfl, hp, hrs, hall, er, q⟩ := h
  refine ⟨_, (@pss_cons _ _ _ _ _ (ps_if (pt_cmpR op_gt (pe_callB call_len_seq rfl T.z_len PySem.boot_len (pa_cons (pv 1) pa_nil)) (pe_gint rfl T.g_MOST_THINGS) (nomark _))
      (@pss_one _ _ _ ps_never)
      pss_nil)
    (@pss_cons _ _ _ _ _ (ps_fld (pv 0) pe_dnewK rfl)
    (@pss_one _ _ _ (ps_for PassesOwn.never rfl (pi_list (pv 1)) (pg_tup rfl (pgs_cons (pg_name (i := 2) sc.nd rfl (Or.inl rfl)) (pgs_cons (pg_name (i := 3) sc.nd rfl (Or.inl rfl)) (pgs_cons (pg_name (i := 4) sc.nd rfl (Or.inl rfl)) pgs_nil))))
      (@pss_cons _ _ _ _ _ (ps_expr (pe_callD D_check_thing hr rfl pass0 (pa_cons (pv 2) (pa_cons (pv 3) (pa_cons (pv 4) (pa_cons (pe_fld (pv 0) rfl) pa_nil))))))
      (@pss_one _ _ _ (ps_dput (hu_of hr) (pe_fld (pv 0) rfl) (pv 2) (pe_tup (pa_cons (pe_callB call_lenD rfl T.z_len PySem.boot_len (pa_cons (pe_fld (pv 0) rfl) pa_nil)) (pa_cons (pv 3) (pa_cons (pv 4) pa_nil)))) rfl))))))), ?_⟩
  rw [show start ["self", "rows", "name", "cost", "room"] [V.ref p, V.ref ra] = [some (V.ref p), some (V.ref ra), none, none, none] from rfl]
  have line := line_val
  obtain ⟨hl60, hstk⟩ := initR_none er
  walk_at "go"
  rw [List.length_map]
  split
  · rename_i h
    exact absurd h (by omega)
  · rename_i h
    walk_at "go"
    intro d hd
    have npd : p ≠ d := ne_of_none hp hd
    walk_at "go"
    refine ⟨xStock, dx, [], by rw [upd_ne npd]; exact hp, T.cl_Stock, T.n_Stock_things, by decide, ?_⟩
    have sb0 : SameBut p H (upd (upd H d (.dK [])) p (.ins xStock dx (flds d))) := fun b o e n => by rw [upd_ne n, upd_ne (ne_of_none e hd)]; exact e
    have hp0 : upd (upd H d (.dK [])) p (.ins xStock dx (flds d)) p = some (.ins xStock dx (flds d)) := upd_same
    have hd0 : upd (upd H d (.dK [])) p (.ins xStock dx (flds d)) d = some (.dK []) := by rw [upd_ne npd.symm, upd_same]
    unfold flds at sb0 hp0 hd0
    generalize upd (upd H d (HO.dK [])) p (HO.ins xStock dx (putF (Str.ofString "things") (V.ref d) [])) = H0 at sb0 hp0 hd0 ⊢
    walk_at "go"
    refine ⟨⟨_, SqL.but sb0 hp hrs⟩, ?_⟩
    refine forL_by (xs := rs.map fun t => V.ref t.1) (fun i σ H' => ∃ v1 v2 v3, σ = [some (V.ref p), some (V.ref ra), v1, v2, v3] ∧ SameBut p H H' ∧ H' p = some (.ins xStock dx (flds d)) ∧ MidAt K H' d (rs.take i) ∧ stockR (nmsOf (rs.take i)) (rs.drop i) = none) ⟨none, none, none, rfl, sb0, hp0, ⟨[], hd0, rfl, fun j t e => by simp at e⟩, by rw [List.take_zero, List.drop_zero]; exact hstk⟩ (fun i σ H' _ h_ => by obtain ⟨v1, v2, v3, _, sb, _⟩ := h_; exact SqL.but sb hp hrs) ?_ ?_
    · rintro i x σ H' hx ⟨v1, v2, v3, rfl, sb, hp', ⟨kvs, hd', hk, hm⟩, hst⟩
      rw [List.getElem?_map] at hx
      cases ht : rs[i]? with
      | none => rw [ht] at hx; cases hx
      | some t =>
        rw [ht] at hx
        simp only [Option.map_some, Option.some.injEq] at hx
        subst hx
        have hi : i < rs.length := (List.getElem?_eq_some_iff.mp ht).1
        have r1 := SqT.but sb hp (hall t (List.mem_of_getElem? ht))
        rw [stockR_step ht] at hst
        have hkl : kvs.length = i := by
          have := congrArg List.length hk
          simp [nmsOf] at this; omega
        cases hrow : rowR (nmsOf (rs.take i)) t.2.1 t.2.2.1 t.2.2.2 with
        | some e => rw [hrow] at hst; cases hst
        | none =>
          rw [hrow] at hst
          obtain ⟨z, c, q', e1, e2, e3, nz, hb, _⟩ := rowR_none hrow
          walk_at "go"
          refine ⟨_, r1, rfl, ?_⟩
          walk_at "go"
          refine ⟨xStock, dx, flds d, hp', T.cl_Stock, T.n_Stock_things, _, flds_things, d, rfl, kvs, hd', _, hk, hrow, fun H1 sm1 => ?_⟩
          rw [e1, e2, e3]
          have hp1 := sm1 _ _ hp'
          have hd1 := sm1 _ _ hd'
          walk_at "go"
          refine ⟨xStock, dx, flds d, hp1, T.cl_Stock, T.n_Stock_things, _, flds_things, ?_⟩
          walk_at "go"
          refine ⟨kvs, hd1, by omega, fun t2 ht2 => ?_⟩
          have np2 : p ≠ t2 := ne_of_none hp1 ht2
          have nd2 : d ≠ t2 := ne_of_none hd1 ht2
          have hd2 : upd H1 t2 (.tup [.int kvs.length, .int c, .int q']) d = some (.dK kvs) := by rw [upd_ne nd2]; exact hd1
          refine ⟨xStock, dx, flds d, by rw [upd_ne np2]; exact hp1, T.cl_Stock, T.n_Stock_things, _, flds_things, d, rfl, _, DPut.k (k := Sum.inr z) hd2 (by omega), ?_, ?_, ?_, ?_⟩
          · intro b o eb nb
            have h1 := sm1 _ _ (sb b o eb nb)
            rw [upd_ne (ne_of_none eb hd), upd_ne (ne_of_none h1 ht2)]
            exact h1
          · rw [upd_ne npd, upd_ne np2]; exact hp1
          · rw [List.take_add_one, ht]
            refine MidAt.snoc hd2 hk (fun j t' e => ?_) e1 e2 e3 nz upd_same
            obtain ⟨a, q1, q2⟩ := hm j t' e
            exact ⟨a, q1, (sm1.trans (Same.new ht2)).tup q2⟩
          · rw [List.take_add_one, ht]
            have e : nmsOf (rs.take kvs.length ++ (some t).toList) = nmsOf (rs.take kvs.length) ++ [sOf t.2.1] := by unfold nmsOf; simp
            rw [e]; exact hst
    · rintro σ H' ⟨v1, v2, v3, rfl, sb, hp', ⟨kvs, hd', hk, hm⟩, hst⟩
      simp only [List.length_map, List.take_length, List.drop_length] at hk hm hst
      show Q V.non H'
      refine q _ sb ⟨dx, d, kvs, hp', hd', ?_, fun i t ht => ?_⟩
      · rw [hk]; unfold nmsOf; rw [List.map_map, List.map_map]; rfl
      · rw [List.getElem?_map] at ht
        cases hr : rs[i]? with
        | none => rw [hr] at ht; cases ht
        | some t' =>
          rw [hr] at ht
          simp only [Option.map_some, Option.some.injEq] at ht
          subst ht
          exact hm i t' hr
theorem ok_Stock_names {f : Addr} {fd : FuncData} (F : Fun K "names" "Stock.names" s_Stock_names f fd) (T : Txt K mg xStock xTower xPrompt)  : FnOk P w K mg base CX0 1 f fd ["self"] (sp_nms K xStock) := by
  have sc : FnScope ["self"] ["self"] (defScope s_Stock_names) := ⟨rfl, rfl, rfl, by decide +kernel, rfl, by decide +kernel, by decide +kernel⟩
  refine F.ok sc (fun vs H Q E h => ?_) (fun cdv A outer s H vs Q E hr h => ?_)
  · obtain ⟨p, ts, rfl, hs, q⟩ := h; rfl
  obtain ⟨p, ts, rfl, hs, q⟩ := h
  refine ⟨_, (@pss_one _ _ _ (@ps_ret _ _ _ _ (pe_callTy (call_listD rfl) rfl T.z_list (by first | rfl | decide +kernel) (pa_cons (pe_fld (pv 0) rfl) pa_nil)))), ?_⟩
  rw [show start ["self"] [V.ref p] = [some (V.ref p)] from rfl]
  obtain ⟨dx, d, kvs, h1, h2, h3, h4, h5⟩ := StockAt.has hs
  walk_at "go"
  refine ⟨xStock, dx, flds d, h1, T.cl_Stock, T.n_Stock_things, _, flds_things, ?_⟩
  walk_at "go"
  refine ⟨_, h2, fun l hl => ?_⟩
  rw [h3]
  have := q l hl
  rw [List.map_map] at this
  exact this
theorem ok_check_places {f : Addr} {fd : FuncData} (F : Fun K "check_places" "check_places" s_check_places f fd) (T : Txt K mg xStock xTower xPrompt) (D_is_within : Def P w K mg base CX0 2 "is_within" ["thing", "least", "most"] (sp_within K)) : FnOk P w K mg base CX0 3 f fd ["places"] (sp_placesG) := by
  have sc : FnScope ["places"] ["places"] (defScope s_check_places) := ⟨rfl, rfl, rfl, by decide +kernel, rfl, by decide +kernel, by decide +kernel⟩
  refine F.ok sc (fun vs H Q E h => ?_) (fun cdv A outer s H vs Q E hr h => ?_)
  · obtain ⟨n, rfl, h1, h2, q⟩ := h; rfl
  obtain ⟨n, rfl, h1, h2, q⟩ := h
  refine ⟨_, (@pss_one _ _ _ (ps_if (pt_not (pt_val (pe_callD D_is_within hr rfl pass0 (pa_cons (pv 0) (pa_cons pe_int (pa_cons (pe_gint rfl T.g_MOST_PLACES) pa_nil))))))
      (@pss_one _ _ _ ps_never)
      pss_nil)), ?_⟩
  rw [show start ["places"] [V.int n] = [some (V.int n)] from rfl]
  walk_at "go"
  refine ⟨rfl, ?_⟩
  rw [wIn_ok h1 h2]
  walk_at "go"
  exact q
theorem ok_Stock_thing_of {f : Addr} {fd : FuncData} (F : Fun K "thing_of" "Stock.thing_of" s_Stock_thing_of f fd) (T : Txt K mg xStock xTower xPrompt)  : FnOk P w K mg base CX0 1 f fd ["self", "name"] (sp_thingG K xStock) := by
  have sc : FnScope ["self", "name"] ["self", "name"] (defScope s_Stock_thing_of) := ⟨rfl, rfl, rfl, by decide +kernel, rfl, by decide +kernel, by decide +kernel⟩
  refine F.ok sc (fun vs H Q E h => ?_) (fun cdv A outer s H vs Q E hr h => ?_)
  · obtain ⟨p, ts, z, rfl, hs, nd, hz, q⟩ := h; rfl
  obtain ⟨p, ts, z, rfl, hs, nd, hz, q⟩ := h
  refine ⟨_, (@pss_cons _ _ _ _ _ (ps_if (pt_cmp (pc_dnotin (hu_of hr) (pv 1) (pe_fld (pv 0) rfl)))
      (@pss_one _ _ _ ps_never)
      pss_nil)
    (@pss_one _ _ _ (@ps_ret _ _ _ _ (pe_dget (hu_of hr) (pe_fld (pv 0) rfl) (pv 1) (fun _ _ => rfl))))), ?_⟩
  rw [show start ["self", "name"] [V.ref p, V.str z] = [some (V.ref p), some (V.str z)] from rfl]
  obtain ⟨dx, d, kvs, h1, h2, h3, h4, h5⟩ := StockAt.has hs
  have line := line_val
  walk_at "go"
  refine ⟨xStock, dx, flds d, h1, T.cl_Stock, T.n_Stock_things, _, flds_things, d, rfl, _, DGet.k (k := Sum.inr z) h2, ?_⟩
  rw [h4, decide_eq_true hz]
  obtain ⟨i, t, ht, rfl⟩ := mem_nth hz
  obtain ⟨a, e1, e2⟩ := h5 nd i t ht
  walk_at "go"
  refine ⟨xStock, dx, flds d, h1, T.cl_Stock, T.n_Stock_things, _, flds_things, ?_⟩
  walk_at "go"
  refine ⟨V.ref a, by rw [← e1]; exact DGet.k (k := Sum.inr t.1) h2, ?_⟩
  exact q i t ht rfl a e2
theorem ok_Stock_number_of {f : Addr} {fd : FuncData} (F : Fun K "number_of" "Stock.number_of" s_Stock_number_of f fd) (T : Txt K mg xStock xTower xPrompt) (D_Stock_thing_of : DefM P w K mg base CX0 1 xStock "thing_of" ["self", "name"] (sp_thingG K xStock)) : FnOk P w K mg base CX0 2 f fd ["self", "name"] (sp71_tell 0 K xStock) := by
  have sc : FnScope ["self", "name"] ["self", "name"] (defScope s_Stock_number_of) := ⟨rfl, rfl, rfl, by decide +kernel, rfl, by decide +kernel, by decide +kernel⟩
  refine F.ok sc (fun vs H Q E h => ?_) (fun cdv A outer s H vs Q E hr h => ?_)
  · obtain ⟨p, ts, z, rfl, hs, nd, hz, q⟩ := h; rfl
  obtain ⟨p, ts, z, rfl, hs, nd, hz, q⟩ := h
  refine ⟨_, (@pss_one _ _ _ (@ps_ret _ _ _ _ (@pe_ix _ _ _ _ _ _ _ ix_tup (pe_methS D_Stock_thing_of T.cl_Stock hr (passS pass0) (pv 0) (pa_cons (pv 1) pa_nil)) pe_int (fun _ _ => rfl)))), ?_⟩
  rw [show start ["self", "name"] [V.ref p, V.str z] = [some (V.ref p), some (V.str z)] from rfl]
  obtain ⟨dx, d, kvs, h1, h2, h3, h4, h5⟩ := StockAt.has hs
  walk_at "go"
  refine ⟨dx, flds d, h1, by rfl, ?_⟩
  walk_at "go"
  refine ⟨ts, hs, nd, hz, fun i t ht e a ha => ?_⟩
  refine ixT_of ha rfl ?_
  exact q i t ht e
theorem ok_Stock_cost_of {f : Addr} {fd : FuncData} (F : Fun K "cost_of" "Stock.cost_of" s_Stock_cost_of f fd) (T : Txt K mg xStock xTower xPrompt) (D_Stock_thing_of : DefM P w K mg base CX0 1 xStock "thing_of" ["self", "name"] (sp_thingG K xStock)) : FnOk P w K mg base CX0 2 f fd ["self", "name"] (sp71_tell 1 K xStock) := by
  have sc : FnScope ["self", "name"] ["self", "name"] (defScope s_Stock_cost_of) := ⟨rfl, rfl, rfl, by decide +kernel, rfl, by decide +kernel, by decide +kernel⟩
  refine F.ok sc (fun vs H Q E h => ?_) (fun cdv A outer s H vs Q E hr h => ?_)
  · obtain ⟨p, ts, z, rfl, hs, nd, hz, q⟩ := h; rfl
  obtain ⟨p, ts, z, rfl, hs, nd, hz, q⟩ := h
  refine ⟨_, (@pss_one _ _ _ (@ps_ret _ _ _ _ (@pe_ix _ _ _ _ _ _ _ ix_tup (pe_methS D_Stock_thing_of T.cl_Stock hr (passS pass0) (pv 0) (pa_cons (pv 1) pa_nil)) pe_int (fun _ _ => rfl)))), ?_⟩
  rw [show start ["self", "name"] [V.ref p, V.str z] = [some (V.ref p), some (V.str z)] from rfl]
  obtain ⟨dx, d, kvs, h1, h2, h3, h4, h5⟩ := StockAt.has hs
  walk_at "go"
  refine ⟨dx, flds d, h1, by rfl, ?_⟩
  walk_at "go"
  refine ⟨ts, hs, nd, hz, fun i t ht e a ha => ?_⟩
  refine ixT_of ha rfl ?_
  exact q i t ht e
theorem ok_Stock_room_of {f : Addr} {fd : FuncData} (F : Fun K "room_of" "Stock.room_of" s_Stock_room_of f fd) (T : Txt K mg xStock xTower xPrompt) (D_Stock_thing_of : DefM P w K mg base CX0 1 xStock "thing_of" ["self", "name"] (sp_thingG K xStock)) : FnOk P w K mg base CX0 2 f fd ["self", "name"] (sp71_tell 2 K xStock) := by
  have sc : FnScope ["self", "name"] ["self", "name"] (defScope s_Stock_room_of) := ⟨rfl, rfl, rfl, by decide +kernel, rfl, by decide +kernel, by decide +kernel⟩
  refine F.ok sc (fun vs H Q E h => ?_) (fun cdv A outer s H vs Q E hr h => ?_)
  · obtain ⟨p, ts, z, rfl, hs, nd, hz, q⟩ := h; rfl
  obtain ⟨p, ts, z, rfl, hs, nd, hz, q⟩ := h
  refine ⟨_, (@pss_one _ _ _ (@ps_ret _ _ _ _ (@pe_ix _ _ _ _ _ _ _ ix_tup (pe_methS D_Stock_thing_of T.cl_Stock hr (passS pass0) (pv 0) (pa_cons (pv 1) pa_nil)) pe_int (fun _ _ => rfl)))), ?_⟩
  rw [show start ["self", "name"] [V.ref p, V.str z] = [some (V.ref p), some (V.str z)] from rfl]
  obtain ⟨dx, d, kvs, h1, h2, h3, h4, h5⟩ := StockAt.has hs
  walk_at "go"
  refine ⟨dx, flds d, h1, by rfl, ?_⟩
  walk_at "go"
  refine ⟨ts, hs, nd, hz, fun i t ht e a ha => ?_⟩
  refine ixT_of ha rfl ?_
  exact q i t ht e
theorem ok_check_sizes {f : Addr} {fd : FuncData} (F : Fun K "check_sizes" "check_sizes" s_check_sizes f fd) (T : Txt K mg xStock xTower xPrompt) (D_check_places : Def P w K mg base CX0 3 "check_places" ["places"] (sp_placesG)) : FnOk P w K mg base CX0 4 f fd ["sizes"] (sp71_sizes K) := by
  have sc : FnScope ["sizes", "size"] ["sizes"] (defScope s_check_sizes) := ⟨rfl, rfl, rfl, by decide +kernel, rfl, by decide +kernel, by decide +kernel⟩
  refine F.ok sc (fun vs H Q E h => ?_) (fun cdv A outer s H vs Q E hr h => ?_)
  · obtain ⟨a, zs, rfl, hS, h1, h6, hz, q⟩ := h; rfl
  obtain ⟨a, zs, rfl, hS, h1, h6, hz, q⟩ := h
  refine ⟨_, (@pss_cons _ _ _ _ _ (ps_if (PW.pt (pw_or (pt_cmpR op_lt (pe_callB call_len_seq rfl T.z_len PySem.boot_len (pa_cons (pv 0) pa_nil)) pe_int (nomark _)) (pw_or1 (pt_cmpR op_gt (pe_callB call_len_seq rfl T.z_len PySem.boot_len (pa_cons (pv 0) pa_nil)) (pe_gint rfl T.g_MOST_SHELVES) (nomark _)))))
      (@pss_one _ _ _ ps_never)
      pss_nil)
    (@pss_one _ _ _ (ps_for PassesOwn.never rfl (pi_list (pv 0)) (pg_name (i := 1) sc.nd rfl (Or.inl rfl))
      (@pss_one _ _ _ (ps_expr (pe_callD D_check_places hr rfl pass0 (pa_cons (pv 1) pa_nil))))))), ?_⟩
  rw [show start ["sizes", "size"] [V.ref a] = [some (V.ref a), none] from rfl]
  have line := line_val
  walk_at "go"
  rw [List.length_map, if_neg (by omega)]
  refine ⟨_, .inl hS, ?_⟩
  rw [List.length_map, if_neg (by omega)]
  walk_at "go"
  refine ⟨⟨_, hS⟩, ?_⟩
  refine forL_by (xs := zs.map V.int) (fun i σ H' => ∃ (v1 : Option V), σ = [some (V.ref a), v1] ∧ H' = H) ⟨none, rfl, rfl⟩ (fun i σ H' _ h_ => by obtain ⟨v1, _, rfl⟩ := h_; exact hS) ?_ ?_
  · rintro i v σ H' hv ⟨v1, rfl, rfl⟩
    obtain ⟨n, hn, rfl⟩ := List.mem_map.mp (List.mem_of_getElem? hv)
    have h := hz n hn
    walk_at "go"
    exact h.2
  · rintro σ H' ⟨v1, rfl, rfl⟩
    exact q
theorem ok_check_rooms {f : Addr} {fd : FuncData} (F : Fun K "check_rooms" "check_rooms" s_check_rooms f fd) (T : Txt K mg xStock xTower xPrompt) (D_Stock_room_of : DefM P w K mg base CX0 2 xStock "room_of" ["self", "name"] (sp71_tell 2 K xStock)) : FnOk P w K mg base CX0 4 f fd ["stock", "asks"] (sp71_rooms K xStock) := by
  have sc : FnScope ["stock", "asks", "name"] ["stock", "asks"] (defScope s_check_rooms) := ⟨rfl, rfl, rfl, by decide +kernel, rfl, by decide +kernel, by decide +kernel⟩
  refine F.ok sc (fun vs H Q E h => ?_) (fun cdv A outer s H vs Q E hr h => ?_)
  · obtain ⟨p, a, ts, ys, rfl, hs, nd, hS, hy, hr1, hl, q⟩ := h; rfl
  obtain ⟨p, a, ts, ys, rfl, hs, nd, hS, hy, hr1, hl, q⟩ := h
  refine ⟨_, (@pss_one _ _ _ (ps_for PassesOwn.never rfl (pi_list (pv 1)) (pg_name (i := 2) sc.nd rfl (Or.inl rfl))
      (@pss_one _ _ _ (ps_if (pt_cmpR op_ne (pe_methS D_Stock_room_of T.cl_Stock hr (passS pass0) (pv 0) (pa_cons (pv 2) pa_nil)) pe_int (nomark _))
        (@pss_one _ _ _ ps_never)
        pss_nil)))), ?_⟩
  rw [show start ["stock", "asks", "name"] [V.ref p, V.ref a] = [some (V.ref p), some (V.ref a), none] from rfl]
  have line := line_val
  obtain ⟨dy, e, kvs, h1, h2, h3, h4, h5⟩ := StockAt.has hs
  walk_at "go"
  refine ⟨⟨_, hS⟩, ?_⟩
  refine forL_by (xs := ys.map V.str) (fun i σ H' => ∃ (v1 : Option V), σ = [some (V.ref p), some (V.ref a), v1] ∧ H' = H) ⟨none, rfl, rfl⟩ (fun i σ H' _ h_ => by obtain ⟨v1, _, rfl⟩ := h_; exact hS) ?_ ?_
  · rintro i v σ H' hv ⟨v1, rfl, rfl⟩
    obtain ⟨y, hyy, rfl⟩ := List.mem_map.mp (List.mem_of_getElem? hv)
    walk_at "go"
    refine ⟨dy, flds e, h1, by rfl, ts, hs, nd, hy y hyy, fun j t' ht' e' => ?_⟩
    have hp2 : pick 2 j t' = 1 := hr1 t' (List.mem_of_getElem? ht')
    rw [hp2]
    clear e' ht'
    walk_at "go"
  · rintro σ H' ⟨v1, rfl, rfl⟩
    exact q
theorem ok_Tower_write {f : Addr} {fd : FuncData} (F : Fun K "write" "Tower.write" s_Tower_write f fd) (T : Txt K mg xStock xTower xPrompt)  : FnOk P w K mg base CX0 2 f fd ["self", "name"] (sp74_write xTower) := by
  have sc : FnScope ["self", "name"] ["self", "name"] (defScope s_Tower_write) := ⟨rfl, rfl, rfl, by decide +kernel, rfl, by decide +kernel, by decide +kernel⟩
  refine F.ok sc (fun vs H Q E h => ?_) (fun cdv A outer s H vs Q E hr h => ?_)
  · obtain ⟨t, x, s, g, z, B, hd, rfl, hT, hL, hB, hz, q⟩ := h; rfl
  obtain ⟨t, x, s, g, z, B, hd, rfl, hT, hL, hB, hz, q⟩ := h
  refine ⟨_, (@pss_cons _ _ _ _ _ (ps_dput (hu_of hr) (pe_fld (pv 0) rfl) (pv 1) (pe_dget (hu_of hr) (pe_fld (pv 0) rfl) (pv 1) (fun _ _ => rfl)) rfl)
    (@pss_one _ _ _ (ps_expr (pe_bm PySem.F.plainAttrs_list PySem.F.slot_list_append PySem.F.type_list_append mt_append (pe_fld (pv 0) rfl) (pa_cons (pe_tup (pa_cons pe_str (pa_cons (pv 1) (pa_cons (pe_dget (hu_of hr) (pe_fld (pv 0) rfl) (pv 1) (fun _ _ => rfl)) pa_nil)))) pa_nil))))), ?_⟩
  rw [show start ["self", "name"] [V.ref t, V.str z] = [some (V.ref t), some (V.str z)] from rfl]
  have line := line_val
  obtain ⟨dx, fs, ho, hf⟩ := hT.o
  have hi := hL.h z hz
  have n3 := hL.n3
  have n4 := hL.n4
  walk_at "go"
  refine ⟨xTower, dx, fs, ho, T.cl_Tower, T.n_Tower_held, _, hf.he, x.he, rfl, .int (g.h z), by rw [← hi]; exact DGet.k (k := Sum.inr z) hT.he, xTower, dx, fs, ho, T.cl_Tower, T.n_Tower_store, _, hf.so, x.so, rfl, _, DPut.k (k := Sum.inr z) hT.so (by omega), ?_⟩
  have hT1 := hT.store (putK s.ks (Sum.inr z) (.int (g.h z)))
  have o1 : Off (own t x) H (upd H x.so (.dK (putK s.ks (Sum.inr z) (.int (g.h z))))) := Off.put (by simp [own])
  generalize upd H x.so (.dK (putK s.ks (Sum.inr z) (.int (g.h z)))) = H1 at hT1 o1 ⊢
  obtain ⟨dx1, fs1, ho1, hf1⟩ := hT1.o
  walk_at "go"
  refine ⟨xTower, dx1, fs1, ho1, T.cl_Tower, T.n_Tower_entries, _, hf1.en, .inl ⟨rfl, _, SqL.of hT1.en⟩, xTower, dx1, fs1, ho1, T.cl_Tower, T.n_Tower_held, _, hf1.he, x.he, rfl, .int (g.h z), by rw [← hi]; exact DGet.k (k := Sum.inr z) hT1.he, by omega, fun u hu => ?_⟩
  have sm2 : Same H1 (upd H1 u (.tup (wrT z (g.h z)))) := Same.new hu
  have hT2 := hT1.same sm2
  have hu2 : upd H1 u (.tup (wrT z (g.h z))) u = some (.tup (wrT z (g.h z))) := upd_same
  have nue : u ≠ x.en := (ne_of_none hT1.en hu).symm
  have o2 : Off (own t x) H (upd H1 u (.tup (wrT z (g.h z)))) := o1.trans (.of sm2)
  show rAppend _ _ (upd H1 u (.tup (wrT z (g.h z)))) _
  generalize upd H1 u (.tup (wrT z (g.h z))) = H2 at hT2 o2 hu2 ⊢
  refine ⟨x.en, _, _, rfl, rfl, hT2.en, by show s.es.length < _; omega, ?_⟩
  walk_at "go"
  have oF := o2.trans (Off.put (H := H2) (b := x.en) (o := .lst (s.es ++ [.ref u])) (by simp [own]))
  exact q { s with ks := putK s.ks (Sum.inr z) (.int (g.h z)), es := s.es ++ [.ref u] } _ oF (hT2.entry (s.es ++ [.ref u])) rfl rfl rfl rfl rfl (hL.wrote hz (keepT hT oF) (by rw [upd_ne nue]; exact hu2) (by omega))
theorem ok_Tower_settle {f : Addr} {fd : FuncData} (F : Fun K "settle" "Tower.settle" s_Tower_settle f fd) (T : Txt K mg xStock xTower xPrompt)  : FnOk P w K mg base CX0 1 f fd ["self", "name"] (sp74_settle xTower false) := by
  have sc : FnScope ["self", "name"] ["self", "name"] (defScope s_Tower_settle) := ⟨rfl, rfl, rfl, by decide +kernel, rfl, by decide +kernel, by decide +kernel⟩
  refine F.ok sc (fun vs H Q E h => ?_) (fun cdv A outer s H vs Q E hr h => ?_)
  · obtain ⟨t, x, s, g, z, B, hd, rfl, hT, hL, hB, hz, q⟩ := h; rfl
  obtain ⟨t, x, s, g, z, B, hd, rfl, hT, hL, hB, hz, q⟩ := h
  refine ⟨_, (@pss_one _ _ _ (ps_dput (hu_of hr) (pe_fld (pv 0) rfl) (pv 1) pe_bl rfl)), ?_⟩
  rw [show start ["self", "name"] [V.ref t, V.str z] = [some (V.ref t), some (V.str z)] from rfl]
  have line := line_val
  obtain ⟨dx, fs, ho, hf⟩ := hT.o
  walk_at "go"
  have h2 := hL.n2
  refine ⟨xTower, dx, fs, ho, T.cl_Tower, T.n_Tower_late, _, hf.la, x.la, rfl, _, DPut.k (k := Sum.inr z) hT.la (by omega), ?_⟩
  have o : Off (own t x) H (upd H x.la (.dK (putK s.kl (Sum.inr z) (.bl true)))) := Off.put (by simp [own])
  exact q _ _ o (hT.late (putK s.kl (Sum.inr z) (.bl true))) rfl rfl rfl rfl ((hL.lateOn hz (by omega)).off hT o)
theorem ok_Tower_fall_off {f : Addr} {fd : FuncData} (F : Fun K "fall_off" "Tower.fall_off" s_Tower_fall_off f fd) (T : Txt K mg xStock xTower xPrompt) (D_Tower_write : DefM P w K mg base CX0 2 xTower "write" ["self", "name"] (sp74_write xTower)) : FnOk P w K mg base CX0 3 f fd ["self", "name"] (sp74_fall xTower) := by
  have sc : FnScope ["self", "name"] ["self", "name"] (defScope s_Tower_fall_off) := ⟨rfl, rfl, rfl, by decide +kernel, rfl, by decide +kernel, by decide +kernel⟩
  refine F.ok sc (fun vs H Q E h => ?_) (fun cdv A outer s H vs Q E hr h => ?_)
  · obtain ⟨t, x, s, g, z, B, hd, rfl, hT, hL, hB, hz, q⟩ := h; rfl
  obtain ⟨t, x, s, g, z, B, hd, rfl, hT, hL, hB, hz, q⟩ := h
  refine ⟨_, (@pss_cons _ _ _ _ _ (ps_if (pt_cmp (pc_din (hu_of hr) (pv 1) (pe_fld (pv 0) rfl)))
      (@pss_cons _ _ _ _ _ (ps_expr (pe_dpop1 (pe_fld (pv 0) rfl) (pv 1) ⟨rfl, rfl, rfl, rfl⟩))
      (@pss_one _ _ _ (ps_expr (pe_methS D_Tower_write T.cl_Tower hr (passS pass0) (pv 0) (pa_cons (pv 1) pa_nil)))))
      pss_nil)
    (@pss_one _ _ _ (ps_expr (pe_dpop1 (pe_fld (pv 0) rfl) (pv 1) ⟨rfl, rfl, rfl, rfl⟩)))), ?_⟩
  rw [show start ["self", "name"] [V.ref t, V.str z] = [some (V.ref t), some (V.str z)] from rfl]
  have line := line_val
  obtain ⟨dx, fs, ho, hf⟩ := hT.o
  walk_at "go"
  refine ⟨xTower, dx, fs, ho, T.cl_Tower, T.n_Tower_late, _, hf.la, x.la, rfl, _, DGet.k (k := Sum.inr z) hT.la, ?_⟩
  rename_i rest hrest
  have key : ∀ (s1 : TwS) (H1 : Hp), Off (own t x) H H1 → TwAt xTower H1 t x s1 → s1.R = s.R → s1.zs = s.zs → s1.ff = s.ff → s1.pd = s.pd → TwG H1 s1 (fallG z g) (B + 1) hd → (fallG z g).l z = false → rest [some (V.ref t), some (V.str z)] H1 := by
    intro s1 H1 o1 hT1 e1 e2 e3 e4 hL1 hz1
    obtain ⟨dx1, fs1, ho1, hf1⟩ := hT1.o
    have hi1 := hL1.h z hz
    subst hrest
    walk_at "go"
    refine ⟨xTower, dx1, fs1, ho1, T.cl_Tower, T.n_Tower_held, _, hf1.he, x.he, rfl, .inl ⟨_, .inl hT1.he⟩, _, hT1.he, Sum.inr z, rfl, _, hi1, ?_⟩
    have oP : Off (own t x) H1 (upd H1 x.he (.dK (dropK s1.kh (Sum.inr z)))) := Off.put (by simp [own])
    exact q _ _ (o1.trans oP) (hT1.held (dropK s1.kh (Sum.inr z))) e1 e2 e3 e4 ((hL1.popped hz1).off hT1 oP)
  clear hrest
  rw [hL.l z]
  by_cases hin : g.l z = true
  · rw [if_pos hin]
    have hsome : (valV s.kl (Sum.inr z)).isSome = true := by rw [hL.l z]; exact hin
    obtain ⟨vl, hvl⟩ := Option.isSome_iff_exists.mp hsome
    walk_at "go"
    refine ⟨xTower, dx, fs, ho, T.cl_Tower, T.n_Tower_late, _, hf.la, x.la, rfl, .inl ⟨_, .inl hT.la⟩, _, hT.la, Sum.inr z, rfl, _, hvl, ?_⟩
    have hT1 := hT.late (dropK s.kl (Sum.inr z))
    have o1 : Off (own t x) H (upd H x.la (.dK (dropK s.kl (Sum.inr z)))) := Off.put (by simp [own])
    have hL1 := (hL.lateOff (z := z)).off hT o1
    generalize upd H x.la (.dK (dropK s.kl (Sum.inr z))) = H1 at hT1 o1 hL1 ⊢
    obtain ⟨dx1, fs1, ho1, hf1⟩ := hT1.o
    have eG : fallG z g = (g.late z false).write z := by unfold fallG; rw [if_pos hin]
    walk_at "go"
    refine ⟨dx1, fs1, ho1, hf1.m _ (by simp), x, _, hT1, _, B, hd, hL1, hB, hz, fun s2 H2 o2 hT2 e1 e2 e3 e4 _ hL2 => ?_⟩
    exact key s2 H2 (o1.trans o2) hT2 e1 e2 e3 e4 (by rw [eG]; exact hL2) (by rw [eG]; exact setF_same)
  · rw [if_neg hin]
    have eG : fallG z g = g := by unfold fallG; rw [if_neg hin]
    exact key s H (fun b o e _ => e) hT rfl rfl rfl rfl (by rw [eG]; exact hL.iff (fun _ => Iff.rfl) (by omega) (by omega)) (by rw [eG]; simpa using hin)
theorem ok_Tower_come {f : Addr} {fd : FuncData} (F : Fun K "come" "Tower.come" s_Tower_come f fd) (T : Txt K mg xStock xTower xPrompt) (D_Tower_fall_off : DefM P w K mg base CX0 3 xTower "fall_off" ["self", "name"] (sp74_fall xTower)) : FnOk P w K mg base CX0 4 f fd ["self", "name"] (sp74_come xTower) := by
  have sc : FnScope ["self", "name"] ["self", "name"] (defScope s_Tower_come) := ⟨rfl, rfl, rfl, by decide +kernel, rfl, by decide +kernel, by decide +kernel⟩
  refine F.ok sc (fun vs H Q E h => ?_) (fun cdv A outer s H vs Q E hr h => ?_)
  · obtain ⟨t, x, s, g, z, B, rfl, hT, hL, hB, nd, hRl, hRs, hS1, q⟩ := h; rfl
  obtain ⟨t, x, s, g, z, B, rfl, hT, hL, hB, nd, hRl, hRs, hS1, q⟩ := h
  refine ⟨_, (@pss_cons _ _ _ _ _ (ps_if (pt_cmpR op_in_seq (pv 1) (pe_fld (pv 0) rfl) (by with_unfolding_all rfl))
      (@pss_one _ _ _ (ps_expr (pe_bm PySem.F.plainAttrs_list PySem.F.slot_list_remove PySem.F.type_list_remove mt_remove (pe_fld (pv 0) rfl) (pa_cons (pv 1) pa_nil))))
      pss_nil)
    (@pss_cons _ _ _ _ _ (ps_expr (pe_bm PySem.F.plainAttrs_list PySem.F.slot_list_insert PySem.F.type_list_insert mt_insert (pe_fld (pv 0) rfl) (pa_cons pe_int (pa_cons (pv 1) pa_nil))))
    (@pss_one _ _ _ (ps_if (pt_cmpR op_gt (pe_callB call_len_seq rfl T.z_len PySem.boot_len (pa_cons (pe_fld (pv 0) rfl) pa_nil)) (pe_callB (call_sumL rfl) rfl T.z_sum (by first | rfl | decide +kernel) (pa_cons (pe_fld (pv 0) rfl) pa_nil)) (nomark _))
      (@pss_one _ _ _ (ps_expr (pe_methS D_Tower_fall_off T.cl_Tower hr (passS pass0) (pv 0) (pa_cons (pe_bm0 PySem.F.plainAttrs_list PySem.F.slot_list_pop PySem.F.type_list_pop mt_pop (pe_fld (pv 0) rfl)) pa_nil))))
      pss_nil)))), ?_⟩
  rw [show start ["self", "name"] [V.ref t, V.str z] = [some (V.ref t), some (V.str z)] from rfl]
  have line := line_val
  obtain ⟨dx, fs, ho, hf⟩ := hT.o
  walk_at "go"
  refine ⟨xTower, dx, fs, ho, T.cl_Tower, T.n_Tower_row, _, hf.ro, in_go (SqL.of hT.ro) ⟨_, rfl, ?_⟩⟩
  rename_i rest hrest
  have key : ∀ H1 : Hp, Off (own t x) H H1 → TwAt xTower H1 t x { s with R := s.R.erase z } → rest [some (V.ref t), some (V.str z)] H1 := by
    intro H1 o1 hT1
    obtain ⟨dx1, fs1, ho1, hf1⟩ := hT1.o
    have hel : (s.R.erase z).length ≤ s.R.length := List.length_erase_le
    subst hrest
    walk_at "go"
    refine ⟨xTower, dx1, fs1, ho1, T.cl_Tower, T.n_Tower_row, _, hf1.ro, .inl ⟨rfl, _, SqL.of hT1.ro⟩, x.ro, rfl, _, hT1.ro, by rw [List.length_map]; show (s.R.erase z).length < _; omega, ?_⟩
    have hT2 : TwAt xTower (upd H1 x.ro (.lst (V.str z :: List.map V.str { s with R := s.R.erase z }.R))) t x { s with R := z :: s.R.erase z } := hT1.row (z :: s.R.erase z)
    have o2 : Off (own t x) H (upd H1 x.ro (.lst (V.str z :: List.map V.str { s with R := s.R.erase z }.R))) := o1.trans (Off.put (by simp [own]))
    generalize upd H1 x.ro (.lst (V.str z :: List.map V.str { s with R := s.R.erase z }.R)) = H2 at hT2 o2 ⊢
    obtain ⟨dx2, fs2, ho2, hf2⟩ := hT2.o
    walk_at "go"
    refine ⟨xTower, dx2, fs2, ho2, T.cl_Tower, T.n_Tower_row, _, hf2.ro, x.ro, rfl, _, .inl (SqL.of hT2.ro), xTower, dx2, fs2, ho2, T.cl_Tower, T.n_Tower_sizes, _, hf2.si, x.si, rfl, _, SqL.of hT2.si, ?_⟩
    rw [List.length_map]
    have hl1 : (z :: s.R.erase z).length = (s.R.erase z).length + 1 := rfl
    have ndc := nd_come (z := z) nd
    by_cases hov : s.zs.sum < ((z :: s.R.erase z).length : Int)
    · rw [if_pos hov]
      obtain ⟨y, hy, edl, hyin, hiff⟩ := drop_last (S := s.zs.sum.toNat) ndc (by omega)
      have eG : comeG s.zs.sum s.R z g = fallG y g := by unfold comeG lastS; rw [if_pos hov, hy]; rfl
      refine ⟨dx2, fs2, ho2, hf2.m _ (by simp), xTower, dx2, fs2, ho2, T.cl_Tower, T.n_Tower_row, _, hf2.ro, .inl ⟨rfl, _, SqL.of hT2.ro⟩, x.ro, rfl, _, hT2.ro, V.str y, by rw [List.length_map, List.getElem?_map, hy]; rfl, ?_⟩
      have hT3 : TwAt xTower (upd H2 x.ro (.lst ((z :: s.R.erase z).map V.str).dropLast)) t x { s with R := (z :: s.R.erase z).dropLast } := by
        rw [← List.map_dropLast]; exact hT2.row ((z :: s.R.erase z).dropLast)
      have o3 : Off (own t x) H (upd H2 x.ro (.lst ((z :: s.R.erase z).map V.str).dropLast)) := o2.trans (Off.put (by simp [own]))
      have hL3 := hL.off hT o3
      walk_at "go"
      refine ⟨x, _, hT3, g, B, _, hL3.cast rfl rfl rfl rfl, hB, mem_come.mp hyin, fun s' H' o hT' e1 e2 e3 e4 hL' => ?_⟩
      have e1' : s'.R = (z :: s.R.erase z).dropLast := e1
      exact q s' H' (o3.trans o) hT' (by rw [e1', edl]) e2 e3 e4 (by rw [eG]; exact hL'.iff (fun u => by rw [e1', hiff u, mem_come]) (Nat.le_refl _) (by omega))
    · rw [if_neg hov]
      have eG : comeG s.zs.sum s.R z g = g := by unfold comeG; rw [if_neg hov]
      exact q _ H2 o2 hT2 (by rw [List.take_of_length_le (by omega)]) rfl rfl rfl (by rw [eG]; exact ((hL.off hT o2).iff (fun u => (mem_come (R := s.R) (z := z) (u := u)).symm) (by omega) (by omega)).cast rfl rfl rfl rfl)
  clear hrest
  by_cases hin : z ∈ s.R
  · rw [if_pos (by simpa using hin)]
    refine ⟨xTower, dx, fs, ho, T.cl_Tower, T.n_Tower_row, _, hf.ro, .inl ⟨rfl, _, SqL.of hT.ro⟩, x.ro, rfl, s.R, hT.ro, hin, ?_⟩
    exact key _ (Off.put (by simp [own])) (hT.row (s.R.erase z))
  · rw [if_neg (by simpa using hin)]
    have := key H (fun b o e _ => e) (by rw [List.erase_of_not_mem hin]; exact hT)
    exact this
theorem ok_Tower_levels {f : Addr} {fd : FuncData} (F : Fun K "levels" "Tower.levels" s_Tower_levels f fd) (T : Txt K mg xStock xTower xPrompt)  : FnOk P w K mg base CX0 1 f fd ["self"] (sp71_levels xTower) := by
  have sc : FnScope ["self", "told", "start", "size"] ["self"] (defScope s_Tower_levels) := ⟨rfl, rfl, rfl, by decide +kernel, rfl, by decide +kernel, by decide +kernel⟩
  refine F.ok sc (fun vs H Q E h => ?_) (fun cdv A outer s H vs Q E hr h => ?_)
  · obtain ⟨t, x, s, rfl, hT, hzl, hz, q⟩ := h; rfl
  obtain ⟨t, x, s, rfl, hT, hzl, hz, q⟩ := h
  refine ⟨_, (@pss_cons _ _ _ _ _ (ps_set (i := 1) sc.nd rfl (Or.inl rfl) (@pe_lst _ _ _ _ pa_nil))
    (@pss_cons _ _ _ _ _ (ps_set (i := 2) sc.nd rfl (Or.inl rfl) pe_int)
    (@pss_cons _ _ _ _ _ (ps_for PassesOwn.never rfl (pi_list (pe_fld (pv 0) rfl)) (pg_name (i := 3) sc.nd rfl (Or.inl rfl))
      (@pss_cons _ _ _ _ _ (ps_expr (pe_bm PySem.F.plainAttrs_list PySem.F.slot_list_append PySem.F.type_list_append mt_append (pv 1) (pa_cons (pe_slice sl_list (pe_fld (pv 0) rfl) (po_some (pv 2)) (po_some (pe_op op_add (pv 2) (pv 3)))) pa_nil)))
      (@pss_one _ _ _ (ps_aug (i := 2) sc.nd rfl (Or.inl rfl) (pv 3) ip_add))))
    (@pss_one _ _ _ (@ps_ret _ _ _ _ (pv 1)))))), ?_⟩
  rw [show start ["self", "told", "start", "size"] [V.ref t] = [some (V.ref t), none, none, none] from rfl]
  have line := line_val
  obtain ⟨dx, fs, ho, hf⟩ := hT.o
  walk_at "go"
  intro p hp
  walk_at "go"
  have sm0 : Same H (upd H p (.lst [])) := Same.new hp
  have hp0 : upd H p (.lst []) p = some (.lst []) := upd_same
  generalize upd H p (.lst []) = H0 at sm0 hp0 ⊢
  refine ⟨xTower, dx, fs, sm0 _ _ ho, T.cl_Tower, T.n_Tower_sizes, _, hf.si, x.si, rfl, ⟨_, SqL.of (sm0 _ _ hT.si)⟩, ?_⟩
  rename_i rest hrest
  refine forL_by (xs := s.zs.map V.int) (fun i σ H' => ∃ (as : List Addr) (v3 : Option V), σ = [some (V.ref t), some (V.ref p), some (V.int (pre s.zs i)), v3] ∧ Same H H' ∧ H' p = some (.lst (as.map V.ref)) ∧ LvAt H' as s.zs s.R i ∧ (∀ a ∈ as, H a = none) ∧ as.Nodup ∧ p ∉ as)
    ⟨[], none, rfl, sm0, hp0, ⟨rfl, fun i a e => by simp at e⟩, (fun a ha => by cases ha), List.nodup_nil, (fun h => by cases h)⟩ (fun i σ H' _ h_ => by obtain ⟨as, v3, _, sm, _⟩ := h_; exact SqL.of (sm _ _ hT.si)) ?_ ?_
  · rintro i v σ H' hv ⟨as, v3, rfl, sm, hp', hA, hn, nd, hpn⟩
    have hi : i < s.zs.length := by
      have := (List.getElem?_eq_some_iff.mp hv).1
      rw [List.length_map] at this; exact this
    have hgi : s.zs[i]? = some (s.zs.getD i 0) := getD_int hi
    rw [List.getElem?_map, hgi] at hv
    cases hv
    have hz1 := hz _ (List.mem_of_getElem? hgi)
    have hpn0 := pre_nn (fun z h => (hz z h).1) i
    rw [pre_succ hi]
    have hal : as.length ≤ i := Nat.le_of_eq hA.1
    walk_at "go"
    refine ⟨.inl ⟨rfl, _, SqL.of hp'⟩, xTower, dx, fs, sm _ _ ho, T.cl_Tower, T.n_Tower_row, _, hf.ro, x.ro, rfl, _, SqL.of (sm _ _ hT.ro), fun l hl => ?_⟩
    rw [cut_lvl hz hi]
    have npl : p ≠ l := ne_of_none hp' hl
    have sm2 : Same H' (upd H' l (.lst ((lvl s.zs s.R i).map V.str))) := Same.new hl
    have hlH : H l = none := by
      cases e : H l with
      | none => rfl
      | some o => rw [sm _ _ e] at hl; cases hl
    refine ⟨p, _, _, rfl, rfl, sm2 _ _ hp', by rw [List.length_map]; omega, ?_⟩
    have hla : l ∉ as := fun h => by
      obtain ⟨j, hj⟩ := List.mem_iff_getElem?.mp h
      rw [hA.2 j l hj] at hl; cases hl
    have sm3 : Same H (upd (upd H' l (.lst ((lvl s.zs s.R i).map V.str))) p (.lst (as.map V.ref ++ [V.ref l]))) := fun b o e => by rw [upd_ne (ne_of_none e hp)]; exact (sm.trans sm2) _ _ e
    have hp3 : upd (upd H' l (.lst ((lvl s.zs s.R i).map V.str))) p (.lst (as.map V.ref ++ [V.ref l])) p = some (.lst ((as ++ [l]).map V.ref)) := by rw [upd_same, List.map_append]; rfl
    have hA3 : LvAt (upd (upd H' l (.lst ((lvl s.zs s.R i).map V.str))) p (.lst (as.map V.ref ++ [V.ref l]))) (as ++ [l]) s.zs s.R (i + 1) := by
      refine ⟨by rw [List.length_append, hA.1]; rfl, fun j a e => ?_⟩
      by_cases hj : j < as.length
      · rw [List.getElem?_append_left hj] at e
        have h1 := hA.2 j a e
        rw [upd_ne (fun z => hpn (by rw [← z]; exact List.mem_of_getElem? e))]
        exact sm2 _ _ h1
      · rw [List.getElem?_append_right (by omega)] at e
        have hj0 : j = i := by
          have h1 := (List.getElem?_eq_some_iff.mp e).1
          have h2 := hA.1
          simp at h1; omega
        rw [show j - as.length = 0 by have := hA.1; omega] at e
        cases e
        rw [upd_ne npl.symm, upd_same, hj0]
    generalize upd (upd H' l (.lst ((lvl s.zs s.R i).map V.str))) p (.lst (as.map V.ref ++ [V.ref l])) = H3 at sm3 hp3 hA3 ⊢
    walk_at "go"
    refine ⟨as ++ [l], hp3, hA3, fun a ha => ?_, ?_, fun h => ?_⟩
    · rcases List.mem_append.mp ha with ha | ha
      · exact hn a ha
      · rw [List.mem_singleton.mp ha]; exact hlH
    · exact List.nodup_append.mpr ⟨nd, List.nodup_cons.mpr ⟨List.not_mem_nil, List.nodup_nil⟩, fun a ha b hb e => hla (by rw [← List.mem_singleton.mp hb, ← e]; exact ha)⟩
    · rcases List.mem_append.mp h with h | h
      · exact hpn h
      · exact npl (List.mem_singleton.mp h)
  · rintro σ H' ⟨as, v3, rfl, sm, hp', hA, hn, nd, hpn⟩
    rw [List.length_map] at hA
    walk_at "go"
    exact q p as _ hp sm hp' hA hn nd hpn
theorem ok_Tower_shelf_of {f : Addr} {fd : FuncData} (F : Fun K "shelf_of" "Tower.shelf_of" s_Tower_shelf_of f fd) (T : Txt K mg xStock xTower xPrompt) (D_Stock_number_of : DefM P w K mg base CX0 2 xStock "number_of" ["self", "name"] (sp71_tell 0 K xStock)) (D_Tower_levels : DefM P w K mg base CX0 1 xTower "levels" ["self"] (sp71_levels xTower)) : FnOk P w K mg base CX0 4 f fd ["self", "name"] (sp79_shelf K xTower xStock) := by
  have sc : FnScope ["self", "name", "number", "names"] ["self", "name"] (defScope s_Tower_shelf_of) := ⟨rfl, rfl, rfl, by decide +kernel, rfl, by decide +kernel, by decide +kernel⟩
  refine F.ok sc (fun vs H Q E h => ?_) (fun cdv A outer s H vs Q E hr h => ?_)
  · obtain ⟨t, x, s, z, ts, rfl, hT, hs, nd, hz, hzl, hzz, hRs, q⟩ := h; rfl
  obtain ⟨t, x, s, z, ts, rfl, hT, hs, nd, hz, hzl, hzz, hRs, q⟩ := h
  refine ⟨_, (@pss_cons _ _ _ _ _ (ps_expr (pe_methS D_Stock_number_of T.cl_Stock hr (passS pass0) (pe_fld (pv 0) rfl) (pa_cons (pv 1) pa_nil)))
    (@pss_cons _ _ _ _ _ (ps_for PassesOwn.never rfl (pi_enum rfl T.z_enumerate (pa_cons (pe_methS0 D_Tower_levels T.cl_Tower hr (passS pass0) (pv 0)) pa_nil)) (pg_tup rfl (pgs_cons (pg_name (i := 2) sc.nd rfl (Or.inl rfl)) (pgs_cons (pg_name (i := 3) sc.nd rfl (Or.inl rfl)) pgs_nil)))
      (@pss_one _ _ _ (ps_if (pt_cmpR op_in_seq (pv 1) (pv 3) (by with_unfolding_all rfl))
        (@pss_one _ _ _ (@ps_ret _ _ _ _ (pv 2)))
        pss_nil)))
    (@pss_one _ _ _ (@ps_ret _ _ _ _ (pe_callB call_len_seq rfl T.z_len PySem.boot_len (pa_cons (pe_fld (pv 0) rfl) pa_nil)))))), ?_⟩
  rw [show start ["self", "name", "number", "names"] [V.ref t, V.str z] = [some (V.ref t), some (V.str z), none, none] from rfl]
  have line := line_val
  obtain ⟨dx, fs, ho, hf⟩ := hT.o
  obtain ⟨dy, e, kvs, h1, h2, h3, h4, h5⟩ := StockAt.has hs.at
  walk_at "go"
  refine ⟨xTower, dx, fs, ho, T.cl_Tower, T.n_Tower_stock, _, hf.st, x.st, rfl, dy, flds e, h1, by rfl, x.st, rfl, ts, hs.at, nd, hz, fun i t' ht' e' => ?_⟩
  clear e' ht'
  walk_at "go"
  refine ⟨dx, fs, ho, hf.m _ (by simp), x, s, hT, hzl, hzz, fun p as H1 hp sm1 hp1 hA han nda hpn => ⟨⟨_, SqL.of hp1⟩, ?_⟩⟩
  rename_i rest hrest
  refine forE_by (xs := as.map V.ref) (fun i σ H' => ∃ (v2 v3 : Option V), σ = [some (V.ref t), some (V.str z), v2, v3] ∧ Same H1 H' ∧ ∀ j, j < i → z ∉ lvl s.zs s.R j) ⟨none, none, rfl, Same.refl _, fun j hj => absurd hj (Nat.not_lt_zero j)⟩ (fun i σ H' _ h_ => by obtain ⟨v2, v3, _, sm, _⟩ := h_; exact SqL.of (sm _ _ hp1)) ?_ ?_
  · rintro i v σ H' u hv ⟨v2, v3, rfl, sm, hno⟩ hu
    have hi : i < as.length := by
      have := (List.getElem?_eq_some_iff.mp hv).1
      rw [List.length_map] at this; exact this
    have hai : as[i]? = some as[i] := List.getElem?_eq_getElem hi
    rw [List.getElem?_map, hai] at hv
    cases hv
    have hla := (sm.trans (Same.new (o := .tup [.int i, .ref as[i]]) hu)) _ _ (hA.2 i _ hai)
    have smu := sm.trans (Same.new (o := .tup [.int i, .ref as[i]]) hu)
    walk_at "go"
    refine ⟨_, SqT.of upd_same, rfl, _, _, rfl, _, _, rfl, rfl, ?_⟩
    generalize upd H' u (.tup [.int i, .ref as[i]]) = H2 at hla smu ⊢
    have hzl2 : i < s.zs.length := by have := hA.1; omega
    walk_at "go"
    refine in_go (SqL.of hla) ⟨_, rfl, ?_⟩
    by_cases hin : z ∈ lvl s.zs s.R i
    · rw [if_pos (by simpa using hin)]
      walk_at "go"
      exact q i H2 (sm1.trans smu) (by omega) ⟨fun _ => lvl_sub hin, fun _ => hzl2⟩ (Nat.le_of_eq (shx_at hzl2 hin hno)) (Nat.le_of_eq (shx_at hzl2 hin hno).symm)
    · rw [if_neg (by simpa using hin)]
      walk_at "go"
      intro j hj
      by_cases e : j = i
      · rw [e]; exact hin
      · exact hno j (by omega)
  · rintro σ H' ⟨v2, v3, rfl, sm, hno⟩
    rw [List.length_map, hA.1] at hno
    have smA := sm1.trans sm
    walk_at "go"
    refine ⟨xTower, dx, fs, smA _ _ ho, T.cl_Tower, T.n_Tower_sizes, _, hf.si, x.si, rfl, _, .inl (SqL.of (smA _ _ hT.si)), ?_⟩
    rw [List.length_map]
    refine q s.zs.length H' smA (Nat.le_refl _) ⟨fun h => absurd h (Nat.lt_irrefl _), fun h => ?_⟩ (Nat.le_of_eq (shx_no hno)) (Nat.le_of_eq (shx_no hno).symm)
    obtain ⟨j, hj, hjz⟩ := lvl_all (fun z h => (hzz z h).1) hRs h
    exact absurd hjz (hno j hj)
theorem ok_Tower_stored {f : Addr} {fd : FuncData} (F : Fun K "stored" "Tower.stored" s_Tower_stored f fd) (T : Txt K mg xStock xTower xPrompt) (D_Stock_number_of : DefM P w K mg base CX0 2 xStock "number_of" ["self", "name"] (sp71_tell 0 K xStock)) : FnOk P w K mg base CX0 4 f fd ["self", "name"] (sp74_stored K xTower xStock) := by
  have sc : FnScope ["self", "name"] ["self", "name"] (defScope s_Tower_stored) := ⟨rfl, rfl, rfl, by decide +kernel, rfl, by decide +kernel, by decide +kernel⟩
  refine F.ok sc (fun vs H Q E h => ?_) (fun cdv A outer s H vs Q E hr h => ?_)
  · obtain ⟨t, x, s, g, z, ts, B, hd, rfl, hT, hs, nd, hz, hL, q⟩ := h; rfl
  obtain ⟨t, x, s, g, z, ts, B, hd, rfl, hT, hs, nd, hz, hL, q⟩ := h
  refine ⟨_, (@pss_cons _ _ _ _ _ (ps_expr (pe_methS D_Stock_number_of T.cl_Stock hr (passS pass0) (pe_fld (pv 0) rfl) (pa_cons (pv 1) pa_nil)))
    (@pss_one _ _ _ (@ps_ret _ _ _ _ (pe_dget2 (hu_of hr) (pe_fld (pv 0) rfl) (pv 1) pe_int ⟨rfl, rfl, rfl, rfl⟩)))), ?_⟩
  rw [show start ["self", "name"] [V.ref t, V.str z] = [some (V.ref t), some (V.str z)] from rfl]
  have line := line_val
  obtain ⟨dx, fs, ho, hf⟩ := hT.o
  obtain ⟨dy, e, kvs, h1, h2, h3, h4, h5⟩ := StockAt.has hs.at
  walk_at "go"
  refine ⟨xTower, dx, fs, ho, T.cl_Tower, T.n_Tower_stock, _, hf.st, x.st, rfl, dy, flds e, h1, by rfl, x.st, rfl, ts, hs.at, nd, hz, fun i t' ht' e' => ?_⟩
  clear e' ht'
  walk_at "go"
  refine ⟨xTower, dx, fs, ho, T.cl_Tower, T.n_Tower_store, _, hf.so, x.so, rfl, .inl ⟨_, .inl hT.so⟩, _, DGet.k (k := Sum.inr z) hT.so, ?_⟩
  have hst := hL.st z
  cases hv : valV s.ks (Sum.inr z) with
  | none => rw [hv] at hst; rw [← hst] at q; exact q
  | some v => rw [hv] at hst; rw [← hst] at q; exact q
theorem ok_Tower_fetch {f : Addr} {fd : FuncData} (F : Fun K "fetch" "Tower.fetch" s_Tower_fetch f fd) (T : Txt K mg xStock xTower xPrompt) (D_Stock_cost_of : DefM P w K mg base CX0 2 xStock "cost_of" ["self", "name"] (sp71_tell 1 K xStock)) (D_Tower_stored : DefM P w K mg base CX0 4 xTower "stored" ["self", "name"] (sp74_stored K xTower xStock)) : FnOk P w K mg base CX0 5 f fd ["self", "word", "name"] (sp74_fetch K xTower xStock) := by
  have sc : FnScope ["self", "word", "name"] ["self", "word", "name"] (defScope s_Tower_fetch) := ⟨rfl, rfl, rfl, by decide +kernel, rfl, by decide +kernel, by decide +kernel⟩
  refine F.ok sc (fun vs H Q E h => ?_) (fun cdv A outer s H vs Q E hr h => ?_)
  · obtain ⟨t, x, s, g, w2, z, ts, B, p, rfl, hT, hs, nd, hz, hL, hB, q⟩ := h; rfl
  obtain ⟨t, x, s, g, w2, z, ts, B, p, rfl, hT, hs, nd, hz, hL, hB, q⟩ := h
  refine ⟨_, (@pss_cons _ _ _ _ _ (ps_fldaug (pv 0) (pe_methS D_Stock_cost_of T.cl_Stock hr (passS pass0) (pe_fld (pv 0) rfl) (pa_cons (pv 2) pa_nil)) in_add)
    (@pss_cons _ _ _ _ _ (ps_expr (pe_bm PySem.F.plainAttrs_list PySem.F.slot_list_append PySem.F.type_list_append mt_append (pe_fld (pv 0) rfl) (pa_cons (pe_tup (pa_cons (pv 1) (pa_cons (pv 2) pa_nil))) pa_nil)))
    (@pss_one _ _ _ (ps_dput (hu_of hr) (pe_fld (pv 0) rfl) (pv 2) (pe_methS D_Tower_stored T.cl_Tower hr (passS pass0) (pv 0) (pa_cons (pv 2) pa_nil)) rfl)))), ?_⟩
  rw [show start ["self", "word", "name"] [V.ref t, V.str w2, V.str z] = [some (V.ref t), some (V.str w2), some (V.str z)] from rfl]
  have line := line_val
  obtain ⟨dx, fs, ho, hf⟩ := hT.o
  obtain ⟨dy, e, kvs, h1, h2, h3, h4, h5⟩ := StockAt.has hs.at
  walk_at "go"
  refine ⟨xTower, dx, fs, ho, T.cl_Tower, T.n_Tower_paid, _, hf.pd, xTower, dx, fs, ho, T.cl_Tower, T.n_Tower_stock, _, hf.st, x.st, rfl, dy, flds e, h1, by rfl, x.st, rfl, ts, hs.at, nd, hz, fun i t' ht' e' => ⟨_, _, rfl, rfl, dx, fs, ho, by have := hf.n; omega, ?_⟩⟩
  have ec : pick 1 i t' = costOf ts z := (costOf_at nd ht' e').symm
  rw [ec]
  clear e' ec
  have hT1 := hT.paid ho hf (s.pd + costOf ts z)
  have o1 : Off (own t x) H (upd H t (.ins xTower dx (putF (Str.ofString "paid") (.int (s.pd + costOf ts z)) fs))) := Off.put (by simp [own])
  generalize upd H t (.ins xTower dx (putF (Str.ofString "paid") (.int (s.pd + costOf ts z)) fs)) = H1 at hT1 o1 ⊢
  clear ht'
  obtain ⟨dx1, fs1, ho1, hf1⟩ := hT1.o
  have n4 := hL.n4
  walk_at "go"
  refine ⟨xTower, dx1, fs1, ho1, T.cl_Tower, T.n_Tower_entries, _, hf1.en, .inl ⟨rfl, _, SqL.of hT1.en⟩, by omega, fun u hu => ?_⟩
  have sm2 : Same H1 (upd H1 u (.tup [.str w2, .str z])) := Same.new hu
  have hT2 := hT1.same sm2
  have hu2 : upd H1 u (.tup [.str w2, .str z]) u = some (.tup [.str w2, .str z]) := upd_same
  have nue : u ≠ x.en := (ne_of_none hT1.en hu).symm
  have o2 : Off (own t x) H (upd H1 u (.tup [.str w2, .str z])) := o1.trans (.of sm2)
  generalize upd H1 u (.tup [.str w2, .str z]) = H2 at hT2 o2 hu2 ⊢
  refine ⟨x.en, _, _, rfl, rfl, hT2.en, by show s.es.length < _; omega, ?_⟩
  have hT3 := hT2.entry (s.es ++ [.ref u])
  have o3 : Off (own t x) H (upd H2 x.en (.lst (s.es ++ [.ref u]))) := o2.trans (Off.put (by simp [own]))
  have hs3 := hs.off o3
  have hu3 : upd H2 x.en (.lst (s.es ++ [.ref u])) u = some (.tup [.str w2, .str z]) := by rw [upd_ne nue]; exact hu2
  have hst := hL.st
  walk_at "go"
  show _
  generalize upd H2 x.en (.lst (s.es ++ [.ref u])) = H3 at hT3 o3 hs3 hu3 ⊢
  obtain ⟨dx3, fs3, ho3, hf3⟩ := hT3.o
  have hL3 := (hL.fetched (keepT hT o3) hu3 (by omega) (pd := s.pd + costOf ts z))
  have oF : Off (own t x) H3 (upd H3 x.he (.dK (putK s.kh (Sum.inr z) (.int (g.st z))))) := Off.put (by simp [own])
  have n1 := hL.n1
  have hL2 := hL.noted (keepT hT o3) hu3 rfl (by omega) (pd := s.pd + costOf ts z)
  have fin := q { s with pd := s.pd + costOf ts z, es := s.es ++ [.ref u], kh := putK s.kh (Sum.inr z) (.int (g.st z)) } _ (o3.trans oF) (hT3.held (putK s.kh (Sum.inr z) (.int (g.st z)))) rfl rfl rfl rfl (hL3.off hT3 oF)
  exact ⟨dx3, fs3, ho3, hf3.m _ (by simp), x, _, hT3, _, ts, hs3, nd, hz, _, _, hL2, xTower, dx3, fs3, ho3, T.cl_Tower, T.n_Tower_held, _, hf3.he, x.he, rfl, _, DPut.k (k := Sum.inr z) hT3.he (by show s.kh.length < _; omega), fin⟩
theorem ok_Tower_read {f : Addr} {fd : FuncData} (F : Fun K "read" "Tower.read" s_Tower_read f fd) (T : Txt K mg xStock xTower xPrompt) (D_Tower_shelf_of : DefM P w K mg base CX0 4 xTower "shelf_of" ["self", "name"] (sp79_shelf K xTower xStock)) (D_Tower_fetch : DefM P w K mg base CX0 5 xTower "fetch" ["self", "word", "name"] (sp74_fetch K xTower xStock)) (D_Tower_come : DefM P w K mg base CX0 4 xTower "come" ["self", "name"] (sp74_come xTower)) : FnOk P w K mg base CX0 6 f fd ["self", "name"] (sp79_read K xTower xStock) := by
  have sc : FnScope ["self", "name", "place"] ["self", "name"] (defScope s_Tower_read) := ⟨rfl, rfl, rfl, by decide +kernel, rfl, by decide +kernel, by decide +kernel⟩
  refine F.ok sc (fun vs H Q E h => ?_) (fun cdv A outer s H vs Q E hr h => ?_)
  · obtain ⟨t, x, s, g, z, ts, B, rfl, hG, hz, hB, q⟩ := h; rfl
  obtain ⟨t, x, s, g, z, ts, B, rfl, hG, hz, hB, q⟩ := h
  refine ⟨_, (@pss_cons _ _ _ _ _ (ps_set (i := 2) sc.nd rfl (Or.inl rfl) (pe_methS D_Tower_shelf_of T.cl_Tower hr (passS pass0) (pv 0) (pa_cons (pv 1) pa_nil)))
    (@pss_cons _ _ _ _ _ (ps_augS (pe_fld (pv 0) rfl) (pv 2) get_list pe_int ip_add set_list)
    (@pss_cons _ _ _ _ _ (ps_if (pt_cmpR op_eq (pv 2) (pe_callB call_len_seq rfl T.z_len PySem.boot_len (pa_cons (pe_fld (pv 0) rfl) pa_nil)) (nomark _))
      (@pss_one _ _ _ (ps_expr (pe_methS D_Tower_fetch T.cl_Tower hr (passS pass0) (pv 0) (pa_cons pe_str (pa_cons (pv 1) pa_nil)))))
      pss_nil)
    (@pss_cons _ _ _ _ _ (ps_expr (pe_methS D_Tower_come T.cl_Tower hr (passS pass0) (pv 0) (pa_cons (pv 1) pa_nil)))
    (@pss_one _ _ _ (@ps_ret _ _ _ _ (pe_dget (hu_of hr) (pe_fld (pv 0) rfl) (pv 1) (fun _ _ => rfl)))))))), ?_⟩
  rw [show start ["self", "name", "place"] [V.ref t, V.str z] = [some (V.ref t), some (V.str z), none] from rfl]
  have line := line_val
  have hW := hG.to
  obtain ⟨dx, fs, ho, hf⟩ := hW.tw.o
  walk_at "go"
  refine ⟨dx, fs, ho, hf.m _ (by simp), x, s, hW.tw, ts, hW.sk, hW.tn, hz, hW.zl, hW.zz, hW.rs, fun k H1 sm1 hk hkR hk1 hk2 => ?_⟩
  have hT1 := hW.tw.same sm1
  have o1 : Off (own t x) H H1 := .of sm1
  obtain ⟨dx1, fs1, ho1, hf1⟩ := hT1.o
  have hfl := hW.ff
  have hgk : s.ff[k]? = some (s.ff.getD k 0) := getD_int (by omega)
  walk_at "go"
  refine ⟨xTower, dx1, fs1, ho1, T.cl_Tower, T.n_Tower_finds, _, hf1.fi, ?_⟩
  refine ⟨x.fi, s.ff.map V.int, k, V.int (s.ff.getD k 0), rfl, rfl, SqL.of hT1.fi, by rw [List.getElem?_map, hgk]; rfl, ?_⟩
  walk_at "go"
  refine ⟨_, hT1.fi, k, by rw [List.length_map]; exact ixN_at (by omega), ?_⟩
  rw [← List.map_set]
  have hT2 := hT1.find (s.ff.set k (s.ff.getD k 0 + 1))
  have o2 : Off (own t x) H (upd H1 x.fi (.lst ((s.ff.set k (s.ff.getD k 0 + 1)).map V.int))) := o1.trans (Off.put (by simp [own]))
  have hff2 : (s.ff.set k (s.ff.getD k 0 + 1)).length = s.zs.length + 1 := by rw [List.length_set]; exact hfl
  have hfb : s.ff.set k (s.ff.getD k 0 + 1) = bump s.ff (shx s.zs s.R z) ∧ True := ⟨by rw [show shx s.zs s.R z = k by omega]; rfl, trivial⟩
  generalize upd H1 x.fi (.lst ((s.ff.set k (s.ff.getD k 0 + 1)).map V.int)) = H2 at hT2 o2 ⊢
  generalize s.ff.set k (s.ff.getD k 0 + 1) = ff2 at hT2 hff2 hfb
  have hs2 := hW.sk.off o2
  have hL2 := (hG.g.off hW.tw o2).cast (s' := { s with ff := ff2 }) rfl rfl rfl rfl
  obtain ⟨dx2, fs2, ho2, hf2⟩ := hT2.o
  clear hT1 o1 ho1 hf1 hgk hfl
  walk_at "go"
  refine ⟨xTower, dx2, fs2, ho2, T.cl_Tower, T.n_Tower_sizes, _, hf2.si, x.si, rfl, _, .inl (SqL.of hT2.si), ?_⟩
  rw [List.length_map]
  rename_i rest hrest
  have key : ∀ (s3 : TwS) (H3 : Hp), Off (own t x) H H3 → TwAt xTower H3 t x s3 → s3.R = s.R → s3.zs = s.zs → s3.ff = ff2 → s3.pd = s.pd + (if z ∈ s.R then 0 else costOf ts z) → TwG H3 s3 (if z ∈ s.R then g else fetchG (Str.ofString "fetch") z g) (B + 1) (fun y => y ∈ s.R ∨ y = z) → rest [some (V.ref t), some (V.str z), some (V.int k)] H3 := by
    intro s3 H3 o3 hT3 eR eZ eF eP hL3
    obtain ⟨dx3, fs3, ho3, hf3⟩ := hT3.o
    have hrl := hW.rl
    have hrs := hW.rs
    have hs1 := hW.s1
    subst hrest
    walk_at "go"
    refine ⟨dx3, fs3, ho3, hf3.m _ (by simp), x, s3, hT3, _, B + 1, by rw [eR]; exact hL3, by omega, by rw [eR]; exact hW.nd, by rw [eR]; omega, by rw [eR, eZ]; exact hrs, by rw [eZ]; exact hs1, fun s4 H4 o4 hT4 eR4 eZ4 eF4 eP4 hL4 => ?_⟩
    rw [eR, eZ] at hL4
    obtain ⟨dx4, fs4, ho4, hf4⟩ := hT4.o
    have eR5 : s4.R = cameR z s := by rw [eR4, eR, eZ]; rfl
    have hzin : z ∈ s4.R := by
      rw [eR5]; unfold cameR
      obtain ⟨n, hn⟩ : ∃ n, s.zs.sum.toNat = n + 1 := ⟨s.zs.sum.toNat - 1, by omega⟩
      rw [hn, List.take_succ_cons]; exact List.mem_cons_self
    have hi := hL4.h z hzin
    walk_at "go"
    refine ⟨xTower, dx4, fs4, ho4, T.cl_Tower, T.n_Tower_held, _, hf4.he, x.he, rfl, .int ((readG s.zs.sum s.R z g).h z), by rw [← show valV s4.kh (Sum.inr z) = some (.int ((readG s.zs.sum s.R z g).h z)) from hi]; exact DGet.k (k := Sum.inr z) hT4.he, ?_⟩
    have o5 := o3.trans o4
    exact q s4 H4 o5 ⟨tow_came hW hz o5 hT4 eR5 (by rw [eZ4, eZ]) hL4.toL (by rw [eF4]; exact hff2), hL4⟩ eR5 (by rw [eZ4, eZ]) (by rw [eP4, eP]) (by rw [eF4]; exact hfb.1)
  clear hrest
  have hl := hW.l
  by_cases hk2 : k = s.zs.length
  · rw [if_pos (by show (k : Int) = (s.zs.length : Int); omega)]
    have hzR : z ∉ s.R := fun h => by have := hkR.mpr h; omega
    refine ⟨dx2, fs2, ho2, hf2.m _ (by simp), x, _, hT2, g, ts, hs2, hW.tn, hz, B, _, hL2, by omega, fun s3 H3 o3 hT3 e1 e2 e3 e4 hL3 => key s3 H3 (o2.trans o3) hT3 e1 e2 e3 (by rw [e4, if_neg hzR]) (by rw [if_neg hzR]; exact hL3)⟩
  · rw [if_neg (by show ¬ (k : Int) = (s.zs.length : Int); omega)]
    have hzR : z ∈ s.R := hkR.mp (by omega)
    have hl2 := hL2.iff (q := fun y => y ∈ s.R ∨ y = z) (B' := B + 1) (fun u => ⟨.inl, fun h => h.elim id fun e => by rw [e]; exact hzR⟩) (by omega) (by omega)
    exact key _ H2 o2 hT2 rfl rfl rfl (by rw [if_pos hzR, Int.add_zero]) (by rw [if_pos hzR]; exact hl2)
theorem ok_Tower_keep {f : Addr} {fd : FuncData} (F : Fun K "keep" "Tower.keep" s_Tower_keep f fd) (T : Txt K mg xStock xTower xPrompt) (D_Tower_shelf_of : DefM P w K mg base CX0 4 xTower "shelf_of" ["self", "name"] (sp79_shelf K xTower xStock)) (D_is_within : Def P w K mg base CX0 2 "is_within" ["thing", "least", "most"] (sp_within K)) (D_Tower_settle : DefM P w K mg base CX0 1 xTower "settle" ["self", "name"] (sp74_settle xTower false)) (D_Tower_come : DefM P w K mg base CX0 4 xTower "come" ["self", "name"] (sp74_come xTower)) : FnOk P w K mg base CX0 6 f fd ["self", "name", "value"] (sp79_keep K xTower xStock false) := by
  have sc : FnScope ["self", "name", "value", "place"] ["self", "name", "value"] (defScope s_Tower_keep) := ⟨rfl, rfl, rfl, by decide +kernel, rfl, by decide +kernel, by decide +kernel⟩
  refine F.ok sc (fun vs H Q E h => ?_) (fun cdv A outer s H vs Q E hr h => ?_)
  · obtain ⟨t, x, s, g, z, v, ts, B, rfl, hv1, hv2, hG, hz, hB, q⟩ := h; rfl
  obtain ⟨t, x, s, g, z, v, ts, B, rfl, hv1, hv2, hG, hz, hB, q⟩ := h
  refine ⟨_, (@pss_cons _ _ _ _ _ (ps_set (i := 3) sc.nd rfl (Or.inl rfl) (pe_methS D_Tower_shelf_of T.cl_Tower hr (passS pass0) (pv 0) (pa_cons (pv 1) pa_nil)))
    (@pss_cons _ _ _ _ _ (ps_if (pt_not (pt_val (pe_callD D_is_within hr rfl pass0 (pa_cons (pv 2) (pa_cons (pe_op op_sub pe_int (pe_op op_pow pe_int pe_int)) (pa_cons (pe_op op_pow pe_int pe_int) pa_nil))))))
      (@pss_one _ _ _ ps_never)
      pss_nil)
    (@pss_cons _ _ _ _ _ (ps_augS (pe_fld (pv 0) rfl) (pv 3) get_list pe_int ip_add set_list)
    (@pss_cons _ _ _ _ _ (ps_dput (hu_of hr) (pe_fld (pv 0) rfl) (pv 1) (pv 2) rfl)
    (@pss_cons _ _ _ _ _ (ps_expr (pe_methS D_Tower_settle T.cl_Tower hr (passS pass0) (pv 0) (pa_cons (pv 1) pa_nil)))
    (@pss_one _ _ _ (ps_expr (pe_methS D_Tower_come T.cl_Tower hr (passS pass0) (pv 0) (pa_cons (pv 1) pa_nil))))))))), ?_⟩
  rw [show start ["self", "name", "value", "place"] [V.ref t, V.str z, V.int v] = [some (V.ref t), some (V.str z), some (V.int v), none] from rfl]
  have line := line_val
  have hW := hG.to
  obtain ⟨dx, fs, ho, hf⟩ := hW.tw.o
  have hrl := hW.rl
  have hrs := hW.rs
  have hs1 := hW.s1
  walk_at "go"
  refine ⟨dx, fs, ho, hf.m _ (by simp), x, s, hW.tw, ts, hW.sk, hW.tn, hz, hW.zl, hW.zz, hW.rs, fun k H1 sm1 hk hkR hk1 hk2 => ?_⟩
  have hT1 := hW.tw.same sm1
  have o1 : Off (own t x) H H1 := .of sm1
  obtain ⟨dx1, fs1, ho1, hf1⟩ := hT1.o
  have hfl := hW.ff
  have hgk : s.ff[k]? = some (s.ff.getD k 0) := getD_int (by omega)
  have hw : wIn (0 - 10 ^ 30) (10 ^ 30) (V.int v) = true := by simp [wIn]; omega
  walk_at "go"
  refine ⟨rfl, ?_⟩
  rw [if_neg (by rw [hw]; decide)]
  walk_at "go"
  refine ⟨xTower, dx1, fs1, ho1, T.cl_Tower, T.n_Tower_finds, _, hf1.fi, ?_⟩
  refine ⟨x.fi, s.ff.map V.int, k, V.int (s.ff.getD k 0), rfl, rfl, SqL.of hT1.fi, by rw [List.getElem?_map, hgk]; rfl, ?_⟩
  walk_at "go"
  refine ⟨_, hT1.fi, k, by rw [List.length_map]; exact ixN_at (by omega), ?_⟩
  rw [← List.map_set]
  have hT2 := hT1.find (s.ff.set k (s.ff.getD k 0 + 1))
  have o2 : Off (own t x) H (upd H1 x.fi (.lst ((s.ff.set k (s.ff.getD k 0 + 1)).map V.int))) := o1.trans (Off.put (by simp [own]))
  have hff2 : (s.ff.set k (s.ff.getD k 0 + 1)).length = s.zs.length + 1 := by rw [List.length_set]; exact hfl
  have hfb : s.ff.set k (s.ff.getD k 0 + 1) = bump s.ff (shx s.zs s.R z) ∧ True := ⟨by rw [show shx s.zs s.R z = k by omega]; rfl, trivial⟩
  generalize upd H1 x.fi (.lst ((s.ff.set k (s.ff.getD k 0 + 1)).map V.int)) = H2 at hT2 o2 ⊢
  generalize s.ff.set k (s.ff.getD k 0 + 1) = ff2 at hT2 hff2 hfb
  have hL2 := (hG.g.off hW.tw o2).cast (s' := { s with ff := ff2 }) rfl rfl rfl rfl
  obtain ⟨dx2, fs2, ho2, hf2⟩ := hT2.o
  clear hT1 o1 ho1 hf1 hgk hfl
  have n1 := hG.g.n1
  walk_at "go"
  refine ⟨xTower, dx2, fs2, ho2, T.cl_Tower, T.n_Tower_held, _, hf2.he, x.he, rfl, _, DPut.k (k := Sum.inr z) hT2.he (by show s.kh.length < _; omega), ?_⟩
  have hT3 := hT2.held (putK s.kh (Sum.inr z) (.int v))
  have oP : Off (own t x) H2 (upd H2 x.he (.dK (putK s.kh (Sum.inr z) (.int v)))) := Off.put (by simp [own])
  have o3 := o2.trans oP
  have hL3 := (hL2.kept (z := z) v (by omega)).off hT2 oP
  walk_at "go"
  show _
  generalize upd H2 x.he (.dK (putK s.kh (Sum.inr z) (.int v))) = H3 at hT3 o3 hL3 ⊢
  obtain ⟨dx3, fs3, ho3, hf3⟩ := hT3.o
  refine ⟨dx3, fs3, ho3, hf3.m _ (by simp), x, _, hT3, _, B + 1, _, hL3, by omega, .inr rfl, fun s4 H4 o4 hT4 eR eZ eF eP hL4 => ?_⟩
  obtain ⟨dx4, fs4, ho4, hf4⟩ := hT4.o
  have eR' : s4.R = s.R := eR
  have eZ' : s4.zs = s.zs := eZ
  have eP' : s4.pd = s.pd := eP
  have eF' : s4.ff = ff2 ∧ True := ⟨eF, trivial⟩
  clear eR eZ eF eP
  walk_at "go"
  refine ⟨dx4, fs4, ho4, hf4.m _ (by simp), x, s4, hT4, _, B + 2, by rw [eR']; exact hL4, by omega, by rw [eR']; exact hW.nd, by rw [eR']; omega, by rw [eR', eZ']; exact hrs, by rw [eZ']; exact hs1, fun s5 H5 o5 hT5 eR5 eZ5 eF5 eP5 hL5 => ?_⟩
  rw [eR', eZ'] at hL5
  have eR6 : s5.R = cameR z s := by rw [eR5, eR', eZ']; rfl
  have o6 := (o3.trans o4).trans o5
  walk_at "go"
  exact q s5 H5 o6 ⟨tow_came hW hz o6 hT5 eR6 (by rw [eZ5, eZ']) hL5.toL (by rw [eF5, eF'.1]; exact hff2), hL5⟩ eR6 (by rw [eZ5, eZ']) (by rw [eP5, eP']) (by rw [eF5, eF'.1]; exact hfb.1)
theorem ok_Tower_ahead {f : Addr} {fd : FuncData} (F : Fun K "ahead" "Tower.ahead" s_Tower_ahead f fd) (T : Txt K mg xStock xTower xPrompt) (D_Tower_shelf_of : DefM P w K mg base CX0 4 xTower "shelf_of" ["self", "name"] (sp79_shelf K xTower xStock)) (D_Tower_fetch : DefM P w K mg base CX0 5 xTower "fetch" ["self", "word", "name"] (sp74_fetch K xTower xStock)) (D_Tower_come : DefM P w K mg base CX0 4 xTower "come" ["self", "name"] (sp74_come xTower)) : FnOk P w K mg base CX0 6 f fd ["self", "name"] (sp79_ahead K xTower xStock) := by
  have sc : FnScope ["self", "name"] ["self", "name"] (defScope s_Tower_ahead) := ⟨rfl, rfl, rfl, by decide +kernel, rfl, by decide +kernel, by decide +kernel⟩
  refine F.ok sc (fun vs H Q E h => ?_) (fun cdv A outer s H vs Q E hr h => ?_)
  · obtain ⟨t, x, s, g, z, ts, B, rfl, hG, hz, hB, q⟩ := h; rfl
  obtain ⟨t, x, s, g, z, ts, B, rfl, hG, hz, hB, q⟩ := h
  refine ⟨_, (@pss_cons _ _ _ _ _ (ps_if (pt_cmpR op_lt (pe_methS D_Tower_shelf_of T.cl_Tower hr (passS pass0) (pv 0) (pa_cons (pv 1) pa_nil)) (pe_callB call_len_seq rfl T.z_len PySem.boot_len (pa_cons (pe_fld (pv 0) rfl) pa_nil)) (nomark _))
      (@pss_one _ _ _ (@ps_ret _ _ _ _ pe_bl))
      pss_nil)
    (@pss_cons _ _ _ _ _ (ps_expr (pe_methS D_Tower_fetch T.cl_Tower hr (passS pass0) (pv 0) (pa_cons pe_str (pa_cons (pv 1) pa_nil))))
    (@pss_cons _ _ _ _ _ (ps_expr (pe_methS D_Tower_come T.cl_Tower hr (passS pass0) (pv 0) (pa_cons (pv 1) pa_nil)))
    (@pss_one _ _ _ (@ps_ret _ _ _ _ pe_bl))))), ?_⟩
  rw [show start ["self", "name"] [V.ref t, V.str z] = [some (V.ref t), some (V.str z)] from rfl]
  have line := line_val
  have hW := hG.to
  obtain ⟨dx, fs, ho, hf⟩ := hW.tw.o
  have hrl := hW.rl
  have hrs := hW.rs
  have hs1 := hW.s1
  walk_at "go"
  refine ⟨dx, fs, ho, hf.m _ (by simp), x, s, hW.tw, ts, hW.sk, hW.tn, hz, hW.zl, hW.zz, hW.rs, fun k H1 sm1 hk hkR hk1 hk2 => ?_⟩
  have hG1 := hG.same sm1
  have hT1 := hG1.to.tw
  have o1 : Off (own t x) H H1 := .of sm1
  have hs2 := hW.sk.off o1
  obtain ⟨dx1, fs1, ho1, hf1⟩ := hT1.o
  refine ⟨xTower, dx1, fs1, ho1, T.cl_Tower, T.n_Tower_sizes, _, hf1.si, x.si, rfl, _, .inl (SqL.of hT1.si), ?_⟩
  rw [List.length_map]
  by_cases hk2 : k < s.zs.length
  · rw [if_pos (by omega)]
    have hzR := hkR.mp hk2
    have eG : aheadG s.zs.sum s.R z g = g := by unfold aheadG; rw [if_pos hzR]
    have := q s H1 o1 (by rw [eG]; exact ⟨hG1.to.up (by omega) (by omega), hG1.g.iff (fun _ => Iff.rfl) (by omega) (by omega)⟩) (by rw [if_pos hzR]) rfl (by rw [if_pos hzR, Int.add_zero]) rfl
    rw [decide_eq_false (fun h => h hzR)] at this
    exact this
  · rw [if_neg (by omega)]
    have hzR : ¬ z ∈ s.R := fun h => hk2 (hkR.mpr h)
    have eG : aheadG s.zs.sum s.R z g = comeG s.zs.sum s.R z (fetchG (Str.ofString "ahead") z g) := by unfold aheadG; rw [if_neg hzR]
    walk_at "go"
    refine ⟨dx1, fs1, ho1, hf1.m _ (by simp), x, _, hT1, g, ts, hs2, hW.tn, hz, B, _, hG1.g, by omega, fun s3 H3 o3 hT3 eR eZ eF eP hL3 => ?_⟩
    obtain ⟨dx3, fs3, ho3, hf3⟩ := hT3.o
    walk_at "go"
    refine ⟨dx3, fs3, ho3, hf3.m _ (by simp), x, s3, hT3, _, B + 1, by rw [eR]; exact hL3, by omega, by rw [eR]; exact hW.nd, by rw [eR]; omega, by rw [eR, eZ]; exact hrs, by rw [eZ]; exact hs1, fun s4 H4 o4 hT4 eR4 eZ4 eF4 eP4 hL4 => ?_⟩
    rw [eR, eZ] at hL4
    have eR5 : s4.R = cameR z s := by rw [eR4, eR, eZ]; rfl
    have o5 := (o1.trans o3).trans o4
    walk_at "go"
    have := q s4 H4 o5 (by rw [eG]; exact ⟨tow_came hW hz o5 hT4 eR5 (by rw [eZ4, eZ]) hL4.toL (by rw [eF4, eF]; exact hW.ff), hL4⟩) (by rw [eR5, if_neg hzR]) (by rw [eZ4, eZ]) (by rw [eP4, eP, if_neg hzR]) (by rw [eF4, eF])
    rw [decide_eq_true (show z ∉ s.R from hzR)] at this
    exact this
theorem ok_Tower_rest {f : Addr} {fd : FuncData} (F : Fun K "rest" "Tower.rest" s_Tower_rest f fd) (T : Txt K mg xStock xTower xPrompt) (D_Tower_write : DefM P w K mg base CX0 2 xTower "write" ["self", "name"] (sp74_write xTower)) : FnOk P w K mg base CX0 4 f fd ["self"] (sp79_rest K xTower xStock) := by
  have sc : FnScope ["self", "names", "name"] ["self"] (defScope s_Tower_rest) := ⟨rfl, rfl, rfl, by decide +kernel, rfl, by decide +kernel, by decide +kernel⟩
  refine F.ok sc (fun vs H Q E h => ?_) (fun cdv A outer s H vs Q E hr h => ?_)
  · obtain ⟨t, x, s, g, ts, B, rfl, hG, hB, q⟩ := h; rfl
  obtain ⟨t, x, s, g, ts, B, rfl, hG, hB, q⟩ := h
  refine ⟨_, (@pss_cons _ _ _ _ _ (ps_compI (i := 1) "name" [0] sc.nd rfl rfl rfl rfl (pi_list (pe_fld (pv 0) rfl)) (fun b => (pt_cmp (pc_din (hu_of hr) (pv 0) (pe_fld (pv 1) rfl)))) (fun b => (pv 0)))
    (@pss_cons _ _ _ _ _ (ps_for PassesOwn.never rfl (pi_list (pv 1)) (pg_name (i := 2) sc.nd rfl (Or.inl rfl))
      (@pss_one _ _ _ (ps_expr (pe_methS D_Tower_write T.cl_Tower hr (passS pass0) (pv 0) (pa_cons (pv 2) pa_nil)))))
    (@pss_cons _ _ _ _ _ (ps_fld (pv 0) pe_dnewK rfl)
    (@pss_one _ _ _ (@ps_ret _ _ _ _ (pe_callB call_len_seq rfl T.z_len PySem.boot_len (pa_cons (pv 1) pa_nil))))))), ?_⟩
  rw [show start ["self", "names", "name"] [V.ref t] = [some (V.ref t), none, none] from rfl]
  have line := line_val
  have hW := hG.to
  obtain ⟨dx, fs, ho, hf⟩ := hW.tw.o
  have hrl := hW.rl
  walk_at "go"
  refine ⟨xTower, dx, fs, ho, T.cl_Tower, T.n_Tower_row, _, hf.ro, x.ro, rfl, ⟨_, SqL.of hW.tw.ro⟩, compL_if (xs := s.R.map V.str) (lateV s.kl) (fun v => v) (SqL.of hW.tw.ro) (by rw [List.length_map]; omega) ?_ ?_ ?_⟩
  · intro b v H5 QT hx sm q'
    obtain ⟨y, hy, rfl⟩ := List.mem_map.mp hx
    have q2 := q' H5 (Same.refl _)
    walk_at "go"
    exact ⟨xTower, dx, fs, sm _ _ ho, T.cl_Tower, T.n_Tower_late, _, hf.la, x.la, rfl, _, DGet.k (k := Sum.inr y) (sm _ _ hW.tw.la), q2⟩
  · intro b v H5 Q' hx _ sm q'
    obtain ⟨y, _, rfl⟩ := List.mem_map.mp hx
    walk_at "go"
    exact q' _ (Same.refl _)
  · intro D H1 hD sm1 hD1
    rw [filt_late, show (s.R.filter fun y => (valV s.kl (Sum.inr y)).isSome) = s.R.filter g.l by congr 1; funext y; exact hG.g.l y] at hD1
    have hns : ∀ y ∈ s.R.filter g.l, y ∈ s.R := fun y hy => (List.mem_filter.mp hy).1
    have hnl : (s.R.filter g.l).length ≤ 59 := Nat.le_trans (List.length_filter_le _ _) hrl
    have hrG : restG s.R g = { writesG (s.R.filter g.l) g with l := fun _ => false } := rfl
    generalize s.R.filter g.l = ns at hD1 hns hnl hrG q
    have hT1 := hW.tw.same sm1
    have o1 : Off (own t x) H H1 := .of sm1
    have hDo : ∀ b ∈ own t x, D ≠ b := fun b hb e => by
      have hb' : b = t ∨ b = x.ro ∨ b = x.he ∨ b = x.la ∨ b = x.so ∨ b = x.en ∨ b = x.fi := by simpa [own] using hb
      have hT0 := hW.tw
      rcases hb' with h | h | h | h | h | h | h <;> rw [e, h] at hD
      · rw [ho] at hD; cases hD
      · rw [hT0.ro] at hD; cases hD
      · rw [hT0.he] at hD; cases hD
      · rw [hT0.la] at hD; cases hD
      · rw [hT0.so] at hD; cases hD
      · rw [hT0.en] at hD; cases hD
      · rw [hT0.fi] at hD; cases hD
    walk_at "go"
    refine ⟨⟨_, SqL.of hD1⟩, ?_⟩
    rename_i rest hrest
    refine forL_by (xs := ns.map V.str) (fun i σ H' => ∃ (s' : TwS) (v2 : Option V), σ = [some (V.ref t), some (V.ref D), v2] ∧ Off (own t x) H H' ∧ H' D = some (.lst (ns.map V.str)) ∧ TwAt xTower H' t x s' ∧ s'.R = s.R ∧ s'.zs = s.zs ∧ s'.ff = s.ff ∧ s'.pd = s.pd ∧ TwG H' s' (writesG (ns.take i) g) (B + i) (fun y => y ∈ s.R)) ⟨s, none, rfl, o1, hD1, hT1, rfl, rfl, rfl, rfl, hG.g.same sm1⟩ (fun i σ H' _ h_ => by obtain ⟨s', v2, _, _, hD', _⟩ := h_; exact SqL.of hD') ?_ ?_
    · rintro i v σ H' hv ⟨s', v2, rfl, o', hD', hT', e1, e2, e3, e4, hL'⟩
      have hi : i < ns.length := by
        have := (List.getElem?_eq_some_iff.mp hv).1
        rw [List.length_map] at this; exact this
      rw [List.getElem?_map, getD_str hi] at hv
      cases hv
      have hyR := hns _ (List.mem_of_getElem? (getD_str hi))
      have htk : writesG (ns.take (i + 1)) g = (writesG (ns.take i) g).write (ns.getD i Str.empty) := by
        rw [List.take_succ, getD_str hi]; unfold writesG; rw [List.foldl_append]; rfl
      generalize ns.getD i Str.empty = y at hyR htk ⊢
      obtain ⟨dx', fs', ho', hf'⟩ := hT'.o
      walk_at "go"
      refine ⟨dx', fs', ho', hf'.m _ (by simp), x, s', hT', _, B + i, _, hL', by omega, hyR, fun s2 H2 o2 hT2 f1 f2 f3 f4 _ hL2 => ?_⟩
      walk_at "go"
      exact ⟨o'.trans o2, o2 _ _ hD' (fun h => hDo _ h rfl), s2, hT2, f1.trans e1, f2.trans e2, f3.trans e3, f4.trans e4, by rw [htk]; exact hL2⟩
    · rintro σ H' ⟨s', v2, rfl, o', hD', hT', e1, e2, e3, e4, hL'⟩
      obtain ⟨dx', fs', ho', hf'⟩ := hT'.o
      rw [List.length_map, List.take_length] at hL'
      walk_at "go"
      intro l hl0
      refine ⟨xTower, dx', fs', by rw [upd_ne (ne_of_none ho' hl0)]; exact ho', T.cl_Tower, T.n_Tower_late, by have := hf'.n; omega, ?_⟩
      have hTn := hT'.newLate ho' hf' hl0
      have oN : Off (own t x) H' (upd (upd H' l (.dK [])) t (.ins xTower dx' (putF (Str.ofString "late") (.ref l) fs'))) := (Off.of (Same.new hl0)).trans (Off.put (by simp [own]))
      have hlH : H l = none := by
        cases e : H l with
        | none => rfl
        | some o =>
          by_cases hin : l ∈ own t x
          · have hb' : l = t ∨ l = x.ro ∨ l = x.he ∨ l = x.la ∨ l = x.so ∨ l = x.en ∨ l = x.fi := by simpa [own] using hin
            rcases hb' with h | h | h | h | h | h | h <;> rw [h] at hl0
            · rw [ho'] at hl0; cases hl0
            · rw [hT'.ro] at hl0; cases hl0
            · rw [hT'.he] at hl0; cases hl0
            · rw [hT'.la] at hl0; cases hl0
            · rw [hT'.so] at hl0; cases hl0
            · rw [hT'.en] at hl0; cases hl0
            · rw [hT'.fi] at hl0; cases hl0
          · rw [o' _ _ e hin] at hl0; cases hl0
      have hDN := oN _ _ hD' (fun h => hDo _ h rfl)
      generalize upd (upd H' l (.dK [])) t (.ins xTower dx' (putF (Str.ofString "late") (.ref l) fs')) = HN at hTn oN hDN ⊢
      have oA := o'.trans oN
      have hown : ∀ b ∈ own t { x with la := l }, b ∈ own t x ++ [l] := fun b hb => by
        have hb' : b = t ∨ b = x.ro ∨ b = x.he ∨ b = l ∨ b = x.so ∨ b = x.en ∨ b = x.fi := by simpa [own] using hb
        simp only [own, List.mem_append, List.mem_cons, List.not_mem_nil, or_false]
        rcases hb' with h | h | h | h | h | h | h <;> simp [h]
      have hsN : StockT K xStock HN x.st ts (own t { x with la := l }) := ((hW.sk.mono (L' := own t x ++ [l]) (fun b hb => by rcases List.mem_append.mp hb with h | h; (· exact .inl h); (· rw [List.mem_singleton.mp h]; exact .inr hlH))).off (oA.mono fun b hb => List.mem_append_left _ hb)).mono fun b hb => .inl (hown b hb)
      walk_at "go"
      refine ⟨_, .inl (SqL.of hDN), ?_⟩
      have hGn := (hL'.noLate).off hT' oN
      rw [← hrG] at hGn
      rw [List.length_map]
      refine q { x with la := l } { s' with kl := [] } HN oA (fun b hb => ?_) ⟨⟨hTn, hsN, ?_, by show s'.R.Nodup; rw [e1]; exact hW.nd, by show (s'.R.length : Int) ≤ s'.zs.sum; rw [e1, e2]; exact hW.rs, by show 1 ≤ s'.zs.length; rw [e2]; exact hW.z1, by show s'.zs.length ≤ 6; rw [e2]; exact hW.zl, by show ∀ z ∈ s'.zs, _; rw [e2]; exact hW.zz, by show ∀ y ∈ s'.R, _; rw [e1]; exact hW.rn, hW.tn, hW.tl, by show s'.ff.length = s'.zs.length + 1; rw [e2, e3]; exact hW.ff⟩, ?_⟩ e1 e2 e4 e3 rfl rfl
      · rcases List.mem_append.mp (hown b hb) with h | h
        · exact .inl h
        · rw [List.mem_singleton.mp h]; exact .inr hlH
      · show TwL _ _ (fun y => y ∈ s'.R)
        exact (hGn.iff (q := fun y => y ∈ s'.R) (B' := B + 100) (fun u => by rw [e1]) (by omega) (by omega)).toL
      · show TwG _ _ _ _ (fun y => y ∈ s'.R)
        exact hGn.iff (q := fun y => y ∈ s'.R) (B' := B + 100) (fun u => by rw [e1]) (by omega) (by omega)
theorem ok_Tower_diary {f : Addr} {fd : FuncData} (F : Fun K "diary" "Tower.diary" s_Tower_diary f fd) (T : Txt K mg xStock xTower xPrompt)  : FnOk P w K mg base CX0 1 f fd ["self"] (sp74_diary xTower) := by
  have sc : FnScope ["self"] ["self"] (defScope s_Tower_diary) := ⟨rfl, rfl, rfl, by decide +kernel, rfl, by decide +kernel, by decide +kernel⟩
  refine F.ok sc (fun vs H Q E h => ?_) (fun cdv A outer s H vs Q E hr h => ?_)
  · obtain ⟨t, x, s, rfl, hT, hn, q⟩ := h; rfl
  obtain ⟨t, x, s, rfl, hT, hn, q⟩ := h
  refine ⟨_, (@pss_one _ _ _ (@ps_ret _ _ _ _ (pe_callTy call_list_of rfl T.z_list (by first | rfl | decide +kernel) (pa_cons (pe_fld (pv 0) rfl) pa_nil)))), ?_⟩
  rw [show start ["self"] [V.ref t] = [some (V.ref t)] from rfl]
  have line := line_val
  obtain ⟨dx, fs, ho, hf⟩ := hT.o
  walk_at "go"
  exact ⟨xTower, dx, fs, ho, T.cl_Tower, T.n_Tower_entries, _, hf.en, x.en, rfl, _, .inl (SqL.of hT.en), fun l hl => q l _ hl (Same.new hl) upd_same⟩
theorem ok_Tower_found {f : Addr} {fd : FuncData} (F : Fun K "found" "Tower.found" s_Tower_found f fd) (T : Txt K mg xStock xTower xPrompt)  : FnOk P w K mg base CX0 1 f fd ["self"] (sp79_found xTower) := by
  have sc : FnScope ["self"] ["self"] (defScope s_Tower_found) := ⟨rfl, rfl, rfl, by decide +kernel, rfl, by decide +kernel, by decide +kernel⟩
  refine F.ok sc (fun vs H Q E h => ?_) (fun cdv A outer s H vs Q E hr h => ?_)
  · obtain ⟨t, x, s, rfl, hT, q⟩ := h; rfl
  obtain ⟨t, x, s, rfl, hT, q⟩ := h
  refine ⟨_, (@pss_one _ _ _ (@ps_ret _ _ _ _ (pe_callTy call_list_of rfl T.z_list (by first | rfl | decide +kernel) (pa_cons (pe_fld (pv 0) rfl) pa_nil)))), ?_⟩
  rw [show start ["self"] [V.ref t] = [some (V.ref t)] from rfl]
  have line := line_val
  obtain ⟨dx, fs, ho, hf⟩ := hT.o
  walk_at "go"
  exact ⟨xTower, dx, fs, ho, T.cl_Tower, T.n_Tower_finds, _, hf.fi, x.fi, rfl, _, .inl (SqL.of hT.fi), fun l hl => q l _ hl (Same.new hl) upd_same⟩
theorem ok_Tower_spent {f : Addr} {fd : FuncData} (F : Fun K "spent" "Tower.spent" s_Tower_spent f fd) (T : Txt K mg xStock xTower xPrompt)  : FnOk P w K mg base CX0 1 f fd ["self"] (sp75_spent xTower) := by
  have sc : FnScope ["self"] ["self"] (defScope s_Tower_spent) := ⟨rfl, rfl, rfl, by decide +kernel, rfl, by decide +kernel, by decide +kernel⟩
  refine F.ok sc (fun vs H Q E h => ?_) (fun cdv A outer s H vs Q E hr h => ?_)
  · obtain ⟨t, x, s, rfl, hT, q⟩ := h; rfl
  obtain ⟨t, x, s, rfl, hT, q⟩ := h
  refine ⟨_, (@pss_one _ _ _ (@ps_ret _ _ _ _ (pe_fld (pv 0) rfl))), ?_⟩
  rw [show start ["self"] [V.ref t] = [some (V.ref t)] from rfl]
  obtain ⟨dx, fs, ho, hf⟩ := hT.o
  walk_at "go"
  exact ⟨xTower, dx, fs, ho, T.cl_Tower, T.n_Tower_paid, _, hf.pd, q⟩
theorem ok_Tower_init {f : Addr} {fd : FuncData} (F : Fun K "__init__" "Tower.__init__" s_Tower_init f fd) (T : Txt K mg xStock xTower xPrompt) (D_check_sizes : Def P w K mg base CX0 4 "check_sizes" ["sizes"] (sp71_sizes K)) (D_check_rooms : Def P w K mg base CX0 4 "check_rooms" ["stock", "asks"] (sp71_rooms K xStock)) (D_Stock_names : DefM P w K mg base CX0 1 xStock "names" ["self"] (sp_nms K xStock)) : FnOk P w K mg base CX0 5 f fd ["self", "stock", "sizes"] (sp79_init K xTower xStock) := by
  have sc : FnScope ["self", "stock", "sizes"] ["self", "stock", "sizes"] (defScope s_Tower_init) := ⟨rfl, rfl, rfl, by decide +kernel, rfl, by decide +kernel, by decide +kernel⟩
  refine F.ok sc (fun vs H Q E h => ?_) (fun cdv A outer s H vs Q E hr h => ?_)
  · obtain ⟨t, dx, p, a, ts, zs, rfl, ht, hs, nd, hr1, htl, hS, hz1, hz6, hzz, q⟩ := h; rfl
  obtain ⟨t, dx, p, a, ts, zs, rfl, ht, hs, nd, hr1, htl, hS, hz1, hz6, hzz, q⟩ := h
  refine ⟨_, (@pss_cons _ _ _ _ _ (ps_expr (pe_callD D_check_sizes hr rfl pass0 (pa_cons (pv 2) pa_nil)))
    (@pss_cons _ _ _ _ _ (ps_expr (pe_callD D_check_rooms hr rfl pass0 (pa_cons (pv 1) (pa_cons (pe_methS0 D_Stock_names T.cl_Stock hr (passS pass0) (pv 1)) pa_nil))))
    (@pss_cons _ _ _ _ _ (ps_fld (pv 0) (pv 1) rfl)
    (@pss_cons _ _ _ _ _ (ps_fld (pv 0) (pe_callTy call_list_of rfl T.z_list (by first | rfl | decide +kernel) (pa_cons (pv 2) pa_nil)) rfl)
    (@pss_cons _ _ _ _ _ (ps_fld (pv 0) (@pe_lst _ _ _ _ pa_nil) rfl)
    (@pss_cons _ _ _ _ _ (ps_fld (pv 0) pe_dnewK rfl)
    (@pss_cons _ _ _ _ _ (ps_fld (pv 0) pe_dnewK rfl)
    (@pss_cons _ _ _ _ _ (ps_fld (pv 0) pe_dnewK rfl)
    (@pss_cons _ _ _ _ _ (ps_fld (pv 0) (@pe_lst _ _ _ _ pa_nil) rfl)
    (@pss_cons _ _ _ _ _ (ps_fld (pv 0) (pe_op op_rep (@pe_lst _ _ _ _ (pa_cons pe_int pa_nil)) (pe_op op_add (pe_callB call_len_seq rfl T.z_len PySem.boot_len (pa_cons (pv 2) pa_nil)) pe_int)) rfl)
    (@pss_one _ _ _ (ps_fld (pv 0) pe_int rfl)))))))))))), ?_⟩
  rw [show start ["self", "stock", "sizes"] [V.ref t, V.ref p, V.ref a] = [some (V.ref t), some (V.ref p), some (V.ref a)] from rfl]
  have line := line_val
  obtain ⟨dy, e, kvs, h1, h2, h3, h4, h5⟩ := StockAt.has hs
  walk_at "go"
  refine ⟨zs, hS, hz1, hz6, hzz, ?_⟩
  walk_at "go"
  refine ⟨dy, flds e, h1, by rfl, ts, hs, fun l hl => ?_⟩
  have sm1 : Same H (upd H l (.lst ((ts.map (·.1)).map V.str))) := Same.new hl
  refine ⟨ts, hs.same sm1, nd, ts.map (·.1), SqL.of upd_same, fun y hy => hy, hr1, by rw [List.length_map]; omega, ?_⟩
  have ht1 := sm1 _ _ ht
  have hs1 := StockT.of (hs.same sm1)
  have hS1 := sm1.seq hS
  have nw : ∀ b, upd H l (.lst ((ts.map (·.1)).map V.str)) b = none → H b = none := fun b hb => by
    cases q : H b with
    | none => rfl
    | some o => rw [sm1 _ _ q] at hb; cases hb
  generalize upd H l (.lst ((ts.map (·.1)).map V.str)) = H1 at sm1 ht1 hs1 hS1 nw ⊢
  walk_at "go"
  refine ⟨xTower, dx, [], ht1, T.cl_Tower, T.n_Tower_stock, by decide, ?_⟩
  have sbA : SameBut t H1 (upd H1 t (.ins xTower dx (putF (Str.ofString "stock") (V.ref p) []))) := sameBut_upd
  have htA : upd H1 t (.ins xTower dx (putF (Str.ofString "stock") (V.ref p) [])) t = some (.ins xTower dx (putF (Str.ofString "stock") (V.ref p) [])) := upd_same
  have hSA := SqL.but sbA ht1 hS1
  walk_at "go"
  show _
  generalize upd H1 t (.ins xTower dx (putF (Str.ofString "stock") (V.ref p) [])) = HA at sbA htA hSA ⊢
  intro si hsi
  refine ⟨xTower, dx, _, by rw [upd_ne (ne_of_none htA hsi)]; exact htA, T.cl_Tower, T.n_Tower_sizes, Nat.lt_of_le_of_lt (putF_le (Nat.le_refl _)) (by decide), ?_⟩
  obtain ⟨sb1, ht2, hsi1, k1, nsi, tsi, d1⟩ := step_new (o := .lst (zs.map V.int)) (f := Str.ofString "sizes") sbA htA hsi
  walk_at "go"
  show _
  generalize upd (upd HA si (.lst (zs.map V.int))) t (.ins xTower dx (putF (Str.ofString "sizes") (V.ref si) (putF (Str.ofString "stock") (V.ref p) []))) = HB0 at sb1 ht2 k1 hsi1 ⊢
  intro ro hron
  refine ⟨xTower, dx, _, by rw [upd_ne (ne_of_none ht2 hron)]; exact ht2, T.cl_Tower, T.n_Tower_row, Nat.lt_of_le_of_lt (putF_le (putF_le (Nat.le_refl _))) (by decide), ?_⟩
  obtain ⟨sb2, ht3, hro2, k2, nro, tro, d2⟩ := step_new (o := .lst []) (f := Str.ofString "row") sb1 ht2 hron
  have hsi2 := k2 _ _ hsi1 tsi
  have ne_ro_si : ro ≠ si := (d2 _ _ hsi1).symm
  walk_at "go"
  show _
  generalize upd (upd HB0 ro (.lst [])) t (.ins xTower dx (putF (Str.ofString "row") (V.ref ro) (putF (Str.ofString "sizes") (V.ref si) (putF (Str.ofString "stock") (V.ref p) [])))) = HB1 at sb2 ht3 k2 hsi2 hro2 ⊢
  intro he hhen
  refine ⟨xTower, dx, _, by rw [upd_ne (ne_of_none ht3 hhen)]; exact ht3, T.cl_Tower, T.n_Tower_held, Nat.lt_of_le_of_lt (putF_le (putF_le (putF_le (Nat.le_refl _)))) (by decide), ?_⟩
  obtain ⟨sb3, ht4, hhe3, k3, nhe, the, d3⟩ := step_new (o := .dK []) (f := Str.ofString "held") sb2 ht3 hhen
  have hsi3 := k3 _ _ hsi2 tsi
  have ne_he_si : he ≠ si := (d3 _ _ hsi2).symm
  have hro3 := k3 _ _ hro2 tro
  have ne_he_ro : he ≠ ro := (d3 _ _ hro2).symm
  walk_at "go"
  show _
  generalize upd (upd HB1 he (.dK [])) t (.ins xTower dx (putF (Str.ofString "held") (V.ref he) (putF (Str.ofString "row") (V.ref ro) (putF (Str.ofString "sizes") (V.ref si) (putF (Str.ofString "stock") (V.ref p) []))))) = HB2 at sb3 ht4 k3 hsi3 hro3 hhe3 ⊢
  intro la hlan
  refine ⟨xTower, dx, _, by rw [upd_ne (ne_of_none ht4 hlan)]; exact ht4, T.cl_Tower, T.n_Tower_late, Nat.lt_of_le_of_lt (putF_le (putF_le (putF_le (putF_le (Nat.le_refl _))))) (by decide), ?_⟩
  obtain ⟨sb4, ht5, hla4, k4, nla, tla, d4⟩ := step_new (o := .dK []) (f := Str.ofString "late") sb3 ht4 hlan
  have hsi4 := k4 _ _ hsi3 tsi
  have ne_la_si : la ≠ si := (d4 _ _ hsi3).symm
  have hro4 := k4 _ _ hro3 tro
  have ne_la_ro : la ≠ ro := (d4 _ _ hro3).symm
  have hhe4 := k4 _ _ hhe3 the
  have ne_la_he : la ≠ he := (d4 _ _ hhe3).symm
  walk_at "go"
  show _
  generalize upd (upd HB2 la (.dK [])) t (.ins xTower dx (putF (Str.ofString "late") (V.ref la) (putF (Str.ofString "held") (V.ref he) (putF (Str.ofString "row") (V.ref ro) (putF (Str.ofString "sizes") (V.ref si) (putF (Str.ofString "stock") (V.ref p) [])))))) = HB3 at sb4 ht5 k4 hsi4 hro4 hhe4 hla4 ⊢
  intro so hson
  refine ⟨xTower, dx, _, by rw [upd_ne (ne_of_none ht5 hson)]; exact ht5, T.cl_Tower, T.n_Tower_store, Nat.lt_of_le_of_lt (putF_le (putF_le (putF_le (putF_le (putF_le (Nat.le_refl _)))))) (by decide), ?_⟩
  obtain ⟨sb5, ht6, hso5, k5, nso, tso, d5⟩ := step_new (o := .dK []) (f := Str.ofString "store") sb4 ht5 hson
  have hsi5 := k5 _ _ hsi4 tsi
  have ne_so_si : so ≠ si := (d5 _ _ hsi4).symm
  have hro5 := k5 _ _ hro4 tro
  have ne_so_ro : so ≠ ro := (d5 _ _ hro4).symm
  have hhe5 := k5 _ _ hhe4 the
  have ne_so_he : so ≠ he := (d5 _ _ hhe4).symm
  have hla5 := k5 _ _ hla4 tla
  have ne_so_la : so ≠ la := (d5 _ _ hla4).symm
  walk_at "go"
  show _
  generalize upd (upd HB3 so (.dK [])) t (.ins xTower dx (putF (Str.ofString "store") (V.ref so) (putF (Str.ofString "late") (V.ref la) (putF (Str.ofString "held") (V.ref he) (putF (Str.ofString "row") (V.ref ro) (putF (Str.ofString "sizes") (V.ref si) (putF (Str.ofString "stock") (V.ref p) []))))))) = HB4 at sb5 ht6 k5 hsi5 hro5 hhe5 hla5 hso5 ⊢
  intro en henn
  refine ⟨xTower, dx, _, by rw [upd_ne (ne_of_none ht6 henn)]; exact ht6, T.cl_Tower, T.n_Tower_entries, Nat.lt_of_le_of_lt (putF_le (putF_le (putF_le (putF_le (putF_le (putF_le (Nat.le_refl _))))))) (by decide), ?_⟩
  obtain ⟨sb6, ht7, hen6, k6, nen, ten, d6⟩ := step_new (o := .lst []) (f := Str.ofString "entries") sb5 ht6 henn
  have hsi6 := k6 _ _ hsi5 tsi
  have ne_en_si : en ≠ si := (d6 _ _ hsi5).symm
  have hro6 := k6 _ _ hro5 tro
  have ne_en_ro : en ≠ ro := (d6 _ _ hro5).symm
  have hhe6 := k6 _ _ hhe5 the
  have ne_en_he : en ≠ he := (d6 _ _ hhe5).symm
  have hla6 := k6 _ _ hla5 tla
  have ne_en_la : en ≠ la := (d6 _ _ hla5).symm
  have hso6 := k6 _ _ hso5 tso
  have ne_en_so : en ≠ so := (d6 _ _ hso5).symm
  walk_at "go"
  show _
  generalize upd (upd HB4 en (.lst [])) t (.ins xTower dx (putF (Str.ofString "entries") (V.ref en) (putF (Str.ofString "store") (V.ref so) (putF (Str.ofString "late") (V.ref la) (putF (Str.ofString "held") (V.ref he) (putF (Str.ofString "row") (V.ref ro) (putF (Str.ofString "sizes") (V.ref si) (putF (Str.ofString "stock") (V.ref p) [])))))))) = HB5 at sb6 ht7 k6 hsi6 hro6 hhe6 hla6 hso6 hen6 ⊢
  intro l0 hl0
  have hS5 := SqL.but sb6 ht1 hS1
  have smz : Same HB5 (upd HB5 l0 (.lst [V.int 0])) := Same.new hl0
  have sbz : SameBut t H1 (upd HB5 l0 (.lst [V.int 0])) := sb6.trans (.of smz)
  have hlz : upd HB5 l0 (.lst [V.int 0]) l0 = some (.lst [V.int 0]) := upd_same
  have htz := smz _ _ ht7
  have hsiz := smz _ _ hsi6
  have hroz := smz _ _ hro6
  have hhez := smz _ _ hhe6
  have hlaz := smz _ _ hla6
  have hsoz := smz _ _ hso6
  have henz := smz _ _ hen6
  have hSz := smz.seq hS5
  generalize upd HB5 l0 (.lst [V.int 0]) = HZ at sbz hlz htz hsiz hroz hhez hlaz hsoz henz hSz ⊢
  refine ⟨_, .inl hSz, ?_⟩
  rw [List.length_map]
  refine ⟨l0, _, _, rfl, rfl, hlz, by omega, by omega, by simp; omega, fun fi hfi => ?_⟩
  rw [rep0]
  refine ⟨xTower, dx, _, by rw [upd_ne (ne_of_none htz hfi)]; exact htz, T.cl_Tower, T.n_Tower_finds, Nat.lt_of_le_of_lt (putF_le (putF_le (putF_le (putF_le (putF_le (putF_le (putF_le (Nat.le_refl _)))))))) (by decide), ?_⟩
  obtain ⟨sb7, ht8, hfi7, k7, nfi, tfi, d7⟩ := step_new (o := .lst ((List.replicate (zs.length + 1) (0 : Int)).map V.int)) (f := Str.ofString "finds") sbz htz hfi
  have hsi7 := k7 _ _ hsiz tsi
  have hro7 := k7 _ _ hroz tro
  have hhe7 := k7 _ _ hhez the
  have hla7 := k7 _ _ hlaz tla
  have hso7 := k7 _ _ hsoz tso
  have hen7 := k7 _ _ henz ten
  have ne_fi_si := (d7 _ _ hsiz).symm
  have ne_fi_ro := (d7 _ _ hroz).symm
  have ne_fi_en := (d7 _ _ henz).symm
  walk_at "go"
  refine ⟨xTower, dx, _, ht8, T.cl_Tower, T.n_Tower_paid, Nat.lt_of_le_of_lt (putF_le (putF_le (putF_le (putF_le (putF_le (putF_le (putF_le (putF_le (Nat.le_refl _))))))))) (by decide), ?_⟩
  have kz : ∀ b u, HZ b = some u → upd HZ fi (.lst ((List.replicate (zs.length + 1) (0 : Int)).map V.int)) b = some u := fun b u e => by rw [upd_ne (ne_of_none e hfi)]; exact e
  refine q ⟨p, si, ro, he, la, so, en, fi⟩ ⟨zs, [], [], [], [], [], List.replicate (zs.length + 1) 0, 0⟩ _ (fun b o e nb => ?_) ⟨?_, ?_⟩ rfl rfl rfl rfl rfl (fun b hb => ?_)
  · rw [upd_ne nb]; exact kz _ _ (sbz _ _ (sm1 _ _ e) nb)
  · have hfin : ∀ u : HO, SameBut t H1 (upd (upd HZ fi (.lst ((List.replicate (zs.length + 1) (0 : Int)).map V.int))) t u) := fun u b o e nb => by rw [upd_ne nb]; exact kz _ _ (sbz _ _ e nb)
    refine ⟨⟨⟨dx, f6 ⟨p, si, ro, he, la, so, en, fi⟩, upd_same, tfs_init _⟩, by rw [upd_ne tsi]; exact kz _ _ hsiz, by rw [upd_ne tro]; exact kz _ _ hroz, by rw [upd_ne the]; exact kz _ _ hhez, by rw [upd_ne tla]; exact kz _ _ hlaz, by rw [upd_ne tso]; exact kz _ _ hsoz, by rw [upd_ne ten]; exact kz _ _ henz, by rw [upd_ne tfi]; exact upd_same, ne_la_he.symm, ne_so_he.symm, ne_so_la.symm, ne_ro_si, ne_en_ro.symm, ne_fi_ro.symm, ne_en_si.symm, ne_fi_si.symm, ne_fi_en.symm⟩, ?_, ⟨(fun y hy => by cases hy), (fun y hy => by cases hy), (fun y v hv => by cases hv), Nat.zero_le _, Nat.zero_le _, Nat.zero_le _, Nat.zero_le _, by decide⟩, List.nodup_nil, ?_, hz1, hz6, hzz, (fun y hy => by cases hy), nd, htl, by simp⟩
    · refine ((hs1.ins ht1).mono fun b hb => ?_).off fun b o e n => hfin _ b o e fun z => n (by rw [z]; simp [own])
      have hb' : b = t ∨ b = ro ∨ b = he ∨ b = la ∨ b = so ∨ b = en ∨ b = fi := by simpa [own] using hb
      rcases hb' with h | h | h | h | h | h | h <;> rw [h]
      · exact .inl List.mem_cons_self
      · exact .inr nro
      · exact .inr nhe
      · exact .inr nla
      · exact .inr nso
      · exact .inr nen
      · exact .inr nfi
    · have h4 := pre_nn (zs := zs) (fun z hz => (hzz z hz).1) zs.length
      unfold pre at h4
      rw [List.take_length] at h4
      exact h4
  · exact ⟨(fun y hy => by cases hy), (fun y => rfl), (fun y hy => by cases hy), (fun y => rfl), ⟨[], rfl, rfl, fun i u e h => by simp at h⟩, Nat.zero_le _, Nat.zero_le _, Nat.zero_le _, Nat.zero_le _, by decide, (fun e he => by cases he)⟩
  · have hb' : b = si ∨ b = t ∨ b = ro ∨ b = he ∨ b = la ∨ b = so ∨ b = en ∨ b = fi := by simpa [own] using hb
    rcases hb' with h | h | h | h | h | h | h | h <;> rw [h]
    · exact .inr (nw _ nsi)
    · exact .inl rfl
    · exact .inr (nw _ nro)
    · exact .inr (nw _ nhe)
    · exact .inr (nw _ nla)
    · exact .inr (nw _ nso)
    · exact .inr (nw _ nen)
    · exact .inr (nw _ nfi)
theorem ok_Prompt_write {f : Addr} {fd : FuncData} (F : Fun K "write" "Tower.write" s_Prompt_write f fd) (T : Txt K mg xStock xTower xPrompt)  : FnOk P w K mg base CX0 2 f fd ["self", "name"] (sp74_write xPrompt) := by
  have sc : FnScope ["self", "name"] ["self", "name"] (defScope s_Prompt_write) := ⟨rfl, rfl, rfl, by decide +kernel, rfl, by decide +kernel, by decide +kernel⟩
  refine F.ok sc (fun vs H Q E h => ?_) (fun cdv A outer s H vs Q E hr h => ?_)
  · obtain ⟨t, x, s, g, z, B, hd, rfl, hT, hL, hB, hz, q⟩ := h; rfl
  obtain ⟨t, x, s, g, z, B, hd, rfl, hT, hL, hB, hz, q⟩ := h
  refine ⟨_, (@pss_cons _ _ _ _ _ (ps_dput (hu_of hr) (pe_fld (pv 0) rfl) (pv 1) (pe_dget (hu_of hr) (pe_fld (pv 0) rfl) (pv 1) (fun _ _ => rfl)) rfl)
    (@pss_one _ _ _ (ps_expr (pe_bm PySem.F.plainAttrs_list PySem.F.slot_list_append PySem.F.type_list_append mt_append (pe_fld (pv 0) rfl) (pa_cons (pe_tup (pa_cons pe_str (pa_cons (pv 1) (pa_cons (pe_dget (hu_of hr) (pe_fld (pv 0) rfl) (pv 1) (fun _ _ => rfl)) pa_nil)))) pa_nil))))), ?_⟩
  rw [show start ["self", "name"] [V.ref t, V.str z] = [some (V.ref t), some (V.str z)] from rfl]
  have line := line_val
  obtain ⟨dx, fs, ho, hf⟩ := hT.o
  have hi := hL.h z hz
  have n3 := hL.n3
  have n4 := hL.n4
  walk_at "go"
  refine ⟨xPrompt, dx, fs, ho, T.cl_Prompt, T.n_Prompt_held, _, hf.he, x.he, rfl, .int (g.h z), by rw [← hi]; exact DGet.k (k := Sum.inr z) hT.he, xPrompt, dx, fs, ho, T.cl_Prompt, T.n_Prompt_store, _, hf.so, x.so, rfl, _, DPut.k (k := Sum.inr z) hT.so (by omega), ?_⟩
  have hT1 := hT.store (putK s.ks (Sum.inr z) (.int (g.h z)))
  have o1 : Off (own t x) H (upd H x.so (.dK (putK s.ks (Sum.inr z) (.int (g.h z))))) := Off.put (by simp [own])
  generalize upd H x.so (.dK (putK s.ks (Sum.inr z) (.int (g.h z)))) = H1 at hT1 o1 ⊢
  obtain ⟨dx1, fs1, ho1, hf1⟩ := hT1.o
  walk_at "go"
  refine ⟨xPrompt, dx1, fs1, ho1, T.cl_Prompt, T.n_Prompt_entries, _, hf1.en, .inl ⟨rfl, _, SqL.of hT1.en⟩, xPrompt, dx1, fs1, ho1, T.cl_Prompt, T.n_Prompt_held, _, hf1.he, x.he, rfl, .int (g.h z), by rw [← hi]; exact DGet.k (k := Sum.inr z) hT1.he, by omega, fun u hu => ?_⟩
  have sm2 : Same H1 (upd H1 u (.tup (wrT z (g.h z)))) := Same.new hu
  have hT2 := hT1.same sm2
  have hu2 : upd H1 u (.tup (wrT z (g.h z))) u = some (.tup (wrT z (g.h z))) := upd_same
  have nue : u ≠ x.en := (ne_of_none hT1.en hu).symm
  have o2 : Off (own t x) H (upd H1 u (.tup (wrT z (g.h z)))) := o1.trans (.of sm2)
  show rAppend _ _ (upd H1 u (.tup (wrT z (g.h z)))) _
  generalize upd H1 u (.tup (wrT z (g.h z))) = H2 at hT2 o2 hu2 ⊢
  refine ⟨x.en, _, _, rfl, rfl, hT2.en, by show s.es.length < _; omega, ?_⟩
  walk_at "go"
  have oF := o2.trans (Off.put (H := H2) (b := x.en) (o := .lst (s.es ++ [.ref u])) (by simp [own]))
  exact q { s with ks := putK s.ks (Sum.inr z) (.int (g.h z)), es := s.es ++ [.ref u] } _ oF (hT2.entry (s.es ++ [.ref u])) rfl rfl rfl rfl rfl (hL.wrote hz (keepT hT oF) (by rw [upd_ne nue]; exact hu2) (by omega))
theorem ok_Prompt_settle {f : Addr} {fd : FuncData} (F : Fun K "settle" "Prompt.settle" s_Prompt_settle f fd) (T : Txt K mg xStock xTower xPrompt) (D_Prompt_write : DefM P w K mg base CX0 2 xPrompt "write" ["self", "name"] (sp74_write xPrompt)) : FnOk P w K mg base CX0 3 f fd ["self", "name"] (sp74_settle xPrompt true) := by
  have sc : FnScope ["self", "name"] ["self", "name"] (defScope s_Prompt_settle) := ⟨rfl, rfl, rfl, by decide +kernel, rfl, by decide +kernel, by decide +kernel⟩
  refine F.ok sc (fun vs H Q E h => ?_) (fun cdv A outer s H vs Q E hr h => ?_)
  · obtain ⟨t, x, s, g, z, B, hd, rfl, hT, hL, hB, hz, q⟩ := h; rfl
  obtain ⟨t, x, s, g, z, B, hd, rfl, hT, hL, hB, hz, q⟩ := h
  refine ⟨_, (@pss_one _ _ _ (ps_expr (pe_methS D_Prompt_write T.cl_Prompt hr (passS pass0) (pv 0) (pa_cons (pv 1) pa_nil)))), ?_⟩
  rw [show start ["self", "name"] [V.ref t, V.str z] = [some (V.ref t), some (V.str z)] from rfl]
  have line := line_val
  obtain ⟨dx, fs, ho, hf⟩ := hT.o
  walk_at "go"
  exact ⟨dx, fs, ho, hf.m _ (by simp), x, s, hT, g, B, hd, hL, hB, hz, fun s' H' o hT' e1 e2 e3 e4 _ hL' => q s' H' o hT' e1 e2 e3 e4 hL'⟩
theorem ok_Prompt_fall_off {f : Addr} {fd : FuncData} (F : Fun K "fall_off" "Tower.fall_off" s_Prompt_fall_off f fd) (T : Txt K mg xStock xTower xPrompt) (D_Prompt_write : DefM P w K mg base CX0 2 xPrompt "write" ["self", "name"] (sp74_write xPrompt)) : FnOk P w K mg base CX0 3 f fd ["self", "name"] (sp74_fall xPrompt) := by
  have sc : FnScope ["self", "name"] ["self", "name"] (defScope s_Prompt_fall_off) := ⟨rfl, rfl, rfl, by decide +kernel, rfl, by decide +kernel, by decide +kernel⟩
  refine F.ok sc (fun vs H Q E h => ?_) (fun cdv A outer s H vs Q E hr h => ?_)
  · obtain ⟨t, x, s, g, z, B, hd, rfl, hT, hL, hB, hz, q⟩ := h; rfl
  obtain ⟨t, x, s, g, z, B, hd, rfl, hT, hL, hB, hz, q⟩ := h
  refine ⟨_, (@pss_cons _ _ _ _ _ (ps_if (pt_cmp (pc_din (hu_of hr) (pv 1) (pe_fld (pv 0) rfl)))
      (@pss_cons _ _ _ _ _ (ps_expr (pe_dpop1 (pe_fld (pv 0) rfl) (pv 1) ⟨rfl, rfl, rfl, rfl⟩))
      (@pss_one _ _ _ (ps_expr (pe_methS D_Prompt_write T.cl_Prompt hr (passS pass0) (pv 0) (pa_cons (pv 1) pa_nil)))))
      pss_nil)
    (@pss_one _ _ _ (ps_expr (pe_dpop1 (pe_fld (pv 0) rfl) (pv 1) ⟨rfl, rfl, rfl, rfl⟩)))), ?_⟩
  rw [show start ["self", "name"] [V.ref t, V.str z] = [some (V.ref t), some (V.str z)] from rfl]
  have line := line_val
  obtain ⟨dx, fs, ho, hf⟩ := hT.o
  walk_at "go"
  refine ⟨xPrompt, dx, fs, ho, T.cl_Prompt, T.n_Prompt_late, _, hf.la, x.la, rfl, _, DGet.k (k := Sum.inr z) hT.la, ?_⟩
  rename_i rest hrest
  have key : ∀ (s1 : TwS) (H1 : Hp), Off (own t x) H H1 → TwAt xPrompt H1 t x s1 → s1.R = s.R → s1.zs = s.zs → s1.ff = s.ff → s1.pd = s.pd → TwG H1 s1 (fallG z g) (B + 1) hd → (fallG z g).l z = false → rest [some (V.ref t), some (V.str z)] H1 := by
    intro s1 H1 o1 hT1 e1 e2 e3 e4 hL1 hz1
    obtain ⟨dx1, fs1, ho1, hf1⟩ := hT1.o
    have hi1 := hL1.h z hz
    subst hrest
    walk_at "go"
    refine ⟨xPrompt, dx1, fs1, ho1, T.cl_Prompt, T.n_Prompt_held, _, hf1.he, x.he, rfl, .inl ⟨_, .inl hT1.he⟩, _, hT1.he, Sum.inr z, rfl, _, hi1, ?_⟩
    have oP : Off (own t x) H1 (upd H1 x.he (.dK (dropK s1.kh (Sum.inr z)))) := Off.put (by simp [own])
    exact q _ _ (o1.trans oP) (hT1.held (dropK s1.kh (Sum.inr z))) e1 e2 e3 e4 ((hL1.popped hz1).off hT1 oP)
  clear hrest
  rw [hL.l z]
  by_cases hin : g.l z = true
  · rw [if_pos hin]
    have hsome : (valV s.kl (Sum.inr z)).isSome = true := by rw [hL.l z]; exact hin
    obtain ⟨vl, hvl⟩ := Option.isSome_iff_exists.mp hsome
    walk_at "go"
    refine ⟨xPrompt, dx, fs, ho, T.cl_Prompt, T.n_Prompt_late, _, hf.la, x.la, rfl, .inl ⟨_, .inl hT.la⟩, _, hT.la, Sum.inr z, rfl, _, hvl, ?_⟩
    have hT1 := hT.late (dropK s.kl (Sum.inr z))
    have o1 : Off (own t x) H (upd H x.la (.dK (dropK s.kl (Sum.inr z)))) := Off.put (by simp [own])
    have hL1 := (hL.lateOff (z := z)).off hT o1
    generalize upd H x.la (.dK (dropK s.kl (Sum.inr z))) = H1 at hT1 o1 hL1 ⊢
    obtain ⟨dx1, fs1, ho1, hf1⟩ := hT1.o
    have eG : fallG z g = (g.late z false).write z := by unfold fallG; rw [if_pos hin]
    walk_at "go"
    refine ⟨dx1, fs1, ho1, hf1.m _ (by simp), x, _, hT1, _, B, hd, hL1, hB, hz, fun s2 H2 o2 hT2 e1 e2 e3 e4 _ hL2 => ?_⟩
    exact key s2 H2 (o1.trans o2) hT2 e1 e2 e3 e4 (by rw [eG]; exact hL2) (by rw [eG]; exact setF_same)
  · rw [if_neg hin]
    have eG : fallG z g = g := by unfold fallG; rw [if_neg hin]
    exact key s H (fun b o e _ => e) hT rfl rfl rfl rfl (by rw [eG]; exact hL.iff (fun _ => Iff.rfl) (by omega) (by omega)) (by rw [eG]; simpa using hin)
theorem ok_Prompt_come {f : Addr} {fd : FuncData} (F : Fun K "come" "Tower.come" s_Prompt_come f fd) (T : Txt K mg xStock xTower xPrompt) (D_Prompt_fall_off : DefM P w K mg base CX0 3 xPrompt "fall_off" ["self", "name"] (sp74_fall xPrompt)) : FnOk P w K mg base CX0 4 f fd ["self", "name"] (sp74_come xPrompt) := by
  have sc : FnScope ["self", "name"] ["self", "name"] (defScope s_Prompt_come) := ⟨rfl, rfl, rfl, by decide +kernel, rfl, by decide +kernel, by decide +kernel⟩
  refine F.ok sc (fun vs H Q E h => ?_) (fun cdv A outer s H vs Q E hr h => ?_)
  · obtain ⟨t, x, s, g, z, B, rfl, hT, hL, hB, nd, hRl, hRs, hS1, q⟩ := h; rfl
  obtain ⟨t, x, s, g, z, B, rfl, hT, hL, hB, nd, hRl, hRs, hS1, q⟩ := h
  refine ⟨_, (@pss_cons _ _ _ _ _ (ps_if (pt_cmpR op_in_seq (pv 1) (pe_fld (pv 0) rfl) (by with_unfolding_all rfl))
      (@pss_one _ _ _ (ps_expr (pe_bm PySem.F.plainAttrs_list PySem.F.slot_list_remove PySem.F.type_list_remove mt_remove (pe_fld (pv 0) rfl) (pa_cons (pv 1) pa_nil))))
      pss_nil)
    (@pss_cons _ _ _ _ _ (ps_expr (pe_bm PySem.F.plainAttrs_list PySem.F.slot_list_insert PySem.F.type_list_insert mt_insert (pe_fld (pv 0) rfl) (pa_cons pe_int (pa_cons (pv 1) pa_nil))))
    (@pss_one _ _ _ (ps_if (pt_cmpR op_gt (pe_callB call_len_seq rfl T.z_len PySem.boot_len (pa_cons (pe_fld (pv 0) rfl) pa_nil)) (pe_callB (call_sumL rfl) rfl T.z_sum (by first | rfl | decide +kernel) (pa_cons (pe_fld (pv 0) rfl) pa_nil)) (nomark _))
      (@pss_one _ _ _ (ps_expr (pe_methS D_Prompt_fall_off T.cl_Prompt hr (passS pass0) (pv 0) (pa_cons (pe_bm0 PySem.F.plainAttrs_list PySem.F.slot_list_pop PySem.F.type_list_pop mt_pop (pe_fld (pv 0) rfl)) pa_nil))))
      pss_nil)))), ?_⟩
  rw [show start ["self", "name"] [V.ref t, V.str z] = [some (V.ref t), some (V.str z)] from rfl]
  have line := line_val
  obtain ⟨dx, fs, ho, hf⟩ := hT.o
  walk_at "go"
  refine ⟨xPrompt, dx, fs, ho, T.cl_Prompt, T.n_Prompt_row, _, hf.ro, in_go (SqL.of hT.ro) ⟨_, rfl, ?_⟩⟩
  rename_i rest hrest
  have key : ∀ H1 : Hp, Off (own t x) H H1 → TwAt xPrompt H1 t x { s with R := s.R.erase z } → rest [some (V.ref t), some (V.str z)] H1 := by
    intro H1 o1 hT1
    obtain ⟨dx1, fs1, ho1, hf1⟩ := hT1.o
    have hel : (s.R.erase z).length ≤ s.R.length := List.length_erase_le
    subst hrest
    walk_at "go"
    refine ⟨xPrompt, dx1, fs1, ho1, T.cl_Prompt, T.n_Prompt_row, _, hf1.ro, .inl ⟨rfl, _, SqL.of hT1.ro⟩, x.ro, rfl, _, hT1.ro, by rw [List.length_map]; show (s.R.erase z).length < _; omega, ?_⟩
    have hT2 : TwAt xPrompt (upd H1 x.ro (.lst (V.str z :: List.map V.str { s with R := s.R.erase z }.R))) t x { s with R := z :: s.R.erase z } := hT1.row (z :: s.R.erase z)
    have o2 : Off (own t x) H (upd H1 x.ro (.lst (V.str z :: List.map V.str { s with R := s.R.erase z }.R))) := o1.trans (Off.put (by simp [own]))
    generalize upd H1 x.ro (.lst (V.str z :: List.map V.str { s with R := s.R.erase z }.R)) = H2 at hT2 o2 ⊢
    obtain ⟨dx2, fs2, ho2, hf2⟩ := hT2.o
    walk_at "go"
    refine ⟨xPrompt, dx2, fs2, ho2, T.cl_Prompt, T.n_Prompt_row, _, hf2.ro, x.ro, rfl, _, .inl (SqL.of hT2.ro), xPrompt, dx2, fs2, ho2, T.cl_Prompt, T.n_Prompt_sizes, _, hf2.si, x.si, rfl, _, SqL.of hT2.si, ?_⟩
    rw [List.length_map]
    have hl1 : (z :: s.R.erase z).length = (s.R.erase z).length + 1 := rfl
    have ndc := nd_come (z := z) nd
    by_cases hov : s.zs.sum < ((z :: s.R.erase z).length : Int)
    · rw [if_pos hov]
      obtain ⟨y, hy, edl, hyin, hiff⟩ := drop_last (S := s.zs.sum.toNat) ndc (by omega)
      have eG : comeG s.zs.sum s.R z g = fallG y g := by unfold comeG lastS; rw [if_pos hov, hy]; rfl
      refine ⟨dx2, fs2, ho2, hf2.m _ (by simp), xPrompt, dx2, fs2, ho2, T.cl_Prompt, T.n_Prompt_row, _, hf2.ro, .inl ⟨rfl, _, SqL.of hT2.ro⟩, x.ro, rfl, _, hT2.ro, V.str y, by rw [List.length_map, List.getElem?_map, hy]; rfl, ?_⟩
      have hT3 : TwAt xPrompt (upd H2 x.ro (.lst ((z :: s.R.erase z).map V.str).dropLast)) t x { s with R := (z :: s.R.erase z).dropLast } := by
        rw [← List.map_dropLast]; exact hT2.row ((z :: s.R.erase z).dropLast)
      have o3 : Off (own t x) H (upd H2 x.ro (.lst ((z :: s.R.erase z).map V.str).dropLast)) := o2.trans (Off.put (by simp [own]))
      have hL3 := hL.off hT o3
      walk_at "go"
      refine ⟨x, _, hT3, g, B, _, hL3.cast rfl rfl rfl rfl, hB, mem_come.mp hyin, fun s' H' o hT' e1 e2 e3 e4 hL' => ?_⟩
      have e1' : s'.R = (z :: s.R.erase z).dropLast := e1
      exact q s' H' (o3.trans o) hT' (by rw [e1', edl]) e2 e3 e4 (by rw [eG]; exact hL'.iff (fun u => by rw [e1', hiff u, mem_come]) (Nat.le_refl _) (by omega))
    · rw [if_neg hov]
      have eG : comeG s.zs.sum s.R z g = g := by unfold comeG; rw [if_neg hov]
      exact q _ H2 o2 hT2 (by rw [List.take_of_length_le (by omega)]) rfl rfl rfl (by rw [eG]; exact ((hL.off hT o2).iff (fun u => (mem_come (R := s.R) (z := z) (u := u)).symm) (by omega) (by omega)).cast rfl rfl rfl rfl)
  clear hrest
  by_cases hin : z ∈ s.R
  · rw [if_pos (by simpa using hin)]
    refine ⟨xPrompt, dx, fs, ho, T.cl_Prompt, T.n_Prompt_row, _, hf.ro, .inl ⟨rfl, _, SqL.of hT.ro⟩, x.ro, rfl, s.R, hT.ro, hin, ?_⟩
    exact key _ (Off.put (by simp [own])) (hT.row (s.R.erase z))
  · rw [if_neg (by simpa using hin)]
    have := key H (fun b o e _ => e) (by rw [List.erase_of_not_mem hin]; exact hT)
    exact this
theorem ok_Prompt_levels {f : Addr} {fd : FuncData} (F : Fun K "levels" "Tower.levels" s_Prompt_levels f fd) (T : Txt K mg xStock xTower xPrompt)  : FnOk P w K mg base CX0 1 f fd ["self"] (sp71_levels xPrompt) := by
  have sc : FnScope ["self", "told", "start", "size"] ["self"] (defScope s_Prompt_levels) := ⟨rfl, rfl, rfl, by decide +kernel, rfl, by decide +kernel, by decide +kernel⟩
  refine F.ok sc (fun vs H Q E h => ?_) (fun cdv A outer s H vs Q E hr h => ?_)
  · obtain ⟨t, x, s, rfl, hT, hzl, hz, q⟩ := h; rfl
  obtain ⟨t, x, s, rfl, hT, hzl, hz, q⟩ := h
  refine ⟨_, (@pss_cons _ _ _ _ _ (ps_set (i := 1) sc.nd rfl (Or.inl rfl) (@pe_lst _ _ _ _ pa_nil))
    (@pss_cons _ _ _ _ _ (ps_set (i := 2) sc.nd rfl (Or.inl rfl) pe_int)
    (@pss_cons _ _ _ _ _ (ps_for PassesOwn.never rfl (pi_list (pe_fld (pv 0) rfl)) (pg_name (i := 3) sc.nd rfl (Or.inl rfl))
      (@pss_cons _ _ _ _ _ (ps_expr (pe_bm PySem.F.plainAttrs_list PySem.F.slot_list_append PySem.F.type_list_append mt_append (pv 1) (pa_cons (pe_slice sl_list (pe_fld (pv 0) rfl) (po_some (pv 2)) (po_some (pe_op op_add (pv 2) (pv 3)))) pa_nil)))
      (@pss_one _ _ _ (ps_aug (i := 2) sc.nd rfl (Or.inl rfl) (pv 3) ip_add))))
    (@pss_one _ _ _ (@ps_ret _ _ _ _ (pv 1)))))), ?_⟩
  rw [show start ["self", "told", "start", "size"] [V.ref t] = [some (V.ref t), none, none, none] from rfl]
  have line := line_val
  obtain ⟨dx, fs, ho, hf⟩ := hT.o
  walk_at "go"
  intro p hp
  walk_at "go"
  have sm0 : Same H (upd H p (.lst [])) := Same.new hp
  have hp0 : upd H p (.lst []) p = some (.lst []) := upd_same
  generalize upd H p (.lst []) = H0 at sm0 hp0 ⊢
  refine ⟨xPrompt, dx, fs, sm0 _ _ ho, T.cl_Prompt, T.n_Prompt_sizes, _, hf.si, x.si, rfl, ⟨_, SqL.of (sm0 _ _ hT.si)⟩, ?_⟩
  rename_i rest hrest
  refine forL_by (xs := s.zs.map V.int) (fun i σ H' => ∃ (as : List Addr) (v3 : Option V), σ = [some (V.ref t), some (V.ref p), some (V.int (pre s.zs i)), v3] ∧ Same H H' ∧ H' p = some (.lst (as.map V.ref)) ∧ LvAt H' as s.zs s.R i ∧ (∀ a ∈ as, H a = none) ∧ as.Nodup ∧ p ∉ as)
    ⟨[], none, rfl, sm0, hp0, ⟨rfl, fun i a e => by simp at e⟩, (fun a ha => by cases ha), List.nodup_nil, (fun h => by cases h)⟩ (fun i σ H' _ h_ => by obtain ⟨as, v3, _, sm, _⟩ := h_; exact SqL.of (sm _ _ hT.si)) ?_ ?_
  · rintro i v σ H' hv ⟨as, v3, rfl, sm, hp', hA, hn, nd, hpn⟩
    have hi : i < s.zs.length := by
      have := (List.getElem?_eq_some_iff.mp hv).1
      rw [List.length_map] at this; exact this
    have hgi : s.zs[i]? = some (s.zs.getD i 0) := getD_int hi
    rw [List.getElem?_map, hgi] at hv
    cases hv
    have hz1 := hz _ (List.mem_of_getElem? hgi)
    have hpn0 := pre_nn (fun z h => (hz z h).1) i
    rw [pre_succ hi]
    have hal : as.length ≤ i := Nat.le_of_eq hA.1
    walk_at "go"
    refine ⟨.inl ⟨rfl, _, SqL.of hp'⟩, xPrompt, dx, fs, sm _ _ ho, T.cl_Prompt, T.n_Prompt_row, _, hf.ro, x.ro, rfl, _, SqL.of (sm _ _ hT.ro), fun l hl => ?_⟩
    rw [cut_lvl hz hi]
    have npl : p ≠ l := ne_of_none hp' hl
    have sm2 : Same H' (upd H' l (.lst ((lvl s.zs s.R i).map V.str))) := Same.new hl
    have hlH : H l = none := by
      cases e : H l with
      | none => rfl
      | some o => rw [sm _ _ e] at hl; cases hl
    refine ⟨p, _, _, rfl, rfl, sm2 _ _ hp', by rw [List.length_map]; omega, ?_⟩
    have hla : l ∉ as := fun h => by
      obtain ⟨j, hj⟩ := List.mem_iff_getElem?.mp h
      rw [hA.2 j l hj] at hl; cases hl
    have sm3 : Same H (upd (upd H' l (.lst ((lvl s.zs s.R i).map V.str))) p (.lst (as.map V.ref ++ [V.ref l]))) := fun b o e => by rw [upd_ne (ne_of_none e hp)]; exact (sm.trans sm2) _ _ e
    have hp3 : upd (upd H' l (.lst ((lvl s.zs s.R i).map V.str))) p (.lst (as.map V.ref ++ [V.ref l])) p = some (.lst ((as ++ [l]).map V.ref)) := by rw [upd_same, List.map_append]; rfl
    have hA3 : LvAt (upd (upd H' l (.lst ((lvl s.zs s.R i).map V.str))) p (.lst (as.map V.ref ++ [V.ref l]))) (as ++ [l]) s.zs s.R (i + 1) := by
      refine ⟨by rw [List.length_append, hA.1]; rfl, fun j a e => ?_⟩
      by_cases hj : j < as.length
      · rw [List.getElem?_append_left hj] at e
        have h1 := hA.2 j a e
        rw [upd_ne (fun z => hpn (by rw [← z]; exact List.mem_of_getElem? e))]
        exact sm2 _ _ h1
      · rw [List.getElem?_append_right (by omega)] at e
        have hj0 : j = i := by
          have h1 := (List.getElem?_eq_some_iff.mp e).1
          have h2 := hA.1
          simp at h1; omega
        rw [show j - as.length = 0 by have := hA.1; omega] at e
        cases e
        rw [upd_ne npl.symm, upd_same, hj0]
    generalize upd (upd H' l (.lst ((lvl s.zs s.R i).map V.str))) p (.lst (as.map V.ref ++ [V.ref l])) = H3 at sm3 hp3 hA3 ⊢
    walk_at "go"
    refine ⟨as ++ [l], hp3, hA3, fun a ha => ?_, ?_, fun h => ?_⟩
    · rcases List.mem_append.mp ha with ha | ha
      · exact hn a ha
      · rw [List.mem_singleton.mp ha]; exact hlH
    · exact List.nodup_append.mpr ⟨nd, List.nodup_cons.mpr ⟨List.not_mem_nil, List.nodup_nil⟩, fun a ha b hb e => hla (by rw [← List.mem_singleton.mp hb, ← e]; exact ha)⟩
    · rcases List.mem_append.mp h with h | h
      · exact hpn h
      · exact npl (List.mem_singleton.mp h)
  · rintro σ H' ⟨as, v3, rfl, sm, hp', hA, hn, nd, hpn⟩
    rw [List.length_map] at hA
    walk_at "go"
    exact q p as _ hp sm hp' hA hn nd hpn
theorem ok_Prompt_shelf_of {f : Addr} {fd : FuncData} (F : Fun K "shelf_of" "Tower.shelf_of" s_Prompt_shelf_of f fd) (T : Txt K mg xStock xTower xPrompt) (D_Stock_number_of : DefM P w K mg base CX0 2 xStock "number_of" ["self", "name"] (sp71_tell 0 K xStock)) (D_Prompt_levels : DefM P w K mg base CX0 1 xPrompt "levels" ["self"] (sp71_levels xPrompt)) : FnOk P w K mg base CX0 4 f fd ["self", "name"] (sp79_shelf K xPrompt xStock) := by
  have sc : FnScope ["self", "name", "number", "names"] ["self", "name"] (defScope s_Prompt_shelf_of) := ⟨rfl, rfl, rfl, by decide +kernel, rfl, by decide +kernel, by decide +kernel⟩
  refine F.ok sc (fun vs H Q E h => ?_) (fun cdv A outer s H vs Q E hr h => ?_)
  · obtain ⟨t, x, s, z, ts, rfl, hT, hs, nd, hz, hzl, hzz, hRs, q⟩ := h; rfl
  obtain ⟨t, x, s, z, ts, rfl, hT, hs, nd, hz, hzl, hzz, hRs, q⟩ := h
  refine ⟨_, (@pss_cons _ _ _ _ _ (ps_expr (pe_methS D_Stock_number_of T.cl_Stock hr (passS pass0) (pe_fld (pv 0) rfl) (pa_cons (pv 1) pa_nil)))
    (@pss_cons _ _ _ _ _ (ps_for PassesOwn.never rfl (pi_enum rfl T.z_enumerate (pa_cons (pe_methS0 D_Prompt_levels T.cl_Prompt hr (passS pass0) (pv 0)) pa_nil)) (pg_tup rfl (pgs_cons (pg_name (i := 2) sc.nd rfl (Or.inl rfl)) (pgs_cons (pg_name (i := 3) sc.nd rfl (Or.inl rfl)) pgs_nil)))
      (@pss_one _ _ _ (ps_if (pt_cmpR op_in_seq (pv 1) (pv 3) (by with_unfolding_all rfl))
        (@pss_one _ _ _ (@ps_ret _ _ _ _ (pv 2)))
        pss_nil)))
    (@pss_one _ _ _ (@ps_ret _ _ _ _ (pe_callB call_len_seq rfl T.z_len PySem.boot_len (pa_cons (pe_fld (pv 0) rfl) pa_nil)))))), ?_⟩
  rw [show start ["self", "name", "number", "names"] [V.ref t, V.str z] = [some (V.ref t), some (V.str z), none, none] from rfl]
  have line := line_val
  obtain ⟨dx, fs, ho, hf⟩ := hT.o
  obtain ⟨dy, e, kvs, h1, h2, h3, h4, h5⟩ := StockAt.has hs.at
  walk_at "go"
  refine ⟨xPrompt, dx, fs, ho, T.cl_Prompt, T.n_Prompt_stock, _, hf.st, x.st, rfl, dy, flds e, h1, by rfl, x.st, rfl, ts, hs.at, nd, hz, fun i t' ht' e' => ?_⟩
  clear e' ht'
  walk_at "go"
  refine ⟨dx, fs, ho, hf.m _ (by simp), x, s, hT, hzl, hzz, fun p as H1 hp sm1 hp1 hA han nda hpn => ⟨⟨_, SqL.of hp1⟩, ?_⟩⟩
  rename_i rest hrest
  refine forE_by (xs := as.map V.ref) (fun i σ H' => ∃ (v2 v3 : Option V), σ = [some (V.ref t), some (V.str z), v2, v3] ∧ Same H1 H' ∧ ∀ j, j < i → z ∉ lvl s.zs s.R j) ⟨none, none, rfl, Same.refl _, fun j hj => absurd hj (Nat.not_lt_zero j)⟩ (fun i σ H' _ h_ => by obtain ⟨v2, v3, _, sm, _⟩ := h_; exact SqL.of (sm _ _ hp1)) ?_ ?_
  · rintro i v σ H' u hv ⟨v2, v3, rfl, sm, hno⟩ hu
    have hi : i < as.length := by
      have := (List.getElem?_eq_some_iff.mp hv).1
      rw [List.length_map] at this; exact this
    have hai : as[i]? = some as[i] := List.getElem?_eq_getElem hi
    rw [List.getElem?_map, hai] at hv
    cases hv
    have hla := (sm.trans (Same.new (o := .tup [.int i, .ref as[i]]) hu)) _ _ (hA.2 i _ hai)
    have smu := sm.trans (Same.new (o := .tup [.int i, .ref as[i]]) hu)
    walk_at "go"
    refine ⟨_, SqT.of upd_same, rfl, _, _, rfl, _, _, rfl, rfl, ?_⟩
    generalize upd H' u (.tup [.int i, .ref as[i]]) = H2 at hla smu ⊢
    have hzl2 : i < s.zs.length := by have := hA.1; omega
    walk_at "go"
    refine in_go (SqL.of hla) ⟨_, rfl, ?_⟩
    by_cases hin : z ∈ lvl s.zs s.R i
    · rw [if_pos (by simpa using hin)]
      walk_at "go"
      exact q i H2 (sm1.trans smu) (by omega) ⟨fun _ => lvl_sub hin, fun _ => hzl2⟩ (Nat.le_of_eq (shx_at hzl2 hin hno)) (Nat.le_of_eq (shx_at hzl2 hin hno).symm)
    · rw [if_neg (by simpa using hin)]
      walk_at "go"
      intro j hj
      by_cases e : j = i
      · rw [e]; exact hin
      · exact hno j (by omega)
  · rintro σ H' ⟨v2, v3, rfl, sm, hno⟩
    rw [List.length_map, hA.1] at hno
    have smA := sm1.trans sm
    walk_at "go"
    refine ⟨xPrompt, dx, fs, smA _ _ ho, T.cl_Prompt, T.n_Prompt_sizes, _, hf.si, x.si, rfl, _, .inl (SqL.of (smA _ _ hT.si)), ?_⟩
    rw [List.length_map]
    refine q s.zs.length H' smA (Nat.le_refl _) ⟨fun h => absurd h (Nat.lt_irrefl _), fun h => ?_⟩ (Nat.le_of_eq (shx_no hno)) (Nat.le_of_eq (shx_no hno).symm)
    obtain ⟨j, hj, hjz⟩ := lvl_all (fun z h => (hzz z h).1) hRs h
    exact absurd hjz (hno j hj)
theorem ok_Prompt_stored {f : Addr} {fd : FuncData} (F : Fun K "stored" "Tower.stored" s_Prompt_stored f fd) (T : Txt K mg xStock xTower xPrompt) (D_Stock_number_of : DefM P w K mg base CX0 2 xStock "number_of" ["self", "name"] (sp71_tell 0 K xStock)) : FnOk P w K mg base CX0 4 f fd ["self", "name"] (sp74_stored K xPrompt xStock) := by
  have sc : FnScope ["self", "name"] ["self", "name"] (defScope s_Prompt_stored) := ⟨rfl, rfl, rfl, by decide +kernel, rfl, by decide +kernel, by decide +kernel⟩
  refine F.ok sc (fun vs H Q E h => ?_) (fun cdv A outer s H vs Q E hr h => ?_)
  · obtain ⟨t, x, s, g, z, ts, B, hd, rfl, hT, hs, nd, hz, hL, q⟩ := h; rfl
  obtain ⟨t, x, s, g, z, ts, B, hd, rfl, hT, hs, nd, hz, hL, q⟩ := h
  refine ⟨_, (@pss_cons _ _ _ _ _ (ps_expr (pe_methS D_Stock_number_of T.cl_Stock hr (passS pass0) (pe_fld (pv 0) rfl) (pa_cons (pv 1) pa_nil)))
    (@pss_one _ _ _ (@ps_ret _ _ _ _ (pe_dget2 (hu_of hr) (pe_fld (pv 0) rfl) (pv 1) pe_int ⟨rfl, rfl, rfl, rfl⟩)))), ?_⟩
  rw [show start ["self", "name"] [V.ref t, V.str z] = [some (V.ref t), some (V.str z)] from rfl]
  have line := line_val
  obtain ⟨dx, fs, ho, hf⟩ := hT.o
  obtain ⟨dy, e, kvs, h1, h2, h3, h4, h5⟩ := StockAt.has hs.at
  walk_at "go"
  refine ⟨xPrompt, dx, fs, ho, T.cl_Prompt, T.n_Prompt_stock, _, hf.st, x.st, rfl, dy, flds e, h1, by rfl, x.st, rfl, ts, hs.at, nd, hz, fun i t' ht' e' => ?_⟩
  clear e' ht'
  walk_at "go"
  refine ⟨xPrompt, dx, fs, ho, T.cl_Prompt, T.n_Prompt_store, _, hf.so, x.so, rfl, .inl ⟨_, .inl hT.so⟩, _, DGet.k (k := Sum.inr z) hT.so, ?_⟩
  have hst := hL.st z
  cases hv : valV s.ks (Sum.inr z) with
  | none => rw [hv] at hst; rw [← hst] at q; exact q
  | some v => rw [hv] at hst; rw [← hst] at q; exact q
theorem ok_Prompt_fetch {f : Addr} {fd : FuncData} (F : Fun K "fetch" "Tower.fetch" s_Prompt_fetch f fd) (T : Txt K mg xStock xTower xPrompt) (D_Stock_cost_of : DefM P w K mg base CX0 2 xStock "cost_of" ["self", "name"] (sp71_tell 1 K xStock)) (D_Prompt_stored : DefM P w K mg base CX0 4 xPrompt "stored" ["self", "name"] (sp74_stored K xPrompt xStock)) : FnOk P w K mg base CX0 5 f fd ["self", "word", "name"] (sp74_fetch K xPrompt xStock) := by
  have sc : FnScope ["self", "word", "name"] ["self", "word", "name"] (defScope s_Prompt_fetch) := ⟨rfl, rfl, rfl, by decide +kernel, rfl, by decide +kernel, by decide +kernel⟩
  refine F.ok sc (fun vs H Q E h => ?_) (fun cdv A outer s H vs Q E hr h => ?_)
  · obtain ⟨t, x, s, g, w2, z, ts, B, p, rfl, hT, hs, nd, hz, hL, hB, q⟩ := h; rfl
  obtain ⟨t, x, s, g, w2, z, ts, B, p, rfl, hT, hs, nd, hz, hL, hB, q⟩ := h
  refine ⟨_, (@pss_cons _ _ _ _ _ (ps_fldaug (pv 0) (pe_methS D_Stock_cost_of T.cl_Stock hr (passS pass0) (pe_fld (pv 0) rfl) (pa_cons (pv 2) pa_nil)) in_add)
    (@pss_cons _ _ _ _ _ (ps_expr (pe_bm PySem.F.plainAttrs_list PySem.F.slot_list_append PySem.F.type_list_append mt_append (pe_fld (pv 0) rfl) (pa_cons (pe_tup (pa_cons (pv 1) (pa_cons (pv 2) pa_nil))) pa_nil)))
    (@pss_one _ _ _ (ps_dput (hu_of hr) (pe_fld (pv 0) rfl) (pv 2) (pe_methS D_Prompt_stored T.cl_Prompt hr (passS pass0) (pv 0) (pa_cons (pv 2) pa_nil)) rfl)))), ?_⟩
  rw [show start ["self", "word", "name"] [V.ref t, V.str w2, V.str z] = [some (V.ref t), some (V.str w2), some (V.str z)] from rfl]
  have line := line_val
  obtain ⟨dx, fs, ho, hf⟩ := hT.o
  obtain ⟨dy, e, kvs, h1, h2, h3, h4, h5⟩ := StockAt.has hs.at
  walk_at "go"
  refine ⟨xPrompt, dx, fs, ho, T.cl_Prompt, T.n_Prompt_paid, _, hf.pd, xPrompt, dx, fs, ho, T.cl_Prompt, T.n_Prompt_stock, _, hf.st, x.st, rfl, dy, flds e, h1, by rfl, x.st, rfl, ts, hs.at, nd, hz, fun i t' ht' e' => ⟨_, _, rfl, rfl, dx, fs, ho, by have := hf.n; omega, ?_⟩⟩
  have ec : pick 1 i t' = costOf ts z := (costOf_at nd ht' e').symm
  rw [ec]
  clear e' ec
  have hT1 := hT.paid ho hf (s.pd + costOf ts z)
  have o1 : Off (own t x) H (upd H t (.ins xPrompt dx (putF (Str.ofString "paid") (.int (s.pd + costOf ts z)) fs))) := Off.put (by simp [own])
  generalize upd H t (.ins xPrompt dx (putF (Str.ofString "paid") (.int (s.pd + costOf ts z)) fs)) = H1 at hT1 o1 ⊢
  clear ht'
  obtain ⟨dx1, fs1, ho1, hf1⟩ := hT1.o
  have n4 := hL.n4
  walk_at "go"
  refine ⟨xPrompt, dx1, fs1, ho1, T.cl_Prompt, T.n_Prompt_entries, _, hf1.en, .inl ⟨rfl, _, SqL.of hT1.en⟩, by omega, fun u hu => ?_⟩
  have sm2 : Same H1 (upd H1 u (.tup [.str w2, .str z])) := Same.new hu
  have hT2 := hT1.same sm2
  have hu2 : upd H1 u (.tup [.str w2, .str z]) u = some (.tup [.str w2, .str z]) := upd_same
  have nue : u ≠ x.en := (ne_of_none hT1.en hu).symm
  have o2 : Off (own t x) H (upd H1 u (.tup [.str w2, .str z])) := o1.trans (.of sm2)
  generalize upd H1 u (.tup [.str w2, .str z]) = H2 at hT2 o2 hu2 ⊢
  refine ⟨x.en, _, _, rfl, rfl, hT2.en, by show s.es.length < _; omega, ?_⟩
  have hT3 := hT2.entry (s.es ++ [.ref u])
  have o3 : Off (own t x) H (upd H2 x.en (.lst (s.es ++ [.ref u]))) := o2.trans (Off.put (by simp [own]))
  have hs3 := hs.off o3
  have hu3 : upd H2 x.en (.lst (s.es ++ [.ref u])) u = some (.tup [.str w2, .str z]) := by rw [upd_ne nue]; exact hu2
  have hst := hL.st
  walk_at "go"
  show _
  generalize upd H2 x.en (.lst (s.es ++ [.ref u])) = H3 at hT3 o3 hs3 hu3 ⊢
  obtain ⟨dx3, fs3, ho3, hf3⟩ := hT3.o
  have hL3 := (hL.fetched (keepT hT o3) hu3 (by omega) (pd := s.pd + costOf ts z))
  have oF : Off (own t x) H3 (upd H3 x.he (.dK (putK s.kh (Sum.inr z) (.int (g.st z))))) := Off.put (by simp [own])
  have n1 := hL.n1
  have hL2 := hL.noted (keepT hT o3) hu3 rfl (by omega) (pd := s.pd + costOf ts z)
  have fin := q { s with pd := s.pd + costOf ts z, es := s.es ++ [.ref u], kh := putK s.kh (Sum.inr z) (.int (g.st z)) } _ (o3.trans oF) (hT3.held (putK s.kh (Sum.inr z) (.int (g.st z)))) rfl rfl rfl rfl (hL3.off hT3 oF)
  exact ⟨dx3, fs3, ho3, hf3.m _ (by simp), x, _, hT3, _, ts, hs3, nd, hz, _, _, hL2, xPrompt, dx3, fs3, ho3, T.cl_Prompt, T.n_Prompt_held, _, hf3.he, x.he, rfl, _, DPut.k (k := Sum.inr z) hT3.he (by show s.kh.length < _; omega), fin⟩
theorem ok_Prompt_read {f : Addr} {fd : FuncData} (F : Fun K "read" "Tower.read" s_Prompt_read f fd) (T : Txt K mg xStock xTower xPrompt) (D_Prompt_shelf_of : DefM P w K mg base CX0 4 xPrompt "shelf_of" ["self", "name"] (sp79_shelf K xPrompt xStock)) (D_Prompt_fetch : DefM P w K mg base CX0 5 xPrompt "fetch" ["self", "word", "name"] (sp74_fetch K xPrompt xStock)) (D_Prompt_come : DefM P w K mg base CX0 4 xPrompt "come" ["self", "name"] (sp74_come xPrompt)) : FnOk P w K mg base CX0 6 f fd ["self", "name"] (sp79_read K xPrompt xStock) := by
  have sc : FnScope ["self", "name", "place"] ["self", "name"] (defScope s_Prompt_read) := ⟨rfl, rfl, rfl, by decide +kernel, rfl, by decide +kernel, by decide +kernel⟩
  refine F.ok sc (fun vs H Q E h => ?_) (fun cdv A outer s H vs Q E hr h => ?_)
  · obtain ⟨t, x, s, g, z, ts, B, rfl, hG, hz, hB, q⟩ := h; rfl
  obtain ⟨t, x, s, g, z, ts, B, rfl, hG, hz, hB, q⟩ := h
  refine ⟨_, (@pss_cons _ _ _ _ _ (ps_set (i := 2) sc.nd rfl (Or.inl rfl) (pe_methS D_Prompt_shelf_of T.cl_Prompt hr (passS pass0) (pv 0) (pa_cons (pv 1) pa_nil)))
    (@pss_cons _ _ _ _ _ (ps_augS (pe_fld (pv 0) rfl) (pv 2) get_list pe_int ip_add set_list)
    (@pss_cons _ _ _ _ _ (ps_if (pt_cmpR op_eq (pv 2) (pe_callB call_len_seq rfl T.z_len PySem.boot_len (pa_cons (pe_fld (pv 0) rfl) pa_nil)) (nomark _))
      (@pss_one _ _ _ (ps_expr (pe_methS D_Prompt_fetch T.cl_Prompt hr (passS pass0) (pv 0) (pa_cons pe_str (pa_cons (pv 1) pa_nil)))))
      pss_nil)
    (@pss_cons _ _ _ _ _ (ps_expr (pe_methS D_Prompt_come T.cl_Prompt hr (passS pass0) (pv 0) (pa_cons (pv 1) pa_nil)))
    (@pss_one _ _ _ (@ps_ret _ _ _ _ (pe_dget (hu_of hr) (pe_fld (pv 0) rfl) (pv 1) (fun _ _ => rfl)))))))), ?_⟩
  rw [show start ["self", "name", "place"] [V.ref t, V.str z] = [some (V.ref t), some (V.str z), none] from rfl]
  have line := line_val
  have hW := hG.to
  obtain ⟨dx, fs, ho, hf⟩ := hW.tw.o
  walk_at "go"
  refine ⟨dx, fs, ho, hf.m _ (by simp), x, s, hW.tw, ts, hW.sk, hW.tn, hz, hW.zl, hW.zz, hW.rs, fun k H1 sm1 hk hkR hk1 hk2 => ?_⟩
  have hT1 := hW.tw.same sm1
  have o1 : Off (own t x) H H1 := .of sm1
  obtain ⟨dx1, fs1, ho1, hf1⟩ := hT1.o
  have hfl := hW.ff
  have hgk : s.ff[k]? = some (s.ff.getD k 0) := getD_int (by omega)
  walk_at "go"
  refine ⟨xPrompt, dx1, fs1, ho1, T.cl_Prompt, T.n_Prompt_finds, _, hf1.fi, ?_⟩
  refine ⟨x.fi, s.ff.map V.int, k, V.int (s.ff.getD k 0), rfl, rfl, SqL.of hT1.fi, by rw [List.getElem?_map, hgk]; rfl, ?_⟩
  walk_at "go"
  refine ⟨_, hT1.fi, k, by rw [List.length_map]; exact ixN_at (by omega), ?_⟩
  rw [← List.map_set]
  have hT2 := hT1.find (s.ff.set k (s.ff.getD k 0 + 1))
  have o2 : Off (own t x) H (upd H1 x.fi (.lst ((s.ff.set k (s.ff.getD k 0 + 1)).map V.int))) := o1.trans (Off.put (by simp [own]))
  have hff2 : (s.ff.set k (s.ff.getD k 0 + 1)).length = s.zs.length + 1 := by rw [List.length_set]; exact hfl
  have hfb : s.ff.set k (s.ff.getD k 0 + 1) = bump s.ff (shx s.zs s.R z) ∧ True := ⟨by rw [show shx s.zs s.R z = k by omega]; rfl, trivial⟩
  generalize upd H1 x.fi (.lst ((s.ff.set k (s.ff.getD k 0 + 1)).map V.int)) = H2 at hT2 o2 ⊢
  generalize s.ff.set k (s.ff.getD k 0 + 1) = ff2 at hT2 hff2 hfb
  have hs2 := hW.sk.off o2
  have hL2 := (hG.g.off hW.tw o2).cast (s' := { s with ff := ff2 }) rfl rfl rfl rfl
  obtain ⟨dx2, fs2, ho2, hf2⟩ := hT2.o
  clear hT1 o1 ho1 hf1 hgk hfl
  walk_at "go"
  refine ⟨xPrompt, dx2, fs2, ho2, T.cl_Prompt, T.n_Prompt_sizes, _, hf2.si, x.si, rfl, _, .inl (SqL.of hT2.si), ?_⟩
  rw [List.length_map]
  rename_i rest hrest
  have key : ∀ (s3 : TwS) (H3 : Hp), Off (own t x) H H3 → TwAt xPrompt H3 t x s3 → s3.R = s.R → s3.zs = s.zs → s3.ff = ff2 → s3.pd = s.pd + (if z ∈ s.R then 0 else costOf ts z) → TwG H3 s3 (if z ∈ s.R then g else fetchG (Str.ofString "fetch") z g) (B + 1) (fun y => y ∈ s.R ∨ y = z) → rest [some (V.ref t), some (V.str z), some (V.int k)] H3 := by
    intro s3 H3 o3 hT3 eR eZ eF eP hL3
    obtain ⟨dx3, fs3, ho3, hf3⟩ := hT3.o
    have hrl := hW.rl
    have hrs := hW.rs
    have hs1 := hW.s1
    subst hrest
    walk_at "go"
    refine ⟨dx3, fs3, ho3, hf3.m _ (by simp), x, s3, hT3, _, B + 1, by rw [eR]; exact hL3, by omega, by rw [eR]; exact hW.nd, by rw [eR]; omega, by rw [eR, eZ]; exact hrs, by rw [eZ]; exact hs1, fun s4 H4 o4 hT4 eR4 eZ4 eF4 eP4 hL4 => ?_⟩
    rw [eR, eZ] at hL4
    obtain ⟨dx4, fs4, ho4, hf4⟩ := hT4.o
    have eR5 : s4.R = cameR z s := by rw [eR4, eR, eZ]; rfl
    have hzin : z ∈ s4.R := by
      rw [eR5]; unfold cameR
      obtain ⟨n, hn⟩ : ∃ n, s.zs.sum.toNat = n + 1 := ⟨s.zs.sum.toNat - 1, by omega⟩
      rw [hn, List.take_succ_cons]; exact List.mem_cons_self
    have hi := hL4.h z hzin
    walk_at "go"
    refine ⟨xPrompt, dx4, fs4, ho4, T.cl_Prompt, T.n_Prompt_held, _, hf4.he, x.he, rfl, .int ((readG s.zs.sum s.R z g).h z), by rw [← show valV s4.kh (Sum.inr z) = some (.int ((readG s.zs.sum s.R z g).h z)) from hi]; exact DGet.k (k := Sum.inr z) hT4.he, ?_⟩
    have o5 := o3.trans o4
    exact q s4 H4 o5 ⟨tow_came hW hz o5 hT4 eR5 (by rw [eZ4, eZ]) hL4.toL (by rw [eF4]; exact hff2), hL4⟩ eR5 (by rw [eZ4, eZ]) (by rw [eP4, eP]) (by rw [eF4]; exact hfb.1)
  clear hrest
  have hl := hW.l
  by_cases hk2 : k = s.zs.length
  · rw [if_pos (by show (k : Int) = (s.zs.length : Int); omega)]
    have hzR : z ∉ s.R := fun h => by have := hkR.mpr h; omega
    refine ⟨dx2, fs2, ho2, hf2.m _ (by simp), x, _, hT2, g, ts, hs2, hW.tn, hz, B, _, hL2, by omega, fun s3 H3 o3 hT3 e1 e2 e3 e4 hL3 => key s3 H3 (o2.trans o3) hT3 e1 e2 e3 (by rw [e4, if_neg hzR]) (by rw [if_neg hzR]; exact hL3)⟩
  · rw [if_neg (by show ¬ (k : Int) = (s.zs.length : Int); omega)]
    have hzR : z ∈ s.R := hkR.mp (by omega)
    have hl2 := hL2.iff (q := fun y => y ∈ s.R ∨ y = z) (B' := B + 1) (fun u => ⟨.inl, fun h => h.elim id fun e => by rw [e]; exact hzR⟩) (by omega) (by omega)
    exact key _ H2 o2 hT2 rfl rfl rfl (by rw [if_pos hzR, Int.add_zero]) (by rw [if_pos hzR]; exact hl2)
theorem ok_Prompt_keep {f : Addr} {fd : FuncData} (F : Fun K "keep" "Tower.keep" s_Prompt_keep f fd) (T : Txt K mg xStock xTower xPrompt) (D_Prompt_shelf_of : DefM P w K mg base CX0 4 xPrompt "shelf_of" ["self", "name"] (sp79_shelf K xPrompt xStock)) (D_is_within : Def P w K mg base CX0 2 "is_within" ["thing", "least", "most"] (sp_within K)) (D_Prompt_settle : DefM P w K mg base CX0 3 xPrompt "settle" ["self", "name"] (sp74_settle xPrompt true)) (D_Prompt_come : DefM P w K mg base CX0 4 xPrompt "come" ["self", "name"] (sp74_come xPrompt)) : FnOk P w K mg base CX0 6 f fd ["self", "name", "value"] (sp79_keep K xPrompt xStock true) := by
  have sc : FnScope ["self", "name", "value", "place"] ["self", "name", "value"] (defScope s_Prompt_keep) := ⟨rfl, rfl, rfl, by decide +kernel, rfl, by decide +kernel, by decide +kernel⟩
  refine F.ok sc (fun vs H Q E h => ?_) (fun cdv A outer s H vs Q E hr h => ?_)
  · obtain ⟨t, x, s, g, z, v, ts, B, rfl, hv1, hv2, hG, hz, hB, q⟩ := h; rfl
  obtain ⟨t, x, s, g, z, v, ts, B, rfl, hv1, hv2, hG, hz, hB, q⟩ := h
  refine ⟨_, (@pss_cons _ _ _ _ _ (ps_set (i := 3) sc.nd rfl (Or.inl rfl) (pe_methS D_Prompt_shelf_of T.cl_Prompt hr (passS pass0) (pv 0) (pa_cons (pv 1) pa_nil)))
    (@pss_cons _ _ _ _ _ (ps_if (pt_not (pt_val (pe_callD D_is_within hr rfl pass0 (pa_cons (pv 2) (pa_cons (pe_op op_sub pe_int (pe_op op_pow pe_int pe_int)) (pa_cons (pe_op op_pow pe_int pe_int) pa_nil))))))
      (@pss_one _ _ _ ps_never)
      pss_nil)
    (@pss_cons _ _ _ _ _ (ps_augS (pe_fld (pv 0) rfl) (pv 3) get_list pe_int ip_add set_list)
    (@pss_cons _ _ _ _ _ (ps_dput (hu_of hr) (pe_fld (pv 0) rfl) (pv 1) (pv 2) rfl)
    (@pss_cons _ _ _ _ _ (ps_expr (pe_methS D_Prompt_settle T.cl_Prompt hr (passS pass0) (pv 0) (pa_cons (pv 1) pa_nil)))
    (@pss_one _ _ _ (ps_expr (pe_methS D_Prompt_come T.cl_Prompt hr (passS pass0) (pv 0) (pa_cons (pv 1) pa_nil))))))))), ?_⟩
  rw [show start ["self", "name", "value", "place"] [V.ref t, V.str z, V.int v] = [some (V.ref t), some (V.str z), some (V.int v), none] from rfl]
  have line := line_val
  have hW := hG.to
  obtain ⟨dx, fs, ho, hf⟩ := hW.tw.o
  have hrl := hW.rl
  have hrs := hW.rs
  have hs1 := hW.s1
  walk_at "go"
  refine ⟨dx, fs, ho, hf.m _ (by simp), x, s, hW.tw, ts, hW.sk, hW.tn, hz, hW.zl, hW.zz, hW.rs, fun k H1 sm1 hk hkR hk1 hk2 => ?_⟩
  have hT1 := hW.tw.same sm1
  have o1 : Off (own t x) H H1 := .of sm1
  obtain ⟨dx1, fs1, ho1, hf1⟩ := hT1.o
  have hfl := hW.ff
  have hgk : s.ff[k]? = some (s.ff.getD k 0) := getD_int (by omega)
  have hw : wIn (0 - 10 ^ 30) (10 ^ 30) (V.int v) = true := by simp [wIn]; omega
  walk_at "go"
  refine ⟨rfl, ?_⟩
  rw [if_neg (by rw [hw]; decide)]
  walk_at "go"
  refine ⟨xPrompt, dx1, fs1, ho1, T.cl_Prompt, T.n_Prompt_finds, _, hf1.fi, ?_⟩
  refine ⟨x.fi, s.ff.map V.int, k, V.int (s.ff.getD k 0), rfl, rfl, SqL.of hT1.fi, by rw [List.getElem?_map, hgk]; rfl, ?_⟩
  walk_at "go"
  refine ⟨_, hT1.fi, k, by rw [List.length_map]; exact ixN_at (by omega), ?_⟩
  rw [← List.map_set]
  have hT2 := hT1.find (s.ff.set k (s.ff.getD k 0 + 1))
  have o2 : Off (own t x) H (upd H1 x.fi (.lst ((s.ff.set k (s.ff.getD k 0 + 1)).map V.int))) := o1.trans (Off.put (by simp [own]))
  have hff2 : (s.ff.set k (s.ff.getD k 0 + 1)).length = s.zs.length + 1 := by rw [List.length_set]; exact hfl
  have hfb : s.ff.set k (s.ff.getD k 0 + 1) = bump s.ff (shx s.zs s.R z) ∧ True := ⟨by rw [show shx s.zs s.R z = k by omega]; rfl, trivial⟩
  generalize upd H1 x.fi (.lst ((s.ff.set k (s.ff.getD k 0 + 1)).map V.int)) = H2 at hT2 o2 ⊢
  generalize s.ff.set k (s.ff.getD k 0 + 1) = ff2 at hT2 hff2 hfb
  have hL2 := (hG.g.off hW.tw o2).cast (s' := { s with ff := ff2 }) rfl rfl rfl rfl
  obtain ⟨dx2, fs2, ho2, hf2⟩ := hT2.o
  clear hT1 o1 ho1 hf1 hgk hfl
  have n1 := hG.g.n1
  walk_at "go"
  refine ⟨xPrompt, dx2, fs2, ho2, T.cl_Prompt, T.n_Prompt_held, _, hf2.he, x.he, rfl, _, DPut.k (k := Sum.inr z) hT2.he (by show s.kh.length < _; omega), ?_⟩
  have hT3 := hT2.held (putK s.kh (Sum.inr z) (.int v))
  have oP : Off (own t x) H2 (upd H2 x.he (.dK (putK s.kh (Sum.inr z) (.int v)))) := Off.put (by simp [own])
  have o3 := o2.trans oP
  have hL3 := (hL2.kept (z := z) v (by omega)).off hT2 oP
  walk_at "go"
  show _
  generalize upd H2 x.he (.dK (putK s.kh (Sum.inr z) (.int v))) = H3 at hT3 o3 hL3 ⊢
  obtain ⟨dx3, fs3, ho3, hf3⟩ := hT3.o
  refine ⟨dx3, fs3, ho3, hf3.m _ (by simp), x, _, hT3, _, B + 1, _, hL3, by omega, .inr rfl, fun s4 H4 o4 hT4 eR eZ eF eP hL4 => ?_⟩
  obtain ⟨dx4, fs4, ho4, hf4⟩ := hT4.o
  have eR' : s4.R = s.R := eR
  have eZ' : s4.zs = s.zs := eZ
  have eP' : s4.pd = s.pd := eP
  have eF' : s4.ff = ff2 ∧ True := ⟨eF, trivial⟩
  clear eR eZ eF eP
  walk_at "go"
  refine ⟨dx4, fs4, ho4, hf4.m _ (by simp), x, s4, hT4, _, B + 2, by rw [eR']; exact hL4, by omega, by rw [eR']; exact hW.nd, by rw [eR']; omega, by rw [eR', eZ']; exact hrs, by rw [eZ']; exact hs1, fun s5 H5 o5 hT5 eR5 eZ5 eF5 eP5 hL5 => ?_⟩
  rw [eR', eZ'] at hL5
  have eR6 : s5.R = cameR z s := by rw [eR5, eR', eZ']; rfl
  have o6 := (o3.trans o4).trans o5
  walk_at "go"
  exact q s5 H5 o6 ⟨tow_came hW hz o6 hT5 eR6 (by rw [eZ5, eZ']) hL5.toL (by rw [eF5, eF'.1]; exact hff2), hL5⟩ eR6 (by rw [eZ5, eZ']) (by rw [eP5, eP']) (by rw [eF5, eF'.1]; exact hfb.1)
theorem ok_Prompt_ahead {f : Addr} {fd : FuncData} (F : Fun K "ahead" "Tower.ahead" s_Prompt_ahead f fd) (T : Txt K mg xStock xTower xPrompt) (D_Prompt_shelf_of : DefM P w K mg base CX0 4 xPrompt "shelf_of" ["self", "name"] (sp79_shelf K xPrompt xStock)) (D_Prompt_fetch : DefM P w K mg base CX0 5 xPrompt "fetch" ["self", "word", "name"] (sp74_fetch K xPrompt xStock)) (D_Prompt_come : DefM P w K mg base CX0 4 xPrompt "come" ["self", "name"] (sp74_come xPrompt)) : FnOk P w K mg base CX0 6 f fd ["self", "name"] (sp79_ahead K xPrompt xStock) := by
  have sc : FnScope ["self", "name"] ["self", "name"] (defScope s_Prompt_ahead) := ⟨rfl, rfl, rfl, by decide +kernel, rfl, by decide +kernel, by decide +kernel⟩
  refine F.ok sc (fun vs H Q E h => ?_) (fun cdv A outer s H vs Q E hr h => ?_)
  · obtain ⟨t, x, s, g, z, ts, B, rfl, hG, hz, hB, q⟩ := h; rfl
  obtain ⟨t, x, s, g, z, ts, B, rfl, hG, hz, hB, q⟩ := h
  refine ⟨_, (@pss_cons _ _ _ _ _ (ps_if (pt_cmpR op_lt (pe_methS D_Prompt_shelf_of T.cl_Prompt hr (passS pass0) (pv 0) (pa_cons (pv 1) pa_nil)) (pe_callB call_len_seq rfl T.z_len PySem.boot_len (pa_cons (pe_fld (pv 0) rfl) pa_nil)) (nomark _))
      (@pss_one _ _ _ (@ps_ret _ _ _ _ pe_bl))
      pss_nil)
    (@pss_cons _ _ _ _ _ (ps_expr (pe_methS D_Prompt_fetch T.cl_Prompt hr (passS pass0) (pv 0) (pa_cons pe_str (pa_cons (pv 1) pa_nil))))
    (@pss_cons _ _ _ _ _ (ps_expr (pe_methS D_Prompt_come T.cl_Prompt hr (passS pass0) (pv 0) (pa_cons (pv 1) pa_nil)))
    (@pss_one _ _ _ (@ps_ret _ _ _ _ pe_bl))))), ?_⟩
  rw [show start ["self", "name"] [V.ref t, V.str z] = [some (V.ref t), some (V.str z)] from rfl]
  have line := line_val
  have hW := hG.to
  obtain ⟨dx, fs, ho, hf⟩ := hW.tw.o
  have hrl := hW.rl
  have hrs := hW.rs
  have hs1 := hW.s1
  walk_at "go"
  refine ⟨dx, fs, ho, hf.m _ (by simp), x, s, hW.tw, ts, hW.sk, hW.tn, hz, hW.zl, hW.zz, hW.rs, fun k H1 sm1 hk hkR hk1 hk2 => ?_⟩
  have hG1 := hG.same sm1
  have hT1 := hG1.to.tw
  have o1 : Off (own t x) H H1 := .of sm1
  have hs2 := hW.sk.off o1
  obtain ⟨dx1, fs1, ho1, hf1⟩ := hT1.o
  refine ⟨xPrompt, dx1, fs1, ho1, T.cl_Prompt, T.n_Prompt_sizes, _, hf1.si, x.si, rfl, _, .inl (SqL.of hT1.si), ?_⟩
  rw [List.length_map]
  by_cases hk2 : k < s.zs.length
  · rw [if_pos (by omega)]
    have hzR := hkR.mp hk2
    have eG : aheadG s.zs.sum s.R z g = g := by unfold aheadG; rw [if_pos hzR]
    have := q s H1 o1 (by rw [eG]; exact ⟨hG1.to.up (by omega) (by omega), hG1.g.iff (fun _ => Iff.rfl) (by omega) (by omega)⟩) (by rw [if_pos hzR]) rfl (by rw [if_pos hzR, Int.add_zero]) rfl
    rw [decide_eq_false (fun h => h hzR)] at this
    exact this
  · rw [if_neg (by omega)]
    have hzR : ¬ z ∈ s.R := fun h => hk2 (hkR.mpr h)
    have eG : aheadG s.zs.sum s.R z g = comeG s.zs.sum s.R z (fetchG (Str.ofString "ahead") z g) := by unfold aheadG; rw [if_neg hzR]
    walk_at "go"
    refine ⟨dx1, fs1, ho1, hf1.m _ (by simp), x, _, hT1, g, ts, hs2, hW.tn, hz, B, _, hG1.g, by omega, fun s3 H3 o3 hT3 eR eZ eF eP hL3 => ?_⟩
    obtain ⟨dx3, fs3, ho3, hf3⟩ := hT3.o
    walk_at "go"
    refine ⟨dx3, fs3, ho3, hf3.m _ (by simp), x, s3, hT3, _, B + 1, by rw [eR]; exact hL3, by omega, by rw [eR]; exact hW.nd, by rw [eR]; omega, by rw [eR, eZ]; exact hrs, by rw [eZ]; exact hs1, fun s4 H4 o4 hT4 eR4 eZ4 eF4 eP4 hL4 => ?_⟩
    rw [eR, eZ] at hL4
    have eR5 : s4.R = cameR z s := by rw [eR4, eR, eZ]; rfl
    have o5 := (o1.trans o3).trans o4
    walk_at "go"
    have := q s4 H4 o5 (by rw [eG]; exact ⟨tow_came hW hz o5 hT4 eR5 (by rw [eZ4, eZ]) hL4.toL (by rw [eF4, eF]; exact hW.ff), hL4⟩) (by rw [eR5, if_neg hzR]) (by rw [eZ4, eZ]) (by rw [eP4, eP, if_neg hzR]) (by rw [eF4, eF])
    rw [decide_eq_true (show z ∉ s.R from hzR)] at this
    exact this
theorem ok_Prompt_diary {f : Addr} {fd : FuncData} (F : Fun K "diary" "Tower.diary" s_Prompt_diary f fd) (T : Txt K mg xStock xTower xPrompt)  : FnOk P w K mg base CX0 1 f fd ["self"] (sp74_diary xPrompt) := by
  have sc : FnScope ["self"] ["self"] (defScope s_Prompt_diary) := ⟨rfl, rfl, rfl, by decide +kernel, rfl, by decide +kernel, by decide +kernel⟩
  refine F.ok sc (fun vs H Q E h => ?_) (fun cdv A outer s H vs Q E hr h => ?_)
  · obtain ⟨t, x, s, rfl, hT, hn, q⟩ := h; rfl
  obtain ⟨t, x, s, rfl, hT, hn, q⟩ := h
  refine ⟨_, (@pss_one _ _ _ (@ps_ret _ _ _ _ (pe_callTy call_list_of rfl T.z_list (by first | rfl | decide +kernel) (pa_cons (pe_fld (pv 0) rfl) pa_nil)))), ?_⟩
  rw [show start ["self"] [V.ref t] = [some (V.ref t)] from rfl]
  have line := line_val
  obtain ⟨dx, fs, ho, hf⟩ := hT.o
  walk_at "go"
  exact ⟨xPrompt, dx, fs, ho, T.cl_Prompt, T.n_Prompt_entries, _, hf.en, x.en, rfl, _, .inl (SqL.of hT.en), fun l hl => q l _ hl (Same.new hl) upd_same⟩
theorem ok_Prompt_found {f : Addr} {fd : FuncData} (F : Fun K "found" "Tower.found" s_Prompt_found f fd) (T : Txt K mg xStock xTower xPrompt)  : FnOk P w K mg base CX0 1 f fd ["self"] (sp79_found xPrompt) := by
  have sc : FnScope ["self"] ["self"] (defScope s_Prompt_found) := ⟨rfl, rfl, rfl, by decide +kernel, rfl, by decide +kernel, by decide +kernel⟩
  refine F.ok sc (fun vs H Q E h => ?_) (fun cdv A outer s H vs Q E hr h => ?_)
  · obtain ⟨t, x, s, rfl, hT, q⟩ := h; rfl
  obtain ⟨t, x, s, rfl, hT, q⟩ := h
  refine ⟨_, (@pss_one _ _ _ (@ps_ret _ _ _ _ (pe_callTy call_list_of rfl T.z_list (by first | rfl | decide +kernel) (pa_cons (pe_fld (pv 0) rfl) pa_nil)))), ?_⟩
  rw [show start ["self"] [V.ref t] = [some (V.ref t)] from rfl]
  have line := line_val
  obtain ⟨dx, fs, ho, hf⟩ := hT.o
  walk_at "go"
  exact ⟨xPrompt, dx, fs, ho, T.cl_Prompt, T.n_Prompt_finds, _, hf.fi, x.fi, rfl, _, .inl (SqL.of hT.fi), fun l hl => q l _ hl (Same.new hl) upd_same⟩
theorem ok_Prompt_spent {f : Addr} {fd : FuncData} (F : Fun K "spent" "Tower.spent" s_Prompt_spent f fd) (T : Txt K mg xStock xTower xPrompt)  : FnOk P w K mg base CX0 1 f fd ["self"] (sp75_spent xPrompt) := by
  have sc : FnScope ["self"] ["self"] (defScope s_Prompt_spent) := ⟨rfl, rfl, rfl, by decide +kernel, rfl, by decide +kernel, by decide +kernel⟩
  refine F.ok sc (fun vs H Q E h => ?_) (fun cdv A outer s H vs Q E hr h => ?_)
  · obtain ⟨t, x, s, rfl, hT, q⟩ := h; rfl
  obtain ⟨t, x, s, rfl, hT, q⟩ := h
  refine ⟨_, (@pss_one _ _ _ (@ps_ret _ _ _ _ (pe_fld (pv 0) rfl))), ?_⟩
  rw [show start ["self"] [V.ref t] = [some (V.ref t)] from rfl]
  obtain ⟨dx, fs, ho, hf⟩ := hT.o
  walk_at "go"
  exact ⟨xPrompt, dx, fs, ho, T.cl_Prompt, T.n_Prompt_paid, _, hf.pd, q⟩
theorem ok_Prompt_init {f : Addr} {fd : FuncData} (F : Fun K "__init__" "Tower.__init__" s_Prompt_init f fd) (T : Txt K mg xStock xTower xPrompt) (D_check_sizes : Def P w K mg base CX0 4 "check_sizes" ["sizes"] (sp71_sizes K)) (D_check_rooms : Def P w K mg base CX0 4 "check_rooms" ["stock", "asks"] (sp71_rooms K xStock)) (D_Stock_names : DefM P w K mg base CX0 1 xStock "names" ["self"] (sp_nms K xStock)) : FnOk P w K mg base CX0 5 f fd ["self", "stock", "sizes"] (sp79_init K xPrompt xStock) := by
  have sc : FnScope ["self", "stock", "sizes"] ["self", "stock", "sizes"] (defScope s_Prompt_init) := ⟨rfl, rfl, rfl, by decide +kernel, rfl, by decide +kernel, by decide +kernel⟩
  refine F.ok sc (fun vs H Q E h => ?_) (fun cdv A outer s H vs Q E hr h => ?_)
  · obtain ⟨t, dx, p, a, ts, zs, rfl, ht, hs, nd, hr1, htl, hS, hz1, hz6, hzz, q⟩ := h; rfl
  obtain ⟨t, dx, p, a, ts, zs, rfl, ht, hs, nd, hr1, htl, hS, hz1, hz6, hzz, q⟩ := h
  refine ⟨_, (@pss_cons _ _ _ _ _ (ps_expr (pe_callD D_check_sizes hr rfl pass0 (pa_cons (pv 2) pa_nil)))
    (@pss_cons _ _ _ _ _ (ps_expr (pe_callD D_check_rooms hr rfl pass0 (pa_cons (pv 1) (pa_cons (pe_methS0 D_Stock_names T.cl_Stock hr (passS pass0) (pv 1)) pa_nil))))
    (@pss_cons _ _ _ _ _ (ps_fld (pv 0) (pv 1) rfl)
    (@pss_cons _ _ _ _ _ (ps_fld (pv 0) (pe_callTy call_list_of rfl T.z_list (by first | rfl | decide +kernel) (pa_cons (pv 2) pa_nil)) rfl)
    (@pss_cons _ _ _ _ _ (ps_fld (pv 0) (@pe_lst _ _ _ _ pa_nil) rfl)
    (@pss_cons _ _ _ _ _ (ps_fld (pv 0) pe_dnewK rfl)
    (@pss_cons _ _ _ _ _ (ps_fld (pv 0) pe_dnewK rfl)
    (@pss_cons _ _ _ _ _ (ps_fld (pv 0) pe_dnewK rfl)
    (@pss_cons _ _ _ _ _ (ps_fld (pv 0) (@pe_lst _ _ _ _ pa_nil) rfl)
    (@pss_cons _ _ _ _ _ (ps_fld (pv 0) (pe_op op_rep (@pe_lst _ _ _ _ (pa_cons pe_int pa_nil)) (pe_op op_add (pe_callB call_len_seq rfl T.z_len PySem.boot_len (pa_cons (pv 2) pa_nil)) pe_int)) rfl)
    (@pss_one _ _ _ (ps_fld (pv 0) pe_int rfl)))))))))))), ?_⟩
  rw [show start ["self", "stock", "sizes"] [V.ref t, V.ref p, V.ref a] = [some (V.ref t), some (V.ref p), some (V.ref a)] from rfl]
  have line := line_val
  obtain ⟨dy, e, kvs, h1, h2, h3, h4, h5⟩ := StockAt.has hs
  walk_at "go"
  refine ⟨zs, hS, hz1, hz6, hzz, ?_⟩
  walk_at "go"
  refine ⟨dy, flds e, h1, by rfl, ts, hs, fun l hl => ?_⟩
  have sm1 : Same H (upd H l (.lst ((ts.map (·.1)).map V.str))) := Same.new hl
  refine ⟨ts, hs.same sm1, nd, ts.map (·.1), SqL.of upd_same, fun y hy => hy, hr1, by rw [List.length_map]; omega, ?_⟩
  have ht1 := sm1 _ _ ht
  have hs1 := StockT.of (hs.same sm1)
  have hS1 := sm1.seq hS
  have nw : ∀ b, upd H l (.lst ((ts.map (·.1)).map V.str)) b = none → H b = none := fun b hb => by
    cases q : H b with
    | none => rfl
    | some o => rw [sm1 _ _ q] at hb; cases hb
  generalize upd H l (.lst ((ts.map (·.1)).map V.str)) = H1 at sm1 ht1 hs1 hS1 nw ⊢
  walk_at "go"
  refine ⟨xPrompt, dx, [], ht1, T.cl_Prompt, T.n_Prompt_stock, by decide, ?_⟩
  have sbA : SameBut t H1 (upd H1 t (.ins xPrompt dx (putF (Str.ofString "stock") (V.ref p) []))) := sameBut_upd
  have htA : upd H1 t (.ins xPrompt dx (putF (Str.ofString "stock") (V.ref p) [])) t = some (.ins xPrompt dx (putF (Str.ofString "stock") (V.ref p) [])) := upd_same
  have hSA := SqL.but sbA ht1 hS1
  walk_at "go"
  show _
  generalize upd H1 t (.ins xPrompt dx (putF (Str.ofString "stock") (V.ref p) [])) = HA at sbA htA hSA ⊢
  intro si hsi
  refine ⟨xPrompt, dx, _, by rw [upd_ne (ne_of_none htA hsi)]; exact htA, T.cl_Prompt, T.n_Prompt_sizes, Nat.lt_of_le_of_lt (putF_le (Nat.le_refl _)) (by decide), ?_⟩
  obtain ⟨sb1, ht2, hsi1, k1, nsi, tsi, d1⟩ := step_new (o := .lst (zs.map V.int)) (f := Str.ofString "sizes") sbA htA hsi
  walk_at "go"
  show _
  generalize upd (upd HA si (.lst (zs.map V.int))) t (.ins xPrompt dx (putF (Str.ofString "sizes") (V.ref si) (putF (Str.ofString "stock") (V.ref p) []))) = HB0 at sb1 ht2 k1 hsi1 ⊢
  intro ro hron
  refine ⟨xPrompt, dx, _, by rw [upd_ne (ne_of_none ht2 hron)]; exact ht2, T.cl_Prompt, T.n_Prompt_row, Nat.lt_of_le_of_lt (putF_le (putF_le (Nat.le_refl _))) (by decide), ?_⟩
  obtain ⟨sb2, ht3, hro2, k2, nro, tro, d2⟩ := step_new (o := .lst []) (f := Str.ofString "row") sb1 ht2 hron
  have hsi2 := k2 _ _ hsi1 tsi
  have ne_ro_si : ro ≠ si := (d2 _ _ hsi1).symm
  walk_at "go"
  show _
  generalize upd (upd HB0 ro (.lst [])) t (.ins xPrompt dx (putF (Str.ofString "row") (V.ref ro) (putF (Str.ofString "sizes") (V.ref si) (putF (Str.ofString "stock") (V.ref p) [])))) = HB1 at sb2 ht3 k2 hsi2 hro2 ⊢
  intro he hhen
  refine ⟨xPrompt, dx, _, by rw [upd_ne (ne_of_none ht3 hhen)]; exact ht3, T.cl_Prompt, T.n_Prompt_held, Nat.lt_of_le_of_lt (putF_le (putF_le (putF_le (Nat.le_refl _)))) (by decide), ?_⟩
  obtain ⟨sb3, ht4, hhe3, k3, nhe, the, d3⟩ := step_new (o := .dK []) (f := Str.ofString "held") sb2 ht3 hhen
  have hsi3 := k3 _ _ hsi2 tsi
  have ne_he_si : he ≠ si := (d3 _ _ hsi2).symm
  have hro3 := k3 _ _ hro2 tro
  have ne_he_ro : he ≠ ro := (d3 _ _ hro2).symm
  walk_at "go"
  show _
  generalize upd (upd HB1 he (.dK [])) t (.ins xPrompt dx (putF (Str.ofString "held") (V.ref he) (putF (Str.ofString "row") (V.ref ro) (putF (Str.ofString "sizes") (V.ref si) (putF (Str.ofString "stock") (V.ref p) []))))) = HB2 at sb3 ht4 k3 hsi3 hro3 hhe3 ⊢
  intro la hlan
  refine ⟨xPrompt, dx, _, by rw [upd_ne (ne_of_none ht4 hlan)]; exact ht4, T.cl_Prompt, T.n_Prompt_late, Nat.lt_of_le_of_lt (putF_le (putF_le (putF_le (putF_le (Nat.le_refl _))))) (by decide), ?_⟩
  obtain ⟨sb4, ht5, hla4, k4, nla, tla, d4⟩ := step_new (o := .dK []) (f := Str.ofString "late") sb3 ht4 hlan
  have hsi4 := k4 _ _ hsi3 tsi
  have ne_la_si : la ≠ si := (d4 _ _ hsi3).symm
  have hro4 := k4 _ _ hro3 tro
  have ne_la_ro : la ≠ ro := (d4 _ _ hro3).symm
  have hhe4 := k4 _ _ hhe3 the
  have ne_la_he : la ≠ he := (d4 _ _ hhe3).symm
  walk_at "go"
  show _
  generalize upd (upd HB2 la (.dK [])) t (.ins xPrompt dx (putF (Str.ofString "late") (V.ref la) (putF (Str.ofString "held") (V.ref he) (putF (Str.ofString "row") (V.ref ro) (putF (Str.ofString "sizes") (V.ref si) (putF (Str.ofString "stock") (V.ref p) [])))))) = HB3 at sb4 ht5 k4 hsi4 hro4 hhe4 hla4 ⊢
  intro so hson
  refine ⟨xPrompt, dx, _, by rw [upd_ne (ne_of_none ht5 hson)]; exact ht5, T.cl_Prompt, T.n_Prompt_store, Nat.lt_of_le_of_lt (putF_le (putF_le (putF_le (putF_le (putF_le (Nat.le_refl _)))))) (by decide), ?_⟩
  obtain ⟨sb5, ht6, hso5, k5, nso, tso, d5⟩ := step_new (o := .dK []) (f := Str.ofString "store") sb4 ht5 hson
  have hsi5 := k5 _ _ hsi4 tsi
  have ne_so_si : so ≠ si := (d5 _ _ hsi4).symm
  have hro5 := k5 _ _ hro4 tro
  have ne_so_ro : so ≠ ro := (d5 _ _ hro4).symm
  have hhe5 := k5 _ _ hhe4 the
  have ne_so_he : so ≠ he := (d5 _ _ hhe4).symm
  have hla5 := k5 _ _ hla4 tla
  have ne_so_la : so ≠ la := (d5 _ _ hla4).symm
  walk_at "go"
  show _
  generalize upd (upd HB3 so (.dK [])) t (.ins xPrompt dx (putF (Str.ofString "store") (V.ref so) (putF (Str.ofString "late") (V.ref la) (putF (Str.ofString "held") (V.ref he) (putF (Str.ofString "row") (V.ref ro) (putF (Str.ofString "sizes") (V.ref si) (putF (Str.ofString "stock") (V.ref p) []))))))) = HB4 at sb5 ht6 k5 hsi5 hro5 hhe5 hla5 hso5 ⊢
  intro en henn
  refine ⟨xPrompt, dx, _, by rw [upd_ne (ne_of_none ht6 henn)]; exact ht6, T.cl_Prompt, T.n_Prompt_entries, Nat.lt_of_le_of_lt (putF_le (putF_le (putF_le (putF_le (putF_le (putF_le (Nat.le_refl _))))))) (by decide), ?_⟩
  obtain ⟨sb6, ht7, hen6, k6, nen, ten, d6⟩ := step_new (o := .lst []) (f := Str.ofString "entries") sb5 ht6 henn
  have hsi6 := k6 _ _ hsi5 tsi
  have ne_en_si : en ≠ si := (d6 _ _ hsi5).symm
  have hro6 := k6 _ _ hro5 tro
  have ne_en_ro : en ≠ ro := (d6 _ _ hro5).symm
  have hhe6 := k6 _ _ hhe5 the
  have ne_en_he : en ≠ he := (d6 _ _ hhe5).symm
  have hla6 := k6 _ _ hla5 tla
  have ne_en_la : en ≠ la := (d6 _ _ hla5).symm
  have hso6 := k6 _ _ hso5 tso
  have ne_en_so : en ≠ so := (d6 _ _ hso5).symm
  walk_at "go"
  show _
  generalize upd (upd HB4 en (.lst [])) t (.ins xPrompt dx (putF (Str.ofString "entries") (V.ref en) (putF (Str.ofString "store") (V.ref so) (putF (Str.ofString "late") (V.ref la) (putF (Str.ofString "held") (V.ref he) (putF (Str.ofString "row") (V.ref ro) (putF (Str.ofString "sizes") (V.ref si) (putF (Str.ofString "stock") (V.ref p) [])))))))) = HB5 at sb6 ht7 k6 hsi6 hro6 hhe6 hla6 hso6 hen6 ⊢
  intro l0 hl0
  have hS5 := SqL.but sb6 ht1 hS1
  have smz : Same HB5 (upd HB5 l0 (.lst [V.int 0])) := Same.new hl0
  have sbz : SameBut t H1 (upd HB5 l0 (.lst [V.int 0])) := sb6.trans (.of smz)
  have hlz : upd HB5 l0 (.lst [V.int 0]) l0 = some (.lst [V.int 0]) := upd_same
  have htz := smz _ _ ht7
  have hsiz := smz _ _ hsi6
  have hroz := smz _ _ hro6
  have hhez := smz _ _ hhe6
  have hlaz := smz _ _ hla6
  have hsoz := smz _ _ hso6
  have henz := smz _ _ hen6
  have hSz := smz.seq hS5
  generalize upd HB5 l0 (.lst [V.int 0]) = HZ at sbz hlz htz hsiz hroz hhez hlaz hsoz henz hSz ⊢
  refine ⟨_, .inl hSz, ?_⟩
  rw [List.length_map]
  refine ⟨l0, _, _, rfl, rfl, hlz, by omega, by omega, by simp; omega, fun fi hfi => ?_⟩
  rw [rep0]
  refine ⟨xPrompt, dx, _, by rw [upd_ne (ne_of_none htz hfi)]; exact htz, T.cl_Prompt, T.n_Prompt_finds, Nat.lt_of_le_of_lt (putF_le (putF_le (putF_le (putF_le (putF_le (putF_le (putF_le (Nat.le_refl _)))))))) (by decide), ?_⟩
  obtain ⟨sb7, ht8, hfi7, k7, nfi, tfi, d7⟩ := step_new (o := .lst ((List.replicate (zs.length + 1) (0 : Int)).map V.int)) (f := Str.ofString "finds") sbz htz hfi
  have hsi7 := k7 _ _ hsiz tsi
  have hro7 := k7 _ _ hroz tro
  have hhe7 := k7 _ _ hhez the
  have hla7 := k7 _ _ hlaz tla
  have hso7 := k7 _ _ hsoz tso
  have hen7 := k7 _ _ henz ten
  have ne_fi_si := (d7 _ _ hsiz).symm
  have ne_fi_ro := (d7 _ _ hroz).symm
  have ne_fi_en := (d7 _ _ henz).symm
  walk_at "go"
  refine ⟨xPrompt, dx, _, ht8, T.cl_Prompt, T.n_Prompt_paid, Nat.lt_of_le_of_lt (putF_le (putF_le (putF_le (putF_le (putF_le (putF_le (putF_le (putF_le (Nat.le_refl _))))))))) (by decide), ?_⟩
  have kz : ∀ b u, HZ b = some u → upd HZ fi (.lst ((List.replicate (zs.length + 1) (0 : Int)).map V.int)) b = some u := fun b u e => by rw [upd_ne (ne_of_none e hfi)]; exact e
  refine q ⟨p, si, ro, he, la, so, en, fi⟩ ⟨zs, [], [], [], [], [], List.replicate (zs.length + 1) 0, 0⟩ _ (fun b o e nb => ?_) ⟨?_, ?_⟩ rfl rfl rfl rfl rfl (fun b hb => ?_)
  · rw [upd_ne nb]; exact kz _ _ (sbz _ _ (sm1 _ _ e) nb)
  · have hfin : ∀ u : HO, SameBut t H1 (upd (upd HZ fi (.lst ((List.replicate (zs.length + 1) (0 : Int)).map V.int))) t u) := fun u b o e nb => by rw [upd_ne nb]; exact kz _ _ (sbz _ _ e nb)
    refine ⟨⟨⟨dx, f6 ⟨p, si, ro, he, la, so, en, fi⟩, upd_same, tfs_init _⟩, by rw [upd_ne tsi]; exact kz _ _ hsiz, by rw [upd_ne tro]; exact kz _ _ hroz, by rw [upd_ne the]; exact kz _ _ hhez, by rw [upd_ne tla]; exact kz _ _ hlaz, by rw [upd_ne tso]; exact kz _ _ hsoz, by rw [upd_ne ten]; exact kz _ _ henz, by rw [upd_ne tfi]; exact upd_same, ne_la_he.symm, ne_so_he.symm, ne_so_la.symm, ne_ro_si, ne_en_ro.symm, ne_fi_ro.symm, ne_en_si.symm, ne_fi_si.symm, ne_fi_en.symm⟩, ?_, ⟨(fun y hy => by cases hy), (fun y hy => by cases hy), (fun y v hv => by cases hv), Nat.zero_le _, Nat.zero_le _, Nat.zero_le _, Nat.zero_le _, by decide⟩, List.nodup_nil, ?_, hz1, hz6, hzz, (fun y hy => by cases hy), nd, htl, by simp⟩
    · refine ((hs1.ins ht1).mono fun b hb => ?_).off fun b o e n => hfin _ b o e fun z => n (by rw [z]; simp [own])
      have hb' : b = t ∨ b = ro ∨ b = he ∨ b = la ∨ b = so ∨ b = en ∨ b = fi := by simpa [own] using hb
      rcases hb' with h | h | h | h | h | h | h <;> rw [h]
      · exact .inl List.mem_cons_self
      · exact .inr nro
      · exact .inr nhe
      · exact .inr nla
      · exact .inr nso
      · exact .inr nen
      · exact .inr nfi
    · have h4 := pre_nn (zs := zs) (fun z hz => (hzz z hz).1) zs.length
      unfold pre at h4
      rw [List.take_length] at h4
      exact h4
  · exact ⟨(fun y hy => by cases hy), (fun y => rfl), (fun y hy => by cases hy), (fun y => rfl), ⟨[], rfl, rfl, fun i u e h => by simp at h⟩, Nat.zero_le _, Nat.zero_le _, Nat.zero_le _, Nat.zero_le _, by decide, (fun e he => by cases he)⟩
  · have hb' : b = si ∨ b = t ∨ b = ro ∨ b = he ∨ b = la ∨ b = so ∨ b = en ∨ b = fi := by simpa [own] using hb
    rcases hb' with h | h | h | h | h | h | h | h <;> rw [h]
    · exact .inr (nw _ nsi)
    · exact .inl rfl
    · exact .inr (nw _ nro)
    · exact .inr (nw _ nhe)
    · exact .inr (nw _ nla)
    · exact .inr (nw _ nso)
    · exact .inr (nw _ nen)
    · exact .inr (nw _ nfi)
theorem ok_l_cell_at {f : Addr} {fd : FuncData} (F : Fun K "_law_cell_at" "_law_cell_at" s_l_cell_at f fd) (T : Txt K mg xStock xTower xPrompt)  : FnOk P w K mg base CX0 1 f fd ["_law_script", "_law_k"] (sp_cell K) := by
  have sc : FnScope ["_law_script", "_law_k"] ["_law_script", "_law_k"] (defScope s_l_cell_at) := ⟨rfl, rfl, rfl, by decide +kernel, rfl, by decide +kernel, by decide +kernel⟩
  refine F.ok sc (fun vs H Q E h => ?_) (fun cdv A outer s H vs Q E hr h => ?_)
  · obtain ⟨a, ns, k, rfl, hS, h0, hl, q⟩ := h; rfl
  obtain ⟨a, ns, k, rfl, hS, h0, hl, q⟩ := h
  refine ⟨_, (@pss_cons _ _ _ _ _ (ps_if (pt_cmpR op_lt (pv 1) (pe_callB call_len_seq rfl T.z_len PySem.boot_len (pa_cons (pv 0) pa_nil)) (nomark _))
      (@pss_one _ _ _ (@ps_ret _ _ _ _ (@pe_ix _ _ _ _ _ _ _ ix_list (pv 0) (pv 1) (fun _ _ => rfl))))
      pss_nil)
    (@pss_one _ _ _ (@ps_ret _ _ _ _ pe_int))), ?_⟩
  rw [show start ["_law_script", "_law_k"] [V.ref a, V.int k] = [some (V.ref a), some (V.int k)] from rfl]
  walk_at "go"
  rw [List.length_map]
  split
  · rename_i hk
    exact ixL_of hS (atI_of h0 (getMap (by omega))) q
  · rename_i hk
    rw [List.getD_eq_getElem?_getD, List.getElem?_eq_none (by omega)] at q
    walk_at "go"
    exact q
theorem ok_l_mix {f : Addr} {fd : FuncData} (F : Fun K "_law_mix" "_law_mix" s_l_mix f fd) (T : Txt K mg xStock xTower xPrompt)  : FnOk P w K mg base CX0 1 f fd ["_law_cell", "_law_k"] (sp75_mix) := by
  have sc : FnScope ["_law_cell", "_law_k", "_law_number"] ["_law_cell", "_law_k"] (defScope s_l_mix) := ⟨rfl, rfl, rfl, by decide +kernel, rfl, by decide +kernel, by decide +kernel⟩
  refine F.ok sc (fun vs H Q E h => ?_) (fun cdv A outer s H vs Q E hr h => ?_)
  · obtain ⟨c, k, rfl, hk0, hk1, q⟩ := h; rfl
  obtain ⟨c, k, rfl, hk0, hk1, q⟩ := h
  refine ⟨_, (@pss_cons _ _ _ _ _ (ps_set (i := 2) sc.nd rfl (Or.inl rfl) (pe_op op_add (pe_op op_add (pe_op op_mod (pv 0) pe_int) (pe_op op_mul pe_int (pv 1))) pe_int))
    (@pss_one _ _ _ (@ps_ret _ _ _ _ (pe_op op_mod (pe_op op_mul (pe_op op_mod (pe_op op_mulB (pv 2) (pv 2)) pe_int) pe_int) pe_int)))), ?_⟩
  rw [show start ["_law_cell", "_law_k", "_law_number"] [V.int c, V.int k] = [some (V.int c), some (V.int k), none] from rfl]
  have hx0 := Int.emod_nonneg c (show (1000000007 : Int) ≠ 0 by decide)
  have hx1 := Int.emod_lt_of_pos c (show (0 : Int) < 1000000007 by decide)
  unfold mixF at q
  walk_at "go"
  have big : (c % 1000000007 + 7919 * k + 1).natAbs < 10 ^ 100 := by omega
  generalize c % 1000000007 + 7919 * k + 1 = u at big q ⊢
  have hy0 := Int.emod_nonneg (u * u) (show (2147483647 : Int) ≠ 0 by decide)
  have hy1 := Int.emod_lt_of_pos (u * u) (show (0 : Int) < 2147483647 by decide)
  exact ⟨⟨big, big⟩, by decide, cmul_r (by omega) (by omega), by decide, q (Int.emod_nonneg _ (by decide)) (Int.emod_lt_of_pos _ (by decide))⟩
theorem ok_l_names {f : Addr} {fd : FuncData} (F : Fun K "_law_names" "_law_names" s_l_names f fd) (T : Txt K mg xStock xTower xPrompt)  : FnOk P w K mg base CX0 1 f fd ["_law_cell", "_law_many"] (sp12_names) := by
  have sc : FnScope ["_law_cell", "_law_many", "_law_letters", "_law_long", "_law_at", "_law_names_here", "_law_k", "_law_name", "_law_j", "_law_signs", "_law_sign"] ["_law_cell", "_law_many"] (defScope s_l_names) := ⟨rfl, rfl, rfl, by decide +kernel, rfl, by decide +kernel, by decide +kernel⟩
  refine F.ok sc (fun vs H Q E h => ?_) (fun cdv A outer s H vs Q E hr h => ?_)
  · obtain ⟨i, m, rfl, hm, q⟩ := h; rfl
  obtain ⟨i, m, rfl, hm, q⟩ := h
  refine ⟨_, (@pss_cons _ _ _ _ _ (ps_set (i := 2) sc.nd rfl (Or.inl rfl) pe_str)
    (@pss_cons _ _ _ _ _ (ps_set (i := 3) sc.nd rfl (Or.inl rfl) (pe_op op_add pe_int (pe_op op_mod (pv 0) pe_int)))
    (@pss_cons _ _ _ _ _ (ps_set (i := 4) sc.nd rfl (Or.inl rfl) (pe_op op_mod (pe_op op_fdiv (pv 0) pe_int) (pv 3)))
    (@pss_cons _ _ _ _ _ (ps_set (i := 5) sc.nd rfl (Or.inl rfl) (@pe_lst _ _ _ _ pa_nil))
    (@pss_cons _ _ _ _ _ (ps_for PassesOwn.never rfl (pi_range1 rfl T.z_range (pa_cons (pv 1) pa_nil)) (pg_name (i := 6) sc.nd rfl (Or.inl rfl))
      (@pss_cons _ _ _ _ _ (ps_set (i := 7) sc.nd rfl (Or.inl rfl) pe_str)
      (@pss_cons _ _ _ _ _ (ps_for PassesOwn.never rfl (pi_range1 rfl T.z_range (pa_cons (pv 3) pa_nil)) (pg_name (i := 8) sc.nd rfl (Or.inl rfl))
        (@pss_cons _ _ _ _ _ (ps_set (i := 9) sc.nd rfl (Or.inl rfl) (pv 2))
        (@pss_cons _ _ _ _ _ (ps_if (pt_cmpR op_gt (pv 8) pe_int (nomark _))
          (@pss_one _ _ _ (ps_set (i := 9) sc.nd rfl (Or.inl rfl) (pe_op op_add_str (pv 2) pe_str)))
          pss_nil)
        (@pss_cons _ _ _ _ _ (ps_set (i := 10) sc.nd rfl (Or.inl rfl) (pe_op op_add (pe_op op_fdivB (pv 0) (pe_op op_add pe_int (pe_op op_mul pe_int (pv 8)))) (pe_op op_mulB (pe_callTy call_int1 rfl T.z_int (by first | rfl | decide +kernel) (pa_cons (pe_cmpR op_eq (pv 8) (pv 4) (nomark _)) pa_nil)) (pv 6))))
        (@pss_one _ _ _ (ps_set (i := 7) sc.nd rfl (Or.inl rfl) (pe_op op_add_str (pv 7) (@pe_ix _ _ _ _ _ _ _ ix_str (pv 9) (pe_op op_mod (pv 10) (pe_callB call_len_str rfl T.z_len PySem.boot_len (pa_cons (pv 9) pa_nil))) (fun _ _ => rfl)))))))))
      (@pss_one _ _ _ (ps_expr (pe_bm PySem.F.plainAttrs_list PySem.F.slot_list_append PySem.F.type_list_append mt_append (pv 5) (pa_cons (pv 7) pa_nil)))))))
    (@pss_cons _ _ _ _ _ (ps_if (PW.pt (pw_and (pt_cmpR op_gt (pv 1) pe_int (nomark _)) (pw_and (pt_cmpR op_lt (pv 3) pe_int (nomark _)) (pw_and1 (pt_cmpR op_eq (pe_op op_mod (pe_op op_fdiv (pv 0) pe_int) pe_int) pe_int (nomark _))))))
      (@pss_one _ _ _ (ps_asg (pe_op op_add_str (@pe_ix _ _ _ _ _ _ _ ix_list (pv 5) pe_int (fun _ _ => rfl)) pe_str) (pg_sub (pv 5) (pe_op op_sub (pv 1) pe_int) set_list)))
      pss_nil)
    (@pss_one _ _ _ (@ps_ret _ _ _ _ (pv 5))))))))), ?_⟩
  rw [show start ["_law_cell", "_law_many", "_law_letters", "_law_long", "_law_at", "_law_names_here", "_law_k", "_law_name", "_law_j", "_law_signs", "_law_sign"] [V.int i, V.int m] = [some (V.int i), some (V.int m), none, none, none, none, none, none, none, none, none] from rfl]
  have line := line_val
  have ll := let_len
  have fl := fig_len
  have bl := both_length
  have hL1 : 1 ≤ (1 + i % 8).toNat := by omega
  have hL8 : (1 + i % 8).toNat ≤ 8 := by omega
  have h8 : (1 + i % 8) = ((1 + i % 8).toNat : Int) := by omega
  walk_at "go"
  rw [h8]
  clear h8
  generalize (1 + i % 8).toNat = L at hL1 hL8 ⊢
  have ha0 := Int.emod_nonneg (i / 8) (show (L : Int) ≠ 0 by omega)
  have ha1 := Int.emod_lt_of_pos (i / 8) (show (0 : Int) < L by omega)
  walk_at "go"
  generalize i / 8 % (L : Int) = at' at ha0 ha1 ⊢
  intro p hp
  walk_at "go"
  refine forR_by (fun k σ H' => ∃ (v6 v7 v8 v9 v10 : Option V), σ = [some (V.int i), some (V.int m), some (V.str (Str.ofString "abcdefghijklmnopqrstuvwxyz")), some (V.int L), some (V.int at'), some (V.ref p), v6, v7, v8, v9, v10] ∧ H' = upd H p (.lst (((List.range k).map fun k => tx (nm3 (fun j : Nat => i.fdiv (64 + 7 * (j : Int))) at' L k)).map V.str))) ⟨none, none, none, none, none, rfl, rfl⟩ ?_ ?_
  · rintro k σ H' hk ⟨v6, v7, v8, v9, v10, rfl, rfl⟩
    have hlen : (((List.range k).map fun k => tx (nm3 (fun j : Nat => i.fdiv (64 + 7 * (j : Int))) at' L k)).map V.str).length = k := by simp
    walk_at "go"
    rename_i rest hrest
    refine forR_by (fun j σ H' => ∃ (v8 v9 v10 : Option V), σ = [some (V.int i), some (V.int m), some (V.str (Str.ofString "abcdefghijklmnopqrstuvwxyz")), some (V.int L), some (V.int at'), some (V.ref p), some (V.int k), some (V.str (tx (nmL (fun j : Nat => i.fdiv (64 + 7 * (j : Int))) at' j k))), v8, v9, v10] ∧ H' = upd H p (.lst (((List.range k).map fun k => tx (nm3 (fun j : Nat => i.fdiv (64 + 7 * (j : Int))) at' L k)).map V.str))) ⟨v8, v9, v10, rfl, rfl⟩ ?_ ?_
    · rintro j σ H' hj ⟨v8, v9, v10, rfl, rfl⟩
      have hzl : (tx (nmL (fun j : Nat => i.fdiv (64 + 7 * (j : Int))) at' j k)).length ≤ 8 := by rw [T_len, nmL_len]; omega
      rw [nmL_succ]
      generalize upd H p (.lst (((List.range k).map fun k => tx (nm3 (fun j : Nat => i.fdiv (64 + 7 * (j : Int))) at' L k)).map V.str)) = Hp'
      generalize nmL (fun j : Nat => i.fdiv (64 + 7 * (j : Int))) at' j k = zl at hzl ⊢
      unfold sgn md
      walk_at "go"
      rename_i rest hrest
      have key2 : ∀ (z : Str) (M : Nat), 0 < M → M ≤ 36 → z.length = M → (∀ x : Int, atI z.cps.toList (x % M) = some (bc (x % M))) → (M : Int) = (if j = 0 then 26 else 36) → rest [some (V.int i), some (V.int m), some (V.str (Str.ofString "abcdefghijklmnopqrstuvwxyz")), some (V.int L), some (V.int at'), some (V.ref p), some (V.int k), some (V.str (tx zl)), some (V.int j), some (V.str z), v10] Hp' := by
        intro z M hM0 hM1 hzM hix hMj
        subst hrest
        rw [← hMj]
        clear hMj
        walk_at "go"
        refine ⟨⟨by split <;> decide, by omega⟩, ?_⟩
        walk_at "go"
        refine ixS_of (by omega) (hix _) ⟨_, rfl, by rw [len_one]; omega, ?_, rfl⟩
        have e : (if (j : Int) = at' then (1 : Int) else 0) * k = if (j : Int) = at' then (k : Int) else 0 := by split <;> simp
        rw [T_one, T_app, e]
      clear hrest
      split
      · rename_i hj0
        refine ⟨by omega, ?_⟩
        rw [both_app]
        exact key2 _ 36 (by decide) (by decide) bl (fun x => ix_bc x (by decide) (by decide)) (by rw [if_neg (by omega)]; rfl)
      · rename_i hj0
        exact key2 _ 26 (by decide) (by decide) ll (fun x => ix_let x) (by rw [if_pos (by omega)]; rfl)
    · rintro σ H' ⟨v8, v9, v10, rfl, rfl⟩
      subst hrest
      walk_at "go"
      have hz3 : tx (nmL (fun j : Nat => i.fdiv (64 + 7 * (j : Int))) at' L k) = tx (nm3 (fun j : Nat => i.fdiv (64 + 7 * (j : Int))) at' L k) ∧ True := by
        unfold nm3
        rw [if_neg (by omega), List.append_nil]
        exact ⟨rfl, trivial⟩
      rw [hz3.1]
      refine ⟨.inl ⟨rfl, _, SqL.of upd_same⟩, p, _, _, rfl, rfl, upd_same, by rw [hlen]; omega, ?_⟩
      walk_at "go"
      congr 2
      rw [List.range_succ, List.map_append, List.map_append]
      rfl
  · rintro σ H' ⟨v6, v7, v8, v9, v10, rfl, rfl⟩
    have ndA : ((List.range m).map fun k => tx (nm3 (fun j : Nat => i.fdiv (64 + 7 * (j : Int))) at' L k)).Nodup := tx_nodup fun a b ha hb e => nm3_inj ha0 ha1 (by omega) (by omega) e
    have nmA : ∀ y ∈ (List.range m).map fun k => tx (nm3 (fun j : Nat => i.fdiv (64 + 7 * (j : Int))) at' L k), nameB y.cps.toList = true ∧ y.length ≤ L ∧ L ≤ y.length := fun y hy => by
      obtain ⟨k, hk, rfl⟩ := List.mem_map.mp hy
      have := List.mem_range.mp hk
      rw [T_list, T_len]
      have e : nm3 (fun j : Nat => i.fdiv (64 + 7 * (j : Int))) at' L k = nmL (fun j : Nat => i.fdiv (64 + 7 * (j : Int))) at' L k := by unfold nm3; rw [if_neg (by omega), List.append_nil]
      refine ⟨nm3_name hL1 hL8 (fun h => by omega) (by omega), ?_⟩
      rw [e, nmL_len]; omega
    have lnA : ((List.range m).map fun k => tx (nm3 (fun j : Nat => i.fdiv (64 + 7 * (j : Int))) at' L k)).length ≤ m ∧ m ≤ ((List.range m).map fun k => tx (nm3 (fun j : Nat => i.fdiv (64 + 7 * (j : Int))) at' L k)).length := by simp
    generalize ((List.range m).map fun k => tx (nm3 (fun j : Nat => i.fdiv (64 + 7 * (j : Int))) at' L k)) = ys at ndA nmA lnA ⊢
    walk_at "go"
    rename_i rest hrest
    have key : ∀ zs : List Str, zs.length ≤ m → m ≤ zs.length → zs.Nodup → (∀ y ∈ zs, nameB y.cps.toList = true) → rest [some (V.int i), some (V.int m), some (V.str (Str.ofString "abcdefghijklmnopqrstuvwxyz")), some (V.int L), some (V.int at'), some (V.ref p), v6, v7, v8, v9, v10] (upd H p (.lst (zs.map V.str))) := by
      intro zs g1 g2 g3 g4
      subst hrest
      walk_at "go"
      exact q p zs _ hp (Same.new hp) upd_same g1 g2 g3 g4
    clear hrest
    have key0 := key ys lnA.1 lnA.2 ndA fun y hy => (nmA y hy).1
    split
    · rename_i hm1
      split
      · rename_i hL7
        refine ⟨cdiv_of (by decide) (by decide), by decide, ?_⟩
        split
        · have h0 : ys[0]? = some (ys.getD 0 Str.empty) := by rw [List.getD_eq_getElem?_getD, List.getElem?_eq_getElem (by omega)]; rfl
          have hin := List.mem_of_getElem? h0
          obtain ⟨n1, n2, n3⟩ := nmA _ hin
          obtain ⟨sv, sl⟩ := seven
          refine ixL_of (SqL.of upd_same) (v := V.str (ys.getD 0 Str.empty)) (atI_of (by decide) (by rw [show (0 : Int).toNat = 0 from rfl, List.getElem?_map, h0]; rfl)) ⟨_, rfl, by omega, ?_⟩
          generalize ys.getD 0 Str.empty = y0 at n1 n2 n3 ⊢
          walk_at "go"
          refine ⟨_, upd_same, m - 1, ?_, ?_⟩
          · rw [List.length_map, show ((m : Int) - 1) = ((m - 1 : Nat) : Int) by omega]
            exact ixN_at (by omega)
          · walk_at "go"
            have hzl : (y0 ++ Str.ofString "7").length = y0.length + 1 ∧ True := ⟨by rw [← str_len, app_list, List.length_append, str_len, sv]; rfl, trivial⟩
            rw [← List.map_set]
            refine key _ (by rw [List.length_set]; omega) (by rw [List.length_set]; omega) (nodup_set ndA (fun h => by have := nmA _ h; omega) _) fun y hy => ?_
            rcases List.mem_or_eq_of_mem_set hy with h | h
            · exact (nmA y h).1
            · rw [h, app_list, sv]
              exact name_more n1 (by rw [str_len]; omega) (by decide)
        · exact key0
      · exact key0
    · exact key0
theorem ok_l_sizes {f : Addr} {fd : FuncData} (F : Fun K "_law_sizes" "_law_sizes" s_l_sizes f fd) (T : Txt K mg xStock xTower xPrompt) (D_l_mix : Def P w K mg base CX0 1 "_law_mix" ["_law_cell", "_law_k"] (sp75_mix)) : FnOk P w K mg base CX0 2 f fd ["_law_cell"] (sp71_lsizes) := by
  have sc : FnScope ["_law_cell", "_law_sizes_here", "_law_k"] ["_law_cell"] (defScope s_l_sizes) := ⟨rfl, rfl, rfl, by decide +kernel, rfl, by decide +kernel, by decide +kernel⟩
  refine F.ok sc (fun vs H Q E h => ?_) (fun cdv A outer s H vs Q E hr h => ?_)
  · obtain ⟨c, rfl, q⟩ := h; rfl
  obtain ⟨c, rfl, q⟩ := h
  refine ⟨_, (@pss_cons _ _ _ _ _ (ps_set (i := 1) sc.nd rfl (Or.inl rfl) (@pe_lst _ _ _ _ pa_nil))
    (@pss_cons _ _ _ _ _ (ps_for PassesOwn.never rfl (pi_range1 rfl T.z_range (pa_cons (pe_op op_add pe_int (pe_op op_mod (pv 0) pe_int)) pa_nil)) (pg_name (i := 2) sc.nd rfl (Or.inl rfl))
      (@pss_one _ _ _ (ps_expr (pe_bm PySem.F.plainAttrs_list PySem.F.slot_list_append PySem.F.type_list_append mt_append (pv 1) (pa_cons (pe_op op_add pe_int (pe_op op_mod (pe_callD D_l_mix hr rfl pass0 (pa_cons (pe_op op_fdiv (pv 0) pe_int) (pa_cons (pv 2) pa_nil))) (@pe_ix _ _ _ _ _ _ _ ix_list (@pe_lst _ _ _ _ (@pa_consK _ _ _ _ _ _ _ pe_int (@pa_consK _ _ _ _ _ _ _ pe_int (@pa_consK _ _ _ _ _ _ _ pe_int (@pa_consK _ _ _ _ _ _ _ pe_int pa_nil))))) (pe_op op_mod (pe_op op_fdiv (pv 0) pe_int) pe_int) (fun _ _ => rfl)))) pa_nil)))))
    (@pss_cons _ _ _ _ _ (ps_if (pt_cmpR op_eq (pe_op op_mod (pe_op op_fdiv (pv 0) pe_int) pe_int) pe_int (nomark _))
      (@pss_one _ _ _ (ps_asg (pe_op op_pow pe_int pe_int) (pg_sub (pv 1) (pe_op op_mod (pe_op op_fdiv (pv 0) pe_int) (pe_callB call_len_seq rfl T.z_len PySem.boot_len (pa_cons (pv 1) pa_nil))) set_list)))
      pss_nil)
    (@pss_one _ _ _ (@ps_ret _ _ _ _ (pv 1)))))), ?_⟩
  rw [show start ["_law_cell", "_law_sizes_here", "_law_k"] [V.int c] = [some (V.int c), none, none] from rfl]
  have line := line_val
  walk_at "go"
  intro p hp
  walk_at "go"
  have sm0 : Same H (upd H p (.lst [])) := Same.new hp
  have hp0 : upd H p (.lst []) p = some (.lst []) := upd_same
  generalize upd H p (.lst []) = H0 at sm0 hp0 ⊢
  have hL1 : 1 ≤ (1 + c % 6).toNat := by omega
  have hL6 : (1 + c % 6).toNat ≤ 6 := by omega
  generalize (1 + c % 6).toNat = L at hL1 hL6 ⊢
  rename_i rest hrest
  refine forR_by (fun k σ H' => ∃ (zs : List Int) (v2 : Option V), σ = [some (V.int c), some (V.ref p), v2] ∧ Same H H' ∧ H' p = some (.lst (zs.map V.int)) ∧ zs.length ≤ k ∧ k ≤ zs.length ∧ (∀ z ∈ zs, 1 ≤ z ∧ z ≤ 1000000)) ⟨[], none, rfl, sm0, hp0, Nat.le_refl _, Nat.le_refl _, (fun z hz => by cases hz)⟩ ?_ ?_
  · rintro k σ H' hk ⟨zs, v2, rfl, sm, hp', hl1, hl2, hz⟩
    walk_at "go"
    refine ⟨.inl ⟨rfl, _, SqL.of hp'⟩, cdiv_of (by omega) (by omega), by omega, by omega, fun hv hv1 => ⟨by omega, fun p1 hp1 => ⟨cdiv_of (by omega) (by omega), by decide, ?_⟩⟩⟩
    generalize mixF (c / 6) (k : Int) = v at hv hv1 ⊢
    obtain ⟨y, hy, hm⟩ := atI_in (xs := [V.int 1, V.int 3, V.int 4, V.int 9]) (i := c / 6 % 4) (by omega) (by show _ < ((4 : Nat) : Int); omega)
    refine ixL_of (SqL.of upd_same) hy ?_
    have hm' : ∃ j : Int, y = V.int j ∧ 0 < j ∧ j ≤ 9 := by
      simp only [List.mem_cons, List.not_mem_nil, or_false] at hm
      rcases hm with rfl | rfl | rfl | rfl
      · exact ⟨_, rfl, by omega, by omega⟩
      · exact ⟨_, rfl, by omega, by omega⟩
      · exact ⟨_, rfl, by omega, by omega⟩
      · exact ⟨_, rfl, by omega, by omega⟩
    obtain ⟨j, rfl, hj0, hj9⟩ := hm'
    have hb1 := Int.emod_nonneg v (show j ≠ 0 by omega)
    have hb2 := Int.emod_lt_of_pos v hj0
    have npp : p ≠ p1 := ne_of_none hp' hp1
    have hpn : upd H' p1 (.lst [V.int 1, V.int 3, V.int 4, V.int 9]) p = some (.lst (zs.map V.int)) := by rw [upd_ne npp]; exact hp'
    refine ⟨j, rfl, hj0, p, _, _, rfl, rfl, hpn, by rw [List.length_map]; omega, ?_, zs ++ [1 + v % j], ?_, ?_, ?_, ?_⟩
    · intro b o e
      rw [upd_ne (ne_of_none e hp), upd_ne (ne_of_none (sm _ _ e) hp1)]; exact sm _ _ e
    · rw [upd_same, List.map_append]; rfl
    · rw [List.length_append]; show zs.length + 1 ≤ k + 1; omega
    · rw [List.length_append]; show k + 1 ≤ zs.length + 1; omega
    · intro z hzz
      rcases List.mem_append.mp hzz with h | h
      · exact hz z h
      · rw [List.mem_singleton.mp h]; omega
  · rintro σ H' ⟨zs, v2, rfl, sm, hp', hl1, hl2, hz⟩
    walk_at "go"
    rename_i rest2 hrest2
    have key : ∀ (ys : List Int) (H2 : Hp), Same H H2 → H2 p = some (.lst (ys.map V.int)) → 1 ≤ ys.length → ys.length ≤ 6 → (∀ z ∈ ys, 1 ≤ z ∧ z ≤ 1000000) → rest2 [some (V.int c), some (V.ref p), v2] H2 := by
      intro ys H2 sm2 hp2 h1 h6 hy
      subst hrest2
      walk_at "go"
      exact q p ys H2 hp sm2 hp2 h1 h6 hy
    clear hrest2
    split
    · have hn0 := Int.emod_nonneg (c / 90) (show (((zs.map V.int).length : Nat) : Int) ≠ 0 by rw [List.length_map]; omega)
      have hn1 := Int.emod_lt_of_pos (c / 90) (show (0 : Int) < (((zs.map V.int).length : Nat) : Int) by rw [List.length_map]; omega)
      have ej : ixN (zs.map V.int).length (c / 90 % (((zs.map V.int).length : Nat) : Int)) = some (c / 90 % (((zs.map V.int).length : Nat) : Int)).toNat := by
        unfold ixN; rw [if_pos hn0, if_pos hn1]
      refine ⟨cpow_of (by omega) (by omega) (by decide), cdiv_of (by omega) (by omega), _, .inl (SqL.of hp'), by rw [List.length_map]; omega, _, hp', _, ej, ?_⟩
      generalize (c / 90 % (((zs.map V.int).length : Nat) : Int)).toNat = j
      refine key (zs.set j (10 ^ 6)) _ (fun b o e => by rw [upd_ne (ne_of_none e hp)]; exact sm _ _ e) (by rw [upd_same, List.map_set]) (by rw [List.length_set]; omega) (by rw [List.length_set]; omega) fun z h => ?_
      rcases List.mem_or_eq_of_mem_set h with h | h
      · exact hz z h
      · rw [h]; exact ⟨by decide, by decide⟩
    · exact key zs H' sm hp' (by omega) (by omega) hz
theorem ok_l_value {f : Addr} {fd : FuncData} (F : Fun K "_law_value" "_law_value" s_l_value f fd) (T : Txt K mg xStock xTower xPrompt) (D_l_mix : Def P w K mg base CX0 1 "_law_mix" ["_law_cell", "_law_k"] (sp75_mix)) : FnOk P w K mg base CX0 2 f fd ["_law_cell", "_law_k"] (sp75_value) := by
  have sc : FnScope ["_law_cell", "_law_k", "_law_number"] ["_law_cell", "_law_k"] (defScope s_l_value) := ⟨rfl, rfl, rfl, by decide +kernel, rfl, by decide +kernel, by decide +kernel⟩
  refine F.ok sc (fun vs H Q E h => ?_) (fun cdv A outer s H vs Q E hr h => ?_)
  · obtain ⟨c, k, rfl, hk, q⟩ := h; rfl
  obtain ⟨c, k, rfl, hk, q⟩ := h
  refine ⟨_, (@pss_cons _ _ _ _ _ (ps_set (i := 2) sc.nd rfl (Or.inl rfl) (pe_callD D_l_mix hr rfl pass0 (pa_cons (pv 0) (pa_cons (pv 1) pa_nil))))
    (@pss_cons _ _ _ _ _ (ps_if (pt_cmpR op_eq (pe_op op_mod (pv 2) pe_int) pe_int (nomark _))
      (@pss_one _ _ _ (@ps_ret _ _ _ _ (@pe_ix _ _ _ _ _ _ _ ix_list (@pe_lst _ _ _ _ (pa_cons (pe_op op_pow pe_int pe_int) (pa_cons (pe_un un_neg (pe_op op_pow pe_int pe_int)) (pa_cons pe_int pa_nil)))) (pe_op op_mod (pe_op op_fdiv (pv 2) pe_int) pe_int) (fun _ _ => rfl))))
      pss_nil)
    (@pss_cons _ _ _ _ _ (ps_if (pt_cmpR op_eq (pe_op op_mod (pv 2) pe_int) pe_int (nomark _))
      (@pss_one _ _ _ (@ps_ret _ _ _ _ (pe_op op_sub (pe_op op_mod (pe_op op_fdiv (pv 2) pe_int) pe_int) pe_int)))
      pss_nil)
    (@pss_one _ _ _ (@ps_ret _ _ _ _ (pe_op op_sub (pe_op op_mod (pe_op op_pow (pv 2) pe_int) (pe_op op_add (pe_op op_mul pe_int (pe_op op_pow pe_int pe_int)) pe_int)) (pe_op op_pow pe_int pe_int))))))), ?_⟩
  rw [show start ["_law_cell", "_law_k", "_law_number"] [V.int c, V.int k] = [some (V.int c), some (V.int k), none] from rfl]
  have line := line_val
  walk_at "go"
  intro hv hv1
  generalize mixF c (k : Int) = v at hv hv1 q ⊢
  walk_at "go"
  by_cases h5 : v % 11 = 5
  · rw [if_pos h5]
    have hq : ∀ (H' : Hp), Same H H' → Q (.int (valL (v / 11 % 3))) H' := fun H' sm => by
      have e : valM v = valL (v / 11 % 3) := if_pos h5
      rw [e] at q
      refine q H' ?_ ?_ sm
      · unfold valL; split; (· decide); split; (· decide); decide
      · unfold valL; split; (· decide); split; (· decide); decide
    refine ⟨cpow_of (by omega) (by omega) (by decide), cpow_of (by omega) (by omega) (by decide), by omega, fun p hp => ⟨cdiv_of (by omega) (by omega), by decide, ?_⟩⟩
    have h3 : v / 11 % 3 = 0 ∨ v / 11 % 3 = 1 ∨ v / 11 % 3 = 2 := by omega
    rcases h3 with e | e | e
    · rw [e] at hq ⊢; exact ixL_of (SqL.of upd_same) (v := V.int (10 ^ 30)) rfl (hq _ (Same.new hp))
    · rw [e] at hq ⊢; exact ixL_of (SqL.of upd_same) (v := V.int (-10 ^ 30)) rfl (hq _ (Same.new hp))
    · rw [e] at hq ⊢; exact ixL_of (SqL.of upd_same) (v := V.int 0) rfl (hq _ (Same.new hp))
  · rw [if_neg h5]
    rename_i rest hrest
    subst hrest
    walk_at "go"
    by_cases h3 : v % 3 = 0
    · rw [if_pos h3]
      have e : valM v = v / 3 % 7 - 3 := by unfold valM; rw [if_neg h5, if_pos h3]
      rw [e] at q
      exact ⟨cdiv_of (by omega) (by omega), by decide, q _ (by omega) (by omega) (Same.refl H)⟩
    · rw [if_neg h3]
      have e : valM v = v ^ 5 % (2 * 10 ^ 30 + 1) - 10 ^ 30 := by unfold valM; rw [if_neg h5, if_neg h3]
      rw [e] at q
      have hb0 := Int.emod_nonneg (v ^ 5) (show (2 * 10 ^ 30 + 1 : Int) ≠ 0 by decide)
      have hb1 := Int.emod_lt_of_pos (v ^ 5) (show (0 : Int) < 2 * 10 ^ 30 + 1 by decide)
      rename_i rest hrest
      subst hrest
      walk_at "go"
      refine ⟨cpow_of (by omega) (by omega) (by omega), cpow_of (by omega) (by omega) (by decide), .inl ⟨by decide, by decide⟩, by decide, cpow_of (by omega) (by omega) (by decide), ?_⟩
      generalize v ^ 5 % (2 * 10 ^ 30 + 1) = u at hb0 hb1 q ⊢
      exact q _ (by omega) (by omega) (Same.refl H)
theorem ok_l_done {f : Addr} {fd : FuncData} (F : Fun K "_law_done" "_law_done" s_l_done f fd) (T : Txt K mg xStock xTower xPrompt) (D_Tower_read : DefM P w K mg base CX0 6 xTower "read" ["self", "name"] (sp79_read K xTower xStock)) (D_Prompt_read : DefM P w K mg base CX0 6 xPrompt "read" ["self", "name"] (sp79_read K xPrompt xStock)) (D_Tower_keep : DefM P w K mg base CX0 6 xTower "keep" ["self", "name", "value"] (sp79_keep K xTower xStock false)) (D_Prompt_keep : DefM P w K mg base CX0 6 xPrompt "keep" ["self", "name", "value"] (sp79_keep K xPrompt xStock true)) (D_Tower_ahead : DefM P w K mg base CX0 6 xTower "ahead" ["self", "name"] (sp79_ahead K xTower xStock)) (D_Prompt_ahead : DefM P w K mg base CX0 6 xPrompt "ahead" ["self", "name"] (sp79_ahead K xPrompt xStock)) : FnOk P w K mg base CX0 8 f fd ["_law_tower_here", "_law_name", "_law_deed", "_law_value_here"] (sp79_done K xTower xPrompt xStock) := by
  have sc : FnScope ["_law_tower_here", "_law_name", "_law_deed", "_law_value_here"] ["_law_tower_here", "_law_name", "_law_deed", "_law_value_here"] (defScope s_l_done) := ⟨rfl, rfl, rfl, by decide +kernel, rfl, by decide +kernel, by decide +kernel⟩
  refine F.ok sc (fun vs H Q E h => ?_) (fun cdv A outer s H vs Q E hr h => ?_)
  · obtain ⟨C, t, z, d, v, pr, x, s, g, ts, B, rfl, hC, hW, hz, hB, hd0, hd6, hv1, hv2, q⟩ := h; rfl
  obtain ⟨C, t, z, d, v, pr, x, s, g, ts, B, rfl, hC, hW, hz, hB, hd0, hd6, hv1, hv2, q⟩ := h
  refine ⟨_, (@pss_cons _ _ _ _ _ (ps_if (pt_cmpR op_lt (pv 2) pe_int (nomark _))
      (@pss_one _ _ _ (@ps_ret _ _ _ _ (pe_or2 (pe_methS D_Tower_read T.cl_Tower hr (passS pass0) (pv 0) (pa_cons (pv 1) pa_nil)) (pe_methS D_Prompt_read T.cl_Prompt hr (passS pass0) (pv 0) (pa_cons (pv 1) pa_nil)))))
      pss_nil)
    (@pss_cons _ _ _ _ _ (ps_if (pt_cmpR op_lt (pv 2) pe_int (nomark _))
      (@pss_cons _ _ _ _ _ (ps_expr (pe_or2 (pe_methS D_Tower_keep T.cl_Tower hr (passS pass0) (pv 0) (pa_cons (pv 1) (pa_cons (pv 3) pa_nil))) (pe_methS D_Prompt_keep T.cl_Prompt hr (passS pass0) (pv 0) (pa_cons (pv 1) (pa_cons (pv 3) pa_nil)))))
      (@pss_one _ _ _ (@ps_ret _ _ _ _ (pv 3))))
      pss_nil)
    (@pss_one _ _ _ (@ps_ret _ _ _ _ (pe_or2 (pe_methS D_Tower_ahead T.cl_Tower hr (passS pass0) (pv 0) (pa_cons (pv 1) pa_nil)) (pe_methS D_Prompt_ahead T.cl_Prompt hr (passS pass0) (pv 0) (pa_cons (pv 1) pa_nil))))))), ?_⟩
  rw [show start ["_law_tower_here", "_law_name", "_law_deed", "_law_value_here"] [V.ref t, V.str z, V.int d, V.int v] = [some (V.ref t), some (V.str z), some (V.int d), some (V.int v)] from rfl]
  have line := line_val
  obtain ⟨dx, fs, ho, hf⟩ := hW.to.tw.o
  have up : ∀ (s' : TwS) (g' : Gt) (H' : Hp) (n : Nat), n ≤ 100 → TowG K C xStock H' t x s' g' ts (B + n) → TowG K C xStock H' t x s' g' ts (B + 100) := fun s' g' H' n hn tw => tw.up (by omega) (by omega)
  have q1 : d < 3 → ∀ (s' : TwS) (H' : Hp), Off (own t x) H H' → TowG K C xStock H' t x s' (readG s.zs.sum s.R z g) ts (B + 2) → s'.R = cameR z s → s'.zs = s.zs → s'.pd = s.pd + (if z ∈ s.R then 0 else costOf ts z) → s'.ff = bump s.ff (shx s.zs s.R z) → Q (.int ((readG s.zs.sum s.R z g).h z)) H' := fun h s' H' o tw e1 e2 e3 e4 => by
    have := q s' H' o (by unfold stepG; rw [if_neg (by omega), if_neg (by omega), if_pos h]; exact up _ _ _ 2 (by omega) tw) (by unfold stepR; rw [if_neg (by omega), if_neg (by omega), e1]; rfl) e2 (by
      rw [e3]
      unfold preW
      by_cases k : z ∈ s.R
      · rw [if_pos k, if_pos k]; rfl
      · rw [if_neg k, if_neg k, if_pos h]; rfl) (by unfold stepF; rw [if_pos (by omega), e4])
    rw [show stepA s.zs.sum s.R d z v g = .int ((readG s.zs.sum s.R z g).h z) by unfold stepA; rw [if_neg (by omega), if_neg (by omega), if_pos h]] at this
    exact this
  have q2 : ¬ d < 3 → d < 6 → ∀ (s' : TwS) (H' : Hp), Off (own t x) H H' → TowG K C xStock H' t x s' (keepG pr s.zs.sum s.R z v g) ts (B + 3) → s'.R = cameR z s → s'.zs = s.zs → s'.pd = s.pd → s'.ff = bump s.ff (shx s.zs s.R z) → Q (.int v) H' := fun h h' s' H' o tw e1 e2 e3 e4 => by
    have := q s' H' o (by unfold stepG; rw [if_neg (by omega), if_neg (by omega), if_neg h]; exact up _ _ _ 3 (by omega) tw) (by unfold stepR; rw [if_neg (by omega), if_neg (by omega), e1]; rfl) e2 (by
      rw [e3, show preW s.R d z = none by unfold preW; rw [if_neg h, if_neg (show ¬ d = 6 by omega)]; split <;> rfl]
      exact (Int.add_zero _).symm) (by unfold stepF; rw [if_pos h', e4])
    rw [show stepA s.zs.sum s.R d z v g = .int v by unfold stepA; rw [if_neg (by omega), if_neg (by omega), if_neg h]] at this
    exact this
  have q3 : d = 6 → ∀ (s' : TwS) (H' : Hp), Off (own t x) H H' → TowG K C xStock H' t x s' (aheadG s.zs.sum s.R z g) ts (B + 2) → s'.R = (if z ∈ s.R then s.R else cameR z s) → s'.zs = s.zs → s'.pd = s.pd + (if z ∈ s.R then 0 else costOf ts z) → s'.ff = s.ff → Q (.bl (decide (z ∉ s.R))) H' := fun h s' H' o tw e1 e2 e3 e4 => by
    have := q s' H' o (by unfold stepG; rw [if_neg (by omega), if_pos h]; exact up _ _ _ 2 (by omega) tw) (by unfold stepR; rw [if_neg (by omega), e1]; by_cases k : z ∈ s.R; (· rw [if_pos k, if_pos ⟨h, k⟩]); (· rw [if_neg k, if_neg (fun e => k e.2)]; rfl)) e2 (by
      rw [e3]
      unfold preW
      by_cases k : z ∈ s.R
      · rw [if_pos k, if_pos k]; rfl
      · rw [if_neg k, if_neg k, if_neg (show ¬ d < 3 by omega), if_pos h]; rfl) (by unfold stepF; rw [if_neg (by omega), e4])
    rw [show stepA s.zs.sum s.R d z v g = .bl (decide (z ∉ s.R)) by unfold stepA; rw [if_neg (by omega), if_pos h]] at this
    exact this
  clear q
  walk_at "go"
  by_cases h3 : d < 3
  · rw [if_pos h3]
    rcases hC with ⟨rfl, rfl⟩ | ⟨rfl, rfl⟩
    · exact .inr ⟨dx, fs, ho, hf.m _ (by simp), x, s, g, ts, B, hW, hz, hB, fun s' H' o tow e1 e2 e3 e4 => q1 h3 s' H' o tow e1 e2 e3 e4⟩
    · exact .inl ⟨dx, fs, ho, hf.m _ (by simp), x, s, g, ts, B, hW, hz, hB, fun s' H' o tow e1 e2 e3 e4 => q1 h3 s' H' o tow e1 e2 e3 e4⟩
  rw [if_neg h3]
  rename_i rest hrest
  subst hrest
  walk_at "go"
  by_cases h6 : d < 6
  · rw [if_pos h6]
    walk_at "go"
    rename_i rest hrest
    have key : ∀ (s' : TwS) (H' : Hp), Off (own t x) H H' → TowG K C xStock H' t x s' (keepG pr s.zs.sum s.R z v g) ts (B + 3) → s'.R = cameR z s → s'.zs = s.zs → s'.pd = s.pd → s'.ff = bump s.ff (shx s.zs s.R z) → rest [some (V.ref t), some (V.str z), some (V.int d), some (V.int v)] H' := fun s' H' o tow e1 e2 e3 e4 => by
      subst hrest
      walk_at "go"
      exact q2 h3 h6 s' H' o tow e1 e2 e3 e4
    clear hrest
    rcases hC with ⟨rfl, rfl⟩ | ⟨rfl, rfl⟩
    · exact .inr ⟨dx, fs, ho, hf.m _ (by simp), hv1, hv2, x, s, g, ts, B, hW, hz, hB, key⟩
    · exact .inl ⟨dx, fs, ho, hf.m _ (by simp), hv1, hv2, x, s, g, ts, B, hW, hz, hB, key⟩
  rw [if_neg h6]
  rename_i rest hrest
  subst hrest
  walk_at "go"
  rcases hC with ⟨rfl, rfl⟩ | ⟨rfl, rfl⟩
  · exact .inr ⟨dx, fs, ho, hf.m _ (by simp), x, s, g, ts, B, hW, hz, hB, fun s' H' o tow e1 e2 e3 e4 => q3 (by omega) s' H' o tow e1 e2 e3 e4⟩
  · exact .inl ⟨dx, fs, ho, hf.m _ (by simp), x, s, g, ts, B, hW, hz, hB, fun s' H' o tow e1 e2 e3 e4 => q3 (by omega) s' H' o tow e1 e2 e3 e4⟩
theorem ok_l_told {f : Addr} {fd : FuncData} (F : Fun K "_law_told" "_law_told" s_l_told f fd) (T : Txt K mg xStock xTower xPrompt) (D_Tower_levels : DefM P w K mg base CX0 1 xTower "levels" ["self"] (sp71_levels xTower)) (D_Prompt_levels : DefM P w K mg base CX0 1 xPrompt "levels" ["self"] (sp71_levels xPrompt)) (D_Tower_found : DefM P w K mg base CX0 1 xTower "found" ["self"] (sp79_found xTower)) (D_Prompt_found : DefM P w K mg base CX0 1 xPrompt "found" ["self"] (sp79_found xPrompt)) (D_Tower_spent : DefM P w K mg base CX0 1 xTower "spent" ["self"] (sp75_spent xTower)) (D_Prompt_spent : DefM P w K mg base CX0 1 xPrompt "spent" ["self"] (sp75_spent xPrompt)) : FnOk P w K mg base CX0 2 f fd ["_law_tower_here"] (sp79_told K xTower xPrompt xStock) := by
  have sc : FnScope ["_law_tower_here"] ["_law_tower_here"] (defScope s_l_told) := ⟨rfl, rfl, rfl, by decide +kernel, rfl, by decide +kernel, by decide +kernel⟩
  refine F.ok sc (fun vs H Q E h => ?_) (fun cdv A outer s H vs Q E hr h => ?_)
  · obtain ⟨C, t, x, s, g, ts, B, rfl, hC, hW, q⟩ := h; rfl
  obtain ⟨C, t, x, s, g, ts, B, rfl, hC, hW, q⟩ := h
  refine ⟨_, (@pss_one _ _ _ (@ps_ret _ _ _ _ (@pe_lst _ _ _ _ (pa_cons (pe_or2 (pe_methS0 D_Tower_levels T.cl_Tower hr (passS pass0) (pv 0)) (pe_methS0 D_Prompt_levels T.cl_Prompt hr (passS pass0) (pv 0))) (pa_cons (pe_or2 (pe_methS0 D_Tower_found T.cl_Tower hr (passS pass0) (pv 0)) (pe_methS0 D_Prompt_found T.cl_Prompt hr (passS pass0) (pv 0))) (pa_cons (pe_or2 (pe_methS0 D_Tower_spent T.cl_Tower hr (passS pass0) (pv 0)) (pe_methS0 D_Prompt_spent T.cl_Prompt hr (passS pass0) (pv 0))) pa_nil)))))), ?_⟩
  rw [show start ["_law_tower_here"] [V.ref t] = [some (V.ref t)] from rfl]
  have line := line_val
  obtain ⟨dx, fs, ho, hf⟩ := hW.to.tw.o
  have zl := hW.to.zl
  have zz := hW.to.zz
  walk_at "go"
  have fin : ∀ (p fo : Addr) (as : List Addr) (H1 H2 : Hp), H p = none → Same H H1 → H1 p = some (.lst (as.map V.ref)) → LvAt H1 as s.zs s.R s.zs.length → (∀ a ∈ as, H a = none) → H1 fo = none → Same H1 H2 → H2 fo = some (.lst (s.ff.map V.int)) → ∀ l, H2 l = none → Q (V.ref l) (upd H2 l (.lst [V.ref p, V.ref fo, V.int s.pd])) := by
    intro p fo as H1 H2 hp sm1 hp1 hA han hfo sm2 hfo2 l hl
    have smF : Same H2 (upd H2 l (.lst [V.ref p, V.ref fo, V.int s.pd])) := Same.new hl
    refine q l p fo as _ (fun b hb => ?_) ((sm1.trans sm2).trans smF) ⟨upd_same, smF _ _ (sm2 _ _ hp1), (hA.same sm2).same smF, smF _ _ hfo2⟩
    rcases List.mem_cons.mp hb with e | hb
    · rw [e]; exact none_of (sm1.trans sm2) hl
    rcases List.mem_cons.mp hb with e | hb
    · rw [e]; exact hp
    rcases List.mem_cons.mp hb with e | hb
    · rw [e]; exact none_of sm1 hfo
    · exact han b hb
  clear q
  rcases hC with rfl | rfl
  · exact .inr ⟨dx, fs, ho, hf.m _ (by simp), x, s, hW.to.tw, zl, zz, fun p as H1 hp sm1 hp1 hA han nda hpn => .inr ⟨dx, fs, sm1 _ _ ho, hf.m _ (by simp), x, s, hW.to.tw.same sm1, fun fo H2 hfo sm2 hfo2 => .inr ⟨dx, fs, sm2 _ _ (sm1 _ _ ho), hf.m _ (by simp), x, s, (hW.to.tw.same sm1).same sm2, by omega, fun l hl => fin p fo as H1 H2 hp sm1 hp1 hA han hfo sm2 hfo2 l hl⟩⟩⟩
  · exact .inl ⟨dx, fs, ho, hf.m _ (by simp), x, s, hW.to.tw, zl, zz, fun p as H1 hp sm1 hp1 hA han nda hpn => .inl ⟨dx, fs, sm1 _ _ ho, hf.m _ (by simp), x, s, hW.to.tw.same sm1, fun fo H2 hfo sm2 hfo2 => .inl ⟨dx, fs, sm2 _ _ (sm1 _ _ ho), hf.m _ (by simp), x, s, (hW.to.tw.same sm1).same sm2, by omega, fun l hl => fin p fo as H1 H2 hp sm1 hp1 hA han hfo sm2 hfo2 l hl⟩⟩⟩
theorem ok_l_came {f : Addr} {fd : FuncData} (F : Fun K "_law_came" "_law_came" s_l_came f fd) (T : Txt K mg xStock xTower xPrompt) (D_Tower_diary : DefM P w K mg base CX0 1 xTower "diary" ["self"] (sp74_diary xTower)) (D_Prompt_diary : DefM P w K mg base CX0 1 xPrompt "diary" ["self"] (sp74_diary xPrompt)) : FnOk P w K mg base CX0 2 f fd ["_law_tower_here"] (sp79_came K xTower xPrompt xStock) := by
  have sc : FnScope ["_law_tower_here"] ["_law_tower_here"] (defScope s_l_came) := ⟨rfl, rfl, rfl, by decide +kernel, rfl, by decide +kernel, by decide +kernel⟩
  refine F.ok sc (fun vs H Q E h => ?_) (fun cdv A outer s H vs Q E hr h => ?_)
  · obtain ⟨C, t, x, s, g, ts, B, rfl, hC, hW, hfm, q⟩ := h; rfl
  obtain ⟨C, t, x, s, g, ts, B, rfl, hC, hW, hfm, q⟩ := h
  refine ⟨_, (@pss_one _ _ _ (@ps_ret _ _ _ _ (pe_compI "_law_row" [] rfl rfl (pi_list (pe_or2 (pe_methS0 D_Tower_diary T.cl_Tower hr (passS pass0) (pv 0)) (pe_methS0 D_Prompt_diary T.cl_Prompt hr (passS pass0) (pv 0)))) (fun b => (pt_cmpR op_ne (@pe_ix _ _ _ _ _ _ _ ix_tup (pv 0) pe_int (fun _ _ => rfl)) pe_str (nomark _))) (fun b => (pv 0))))), ?_⟩
  rw [show start ["_law_tower_here"] [V.ref t] = [some (V.ref t)] from rfl]
  have line := line_val
  obtain ⟨dx, fs, ho, hf⟩ := hW.to.tw.o
  obtain ⟨us, eu, en⟩ := en_of hW
  have hul : us.length ≤ 100000 := by have := hW.g.es_le; rw [eu, List.length_map] at this; exact this
  walk_at "go"
  have fin : ∀ (p : Addr) (H1 : Hp), H p = none → Same H H1 → H1 p = some (.lst s.es) → (∃ xs, SqL K H1 p xs) ∧ CompTail [none] (fun x => gName 0) (fun b => tTest (tOp rNe (tOp (rIxT K) (tVar 0) (tC (V.int 0))) (tC (V.str (Str.ofString "write"))))) (fun b => tVar 0) Q (Itl K p) H1 := by
    intro p H1 hp sm1 hp1
    rw [eu] at hp1
    have en1 := en.same fun v e h => sm1 _ _ h
    refine ⟨⟨_, SqL.of hp1⟩, compL_if (xs := us.map V.ref) (rowV H1 fun e => !wrB e) (fun v => v) (SqL.of hp1) (by rw [List.length_map, sizeLine_eq]; omega) ?_ ?_ ?_⟩
    · intro b v H5 QT hx sm q'
      obtain ⟨u, hu, rfl⟩ := List.mem_map.mp hx
      obtain ⟨i, hi⟩ := List.mem_iff_getElem?.mp hu
      obtain ⟨e, he⟩ : ∃ e, g.es[i]? = some e := ⟨_, List.getElem?_eq_getElem (by rw [← en1.1]; exact (List.getElem?_eq_some_iff.mp hi).1)⟩
      have ht := en1.2 i u e hi he
      obtain ⟨w, y, tl, rfl⟩ := hfm e (List.mem_of_getElem? he)
      rw [rowV_at ht] at q'
      have q2 := q' H5 (Same.refl _)
      walk_at "go"
      refine ixT_of (SqT.of (sm _ _ ht)) (v := V.str w) (atI_nat (j := 0) rfl) ?_
      walk_at "go"
      rw [wrB_at] at q2
      exact q2
    · intro b v H5 Q' hx _ sm q'
      walk_at "go"
      exact q' _ (Same.refl _)
    · intro D H2 hD sm2 hD2
      obtain ⟨us', e1, e2⟩ := rows_filter (p := fun e => !wrB e) en1
      rw [List.map_id', e1] at hD2
      exact q D us' H2 (sm1.trans sm2) hD2 (e2.same fun v e h => sm2 _ _ h)
  clear q
  rcases hC with rfl | rfl
  · exact .inr ⟨dx, fs, ho, hf.m _ (by simp), x, s, hW.to.tw, hW.g.es_le, fin⟩
  · exact .inl ⟨dx, fs, ho, hf.m _ (by simp), x, s, hW.to.tw, hW.g.es_le, fin⟩
theorem ok_l_writes {f : Addr} {fd : FuncData} (F : Fun K "_law_writes" "_law_writes" s_l_writes f fd) (T : Txt K mg xStock xTower xPrompt) (D_Tower_diary : DefM P w K mg base CX0 1 xTower "diary" ["self"] (sp74_diary xTower)) (D_Prompt_diary : DefM P w K mg base CX0 1 xPrompt "diary" ["self"] (sp74_diary xPrompt)) : FnOk P w K mg base CX0 2 f fd ["_law_tower_here", "_law_name"] (sp79_writes K xTower xPrompt xStock) := by
  have sc : FnScope ["_law_tower_here", "_law_name"] ["_law_tower_here", "_law_name"] (defScope s_l_writes) := ⟨rfl, rfl, rfl, by decide +kernel, rfl, by decide +kernel, by decide +kernel⟩
  refine F.ok sc (fun vs H Q E h => ?_) (fun cdv A outer s H vs Q E hr h => ?_)
  · obtain ⟨C, t, z, x, s, g, ts, B, rfl, hC, hW, hfm, q⟩ := h; rfl
  obtain ⟨C, t, z, x, s, g, ts, B, rfl, hC, hW, hfm, q⟩ := h
  refine ⟨_, (@pss_one _ _ _ (@ps_ret _ _ _ _ (pe_callB call_len_seq rfl T.z_len PySem.boot_len (pa_cons (pe_compI "_law_row" [1] rfl rfl (pi_list (pe_or2 (pe_methS0 D_Tower_diary T.cl_Tower hr (passS pass0) (pv 0)) (pe_methS0 D_Prompt_diary T.cl_Prompt hr (passS pass0) (pv 0)))) (fun b => (PW.pt (pw_and (pt_cmpR op_eq (@pe_ix _ _ _ _ _ _ _ ix_tup (pv 0) pe_int (fun _ _ => rfl)) pe_str (nomark _)) (pw_and1 (pt_cmpR op_eq (@pe_ix _ _ _ _ _ _ _ ix_tup (pv 0) pe_int (fun _ _ => rfl)) (pv 1) (nomark _)))))) (fun b => (pv 0))) pa_nil)))), ?_⟩
  rw [show start ["_law_tower_here", "_law_name"] [V.ref t, V.str z] = [some (V.ref t), some (V.str z)] from rfl]
  have line := line_val
  obtain ⟨dx, fs, ho, hf⟩ := hW.to.tw.o
  obtain ⟨us, eu, en⟩ := en_of hW
  have hul : us.length ≤ 100000 := by have := hW.g.es_le; rw [eu, List.length_map] at this; exact this
  walk_at "go"
  have fin : ∀ (p : Addr) (H1 : Hp), H p = none → Same H H1 → H1 p = some (.lst s.es) → (∃ xs, SqL K H1 p xs) ∧ CompTail [none, some (V.str z)] (fun x => gName 0) (fun b => tAnd (tTest (tOp rEq (tOp (rIxT K) (tVar 0) (tC (V.int 0))) (tC (V.str (Str.ofString "write"))))) (tTest (tOp rEq (tOp (rIxT K) (tVar 0) (tC (V.int 1))) (tVar 1)))) (fun b => tVar 0) (fun x H1 => ∃ p, x = V.ref p ∧ ∃ x, (SqL K H1 p x ∨ SqT K H1 p x) ∧ Q (V.int ↑x.length) H1) (Itl K p) H1 := by
    intro p H1 hp sm1 hp1
    rw [eu] at hp1
    have en1 := en.same fun v e h => sm1 _ _ h
    refine ⟨⟨_, SqL.of hp1⟩, compL_if (xs := us.map V.ref) (rowV H1 (wzB z)) (fun v => v) (SqL.of hp1) (by rw [List.length_map, sizeLine_eq]; omega) ?_ ?_ ?_⟩
    · intro b v H5 QT hx sm q'
      obtain ⟨u, hu, rfl⟩ := List.mem_map.mp hx
      obtain ⟨i, hi⟩ := List.mem_iff_getElem?.mp hu
      obtain ⟨e, he⟩ : ∃ e, g.es[i]? = some e := ⟨_, List.getElem?_eq_getElem (by rw [← en1.1]; exact (List.getElem?_eq_some_iff.mp hi).1)⟩
      have ht := en1.2 i u e hi he
      obtain ⟨w, y, tl, rfl⟩ := hfm e (List.mem_of_getElem? he)
      rw [rowV_at ht] at q'
      have q2 := q' H5 (Same.refl _)
      walk_at "go"
      refine ixT_of (SqT.of (sm _ _ ht)) (v := V.str w) (atI_nat (j := 0) rfl) ?_
      walk_at "go"
      rw [wzB_at] at q2
      by_cases hw : w = Str.ofString "write"
      · rw [if_pos hw]
        rw [decide_eq_true hw, Bool.true_and] at q2
        refine ixT_of (SqT.of (sm _ _ ht)) (v := V.str y) (atI_nat (j := 1) rfl) ⟨rfl, ?_⟩
        rw [show decide (V.str y = V.str z) = decide (y = z) by by_cases h : y = z; (· rw [h]; simp); (· rw [decide_eq_false h, decide_eq_false (fun k => h (by cases k; rfl))])]
        exact q2
      · rw [if_neg hw]
        rw [decide_eq_false hw, Bool.false_and] at q2
        exact q2
    · intro b v H5 Q' hx _ sm q'
      walk_at "go"
      exact q' _ (Same.refl _)
    · intro D H2 hD sm2 hD2
      obtain ⟨us', e1, e2⟩ := rows_filter (p := wzB z) en1
      rw [List.map_id', e1] at hD2
      refine ⟨D, rfl, _, .inl (SqL.of hD2), ?_⟩
      rw [List.length_map, e2.1]
      exact q H2 (sm1.trans sm2)
  clear q
  rcases hC with rfl | rfl
  · exact .inr ⟨dx, fs, ho, hf.m _ (by simp), x, s, hW.to.tw, hW.g.es_le, fin⟩
  · exact .inl ⟨dx, fs, ho, hf.m _ (by simp), x, s, hW.to.tw, hW.g.es_le, fin⟩
theorem ok_l_kept {f : Addr} {fd : FuncData} (F : Fun K "_law_kept" "_law_kept" s_l_kept f fd) (T : Txt K mg xStock xTower xPrompt) (D_Tower_levels : DefM P w K mg base CX0 1 xTower "levels" ["self"] (sp71_levels xTower)) (D_l_told : Def P w K mg base CX0 2 "_law_told" ["_law_tower_here"] (sp79_told K xTower xPrompt xStock)) (D_Tower_diary : DefM P w K mg base CX0 1 xTower "diary" ["self"] (sp74_diary xTower)) (D_Tower_found : DefM P w K mg base CX0 1 xTower "found" ["self"] (sp79_found xTower)) : FnOk P w K mg base CX0 3 f fd ["_law_one", "_law_other"] (sp79_kept K xTower xPrompt xStock) := by
  have sc : FnScope ["_law_one", "_law_other", "_law_kept_here", "_law_found"] ["_law_one", "_law_other"] (defScope s_l_kept) := ⟨rfl, rfl, rfl, by decide +kernel, rfl, by decide +kernel, by decide +kernel⟩
  refine F.ok sc (fun vs H Q E h => ?_) (fun cdv A outer s H vs Q E hr h => ?_)
  · obtain ⟨t1, t2, x1, x2, s1, s2, g1, g2, ts, B, rfl, hW1, hW2, eZ, eR, hel, q⟩ := h; rfl
  obtain ⟨t1, t2, x1, x2, s1, s2, g1, g2, ts, B, rfl, hW1, hW2, eZ, eR, hel, q⟩ := h
  refine ⟨_, (@pss_cons _ _ _ _ _ (ps_set (i := 2) sc.nd rfl (Or.inl rfl) (pe_tup (pa_cons (pe_methS0 D_Tower_levels T.cl_Tower hr (passS pass0) (pv 0)) (pa_cons (@pe_ix _ _ _ _ _ _ _ ix_list (pe_callD D_l_told hr rfl pass0 (pa_cons (pv 1) pa_nil)) pe_int (fun _ _ => rfl)) (pa_cons (@pe_lst _ _ _ _ (pa_cons (pe_methS0 D_Tower_diary T.cl_Tower hr (passS pass0) (pv 0)) (pa_cons (pe_methS0 D_Tower_found T.cl_Tower hr (passS pass0) (pv 0)) pa_nil))) (pa_cons (@pe_lst _ _ _ _ (pa_cons (pe_slice sl_list (pe_methS0 D_Tower_diary T.cl_Tower hr (passS pass0) (pv 0)) po_none (po_some pe_int)) (pa_cons (pe_slice sl_list (pe_methS0 D_Tower_found T.cl_Tower hr (passS pass0) (pv 0)) po_none (po_some pe_int)) pa_nil))) pa_nil))))))
    (@pss_cons _ _ _ _ _ (ps_set (i := 3) sc.nd rfl (Or.inl rfl) (pe_methS0 D_Tower_found T.cl_Tower hr (passS pass0) (pv 0)))
    (@pss_cons _ _ _ _ _ (ps_expr (pe_bm PySem.F.plainAttrs_list PySem.F.slot_list_append PySem.F.type_list_append mt_append (pv 3) (pa_cons (pe_un un_neg pe_int) pa_nil)))
    (@pss_one _ _ _ (@ps_ret _ _ _ _ (pv 2)))))), ?_⟩
  rw [show start ["_law_one", "_law_other", "_law_kept_here", "_law_found"] [V.ref t1, V.ref t2] = [some (V.ref t1), some (V.ref t2), none, none] from rfl]
  have line := line_val
  obtain ⟨dx, fs, ho, hf⟩ := hW1.to.tw.o
  obtain ⟨us, eu, en⟩ := en_of hW1
  have hul : us.length ≤ 1000 := by rw [en.1]; exact hel
  have hfl := hW1.to.ff
  have hzl := hW1.to.zl
  walk_at "go"
  refine ⟨dx, fs, ho, hf.m _ (by simp), x1, s1, hW1.to.tw, hW1.to.zl, hW1.to.zz, fun p as H1 hp sm1 hp1 hA han nda hpn => ?_⟩
  refine ⟨xPrompt, .inl rfl, x2, s2, g2, ts, B, hW2.same sm1, fun tp lv fo bs H2 hfr sm2 told => ?_⟩
  refine ixL_of (SqL.of told.o) (v := V.ref lv) rfl ?_
  have sm02 := sm1.trans sm2
  refine ⟨dx, fs, sm02 _ _ ho, hf.m _ (by simp), x1, s1, hW1.to.tw.same sm02, hW1.g.es_le, fun d1 H3 hd1 sm3 hd13 => ?_⟩
  have sm03 := sm02.trans sm3
  refine ⟨dx, fs, sm03 _ _ ho, hf.m _ (by simp), x1, s1, hW1.to.tw.same sm03, fun f1 H4 hf1 sm4 hf14 => ⟨by omega, fun e1 he1 => ?_⟩⟩
  have sm5 : Same H4 (upd H4 e1 (.lst [V.ref d1, V.ref f1])) := Same.new he1
  have he5 : upd H4 e1 (.lst [V.ref d1, V.ref f1]) e1 = some (.lst [V.ref d1, V.ref f1]) := upd_same
  generalize upd H4 e1 (.lst [V.ref d1, V.ref f1]) = H5 at sm5 he5 ⊢
  have sm04 := sm03.trans sm4
  have sm05 := sm04.trans sm5
  refine ⟨dx, fs, sm05 _ _ ho, hf.m _ (by simp), x1, s1, hW1.to.tw.same sm05, hW1.g.es_le, fun d2 H6 hd2 sm6 hd26 => ⟨_, SqL.of hd26, fun c1 hc1 => ?_⟩⟩
  rw [eu] at hd13 hd26 ⊢
  rw [show cutV (us.map V.ref) none (some 1000) = us.map V.ref from cut_all (n := 1000) (by rw [List.length_map]; exact hul)]
  have sm7 : Same H6 (upd H6 c1 (.lst (us.map V.ref))) := Same.new hc1
  have hc7 : upd H6 c1 (.lst (us.map V.ref)) c1 = some (.lst (us.map V.ref)) := upd_same
  generalize upd H6 c1 (.lst (us.map V.ref)) = H7 at sm7 hc7 ⊢
  have sm06 := sm05.trans sm6
  have sm07 := sm06.trans sm7
  refine ⟨dx, fs, sm07 _ _ ho, hf.m _ (by simp), x1, s1, hW1.to.tw.same sm07, fun f2 H8 hf2 sm8 hf28 => ⟨_, SqL.of hf28, fun c2 hc2 => ?_⟩⟩
  rw [show cutV (s1.ff.map V.int) none (some 7) = s1.ff.map V.int from cut_all (n := 7) (by rw [List.length_map]; omega)]
  have sm9 : Same H8 (upd H8 c2 (.lst (s1.ff.map V.int))) := Same.new hc2
  have hc9 : upd H8 c2 (.lst (s1.ff.map V.int)) c2 = some (.lst (s1.ff.map V.int)) := upd_same
  generalize upd H8 c2 (.lst (s1.ff.map V.int)) = H9 at sm9 hc9 ⊢
  have sm08 := sm07.trans sm8
  have sm09 := sm08.trans sm9
  refine ⟨by omega, fun sl hsl => ?_⟩
  have sm10 : Same H9 (upd H9 sl (.lst [V.ref c1, V.ref c2])) := Same.new hsl
  have hs10 : upd H9 sl (.lst [V.ref c1, V.ref c2]) sl = some (.lst [V.ref c1, V.ref c2]) := upd_same
  generalize upd H9 sl (.lst [V.ref c1, V.ref c2]) = H10 at sm10 hs10 ⊢
  refine ⟨by omega, fun kt hkt => ?_⟩
  have sm11 : Same H10 (upd H10 kt (.tup [V.ref p, V.ref lv, V.ref e1, V.ref sl])) := Same.new hkt
  have hk11 : upd H10 kt (.tup [V.ref p, V.ref lv, V.ref e1, V.ref sl]) kt = some (.tup [V.ref p, V.ref lv, V.ref e1, V.ref sl]) := upd_same
  generalize upd H10 kt (.tup [V.ref p, V.ref lv, V.ref e1, V.ref sl]) = H11 at sm11 hk11 ⊢
  have sm010 := sm09.trans sm10
  have sm011 := sm010.trans sm11
  rename_i rest hrest
  subst hrest
  walk_at "go"
  refine ⟨dx, fs, sm011 _ _ ho, hf.m _ (by simp), x1, s1, hW1.to.tw.same sm011, fun f3 H12 hf3 sm12 hf312 => ?_⟩
  rename_i rest hrest
  subst hrest
  walk_at "go"
  refine ⟨.inl ⟨rfl, _, SqL.of hf312⟩, f3, _, _, rfl, rfl, hf312, by rw [List.length_map]; omega, ?_⟩
  have sbF : SameBut f3 H12 (upd H12 f3 (.lst (s1.ff.map V.int ++ [V.int (-1)]))) := sameBut_upd
  have smF : Same H11 (upd H12 f3 (.lst (s1.ff.map V.int ++ [V.int (-1)]))) := fun b o e => sbF _ _ (sm12 _ _ e) (ne_of_none e hf3)
  generalize upd H12 f3 (.lst (s1.ff.map V.int ++ [V.int (-1)])) = H13 at sbF smF ⊢
  walk_at "go"
  refine q kt H13 (sm011.trans smF) fun L hL hT => ?_
  have k13 : Same H3 H13 := ((((((((sm4.trans sm5).trans sm6).trans sm7).trans sm8).trans sm9).trans sm10).trans sm11).trans smF)
  have new : ∀ {b : Addr} {o : HO}, H b = none → H13 b = some o → Rst L H13 b = some o := fun h1 h2 => Rst.new hL h1 h2
  have k2 : Same H2 H13 := sm3.trans k13
  have k1 : Same H1 H13 := sm2.trans k2
  have k10 : Same H10 H13 := sm11.trans smF
  have k9 : Same H9 H13 := sm10.trans k10
  have k8 : Same H8 H13 := sm9.trans k9
  have k7 : Same H7 H13 := sm8.trans k8
  have k6 : Same H6 H13 := sm7.trans k7
  have k5 : Same H5 H13 := sm6.trans k6
  have k4 : Same H4 H13 := sm5.trans k5
  have enR : EnAt (Rst L H13) us g1.es := en.same fun v e h => Rst.get (fun hb => hT v hb e h) ((sm011.trans smF) _ _ h)
  have eF : Rst L H13 kt = some (.tup [V.ref p, V.ref lv, V.ref e1, V.ref sl]) := new (none_of sm010 hkt) (smF _ _ hk11)
  refine ⟨p, lv, e1, sl, eF, lv_like (new hp (k1 _ _ hp1)) ⟨hA.1, fun i a h => new (han a (List.mem_of_getElem? h)) (k1 _ _ (hA.2 i a h))⟩ (new (none_of sm1 (hfr lv (by simp))) (k2 _ _ told.l)) ⟨by rw [told.a.1, eZ], fun i a h => ?_⟩, ?_⟩
  · rw [← eZ, ← eR]
    exact new (none_of sm1 (hfr a (by simp [List.mem_of_getElem? h]))) (k2 _ _ (told.a.2 i a h))
  · refine ⟨e1, sl, _, _, rfl, rfl, .inl ⟨SqL.of (new (none_of sm04 he1) (k5 _ _ he5)), SqL.of (new (none_of sm09 hsl) (k10 _ _ hs10))⟩, rfl, fun i x y h1 h2 => ?_⟩
    match i, h1, h2 with
    | 0, h1, h2 => cases h1; cases h2; exact LikeN.of (rows_like (new (none_of sm02 hd1) (k13 _ _ hd13)) (new (none_of sm06 hc1) (k7 _ _ hc7)) enR enR hW1.g.fl)
    | 1, h1, h2 => cases h1; cases h2; exact strs_alike (flat_ints _) (new (none_of sm03 hf1) (k4 _ _ hf14)) (new (none_of sm08 hc2) (k9 _ _ hc9))
    | i + 2, h1, h2 => cases h1
theorem ok_l_stores {f : Addr} {fd : FuncData} (F : Fun K "_law_stores" "_law_stores" s_l_stores f fd) (T : Txt K mg xStock xTower xPrompt) (D_Tower_stored : DefM P w K mg base CX0 4 xTower "stored" ["self", "name"] (sp74_stored K xTower xStock)) (D_Prompt_stored : DefM P w K mg base CX0 4 xPrompt "stored" ["self", "name"] (sp74_stored K xPrompt xStock)) (D_l_writes : Def P w K mg base CX0 2 "_law_writes" ["_law_tower_here", "_law_name"] (sp79_writes K xTower xPrompt xStock)) (D_l_came : Def P w K mg base CX0 2 "_law_came" ["_law_tower_here"] (sp79_came K xTower xPrompt xStock)) : FnOk P w K mg base CX0 6 f fd ["_law_one", "_law_other", "_law_keeps"] (sp79_stores K xTower xPrompt xStock) := by
  have sc : FnScope ["_law_one", "_law_other", "_law_keeps", "_law_name"] ["_law_one", "_law_other", "_law_keeps"] (defScope s_l_stores) := ⟨rfl, rfl, rfl, by decide +kernel, rfl, by decide +kernel, by decide +kernel⟩
  refine F.ok sc (fun vs H Q E h => ?_) (fun cdv A outer s H vs Q E hr h => ?_)
  · obtain ⟨t1, t2, kd, x1, x2, s1, s2, g1, g2, ts, B, kk, cv, kp, rfl, hW1, hW2, rel, hl0, hkd, hkk, n1, n2, sk1, sk2, q⟩ := h; rfl
  obtain ⟨t1, t2, kd, x1, x2, s1, s2, g1, g2, ts, B, kk, cv, kp, rfl, hW1, hW2, rel, hl0, hkd, hkk, n1, n2, sk1, sk2, q⟩ := h
  refine ⟨_, (@pss_cons _ _ _ _ _ (ps_if (PW.pt (pw_or (pt_val (pe_callB call_isiB rfl T.z_isinstance (by first | rfl | decide +kernel) (pa_cons (pv 0) (pa_cons (pe_glob (v := .ref xPrompt) rfl T.c_Prompt rfl) pa_nil)))) (pw_or1 (pt_not (pt_val (pe_callB call_isiB rfl T.z_isinstance (by first | rfl | decide +kernel) (pa_cons (pv 1) (pa_cons (pe_glob (v := .ref xTower) rfl T.c_Tower rfl) pa_nil))))))))
      (@pss_one _ _ _ (@ps_ret _ _ _ _ pe_bl))
      pss_nil)
    (@pss_cons _ _ _ _ _ (ps_for PassesOwn.never rfl (pi_dict (pv 2)) (pg_name (i := 3) sc.nd rfl (Or.inl rfl))
      (@pss_cons _ _ _ _ _ (ps_if (PW.pt (pw_or (pt_cmpR op_ne (pe_methS D_Tower_stored T.cl_Tower hr (passS pass0) (pv 0) (pa_cons (pv 3) pa_nil)) (pe_methS D_Prompt_stored T.cl_Prompt hr (passS pass0) (pv 1) (pa_cons (pv 3) pa_nil)) (nomark _)) (pw_or1 (pt_cmpR op_ne (pe_callD D_l_writes hr rfl pass0 (pa_cons (pv 1) (pa_cons (pv 3) pa_nil))) (pe_dget (hu_of hr) (pv 2) (pv 3) (fun _ _ => rfl)) (nomark _)))))
        (@pss_one _ _ _ (@ps_ret _ _ _ _ pe_bl))
        pss_nil)
      (@pss_one _ _ _ (ps_if (PW.pt (pw_or (pt_cmpR op_gt (pe_callD D_l_writes hr rfl pass0 (pa_cons (pv 0) (pa_cons (pv 3) pa_nil))) (pe_dget (hu_of hr) (pv 2) (pv 3) (fun _ _ => rfl)) (nomark _)) (pw_or1 (PW.pt (pw_and (pt_cmpR op_gt (pe_dget (hu_of hr) (pv 2) (pv 3) (fun _ _ => rfl)) pe_int (nomark _)) (pw_and1 (pt_cmpR op_eq (pe_callD D_l_writes hr rfl pass0 (pa_cons (pv 0) (pa_cons (pv 3) pa_nil))) pe_int (nomark _))))))))
        (@pss_one _ _ _ (@ps_ret _ _ _ _ pe_bl))
        pss_nil))))
    (@pss_one _ _ _ (@ps_ret _ _ _ _ (pe_cmpR (op_eqN 3 hr) (pe_callD D_l_came hr rfl pass0 (pa_cons (pv 0) pa_nil)) (pe_callD D_l_came hr rfl pass0 (pa_cons (pv 1) pa_nil)) (nomark _)))))), ?_⟩
  rw [show start ["_law_one", "_law_other", "_law_keeps", "_law_name"] [V.ref t1, V.ref t2, V.ref kd] = [some (V.ref t1), some (V.ref t2), some (V.ref kd), none] from rfl]
  have line := line_val
  obtain ⟨dx1, fs1, ho1, hf1⟩ := hW1.to.tw.o
  obtain ⟨dx2, fs2, ho2, hf2⟩ := hW2.to.tw.o
  walk_at "go"
  refine ⟨xTower, dx1, fs1, ho1, T.cl_Tower, T.ia_Tower, _, T.i_Tower_Prompt, ?_⟩
  rw [if_neg (by decide)]
  refine ⟨xPrompt, dx2, fs2, ho2, T.cl_Prompt, T.ia_Prompt, _, T.i_Prompt_Tower, ?_⟩
  rw [if_neg (by decide)]
  rename_i rest hrest
  subst hrest
  walk_at "go"
  refine dict_go (.inl hkd) fun o H1 sb hfz => ?_
  have tw1 := frozen2 hW1 hkd n1 sk1 sb
  have tw2 := frozen2 hW2 hkd n2 sk2 sb
  rename_i rest hrest
  refine forK_by (kvs := kk) (fun i σ H' => ∃ v3 : Option V, σ = [some (V.ref t1), some (V.ref t2), some (V.ref kd), v3] ∧ Same H1 H') ⟨none, rfl, Same.refl _⟩ (fun i σ H' _ h_ => by obtain ⟨_, _, sm⟩ := h_; exact sm _ _ hfz) ?_ ?_
  · clear hrest
    rintro i p σ H' hp ⟨v3, rfl, sm⟩
    obtain ⟨y, hy, hyt, hvy⟩ := hkk i p hp
    have e1 := tw1.same sm
    have e2 := tw2.same sm
    have hfz' := sm _ _ hfz
    have hg : ∀ {H2 : Hp}, Same H' H2 → DGet H2 kd (V.str y) (valV kk (Sum.inr y)) := fun s2 => DGet.rd (k := Sum.inr y) (.inr ⟨o, s2 _ _ hfz'⟩)
    rw [hy, show kV (Sum.inr y) = V.str y from rfl]
    walk_at "go"
    obtain ⟨dy1, fy1, ko1, kf1⟩ := e1.to.tw.o
    obtain ⟨dy2, fy2, ko2, kf2⟩ := e2.to.tw.o
    refine ⟨dy1, fy1, ko1, kf1.m _ (by simp), x1, s1, e1.to.tw, g1, ts, e1.to.sk, e1.to.tn, hyt, B, _, e1.g, dy2, fy2, ko2, kf2.m _ (by simp), x2, s2, e2.to.tw, g2, ts, e2.to.sk, e2.to.tn, hyt, B, _, e2.g, ?_⟩
    rw [if_neg (fun h => h (by rw [rel.b1 y (hl0 y), rel.b2 y]))]
    refine ⟨xPrompt, .inl rfl, x2, s2, g2, ts, B, e2, rel.f2, fun H2 sm2 => ⟨_, by rw [← hvy]; exact hg sm2, ?_⟩⟩
    refine ⟨rfl, ?_⟩
    rw [if_neg (fun h => h (by rw [rel.n2 y]))]
    have e1b := e1.same sm2
    have hg2 : ∀ {H3 : Hp}, Same H2 H3 → DGet H3 kd (V.str y) (valV kk (Sum.inr y)) := fun s3 => hg (sm2.trans s3)
    have n1y := rel.n1 y
    have n3y := rel.n3 y
    rw [hl0 y] at n1y n3y
    clear hg
    rename_i rest2 hrest2
    subst hrest2
    walk_at "go"
    rw [if_neg (by decide)] at n1y
    refine ⟨xTower, .inr rfl, x1, s1, g1, ts, B, e1b, rel.f1, fun H3 sm3 => ⟨_, by rw [← hvy]; exact hg2 sm3, _, rfl, ?_⟩⟩
    rw [if_neg (by omega)]
    refine ⟨_, by rw [← hvy]; exact hg2 sm3, _, rfl, ?_⟩
    have smA := (sm.trans sm2).trans sm3
    by_cases h0 : (0 : Int) < (kp y : Nat)
    · rw [if_pos h0]
      refine ⟨xTower, .inr rfl, x1, s1, g1, ts, B, e1b.same sm3, rel.f1, fun H4 sm4 => ?_⟩
      have h1 := (n3y (by omega)).resolve_left (by decide)
      rw [if_neg (by omega)]
      exact smA.trans sm4
    · rw [if_neg h0]
      exact smA
  · rintro σ H' ⟨v3, rfl, sm⟩
    subst hrest
    walk_at "go"
    refine ⟨xTower, .inr rfl, x1, s1, g1, ts, B, tw1.same sm, rel.f1, fun p us H2 sm2 hp2 en2 => ⟨xPrompt, .inl rfl, x2, s2, g2, ts, B, (tw2.same sm).same sm2, rel.f2, fun p2 us2 H3 sm3 hp3 en3 => ⟨?_, ?_⟩⟩⟩
    · rw [← rel.ca] at en3
      exact rows_like (sm3 _ _ hp2) hp3 (en2.same fun v e h => sm3 _ _ h) en3 fun e he => hW1.g.fl e (List.mem_filter.mp he).1
    · have smA := (sm.trans sm2).trans sm3
      exact q H3 (fun b o e n => smA _ _ (sb _ _ e n)) (tw1.same smA) (tw2.same smA)
theorem ok_law {f : Addr} {fd : FuncData} (F : Fun K "law" "law" s_law f fd) (T : Txt K mg xStock xTower xPrompt) (D_l_cell_at : Def P w K mg base CX0 1 "_law_cell_at" ["_law_script", "_law_k"] (sp_cell K)) (D_l_names : Def P w K mg base CX0 1 "_law_names" ["_law_cell", "_law_many"] (sp12_names)) (D_l_sizes : Def P w K mg base CX0 2 "_law_sizes" ["_law_cell"] (sp71_lsizes)) (D_l_value : Def P w K mg base CX0 2 "_law_value" ["_law_cell", "_law_k"] (sp75_value)) (D_Stock_init : DefI P w K mg base CX0 4 "Stock" xStock ["self", "rows"] (sp_initG K xStock)) (D_Tower_init : DefI P w K mg base CX0 5 "Tower" xTower ["self", "stock", "sizes"] (sp79_init K xTower xStock)) (D_Prompt_init : DefI P w K mg base CX0 5 "Prompt" xPrompt ["self", "stock", "sizes"] (sp79_init K xPrompt xStock)) (D_Tower_rest : DefM P w K mg base CX0 4 xTower "rest" ["self"] (sp79_rest K xTower xStock)) (D_Tower_levels : DefM P w K mg base CX0 1 xTower "levels" ["self"] (sp71_levels xTower)) (D_l_done : Def P w K mg base CX0 8 "_law_done" ["_law_tower_here", "_law_name", "_law_deed", "_law_value_here"] (sp79_done K xTower xPrompt xStock)) (D_l_told : Def P w K mg base CX0 2 "_law_told" ["_law_tower_here"] (sp79_told K xTower xPrompt xStock)) (D_l_kept : Def P w K mg base CX0 3 "_law_kept" ["_law_one", "_law_other"] (sp79_kept K xTower xPrompt xStock)) (D_l_stores : Def P w K mg base CX0 6 "_law_stores" ["_law_one", "_law_other", "_law_keeps"] (sp79_stores K xTower xPrompt xStock)) : FnOk P w K mg base CX0 9 f fd ["_law_script"] (sp_law K) := by
  have sc : FnScope ["_law_script", "_law_many", "_law_names_here", "_law_sizes_here", "_law_stock", "_law_one", "_law_other", "_law_third", "_law_keeps", "_law_name", "_law_last", "_law_kept_here", "_law_k", "_law_cell", "_law_deed", "_law_value_here", "_law_found", "_law_left", "_law_right", "_law_early", "_law_same"] ["_law_script"] (defScope s_law) := ⟨rfl, rfl, rfl, by decide +kernel, rfl, by decide +kernel, by decide +kernel⟩
  refine F.ok sc (fun vs H Q E h => ?_) (fun cdv A outer s H vs Q E hr h => ?_)
  · obtain ⟨a, ns, rfl, hS, hl, q⟩ := h; rfl
  obtain ⟨a, ns, rfl, hS, hl, q⟩ := h
  refine ⟨_, (@pss_cons _ _ _ _ _ (ps_set (i := 1) sc.nd rfl (Or.inl rfl) (pe_op op_add pe_int (pe_op op_mod (pe_callD D_l_cell_at hr rfl pass0 (pa_cons (pv 0) (pa_cons pe_int pa_nil))) pe_int)))
    (@pss_cons _ _ _ _ _ (ps_set (i := 2) sc.nd rfl (Or.inr rfl) (pe_callD D_l_names hr rfl pass0 (pa_cons (pe_callD D_l_cell_at hr rfl pass0 (pa_cons (pv 0) (pa_cons pe_int pa_nil))) (pa_cons (pv 1) pa_nil))))
    (@pss_cons _ _ _ _ _ (ps_set (i := 3) sc.nd rfl (Or.inl rfl) (pe_callD D_l_sizes hr rfl pass0 (pa_cons (pe_callD D_l_cell_at hr rfl pass0 (pa_cons (pv 0) (pa_cons pe_int pa_nil))) pa_nil)))
    (@pss_cons _ _ _ _ _ (ps_set (i := 4) sc.nd rfl (Or.inl rfl) (pe_makeS D_Stock_init hr rfl (passS pass0) (pa_cons (pe_comp1 "_law_k" [2, 0] rfl rfl (pi_range1 rfl T.z_range (pa_cons (pv 1) pa_nil)) (fun b => (pe_tup (pa_cons (@pe_ix _ _ _ _ _ _ _ ix_list (pv 1) (pv 0) (fun _ _ => rfl)) (pa_cons (pe_callB call_abs rfl T.z_abs (by first | rfl | decide +kernel) (pa_cons (pe_callD D_l_value hr rfl pass0 (pa_cons (pe_callD D_l_cell_at hr rfl pass0 (pa_cons (pv 2) (pa_cons pe_int pa_nil))) (pa_cons (pv 0) pa_nil))) pa_nil)) (pa_cons pe_int pa_nil)))))) pa_nil)))
    (@pss_cons _ _ _ _ _ (ps_set (i := 5) sc.nd rfl (Or.inl rfl) (pe_makeS D_Tower_init hr rfl (passS pass0) (pa_cons (pv 4) (pa_cons (pe_callTy call_list_of rfl T.z_list (by first | rfl | decide +kernel) (pa_cons (pv 3) pa_nil)) pa_nil))))
    (@pss_cons _ _ _ _ _ (ps_set (i := 6) sc.nd rfl (Or.inl rfl) (pe_makeS D_Prompt_init hr rfl (passS pass0) (pa_cons (pv 4) (pa_cons (pe_callTy call_list_of rfl T.z_list (by first | rfl | decide +kernel) (pa_cons (pv 3) pa_nil)) pa_nil))))
    (@pss_cons _ _ _ _ _ (ps_set (i := 7) sc.nd rfl (Or.inl rfl) (pe_makeS D_Tower_init hr rfl (passS pass0) (pa_cons (pv 4) (pa_cons (@pe_lst _ _ _ _ (pa_cons pe_int pa_nil)) pa_nil))))
    (@pss_cons _ _ _ _ _ (ps_set (i := 8) sc.nd rfl (Or.inl rfl) pe_dnewK)
    (@pss_cons _ _ _ _ _ (ps_for PassesOwn.never rfl (pi_list (pv 2)) (pg_name (i := 9) sc.nd rfl (Or.inl rfl))
      (@pss_one _ _ _ (ps_dput (hu_of hr) (pv 8) (pv 9) pe_int rfl)))
    (@pss_cons _ _ _ _ _ (ps_set (i := 10) sc.nd rfl (Or.inl rfl) (@pe_lst _ _ _ _ pa_nil))
    (@pss_cons _ _ _ _ _ (ps_set (i := 11) sc.nd rfl (Or.inl rfl) (@pe_lst _ _ _ _ pa_nil))
    (@pss_cons _ _ _ _ _ (ps_for PassesOwn.never rfl (pi_enum rfl T.z_enumerate (pa_cons (pe_slice sl_list (pv 0) (po_some pe_int) (po_some pe_int)) pa_nil)) (pg_tup rfl (pgs_cons (pg_name (i := 12) sc.nd rfl (Or.inl rfl)) (pgs_cons (pg_name (i := 13) sc.nd rfl (Or.inl rfl)) pgs_nil)))
      (@pss_cons _ _ _ _ _ (ps_set (i := 9) sc.nd rfl (Or.inl rfl) (@pe_ix _ _ _ _ _ _ _ ix_list (pv 2) (pe_op op_mod (pv 13) (pv 1)) (fun _ _ => rfl)))
      (@pss_cons _ _ _ _ _ (ps_set (i := 14) sc.nd rfl (Or.inl rfl) (pe_op op_mod (pe_op op_fdivB (pv 13) (pv 1)) pe_int))
      (@pss_cons _ _ _ _ _ (ps_set (i := 15) sc.nd rfl (Or.inl rfl) (pe_callD D_l_value hr rfl pass0 (pa_cons (pv 13) (pa_cons (pv 12) pa_nil))))
      (@pss_cons _ _ _ _ _ (ps_if (pt_cmpR op_eq (pv 14) pe_int (nomark _))
        (@pss_one _ _ _ (ps_expr (pe_methS0 D_Tower_rest T.cl_Tower hr (passS pass0) (pv 5))))
        (@pss_cons _ _ _ _ _ (ps_set (i := 16) sc.nd rfl (Or.inl rfl) (pe_callD D_l_done hr rfl pass0 (pa_cons (pv 5) (pa_cons (pv 9) (pa_cons (pv 14) (pa_cons (pv 15) pa_nil))))))
        (@pss_cons _ _ _ _ _ (ps_if (pt_cmpR op_ne (pv 16) (pe_callD D_l_done hr rfl pass0 (pa_cons (pv 6) (pa_cons (pv 9) (pa_cons (pv 14) (pa_cons (pv 15) pa_nil))))) (nomark _))
          (@pss_one _ _ _ (@ps_ret _ _ _ _ pe_bl))
          pss_nil)
        (@pss_cons _ _ _ _ _ (ps_if (pt_chain op_le op_lt pe_int (pv 14) pe_int)
          (@pss_one _ _ _ (ps_dput (hu_of hr) (pv 8) (pv 9) (pe_op op_add (pe_dget (hu_of hr) (pv 8) (pv 9) (fun _ _ => rfl)) pe_int) rfl))
          pss_nil)
        (@pss_one _ _ _ (ps_if (pt_cmpR op_eq (pe_op op_mod (pe_op op_fdiv (pv 13) pe_int) pe_int) pe_int (nomark _))
          (@pss_cons _ _ _ _ _ (ps_expr (pe_callD D_l_done hr rfl pass0 (pa_cons (pv 7) (pa_cons (pv 9) (pa_cons (pv 14) (pa_cons (pv 15) pa_nil))))))
          (@pss_one _ _ _ (ps_set (i := 10) sc.nd rfl (Or.inl rfl) (@pe_lst _ _ _ _ (pa_cons (pv 9) pa_nil)))))
          pss_nil))))))
      (@pss_cons _ _ _ _ _ (ps_if (pt_cmpR (op_neN 3 hr) (pe_callD D_l_told hr rfl pass0 (pa_cons (pv 5) pa_nil)) (pe_callD D_l_told hr rfl pass0 (pa_cons (pv 6) pa_nil)) (nomark _))
        (@pss_one _ _ _ (@ps_ret _ _ _ _ pe_bl))
        pss_nil)
      (@pss_one _ _ _ (ps_if (pt_cmpR op_eq (pe_op op_mod (pv 12) pe_int) pe_int (nomark _))
        (@pss_one _ _ _ (ps_expr (pe_bm PySem.F.plainAttrs_list PySem.F.slot_list_append PySem.F.type_list_append mt_append (pv 11) (pa_cons (pe_callD D_l_kept hr rfl pass0 (pa_cons (pv 5) (pa_cons (pv 6) pa_nil))) pa_nil))))
        pss_nil))))))))
    (@pss_cons _ _ _ _ _ (ps_expr (pe_methS0 D_Tower_rest T.cl_Tower hr (passS pass0) (pv 5)))
    (@pss_cons _ _ _ _ _ (ps_for PassesOwn.never rfl (pi_list (pv 11)) (pg_tup rfl (pgs_cons (pg_name (i := 17) sc.nd rfl (Or.inl rfl)) (pgs_cons (pg_name (i := 18) sc.nd rfl (Or.inl rfl)) (pgs_cons (pg_name (i := 19) sc.nd rfl (Or.inl rfl)) (pgs_cons (pg_name (i := 20) sc.nd rfl (Or.inl rfl)) pgs_nil)))))
      (@pss_one _ _ _ (ps_if (PW.pt (pw_or (pt_cmpR (op_neN 3 hr) (pv 17) (pv 18) (nomark _)) (pw_or1 (pt_cmpR (op_neN 3 hr) (pv 19) (pv 20) (nomark _)))))
        (@pss_one _ _ _ (@ps_ret _ _ _ _ pe_bl))
        pss_nil)))
    (@pss_one _ _ _ (@ps_ret _ _ _ _ (pe_and (pe_cmpR (op_eqN 3 hr) (pe_methS0 D_Tower_levels T.cl_Tower hr (passS pass0) (pv 7)) (@pe_lst _ _ _ _ (pa_cons (pv 10) pa_nil)) (nomark _)) (pe_and (pe_callD D_l_stores hr rfl pass0 (pa_cons (pv 5) (pa_cons (pv 6) (pa_cons (pv 8) pa_nil)))) (pe_one (pe_cmpR (op_eqN 3 hr) (pe_callD D_l_told hr rfl pass0 (pa_cons (pv 5) pa_nil)) (pe_callD D_l_told hr rfl pass0 (pa_cons (pv 6) pa_nil)) (nomark _))))))))))))))))))))), ?_⟩
  rw [show start ["_law_script", "_law_many", "_law_names_here", "_law_sizes_here", "_law_stock", "_law_one", "_law_other", "_law_third", "_law_keeps", "_law_name", "_law_last", "_law_kept_here", "_law_k", "_law_cell", "_law_deed", "_law_value_here", "_law_found", "_law_left", "_law_right", "_law_early", "_law_same"] [V.ref a] = [some (V.ref a), none, none, none, none, none, none, none, none, none, none, none, none, none, none, none, none, none, none, none, none] from rfl]
  have line := line_val
  walk_at "go"
  obtain ⟨m, hm⟩ : ∃ m : Nat, (m : Int) = 1 + ns.getD 0 0 % 8 := ⟨(1 + ns.getD 0 0 % 8).toNat, by omega⟩
  have hm1 : 1 ≤ m := by omega
  have hm8 : m ≤ 8 := by omega
  rw [← hm]
  refine ⟨m, rfl, by omega, fun np ys H1 hnp sm1 hny hy1 hy2 ynd hyn => ?_⟩
  clear hm
  have hS1 := sm1.seq hS
  rename_i rest hrest
  subst hrest
  walk_at "go"
  intro sp zs H2 hsp sm2 hsz hz1 hz6 hzz
  have hny2 := sm2 _ _ hny
  have hS2 := sm2.seq hS1
  clear hS hS1 sm1 hnp hny sm2 hsp
  rename_i rest hrest
  subst hrest
  walk_at "go"
  have hml : m = ys.length ∧ True := ⟨by omega, trivial⟩
  refine compR_mk (fun i y H => ∃ t, y = V.ref t ∧ SqT K H t [.str (ys.getD i Str.empty), .int (absM (ns.getD 4 0) i), .int 1] ∧ 0 ≤ absM (ns.getD 4 0) i ∧ absM (ns.getD 4 0) i ≤ 10 ^ 30) (fun i y H H' l zs ⟨t, e, h, b⟩ hl sb => ⟨t, e, SqT.butL sb hl h, b⟩) (by omega) (fun b i H3 Q' hi sm3 q' => ?_) fun D yl H3 hD sm3 hyD hyl2 hall => ?_
  · have hny3 := sm3 _ _ hny2
    have hS3 := sm3.seq hS2
    walk_at "go"
    refine ixL_of (SqL.of hny3) (v := V.str (ys.getD i Str.empty)) (atI_nat (by rw [List.getElem?_map, getD_str (by omega)]; rfl)) ?_
    refine ⟨ns, hS3, by decide, hl, i, rfl, by omega, fun H4 hv1 hv2 sm4 => ⟨by omega, fun t ht => q' _ _ (sm4.trans (Same.new ht)) ⟨t, rfl, SqT.of upd_same, ?_⟩⟩⟩
    unfold absM
    split <;> omega
  · obtain ⟨as, rfl, rows⟩ := rows75 (cs := csV (ns.getD 4 0) m) hyD (by rw [hyl2]; exact hml.1) (by omega) ynd hyn (fun i => by
      by_cases hi : i < m
      · rw [csV_at hi]
        obtain ⟨y, hy⟩ : ∃ y, yl[i]? = some y := ⟨_, List.getElem?_eq_getElem (by omega)⟩
        obtain ⟨t, _, _, hb⟩ := hall i y hy
        exact hb
      · rw [csV_out hi]; exact ⟨by decide, by decide⟩) (fun i y hy => by
      obtain ⟨t, e, h, _⟩ := hall i y hy
      rw [csV_at (by have := (List.getElem?_eq_some_iff.mp hy).1; omega)]
      exact ⟨t, e, h⟩)
    have hny3 := sm3 _ _ hny2
    have hS3 := sm3.seq hS2
    have hsz3 := sm3 _ _ hsz
    clear hall hyD hyl2 hny2 hS2 hsz hD sm3
    generalize csV (ns.getD 4 0) m = cs at rows
    intro st dx hst hdx ne1
    obtain ⟨rws, e1, e2, e3, e4⟩ := rows.init
    have smx : Same H3 (upd (upd H3 dx (.own st)) st (.ins xStock dx [])) := fun b o e => by rw [upd_ne (ne_of_none e hst), upd_ne (ne_of_none e hdx)]; exact e
    refine ⟨dx, D, rfl, upd_same, rws, by rw [e1]; exact smx.seq rows.l, fun t ht => smx.tup (e2 t ht), e3, fun H4 sb4 stk => ?_⟩
    rw [e4] at stk
    have sm4 : Same H3 H4 := same_made hst hdx sb4
    have hny4 := sm4 _ _ hny3
    have hS4 := sm4.seq hS3
    have hsz4 := sm4 _ _ hsz3
    clear e1 e2 e3 e4 smx sm4 sb4 rows hny3 hS3 hsz3 hst hdx ne1
    have htn : (ts75 ys cs).map (·.1) = ys ∧ True := ⟨ts75_names ys cs, trivial⟩
    have htl := ts75_len ys cs
    have ht1 : ∀ t ∈ ts75 ys cs, t.2.2 = 1 := fun t ht => by obtain ⟨i, _, rfl⟩ := List.mem_map.mp ht; rfl
    have hne : ts75 ys cs ≠ [] := fun e => by rw [e] at htl; simp at htl; omega
    generalize ts75 ys cs = ts at stk htn htl ht1 hne
    rename_i rest hrest
    subst hrest
    walk_at "go"
    have hTn : (ts.map (·.1)).Nodup := by rw [htn.1]; exact ynd
    have tz := Tws.zero (B := 1) stk
    have r4 : Rst (Lall [] []) H4 np = some (.lst (ys.map V.str)) := Rst.get (by intro h; cases h) hny4
    -- one
    refine ⟨_, .inl (SqL.of hsz4), fun l1 hl1 t1 dx1 ht1' hdx1 ned1 => ?_⟩
    have smA : Same H4 (upd (upd (upd H4 l1 (.lst (zs.map V.int))) dx1 (.own t1)) t1 (.ins xTower dx1 [])) := (Same.new hl1).trans (fun b o e => by rw [upd_ne (ne_of_none e ht1'), upd_ne (ne_of_none e hdx1)]; exact e)
    refine ⟨dx1, upd_same, ts, stk.same smA, hTn, ht1, by omega, zs, SqL.of (by rw [upd_ne (ne_of_none upd_same ht1'), upd_ne (ne_of_none upd_same hdx1), upd_same]), hz1, hz6, hzz, fun x1 s1 H5 sb5 tw1 eR1 eZ1 eP1 eF1 eS1 own1 => ?_⟩
    have sm5 : Same H4 H5 := (Same.new hl1).trans (same_made ht1' hdx1 sb5)
    have n1 : ∀ b ∈ x1.si :: own t1 x1, H4 b = none := fun b hb => (own1 b hb).elim (fun e => by rw [e]; exact none_of (Same.new hl1) ht1') (fun e => none_of smA e)
    have a1 := tz.add (w := ⟨xTower, t1, x1, s1, g0⟩) sm5 tw1 n1 eS1
    have r5 := Tws.addR (ks := []) (ws := []) (w := ⟨xTower, t1, x1, s1, g0⟩) sm5 n1 _ _ r4
    clear own1 sb5 tw1 smA hl1 ht1' hdx1 ned1 n1 tz
    have hny5 := sm5 _ _ hny4
    have hS5 := sm5.seq hS4
    have hsz5 := sm5 _ _ hsz4
    have stk5 := stk.same sm5
    clear sm5 hny4 hS4 hsz4 stk
    rename_i rest hrest
    subst hrest
    walk_at "go"
    -- the other
    refine ⟨_, .inl (SqL.of hsz5), fun l2 hl2 t2 dx2 ht2' hdx2 ned2 => ?_⟩
    have smB : Same H5 (upd (upd (upd H5 l2 (.lst (zs.map V.int))) dx2 (.own t2)) t2 (.ins xPrompt dx2 [])) := (Same.new hl2).trans (fun b o e => by rw [upd_ne (ne_of_none e ht2'), upd_ne (ne_of_none e hdx2)]; exact e)
    refine ⟨dx2, upd_same, ts, stk5.same smB, hTn, ht1, by omega, zs, SqL.of (by rw [upd_ne (ne_of_none upd_same ht2'), upd_ne (ne_of_none upd_same hdx2), upd_same]), hz1, hz6, hzz, fun x2 s2 H6 sb6 tw2 eR2 eZ2 eP2 eF2 eS2 own2 => ?_⟩
    have sm6 : Same H5 H6 := (Same.new hl2).trans (same_made ht2' hdx2 sb6)
    have n2 : ∀ b ∈ x2.si :: own t2 x2, H5 b = none := fun b hb => (own2 b hb).elim (fun e => by rw [e]; exact none_of (Same.new hl2) ht2') (fun e => none_of smB e)
    have a2 := a1.add (w := ⟨xPrompt, t2, x2, s2, g0⟩) sm6 tw2 n2 eS2
    have r6 := Tws.addR (w := ⟨xPrompt, t2, x2, s2, g0⟩) sm6 n2 _ _ r5
    clear own2 sb6 tw2 smB hl2 ht2' hdx2 ned2 n2 a1
    have hny6 := sm6 _ _ hny5
    have hS6 := sm6.seq hS5
    have stk6 := stk5.same sm6
    clear sm6 hny5 hS5 hsz5 stk5
    rename_i rest hrest
    subst hrest
    walk_at "go"
    -- the third
    intro l3 hl3 t3 dx3 ht3' hdx3 ned3
    have smC : Same H6 (upd (upd (upd H6 l3 (.lst [V.int 1])) dx3 (.own t3)) t3 (.ins xTower dx3 [])) := (Same.new hl3).trans (fun b o e => by rw [upd_ne (ne_of_none e ht3'), upd_ne (ne_of_none e hdx3)]; exact e)
    refine ⟨dx3, upd_same, ts, stk6.same smC, hTn, ht1, by omega, [1], SqL.of (by rw [upd_ne (ne_of_none upd_same ht3'), upd_ne (ne_of_none upd_same hdx3), upd_same]; rfl), by decide, by decide, by decide, fun x3 s3 H7 sb7 tw3 eR3 eZ3 eP3 eF3 eS3 own3 => ?_⟩
    have sm7 : Same H6 H7 := (Same.new hl3).trans (same_made ht3' hdx3 sb7)
    have n3 : ∀ b ∈ x3.si :: own t3 x3, H6 b = none := fun b hb => (own3 b hb).elim (fun e => by rw [e]; exact none_of (Same.new hl3) ht3') (fun e => none_of smC e)
    have a3 := a2.add (w := ⟨xTower, t3, x3, s3, g0⟩) sm7 tw3 n3 eS3
    have r7 := Tws.addR (w := ⟨xTower, t3, x3, s3, g0⟩) sm7 n3 _ _ r6
    clear own3 sb7 tw3 smC hl3 ht3' hdx3 ned3 n3 a2
    have hny7 := sm7 _ _ hny6
    have hS7 := sm7.seq hS6
    clear sm7 hny6 hS6 stk6
    rename_i rest hrest
    subst hrest
    walk_at "go"
    intro kd hkd
    have s8 : Same H7 (upd H7 kd (.dK [])) := Same.new hkd
    have hkd8 : upd H7 kd (.dK []) kd = some (.dK []) := upd_same
    generalize upd H7 kd (.dK []) = H8 at s8 hkd8 ⊢
    have a4 := a3.addK s8 hkd hkd8 (by intro e z; cases z)
    have r8 := Tws.addKR s8 hkd _ _ r7
    have hS8 := s8.seq hS7
    clear a3 hS7 hny7 s8 hkd r4 r5 r6 r7
    rename_i rest hrest
    subst hrest
    walk_at "go"
    refine ⟨⟨_, SqL.of (Rst.at r8).2⟩, ?_⟩
    rename_i rest hrest
    refine forL_by (xs := ys.map V.str) (fun i σ H' => ∃ (kk : List (Key × V)) (v9 : Option V), σ = [some (V.ref a), some (V.int m), some (V.ref np), some (V.ref sp), some (V.ref st), some (V.ref t1), some (V.ref t2), some (V.ref t3), some (V.ref kd), v9, none, none, none, none, none, none, none, none, none, none, none] ∧ H' kd = some (.dK kk) ∧ KK kk (ys.take i) (fun _ => 0) i ∧ Tws K xStock st ts 1 H' [kd] ([] ++ [⟨xTower, t1, x1, s1, g0⟩] ++ [⟨xPrompt, t2, x2, s2, g0⟩] ++ [⟨xTower, t3, x3, s3, g0⟩]) ∧ Rst (Lall [kd] ([] ++ [⟨xTower, t1, x1, s1, g0⟩] ++ [⟨xPrompt, t2, x2, s2, g0⟩] ++ [⟨xTower, t3, x3, s3, g0⟩])) H' np = some (.lst (ys.map V.str)) ∧ SqL K H' a (ns.map V.int))
      ⟨[], none, rfl, hkd8, ⟨(fun p hp => by cases hp), (fun y hy => by rw [List.take_zero] at hy; cases hy), Nat.le_refl _⟩, a4, r8, hS8⟩ (fun i σ H' _ h_ => by obtain ⟨_, _, _, _, _, _, r, _⟩ := h_; exact SqL.of (Rst.at r).2) ?_ ?_
    · clear hrest a4 r8 hS8 hkd8
      rintro i v σ H' hv ⟨kk, v9, rfl, hk, kkk, tws, r, hS'⟩
      have hi : i < ys.length := by
        have := (List.getElem?_eq_some_iff.mp hv).1
        rw [List.length_map] at this; exact this
      rw [List.getElem?_map, getD_str hi] at hv
      cases hv
      have htk : ys.take (i + 1) = ys.take i ++ [ys.getD i Str.empty] := by rw [List.take_succ, getD_str hi]; rfl
      have hkn := kkk.n
      walk_at "go"
      refine ⟨_, DPut.k (k := Sum.inr (ys.getD i Str.empty)) hk (by omega), ?_⟩
      obtain ⟨tw', sr⟩ := tws.put (u := .dK (putK kk (Sum.inr (ys.getD i Str.empty)) (.int 0))) (c := kd) (by simp) (by intro e z; cases z) sameBut_upd upd_same
      exact ⟨_, upd_same, by rw [htk]; exact kkk.add, tw', sr _ _ r, SqL.butD sameBut_upd hk hS'⟩
    · clear a4 r8 hS8 hkd8
      rintro σ H9 ⟨kk, v9, rfl, hkd9, kk9, a9, r9, hS9⟩
      rw [List.length_map, List.take_length] at kk9
      subst hrest
      walk_at "go"
      intro la hla
      have s10 : Same H9 (upd H9 la (.lst [])) := Same.new hla
      have hla10 : upd H9 la (.lst []) la = some (.lst (([] : List Str).map V.str)) := upd_same
      have r10 := Rst.mono s10 _ _ r9
      have rl10 := Rst.new a9.live hla hla10
      generalize upd H9 la (.lst []) = H10 at s10 hla10 r10 rl10 ⊢
      have a10 := a9.same s10
      have hkd10 := s10 _ _ hkd9
      have hS10 := s10.seq hS9
      clear s10 a9 r9 hkd9 hS9 hla hla10
      rename_i rest hrest
      subst hrest
      walk_at "go"
      intro kl hkl
      have s11 : Same H10 (upd H10 kl (.lst [])) := Same.new hkl
      have hkl11 : upd H10 kl (.lst []) kl = some (.lst (([] : List Addr).map V.ref)) := upd_same
      have a11 := a10.addK s11 hkl hkl11 (by intro e z; cases z)
      have r11 := Tws.addKR s11 hkl _ _ r10
      have rl11 := Tws.addKR s11 hkl _ _ rl10
      generalize upd H10 kl (.lst []) = H11 at s11 hkl11 a11 r11 rl11 ⊢
      have hkd11 := s11 _ _ hkd10
      have hS11 := s11.seq hS10
      clear s11 a10 r10 rl10 hkd10 hS10 hkl
      rename_i rest hrest
      subst hrest
      walk_at "go"
      refine ⟨_, hS11, fun cp hcp => ?_⟩
      obtain ⟨cells, hcs, hcl⟩ := cut_5_105 ns
      rw [hcs]
      clear hcs
      have s12 : Same H11 (upd H11 cp (.lst (cells.map V.int))) := Same.new hcp
      have hcp12 : upd H11 cp (.lst (cells.map V.int)) cp = some (.lst (cells.map V.int)) := upd_same
      have iv0 : Iv K xStock st ts 1 (upd H11 cp (.lst (cells.map V.int))) kd kl np cp la kk [] ys cells [] [⟨xTower, t1, x1, s1, g0⟩, ⟨xPrompt, t2, x2, s2, g0⟩, ⟨xTower, t3, x3, s3, g0⟩] :=
        ⟨a11.same s12, s12 _ _ hkd11, s12 _ _ hkl11, (fun a ha => by cases ha), Rst.mono s12 _ _ r11, Rst.new a11.live hcp hcp12, Rst.mono s12 _ _ rl11⟩
      generalize upd H11 cp (.lst (cells.map V.int)) = H12 at s12 hcp12 iv0 ⊢
      clear s12 hcp a11 hkd11 hkl11 r11 rl11 hS11
      have hcl63 : cells.length ≤ 63 := Nat.le_trans hcl hl
      refine ⟨⟨_, SqL.of hcp12⟩, ?_⟩
      rename_i rest hrest
      refine forE_by (xs := cells.map V.int) (fun i σ H' => ∃ (x1 x2 x3 : TwA) (s1 s2 s3 : TwS) (g1 g2 g3 : Gt) (B : Nat) (kk : List (Key × V)) (ks : List Addr) (la : Addr) (cv : Str → Int) (kp : Str → Nat) (w9 w12 w13 w14 w15 w16 : Option V), σ = [some (V.ref a), some (V.int m), some (V.ref np), some (V.ref sp), some (V.ref st), some (V.ref t1), some (V.ref t2), some (V.ref t3), some (V.ref kd), w9, some (V.ref la), some (V.ref kl), w12, w13, w14, w15, w16, none, none, none, none] ∧ Iv K xStock st ts B H' kd kl np cp la kk ks ys cells s3.R [⟨xTower, t1, x1, s1, g1⟩, ⟨xPrompt, t2, x2, s2, g2⟩, ⟨xTower, t3, x3, s3, g3⟩] ∧ B ≤ 1 + 300 * i ∧ RelG (fun y => y ∈ s1.R) g1 g2 cv kp ∧ s2.R = s1.R ∧ s2.zs = s1.zs ∧ s2.ff = s1.ff ∧ s2.pd = s1.pd ∧ s3.zs = [1] ∧ KK kk ys kp (m + i) ∧ ks.length ≤ i ∧ g1.es.length ≤ 8 * i)
        ⟨x1, x2, x3, s1, s2, s3, g0, g0, g0, 1, kk, [], la, _, _, _, _, _, _, _, _, rfl, by rw [eR3]; exact iv0, by omega, by rw [eR1]; exact RelG.zero, by rw [eR1, eR2], by rw [eZ1, eZ2], by rw [eF1, eF2], by rw [eP1, eP2], eZ3, ⟨kk9.k, kk9.v, by have := kk9.n; omega⟩, Nat.le_refl _, Nat.le_refl _⟩
        (fun i σ H' _ h_ => by obtain ⟨_, _, _, _, _, _, _, _, _, _, _, _, _, _, _, _, _, _, _, _, _, _, iv, _⟩ := h_; exact SqL.of (Rst.at iv.rcp).2) ?_ ?_
      · clear hrest iv0 eR1 eR2 eR3 eZ1 eZ2 eZ3 eF1 eF2 eF3 eP1 eP2 eP3 eS1 eS2 eS3 kk9 hcp12 x1 x2 x3 s1 s2 s3 kk la
        rintro i y σ H' tq hy ⟨x1, x2, x3, s1, s2, s3, g1, g2, g3, B, kk, ks, la, cv, kp, w9, w12, w13, w14, w15, w16, rfl, iv, hB, rel, eR, eZ, eF, eP, eZ3, hkk, hks, hel⟩ htq
        rw [List.getElem?_map] at hy
        cases hz : cells[i]? with
        | none => rw [hz] at hy; cases hy
        | some c =>
        rw [hz] at hy
        cases hy
        have hi := (List.getElem?_eq_some_iff.mp hz).1
        have hk0 := Int.emod_nonneg c (show (m : Int) ≠ 0 by omega)
        have hkm1 := Int.emod_lt_of_pos c (show (0 : Int) < m by omega)
        obtain ⟨k, hk⟩ : ∃ k : Nat, (k : Int) = c % m := ⟨(c % m).toNat, by omega⟩
        have hkm : k < m := by omega
        have hd0 := Int.emod_nonneg (c.fdiv m) (show (8 : Int) ≠ 0 by decide)
        have hd8 := Int.emod_lt_of_pos (c.fdiv m) (show (0 : Int) < 8 by decide)
        walk_at "go"
        refine ⟨_, SqT.of upd_same, rfl, _, _, rfl, _, _, rfl, rfl, ?_⟩
        have ivB := iv.same (Same.new (o := .tup [.int i, .int c]) htq)
        generalize upd H' tq (.tup [.int i, .int c]) = HB at ivB ⊢
        clear iv htq
        walk_at "go"
        rw [← hk]
        refine ixL_of (SqL.of (Rst.at ivB.rnp).2) (v := V.str (ys.getD k Str.empty)) (atI_nat (by rw [List.getElem?_map, getD_str (by omega)]; rfl)) ?_
        rename_i rest hrest
        subst hrest
        walk_at "go"
        have hzy : ys.getD k Str.empty ∈ ys := List.mem_of_getElem? (getD_str (by omega))
        have hzt : ys.getD k Str.empty ∈ ts.map (·.1) := by rw [htn.1]; exact hzy
        generalize ys.getD k Str.empty = z at hzy hzt ⊢
        generalize c.fdiv ↑m % 8 = dd at hd0 hd8 ⊢
        refine ⟨i, rfl, by omega, fun HC hv1 hv2 smC => ?_⟩
        generalize valM (mixF c (i : Int)) = v at hv1 hv2 ⊢
        have ivC := ivB.same smC
        clear ivB smC
        rename_i rest hrest
        subst hrest
        walk_at "go"
        rename_i rest hrest
        have key : ∀ (x1 x2 x3 : TwA) (s1 s2 s3 : TwS) (g1 g2 g3 : Gt) (B : Nat) (kk : List (Key × V)) (la : Addr) (cv : Str → Int) (kp : Str → Nat) (w16 : Option V) (HD : Hp), Iv K xStock st ts B HD kd kl np cp la kk ks ys cells s3.R [⟨xTower, t1, x1, s1, g1⟩, ⟨xPrompt, t2, x2, s2, g2⟩, ⟨xTower, t3, x3, s3, g3⟩] → B ≤ 1 + 300 * (i + 1) → RelG (fun y => y ∈ s1.R) g1 g2 cv kp → s2.R = s1.R → s2.zs = s1.zs → s2.ff = s1.ff → s2.pd = s1.pd → s3.zs = [1] → KK kk ys kp (m + (i + 1)) → g1.es.length ≤ 8 * (i + 1) → rest [some (V.ref a), some (V.int m), some (V.ref np), some (V.ref sp), some (V.ref st), some (V.ref t1), some (V.ref t2), some (V.ref t3), some (V.ref kd), some (V.str z), some (V.ref la), some (V.ref kl), some (V.int i), some (V.int c), some (V.int dd), some (V.int v), w16, none, none, none, none] HD := by
          clear ivC rel eR eZ eF eP eZ3 hkk hel hB x1 x2 x3 s1 s2 s3 g1 g2 g3 B kk la cv kp w16
          intro x1 x2 x3 s1 s2 s3 g1 g2 g3 B kk la cv kp w16 HD iv hB rel eR eZ eF eP eZ3 hkk hel
          subst hrest
          walk_at "go"
          have tw1 := iv.tws.ok _ List.mem_cons_self
          have tw2 := iv.tws.ok _ (List.mem_cons_of_mem _ List.mem_cons_self)
          refine ⟨xTower, .inr rfl, x1, s1, g1, ts, B, tw1, fun p1 lv1 fo1 as1 HE hfr1 smE told1 => ⟨xPrompt, .inl rfl, x2, s2, g2, ts, B, tw2.same smE, fun p2 lv2 fo2 as2 HF hfr2 smF told2 => ⟨?_, ?_⟩⟩⟩
          · rw [eZ, eR, eF, eP] at told2
            exact told_like (told1.same smF) told2
          have ivF := (iv.same smE).same smF
          clear told1 told2 hfr1 hfr2 smE smF tw1 tw2 iv
          rename_i rest hrest
          subst hrest
          walk_at "go"
          by_cases h5 : (i : Int) % 16 = 5
          · rw [if_pos h5]
            have tw1 := ivF.tws.ok _ List.mem_cons_self
            have tw2 := ivF.tws.ok _ (List.mem_cons_of_mem _ List.mem_cons_self)
            refine ⟨.inl ⟨rfl, _, SqL.of ivF.hkl⟩, x1, x2, s1, s2, g1, g2, ts, B, tw1, tw2, eZ, eR, by omega, fun ka HG smG hk4 => ⟨kl, _, _, rfl, rfl, smG _ _ ivF.hkl, by rw [List.length_map]; omega, ?_⟩⟩
            rw [show ks.map V.ref ++ [V.ref ka] = (ks ++ [ka]).map V.ref by rw [List.map_append]; rfl]
            have ivH := (ivF.same smG).putL (hk4 _ ivF.tws.live ivF.tws.notup)
            exact ⟨x1, x2, x3, s1, s2, s3, g1, g2, g3, B, kk, ks ++ [ka], ivH, hB, cv, kp, rel, eR, eZ, eF, eP, eZ3, hkk, by rw [List.length_append]; simp only [List.length_cons, List.length_nil]; omega, hel⟩
          · rw [if_neg h5]
            exact ⟨x1, x2, x3, s1, s2, s3, g1, g2, g3, B, kk, ks, ivF, hB, cv, kp, rel, eR, eZ, eF, eP, eZ3, hkk, by omega, hel⟩
        clear hrest
        have tw1 := ivC.tws.ok _ List.mem_cons_self
        have tw2 := ivC.tws.ok _ (List.mem_cons_of_mem _ List.mem_cons_self)
        obtain ⟨dy1, fy1, ko1, kf1⟩ := tw1.to.tw.o
        have hR8 : s1.R.length ≤ 8 := by
          have h1 := List.Nodup.length_le_of_subset tw1.to.nd (fun y hy => tw1.to.rn y hy)
          rw [htn.1] at h1
          exact Nat.le_trans h1 (by omega)
        by_cases h7 : dd = 7
        · rw [if_pos h7]
          refine ⟨dy1, fy1, ko1, kf1.m _ (by simp), x1, s1, g1, ts, B, tw1, by omega, fun x1' s1' HD o m' tw e1 e2 e3 e4 e5 e6 => ?_⟩
          have ivD := Iv.deed (l1 := []) (l2 := [⟨xPrompt, t2, x2, s2, g2⟩, ⟨xTower, t3, x3, s3, g3⟩]) (w := ⟨xTower, t1, x1, s1, g1⟩) (w' := ⟨xTower, t1, x1', s1', restG s1.R g1⟩) ivC o m' tw (by omega) e5 e6
          exact key x1' x2 x3 s1' s2 s3 _ g2 g3 (B + 100) kk la cv kp w16 HD ivD (by omega) (by rw [e1]; exact rel.rest tw1.to.nd) (by rw [eR, e1]) (by rw [eZ, e2]) (by rw [eF, e4]) (by rw [eP, e3]) eZ3 ⟨hkk.k, hkk.v, by have := hkk.n; omega⟩ (by have := rest_len g1 hR8; omega)
        · rw [if_neg h7]
          walk_at "go"
          refine ⟨xTower, false, .inr ⟨rfl, rfl⟩, x1, s1, g1, ts, B, tw1, hzt, by omega, hd0, by omega, hv1, hv2, fun s1' HD o tw e1 e2 e3 e4 => ?_⟩
          have ivD := Iv.deed (l1 := []) (l2 := [⟨xPrompt, t2, x2, s2, g2⟩, ⟨xTower, t3, x3, s3, g3⟩]) (w := ⟨xTower, t1, x1, s1, g1⟩) (w' := ⟨xTower, t1, x1, s1', stepG false s1.zs.sum s1.R dd z v g1⟩) ivC o (fun b hb => .inl hb) tw (by omega) rfl rfl
          have tw2 := ivD.tws.ok _ (List.mem_cons_of_mem _ List.mem_cons_self)
          obtain ⟨rel', eA⟩ := rel.step (S := s1.zs.sum) (d := dd) (z := z) (v := v) tw1.to.nd tw1.to.s1 tw1.to.rs hd0 (by omega) (fun y hy => by rw [← e1]; exact tw.g.lh y hy)
          rw [← e1] at rel'
          have hlen := step_len (S := s1.zs.sum) (R := s1.R) (d := dd) (z := z) (v := v) (pr := false) g1 hR8
          clear ivC o tw ko1 kf1 rel
          rename_i rest hrest
          subst hrest
          walk_at "go"
          refine ⟨xPrompt, true, .inl ⟨rfl, rfl⟩, x2, s2, g2, ts, B + 100, tw2, hzt, by omega, hd0, by omega, hv1, hv2, fun s2' HE o2 tw3 f1 f2 f3 f4 => ?_⟩
          have ivE := Iv.deed (l1 := [⟨xTower, t1, x1, s1', stepG false s1.zs.sum s1.R dd z v g1⟩]) (l2 := [⟨xTower, t3, x3, s3, g3⟩]) (w := ⟨xPrompt, t2, x2, s2, g2⟩) (w' := ⟨xPrompt, t2, x2, s2', stepG true s2.zs.sum s2.R dd z v g2⟩) ivD o2 (fun b hb => .inl hb) tw3 (by omega) rfl rfl
          rw [eZ, eR] at ivE f1 f4 ⊢
          rw [eR] at f3
          rw [eA]
          rw [eF] at f4
          rw [eP] at f3
          clear ivD o2 tw3 tw1 tw2
          refine ⟨by rcases stepA_kind (S := s1.zs.sum) (R := s1.R) (d := dd) (z := z) (v := v) (g := g2) with ⟨_, b, e⟩ | ⟨_, n, e⟩ <;> rw [e], ?_⟩
          rw [if_neg (fun h => h rfl)]
          generalize stepA s1.zs.sum s1.R dd z v g2 = ans
          generalize stepG false s1.zs.sum s1.R dd z v g1 = g1' at ivE rel' hlen
          generalize stepG true s1.zs.sum s1.R dd z v g2 = g2' at ivE rel'
          rename_i rest hrest
          subst hrest
          walk_at "go"
          rename_i rest hrest
          have key2 : ∀ (kk' : List (Key × V)) (HF : Hp), Iv K xStock st ts (B + 100 + 100) HF kd kl np cp la kk' ks ys cells s3.R [⟨xTower, t1, x1, s1', g1'⟩, ⟨xPrompt, t2, x2, s2', g2'⟩, ⟨xTower, t3, x3, s3, g3⟩] → KK kk' ys (if keptB dd then upN kp z else kp) (m + (i + 1)) → rest [some (V.ref a), some (V.int m), some (V.ref np), some (V.ref sp), some (V.ref st), some (V.ref t1), some (V.ref t2), some (V.ref t3), some (V.ref kd), some (V.str z), some (V.ref la), some (V.ref kl), some (V.int i), some (V.int c), some (V.int dd), some (V.int v), some ans, none, none, none, none] HF := by
            intro kk' HF ivF hkk'
            subst hrest
            walk_at "go"
            have eqs1 : s2'.R = s1'.R := by rw [f1, e1]
            have eqs2 : s2'.zs = s1'.zs := by rw [f2, e2]; exact eZ
            have eqs3 : s2'.ff = s1'.ff := by rw [f4, e4]
            have eqs4 : s2'.pd = s1'.pd := by rw [f3, e3]
            by_cases h64 : c / 64 % 2 = 1
            · rw [if_pos h64]
              have tw3 := ivF.tws.ok ⟨xTower, t3, x3, s3, g3⟩ (by simp)
              have hs1 : s3.zs.sum = 1 := by rw [eZ3]; rfl
              have hR1 : s3.R.length ≤ 1 := by have this : (s3.R.length : Int) ≤ s3.zs.sum := tw3.to.rs; rw [hs1] at this; omega
              walk_at "go"
              refine ⟨xTower, false, .inr ⟨rfl, rfl⟩, x3, s3, g3, ts, B + 100 + 100, tw3, hzt, by omega, hd0, by omega, hv1, hv2, fun s3' HG o3 tw u1 u2 u3 u4 => ?_⟩
              have ivG := Iv.deed (l1 := [⟨xTower, t1, x1, s1', g1'⟩, ⟨xPrompt, t2, x2, s2', g2'⟩]) (l2 := []) (w := ⟨xTower, t3, x3, s3, g3⟩) (w' := ⟨xTower, t3, x3, s3', stepG false s3.zs.sum s3.R dd z v g3⟩) ivF o3 (fun b hb => .inl hb) tw (by omega) rfl rfl
              rw [hs1, third_R hR1 hd0 (by omega)] at u1
              walk_at "go"
              intro lb hlb
              have ivH := ivG.newL (lb := lb) (l := s3'.R) (H' := upd HG lb (.lst [V.str z])) (Same.new hlb) hlb (by rw [u1]; exact upd_same)
              exact key x1 x2 x3 s1' s2' s3' g1' g2' _ (B + 100 + 100 + 100) kk' lb _ _ _ _ ivH (by omega) rel' eqs1 eqs2 eqs3 eqs4 (by rw [u2]; exact eZ3) hkk' (by omega)
            · rw [if_neg h64]
              exact key x1 x2 x3 s1' s2' s3 g1' g2' g3 (B + 100 + 100) kk' la _ _ _ HF ivF (by omega) rel' eqs1 eqs2 eqs3 eqs4 eZ3 hkk' (by omega)
          clear hrest
          rw [ite_chain]
          by_cases hkp : 3 ≤ dd ∧ dd < 6
          · rw [if_pos hkp]
            rw [if_pos (show keptB dd from hkp)] at key2
            have hkn := hkk.n
            have hkv := hkk.v z hzy
            walk_at "go"
            exact ⟨_, by rw [← hkv]; exact DGet.k (k := Sum.inr z) ivE.hkd, _, rfl, _, DPut.k (k := Sum.inr z) ivE.hkd (by omega), key2 _ _ ivE.putD (hkk.put hzy)⟩
          · rw [if_neg hkp]
            rw [if_neg (show ¬ keptB dd from hkp)] at key2
            exact key2 kk HE ivE ⟨hkk.k, hkk.v, by have := hkk.n; omega⟩
      · rintro σ H' ⟨x1, x2, x3, s1, s2, s3, g1, g2, g3, B, kk, ks, la, cv, kp, w9, w12, w13, w14, w15, w16, rfl, iv, hB, rel, eR, eZ, eF, eP, eZ3, hkk, hks, hel⟩
        rw [List.length_map] at hB hks hel hkk
        have tw1 := iv.tws.ok _ List.mem_cons_self
        obtain ⟨dy1, fy1, ko1, kf1⟩ := tw1.to.tw.o
        subst hrest
        walk_at "go"
        refine ⟨dy1, fy1, ko1, kf1.m _ (by simp), x1, s1, g1, ts, B, tw1, by omega, fun x1' s1' HD o m' tw e1 e2 e3 e4 e5 e6 => ?_⟩
        have ivD := Iv.deed (l1 := []) (l2 := [⟨xPrompt, t2, x2, s2, g2⟩, ⟨xTower, t3, x3, s3, g3⟩]) (w := ⟨xTower, t1, x1, s1, g1⟩) (w' := ⟨xTower, t1, x1', s1', restG s1.R g1⟩) iv o m' tw (by omega) e5 e6
        have rel' : RelG (fun y => y ∈ s1'.R) (restG s1.R g1) g2 cv kp := by rw [e1]; exact rel.rest tw1.to.nd
        rw [← e1] at eR
        rw [← e2] at eZ
        rw [← e3] at eP
        rw [← e4] at eF
        have hl0 : ∀ y, (restG s1.R g1).l y = false := fun y => rfl
        clear iv o tw ko1 kf1 rel tw1 e1 e2 e3 e4 e5 e6 m'
        generalize restG s1.R g1 = g1' at ivD rel' hl0
        rename_i rest hrest
        subst hrest
        walk_at "go"
        refine ⟨⟨_, SqL.of ivD.hkl⟩, ?_⟩
        rename_i rest hrest
        refine forL_by (xs := ks.map V.ref) (fun i σ H2 => ∃ (v17 v18 v19 v20 : Option V), σ = [some (V.ref a), some (V.int m), some (V.ref np), some (V.ref sp), some (V.ref st), some (V.ref t1), some (V.ref t2), some (V.ref t3), some (V.ref kd), w9, some (V.ref la), some (V.ref kl), w12, w13, w14, w15, w16, v17, v18, v19, v20] ∧ H2 = HD) ⟨none, none, none, none, rfl, rfl⟩ (fun i σ H2 _ h_ => by obtain ⟨_, _, _, _, _, rfl⟩ := h_; exact SqL.of ivD.hkl) ?_ ?_
        · clear hrest
          rintro i v σ H2 hv ⟨v17, v18, v19, v20, rfl, rfl⟩
          rw [List.getElem?_map] at hv
          cases hka : ks[i]? with
          | none => rw [hka] at hv; cases hv
          | some ka =>
          rw [hka] at hv
          cases hv
          obtain ⟨l, r, e, s, k1, k2, k3⟩ := (ivD.kq ka (List.mem_of_getElem? hka)).same Rst.same
          walk_at "go"
          exact ⟨_, SqT.of k1, rfl, _, _, rfl, _, _, rfl, _, _, rfl, _, _, rfl, rfl, k2, k3⟩
        · rintro σ H2 ⟨v17, v18, v19, v20, rfl, rfl⟩
          have tw1 := ivD.tws.ok _ List.mem_cons_self
          have tw2 := ivD.tws.ok _ (List.mem_cons_of_mem _ List.mem_cons_self)
          have tw3 := ivD.tws.ok ⟨xTower, t3, x3, s3, g3⟩ (by simp)
          obtain ⟨dz, fz, kz, kfz⟩ := tw3.to.tw.o
          subst hrest
          walk_at "go"
          have hR1 : s3.R.length ≤ 1 := by have this : (s3.R.length : Int) ≤ s3.zs.sum := tw3.to.rs; rw [eZ3] at this; exact Int.ofNat_le.mp this
          refine ⟨dz, fz, kz, kfz.m _ (by simp), x3, s3, tw3.to.tw, tw3.to.zl, tw3.to.zz, fun p as H3 hp sm3 hp3 hA han nda hpn => ⟨by omega, fun l4 hl4 => ?_⟩⟩
          have sm4 : Same H3 (upd H3 l4 (.lst [V.ref la])) := Same.new hl4
          have hl44 : upd H3 l4 (.lst [V.ref la]) l4 = some (.lst [V.ref la]) := upd_same
          generalize upd H3 l4 (.lst [V.ref la]) = H4 at sm4 hl44 ⊢
          have ivE := (ivD.same sm3).same sm4
          rw [eZ3] at hA
          have tw1E := ivE.tws.ok _ List.mem_cons_self
          have tw2E := ivE.tws.ok _ (List.mem_cons_of_mem _ List.mem_cons_self)
          have skE : ∀ w ∈ ([⟨xTower, t1, x1', s1', g1'⟩, ⟨xPrompt, t2, x2, s2, g2⟩, ⟨xTower, t3, x3, s3, g3⟩] : List Tw), StockT K xStock H4 w.x.st ts (kd :: own w.t w.x) := fun w hw => by
            rw [ivE.tws.es w hw]
            exact ivE.tws.sk.mono fun b hb => .inl (by
              rcases List.mem_cons.mp hb with e | hb
              · exact mem_Lall.mpr (.inl (by rw [e]; simp))
              · exact mem_Lall.mpr (.inr ⟨w, hw, List.mem_cons_of_mem _ hb⟩))
          refine ⟨levels_one (sm4 _ _ hp3) (hA.same sm4) hR1 hl44 (Rst.at ivE.rla).2, x1', x2, s1', s2, g1', g2, ts, _, tw1E, tw2E, kk, cv, kp, rel', hl0, ivE.hkd, fun i p hp => ?_, ivE.tws.kk kd (by simp) _ List.mem_cons_self, ivE.tws.kk kd (by simp) _ (List.mem_cons_of_mem _ List.mem_cons_self), skE _ List.mem_cons_self, skE _ (List.mem_cons_of_mem _ List.mem_cons_self), fun H5 sb5 tw1F tw2F => ?_⟩
          · obtain ⟨y, h1, h2⟩ := hkk.k p (List.mem_of_getElem? hp)
            exact ⟨y, h1, by rw [htn.1]; exact h2, hkk.v y h2⟩
          · refine ⟨xTower, .inr rfl, x1', s1', g1', ts, _, tw1F, fun p1 lv1 fo1 as1 H6 hfr1 sm6 told1 => ⟨xPrompt, .inl rfl, x2, s2, g2, ts, _, tw2F.same sm6, fun p2 lv2 fo2 as2 H7 hfr2 sm7 told2 => ⟨?_, q H7⟩⟩⟩
            rw [eZ, eR, eF, eP] at told2
            exact told_like (told1.same sm7) told2
end
theorem all_mk {l : PySem.W.OpenLaw} {w : World} {K : PySem.W.Frag} {h : Heap} {mg : Str → Option Value} {fa f0 f1 f2 f3 f4 f5 f6 f7 f8 f9 f10 f11 f12 f13 f14 f15 f16 f17 f18 f19 f20 f21 f22 f23 f24 f25 f26 f27 f28 f29 f30 f31 f32 f33 f34 f35 f36 f37 f38 f39 f40 f41 f42 f43 f44 f45 f46 f47 f48 f49 f50 f51 f52 f53 f54 f55 f56 xStock xTower xPrompt : Addr} (X : K.In h) (G : h.Ns mainGlobals mg) (hfa : mg "law" = some (.ref fa))
    {od0 an0 od1 an1 od2 an2 od3 an3 od4 an4 od5 an5 od6 an6 od7 an7 od8 an8 od9 an9 od10 an10 od11 an11 od12 an12 od13 an13 od14 an14 od15 an15 od16 an16 od17 an17 od18 an18 od19 an19 od20 an20 od21 an21 od22 an22 od23 an23 od24 an24 od25 an25 od26 an26 od27 an27 od28 an28 od29 an29 od30 an30 od31 an31 od32 an32 od33 an33 od34 an34 od35 an35 od36 an36 od37 an37 od38 an38 od39 an39 od40 an40 od41 an41 od42 an42 od43 an43 od44 an44 od45 an45 od46 an46 od47 an47 od48 an48 od49 an49 od50 an50 od51 an51 od52 an52 od53 an53 od54 an54 od55 an55 od56 an56 : Option Addr} {sl0 sl1 sl2 sl3 sl4 sl5 sl6 sl7 sl8 sl9 sl10 sl11 sl12 sl13 sl14 sl15 sl16 sl17 sl18 sl19 sl20 sl21 sl22 sl23 sl24 sl25 sl26 sl27 sl28 sl29 sl30 sl31 sl32 sl33 sl34 sl35 sl36 sl37 sl38 sl39 sl40 sl41 sl42 sl43 sl44 sl45 sl46 sl47 sl48 sl49 sl50 sl51 sl52 sl53 sl54 sl55 sl56 : Array (Option Value)} {oc0 kV0 dc0 pm0 cd0 ct0 oc1 kV1 dc1 pm1 cd1 ct1 oc2 kV2 dc2 pm2 cd2 ct2 oc3 kV3 dc3 pm3 cd3 ct3 oc4 kV4 dc4 pm4 cd4 ct4 oc5 kV5 dc5 pm5 cd5 ct5 oc6 kV6 dc6 pm6 cd6 ct6 oc7 kV7 dc7 pm7 cd7 ct7 oc8 kV8 dc8 pm8 cd8 ct8 oc9 kV9 dc9 pm9 cd9 ct9 oc10 kV10 dc10 pm10 cd10 ct10 oc11 kV11 dc11 pm11 cd11 ct11 oc12 kV12 dc12 pm12 cd12 ct12 oc13 kV13 dc13 pm13 cd13 ct13 oc14 kV14 dc14 pm14 cd14 ct14 oc15 kV15 dc15 pm15 cd15 ct15 oc16 kV16 dc16 pm16 cd16 ct16 oc17 kV17 dc17 pm17 cd17 ct17 oc18 kV18 dc18 pm18 cd18 ct18 oc19 kV19 dc19 pm19 cd19 ct19 oc20 kV20 dc20 pm20 cd20 ct20 oc21 kV21 dc21 pm21 cd21 ct21 oc22 kV22 dc22 pm22 cd22 ct22 oc23 kV23 dc23 pm23 cd23 ct23 oc24 kV24 dc24 pm24 cd24 ct24 oc25 kV25 dc25 pm25 cd25 ct25 oc26 kV26 dc26 pm26 cd26 ct26 oc27 kV27 dc27 pm27 cd27 ct27 oc28 kV28 dc28 pm28 cd28 ct28 oc29 kV29 dc29 pm29 cd29 ct29 oc30 kV30 dc30 pm30 cd30 ct30 oc31 kV31 dc31 pm31 cd31 ct31 oc32 kV32 dc32 pm32 cd32 ct32 oc33 kV33 dc33 pm33 cd33 ct33 oc34 kV34 dc34 pm34 cd34 ct34 oc35 kV35 dc35 pm35 cd35 ct35 oc36 kV36 dc36 pm36 cd36 ct36 oc37 kV37 dc37 pm37 cd37 ct37 oc38 kV38 dc38 pm38 cd38 ct38 oc39 kV39 dc39 pm39 cd39 ct39 oc40 kV40 dc40 pm40 cd40 ct40 oc41 kV41 dc41 pm41 cd41 ct41 oc42 kV42 dc42 pm42 cd42 ct42 oc43 kV43 dc43 pm43 cd43 ct43 oc44 kV44 dc44 pm44 cd44 ct44 oc45 kV45 dc45 pm45 cd45 ct45 oc46 kV46 dc46 pm46 cd46 ct46 oc47 kV47 dc47 pm47 cd47 ct47 oc48 kV48 dc48 pm48 cd48 ct48 oc49 kV49 dc49 pm49 cd49 ct49 oc50 kV50 dc50 pm50 cd50 ct50 oc51 kV51 dc51 pm51 cd51 ct51 oc52 kV52 dc52 pm52 cd52 ct52 oc53 kV53 dc53 pm53 cd53 ct53 oc54 kV54 dc54 pm54 cd54 ct54 oc55 kV55 dc55 pm55 cd55 ct55 oc56 kV56 dc56 pm56 cd56 ct56 : Value}
    (a0 : PySem.W.nsIn K mainGlobals "made_of" = some (some (.ref f0))) (l0 : K.lookup f0 = some ⟨oc0, od0, .func (PySem.W.fnOf "made_of" "made_of" (defArgs s_made_of) (defBody s_made_of) (defScope s_made_of) .none kV0 dc0 pm0 an0 cd0 ct0), sl0⟩) (c0 : PySem.W.codeIn K cd0 "made_of" = true) (k0 : PySem.W.keepIn K (.ref f0) = true)
    (a1 : PySem.W.nsIn K mainGlobals "is_name" = some (some (.ref f1))) (l1 : K.lookup f1 = some ⟨oc1, od1, .func (PySem.W.fnOf "is_name" "is_name" (defArgs s_is_name) (defBody s_is_name) (defScope s_is_name) .none kV1 dc1 pm1 an1 cd1 ct1), sl1⟩) (c1 : PySem.W.codeIn K cd1 "is_name" = true) (k1 : PySem.W.keepIn K (.ref f1) = true)
    (a2 : PySem.W.nsIn K mainGlobals "is_whole" = some (some (.ref f2))) (l2 : K.lookup f2 = some ⟨oc2, od2, .func (PySem.W.fnOf "is_whole" "is_whole" (defArgs s_is_whole) (defBody s_is_whole) (defScope s_is_whole) .none kV2 dc2 pm2 an2 cd2 ct2), sl2⟩) (c2 : PySem.W.codeIn K cd2 "is_whole" = true) (k2 : PySem.W.keepIn K (.ref f2) = true)
    (a3 : PySem.W.nsIn K mainGlobals "is_within" = some (some (.ref f3))) (l3 : K.lookup f3 = some ⟨oc3, od3, .func (PySem.W.fnOf "is_within" "is_within" (defArgs s_is_within) (defBody s_is_within) (defScope s_is_within) .none kV3 dc3 pm3 an3 cd3 ct3), sl3⟩) (c3 : PySem.W.codeIn K cd3 "is_within" = true) (k3 : PySem.W.keepIn K (.ref f3) = true)
    (a4 : PySem.W.nsIn K mainGlobals "check_thing" = some (some (.ref f4))) (l4 : K.lookup f4 = some ⟨oc4, od4, .func (PySem.W.fnOf "check_thing" "check_thing" (defArgs s_check_thing) (defBody s_check_thing) (defScope s_check_thing) .none kV4 dc4 pm4 an4 cd4 ct4), sl4⟩) (c4 : PySem.W.codeIn K cd4 "check_thing" = true) (k4 : PySem.W.keepIn K (.ref f4) = true)
    (a5 : PySem.W.findIn K (.ref xStock) "__init__" = some (some (.ref f5))) (l5 : K.lookup f5 = some ⟨oc5, od5, .func (PySem.W.fnOf "__init__" "Stock.__init__" (defArgs s_Stock_init) (defBody s_Stock_init) (defScope s_Stock_init) .none kV5 dc5 pm5 an5 cd5 ct5), sl5⟩) (c5 : PySem.W.codeIn K cd5 "Stock.__init__" = true) (n5 : PySem.W.isFn K (.ref f5) = true) (k5 : PySem.W.keepIn K (.ref xStock) = true) (m5 : PySem.W.makesIn K xStock = true) (kf5 : PySem.W.keepIn K (.ref f5) = true)
    (a6 : PySem.W.findIn K (.ref xStock) "names" = some (some (.ref f6))) (l6 : K.lookup f6 = some ⟨oc6, od6, .func (PySem.W.fnOf "names" "Stock.names" (defArgs s_Stock_names) (defBody s_Stock_names) (defScope s_Stock_names) .none kV6 dc6 pm6 an6 cd6 ct6), sl6⟩) (c6 : PySem.W.codeIn K cd6 "Stock.names" = true) (n6 : PySem.W.isFn K (.ref f6) = true) (k6 : PySem.W.keepIn K (.ref f6) = true)
    (a7 : PySem.W.nsIn K mainGlobals "check_places" = some (some (.ref f7))) (l7 : K.lookup f7 = some ⟨oc7, od7, .func (PySem.W.fnOf "check_places" "check_places" (defArgs s_check_places) (defBody s_check_places) (defScope s_check_places) .none kV7 dc7 pm7 an7 cd7 ct7), sl7⟩) (c7 : PySem.W.codeIn K cd7 "check_places" = true) (k7 : PySem.W.keepIn K (.ref f7) = true)
    (a8 : PySem.W.findIn K (.ref xStock) "thing_of" = some (some (.ref f8))) (l8 : K.lookup f8 = some ⟨oc8, od8, .func (PySem.W.fnOf "thing_of" "Stock.thing_of" (defArgs s_Stock_thing_of) (defBody s_Stock_thing_of) (defScope s_Stock_thing_of) .none kV8 dc8 pm8 an8 cd8 ct8), sl8⟩) (c8 : PySem.W.codeIn K cd8 "Stock.thing_of" = true) (n8 : PySem.W.isFn K (.ref f8) = true) (k8 : PySem.W.keepIn K (.ref f8) = true)
    (a9 : PySem.W.findIn K (.ref xStock) "number_of" = some (some (.ref f9))) (l9 : K.lookup f9 = some ⟨oc9, od9, .func (PySem.W.fnOf "number_of" "Stock.number_of" (defArgs s_Stock_number_of) (defBody s_Stock_number_of) (defScope s_Stock_number_of) .none kV9 dc9 pm9 an9 cd9 ct9), sl9⟩) (c9 : PySem.W.codeIn K cd9 "Stock.number_of" = true) (n9 : PySem.W.isFn K (.ref f9) = true) (k9 : PySem.W.keepIn K (.ref f9) = true)
    (a10 : PySem.W.findIn K (.ref xStock) "cost_of" = some (some (.ref f10))) (l10 : K.lookup f10 = some ⟨oc10, od10, .func (PySem.W.fnOf "cost_of" "Stock.cost_of" (defArgs s_Stock_cost_of) (defBody s_Stock_cost_of) (defScope s_Stock_cost_of) .none kV10 dc10 pm10 an10 cd10 ct10), sl10⟩) (c10 : PySem.W.codeIn K cd10 "Stock.cost_of" = true) (n10 : PySem.W.isFn K (.ref f10) = true) (k10 : PySem.W.keepIn K (.ref f10) = true)
    (a11 : PySem.W.findIn K (.ref xStock) "room_of" = some (some (.ref f11))) (l11 : K.lookup f11 = some ⟨oc11, od11, .func (PySem.W.fnOf "room_of" "Stock.room_of" (defArgs s_Stock_room_of) (defBody s_Stock_room_of) (defScope s_Stock_room_of) .none kV11 dc11 pm11 an11 cd11 ct11), sl11⟩) (c11 : PySem.W.codeIn K cd11 "Stock.room_of" = true) (n11 : PySem.W.isFn K (.ref f11) = true) (k11 : PySem.W.keepIn K (.ref f11) = true)
    (a12 : PySem.W.nsIn K mainGlobals "check_sizes" = some (some (.ref f12))) (l12 : K.lookup f12 = some ⟨oc12, od12, .func (PySem.W.fnOf "check_sizes" "check_sizes" (defArgs s_check_sizes) (defBody s_check_sizes) (defScope s_check_sizes) .none kV12 dc12 pm12 an12 cd12 ct12), sl12⟩) (c12 : PySem.W.codeIn K cd12 "check_sizes" = true) (k12 : PySem.W.keepIn K (.ref f12) = true)
    (a13 : PySem.W.nsIn K mainGlobals "check_rooms" = some (some (.ref f13))) (l13 : K.lookup f13 = some ⟨oc13, od13, .func (PySem.W.fnOf "check_rooms" "check_rooms" (defArgs s_check_rooms) (defBody s_check_rooms) (defScope s_check_rooms) .none kV13 dc13 pm13 an13 cd13 ct13), sl13⟩) (c13 : PySem.W.codeIn K cd13 "check_rooms" = true) (k13 : PySem.W.keepIn K (.ref f13) = true)
    (a14 : PySem.W.findIn K (.ref xTower) "write" = some (some (.ref f14))) (l14 : K.lookup f14 = some ⟨oc14, od14, .func (PySem.W.fnOf "write" "Tower.write" (defArgs s_Tower_write) (defBody s_Tower_write) (defScope s_Tower_write) .none kV14 dc14 pm14 an14 cd14 ct14), sl14⟩) (c14 : PySem.W.codeIn K cd14 "Tower.write" = true) (n14 : PySem.W.isFn K (.ref f14) = true) (k14 : PySem.W.keepIn K (.ref f14) = true)
    (a15 : PySem.W.findIn K (.ref xTower) "settle" = some (some (.ref f15))) (l15 : K.lookup f15 = some ⟨oc15, od15, .func (PySem.W.fnOf "settle" "Tower.settle" (defArgs s_Tower_settle) (defBody s_Tower_settle) (defScope s_Tower_settle) .none kV15 dc15 pm15 an15 cd15 ct15), sl15⟩) (c15 : PySem.W.codeIn K cd15 "Tower.settle" = true) (n15 : PySem.W.isFn K (.ref f15) = true) (k15 : PySem.W.keepIn K (.ref f15) = true)
    (a16 : PySem.W.findIn K (.ref xTower) "fall_off" = some (some (.ref f16))) (l16 : K.lookup f16 = some ⟨oc16, od16, .func (PySem.W.fnOf "fall_off" "Tower.fall_off" (defArgs s_Tower_fall_off) (defBody s_Tower_fall_off) (defScope s_Tower_fall_off) .none kV16 dc16 pm16 an16 cd16 ct16), sl16⟩) (c16 : PySem.W.codeIn K cd16 "Tower.fall_off" = true) (n16 : PySem.W.isFn K (.ref f16) = true) (k16 : PySem.W.keepIn K (.ref f16) = true)
    (a17 : PySem.W.findIn K (.ref xTower) "come" = some (some (.ref f17))) (l17 : K.lookup f17 = some ⟨oc17, od17, .func (PySem.W.fnOf "come" "Tower.come" (defArgs s_Tower_come) (defBody s_Tower_come) (defScope s_Tower_come) .none kV17 dc17 pm17 an17 cd17 ct17), sl17⟩) (c17 : PySem.W.codeIn K cd17 "Tower.come" = true) (n17 : PySem.W.isFn K (.ref f17) = true) (k17 : PySem.W.keepIn K (.ref f17) = true)
    (a18 : PySem.W.findIn K (.ref xTower) "levels" = some (some (.ref f18))) (l18 : K.lookup f18 = some ⟨oc18, od18, .func (PySem.W.fnOf "levels" "Tower.levels" (defArgs s_Tower_levels) (defBody s_Tower_levels) (defScope s_Tower_levels) .none kV18 dc18 pm18 an18 cd18 ct18), sl18⟩) (c18 : PySem.W.codeIn K cd18 "Tower.levels" = true) (n18 : PySem.W.isFn K (.ref f18) = true) (k18 : PySem.W.keepIn K (.ref f18) = true)
    (a19 : PySem.W.findIn K (.ref xTower) "shelf_of" = some (some (.ref f19))) (l19 : K.lookup f19 = some ⟨oc19, od19, .func (PySem.W.fnOf "shelf_of" "Tower.shelf_of" (defArgs s_Tower_shelf_of) (defBody s_Tower_shelf_of) (defScope s_Tower_shelf_of) .none kV19 dc19 pm19 an19 cd19 ct19), sl19⟩) (c19 : PySem.W.codeIn K cd19 "Tower.shelf_of" = true) (n19 : PySem.W.isFn K (.ref f19) = true) (k19 : PySem.W.keepIn K (.ref f19) = true)
    (a20 : PySem.W.findIn K (.ref xTower) "stored" = some (some (.ref f20))) (l20 : K.lookup f20 = some ⟨oc20, od20, .func (PySem.W.fnOf "stored" "Tower.stored" (defArgs s_Tower_stored) (defBody s_Tower_stored) (defScope s_Tower_stored) .none kV20 dc20 pm20 an20 cd20 ct20), sl20⟩) (c20 : PySem.W.codeIn K cd20 "Tower.stored" = true) (n20 : PySem.W.isFn K (.ref f20) = true) (k20 : PySem.W.keepIn K (.ref f20) = true)
    (a21 : PySem.W.findIn K (.ref xTower) "fetch" = some (some (.ref f21))) (l21 : K.lookup f21 = some ⟨oc21, od21, .func (PySem.W.fnOf "fetch" "Tower.fetch" (defArgs s_Tower_fetch) (defBody s_Tower_fetch) (defScope s_Tower_fetch) .none kV21 dc21 pm21 an21 cd21 ct21), sl21⟩) (c21 : PySem.W.codeIn K cd21 "Tower.fetch" = true) (n21 : PySem.W.isFn K (.ref f21) = true) (k21 : PySem.W.keepIn K (.ref f21) = true)
    (a22 : PySem.W.findIn K (.ref xTower) "read" = some (some (.ref f22))) (l22 : K.lookup f22 = some ⟨oc22, od22, .func (PySem.W.fnOf "read" "Tower.read" (defArgs s_Tower_read) (defBody s_Tower_read) (defScope s_Tower_read) .none kV22 dc22 pm22 an22 cd22 ct22), sl22⟩) (c22 : PySem.W.codeIn K cd22 "Tower.read" = true) (n22 : PySem.W.isFn K (.ref f22) = true) (k22 : PySem.W.keepIn K (.ref f22) = true)
    (a23 : PySem.W.findIn K (.ref xTower) "keep" = some (some (.ref f23))) (l23 : K.lookup f23 = some ⟨oc23, od23, .func (PySem.W.fnOf "keep" "Tower.keep" (defArgs s_Tower_keep) (defBody s_Tower_keep) (defScope s_Tower_keep) .none kV23 dc23 pm23 an23 cd23 ct23), sl23⟩) (c23 : PySem.W.codeIn K cd23 "Tower.keep" = true) (n23 : PySem.W.isFn K (.ref f23) = true) (k23 : PySem.W.keepIn K (.ref f23) = true)
    (a24 : PySem.W.findIn K (.ref xTower) "ahead" = some (some (.ref f24))) (l24 : K.lookup f24 = some ⟨oc24, od24, .func (PySem.W.fnOf "ahead" "Tower.ahead" (defArgs s_Tower_ahead) (defBody s_Tower_ahead) (defScope s_Tower_ahead) .none kV24 dc24 pm24 an24 cd24 ct24), sl24⟩) (c24 : PySem.W.codeIn K cd24 "Tower.ahead" = true) (n24 : PySem.W.isFn K (.ref f24) = true) (k24 : PySem.W.keepIn K (.ref f24) = true)
    (a25 : PySem.W.findIn K (.ref xTower) "rest" = some (some (.ref f25))) (l25 : K.lookup f25 = some ⟨oc25, od25, .func (PySem.W.fnOf "rest" "Tower.rest" (defArgs s_Tower_rest) (defBody s_Tower_rest) (defScope s_Tower_rest) .none kV25 dc25 pm25 an25 cd25 ct25), sl25⟩) (c25 : PySem.W.codeIn K cd25 "Tower.rest" = true) (n25 : PySem.W.isFn K (.ref f25) = true) (k25 : PySem.W.keepIn K (.ref f25) = true)
    (a26 : PySem.W.findIn K (.ref xTower) "diary" = some (some (.ref f26))) (l26 : K.lookup f26 = some ⟨oc26, od26, .func (PySem.W.fnOf "diary" "Tower.diary" (defArgs s_Tower_diary) (defBody s_Tower_diary) (defScope s_Tower_diary) .none kV26 dc26 pm26 an26 cd26 ct26), sl26⟩) (c26 : PySem.W.codeIn K cd26 "Tower.diary" = true) (n26 : PySem.W.isFn K (.ref f26) = true) (k26 : PySem.W.keepIn K (.ref f26) = true)
    (a27 : PySem.W.findIn K (.ref xTower) "found" = some (some (.ref f27))) (l27 : K.lookup f27 = some ⟨oc27, od27, .func (PySem.W.fnOf "found" "Tower.found" (defArgs s_Tower_found) (defBody s_Tower_found) (defScope s_Tower_found) .none kV27 dc27 pm27 an27 cd27 ct27), sl27⟩) (c27 : PySem.W.codeIn K cd27 "Tower.found" = true) (n27 : PySem.W.isFn K (.ref f27) = true) (k27 : PySem.W.keepIn K (.ref f27) = true)
    (a28 : PySem.W.findIn K (.ref xTower) "spent" = some (some (.ref f28))) (l28 : K.lookup f28 = some ⟨oc28, od28, .func (PySem.W.fnOf "spent" "Tower.spent" (defArgs s_Tower_spent) (defBody s_Tower_spent) (defScope s_Tower_spent) .none kV28 dc28 pm28 an28 cd28 ct28), sl28⟩) (c28 : PySem.W.codeIn K cd28 "Tower.spent" = true) (n28 : PySem.W.isFn K (.ref f28) = true) (k28 : PySem.W.keepIn K (.ref f28) = true)
    (a29 : PySem.W.findIn K (.ref xTower) "__init__" = some (some (.ref f29))) (l29 : K.lookup f29 = some ⟨oc29, od29, .func (PySem.W.fnOf "__init__" "Tower.__init__" (defArgs s_Tower_init) (defBody s_Tower_init) (defScope s_Tower_init) .none kV29 dc29 pm29 an29 cd29 ct29), sl29⟩) (c29 : PySem.W.codeIn K cd29 "Tower.__init__" = true) (n29 : PySem.W.isFn K (.ref f29) = true) (k29 : PySem.W.keepIn K (.ref xTower) = true) (m29 : PySem.W.makesIn K xTower = true) (kf29 : PySem.W.keepIn K (.ref f29) = true)
    (a30 : PySem.W.findIn K (.ref xPrompt) "write" = some (some (.ref f30))) (l30 : K.lookup f30 = some ⟨oc30, od30, .func (PySem.W.fnOf "write" "Tower.write" (defArgs s_Prompt_write) (defBody s_Prompt_write) (defScope s_Prompt_write) .none kV30 dc30 pm30 an30 cd30 ct30), sl30⟩) (c30 : PySem.W.codeIn K cd30 "Tower.write" = true) (n30 : PySem.W.isFn K (.ref f30) = true) (k30 : PySem.W.keepIn K (.ref f30) = true)
    (a31 : PySem.W.findIn K (.ref xPrompt) "settle" = some (some (.ref f31))) (l31 : K.lookup f31 = some ⟨oc31, od31, .func (PySem.W.fnOf "settle" "Prompt.settle" (defArgs s_Prompt_settle) (defBody s_Prompt_settle) (defScope s_Prompt_settle) .none kV31 dc31 pm31 an31 cd31 ct31), sl31⟩) (c31 : PySem.W.codeIn K cd31 "Prompt.settle" = true) (n31 : PySem.W.isFn K (.ref f31) = true) (k31 : PySem.W.keepIn K (.ref f31) = true)
    (a32 : PySem.W.findIn K (.ref xPrompt) "fall_off" = some (some (.ref f32))) (l32 : K.lookup f32 = some ⟨oc32, od32, .func (PySem.W.fnOf "fall_off" "Tower.fall_off" (defArgs s_Prompt_fall_off) (defBody s_Prompt_fall_off) (defScope s_Prompt_fall_off) .none kV32 dc32 pm32 an32 cd32 ct32), sl32⟩) (c32 : PySem.W.codeIn K cd32 "Tower.fall_off" = true) (n32 : PySem.W.isFn K (.ref f32) = true) (k32 : PySem.W.keepIn K (.ref f32) = true)
    (a33 : PySem.W.findIn K (.ref xPrompt) "come" = some (some (.ref f33))) (l33 : K.lookup f33 = some ⟨oc33, od33, .func (PySem.W.fnOf "come" "Tower.come" (defArgs s_Prompt_come) (defBody s_Prompt_come) (defScope s_Prompt_come) .none kV33 dc33 pm33 an33 cd33 ct33), sl33⟩) (c33 : PySem.W.codeIn K cd33 "Tower.come" = true) (n33 : PySem.W.isFn K (.ref f33) = true) (k33 : PySem.W.keepIn K (.ref f33) = true)
    (a34 : PySem.W.findIn K (.ref xPrompt) "levels" = some (some (.ref f34))) (l34 : K.lookup f34 = some ⟨oc34, od34, .func (PySem.W.fnOf "levels" "Tower.levels" (defArgs s_Prompt_levels) (defBody s_Prompt_levels) (defScope s_Prompt_levels) .none kV34 dc34 pm34 an34 cd34 ct34), sl34⟩) (c34 : PySem.W.codeIn K cd34 "Tower.levels" = true) (n34 : PySem.W.isFn K (.ref f34) = true) (k34 : PySem.W.keepIn K (.ref f34) = true)
    (a35 : PySem.W.findIn K (.ref xPrompt) "shelf_of" = some (some (.ref f35))) (l35 : K.lookup f35 = some ⟨oc35, od35, .func (PySem.W.fnOf "shelf_of" "Tower.shelf_of" (defArgs s_Prompt_shelf_of) (defBody s_Prompt_shelf_of) (defScope s_Prompt_shelf_of) .none kV35 dc35 pm35 an35 cd35 ct35), sl35⟩) (c35 : PySem.W.codeIn K cd35 "Tower.shelf_of" = true) (n35 : PySem.W.isFn K (.ref f35) = true) (k35 : PySem.W.keepIn K (.ref f35) = true)
    (a36 : PySem.W.findIn K (.ref xPrompt) "stored" = some (some (.ref f36))) (l36 : K.lookup f36 = some ⟨oc36, od36, .func (PySem.W.fnOf "stored" "Tower.stored" (defArgs s_Prompt_stored) (defBody s_Prompt_stored) (defScope s_Prompt_stored) .none kV36 dc36 pm36 an36 cd36 ct36), sl36⟩) (c36 : PySem.W.codeIn K cd36 "Tower.stored" = true) (n36 : PySem.W.isFn K (.ref f36) = true) (k36 : PySem.W.keepIn K (.ref f36) = true)
    (a37 : PySem.W.findIn K (.ref xPrompt) "fetch" = some (some (.ref f37))) (l37 : K.lookup f37 = some ⟨oc37, od37, .func (PySem.W.fnOf "fetch" "Tower.fetch" (defArgs s_Prompt_fetch) (defBody s_Prompt_fetch) (defScope s_Prompt_fetch) .none kV37 dc37 pm37 an37 cd37 ct37), sl37⟩) (c37 : PySem.W.codeIn K cd37 "Tower.fetch" = true) (n37 : PySem.W.isFn K (.ref f37) = true) (k37 : PySem.W.keepIn K (.ref f37) = true)
    (a38 : PySem.W.findIn K (.ref xPrompt) "read" = some (some (.ref f38))) (l38 : K.lookup f38 = some ⟨oc38, od38, .func (PySem.W.fnOf "read" "Tower.read" (defArgs s_Prompt_read) (defBody s_Prompt_read) (defScope s_Prompt_read) .none kV38 dc38 pm38 an38 cd38 ct38), sl38⟩) (c38 : PySem.W.codeIn K cd38 "Tower.read" = true) (n38 : PySem.W.isFn K (.ref f38) = true) (k38 : PySem.W.keepIn K (.ref f38) = true)
    (a39 : PySem.W.findIn K (.ref xPrompt) "keep" = some (some (.ref f39))) (l39 : K.lookup f39 = some ⟨oc39, od39, .func (PySem.W.fnOf "keep" "Tower.keep" (defArgs s_Prompt_keep) (defBody s_Prompt_keep) (defScope s_Prompt_keep) .none kV39 dc39 pm39 an39 cd39 ct39), sl39⟩) (c39 : PySem.W.codeIn K cd39 "Tower.keep" = true) (n39 : PySem.W.isFn K (.ref f39) = true) (k39 : PySem.W.keepIn K (.ref f39) = true)
    (a40 : PySem.W.findIn K (.ref xPrompt) "ahead" = some (some (.ref f40))) (l40 : K.lookup f40 = some ⟨oc40, od40, .func (PySem.W.fnOf "ahead" "Tower.ahead" (defArgs s_Prompt_ahead) (defBody s_Prompt_ahead) (defScope s_Prompt_ahead) .none kV40 dc40 pm40 an40 cd40 ct40), sl40⟩) (c40 : PySem.W.codeIn K cd40 "Tower.ahead" = true) (n40 : PySem.W.isFn K (.ref f40) = true) (k40 : PySem.W.keepIn K (.ref f40) = true)
    (a41 : PySem.W.findIn K (.ref xPrompt) "diary" = some (some (.ref f41))) (l41 : K.lookup f41 = some ⟨oc41, od41, .func (PySem.W.fnOf "diary" "Tower.diary" (defArgs s_Prompt_diary) (defBody s_Prompt_diary) (defScope s_Prompt_diary) .none kV41 dc41 pm41 an41 cd41 ct41), sl41⟩) (c41 : PySem.W.codeIn K cd41 "Tower.diary" = true) (n41 : PySem.W.isFn K (.ref f41) = true) (k41 : PySem.W.keepIn K (.ref f41) = true)
    (a42 : PySem.W.findIn K (.ref xPrompt) "found" = some (some (.ref f42))) (l42 : K.lookup f42 = some ⟨oc42, od42, .func (PySem.W.fnOf "found" "Tower.found" (defArgs s_Prompt_found) (defBody s_Prompt_found) (defScope s_Prompt_found) .none kV42 dc42 pm42 an42 cd42 ct42), sl42⟩) (c42 : PySem.W.codeIn K cd42 "Tower.found" = true) (n42 : PySem.W.isFn K (.ref f42) = true) (k42 : PySem.W.keepIn K (.ref f42) = true)
    (a43 : PySem.W.findIn K (.ref xPrompt) "spent" = some (some (.ref f43))) (l43 : K.lookup f43 = some ⟨oc43, od43, .func (PySem.W.fnOf "spent" "Tower.spent" (defArgs s_Prompt_spent) (defBody s_Prompt_spent) (defScope s_Prompt_spent) .none kV43 dc43 pm43 an43 cd43 ct43), sl43⟩) (c43 : PySem.W.codeIn K cd43 "Tower.spent" = true) (n43 : PySem.W.isFn K (.ref f43) = true) (k43 : PySem.W.keepIn K (.ref f43) = true)
    (a44 : PySem.W.findIn K (.ref xPrompt) "__init__" = some (some (.ref f44))) (l44 : K.lookup f44 = some ⟨oc44, od44, .func (PySem.W.fnOf "__init__" "Tower.__init__" (defArgs s_Prompt_init) (defBody s_Prompt_init) (defScope s_Prompt_init) .none kV44 dc44 pm44 an44 cd44 ct44), sl44⟩) (c44 : PySem.W.codeIn K cd44 "Tower.__init__" = true) (n44 : PySem.W.isFn K (.ref f44) = true) (k44 : PySem.W.keepIn K (.ref xPrompt) = true) (m44 : PySem.W.makesIn K xPrompt = true) (kf44 : PySem.W.keepIn K (.ref f44) = true)
    (a45 : PySem.W.nsIn K mainGlobals "_law_cell_at" = some (some (.ref f45))) (l45 : K.lookup f45 = some ⟨oc45, od45, .func (PySem.W.fnOf "_law_cell_at" "_law_cell_at" (defArgs s_l_cell_at) (defBody s_l_cell_at) (defScope s_l_cell_at) .none kV45 dc45 pm45 an45 cd45 ct45), sl45⟩) (c45 : PySem.W.codeIn K cd45 "_law_cell_at" = true) (k45 : PySem.W.keepIn K (.ref f45) = true)
    (a46 : PySem.W.nsIn K mainGlobals "_law_mix" = some (some (.ref f46))) (l46 : K.lookup f46 = some ⟨oc46, od46, .func (PySem.W.fnOf "_law_mix" "_law_mix" (defArgs s_l_mix) (defBody s_l_mix) (defScope s_l_mix) .none kV46 dc46 pm46 an46 cd46 ct46), sl46⟩) (c46 : PySem.W.codeIn K cd46 "_law_mix" = true) (k46 : PySem.W.keepIn K (.ref f46) = true)
    (a47 : PySem.W.nsIn K mainGlobals "_law_names" = some (some (.ref f47))) (l47 : K.lookup f47 = some ⟨oc47, od47, .func (PySem.W.fnOf "_law_names" "_law_names" (defArgs s_l_names) (defBody s_l_names) (defScope s_l_names) .none kV47 dc47 pm47 an47 cd47 ct47), sl47⟩) (c47 : PySem.W.codeIn K cd47 "_law_names" = true) (k47 : PySem.W.keepIn K (.ref f47) = true)
    (a48 : PySem.W.nsIn K mainGlobals "_law_sizes" = some (some (.ref f48))) (l48 : K.lookup f48 = some ⟨oc48, od48, .func (PySem.W.fnOf "_law_sizes" "_law_sizes" (defArgs s_l_sizes) (defBody s_l_sizes) (defScope s_l_sizes) .none kV48 dc48 pm48 an48 cd48 ct48), sl48⟩) (c48 : PySem.W.codeIn K cd48 "_law_sizes" = true) (k48 : PySem.W.keepIn K (.ref f48) = true)
    (a49 : PySem.W.nsIn K mainGlobals "_law_value" = some (some (.ref f49))) (l49 : K.lookup f49 = some ⟨oc49, od49, .func (PySem.W.fnOf "_law_value" "_law_value" (defArgs s_l_value) (defBody s_l_value) (defScope s_l_value) .none kV49 dc49 pm49 an49 cd49 ct49), sl49⟩) (c49 : PySem.W.codeIn K cd49 "_law_value" = true) (k49 : PySem.W.keepIn K (.ref f49) = true)
    (a50 : PySem.W.nsIn K mainGlobals "_law_done" = some (some (.ref f50))) (l50 : K.lookup f50 = some ⟨oc50, od50, .func (PySem.W.fnOf "_law_done" "_law_done" (defArgs s_l_done) (defBody s_l_done) (defScope s_l_done) .none kV50 dc50 pm50 an50 cd50 ct50), sl50⟩) (c50 : PySem.W.codeIn K cd50 "_law_done" = true) (k50 : PySem.W.keepIn K (.ref f50) = true)
    (a51 : PySem.W.nsIn K mainGlobals "_law_told" = some (some (.ref f51))) (l51 : K.lookup f51 = some ⟨oc51, od51, .func (PySem.W.fnOf "_law_told" "_law_told" (defArgs s_l_told) (defBody s_l_told) (defScope s_l_told) .none kV51 dc51 pm51 an51 cd51 ct51), sl51⟩) (c51 : PySem.W.codeIn K cd51 "_law_told" = true) (k51 : PySem.W.keepIn K (.ref f51) = true)
    (a52 : PySem.W.nsIn K mainGlobals "_law_came" = some (some (.ref f52))) (l52 : K.lookup f52 = some ⟨oc52, od52, .func (PySem.W.fnOf "_law_came" "_law_came" (defArgs s_l_came) (defBody s_l_came) (defScope s_l_came) .none kV52 dc52 pm52 an52 cd52 ct52), sl52⟩) (c52 : PySem.W.codeIn K cd52 "_law_came" = true) (k52 : PySem.W.keepIn K (.ref f52) = true)
    (a53 : PySem.W.nsIn K mainGlobals "_law_writes" = some (some (.ref f53))) (l53 : K.lookup f53 = some ⟨oc53, od53, .func (PySem.W.fnOf "_law_writes" "_law_writes" (defArgs s_l_writes) (defBody s_l_writes) (defScope s_l_writes) .none kV53 dc53 pm53 an53 cd53 ct53), sl53⟩) (c53 : PySem.W.codeIn K cd53 "_law_writes" = true) (k53 : PySem.W.keepIn K (.ref f53) = true)
    (a54 : PySem.W.nsIn K mainGlobals "_law_kept" = some (some (.ref f54))) (l54 : K.lookup f54 = some ⟨oc54, od54, .func (PySem.W.fnOf "_law_kept" "_law_kept" (defArgs s_l_kept) (defBody s_l_kept) (defScope s_l_kept) .none kV54 dc54 pm54 an54 cd54 ct54), sl54⟩) (c54 : PySem.W.codeIn K cd54 "_law_kept" = true) (k54 : PySem.W.keepIn K (.ref f54) = true)
    (a55 : PySem.W.nsIn K mainGlobals "_law_stores" = some (some (.ref f55))) (l55 : K.lookup f55 = some ⟨oc55, od55, .func (PySem.W.fnOf "_law_stores" "_law_stores" (defArgs s_l_stores) (defBody s_l_stores) (defScope s_l_stores) .none kV55 dc55 pm55 an55 cd55 ct55), sl55⟩) (c55 : PySem.W.codeIn K cd55 "_law_stores" = true) (k55 : PySem.W.keepIn K (.ref f55) = true)
    (a56 : PySem.W.nsIn K mainGlobals "law" = some (some (.ref f56))) (l56 : K.lookup f56 = some ⟨oc56, od56, .func (PySem.W.fnOf "law" "law" (defArgs s_law) (defBody s_law) (defScope s_law) .none kV56 dc56 pm56 an56 cd56 ct56), sl56⟩) (c56 : PySem.W.codeIn K cd56 "law" = true) (k56 : PySem.W.keepIn K (.ref f56) = true)
    (z_len : PySem.W.nsIn K mainGlobals "len" = some none)
    (z_isinstance : PySem.W.nsIn K mainGlobals "isinstance" = some none)
    (z_int : PySem.W.nsIn K mainGlobals "int" = some none)
    (z_bool : PySem.W.nsIn K mainGlobals "bool" = some none)
    (z_str : PySem.W.nsIn K mainGlobals "str" = some none)
    (z_list : PySem.W.nsIn K mainGlobals "list" = some none)
    (z_all : PySem.W.nsIn K mainGlobals "all" = some none)
    (z_range : PySem.W.nsIn K mainGlobals "range" = some none)
    (z_sum : PySem.W.nsIn K mainGlobals "sum" = some none)
    (z_enumerate : PySem.W.nsIn K mainGlobals "enumerate" = some none)
    (z_abs : PySem.W.nsIn K mainGlobals "abs" = some none)
    {tk_LETTERS : Tok} (g_LETTERS : PySem.W.nsIn K mainGlobals "LETTERS" = some (some (.str "abcdefghijklmnopqrstuvwxyz" tk_LETTERS)))
    {tk_FIGURES : Tok} (g_FIGURES : PySem.W.nsIn K mainGlobals "FIGURES" = some (some (.str "0123456789" tk_FIGURES)))
    {tk_MOST_SIGNS : Tok} (g_MOST_SIGNS : PySem.W.nsIn K mainGlobals "MOST_SIGNS" = some (some (.int 8 tk_MOST_SIGNS)))
    {tk_MOST_THINGS : Tok} (g_MOST_THINGS : PySem.W.nsIn K mainGlobals "MOST_THINGS" = some (some (.int 60 tk_MOST_THINGS)))
    {tk_MOST_ROOM : Tok} (g_MOST_ROOM : PySem.W.nsIn K mainGlobals "MOST_ROOM" = some (some (.int 1000 tk_MOST_ROOM)))
    {tk_MOST_PLACES : Tok} (g_MOST_PLACES : PySem.W.nsIn K mainGlobals "MOST_PLACES" = some (some (.int 1000000 tk_MOST_PLACES)))
    {tk_MOST_SHELVES : Tok} (g_MOST_SHELVES : PySem.W.nsIn K mainGlobals "MOST_SHELVES" = some (some (.int 6 tk_MOST_SHELVES)))
    (a_Stock : PySem.W.nsIn K mainGlobals "Stock" = some (some (.ref xStock))) (pg_Stock : PySem.W.plainGet K xStock Str.empty = true) (hd_Stock : PySem.W.hasDictIn K xStock = true) (po_Stock : PySem.W.plainOver K xStock = true) (sa_Stock : PySem.W.findIn K (.ref xStock) "__setattr__" = some (some (.builtin "object.__setattr__")))
    (n_Stock_things : PySem.W.findIn K (.ref xStock) "things" = some none)
    (a_Tower : PySem.W.nsIn K mainGlobals "Tower" = some (some (.ref xTower))) (pg_Tower : PySem.W.plainGet K xTower Str.empty = true) (hd_Tower : PySem.W.hasDictIn K xTower = true) (po_Tower : PySem.W.plainOver K xTower = true) (sa_Tower : PySem.W.findIn K (.ref xTower) "__setattr__" = some (some (.builtin "object.__setattr__")))
    (n_Tower_stock : PySem.W.findIn K (.ref xTower) "stock" = some none)
    (n_Tower_sizes : PySem.W.findIn K (.ref xTower) "sizes" = some none)
    (n_Tower_row : PySem.W.findIn K (.ref xTower) "row" = some none)
    (n_Tower_held : PySem.W.findIn K (.ref xTower) "held" = some none)
    (n_Tower_late : PySem.W.findIn K (.ref xTower) "late" = some none)
    (n_Tower_store : PySem.W.findIn K (.ref xTower) "store" = some none)
    (n_Tower_entries : PySem.W.findIn K (.ref xTower) "entries" = some none)
    (n_Tower_finds : PySem.W.findIn K (.ref xTower) "finds" = some none)
    (n_Tower_paid : PySem.W.findIn K (.ref xTower) "paid" = some none)
    (a_Prompt : PySem.W.nsIn K mainGlobals "Prompt" = some (some (.ref xPrompt))) (pg_Prompt : PySem.W.plainGet K xPrompt Str.empty = true) (hd_Prompt : PySem.W.hasDictIn K xPrompt = true) (po_Prompt : PySem.W.plainOver K xPrompt = true) (sa_Prompt : PySem.W.findIn K (.ref xPrompt) "__setattr__" = some (some (.builtin "object.__setattr__")))
    (n_Prompt_stock : PySem.W.findIn K (.ref xPrompt) "stock" = some none)
    (n_Prompt_sizes : PySem.W.findIn K (.ref xPrompt) "sizes" = some none)
    (n_Prompt_row : PySem.W.findIn K (.ref xPrompt) "row" = some none)
    (n_Prompt_held : PySem.W.findIn K (.ref xPrompt) "held" = some none)
    (n_Prompt_late : PySem.W.findIn K (.ref xPrompt) "late" = some none)
    (n_Prompt_store : PySem.W.findIn K (.ref xPrompt) "store" = some none)
    (n_Prompt_entries : PySem.W.findIn K (.ref xPrompt) "entries" = some none)
    (n_Prompt_finds : PySem.W.findIn K (.ref xPrompt) "finds" = some none)
    (n_Prompt_paid : PySem.W.findIn K (.ref xPrompt) "paid" = some none)
    (gs_ : PySem.W.specialIn K (.builtin "object.__class__") "__get__" = some (some (.builtin "getset_descriptor.__get__"))) (tk_ : PySem.W.takesIn K (.builtin "object.__class__") = some true)
    {cc_Prompt : ClassData} (cl_Prompt : PySem.W.clsIn K xPrompt = some cc_Prompt) (ty_Prompt : PySem.W.typeIn K (.ref xPrompt) = some (.type "type"))
    {cc_Tower : ClassData} (cl_Tower : PySem.W.clsIn K xTower = some cc_Tower) (ty_Tower : PySem.W.typeIn K (.ref xTower) = some (.type "type"))
    (wa_Prompt : PySem.W.findIn K (.ref xPrompt) "__class__" = some (some (.builtin "object.__class__"))) (wo_Prompt : PySem.W.mroIn K xPrompt (.type "object") = some true)
    (wa_Tower : PySem.W.findIn K (.ref xTower) "__class__" = some (some (.builtin "object.__class__"))) (wo_Tower : PySem.W.mroIn K xTower (.type "object") = some true)
    (s_Prompt_Prompt : PySem.W.subIn K (.ref xPrompt) (.ref xPrompt) = some true)
    (s_Prompt_Tower : PySem.W.subIn K (.ref xPrompt) (.ref xTower) = some true)
    (s_Tower_Prompt : PySem.W.subIn K (.ref xTower) (.ref xPrompt) = some false)
    (s_Tower_Tower : PySem.W.subIn K (.ref xTower) (.ref xTower) = some true)
    : ∃ fd : FuncData, (∀ (s : Shared) (v : Value), BindsTo s fd ⟨[v], []⟩ [("_law_script", v)]) ∧ ∀ base : Heap, K.In base → base.Ns mainGlobals mg → FnOk l.prog w K mg base CX0 9 fa fd ["_law_script"] (sp_law K) := by
  have e := hfa.symm.trans (PySem.W.mg_of X G a56)
  cases e
  have T : Txt K mg xStock xTower xPrompt := ⟨PySem.W.mg_of X G a_Stock, ⟨pg_Stock, hd_Stock, po_Stock, sa_Stock⟩, n_Stock_things, PySem.W.mg_of X G a_Tower, ⟨pg_Tower, hd_Tower, po_Tower, sa_Tower⟩, n_Tower_stock, n_Tower_sizes, n_Tower_row, n_Tower_held, n_Tower_late, n_Tower_store, n_Tower_entries, n_Tower_finds, n_Tower_paid, PySem.W.mg_of X G a_Prompt, ⟨pg_Prompt, hd_Prompt, po_Prompt, sa_Prompt⟩, n_Prompt_stock, n_Prompt_sizes, n_Prompt_row, n_Prompt_held, n_Prompt_late, n_Prompt_store, n_Prompt_entries, n_Prompt_finds, n_Prompt_paid, ⟨wa_Prompt, gs_, tk_, wo_Prompt⟩, ⟨wa_Tower, gs_, tk_, wo_Tower⟩, kit_own s_Tower_Tower cl_Prompt ty_Prompt s_Tower_Prompt, kit_own s_Prompt_Prompt cl_Tower ty_Tower s_Prompt_Tower, PySem.W.mg_none_of X G z_len, PySem.W.mg_none_of X G z_isinstance, PySem.W.mg_none_of X G z_int, PySem.W.mg_none_of X G z_bool, PySem.W.mg_none_of X G z_str, PySem.W.mg_none_of X G z_list, PySem.W.mg_none_of X G z_all, PySem.W.mg_none_of X G z_range, PySem.W.mg_none_of X G z_sum, PySem.W.mg_none_of X G z_enumerate, PySem.W.mg_none_of X G z_abs, ⟨_, PySem.W.mg_of X G g_LETTERS⟩, ⟨_, PySem.W.mg_of X G g_FIGURES⟩, ⟨_, PySem.W.mg_of X G g_MOST_SIGNS⟩, ⟨_, PySem.W.mg_of X G g_MOST_THINGS⟩, ⟨_, PySem.W.mg_of X G g_MOST_ROOM⟩, ⟨_, PySem.W.mg_of X G g_MOST_PLACES⟩, ⟨_, PySem.W.mg_of X G g_MOST_SHELVES⟩⟩
  have F0 := fun_mk (st := s_made_of) l0 c0 k0
  have F1 := fun_mk (st := s_is_name) l1 c1 k1
  have F2 := fun_mk (st := s_is_whole) l2 c2 k2
  have F3 := fun_mk (st := s_is_within) l3 c3 k3
  have F4 := fun_mk (st := s_check_thing) l4 c4 k4
  have F5 := fun_mk (st := s_Stock_init) l5 c5 kf5
  have F6 := fun_mk (st := s_Stock_names) l6 c6 k6
  have F7 := fun_mk (st := s_check_places) l7 c7 k7
  have F8 := fun_mk (st := s_Stock_thing_of) l8 c8 k8
  have F9 := fun_mk (st := s_Stock_number_of) l9 c9 k9
  have F10 := fun_mk (st := s_Stock_cost_of) l10 c10 k10
  have F11 := fun_mk (st := s_Stock_room_of) l11 c11 k11
  have F12 := fun_mk (st := s_check_sizes) l12 c12 k12
  have F13 := fun_mk (st := s_check_rooms) l13 c13 k13
  have F14 := fun_mk (st := s_Tower_write) l14 c14 k14
  have F15 := fun_mk (st := s_Tower_settle) l15 c15 k15
  have F16 := fun_mk (st := s_Tower_fall_off) l16 c16 k16
  have F17 := fun_mk (st := s_Tower_come) l17 c17 k17
  have F18 := fun_mk (st := s_Tower_levels) l18 c18 k18
  have F19 := fun_mk (st := s_Tower_shelf_of) l19 c19 k19
  have F20 := fun_mk (st := s_Tower_stored) l20 c20 k20
  have F21 := fun_mk (st := s_Tower_fetch) l21 c21 k21
  have F22 := fun_mk (st := s_Tower_read) l22 c22 k22
  have F23 := fun_mk (st := s_Tower_keep) l23 c23 k23
  have F24 := fun_mk (st := s_Tower_ahead) l24 c24 k24
  have F25 := fun_mk (st := s_Tower_rest) l25 c25 k25
  have F26 := fun_mk (st := s_Tower_diary) l26 c26 k26
  have F27 := fun_mk (st := s_Tower_found) l27 c27 k27
  have F28 := fun_mk (st := s_Tower_spent) l28 c28 k28
  have F29 := fun_mk (st := s_Tower_init) l29 c29 kf29
  have F30 := fun_mk (st := s_Prompt_write) l30 c30 k30
  have F31 := fun_mk (st := s_Prompt_settle) l31 c31 k31
  have F32 := fun_mk (st := s_Prompt_fall_off) l32 c32 k32
  have F33 := fun_mk (st := s_Prompt_come) l33 c33 k33
  have F34 := fun_mk (st := s_Prompt_levels) l34 c34 k34
  have F35 := fun_mk (st := s_Prompt_shelf_of) l35 c35 k35
  have F36 := fun_mk (st := s_Prompt_stored) l36 c36 k36
  have F37 := fun_mk (st := s_Prompt_fetch) l37 c37 k37
  have F38 := fun_mk (st := s_Prompt_read) l38 c38 k38
  have F39 := fun_mk (st := s_Prompt_keep) l39 c39 k39
  have F40 := fun_mk (st := s_Prompt_ahead) l40 c40 k40
  have F41 := fun_mk (st := s_Prompt_diary) l41 c41 k41
  have F42 := fun_mk (st := s_Prompt_found) l42 c42 k42
  have F43 := fun_mk (st := s_Prompt_spent) l43 c43 k43
  have F44 := fun_mk (st := s_Prompt_init) l44 c44 kf44
  have F45 := fun_mk (st := s_l_cell_at) l45 c45 k45
  have F46 := fun_mk (st := s_l_mix) l46 c46 k46
  have F47 := fun_mk (st := s_l_names) l47 c47 k47
  have F48 := fun_mk (st := s_l_sizes) l48 c48 k48
  have F49 := fun_mk (st := s_l_value) l49 c49 k49
  have F50 := fun_mk (st := s_l_done) l50 c50 k50
  have F51 := fun_mk (st := s_l_told) l51 c51 k51
  have F52 := fun_mk (st := s_l_came) l52 c52 k52
  have F53 := fun_mk (st := s_l_writes) l53 c53 k53
  have F54 := fun_mk (st := s_l_kept) l54 c54 k54
  have F55 := fun_mk (st := s_l_stores) l55 c55 k55
  have F56 := fun_mk (st := s_law) l56 c56 k56
  refine ⟨PySem.W.fnOf "law" "law" (defArgs s_law) (defBody s_law) (defScope s_law) .none kV56 dc56 pm56 an56 cd56 ct56, fun s v => .of_eq rfl, fun base _ _ => ?_⟩
  have D_made_of : Def l.prog w K mg base CX0 1 "made_of" ["text", "signs"] (sp_made) := ⟨⟨f0, _, ok_made_of F0 T , PySem.W.mg_of X G a0, k0, F0.binds (ps := ["text", "signs"]) fun _ _ _ _ _ _ us hl => match us, hl with | [_, _], _ => rfl⟩⟩
  have D_is_name : Def l.prog w K mg base CX0 2 "is_name" ["thing"] (sp_is_name K) := ⟨⟨f1, _, ok_is_name F1 T D_made_of, PySem.W.mg_of X G a1, k1, F1.binds (ps := ["thing"]) fun _ _ _ _ _ _ us hl => match us, hl with | [_], _ => rfl⟩⟩
  have D_is_whole : Def l.prog w K mg base CX0 1 "is_whole" ["thing"] (sp_is_whole K) := ⟨⟨f2, _, ok_is_whole F2 T , PySem.W.mg_of X G a2, k2, F2.binds (ps := ["thing"]) fun _ _ _ _ _ _ us hl => match us, hl with | [_], _ => rfl⟩⟩
  have D_is_within : Def l.prog w K mg base CX0 2 "is_within" ["thing", "least", "most"] (sp_within K) := ⟨⟨f3, _, ok_is_within F3 T D_is_whole, PySem.W.mg_of X G a3, k3, F3.binds (ps := ["thing", "least", "most"]) fun _ _ _ _ _ _ us hl => match us, hl with | [_, _, _], _ => rfl⟩⟩
  have D_check_thing : Def l.prog w K mg base CX0 3 "check_thing" ["name", "cost", "room", "earlier"] (sp_checkG K) := ⟨⟨f4, _, ok_check_thing F4 T D_is_name D_is_within, PySem.W.mg_of X G a4, k4, F4.binds (ps := ["name", "cost", "room", "earlier"]) fun _ _ _ _ _ _ us hl => match us, hl with | [_, _, _, _], _ => rfl⟩⟩
  have D_Stock_init : DefI l.prog w K mg base CX0 4 "Stock" xStock ["self", "rows"] (sp_initG K xStock) := ⟨⟨f5, _, ok_Stock_init F5 T D_check_thing, ⟨m5, a5, n5, k5⟩, PySem.W.mg_of X G a_Stock, F5.binds (ps := ["self", "rows"]) fun _ _ _ _ _ _ us hl => match us, hl with | [_, _], _ => rfl⟩⟩
  have D_Stock_names : DefM l.prog w K mg base CX0 1 xStock "names" ["self"] (sp_nms K xStock) := ⟨⟨f6, _, ok_Stock_names F6 T , ⟨a6, n6, k6⟩, F6.binds (ps := ["self"]) fun _ _ _ _ _ _ us hl => match us, hl with | [_], _ => rfl⟩⟩
  have D_check_places : Def l.prog w K mg base CX0 3 "check_places" ["places"] (sp_placesG) := ⟨⟨f7, _, ok_check_places F7 T D_is_within, PySem.W.mg_of X G a7, k7, F7.binds (ps := ["places"]) fun _ _ _ _ _ _ us hl => match us, hl with | [_], _ => rfl⟩⟩
  have D_Stock_thing_of : DefM l.prog w K mg base CX0 1 xStock "thing_of" ["self", "name"] (sp_thingG K xStock) := ⟨⟨f8, _, ok_Stock_thing_of F8 T , ⟨a8, n8, k8⟩, F8.binds (ps := ["self", "name"]) fun _ _ _ _ _ _ us hl => match us, hl with | [_, _], _ => rfl⟩⟩
  have D_Stock_number_of : DefM l.prog w K mg base CX0 2 xStock "number_of" ["self", "name"] (sp71_tell 0 K xStock) := ⟨⟨f9, _, ok_Stock_number_of F9 T D_Stock_thing_of, ⟨a9, n9, k9⟩, F9.binds (ps := ["self", "name"]) fun _ _ _ _ _ _ us hl => match us, hl with | [_, _], _ => rfl⟩⟩
  have D_Stock_cost_of : DefM l.prog w K mg base CX0 2 xStock "cost_of" ["self", "name"] (sp71_tell 1 K xStock) := ⟨⟨f10, _, ok_Stock_cost_of F10 T D_Stock_thing_of, ⟨a10, n10, k10⟩, F10.binds (ps := ["self", "name"]) fun _ _ _ _ _ _ us hl => match us, hl with | [_, _], _ => rfl⟩⟩
  have D_Stock_room_of : DefM l.prog w K mg base CX0 2 xStock "room_of" ["self", "name"] (sp71_tell 2 K xStock) := ⟨⟨f11, _, ok_Stock_room_of F11 T D_Stock_thing_of, ⟨a11, n11, k11⟩, F11.binds (ps := ["self", "name"]) fun _ _ _ _ _ _ us hl => match us, hl with | [_, _], _ => rfl⟩⟩
  have D_check_sizes : Def l.prog w K mg base CX0 4 "check_sizes" ["sizes"] (sp71_sizes K) := ⟨⟨f12, _, ok_check_sizes F12 T D_check_places, PySem.W.mg_of X G a12, k12, F12.binds (ps := ["sizes"]) fun _ _ _ _ _ _ us hl => match us, hl with | [_], _ => rfl⟩⟩
  have D_check_rooms : Def l.prog w K mg base CX0 4 "check_rooms" ["stock", "asks"] (sp71_rooms K xStock) := ⟨⟨f13, _, ok_check_rooms F13 T D_Stock_room_of, PySem.W.mg_of X G a13, k13, F13.binds (ps := ["stock", "asks"]) fun _ _ _ _ _ _ us hl => match us, hl with | [_, _], _ => rfl⟩⟩
  have D_Tower_write : DefM l.prog w K mg base CX0 2 xTower "write" ["self", "name"] (sp74_write xTower) := ⟨⟨f14, _, ok_Tower_write F14 T , ⟨a14, n14, k14⟩, F14.binds (ps := ["self", "name"]) fun _ _ _ _ _ _ us hl => match us, hl with | [_, _], _ => rfl⟩⟩
  have D_Tower_settle : DefM l.prog w K mg base CX0 1 xTower "settle" ["self", "name"] (sp74_settle xTower false) := ⟨⟨f15, _, ok_Tower_settle F15 T , ⟨a15, n15, k15⟩, F15.binds (ps := ["self", "name"]) fun _ _ _ _ _ _ us hl => match us, hl with | [_, _], _ => rfl⟩⟩
  have D_Tower_fall_off : DefM l.prog w K mg base CX0 3 xTower "fall_off" ["self", "name"] (sp74_fall xTower) := ⟨⟨f16, _, ok_Tower_fall_off F16 T D_Tower_write, ⟨a16, n16, k16⟩, F16.binds (ps := ["self", "name"]) fun _ _ _ _ _ _ us hl => match us, hl with | [_, _], _ => rfl⟩⟩
  have D_Tower_come : DefM l.prog w K mg base CX0 4 xTower "come" ["self", "name"] (sp74_come xTower) := ⟨⟨f17, _, ok_Tower_come F17 T D_Tower_fall_off, ⟨a17, n17, k17⟩, F17.binds (ps := ["self", "name"]) fun _ _ _ _ _ _ us hl => match us, hl with | [_, _], _ => rfl⟩⟩
  have D_Tower_levels : DefM l.prog w K mg base CX0 1 xTower "levels" ["self"] (sp71_levels xTower) := ⟨⟨f18, _, ok_Tower_levels F18 T , ⟨a18, n18, k18⟩, F18.binds (ps := ["self"]) fun _ _ _ _ _ _ us hl => match us, hl with | [_], _ => rfl⟩⟩
  have D_Tower_shelf_of : DefM l.prog w K mg base CX0 4 xTower "shelf_of" ["self", "name"] (sp79_shelf K xTower xStock) := ⟨⟨f19, _, ok_Tower_shelf_of F19 T D_Stock_number_of D_Tower_levels, ⟨a19, n19, k19⟩, F19.binds (ps := ["self", "name"]) fun _ _ _ _ _ _ us hl => match us, hl with | [_, _], _ => rfl⟩⟩
  have D_Tower_stored : DefM l.prog w K mg base CX0 4 xTower "stored" ["self", "name"] (sp74_stored K xTower xStock) := ⟨⟨f20, _, ok_Tower_stored F20 T D_Stock_number_of, ⟨a20, n20, k20⟩, F20.binds (ps := ["self", "name"]) fun _ _ _ _ _ _ us hl => match us, hl with | [_, _], _ => rfl⟩⟩
  have D_Tower_fetch : DefM l.prog w K mg base CX0 5 xTower "fetch" ["self", "word", "name"] (sp74_fetch K xTower xStock) := ⟨⟨f21, _, ok_Tower_fetch F21 T D_Stock_cost_of D_Tower_stored, ⟨a21, n21, k21⟩, F21.binds (ps := ["self", "word", "name"]) fun _ _ _ _ _ _ us hl => match us, hl with | [_, _, _], _ => rfl⟩⟩
  have D_Tower_read : DefM l.prog w K mg base CX0 6 xTower "read" ["self", "name"] (sp79_read K xTower xStock) := ⟨⟨f22, _, ok_Tower_read F22 T D_Tower_shelf_of D_Tower_fetch D_Tower_come, ⟨a22, n22, k22⟩, F22.binds (ps := ["self", "name"]) fun _ _ _ _ _ _ us hl => match us, hl with | [_, _], _ => rfl⟩⟩
  have D_Tower_keep : DefM l.prog w K mg base CX0 6 xTower "keep" ["self", "name", "value"] (sp79_keep K xTower xStock false) := ⟨⟨f23, _, ok_Tower_keep F23 T D_Tower_shelf_of D_is_within D_Tower_settle D_Tower_come, ⟨a23, n23, k23⟩, F23.binds (ps := ["self", "name", "value"]) fun _ _ _ _ _ _ us hl => match us, hl with | [_, _, _], _ => rfl⟩⟩
  have D_Tower_ahead : DefM l.prog w K mg base CX0 6 xTower "ahead" ["self", "name"] (sp79_ahead K xTower xStock) := ⟨⟨f24, _, ok_Tower_ahead F24 T D_Tower_shelf_of D_Tower_fetch D_Tower_come, ⟨a24, n24, k24⟩, F24.binds (ps := ["self", "name"]) fun _ _ _ _ _ _ us hl => match us, hl with | [_, _], _ => rfl⟩⟩
  have D_Tower_rest : DefM l.prog w K mg base CX0 4 xTower "rest" ["self"] (sp79_rest K xTower xStock) := ⟨⟨f25, _, ok_Tower_rest F25 T D_Tower_write, ⟨a25, n25, k25⟩, F25.binds (ps := ["self"]) fun _ _ _ _ _ _ us hl => match us, hl with | [_], _ => rfl⟩⟩
  have D_Tower_diary : DefM l.prog w K mg base CX0 1 xTower "diary" ["self"] (sp74_diary xTower) := ⟨⟨f26, _, ok_Tower_diary F26 T , ⟨a26, n26, k26⟩, F26.binds (ps := ["self"]) fun _ _ _ _ _ _ us hl => match us, hl with | [_], _ => rfl⟩⟩
  have D_Tower_found : DefM l.prog w K mg base CX0 1 xTower "found" ["self"] (sp79_found xTower) := ⟨⟨f27, _, ok_Tower_found F27 T , ⟨a27, n27, k27⟩, F27.binds (ps := ["self"]) fun _ _ _ _ _ _ us hl => match us, hl with | [_], _ => rfl⟩⟩
  have D_Tower_spent : DefM l.prog w K mg base CX0 1 xTower "spent" ["self"] (sp75_spent xTower) := ⟨⟨f28, _, ok_Tower_spent F28 T , ⟨a28, n28, k28⟩, F28.binds (ps := ["self"]) fun _ _ _ _ _ _ us hl => match us, hl with | [_], _ => rfl⟩⟩
  have D_Tower_init : DefI l.prog w K mg base CX0 5 "Tower" xTower ["self", "stock", "sizes"] (sp79_init K xTower xStock) := ⟨⟨f29, _, ok_Tower_init F29 T D_check_sizes D_check_rooms D_Stock_names, ⟨m29, a29, n29, k29⟩, PySem.W.mg_of X G a_Tower, F29.binds (ps := ["self", "stock", "sizes"]) fun _ _ _ _ _ _ us hl => match us, hl with | [_, _, _], _ => rfl⟩⟩
  have D_Prompt_write : DefM l.prog w K mg base CX0 2 xPrompt "write" ["self", "name"] (sp74_write xPrompt) := ⟨⟨f30, _, ok_Prompt_write F30 T , ⟨a30, n30, k30⟩, F30.binds (ps := ["self", "name"]) fun _ _ _ _ _ _ us hl => match us, hl with | [_, _], _ => rfl⟩⟩
  have D_Prompt_settle : DefM l.prog w K mg base CX0 3 xPrompt "settle" ["self", "name"] (sp74_settle xPrompt true) := ⟨⟨f31, _, ok_Prompt_settle F31 T D_Prompt_write, ⟨a31, n31, k31⟩, F31.binds (ps := ["self", "name"]) fun _ _ _ _ _ _ us hl => match us, hl with | [_, _], _ => rfl⟩⟩
  have D_Prompt_fall_off : DefM l.prog w K mg base CX0 3 xPrompt "fall_off" ["self", "name"] (sp74_fall xPrompt) := ⟨⟨f32, _, ok_Prompt_fall_off F32 T D_Prompt_write, ⟨a32, n32, k32⟩, F32.binds (ps := ["self", "name"]) fun _ _ _ _ _ _ us hl => match us, hl with | [_, _], _ => rfl⟩⟩
  have D_Prompt_come : DefM l.prog w K mg base CX0 4 xPrompt "come" ["self", "name"] (sp74_come xPrompt) := ⟨⟨f33, _, ok_Prompt_come F33 T D_Prompt_fall_off, ⟨a33, n33, k33⟩, F33.binds (ps := ["self", "name"]) fun _ _ _ _ _ _ us hl => match us, hl with | [_, _], _ => rfl⟩⟩
  have D_Prompt_levels : DefM l.prog w K mg base CX0 1 xPrompt "levels" ["self"] (sp71_levels xPrompt) := ⟨⟨f34, _, ok_Prompt_levels F34 T , ⟨a34, n34, k34⟩, F34.binds (ps := ["self"]) fun _ _ _ _ _ _ us hl => match us, hl with | [_], _ => rfl⟩⟩
  have D_Prompt_shelf_of : DefM l.prog w K mg base CX0 4 xPrompt "shelf_of" ["self", "name"] (sp79_shelf K xPrompt xStock) := ⟨⟨f35, _, ok_Prompt_shelf_of F35 T D_Stock_number_of D_Prompt_levels, ⟨a35, n35, k35⟩, F35.binds (ps := ["self", "name"]) fun _ _ _ _ _ _ us hl => match us, hl with | [_, _], _ => rfl⟩⟩
  have D_Prompt_stored : DefM l.prog w K mg base CX0 4 xPrompt "stored" ["self", "name"] (sp74_stored K xPrompt xStock) := ⟨⟨f36, _, ok_Prompt_stored F36 T D_Stock_number_of, ⟨a36, n36, k36⟩, F36.binds (ps := ["self", "name"]) fun _ _ _ _ _ _ us hl => match us, hl with | [_, _], _ => rfl⟩⟩
  have D_Prompt_fetch : DefM l.prog w K mg base CX0 5 xPrompt "fetch" ["self", "word", "name"] (sp74_fetch K xPrompt xStock) := ⟨⟨f37, _, ok_Prompt_fetch F37 T D_Stock_cost_of D_Prompt_stored, ⟨a37, n37, k37⟩, F37.binds (ps := ["self", "word", "name"]) fun _ _ _ _ _ _ us hl => match us, hl with | [_, _, _], _ => rfl⟩⟩
  have D_Prompt_read : DefM l.prog w K mg base CX0 6 xPrompt "read" ["self", "name"] (sp79_read K xPrompt xStock) := ⟨⟨f38, _, ok_Prompt_read F38 T D_Prompt_shelf_of D_Prompt_fetch D_Prompt_come, ⟨a38, n38, k38⟩, F38.binds (ps := ["self", "name"]) fun _ _ _ _ _ _ us hl => match us, hl with | [_, _], _ => rfl⟩⟩
  have D_Prompt_keep : DefM l.prog w K mg base CX0 6 xPrompt "keep" ["self", "name", "value"] (sp79_keep K xPrompt xStock true) := ⟨⟨f39, _, ok_Prompt_keep F39 T D_Prompt_shelf_of D_is_within D_Prompt_settle D_Prompt_come, ⟨a39, n39, k39⟩, F39.binds (ps := ["self", "name", "value"]) fun _ _ _ _ _ _ us hl => match us, hl with | [_, _, _], _ => rfl⟩⟩
  have D_Prompt_ahead : DefM l.prog w K mg base CX0 6 xPrompt "ahead" ["self", "name"] (sp79_ahead K xPrompt xStock) := ⟨⟨f40, _, ok_Prompt_ahead F40 T D_Prompt_shelf_of D_Prompt_fetch D_Prompt_come, ⟨a40, n40, k40⟩, F40.binds (ps := ["self", "name"]) fun _ _ _ _ _ _ us hl => match us, hl with | [_, _], _ => rfl⟩⟩
  have D_Prompt_diary : DefM l.prog w K mg base CX0 1 xPrompt "diary" ["self"] (sp74_diary xPrompt) := ⟨⟨f41, _, ok_Prompt_diary F41 T , ⟨a41, n41, k41⟩, F41.binds (ps := ["self"]) fun _ _ _ _ _ _ us hl => match us, hl with | [_], _ => rfl⟩⟩
  have D_Prompt_found : DefM l.prog w K mg base CX0 1 xPrompt "found" ["self"] (sp79_found xPrompt) := ⟨⟨f42, _, ok_Prompt_found F42 T , ⟨a42, n42, k42⟩, F42.binds (ps := ["self"]) fun _ _ _ _ _ _ us hl => match us, hl with | [_], _ => rfl⟩⟩
  have D_Prompt_spent : DefM l.prog w K mg base CX0 1 xPrompt "spent" ["self"] (sp75_spent xPrompt) := ⟨⟨f43, _, ok_Prompt_spent F43 T , ⟨a43, n43, k43⟩, F43.binds (ps := ["self"]) fun _ _ _ _ _ _ us hl => match us, hl with | [_], _ => rfl⟩⟩
  have D_Prompt_init : DefI l.prog w K mg base CX0 5 "Prompt" xPrompt ["self", "stock", "sizes"] (sp79_init K xPrompt xStock) := ⟨⟨f44, _, ok_Prompt_init F44 T D_check_sizes D_check_rooms D_Stock_names, ⟨m44, a44, n44, k44⟩, PySem.W.mg_of X G a_Prompt, F44.binds (ps := ["self", "stock", "sizes"]) fun _ _ _ _ _ _ us hl => match us, hl with | [_, _, _], _ => rfl⟩⟩
  have D_l_cell_at : Def l.prog w K mg base CX0 1 "_law_cell_at" ["_law_script", "_law_k"] (sp_cell K) := ⟨⟨f45, _, ok_l_cell_at F45 T , PySem.W.mg_of X G a45, k45, F45.binds (ps := ["_law_script", "_law_k"]) fun _ _ _ _ _ _ us hl => match us, hl with | [_, _], _ => rfl⟩⟩
  have D_l_mix : Def l.prog w K mg base CX0 1 "_law_mix" ["_law_cell", "_law_k"] (sp75_mix) := ⟨⟨f46, _, ok_l_mix F46 T , PySem.W.mg_of X G a46, k46, F46.binds (ps := ["_law_cell", "_law_k"]) fun _ _ _ _ _ _ us hl => match us, hl with | [_, _], _ => rfl⟩⟩
  have D_l_names : Def l.prog w K mg base CX0 1 "_law_names" ["_law_cell", "_law_many"] (sp12_names) := ⟨⟨f47, _, ok_l_names F47 T , PySem.W.mg_of X G a47, k47, F47.binds (ps := ["_law_cell", "_law_many"]) fun _ _ _ _ _ _ us hl => match us, hl with | [_, _], _ => rfl⟩⟩
  have D_l_sizes : Def l.prog w K mg base CX0 2 "_law_sizes" ["_law_cell"] (sp71_lsizes) := ⟨⟨f48, _, ok_l_sizes F48 T D_l_mix, PySem.W.mg_of X G a48, k48, F48.binds (ps := ["_law_cell"]) fun _ _ _ _ _ _ us hl => match us, hl with | [_], _ => rfl⟩⟩
  have D_l_value : Def l.prog w K mg base CX0 2 "_law_value" ["_law_cell", "_law_k"] (sp75_value) := ⟨⟨f49, _, ok_l_value F49 T D_l_mix, PySem.W.mg_of X G a49, k49, F49.binds (ps := ["_law_cell", "_law_k"]) fun _ _ _ _ _ _ us hl => match us, hl with | [_, _], _ => rfl⟩⟩
  have D_l_done : Def l.prog w K mg base CX0 8 "_law_done" ["_law_tower_here", "_law_name", "_law_deed", "_law_value_here"] (sp79_done K xTower xPrompt xStock) := ⟨⟨f50, _, ok_l_done F50 T D_Tower_read D_Prompt_read D_Tower_keep D_Prompt_keep D_Tower_ahead D_Prompt_ahead, PySem.W.mg_of X G a50, k50, F50.binds (ps := ["_law_tower_here", "_law_name", "_law_deed", "_law_value_here"]) fun _ _ _ _ _ _ us hl => match us, hl with | [_, _, _, _], _ => rfl⟩⟩
  have D_l_told : Def l.prog w K mg base CX0 2 "_law_told" ["_law_tower_here"] (sp79_told K xTower xPrompt xStock) := ⟨⟨f51, _, ok_l_told F51 T D_Tower_levels D_Prompt_levels D_Tower_found D_Prompt_found D_Tower_spent D_Prompt_spent, PySem.W.mg_of X G a51, k51, F51.binds (ps := ["_law_tower_here"]) fun _ _ _ _ _ _ us hl => match us, hl with | [_], _ => rfl⟩⟩
  have D_l_came : Def l.prog w K mg base CX0 2 "_law_came" ["_law_tower_here"] (sp79_came K xTower xPrompt xStock) := ⟨⟨f52, _, ok_l_came F52 T D_Tower_diary D_Prompt_diary, PySem.W.mg_of X G a52, k52, F52.binds (ps := ["_law_tower_here"]) fun _ _ _ _ _ _ us hl => match us, hl with | [_], _ => rfl⟩⟩
  have D_l_writes : Def l.prog w K mg base CX0 2 "_law_writes" ["_law_tower_here", "_law_name"] (sp79_writes K xTower xPrompt xStock) := ⟨⟨f53, _, ok_l_writes F53 T D_Tower_diary D_Prompt_diary, PySem.W.mg_of X G a53, k53, F53.binds (ps := ["_law_tower_here", "_law_name"]) fun _ _ _ _ _ _ us hl => match us, hl with | [_, _], _ => rfl⟩⟩
  have D_l_kept : Def l.prog w K mg base CX0 3 "_law_kept" ["_law_one", "_law_other"] (sp79_kept K xTower xPrompt xStock) := ⟨⟨f54, _, ok_l_kept F54 T D_Tower_levels D_l_told D_Tower_diary D_Tower_found, PySem.W.mg_of X G a54, k54, F54.binds (ps := ["_law_one", "_law_other"]) fun _ _ _ _ _ _ us hl => match us, hl with | [_, _], _ => rfl⟩⟩
  have D_l_stores : Def l.prog w K mg base CX0 6 "_law_stores" ["_law_one", "_law_other", "_law_keeps"] (sp79_stores K xTower xPrompt xStock) := ⟨⟨f55, _, ok_l_stores F55 T D_Tower_stored D_Prompt_stored D_l_writes D_l_came, PySem.W.mg_of X G a55, k55, F55.binds (ps := ["_law_one", "_law_other", "_law_keeps"]) fun _ _ _ _ _ _ us hl => match us, hl with | [_, _, _], _ => rfl⟩⟩
  exact ok_law F56 T D_l_cell_at D_l_names D_l_sizes D_l_value D_Stock_init D_Tower_init D_Prompt_init D_Tower_rest D_Tower_levels D_l_done D_l_told D_l_kept D_l_stores
end K79
theorem PySem.W.Fast.tw14205279093822178830 : True := trivial
theorem PySem.W.Fast.tw10670390037904166289 : True := trivial
theorem PySem.W.Fast.tw8945958424953097066 : True := trivial
theorem PySem.W.Fast.tw17050757277083487594 : True := trivial
theorem PySem.W.Fast.tw565188998450402973 : True := trivial
theorem PySem.W.Fast.tw12264599130738800506 : True := trivial
theorem PySem.W.Fast.tw6357613602325663980 : True := trivial
theorem PySem.W.Fast.tw7903942868743619099 : True := trivial
theorem PySem.W.Fast.tw9060075729813889989 : True := trivial
theorem PySem.W.Fast.tw17388150857939020421 : True := trivial
theorem PySem.W.Fast.tw5949463906939457774 : True := trivial
theorem PySem.W.Fast.tw7741220197392758242 : True := trivial
theorem PySem.W.Fast.tw52624832065319182 : True := trivial
theorem PySem.W.Fast.tw16219720634861811449 : True := trivial
theorem PySem.W.Fast.tw11450338226592180053 : True := trivial
theorem PySem.W.Fast.tw12603280310717225729 : True := trivial
theorem PySem.W.Fast.tw4273209921848703765 : True := trivial
theorem PySem.W.Fast.tw3162945464241694837 : True := trivial
theorem PySem.W.Fast.tw12572571145174247366 : True := trivial
theorem PySem.W.Fast.tw1845769022378747079 : True := trivial
theorem PySem.W.Fast.tw15685476383928532448 : True := trivial
theorem PySem.W.Fast.tw10516776293182413560 : True := trivial
theorem PySem.W.Fast.tw14239202295955927779 : True := trivial
theorem PySem.W.Fast.tw7227068033371983452 : True := trivial
theorem PySem.W.Fast.tw11058344130423687837 : True := trivial
theorem PySem.W.Fast.tw7160301148683025745 : True := trivial
theorem PySem.W.Fast.tw3381484032103519080 : True := trivial
theorem PySem.W.Fast.tw8577670551272057623 : True := trivial
open PySem PySem.W PyProof.Rows
set_option maxRecDepth 100000 in
set_option maxHeartbeats 0 in
theorem PySem.Challenge.cw_castoff_k79_whole_late_and_prompt_holds : PySem.Challenge.rw_castoff_k79_whole_late_and_prompt.Holds := by
  w_on; o_law; k_head; (case hw => w_witness2)
  k_fill
  refine L2.walk_ofK (l := PySem.Challenge.rw_castoff_k79_whole_late_and_prompt) (n := 63) (k := 9) (x := "_law_script") (CX := L2.CX0) (sp := N1.sp_law) rfl (by decide) rfl ⟨rfl, by decide, by decide⟩ (fun w h Y => PySem.W.kIn_of Y) ?F ?S ?C
  case F =>
    intro w mg fa h KX G hmg
    refine' K79.all_mk KX G hmg ?a0 ?l0 ?c0 ?k0 ?a1 ?l1 ?c1 ?k1 ?a2 ?l2 ?c2 ?k2 ?a3 ?l3 ?c3 ?k3 ?a4 ?l4 ?c4 ?k4 ?a5 ?l5 ?c5 ?n5 ?k5 ?m5 ?kf5 ?a6 ?l6 ?c6 ?n6 ?k6 ?a7 ?l7 ?c7 ?k7 ?a8 ?l8 ?c8 ?n8 ?k8 ?a9 ?l9 ?c9 ?n9 ?k9 ?a10 ?l10 ?c10 ?n10 ?k10 ?a11 ?l11 ?c11 ?n11 ?k11 ?a12 ?l12 ?c12 ?k12 ?a13 ?l13 ?c13 ?k13 ?a14 ?l14 ?c14 ?n14 ?k14 ?a15 ?l15 ?c15 ?n15 ?k15 ?a16 ?l16 ?c16 ?n16 ?k16 ?a17 ?l17 ?c17 ?n17 ?k17 ?a18 ?l18 ?c18 ?n18 ?k18 ?a19 ?l19 ?c19 ?n19 ?k19 ?a20 ?l20 ?c20 ?n20 ?k20 ?a21 ?l21 ?c21 ?n21 ?k21 ?a22 ?l22 ?c22 ?n22 ?k22 ?a23 ?l23 ?c23 ?n23 ?k23 ?a24 ?l24 ?c24 ?n24 ?k24 ?a25 ?l25 ?c25 ?n25 ?k25 ?a26 ?l26 ?c26 ?n26 ?k26 ?a27 ?l27 ?c27 ?n27 ?k27 ?a28 ?l28 ?c28 ?n28 ?k28 ?a29 ?l29 ?c29 ?n29 ?k29 ?m29 ?kf29 ?a30 ?l30 ?c30 ?n30 ?k30 ?a31 ?l31 ?c31 ?n31 ?k31 ?a32 ?l32 ?c32 ?n32 ?k32 ?a33 ?l33 ?c33 ?n33 ?k33 ?a34 ?l34 ?c34 ?n34 ?k34 ?a35 ?l35 ?c35 ?n35 ?k35 ?a36 ?l36 ?c36 ?n36 ?k36 ?a37 ?l37 ?c37 ?n37 ?k37 ?a38 ?l38 ?c38 ?n38 ?k38 ?a39 ?l39 ?c39 ?n39 ?k39 ?a40 ?l40 ?c40 ?n40 ?k40 ?a41 ?l41 ?c41 ?n41 ?k41 ?a42 ?l42 ?c42 ?n42 ?k42 ?a43 ?l43 ?c43 ?n43 ?k43 ?a44 ?l44 ?c44 ?n44 ?k44 ?m44 ?kf44 ?a45 ?l45 ?c45 ?k45 ?a46 ?l46 ?c46 ?k46 ?a47 ?l47 ?c47 ?k47 ?a48 ?l48 ?c48 ?k48 ?a49 ?l49 ?c49 ?k49 ?a50 ?l50 ?c50 ?k50 ?a51 ?l51 ?c51 ?k51 ?a52 ?l52 ?c52 ?k52 ?a53 ?l53 ?c53 ?k53 ?a54 ?l54 ?c54 ?k54 ?a55 ?l55 ?c55 ?k55 ?a56 ?l56 ?c56 ?k56 ?z_len ?z_isinstance ?z_int ?z_bool ?z_str ?z_list ?z_all ?z_range ?z_sum ?z_enumerate ?z_abs ?g_LETTERS ?g_FIGURES ?g_MOST_SIGNS ?g_MOST_THINGS ?g_MOST_ROOM ?g_MOST_PLACES ?g_MOST_SHELVES ?a_Stock ?pg_Stock ?hd_Stock ?po_Stock ?sa_Stock ?n_Stock_things ?a_Tower ?pg_Tower ?hd_Tower ?po_Tower ?sa_Tower ?n_Tower_stock ?n_Tower_sizes ?n_Tower_row ?n_Tower_held ?n_Tower_late ?n_Tower_store ?n_Tower_entries ?n_Tower_finds ?n_Tower_paid ?a_Prompt ?pg_Prompt ?hd_Prompt ?po_Prompt ?sa_Prompt ?n_Prompt_stock ?n_Prompt_sizes ?n_Prompt_row ?n_Prompt_held ?n_Prompt_late ?n_Prompt_store ?n_Prompt_entries ?n_Prompt_finds ?n_Prompt_paid ?gs_ ?tk_ ?cl_Prompt ?ty_Prompt ?cl_Tower ?ty_Tower ?wa_Prompt ?wo_Prompt ?wa_Tower ?wo_Tower ?s_Prompt_Prompt ?s_Prompt_Tower ?s_Tower_Prompt ?s_Tower_Tower
    (case a_Stock => k_is)
    (case a_Tower => k_is)
    (case a_Prompt => k_is)
    (case a0 => k_is)
    (case l0 => k_is)
    (case c0 => k_is)
    (case k0 => k_is)
    (case a1 => k_is)
    (case l1 => k_is)
    (case c1 => k_is)
    (case k1 => k_is)
    (case a2 => k_is)
    (case l2 => k_is)
    (case c2 => k_is)
    (case k2 => k_is)
    (case a3 => k_is)
    (case l3 => k_is)
    (case c3 => k_is)
    (case k3 => k_is)
    (case a4 => k_is)
    (case l4 => k_is)
    (case c4 => k_is)
    (case k4 => k_is)
    (case a5 => k_is)
    (case l5 => k_is)
    (case c5 => k_is)
    (case n5 => k_is)
    (case k5 => k_is)
    (case m5 => k_is)
    (case kf5 => k_is)
    (case a6 => k_is)
    (case l6 => k_is)
    (case c6 => k_is)
    (case n6 => k_is)
    (case k6 => k_is)
    (case a7 => k_is)
    (case l7 => k_is)
    (case c7 => k_is)
    (case k7 => k_is)
    (case a8 => k_is)
    (case l8 => k_is)
    (case c8 => k_is)
    (case n8 => k_is)
    (case k8 => k_is)
    (case a9 => k_is)
    (case l9 => k_is)
    (case c9 => k_is)
    (case n9 => k_is)
    (case k9 => k_is)
    (case a10 => k_is)
    (case l10 => k_is)
    (case c10 => k_is)
    (case n10 => k_is)
    (case k10 => k_is)
    (case a11 => k_is)
    (case l11 => k_is)
    (case c11 => k_is)
    (case n11 => k_is)
    (case k11 => k_is)
    (case a12 => k_is)
    (case l12 => k_is)
    (case c12 => k_is)
    (case k12 => k_is)
    (case a13 => k_is)
    (case l13 => k_is)
    (case c13 => k_is)
    (case k13 => k_is)
    (case a14 => k_is)
    (case l14 => k_is)
    (case c14 => k_is)
    (case n14 => k_is)
    (case k14 => k_is)
    (case a15 => k_is)
    (case l15 => k_is)
    (case c15 => k_is)
    (case n15 => k_is)
    (case k15 => k_is)
    (case a16 => k_is)
    (case l16 => k_is)
    (case c16 => k_is)
    (case n16 => k_is)
    (case k16 => k_is)
    (case a17 => k_is)
    (case l17 => k_is)
    (case c17 => k_is)
    (case n17 => k_is)
    (case k17 => k_is)
    (case a18 => k_is)
    (case l18 => k_is)
    (case c18 => k_is)
    (case n18 => k_is)
    (case k18 => k_is)
    (case a19 => k_is)
    (case l19 => k_is)
    (case c19 => k_is)
    (case n19 => k_is)
    (case k19 => k_is)
    (case a20 => k_is)
    (case l20 => k_is)
    (case c20 => k_is)
    (case n20 => k_is)
    (case k20 => k_is)
    (case a21 => k_is)
    (case l21 => k_is)
    (case c21 => k_is)
    (case n21 => k_is)
    (case k21 => k_is)
    (case a22 => k_is)
    (case l22 => k_is)
    (case c22 => k_is)
    (case n22 => k_is)
    (case k22 => k_is)
    (case a23 => k_is)
    (case l23 => k_is)
    (case c23 => k_is)
    (case n23 => k_is)
    (case k23 => k_is)
    (case a24 => k_is)
    (case l24 => k_is)
    (case c24 => k_is)
    (case n24 => k_is)
    (case k24 => k_is)
    (case a25 => k_is)
    (case l25 => k_is)
    (case c25 => k_is)
    (case n25 => k_is)
    (case k25 => k_is)
    (case a26 => k_is)
    (case l26 => k_is)
    (case c26 => k_is)
    (case n26 => k_is)
    (case k26 => k_is)
    (case a27 => k_is)
    (case l27 => k_is)
    (case c27 => k_is)
    (case n27 => k_is)
    (case k27 => k_is)
    (case a28 => k_is)
    (case l28 => k_is)
    (case c28 => k_is)
    (case n28 => k_is)
    (case k28 => k_is)
    (case a29 => k_is)
    (case l29 => k_is)
    (case c29 => k_is)
    (case n29 => k_is)
    (case k29 => k_is)
    (case m29 => k_is)
    (case kf29 => k_is)
    (case a30 => k_is)
    (case l30 => k_is)
    (case c30 => k_is)
    (case n30 => k_is)
    (case k30 => k_is)
    (case a31 => k_is)
    (case l31 => k_is)
    (case c31 => k_is)
    (case n31 => k_is)
    (case k31 => k_is)
    (case a32 => k_is)
    (case l32 => k_is)
    (case c32 => k_is)
    (case n32 => k_is)
    (case k32 => k_is)
    (case a33 => k_is)
    (case l33 => k_is)
    (case c33 => k_is)
    (case n33 => k_is)
    (case k33 => k_is)
    (case a34 => k_is)
    (case l34 => k_is)
    (case c34 => k_is)
    (case n34 => k_is)
    (case k34 => k_is)
    (case a35 => k_is)
    (case l35 => k_is)
    (case c35 => k_is)
    (case n35 => k_is)
    (case k35 => k_is)
    (case a36 => k_is)
    (case l36 => k_is)
    (case c36 => k_is)
    (case n36 => k_is)
    (case k36 => k_is)
    (case a37 => k_is)
    (case l37 => k_is)
    (case c37 => k_is)
    (case n37 => k_is)
    (case k37 => k_is)
    (case a38 => k_is)
    (case l38 => k_is)
    (case c38 => k_is)
    (case n38 => k_is)
    (case k38 => k_is)
    (case a39 => k_is)
    (case l39 => k_is)
    (case c39 => k_is)
    (case n39 => k_is)
    (case k39 => k_is)
    (case a40 => k_is)
    (case l40 => k_is)
    (case c40 => k_is)
    (case n40 => k_is)
    (case k40 => k_is)
    (case a41 => k_is)
    (case l41 => k_is)
    (case c41 => k_is)
    (case n41 => k_is)
    (case k41 => k_is)
    (case a42 => k_is)
    (case l42 => k_is)
    (case c42 => k_is)
    (case n42 => k_is)
    (case k42 => k_is)
    (case a43 => k_is)
    (case l43 => k_is)
    (case c43 => k_is)
    (case n43 => k_is)
    (case k43 => k_is)
    (case a44 => k_is)
    (case l44 => k_is)
    (case c44 => k_is)
    (case n44 => k_is)
    (case k44 => k_is)
    (case m44 => k_is)
    (case kf44 => k_is)
    (case a45 => k_is)
    (case l45 => k_is)
    (case c45 => k_is)
    (case k45 => k_is)
    (case a46 => k_is)
    (case l46 => k_is)
    (case c46 => k_is)
    (case k46 => k_is)
    (case a47 => k_is)
    (case l47 => k_is)
    (case c47 => k_is)
    (case k47 => k_is)
    (case a48 => k_is)
    (case l48 => k_is)
    (case c48 => k_is)
    (case k48 => k_is)
    (case a49 => k_is)
    (case l49 => k_is)
    (case c49 => k_is)
    (case k49 => k_is)
    (case a50 => k_is)
    (case l50 => k_is)
    (case c50 => k_is)
    (case k50 => k_is)
    (case a51 => k_is)
    (case l51 => k_is)
    (case c51 => k_is)
    (case k51 => k_is)
    (case a52 => k_is)
    (case l52 => k_is)
    (case c52 => k_is)
    (case k52 => k_is)
    (case a53 => k_is)
    (case l53 => k_is)
    (case c53 => k_is)
    (case k53 => k_is)
    (case a54 => k_is)
    (case l54 => k_is)
    (case c54 => k_is)
    (case k54 => k_is)
    (case a55 => k_is)
    (case l55 => k_is)
    (case c55 => k_is)
    (case k55 => k_is)
    (case a56 => k_is)
    (case l56 => k_is)
    (case c56 => k_is)
    (case k56 => k_is)
    (case z_len => k_is)
    (case z_isinstance => k_is)
    (case z_int => k_is)
    (case z_bool => k_is)
    (case z_str => k_is)
    (case z_list => k_is)
    (case z_all => k_is)
    (case z_range => k_is)
    (case z_sum => k_is)
    (case z_enumerate => k_is)
    (case z_abs => k_is)
    (case g_LETTERS => k_is)
    (case g_FIGURES => k_is)
    (case g_MOST_SIGNS => k_is)
    (case g_MOST_THINGS => k_is)
    (case g_MOST_ROOM => k_is)
    (case g_MOST_PLACES => k_is)
    (case g_MOST_SHELVES => k_is)
    (case pg_Stock => k_is)
    (case hd_Stock => k_is)
    (case po_Stock => k_is)
    (case sa_Stock => k_is)
    (case n_Stock_things => k_is)
    (case pg_Tower => k_is)
    (case hd_Tower => k_is)
    (case po_Tower => k_is)
    (case sa_Tower => k_is)
    (case n_Tower_stock => k_is)
    (case n_Tower_sizes => k_is)
    (case n_Tower_row => k_is)
    (case n_Tower_held => k_is)
    (case n_Tower_late => k_is)
    (case n_Tower_store => k_is)
    (case n_Tower_entries => k_is)
    (case n_Tower_finds => k_is)
    (case n_Tower_paid => k_is)
    (case pg_Prompt => k_is)
    (case hd_Prompt => k_is)
    (case po_Prompt => k_is)
    (case sa_Prompt => k_is)
    (case n_Prompt_stock => k_is)
    (case n_Prompt_sizes => k_is)
    (case n_Prompt_row => k_is)
    (case n_Prompt_held => k_is)
    (case n_Prompt_late => k_is)
    (case n_Prompt_store => k_is)
    (case n_Prompt_entries => k_is)
    (case n_Prompt_finds => k_is)
    (case n_Prompt_paid => k_is)
    (case gs_ => k_is)
    (case tk_ => k_is)
    (case cl_Prompt => k_is)
    (case ty_Prompt => k_is)
    (case cl_Tower => k_is)
    (case ty_Tower => k_is)
    (case wa_Prompt => k_is)
    (case wo_Prompt => k_is)
    (case wa_Tower => k_is)
    (case wo_Tower => k_is)
    (case s_Prompt_Prompt => k_is)
    (case s_Prompt_Tower => k_is)
    (case s_Tower_Prompt => k_is)
    (case s_Tower_Tower => k_is)
  case S => exact fun K H a ns hl hO hS => ⟨a, ns, rfl, hS, hl, fun _ => rfl⟩
  case C => exact fun H s e s' z => z

