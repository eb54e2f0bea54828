import PyProof.Rows.All
import Wide.All
import OpenK.AllK
import Wide.FinOn
import Lean
import PyProof.EqAt
import PyProof.EqKinds
import PyProof.TupleCall
import PyProof.Rows.BitMore
import KE.IntBitsLaws
import KE.KRevIter
import KE.KTryMore
import PyProof.StrLawsRepr
import KE.KIsAll
import KE.RegKIsAll
import KE.RegKTryMore
import PyProof.StrCalls2
import PyProof.StrLawsTight
import PyProof.StrLawsChain
import PyProof.Rows.StrItems
import PyProof.Rows.StrWeight2
import PyProof.EnumMake
import PyProof.EnumStmt
import PyProof.Rows.EnumRows
import PyProof.Rows.EqDataRows
import PyProof.P3Eq
import PyProof.SumWalk
import PyProof.Rows.InDataRows
import PySem.Challenge.RW_manymakes_k75_tidying_refused
set_option genSizeOf false
-- CHANGE: your row's module here, as the last of these rows
set_option Elab.async false
set_option linter.all false
set_option maxRecDepth 100000
/-! THE HAND LAYER, for ints, bools, texts, own classes, LISTS and tuples (index, slices, in, append, pop ..), calls, loops. Paste it whole ahead of your own text; what your proof does not reach may be deleted. -/
namespace L2
open PySem PySem.Spec PyProof.Rows

/-- a key: an int or a str -/
noncomputable abbrev Key := Sum Int Str
noncomputable def keyIs : Key → Value → Bool
  | .inl k, v => Value.isInt k v
  | .inr x, v => Value.isStrOf x v
noncomputable def keyH (w : World) : Key → Int
  | .inl k => hashInt k
  | .inr x => hashStr w x
theorem keyIs_shape : ∀ {k : Key} {v : Value}, keyIs k v = true → (∃ i t, k = Sum.inl i ∧ v = Value.int i t) ∨ (∃ x t, k = Sum.inr x ∧ v = Value.str x t)
  | .inl i, v, h => by
    obtain ⟨t, e⟩ := Value.isInt_shape (k := i) (v := v) h
    exact .inl ⟨i, t, rfl, e⟩
  | .inr x, v, h => by
    obtain ⟨t, e⟩ := Value.isStrOf_shape (x := x) (v := v) h
    exact .inr ⟨x, t, rfl, e⟩
theorem keyIs_str (x : Str) (t : Tok) : keyIs (.inr x) (.str x t) = true := by simp [keyIs, Value.isStrOf]
theorem key_ll (a b : Int) : decide ((Sum.inl a : Key) = Sum.inl b) = (a == b) := by
  by_cases e : a = b
  · subst e; simp
  · have h : ¬ (Sum.inl a : Key) = Sum.inl b := fun q => e (Sum.inl.inj q)
    rw [decide_eq_false h]
    exact (beq_eq_false_iff_ne.mpr e).symm
theorem key_rr (a b : Str) : decide ((Sum.inr a : Key) = Sum.inr b) = decide (a = b) := by
  by_cases e : a = b
  · subst e; simp
  · have h : ¬ (Sum.inr a : Key) = Sum.inr b := fun q => e (Sum.inr.inj q)
    rw [decide_eq_false h, decide_eq_false e]
theorem key_lr (a : Int) (b : Str) : decide ((Sum.inl a : Key) = Sum.inr b) = false := decide_eq_false (fun q => nomatch q)
theorem key_rl (a : Str) (b : Int) : decide ((Sum.inr a : Key) = Sum.inl b) = false := decide_eq_false (fun q => nomatch q)

noncomputable def mixKind (prog : Program) (w : World) : PySem.KeyKind prog w Key where
  is := keyIs
  hash := keyH w
  inj := fun v a b ha hb => by
    rcases keyIs_shape ha with ⟨i, t, rfl, rfl⟩ | ⟨x, t, rfl, rfl⟩
    · rcases keyIs_shape hb with ⟨j, u, rfl, e⟩ | ⟨y, u, rfl, e⟩
      · injection e with e1 _; rw [e1]
      · exact nomatch e
    · rcases keyIs_shape hb with ⟨j, u, rfl, e⟩ | ⟨y, u, rfl, e⟩
      · exact nomatch e
      · injection e with e1 _; rw [e1]
  byValue := fun k v h => by
    rcases keyIs_shape h with ⟨i, t, rfl, rfl⟩ | ⟨x, t, rfl, rfl⟩ <;> rfl
  pyHash := fun hv h => by
    rcases keyIs_shape hv with ⟨i, t, rfl, rfl⟩ | ⟨x, t, rfl, rfl⟩
    · exact wpAny_pyHash_int h
    · exact wpAny_pyHash_str h
  eqBool := fun hu hv h => by
    rcases keyIs_shape hu with ⟨i, t, rfl, rfl⟩ | ⟨x, t, rfl, rfl⟩
    · rcases keyIs_shape hv with ⟨j, u, rfl, rfl⟩ | ⟨y, u, rfl, rfl⟩
      · rw [key_ll] at h; exact wpAny_eqBool_int h
      · rw [key_lr] at h; exact SeqAt.EqAt.int_str i t y u _ _ _ _ h
    · rcases keyIs_shape hv with ⟨j, u, rfl, rfl⟩ | ⟨y, u, rfl, rfl⟩
      · rw [key_rl] at h; exact SeqAt.EqAt.str_int x t j u _ _ _ _ h
      · rw [key_rr] at h; exact wpAny_eqBool_str h
  «strs» := fun k x t v h => by
    rcases keyIs_shape h with ⟨i, u, rfl, e⟩ | ⟨y, u, rfl, e⟩
    · exact nomatch e
    · injection e with e1 _
      subst e1
      cases v <;> rfl

theorem mixKind_str (prog : Program) (w : World) (x : Str) (t : Tok) : (mixKind prog w).is (.inr x) (.str x t) = true := keyIs_str x t
end L2

namespace L2
open PySem PySem.Spec PyProof.Rows

/-- a value, without the heap -/
inductive V where
  | non | bl (b : Bool) | int (i : Int) | str (x : Str) | byt (b : Array UInt8) | flt (b : UInt64) | ref (a : Addr) | ty (n : String)
  deriving DecidableEq

set_option genInjectivity false
noncomputable def RelV : V → Value → Prop
  | .non, u => u = Value.none
  | .bl b, u => u = Value.bool b
  | .int i, u => ∃ t, u = Value.int i t
  | .str x, u => ∃ t, u = Value.str x t
  | .byt b, u => ∃ t, u = Value.bytes b t
  | .flt b, u => ∃ t, u = Value.float b t
  | .ref a, u => u = Value.ref a
  | .ty n, u => u = Value.type n

noncomputable abbrev Vals : List V → List Value → Prop := Paired RelV
theorem Vals.length {xs : List V} {us : List Value} (r : Vals xs us) : xs.length = us.length := Paired.length r
theorem Vals.get : ∀ {xs : List V} {us : List Value} {i : Nat} {x : V}, Vals xs us → xs[i]? = some x → ∃ u, us[i]? = some u ∧ RelV x u
  | _, _, _, _, .nil, e => by simp at e
  | _, _, 0, _, .cons r _, e => by simp at e; subst e; exact ⟨_, rfl, r⟩
  | _, _, i + 1, x, .cons _ t, e => by
    obtain ⟨u, h1, h2⟩ := Vals.get (i := i) (x := x) t (by simpa using e)
    exact ⟨u, by simpa using h1, h2⟩
theorem Vals.set {x : V} {u : Value} (r : RelV x u) : ∀ {xs : List V} {us : List Value} (i : Nat), Vals xs us → Vals (xs.set i x) (us.set i u)
  | _, _, _, .nil => .nil
  | _, _, 0, .cons _ t => .cons r t
  | _, _, i + 1, .cons q t => .cons q (Vals.set r i t)
theorem Vals.append : ∀ {xs ys : List V} {us ws : List Value}, Vals xs us → Vals ys ws → Vals (xs ++ ys) (us ++ ws)
  | _, _, _, _, .nil, s => s
  | _, _, _, _, .cons r t, s => .cons r (Vals.append t s)
noncomputable def RelO : Option V → Option Value → Prop
  | some v, some u => RelV v u
  | none, none => True
  | _, _ => False
noncomputable def KV {κ : Type} : List (κ × V) → List (κ × Value) → Prop := Paired fun (p : κ × V) (q : κ × Value) => p.1 = q.1 ∧ RelV p.2 q.2

/-- a key of a dict (00_mix): an int or a text -/
noncomputable def kV : Key → V
  | .inl i => .int i
  | .inr x => .str x

/-- what stands at a tracked address -/
inductive HO where
  /-- a list -/
  | lst (xs : List V)
  /-- a tuple (never changes) -/
  | tup (xs : List V)
  /-- a dict whose keys are ints and texts; one whose keys are tuples of ints and texts (the empty one is both) -/
  | dK (kvs : List (Key × V)) | dT (kvs : List (List Key × V))
  /-- a set of ints: its members, its size -/
  | set (S : Int → Bool) (n : Nat)
  /-- an instance of the class at C, its dict at dx, its attributes -/
  | ins (C dx : Addr) (fs : List (Str × V))
  /-- the dict of the instance at x -/
  | own (x : Addr)
  /-- the dict of an exception -/
  | xd (fs : List (Str × V))
  /-- a bound method, f of x -/
  | met (f x : Addr)
  /-- a range object lo, lo + 1, .. below hi -/
  | rng (lo hi : Int)
  /-- a thing that is known to the object (the script; a dict while a loop walks it): read, never written while it is so -/
  | frz (o : Obj) (u : HO)
  /-- a code object's table -/
  | tbl (ps : Array Value)
  /-- any other thing, by what is true of its one object (a def of one's own: SetO a S n := HO.ext fun h => ..) -/
  | ext (φ : Heap → Prop)

noncomputable abbrev Hp := Addr → Option HO
noncomputable def upd (H : Hp) (a : Addr) (o : HO) : Hp := fun b => if b = a then some o else H b
theorem upd_same {H : Hp} {a : Addr} {o : HO} : upd H a o a = some o := by unfold upd; rw [if_pos rfl]
theorem upd_ne {H : Hp} {a b : Addr} {o : HO} (h : b ≠ a) : upd H a o b = H b := by unfold upd; rw [if_neg h]
/-- two objects of different content stand apart -/
theorem ne_of {H : Hp} {a b : Addr} {o u : HO} (h : H a = some o) (h' : H b = some u) (d : o ≠ u) : a ≠ b := by
  intro e; subst e; rw [h] at h'; exact d (Option.some.inj h')
theorem ne_of_none {H : Hp} {a b : Addr} {o : HO} (h : H a = some o) (h' : H b = none) : a ≠ b := by
  intro e; subst e; rw [h] at h'; cases h'

section
variable (P : Program) (w : World)
noncomputable def ObjOk (H : Hp) (h : Heap) (a : Addr) : HO → Prop
  | .lst xs => xs.length ≤ sizeLine ∧ ∃ (its : List Value) (n : Nat), Vals xs its ∧ h.get? a = some { cls := .type "list", data := .seq its.toArray n }
  | .tup xs => xs.length ≤ sizeLine ∧ ∃ its : List Value, Vals xs its ∧ IsTup h a its.toArray
  | .dK kvs => kvs.length ≤ sizeLine ∧ (a == sysModules) = false ∧ ∃ vs, KV kvs vs ∧ h.DictOf (mixKind P w) a vs
  | .dT kvs => kvs.length ≤ sizeLine ∧ (a == sysModules) = false ∧ ∃ xs : List (List Key × Addr × Value),
      Paired (fun (p : List Key × V) (q : List Key × Addr × Value) => p.1 = q.1 ∧ H q.2.1 = some (.tup (p.1.map kV)) ∧ RelV p.2 q.2.2) kvs xs ∧
      ∃ o es ep, h.get? a = some o ∧ o.ExactDict ∧ o.data = .dict es ep ∧ es.toList = xs.map (entryOfKey (tupleKind (mixKind P w))) ∧ (xs.map (·.1)).Nodup
  | .set S n => h.SetOf (intKind P w) a S n
  | .ins C dx fs => H dx = some (.own a) ∧ fs.length ≤ 1000 ∧ dx ≠ a ∧ h.get? a = some (PySem.W.instObj C dx) ∧
      ∃ mA, h.Ns1 dx mA ∧ (∀ f, RelO (fs.lookup f) (mA f)) ∧ PySem.Within mA (fs.map (·.1))
  | .own _ => ∃ o, h.get? a = some o
  | .xd fs => ∃ mA, h.Ns1 a mA ∧ ∀ f, RelO (fs.lookup f) (mA f)
  | .rng lo hi => ∃ t u v, h.get? a = some { cls := .type "range", data := .fields #[.int lo t, .int hi u, .int 1 v] }
  | .frz o u => h.get? a = some o ∧ ObjOk H h a u
  | .tbl ps => h.get? a = some { cls := .none, data := .fields ps }
  | .met f x => h.get? a = some (PySem.W.methodObj (.ref f) (.ref x))
  | .ext φ => φ h ∧ (∃ o, h.get? a = some o) ∧ ∀ h1 h2 : Heap, φ h1 → (∀ o, h1.get? a = some o → h2.get? a = some o) → φ h2
/-- the abstract heap is held -/
noncomputable def HOk (H : Hp) (h : Heap) : Prop := ∀ a o, H a = some o → ObjOk P w H h a o
end

section
variable {P : Program} {w : World} {H H' : Hp} {h h' : Heap} {a : Addr} {o : HO}
theorem ObjOk.lt (x : ObjOk P w H h a o) : a < h.objs.size := by
  cases o with
  | lst xs => obtain ⟨_, _, _, _, e⟩ := x; exact Heap.lt_size e
  | tup xs => obtain ⟨_, _, _, p⟩ := x; exact p.lt
  | dK kvs => obtain ⟨_, _, _, _, o, _, _, e, _⟩ := x; exact Heap.lt_size e
  | dT kvs => obtain ⟨_, _, _, _, o, _, _, e, _⟩ := x; exact Heap.lt_size e
  | set S n => obtain ⟨o, _, _, _, e, _⟩ := x; exact Heap.lt_size e
  | ins C dx fs => obtain ⟨_, _, _, e, _⟩ := x; exact Heap.lt_size e
  | own y => obtain ⟨_, e⟩ := x; exact Heap.lt_size e
  | xd fs => obtain ⟨_, ⟨_, _, _, e, _⟩, _⟩ := x; exact Heap.lt_size e
  | rng lo hi => obtain ⟨_, _, _, e⟩ := x; exact Heap.lt_size e
  | frz ob u => obtain ⟨e, _⟩ := x; exact Heap.lt_size e
  | tbl ps => exact Heap.lt_size (show h.get? a = some _ from x)
  | met f y => exact Heap.lt_size (show h.get? a = some _ from x)
  | ext φ => obtain ⟨_, ⟨_, e⟩, _⟩ := x; exact Heap.lt_size e
theorem Paired.mapP {α β : Type} {F G : α → β → Prop} : ∀ {l₁ : List α} {l₂ : List β}, Paired F l₁ l₂ → (∀ a b, F a b → G a b) → Paired G l₁ l₂
  | _, _, .nil, _ => .nil
  | _, _, .cons r t, f => .cons (f _ _ r) (Paired.mapP t f)
/-- what an object's description leans on: its own object, its own dict, the tuples -/
theorem ObjOk.stay (x : ObjOk P w H h a o) (k : ∀ b u, (b = a ∨ H b = some (.own a)) → h.get? b = some u → h'.get? b = some u)
    (ho : ∀ b, H b = some (.own a) → H' b = some (.own a)) (ht : ∀ b xs, H b = some (.tup xs) → H' b = some (.tup xs)) : ObjOk P w H' h' a o := by
  induction o with
  | lst xs => obtain ⟨z, its, n, r, e⟩ := x; exact ⟨z, its, n, r, k _ _ (.inl rfl) e⟩
  | tup xs => obtain ⟨z, its, r, ob, e, c⟩ := x; exact ⟨z, its, r, ob, k _ _ (.inl rfl) e, c⟩
  | dK kvs => obtain ⟨z, y, vs, r, ob, es, ep, e, c⟩ := x; exact ⟨z, y, vs, r, ob, es, ep, k _ _ (.inl rfl) e, c⟩
  | dT kvs =>
    obtain ⟨z, y, xs, r, ob, es, ep, e, c⟩ := x
    exact ⟨z, y, xs, Paired.mapP r fun p q z => ⟨z.1, ht _ _ z.2.1, z.2.2⟩, ob, es, ep, k _ _ (.inl rfl) e, c⟩
  | set S n => obtain ⟨ob, es, ep, t, e, c⟩ := x; exact ⟨ob, es, ep, t, k _ _ (.inl rfl) e, c⟩
  | ins C dx fs =>
    obtain ⟨d, z, ne, e, mA, ⟨od, es, ep, e2, c⟩, r⟩ := x
    exact ⟨ho _ d, z, ne, k _ _ (.inl rfl) e, mA, ⟨od, es, ep, k _ _ (.inr d) e2, c⟩, r⟩
  | own y => obtain ⟨ob, e⟩ := x; exact ⟨ob, k _ _ (.inl rfl) e⟩
  | xd fs => obtain ⟨mA, ⟨od, es, ep, e, c⟩, r⟩ := x; exact ⟨mA, ⟨od, es, ep, k _ _ (.inl rfl) e, c⟩, r⟩
  | rng lo hi => obtain ⟨t, u, v, e⟩ := x; exact ⟨t, u, v, k _ _ (.inl rfl) e⟩
  | frz ob u ih => obtain ⟨e, q⟩ := x; exact ⟨k _ _ (.inl rfl) e, ih q⟩
  | tbl ps =>
    have e : h.get? a = some { cls := .none, data := .fields ps } := x
    show h'.get? a = some { cls := .none, data := .fields ps }
    exact k a _ (.inl rfl) e
  | met f y =>
    have e : h.get? a = some (PySem.W.methodObj (.ref f) (.ref y)) := x
    show h'.get? a = some (PySem.W.methodObj (.ref f) (.ref y))
    exact k a _ (.inl rfl) e
  | ext φ => obtain ⟨p, ⟨o, e⟩, st⟩ := x; exact ⟨st _ _ p fun o q => k _ _ (.inl rfl) q, ⟨o, k _ _ (.inl rfl) e⟩, st⟩
theorem HOk.lt (x : HOk P w H h) (e : H a = some o) : a < h.objs.size := (x a o e).lt
theorem HOk.fresh (x : HOk P w H h) (e : h.objs.size ≤ a) : H a = none := by
  cases q : H a with
  | none => rfl
  | some u => exact absurd (Nat.lt_of_lt_of_le (x.lt q) e) (Nat.lt_irrefl _)
/-- every object of the heap is kept -/
theorem HOk.kept (x : HOk P w H h) (k : ∀ b u, h.get? b = some u → h'.get? b = some u) : HOk P w H h' := fun a o e =>
  (x a o e).stay (fun b u _ q => k b u q) (fun _ q => q) fun _ _ q => q
/-- a new object is laid and tracked -/
theorem HOk.laid (x : HOk P w H h) (k : ∀ b u, h.get? b = some u → h'.get? b = some u) (hp : h.objs.size ≤ a) (new : ObjOk P w (upd H a o) h' a o) : HOk P w (upd H a o) h' := fun b u e => by
  have hn := x.fresh hp
  by_cases hb : b = a
  · subst hb; rw [upd_same] at e; cases e; exact new
  · rw [upd_ne hb] at e
    exact (x b u e).stay (fun c v _ q => k c v q) (fun c q => by rw [upd_ne (ne_of_none q hn)]; exact q) fun c xs q => by rw [upd_ne (ne_of_none q hn)]; exact q
end

/-- what may be read as u: it is u, or a known u -/
noncomputable def Rd (H : Hp) (a : Addr) (u : HO) : Prop := H a = some u ∨ ∃ o, H a = some (.frz o u)
theorem Rd.ok {P : Program} {w : World} {H : Hp} {h : Heap} {a : Addr} {u : HO} (r : Rd H a u) (x : HOk P w H h) : ObjOk P w H h a u := by
  rcases r with r | ⟨o, r⟩
  · exact x a u r
  · obtain ⟨_, q⟩ := x a _ r
    exact q
/-- what may be written -/
noncomputable def Mut : Option HO → Prop
  | some (.lst _) => True
  | some (.dK _) => True
  | some (.dT _) => True
  | some (.set _ _) => True
  | some (.ins _ _ _) => True
  | some (.ext _) => True
  | _ => False
section
variable {P : Program} {w : World} {H : Hp} {h h' : Heap} {x e : Addr} {o' : HO}
/-- the object at e is changed: x itself, or the dict of the instance x -/
theorem HOk.write (ok : HOk P w H h) (mu : Mut (H x)) (he : e = x ∨ H e = some (.own x)) (k : ∀ b u, b ≠ e → h.get? b = some u → h'.get? b = some u) (heo : ∃ u, h'.get? e = some u)
    (new : ObjOk P w (upd H x o') h' x o') : HOk P w (upd H x o') h' := fun b u q => by
  have nown : ∀ c y, H c = some (.own y) → c ≠ x := fun c y r z => by subst z; rw [r] at mu; exact mu
  have ntup : ∀ c xs, H c = some (.tup xs) → c ≠ x := fun c xs r z => by subst z; rw [r] at mu; exact mu
  by_cases hb : b = x
  · subst hb; rw [upd_same] at q; cases q; exact new
  · rw [upd_ne hb] at q
    by_cases hbe : b = e
    · have q' : H b = some (.own x) := by
        rcases he with z | z
        · exact absurd (hbe.trans z) hb
        · rw [hbe]; exact z
      rw [q] at q'; cases q'
      obtain ⟨v, hv⟩ := heo
      exact ⟨v, by rw [hbe]; exact hv⟩
    · refine (ok b u q).stay (fun c v hc r => k c v ?_ r) (fun c r => by rw [upd_ne (nown c b r)]; exact r) fun c xs r => by rw [upd_ne (ntup c xs r)]; exact r
      rcases hc with rfl | hc
      · exact hbe
      · rintro rfl
        rcases he with z | z
        · exact nown c b hc z
        · rw [hc] at z; cases z; exact hb rfl
end

/-! ### kept unless tracked; of the frames at fs (the callers') the slots may change (an exception that passes writes there); of the records at ex (iterators) nothing is said -/
structure Un (fs ex : List Addr) (H H' : Hp) (h h' : Heap) : Prop where
  keep : ∀ b o, h.get? b = some o → H b = none → b ∉ fs → b ∉ ex → h'.get? b = some o
  slot : ∀ b o, h.get? b = some o → H b = none → b ∈ fs → b ∉ ex → ∃ sl, h'.get? b = some { o with slots := sl }
  free : ∀ b o, h.get? b = some o → H b = none → b ∉ ex → H' b = none
  there : ∀ b o, h.get? b = some o → b ∉ ex → ∃ o', h'.get? b = some o'
  tups : ∀ b xs, H b = some (.tup xs) → H' b = some (.tup xs)
  frzs : ∀ b o u, H b = some (.frz o u) → H' b = some (.frz o u)
  tbls : ∀ b ps, H b = some (.tbl ps) → ∃ more, H' b = some (.tbl (ps ++ more))
section
variable {fs fs' ex ex' : List Addr} {H H1 H2 : Hp} {h h1 h2 h' : Heap} {a x e : Addr} {o : HO}
theorem Un.any (u : Un fs ex H H1 h h1) {b : Addr} {ob : Obj} (q : h.get? b = some ob) (n : H b = none) (hx : b ∉ ex) : ∃ sl, h1.get? b = some { ob with slots := sl } := by
  by_cases hb : b ∈ fs
  · exact u.slot b ob q n hb hx
  · exact ⟨ob.slots, u.keep b ob q n hb hx⟩
theorem Un.kept (k : ∀ b u, h.get? b = some u → h'.get? b = some u) : Un fs ex H H h h' :=
  ⟨fun b ob q _ _ _ => k b ob q, fun b ob q _ _ _ => ⟨ob.slots, k b ob q⟩, fun _ _ _ n _ => n, fun b ob q _ => ⟨ob, k b ob q⟩, fun _ _ q => q, fun _ _ _ q => q, fun _ ps q => ⟨#[], by rw [q]; simp⟩⟩
theorem Un.refl : Un fs ex H H h h := Un.kept fun _ _ q => q
theorem Un.laid (k : ∀ b u, h.get? b = some u → h'.get? b = some u) (hp : h.objs.size ≤ a) (hn : H a = none) : Un fs ex H (upd H a o) h h' where
  keep := fun b u q _ _ _ => k b u q
  slot := fun b u q _ _ _ => ⟨u.slots, k b u q⟩
  free := fun b u q n _ => by rw [upd_ne (Nat.ne_of_lt (Nat.lt_of_lt_of_le (Heap.lt_size q) hp))]; exact n
  there := fun b u q _ => ⟨u, k b u q⟩
  tups := fun b xs q => by rw [upd_ne (ne_of_none q hn)]; exact q
  frzs := fun b u xs q => by rw [upd_ne (ne_of_none q hn)]; exact q
  tbls := fun b ps q => ⟨#[], by rw [upd_ne (ne_of_none q hn), q]; simp⟩
theorem Un.write (mu : Mut (H x)) (he : e = x ∨ H e = some (.own x)) (k : ∀ b u, b ≠ e → h.get? b = some u → h'.get? b = some u) (heo : ∃ u, h'.get? e = some u) : Un fs ex H (upd H x o) h h' := by
  have hx : ∀ b, H b = none → b ≠ x := fun b n z => by subst z; rw [n] at mu; exact mu
  have hb : ∀ b, H b = none → b ≠ e := fun b n z => by
    subst z
    rcases he with r | r
    · exact hx b n r
    · rw [n] at r; cases r
  have hm : ∀ b u, H b = some u → ¬ Mut (some u) → b ≠ x := fun b u q nm z => by subst z; rw [q] at mu; exact nm mu
  refine ⟨fun b u q n _ _ => k b u (hb b n) q, fun b u q n _ _ => ⟨u.slots, k b u (hb b n) q⟩, fun b u q n _ => by rw [upd_ne (hx b n)]; exact n, fun b u q _ => ?_,
    fun b xs q => by rw [upd_ne (hm b _ q fun z => z)]; exact q, fun b u xs q => by rw [upd_ne (hm b _ q fun z => z)]; exact q, fun b ps q => ⟨#[], by rw [upd_ne (hm b _ q fun z => z), q]; simp⟩⟩
  by_cases hbe : b = e
  · subst hbe; exact heo
  · exact ⟨u, k b u hbe q⟩
end

/-! ### the heap without what is tracked -/
noncomputable def trk (h : Heap) (H : Hp) : List Addr := (List.range h.objs.size).filter fun a => (H a).isSome
noncomputable def hidT (h : Heap) (H : Hp) : Heap := PySem.W.hideAll h (trk h H)
theorem hidT_size (h : Heap) (H : Hp) : (hidT h H).objs.size = h.objs.size := PySem.W.hideAll_size _ _
theorem hidT_get {h : Heap} {H : Hp} {b : Addr} {o : Obj} (e : h.get? b = some o) (n : H b = none) : (hidT h H).get? b = some o :=
  PySem.W.hideAll_get _ e fun hm => by
    have q : (H b).isSome = true := (List.mem_filter.mp hm).2
    rw [n] at q; simp at q
theorem of_hidT {h : Heap} {H : Hp} {b : Addr} {o : Obj} (e : (hidT h H).get? b = some o) : h.get? b = some o ∧ H b = none := by
  have e' : h.get? b = some o := PySem.W.of_hideAll (trk h H) e
  refine ⟨e', ?_⟩
  cases q : H b with
  | none => rfl
  | some x =>
    have hm : b ∈ trk h H := List.mem_filter.mpr ⟨List.mem_range.mpr (Heap.lt_size e'), by simp [q]⟩
    have z : (hidT h H).get? b = none := PySem.W.hideAll_none (trk h H) hm
    rw [z] at e; cases e

/-! ### OpenK's ledger, filled with every new object but one -/
end L2

namespace L2
open PySem PySem.Spec PyProof.Rows

/-- the module's facts, over the base: the heap at the law's entry without what is tracked there -/
structure Mod (K : PySem.W.Frag) (mg : Str → Option Value) (base : Heap) : Prop where
  kin : K.In base
  glob : base.Ns mainGlobals mg
  blt : ∃ mb, base.Ns builtinsNs mb ∧ ∀ x : Str, x ≠ "__name__" → mb x = bootBuiltins x
  nolimit : base.NoLimit

/-- the context: a def's body (or a comprehension's block) running. base: fixed through the whole law; s₀, H₀: the entry; outer: the frames whose slots others may change (a def's callers); stack: all frames that run;
   ex: iterators that were made ahead of the entry and are walked here (a comprehension's); fn: the names whose cells were made at the entry (a def: all; a comprehension's block: its own); calm: not within an except suite; pn: pins that every state bears; xe: what is wanted of an exception that leaves the code -/
structure Cx where
  prog : Program
  w : World
  K : PySem.W.Frag
  mg : Str → Option Value
  base : Heap
  A : Around
  N : List Str
  s₀ : Shared
  H₀ : Hp
  env : Env
  outer : List Env
  stack : List Env
  ex : List Addr
  fn : Str → Bool
  calm : Bool
  pn : List (Addr × Obj)
  xe : Value → Shared → Prop
/-- the callers' frames -/
noncomputable def frs (l : List Env) : List Addr := l.filterMap (·.frame)
noncomputable abbrev Cx.fs (X : Cx) : List Addr := frs X.outer

noncomputable def Vis (sc : Scope) (x : Str) : Prop := sc.names.lookup x = some .local ∨ sc.names.lookup x = some .cell ∨ sc.names.lookup x = some .free
noncomputable def Loc (sc : Scope) (x : Str) : Prop := sc.names.lookup x = some .local ∨ sc.names.lookup x = some .cell
noncomputable def Look (env : Env) (h : Heap) (m : Str → Option Value) (x : Str) (u : Value) : Prop :=
  (env.kindOf x = some .local ∧ m x = some u) ∨ ((env.kindOf x = some .cell ∨ env.kindOf x = some .free) ∧ ∃ c, env.cells.lookup x = some c ∧ h.IsCell c (some u))

structure Cx.Ok (X : Cx) : Prop where
  mod : Mod X.K X.mg X.base
  kind : X.env.scope.kind = .function
  glob : X.env.globals = mainGlobals
  blt : X.env.builtins = builtinsNs
  above : X.s₀.heap.objs.size ≤ X.env.locals
  inj : ∀ x y c, X.env.cells.lookup x = some c → X.env.cells.lookup y = some c → x = y
  has : ∀ x, (X.env.kindOf x = some .cell ∨ X.env.kindOf x = some .free) → ∃ c, X.env.cells.lookup x = some c
  cab : ∀ x c, X.fn x = true → X.env.cells.lookup x = some c → X.s₀.heap.objs.size ≤ c
  hd : X.calm = true → X.A.handled = none
  frames : X.A.frames = some X.stack
  stk : X.stack = X.outer ∨ (X.stack = X.env :: X.outer ∧ X.env.frame = some X.env.locals)
  exf : ∀ b ∈ X.ex, b ≠ X.env.locals ∧ ∀ x c, X.env.cells.lookup x = some c → c ≠ b
  bs : ∀ b o, X.base.get? b = some o → X.s₀.heap.get? b = some o ∧ X.H₀ b = none
  bsz : X.base.objs.size ≤ X.s₀.heap.objs.size
  noex : ∀ b o, X.base.get? b = some o → b ∉ X.ex
  exfs : ∀ b ∈ X.ex, b ∉ X.fs
  funs : X.s₀.heap.FunFrames X.base X.outer
  frf : ∀ b ∈ X.fs, X.H₀ b = none

structure Inv (X : Cx) (pins : List (Addr × Obj)) (σ : List (Option V)) (H : Hp) (s : Shared) : Prop where
  ok : X.Ok
  os : s.os = X.s₀.os
  bare : AllBare s.gens
  base : Un X.fs X.ex X.H₀ H X.s₀.heap s.heap
  loc : ∃ m, s.heap.Ns X.env.locals m ∧ ∀ (i : Nat) (x : Str) (v : V), X.N[i]? = some x → σ[i]? = some (some v) → Vis X.env.scope x → ∃ u, RelV v u ∧ Look X.env s.heap m x u
  cell : ∀ x c, X.env.cells.lookup x = some c → ∃ v, s.heap.IsCell c v
  free : H X.env.locals = none
  freeC : ∀ x c, X.env.cells.lookup x = some c → H c = none
  pin : ∀ p ∈ X.pn ++ pins, s.heap.get? p.1 = some p.2 ∧ H p.1 = none ∧ p.1 ≠ X.env.locals ∧ p.1 ∉ X.fs ∧ ∀ v, p.2.data ≠ .cell v
  hok : HOk X.prog X.w H s.heap
  len : σ.length = X.N.length

section
variable {X : Cx} {pins : List (Addr × Obj)} {σ : List (Option V)} {H H' : Hp} {s : Shared} {h' : Heap}

theorem Cx.Ok.nofr (ok : X.Ok) {b : Addr} {o : Obj} (e : X.base.get? b = some o) : b ∉ X.fs := fun hb => by
  have := (ok.funs.mem hb).1
  rw [e] at this; cases this
theorem Inv.bs (I : Inv X pins σ H s) : ∀ b o, X.base.get? b = some o → s.heap.get? b = some o ∧ H b = none := fun b o e =>
  ⟨I.base.keep b o (I.ok.bs b o e).1 (I.ok.bs b o e).2 (I.ok.nofr e) (I.ok.noex b o e), I.base.free b o (I.ok.bs b o e).1 (I.ok.bs b o e).2 (I.ok.noex b o e)⟩
theorem Inv.bk (I : Inv X pins σ H s) : ∀ b o, X.base.get? b = some o → s.heap.get? b = some o := fun b o e => (I.bs b o e).1
theorem Inv.mod (I : Inv X pins σ H s) : Mod X.K X.mg X.base := I.ok.mod
theorem Inv.kIn (I : Inv X pins σ H s) : X.K.In s.heap := I.ok.mod.kin.keeps I.bk
theorem Inv.lt (I : Inv X pins σ H s) : X.env.locals < s.heap.objs.size := by obtain ⟨_, hn, _⟩ := I.loc; exact hn.lt
theorem Inv.sz (I : Inv X pins σ H s) : X.s₀.heap.objs.size ≤ s.heap.objs.size := Nat.le_trans I.ok.above (Nat.le_of_lt I.lt)
theorem Inv.nofs (I : Inv X pins σ H s) {a : Addr} (h : s.heap.objs.size ≤ a) : a ∉ X.fs := fun hb => by
  obtain ⟨_, o, ho, _⟩ := I.ok.funs.mem hb
  exact absurd (Nat.lt_of_lt_of_le (Heap.lt_size ho) (Nat.le_trans I.sz h)) (Nat.lt_irrefl _)
theorem Inv.cne (I : Inv X pins σ H s) : ∀ x c, X.env.cells.lookup x = some c → c ≠ X.env.locals := fun x c e z => by
  obtain ⟨v, o, ho, hd⟩ := I.cell x c e
  obtain ⟨m, ⟨o', es, ep, ho', hd', _⟩, _⟩ := I.loc
  rw [z, ho'] at ho; cases ho; rw [hd'] at hd; cases hd
theorem Inv.funs (I : Inv X pins σ H s) : s.heap.FunFrames X.base X.outer := by
  have all : ∀ (l : List Env), (∀ b ∈ frs l, b ∈ X.fs) → X.s₀.heap.FunFrames X.base l → s.heap.FunFrames X.base l := by
    intro l
    induction l with
    | nil => intro _ _; trivial
    | cons env r ih =>
      intro hs hl
      obtain ⟨hk, ⟨L, o, hf, hn, ho, hd⟩, hr⟩ := hl
      have hL : L ∈ X.fs := hs L (by unfold frs; rw [List.filterMap_cons, hf]; exact List.mem_cons_self)
      obtain ⟨sl, e⟩ := I.base.slot L o ho (I.ok.frf L hL) hL fun z => I.ok.exfs L z hL
      exact ⟨hk, ⟨L, _, hf, hn, e, hd⟩, ih (fun b hb => hs b (by unfold frs; rw [List.filterMap_cons, hf]; exact List.mem_cons_of_mem _ hb)) hr⟩
  exact all X.outer (fun _ hb => hb) I.ok.funs

/-- the frames that run, for a call -/
theorem Inv.stack (I : Inv X pins σ H s) : s.heap.FunFrames X.base X.stack := by
  rcases I.ok.stk with e | ⟨e, hf⟩
  · rw [e]; exact I.funs
  · rw [e]
    obtain ⟨m, hn, _⟩ := I.loc
    refine .cons (by rw [I.ok.kind]; decide) hf hn ?_ I.funs
    exact Heap.get?_none_of_le (Nat.le_trans I.ok.bsz I.ok.above)
theorem Inv.stkSub (I : Inv X pins σ H s) : ∀ b ∈ frs X.stack, b ∈ X.env.locals :: X.fs := fun b hb => by
  rcases I.ok.stk with e | ⟨e, hf⟩
  · rw [e] at hb; exact List.mem_cons_of_mem _ hb
  · rw [e] at hb
    unfold frs at hb
    rw [List.filterMap_cons, hf] at hb
    exact hb
theorem Inv.stkFree (I : Inv X pins σ H s) : ∀ b ∈ frs X.stack, H b = none := fun b hb => by
  rcases List.mem_cons.mp (I.stkSub b hb) with e | hb
  · rw [e]; exact I.free
  · obtain ⟨_, o, ho, _⟩ := I.ok.funs.mem hb
    exact I.base.free b o ho (I.ok.frf b hb) fun z => I.ok.exfs b z hb

/-- THE STEP: the untracked objects but the frame and the records at ch are kept (the callers' frames up to slots), the frame's map is kept, the new abstract heap is held -/
theorem Inv.step {g' : Array GenState} {t' : Nat} {d' : Drawn} {ch : List Addr} (I : Inv X pins σ H s)
    (hch : ∀ b ∈ ch, (b ∈ X.ex ∨ X.s₀.heap.objs.size ≤ b) ∧ b ≠ X.env.locals ∧ (∀ x c, X.env.cells.lookup x = some c → c ≠ b) ∧ ∀ p ∈ X.pn ++ pins, p.1 ≠ b)
    (keep : ∀ b o, b ≠ X.env.locals → b ∉ X.fs → b ∉ ch → s.heap.get? b = some o → H b = none → h'.get? b = some o)
    (slot : ∀ b o, b ≠ X.env.locals → b ∈ X.fs → b ∉ ch → s.heap.get? b = some o → H b = none → ∃ sl, h'.get? b = some { o with slots := sl }) (free : ∀ b o, b ∉ ch → s.heap.get? b = some o → H b = none → H' b = none)
    (there : ∀ b o, b ∉ ch → s.heap.get? b = some o → ∃ o', h'.get? b = some o')
    (tups : ∀ b xs, H b = some (.tup xs) → H' b = some (.tup xs)) (frzs : ∀ b o u, H b = some (.frz o u) → H' b = some (.frz o u)) (tbls : ∀ b ps, H b = some (.tbl ps) → ∃ more, H' b = some (.tbl (ps ++ more)))
    (ns : ∀ m, s.heap.Ns X.env.locals m → h'.Ns X.env.locals m) (hok : HOk X.prog X.w H' h') (hg : AllBare g') :
    Inv X pins σ H' { s with heap := h', gens := g', drawn := d', toks := t' } := by
  have neL : ∀ b o, X.s₀.heap.get? b = some o → b ≠ X.env.locals := fun b o e => Nat.ne_of_lt (Nat.lt_of_lt_of_le (Heap.lt_size e) I.ok.above)
  have neC : ∀ b o, X.s₀.heap.get? b = some o → b ∉ X.ex → b ∉ ch := fun b o e hx hb => by
    rcases (hch b hb).1 with z | z
    · exact hx z
    · exact absurd (Nat.lt_of_lt_of_le (Heap.lt_size e) z) (Nat.lt_irrefl _)
  have cellK : ∀ x c, X.env.cells.lookup x = some c → ∀ v, s.heap.IsCell c v → h'.IsCell c v := fun x c e v ⟨o, ho, hd⟩ => by
    have nch : c ∉ ch := fun z => (hch c z).2.2.1 x c e rfl
    by_cases hc : c ∈ X.fs
    · obtain ⟨sl, q⟩ := slot c o (I.cne x c e) hc nch ho (I.freeC x c e)
      exact ⟨_, q, hd⟩
    · exact ⟨o, keep c o (I.cne x c e) hc nch ho (I.freeC x c e), hd⟩
  refine ⟨I.ok, I.os, hg, ⟨fun b o e n hb hx => ?_, fun b o e n hb hx => ?_, fun b o e n hx => ?_, fun b o e hx => ?_, fun b xs e => tups b xs (I.base.tups b xs e), fun b o xs e => frzs b o xs (I.base.frzs b o xs e), fun b ps e => ?_⟩, ?_, fun x c e => ?_, ?_, fun x c e => ?_, fun p hp => ?_, hok, I.len⟩
  · exact keep b o (neL b o e) hb (neC b o e hx) (I.base.keep b o e n hb hx) (I.base.free b o e n hx)
  · obtain ⟨sl, e1⟩ := I.base.slot b o e n hb hx
    obtain ⟨sl', e2⟩ := slot b _ (neL b o e) hb (neC b o e hx) e1 (I.base.free b o e n hx)
    exact ⟨sl', e2⟩
  · obtain ⟨o', e1⟩ := I.base.there b o e hx
    exact free b o' (neC b o e hx) e1 (I.base.free b o e n hx)
  · obtain ⟨o', e1⟩ := I.base.there b o e hx
    exact there b o' (neC b o e hx) e1
  · obtain ⟨m1, e1⟩ := I.base.tbls b ps e
    obtain ⟨m2, e2⟩ := tbls b _ e1
    exact ⟨m1 ++ m2, by rw [e2, Array.append_assoc]⟩
  · obtain ⟨m, hn, hl⟩ := I.loc
    refine ⟨m, ns m hn, fun i x v e1 e2 e3 => ?_⟩
    obtain ⟨u, r, l⟩ := hl i x v e1 e2 e3
    refine ⟨u, r, ?_⟩
    rcases l with l | ⟨k, c, e, z⟩
    · exact .inl l
    · exact .inr ⟨k, c, e, cellK x c e _ z⟩
  · obtain ⟨v, z⟩ := I.cell x c e
    exact ⟨v, cellK x c e v z⟩
  · obtain ⟨m, ⟨o, _, _, ho, _⟩, _⟩ := I.loc
    exact free _ o (fun z => (hch _ z).2.1 rfl) ho I.free
  · obtain ⟨v, o, ho, hd⟩ := I.cell x c e
    exact free c o (fun z => (hch c z).2.2.1 x c e rfl) ho (I.freeC x c e)
  · obtain ⟨e, n, ne, nf, d⟩ := I.pin p hp
    have nch : p.1 ∉ ch := fun z => (hch p.1 z).2.2.2 p hp rfl
    exact ⟨keep p.1 p.2 ne nf nch e n, free p.1 p.2 nch e n, ne, nf, d⟩
/-- .. where the frame's own object is kept too -/
theorem Inv.un {t' : Nat} (I : Inv X pins σ H s) (u : Un X.fs [] H H' s.heap h') (hok : HOk X.prog X.w H' h') : Inv X pins σ H' { s with heap := h', toks := t' } := by
  obtain ⟨m, ⟨o, es, ep, ho, r⟩, _⟩ := id I.loc
  obtain ⟨sl, hL⟩ := u.any ho I.free (by simp)
  exact I.step (g' := s.gens) (d' := s.drawn) (ch := []) (fun _ z => nomatch z) (fun b o _ hb _ e n => u.keep b o e n hb (by simp)) (fun b o _ hb _ e n => u.slot b o e n hb (by simp)) (fun b o _ e n => u.free b o e n (by simp)) (fun b o _ e => u.there b o e (by simp)) u.tups u.frzs u.tbls (fun m' hm => by
    obtain ⟨o', es', ep', ho', r'⟩ := hm
    rw [ho] at ho'; cases ho'
    exact ⟨_, es', ep', hL, r'⟩) hok I.bare
/-- behind a call (or a comprehension's block): the slots of this frame may have changed too, the records at ch may have turned -/
theorem Inv.call {g' : Array GenState} {t' : Nat} {d' : Drawn} {ch : List Addr} (I : Inv X pins σ H s) (u : Un (frs X.stack) ch H H' s.heap h') (hok : HOk X.prog X.w H' h') (hg : AllBare g')
    (hch : ∀ b ∈ ch, (b ∈ X.ex ∨ X.s₀.heap.objs.size ≤ b) ∧ b ≠ X.env.locals ∧ (∀ x c, X.env.cells.lookup x = some c → c ≠ b) ∧ ∀ p ∈ X.pn ++ pins, p.1 ≠ b) :
    Inv X pins σ H' { s with heap := h', gens := g', drawn := d', toks := t' } := by
  obtain ⟨m, ⟨o, es, ep, ho, r⟩, _⟩ := id I.loc
  obtain ⟨sl, hL⟩ := u.any ho I.free fun z => (hch _ z).2.1 rfl
  exact I.step (ch := ch) hch (fun b o hL hb hc e n => u.keep b o e n (fun z => (List.mem_cons.mp (I.stkSub b z)).elim hL hb) hc) (fun b o _ _ hc e n => u.any e n hc) (fun b o hc e n => u.free b o e n hc) (fun b o hc e => u.there b o e hc) u.tups u.frzs u.tbls (fun m' hm => by
    obtain ⟨o', es', ep', ho', r'⟩ := hm
    rw [ho] at ho'; cases ho'
    exact ⟨_, es', ep', hL, r'⟩) hok hg
/-- an untracked record of ours (an iterator) has turned -/
theorem Inv.turned {t' : Nat} {it : Addr} (I : Inv X pins σ H s) (k : ∀ b o, b ≠ it → s.heap.get? b = some o → h'.get? b = some o) (hn : H it = none) (hL : it ≠ X.env.locals)
    (h1 : it ∈ X.ex ∨ X.s₀.heap.objs.size ≤ it) (h2 : ∀ x c, X.env.cells.lookup x = some c → c ≠ it) (h3 : ∀ p ∈ X.pn ++ pins, p.1 ≠ it) : Inv X pins σ H { s with heap := h', toks := t' } := by
  have nit : ∀ b u, H b = some u → b ≠ it := fun b u e z => by rw [z, hn] at e; cases e
  refine I.step (g' := s.gens) (d' := s.drawn) (ch := [it]) (fun b hb => ?_) (fun b o _ _ hc e _ => k b o (fun z => hc (by simp [z])) e) (fun b o _ _ hc e _ => ⟨o.slots, k b o (fun z => hc (by simp [z])) e⟩) (fun _ _ _ _ n => n)
    (fun b o hc e => ⟨o, k b o (fun z => hc (by simp [z])) e⟩) (fun _ _ e => e) (fun _ _ _ e => e) (fun b ps e => ⟨#[], by rw [e]; simp⟩) (fun m hm => ?_) (fun b u e => ?_) I.bare
  · have e : b = it := by simpa using hb
    subst e
    exact ⟨h1, hL, h2, h3⟩
  · obtain ⟨o, es, ep, ho, r⟩ := hm
    exact ⟨o, es, ep, k _ o (Ne.symm hL) ho, r⟩
  · refine (I.hok b u e).stay (fun c v hc q => k c v ?_ q) (fun _ q => q) fun _ _ q => q
    rcases hc with z | z
    · rw [z]; exact nit b u e
    · exact nit c _ z
theorem Inv.tok (I : Inv X pins σ H s) (t : Nat) : Inv X pins σ H { s with toks := t } := I.un (h' := s.heap) (t' := t) Un.refl I.hok
/-- all objects kept -/
theorem Inv.kept {t' : Nat} (I : Inv X pins σ H s) (k : ∀ b u, s.heap.get? b = some u → h'.get? b = some u) : Inv X pins σ H { s with heap := h', toks := t' } := I.un (Un.kept k) (I.hok.kept k)
/-- a new object laid and tracked -/
theorem Inv.laid {a : Addr} {o : HO} {t' : Nat} (I : Inv X pins σ H s) (k : ∀ b u, s.heap.get? b = some u → h'.get? b = some u) (hp : s.heap.objs.size ≤ a) (new : ObjOk X.prog X.w (upd H a o) h' a o) :
    Inv X pins σ (upd H a o) { s with heap := h', toks := t' } := I.un (Un.laid k hp (I.hok.fresh hp)) (I.hok.laid k hp new)
/-- an object written -/
theorem Inv.write {x e : Addr} {o : HO} {t' : Nat} (I : Inv X pins σ H s) (mu : Mut (H x)) (he : e = x ∨ H e = some (.own x)) (k : ∀ b u, b ≠ e → s.heap.get? b = some u → h'.get? b = some u) (heo : ∃ u, h'.get? e = some u)
    (new : ObjOk X.prog X.w (upd H x o) h' x o) : Inv X pins σ (upd H x o) { s with heap := h', toks := t' } := I.un (Un.write mu he k heo) (I.hok.write mu he k heo new)
theorem Inv.pins_of {pins' : List (Addr × Obj)} (I : Inv X pins σ H s) (h : ∀ p ∈ pins', s.heap.get? p.1 = some p.2 ∧ H p.1 = none ∧ p.1 ≠ X.env.locals ∧ p.1 ∉ X.fs ∧ ∀ v, p.2.data ≠ .cell v) : Inv X pins' σ H s :=
  ⟨I.ok, I.os, I.bare, I.base, I.loc, I.cell, I.free, I.freeC, fun p hp => (List.mem_append.mp hp).elim (fun z => I.pin p (List.mem_append_left _ z)) (h p), I.hok, I.len⟩

theorem nodup_ix {N : List Str} (hN : N.Nodup) {i j : Nat} {x : Str} (a : N[i]? = some x) (b : N[j]? = some x) : i = j := by
  obtain ⟨h1, e1⟩ := List.getElem?_eq_some_iff.mp a
  obtain ⟨h2, e2⟩ := List.getElem?_eq_some_iff.mp b
  exact (List.getElem_inj hN).mp (e1.trans e2.symm)

/-- a name is stored; what changed -/
theorem store_ok2 {M : Model} {A : Around} {E : Value → Shared → Prop} {i : Nat} {x : Str} {v : V} {u : Value} {Q : Unit → Shared → Prop} (I : Inv X pins σ H s) (hN : X.N.Nodup) (hi : X.N[i]? = some x) (hx : Loc X.env.scope x) (r : RelV v u)
    (h : ∀ s', Inv X pins (σ.set i (some v)) H s' → (∃ a, Heap.SameBut a s.heap s'.heap ∧ (a = X.env.locals ∨ X.env.cells.lookup x = some a)) → Q () s') (hf : X.fn x = true ∨ X.env.scope.names.lookup x = some .local := by first | exact .inl rfl | exact .inr rfl | assumption) : wpAny M A (storeName X.env x u) Q E s := by
  obtain ⟨m, hn, hl⟩ := id I.loc
  have hcls : (X.env.scope.kind == .class || (X.env.scope.kind == .module && X.env.locals != X.env.globals)) = false := by rw [I.ok.kind]; rfl
  have hiσ : i < σ.length := by rw [I.len]; exact (List.getElem?_eq_some_iff.mp hi).1
  have cne := I.cne
  have tracked : ∀ {a : Addr} {h' : Heap}, (∃ o, s.heap.get? a = some o ∧ H a = none) → Heap.SameBut a s.heap h' → HOk X.prog X.w H h' := fun {a h'} ha hs b ob e => by
    obtain ⟨_, _, hfree⟩ := ha
    refine (I.hok b ob e).stay (fun c w' hc q => (hs.2 c ?_).trans q) (fun _ q => q) fun _ _ q => q
    rintro rfl
    rcases hc with rfl | hc
    · rw [hfree] at e; cases e
    · rw [hfree] at hc; cases hc
  rcases hx with hk | hk
  · refine wpAny_storeName_local hk hn (fun h' hn' hs => ?_) hcls
    obtain ⟨oL, _, _, hoL, _⟩ := id hn
    refine h _ ⟨I.ok, I.os, I.bare, ⟨fun b o e n hb hx => ?_, fun b o e n hb hx => ?_, I.base.free, fun b o e hx => ?_, I.base.tups, I.base.frzs, I.base.tbls⟩, ⟨_, hn', fun j y v' e1 e2 e3 => ?_⟩, fun y c e => ?_, I.free, I.freeC, fun p hp => ?_, tracked ⟨oL, hoL, I.free⟩ hs, by simpa using I.len⟩ ⟨_, hs, .inl rfl⟩
    · exact (hs.2 b (Nat.ne_of_lt (Nat.lt_of_lt_of_le (Heap.lt_size e) I.ok.above))).trans (I.base.keep b o e n hb hx)
    · obtain ⟨sl, e1⟩ := I.base.slot b o e n hb hx
      exact ⟨sl, (hs.2 b (Nat.ne_of_lt (Nat.lt_of_lt_of_le (Heap.lt_size e) I.ok.above))).trans e1⟩
    · obtain ⟨o', e1⟩ := I.base.there b o e hx
      exact ⟨o', (hs.2 b (Nat.ne_of_lt (Nat.lt_of_lt_of_le (Heap.lt_size e) I.ok.above))).trans e1⟩
    · by_cases hj : j = i
      · subst hj
        rw [hi] at e1; cases e1
        rw [List.getElem?_set_self hiσ] at e2
        cases e2
        exact ⟨u, r, .inl ⟨hk, by simp⟩⟩
      · rw [List.getElem?_set_ne (Ne.symm hj)] at e2
        obtain ⟨u', r', q⟩ := hl j y v' e1 e2 e3
        refine ⟨u', r', ?_⟩
        rcases q with ⟨k, e⟩ | ⟨k, c, e, z⟩
        · refine .inl ⟨k, ?_⟩
          have : y ≠ x := fun e => hj (nodup_ix hN e1 (e ▸ hi))
          simp [this, e]
        · exact .inr ⟨k, c, e, z.sameBut hs (cne y c e)⟩
    · obtain ⟨w', z⟩ := I.cell y c e
      exact ⟨w', z.sameBut hs (cne y c e)⟩
    · obtain ⟨e, n, ne, nf, d⟩ := I.pin p hp
      exact ⟨(hs.2 p.1 ne).trans e, n, ne, nf, d⟩
  · have hfn : X.fn x = true := by
      rcases hf with z | z
      · exact z
      · rw [z] at hk; cases hk
    obtain ⟨c, hc⟩ := I.ok.has x (.inl hk)
    obtain ⟨w', z⟩ := I.cell x c hc
    refine wpAny_storeName_cell I.ok.kind hk hc z (fun h' hc' hs => ?_)
    obtain ⟨oc, hoc, hocd⟩ := id z
    refine h { s with heap := h' } ⟨I.ok, I.os, I.bare, ⟨fun b o e n hb hx => ?_, fun b o e n hb hx => ?_, I.base.free, fun b o e hx => ?_, I.base.tups, I.base.frzs, I.base.tbls⟩, ⟨m, hn.sameBut hs (Ne.symm (cne x c hc)), fun j y v' e1 e2 e3 => ?_⟩, fun y c' e => ?_, I.free, I.freeC, fun p hp => ?_, tracked ⟨oc, hoc, I.freeC x c hc⟩ hs, by simpa using I.len⟩ ⟨c, hs, .inr hc⟩
    · exact (hs.2 b (Nat.ne_of_lt (Nat.lt_of_lt_of_le (Heap.lt_size e) (I.ok.cab x c hfn hc)))).trans (I.base.keep b o e n hb hx)
    · obtain ⟨sl, e1⟩ := I.base.slot b o e n hb hx
      exact ⟨sl, (hs.2 b (Nat.ne_of_lt (Nat.lt_of_lt_of_le (Heap.lt_size e) (I.ok.cab x c hfn hc)))).trans e1⟩
    · obtain ⟨o', e1⟩ := I.base.there b o e hx
      exact ⟨o', (hs.2 b (Nat.ne_of_lt (Nat.lt_of_lt_of_le (Heap.lt_size e) (I.ok.cab x c hfn hc)))).trans e1⟩
    · by_cases hj : j = i
      · subst hj
        rw [hi] at e1; cases e1
        rw [List.getElem?_set_self hiσ] at e2
        cases e2
        exact ⟨u, r, .inr ⟨.inl hk, c, hc, hc'⟩⟩
      · rw [List.getElem?_set_ne (Ne.symm hj)] at e2
        obtain ⟨u', r', q⟩ := hl j y v' e1 e2 e3
        refine ⟨u', r', ?_⟩
        rcases q with q | ⟨k, c', e, z'⟩
        · exact .inl q
        · refine .inr ⟨k, c', e, z'.sameBut hs ?_⟩
          rintro rfl
          exact hj (nodup_ix hN e1 (I.ok.inj _ _ _ e hc ▸ hi))
    · by_cases hcc : c' = c
      · subst hcc; exact ⟨_, hc'⟩
      · obtain ⟨w2, z2⟩ := I.cell y c' e
        exact ⟨w2, z2.sameBut hs hcc⟩
    · obtain ⟨e, n, ne, nf, d⟩ := I.pin p hp
      refine ⟨(hs.2 p.1 ?_).trans e, n, ne, nf, d⟩
      intro q
      rw [q, hoc] at e
      have q' : oc = p.2 := Option.some.inj e
      exact d w' (by rw [← q']; exact hocd)
theorem store_ok {M : Model} {A : Around} {E : Value → Shared → Prop} {i : Nat} {x : Str} {v : V} {u : Value} {Q : Unit → Shared → Prop} (I : Inv X pins σ H s) (hN : X.N.Nodup) (hi : X.N[i]? = some x) (hx : Loc X.env.scope x) (r : RelV v u)
    (h : ∀ s', Inv X pins (σ.set i (some v)) H s' → Q () s') (hf : X.fn x = true ∨ X.env.scope.names.lookup x = some .local := by first | exact .inl rfl | exact .inr rfl | assumption) : wpAny M A (storeName X.env x u) Q E s :=
  store_ok2 I hN hi hx r (fun s' I' _ => h s' I') hf
/-- behind a call or a block, the state as it is -/
theorem Inv.call' {s' : Shared} {ch : List Addr} (I : Inv X pins σ H s) (ho : s'.os = s.os) (u : Un (frs X.stack) ch H H' s.heap s'.heap) (hok : HOk X.prog X.w H' s'.heap) (hg : AllBare s'.gens)
    (hch : ∀ b ∈ ch, (b ∈ X.ex ∨ X.s₀.heap.objs.size ≤ b) ∧ b ≠ X.env.locals ∧ (∀ x c, X.env.cells.lookup x = some c → c ≠ b) ∧ ∀ p ∈ X.pn ++ pins, p.1 ≠ b) : Inv X pins σ H' s' := by
  obtain ⟨h', g', d', t', o'⟩ := s'
  have e : o' = s.os := ho
  subst e
  exact I.call (g' := g') (t' := t') (d' := d') u hok hg hch
end

/-! ### the judgements -/
/-- an exception: its class, its own dict's address (where it has one), the abstract heap behind it -/
noncomputable abbrev XK := Value → Option Addr → Hp → Prop
noncomputable abbrev St := List (Option V)
noncomputable abbrev VK := V → Hp → Prop
/-- an expression's reading; a test's; an argument list's -/
noncomputable abbrev TE := St → Hp → VK → Prop
noncomputable abbrev TT := St → Hp → (Bool → Hp → Prop) → Prop
noncomputable abbrev TA := St → Hp → (List V → Hp → Prop) → Prop
/-- what is wanted behind a statement -/
structure Ends where
  nx : St → Hp → Prop
  rt : VK
  bk : St → Hp → Prop := fun _ _ => False
  ct : St → Hp → Prop := fun _ _ => False
noncomputable abbrev TS := Ends → St → Hp → Prop

noncomputable def EP (X : Cx) (pins : List (Addr × Obj)) (σ : St) (Q : VK) (u : Value) (s' : Shared) : Prop := ∃ v H', Inv X pins σ H' s' ∧ RelV v u ∧ Q v H'
noncomputable def TP (X : Cx) (pins : List (Addr × Obj)) (σ : St) (Q : Bool → Hp → Prop) (b : Bool) (s' : Shared) : Prop := ∃ H', Inv X pins σ H' s' ∧ Q b H'
noncomputable def AP (X : Cx) (pins : List (Addr × Obj)) (σ : St) (Q : List V → Hp → Prop) (us : List Value) (s' : Shared) : Prop := ∃ vs H', Inv X pins σ H' s' ∧ Vals vs us ∧ Q vs H'
noncomputable def SP (X : Cx) (pins : List (Addr × Obj)) (D : Ends) (f : Flow) (s' : Shared) : Prop :=
  match f with
  | .next => ∃ σ' H', Inv X pins σ' H' s' ∧ D.nx σ' H'
  | .brk => ∃ σ' H', Inv X pins σ' H' s' ∧ D.bk σ' H'
  | .cont => ∃ σ' H', Inv X pins σ' H' s' ∧ D.ct σ' H'
  | .ret u => ∃ v σ' H', Inv X pins σ' H' s' ∧ RelV v u ∧ D.rt v H'

noncomputable def PE (X : Cx) (e : Expr) (t : TE) : Prop :=
  ∀ (pins : List (Addr × Obj)) (s : Shared) (σ : St) (H : Hp) (Q : VK), Inv X pins σ H s → t σ H Q → wpAny (model X.prog X.w) X.A (eval e X.env) (EP X pins σ Q) X.xe s
noncomputable def PT (X : Cx) (e : Expr) (t : TT) : Prop :=
  ∀ (pins : List (Addr × Obj)) (s : Shared) (σ : St) (H : Hp) (Q : Bool → Hp → Prop), Inv X pins σ H s → t σ H Q → wpAny (model X.prog X.w) X.A (isTrue e X.env (eval e X.env)) (TP X pins σ Q) X.xe s
/-- a test whatever its 'whole' is (and, or) -/
noncomputable def PW (X : Cx) (e : Expr) (t : TT) : Prop :=
  ∀ (whole : Sem Value) (pins : List (Addr × Obj)) (s : Shared) (σ : St) (H : Hp) (Q : Bool → Hp → Prop), Inv X pins σ H s → t σ H Q → wpAny (model X.prog X.w) X.A (isTrue e X.env whole) (TP X pins σ Q) X.xe s
theorem PW.pt {X : Cx} {e : Expr} {t : TT} (h : PW X e t) : PT X e t := h _
/-- an argument list (no star), from the left -/
noncomputable def PA (X : Cx) (es : List Expr) (t : TA) : Prop :=
  ∀ (pos : Pos) (pins : List (Addr × Obj)) (s : Shared) (σ : St) (H : Hp) (Q : List V → Hp → Prop), Inv X pins σ H s → t σ H Q → wpAny (model X.prog X.w) X.A (spliced (backTo pos (starEach es X.env))) (AP X pins σ Q) X.xe s
noncomputable def PS (X : Cx) (st : Stmt) (t : TS) : Prop :=
  ∀ (pins : List (Addr × Obj)) (s : Shared) (σ : St) (H : Hp) (D : Ends), Inv X pins σ H s → t D σ H → wpAny (model X.prog X.w) X.A (exec st X.env) (SP X pins D) X.xe s
noncomputable def PSs (X : Cx) (st : List Stmt) (t : TS) : Prop :=
  ∀ (pins : List (Addr × Obj)) (s : Shared) (σ : St) (H : Hp) (D : Ends), Inv X pins σ H s → t D σ H → wpAny (model X.prog X.w) X.A (execs st X.env) (SP X pins D) X.xe s
/-- weaken the end -/
theorem thn {α : Type} {t : Sem α} {Q Q' : α → Shared → Prop} {M : Model} {A : Around} {E : Value → Shared → Prop} {s : Shared} (h : wpAny M A t Q E s) (hQ : ∀ a s, Q a s → Q' a s) : wpAny M A t Q' E s := wpAny_mono h hQ fun _ _ x => x
end L2

namespace L2
open PySem PySem.Spec PyProof.Rows
section
variable {X : Cx}

/-! ### names and constants -/
noncomputable def tVar (i : Nat) : TE := fun σ H Q => ∃ v, σ[i]? = some (some v) ∧ Q v H
noncomputable def tC (v : V) : TE := fun _ H Q => Q v H
theorem pe_var {i : Nat} {x : Str} {pos : Pos} (hN : X.N[i]? = some x) (hv : Vis X.env.scope x) (hd : (x == ("__debug__" : Str)) = false := by decide) (hcd : (x == ("__classdict__" : Str)) = false := by decide) : PE X (.Name x pos) (tVar i) := by
  intro pins s σ H Q I h
  obtain ⟨v, e, h⟩ := h
  obtain ⟨m, hn, hl⟩ := I.loc
  obtain ⟨u, r, l⟩ := hl i x v hN e hv
  have fin : EP X pins σ Q u s := ⟨v, H, I, r, h⟩
  rcases l with ⟨hk, hm⟩ | ⟨hk, c, hc, hcell⟩
  · exact wpAny_Name (wpAny_loadName_local I.ok.kind hk hn hm fin) hd
  · rcases hk with hk | hk
    · exact wpAny_Name (wpAny_loadName_cell I.ok.kind hk hc hcell fin) hd
    · exact wpAny_Name (wpAny_loadName_free I.ok.kind hk hc hcell fin hcd) hd
theorem pe_int {i j pos} : PE X (.Constant (.int i) j pos) (tC (.int i)) := fun _ _ _ H _ I h => wpAny_Constant_int ⟨.int i, H, I.tok _, ⟨_, rfl⟩, h⟩
theorem pe_bl {b j pos} : PE X (.Constant (.bool b) j pos) (tC (.bl b)) := fun _ _ _ H _ I h => Constant_bool ⟨.bl b, H, I, rfl, h⟩
theorem pe_non {j pos} : PE X (.Constant .none j pos) (tC .non) := fun _ _ _ H _ I h => Constant_none ⟨.non, H, I, rfl, h⟩
theorem pe_str {x j pos} : PE X (.Constant (.str x) j pos) (tC (.str x)) := fun _ _ _ H _ I h => Calls.Constant_str ⟨.str x, H, I.tok _, ⟨_, rfl⟩, h⟩

/-- a global name of the def -/
noncomputable def Gl (X : Cx) (x : Str) : Prop := X.env.kindOf x = some .globalImplicit
theorem ld_glob {E : Value → Shared → Prop} {pins : List (Addr × Obj)} {s : Shared} {σ : St} {H : Hp} {x : Str} {u : Value} {pos : Pos} {Q : Value → Shared → Prop} (I : Inv X pins σ H s) (hg : Gl X x) (hm : X.mg x = some u) (h : Q u s)
    (hd : (x == ("__debug__" : Str)) = false := by decide) : wpAny (model X.prog X.w) X.A (eval (.Name x pos) X.env) Q E s :=
  Calls.Name_function_global I.ok.kind hg (Calls.loadGlobal_global (by rw [I.ok.glob]; exact I.mod.glob.keeps I.bk) hm h) hd
theorem ld_blt {E : Value → Shared → Prop} {pins : List (Addr × Obj)} {s : Shared} {σ : St} {H : Hp} {x : Str} {u : Value} {pos : Pos} {Q : Value → Shared → Prop} (I : Inv X pins σ H s) (hg : Gl X x) (hm : X.mg x = none) (hv : bootBuiltins x = some u) (h : Q u s)
    (hn : x ≠ "__name__" := by decide) (hd : (x == ("__debug__" : Str)) = false := by decide) : wpAny (model X.prog X.w) X.A (eval (.Name x pos) X.env) Q E s := by
  obtain ⟨mb, h1, h2⟩ := I.mod.blt
  exact Calls.Name_function_global I.ok.kind hg (Calls.loadGlobal_builtin (by rw [I.ok.glob]; exact I.mod.glob.keeps I.bk) hm (by rw [I.ok.blt]; exact h1.keeps I.bk) ((h2 x hn).trans hv) h) hd
/-- a module's constant, a class, a function, as a value -/
theorem pe_glob {x : Str} {v : V} {u : Value} {pos : Pos} (hg : Gl X x) (hm : X.mg x = some u) (r : RelV v u) (hd : (x == ("__debug__" : Str)) = false := by decide) : PE X (.Name x pos) (tC v) :=
  fun _ _ _ H _ I h => ld_glob I hg hm ⟨v, H, I, r, h⟩ hd
theorem pe_bltn {x : Str} {v : V} {u : Value} {pos : Pos} (hg : Gl X x) (hm : X.mg x = none) (hv : bootBuiltins x = some u) (r : RelV v u) (hn : x ≠ "__name__" := by decide) (hd : (x == ("__debug__" : Str)) = false := by decide) : PE X (.Name x pos) (tC v) :=
  fun _ _ _ H _ I h => ld_blt I hg hm hv ⟨v, H, I, r, h⟩ hn hd

/-! ### arithmetic -/
variable {a b : Expr} {ta tb : TE} {pos : Pos}
/-! ### comparisons -/
noncomputable def PC (X : Cx) (op : CmpOp) (a b : Expr) (t : TE) : Prop :=
  ∀ (pins : List (Addr × Obj)) (s : Shared) (σ : St) (H : Hp) (Q : VK), Inv X pins σ H s → t σ H Q →
    wpAny (model X.prog X.w) X.A (eval a X.env) (fun v s₁ => wpAny (model X.prog X.w) X.A (eval b X.env) (fun u s₂ => wpAny (model X.prog X.w) X.A (compareOp op v u) (EP X pins σ Q) X.xe s₂) X.xe s₁) X.xe s
theorem nobehind (b : Expr) {op : CmpOp} (h : op ≠ .In) (h2 : op ≠ .NotIn) : behindInMarks op b = false := by
  have e1 : (op == CmpOp.In) = false := by cases op <;> first | rfl | exact absurd rfl h
  have e2 : (op == CmpOp.NotIn) = false := by cases op <;> first | rfl | exact absurd rfl h2
  cases b <;> simp [behindInMarks, e1, e2]
/-- is None -/
noncomputable def tIsN (ta : TE) : TE := fun σ H Q => ta σ H fun x H1 => Q (.bl (decide (x = .non))) H1
noncomputable def tNotN (ta : TE) : TE := fun σ H Q => ta σ H fun x H1 => Q (.bl (!decide (x = .non))) H1
theorem RelV.none_iff {x : V} {v : Value} (r : RelV x v) : (v == Value.none) = decide (x = .non) := by
  cases x with
  | non => cases r; rfl
  | bl _ => cases r; rfl
  | int _ => obtain ⟨t, rfl⟩ := r; rfl
  | str _ => obtain ⟨t, rfl⟩ := r; rfl
  | byt _ => obtain ⟨t, rfl⟩ := r; rfl
  | flt _ => obtain ⟨t, rfl⟩ := r; rfl
  | ref _ => cases r; rfl
  | ty _ => cases r; rfl
theorem pc_isN {j pos'} (ha : PE X a ta) : PC X .Is a (.Constant .none j pos') (tIsN ta) := by
  intro pins s σ H Q I h
  refine thn (ha pins s σ H _ I h) fun v s1 hsl1 => ?_
  obtain ⟨x, H1, I1, r1, q1⟩ := hsl1
  exact Constant_none (is_none_gen ⟨.bl _, H1, I1, by rw [r1.none_iff]; rfl, q1⟩)
theorem pc_notN {j pos'} (ha : PE X a ta) : PC X .IsNot a (.Constant .none j pos') (tNotN ta) := by
  intro pins s σ H Q I h
  refine thn (ha pins s σ H _ I h) fun v s1 hsl2 => ?_
  obtain ⟨x, H1, I1, r1, q1⟩ := hsl2
  exact Constant_none (isnot_none_gen ⟨.bl _, H1, I1, by rw [r1.none_iff]; rfl, q1⟩)
/-- a comparison as a value, as a test -/
noncomputable def tB (t : TE) : TT := fun σ H Q => t σ H fun x H1 => ∃ c, x = .bl c ∧ Q c H1
theorem pt_cmp {op : CmpOp} {t : TE} (h : PC X op a b t) (h1 : behindInMarks op b = false := by first | exact nobehind _ (by decide) (by decide) | rfl) : PT X (.Compare a [op] [b] pos) (tB t) := by
  intro pins s σ H Q I hw
  refine wpAny_isTrue_Compare1 (thn (h pins s σ H _ I hw) fun v s1 h1 => thn h1 fun u s2 h2 => thn h2 fun c s3 hsl3 => ?_) h1
  obtain ⟨x, H1, I1, r1, q1⟩ := hsl3
  obtain ⟨d, rfl, q⟩ := q1
  cases r1
  exact wpAny_truthy_bool ⟨H1, I1, q⟩
/-- an expression whose value is a bool, as a test -/
theorem pt_val {e : Expr} {t : TE} (h : PE X e t) (he : ∀ whole, isTrue e X.env whole = (do let v ← whole; standAt e.pos; holding [v] (truthy v)) := by intro _; rfl) : PT X e (tB t) := by
  intro pins s σ H Q I hw
  refine isTrue_plain (thn (h pins s σ H _ I hw) fun v s1 hsl4 => ?_) (he _)
  obtain ⟨x, H1, I1, r1, q1⟩ := hsl4
  obtain ⟨d, rfl, q⟩ := q1
  cases r1
  exact wpAny_truthy_bool ⟨H1, I1, q⟩

/-! ### and, or, not -/
variable {tA tB' : TT} {rest : List Expr}
noncomputable def tAnd (t u : TT) : TT := fun σ H Q => t σ H fun c H1 => if c = true then u σ H1 Q else Q false H1
noncomputable def tOr (t u : TT) : TT := fun σ H Q => t σ H fun c H1 => if c = true then Q true H1 else u σ H1 Q
noncomputable def tNot (t : TT) : TT := fun σ H Q => t σ H fun c H1 => Q (!c) H1
theorem pw_and1 (ha : PT X a tA) : PW X (.BoolOp .And [a] pos) tA := by
  intro wh pins s σ H Q I h
  refine isTrue_and (thn (ha pins s σ H Q I h) fun c s1 e => ?_)
  cases c with
  | true => exact isTrue_and_nil e
  | false => exact e
theorem pw_or1 (ha : PT X a tA) : PW X (.BoolOp .Or [a] pos) tA := by
  intro wh pins s σ H Q I h
  refine isTrue_or (thn (ha pins s σ H Q I h) fun c s1 e => ?_)
  cases c with
  | false => exact isTrue_or_nil e
  | true => exact e
theorem pw_and (ha : PT X a tA) (hb : PW X (.BoolOp .And (b :: rest) pos) tB') : PW X (.BoolOp .And (a :: b :: rest) pos) (tAnd tA tB') := by
  intro wh pins s σ H Q I h
  refine isTrue_and (thn (ha pins s σ H _ I h) fun c s1 hsl5 => ?_)
  obtain ⟨H1, I1, q1⟩ := hsl5
  cases c with
  | true => exact hb wh pins s1 σ H1 Q I1 q1
  | false => exact ⟨H1, I1, q1⟩
theorem pw_or (ha : PT X a tA) (hb : PW X (.BoolOp .Or (b :: rest) pos) tB') : PW X (.BoolOp .Or (a :: b :: rest) pos) (tOr tA tB') := by
  intro wh pins s σ H Q I h
  refine isTrue_or (thn (ha pins s σ H _ I h) fun c s1 hsl6 => ?_)
  obtain ⟨H1, I1, q1⟩ := hsl6
  cases c with
  | true => exact ⟨H1, I1, q1⟩
  | false => exact hb wh pins s1 σ H1 Q I1 q1
theorem pt_not (ha : PT X a tA) : PT X (.UnaryOp .Not a pos) (tNot tA) := by
  intro pins s σ H Q I h
  exact isTrue_not (ha pins s σ H (fun c H1 => Q (!c) H1) I h)
/-- .. as values (bools) -/
noncomputable def tAndV (ta tb : TE) : TE := fun σ H Q => ta σ H fun x H1 => ∃ c, x = .bl c ∧ if c = true then tb σ H1 Q else Q (.bl false) H1
noncomputable def tNotV (ta : TE) : TE := fun σ H Q => ta σ H fun x H1 => ∃ c, x = .bl c ∧ Q (.bl (!c)) H1
theorem pe_one {op} {t : TE} (h : PE X a t) : PE X (.BoolOp op [a] pos) t := fun pins s σ H Q I hw => BoolOp_one (h pins s σ H Q I hw)
theorem pe_and (ha : PE X a ta) (hb : PE X (.BoolOp .And (b :: rest) pos) tb) : PE X (.BoolOp .And (a :: b :: rest) pos) (tAndV ta tb) := by
  intro pins s σ H Q I h
  refine BoolOp_and (thn (ha pins s σ H _ I h) fun v s1 hsl7 => ?_)
  obtain ⟨x, H1, I1, r1, q1⟩ := hsl7
  obtain ⟨c, rfl, q1⟩ := q1
  cases r1
  refine wpAny_truthy_bool ?_
  cases c with
  | true => exact hb pins s1 σ H1 Q I1 q1
  | false => exact ⟨.bl false, H1, I1, rfl, q1⟩
theorem pe_not (ha : PE X a ta) : PE X (.UnaryOp .Not a pos) (tNotV ta) := by
  intro pins s σ H Q I h
  refine UnaryOp_ (thn (ha pins s σ H _ I h) fun v s1 hsl8 => ?_)
  obtain ⟨x, H1, I1, r1, q1⟩ := hsl8
  obtain ⟨c, rfl, q1⟩ := q1
  cases r1
  exact not_of (wpAny_truthy_bool ⟨.bl (!c), H1, I1, rfl, q1⟩)
/-- a if t else b -/
noncomputable def tIf (t : TT) (ta tb : TE) : TE := fun σ H Q => t σ H fun c H1 => if c = true then ta σ H1 Q else tb σ H1 Q
theorem pe_ifExp {c : Expr} (hc : PT X c tA) (ha : PE X a ta) (hb : PE X b tb) : PE X (.IfExp c a b pos) (tIf tA ta tb) := by
  intro pins s σ H Q I h
  refine wpAny_IfExp (thn (hc pins s σ H _ I h) fun d s1 hsl9 => ?_)
  obtain ⟨H1, I1, q1⟩ := hsl9
  cases d with
  | true => exact ha pins s1 σ H1 Q I1 q1
  | false => exact hb pins s1 σ H1 Q I1 q1
end
end L2

namespace L2
open PySem PySem.Spec PyProof.Rows

/-! ### a list, a tuple that is read: tracked, frozen, or an object of the module -/
noncomputable def SqL (K : PySem.W.Frag) (H : Hp) (a : Addr) (xs : List V) : Prop :=
  Rd H a (.lst xs) ∨
    ∃ (o : Obj) (its : Array Value) (n : Nat), K.lookup a = some o ∧ o.cls = .type "list" ∧ o.dict = none ∧ o.data = .seq its n ∧ its.size ≤ sizeLine ∧ Vals xs its.toList
noncomputable def SqT (K : PySem.W.Frag) (H : Hp) (a : Addr) (xs : List V) : Prop :=
  Rd H a (.tup xs) ∨
    ∃ (o : Obj) (its : Array Value) (n : Nat), K.lookup a = some o ∧ o.cls = .type "tuple" ∧ o.data = .seq its n ∧ its.size ≤ sizeLine ∧ Vals xs its.toList
noncomputable def absV : Value → Option V
  | .none => some .non
  | .bool b => some (.bl b)
  | .int i _ => some (.int i)
  | .str x _ => some (.str x)
  | .bytes b _ => some (.byt b)
  | .float b _ => some (.flt b)
  | .ref a => some (.ref a)
  | .type n => some (.ty n)
  | _ => none
theorem RelV.abs {x : V} {u : Value} (r : RelV x u) : absV u = some x := by
  cases x with
  | non => cases r; rfl
  | bl _ => cases r; rfl
  | int _ => obtain ⟨t, rfl⟩ := r; rfl
  | str _ => obtain ⟨t, rfl⟩ := r; rfl
  | byt _ => obtain ⟨t, rfl⟩ := r; rfl
  | flt _ => obtain ⟨t, rfl⟩ := r; rfl
  | ref _ => cases r; rfl
  | ty _ => cases r; rfl
theorem RelV.inj {x y : V} {u : Value} (r : RelV x u) (q : RelV y u) : x = y := Option.some.inj (r.abs.symm.trans q.abs)
theorem Vals.inj : ∀ {xs ys : List V} {us : List Value}, Vals xs us → Vals ys us → xs = ys
  | _, _, _, .nil, .nil => rfl
  | _, _, _, .cons r t, .cons r' t' => by rw [r.inj r', Vals.inj t t']
section
variable {X : Cx} {pins : List (Addr × Obj)} {σ : St} {H : Hp} {s : Shared} {a : Addr} {xs ys : List V}
theorem SqL.of {K : PySem.W.Frag} (h : H a = some (.lst xs)) : SqL K H a xs := .inl (.inl h)
theorem SqT.of {K : PySem.W.Frag} (h : H a = some (.tup xs)) : SqT K H a xs := .inl (.inl h)
theorem Inv.list (I : Inv X pins σ H s) (h : SqL X.K H a xs) : ∃ its : List Value, Vals xs its ∧ PlainL s.heap a its.toArray ∧ xs.length ≤ sizeLine := by
  rcases h with h | ⟨o, its, n, hk, hc, hd, hs, hz, r⟩
  · obtain ⟨z, its, n, r, e⟩ := h.ok I.hok
    exact ⟨its, r, ⟨_, n, e, rfl, rfl, rfl⟩, z⟩
  · refine ⟨its.toList, r, ⟨o, n, I.kIn a o hk, hc, hd, by simpa using hs⟩, ?_⟩
    have e := r.length
    simp only [Array.length_toList] at e
    omega
theorem Inv.tuple (I : Inv X pins σ H s) (h : SqT X.K H a xs) : ∃ its : List Value, Vals xs its ∧ IsTup s.heap a its.toArray ∧ xs.length ≤ sizeLine := by
  rcases h with h | ⟨o, its, n, hk, hc, hs, hz, r⟩
  · obtain ⟨z, its, r, p⟩ := h.ok I.hok
    exact ⟨its, r, p, z⟩
  · refine ⟨its.toList, r, ⟨o, I.kIn a o hk, hc, n, by simpa using hs⟩, ?_⟩
    have e := r.length
    simp only [Array.length_toList] at e
    omega
theorem Inv.list_inj (I : Inv X pins σ H s) (h : SqL X.K H a xs) (h' : SqL X.K H a ys) : xs = ys := by
  obtain ⟨its, r, ⟨o, n, e, _, _, d⟩, _⟩ := I.list h
  obtain ⟨its', r', ⟨o', n', e', _, _, d'⟩, _⟩ := I.list h'
  rw [e] at e'; cases e'
  rw [d] at d'
  injection d' with d1 _
  have : its = its' := by simpa using congrArg Array.toList d1
  subst this
  exact r.inj r'
end

/-! ### another wish about exceptions -/
noncomputable abbrev Cx.wish (X : Cx) (E : Value → Shared → Prop) : Cx := { X with xe := E }
/-- no exception leaves -/
noncomputable abbrev Cx.nox (X : Cx) : Cx := X.wish fun _ _ => False
theorem Cx.Ok.wish {X : Cx} (ok : X.Ok) (E : Value → Shared → Prop) : (X.wish E).Ok :=
  ⟨ok.mod, ok.kind, ok.glob, ok.blt, ok.above, ok.inj, ok.has, ok.cab, ok.hd, ok.frames, ok.stk, ok.exf, ok.bs, ok.bsz, ok.noex, ok.exfs, ok.funs, ok.frf⟩
theorem Cx.Ok.unwish {X : Cx} {E : Value → Shared → Prop} (ok : (X.wish E).Ok) : X.Ok :=
  ⟨ok.mod, ok.kind, ok.glob, ok.blt, ok.above, ok.inj, ok.has, ok.cab, ok.hd, ok.frames, ok.stk, ok.exf, ok.bs, ok.bsz, ok.noex, ok.exfs, ok.funs, ok.frf⟩
section
variable {X : Cx} {pins : List (Addr × Obj)} {σ : St} {H : Hp} {s : Shared} {E : Value → Shared → Prop}
theorem Inv.wish (I : Inv X pins σ H s) (E : Value → Shared → Prop) : Inv (X.wish E) pins σ H s := ⟨I.ok.wish E, I.os, I.bare, I.base, I.loc, I.cell, I.free, I.freeC, I.pin, I.hok, I.len⟩
theorem Inv.unwish (I : Inv (X.wish E) pins σ H s) : Inv X pins σ H s := ⟨I.ok.unwish, I.os, I.bare, I.base, I.loc, I.cell, I.free, I.freeC, I.pin, I.hok, I.len⟩
theorem SP.unwish {D : Ends} {f : Flow} {s' : Shared} (h : SP (X.wish E) pins D f s') : SP X pins D f s' := by
  cases f with
  | next => obtain ⟨σ', H', I, q⟩ := h; exact ⟨σ', H', I.unwish, q⟩
  | brk => obtain ⟨σ', H', I, q⟩ := h; exact ⟨σ', H', I.unwish, q⟩
  | cont => obtain ⟨σ', H', I, q⟩ := h; exact ⟨σ', H', I.unwish, q⟩
  | ret u => obtain ⟨v, σ', H', I, r, q⟩ := h; exact ⟨v, σ', H', I.unwish, r, q⟩
theorem PSs.nox {st : List Stmt} {t : TS} (h : PSs X.nox st t) : PSs X st t := fun pins s σ H D I hw =>
  wpAny_mono (h pins s σ H D (I.wish _) hw) (fun _ _ q => q.unwish) fun _ _ z => False.elim z
end

/-! ### blocks and small statements -/
section
variable {X : Cx} {st : Stmt} {rest : List Stmt} {t u : TS} {e : Expr} {te : TE} {pos : Pos}
noncomputable def tNext : TS := fun D σ H => D.nx σ H
noncomputable def tSeq (t u : TS) : TS := fun D σ H => t { D with nx := u D } σ H
theorem pss_nil : PSs X [] tNext := fun _ _ σ H _ I h => wpAny_execs_nil ⟨σ, H, I, h⟩
theorem pss_cons (h1 : PS X st t) (h2 : PSs X rest u) : PSs X (st :: rest) (tSeq t u) := by
  intro pins s σ H D I h
  refine wpAny_execs_cons (thn (h1 pins s σ H { D with nx := u D } I h) fun f s1 q => ?_)
  cases f with
  | next =>
    obtain ⟨σ', H', I', q⟩ := q
    exact h2 pins s1 σ' H' D I' q
  | ret v => exact q
  | brk => exact q
  | cont => exact q
theorem pss_one (h1 : PS X st t) : PSs X [st] t := by
  intro pins s σ H D I h
  refine wpAny_execs_cons (thn (h1 pins s σ H D I h) fun f s1 q => ?_)
  cases f with
  | next => exact wpAny_execs_nil q
  | ret v => exact q
  | brk => exact q
  | cont => exact q
/-- in a def's body nothing is shown -/
theorem Inv.quiet {pins : List (Addr × Obj)} {σ : St} {H : Hp} {s : Shared} (I : Inv X pins σ H s) : interactive X.env = false := by simp [interactive, I.ok.kind]
/-- an expression whose value is dropped -/
noncomputable def tDrop (te : TE) : TS := fun D σ H => te σ H fun _ H1 => D.nx σ H1
theorem ps_expr (he : PE X e te) (hs : swapsWith e none pos.line X.env = pure false := by rfl) : PS X (.Expr e pos) (tDrop te) := by
  intro pins s σ H D I h
  exact wpAny_Expr_any (thn (he pins s σ H _ I h) fun v s1 hsl12 => by obtain ⟨x, H1, I1, r1, q1⟩ := hsl12; exact ⟨σ, H1, I1, q1⟩) I.quiet hs
noncomputable def tRet (te : TE) : TS := fun D σ H => te σ H D.rt
theorem ps_ret (he : PE X e te) : PS X (.Return (some e) pos) (tRet te) := by
  intro pins s σ H D I h
  exact wpAny_Return_some (thn (he pins s σ H _ I h) fun v s1 hsl13 => by obtain ⟨x, H1, I1, r1, q1⟩ := hsl13; exact ⟨x, σ, H1, I1, r1, q1⟩)
noncomputable def tIfS (c : TT) (t u : TS) : TS := fun D σ H => c σ H fun b H1 => if b = true then t D σ H1 else u D σ H1
theorem ps_if {c : Expr} {a b : List Stmt} {tc : TT} (hc : PT X c tc) (ha : PSs X a t) (hb : PSs X b u) : PS X (.If c a b pos) (tIfS tc t u) := by
  intro pins s σ H D I h
  refine wpAny_If (thn (hc pins s σ H _ I h) fun d s1 hsl14 => ?_)
  obtain ⟨H1, I1, q1⟩ := hsl14
  cases d with
  | true => exact ha pins s1 σ H1 D I1 q1
  | false => exact hb pins s1 σ H1 D I1 q1
/-- code that the proof never comes to -/
noncomputable def tNever : TS := fun _ _ _ => False
theorem pss_never {sts : List Stmt} : PSs X sts tNever := fun _ _ _ _ _ _ h => h.elim
end

/-! ### targets -/
noncomputable abbrev TG := V → St → Hp → (St → Hp → Prop) → Prop
noncomputable abbrev TGs := List V → St → Hp → (St → Hp → Prop) → Prop
noncomputable def PG (X : Cx) (target : Expr) (t : TG) : Prop :=
  ∀ (pins : List (Addr × Obj)) (s : Shared) (σ : St) (H : Hp) (v : V) (u : Value) (Q : St → Hp → Prop), Inv X pins σ H s → RelV v u → t v σ H Q →
    wpAny (model X.prog X.w) X.A (assign target X.env u) (fun _ s' => ∃ σ' H', Inv X pins σ' H' s' ∧ Q σ' H') X.xe s
/-- several targets, one after another -/
noncomputable def PGs (X : Cx) (ts : List Expr) (t : TGs) : Prop :=
  ∀ (pins : List (Addr × Obj)) (s : Shared) (σ : St) (H : Hp) (vs : List V) (us : List Value) (Q : St → Hp → Prop), Inv X pins σ H s → Vals vs us → t vs σ H Q →
    wpAny (model X.prog X.w) X.A (assignInOrder ((assignEach ts X.env).map (·.2)) us) (fun _ s' => ∃ σ' H', Inv X pins σ' H' s' ∧ Q σ' H') X.xe s
/-- o[i] = v, by values -/
noncomputable abbrev TSet := V → V → V → Hp → (Hp → Prop) → Prop
noncomputable def PSet (X : Cx) (t : TSet) : Prop :=
  ∀ (pins : List (Addr × Obj)) (s : Shared) (σ : St) (H : Hp) (o i v : V) (ov iv u : Value) (Q : Hp → Prop), Inv X pins σ H s → RelV o ov → RelV i iv → RelV v u → t o i v H Q →
    wpAny (model X.prog X.w) X.A (setItem ov iv u) (fun _ s' => ∃ H', Inv X pins σ H' s' ∧ Q H') X.xe s
section
variable {X : Cx} {pos : Pos}
noncomputable def gName (i : Nat) : TG := fun v σ H Q => Q (σ.set i (some v)) H
theorem pg_name {i : Nat} {x : Str} (hN : X.N.Nodup) (hi : X.N[i]? = some x) (hx : Loc X.env.scope x) (hf : X.fn x = true ∨ X.env.scope.names.lookup x = some .local := by first | exact .inl rfl | exact .inr rfl | assumption) : PG X (.Name x pos) (gName i) := by
  intro pins s σ H v u Q I r h
  exact wpAny_assign_Name (store_ok I hN hi hx r (fun s' I' => ⟨_, H, I', h⟩) hf)
noncomputable def gNil : TGs := fun vs σ H Q => vs = [] ∧ Q σ H
noncomputable def gCons (t : TG) (u : TGs) : TGs := fun vs σ H Q => ∃ v r, vs = v :: r ∧ t v σ H fun σ' H' => u r σ' H' Q
theorem pgs_nil : PGs X [] gNil := by
  intro pins s σ H vs us Q I r h
  obtain ⟨e, h⟩ := h
  subst e
  cases r
  exact assignInOrder_nil ⟨σ, H, I, h⟩
theorem pgs_cons {e : Expr} {es : List Expr} {t : TG} {u : TGs} (h1 : PG X e t) (h2 : PGs X es u)
    (hs : (assignEach (e :: es) X.env).map (·.2) = assign e X.env :: (assignEach es X.env).map (·.2) := by rfl) : PGs X (e :: es) (gCons t u) := by
  intro pins s σ H vs us Q I r h
  obtain ⟨v, vr, e1, h⟩ := h
  subst e1
  cases r with
  | cons r rr =>
    rw [hs]
    refine assignInOrder_cons (thn (h1 pins s σ H _ _ _ I r h) fun _ s1 hsl15 => ?_)
    obtain ⟨σ1, H1, I1, q1⟩ := hsl15
    exact h2 pins s1 σ1 H1 _ _ Q I1 rr q1
/-- (a, b, ..) = a tuple of that length -/
noncomputable def gTup (K : PySem.W.Frag) (n : Nat) (t : TGs) : TG := fun v σ H Q => ∃ a xs, v = .ref a ∧ SqT K H a xs ∧ xs.length = n ∧ t xs σ H Q
theorem pg_tup {es : List Expr} {k : Nat} {t : TGs} {n : Nat} (hc : X.calm = true) (h : PGs X es t)
    (hn : (assignEach es X.env).length = n := by rfl) (hst : (assignEach es X.env).findIdx? (·.1) = none := by rfl) : PG X (.Tuple es k pos) (gTup X.K n t) := by
  intro pins s σ H v u Q I r hw
  obtain ⟨a, xs, e1, hq, hl, hw⟩ := hw
  subst e1
  cases r
  obtain ⟨its, rv, ht, hz⟩ := I.tuple hq
  refine assign_Tuple_tuple (I.ok.hd hc) ht (by simp [hn, ← hl, rv.length]) hst fun h' hx => ?_
  have I1 : Inv X pins σ H { s with heap := h' } := I.kept (t' := s.toks) fun b o e => hx b o (Nat.ne_of_lt (Heap.lt_size e)) e
  exact h pins _ σ H xs _ Q I1 (by simpa using rv) hw
/-- o[i] = .. -/
noncomputable def gSub (to ti : TE) (t : TSet) : TG := fun v σ H Q => to σ H fun o H1 => ti σ H1 fun i H2 => t o i v H2 fun H3 => Q σ H3
theorem pg_sub {o i : Expr} {to ti : TE} {t : TSet} (ho : PE X o to) (hi : PE X i ti) (hs : PSet X t)
    (ha : ∀ v, assign (.Subscript o i pos) X.env v = (do
      let ov ← holding [v] (eval o X.env)
      let iv ← holding [v, ov] (eval i X.env)
      standAt pos
      holding [v, ov, iv] (setItem ov iv v)
      release [v, ov, iv] []) := by intro _; rfl) : PG X (.Subscript o i pos) (gSub to ti t) := by
  intro pins s σ H v u Q I r h
  rw [ha]
  refine wpAny_bind (wpAny_holding (thn (ho pins s σ H _ I h) fun ov s1 hsl16 => ?_))
  obtain ⟨x, H1, I1, r1, q1⟩ := hsl16
  refine wpAny_bind (wpAny_holding (thn (hi pins s1 σ H1 _ I1 q1) fun iv s2 hsl17 => ?_))
  obtain ⟨y, H2, I2, r2, q2⟩ := hsl17
  refine wpAny_bind (wpAny_standAt (wpAny_bind (wpAny_holding (thn (hs pins s2 σ H2 x y v ov iv u _ I2 r1 r2 r q2) fun _ s3 hsl18 => ?_))))
  obtain ⟨H3, I3, q3⟩ := hsl18
  exact wpAny_release ⟨σ, H3, I3, q3⟩
/-- target = value -/
noncomputable def tAsg (te : TE) (g : TG) : TS := fun D σ H => te σ H fun x H1 => g x σ H1 D.nx
theorem ps_asg {tg e : Expr} {te : TE} {g : TG} (he : PE X e te) (hg : PG X tg g) (hs : swapsWithSole [tg] e pos.line X.env = pure false := by rfl) (hw : swappedStores [tg] e X.env = pure none := by rfl)
    (h1 : (assignEach [tg] X.env).map (·.2) = [assign tg X.env] := by rfl) : PS X (.Assign [tg] e pos) (tAsg te g) := by
  intro pins s σ H D I h
  refine wpAny_Assign_stores (thn (he pins s σ H _ I h) fun v s1 hsl19 => ?_) hs hw
  obtain ⟨x, H1, I1, r1, q1⟩ := hsl19
  rw [h1]
  exact thn (hg pins s1 σ H1 x v _ I1 r1 q1) fun _ s2 q => q
/-- name = value -/
theorem ps_set {i : Nat} {x : Str} {e : Expr} {te : TE} {pos' : Pos} (hN : X.N.Nodup) (hi : X.N[i]? = some x) (hx : Loc X.env.scope x) (he : PE X e te) (hs : swapsWith e (some (.Name x pos')) pos.line X.env = pure false := by rfl) (hf : X.fn x = true ∨ X.env.scope.names.lookup x = some .local := by first | exact .inl rfl | exact .inr rfl | assumption) :
    PS X (.Assign [.Name x pos'] e pos) (tAsg te (gName i)) := by
  intro pins s σ H D I h
  refine wpAny_Assign_Name (thn (he pins s σ H _ I h) fun v s1 hsl20 => ?_) hs
  obtain ⟨y, H1, I1, r1, q1⟩ := hsl20
  exact store_ok I1 hN hi hx r1 (fun s2 I2 => ⟨_, H1, I2, q1⟩) hf
end

/-! ### while -/
section
variable {X : Cx} {pos : Pos}
/-- the invariant W with its measure -/
noncomputable def tWhile (c : TT) (tb : TS) : TS := fun D σ H => ∃ W : Nat → St → Hp → Prop, (∃ m, W m σ H) ∧ ∀ m σ H, W m σ H →
  c σ H fun b H1 => if b = true then ∃ N : St → Hp → Prop, (∀ σ' H', N σ' H' → ∃ m', m' < m ∧ W m' σ' H') ∧ tb { D with nx := N, ct := N, bk := D.nx } σ H1 else D.nx σ H1
theorem ps_while {c : Expr} {body : List Stmt} {tc : TT} {tb : TS} (hp : PassesOwn (model X.prog X.w) X.A X.env X.xe) (hc : PT X c tc) (hb : PSs X body tb) : PS X (.While c body [] pos) (tWhile tc tb) := by
  intro pins s σ H D I h
  obtain ⟨W, ⟨m0, w0⟩, turn⟩ := h
  refine wpAny_While (codeAny_whileLoop (fun n s' => ∃ σ' H', Inv X pins σ' H' s' ∧ W n σ' H') ?_ m0 ⟨σ, H, I, w0⟩)
  rintro n s1 ⟨σ1, H1, I1, w1⟩
  refine wpAny_passesOwn hp (thn (hc pins s1 σ1 H1 _ I1 (turn n σ1 H1 w1)) fun b s2 hsl21 => ?_)
  obtain ⟨H2, I2, q2⟩ := hsl21
  cases b with
  | true =>
    obtain ⟨N, hN, q2⟩ := q2
    rw [if_pos rfl]
    refine wpAny_passesOwn hp (thn (hb pins s2 σ1 H2 _ I2 q2) fun f s3 q3 => ?_)
    cases f with
    | next =>
      obtain ⟨σ3, H3, I3, n3⟩ := q3
      obtain ⟨m', hm, w3⟩ := hN σ3 H3 n3
      exact ⟨m', hm, σ3, H3, I3, w3⟩
    | cont =>
      obtain ⟨σ3, H3, I3, n3⟩ := q3
      obtain ⟨m', hm, w3⟩ := hN σ3 H3 n3
      exact ⟨m', hm, σ3, H3, I3, w3⟩
    | brk => exact q3
    | ret v => exact q3
  | false =>
    rw [if_neg Bool.false_ne_true]
    exact wpAny_execs_nil ⟨σ1, H2, I2, q2⟩
end

/-! ### what a loop or a comprehension walks -/
/-- at turn i: it yields x (the heap may grow), or it stops -/
structure It where
  go : Nat → Hp → Prop
  yld : Nat → Hp → V → Hp → Prop
  stop : Nat → Hp → Prop
/-- the iterator's own objects may turn: they are not the frame's, not pinned, younger than the entry (or a comprehension's own) -/
noncomputable def FpOk (X : Cx) (pins : List (Addr × Obj)) (H : Hp) (b : Addr) : Prop :=
  H b = none ∧ b ≠ X.env.locals ∧ b ∉ X.fs ∧ (b ∈ X.ex ∨ X.s₀.heap.objs.size ≤ b) ∧ (∀ x c, X.env.cells.lookup x = some c → c ≠ b) ∧ ∀ p ∈ X.pn ++ pins, p.1 ≠ b
theorem Inv.fpOk {X : Cx} {pins : List (Addr × Obj)} {σ : St} {H H' : Hp} {s : Shared} {b : Addr} (I : Inv X pins σ H s) (hb : s.heap.objs.size ≤ b) (hn : H' b = none) : FpOk X pins H' b := by
  refine ⟨hn, Nat.ne_of_gt (Nat.lt_of_lt_of_le I.lt hb), I.nofs hb, .inr (Nat.le_trans I.sz hb), fun x c e z => ?_, fun p hp z => ?_⟩
  · obtain ⟨v, q⟩ := I.cell x c e
    exact absurd (Nat.lt_of_lt_of_le q.lt (by rw [z]; exact hb)) (Nat.lt_irrefl _)
  · exact absurd (Nat.lt_of_lt_of_le (Heap.lt_size (I.pin p hp).1) (by rw [z]; exact hb)) (Nat.lt_irrefl _)
structure Turn (P : Program) (w : World) (K : PySem.W.Frag) (tg : Expr) (J : It) (fp : List Addr) (it : Addr) (tn : Nat → Heap → Prop) : Prop where
  mem : it ∈ fp
  obj : ∀ i h, tn i h → ∀ b ∈ fp, ∃ o, h.get? b = some o ∧ ∀ v, o.data ≠ .cell v
  keep : ∀ i h h', tn i h → (∀ b ∈ fp, ∀ o, h.get? b = some o → h'.get? b = some o) → tn i h'
  item : ∀ (X : Cx), X.prog = P → X.w = w → X.K = K → X.calm = true → ∀ (i : Nat) (pins : List (Addr × Obj)) (s : Shared) (σ : St) (H : Hp) (E : Value → Shared → Prop), Inv X pins σ H s → (∀ b ∈ fp, FpOk X pins H b) → tn i s.heap → J.go i H →
    wpAny (model P w) X.A (pyNext (.ref it)) (fun r s1 => ∃ u, r = some u ∧
      wpAny (model P w) X.A (letOwnedTupleGo tg (.ref it) u) (fun _ s2 => ∃ x H', Inv X pins σ H' s2 ∧ RelV x u ∧ J.yld i H x H' ∧ tn (i + 1) s2.heap ∧ ∀ b ∈ fp, H' b = none) E s1) E s
  done : ∀ (X : Cx), X.prog = P → X.w = w → X.K = K → X.calm = true → ∀ (i : Nat) (pins : List (Addr × Obj)) (s : Shared) (σ : St) (H : Hp) (E : Value → Shared → Prop), Inv X pins σ H s → (∀ b ∈ fp, FpOk X pins H b) → tn i s.heap → J.stop i H →
    wpAny (model P w) X.A (pyNext (.ref it)) (fun r s1 => r = none ∧ Inv X pins σ H s1) E s
  self : ∀ (A : Around) (i : Nat) (s : Shared) (Q : Value → Shared → Prop) (E : Value → Shared → Prop), tn i s.heap → Q (.ref it) s → wpAny (model P w) A (pyIter (.ref it)) Q E s
noncomputable abbrev TI := St → Hp → (It → Hp → Prop) → Prop
/-- an iterator has come -/
noncomputable def PIE (X : Cx) (pins : List (Addr × Obj)) (σ : St) (tg : Expr) (R : It → Hp → Prop) (itv : Value) (s2 : Shared) : Prop :=
  ∃ (it : Addr) (fp : List Addr) (tn : Nat → Heap → Prop) (J : It) (H' : Hp), itv = .ref it ∧ Inv X pins σ H' s2 ∧ Turn X.prog X.w X.K tg J fp it tn ∧ tn 0 s2.heap ∧ (∀ b ∈ fp, FpOk X pins H' b) ∧ R J H'
noncomputable def PI (X : Cx) (tg iter : Expr) (wi : TI) : Prop :=
  ∀ (pins : List (Addr × Obj)) (s : Shared) (σ : St) (H : Hp) (R : It → Hp → Prop), Inv X pins σ H s → wi σ H R →
    wpAny (model X.prog X.w) X.A (eval iter X.env) (fun v s1 => wpAny (model X.prog X.w) X.A (pyIter v) (PIE X pins σ tg R) X.xe s1) X.xe s

/-- the step ahead of the store is nothing for an iterator that keeps no tuple -/
theorem go_of {M : Model} {A : Around} {E : Value → Shared → Prop} {s : Shared} {tg : Expr} {it : Addr} {u : Value} {o : Obj} {n : String} {vs : Array Value} {Q : Unit → Shared → Prop} (ho : s.heap.get? it = some o) (hc : o.cls = .type n) (hd : o.data = .fields vs)
    (hn : ["enumerate", "zip", "dict_itemiterator", "dict_reverseitemiterator", "odict_iterator", "itertools.zip_longest", "itertools.pairwise"].contains n = false) (hQ : Q () s) : wpAny M A (letOwnedTupleGo tg (.ref it) u) Q E s := by
  unfold letOwnedTupleGo
  cases tg <;> first
    | exact wpAny_pure hQ
    | (cases u <;> first
        | exact wpAny_pure hQ
        | (refine wpAny_bind (wpAny_load ho ?_)
           rw [hc, hd]
           show wpAny M A (if (["enumerate", "zip", "dict_itemiterator", "dict_reverseitemiterator", "odict_iterator", "itertools.zip_longest", "itertools.pairwise"].contains n && vs[0]? == some (rawInt _)) = true then _ else _) Q E s
           rw [if_neg (by intro h; rw [hn, Bool.false_and] at h; cases h)]
           exact wpAny_pure hQ))

/-- the list at a, as it stands at each turn (a loop may append to it) -/
noncomputable def Itl (K : PySem.W.Frag) (a : Addr) : It :=
  ⟨fun i H => ∃ xs x, SqL K H a xs ∧ xs[i]? = some x, fun i H x H' => H' = H ∧ ∀ xs, SqL K H a xs → xs[i]? = some x, fun i H => ∃ xs, SqL K H a xs ∧ xs.length ≤ i⟩
/-- lo, lo + 1, .. (n of them) -/
noncomputable def Itr (lo : Int) (n : Nat) : It := ⟨fun i _ => i < n, fun i H x H' => H' = H ∧ x = .int (lo + i), fun i _ => n ≤ i⟩
theorem turn_list {P : Program} {w : World} {K : PySem.W.Frag} {tg : Expr} (a it : Addr) : Turn P w K tg (Itl K a) [it] it (fun i h => h.IsListIter it a i) where
  mem := by simp
  obj := fun i h st b hb => by
    have e : b = it := by simpa using hb
    subst e
    obtain ⟨o, e, c, d⟩ := st
    exact ⟨o, e, fun v z => by rw [d] at z; cases z⟩
  keep := fun i h h' st k => st.at fun o e => k it (by simp) o e
  item := by
    intro X hP hw hK hc i pins s σ H E I hf st hg
    subst hP hw hK
    obtain ⟨xs, x, hq, hx⟩ := hg
    obtain ⟨its, rv, p, hz⟩ := I.list hq
    obtain ⟨u, hu, ru⟩ := rv.get hx
    obtain ⟨f0, f1, f2, f3, f4, f5⟩ := hf it (by simp)
    refine wpAny_pyNext_list_item st p.isList (x := u) (by simpa using hu) fun h' st' sb => ?_
    have I1 : Inv X pins σ H { s with heap := h' } := I.turned (t' := s.toks) (fun b o hb e => (sb.2 b hb).trans e) f0 f1 f3 f4 f5
    obtain ⟨o, e, c, d⟩ := id st'
    exact ⟨u, rfl, go_of (s := { s with heap := h' }) e c d (by decide) ⟨x, H, I1, ru, ⟨rfl, fun ys hy => by rw [I.list_inj hy hq]; exact hx⟩, st', fun b hb => (hf b hb).1⟩⟩
  done := by
    intro X hP hw hK hc i pins s σ H E I hf st hg
    subst hP hw hK
    obtain ⟨xs, hq, hx⟩ := hg
    obtain ⟨its, rv, p, hz⟩ := I.list hq
    obtain ⟨f0, f1, f2, f3, f4, f5⟩ := hf it (by simp)
    have hl := rv.length
    exact wpAny_pyNext_list_end (I.ok.hd hc) st p.isList (by simp; (clear f5 f4 f3 f2 hz hf; omega)) fun h' eb => ⟨rfl, I.turned (t' := s.toks) (fun b o hb e => eb b o hb e) f0 f1 f3 f4 f5⟩
  self := fun _ _ _ _ _ st h => wpAny_pyIter_listiter st h
theorem turn_range {P : Program} {w : World} {K : PySem.W.Frag} {tg : Expr} (it : Addr) (lo : Int) (n : Nat) : Turn P w K tg (Itr lo n) [it] it (fun i h => IsRangeIter h it (lo + (i : Nat) * 1) ((n : Int) - (i : Nat)) 1) where
  mem := by simp
  obj := fun i h st b hb => by
    have e : b = it := by simpa using hb
    subst e
    exact ⟨_, st, fun v z => by
      have z' : Data.fields _ = Data.cell v := z
      cases z'⟩
  keep := fun i h h' st k => k it (by simp) _ st
  item := by
    intro X hP hw hK hc i pins s σ H E I hf st hg
    subst hP hw hK
    obtain ⟨f0, f1, f2, f3, f4, f5⟩ := hf it (by simp)
    have W := Walks.range (prog := X.prog) (w := X.w) (I.ok.hd hc) it lo 1 n
    refine W.item i s _ _ hg st fun v h' tk hv st' kk => ?_
    obtain ⟨t, rfl⟩ := hv
    have I1 : Inv X pins σ H { s with heap := h', toks := tk } := I.turned (fun b o hb e => kk b o (by simpa using hb) e) f0 f1 f3 f4 f5
    refine ⟨_, rfl, go_of (s := { s with heap := h', toks := tk }) (n := "range_iterator") st' rfl rfl (by decide) ⟨.int (lo + i), H, I1, ⟨t, ?_⟩, ⟨rfl, rfl⟩, st', fun b hb => (hf b hb).1⟩⟩
    rw [Int.mul_one]
  done := by
    intro X hP hw hK hc i pins s σ H E I hf st hg
    subst hP hw hK
    obtain ⟨f0, f1, f2, f3, f4, f5⟩ := hf it (by simp)
    exact wpAny_pyNext_range_end (I.ok.hd hc) st (by have : n ≤ i := hg; (first | (exact Nat.le_trans (by assumption) (by decide)) | omega)) fun h' eb => ⟨rfl, I.turned (t' := s.toks) (fun b o hb e => eb b o hb e) f0 f1 f3 f4 f5⟩
  self := fun _ _ _ _ _ st h => wpAny_pyIter_rangeiter st h
end L2

namespace L2
open PySem PySem.Spec PyProof.Rows
section
variable {X : Cx} {tg : Expr}
noncomputable def iList (K : PySem.W.Frag) (tl : TE) : TI := fun σ H R => tl σ H fun x H1 => ∃ a, x = .ref a ∧ (∃ xs, SqL K H1 a xs) ∧ R (Itl K a) H1
theorem pi_list {l : Expr} {tl : TE} (hl : PE X l tl) : PI X tg l (iList X.K tl) := by
  intro pins s σ H R I h
  refine thn (hl pins s σ H _ I h) fun v s1 hsl22 => ?_
  obtain ⟨x, H1, I1, r1, q1⟩ := hsl22
  obtain ⟨a, e, ⟨xs, hq⟩, q⟩ := q1
  subst e
  cases r1
  obtain ⟨its, rv, p, hz⟩ := I1.list hq
  refine wpAny_pyIter_list p.isList ?_
  refine ⟨s1.heap.objs.size, [s1.heap.objs.size], _, _, H1, rfl, I1.kept (t' := s1.toks) fun b o e => Heap.get?_push_of_some _ e, turn_list a _, ⟨_, Heap.get?_push_size _ rfl, rfl, rfl⟩, fun b hb => ?_, q⟩
  have e : b = s1.heap.objs.size := by simpa using hb
  subst e
  exact I1.fpOk (Nat.le_refl _) (I1.hok.fresh (Nat.le_refl _))
/-- a range object just made, walked -/
theorem range_it {pins : List (Addr × Obj)} {σ : St} {H : Hp} {s : Shared} {R : It → Hp → Prop} {E : Value → Shared → Prop} {lo hi : Int} {t u v : Tok} {tk : Nat} (I : Inv X pins σ H s) (h1 : -(2 ^ 62) ≤ lo) (h2 : lo < 2 ^ 62) (h3 : -(2 ^ 62) ≤ hi) (h4 : hi < 2 ^ 62)
    (q : R (Itr lo (hi - lo).toNat) H) : wpAny (model X.prog X.w) X.A (pyIter (.ref s.heap.objs.size)) (PIE X pins σ tg R) E { s with heap := s.heap.push { cls := .type "range", data := .fields #[.int lo t, .int hi u, .int 1 v] }, toks := tk } := by
  refine wpAny_pyIter_range (IsRange.new ..) (small_one h1 h2 h3 h4) ?_
  have I1 : Inv X pins σ H { s with heap := s.heap.push { cls := .type "range", data := .fields #[.int lo t, .int hi u, .int 1 v] }, toks := tk } := I.kept fun b o e => Heap.get?_push_of_some _ e
  refine ⟨(s.heap.push { cls := .type "range", data := .fields #[.int lo t, .int hi u, .int 1 v] }).objs.size, [(s.heap.push { cls := .type "range", data := .fields #[.int lo t, .int hi u, .int 1 v] }).objs.size], _, _, H, rfl,
    I1.kept (t' := tk) fun b o e => Heap.get?_push_of_some _ e, turn_range _ lo (hi - lo).toNat, ?_, fun b hb => ?_, q⟩
  · have e1 : lo + ((0 : Nat) : Int) * 1 = lo := by simp
    have e2 : (((hi - lo).toNat : Nat) : Int) - ((0 : Nat) : Int) = Builtin.Range.rangeSize lo hi 1 := by rw [rangeSize_one]; split <;> omega
    show IsRangeIter _ _ (lo + ((0 : Nat) : Int) * 1) ((((hi - lo).toNat : Nat) : Int) - ((0 : Nat) : Int)) 1
    rw [e1, e2]
    exact Heap.get?_push_size _ rfl
  · have e : b = (s.heap.push { cls := .type "range", data := .fields #[.int lo t, .int hi u, .int 1 v] }).objs.size := by simpa using hb
    subst e
    exact I1.fpOk (Nat.le_refl _) (I1.hok.fresh (Nat.le_refl _))
noncomputable def iRng1 (ta : TA) : TI := fun σ H R => ta σ H fun vs H1 => ∃ j : Int, vs = [.int j] ∧ -(2 ^ 62) ≤ j ∧ j < 2 ^ 62 ∧ R (Itr 0 j.toNat) H1
theorem pi_range1 {a : Expr} {ta : TA} {p pos : Pos} (hg : Gl X "range") (hm : X.mg "range" = none) (ha : PA X [a] ta) (hs : starEach [a] X.env = [(false, eval a X.env)] := by rfl) : PI X tg (.Call (.Name "range" p) [a] [] pos) (iRng1 ta) := by
  intro pins s σ H R I h
  refine Call_ (ld_blt I hg hm boot_range (PyProof.Rows.callWith_type1 (thn (ha pos pins s σ H _ I h) fun us s1 hsl23 => ?_) hs rfl))
  obtain ⟨vs, H1, I1, r1, q1⟩ := hsl23
  obtain ⟨j, e, q1, q2, q⟩ := q1
  subst e
  cases r1 with
  | cons r rr =>
    cases rr
    obtain ⟨t, rfl⟩ := r
    exact call_range_1 (range_it I1 (by (exact Int.natCast_nonneg _)) (by (exact Int.natCast_nonneg _)) q1 q2 (by simpa using q))
/-! ### for -/
/-- W: the invariant by the turn and a measure; N: what the body is to reach -/
noncomputable def tFor (wi : TI) (g : TG) (tb : TS) : TS := fun D σ H => wi σ H fun J H1 => ∃ W : Nat → Nat → St → Hp → Prop, (∃ m, W 0 m σ H1) ∧ ∀ i m σ H, W i m σ H →
  (J.stop i H ∧ D.nx σ H) ∨ (J.go i H ∧ ∃ N : St → Hp → Prop, (∀ σ' H', N σ' H' → ∃ m', m' < m ∧ W (i + 1) m' σ' H') ∧ ∀ x H', J.yld i H x H' → g x σ H' fun σ2 H2 => tb { D with nx := N, ct := N, bk := D.nx } σ2 H2)
/-- the records at fp as they stand -/
noncomputable def pinsAt (fp : List Addr) (h : Heap) : List (Addr × Obj) := fp.filterMap fun b => (h.get? b).map fun o => (b, o)
theorem mem_pinsAt {fp : List Addr} {h : Heap} {b : Addr} {o : Obj} (hb : b ∈ fp) (e : h.get? b = some o) : (b, o) ∈ pinsAt fp h := List.mem_filterMap.mpr ⟨b, hb, by rw [e]; rfl⟩
theorem of_pinsAt {fp : List Addr} {h : Heap} {p : Addr × Obj} (hp : p ∈ pinsAt fp h) : p.1 ∈ fp ∧ h.get? p.1 = some p.2 := by
  obtain ⟨b, hb, e⟩ := List.mem_filterMap.mp hp
  cases q : h.get? b with
  | none => rw [q] at e; cases e
  | some o =>
    rw [q] at e
    have e' : (b, o) = p := Option.some.inj e
    subst e'
    exact ⟨hb, q⟩
theorem Inv.pinned {pins : List (Addr × Obj)} {σ : St} {H : Hp} {s : Shared} {fp : List Addr} (I : Inv X pins σ H s) (hf : ∀ b ∈ fp, FpOk X pins H b) (ho : ∀ b ∈ fp, ∃ o, s.heap.get? b = some o ∧ ∀ v, o.data ≠ .cell v) : Inv X (pins ++ pinsAt fp s.heap) σ H s :=
  I.pins_of fun p hp => (List.mem_append.mp hp).elim (fun z => I.pin p (List.mem_append_right _ z)) fun z => by
    obtain ⟨hb, e⟩ := of_pinsAt z
    obtain ⟨f0, f1, f2, _⟩ := hf p.1 hb
    obtain ⟨o, e', d⟩ := ho p.1 hb
    rw [e] at e'; cases e'
    exact ⟨e, f0, f1, f2, d⟩
theorem Inv.unpinned {pins pl : List (Addr × Obj)} {σ : St} {H : Hp} {s : Shared} (I : Inv X (pins ++ pl) σ H s) : Inv X pins σ H s := I.pins_of fun p hp => I.pin p (List.mem_append_right _ (List.mem_append_left _ hp))
theorem ps_for {iter : Expr} {body : List Stmt} {wi : TI} {g : TG} {tb : TS} {pos : Pos} (hp : PassesOwn (model X.prog X.w) X.A X.env X.xe) (hc : X.calm = true) (hi : PI X tg iter wi) (hg : PG X tg g) (hb : PSs X body tb)
    (hs : ∀ x, foldedSetIterable iter X.env x = pure x := by intro _; rfl) : PS X (.For tg iter body [] pos) (tFor wi g tb) := by
  intro pins s σ H D I h
  refine wpAny_For (thn (hi pins s σ H _ I h) fun v s1 h1 => thn h1 fun itv s2 h2 => ?_) hs
  obtain ⟨it, fp, tn, J, H2, e, I2, T, st2, f2, W, ⟨m0, w0⟩, turn⟩ := h2
  subst e
  -- what stays true of the iterator's objects through the loop
  have stat : ∀ {H' : Hp}, (∀ b ∈ fp, H' b = none) → ∀ b ∈ fp, FpOk X pins H' b := fun hn b hb => ⟨hn b hb, (f2 b hb).2⟩
  refine codeAny_forLoop_any (fun n s' => ∃ i σ' H', Inv X pins σ' H' s' ∧ tn i s'.heap ∧ (∀ b ∈ fp, H' b = none) ∧ W i n σ' H') ?_ m0 ⟨0, σ, H2, I2, st2, fun b hb => (f2 b hb).1, w0⟩
  rintro n s3 ⟨i, σ3, H3, I3, st3, fr3, w3⟩
  rcases turn i n σ3 H3 w3 with ⟨stop, qn⟩ | ⟨go, N, hN, step⟩
  · refine wpAny_passesOwn hp (thn (T.done X rfl rfl rfl hc i pins s3 σ3 H3 X.xe I3 (stat fr3) st3 stop) fun r s4 hsl24 => ?_)
    obtain ⟨hr, I4⟩ := hsl24
    subst hr
    exact wpAny_execs_nil ⟨σ3, H3, I4, qn⟩
  · refine wpAny_passesOwn hp (thn (T.item X rfl rfl rfl hc i pins s3 σ3 H3 X.xe I3 (stat fr3) st3 go) fun r s4 hsl25 => ?_)
    obtain ⟨u, hr, h4⟩ := hsl25
    subst hr
    refine wpAny_passesOwn hp (thn h4 fun _ s5 hsl26 => ?_)
    obtain ⟨x, H5, I5, r5, y5, st5, fr5⟩ := hsl26
    have I5' := I5.pinned (stat fr5) (T.obj _ _ st5)
    refine wpAny_passesOwn hp (thn (hg _ s5 σ3 H5 x u _ I5' r5 (step x H5 y5)) fun _ s6 hsl27 => ?_)
    obtain ⟨σ6, H6, I6, q6⟩ := hsl27
    refine wpAny_passesOwn hp (thn (hb _ s6 σ6 H6 _ I6 q6) fun f s7 q7 => ?_)
    have again : ∀ {σ7 : St} {H7 : Hp}, Inv X (pins ++ pinsAt fp s5.heap) σ7 H7 s7 → N σ7 H7 → ∃ m, m < n ∧ ∃ i σ' H', Inv X pins σ' H' s7 ∧ tn i s7.heap ∧ (∀ b ∈ fp, H' b = none) ∧ W i m σ' H' := fun {σ7 H7} I7 n7 => by
      obtain ⟨m', hm, w7⟩ := hN σ7 H7 n7
      refine ⟨m', hm, i + 1, σ7, H7, I7.unpinned, T.keep _ _ _ st5 fun b hb o e => (I7.pin (b, o) (List.mem_append_right _ (List.mem_append_right _ (mem_pinsAt hb e)))).1, fun b hb => ?_, w7⟩
      obtain ⟨o, e, d⟩ := T.obj _ _ st5 b hb
      exact (I7.pin (b, o) (List.mem_append_right _ (List.mem_append_right _ (mem_pinsAt hb e)))).2.1
    cases f with
    | next => obtain ⟨σ7, H7, I7, n7⟩ := q7; exact again I7 n7
    | cont => obtain ⟨σ7, H7, I7, n7⟩ := q7; exact again I7 n7
    | brk => obtain ⟨σ7, H7, I7, q7⟩ := q7; exact ⟨σ7, H7, I7.unpinned, q7⟩
    | ret v => obtain ⟨x7, σ7, H7, I7, r7, q7⟩ := q7; exact ⟨x7, σ7, H7, I7.unpinned, r7, q7⟩
end

/-! ### the forms one uses -/
/-- over a list that the body leaves as it is -/
theorem for_list {K : PySem.W.Frag} {a : Addr} {xs : List V} {g : TG} {tb : TS} {D : Ends} {σ : St} {H : Hp} (Pv : Nat → St → Hp → Prop) (h0 : Pv 0 σ H) (hl : ∀ i σ H, i ≤ xs.length → Pv i σ H → SqL K H a xs)
    (hs : ∀ i x σ H, xs[i]? = some x → Pv i σ H → g x σ H fun σ2 H2 => tb { D with nx := Pv (i + 1), ct := Pv (i + 1), bk := D.nx } σ2 H2) (hd : ∀ σ H, Pv xs.length σ H → D.nx σ H) :
    ∃ W : Nat → Nat → St → Hp → Prop, (∃ m, W 0 m σ H) ∧ ∀ i m σ H, W i m σ H →
      ((Itl K a).stop i H ∧ D.nx σ H) ∨ ((Itl K a).go i H ∧ ∃ N : St → Hp → Prop, (∀ σ' H', N σ' H' → ∃ m', m' < m ∧ W (i + 1) m' σ' H') ∧ ∀ x H', (Itl K a).yld i H x H' → g x σ H' fun σ2 H2 => tb { D with nx := N, ct := N, bk := D.nx } σ2 H2) := by
  refine ⟨fun i m σ H => m = xs.length - i ∧ i ≤ xs.length ∧ Pv i σ H, ⟨xs.length, by simp, Nat.zero_le _, h0⟩, ?_⟩
  rintro i m σ H ⟨rfl, hi, p⟩
  have q := hl i σ H hi p
  by_cases hlt : i < xs.length
  · refine .inr ⟨⟨xs, xs[i], q, by simp [hlt]⟩, Pv (i + 1), fun σ' H' p' => ⟨xs.length - (i + 1), by (exact Nat.sub_lt_sub_left (by assumption) (Nat.lt_succ_self _)), rfl, hlt, p'⟩, fun x H' y => ?_⟩
    obtain ⟨e, y⟩ := y
    subst e
    exact hs i x σ _ (y xs q) p
  · have e : i = xs.length := by omega
    subst e
    exact .inl ⟨⟨xs, q, Nat.le_refl _⟩, hd σ H p⟩
theorem for_range {lo : Int} {n : Nat} {g : TG} {tb : TS} {D : Ends} {σ : St} {H : Hp} (Pv : Nat → St → Hp → Prop) (h0 : Pv 0 σ H)
    (hs : ∀ i σ H, i < n → Pv i σ H → g (.int (lo + i)) σ H fun σ2 H2 => tb { D with nx := Pv (i + 1), ct := Pv (i + 1), bk := D.nx } σ2 H2) (hd : ∀ σ H, Pv n σ H → D.nx σ H) :
    ∃ W : Nat → Nat → St → Hp → Prop, (∃ m, W 0 m σ H) ∧ ∀ i m σ H, W i m σ H →
      ((Itr lo n).stop i H ∧ D.nx σ H) ∨ ((Itr lo n).go i H ∧ ∃ N : St → Hp → Prop, (∀ σ' H', N σ' H' → ∃ m', m' < m ∧ W (i + 1) m' σ' H') ∧ ∀ x H', (Itr lo n).yld i H x H' → g x σ H' fun σ2 H2 => tb { D with nx := N, ct := N, bk := D.nx } σ2 H2) := by
  refine ⟨fun i m σ H => m = n - i ∧ i ≤ n ∧ Pv i σ H, ⟨n, by simp, Nat.zero_le _, h0⟩, ?_⟩
  rintro i m σ H ⟨rfl, hi, p⟩
  by_cases hlt : i < n
  · refine .inr ⟨hlt, Pv (i + 1), fun σ' H' p' => ⟨n - (i + 1), by (exact Nat.sub_lt_sub_left (by assumption) (Nat.lt_succ_self _)), rfl, hlt, p'⟩, fun x H' y => ?_⟩
    obtain ⟨e, y⟩ := y
    subst e y
    exact hs i σ _ hlt p
  · have e : i = n := by omega
    subst e
    exact .inl ⟨Nat.le_refl _, hd σ H p⟩
/-- while, by a word and a measure of the state -/
theorem while_by {c : TT} {tb : TS} {D : Ends} {σ : St} {H : Hp} (Pv : St → Hp → Prop) (μ : St → Hp → Nat) (h0 : Pv σ H)
    (hs : ∀ σ H, Pv σ H → c σ H fun b H1 => if b = true then tb { D with nx := fun σ' H' => Pv σ' H' ∧ μ σ' H' < μ σ H, ct := fun σ' H' => Pv σ' H' ∧ μ σ' H' < μ σ H, bk := D.nx } σ H1 else D.nx σ H1)
    (mono : ∀ σ H Q Q', (∀ b H1, Q b H1 → Q' b H1) → c σ H Q → c σ H Q') : tWhile c tb D σ H := by
  refine ⟨fun m σ H => m = μ σ H ∧ Pv σ H, ⟨_, rfl, h0⟩, ?_⟩
  rintro m σ H ⟨rfl, p⟩
  refine mono σ H _ _ (fun b H1 q => ?_) (hs σ H p)
  cases b with
  | true => exact ⟨_, fun σ' H' ⟨p', l⟩ => ⟨_, l, rfl, p'⟩, q⟩
  | false => exact q
end L2

namespace L2
open PySem PySem.Spec PyProof.Rows

noncomputable abbrev R2 := V → V → Hp → VK → Prop
/-- a two-place operation on values: f is binaryOp op, inplaceOp op or compareOp op -/
noncomputable def OpR (X : Cx) (f : Value → Value → Sem Value) (r : R2) : Prop :=
  ∀ (pins : List (Addr × Obj)) (s : Shared) (σ : St) (H : Hp) (x y : V) (v u : Value) (Q : VK), Inv X pins σ H s → RelV x v → RelV y u → r x y H Q →
    wpAny (model X.prog X.w) X.A (f v u) (EP X pins σ Q) X.xe s
/-- a one-place operation -/
noncomputable def UnR (X : Cx) (f : Value → Sem Value) (r : V → Hp → VK → Prop) : Prop :=
  ∀ (pins : List (Addr × Obj)) (s : Shared) (σ : St) (H : Hp) (x : V) (v : Value) (Q : VK), Inv X pins σ H s → RelV x v → r x H Q →
    wpAny (model X.prog X.w) X.A (f v) (EP X pins σ Q) X.xe s
/-- a call of a value that is known (a builtin, a type) with values -/
noncomputable def CallR (X : Cx) (f : Value) (r : List V → Hp → VK → Prop) : Prop :=
  ∀ (pins : List (Addr × Obj)) (s : Shared) (σ : St) (H : Hp) (xs : List V) (us : List Value) (Q : VK), Inv X pins σ H s → Vals xs us → r xs H Q →
    wpAny (model X.prog X.w) X.A (call f us) (EP X pins σ Q) X.xe s
noncomputable def tOp (r : R2) (ta tb : TE) : TE := fun σ H Q => ta σ H fun x H1 => tb σ H1 fun y H2 => r x y H2 Q
noncomputable def tUn (r : V → Hp → VK → Prop) (ta : TE) : TE := fun σ H Q => ta σ H fun x H1 => r x H1 Q
/-- ints in, under C, and a value out -/
noncomputable def rI (C : Int → Int → Prop) (g : Int → Int → V) : R2 := fun x y H Q => ∃ i j, x = .int i ∧ y = .int j ∧ C i j ∧ Q (g i j) H
noncomputable def rI0 (g : Int → Int → V) : R2 := fun x y H Q => ∃ i j, x = .int i ∧ y = .int j ∧ Q (g i j) H
noncomputable def rU (g : Int → V) : V → Hp → VK → Prop := fun x H Q => ∃ i, x = .int i ∧ Q (g i) H

section
variable {X : Cx} {a b c : Expr} {ta tb tc : TE} {pos : Pos}

theorem binT (ha : PE X a ta) (hb : PE X b tb) {pins : List (Addr × Obj)} {s : Shared} {σ : St} {H : Hp} {R : V → V → Hp → Prop} (I : Inv X pins σ H s)
    (h : ta σ H fun x H1 => tb σ H1 fun y H2 => R x y H2) {Q : Value → Shared → Prop} {f : Value → Value → Sem Value}
    (hf : ∀ v u s2 x y H2, Inv X pins σ H2 s2 → RelV x v → RelV y u → R x y H2 → wpAny (model X.prog X.w) X.A (f v u) Q X.xe s2) :
    wpAny (model X.prog X.w) X.A (eval a X.env) (fun v s₁ => wpAny (model X.prog X.w) X.A (eval b X.env) (fun u s₂ => wpAny (model X.prog X.w) X.A (f v u) Q X.xe s₂) X.xe s₁) X.xe s := by
  refine thn (ha pins s σ H _ I h) fun v s1 hsl28 => ?_
  obtain ⟨x, H1, I1, r1, q1⟩ := hsl28
  refine thn (hb pins s1 σ H1 _ I1 q1) fun u s2 hsl29 => ?_
  obtain ⟨y, H2, I2, r2, q2⟩ := hsl29
  exact hf v u s2 x y H2 I2 r1 r2 q2

theorem pe_op {op : Operator} {r : R2} (ho : OpR X (binaryOp op) r) (ha : PE X a ta) (hb : PE X b tb) : PE X (.BinOp a op b pos) (tOp r ta tb) := by
  intro pins s σ H Q I h
  exact wpAny_BinOp (binT ha hb I h fun v u s2 x y H2 I2 rx ry q => ho pins s2 σ H2 x y v u Q I2 rx ry q)
theorem pe_un {op : UnaryOp} {r : V → Hp → VK → Prop} (ho : UnR X (unaryOp op) r) (ha : PE X a ta) : PE X (.UnaryOp op a pos) (tUn r ta) := by
  intro pins s σ H Q I h
  exact UnaryOp_ (thn (ha pins s σ H _ I h) fun v s1 hsl30 => by obtain ⟨x, H1, I1, r1, q1⟩ := hsl30; exact ho pins s1 σ H1 x v Q I1 r1 q1)
/-! ### ints -/
theorem opI {f : Value → Value → Sem Value} {C : Int → Int → Prop} {g : Int → Int → Int}
    (rule : ∀ (i j : Int) (t u : Tok) (s : Shared) (Q : Value → Shared → Prop) (E : Value → Shared → Prop), C i j → Q (.int (g i j) s.toks) { s with toks := s.toks + 1 } → wpAny (model X.prog X.w) X.A (f (.int i t) (.int j u)) Q E s) :
    OpR X f (rI C fun i j => .int (g i j)) := by
  intro pins s σ H x y v u Q I rx ry h
  obtain ⟨i, j, rfl, rfl, hc, q⟩ := h
  obtain ⟨t, rfl⟩ := rx
  obtain ⟨t', rfl⟩ := ry
  exact rule i j t t' s _ _ hc ⟨.int (g i j), H, I.tok _, ⟨_, rfl⟩, q⟩
theorem opI0 {f : Value → Value → Sem Value} {g : Int → Int → Int}
    (rule : ∀ (i j : Int) (t u : Tok) (s : Shared) (Q : Value → Shared → Prop) (E : Value → Shared → Prop), Q (.int (g i j) s.toks) { s with toks := s.toks + 1 } → wpAny (model X.prog X.w) X.A (f (.int i t) (.int j u)) Q E s) :
    OpR X f (rI0 fun i j => .int (g i j)) := by
  intro pins s σ H x y v u Q I rx ry h
  obtain ⟨i, j, rfl, rfl, q⟩ := h
  obtain ⟨t, rfl⟩ := rx
  obtain ⟨t', rfl⟩ := ry
  exact rule i j t t' s _ _ ⟨.int (g i j), H, I.tok _, ⟨_, rfl⟩, q⟩
theorem opB0 {f : Value → Value → Sem Value} {g : Int → Int → Bool}
    (rule : ∀ (i j : Int) (t u : Tok) (s : Shared) (Q : Value → Shared → Prop) (E : Value → Shared → Prop), Q (.bool (g i j)) s → wpAny (model X.prog X.w) X.A (f (.int i t) (.int j u)) Q E s) :
    OpR X f (rI0 fun i j => .bl (g i j)) := by
  intro pins s σ H x y v u Q I rx ry h
  obtain ⟨i, j, rfl, rfl, q⟩ := h
  obtain ⟨t, rfl⟩ := rx
  obtain ⟨t', rfl⟩ := ry
  exact rule i j t t' s _ _ ⟨.bl (g i j), H, I, rfl, q⟩

noncomputable def CDiv (i j : Int) : Prop := 0 < j ∧ j < 1073741824
noncomputable def CPow (i j : Int) : Prop := 0 ≤ j ∧ j ≤ 1000000 ∧ i.natAbs < 2 ^ 64
noncomputable def CMul (i j : Int) : Prop := (-(2 ^ 64) < i ∧ i < 2 ^ 64) ∨ (-(2 ^ 64) < j ∧ j < 2 ^ 64)
theorem CMul.ok {i j : Int} (h : CMul i j) : IntMulOk i j := by
  rcases h with ⟨h1, h2⟩ | ⟨h1, h2⟩
  · exact .of_left (intBits_le_64 h1 h2)
  · exact .of_right (intBits_le_64 h1 h2)
theorem two_pow_nn (k : Nat) : (0 : Int) ≤ 2 ^ k := by
  rw [two_pow_cast]
  exact Int.natCast_nonneg _

theorem op_add : OpR X (binaryOp .Add) (rI0 fun i j => .int (i + j)) := opI0 fun _ _ _ _ _ _ _ q => add_int q
theorem op_sub : OpR X (binaryOp .Sub) (rI0 fun i j => .int (i - j)) := opI0 fun _ _ _ _ _ _ _ q => sub_int q
theorem op_mul : OpR X (binaryOp .Mult) (rI CMul fun i j => .int (i * j)) := opI fun _ _ _ _ _ _ _ hc q => mul_int q hc.ok
/-- // by a positive divisor -/
theorem op_fdiv : OpR X (binaryOp .FloorDiv) (rI CDiv fun i j => .int (i / j)) := opI fun i j _ _ _ _ _ hc q => by
  have h1 : (0 : Int) < j := hc.1
  have h2 : j < 1073741824 := hc.2
  exact floordiv_int (by (clear h2; omega)) (by rw [Int.fdiv_eq_ediv_of_nonneg i (by (exact Int.le_of_lt (by assumption)))]; exact q) (.inl (PyProof.noPylong_small (by (first | (assumption) | (exact Nat.lt_of_lt_of_le (by assumption) (by assumption)) | omega))))
/-- % by a positive divisor of any size -/
theorem op_mod : OpR X (binaryOp .Mod) (rI (fun _ j => 0 < j) fun i j => .int (i % j)) := opI fun i j _ _ _ _ _ hc q => by
  have h1 : (0 : Int) < j := hc
  exact mod_int' (by omega) (by rw [Int.fmod_eq_emod_of_nonneg i (by (exact Int.le_of_lt (by assumption)))]; exact q)
theorem op_pow : OpR X (binaryOp .Pow) (rI CPow fun i j => .int (i ^ j.toNat)) := opI fun _ _ _ _ _ _ _ hc q => pow_int_small hc.1 hc.2.1 hc.2.2 q
theorem op_shr : OpR X (binaryOp .RShift) (rI (fun _ j => 0 ≤ j) fun i j => .int (i / 2 ^ j.toNat)) := opI fun i j _ _ _ _ _ hc q =>
  rshift_int hc (by rw [Int.fdiv_eq_ediv_of_nonneg i (two_pow_nn _)]; exact q)
theorem op_and : OpR X (binaryOp .BitAnd) (rI0 fun i j => .int (Builtin.bitAnd i j)) := opI0 fun _ _ _ _ _ _ _ q => and_int q
theorem op_or : OpR X (binaryOp .BitOr) (rI0 fun i j => .int (Builtin.bitOr i j)) := opI0 fun _ _ _ _ _ _ _ q => or_int q
theorem op_xor : OpR X (binaryOp .BitXor) (rI0 fun i j => .int (Builtin.bitXor i j)) := opI0 fun _ _ _ _ _ _ _ q => xor_int q

theorem unI {f : Value → Sem Value} {g : Int → Int}
    (rule : ∀ (i : Int) (t : Tok) (s : Shared) (Q : Value → Shared → Prop) (E : Value → Shared → Prop), Q (.int (g i) s.toks) { s with toks := s.toks + 1 } → wpAny (model X.prog X.w) X.A (f (.int i t)) Q E s) :
    UnR X f (rU fun i => .int (g i)) := by
  intro pins s σ H x v Q I rx h
  obtain ⟨i, rfl, q⟩ := h
  obtain ⟨t, rfl⟩ := rx
  exact rule i t s _ _ ⟨.int (g i), H, I.tok _, ⟨_, rfl⟩, q⟩
theorem un_neg : UnR X (unaryOp .USub) (rU fun i => .int (-i)) := unI fun _ _ _ _ _ q => neg_int q
/-! ### bools among ints: n += (a < b) -/
end

/-! ### comparisons -/
/-- the scalars that == tells apart as data does -/
noncomputable def scal : V → V → Bool
  | .non, .non => true | .non, .int _ => true | .int _, .non => true | .non, .bl _ => true | .bl _, .non => true | .non, .str _ => true | .str _, .non => true
  | .int _, .int _ => true | .bl _, .bl _ => true | .str _, .str _ => true | .byt _, .byt _ => true
  | .int _, .str _ => true | .str _, .int _ => true | .bl _, .str _ => true | .str _, .bl _ => true
  | _, _ => false
noncomputable def rEq : R2 := fun x y H Q => scal x y = true ∧ Q (.bl (decide (x = y))) H
noncomputable def rNe : R2 := fun x y H Q => scal x y = true ∧ Q (.bl (!decide (x = y))) H

theorem dec_int {i j : Int} : decide (V.int i = V.int j) = (i == j) := by
  rw [Bool.eq_iff_iff]
  simp
theorem dec_bl {i j : Bool} : decide (V.bl i = V.bl j) = (i == j) := by
  rw [Bool.eq_iff_iff]
  simp
theorem dec_str {i j : Str} : decide (V.str i = V.str j) = (i == j) := by
  rw [Bool.eq_iff_iff]
  simp
theorem dec_byt {i j : Array UInt8} : decide (V.byt i = V.byt j) = (i.toList == j.toList) := by
  rw [Bool.eq_iff_iff]
  cases i
  cases j
  simp

section
variable {X : Cx} {a b c : Expr} {ta tb tc : TE} {pos : Pos}
theorem fin_bl {pins : List (Addr × Obj)} {σ : St} {H : Hp} {s : Shared} {Q : VK} {k k' : Bool} (I : Inv X pins σ H s) (q : Q (.bl k) H) (e : k = k') : EP X pins σ Q (.bool k') s := by
  subst e
  exact ⟨.bl k, H, I, rfl, q⟩
theorem op_eq : OpR X (compareOp .Eq) rEq := by
  intro pins s σ H x y v u Q I rx ry h
  obtain ⟨hs, q⟩ := h
  cases x with
  | non =>
    cases rx
    cases y with
    | non => cases ry; exact PySem.EqNone.eq_none_none (fin_bl I q (by simp))
    | bl j => cases ry; exact PySem.EqNone.eq_none_bool (fin_bl I q (by simp))
    | int j => obtain ⟨t', rfl⟩ := ry; exact PySem.EqNone.eq_none_int (fin_bl I q (by simp))
    | str j => obtain ⟨t', rfl⟩ := ry; exact PySem.EqNone.eq_none_str (fin_bl I q (by simp))
    | _ => exact absurd (show false = true from hs) Bool.false_ne_true
  | bl i =>
    cases rx
    cases y with
    | non => cases ry; exact PySem.EqNone.eq_bool_none (fin_bl I q (by simp))
    | bl j => cases ry; exact eq_bool (fin_bl I q dec_bl)
    | str j => obtain ⟨t', rfl⟩ := ry; exact PySem.EqMixed.eq_bool_str (fin_bl I q (by simp))
    | _ => exact absurd (show false = true from hs) Bool.false_ne_true
  | int i =>
    obtain ⟨t, rfl⟩ := rx
    cases y with
    | non => cases ry; exact PySem.EqNone.eq_int_none (fin_bl I q (by simp))
    | int j => obtain ⟨t', rfl⟩ := ry; exact eq_int (fin_bl I q dec_int)
    | str j => obtain ⟨t', rfl⟩ := ry; exact PySem.EqMixed.eq_int_str (fin_bl I q (by simp))
    | _ => exact absurd (show false = true from hs) Bool.false_ne_true
  | str i =>
    obtain ⟨t, rfl⟩ := rx
    cases y with
    | non => cases ry; exact PySem.EqNone.eq_str_none (fin_bl I q (by simp))
    | bl j => cases ry; exact PySem.EqMixed.eq_str_bool (fin_bl I q (by simp))
    | int j => obtain ⟨t', rfl⟩ := ry; exact PySem.EqMixed.eq_str_int (fin_bl I q (by simp))
    | str j => obtain ⟨t', rfl⟩ := ry; exact eq_str (fin_bl I q dec_str)
    | _ => exact absurd (show false = true from hs) Bool.false_ne_true
  | byt i =>
    obtain ⟨t, rfl⟩ := rx
    cases y with
    | byt j => obtain ⟨t', rfl⟩ := ry; exact PySem.W.eq_bytes (fin_bl I q dec_byt)
    | _ => exact absurd (show false = true from hs) Bool.false_ne_true
  | _ => cases y <;> exact absurd (show false = true from hs) Bool.false_ne_true
theorem op_ne : OpR X (compareOp .NotEq) rNe := by
  intro pins s σ H x y v u Q I rx ry h
  obtain ⟨hs, q⟩ := h
  cases x with
  | non =>
    cases rx
    cases y with
    | non => cases ry; exact PySem.EqNone.ne_none_none (fin_bl I q (by simp))
    | bl j => cases ry; exact PySem.EqNone.ne_none_bool (fin_bl I q (by simp))
    | int j => obtain ⟨t', rfl⟩ := ry; exact PySem.EqNone.ne_none_int (fin_bl I q (by simp))
    | str j => obtain ⟨t', rfl⟩ := ry; exact PySem.EqNone.ne_none_str (fin_bl I q (by simp))
    | _ => exact absurd (show false = true from hs) Bool.false_ne_true
  | bl i =>
    cases rx
    cases y with
    | non => cases ry; exact PySem.EqNone.ne_bool_none (fin_bl I q (by simp))
    | bl j => cases ry; exact ne_bool (fin_bl I q (congrArg not dec_bl))
    | str j => obtain ⟨t', rfl⟩ := ry; exact PySem.EqMixed.ne_bool_str (fin_bl I q (by simp))
    | _ => exact absurd (show false = true from hs) Bool.false_ne_true
  | int i =>
    obtain ⟨t, rfl⟩ := rx
    cases y with
    | non => cases ry; exact PySem.EqNone.ne_int_none (fin_bl I q (by simp))
    | int j => obtain ⟨t', rfl⟩ := ry; exact ne_int (fin_bl I q (congrArg not dec_int))
    | str j => obtain ⟨t', rfl⟩ := ry; exact PySem.EqMixed.ne_int_str (fin_bl I q (by simp))
    | _ => exact absurd (show false = true from hs) Bool.false_ne_true
  | str i =>
    obtain ⟨t, rfl⟩ := rx
    cases y with
    | non => cases ry; exact PySem.EqNone.ne_str_none (fin_bl I q (by simp))
    | bl j => cases ry; exact PySem.EqMixed.ne_str_bool (fin_bl I q (by simp))
    | int j => obtain ⟨t', rfl⟩ := ry; exact PySem.EqMixed.ne_str_int (fin_bl I q (by simp))
    | str j => obtain ⟨t', rfl⟩ := ry; exact ne_str (fin_bl I q (congrArg not dec_str))
    | _ => exact absurd (show false = true from hs) Bool.false_ne_true
  | byt i =>
    obtain ⟨t, rfl⟩ := rx
    cases y with
    | byt j => obtain ⟨t', rfl⟩ := ry; exact PySem.W.ne_bytes (fin_bl I q (congrArg not dec_byt))
    | _ => exact absurd (show false = true from hs) Bool.false_ne_true
  | _ => cases y <;> exact absurd (show false = true from hs) Bool.false_ne_true

theorem op_lt : OpR X (compareOp .Lt) (rI0 fun i j => .bl (decide (i < j))) := opB0 fun _ _ _ _ _ _ _ q => lt_int q
theorem op_le : OpR X (compareOp .LtE) (rI0 fun i j => .bl (decide (i ≤ j))) := opB0 fun _ _ _ _ _ _ _ q => le_int q
theorem op_gt : OpR X (compareOp .Gt) (rI0 fun i j => .bl (decide (j < i))) := opB0 fun _ _ _ _ _ _ _ q => gt_int q
theorem op_ge : OpR X (compareOp .GtE) (rI0 fun i j => .bl (decide (j ≤ i))) := opB0 fun _ _ _ _ _ _ _ q => ge_int q
theorem nomark (b : Expr) {op : CmpOp} (h : op ≠ .In := by decide) (h2 : op ≠ .NotIn := by decide) : behindInMarks op b = false := by
  have e1 : (op == CmpOp.In) = false := by cases op <;> first | rfl | exact absurd rfl h
  have e2 : (op == CmpOp.NotIn) = false := by cases op <;> first | rfl | exact absurd rfl h2
  cases b <;> simp [behindInMarks, e1, e2]
/-- a comparison as a value; hm: nomark b, or (for in, not in) by with_unfolding_all rfl -/
theorem pe_cmpR {op : CmpOp} {r : R2} (ho : OpR X (compareOp op) r) (ha : PE X a ta) (hb : PE X b tb) (hm : behindInMarks op b = false) : PE X (.Compare a [op] [b] pos) (tOp r ta tb) := by
  intro pins s σ H Q I h
  exact wpAny_Compare1 (binT ha hb I h fun v u s2 x y H2 I2 rx ry q => ho pins s2 σ H2 x y v u Q I2 rx ry q) hm
/-- a reading of a value as a test -/
noncomputable def tTest (t : TE) : TT := fun σ H Q => t σ H fun x H' => ∃ k, x = .bl k ∧ Q k H'
theorem pt_cmpR {op : CmpOp} {r : R2} (ho : OpR X (compareOp op) r) (ha : PE X a ta) (hb : PE X b tb) (hm : behindInMarks op b = false) : PT X (.Compare a [op] [b] pos) (tTest (tOp r ta tb)) := by
  intro pins s σ H Q I h
  refine wpAny_isTrue_Compare1 (thn (ha pins s σ H _ I h) fun v s1 ⟨x, H1, I1, r1, q1⟩ => thn (hb pins s1 σ H1 _ I1 q1) fun u s2 ⟨y, H2, I2, r2, q2⟩ =>
    thn (ho pins s2 σ H2 x y v u _ I2 r1 r2 q2) fun c s3 ⟨z, H3, I3, r3, k, e, q3⟩ => ?_) hm
  subst e
  cases r3
  exact wpAny_truthy_bool ⟨H3, I3, q3⟩
/-! ### truth -/
theorem line63 : (sizeLine : Nat) < 2 ^ 63 := by rw [sizeLine_eq]; decide
/-! ### strs and bytes -/
theorem op_add_str : OpR X (binaryOp .Add) (fun x y H Q => ∃ i j, x = .str i ∧ y = .str j ∧ i.length + j.length ≤ sizeLine ∧ Q (.str (i ++ j)) H) := by
  intro pins s σ H x y v u Q I rx ry h
  obtain ⟨i, j, rfl, rfl, hz, q⟩ := h
  obtain ⟨t, rfl⟩ := rx
  obtain ⟨t', rfl⟩ := ry
  exact add_str (fun t' tk => ⟨.str (i ++ j), H, I.tok _, ⟨_, rfl⟩, q⟩) hz
/-! ### scalar builtins, by CallR -/
theorem vals1 {x : V} {us : List Value} (r : Vals [x] us) : ∃ u, us = [u] ∧ RelV x u := by
  cases r with
  | cons r1 r2 => cases r2; exact ⟨_, rfl, r1⟩
theorem vals2 {x y : V} {us : List Value} (r : Vals [x, y] us) : ∃ u w', us = [u, w'] ∧ RelV x u ∧ RelV y w' := by
  cases r with
  | cons r1 r2 =>
    cases r2 with
    | cons r3 r4 => cases r4; exact ⟨_, _, rfl, r1, r3⟩
end
end L2

namespace L2
open PySem PySem.Spec PyProof.Rows

/-! ### an instance, its attributes a map -/
structure ObjM (h : Heap) (x dx C : Addr) (mA : Str → Option Value) : Prop where
  obj : h.get? x = some (PySem.W.instObj C dx)
  ns : h.Ns1 dx mA
  ne : dx ≠ x

theorem lookIn_ns {h : Heap} {dx : Addr} {mA : Str → Option Value} (n : h.Ns1 dx mA) : ∃ od, h.get? dx = some od ∧ ∀ name, PySem.W.lookIn name od = some (mA name) := by
  obtain ⟨o, es, ep, ho, hd, hk, _, hm⟩ := n
  refine ⟨o, ho, fun name => ?_⟩
  have e := hm name
  unfold nsFind findBy at e
  rw [← Array.find?_toList] at e
  unfold PySem.W.lookIn
  rw [hd]
  dsimp only
  split
  · rename_i y q
    rw [q] at e
    exact congrArg some e
  · rename_i q
    rw [q] at e
    have a : es.toList.any (·.refKey) = false := by
      rw [List.any_eq_false]
      intro y hy
      obtain ⟨z, t, hkey⟩ := hk y (Array.mem_toList_iff.mp hy)
      simp [DictEntry.refKey, hkey]
    have a' : ¬ es.toList.any (·.refKey) = true := by rw [a]; exact Bool.false_ne_true
    rw [if_neg a']
    exact congrArg some e

theorem ObjM.look {h : Heap} {x dx C : Addr} {mA : Str → Option Value} (I : ObjM h x dx C mA) : ∃ od, PySem.W.InstAt h x (PySem.W.instObj C dx) C (some od) ∧ ∀ name, PySem.W.lookIn name od = some (mA name) :=
  let ⟨od, ho, hl⟩ := lookIn_ns I.ns
  ⟨od, ⟨I.obj, rfl, rfl, ho⟩, hl⟩

section
variable {prog : Program} {w : World} {A : Around} {E : Value → Shared → Prop} {s : Shared} {K : PySem.W.Frag} {x dx C f : Addr} {mA : Str → Option Value} {name : Str} {v : Value}

end

/-! ### the attributes as a list of pairs -/
noncomputable def putF (f : Str) (v : V) : List (Str × V) → List (Str × V)
  | [] => [(f, v)]
  | (g, x) :: r => if g = f then (g, v) :: r else (g, x) :: putF f v r
theorem lookup_putF (f g : Str) (v : V) : ∀ fs : List (Str × V), (putF f v fs).lookup g = if g = f then some v else fs.lookup g
  | [] => by
    show List.lookup g [(f, v)] = _
    by_cases h : g = f
    · have hb : (g == f) = true := beq_iff_eq.mpr h
      simp only [List.lookup, hb, if_pos h]
    · have hb : (g == f) = false := beq_eq_false_iff_ne.mpr h
      simp only [List.lookup, hb, if_neg h]
  | (k, x) :: r => by
    have ih := lookup_putF f g v r
    rw [show putF f v ((k, x) :: r) = (if k = f then (k, v) :: r else (k, x) :: putF f v r) from rfl]
    by_cases hk : k = f
    · rw [if_pos hk]
      by_cases h : g = k
      · have hb : (g == k) = true := beq_iff_eq.mpr h
        simp only [List.lookup, hb, if_pos (h.trans hk)]
      · have hb : (g == k) = false := beq_eq_false_iff_ne.mpr h
        simp only [List.lookup, hb, if_neg (fun e : g = f => h (e.trans hk.symm))]
    · rw [if_neg hk]
      by_cases h : g = k
      · have hb : (g == k) = true := beq_iff_eq.mpr h
        simp only [List.lookup, hb, if_neg (fun e : g = f => hk (h.symm.trans e))]
      · have hb : (g == k) = false := beq_eq_false_iff_ne.mpr h
        simp only [List.lookup, hb]
        exact ih
theorem RelO.some_of {v : V} {o : Option Value} (r : RelO (some v) o) : ∃ u, o = some u ∧ RelV v u := by
  cases o with
  | none => exact (show False from r).elim
  | some u => exact ⟨u, rfl, r⟩
theorem RelO.none_of {o : Option Value} (r : RelO none o) : o = none := by
  cases o with
  | none => rfl
  | some u => exact (show False from r).elim
theorem handed_of {v : V} {u : Value} (r : RelV v u) : PySem.W.handedIn u = true := by
  cases v with
  | non => cases (show u = Value.none from r); rfl
  | bl b => cases (show u = Value.bool b from r); rfl
  | int i => obtain ⟨t, e⟩ := (show ∃ t, u = Value.int i t from r); cases e; rfl
  | str x => obtain ⟨t, e⟩ := (show ∃ t, u = Value.str x t from r); cases e; rfl
  | byt b => obtain ⟨t, e⟩ := (show ∃ t, u = Value.bytes b t from r); cases e; rfl
  | flt b => obtain ⟨t, e⟩ := (show ∃ t, u = Value.float b t from r); cases e; rfl
  | ref a => cases (show u = Value.ref a from r); rfl
  | ty n => cases (show u = Value.type n from r); rfl

section
variable {P : Program} {w : World} {H H' : Hp} {h h' : Heap} {a C dx : Addr} {fs fs' : List (Str × V)}
theorem ins_get (hok : HOk P w H h) (e : H a = some (.ins C dx fs)) : ∃ mA, ObjM h a dx C mA ∧ (∀ f, RelO (fs.lookup f) (mA f)) ∧ PySem.Within mA (fs.map (·.1)) ∧ fs.length ≤ 1000 ∧ H dx = some (.own a) := by
  obtain ⟨d, z, ne, ob, mA, n, r, q⟩ := (show ObjOk P w H h a (.ins C dx fs) from hok a _ e)
  exact ⟨mA, ⟨ob, n, ne⟩, r, q, z, d⟩
end

/-! ### what of the text a class must have -/
structure Cls (K : PySem.W.Frag) (C : Addr) : Prop where
  pg : PySem.W.plainGet K C Str.empty = true
  hd : PySem.W.hasDictIn K C = true
  po : PySem.W.plainOver K C = true
  sa : PySem.W.findIn K (.ref C) "__setattr__" = some (some (.builtin "object.__setattr__"))
theorem Cls.get {K : PySem.W.Frag} {C : Addr} (c : Cls K C) (f : Str) : PySem.W.plainGet K C f = true := c.pg
/-- no class of it has the name -/
noncomputable def NoAttr (K : PySem.W.Frag) (C : Addr) (f : Str) : Prop := PySem.W.findIn K (.ref C) f = some none
theorem NoAttr.taker {K : PySem.W.Frag} {C : Addr} {f : Str} (n : NoAttr K C f) : PySem.W.takerIn K C f = some none := by
  unfold PySem.W.takerIn
  rw [show PySem.W.findIn K (.ref C) f = some none from n]
  rfl
/-- a constant of the class -/
structure Con (K : PySem.W.Frag) (C : Addr) (f : Str) (v : V) (u : Value) : Prop where
  at_ : PySem.W.findIn K (.ref C) f = some (some u)
  rel : RelV v u
  get : PySem.W.specialIn K u "__get__" = some none
  cp : PySem.W.copiedNames.contains f = false
/-- a method: a plain def of the class or of one above it -/
structure Meth (K : PySem.W.Frag) (C : Addr) (m : Str) (f : Addr) : Prop where
  at_ : PySem.W.findIn K (.ref C) m = some (some (.ref f))
  fn : PySem.W.isFn K (.ref f) = true
  kp : PySem.W.keepIn K (.ref f) = true

section
variable {X : Cx} {pins : List (Addr × Obj)} {σ : St} {H : Hp} {s : Shared} {a C dx : Addr} {fs : List (Str × V)} {f : Str} {v : V} {A : Around} {E : Value → Shared → Prop}

/-- e.f where nothing but the object is asked: through attributeBase (super) and the last hold -/
theorem attr_of {prog : Program} {w : World} {env : Env} {e : Expr} {f : Str} {pos : Pos} {s : Shared} {Q : Value → Shared → Prop} (hb : attributeBase e f env (eval e env) = eval e env)
    (h : wpAny (model prog w) A (eval e env) (fun o s₁ => wpAny (model prog w) A (getAttr o f true) Q E s₁) E s) : wpAny (model prog w) A (eval (.Attribute e f pos) env) Q E s :=
  Attribute_any_ h (by rw [arm_eval_Attribute, hb])
end

/-! ### readings and rules -/
section
variable {X : Cx} {o e value : Expr} {f : Str} {pos pos' tpos : Pos} {ta tv : TE}
end

/-! ### isinstance -/
section
variable {X : Cx} {pins : List (Addr × Obj)} {σ : St} {H : Hp} {s : Shared} {A : Around} {E : Value → Shared → Prop} {Q : Value → Shared → Prop} {c : Value} {b : Bool}
/-- the type of a value, as the fragment's deciders take it; for an instance its class -/
inductive TyOf (K : PySem.W.Frag) (H : Hp) : V → Value → Prop where
  | non : TyOf K H .non (.type "NoneType")
  | bl (x : Bool) : TyOf K H (.bl x) (.type "bool")
  | int (i : Int) : TyOf K H (.int i) (.type "int")
  | str (x : Str) : TyOf K H (.str x) (.type "str")
  | flt (x : UInt64) : TyOf K H (.flt x) (.type "float")
  | lst {a : Addr} {xs : List V} (e : H a = some (.lst xs)) : TyOf K H (.ref a) (.type "list")
  | frz {a : Addr} {o : Obj} {xs : List V} (e : H a = some (.frz o (.lst xs))) : TyOf K H (.ref a) (.type "list")
  | tup {a : Addr} {xs : List V} (e : H a = some (.tup xs)) : TyOf K H (.ref a) (.type "tuple")
  | dK {a : Addr} {kvs : List (Key × V)} (e : H a = some (.dK kvs)) : TyOf K H (.ref a) (.type "dict")
  | dT {a : Addr} {kvs : List (List Key × V)} (e : H a = some (.dT kvs)) : TyOf K H (.ref a) (.type "dict")
  | ins {a C dx : Addr} {fs : List (Str × V)} (e : H a = some (.ins C dx fs)) (cl : Cls K C) (ha : PySem.W.findIn K (.ref C) "__class__" = some (some (.builtin "object.__class__")))
      (hn : PySem.W.specialIn K (.builtin "object.__class__") "__get__" = some (some (.builtin "getset_descriptor.__get__"))) (htk : PySem.W.takesIn K (.builtin "object.__class__") = some true)
      (hm : PySem.W.mroIn K C (.type "object") = some true) : TyOf K H (.ref a) (.ref C)
/-- isinstance(x, c) for one class c, a built-in or an own one: kitOne's answer -/
theorem isinst_ok {x : V} {u t : Value} (I : Inv X pins σ H s) (rx : RelV x u) (ty : TyOf X.K H x t) (e : PySem.W.kitOne X.K t c = some b) (h : ∀ tk, Q (.bool b) { s with toks := tk }) :
    wpAny (model X.prog X.w) A (call (.builtin "isinstance") [u, c]) Q E s := by
  cases ty with
  | non => cases (show u = Value.none from rx); exact PySem.W.kia_one PySem.W.kitx_none I.kIn True.intro e (fun z => nomatch z) h
  | bl y => cases (show u = Value.bool y from rx); exact PySem.W.kia_one PySem.W.kitx_bool I.kIn True.intro e (fun z => nomatch z) h
  | int i => obtain ⟨t, q⟩ := (show ∃ t, u = Value.int i t from rx); cases q; exact PySem.W.kia_one PySem.W.kitx_int I.kIn True.intro e (fun z => nomatch z) h
  | str y => obtain ⟨t, q⟩ := (show ∃ t, u = Value.str y t from rx); cases q; exact PySem.W.kia_one PySem.W.kitx_str I.kIn True.intro e (fun z => nomatch z) h
  | flt y => obtain ⟨t, q⟩ := (show ∃ t, u = Value.float y t from rx); cases q; exact PySem.W.kia_one PySem.W.kitx_float I.kIn True.intro e (fun z => nomatch z) h
  | @lst a xs ea =>
    cases (show u = Value.ref a from rx)
    obtain ⟨_, _, n, _, h1⟩ := (show ObjOk X.prog X.w H s.heap a (.lst xs) from I.hok a _ ea)
    exact PySem.W.kia_one PySem.W.kitx_list I.kIn ⟨_, h1, rfl⟩ e (fun z => nomatch z) h
  | @frz a ob xs ea =>
    cases (show u = Value.ref a from rx)
    obtain ⟨_, _, _, n, _, h1⟩ := (show ObjOk X.prog X.w H s.heap a (.frz ob (.lst xs)) from I.hok a _ ea)
    exact PySem.W.kia_one PySem.W.kitx_list I.kIn ⟨_, h1, rfl⟩ e (fun z => nomatch z) h
  | @tup a xs ea =>
    cases (show u = Value.ref a from rx)
    obtain ⟨_, _, _, p⟩ := (show ObjOk X.prog X.w H s.heap a (.tup xs) from I.hok a _ ea)
    obtain ⟨o, h1, h2, _⟩ := p
    exact PySem.W.kia_one PySem.W.kitx_tuple I.kIn ⟨o, h1, h2⟩ e (fun z => nomatch z) h
  | @dK a kvs ea =>
    cases (show u = Value.ref a from rx)
    obtain ⟨_, _, vs, _, p⟩ := (show ObjOk X.prog X.w H s.heap a (.dK kvs) from I.hok a _ ea)
    obtain ⟨o, es, ep, h1, h2, _⟩ := p
    exact PySem.W.kia_one PySem.W.kitx_dict I.kIn ⟨o, h1, h2.1⟩ e (fun z => nomatch z) h
  | @dT a kvs ea =>
    cases (show u = Value.ref a from rx)
    obtain ⟨_, _, xs, _, o, es, ep, h1, h2, _⟩ := (show ObjOk X.prog X.w H s.heap a (.dT kvs) from I.hok a _ ea)
    exact PySem.W.kia_one PySem.W.kitx_dict I.kIn ⟨o, h1, h2.1⟩ e (fun z => nomatch z) h
  | @ins a C dx fs ea cl ha hn htk hm =>
    cases (show u = Value.ref a from rx)
    obtain ⟨mA, O, _⟩ := ins_get I.hok ea
    obtain ⟨od, J, _⟩ := O.look
    exact PySem.W.kia_one (PySem.W.kitx_own (cl.get _) cl.hd ha hn htk hm) I.kIn J e (fun z => nomatch z) h
end
end L2

namespace L2
open PySem PySem.Spec PyProof.Rows

/-! ### room -/
structure Room (k : Nat) (A : Around) : Prop where
  hd : A.handled = none
  dp : A.depth + 3 * k + 5 < recursionLimit
  un : A.units + 16 * k + 200 < cLine
theorem Room.mono {j k : Nat} {A : Around} (r : Room k A) (h : j ≤ k) : Room j A := ⟨r.hd, by have := r.dp; omega, by have := r.un; omega⟩
theorem Room.deeper {k : Nat} {A : Around} (r : Room (k + 1) A) (env : Env) : Room k (A.deeper env) :=
  ⟨r.hd, by have := r.dp; show A.depth + 1 + 3 * k + 5 < _; omega, by have := r.un; show A.units + 3 + 16 * k + 200 < _; omega⟩
theorem make_depth {A : Around} {C : Addr} {us : List Value} {kw : List (Str × Value)} : (A.under (.builtin "type.__call__" ⟨.ref C :: us, kw⟩)).depth = A.depth + 1 := by
  first | rfl | simp [Around.under, Code.weight, Code.isCreation, Code.isGuard, Code.isCaller, Code.frames, Code.isFrame, guardIds]
theorem make_units {A : Around} {C : Addr} {us : List Value} {kw : List (Str × Value)} : (A.under (.builtin "type.__call__" ⟨.ref C :: us, kw⟩)).units = A.units + 1 := by
  first | rfl | simp [Around.under, Code.cUnits, Code.frames, Code.isFrame]
theorem Room.make {k : Nat} {A : Around} (r : Room (k + 1) A) (C : Addr) (us : List Value) (kw : List (Str × Value)) : Room k (A.under (.builtin "type.__call__" ⟨.ref C :: us, kw⟩)) :=
  ⟨r.hd, by have := r.dp; rw [make_depth]; omega, by have := r.un; rw [make_units]; omega⟩
theorem Room.depth {k : Nat} {A : Around} (r : Room k A) : A.depth < recursionLimit := by have := r.dp; (first | (assumption) | (exact Nat.lt_of_lt_of_le (by assumption) (by assumption)) | omega)
theorem Room.units {k : Nat} {A : Around} (r : Room k A) : A.units + 64 < cLine := by have := r.un; omega
/-! ### argument lists and displays -/
noncomputable def tNil : TA := fun _ H Q => Q [] H
noncomputable def tCons (ta : TE) (tr : TA) : TA := fun σ H Q => ta σ H fun x H1 => tr σ H1 fun xs H2 => Q (x :: xs) H2
section
variable {X : Cx} {e : Expr} {es : List Expr} {te : TE} {t : TA} {pos : Pos}
theorem pa_nil : PA X [] tNil := fun _ _ _ _ H Q I h => Calls.spliced_nil ⟨[], H, I, .nil, h⟩
theorem pa_cons (ha : PE X e te) (hr : PA X es t) (hs : starEach (e :: es) X.env = (false, eval e X.env) :: starEach es X.env := by rfl) : PA X (e :: es) (tCons te t) := by
  intro pos pins s σ H Q I h
  rw [hs]
  show wpAny _ _ (spliced ((false, eval e X.env) :: backTo pos (starEach es X.env))) _ _ s
  refine Calls.spliced_cons (thn (ha pins s σ H _ I h) fun u s1 hsl32 => ?_)
  obtain ⟨x, H1, I1, r1, q1⟩ := hsl32
  exact thn (hr pos pins s1 σ H1 _ I1 q1) fun us s2 hsl33 => by obtain ⟨xs, H2, I2, r2, q2⟩ := hsl33; exact ⟨x :: xs, H2, I2, .cons r1 r2, q2⟩

/-- a tuple, a list of written items -/
noncomputable def tTup (t : TA) : TE := fun σ H Q => t σ H fun xs H1 => xs.length ≤ sizeLine ∧ ∀ p, H1 p = none → Q (.ref p) (upd H1 p (.tup xs))
noncomputable def tLst (t : TA) : TE := fun σ H Q => t σ H fun xs H1 => xs.length ≤ sizeLine ∧ ∀ p, H1 p = none → Q (.ref p) (upd H1 p (.lst xs))
theorem pe_tup {x1} (h : PA X es t) : PE X (.Tuple es x1 pos) (tTup t) := by
  intro pins s σ H Q I hq
  refine wpAny_Tuple_spliced (thn (h pos pins s σ H _ I hq) fun us s1 ⟨xs, H1, I1, r, z, q⟩ => ⟨by rw [← r.length]; exact z, ?_⟩)
  have hf : H1 s1.heap.objs.size = none := I1.hok.fresh (Nat.le_refl _)
  refine ⟨.ref s1.heap.objs.size, upd H1 s1.heap.objs.size (.tup xs), I1.laid (t' := s1.toks) (fun b u e => Heap.get?_push_of_some _ e) (Nat.le_refl _) ?_, rfl, q _ hf⟩
  exact ⟨z, us, r, ⟨_, Heap.get?_push_size _ rfl, rfl, _, rfl⟩⟩
theorem pe_lst (h : PA X es t) : PE X (.List es pos) (tLst t) := by
  intro pins s σ H Q I hq
  refine wpAny_List_spliced (thn (h pos pins s σ H _ I hq) fun us s1 ⟨xs, H1, I1, r, z, q⟩ => ⟨by rw [← r.length]; exact z, ?_⟩)
  have hf : H1 s1.heap.objs.size = none := I1.hok.fresh (Nat.le_refl _)
  refine ⟨.ref s1.heap.objs.size, upd H1 s1.heap.objs.size (.lst xs), I1.laid (t' := s1.toks) (fun b u e => Heap.get?_push_of_some _ e) (Nat.le_refl _) ?_, rfl, q _ hf⟩
  exact ⟨z, us, 0, r, Heap.get?_push_size _ rfl⟩
end

/-! ### what a def promises -/
/-- a def's promise: the bound arguments in the parameters' order, the heap, the wanted end, the wanted exception -/
noncomputable abbrev Sp := List V → Hp → VK → XK → Prop
/-- how an exception lies behind a call (file 08 gives it): the callers' frames, abstract heap and state ahead of the call, the wish, the exception, the state -/
noncomputable abbrev CXT := List Env → Hp → Shared → XK → Value → Shared → Prop

/-- the state at a call -/
structure Env0 (P : Program) (w : World) (K : PySem.W.Frag) (mg : Str → Option Value) (base : Heap) (A : Around) (outer : List Env) (s : Shared) (H : Hp) : Prop where
  frames : A.frames = some outer
  mod : Mod K mg base
  bs : ∀ b o, base.get? b = some o → s.heap.get? b = some o ∧ H b = none
  bsz : base.objs.size ≤ s.heap.objs.size
  funs : s.heap.FunFrames base outer
  frf : ∀ b ∈ frs outer, H b = none
  hok : HOk P w H s.heap
  bare : AllBare s.gens
/-- a call's end -/
noncomputable def CE (outer : List Env) (P : Program) (w : World) (H : Hp) (s : Shared) (Q : VK) (u : Value) (s' : Shared) : Prop :=
  ∃ v H', s'.os = s.os ∧ AllBare s'.gens ∧ Un (frs outer) [] H H' s.heap s'.heap ∧ HOk P w H' s'.heap ∧ RelV v u ∧ Q v H'
noncomputable def CR (CX : CXT) (outer : List Env) (P : Program) (w : World) (H : Hp) (s : Shared) (Q : VK) (E : XK) (r : Result) (s' : Shared) : Prop :=
  match r with
  | .ok (.ret u) => CE outer P w H s Q u s'
  | .ok _ => False
  | .error e => CX outer H s E e s'
structure FnOk (P : Program) (w : World) (K : PySem.W.Frag) (mg : Str → Option Value) (base : Heap) (CX : CXT) (k : Nat) (f : Addr) (fd : FuncData) (ps : List Str) (sp : Sp) : Prop where
  len : ∀ vs H Q E, sp vs H Q E → vs.length = ps.length
  run : ∀ (A : Around) (outer : List Env) (s : Shared) (H : Hp) (args : Args) (us : List Value) (vs : List V) (Q : VK) (E : XK), Room k A → Env0 P w K mg base A outer s H → BindsTo s fd args (ps.zip us) → Vals vs us → sp vs H Q E →
    codeAny (model P w) A (.call (.ref f) args) (CR CX outer P w H s Q E) s
theorem Env0.make {P : Program} {w : World} {K : PySem.W.Frag} {mg : Str → Option Value} {base : Heap} {A : Around} {outer : List Env} {s : Shared} {H : Hp} (e : Env0 P w K mg base A outer s H) (C : Addr) (us : List Value) (kw : List (Str × Value)) :
    Env0 P w K mg base (A.under (.builtin "type.__call__" ⟨.ref C :: us, kw⟩)) outer s H := ⟨by first | exact e.frames | (simpa [Around.under, Code.envs, Code.isFrame, pushEnvs] using e.frames), e.mod, e.bs, e.bsz, e.funs, e.frf, e.hok, e.bare⟩
section
variable {X : Cx} {pins : List (Addr × Obj)} {σ : St} {H : Hp} {s s' : Shared}
/-- from a body: what a callee wants -/
theorem Inv.env0 (I : Inv X pins σ H s) : Env0 X.prog X.w X.K X.mg X.base X.A X.stack s H :=
  ⟨I.ok.frames, I.ok.mod, I.bs, Nat.le_trans I.ok.bsz I.sz, I.stack, I.stkFree, I.hok, I.bare⟩
/-- behind a call -/
theorem Inv.after {Q : VK} {u : Value} (I : Inv X pins σ H s) (h : CE X.stack X.prog X.w H s Q u s') : EP X pins σ Q u s' := by
  obtain ⟨v, H', os, bare, un, hok, r, q⟩ := h
  obtain ⟨hh, g, d, t, os'⟩ := s'
  obtain rfl : os' = s.os := os
  exact ⟨v, H', I.call (h' := hh) (g' := g) (d' := d) (t' := t) (ch := []) un hok bare (fun b z => absurd z (by simp)), r, q⟩
end

/-! ### calls -/
/-- f(..): the written arguments, then the defaults dvs; E: what is wanted of an exception -/
noncomputable def tCall (sp : Sp) (dvs : List V) (E : XK) (t : TA) : TE := fun σ H Q => t σ H fun vs H1 => sp (vs ++ dvs) H1 Q E
/-- how the parameters are bound: us the positional arguments, kw the keywords' values by name, ds the defaults that fill up -/
noncomputable def Binds (K : PySem.W.Frag) (fd : FuncData) (ps : List Str) (ds : List Value) : Prop :=
  ∀ (s : Shared) (us : List Value), K.In s.heap → (us ++ ds).length = ps.length → BindsTo s fd ⟨us, []⟩ (ps.zip (us ++ ds))
/-- every parameter is given -/
theorem Binds.all {K : PySem.W.Frag} {fd : FuncData} {ps : List Str} (h : ∀ us : List Value, us.length = ps.length → bindArgs fd ⟨us, []⟩ = pure (ps.zip us)) : Binds K fd ps [] := fun s us _ hl => by
  rw [List.append_nil] at hl ⊢
  exact .of_eq (h us hl)

/-- an exception of a callee reaches what this body wants of exceptions -/
noncomputable def Passes (CX : CXT) (X : Cx) (E : XK) : Prop := ∀ (pins : List (Addr × Obj)) (σ : St) (H : Hp) (s : Shared) (e : Value) (s' : Shared), Inv X pins σ H s → CX X.stack H s E e s' → X.xe e s'

section
variable {X : Cx} {CX : CXT} {k : Nat} {f C : Addr} {fd : FuncData} {ps : List Str} {sp : Sp} {dvs : List V} {ds : List Value} {E : XK} {x m : Str} {p pos apos : Pos} {e o : Expr} {es : List Expr} {ta : TE} {t : TA}

/-- the callee runs -/
theorem run_fn {pins : List (Addr × Obj)} {σ : St} {H : Hp} {s : Shared} {Q : VK} {us : List Value} {vs : List V} (F : FnOk X.prog X.w X.K X.mg X.base CX k f fd ps sp) (hr : Room k X.A) (hb : Binds X.K fd ps ds) (hd : Vals dvs ds) (hx : Passes CX X E)
    (I : Inv X pins σ H s) (r : Vals vs us) (h : sp (vs ++ dvs) H Q E) : wpAny (model X.prog X.w) X.A (call (.ref f) us) (EP X pins σ Q) X.xe s := by
  have r2 : Vals (vs ++ dvs) (us ++ ds) := r.append hd
  have hl : (us ++ ds).length = ps.length := by rw [← r2.length]; exact F.len _ _ _ _ h
  refine wpAny_call (codeAny_mono (F.run X.A X.stack s H ⟨us, []⟩ (us ++ ds) (vs ++ dvs) Q E hr I.env0 (hb s us I.kIn hl) r2 h) fun r s' hq => ?_)
  cases r with
  | error e => exact hx pins σ H s e s' I hq
  | ok fl =>
    cases fl with
    | ret u => exact I.after hq
    | next => exact False.elim hq
    | brk => exact False.elim hq
    | cont => exact False.elim hq

theorem pe_call (F : FnOk X.prog X.w X.K X.mg X.base CX k f fd ps sp) (hr : Room k X.A) (hg : Gl X x) (hm : X.mg x = some (.ref f)) (hk : PySem.W.keepIn X.K (.ref f) = true) (hb : Binds X.K fd ps ds) (hd : Vals dvs ds) (hx : Passes CX X E)
    (ha : PA X (e :: es) t) (hdb : (x == ("__debug__" : Str)) = false := by decide) (he : starEach (e :: es) X.env = (false, eval e X.env) :: starEach es X.env := by rfl) (hpl : (backTo pos (starEach es X.env)).any (·.1) = false := by rfl) :
    PE X (.Call (.Name x p) (e :: es) [] pos) (tCall sp dvs E t) := by
  intro pins s σ H Q I h
  refine wpAny_Call_Name_kw (ld_glob I hg hm ?_ hdb)
  refine PySem.W.callWith_K (h₀ := X.base) I.ok.mod.kin hk (thn (ha pos pins s σ H _ I h) fun us s1 ⟨vs, H1, I1, r, q⟩ => ⟨I1.kIn, ?_⟩) he hpl
  exact run_fn F hr hb hd hx I1 r q
/-- what a class must have to be made -/
structure Mk (K : PySem.W.Frag) (C f : Addr) : Prop where
  makes : PySem.W.makesIn K C = true
  init : PySem.W.findIn K (.ref C) "__init__" = some (some (.ref f))
  fn : PySem.W.isFn K (.ref f) = true
  kp : PySem.W.keepIn K (.ref C) = true

end

/-! ### keywords -/
section
variable {X : Cx} {CX : CXT} {k : Nat} {f C : Addr} {fd : FuncData} {ps ks : List Str} {sp : Sp} {E : XK} {x m : Str} {p pos apos kpos : Pos} {e o : Expr} {es : List Expr} {kws : List Keyword} {te ta : TE} {t tk : TA} {nm : Option Str}
/-- how a call with keywords binds: g puts the positional values us and the keywords' values ws (names ks) in the parameters' order, defaults among them -/
structure KBinds (K : PySem.W.Frag) (fd : FuncData) (ps ks : List Str) (g : List Value → List Value → List Value) (gV : List V → List V → List V) : Prop where
  to : ∀ (s : Shared) (us ws : List Value), K.In s.heap → (g us ws).length = ps.length → BindsTo s fd ⟨us, ks.zip ws⟩ (ps.zip (g us ws))
  rel : ∀ {vs : List V} {us : List Value} {zs : List V} {ws : List Value}, Vals vs us → Vals zs ws → Vals (gV vs zs) (g us ws)
variable {g : List Value → List Value → List Value} {gV : List V → List V → List V}
end

/-! ### a def's body keeps its promise -/
/-- names: the parameters first -/
structure FnScope (N P : List Str) (sc : Scope) : Prop where
  kind : sc.kind = .function
  co : sc.isCoroutine = false
  gen : sc.isGenerator = false
  nd : N.Nodup
  pre : N.take P.length = P
  par : ∀ x ∈ P, sc.names.lookup x = some .local ∨ sc.names.lookup x = some .cell
  nofree : ∀ y ∈ sc.names, y.2 ≠ .free

theorem bindL_out {kindOf : Str → Option NameKind} {x : Str} : ∀ {binds : List (Str × Value)} {m : Str → Option Value}, (∀ v, (x, v) ∉ binds) → bindL kindOf binds m x = m x
  | [], _, _ => rfl
  | (n, v) :: r, m, h => by
    unfold bindL
    rw [bindL_out fun w hw => h w (List.mem_cons_of_mem _ hw)]
    split
    · have : x ≠ n := by rintro rfl; exact h v List.mem_cons_self
      simp [this]
    · rfl
theorem bindC_out {kindOf : Str → Option NameKind} {x : Str} : ∀ {binds : List (Str × Value)} {m : Str → Option Value}, (∀ v, (x, v) ∉ binds) → bindC kindOf binds m x = m x
  | [], _, _ => rfl
  | (n, v) :: r, m, h => by
    unfold bindC
    rw [bindC_out fun w hw => h w (List.mem_cons_of_mem _ hw)]
    split
    · rfl
    · have : x ≠ n := by rintro rfl; exact h v List.mem_cons_self
      simp [this]
theorem bindL_get {kindOf : Str → Option NameKind} {x : Str} {v : Value} : ∀ {P : List Str} {vs : List Value} {i : Nat} {m : Str → Option Value}, P.Nodup → P[i]? = some x → vs[i]? = some v → kindOf x = some .local →
    bindL kindOf (P.zip vs) m x = some v
  | [], _, _, _, _, h, _, _ => by simp at h
  | _ :: _, [], _, _, _, _, h, _ => by simp at h
  | p :: P, w :: vs, 0, m, nd, h1, h2, hk => by
    simp at h1 h2; subst h1; subst h2
    show bindL kindOf ((p, w) :: P.zip vs) m p = _
    unfold bindL
    rw [bindL_out fun v hv => (List.nodup_cons.mp nd).1 (List.of_mem_zip hv).1, if_pos hk]
    simp
  | p :: P, w :: vs, i + 1, m, nd, h1, h2, hk => by
    show bindL kindOf ((p, w) :: P.zip vs) m x = _
    unfold bindL
    exact bindL_get (i := i) (List.nodup_cons.mp nd).2 (by simpa using h1) (by simpa using h2) hk
theorem bindC_get {kindOf : Str → Option NameKind} {x : Str} {v : Value} : ∀ {P : List Str} {vs : List Value} {i : Nat} {m : Str → Option Value}, P.Nodup → P[i]? = some x → vs[i]? = some v → kindOf x ≠ some .local →
    bindC kindOf (P.zip vs) m x = some v
  | [], _, _, _, _, h, _, _ => by simp at h
  | _ :: _, [], _, _, _, _, h, _ => by simp at h
  | p :: P, w :: vs, 0, m, nd, h1, h2, hk => by
    simp at h1 h2; subst h1; subst h2
    show bindC kindOf ((p, w) :: P.zip vs) m p = _
    unfold bindC
    rw [bindC_out fun v hv => (List.nodup_cons.mp nd).1 (List.of_mem_zip hv).1, if_neg hk]
    simp
  | p :: P, w :: vs, i + 1, m, nd, h1, h2, hk => by
    show bindC kindOf ((p, w) :: P.zip vs) m x = _
    unfold bindC
    exact bindC_get (i := i) (List.nodup_cons.mp nd).2 (by simpa using h1) (by simpa using h2) hk

/-- the names' values at the entry -/
noncomputable def start (N : List Str) (vs : List V) : St := vs.map some ++ List.replicate (N.length - vs.length) none

/-- the context of a def's body, at its entry; an exception leaves the frame, then lies as CX says -/
noncomputable def cxOf (CX : CXT) (P : Program) (w : World) (K : PySem.W.Frag) (mg : Str → Option Value) (base : Heap) (N : List Str) (qual : Str) (scope : Scope) (f : Addr) (cd : Value) (A : Around) (outer : List Env) (s : Shared) (H : Hp) (E : XK) : Cx where
  prog := P
  w := w
  K := K
  mg := mg
  base := base
  A := A.deeper (envOfC qual scope s.heap.objs.size f cd)
  N := N
  s₀ := s
  H₀ := H
  env := envOfC qual scope s.heap.objs.size f cd
  outer := outer
  stack := envOfC qual scope s.heap.objs.size f cd :: outer
  ex := []
  calm := true
  fn := fun _ => true
  pn := []
  xe := fun e s' => wpAny (model P w) (A.deeper (envOfC qual scope s.heap.objs.size f cd)) (leaving (envOfC qual scope s.heap.objs.size f cd) e) (fun _ s'' => CX outer H s E e s'') (fun e' s'' => CX outer H s E e' s'') s'

theorem cell_has {sc : Scope} {n : Nat} {x : Str} (h : sc.names.lookup x = some .cell) : ∃ c, (cellsFrom n sc.names []).lookup x = some c := by
  have q := PySem.W.cellsFrom_some sc.names n [] (.inl h)
  exact Option.isSome_iff_exists.mp q

theorem inv_start {CX : CXT} {P : Program} {w : World} {K : PySem.W.Frag} {mg : Str → Option Value} {base : Heap} {N ps : List Str} {qual : Str} {scope : Scope} {f : Addr} {cd : Value} {A : Around} {outer : List Env} {s s1 : Shared} {H : Hp} {E : XK} {us : List Value} {vs : List V}
    (S : FnScope N ps scope) (hd : A.handled = none) (e0 : Env0 P w K mg base A outer s H) (hl : vs.length = ps.length) (r : Vals vs us)
    (x : InCallC s s.heap.objs.size (bindL (envOfC qual scope s.heap.objs.size f cd).kindOf (ps.zip us) fun _ => none) (cellsFrom (s.heap.objs.size + 1) scope.names []) (bindC (envOfC qual scope s.heap.objs.size f cd).kindOf (ps.zip us) fun _ => none) s1) :
    Inv (cxOf CX P w K mg base N qual scope f cd A outer s H E) [] (start N vs) H s1 := by
  have hpl : ps.length ≤ N.length := by have := congrArg List.length S.pre; rw [List.length_take] at this; (clear hl; omega)
  obtain ⟨h1, tk, rfl, hk⟩ := x.done
  have noA : ∀ b : Addr, b ∉ (cxOf CX P w K mg base N qual scope f cd A outer s H E).ex := fun b z => absurd (show b ∈ ([] : List Addr) from z) (by simp)
  refine ⟨⟨e0.mod, S.kind, rfl, rfl, Nat.le_refl _, fun y z c h1 h2 => ?_, fun y hy => ?_, fun y c _ h => ?_, fun _ => hd, Around.frames_deeper e0.frames, .inr ⟨rfl, rfl⟩, fun b z => absurd z (noA b), e0.bs, e0.bsz, fun b _ _ => noA b, fun b z => absurd z (noA b), e0.funs, e0.frf⟩,
    rfl, e0.bare, Un.kept hk, ⟨_, x.toInCall.ns, fun i y v h1 h2 h3 => ?_⟩, fun y c h => ⟨_, x.cell y c h⟩, e0.hok.fresh (Nat.le_refl _), fun y c h => ?_, fun p hp => absurd (show p ∈ ([] : List (Addr × Obj)) from hp) (by simp), e0.hok.kept hk, ?_⟩
  · exact name_of_addr x.apart (PySem.mem_of_lookup h1) (PySem.mem_of_lookup h2)
  · have hy : scope.names.lookup y = some .cell ∨ scope.names.lookup y = some .free := hy
    rcases hy with hy | hy
    · exact cell_has hy
    · exact absurd rfl (S.nofree _ (PySem.mem_of_lookup hy))
  · exact Nat.le_of_lt (x.above y c (PySem.mem_of_lookup h))
  · have hi : i < vs.length := by
      unfold start at h2
      by_cases hi : i < vs.length
      · exact hi
      · rw [List.getElem?_append_right (by simpa using hi)] at h2
        rw [List.getElem?_replicate] at h2
        split at h2 <;> cases h2
    have ha : vs[i]? = some v := by
      unfold start at h2
      rw [List.getElem?_append_left (by simpa using hi), List.getElem?_map] at h2
      cases e : vs[i]? with
      | none => rw [e] at h2; cases h2
      | some a => rw [e] at h2; cases h2; rfl
    obtain ⟨u, hu, rv⟩ := r.get ha
    have hp : ps[i]? = some y := by
      rw [← S.pre, List.getElem?_take_of_lt (by (clear noA hk hpl; (first | (assumption) | (exact Nat.lt_of_lt_of_le (by assumption) (by assumption)) | omega)))]; exact h1
    have ndP : ps.Nodup := by rw [← S.pre]; exact S.nd.sublist (List.take_sublist _ _)
    refine ⟨u, rv, ?_⟩
    rcases S.par y (List.mem_of_getElem? hp) with k | k
    · exact .inl ⟨k, bindL_get ndP hp hu k⟩
    · obtain ⟨c, e⟩ := cell_has (n := s.heap.objs.size + 1) k
      refine .inr ⟨.inl k, c, e, ?_⟩
      have q := x.cell y c e
      rw [bindC_get ndP hp hu (by show scope.names.lookup y ≠ _; rw [k]; decide)] at q
      exact q
  · exact e0.hok.fresh (Nat.le_of_lt (x.above y c (PySem.mem_of_lookup h)))
  · unfold start
    show _ = N.length
    rw [List.length_append, List.length_map, List.length_replicate]
    omega

/-- THE RULE: a def (or a method) of the text, by its body. The body's reading t is chosen for each entry; it is run at the parameters' values -/
theorem fn_of {CX : CXT} {P : Program} {w : World} {K : PySem.W.Frag} {mg : Str → Option Value} {base : Heap} {k : Nat} {f : Addr} {name qual : Str} {params : Arguments} {body : List Stmt} {scope : Scope} {dV kV doc pm cdv ct oc : Value} {an od : Option Addr}
    {osl : Array (Option Value)} {N ps : List Str} {sp : Sp} (lk : K.lookup f = some ⟨oc, od, .func (PySem.W.fnOf name qual params body scope dV kV doc pm an cdv ct), osl⟩) (hcd : PySem.W.codeIn K cdv qual = true) (S : FnScope N ps scope)
    (len : ∀ vs H Q E, sp vs H Q E → vs.length = ps.length)
    (hbody : ∀ (A : Around) (outer : List Env) (s : Shared) (H : Hp) (vs : List V) (Q : VK) (E : XK), Room k (A.deeper (envOfC qual scope s.heap.objs.size f cdv)) → sp vs H Q E →
      ∃ t, PSs (cxOf CX P w K mg base N qual scope f cdv A outer s H E) body t ∧ t { nx := fun _ H' => Q .non H', rt := Q } (start N vs) H) :
    FnOk P w K mg base CX (k + 1) f (PySem.W.fnOf name qual params body scope dV kV doc pm an cdv ct) ps sp := by
  refine ⟨len, fun A outer s H args us vs Q E hr e0 hb r hsp => ?_⟩
  have hl := len _ _ _ _ hsp
  have KX : K.In s.heap := e0.mod.kin.keeps fun b o e => (e0.bs b o e).1
  have lim : s.heap.NoLimit := e0.mod.nolimit.keeps fun b o e => (e0.bs b o e).1
  have hkind : ∀ y ∈ ps.zip us, scope.names.lookup y.1 = some .local ∨ (scope.names.lookup y.1 = some .cell ∧ ((cellsFrom (s.heap.objs.size + 1) scope.names []).lookup y.1).isSome = true) := fun ⟨n, v⟩ hy => by
    rcases S.par n (List.of_mem_zip hy).1 with q | q
    · exact .inl q
    · exact .inr ⟨q, PySem.W.cellsFrom_some _ _ _ (.inl q)⟩
  refine codeAny_call_function hr.depth (KX _ _ lk) rfl S.co S.gen rfl (PySem.W.codeRec_of KX hcd) (hb _ _ _ _ ?_)
  refine wpAny_newFunctionEnv_cells S.kind hkind fun env he s1 x => ?_
  subst he
  refine ⟨lim.keeps x.toInCall.keep, codeAny_func ?_⟩
  obtain ⟨t, ht, hq⟩ := hbody A outer s H vs Q E (hr.deeper _) hsp
  have I : Inv (cxOf CX P w K mg base N qual scope f cdv A outer s H E) [] (start N vs) H s1 := inv_start S hr.hd e0 hl r x
  refine wpAny_mono (ht [] s1 (start N vs) H _ I hq) (fun fl s' hs => ?_) fun e s' hs => hs
  have fin : ∀ {σ' : St} {H' : Hp} {v : V} {u : Value}, Inv (cxOf CX P w K mg base N qual scope f cdv A outer s H E) [] σ' H' s' → RelV v u → Q v H' → CE outer P w H s Q u s' :=
    fun {σ' H' v u} J rv q => ⟨v, H', J.os, J.bare, J.base, J.hok, rv, q⟩
  cases fl with
  | ret u =>
    obtain ⟨v, σ', H', J, rv, q⟩ := hs
    exact fin J rv q
  | next =>
    obtain ⟨σ', H', J, q⟩ := hs
    exact fin (v := V.non) (u := Value.none) J rfl q
  | brk =>
    obtain ⟨_, _, _, q⟩ := hs
    exact False.elim q
  | cont =>
    obtain ⟨_, _, _, q⟩ := hs
    exact False.elim q
end L2

namespace L2
open PySem PySem.Spec PyProof.Rows
section
variable {X : Cx} {x : Str} {p pos : Pos} {e : Expr} {es : List Expr} {t : TA} {id T : String} {r : List V → Hp → VK → Prop}

noncomputable def tCB (r : List V → Hp → VK → Prop) (t : TA) : TE := fun σ H Q => t σ H fun vs H1 => r vs H1 Q
/-- f(e, ..), f a built-in function -/
theorem pe_callB (hc : CallR X (.builtin id) r) (hg : Gl X x) (hm : X.mg x = none) (hv : bootBuiltins x = some (.builtin id)) (ha : PA X (e :: es) t) (hn : x ≠ "__name__" := by decide) (hdb : (x == ("__debug__" : Str)) = false := by decide)
    (he : starEach (e :: es) X.env = (false, eval e X.env) :: starEach es X.env := by rfl) (hpl : (backTo pos (starEach es X.env)).any (·.1) = false := by rfl) : PE X (.Call (.Name x p) (e :: es) [] pos) (tCB r t) := by
  intro pins s σ H Q I h
  refine wpAny_Call_Name_kw (ld_blt I hg hm hv ?_ hn hdb)
  exact PyProof.Rows.callWith_builtin1 (thn (ha pos pins s σ H _ I h) fun us s1 hsl34 => by obtain ⟨vs, H1, I1, r1, q1⟩ := hsl34; exact hc pins s1 σ H1 vs us Q I1 r1 q1) he hpl
end
end L2

namespace HT
open PySem PyProof.Rows

section
open PySem.SeqAt
open PySem.AutoSeq1 (wpAny_loadPart')
open PySem.MeetsSeq PySem.MeetsSeq2 PySem.MeetsSeq3

end

section
variable {prog : Program} {w : World} {A : Around} {E : Value → Shared → Prop} {s : Shared}

/-! ### t[a:b], not the whole -/
/-- a slice's bound as a place among n (d where it is left out) -/
noncomputable def sIx (n d : Nat) : Option Int → Nat
  | none => d
  | some v => if v < 0 then (v + (n : Int)).toNat else min v.toNat n
theorem sIx_none (n d : Nat) : sIx n d none = d := rfl
theorem sIx_nat (n d k : Nat) : sIx n d (some (k : Int)) = min k n := by
  show (if (k : Int) < 0 then ((k : Int) + (n : Int)).toNat else min (k : Int).toNat n) = min k n
  rw [if_neg (by (simp; done)), Int.toNat_natCast]
theorem sIx_le (n d : Nat) (hd : d ≤ n) (o : Option Int) : sIx n d o ≤ n := by
  cases o with
  | none => exact hd
  | some v =>
    show (if v < 0 then (v + (n : Int)).toNat else min v.toNat n) ≤ n
    by_cases hv : v < 0
    · rw [if_pos hv]; (clear hd; omega)
    · rw [if_neg hv]; exact Nat.min_le_right _ _
end
end HT

namespace L2
open PySem PySem.Spec PyProof.Rows

/-! ### the parts of a slice -/
noncomputable abbrev TO := St → Hp → (Option Int → Hp → Prop) → Prop
/-- a slice's part (left out, or an int) -/
noncomputable def PO (X : Cx) (e : Option Expr) (t : TO) : Prop :=
  ∀ (pins : List (Addr × Obj)) (s : Shared) (σ : St) (H : Hp) (Q : Option Int → Hp → Prop), Inv X pins σ H s → t σ H Q →
    wpAny (model X.prog X.w) X.A (evalPart e X.env) (fun u s' => ∃ o H', Inv X pins σ H' s' ∧ IsPart u o ∧ Q o H') X.xe s
noncomputable def tNoPart : TO := fun _ H Q => Q none H
noncomputable def tPart (t : TE) : TO := fun σ H Q => t σ H fun x H1 => ∃ i, x = .int i ∧ Q (some i) H1

section
variable {X : Cx} {e : Expr} {te : TE} {lo hi : Option Expr} {tl th : TO} {pos p2 : Pos}

theorem po_none : PO X none tNoPart := by
  intro pins s σ H Q I h
  rw [evalPart_none]
  exact wpAny_pure ⟨none, H, I, .none, h⟩
theorem po_some (h : PE X e te) : PO X (some e) (tPart te) := by
  intro pins s σ H Q I hw
  rw [evalPart_some]
  refine thn (h pins s σ H _ I hw) fun u s1 hsl35 => ?_
  obtain ⟨x, H1, I1, r1, q1⟩ := hsl35
  obtain ⟨i, rfl, q⟩ := q1
  obtain ⟨t, rfl⟩ := r1
  exact ⟨some i, H1, I1, .int i t, q⟩

/-- what a slice of a value is, by values: the slice object stands at sl -/
noncomputable def SlR (X : Cx) (r : V → Option Int → Option Int → Hp → VK → Prop) : Prop :=
  ∀ (pins : List (Addr × Obj)) (s : Shared) (σ : St) (H : Hp) (x : V) (v vl vu : Value) (lo hi : Option Int) (sl : Addr) (Q : VK), Inv X pins σ H s → RelV x v → s.heap.IsSliceOf sl vl vu .none → IsPart vl lo → IsPart vu hi → r x lo hi H Q →
    ∃ T id, typeLookup (.type T) "__getitem__" = pure (some (.builtin id)) ∧ s.TypeIs v T ∧ wpAny (model X.prog X.w) X.A (getItem v (.ref sl)) (EP X pins σ Q) X.xe s
noncomputable def tSl (r : V → Option Int → Option Int → Hp → VK → Prop) (te : TE) (tl th : TO) : TE := fun σ H Q => te σ H fun x H1 => tl σ H1 fun l H2 => th σ H2 fun u H3 => r x l u H3 Q
/-- a[lo:hi], any a -/
theorem pe_slice {r : V → Option Int → Option Int → Hp → VK → Prop} (hr : SlR X r) (he : PE X e te) (hl : PO X lo tl) (hu : PO X hi th) : PE X (.Subscript e (.Slice lo hi none p2) pos) (tSl r te tl th) := by
  intro pins s σ H Q I h
  refine Subscript_ (thn (he pins s σ H _ I h) fun v s1 hsl36 => ?_)
  obtain ⟨x, H1, I1, r1, q1⟩ := hsl36
  refine wpAny_Slice (thn (hl pins s1 σ H1 _ I1 q1) fun vl s2 ⟨l, H2, I2, pl, q2⟩ => thn (hu pins s2 σ H2 _ I2 q2) fun vu s3 hsl37 => ?_)
  obtain ⟨u, H3, I3, pu, q3⟩ := hsl37
  rw [evalPart_none]
  refine wpAny_pure ?_
  have I4 : Inv X pins σ H3 { s3 with heap := s3.heap.push { cls := .type "slice", data := .fields #[vl, vu, .none] } } := I3.kept (t' := s3.toks) fun b ob q => Heap.get?_push_of_some _ q
  obtain ⟨T, id, hT, ht, hg⟩ := hr pins { s3 with heap := s3.heap.push { cls := .type "slice", data := .fields #[vl, vu, .none] } } σ H3 x v vl vu l u s3.heap.objs.size Q I4 r1 (Heap.IsSliceOf.new ..) pl pu q3
  show wpAny (model X.prog X.w) X.A (subscriptTail e (.Slice lo hi none p2) v (.ref s3.heap.objs.size)) (EP X pins σ Q) X.xe { s3 with heap := s3.heap.push { cls := .type "slice", data := .fields #[vl, vu, .none] } }
  exact tail_any (ops := [.ref s3.heap.objs.size, v]) ht hT hg (by with_unfolding_all rfl)

/-! ### t < u, t + u -/
end
end L2

namespace L2
open PySem PySem.Spec PyProof.Rows

/-! ### places -/
/-- the place that an index of any sign means -/
noncomputable def ixN (n : Nat) (i : Int) : Option Nat := if 0 ≤ i then (if i < n then some i.toNat else none) else if -(n : Int) ≤ i then some (i + n).toNat else none
noncomputable def atI {α : Type} (xs : List α) (i : Int) : Option α := (ixN xs.length i).bind fun j => xs[j]?
theorem ixN_seq {n : Nat} {i : Int} {j : Nat} (h : ixN n i = some j) : seqIndex? i n = some j ∧ j < n ∧ -(n : Int) ≤ i ∧ i < n := by
  unfold ixN at h
  by_cases h0 : 0 ≤ i
  · rw [if_pos h0] at h
    by_cases h1 : i < n
    · rw [if_pos h1] at h
      have e : i.toNat = j := Option.some.inj h
      exact ⟨by rw [seqIndex_of h0 h1, e], by (first | (assumption) | (exact Nat.lt_of_lt_of_le (by assumption) (by assumption)) | omega), by omega, h1⟩
    · rw [if_neg h1] at h; cases h
  · rw [if_neg h0] at h
    by_cases h1 : -(n : Int) ≤ i
    · rw [if_pos h1] at h
      have e : (i + n).toNat = j := Option.some.inj h
      exact ⟨by rw [seqIndex_neg (by omega) h1, e], by (first | (assumption) | (exact Nat.lt_of_lt_of_le (by assumption) (by assumption)) | omega), h1, by (clear e h1; (first | (assumption) | (exact Nat.lt_of_lt_of_le (by assumption) (by assumption)) | omega))⟩
    · rw [if_neg h1] at h; cases h
theorem atI_get {α : Type} {xs : List α} {i : Int} {v : α} (h : atI xs i = some v) : ∃ j, seqIndex? i xs.length = some j ∧ xs[j]? = some v ∧ j < xs.length ∧ -(xs.length : Int) ≤ i ∧ i < xs.length := by
  unfold atI at h
  cases e : ixN xs.length i with
  | none => rw [e] at h; cases h
  | some j =>
    rw [e] at h
    obtain ⟨h1, h2, h3, h4⟩ := ixN_seq e
    exact ⟨j, h1, h, h2, h3, h4⟩
theorem atI_nat {α : Type} {xs : List α} {j : Nat} {v : α} (h : xs[j]? = some v) : atI xs (j : Int) = some v := by
  have hj : j < xs.length := (List.getElem?_eq_some_iff.mp h).1
  have e : ixN xs.length (j : Int) = some j := by
    unfold ixN
    rw [if_pos (by (exact Int.natCast_nonneg _)), if_pos (by (exact Int.ofNat_lt.mpr (by assumption)))]; simp
  unfold atI; rw [e]; exact h
theorem atI_last {α : Type} (xs : List α) (v : α) : atI (xs ++ [v]) (-1) = some v := by
  have hl : (xs ++ [v]).length = xs.length + 1 := by simp
  have e : ixN (xs ++ [v]).length (-1) = some xs.length := by
    unfold ixN
    rw [hl, if_neg (by decide), if_pos (by (clear hl; omega))]
    congr 1
    omega
  unfold atI
  rw [e]
  show (xs ++ [v])[xs.length]? = some v
  simp

/-! ### what may be subscripted -/
/-- what stands as an index of a plain subscript -/
noncomputable def PlainIx (b : Expr) : Prop := ∀ o i, subscripted b false o i = operate [o, i] (getItem o i)
/-- a subscript by values -/
noncomputable def IxR (X : Cx) (r : R2) : Prop :=
  ∀ (value slice : Expr) (pins : List (Addr × Obj)) (s : Shared) (σ : St) (H : Hp) (x y : V) (v u : Value) (Q : VK), Inv X pins σ H s → RelV x v → RelV y u → r x y H Q →
    subscripted slice false v u = operate [v, u] (getItem v u) → wpAny (model X.prog X.w) X.A (subscriptTail value slice v u) (EP X pins σ Q) X.xe s
/-- a call of a builtin's method by values: the receiver, the arguments -/
noncomputable def MtR (X : Cx) (id : String) (r : V → List V → Hp → VK → Prop) : Prop :=
  ∀ (pins : List (Addr × Obj)) (s : Shared) (σ : St) (H : Hp) (x : V) (xs : List V) (v : Value) (us : List Value) (Q : VK), Inv X pins σ H s → RelV x v → Vals xs us → r x xs H Q →
    wpAny (model X.prog X.w) X.A (call (.builtin id) (v :: us)) (EP X pins σ Q) X.xe s
section
variable {X : Cx} {a b : Expr} {ta tb : TE} {pos : Pos}
/-- a[b] -/
theorem pe_ix {r : R2} (hr : IxR X r) (ha : PE X a ta) (hb : PE X b tb) (hs : PlainIx b) : PE X (.Subscript a b pos) (tOp r ta tb) := by
  intro pins s σ H Q I h
  exact Subscript_ (binT ha hb I h fun v u s2 x y H2 I2 rx ry q => hr a b pins s2 σ H2 x y v u Q I2 rx ry q (hs _ _))

noncomputable def rIxL (K : PySem.W.Frag) : R2 := fun x y H Q => ∃ p xs i v, x = .ref p ∧ y = .int i ∧ SqL K H p xs ∧ atI xs i = some v ∧ Q v H
noncomputable def rIxT (K : PySem.W.Frag) : R2 := fun x y H Q => ∃ p xs i v, x = .ref p ∧ y = .int i ∧ SqT K H p xs ∧ atI xs i = some v ∧ Q v H
noncomputable def rIxS : R2 := fun x y H Q => ∃ z i c, x = .str z ∧ y = .int i ∧ z.length ≤ sizeLine ∧ atI z.cps.toList i = some c ∧ Q (.str ⟨#[c]⟩) H
theorem ix_list : IxR X (rIxL X.K) := by
  intro value slice pins s σ H x y v u Q I rx ry h hs
  obtain ⟨p, xs, i, z, rfl, rfl, hq, he, q⟩ := h
  cases rx
  obtain ⟨t, rfl⟩ := ry
  obtain ⟨its, r, pl, hz⟩ := I.list hq
  obtain ⟨j, h1, h2, h3, h4, h5⟩ := atI_get he
  obtain ⟨w, ew, rw'⟩ := r.get h2
  have hl := r.length
  have hn := line63
  have fin : EP X pins σ Q w s := ⟨z, H, I, rw', q⟩
  by_cases h0 : 0 ≤ i
  · have hj : i.toNat = j := by
      rw [seqIndex_of h0 h5] at h1
      exact Option.some.inj h1
    exact item_listR pl.isList h0 (by (clear hj h0 hl h4 h3; omega)) (by rw [hj]; simpa using ew) fin hs
  · have hj : (i + (its.toArray.size : Int)).toNat = j := by
      rw [seqIndex_neg (by (clear hn hl h5 h4 h3 hz; omega)) h4] at h1
      rw [List.size_toArray, ← hl]
      exact Option.some.inj h1
    exact subscriptTail_builtinR (x := w) pl.isList.typeIs slot_list_getitem.lookup
      (wpAny_getItem_list_neg (Q := fun r s' => r = w ∧ EP X pins σ Q r s') pl.isList (by (clear hj hn hl h5 h4 h3 hz; omega)) (by rw [List.size_toArray] <;> (clear hj h0 hn h5 h3 hz; omega)) (by (clear hj h0 hl h5 h3; omega)) (by rw [hj]; simpa using ew) ⟨rfl, fin⟩) hs
theorem ix_tup : IxR X (rIxT X.K) := by
  intro value slice pins s σ H x y v u Q I rx ry h hs
  obtain ⟨p, xs, i, z, rfl, rfl, hq, he, q⟩ := h
  cases rx
  obtain ⟨t, rfl⟩ := ry
  obtain ⟨its, r, pl, hz⟩ := I.tuple hq
  obtain ⟨j, h1, h2, h3, h4, h5⟩ := atI_get he
  obtain ⟨w, ew, rw'⟩ := r.get h2
  have hl := r.length
  have hn := line63
  have fin : EP X pins σ Q w s := ⟨z, H, I, rw', q⟩
  exact subscriptTail_builtinR (x := w) pl.typeIs slot_tuple_getitem.lookup
    (getItem_tuple (j := j) (Q := fun r s' => r = w ∧ EP X pins σ Q r s') pl (by (clear hl h5 h3; omega)) (by (clear hl h4 h3; omega)) (by rw [List.size_toArray, ← hl]; exact h1) (by simpa using ew) ⟨rfl, fin⟩) hs
theorem ix_str : IxR X rIxS := by
  intro value slice pins s σ H x y v u Q I rx ry h hs
  obtain ⟨z, i, c, rfl, rfl, hz, he, q⟩ := h
  obtain ⟨t, rfl⟩ := rx
  obtain ⟨t', rfl⟩ := ry
  obtain ⟨j, h1, h2, h3, h4, h5⟩ := atI_get he
  have hl : z.cps.toList.length = z.length := by simp [Str.length]
  rw [hl] at h1 h4 h5
  have hn := line63
  exact tail_any (typeIs_str s z t) slot_str_getitem.lookup (getItem_str (c := c) (by
    have e1 : decide (i < -(2 ^ 63 : Int)) = false := decide_eq_false (by (clear hl h5 h3; omega))
    have e2 : decide (i ≥ 2 ^ 63) = false := decide_eq_false (by (clear hl h4 h3; omega))
    rw [e1, e2, Bool.or_false]) (by rw [h1]; simpa using h2) ⟨.str ⟨#[c]⟩, H, I.tok _, ⟨_, rfl⟩, q⟩) hs
/-! ### xs[i] = v, any sign -/
/-- the list's object behind a store -/
theorem mapSeq_set (its : List Value) (n j : Nat) (u : Value) : Obj.mapSeq (·.setIfInBounds j u) { cls := .type "list", data := .seq its.toArray n } = { cls := .type "list", data := .seq (its.set j u).toArray n } := by
  simp [Obj.mapSeq]
theorem Inv.lst {pins : List (Addr × Obj)} {σ : St} {H : Hp} {s : Shared} {p : Addr} {xs : List V} (I : Inv X pins σ H s) (h : H p = some (.lst xs)) :
    ∃ (its : List Value) (n : Nat), Vals xs its ∧ s.heap.get? p = some { cls := .type "list", data := .seq its.toArray n } ∧ xs.length ≤ sizeLine := by
  obtain ⟨z, its, n, r, e⟩ := I.hok p _ h
  exact ⟨its, n, r, e, z⟩
/-- the list at p is written by an update of its object -/
theorem Inv.lstUpd {pins : List (Addr × Obj)} {σ : St} {H : Hp} {s : Shared} {p : Addr} {xs ys : List V} {its its' : List Value} {n n' : Nat} {f : Obj → Obj} (I : Inv X pins σ H s) (h : H p = some (.lst xs))
    (ho : s.heap.get? p = some { cls := .type "list", data := .seq its.toArray n }) (hf : f { cls := .type "list", data := .seq its.toArray n } = { cls := .type "list", data := .seq its'.toArray n' }) (r : Vals ys its') (hz : ys.length ≤ sizeLine) (t : Nat) :
    Inv X pins σ (upd H p (.lst ys)) { s with heap := s.heap.update p f, toks := t } := by
  have e : (s.heap.update p f).get? p = some { cls := .type "list", data := .seq its'.toArray n' } := by
    rw [Heap.get?_update_self f ho (by rw [hf] <;> rfl), hf]
  refine I.write (x := p) (e := p) (by rw [h]; trivial) (.inl rfl) (fun b u hb q => (Heap.get?_update_other _ _ (Ne.symm hb)).trans q) ⟨_, e⟩ ?_
  exact ⟨hz, its', n', r, e⟩
noncomputable def rSetL : V → V → V → Hp → (Hp → Prop) → Prop := fun o i v H Q => ∃ p xs k j, o = .ref p ∧ i = .int k ∧ H p = some (.lst xs) ∧ ixN xs.length k = some j ∧ Q (upd H p (.lst (xs.set j v)))
theorem set_list : PSet X rSetL := by
  intro pins s σ H o i v ov iv u Q I ro ri rv h
  obtain ⟨p, xs, k, j, rfl, rfl, hp, hj, q⟩ := h
  cases ro
  obtain ⟨t, rfl⟩ := ri
  obtain ⟨its, n, r, ho, hz⟩ := I.lst hp
  obtain ⟨h1, h2, h3, h4⟩ := ixN_seq hj
  have hl := r.length
  have hn := line63
  have I' : Inv X pins σ (upd H p (.lst (xs.set j v))) { s with heap := s.heap.update p (Obj.mapSeq (·.setIfInBounds j u)) } :=
    I.lstUpd hp ho (mapSeq_set its n j u) (r.set rv j) (by rw [List.length_set]; exact hz) s.toks
  by_cases h0 : 0 ≤ k
  · have hk : k.toNat = j := by
      rw [seqIndex_of h0 h4] at h1
      exact Option.some.inj h1
    exact PySem.W.ki_setAt ho h0 (by (clear hk h0 hl h3 h2; omega)) (by rw [List.size_toArray, ← hl]; exact h4) (by rw [hk]; exact ⟨_, I', q⟩)
  · have hk : (k + (its.toArray.size : Int)).toNat = j := by
      rw [seqIndex_neg (by (clear hn hl h4 h3 h2 hz; omega)) h3] at h1
      rw [List.size_toArray, ← hl]
      exact Option.some.inj h1
    exact PySem.W.ki_setBack ho (by omega) (by rw [List.size_toArray, ← hl]; exact h3) (by (clear hk h0 hl h4 h2; omega)) (by rw [hk]; exact ⟨_, I', q⟩)

/-! ### slices -/
/-! ### in, not in: flat items -/
theorem op_notIn_str : OpR X (compareOp .NotIn) (fun x y H Q => ∃ i j, x = .str i ∧ y = .str j ∧ Q (.bl (!(!(Builtin.Str.occurrences j i 0 j.length 1).isEmpty))) H) := by
  intro pins s σ H x y v u Q I rx ry h
  obtain ⟨i, j, rfl, rfl, q⟩ := h
  obtain ⟨t, rfl⟩ := rx
  obtain ⟨t', rfl⟩ := ry
  exact notIn_str ⟨.bl _, H, I, rfl, q⟩

/-! ### len, list(x), tuple(x) of any list or tuple that is read -/
theorem call_len_seq : CallR X (.builtin "len") (fun xs H Q => ∃ p ys, xs = [.ref p] ∧ (SqL X.K H p ys ∨ SqT X.K H p ys) ∧ Q (.int ys.length) H) := by
  intro pins s σ H xs us Q I r h
  obtain ⟨p, ys, rfl, hq, q⟩ := h
  obtain ⟨u, rfl, rx⟩ := vals1 r
  cases rx
  have hn := line63
  rcases hq with hq | hq
  · obtain ⟨its, r', pl, hz⟩ := I.list hq
    have hlen := r'.length
    exact Calls.call_len_list pl.isList (by simp only [List.size_toArray] <;> omega) ⟨.int ys.length, H, I.tok _, ⟨s.toks + 1, by rw [List.size_toArray, hlen]⟩, q⟩
  · obtain ⟨its, r', pl, hz⟩ := I.tuple hq
    have hlen := r'.length
    exact len_tuple pl (by simp only [List.size_toArray] <;> omega) ⟨.int ys.length, H, I.tok _, ⟨s.toks + 1, by rw [List.size_toArray, hlen]⟩, q⟩
/-! ### the call of a builtin's method: o.m(..) -/
/-- the value is of that builtin type -/
noncomputable def tyV (K : PySem.W.Frag) (T : String) (x : V) (H : Hp) : Prop := match x with
  | .str _ => T = "str"
  | .int _ => T = "int"
  | .ref p => (T = "list" ∧ ∃ xs, SqL K H p xs) ∨ (T = "tuple" ∧ ∃ o, K.lookup p = some o ∧ o.cls = .type "tuple" ∧ o.dict = none) ∨
      (T = "dict" ∧ ((∃ kvs, H p = some (.dK kvs)) ∨ ∃ kvs, H p = some (.dT kvs))) ∨ (T = "set" ∧ ∃ S n, H p = some (.set S n))
  | _ => False
theorem tyV_is {pins : List (Addr × Obj)} {σ : St} {H : Hp} {s : Shared} {T : String} {x : V} {v : Value} (I : Inv X pins σ H s) (r : RelV x v) (ty : tyV X.K T x H) :
    s.TypeIs v T ∧ ∀ a, v = .ref a → ∃ ob, s.heap.get? a = some ob ∧ ob.dict = none := by
  cases x with
  | str z =>
    obtain ⟨t, rfl⟩ := r
    cases (show T = "str" from ty)
    exact ⟨typeIs_str s z t, fun _ e => nomatch e⟩
  | int i =>
    obtain ⟨t, rfl⟩ := r
    cases (show T = "int" from ty)
    exact ⟨typeIs_int s i t, fun _ e => nomatch e⟩
  | ref p =>
    cases r
    rcases ty with ⟨rfl, xs, hq⟩ | ⟨rfl, o, hk, hc, hd⟩ | ⟨rfl, hk⟩ | ⟨rfl, S, n, hk⟩
    · obtain ⟨its, _, pl, _⟩ := I.list hq
      refine ⟨pl.isList.typeIs, fun a e => ?_⟩
      cases e
      obtain ⟨o, n, e, c, hd, _⟩ := pl
      exact ⟨o, e, hd⟩
    · refine ⟨⟨o, I.kIn p o hk, hc⟩, fun a e => ?_⟩
      cases e
      exact ⟨o, I.kIn _ o hk, hd⟩
    · have z : ∃ o, s.heap.get? p = some o ∧ o.ExactDict := by
        rcases hk with ⟨kvs, hk⟩ | ⟨kvs, hk⟩
        · obtain ⟨_, _, _, _, o, _, _, e, ex, _⟩ := I.hok p _ hk
          exact ⟨o, e, ex⟩
        · obtain ⟨_, _, _, _, o, _, _, e, ex, _⟩ := I.hok p _ hk
          exact ⟨o, e, ex⟩
      obtain ⟨o, e, ex⟩ := z
      refine ⟨⟨o, e, ex.1⟩, fun a e2 => ?_⟩
      cases e2
      exact ⟨o, e, ex.2.1⟩
    · obtain ⟨o, _, _, _, e, ex, _⟩ := I.hok p _ hk
      refine ⟨⟨o, e, ex.1⟩, fun a e2 => ?_⟩
      cases e2
      exact ⟨o, e, ex.2.1⟩
  | _ => exact False.elim ty
noncomputable def tBM0 (K : PySem.W.Frag) (T : String) (r : V → List V → Hp → VK → Prop) (to : TE) : TE := fun σ H Q => to σ H fun x H1 => tyV K T x H1 ∧ r x [] H1 Q
noncomputable def tBM (K : PySem.W.Frag) (T : String) (r : V → List V → Hp → VK → Prop) (to : TE) (t : TA) : TE := fun σ H Q => to σ H fun x H1 => tyV K T x H1 ∧ t σ H1 fun xs H2 => r x xs H2 Q
variable {o e : Expr} {es : List Expr} {to : TE} {t : TA} {name : Str} {apos cpos : Pos} {T id : String} {r : V → List V → Hp → VK → Prop}
theorem pe_bm0 (pa : PlainAttrs T) (slot : Slot T name id) (hty : typeOf (.builtin id) = pure (.type "method_descriptor")) (hm : MtR X id r) (ho : PE X o to)
    (hbase : attributeBase o name X.env (eval o X.env) = eval o X.env := by rfl) (hline : (apos.endLine == cpos.line) = true := by rfl) : PE X (.Call (.Attribute o name apos) [] [] cpos) (tBM0 X.K T r to) := by
  intro pins s σ H Q I h
  refine wpAny_Call_method0_late hbase hline (thn (ho pins s σ H _ I h) fun v s1 hsl38 => ?_)
  obtain ⟨x, H1, I1, r1, ty, q1⟩ := hsl38
  obtain ⟨h1, h2⟩ := tyV_is I1 r1 ty
  exact ⟨T, id, pa, slot, hty, h1, h2, Calls.callWith_builtin rfl (PySem.evalArgs_none (hm pins s1 σ H1 x [] v [] Q I1 r1 .nil q1))⟩
theorem pe_bm (pa : PlainAttrs T) (slot : Slot T name id) (hty : typeOf (.builtin id) = pure (.type "method_descriptor")) (hm : MtR X id r) (ho : PE X o to) (ha : PA X (e :: es) t)
    (hbase : attributeBase o name X.env (eval o X.env) = eval o X.env := by rfl)
    (hfew : ((backTo cpos (starEach (e :: es) X.env)).all (fun x => !x.1) && (backToKw cpos (keywordEach [] X.env)).all (fun x => x.1.isSome)
      && decide ((e :: es).length + ([] : List Keyword).length + (if ([] : List Keyword).isEmpty then 0 else 1) < 30)) = true := by rfl)
    (hline : (apos.endLine == cpos.line) = true := by rfl) (hs : starEach (e :: es) X.env = (false, eval e X.env) :: starEach es X.env := by rfl) (hplain : (backTo cpos (starEach es X.env)).any (·.1) = false := by rfl) :
    PE X (.Call (.Attribute o name apos) (e :: es) [] cpos) (tBM X.K T r to t) := by
  intro pins s σ H Q I h
  refine wpAny_Call_method_late hbase hfew hline rfl (thn (ho pins s σ H _ I h) fun v s1 hsl39 => ?_)
  obtain ⟨x, H1, I1, r1, ty, q1⟩ := hsl39
  obtain ⟨h1, h2⟩ := tyV_is I1 r1 ty
  refine ⟨T, id, pa, slot, hty, h1, h2, ?_⟩
  have hA := ha cpos pins s1 σ H1 _ I1 q1
  rw [hs] at hA ⊢
  refine Calls.callWith_builtin (by show (false || (backTo cpos (starEach es X.env)).any (·.1)) = false; rw [hplain] <;> rfl) (Calls.evalArgs_plain ?_)
  exact thn hA fun us s2 hsl40 => by obtain ⟨vs, H2, I2, r2, q2⟩ := hsl40; exact hm pins s2 σ H2 x vs v us Q I2 r1 r2 q2
/- xs.append(e), list.index on a module's tuple .. are MtR facts of 06m -/
end
end L2

namespace L2
open PySem PySem.Spec PyProof.Rows

noncomputable def MtM (X : Cx) (id : String) (r : V → List V → Hp → VK → Prop) : Prop :=
  ∀ (pins : List (Addr × Obj)) (s : Shared) (σ : St) (H : Hp) (x : V) (xs : List V) (v : Value) (us : List Value) (Q : VK), Inv X pins σ H s → RelV x v → Vals xs us → r x xs H Q →
    wpAny (model X.prog X.w) X.A (call (.builtin id) (v :: us)) (EP X pins σ Q) X.xe s

/-! ### lists of values -/
theorem Vals.one : ∀ {x : V} {us : List Value}, Vals [x] us → ∃ u, us = [u] ∧ RelV x u
  | _, _, .cons r .nil => ⟨_, rfl, r⟩
theorem Vals.zero : ∀ {us : List Value}, Vals [] us → us = []
  | _, .nil => rfl
theorem Vals.dropLast {xs : List V} {us : List Value} (h : Vals xs us) : Vals xs.dropLast us.dropLast := by
  induction h with
  | nil => exact .nil
  | cons r t ih =>
    cases t with
    | nil => exact .nil
    | cons q t' => exact .cons r ih
theorem erase_last {α : Type} (l : List α) : l.eraseIdx (l.length - 1) = l.dropLast := by
  induction l with
  | nil => rfl
  | cons a r ih =>
    cases r with
    | nil => rfl
    | cons b r =>
      have e : (a :: b :: r).length - 1 = ((b :: r).length - 1) + 1 := by
        have h1 : (a :: b :: r).length = r.length + 2 := rfl
        have h2 : (b :: r).length = r.length + 1 := rfl
        (assumption)
      rw [e, List.eraseIdx_cons_succ, ih]
      all_goals rfl
section
variable {X : Cx} {pins : List (Addr × Obj)} {σ : St} {H : Hp} {s : Shared} {l b : Addr} {xs ys zs : List V}

/-! ### the two steps: a tracked list is rewritten, a new list is laid -/
theorem Inv.lset {its its' : List Value} {n : Nat} {f : Array Value → Array Value} {t' : Nat} (I : Inv X pins σ H s) (hH : H l = some (.lst xs))
    (e : s.heap.get? l = some { cls := .type "list", data := .seq its.toArray n }) (hf : f its.toArray = its'.toArray) (hv : Vals ys its') (hz : ys.length ≤ sizeLine) :
    Inv X pins σ (upd H l (.lst ys)) { s with heap := s.heap.update l (Obj.mapSeq f), toks := t' } := by
  have q := PySem.IsL.update e f
  rw [hf] at q
  refine I.write (x := l) (e := l) (by rw [hH]; exact trivial) (.inl rfl) (fun b' u hb hu => (Heap.get?_update_other s.heap (Obj.mapSeq f) (Ne.symm hb)).trans hu) ⟨_, q⟩ ?_
  exact ⟨hz, its', _, hv, q⟩
theorem Inv.lnew {its : List Value} {t' : Nat} (I : Inv X pins σ H s) (hv : Vals ys its) (hz : ys.length ≤ sizeLine) :
    Inv X pins σ (upd H s.heap.objs.size (.lst ys)) { s with heap := s.heap.push { cls := .type "list", data := .seq its.toArray }, toks := t' } :=
  I.laid (fun _ _ q => Heap.get?_push_of_some _ q) (Nat.le_refl _) ⟨hz, its, 0, hv, Heap.get?_push_size _ rfl⟩
theorem Inv.fresh (I : Inv X pins σ H s) : H s.heap.objs.size = none := I.hok.fresh (Nat.le_refl _)
theorem Inv.lstM (I : Inv X pins σ H s) (hH : H l = some (.lst xs)) : xs.length ≤ sizeLine ∧ ∃ (its : List Value) (n : Nat), Vals xs its ∧ xs.length = its.length ∧ s.heap.get? l = some { cls := .type "list", data := .seq its.toArray n } := by
  obtain ⟨z, its, n, r, e⟩ := I.hok l _ hH
  exact ⟨z, its, n, r, r.length, e⟩

end

section
variable {X : Cx}

/-! ### methods -/
noncomputable def rAppend : V → List V → Hp → VK → Prop := fun x vs H Q => ∃ l xs y, x = .ref l ∧ vs = [y] ∧ H l = some (.lst xs) ∧ xs.length < sizeLine ∧ Q .non (upd H l (.lst (xs ++ [y])))
theorem mt_append : MtM X "list.append" rAppend := by
  intro pins s σ H x vs v us Q I rx rv h
  obtain ⟨l, xs, y, rfl, rfl, hH, hz, q⟩ := h
  cases rx
  obtain ⟨u, rfl, ru⟩ := rv.one
  obtain ⟨z, its, n, r, hl, e⟩ := I.lstM hH
  refine call_meets F.slot_list_append ⟨_, e, rfl⟩ F.entry_list_append (F.args_list_append_2 _ _) (PySem.list_append l its.toArray n u (by rw [List.size_toArray]; omega)) ⟨e, ?_⟩
  refine ⟨.non, _, I.lset (its' := its ++ [u]) hH e (by simp) (r.append (.cons ru .nil)) ?_, rfl, q⟩
  rw [List.length_append, List.length_singleton]
  (assumption)

noncomputable def rPop : V → List V → Hp → VK → Prop := fun x vs H Q => ∃ l xs y, x = .ref l ∧ vs = [] ∧ H l = some (.lst xs) ∧ xs[xs.length - 1]? = some y ∧ Q y (upd H l (.lst xs.dropLast))
theorem mt_pop : MtM X "list.pop" rPop := by
  intro pins s σ H x vs v us Q I rx rv h
  obtain ⟨l, xs, y, rfl, rfl, hH, hy, q⟩ := h
  cases rx
  have hus := rv.zero
  subst hus
  obtain ⟨z, its, n, r, hl, e⟩ := I.lstM hH
  obtain ⟨u, hu, ru⟩ := r.get hy
  have hy' : its.toArray[its.toArray.size - 1]? = some u := by
    show its.toArray[its.length - 1]? = some u
    rw [← Array.getElem?_toList, ← hl]
    exact hu
  refine call_meets F.slot_list_pop ⟨_, e, rfl⟩ F.entry_list_pop (F.args_list_pop_1 _) (MeetsSeq.list_pop_last l its.toArray n u hy' (by rw [List.size_toArray]; omega)) ⟨e, ?_⟩
  refine ⟨y, _, I.lset (its' := its.dropLast) hH e ?_ r.dropLast ?_, ru, q⟩
  · show its.toArray.eraseIdxIfInBounds (its.toArray.size - 1) = its.dropLast.toArray
    rw [List.size_toArray, List.eraseIdxIfInBounds_toArray, erase_last]
  · rw [List.length_dropLast]
    (clear hl; omega)

/-! ### list + list, list += list, list * int -/
noncomputable def rCat : R2 := fun x y H Q => ∃ l b xs zs, x = .ref l ∧ y = .ref b ∧ H l = some (.lst xs) ∧ H b = some (.lst zs) ∧ xs.length + zs.length ≤ sizeLine ∧ ∀ p, H p = none → Q (.ref p) (upd H p (.lst (xs ++ zs)))
theorem op_cat : OpR X (binaryOp .Add) rCat := by
  intro pins s σ H x y v u Q I rx ry h
  obtain ⟨l, b, xs, zs, rfl, rfl, hH, hB, hz, q⟩ := h
  cases rx
  cases ry
  obtain ⟨z, its, n, r, hl, e⟩ := I.lstM hH
  obtain ⟨z2, its2, n2, r2, hl2, e2⟩ := I.lstM hB
  refine PySem.P.add_list e e2 ?_ (by rw [List.size_toArray, List.size_toArray]; omega)
  have ea : its.toArray ++ its2.toArray = (its ++ its2).toArray := by simp
  rw [ea]
  exact ⟨.ref _, _, I.lnew (t' := s.toks) (r.append r2) (by rw [List.length_append]; (assumption)), rfl, q _ I.fresh⟩
/-! ### del xs[i] -/
end

/-! ### xs[a:b] = ys -/
section
variable {prog : Program} {w : World} {A : Around} {E : Value → Shared → Prop} {s : Shared}
end

section
variable {X : Cx}
end
end L2

namespace Att
open PySem PySem.W PySem.Calls PyProof.Rows

/-! ### the script -/
theorem ints_of_wellAll {P : Params} {h : Heap} : ∀ (ns : List Int) (vs : List Value), WellAll P h vs (ns.map WData.int) → IntsAre vs ns := by
  intro ns
  induction ns with
  | nil =>
    intro vs w
    rw [List.map_nil] at w
    cases w
    exact .nil
  | cons n ns ih =>
    intro vs w
    rw [List.map_cons] at w
    cases w with
    | cons a b =>
      cases a
      exact .cons _ _ (ih _ b)

theorem script_of {l : OpenLaw} {n : Nat} (hn : l.most = some n) {P : Params} {h : Heap} {args : List WData} {vals : List Value}
    (hpre : l.row.toRowW.claim.pre args = true) (hwl : WellAll P h vals args) :
    ∃ a vs ns, vals = [Value.ref a] ∧ args = [WData.list (ns.map WData.int)] ∧ h.get? a = some { cls := .type "list", data := .seq vs.toArray } ∧ IntsAre vs ns ∧ ns.length ≤ n := by
  have hsh : WShape.hasAll [] args [.list .int] = true := (pre_splitW hpre).1
  have hc : l.pre.holds [] { args := args } = true := (pre_splitW hpre).2
  obtain ⟨d, r, rfl, h1, h2⟩ := hasAllW_cons hsh
  obtain rfl := hasAllW_nil h2
  obtain ⟨xs, rfl, h3⟩ := hasW_list h1
  obtain ⟨ns, rfl⟩ := items_int h3
  have hlen : ns.length ≤ n := by
    unfold OpenLaw.pre at hc
    have h4 : (WTm.not (.lt (.lit (.int (n : Int))) (.len (.arg 0)))).holds [] { args := [.list (ns.map .int)] } = true := by
      have h4 := (holds_andW hc).1
      rw [hn] at h4
      exact h4
    have h5 := condW_of h4 (w_not (w_lt w_lit (w_len_list (w_arg rfl))))
    rw [List.length_map] at h5
    refine Nat.le_of_not_lt fun q => ?_
    have q' : (n : Int) < ((ns.length : Nat) : Int) := by (exact Int.ofNat_lt.mpr (by assumption))
    first
      | (rw [decide_eq_true q'] at h5; exact absurd h5 (by decide))
      | (simp at h5; omega)
  cases hwl with
  | cons w1 w2 =>
    cases w2
    cases w1 with
    | list ho hall => exact ⟨_, _, ns, rfl, rfl, ho, ints_of_wellAll ns _ hall, hlen⟩

theorem post_true (l : OpenLaw) (args : List WData) : l.row.toRowW.claim.post args (.bool true) args = true :=
  postW_of (r := l.row.toRowW) (X := (true == true))
    (show WShape.has [] (.bool true) .bool = true by first | rfl | decide | simp [WShape.has, WShape.arms, WShape.armsAll])
    (show (WTm.eq .res (.lit (.bool true))).value [] { args := args, res := some (.bool true), after := args } = some (.bool (true == true)) from w_eq_bool (w_res rfl) w_lit) rfl

/-! ### the attachment: holds_open's last premise (the goal 'hc' behind k_head) from a wpAny of the law's body -/
/-- the same from a codeAny of the CALL (for a layer whose function contracts speak of calls) -/
theorem attach_call {l : OpenLaw} {n : Nat} {q : Program} {loose : List Str} {XP : (Str → Option Value) → Heap → Prop} {YP : World → Heap → Prop} {d : DefRec}
    (hn : l.most = some n) (hdf : d.params.defaults = [])
    (call : ∀ (w : World) (s₀ s₁ : Shared) (mg mb : Str → Option Value) (fa : Addr) (o : Obj) (pm cd doc : Value) (a : Addr) (vs : List Value) (ns : List Int),
      Ground q loose [] XP w s₀ mg mb s₁.heap → YP w s₁.heap →
      s₁.heap.get? fa = some o → o.data = .func (docDef d.name d.params d.body d.scope pm cd doc) → s₁.heap.CodeRec cd d.name → mg d.name = some (.ref fa) →
      s₁.heap.get? a = some { cls := .type "list", data := .seq vs.toArray } → IntsAre vs ns → ns.length ≤ n → s₁.gens = #[] →
      codeAny (model l.prog w) callerA (.call (.ref fa) ⟨[.ref a], []⟩) (fun r s' => r = .ok (.ret (.bool true)) ∧ OldK s₁.heap s'.heap ∧ s'.os = s₁.os ∧ AllBare s'.gens) s₁) :
    WalkO q loose XP YP l.row.toRowW d [] (fun f vs => PySem.call f vs) := by
  intro w s₀ s₁ mg mb G Y fa o pm cd doc dV kV ho hd hcd hD hmg hg args vals as hpre hlay hrd hwl hlo
  obtain rfl : dV = .none := Dflts.none hD hdf
  obtain rfl : kV = .none := Dflts.noKw hD
  obtain ⟨a, vs, ns, rfl, rfl, hobj, hints, hlen⟩ := script_of hn hpre hwl
  refine enter_call (codeAny_mono (call w s₀ s₁ mg mb fa o pm cd doc a vs ns G Y ho (fd_plain hd) hcd hmg hobj hints hlen hg) fun r s' hq => ?_)
  obtain ⟨rfl, h2, h3, h4⟩ := hq
  exact ⟨.inl ⟨.bool true, .bool true, [], rfl, fun _ => rfl, .bool true, post_true l _, fun _ => ⟨List.Pairwise.nil, fun _ hm => (nomatch hm)⟩⟩, h2, h3, h4⟩

/-! ### rules over ANY heap (no ledger) from facts about the written part K: the library's own take a ledger (News) for what they write -/
section
variable {prog : Program} {w : World} {A : Around} {E : Value → Shared → Prop} {s : Shared} {K : Frag}

/-! the whole heap as the ledger: makes every rule that writes through a ledger a rule over any heap -/
end
end Att

namespace L2
open PySem PySem.Spec PyProof.Rows

theorem vals_ints : ∀ {vs : List Value} {ns : List Int}, IntsAre vs ns → Vals (ns.map V.int) vs
  | _, _, .nil => .nil
  | _, _, .cons n t h => .cons ⟨t, rfl⟩ (vals_ints h)

/-- nothing is tracked but the script, known to the object (or it is an object of the module) -/
noncomputable def Only (H : Hp) : Prop := ∀ b, H b = none ∨ ∃ o xs, H b = some (.frz o (.lst xs))

/-- THE HEAD: the law's promise, at the heap behind the top. F, the promise of the law's def, may use that base is part of the heap (so K.In base, base.Ns mainGlobals mg stand in Mod) -/
theorem law_call {P : Program} {w : World} {K : PySem.W.Frag} {mg mb : Str → Option Value} {CX : CXT} {k : Nat} {fa a : Addr} {fd : FuncData} {x : Str} {sp : Sp} {s₁ : Shared} {vs : List Value} {ns : List Int}
    (KX : K.In s₁.heap) (hns : s₁.heap.Ns mainGlobals mg) (hb : s₁.heap.Ns builtinsNs mb) (hbb : ∀ x : Str, x ≠ "__name__" → mb x = bootBuiltins x) (hlim : s₁.heap.NoLimit) (hg : s₁.gens = #[])
    (ha : s₁.heap.get? a = some { cls := .type "list", data := .seq vs.toArray }) (hi : IntsAre vs ns) (hl : ns.length ≤ sizeLine) (hr : Room k callerA)
    (F : ∀ base : Heap, K.In base → base.Ns mainGlobals mg → FnOk P w K mg base CX k fa fd [x] sp) (hbind : ∀ (s : Shared) (u : Value), BindsTo s fd ⟨[u], []⟩ [(x, u)])
    (hsp : ∀ H : Hp, Only H → SqL K H a (ns.map V.int) → sp [.ref a] H (fun v _ => v = .bl true) fun _ _ _ => False)
    (hCX : ∀ H e s', CX [] H s₁ (fun _ _ _ => False) e s' → False) :
    codeAny (model P w) callerA (.call (.ref fa) ⟨[.ref a], []⟩) (fun r s' => r = .ok (.ret (.bool true)) ∧ OldK s₁.heap s'.heap ∧ s'.os = s₁.os ∧ AllBare s'.gens) s₁ := by
  have rv := vals_ints hi
  have lenV := hi.length
  -- from an abstract heap in which nothing but the script may be tracked
  have core : ∀ H : Hp, Only H → SqL K H a (ns.map V.int) → HOk P w H s₁.heap → (∀ b, H b ≠ none → b = a) → (H a ≠ none → K.lookup a = none) →
      codeAny (model P w) callerA (.call (.ref fa) ⟨[.ref a], []⟩) (fun r s' => r = .ok (.ret (.bool true)) ∧ OldK s₁.heap s'.heap ∧ s'.os = s₁.os ∧ AllBare s'.gens) s₁ := by
    intro H hO hS hok hA hK
    have base_of : ∀ {b : Addr} {o : Obj}, s₁.heap.get? b = some o → H b = none → (hidT s₁.heap H).get? b = some o := fun e n => hidT_get e n
    have noA : ∀ {b : Addr} {o : Obj} {es : Array DictEntry} {ep : Nat}, s₁.heap.get? b = some o → o.data = .dict es ep → H b = none := fun {b o es ep} e d => by
      cases q : H b with
      | none => rfl
      | some u =>
        have e' : b = a := hA b (by rw [q]; simp)
        subst e'
        rw [ha] at e; cases e
        have d' : Data.seq vs.toArray _ = Data.dict es ep := d
        cases d'
    have nsK : ∀ {b : Addr} {m : Str → Option Value}, s₁.heap.Ns b m → (hidT s₁.heap H).Ns b m := fun {b m} ⟨o, es, ep, e, d, r⟩ => ⟨o, es, ep, base_of e (noA e d), d, r⟩
    have hKb : K.In (hidT s₁.heap H) := fun b o e => base_of (KX b o e) (by
      cases q : H b with
      | none => rfl
      | some u =>
        have e' : b = a := hA b (by rw [q]; simp)
        subst e'
        rw [hK (by rw [q]; simp)] at e; cases e)
    have hM : Mod K mg (hidT s₁.heap H) := ⟨hKb, nsK hns, ⟨mb, nsK hb, hbb⟩, by obtain ⟨mc, h1, h2⟩ := hlim; exact ⟨mc, nsK h1, h2⟩⟩
    have e0 : Env0 P w K mg (hidT s₁.heap H) callerA [] s₁ H := ⟨rfl, hM, fun b o e => of_hidT e, Nat.le_of_eq (hidT_size _ _), trivial, fun b hb => absurd (show b ∈ ([] : List Addr) from hb) (by simp), hok, .of_eq hg⟩
    refine codeAny_mono ((F _ hKb (nsK hns)).run callerA [] s₁ H ⟨[.ref a], []⟩ [.ref a] [.ref a] _ _ hr e0 (hbind s₁ (.ref a)) (.cons rfl .nil) (hsp H hO hS)) fun r s' h => ?_
    cases r with
    | error e => exact (hCX H e s' h).elim
    | ok fl =>
      cases fl with
      | next => exact False.elim h
      | brk => exact False.elim h
      | cont => exact False.elim h
      | ret u =>
        obtain ⟨v, H', os, bare, un, hok', r', q⟩ := h
        have q' : v = .bl true := q
        subst q'
        obtain rfl : u = Value.bool true := r'
        refine ⟨rfl, OldK.of_keep fun b o e => ?_, os, bare⟩
        cases q : H b with
        | none => exact un.keep b o e q (by intro z; exact absurd (show b ∈ ([] : List Addr) from z) (by simp)) (by simp)
        | some u =>
          rcases hO b with z | ⟨ob, xs, z⟩
          · rw [q] at z; cases z
          · have z2 := un.frzs b ob _ z
            obtain ⟨e1, _⟩ := hok b _ z
            obtain ⟨e2, _⟩ := hok' b _ z2
            rw [e] at e1; cases e1
            exact e2
  cases hk : K.lookup a with
  | some o =>
    -- the script is one of the module's own objects
    have e := KX a o hk
    rw [ha] at e
    cases e
    refine core (fun _ => none) (fun _ => .inl rfl) (.inr ⟨_, vs.toArray, _, hk, rfl, rfl, rfl, by rw [List.size_toArray, lenV]; exact hl, by simpa using rv⟩) (fun b u z => by have z' : (none : Option HO) = some u := z; cases z') (fun b z => absurd rfl z) fun z => absurd rfl z
  | none =>
    refine core (fun b => if b = a then some (.frz { cls := .type "list", data := .seq vs.toArray } (.lst (ns.map V.int))) else none) (fun b => ?_) (.inl (.inr ⟨{ cls := .type "list", data := .seq vs.toArray }, if_pos rfl⟩)) (fun b u z => ?_) (fun b z => ?_) fun _ => hk
    · by_cases hb : b = a
      · exact .inr ⟨_, _, if_pos hb⟩
      · exact .inl (if_neg hb)
    · by_cases hb : b = a
      · have z' := (if_pos hb).symm.trans z
        cases z'
        subst hb
        exact ⟨ha, by rw [List.length_map]; exact hl, vs, _, rv, ha⟩
      · have z' := (if_neg hb).symm.trans z
        cases z'
    · by_cases hb : b = a
      · exact hb
      · exact absurd (if_neg hb) z
end L2

namespace L2
open PySem PySem.Spec PyProof.Rows

/-- the goal that k_head leaves (case hc), from the law's promise. F gives the function object fd (K's own) once, then the promise over every base -/
theorem walk_of {l : PySem.W.OpenLaw} {n k : Nat} {q : Program} {loose : List Str} {XP : (Str → Option Value) → Heap → Prop} {YP : World → Heap → Prop} {d : DefRec} {K : Params → PySem.W.Frag} {CX : World → CXT} {sp : World → Sp} {x : Str}
    (hn : l.most = some n) (hn2 : n ≤ sizeLine) (hdf : d.params.defaults = []) (hr : Room k callerA)
    (hY : ∀ (w : World) (h : Heap), YP w h → (K w.params).In h)
    (F : ∀ (w : World) (mg : Str → Option Value) (fa : Addr) (h : Heap), (K w.params).In h → h.Ns mainGlobals mg → mg d.name = some (.ref fa) →
      ∃ fd : FuncData, (∀ (s : Shared) (u : Value), BindsTo s fd ⟨[u], []⟩ [(x, u)]) ∧
        ∀ base : Heap, (K w.params).In base → base.Ns mainGlobals mg → FnOk l.prog w (K w.params) mg base (CX w) k fa fd [x] (sp w))
    (hsp : ∀ (w : World) (H : Hp) (a : Addr) (ns : List Int), ns.length ≤ n → Only H → SqL (K w.params) H a (ns.map V.int) → sp w [.ref a] H (fun v _ => v = .bl true) fun _ _ _ => False)
    (hCX : ∀ (w : World) (H : Hp) (s : Shared) (e : Value) (s' : Shared), CX w [] H s (fun _ _ _ => False) e s' → False) :
    PySem.W.WalkO q loose XP YP l.row.toRowW d [] (fun f vs => PySem.call f vs) := by
  refine Att.attach_call hn hdf fun w s₀ s₁ mg mb fa o pm cd doc a vs ns G Y ho hd hcd hmg hobj hints hlen hg => ?_
  have KX := hY w _ Y
  obtain ⟨fd, hb, hF⟩ := F w mg fa _ KX G.T.g hmg
  exact law_call KX G.T.g G.T.b G.T.builtins G.T.nolimit hg hobj hints (Nat.le_trans hlen hn2) hr hF hb (fun H hO hS => hsp w H a ns hlen hO hS) fun H e s' => hCX w H s₁ e s'
end L2

/- THE LAST THEOREM (shape; LID, My.* are yours):
   My.Adr: a structure of the addresses that your layer names (classes, functions); My.Txt K t: a structure (Prop) of the equations over K;
   My.txt_mk : {K} {implicit addresses ..} (e1 : nsIn K mainGlobals "law" = some (some (.ref f))) (e2 : K.lookup f = some ⟨oc, od, .func (fnOf "law" "law" params body scope dV kV doc pm an cdv ct), sl⟩) (e3 : codeIn K cdv "law" = true) .. : ∃ t, My.Txt K t

set_option maxRecDepth 100000 in
set_option maxHeartbeats 0 in
theorem PySem.Challenge.cw_LID_holds : PySem.Challenge.rw_LID.Holds := by
  w_on; o_law; k_head; (case hw => w_witness2)
  k_fill
  refine L2.walk_of (l := PySem.Challenge.rw_LID) (n := 63) (k := 40) (x := "script") (CX := fun w => ..) (sp := fun _ => My.sp_law) rfl (by decide) rfl ⟨rfl, by decide, by decide⟩ (fun w h Y => PySem.W.kIn_of Y) ?F ?S ?C
  case F =>
    intro w mg fa h KX G hmg
    have T : ∃ t, My.Txt (L2.KOf KX) t := by
      dsimp only [L2.KOf]                          -- K must stand as «<heap const> w.params» for k_is
      refine' My.txt_mk ?e1 ?e2 ?e3 ..
      (case e1 => PySem.W.k_is)                    -- in the order: a name -> its address -> its object -> its parts
      (case e2 => PySem.W.k_is)
      ..
    obtain ⟨t, T⟩ := T
    have e0 := hmg.symm.trans (PySem.W.mg_of KX G T.law)
    cases e0                                       -- fa is the law's own address
    exact ⟨_, fun s u => .of_eq rfl, fun base kb nb => My.law_fn T kb nb⟩     -- if «.of_eq rfl» comes too early: refine' ⟨_, ?b, fun base kb nb => My.law_fn T kb nb⟩; exact fun s u => .of_eq rfl
  case S => exact fun w H a ns hl hO hS => ..
  case C => exact ..
(the tactic k_is has no namespace: write k_is) -/

/-! SHORT WORDS over the layer: a def of the text, its body, what a loop and a test want. -/
namespace L2
open PySem PySem.Spec PyProof.Rows

/-! ### the text by places -/
/-- the j-th statement of a class's body -/
noncomputable def inClass (s : Stmt) (j : Nat) : Stmt := match s with
  | .ClassDef _ _ _ body _ _ _ _ _ _ _ => body.getD j (.Pass ⟨0, 0, 0, 0⟩)
  | _ => .Pass ⟨0, 0, 0, 0⟩
noncomputable def defArgs (s : Stmt) : Arguments := match s with
  | .FunctionDef _ a _ _ _ _ _ _ _ _ => a
  | _ => { posonlyargs := [], args := [], vararg := none, kwonlyargs := [], kw_defaults := [], kwarg := none, defaults := [] }
noncomputable def defBody (s : Stmt) : List Stmt := match s with
  | .FunctionDef _ _ b _ _ _ _ _ _ _ => b
  | _ => []
noncomputable def defScope (s : Stmt) : Scope := match s with
  | .FunctionDef _ _ _ _ _ _ sc _ _ _ => sc
  | _ => { kind := .function, names := [], isGenerator := false, isCoroutine := false }

/-! ### no exception leaves a def -/
noncomputable abbrev CX0 : CXT := fun _ _ _ _ _ _ => False
noncomputable abbrev E0 : XK := fun _ _ _ => False
theorem pass0 {X : Cx} : Passes CX0 X E0 := fun _ _ _ _ _ _ _ h => h.elim

/-! ### a def (or method) of the text as it stands behind the top -/
structure Fun (K : PySem.W.Frag) (x qual : Str) (st : Stmt) (f : Addr) (fd : FuncData) : Prop where
  ex : ∃ (oc : Value) (od : Option Addr) (kV doc pm : Value) (an : Option Addr) (cdv ct : Value) (osl : Array (Option Value)),
    fd = PySem.W.fnOf x qual (defArgs st) (defBody st) (defScope st) .none kV doc pm an cdv ct ∧ K.lookup f = some ⟨oc, od, .func fd, osl⟩ ∧ PySem.W.codeIn K cdv qual = true
  kp : PySem.W.keepIn K (.ref f) = true
section
variable {P : Program} {w : World} {K : PySem.W.Frag} {mg : Str → Option Value} {base : Heap}
/-- THE RULE for a def: its body as a term of rules, and the reading of that term -/
theorem Fun.ok {x qual : Str} {st : Stmt} {f : Addr} {fd : FuncData} {N ps : List Str} {k : Nat} {sp : Sp} (F : Fun K x qual st f fd) (S : FnScope N ps (defScope st)) (len : ∀ vs H Q E, sp vs H Q E → vs.length = ps.length)
    (hbody : ∀ (cdv : Value) (A : Around) (outer : List Env) (s : Shared) (H : Hp) (vs : List V) (Q : VK) (E : XK), Room k (A.deeper (envOfC qual (defScope st) s.heap.objs.size f cdv)) → sp vs H Q E →
      ∃ t, PSs (cxOf CX0 P w K mg base N qual (defScope st) f cdv A outer s H E).nox (defBody st) t ∧ t { nx := fun _ H' => Q .non H', rt := Q } (start N vs) H) : FnOk P w K mg base CX0 (k + 1) f fd ps sp := by
  obtain ⟨oc, od, kV, doc, pm, an, cdv, ct, osl, rfl, lk, hcd⟩ := F.ex
  refine fn_of lk hcd S len fun A outer s H vs Q E hr hsp => ?_
  obtain ⟨t, h, q⟩ := hbody cdv A outer s H vs Q E hr hsp
  exact ⟨t, h.nox, q⟩
/-- how its arguments bind (no defaults): h is «fun _ _ _ _ _ _ us hl => match us, hl with | [_, _], _ => rfl», one _ a parameter -/
theorem Fun.binds {x qual : Str} {st : Stmt} {f : Addr} {fd : FuncData} {ps : List Str} (F : Fun K x qual st f fd)
    (h : ∀ (kV doc pm : Value) (an : Option Addr) (cdv ct : Value) (us : List Value), us.length = ps.length → bindArgs (PySem.W.fnOf x qual (defArgs st) (defBody st) (defScope st) .none kV doc pm an cdv ct) ⟨us, []⟩ = pure (ps.zip us)) : Binds K fd ps [] := by
  obtain ⟨oc, od, kV, doc, pm, an, cdv, ct, osl, rfl, lk, hcd⟩ := F.ex
  exact .all (h kV doc pm an cdv ct)
theorem fun_mk {x qual : Str} {st : Stmt} {f : Addr} {oc : Value} {od an : Option Addr} {osl : Array (Option Value)} {kV doc pm cdv ct : Value} (l : K.lookup f = some ⟨oc, od, .func (PySem.W.fnOf x qual (defArgs st) (defBody st) (defScope st) .none kV doc pm an cdv ct), osl⟩)
    (c : PySem.W.codeIn K cdv qual = true) (k : PySem.W.keepIn K (.ref f) = true) : Fun K x qual st f (PySem.W.fnOf x qual (defArgs st) (defBody st) (defScope st) .none kV doc pm an cdv ct) := ⟨⟨oc, od, kV, doc, pm, an, cdv, ct, osl, rfl, l, c⟩, k⟩
end
theorem small1000 {n : Nat} (h : n ≤ 1000) : n < sizeLine := Nat.lt_of_le_of_lt h (by decide)

/-! ### expressions in short: the name that stands in the i-th slot -/
section
variable {X : Cx}
theorem pv (i : Nat) {x : Str} {pos : Pos} (hN : X.N[i]? = some x := by rfl) (hv : Vis X.env.scope x := by first | exact Or.inl rfl | exact Or.inr (Or.inl rfl) | exact Or.inr (Or.inr rfl)) (hd : (x == ("__debug__" : Str)) = false := by decide)
    (hcd : (x == ("__classdict__" : Str)) = false := by decide) : PE X (.Name x pos) (tVar i) := pe_var hN hv hd hcd
end

/-! ### tests -/
theorem iteF {A B : Prop} (h : B) : if false = true then A else B := by
  rw [if_neg Bool.false_ne_true]
  exact h
theorem iteT {A B : Prop} (h : A) : if true = true then A else B := by
  rw [if_pos rfl]
  exact h
theorem ite2 {c A B : Prop} [Decidable c] (h1 : c → A) (h2 : ¬ c → B) : if c then A else B := by
  by_cases h : c
  · rw [if_pos h]
    exact h1 h
  · rw [if_neg h]
    exact h2 h
theorem iteNS {c A B : Prop} [Decidable c] (hc : c) (h : B) : if (!decide c) = true then A else B := by
  rw [decide_eq_true hc]
  exact iteF h

/-! ### heaps -/
/-- all that was tracked is as it was -/
noncomputable def Same (H H' : Hp) : Prop := ∀ b o, H b = some o → H' b = some o
theorem Same.refl (H : Hp) : Same H H := fun _ _ h => h
theorem Same.trans {H H1 H2 : Hp} (a : Same H H1) (b : Same H1 H2) : Same H H2 := fun c o h => b c o (a c o h)
theorem Same.seq {K : PySem.W.Frag} {H H' : Hp} {a : Addr} {xs : List V} (e : Same H H') (h : SqL K H a xs) : SqL K H' a xs := by
  rcases h with (h | ⟨o, h⟩) | h
  · exact .inl (.inl (e _ _ h))
  · exact .inl (.inr ⟨o, e _ _ h⟩)
  · exact .inr h

end L2

set_option Elab.async false
set_option linter.all false
set_option maxRecDepth 100000
set_option maxHeartbeats 4000000
namespace L2
open PySem PySem.Spec PyProof.Rows

/-! ### comprehensions: [elt for x in iter if c] over the layer -/
noncomputable abbrev cmpTests (ifs : List Expr) (env : Env) : Sem Bool :=
  forIn ifs true fun c r => if r = true then do let ok ← isTrue c env (eval c env); pure (ForInStep.yield ok) else pure (ForInStep.yield r)

noncomputable def clOf (cells : List (Str × Addr)) : List (Str × NameKind) → List (Str × Addr) → List (Str × Addr)
  | [], acc => acc
  | (n, k) :: r, acc => clOf cells r (if k == .free then (n, (cells.lookup n).getD 0) :: acc else acc)
theorem clOf_eq {env : Env} : ∀ (ns : List (Str × NameKind)) (acc : List (Str × Addr)), (∀ y ∈ ns, y.2 = .free → ∃ c, env.cells.lookup y.1 = some c) →
    (forIn ns acc fun (p : Str × NameKind) (cs : List (Str × Addr)) => (if p.2 == .free then (do let c ← cellOf env p.1; pure (ForInStep.yield ((p.1, c) :: cs))) else pure (ForInStep.yield cs) : Sem (ForInStep (List (Str × Addr))))) = (pure (clOf env.cells ns acc) : Sem (List (Str × Addr)))
  | [], acc, _ => rfl
  | (n, k) :: r, acc, h => by
    rw [List.forIn_cons]
    by_cases hk : k = .free
    · subst hk
      obtain ⟨c, hc⟩ := h (n, .free) List.mem_cons_self rfl
      have e1 : cellOf env n = pure c := by unfold cellOf; rw [show env.cells.lookup n = some c from hc]
      simp only [beq_self_eq_true, if_true, e1, clOf, hc, Option.getD_some]
      exact clOf_eq r ((n, c) :: acc) fun y hy => h y (List.mem_cons_of_mem _ hy)
    · have hb : (k == NameKind.free) = false := by simpa using hk
      simp only [hb, Bool.false_eq_true, if_false, clOf]
      exact clOf_eq r acc fun y hy => h y (List.mem_cons_of_mem _ hy)
theorem closure_eq {env : Env} {sc : Scope} (h : ∀ y ∈ sc.names, y.2 = .free → ∃ c, env.cells.lookup y.1 = some c) : closureFor sc env = pure (clOf env.cells sc.names []) := by
  unfold closureFor
  have q := clOf_eq (env := env) sc.names [] h
  have e : (forIn sc.names [] fun (p : Str × NameKind) (cs : List (Str × Addr)) => (match p with | (name, kind) => if kind == .free then (do let c ← cellOf env name; pure (ForInStep.yield ((name, c) :: cs))) else pure (ForInStep.yield cs) : Sem (ForInStep (List (Str × Addr))))) = (pure (clOf env.cells sc.names []) : Sem (List (Str × Addr))) := q
  simp only [e]
  rfl
theorem clOf_look {cells : List (Str × Addr)} : ∀ (ns : List (Str × NameKind)) (acc : List (Str × Addr)), (∀ y ∈ ns, y.2 = .free → ∃ c, cells.lookup y.1 = some c) → (∀ y c, acc.lookup y = some c → cells.lookup y = some c) →
    (∀ y c, (clOf cells ns acc).lookup y = some c → cells.lookup y = some c) ∧ (∀ y, (acc.lookup y).isSome = true → ((clOf cells ns acc).lookup y).isSome = true) ∧ (∀ y, (y, NameKind.free) ∈ ns → ((clOf cells ns acc).lookup y).isSome = true)
  | [], acc, _, h2 => ⟨h2, fun _ h => h, fun _ h => nomatch h⟩
  | (n, k) :: r, acc, h1, h2 => by
    have h1' : ∀ y ∈ r, y.2 = .free → ∃ c, cells.lookup y.1 = some c := fun y hy => h1 y (List.mem_cons_of_mem _ hy)
    by_cases hk : k = .free
    · subst hk
      obtain ⟨c, hc⟩ := h1 (n, .free) List.mem_cons_self rfl
      have hc' : cells.lookup n = some c := hc
      have e : clOf cells ((n, .free) :: r) acc = clOf cells r ((n, c) :: acc) := by simp only [clOf, beq_self_eq_true, if_true, hc', Option.getD_some]
      have ih := clOf_look (cells := cells) r ((n, c) :: acc) h1' (fun y d hy => by
        rw [List.lookup_cons] at hy
        cases q : y == n with
        | true => rw [q] at hy; cases hy; rw [eq_of_beq q]; exact hc'
        | false => rw [q] at hy; exact h2 y d hy)
      rw [e]
      refine ⟨ih.1, fun y hy => ih.2.1 y ?_, fun y hy => ?_⟩
      · rw [List.lookup_cons]; split
        · rfl
        · exact hy
      · rcases List.mem_cons.mp hy with z | z
        · cases z; exact ih.2.1 n (by rw [List.lookup_cons]; simp)
        · exact ih.2.2 y z
    · have hb : (k == NameKind.free) = false := by simpa using hk
      have e : clOf cells ((n, k) :: r) acc = clOf cells r acc := by simp only [clOf, hb, Bool.false_eq_true, if_false]
      have ih := clOf_look (cells := cells) r acc h1' h2
      rw [e]
      refine ⟨ih.1, ih.2.1, fun y hy => ?_⟩
      rcases List.mem_cons.mp hy with z | z
      · cases z; exact absurd rfl hk
      · exact ih.2.2 y z

/-! names of the block -/
structure CompSc (scX sc : Scope) (NX : List Str) (x : Str) (fv : List Str) (js : List Nat) : Prop where
  kind : sc.kind = .function
  kindX : scX.kind = .function
  cell : ∀ y ∈ sc.names, y.2 ≠ .cell
  own : sc.names.lookup x = some .local
  names : ∀ y ∈ sc.names, y.2 = .local → sc.names.lookup y.1 = some .local
  free : ∀ y ∈ sc.names, y.2 = .free → scX.names.lookup y.1 = some .cell
  nd : (x :: fv).Nodup
  at' : js.map (fun j => NX[j]?) = fv.map some
  fr : ∀ y ∈ fv, sc.names.lookup y = some .free

theorem relabel_free {env : Env} (hk : env.scope.kind = .function) : ∀ {ns : List (Str × NameKind)} {y : Str}, ns.lookup y = some .free → env.kindOf y = some .cell →
    (ns.map fun (n, k) => if (k == NameKind.free && env.scope.kind == .function && env.kindOf n == some .cell) then (n, NameKind.cell) else (n, k)).lookup y = some .cell
  | [], _, h, _ => by simp at h
  | (n, k) :: r, y, h, hc => by
    have ih := @relabel_free env hk r y
    show List.lookup y ((if (k == NameKind.free && env.scope.kind == .function && env.kindOf n == some .cell) = true then (n, NameKind.cell) else (n, k)) :: _) = _
    cases hx : y == n with
    | true =>
      simp only [List.lookup_cons, hx] at h
      cases h
      have e : y = n := eq_of_beq hx
      subst e
      simp [List.lookup_cons, hc, hk]
    | false =>
      simp only [List.lookup_cons, hx] at h
      split <;> (simp only [List.lookup_cons, hx]; exact ih h hc)
theorem relabel_back {env : Env} : ∀ {ns : List (Str × NameKind)} {y : Str}, (∀ z ∈ ns, z.2 ≠ .cell) →
    ((ns.map fun (n, k) => if (k == NameKind.free && env.scope.kind == .function && env.kindOf n == some .cell) then (n, NameKind.cell) else (n, k)).lookup y = some .cell ∨
     (ns.map fun (n, k) => if (k == NameKind.free && env.scope.kind == .function && env.kindOf n == some .cell) then (n, NameKind.cell) else (n, k)).lookup y = some .free) → (y, NameKind.free) ∈ ns
  | [], _, _, h => by simp at h
  | (n, k) :: r, y, hz, h => by
    have ih := @relabel_back env r y fun z hm => hz z (List.mem_cons_of_mem _ hm)
    have hk : k ≠ .cell := hz (n, k) List.mem_cons_self
    rw [List.map_cons] at h
    by_cases hc : (k == NameKind.free && env.scope.kind == .function && env.kindOf n == some .cell) = true
    · have hf : k = .free := by
        rw [Bool.and_eq_true, Bool.and_eq_true] at hc
        exact eq_of_beq hc.1.1
      simp only [hc, if_true, List.lookup_cons] at h
      cases hx : y == n with
      | true => rw [eq_of_beq hx, hf]; exact List.mem_cons_self
      | false => rw [hx] at h; exact List.mem_cons_of_mem _ (ih h)
    · rw [Bool.not_eq_true] at hc
      simp only [hc, Bool.false_eq_true, if_false, List.lookup_cons] at h
      cases hx : y == n with
      | true =>
        rw [hx] at h
        rcases h with h | h
        · exact absurd (Option.some.inj h) hk
        · have : k = .free := Option.some.inj h
          rw [eq_of_beq hx, this]; exact List.mem_cons_self
      | false => rw [hx] at h; exact List.mem_cons_of_mem _ (ih h)

/-- the slots of the free names -/
noncomputable def pick (js : List Nat) (σ : St) : St := js.map fun j => (σ[j]?).getD none

/-- the block's context -/
noncomputable abbrev xc (X : Cx) (sc : Scope) (x : Str) (fv : List Str) (C : Addr) (s0 : Shared) (H0 : Hp) (ex : List Addr) : Cx :=
  { X with N := x :: fv, s₀ := s0, H₀ := H0, env := compEnvC sc (clOf X.env.cells sc.names []) C X.env, outer := X.stack, ex := ex, fn := fun _ => false, pn := [], xe := fun _ _ => False }

/-- the clause's tests -/
noncomputable def PIf (X : Cx) (ifs : List Expr) (t : TT) : Prop :=
  ∀ (pins : List (Addr × Obj)) (s : Shared) (σ : St) (H : Hp) (Q : Bool → Hp → Prop), Inv X pins σ H s → t σ H Q → wpAny (model X.prog X.w) X.A (cmpTests ifs X.env) (TP X pins σ Q) X.xe s
noncomputable def tYes : TT := fun _ H Q => Q true H
theorem tYes_ok {σ : St} {H : Hp} {Q : Bool → Hp → Prop} (h : Q true H) : tYes σ H Q := h
theorem pif_nil {X : Cx} : PIf X [] tYes := fun _ _ _ H _ I h => wpAny_tests_nil ⟨H, I, h⟩
theorem pif_one {X : Cx} {c : Expr} {t : TT} (hc : PT X c t) : PIf X [c] t := fun pins s σ H Q I h => wpAny_tests_one (hc pins s σ H Q I h)

/-- the reading of a comprehension -/
noncomputable def tCompB (J : It) (js : List Nat) (tt : TT) (te : TE) : TE := fun σ H1 Q => ∃ W : Nat → Nat → List V → Hp → Prop, (∃ m, W 0 m [] H1) ∧ ∀ i m ys H, W i m ys H →
  (J.stop i H ∧ ∀ p, H p = none → Q (.ref p) (upd H p (.lst ys))) ∨
  (J.go i H ∧ ∃ N : List V → Hp → Prop, (∀ ys' H', N ys' H' → ∃ m', m' < m ∧ W (i + 1) m' ys' H') ∧
    ∀ x H', J.yld i H x H' → tt (some x :: pick js σ) H' fun b H2 => if b = true then te (some x :: pick js σ) H2 fun y H3 => ys.length < sizeLine ∧ N (ys ++ [y]) H3 else N ys H2)
noncomputable def tComp (wi : TI) (js : List Nat) (tt : TT) (te : TE) : TE := fun σ H Q => wi σ H fun J H1 => tCompB J js tt te σ H1 Q

section
variable {X : Cx} {pins : List (Addr × Obj)} {σ : St} {H2 : Hp} {s2 : Shared} {elt iter : Expr} {x : Str} {px : Pos} {ifs : List Expr} {sc scX : Scope} {pos : Pos} {fv : List Str} {js : List Nat} {tt : TT} {te : TE}

/-! the forms one uses -/
theorem comp_range {lo : Int} {n : Nat} {σ : St} {H : Hp} {Q : VK} (Pv : Nat → List V → Hp → Prop) (h0 : Pv 0 [] H)
    (hs : ∀ i ys H, i < n → Pv i ys H → tt (some (.int (lo + i)) :: pick js σ) H fun b H2 => if b = true then te (some (.int (lo + i)) :: pick js σ) H2 fun y H3 => ys.length < sizeLine ∧ Pv (i + 1) (ys ++ [y]) H3 else Pv (i + 1) ys H2)
    (hd : ∀ ys H, Pv n ys H → ∀ p, H p = none → Q (.ref p) (upd H p (.lst ys))) :
    tCompB (Itr lo n) js tt te σ H Q := by
  refine ⟨fun i m ys H => m = n - i ∧ i ≤ n ∧ Pv i ys H, ⟨n, by simp, Nat.zero_le _, h0⟩, ?_⟩
  rintro i m ys H ⟨rfl, hi, p⟩
  by_cases hlt : i < n
  · refine .inr ⟨hlt, Pv (i + 1), fun ys' H' p' => ⟨n - (i + 1), by (exact Nat.sub_lt_sub_left (by assumption) (Nat.lt_succ_self _)), rfl, hlt, p'⟩, fun x H' y => ?_⟩
    obtain ⟨e, y⟩ := y
    subst e y
    exact hs i ys _ hlt p
  · have e : i = n := by omega
    subst e
    exact .inl ⟨Nat.le_refl _, hd ys H p⟩
theorem comp_list {K : PySem.W.Frag} {a : Addr} {xs : List V} {σ : St} {H : Hp} {Q : VK} (Pv : Nat → List V → Hp → Prop) (h0 : Pv 0 [] H) (hl : ∀ i ys H, i ≤ xs.length → Pv i ys H → SqL K H a xs)
    (hs : ∀ i x ys H, xs[i]? = some x → Pv i ys H → tt (some x :: pick js σ) H fun b H2 => if b = true then te (some x :: pick js σ) H2 fun y H3 => ys.length < sizeLine ∧ Pv (i + 1) (ys ++ [y]) H3 else Pv (i + 1) ys H2)
    (hd : ∀ ys H, Pv xs.length ys H → ∀ p, H p = none → Q (.ref p) (upd H p (.lst ys))) :
    tCompB (Itl K a) js tt te σ H Q := by
  refine ⟨fun i m ys H => m = xs.length - i ∧ i ≤ xs.length ∧ Pv i ys H, ⟨xs.length, by simp, Nat.zero_le _, h0⟩, ?_⟩
  rintro i m ys H ⟨rfl, hi, p⟩
  have q := hl i ys H hi p
  by_cases hlt : i < xs.length
  · refine .inr ⟨⟨xs, xs[i], q, by simp [hlt]⟩, Pv (i + 1), fun ys' H' p' => ⟨xs.length - (i + 1), by (exact Nat.sub_lt_sub_left (by assumption) (Nat.lt_succ_self _)), rfl, hlt, p'⟩, fun x H' y => ?_⟩
    obtain ⟨e, y⟩ := y
    subst e
    exact hs i x ys _ (y xs q) p
  · have e : i = xs.length := by omega
    subst e
    exact .inl ⟨⟨xs, q, Nat.le_refl _⟩, hd ys H p⟩
end
end L2

set_option linter.all false
namespace Mm
open PySem

/-! bits of natural numbers -/
theorem or_xor_and : ∀ (n a b : Nat), a ≤ n → (a ||| b) = (a ^^^ b) + (a &&& b)
  | 0, a, b, h => by
    have : a = 0 := by omega
    subst this
    simp
  | n + 1, a, b, h => by
    by_cases ha : a = 0
    · subst ha; simp
    · have ih := or_xor_and n (a / 2) (b / 2) (by omega)
      have e1 : (a ||| b) / 2 = a / 2 ||| b / 2 := Nat.or_div_two
      have e2 : (a ^^^ b) / 2 = a / 2 ^^^ b / 2 := Nat.xor_div_two
      have e3 : (a &&& b) / 2 = a / 2 &&& b / 2 := Nat.and_div_two
      have m1 : (a ||| b) % 2 = (a % 2 ||| b % 2) := by simpa using Nat.or_mod_two_pow (a := a) (b := b) (n := 1)
      have m2 : (a ^^^ b) % 2 = (a % 2 ^^^ b % 2) := by simpa using Nat.xor_mod_two_pow (a := a) (b := b) (n := 1)
      have m3 : (a &&& b) % 2 = (a % 2 &&& b % 2) := by simpa using Nat.and_mod_two_pow (a := a) (b := b) (n := 1)
      have d : ∀ x < 2, ∀ y < 2, (x ||| y) = (x ^^^ y) + (x &&& y) := by decide
      have dd := d (a % 2) (Nat.mod_lt _ (by decide)) (b % 2) (Nat.mod_lt _ (by decide))
      rw [← Nat.div_add_mod (a ||| b) 2, ← Nat.div_add_mod (a ^^^ b) 2, ← Nat.div_add_mod (a &&& b) 2, e1, e2, e3, m1, m2, m3, ih, dd, Nat.mul_add, Nat.add_add_add_comm]
theorem bitAnd_nat (a b : Nat) : Builtin.bitAnd (a : Int) (b : Int) = ((a &&& b : Nat) : Int) := by
  rw [PyProof.Rows.bitAnd_pp (by (exact Int.natCast_nonneg _)) (by (exact Int.natCast_nonneg _))]
  simp
theorem bitOr_nat (a b : Nat) : Builtin.bitOr (a : Int) (b : Int) = ((a ||| b : Nat) : Int) := by
  have ha : ¬ 0 ≤ Builtin.bitNot (a : Int) := by unfold Builtin.bitNot; omega
  have hb : ¬ 0 ≤ Builtin.bitNot (b : Int) := by unfold Builtin.bitNot; (clear ha; omega)
  unfold Builtin.bitOr
  rw [PyProof.Rows.bitAnd_nn ha hb, PyProof.Rows.bitNot_bitNot, PyProof.Rows.bitNot_bitNot, PyProof.Rows.bitNot_bitNot]
  simp
theorem bitXor_nat (a b : Nat) : Builtin.bitXor (a : Int) (b : Int) = ((a ^^^ b : Nat) : Int) := by
  unfold Builtin.bitXor
  rw [bitOr_nat, bitAnd_nat]
  have := or_xor_and a a b (Nat.le_refl _)
  omega
theorem bits_nat {a m : Nat} (h : a < 2 ^ m) : (Builtin.Int.intBits (a : Int) : Nat) ≤ m := intBits_le_iff.mpr (by simpa using h)

/-! the number whose bits below N are p's -/
noncomputable def mk (p : Nat → Bool) : Nat → Nat
  | 0 => 0
  | N + 1 => mk p N + (if p N then 2 ^ N else 0)
theorem mk_lt (p : Nat → Bool) : ∀ N, mk p N < 2 ^ N
  | 0 => by simp [mk]
  | N + 1 => by
    have ih := mk_lt p N
    rw [Nat.pow_succ]
    simp only [mk]
    split <;> omega
theorem mk_bit (p : Nat → Bool) : ∀ (N s : Nat), (mk p N).testBit s = (decide (s < N) && p s)
  | 0, s => by simp [mk]
  | N + 1, s => by
    have ih := mk_bit p N s
    have lt := mk_lt p N
    simp only [mk]
    have e : mk p N + (if p N then 2 ^ N else 0) = 2 ^ N * (if p N then 1 else 0) + mk p N := by split <;> simp [Nat.add_comm]
    rw [e, Nat.testBit_two_pow_mul_add _ lt]
    by_cases h1 : s < N
    · rw [if_pos h1, ih]; simp [h1, Nat.lt_succ_of_lt h1]
    · rw [if_neg h1]
      by_cases h2 : s = N
      · subst h2
        cases hp : p s <;> simp
      · have h3 : ¬ s < N + 1 := by (clear e lt; omega)
        have h4 : s - N ≠ 0 := by (clear h3 e lt; omega)
        have : ∀ b : Bool, (if b then 1 else 0 : Nat).testBit (s - N) = false := by
          intro b
          obtain ⟨d, hd⟩ : ∃ d, s - N = d + 1 := ⟨s - N - 1, (Nat.sub_one_add_one h4).symm⟩
          rw [hd]
          cases b <;> simp [Nat.testBit_succ]
        rw [this]; simp [h3]
theorem mk_eq {p : Nat → Bool} {N a : Nat} (h : ∀ s, a.testBit s = (decide (s < N) && p s)) : a = mk p N := Nat.eq_of_testBit_eq fun s => by rw [h, mk_bit]
theorem testBit_mod (s k : Nat) : s.testBit k = decide (s / 2 ^ k % 2 = 1) := by rw [Nat.testBit_eq_decide_div_mod_eq]

/-! the mask of a switch -/
noncomputable def sw (k n : Nat) : Nat := mk (fun s => s.testBit k) (2 ^ n)
theorem sw_start (k : Nat) : (2 ^ 2 ^ k - 1) * 2 ^ 2 ^ k = mk (fun s => s.testBit k) (2 ^ (k + 1)) := by
  refine mk_eq fun s => ?_
  rw [← Nat.shiftLeft_eq, Nat.testBit_shiftLeft, Nat.testBit_two_pow_sub_one, testBit_mod]
  have hp : 0 < 2 ^ k := Nat.two_pow_pos k
  have e : 2 ^ (k + 1) = 2 * 2 ^ k := by rw [Nat.pow_succ]; omega
  rw [e]
  generalize 2 ^ k = r at hp ⊢
  by_cases h1 : s < r
  · have : s / r = 0 := Nat.div_eq_of_lt h1
    have q : decide (s ≥ r) = false := by simp; (assumption)
    rw [q, this]; simp
  · by_cases h2 : s < 2 * r
    · have : s / r = 1 := by
        have a : s / r < 2 := Nat.div_lt_of_lt_mul (by (clear h1 hp e; omega))
        have b : 1 ≤ s / r := (Nat.le_div_iff_mul_le hp).mpr (by (clear a h2 hp e; omega))
        (clear h2 h1 hp e; omega)
      have q1 : decide (s ≥ r) = true := by simp; (exact Nat.le_of_not_lt (by assumption))
      have q2 : decide (s - r < r) = true := by simp; (clear this h1 hp e; omega)
      have q3 : decide (s < 2 * r) = true := by simp; (assumption)
      rw [q1, q2, q3, this]; simp
    · have q : decide (s < 2 * r) = false := by simp; (exact Nat.le_of_not_lt (by assumption))
      have q2 : decide (s - r < r) = false := by simp; (clear h1 hp e; omega)
      rw [q, q2]; simp
theorem period (a k c : Nat) : (a + 2 ^ (k + 1) * c).testBit k = a.testBit k := by
  rw [testBit_mod, testBit_mod]
  have hp : 0 < 2 ^ k := Nat.two_pow_pos k
  have e : 2 ^ (k + 1) * c = 2 ^ k * (2 * c) := by rw [Nat.pow_succ, Nat.mul_assoc]
  rw [e, Nat.add_mul_div_left _ _ hp]
  have : (a / 2 ^ k + 2 * c) % 2 = a / 2 ^ k % 2 := by (simp; done)
  rw [this]
theorem sw_step (k c : Nat) : (mk (fun s => s.testBit k) (2 ^ (k + 1) * c) ||| mk (fun s => s.testBit k) (2 ^ (k + 1) * c) * 2 ^ (2 ^ (k + 1) * c)) = mk (fun s => s.testBit k) (2 * (2 ^ (k + 1) * c)) := by
  refine mk_eq fun s => ?_
  rw [Nat.testBit_or, ← Nat.shiftLeft_eq, Nat.testBit_shiftLeft, mk_bit, mk_bit]
  generalize hw : 2 ^ (k + 1) * c = w
  by_cases h1 : s < w
  · have : ¬ s ≥ w := by (exact Nat.not_le.mpr (by assumption))
    have h2 : s < 2 * w := by (clear this hw; omega)
    simp [h1, this, h2]
  · have h0 : s ≥ w := by (exact Nat.le_of_not_lt (by assumption))
    have e : s.testBit k = (s - w).testBit k := by
      have := period (s - w) k c
      rw [hw] at this
      rw [← this]
      congr 1
      (clear h0 hw; omega)
    by_cases h2 : s < 2 * w
    · have h3 : s - w < w := by (clear h0 h1 hw; omega)
      simp [h1, h0, h2, h3, e]
    · have h3 : ¬ s - w < w := by (clear h0 h1 hw; omega)
      simp [h1, h2, h3]
end Mm

set_option Elab.async false
set_option linter.all false
set_option maxRecDepth 100000
set_option maxHeartbeats 4000000
namespace L2
open PySem PySem.Spec PyProof.Rows
section
variable {X : Cx}
/-! ### shifts of great numbers -/
noncomputable def CShl (i j : Int) : Prop := 0 ≤ j ∧ ∃ m : Nat, i.natAbs < 2 ^ m ∧ (m : Int) + j ≤ 2 ^ 27
theorem op_shlB : OpR X (binaryOp .LShift) (rI CShl fun i j => .int (i * 2 ^ j.toNat)) := opI fun i j _ _ _ _ _ hc q => by
  obtain ⟨h0, m, hm, hs⟩ := hc
  have hb : (Builtin.Int.intBits i : Nat) ≤ m := intBits_le_iff.mpr hm
  exact lshift_int h0 (by (clear hm h0; omega)) q
/-! ### isinstance(x, T), T a built-in type -/
theorem call_isinst {n : String} : CallR X (.builtin "isinstance") (fun xs H Q => ∃ x t b, xs = [x, .ty n] ∧ TyOf X.K H x t ∧ PySem.W.kitOne X.K t (.type n) = some b ∧ Q (.bl b) H) := by
  intro pins s σ H xs us Q I r h
  obtain ⟨x, t, b, rfl, ty, e, q⟩ := h
  obtain ⟨u, w', rfl, rx, rw'⟩ := vals2 r
  cases (show w' = Value.type n from rw')
  exact isinst_ok I rx ty e fun tk => ⟨.bl b, H, I.tok _, rfl, q⟩
end
theorem bt_len : bootBuiltins "len" = some (.builtin "len") := by decide +kernel
theorem bt_isi : bootBuiltins "isinstance" = some (.builtin "isinstance") := by decide +kernel
theorem bt_int : bootBuiltins "int" = some (.type "int") := by decide +kernel
theorem bt_bool : bootBuiltins "bool" = some (.type "bool") := by decide +kernel
theorem kit_int_int (K : PySem.W.Frag) : PySem.W.kitOne K (.type "int") (.type "int") = some true := by rfl
theorem kit_int_bool (K : PySem.W.Frag) : PySem.W.kitOne K (.type "int") (.type "bool") = some false := by rfl
theorem ix_listK {X : Cx} {K : PySem.W.Frag} (h : X.K = K) : IxR X (rIxL K) := by subst h; exact ix_list
theorem pow2 (k : Nat) : (2 : Int) ^ k = ((2 ^ k : Nat) : Int) := by simp
theorem shl1 (n : Nat) : (1 : Int) * 2 ^ ((n : Int)).toNat = ((2 ^ n : Nat) : Int) := by rw [pow2, Int.toNat_natCast]; (simp; done)
theorem cshl {a n m : Nat} (h : a < 2 ^ m) (hs : m + n ≤ 2 ^ 27) : CShl (a : Int) (n : Int) := ⟨by (exact Int.natCast_nonneg _), m, by rw [Int.natAbs_natCast]; exact h, by (exact Int.ofNat_le.mpr (by assumption))⟩
end L2

set_option Elab.async false
set_option linter.all false
set_option maxRecDepth 100000
set_option maxHeartbeats 4000000
namespace L2
open PySem PySem.Spec PyProof.Rows
section
variable {X : Cx}
/-! ### n.bit_length() -/
theorem mt_bitlen : MtR X "int.bit_length" (fun x xs H Q => ∃ i, x = .int i ∧ xs = [] ∧ Q (.int ((Builtin.Int.intBits i : Nat) : Int)) H) := by
  intro pins s σ H x xs v us Q I rx rs h
  obtain ⟨i, rfl, rfl, q⟩ := h
  obtain ⟨t, rfl⟩ := rx
  cases rs
  exact call_int_bit_length ⟨.int _, H, I.tok _, ⟨_, rfl⟩, q⟩
/-! ### two lists of ints, compared -/
/-! ### all([..]) of truths -/
/-! ### range(lo, hi, step) -/
end
theorem kit_bool_bool (K : PySem.W.Frag) : PySem.W.kitOne K (.type "bool") (.type "bool") = some true := by rfl
end L2

set_option Elab.async false
set_option linter.all false
set_option maxRecDepth 100000
set_option maxHeartbeats 4000000
namespace L2
open PySem PySem.Spec PyProof.Rows
section
variable {X : Cx}
/-! ### text[lo:hi] -/
noncomputable def cutS (z : Str) (lo hi : Option Int) : Str := ⟨((z.cps.toList.drop (HT.sIx z.length 0 lo)).take (HT.sIx z.length z.length hi - HT.sIx z.length 0 lo)).toArray⟩
theorem clipN {i : Int} {n : Nat} (h : i < 0) : max 0 (min (i + (n : Int)) (n : Int)) = (((i + (n : Int)).toNat : Nat) : Int) := by
  rw [Int.ofNat_toNat, Int.max_comm, Int.min_eq_left]
  simpa using Int.add_le_add_right (Int.le_of_lt h) (n : Int)
theorem clipP {i : Int} {n : Nat} (h : ¬ i < 0) : max 0 (min i (n : Int)) = ((min i.toNat n : Nat) : Int) := by
  obtain ⟨k, rfl⟩ := Int.eq_ofNat_of_zero_le (Int.not_lt.mp h)
  rw [Int.toNat_natCast, Int.max_eq_right (Int.le_min.mpr ⟨Int.natCast_nonneg _, Int.natCast_nonneg _⟩)]
  rcases Nat.le_total k n with q | q
  · rw [Nat.min_eq_left q, Int.min_eq_left (Int.ofNat_le.mpr q)]
  · rw [Nat.min_eq_right q, Int.min_eq_right (Int.ofNat_le.mpr q)]
theorem sIx_clip (n d : Nat) (v : Option Int) : (match v with | none => (d : Int) | some i => max 0 (min (if i < 0 then i + (n : Int) else i) (n : Int))) = ((HT.sIx n d v : Nat) : Int) := by
  cases v with
  | none => rfl
  | some i =>
    show max 0 (min (if i < 0 then i + (n : Int) else i) (n : Int)) = (((if i < 0 then (i + (n : Int)).toNat else min i.toNat n) : Nat) : Int)
    by_cases h : i < 0
    · simp only [if_pos h]; exact clipN h
    · simp only [if_neg h]; exact clipP h
theorem sliceIdx (lo hi : Option Int) (n : Nat) : Builtin.Str.strSliceIndices lo hi 1 n = (List.range (HT.sIx n n hi - HT.sIx n 0 lo)).map (HT.sIx n 0 lo + ·) := by
  rw [← sliceRange_one]
  have e1 := sIx_clip n 0 lo
  have e2 := sIx_clip n n hi
  rw [← e1, ← e2]
  rfl
theorem slice_cut (z : Str) (lo hi : Option Int) : Txt.slice z lo hi = cutS z lo hi := by
  have hL := HT.sIx_le z.length 0 (Nat.zero_le _) lo
  have hH := HT.sIx_le z.length z.length (Nat.le_refl _) hi
  have hz : z.cps.toList.length = z.length := by simp [Str.length]
  unfold Txt.slice cutS
  rw [sliceIdx]
  split
  · rename_i h
    have h' : HT.sIx z.length z.length hi - HT.sIx z.length 0 lo = z.length := by simpa using h
    rw [h']
    by_cases h0 : HT.sIx z.length 0 lo = 0
    · rw [h0, List.drop_zero, List.take_of_length_le (by (exact Nat.le_refl _))]
    · have : z.length = 0 := by (clear hz hL; omega)
      omega
  · rw [pick_run]
theorem cutS_list (z : Str) (lo hi : Option Int) : (cutS z lo hi).cps.toList = (z.cps.toList.drop (HT.sIx z.length 0 lo)).take (HT.sIx z.length z.length hi - HT.sIx z.length 0 lo) := rfl
theorem cutS_from (z : Str) (k : Nat) : (cutS z (some (k : Int)) none).cps.toList = z.cps.toList.drop k := by
  rw [cutS_list, HT.sIx_none, HT.sIx_nat]
  have hz : z.cps.toList.length = z.length := by simp [Str.length]
  rcases Nat.le_total k z.length with h | h
  · rw [Nat.min_eq_left h, List.take_of_length_le]; rw [List.length_drop]; (exact Nat.le_refl _)
  · rw [Nat.min_eq_right h, Nat.sub_self, List.take_zero, List.drop_of_length_le (by (assumption))]
theorem sl_str : SlR X (fun x lo hi H Q => ∃ z, x = .str z ∧ z.length ≤ sizeLine ∧ Q (.str (cutS z lo hi)) H) := by
  intro pins s σ H x v vl vu lo hi sl Q I rx hs pl pu h
  obtain ⟨z, rfl, hz, q⟩ := h
  obtain ⟨t, rfl⟩ := rx
  rw [← slice_cut] at q
  refine ⟨"str", _, slot_str_getitem.lookup, typeIs_str s z t, ?_⟩
  have key : ∀ (l u : Option (Int × Tok)), s.heap.IsSliceOf sl (partValue l) (partValue u) .none → l.map (·.1) = lo → u.map (·.1) = hi → wpAny (model X.prog X.w) X.A (getItem (.str z t) (.ref sl)) (EP X pins σ Q) X.xe s := by
    intro l u hs' hl hu
    subst hl hu
    exact wpAny_getItem_str_slice (l := l) (u := u) (st := none) hs' rfl (post_val_or_str ⟨Nat.le_trans (Txt.slice_le z _ _) hz, fun t' k => ⟨.str (Txt.slice z (l.map (·.1)) (u.map (·.1))), H, I.tok k, ⟨t', rfl⟩, q⟩⟩)
  cases pl with
  | none => cases pu with
    | none => exact key none none hs rfl rfl
    | int j tj => exact key none (some (j, tj)) hs rfl rfl
  | int i ti => cases pu with
    | none => exact key (some (i, ti)) none hs rfl rfl
    | int j tj => exact key (some (i, ti)) (some (j, tj)) hs rfl rfl
/-! ### find, index -/
theorem mt_find : MtR X "str.find" (fun x xs H Q => ∃ a b, x = .str a ∧ xs = [.str b] ∧ Q (.int (match Builtin.Str.occurrences a b 0 a.length 1 with | i :: _ => (i : Int) | [] => -1)) H) := by
  intro pins s σ H x xs v us Q I rx rs h
  obtain ⟨a, b, rfl, rfl, q⟩ := h
  obtain ⟨t, rfl⟩ := rx
  obtain ⟨u, rfl, ru⟩ := vals1 rs
  obtain ⟨t', rfl⟩ := ru
  exact call_gives PySem.F.slot_str_find (typeIs_str s a t) PySem.F.entry_str_find (PySem.F.args_str_find_2 _ _) (gives_str_find a b t t') ⟨.int _, H, I.tok _, ⟨_, rfl⟩, q⟩
/-! ### for-loops over n things that hang on nothing -/
noncomputable def ItN (n : Nat) (y : Nat → V) : It := ⟨fun i _ => i < n, fun i H x H' => H' = H ∧ x = y i, fun i _ => n ≤ i⟩
theorem for_N {n : Nat} {y : Nat → V} {g : TG} {tb : TS} {D : Ends} {σ : St} {H : Hp} (Pv : Nat → St → Hp → Prop) (h0 : Pv 0 σ H)
    (hs : ∀ i σ H, i < n → Pv i σ H → g (y i) σ H fun σ2 H2 => tb { D with nx := Pv (i + 1), ct := Pv (i + 1), bk := D.nx } σ2 H2) (hd : ∀ σ H, Pv n σ H → D.nx σ H) :
    ∃ W : Nat → Nat → St → Hp → Prop, (∃ m, W 0 m σ H) ∧ ∀ i m σ H, W i m σ H →
      ((ItN n y).stop i H ∧ D.nx σ H) ∨ ((ItN n y).go i H ∧ ∃ N : St → Hp → Prop, (∀ σ' H', N σ' H' → ∃ m', m' < m ∧ W (i + 1) m' σ' H') ∧ ∀ x H', (ItN n y).yld i H x H' → g x σ H' fun σ2 H2 => tb { D with nx := N, ct := N, bk := D.nx } σ2 H2) := by
  refine ⟨fun i m σ H => m = n - i ∧ i ≤ n ∧ Pv i σ H, ⟨n, by simp, Nat.zero_le _, h0⟩, ?_⟩
  rintro i m σ H ⟨rfl, hi, p⟩
  by_cases hlt : i < n
  · refine .inr ⟨hlt, Pv (i + 1), fun σ' H' p' => ⟨n - (i + 1), by (exact Nat.sub_lt_sub_left (by assumption) (Nat.lt_succ_self _)), rfl, hlt, p'⟩, fun x H' y => ?_⟩
    obtain ⟨e, y⟩ := y
    subst e y
    exact hs i σ _ hlt p
  · have e : i = n := by omega
    subst e
    exact .inl ⟨Nat.le_refl _, hd σ H p⟩
end
end L2

namespace PySem.F
theorem slot_reversed_init : Slot "reversed" "__init__" "object.__init__" :=
  .of (owner := "object") (n := "__init__") (by rw [typeLookup_type, builtinLookup_eq_fast]; kernel_rfl) (by decide +kernel) (by decide +kernel) (by decide +kernel)
    (by first | exact .inl (by decide +kernel) | exact .inr (by decide +kernel)) (by rw [isSubtype_type]; kernel_rfl)
theorem called_reversed : TypeCalled "reversed" "reversed.__new__" "object.__init__" :=
  ⟨by decide +kernel, by decide +kernel, ⟨_, _, mro_reversed⟩, made_reversed, by decide +kernel, by rw [isSubtype_type]; kernel_rfl, slot_reversed_init⟩
theorem owner_reversed : Manifest.owners.lookup (String.ofList ['d', 'e', 's', 'r', 'e', 'v', 'e', 'r'].reverse) = some Manifest.sig_reversed := by kernel_rfl
theorem slot_reversed_next : Slot "reversed" "__next__" "reversed.__next__" :=
  .of (owner := "reversed") (n := "__next__") (by rw [typeLookup_type, builtinLookup_eq_fast]; kernel_rfl) (by decide +kernel) (by decide +kernel) (by decide +kernel)
    (by first | exact .inl (by decide +kernel) | exact .inr (by decide +kernel)) (by rw [isSubtype_type]; kernel_rfl)
theorem entry_reversed_next : entryFor table "reversed.__next__" = some Builtin.«reversed.__next__» := entryFor_of_tree (by kernel_rfl)
theorem args_reversed_next_1 (a : Value) : argsOk "reversed.__next__" ⟨[a], []⟩ := by
  unfold argsOk; rw [signature?_of (id := "reversed.__next__") (n := ['_', '_', 't', 'x', 'e', 'n', '_', '_']) (o := ['d', 'e', 's', 'r', 'e', 'v', 'e', 'r']) (by kernel_rfl) owner_reversed]; kernel_rfl
theorem slot_reversed_iter : Slot "reversed" "__iter__" "reversed.__iter__" :=
  .of (owner := "reversed") (n := "__iter__") (by rw [typeLookup_type, builtinLookup_eq_fast]; kernel_rfl) (by decide +kernel) (by decide +kernel) (by decide +kernel)
    (by first | exact .inl (by decide +kernel) | exact .inr (by decide +kernel)) (by rw [isSubtype_type]; kernel_rfl)
theorem args_reversed_iter_1 (a : Value) : argsOk "reversed.__iter__" ⟨[a], []⟩ := by
  unfold argsOk; rw [signature?_of (id := "reversed.__iter__") (n := ['_', '_', 'r', 'e', 't', 'i', '_', '_']) (o := ['d', 'e', 's', 'r', 'e', 'v', 'e', 'r']) (by kernel_rfl) owner_reversed]; kernel_rfl
theorem entry_reversed_iter : entryFor table "reversed.__iter__" = some Builtin.«dict_keyiterator.__iter__» :=
  entryFor_alias (id' := "dict_keyiterator.__iter__") (by kernel_rfl) (by first | rfl | decide +kernel | (unfold String.splitOn; simp +decide [String.splitOnAux])) (by decide +kernel) (by kernel_rfl)
theorem str_no_reversed : typeLookup (.type "str") "__reversed__" = pure none := by rw [typeLookup_type, builtinLookup_eq_fast]; kernel_rfl

end PySem.F

set_option Elab.async false
set_option linter.all false
set_option maxRecDepth 100000
set_option maxHeartbeats 4000000
namespace PySem
section
variable {prog : Program} {w : World} {A : Around} {E : Value → Shared → Prop} {s : Shared}
noncomputable def revS (x : Str) (t : Tok) (i : Int) : Obj := { cls := .type "reversed", data := .fields #[.str x t, rawInt i] }
noncomputable def Heap.IsRevS (h : Heap) (a : Addr) (x : Str) (t : Tok) (i : Int) : Prop := ∃ o, h.get? a = some o ∧ o.cls = .type "reversed" ∧ o.data = .fields #[.str x t, rawInt i]
theorem Heap.IsRevS.typeIs {a : Addr} {x : Str} {t : Tok} {i : Int} (y : s.heap.IsRevS a x t i) : s.TypeIs (.ref a) "reversed" := by obtain ⟨o, ho, hc, _⟩ := y; exact ⟨o, ho, hc⟩
theorem Heap.IsRevS.at {h h' : Heap} {a : Addr} {x : Str} {t : Tok} {i : Int} (y : h.IsRevS a x t i) (e : ∀ o, h.get? a = some o → h'.get? a = some o) : h'.IsRevS a x t i := by obtain ⟨o, ho, r⟩ := y; exact ⟨o, e _ ho, r⟩
theorem code_reversed_newS {x : Str} {t : Tok} {Q₁ : Value → Shared → Prop} (hz : x.length ≤ sizeLine)
    (h : ∀ tk, Q₁ (.ref s.heap.objs.size) { s with heap := s.heap.push (revS x t ((x.length : Int) - 1)), toks := tk }) :
    codeAny (model prog w) A (.call (.builtin "reversed.__new__") ⟨[.type "reversed", .str x t], []⟩) (wants Q₁ E) s := by
  refine codeAny_of_tree ?_
  show wpAny _ A.in1 (do checkBuiltinCall "reversed.__new__" ⟨[.type "reversed", .str x t], []⟩; again (.builtin "reversed.__new__" ⟨[.type "reversed", .str x t], []⟩)) _ _ s
  refine wpAny_bind (wpAny_of_eq (F.newCall_reversed_1 _) (wpAny_pure ⟨plainId_quiet F.plain_reversed_new _, codeAny_builtin F.entry_reversed_new ?_⟩))
  rw [Around.under_plainId F.plain_reversed_new _]
  unfold Builtin.«reversed.__new__»
  refine wpAny_bind (wpAny_of_eq (newClass_reversed _) ?_)
  try dsimp only
  refine wpAny_bind (wpAny_of_eq (a := ()) (by first | rfl | kernel_rfl) ?_)
  refine wpAny_bind (wpAny_of_eq (a := ()) (by first | rfl | kernel_rfl) ?_)
  try dsimp only
  refine wpAny_bind (wpAny_specialOf (typeIs_str s x t) F.str_no_reversed ?_)
  show wpAny _ _ (_ >>= _) _ _ _
  refine wpAny_bind (wpAny_of_eq (a := true) (by kernel_rfl) ?_)
  rw [if_neg (show ¬ ((!true) = true) from Bool.false_ne_true)]
  refine wpAny_bind (PyProof.Rows.len_str (by rw [sizeLine_eq] at hz; omega) ?_)
  refine wpAny_bind (wpAny_of_eq (a := some (x.length : Int)) rfl ?_)
  try dsimp only
  refine wpAny_bind ?_
  unfold Builtin.SmallTypes.newRecord
  refine wpAny_newObj_type (wpAny_pure ?_)
  exact h _

theorem call_reversed_str {x : Str} {t : Tok} {Q : Value → Shared → Prop} (hz : x.length ≤ sizeLine)
    (h : ∀ tk, Q (.ref s.heap.objs.size) { s with heap := s.heap.push (revS x t ((x.length : Int) - 1)), toks := tk }) : wpAny (model prog w) A (call (.type "reversed") [.str x t]) Q E s := by
  refine callType_codes (Q₁ := fun obj s₁ => obj = .ref s.heap.objs.size ∧ ∃ tk, s₁ = { s with heap := s.heap.push (revS x t ((x.length : Int) - 1)), toks := tk }) F.called_reversed (F.typeCall_reversed_1 _) F.entry_object_init
    (code_reversed_newS hz fun tk => ⟨rfl, tk, rfl⟩) fun obj s₁ h₁ => ?_
  obtain ⟨rfl, tk, rfl⟩ := h₁
  have hT : ({ s with heap := s.heap.push (revS x t ((x.length : Int) - 1)), toks := tk } : Shared).TypeIs (.ref s.heap.objs.size) "reversed" := ⟨_, Heap.get?_push_size _ rfl, rfl⟩
  exact ⟨hT, F.args_object_init_2 _ _, object_init_meets F.called_reversed.init.lookup F.called_reversed.made (by decide) prog w A.in1 _ _ ⟨hT, rfl, h tk⟩⟩

theorem revS_item {it : Addr} {x : Str} {t : Tok} {i : Nat} {c : Nat} {Q : Option Value → Shared → Prop} (hz : x.length ≤ sizeLine) (hit : s.heap.IsRevS it x t (i : Int)) (hc : x.cps.toList[i]? = some c)
    (hQ : ∀ h' tk tc, h'.IsRevS it x t ((i : Int) - 1) → Heap.SameBut it s.heap h' → Q (some (.str ⟨#[c]⟩ tc)) { s with heap := h', toks := tk }) : wpAny (model prog w) A (pyNext (.ref it)) Q E s := by
  obtain ⟨o, ho, hcl, hd⟩ := id hit
  unfold pyNext
  refine wpAny_bind (wpAny_attempt (wpAny_callSpecial?_slot (name := Str.ofString "__next__") hit.typeIs F.slot_reversed_next
    (wpAny_call_entry F.slot_reversed_next hit.typeIs F.entry_reversed_next ?_ (F.args_reversed_next_1 _))))
  unfold Builtin.«reversed.__next__»
  refine wpAny_bind (wpAny_of_eq (a := (Value.ref it, [])) rfl ?_)
  try dsimp only
  refine wpAny_bind (wpAny_field ho hd (x := .str x t) rfl ?_)
  refine wpAny_bind (wpAny_field ho hd (x := rawInt (i : Int)) rfl ?_)
  show wpAny _ _ (if (i : Int) < 0 then _ else _) _ _ s
  rw [if_neg (by (simp; done))]
  refine wpAny_bind (wpAny_specialOf (typeIs_str s x t) F.slot_str_getitem.lookup ?_)
  rw [if_neg (show ¬ ((some (Value.builtin "str.__getitem__")).isNone = true) from Bool.false_ne_true)]
  refine wpAny_bind (wpAny_mkInt ?_)
  have hil : i < x.length := by
    have := (List.getElem?_eq_some_iff.mp hc).1
    simpa [Str.length] using this
  rw [sizeLine_eq] at hz
  have hsq : (seqIndex? (i : Int) x.length).bind (x.cps[·]?) = some c := by
    have : seqIndex? (i : Int) x.length = some i := by
      unfold seqIndex?
      simp only [show ¬ ((i : Int) < 0) by (simp; done), if_false]
      simp [hil]
    rw [this]
    simpa using hc
  refine wpAny_bind (wpAny_attempt (PyProof.Rows.getItem_str (c := c) (by
    have e1 : decide ((i : Int) < -(2 ^ 63 : Int)) = false := decide_eq_false (by (simp; done))
    have e2 : decide ((i : Int) ≥ 2 ^ 63) = false := decide_eq_false (by omega)
    rw [e1, e2, Bool.or_false]) hsq ?_))
  try dsimp only
  refine wpAny_bind (wpAny_field ho hd (x := rawInt (i : Int)) rfl ?_)
  show wpAny _ _ (setField (.ref it) 1 (rawInt ((i : Int) - 1)) >>= _) _ _ _
  refine wpAny_bind (wpAny_setField ho hd (by simp) ?_)
  first
  | refine wpAny_pure ⟨_, rfl, wpAny_pure (hQ _ _ _ ?_ (Heap.SameBut.update ..))⟩
  | refine wpAny_bind (wpAny_pure (wpAny_pure ⟨_, rfl, wpAny_pure (hQ _ _ _ ?_ (Heap.SameBut.update ..))⟩))
  exact ⟨_, Heap.get?_update_self _ ho (Obj.isFreed_of_fields (Obj.data_mapFields hd _)), (Obj.cls_mapFields ..).trans hcl, by
    rw [Obj.data_mapFields hd]; simp⟩

/-- the end of an iterator: a new StopIteration, nothing else -/
theorem stop_throws {α : Type} {Q : α → Shared → Prop} {s : Shared} (hh : A.handled = none)
    (h : ∀ (h' : Heap) (e : Addr), (∀ b o, s.heap.get? b = some o → h'.get? b = some o) → ({ s with heap := h' } : Shared).TypeIs (.ref e) "StopIteration" → E (.ref e) { s with heap := h' }) :
    wpAny (model prog w) A (Builtin.SmallTypes.stopIteration : Sem α) Q E s := by
  unfold Builtin.SmallTypes.stopIteration newExc newTuple
  refine wpAny_bind (wpAny_bind (wpAny_newObj_type ?tup (by size_fits)))
  refine wpAny_bind (wpAny_of_eq (a := Value.none) (by first | rfl | (unfold firstArgMember; rfl)) (wpAny_newObj_type ?exc (by size_fits)))
  unfold raiseNew
  refine wpAny_bind (wpAny_handled ?_)
  rw [hh]
  exact wpAny_bind (wpAny_pure (wpAny_throw (h _ _ (fun b o z => Heap.get?_push_of_some _ (Heap.get?_push_of_some _ z)) ⟨_, Heap.get?_push_size _ rfl, rfl⟩)))

theorem revS_end {it : Addr} {x : Str} {t : Tok} {Q : Option Value → Shared → Prop} (hh : A.handled = none) (hit : s.heap.IsRevS it x t (-1))
    (hQ : ∀ h', Heap.ExtBut it s.heap h' → Q none { s with heap := h' }) : wpAny (model prog w) A (pyNext (.ref it)) Q E s := by
  obtain ⟨o, ho, hcl, hd⟩ := id hit
  unfold pyNext
  refine wpAny_bind (wpAny_attempt (wpAny_callSpecial?_slot (name := Str.ofString "__next__") hit.typeIs F.slot_reversed_next
    (wpAny_call_entry F.slot_reversed_next hit.typeIs F.entry_reversed_next ?_ (F.args_reversed_next_1 _))))
  unfold Builtin.«reversed.__next__»
  refine wpAny_bind (wpAny_of_eq (a := (Value.ref it, [])) rfl ?_)
  try dsimp only
  refine wpAny_bind (wpAny_field ho hd (x := .str x t) rfl ?_)
  refine wpAny_bind (wpAny_field ho hd (x := rawInt (-1)) rfl ?_)
  show wpAny _ _ (if (-1 : Int) < 0 then _ else _) _ _ s
  rw [if_pos (by decide)]
  refine wpAny_bind (wpAny_rule ?_)
  refine wpAny_bind ?_
  show wpAny _ _ (setField (.ref it) 1 (rawInt (-1)) >>= fun _ => setField (.ref it) 0 .none) _ _ s
  refine wpAny_bind (wpAny_setField ho hd (by simp) ?_)
  have ho2 := Heap.get?_update_self (Obj.mapFields (·.setIfInBounds 1 (rawInt (-1)))) ho (Obj.isFreed_of_fields (Obj.data_mapFields hd _))
  refine wpAny_setField ho2 (Obj.data_mapFields hd _) (by simp) ?_
  have hx : Heap.ExtBut it s.heap ((s.heap.update it (Obj.mapFields (·.setIfInBounds 1 (rawInt (-1))))).update it (Obj.mapFields (·.setIfInBounds 0 Value.none))) := fun b o hb e => by
    rw [Heap.get?_update_other _ _ (Ne.symm hb), Heap.get?_update_other _ _ (Ne.symm hb)]; exact e
  generalize (s.heap.update it (Obj.mapFields (·.setIfInBounds 1 (rawInt (-1))))).update it (Obj.mapFields (·.setIfInBounds 0 Value.none)) = h1 at hx
  refine wpAny_bind (stop_throws hh fun h2 e k2 hty => ?_)
  exact wpAny_bind (wpAny_isInstance hty isSubtype_stop (wpAny_pure (hQ h2 fun b o hb z => k2 b o (hx b o hb z))))

theorem revS_iter {it : Addr} {x : Str} {t : Tok} {i : Int} {Q : Value → Shared → Prop} (hit : s.heap.IsRevS it x t i) (h : Q (.ref it) s) : wpAny (model prog w) A (pyIter (.ref it)) Q E s := by
  refine wpAny_pyIter_slot hit.typeIs F.slot_reversed_iter (wpAny_call_entry F.slot_reversed_iter hit.typeIs F.entry_reversed_iter ?_ (F.args_reversed_iter_1 _))
  show wpAny _ _ (ret (.ref it)) _ _ s
  exact wpAny_pure ⟨_, rfl, "reversed", _, hit.typeIs, F.slot_reversed_next.lookup, h⟩
end
end PySem

namespace L2
open PySem PySem.Spec PyProof.Rows
/-! ### for c in reversed(text) -/
noncomputable def revAt (z : Str) (i : Nat) : V := .str ⟨#[z.cps.toList.getD (z.length - 1 - i) 0]⟩
theorem turn_revS {P : Program} {w : World} {K : PySem.W.Frag} {tg : Expr} (it : Addr) (z : Str) (t : Tok) (hz : z.length ≤ sizeLine) :
    Turn P w K tg (ItN z.length (revAt z)) [it] it (fun i h => i ≤ z.length ∧ h.IsRevS it z t ((z.length : Int) - 1 - (i : Int))) where
  mem := by simp
  obj := fun i h st b hb => by
    have e : b = it := by simpa using hb
    subst e
    obtain ⟨_, o, e, c, d⟩ := st
    exact ⟨o, e, fun v z => by rw [d] at z; cases z⟩
  keep := fun i h h' st k => ⟨st.1, st.2.at fun o e => k it (by simp) o e⟩
  item := by
    intro X hP hw hK hc i pins s σ H E I hf st hg
    subst hP hw hK
    have hg : i < z.length := hg
    obtain ⟨f0, f1, f2, f3, f4, f5⟩ := hf it (by simp)
    have hl : z.cps.toList.length = z.length := by simp [Str.length]
    have hlt : z.length - 1 - i < z.cps.toList.length := by (clear f5 f4 f3 f2 st hf hz; omega)
    have hcc : z.cps.toList[z.length - 1 - i]? = some (z.cps.toList.getD (z.length - 1 - i) 0) := by
      rw [List.getD_eq_getElem?_getD, List.getElem?_eq_getElem hlt]; rfl
    have e1 : (z.length : Int) - 1 - (i : Int) = ((z.length - 1 - i : Nat) : Int) := by (clear hlt hl f5 f4 f3 f2 st hf hz; omega)
    have hit := st.2
    rw [e1] at hit
    refine revS_item hz hit hcc fun h' tk tc st' sb => ?_
    have I1 : Inv X pins σ H { s with heap := h', toks := tk } := I.turned (fun b o hb e => (sb.2 b hb).trans e) f0 f1 f3 f4 f5
    have e2 : ((z.length - 1 - i : Nat) : Int) - 1 = (z.length : Int) - 1 - ((i + 1 : Nat) : Int) := by (clear e1 hlt hl f5 f4 f3 f2 st hf hz; omega)
    rw [e2] at st'
    obtain ⟨o, e, c, d⟩ := id st'
    exact ⟨_, rfl, go_of (s := { s with heap := h', toks := tk }) e c d (by decide) ⟨revAt z i, H, I1, ⟨tc, rfl⟩, ⟨rfl, rfl⟩, ⟨hg, st'⟩, fun b hb => (hf b hb).1⟩⟩
  done := by
    intro X hP hw hK hc i pins s σ H E I hf st hg
    subst hP hw hK
    have hg : z.length ≤ i := hg
    obtain ⟨f0, f1, f2, f3, f4, f5⟩ := hf it (by simp)
    have hit := st.2
    rw [show (z.length : Int) - 1 - (i : Int) = -1 by have := st.1; (clear this f5 f4 f3 f2 hf hz; omega)] at hit
    exact revS_end (I.ok.hd hc) hit fun h' eb => ⟨rfl, I.turned (t' := s.toks) (fun b o hb e => eb b o hb e) f0 f1 f3 f4 f5⟩
  self := fun _ _ _ _ _ st h => revS_iter st.2 h
section
variable {X : Cx} {tg : Expr}
noncomputable def iRevS (ta : TA) : TI := fun σ H R => ta σ H fun vs H1 => ∃ z : Str, vs = [.str z] ∧ z.length ≤ sizeLine ∧ R (ItN z.length (revAt z)) H1
theorem pi_revstr {a : Expr} {ta : TA} {p pos : Pos} (hg : Gl X "reversed") (hm : X.mg "reversed" = none) (ha : PA X [a] ta) (hs : starEach [a] X.env = [(false, eval a X.env)] := by rfl) : PI X tg (.Call (.Name "reversed" p) [a] [] pos) (iRevS ta) := by
  intro pins s σ H R I h
  refine Call_ (ld_blt I hg hm boot_reversed (PyProof.Rows.callWith_type1 (thn (ha pos pins s σ H _ I h) fun us s1 hsl41 => ?_) hs rfl))
  obtain ⟨vs, H1, I1, r1, q1⟩ := hsl41
  obtain ⟨z, e, hz, q⟩ := q1
  subst e
  obtain ⟨u, rfl, t, rfl⟩ := vals1 r1
  refine call_reversed_str hz fun tk => ?_
  have I2 : Inv X pins σ H1 { s1 with heap := s1.heap.push (revS z t ((z.length : Int) - 1)), toks := tk } := I1.kept fun b o e => Heap.get?_push_of_some _ e
  have st : (s1.heap.push (revS z t ((z.length : Int) - 1))).IsRevS s1.heap.objs.size z t ((z.length : Int) - 1 - ((0 : Nat) : Int)) := ⟨_, Heap.get?_push_size _ rfl, rfl, by simp [revS]⟩
  refine revS_iter (s := { s1 with heap := s1.heap.push (revS z t ((z.length : Int) - 1)), toks := tk }) st ?_
  refine ⟨s1.heap.objs.size, [s1.heap.objs.size], _, _, H1, rfl, I2, turn_revS _ z t hz, ⟨Nat.zero_le _, st⟩, fun b hb => ?_, q⟩
  have e : b = s1.heap.objs.size := by simpa using hb
  subst e
  exact I1.fpOk (Nat.le_refl _) (I1.hok.fresh (Nat.le_refl _))
end
end L2

set_option Elab.async false
set_option linter.all false
set_option maxRecDepth 100000
set_option maxHeartbeats 4000000
namespace L2
open PySem PySem.Spec PyProof.Rows
/-! ### a dict of the module: texts to ints; read alone -/
structure KDict (P : Program) (w : World) (K : PySem.W.Frag) (a : Addr) (kvs : List (Str × Int)) : Prop where
  ns : (a == sysModules) = false
  ob : ∃ (o : Obj) (vs : List (Key × Value)), K.lookup a = some o ∧ o.cls = .type "dict" ∧ o.dict = none ∧ (∀ h : Heap, h.get? a = some o → h.DictOf (mixKind P w) a vs) ∧
    ∀ k : Str, (∀ i, kvs.lookup k = some i → ∃ t, valueAt vs (Sum.inr k : Key) = some (.int i t)) ∧ (kvs.lookup k = none → valueAt vs (Sum.inr k : Key) = none)
noncomputable abbrev KE4 := Str × Tok × Int × Tok
noncomputable def kEnt (w : World) (e : KE4) : DictEntry := ⟨hashStr w e.1, .str e.1 e.2.1, .int e.2.2.1 e.2.2.2⟩
noncomputable def kPr (e : KE4) : Key × Value := (Sum.inr e.1, .int e.2.2.1 e.2.2.2)
theorem kPairs {P : Program} {w : World} : ∀ es : List KE4, Pairs (mixKind P w) (es.map (kEnt w)) (es.map kPr)
  | [] => .nil
  | e :: r => .cons (mixKind_str P w e.1 e.2.1) rfl (kPairs r)
theorem kVal (k : Str) : ∀ es : List KE4, (∀ i, (es.map fun e => (e.1, e.2.2.1)).lookup k = some i → ∃ t, valueAt (es.map kPr) (Sum.inr k : Key) = some (.int i t)) ∧ ((es.map fun e => (e.1, e.2.2.1)).lookup k = none → valueAt (es.map kPr) (Sum.inr k : Key) = none)
  | [] => ⟨fun i h => by simp at h, fun _ => rfl⟩
  | e :: r => by
    obtain ⟨h1, h2⟩ := kVal k r
    simp only [List.map_cons, List.lookup_cons]
    by_cases hk : k = e.1
    · subst hk
      simp only [beq_self_eq_true]
      refine ⟨fun i h => ?_, fun h => nomatch h⟩
      cases h
      exact ⟨e.2.2.2, by simp [valueAt, kPr]⟩
    · have hb : (k == e.1) = false := beq_eq_false_iff_ne.mpr hk
      have hn : ¬ ((kPr e).1 = (Sum.inr k : Key)) := fun z => hk (by
        have z' : (Sum.inr e.1 : Key) = Sum.inr k := z
        injection z' with z'
        exact z'.symm)
      have ev : valueAt (kPr e :: r.map kPr) (Sum.inr k : Key) = valueAt (r.map kPr) (Sum.inr k : Key) := by
        unfold valueAt
        rw [List.find?_cons_of_neg (by simpa using hn)]
      rw [hb, ev]
      exact ⟨h1, h2⟩
theorem kdict_mk {P : Program} {w : World} {K : PySem.W.Frag} {a : Addr} {ep : Nat} {es : List KE4} (hs : (a == sysModules) = false)
    (hl : K.lookup a = some ⟨.type "dict", none, .dict (es.map (kEnt w)).toArray ep, #[]⟩) (nd : (es.map (·.1)).Nodup) : KDict P w K a (es.map fun e => (e.1, e.2.2.1)) := by
  refine ⟨hs, _, es.map kPr, hl, rfl, rfl, fun h e => ⟨_, _, _, e, ⟨rfl, rfl, rfl⟩, rfl, ?_, kPairs es, ?_⟩, fun k => kVal k es⟩
  · intro x hx
    have hx' : x ∈ es.map (kEnt w) := by simpa using hx
    obtain ⟨y, _, rfl⟩ := List.mem_map.mp hx'
    exact ⟨Sum.inr y.1, mixKind_str P w y.1 y.2.1, rfl⟩
  · have e1 : (es.map kPr).map (·.1) = (es.map (·.1)).map (Sum.inr : Str → Key) := by rw [List.map_map, List.map_map]; rfl
    rw [e1]
    refine List.Pairwise.map _ (fun x y hxy hz => hxy ?_) nd
    injection hz
section
variable {X : Cx} {a : Addr} {kvs : List (Str × Int)} {x : Str} {p pos apos cpos : Pos} {e f : Expr} {ty tx : TE}
theorem KDict.here {pins : List (Addr × Obj)} {σ : St} {H : Hp} {s : Shared} (D : KDict X.prog X.w X.K a kvs) (I : Inv X pins σ H s) :
    ∃ vs : List (Key × Value), s.heap.DictOf (mixKind X.prog X.w) a vs ∧ (∀ b, Value.ref a = .ref b → ∃ ob, s.heap.get? b = some ob ∧ ob.dict = none) ∧
      ∀ k : Str, (∀ i, kvs.lookup k = some i → ∃ t, valueAt vs (Sum.inr k : Key) = some (.int i t)) ∧ (kvs.lookup k = none → valueAt vs (Sum.inr k : Key) = none) := by
  obtain ⟨o, vs, hk, hc, hd, hh, hv⟩ := D.ob
  have e := I.kIn a o hk
  exact ⟨vs, hh _ e, fun b q => by cases q; exact ⟨o, e, hd⟩, hv⟩
/-- d.get(y, z) -/
noncomputable def tKGet2 (kvs : List (Str × Int)) (ty tx : TE) : TE := fun σ H Q => ty σ H fun y H1 => tx σ H1 fun z H2 => ∃ (k : Str) (v : V), y = .str k ∧ ((kvs.lookup k).map V.int).getD z = v ∧ Q v H2
theorem pe_kget2 (D : KDict X.prog X.w X.K a kvs) (hg : Gl X x) (hm : X.mg x = some (.ref a)) (he : PE X e ty) (hf : PE X f tx)
    (hbase : attributeBase (.Name x p) "get" X.env (eval (.Name x p) X.env) = eval (.Name x p) X.env := by rfl)
    (hfew : ((backTo cpos (starEach [e, f] X.env)).all (fun x => !x.1) && (backToKw cpos (keywordEach [] X.env)).all (fun x => x.1.isSome)
      && decide (([e, f] : List Expr).length + ([] : List Keyword).length + (if ([] : List Keyword).isEmpty then 0 else 1) < 30)) = true := by rfl)
    (hline : (apos.endLine == cpos.line) = true := by rfl) (htrees : backTo cpos (starEach [e, f] X.env) = [(false, eval e X.env), (false, eval f X.env)] := by rfl) (hd : (x == ("__debug__" : Str)) = false := by decide) :
    PE X (.Call (.Attribute (.Name x p) "get" apos) [e, f] [] cpos) (tKGet2 kvs ty tx) := by
  intro pins s σ H Q I h
  refine wpAny_Call_method hbase hfew hline PySem.F.plainAttrs_dict PySem.F.slot_dict_get PySem.F.type_dict_get (ld_glob I hg hm ?_ hd)
  obtain ⟨vs, dd, hnd, hv⟩ := D.here I
  refine ⟨dd.typeIs, hnd, ?_⟩
  rw [htrees]
  refine Calls.callWith_builtin rfl (Calls.evalArgs_plain (Calls.spliced_cons (thn (he pins s σ H _ I h) fun iv s2 ⟨y, H2, I2, ry, q2⟩ =>
    Calls.spliced_cons (thn (hf pins s2 σ H2 _ I2 q2) fun fv s3 ⟨z, H3, I3, rz, k, v, ey, ev, q3⟩ => Calls.spliced_nil ?_))))
  subst ey
  obtain ⟨t, rfl⟩ := ry
  obtain ⟨vs3, dd3, _, hv3⟩ := D.here I3
  refine call_meetsIn PySem.F.slot_dict_get dd3.typeIs PySem.F.entry_dict_get (PySem.F.args_dict_get_3 _ _ _) (meets_dict_get_default (mixKind X.prog X.w) a (k := Sum.inr k) (mixKind_str _ _ k t) D.ns fv) ⟨_, dd3.mapOf, ?_⟩
  refine ⟨v, H3, I3.tok _, ?_, q3⟩
  subst ev
  cases hk : kvs.lookup k with
  | none => rw [(hv3 k).2 hk]; exact rz
  | some i =>
    obtain ⟨t', e⟩ := (hv3 k).1 i hk
    rw [e]; exact ⟨t', rfl⟩
/-- y in d -/
noncomputable def tKIn (kvs : List (Str × Int)) (ty : TE) : TE := fun σ H Q => ty σ H fun y H1 => ∃ k : Str, y = .str k ∧ Q (.bl (kvs.lookup k).isSome) H1
theorem pc_kin (D : KDict X.prog X.w X.K a kvs) (hg : Gl X x) (hm : X.mg x = some (.ref a)) (he : PE X e ty) (hd : (x == ("__debug__" : Str)) = false := by decide) : PC X .In e (.Name x p) (tKIn kvs ty) := by
  intro pins s σ H Q I h
  refine thn (he pins s σ H _ I h) fun iv s1 ⟨y, H1, I1, ry, k, ey, q⟩ => ld_glob I1 hg hm ?_ hd
  subst ey
  obtain ⟨t, rfl⟩ := ry
  obtain ⟨vs, dd, _, hv⟩ := D.here I1
  refine wpAny_in_of (k := (Sum.inr k : Key)) (mixKind_str _ _ k t) D.ns dd.mapOf ?_
  refine ⟨_, H1, I1.tok _, ?_, q⟩
  cases hk : kvs.lookup k with
  | none => rw [(hv k).2 hk]; rfl
  | some i =>
    obtain ⟨t', e⟩ := (hv k).1 i hk
    rw [e]; rfl
/-- d[y] -/
noncomputable def tKIx (kvs : List (Str × Int)) (ty : TE) : TE := fun σ H Q => ty σ H fun y H1 => ∃ (k : Str) (i : Int), y = .str k ∧ kvs.lookup k = some i ∧ Q (.int i) H1
theorem pe_kix (D : KDict X.prog X.w X.K a kvs) (hg : Gl X x) (hm : X.mg x = some (.ref a)) (he : PE X e ty) (hs : PlainIx e) (hd : (x == ("__debug__" : Str)) = false := by decide) : PE X (.Subscript (.Name x p) e pos) (tKIx kvs ty) := by
  intro pins s σ H Q I h
  refine Subscript_ (ld_glob I hg hm ?_ hd)
  refine thn (he pins s σ H _ I h) fun iv s1 hsl42 => ?_
  obtain ⟨y, H1, I1, ry, k, i, ey, hk, q⟩ := hsl42
  subst ey
  obtain ⟨t, rfl⟩ := ry
  obtain ⟨vs, dd, _, hv⟩ := D.here I1
  obtain ⟨t', e⟩ := (hv k).1 i hk
  exact tail_any dd.typeIs PySem.F.slot_dict_getitem.lookup (wpAny_getItem_of (k := (Sum.inr k : Key)) (mixKind_str _ _ k t) dd.mapOf e ⟨.int i, H1, I1.tok _, ⟨t', rfl⟩, q⟩) (hs _ _)
end
end L2

set_option Elab.async false
set_option linter.all false
set_option maxRecDepth 100000
set_option maxHeartbeats 4000000
namespace L2
open PySem PySem.Spec PyProof.Rows
section
variable {X : Cx}
/-! ### range(n) as a thing, list(range(n)) -/
/-! ### isinstance(x, C), C an own class -/
end
theorem bt_str : bootBuiltins "str" = some (.type "str") := by decide +kernel
end L2

set_option Elab.async false
set_option linter.all false
set_option maxRecDepth 100000
set_option maxHeartbeats 4000000
namespace L2
open PySem PySem.Spec PyProof.Rows
/-! ### f'{e!r}..': some text -/
section
variable {X : Cx}
noncomputable def tFRep (te : TE) (c : Str) : TE := fun σ H Q => te σ H fun x H1 => ∃ z : Str, x = .str z ∧ (∀ d ∈ z.cps.toList, d < 1000000) ∧ z.length ≤ 100000 ∧ c.length ≤ 1000 ∧ ∀ r : Str, Q (.str r) H1
theorem pe_frep {e : Expr} {te : TE} {c : Str} {k : Nat} {p1 p2 pos : Pos} (he : PE X e te) : PE X (.JoinedStr [.FormattedValue e 114 none p1, .Constant (.str c) k p2] pos) (tFRep te c) := by
  intro pins s σ H Q I h
  refine JoinedStr_many (joinParts_cons (wpAny_FormattedValue_repr (thn (he pins s σ H _ I h) fun v s1 hsl43 => ?_)))
  obtain ⟨x, H1, I1, rx, z, ex, hd, hz, hc, q⟩ := hsl43
  subst ex
  obtain ⟨t, rfl⟩ := rx
  have hl : (reprText z).length ≤ 10 * z.length + 2 := PySem.StrLaws.reprText_len z fun d hd' => Nat.lt_of_lt_of_le (hd d hd') (by decide)
  have hs : sizeLine = 16777216 := sizeLine_eq
  refine wpAny_pyReprObj_str (formatField_str (fun t' tk => ?_) (by (clear q hc hd; omega))) (by omega)
  have e0 : (Str.empty ++ reprText z).length = (reprText z).length := by
    show (#[] ++ (reprText z).cps).size = (reprText z).cps.size
    simp
  refine ⟨by rw [e0]; (clear e0 q hc hd; omega), joinParts_cons (Calls.Constant_str ?_)⟩
  have e1 : (Str.empty ++ reprText z ++ c).length = (reprText z).length + c.length := by
    show ((#[] ++ (reprText z).cps) ++ c.cps).size = (reprText z).cps.size + c.cps.size
    simp
  refine ⟨by rw [e1]; (clear e1 e0 q hd; omega), joinParts_nil ?_ (by rw [e1]; omega)⟩
  exact ⟨.str _, H1, ((I1.tok _).tok _).tok _, ⟨_, rfl⟩, q _⟩
end
/-! ### an exception that leaves a def -/
/-- a def's body, not a comprehension's block -/
structure Body (X : Cx) : Prop where
  ex : X.ex = []
  stk : X.stack = X.env :: X.outer
  frm : X.env.frame = some X.env.locals
  fn : ∀ x, X.fn x = true
theorem Body.wish {X : Cx} (b : Body X) (E : Value → Shared → Prop) : Body (X.wish E) := ⟨b.ex, b.stk, b.frm, b.fn⟩
section
variable {X : Cx} {pins : List (Addr × Obj)} {σ : St} {H H' : Hp} {s s' : Shared} {B h'' : Heap}
theorem Body.frs (b : Body X) : frs X.stack = X.env.locals :: X.fs := by
  show List.filterMap _ _ = _
  rw [b.stk]
  simp [b.frm, Cx.fs, L2.frs]
theorem Body.old (b : Body X) (I : Inv X pins σ H s) {c : Addr} {o : Obj} (e : X.s₀.heap.get? c = some o) (hc : c ∉ X.fs) : c ∉ L2.frs X.stack := by
  rw [b.frs]
  intro hm
  rcases List.mem_cons.mp hm with z | z
  · exact absurd (Nat.lt_of_lt_of_le (Heap.lt_size e) I.ok.above) (by rw [z]; exact Nat.lt_irrefl _)
  · exact hc z
theorem Body.cell (b : Body X) (I : Inv X pins σ H s) {x : Str} {c : Addr} (e : X.env.cells.lookup x = some c) : c ∉ L2.frs X.stack := by
  rw [b.frs]
  intro hm
  rcases List.mem_cons.mp hm with z | z
  · exact I.cne x c e z
  · obtain ⟨o, ho, _⟩ := (I.ok.funs.mem (show c ∈ X.outer.filterMap (·.frame) from z)).2
    exact absurd (Nat.lt_of_lt_of_le (Heap.lt_size ho) (I.ok.cab x c (b.fn x) e)) (Nat.lt_irrefl _)
/-- the state behind a call that raised, whatever was noted in the frames -/
theorem lands (b : Body X) (I : Inv X pins σ H s) (un : Un (L2.frs X.stack) [] H H' s.heap s'.heap) (hok : HOk X.prog X.w H' s'.heap) (os : s'.os = s.os) (bare : AllBare s'.gens)
    (hB1 : B.StaysIn s'.heap) (hB2 : B.StaysIn h'') (up : s'.heap.UpToSlots h'') (fr : ∀ c ∈ L2.frs X.stack, ∃ o, s'.heap.get? c = some o ∧ ∀ vs, o.data ≠ .fields vs)
    (pres : ∀ c o, s.heap.get? c = some o → c ∉ L2.frs X.stack → ∃ o', B.get? c = some o') (trk : ∀ a o, H' a = some o → ∃ ob, B.get? a = some ob) : Inv X pins σ H' { s' with heap := h'' } := by
  have I' : Inv X pins σ H' s' := I.call' os un hok bare fun c hc => absurd hc (by simp)
  have same : ∀ c o, s'.heap.get? c = some o → (∃ o', B.get? c = some o') → h''.get? c = some o := fun c o e ⟨o', eb⟩ => by
    have := hB1 c o' eb
    rw [e] at this
    cases this
    exact hB2 c _ eb
  have inB : ∀ c o, X.s₀.heap.get? c = some o → c ∉ X.fs → ∃ o', B.get? c = some o' := fun c o e hc => by
    obtain ⟨o1, e1⟩ := I.base.there c o e (by rw [b.ex]; simp)
    exact pres c o1 e1 (b.old I e hc)
  have fsub : ∀ c ∈ X.fs, c ∈ L2.frs X.stack := fun c hc => by rw [b.frs]; exact List.mem_cons_of_mem _ hc
  refine ⟨I'.ok, I'.os, I'.bare, ⟨fun c o q n hb hx => same c o (I'.base.keep c o q n hb hx) (inB c o q hb), fun c o q n hb hx => ?_, I'.base.free, fun c o q hx => ?_, I'.base.tups, I'.base.frzs, I'.base.tbls⟩, ?_, fun x c e => ?_, I'.free, I'.freeC, fun p hp => ?_, fun a o e => ?_, I'.len⟩
  · obtain ⟨sl, e1⟩ := I'.base.slot c o q n hb hx
    obtain ⟨o1, e2, nd⟩ := fr c (fsub c hb)
    rw [e1] at e2
    cases e2
    obtain ⟨sl', e3⟩ := up c _ e1 nd
    exact ⟨sl', e3⟩
  · by_cases hb : c ∈ X.fs
    · obtain ⟨o1, e2, nd⟩ := fr c (fsub c hb)
      obtain ⟨sl', e3⟩ := up c _ e2 nd
      exact ⟨_, e3⟩
    · obtain ⟨o', eb⟩ := inB c o q hb
      exact ⟨o', hB2 c o' eb⟩
  · obtain ⟨m, hn, hl⟩ := I'.loc
    refine ⟨m, up.ns hn, fun i x v e1 e2 e3 => ?_⟩
    obtain ⟨u, r, lk⟩ := hl i x v e1 e2 e3
    refine ⟨u, r, ?_⟩
    rcases lk with z | ⟨k, c, ec, oc, hc, hd⟩
    · exact .inl z
    · obtain ⟨v0, o0, ho0, _⟩ := I.cell x c ec
      exact .inr ⟨k, c, ec, oc, same c oc hc (pres c o0 ho0 (b.cell I ec)), hd⟩
  · obtain ⟨v1, o1, ho1, hd1⟩ := I'.cell x c e
    obtain ⟨v0, o0, ho0, _⟩ := I.cell x c e
    exact ⟨v1, o1, same c o1 ho1 (pres c o0 ho0 (b.cell I e)), hd1⟩
  · obtain ⟨e, n, ne, nf, d⟩ := I'.pin p hp
    obtain ⟨e0, _⟩ := I.pin p hp
    refine ⟨same p.1 p.2 e (pres p.1 p.2 e0 ?_), n, ne, nf, d⟩
    rw [b.frs]
    intro hm
    rcases List.mem_cons.mp hm with z | z
    · exact ne z
    · exact nf z
  · refine (I'.hok a o e).stay (fun c u hc q => same c u q ?_) (fun _ q => q) fun _ _ q => q
    rcases hc with rfl | hc
    · exact trk _ _ e
    · exact trk _ _ hc
theorem frames_of {l : List Env} {h : Heap} (f : h.FunFrames B l) : ∀ c ∈ L2.frs l, ∃ o, h.get? c = some o ∧ ∀ vs, o.data ≠ .fields vs := fun c hc => (f.mem hc).2
end
section
variable {P : Program} {w : World} {K : PySem.W.Frag} {mg : Str → Option Value} {base : Heap} {N : List Str} {qual : Str} {scope : Scope} {f : Addr} {cd : Value} {A : Around} {outer : List Env} {s₀ : Shared} {H₀ : Hp} {E : XK}
theorem body_cx {CX : CXT} : Body (cxOf CX P w K mg base N qual scope f cd A outer s₀ H₀ E) := ⟨rfl, rfl, rfl, fun _ => rfl⟩
/-- an exception made here goes on out of the def -/
noncomputable def RaiseOk (X : Cx) (E : XK) : Prop := ∀ (pins : List (Addr × Obj)) (σ : St) (H : Hp) (s : Shared) (h' : Heap) (ea : Addr) (cls : Value) (args : List Value), Inv X pins σ H s → Heap.MadeExcOf s.heap h' ea cls args → E cls none H → X.xe (.ref ea) { s with heap := h' }
theorem obj_is {X : Cx} {pins : List (Addr × Obj)} {σ : St} {H : Hp} {s : Shared} {a : Addr} {o : HO} (I : Inv X pins σ H s) (e : H a = some o) : ∃ ob, s.heap.get? a = some ob := by
  have x := I.hok a o e
  cases o with
  | lst xs => obtain ⟨_, _, _, _, e⟩ := x; exact ⟨_, e⟩
  | tup xs => obtain ⟨_, _, _, o, e, _⟩ := x; exact ⟨_, e⟩
  | dK kvs => obtain ⟨_, _, _, _, o, _, _, e, _⟩ := x; exact ⟨_, e⟩
  | dT kvs => obtain ⟨_, _, _, _, o, _, _, e, _⟩ := x; exact ⟨_, e⟩
  | set S n => obtain ⟨o, _, _, _, e, _⟩ := x; exact ⟨_, e⟩
  | ins C dx fs => obtain ⟨_, _, _, e, _⟩ := x; exact ⟨_, e⟩
  | own y => exact x
  | xd fs => obtain ⟨_, ⟨_, _, _, e, _⟩, _⟩ := x; exact ⟨_, e⟩
  | rng lo hi => obtain ⟨_, _, _, e⟩ := x; exact ⟨_, e⟩
  | frz ob u => exact ⟨_, x.1⟩
  | tbl ps => exact ⟨_, show s.heap.get? a = some _ from x⟩
  | met f y => exact ⟨_, show s.heap.get? a = some _ from x⟩
  | ext φ => exact x.2.1
/-- the heap at a raise, without the frames that run -/
theorem at_raise {X : Cx} {pins : List (Addr × Obj)} {σ : St} {H : Hp} {s : Shared} (I : Inv X pins σ H s) : ∃ B : Heap, B.StaysIn s.heap ∧ s.heap.FunFrames B X.stack ∧
    (∀ b o, s.heap.get? b = some o → b ∉ L2.frs X.stack → ∃ o', B.get? b = some o') ∧ ∀ a o, H a = some o → ∃ ob, B.get? a = some ob := by
  have hin : ∀ b o, s.heap.get? b = some o → b ∉ L2.frs X.stack → (PySem.W.hideAll s.heap (L2.frs X.stack)).get? b = some o := fun b o e n => PySem.W.hideAll_get _ e n
  refine ⟨PySem.W.hideAll s.heap (L2.frs X.stack), fun b o e => PySem.W.of_hideAll _ e, PySem.W.funFrames_hide I.stack fun env he a ha => List.mem_filterMap.mpr ⟨env, he, ha⟩, fun b o e n => ⟨o, hin b o e n⟩, fun a o e => ?_⟩
  obtain ⟨ob, hob⟩ := obj_is I e
  exact ⟨ob, hin a ob hob fun hm => by rw [I.stkFree a hm] at e; cases e⟩
/-! ### a def that may raise -/
end
/-! ### raise C(..), C an own class of exceptions without an __init__ of its own -/
theorem own_of_K {K : PySem.W.Frag} {h : Heap} {mg : Str → Option Value} {x : Str} {C : Addr} {bmB : List Value} {newId : String} (X : K.In h) (hb : mg x = some (.ref C)) (q : PySem.W.excIn K C bmB newId = true) : OwnCls x C bmB newId mg h := by
  refine ⟨hb, ?_⟩
  unfold PySem.W.excIn at q
  split at q
  case h_2 => cases q
  case h_1 dd cd sl ho =>
    split at q
    case h_2 => cases q
    case h_1 C' bm k0 k1 k2 k3 n k5 hm hs =>
      simp only [Bool.and_eq_true, beq_iff_eq, Bool.not_eq_true'] at q
      obtain ⟨⟨⟨⟨⟨e1, e2⟩, e3⟩, e4⟩, e5⟩, e6⟩ := q
      cases cd
      cases sl
      simp only at hm hs e3 e5 e6
      subst e1 e2 e3 hm hs
      exact ⟨_, _, _, _, _, _, _, _, _, _, _, _, _, _, _, _, _, X _ _ ho, .of_isNs (PySem.W.isNs_of_in X e5), PySem.W.nsMap_none_of_in X e5 e6, PySem.W.tail_of_in X e4⟩
section
variable {X : Cx}
noncomputable def tRaise (E : XK) (C : Addr) (t : TA) : TS := fun _ σ H => t σ H fun vs H1 => vs.length ≤ sizeLine ∧ E (.ref C) none H1
theorem ps_raise {E : XK} {x : Str} {C : Addr} {bm : List Value} {newId initId B : String} {e : Expr} {es : List Expr} {t : TA} {np cpos pos : Pos} (hR : RaiseOk X E) (hc : X.calm = true) (hg : Gl X x) (hm : X.mg x = some (.ref C)) (q : PySem.W.excIn X.K C bm newId = true)
    (FB : ExcBaseFacts B newId initId bm) (ha : PA X (e :: es) t) (hdb : (x == ("__debug__" : Str)) = false := by decide) (he : starEach (e :: es) X.env = (false, eval e X.env) :: starEach es X.env := by rfl)
    (hpl : (backTo cpos (starEach es X.env)).any (·.1) = false := by rfl) : PS X (.Raise (some (.Call (.Name x np) (e :: es) [] cpos)) none pos) (tRaise E C t) := by
  intro pins s σ H D I h
  obtain ⟨tl, N, nm, qn, bs, hdct, sn, sub, ab, col, dd, k0, k1, k2, k3, k5, mN, hC, hN, hni, T⟩ := (own_of_K I.ok.mod.kin hm q).obj
  refine wpAny_Raise_call_subT (C := C) (nm := nm) (q := qn) (N := N) (bs := bs) (bm := tl) (hdct := hdct) (sn := sn) (sub := sub) (ab := ab) (col := col) (dd := dd) (k0 := k0) (k1 := k1) (k2 := k2) (k3 := k3) (k5 := k5)
    FB (mN := mN) (T.hasType FB.hasBase) (I.ok.hd hc) (by rw [he]; show (false || (backTo cpos (starEach es X.env)).any (·.1)) = false; rw [hpl]; rfl) hni (ld_glob I hg hm ⟨rfl, ?_⟩ hdb)
  have hA := ha cpos pins s σ H _ I h
  rw [he] at hA ⊢
  refine Calls.evalArgs_plain (thn hA fun us s1 hsl44 => by obtain ⟨vs, H1, I1, r1, hl, q1⟩ := hsl44; exact ⟨rfl, by rw [← r1.length]; exact hl, I1.bk _ _ hC, hN.keeps I1.bk, T.keeps I1.bk, fun h' ea mx => hR pins σ H1 s1 h' ea _ _ I1 mx q1⟩)
end
end L2

set_option Elab.async false
set_option linter.all false
set_option maxRecDepth 100000
set_option maxHeartbeats 4000000
namespace L2
open PySem PySem.Spec PyProof.Rows
/-! ### isinstance of an exception: only its class is known -/
section
variable {prog : Program} {w : World} {A : Around} {E : Value → Shared → Prop} {s : Shared} {K : PySem.W.Frag} {x D : Addr} {name : Str}
structure XCls (K : PySem.W.Frag) (D : Addr) : Prop where
  hg : PySem.W.findIn K (.ref D) "__getattribute__" = some (some (.builtin "BaseException.__getattribute__"))
  hk : PySem.W.findIn K (.ref D) "__getattr__" = some none
  hb : PySem.W.mroIn K D (.type "BaseException") = some true
  ha : PySem.W.findIn K (.ref D) "__class__" = some (some (.builtin "object.__class__"))
  hn : PySem.W.specialIn K (.builtin "object.__class__") "__get__" = some (some (.builtin "getset_descriptor.__get__"))
  ht : PySem.W.takesIn K (.builtin "object.__class__") = some true
  hm : PySem.W.mroIn K D (.type "object") = some true
theorem XCls.hc (c : XCls K D) : (PySem.W.clsIn K D).isSome = true := by
  have q := c.hm
  unfold PySem.W.mroIn at q
  cases h : PySem.W.clsIn K D with
  | none => rw [h] at q; cases q
  | some _ => rfl
noncomputable def HasCls (a : Addr) (cls : Value) (h : Heap) : Prop := ∃ o, h.get? a = some o ∧ o.cls = cls
open PySem.W in
theorem HasCls.type {M : Model} {h : Heap} {cls : Value} (p : HasCls x cls h) : Looks M h (typeOf (.ref x)) cls := by
  obtain ⟨o, h1, h2⟩ := p
  exact h2 ▸ (Looks.ld h1).andThen .now
open PySem.W PySem.Calls Builtin Builtin.ObjectAttr Builtin.Getset_descriptor in
theorem xc_get {R : Result → Shared → Prop} {tp : Value} (X : K.In s.heap) (I : HasCls x (.ref D) s.heap) (hm : mroIn K D (.type "object") = some true)
    (h : R (.ok (.ret (.ref D))) s) : codeAny (model prog w) A (.call (.builtin "getset_descriptor.__get__") ⟨[.builtin "object.__class__", .ref x, tp], []⟩) R s := by
  obtain ⟨hh, g, dr, t, os⟩ := s
  have L0 := I.type (M := model prog w)
  have L1 := looks_mroIn (M := model prog w) X hm
  refine codeAny_call_builtin KF.slot_gs.plain KF.entry_gs (KF.slot_gs.check _ _ _ _ _ _ _ _ KF.type_class (KF.args_gs _ _ _) ?_)
  unfold Builtin.«getset_descriptor.__get__» descrGet
  rw [dga_obj]
  refine wpAny_bind (wpAny_pure ?_)
  unfold descrGetter descrCheckInstance descrNameAndClass isInstance
  simp only [KF.owner_class]
  repeat lk
  refine ⟨Code.quiet_builtin _ (by decide +kernel), codeAny_builtin KF.entry_class ?_⟩
  unfold Builtin.«object.__class__» shownTypeOf
  repeat lk
  exact h
open PySem.W PySem.Calls Builtin Builtin.ObjectAttr in
theorem xc_entry {tk : Tok} {Q : Fin → Shared → Prop} (c : XCls K D) (X : K.In s.heap) (I : HasCls x (.ref D) s.heap) (hq : Q (.done (.ret (.ref D))) s) :
    wpAny (model prog w) A (Builtin.«object.__getattribute__» ⟨[.ref x, .str "__class__" tk], []⟩) Q E s := by
  obtain ⟨hh, gg, d, t, os⟩ := s
  have L0 := I.type (M := model prog w)
  have L1 : Looks (model prog w) hh (find (.ref x) (.ref D) "__class__") (.bind (.builtin "getset_descriptor.__get__") (.builtin "object.__class__")) := by
    have L3 := looks_takesIn (M := model prog w) X c.ht
    exact (looks_findIn X c.ha).andThen ((show Looks (model prog w) hh (getOf (some (.builtin "object.__class__"))) (some (.builtin "getset_descriptor.__get__")) from looks_specialIn X c.hn).andThen ((show Looks (model prog w) hh (dataDescriptor? (some (.builtin "object.__class__")) (some (.builtin "getset_descriptor.__get__"))) (some (.builtin "getset_descriptor.__get__", .builtin "object.__class__")) from L3.andThen .now).andThen (Looks.tag .now)))
  refine wpAny_bind (wpAny_pure (wpAny_bind (wpAny_pure (wpAny_bind (L0.at (wpAny_bind (L1.at ?_)))))))
  show wpAny _ _ (holding [Value.builtin "object.__class__"] (call (.builtin "getset_descriptor.__get__") [.builtin "object.__class__", .ref x, .ref D]) >>= ret) _ _ _
  exact wpAny_bind (wpAny_holding (wpAny_call (xc_get (s := ⟨hh, gg, d, t, os⟩) X I c.hm (wpAny_pure hq))))
open PySem.W PySem.Calls in
theorem xc_check {M : Model} {nameV : Value} {Q : Unit → Shared → Prop} (c : XCls K D) (X : K.In s.heap) (I : HasCls x (.ref D) s.heap) (hq : Q () s) : wpAny M A (checkBuiltinCall "BaseException.__getattribute__" ⟨[.ref x, nameV], []⟩) Q E s := by
  have hk : builtinKind "BaseException.__getattribute__" = some .slot := by decide +kernel
  have hsplit : splitId "BaseException.__getattribute__" = some ("BaseException", "__getattribute__") := by decide +kernel
  have ha := F.args_bexc_ga (.ref x) nameV
  obtain ⟨hh, gg, d, t, os⟩ := s
  have L0 := I.type (M := M)
  have L1 := looks_mroIn (M := M) X c.hb
  have L2 : Looks M hh (isInstance (.ref x) (.type "BaseException")) true := L0.andThen L1
  simp only [checkBuiltinCall, hk, hsplit]
  refine wpAny_bind (L2.at ?_)
  repeat (first | exact hq | wp_step)
open PySem.W PySem.Calls in
theorem xc_class {Q : Option Value → Shared → Prop} (c : XCls K D) (X : K.In s.heap) (I : HasCls x (.ref D) s.heap) (h : Q (some (.ref D)) { s with toks := s.toks + 1 }) : wpAny (model prog w) A (getAttr? (.ref x) "__class__") Q E s := by
  obtain ⟨hh, g, d, t, os⟩ := s
  have L0 := I.type (M := model prog w)
  have L1 := looks_findIn (M := model prog w) X c.hg
  have L2 := looks_findIn (M := model prog w) X c.hk
  unfold getAttr? getAttrBy? getAttrBy
  refine wpAny_bind (wpAny_mkText (wpAny_bind (wpAny_attempt (wpAny_holding (wpAny_bind (L0.at (wpAny_bind (L1.at ?_))))))))
  show wpAny _ _ (getAttrByItsOwn _ _ _ _ _ _) _ _ _
  unfold getAttrByItsOwn
  refine wpAny_bind ((show Looks (model prog w) hh (hookBefore (.ref D)) none from L2).at ?_)
  refine wpAny_bind (wpAny_attempt (wpAny_holding ?_))
  show wpAny _ _ (boundAndCalled _ _ _) _ _ _
  unfold boundAndCalled
  rw [F.excAttr_ValueError.ga.bind]
  refine wpAny_bind (wpAny_pure ?_)
  refine wpAny_call (codeAny_call_builtin F.excAttr_ValueError.ga.plain F.entry_bexc_ga (xc_check (s := ⟨hh, g, d, t + 1, os⟩) c X I (xc_entry (s := ⟨hh, g, d, t + 1, os⟩) c X I ?_)))
  refine handed_on rfl ?_
  exact wpAny_pure h
open PySem.W in
theorem kitx_exc (c : XCls K D) : KitX K (.ref x) (.ref D) (HasCls x (.ref D)) where
  ty := fun _ _ _ I => I.type
  it := fun _ _ X _ => by
    have hcD := c.hc
    unfold clsIn at hcD
    split at hcD
    · rename_i c' d' cd' sl' ho
      intro A' Q' E' s' k q
      unfold isType loadHead
      exact wpAny_bind (wpAny_loadPart (k _ _ (X _ _ ho)) (wpAny_pure q))
    · cases hcD
  ne := fun h tp dd its n sl X htp => by
    have hcD := c.hc
    refine Bool.eq_false_iff.mpr fun q => ?_
    have e : D = tp := Value.ref.inj (beq_iff_eq.mp q)
    subst e
    unfold clsIn at hcD
    split at hcD
    · rename_i c' d' cd' sl' ho
      have z := (X _ _ ho).symm.trans htp
      cases z
    · cases hcD
  ca := fun X I k => xc_class c X I k
end
section
variable {X : Cx}
end
/-! ### an expression that may raise, at known local names -/
noncomputable def PEX (CX : CXT) (X : Cx) (e : Expr) (t : XK → TE) : Prop :=
  ∀ (E : XK) (xe' : Value → Shared → Prop) (pins : List (Addr × Obj)) (s : Shared) (σ : St) (H : Hp) (Q : VK), (∀ H s e s', Inv X pins σ H s → CX X.stack H s E e s' → xe' e s') → Inv X pins σ H s → t E σ H Q →
    wpAny (model X.prog X.w) X.A (eval e X.env) (EP X pins σ Q) xe' s
section
variable {X : Cx} {CX : CXT} {k : Nat} {f C : Addr} {fd : FuncData} {ps : List Str} {sp : Sp} {dvs : List V} {ds : List Value} {x m : Str} {p pos apos : Pos} {e o : Expr} {es : List Expr} {ta : TE} {t : TA}
theorem run_fnX {xe' : Value → Shared → Prop} {E : XK} {pins : List (Addr × Obj)} {σ : St} {H : Hp} {s : Shared} {Q : VK} {us : List Value} {vs : List V} (F : FnOk X.prog X.w X.K X.mg X.base CX k f fd ps sp) (hr : Room k X.A) (hb : Binds X.K fd ps ds) (hd : Vals dvs ds)
    (hx : ∀ H s e s', Inv X pins σ H s → CX X.stack H s E e s' → xe' e s')
    (I : Inv X pins σ H s) (r : Vals vs us) (h : sp (vs ++ dvs) H Q E) : wpAny (model X.prog X.w) X.A (call (.ref f) us) (EP X pins σ Q) xe' s := by
  have r2 : Vals (vs ++ dvs) (us ++ ds) := r.append hd
  have hl : (us ++ ds).length = ps.length := by rw [← r2.length]; exact F.len _ _ _ _ h
  refine wpAny_call (codeAny_mono (F.run X.A X.stack s H ⟨us, []⟩ (us ++ ds) (vs ++ dvs) Q E hr I.env0 (hb s us I.kIn hl) r2 h) fun r s' hq => ?_)
  cases r with
  | error e => exact hx H s e s' I hq
  | ok fl =>
    cases fl with
    | ret u => exact I.after hq
    | next => exact False.elim hq
    | brk => exact False.elim hq
    | cont => exact False.elim hq
theorem pex_call (F : FnOk X.prog X.w X.K X.mg X.base CX k f fd ps sp) (hr : Room k X.A) (hg : Gl X x) (hm : X.mg x = some (.ref f)) (hk : PySem.W.keepIn X.K (.ref f) = true) (hb : Binds X.K fd ps ds) (hd : Vals dvs ds)
    (ha : PA X.nox (e :: es) t) (hdb : (x == ("__debug__" : Str)) = false := by decide) (he : starEach (e :: es) X.env = (false, eval e X.env) :: starEach es X.env := by rfl) (hpl : (backTo pos (starEach es X.env)).any (·.1) = false := by rfl) :
    PEX CX X (.Call (.Name x p) (e :: es) [] pos) (fun E => tCall sp dvs E t) := by
  intro E xe' pins s σ H Q hx I h
  refine wpAny_Call_Name_kw (ld_glob I hg hm ?_ hdb)
  refine PySem.W.callWith_K (h₀ := X.base) I.ok.mod.kin hk (wpAny_mono (ha pos pins s σ H _ (I.wish _) h) (fun us s1 ⟨vs, H1, I1, r, q⟩ => ⟨I1.unwish.kIn, ?_⟩) fun _ _ z => False.elim z) he hpl
  exact run_fnX F hr hb hd hx I1.unwish r q
end
/-! ### try: e except C as n: suite -/
/-- the suite of an except clause: an exception is at hand, none leaves -/
noncomputable abbrev Cx.hnd (X : Cx) (ea : Addr) : Cx := { X with A := X.A.mark (some (.ref ea)), calm := false, xe := fun _ _ => False }
section
variable {X : Cx} {pins : List (Addr × Obj)} {σ : St} {H : Hp} {s : Shared}
theorem Cx.Ok.hnd (ok : X.Ok) (ea : Addr) : (X.hnd ea).Ok :=
  ⟨ok.mod, ok.kind, ok.glob, ok.blt, ok.above, ok.inj, ok.has, ok.cab, (fun z => nomatch z), ok.frames, ok.stk, ok.exf, ok.bs, ok.bsz, ok.noex, ok.exfs, ok.funs, ok.frf⟩
theorem Inv.hnd (I : Inv X pins σ H s) (ea : Addr) : Inv (X.hnd ea) pins σ H s := ⟨I.ok.hnd ea, I.os, I.bare, I.base, I.loc, I.cell, I.free, I.freeC, I.pin, I.hok, I.len⟩
theorem Inv.unhnd {ea : Addr} (ok : X.Ok) (I : Inv (X.hnd ea) pins σ H s) : Inv X pins σ H s := ⟨ok, I.os, I.bare, I.base, I.loc, I.cell, I.free, I.freeC, I.pin, I.hok, I.len⟩
/-- an object that was there all along is tracked from here on -/
theorem Inv.track (I : Inv X pins σ H s) {a : Addr} {o : HO} (hn : H a = none) (hs : X.s₀.heap.get? a = none) (hl : a ≠ X.env.locals) (hc : ∀ x c, X.env.cells.lookup x = some c → c ≠ a) (hp : ∀ p ∈ X.pn ++ pins, p.1 ≠ a)
    (new : ObjOk X.prog X.w (upd H a o) s.heap a o) : Inv X pins σ (upd H a o) s := by
  have st : ∀ b u, H b = some u → upd H a o b = some u := fun b u e => by rw [upd_ne (ne_of_none e hn)]; exact e
  refine ⟨I.ok, I.os, I.bare, ⟨I.base.keep, I.base.slot, fun b ob e n hx => ?_, I.base.there, fun b xs e => st _ _ (I.base.tups b xs e), fun b ob u e => st _ _ (I.base.frzs b ob u e), fun b ps e => ?_⟩, I.loc, I.cell, ?_, fun x c e => ?_, fun p h => ?_, fun b u e => ?_, I.len⟩
  · rw [upd_ne (fun z => by rw [z, hs] at e; cases e)]; exact I.base.free b ob e n hx
  · obtain ⟨m, e1⟩ := I.base.tbls b ps e
    exact ⟨m, st _ _ e1⟩
  · rw [upd_ne (Ne.symm hl)]; exact I.free
  · rw [upd_ne (hc x c e)]; exact I.freeC x c e
  · obtain ⟨e, n, ne, nf, d⟩ := I.pin p h
    exact ⟨e, by rw [upd_ne (hp p h)]; exact n, ne, nf, d⟩
  · by_cases hb : b = a
    · subst hb
      rw [upd_same] at e
      cases e
      exact new
    · rw [upd_ne hb] at e
      exact (I.hok b u e).stay (fun _ _ _ q => q) (fun c q => st _ _ q) fun c xs q => st _ _ q
/-- the name of an except clause goes -/
theorem goes_ok {M : Model} {A : Around} {E : Value → Shared → Prop} {i : Nat} {n : Str} {pos : Pos} {Q : Unit → Shared → Prop} (I : Inv X pins σ H s) (hN : X.N.Nodup) (hi : X.N[i]? = some n) (hk : X.env.scope.names.lookup n = some .local)
    (h : ∀ s', Inv X pins (σ.set i none) H s' → Q () s') : wpAny M A (do bindName X.env n .none; unbindBehindTheSuite X.env n pos) Q E s := by
  refine wpAny_bind (wpAny_bindName (store_ok (v := .non) I hN hi (.inl hk) rfl (fun s1 I1 => ?_) (.inr hk)))
  unfold unbindBehindTheSuite
  have hcls : (X.env.scope.kind == .class || (X.env.scope.kind == .module && X.env.locals != X.env.globals)) = false := by rw [I.ok.kind]; rfl
  have hiσ : i < σ.length := by rw [I.len]; exact (List.getElem?_eq_some_iff.mp hi).1
  obtain ⟨m, hn, hl⟩ := id I1.loc
  obtain ⟨u, _, lk⟩ := hl i n .non hi (List.getElem?_set_self hiσ) (.inl hk)
  have hm : m n = some u := by
    rcases lk with z | ⟨z | z, _⟩
    · exact z.2
    · rw [show X.env.kindOf n = X.env.scope.names.lookup n from rfl, hk] at z; cases z
    · rw [show X.env.kindOf n = X.env.scope.names.lookup n from rfl, hk] at z; cases z
  obtain ⟨oL, _, _, hoL, _⟩ := id hn
  refine wpAny_onRaise (wpAny_unbindName_local hk hn hm hcls fun h' u' hn' hs => ?_)
  have cne := I1.cne
  refine h _ ⟨I1.ok, I1.os, I1.bare, ⟨fun b o e n hb hx => ?_, fun b o e n hb hx => ?_, I1.base.free, fun b o e hx => ?_, I1.base.tups, I1.base.frzs, I1.base.tbls⟩, ⟨_, hn', fun j y v' e1 e2 e3 => ?_⟩, fun y c e => ?_, I1.free, I1.freeC, fun p hp => ?_, fun b ob e => ?_, by simpa using I.len⟩
  · exact (hs.2 b (Nat.ne_of_lt (Nat.lt_of_lt_of_le (Heap.lt_size e) I.ok.above))).trans (I1.base.keep b o e n hb hx)
  · obtain ⟨sl, e1⟩ := I1.base.slot b o e n hb hx
    exact ⟨sl, (hs.2 b (Nat.ne_of_lt (Nat.lt_of_lt_of_le (Heap.lt_size e) I.ok.above))).trans e1⟩
  · obtain ⟨o', e1⟩ := I1.base.there b o e hx
    exact ⟨o', (hs.2 b (Nat.ne_of_lt (Nat.lt_of_lt_of_le (Heap.lt_size e) I.ok.above))).trans e1⟩
  · by_cases hj : j = i
    · subst hj
      rw [List.getElem?_set_self hiσ] at e2
      cases e2
    · rw [List.getElem?_set_ne (Ne.symm hj)] at e2
      obtain ⟨u', r', q⟩ := hl j y v' e1 (by rw [List.getElem?_set_ne (Ne.symm hj)]; exact e2) e3
      refine ⟨u', r', ?_⟩
      rcases q with ⟨k, e⟩ | ⟨k, c, e, z⟩
      · refine .inl ⟨k, ?_⟩
        have : y ≠ n := fun e => hj (nodup_ix hN e1 (e ▸ hi))
        simp [this, e]
      · exact .inr ⟨k, c, e, z.sameBut hs (cne y c e)⟩
  · obtain ⟨w', z⟩ := I1.cell y c e
    exact ⟨w', z.sameBut hs (cne y c e)⟩
  · obtain ⟨e, n, ne, nf, d⟩ := I1.pin p hp
    exact ⟨(hs.2 p.1 ne).trans e, n, ne, nf, d⟩
  · refine (I1.hok b ob e).stay (fun c w' hc q => (hs.2 c ?_).trans q) (fun _ q => q) fun _ _ q => q
    rintro rfl
    rcases hc with rfl | hc
    · rw [I1.free] at e; cases e
    · rw [I1.free] at hc; cases hc
end
noncomputable def Ends.unset (D : Ends) (i : Nat) : Ends := { nx := fun σ H => D.nx (σ.set i none) H, rt := D.rt, bk := fun σ H => D.bk (σ.set i none) H, ct := fun σ H => D.ct (σ.set i none) H }
section
variable {X : Cx}
end
end L2

set_option Elab.async false
set_option linter.all false
set_option maxRecDepth 100000
set_option maxHeartbeats 4000000
namespace L2
open PySem PySem.Spec PyProof.Rows
/-! ### a body that may raise while the local names stand as at its start -/
noncomputable def PSX (CX : CXT) (X : Cx) (sts : List Stmt) (t : XK → TS) : Prop :=
  ∀ (E : XK) (xe' : Value → Shared → Prop) (pins : List (Addr × Obj)) (s : Shared) (σ : St) (H : Hp) (D : Ends), (∀ H s e s', Inv X pins σ H s → CX X.stack H s E e s' → xe' e s') → Inv X pins σ H s → t E D σ H →
    wpAny (model X.prog X.w) X.A (execs sts X.env) (SP X pins D) xe' s
section
variable {X : Cx} {CX : CXT} {e : Expr} {te : XK → TE} {pos : Pos}
theorem psx_ret (he : PEX CX X e te) : PSX CX X [.Return (some e) pos] (fun E => tRet (te E)) := by
  intro E xe' pins s σ H D hx I h
  exact wpAny_execs_cons (wpAny_Return_some (thn (he E xe' pins s σ H _ hx I h) fun v s1 hsl45 => by obtain ⟨x, H1, I1, r1, q1⟩ := hsl45; exact ⟨x, σ, H1, I1, r1, q1⟩))
theorem psx_set {i : Nat} {x : Str} {pos' : Pos} (hN : X.N.Nodup) (hi : X.N[i]? = some x) (hx : Loc X.env.scope x) (he : PEX CX X e te) (hs : swapsWith e (some (.Name x pos')) pos.line X.env = pure false := by rfl)
    (hf : X.fn x = true ∨ X.env.scope.names.lookup x = some .local := by first | exact .inl rfl | exact .inr rfl | assumption) : PSX CX X [.Assign [.Name x pos'] e pos] (fun E => tAsg (te E) (gName i)) := by
  intro E xe' pins s σ H D hx' I h
  refine wpAny_execs_cons (wpAny_Assign_Name (thn (he E xe' pins s σ H _ hx' I h) fun v s1 hsl46 => ?_) hs)
  obtain ⟨y, H1, I1, r1, q1⟩ := hsl46
  exact store_ok I1 hN hi hx r1 (fun s2 I2 => wpAny_execs_nil ⟨_, H1, I2, q1⟩) hf
theorem psx_if {c : Expr} {a b : List Stmt} {tc : TT} {t u : XK → TS} (hc : PT X.nox c tc) (ha : PSX CX X a t) (hb : PSX CX X b u) : PSX CX X [.If c a b pos] (fun E => tIfS tc (t E) (u E)) := by
  intro E xe' pins s σ H D hx I h
  have fin : ∀ f s1, SP X pins D f s1 → (match f with | .next => wpAny (model X.prog X.w) X.A (execs [] X.env) (SP X pins D) xe' s1 | f => SP X pins D f s1) := fun f s1 q => by
    cases f with
    | next => exact wpAny_execs_nil q
    | ret v => exact q
    | brk => exact q
    | cont => exact q
  refine wpAny_execs_cons (wpAny_If (wpAny_mono (hc pins s σ H _ (I.wish _) h) (fun d s1 hsl47 => ?_) fun _ _ z => False.elim z))
  obtain ⟨H1, I1, q1⟩ := hsl47
  cases d with
  | true => exact thn (ha E xe' pins s1 σ H1 D hx I1.unwish q1) fin
  | false => exact thn (hb E xe' pins s1 σ H1 D hx I1.unwish q1) fin
end
/-! ### o.m(..) that may raise -/
section
variable {X : Cx} {CX : CXT} {k : Nat} {f C : Addr} {fd : FuncData} {ps : List Str} {sp : Sp} {dvs : List V} {ds : List Value} {x m : Str} {p pos apos : Pos} {e o : Expr} {es : List Expr} {ta : TE} {t : TA}
end
/-! ### try: body except C as n: suite -/
section
variable {X : Cx}
end
end L2

set_option Elab.async false
set_option linter.all false
set_option maxRecDepth 100000
set_option maxHeartbeats 4000000
namespace L2
open PySem PySem.Spec PyProof.Rows
/-! ### an exception on its way, of which the class and the own dict are known -/
theorem dict_mapFields (o : Obj) (f : Array Value → Array Value) : (o.mapFields f).dict = o.dict := by
  obtain ⟨a, b, c, d⟩ := o
  cases c <;> rfl
noncomputable def TrD (h base : Heap) (e : Addr) (cls fl : Value) (dd : Option Addr) (cx : Option Value) : Prop :=
  ∃ oe vs T oT ts, h.get? e = some oe ∧ (oe.cls = cls ∧ oe.dict = dd ∧ vs[2]? = cx) ∧ oe.data = .fields vs ∧ vs[1]? = some (.ref T) ∧ base.get? T = none ∧ T ≠ e ∧ h.get? T = some oT ∧ oT.data = .fields ts ∧ ts[3]? = some fl
noncomputable def FlyD (base : Heap) (l : List Env) (e : Addr) (cls : Value) (dd : Option Addr) (cx : Option Value) (h : Heap) : Prop := base.StaysIn h ∧ base.get? e = none ∧ h.FunFrames base l ∧ TrD h base e cls .none dd cx
noncomputable def HeldD (base : Heap) (l : List Env) (e : Addr) (cls : Value) (dd : Option Addr) (cx : Option Value) (L : Addr) (h : Heap) : Prop := base.StaysIn h ∧ base.get? e = none ∧ h.FunFrames base l ∧ TrD h base e cls (rawInt L) dd cx
section
variable {M : Model} {A : Around} {E : Value → Shared → Prop} {s : Shared}
theorem noteEntry {base : Heap} {env : Env} {outer : List Env} {L e : Addr} {oe : Obj} {vs : Array Value} {head : Value} {hadNext : Bool} {Q : Unit → Shared → Prop}
    (hfr : A.frames = some (env :: outer)) (hl : s.heap.FunFrames base (env :: outer)) (hf : env.frame = some L)
    (he : s.heap.get? e = some oe) (hkb : base.StaysIn s.heap) (hen : base.get? e = none) (hd : oe.data = .fields vs) (hsz : 1 < vs.size)
    (h : ∀ h', base.StaysIn h' → h'.FunFrames base (env :: outer) → TrD h' base e oe.cls (rawInt L) oe.dict vs[2]? → s.heap.UpToSlots h' → Q () { s with heap := h' }) :
    wpAny M A (do let a ← frameOf env; let pl ← entryPlaceOf L hadNext; let b ← EntryCells.newEntry head a .none (rawInt L) .none pl; setField (.ref e) 1 b) Q E s := by
  have hene : e ∉ (env :: outer).filterMap (·.frame) := fun hm => by
    obtain ⟨_, o, ho, hnf⟩ := hl.mem hm
    rw [he] at ho; injection ho with ho; subst ho; exact hnf vs hd
  refine wpAny_bind (wpAny_frameOf_fun hfr hl hf fun h₁ hs₁ => wpAny_bind (wpAny_entryPlaceOf fun pl hpl => ?_))
  unfold EntryCells.newEntry newFields
  refine wpAny_bind (wpAny_newObj_type ?_ (hpl.sizeOk5 _ _ _ _ _))
  have he₁ : h₁.get? e = some oe := (hs₁.2.1 e hene).trans he
  have kb₁ : base.StaysIn h₁ := fun b o hbo => (hs₁.2.1 b fun hm => by rw [(hl.mem hm).1] at hbo; cases hbo).trans (hkb b o hbo)
  have hTe : h₁.objs.size ≠ e := Nat.ne_of_gt (Heap.lt_size he₁)
  generalize hot : ({ cls := .type "traceback", dict := none, data := .fields ([head, .ref L, .none, rawInt L, .none] ++ (if pl.isEmpty then List.replicate 6 Value.none else pl)).toArray } : Obj) = ot
  have hotd : ∃ ts, ot.data = .fields ts ∧ ts[3]? = some (rawInt L) := by
    subst hot
    exact ⟨_, rfl, by first | (simp; done) | (rcases hpl with rfl | ⟨_, _, _, _, _, _, _, rfl⟩ <;> simp)⟩
  have hofr : ot.isFreed = false := by subst hot; rfl
  have he₂ := Heap.get?_push_of_some (h := h₁) ot he₁
  refine wpAny_setField he₂ hd hsz ?_
  have hd₃ := Obj.data_mapFields hd (·.setIfInBounds 1 (Value.ref h₁.objs.size))
  have he₃ := Heap.get?_update_self (Obj.mapFields (·.setIfInBounds 1 (Value.ref h₁.objs.size))) he₂ (Obj.isFreed_of_fields hd₃)
  have hT₃ := (Heap.get?_update_other (h₁.push ot) (Obj.mapFields (·.setIfInBounds 1 (Value.ref h₁.objs.size))) (Ne.symm hTe)).trans (Heap.get?_push_size h₁ hofr)
  have keep : ∀ b o, b ≠ e → h₁.get? b = some o → ((h₁.push ot).update e (Obj.mapFields (·.setIfInBounds 1 (Value.ref h₁.objs.size)))).get? b = some o :=
    fun b o hbe hb => by rw [Heap.get?_update_other _ _ (Ne.symm hbe)]; exact Heap.get?_push_of_some _ hb
  have rec' : ∀ b o, s.heap.get? b = some o → (∀ vs, o.data ≠ .fields vs) → b ≠ e := fun b o hb hnf q => by
    rw [q, he] at hb; injection hb with hb; subst hb; exact hnf vs hd
  obtain ⟨ts, ht1, ht2⟩ := hotd
  refine h _ (fun b o hbo => keep b o (fun q => by rw [q, hen] at hbo; cases hbo) (kb₁ b o hbo)) (hl.of_keeps fun b o hb hnf => ?_) ?_ fun b o hb hnf => ?_
  · obtain ⟨sl, hs⟩ := hs₁.2.2 b o hb
    exact ⟨_, keep b _ (rec' b o hb hnf) hs, rfl⟩
  · exact ⟨_, _, h₁.objs.size, _, ts, he₃, ⟨Obj.cls_mapFields _ _, dict_mapFields _ _, by rw [Array.getElem?_setIfInBounds_ne (by decide)]⟩, hd₃, by simp [hsz], kb₁.fresh, hTe, hT₃, ht1, ht2⟩
  · obtain ⟨sl, hs⟩ := hs₁.2.2 b o hb
    exact ⟨sl, keep b _ (rec' b o hb hnf) hs⟩
theorem note_first {base : Heap} {env : Env} {outer : List Env} {L e : Addr} {oe : Obj} {vs : Array Value} {Q : Unit → Shared → Prop}
    (hfr : A.frames = some (env :: outer)) (hl : s.heap.FunFrames base (env :: outer)) (hf : env.frame = some L)
    (he : s.heap.get? e = some oe) (hkb : base.StaysIn s.heap) (hen : base.get? e = none) (hd : oe.data = .fields vs) (h1 : vs[1]? = some .none)
    (h : ∀ h', HeldD base (env :: outer) e oe.cls oe.dict vs[2]? L h' → s.heap.UpToSlots h' → Q () { s with heap := h' }) : wpAny M A (noteFrame (.ref e) env) Q E s := by
  unfold noteFrame
  simp only [hf]
  refine wpAny_bind (wpAny_field he hd h1 ?_)
  rw [if_neg (by decide)]
  exact noteEntry hfr hl hf he hkb hen hd (Array.getElem?_eq_some_iff.mp h1).1 fun h' k1 k2 k3 k4 => h h' ⟨k1, hen, k2, k3⟩ k4
theorem note_on {base : Heap} {env : Env} {outer : List Env} {L e : Addr} {cls : Value} {dd : Option Addr} {cx : Option Value} {Q : Unit → Shared → Prop}
    (hfr : A.frames = some (env :: outer)) (hf : env.frame = some L) (hfl : FlyD base (env :: outer) e cls dd cx s.heap)
    (h : ∀ h', HeldD base (env :: outer) e cls dd cx L h' → s.heap.UpToSlots h' → Q () { s with heap := h' }) : wpAny M A (noteFrame (.ref e) env) Q E s := by
  obtain ⟨hkb, hen, hl, oe, vs, T, oT, ts, he, ⟨rfl, rfl, rfl⟩, hd, h1, hnT, hTe, hT, hdT, h3⟩ := hfl
  unfold noteFrame
  simp only [hf]
  refine wpAny_bind (wpAny_field he hd h1 ?_)
  rw [if_pos (show (Value.ref T != Value.none) = true from by simp)]
  refine wpAny_bind (wpAny_field hT hdT h3 ?_)
  rw [if_neg (show ¬ ((Value.none == rawInt L) = true) from by simp [rawInt])]
  refine wpAny_bind (wpAny_setField hT hdT (Array.getElem?_eq_some_iff.mp h3).1 ?_)
  have other : ∀ b, b ≠ T → (s.heap.update T (Obj.mapFields (·.setIfInBounds 3 Value.none))).get? b = s.heap.get? b := fun b hb => Heap.get?_update_other _ _ (Ne.symm hb)
  have rec' : ∀ b o, s.heap.get? b = some o → (∀ vs, o.data ≠ .fields vs) → b ≠ T := fun b o hb hnf q => by
    rw [q, hT] at hb; injection hb with hb; subst hb; exact hnf ts hdT
  refine noteEntry (s := { s with heap := s.heap.update T (Obj.mapFields (·.setIfInBounds 3 Value.none)) }) hfr (hl.of_keeps fun b o hb hnf => ⟨o, (other b (rec' b o hb hnf)).trans hb, rfl⟩) hf ((other e (Ne.symm hTe)).trans he)
    (fun b o hbo => (other b fun q => by rw [q, hnT] at hbo; cases hbo).trans (hkb b o hbo)) hen hd (Array.getElem?_eq_some_iff.mp h1).1
    fun h' x1 x2 x3 x4 => h h' ⟨x1, hen, x2, x3⟩ fun b o hb hnf => x4 b o ((other b (rec' b o hb hnf)).trans hb) hnf
theorem set_down {base : Heap} {l : List Env} {e : Addr} {cls fl : Value} {dd : Option Addr} {cx : Option Value} {Q : Unit → Shared → Prop}
    (hkb : base.StaysIn s.heap) (hen : base.get? e = none) (hl : s.heap.FunFrames base l) (ht : TrD s.heap base e cls fl dd cx)
    (h : ∀ h', FlyD base l e cls dd cx h' → s.heap.UpToSlots h' → Q () { s with heap := h' }) : wpAny M A (setFlight (.ref e) none) Q E s := by
  obtain ⟨oe, vs, T, oT, ts, he, hcls, hd, h1, hnT, hTe, hT, hdT, h3⟩ := ht
  have hsz3 : 3 < ts.size := (Array.getElem?_eq_some_iff.mp h3).1
  have other : ∀ b, b ≠ T → (s.heap.update T (Obj.mapFields (·.setIfInBounds 3 ((none : Option Addr).elim Value.none fun f => rawInt f)))).get? b = s.heap.get? b :=
    fun b hb => Heap.get?_update_other _ _ (Ne.symm hb)
  have rec' : ∀ b o, s.heap.get? b = some o → (∀ vs, o.data ≠ .fields vs) → b ≠ T := fun b o hb hnf q => by
    rw [q, hT] at hb; injection hb with hb; subst hb; exact hnf ts hdT
  unfold setFlight
  refine wpAny_bind (wpAny_field he hd h1 ?_)
  rw [if_pos (show (Value.ref T != Value.none) = true from by simp)]
  refine wpAny_setField hT hdT hsz3 (h _ ⟨fun b o hbo => (other b fun q => by rw [q, hnT] at hbo; cases hbo).trans (hkb b o hbo), hen,
    hl.of_keeps fun b o hb hnf => ⟨o, (other b (rec' b o hb hnf)).trans hb, rfl⟩, ?_⟩ fun b o hb hnf => ⟨o.slots, (other b (rec' b o hb hnf)).trans hb⟩)
  exact ⟨oe, vs, T, _, _, (other e (Ne.symm hTe)).trans he, hcls, hd, h1, hnT, hTe, Heap.get?_update_self _ hT (Obj.isFreed_of_fields (Obj.data_mapFields hdT _)), Obj.data_mapFields hdT _, by simp [hsz3]⟩
theorem landsD {base : Heap} {l : List Env} {e L : Addr} {cls : Value} {dd : Option Addr} {cx : Option Value} {Q : Unit → Shared → Prop} (hh : HeldD base l e cls dd cx L s.heap)
    (h : ∀ h', FlyD base l e cls dd cx h' → s.heap.UpToSlots h' → Q () { s with heap := h' }) : wpAny M A (setFlight (.ref e) none) Q E s := set_down hh.1 hh.2.1 hh.2.2.1 hh.2.2.2 h
theorem lands_againD {base : Heap} {l : List Env} {e : Addr} {cls : Value} {dd : Option Addr} {cx : Option Value} {Q : Unit → Shared → Prop} (hh : FlyD base l e cls dd cx s.heap)
    (h : ∀ h', FlyD base l e cls dd cx h' → s.heap.UpToSlots h' → Q () { s with heap := h' }) : wpAny M A (setFlight (.ref e) none) Q E s := set_down hh.1 hh.2.1 hh.2.2.1 hh.2.2.2 h
theorem FlyD.out {base h : Heap} {env : Env} {outer : List Env} {e : Addr} {cls : Value} {dd : Option Addr} {cx : Option Value} (x : FlyD base (env :: outer) e cls dd cx h) : FlyD base outer e cls dd cx h := by
  obtain ⟨k1, k2, ⟨_, _, k3⟩, k4⟩ := x
  exact ⟨k1, k2, k3, k4⟩
theorem leaves_onD {base : Heap} {env : Env} {outer : List Env} {L e : Addr} {cls : Value} {dd : Option Addr} {cx : Option Value} {Q : Unit → Shared → Prop}
    (hfr : A.frames = some (env :: outer)) (hf : env.frame = some L) (hfl : FlyD base (env :: outer) e cls dd cx s.heap)
    (h : ∀ h', FlyD base outer e cls dd cx h' → s.heap.UpToSlots h' → Q () { s with heap := h' }) : wpAny M A (leaving env (.ref e)) Q E s := by
  unfold leaving
  refine wpAny_bind (note_on hfr hf hfl fun h1 hh up => ?_)
  exact landsD (s := { s with heap := h1 }) hh fun h2 f2 up2 => h h2 f2.out (up.trans up2)
theorem leaves_firstD {base : Heap} {env : Env} {outer : List Env} {L e : Addr} {oe : Obj} {vs : Array Value} {Q : Unit → Shared → Prop}
    (hfr : A.frames = some (env :: outer)) (hl : s.heap.FunFrames base (env :: outer)) (hf : env.frame = some L)
    (he : s.heap.get? e = some oe) (hkb : base.StaysIn s.heap) (hen : base.get? e = none) (hd : oe.data = .fields vs) (h1 : vs[1]? = some .none)
    (h : ∀ h', FlyD base outer e oe.cls oe.dict vs[2]? h' → s.heap.UpToSlots h' → Q () { s with heap := h' }) : wpAny M A (leaving env (.ref e)) Q E s := by
  unfold leaving
  refine wpAny_bind (note_first hfr hl hf he hkb hen hd h1 fun h1 hh up => ?_)
  exact landsD (s := { s with heap := h1 }) hh fun h2 f2 up2 => h h2 f2.out (up.trans up2)
end
end L2

set_option Elab.async false
set_option linter.all false
set_option maxRecDepth 100000
set_option maxHeartbeats 4000000
namespace L2
open PySem PySem.Spec PyProof.Rows
/-! ### self.f = v where self is a new exception of an own class -/
noncomputable abbrev bmVE : List Value := [.type "ValueError", .type "Exception", .type "BaseException", .type "object"]
noncomputable def refsThen : Nat → List Value → Bool
  | 0, l => l == bmVE
  | n + 1, .ref _ :: r => refsThen n r
  | _ + 1, _ => false
theorem refuse_exc (self : Value) : ∀ (n : Nat) (l : List Value), refsThen n l = true → refuseLoop self "__setattr__" l = pure ()
  | 0, l, e => by rw [show l = bmVE from beq_iff_eq.mp e]; exact PySem.F.store_ValueError.passes self
  | n + 1, [], e => by cases e
  | n + 1, v :: r, e => by cases v <;> first | (rw [refuseLoop_ref]; exact refuse_exc self n r e) | cases e
theorem exc_obj : ∀ (n : Nat) (l : List Value), refsThen n l = true → l.contains (.type "object") = true
  | 0, l, e => by rw [show l = bmVE from beq_iff_eq.mp e]; rfl
  | n + 1, [], e => by cases e
  | n + 1, v :: r, e => by cases v <;> first | (rw [List.contains_cons, exc_obj n r e, Bool.or_true]) | cases e
/-- what of the text an own class of exceptions must have whose __init__ sets attributes -/
structure ICls (K : PySem.W.Frag) (C : Addr) : Prop where
  po : (PySem.W.clsIn K C).any (fun cd => refsThen 2 cd.mro) = true
  sa : PySem.W.findIn K (.ref C) "__setattr__" = some (some (.builtin "object.__setattr__"))
  hd : PySem.W.hasDictIn K C = true
section
variable {prog : Program} {w : World} {A : Around} {E : Value → Shared → Prop} {s : Shared} {K : PySem.W.Frag} {x C : Addr} {name : Str} {v : Value}
open PySem.W PySem.Calls Builtin Builtin.ObjectAttr in
theorem osa_exc {R : Result → Shared → Prop} {ox : Obj} {od : Option Obj} {tk : Tok} (X : K.In s.heap) (I : PySem.W.InstAt s.heap x ox C od) (c : ICls K C) (ht : takerIn K C name = some none)
    (h : ∀ b, wpAny (model prog w) A.in1 (storeInOwnDict (.ref x) (.ref C) (.str name tk) name v b)
      (fun fin s' => match fin with | .done f => R (.ok f) s' | .again c' => c'.quiet = true ∧ codeAny (model prog w) A c' R s') (fun e s' => R (.error e) s') s) :
    codeAny (model prog w) A (.call (.builtin "object.__setattr__") ⟨[.ref x, .str name tk, v], []⟩) R s := by
  have SF := PySem.F.store_object
  obtain ⟨cd, hc, ho⟩ := any_some c.po
  have ne : cd.mro.isEmpty = false := by cases q : cd.mro with | nil => rw [q] at ho; cases ho | cons _ _ => rfl
  have sub : Looks (model prog w) s.heap (isInstance (.ref x) (.type "object")) true := I.type.andThen (looks_mroIn X (by unfold mroIn; rw [hc, Option.bind_some, if_neg (by rw [ne]; decide), exc_obj _ _ ho]))
  refine codeAny_call_builtin SF.slot.plain SF.entry (@check_slot (model prog w) _ _ s "object.__setattr__" "object" "__setattr__" (.ref x) [.str name tk, v] [] _ SF.kind SF.split sub (SF.args (.ref x) (.str name tk) v) ?_)
  obtain ⟨attr, ha, hr⟩ := Option.bind_eq_some_iff.mp ht
  have hm : Looks (model prog w) s.heap (mroOf (.ref C)) cd.mro := (looks_clsIn X hc).andThen .now
  have L3 : Looks (model prog w) s.heap (storeTaker? attr) none := by
    cases attr with
    | none => exact .now
    | some a =>
      obtain ⟨b, hb, e⟩ := Option.map_eq_some_iff.mp hr
      refine (looks_takesIn X hb).andThen ?_
      cases b
      · exact .now
      · cases e
  rw [osa_eq, refuse_eq]
  refine wpAny_bind (wpAny_bind (I.type.here (wpAny_bind (hm.here ?_))))
  rw [refuse_exc _ _ _ ho]
  refine wpAny_pure (wpAny_bind (I.type.here (wpAny_bind ((looks_findIn X ha).here (wpAny_bind (L3.here ?_))))))
  exact h _
/-- a new exception: its class, its arguments' tuple, its own dict -/
noncomputable def ExcN (e C t : Addr) (dd : Option Addr) (h : Heap) : Prop := h.get? e = some { cls := .ref C, dict := dd, data := .fields #[.ref t, .none, .none, .none, .bool false, .none] }
open PySem.W PySem.Calls Builtin Builtin.ObjectAttr in
theorem set_exc1 {t : Addr} {Q : Unit → Shared → Prop} (X : K.In s.heap) (I : ExcN x C t none s.heap) (c : ICls K C) (ht : takerIn K C name = some none)
    (h : ∀ h', h'.Ns1 s.heap.objs.size (fun y => if y = name then some v else none) → ExcN x C t (some s.heap.objs.size) h' → (∀ b o, b ≠ x → s.heap.get? b = some o → h'.get? b = some o) → Q () { s with heap := h', toks := s.toks + 2 }) :
    wpAny (model prog w) A (setAttr (.ref x) name v) Q E s := by
  have J : PySem.W.InstAt s.heap x { cls := .ref C, dict := none, data := .fields #[.ref t, .none, .none, .none, .bool false, .none] } C none := ⟨I, rfl, rfl, True.intro⟩
  refine set_plain X J c.sa (osa_exc (s := { s with toks := s.toks + 1 }) X J c ht fun b => ?_)
  obtain ⟨cd, hc, hd'⟩ := any_some c.hd
  refine wpAny_bind (wpAny_pure (wpAny_bind (wpAny_bind (wpAny_loadPart (s := { s with toks := s.toks + 1 }) I (wpAny_bind (Looks.here (s := { s with toks := s.toks + 1 }) (looks_clsIn X hc) ?_))))))
  rw [hd']
  rw [if_neg (by decide)]
  dsimp only
  refine wpAny_bind (wpAny_alloc ?_)
  have hx : ({ s with toks := s.toks + 1 } : Shared).heap.get? x = some { cls := .ref C, dict := none, data := .fields #[.ref t, .none, .none, .none, .bool false, .none] } := I
  have hx₁ := Heap.get?_push_of_some { cls := .type "dict", data := .dict #[] } hx
  refine wpAny_bind (wpAny_update hx₁ (wpAny_pure ?_))
  have hxs : x ≠ s.heap.objs.size := Nat.ne_of_lt (Heap.lt_size hx)
  refine wpAny_bind (wpAny_pure (wpAny_bind ?_))
  generalize hfo : (fun o : Obj => { cls := o.cls, dict := some s.heap.objs.size, data := o.data, slots := o.slots : Obj }) = fo
  have hgd : ((s.heap.push { cls := .type "dict", data := .dict #[] }).update x fo).get? s.heap.objs.size = some { cls := .type "dict", data := .dict #[] } :=
    (Heap.get?_update_ne _ _ _ _ hxs.symm).trans (Heap.get?_push_at rfl rfl)
  have hnd : ((s.heap.push { cls := .type "dict", data := .dict #[] }).update x fo).Ns s.heap.objs.size (fun _ => none) := ⟨_, #[], _, hgd, rfl, fun e he => absurd he (by simp), fun _ => rfl⟩
  refine wpAny_nsSet1 (s := { s with heap := (s.heap.push { cls := .type "dict", data := .dict #[] }).update x fo, toks := s.toks + 1 }) (Heap.Ns1.of_empty hnd) fun h' hn' hs => ?_
  obtain ⟨oD, esD, epD, hoD, hdD, hcD⟩ := hn'.count (Within.cons name v Within.nil)
  refine wpAny_bind (wpAny_lookBehind hoD (by rw [hdD]; exact pastItsLine_dict (Nat.le_trans hcD (by rw [List.length_cons, List.length_nil, sizeLine_eq]; (exact Nat.le_add_left _ _)))) ?_)
  refine wpAny_pure (h h' hn' ?_ fun b o hb q => ?_)
  · refine (hs.2 x hxs).trans ((Heap.get?_update_self _ hx₁ ?_).trans ?_)
    · subst hfo; rfl
    · subst hfo; rfl
  · exact (hs.2 b (Nat.ne_of_lt (Heap.lt_size q))).trans ((Heap.get?_update_ne _ _ _ _ hb).trans (Heap.get?_push_of_some _ q))
open PySem.W PySem.Calls Builtin Builtin.ObjectAttr in
theorem set_exc2 {t dx : Addr} {mA : Str → Option Value} {ns : List Str} {Q : Unit → Shared → Prop} (X : K.In s.heap) (I : ExcN x C t (some dx) s.heap) (N : s.heap.Ns1 dx mA) (ne : dx ≠ x) (hw : PySem.Within mA ns) (hsz : ns.length ≤ 1000) (c : ICls K C) (ht : takerIn K C name = some none)
    (h : ∀ h', h'.Ns1 dx (fun y => if y = name then some v else mA y) → Heap.SameBut dx s.heap h' → Q () { s with heap := h', toks := s.toks + 2 }) :
    wpAny (model prog w) A (setAttr (.ref x) name v) Q E s := by
  obtain ⟨od, ho, _⟩ := lookIn_ns N
  have J : PySem.W.InstAt s.heap x { cls := .ref C, dict := some dx, data := .fields #[.ref t, .none, .none, .none, .bool false, .none] } C (some od) := ⟨I, rfl, rfl, ho⟩
  refine set_plain X J c.sa (osa_exc (s := { s with toks := s.toks + 1 }) X J c ht fun b => ?_)
  obtain ⟨cd, hc, hd'⟩ := any_some c.hd
  refine wpAny_bind (wpAny_pure (wpAny_bind (wpAny_bind (wpAny_loadPart (s := { s with toks := s.toks + 1 }) I (wpAny_bind (Looks.here (s := { s with toks := s.toks + 1 }) (looks_clsIn X hc) ?_))))))
  rw [hd']
  refine wpAny_pure (a := some dx) (wpAny_bind (wpAny_pure (wpAny_bind ?_)))
  refine wpAny_nsSet1 (s := { s with toks := s.toks + 1 }) N fun h' hn2 hs2 => ?_
  obtain ⟨oD, esD, epD, hoD, hdD, hcD⟩ := hn2.count (PySem.Within.cons name v hw)
  refine wpAny_bind (wpAny_lookBehind hoD (by rw [hdD]; exact pastItsLine_dict (Nat.le_trans hcD (by rw [List.length_cons, sizeLine_eq]; (exact Nat.lt_of_le_of_lt (by assumption) (by decide))))) ?_)
  exact wpAny_pure (h _ hn2 hs2)
end

/-! ### C(..), C an own class of exceptions with an __init__ of its own -/
theorem ns_some_of {K : PySem.W.Frag} {h : Heap} {N : Addr} {mg : Str → Option Value} {n : Str} {v : Value} (X : K.In h) (G : h.Ns N mg) (e : PySem.W.nsIn K N n = some (some v)) : mg n = some v := by
  obtain ⟨o, es, ep, ho, hd, _, hf⟩ := G
  unfold PySem.W.nsIn at e
  split at e
  case h_2 => cases e
  case h_1 c d es' n' sl q =>
    have := X _ _ q
    rw [ho] at this
    cases this
    cases hd
    split at e
    case h_1 en he =>
      cases e
      rw [← hf]
      unfold nsFind findBy
      rw [← Array.find?_toList, he]
      rfl
    case h_2 => split at e <;> cases e
noncomputable def excInI (K : PySem.W.Frag) (C : Addr) (bmB : List Value) (newId : String) (f : Addr) : Bool := match K.lookup C with
  | some ⟨.type "type", _, .cls cd, sl⟩ => (match cd.mro, sl.toList with
    | .ref C' :: bm, [_, _, _, _, some (.builtin n), _] => C' == C && n == newId && !cd.hasDel && PySem.W.tailIn K bmB bm && PySem.W.nsOkIn K cd.ns && PySem.W.nsIn K cd.ns "__init__" == some (some (.ref f))
    | _, _ => false)
  | _ => false
theorem own_of_KI {K : PySem.W.Frag} {h : Heap} {C f : Addr} {bmB : List Value} {newId : String} (X : K.In h) (q : excInI K C bmB newId f = true) :
    ∃ bm N nm q bs hdct sn sub ab col dd k0 k1 k2 k3 k5 mN, h.get? C = some (excClassObj nm q C N bs bm hdct sn sub ab col dd k0 k1 k2 k3 k5 newId) ∧ h.Ns N mN ∧ mN "__init__" = some (.ref f) ∧ OwnTail h bmB bm := by
  unfold excInI at q
  split at q
  case h_2 => cases q
  case h_1 dd cd sl ho =>
    split at q
    case h_2 => cases q
    case h_1 C' bm k0 k1 k2 k3 n k5 hm hs =>
      simp only [Bool.and_eq_true, beq_iff_eq, Bool.not_eq_true'] at q
      obtain ⟨⟨⟨⟨⟨e1, e2⟩, e3⟩, e4⟩, e5⟩, e6⟩ := q
      cases cd
      cases sl
      simp only at hm hs e3 e5 e6
      subst e1 e2 e3 hm hs
      have G := Heap.Ns.of_isNs (PySem.W.isNs_of_in X e5)
      exact ⟨_, _, _, _, _, _, _, _, _, _, _, _, _, _, _, _, _, X _ _ ho, G, ns_some_of X G e6, PySem.W.tail_of_in X e4⟩
section
variable {prog : Program} {w : World} {A : Around} {E : Value → Shared → Prop} {h : Heap} {g : Array GenState} {d : Drawn} {t : Nat} {os : OsState}
variable {nm q : Str} {C N : Addr} {bs bm bmB : List Value} {hdct : Bool} {sn : List Str} {sub : List Value} {ab : Bool} {col : Option Bool} {dd : Option Addr} {k0 k1 k2 k3 k5 : Option Value} {B newId initId : String}
theorem made_init (F : ExcBaseFacts B newId initId bmB) (T : OwnTail h bmB bm) {mN : Str → Option Value} {rest : List Value} {fI : Addr} {oI : Obj} {Q : Fin → Shared → Prop}
    (hC : h.get? C = some (excClassObj nm q C N bs bm hdct sn sub ab col dd k0 k1 k2 k3 k5 newId)) (hn : h.Ns N mN) (hi : mN "__init__" = some (.ref fI)) (hfI : h.get? fI = some oI) (hfc : oI.cls = .type "function")
    (hq : ∀ h' e, Heap.MadeExcOf h h' e (.ref C) rest →
      wpAny (model prog w) A (call (.ref fI) (.ref e :: rest)) (fun r s' => r = .none ∧ Q (.done (.ret (.ref e))) s') E ⟨h', g, d, t, os⟩) (hrest : rest.length ≤ sizeLine) :
    wpAny (model prog w) A (Builtin.«type.__call__» ⟨.ref C :: rest, []⟩) Q E ⟨h, g, d, t, os⟩ := by
  repeat (first | with_reducible refine wpAny_loadPart_at hC ?_ | with_reducible refine wpAny_madeBy_exc hC ?_ | wp_step)
  refine codeAny_call_builtin_code (Code.quiet_builtin _ F.quiet) (wpAny_check_new_subT F T hC ?_)
  refine codeAny_exc_new_subT F T hC ?_ hrest
  show wpAny _ _ _ _ _ _
  have kp : ∀ b o, h.get? b = some o → ((h.push { cls := .type "tuple", data := .seq rest.toArray }).push { cls := .ref C, data := .fields #[.ref h.objs.size, .none, .none, .none, .bool false, .none] }).get? b = some o :=
    fun b o e => Heap.get?_push_of_some _ (Heap.get?_push_of_some _ e)
  have hC₁ := kp _ _ hC
  have hfI₁ := kp _ _ hfI
  have hn₁ := hn.keeps kp
  have hget : ((h.push { cls := .type "tuple", data := .seq rest.toArray }).push
      { cls := .ref C, data := .fields #[.ref h.objs.size, .none, .none, .none, .bool false, .none] }).get? (h.objs.size + 1) = some
      { cls := .ref C, data := .fields #[.ref h.objs.size, .none, .none, .none, .bool false, .none] } := by heap_get
  have hcC : (Value.ref C :: bm).contains (.ref C) = true := by simp
  have T₁ := T.keeps kp
  unfold isInstance
  repeat (first | with_reducible refine wpAny_loadPart_at hget ?_ | (with_reducible refine wpAny_isSubtype_exc hC₁ ?_; rw [hcC]) | wp_step)
  show wpAny _ _ (typeLookup (.ref C) _) _ _ _
  refine wpAny_typeLookup_tail hC₁ hn₁ T₁ F.mroIs F.init.lookup ?_
  rw [hi]
  refine wpAny_holding (wpAny_bind ?_)
  unfold bindSpecial
  refine wpAny_bind (wpAny_typeOf (T := "function") ⟨_, hfI₁, hfc⟩ ?_)
  rw [if_pos (by decide)]
  refine wpAny_pure (wpAny_bind (wpAny_mono (hq _ (h.objs.size + 1) ⟨kp, Heap.get?_none_of_le (Nat.le_succ _), h.objs.size, hget, Heap.get?_none_of_le (Nat.le_refl _), ?_⟩) (fun r s' hr => ?_) fun _ _ x => x))
  · exact Heap.get?_push_of_some _ (Heap.get?_push_at rfl rfl)
  · obtain ⟨rfl, hQ⟩ := hr
    wp_walk
    exact hQ
theorem call_init (F : ExcBaseFacts B newId initId bmB) (T : OwnTail h bmB bm) {mN : Str → Option Value} {rest : List Value} {fI : Addr} {oI : Obj} {Q : Value → Shared → Prop}
    (hC : h.get? C = some (excClassObj nm q C N bs bm hdct sn sub ab col dd k0 k1 k2 k3 k5 newId)) (hn : h.Ns N mN) (hi : mN "__init__" = some (.ref fI)) (hfI : h.get? fI = some oI) (hfc : oI.cls = .type "function")
    (hq : ∀ h' e, Heap.MadeExcOf h h' e (.ref C) rest →
      wpAny (model prog w) (A.under (.builtin "type.__call__" ⟨.ref C :: rest, []⟩)) (call (.ref fI) (.ref e :: rest)) (fun r s' => r = .none ∧ Q (.ref e) s') E ⟨h', g, d, t, os⟩) (hrest : rest.length ≤ sizeLine) :
    wpAny (model prog w) A (call (.ref C) rest) Q E ⟨h, g, d, t, os⟩ := by
  have f1 := tc_lookup
  have f2 := tc_bind (.ref C)
  have hT : (⟨h, g, d, t, os⟩ : Shared).TypeIs (.ref C) "type" := ⟨_, hC, rfl⟩
  refine wpAny_call (codeAny_of_tree ?_)
  show wpAny _ _ (callAny (.ref C) _) _ _ _
  repeat (any_goals (first | assumption | with_reducible refine wpAny_loadPart_at hC ?_ | wp_step))
  refine ⟨rfl, ?_⟩
  refine codeAny_call_builtin_at (Code.quiet_builtin _ (by decide +kernel)) entry_typeCall (wpAny_check_type_call_sub hC (made_init (hrest := hrest) F T hC hn hi hfI hfc fun h' e hm => ?_))
  exact hq h' e hm
end
section
variable {M : Model} {A : Around} {E : Value → Shared → Prop} {env : Env}
variable {nm q : Str} {C N : Addr} {bs bm : List Value} {hdct : Bool} {sn : List Str} {sub : List Value} {ab : Bool} {col : Option Bool} {dd : Option Addr} {k0 k1 k2 k3 k5 : Option Value} {newId : String}
theorem raised_made {s : Shared} {x : Sem Value} {Q : Flow → Shared → Prop} (hbase : bm.contains (.type "BaseException") = true) (hh : A.handled = none)
    (h : wpAny M A x (fun v s₁ => ∃ e t ed, v = .ref e ∧ s₁.heap.get? C = some (excClassObj nm q C N bs bm hdct sn sub ab col dd k0 k1 k2 k3 k5 newId) ∧ ExcN e C t ed s₁.heap ∧ E (.ref e) s₁) E s) :
    wpAny M A (raiseStmt env (some x) none) Q E s := by
  have hcB : (Value.ref C :: bm).contains (.type "BaseException") = true := by rw [List.contains_cons, hbase, Bool.or_true]
  unfold raiseStmt
  refine wpAny_bind (wpAny_mono h (fun v s₁ h₁ => ?_) fun _ _ x => x)
  obtain ⟨e, t, ed, rfl, hC, he, hE⟩ := h₁
  obtain ⟨hp, g, d, tk, os⟩ := s₁
  unfold ExcN at he
  repeat (first | with_reducible refine wpAny_loadPart_at he ?_ | with_reducible refine wpAny_loadPart_at hC ?_ | (with_reducible refine wpAny_isSubtype_exc hC ?_; rw [hcB]) | wp_step)
  exact wpAny_raiseNew_none hh hE
end
end L2

set_option Elab.async false
set_option linter.all false
set_option maxRecDepth 100000
set_option maxHeartbeats 4000000
namespace L2
open PySem PySem.Spec PyProof.Rows
section
variable {prog : Program} {w : World} {A : Around} {E : Value → Shared → Prop} {s : Shared} {env : Env}
variable {nm q : Str} {C N : Addr} {bs bm bmB : List Value} {hdct : Bool} {sn : List Str} {sub : List Value} {ab : Bool} {col : Option Bool} {dd : Option Addr} {k0 k1 k2 k3 k5 : Option Value} {B newId initId : String}
theorem raise_init (F : ExcBaseFacts B newId initId bmB) {mN : Str → Option Value} {fI : Addr} {x : Str} {np cpos pos : Pos} {args : List Expr} {Q : Flow → Shared → Prop}
    (hbase : bm.contains (.type "BaseException") = true) (hh : A.handled = none) (hplain : (backTo cpos (starEach args env)).any (·.1) = false) (hi : mN "__init__" = some (.ref fI))
    (h : wpAny (model prog w) A (eval (.Name x np) env) (fun f s₁ => f = .ref C ∧ wpAny (model prog w) A (evalArgs (.ref C) true (backTo cpos (starEach args env)) [])
      (fun a s₂ => a.kw = [] ∧ a.pos.length ≤ sizeLine ∧ s₂.heap.get? C = some (excClassObj nm q C N bs bm hdct sn sub ab col dd k0 k1 k2 k3 k5 newId) ∧ s₂.heap.Ns N mN ∧ OwnTail s₂.heap bmB bm ∧ (∃ oI, s₂.heap.get? fI = some oI ∧ oI.cls = .type "function") ∧
        ∀ h' e, Heap.MadeExcOf s₂.heap h' e (.ref C) a.pos → wpAny (model prog w) (A.under (.builtin "type.__call__" ⟨.ref C :: a.pos, []⟩)) (call (.ref fI) (.ref e :: a.pos))
          (fun r s' => r = .none ∧ (∃ t ed, s'.heap.get? C = some (excClassObj nm q C N bs bm hdct sn sub ab col dd k0 k1 k2 k3 k5 newId) ∧ ExcN e C t ed s'.heap) ∧ E (.ref e) s') E { s₂ with heap := h' }) E s₁) E s) :
    wpAny (model prog w) A (exec (.Raise (some (.Call (.Name x np) args [] cpos)) none pos) env) Q E s := by
  rw [arm_exec_Raise]
  refine wpAny_bind (wpAny_standAt (raised_made (C := C) (nm := nm) (q := q) (N := N) (bs := bs) (bm := bm) (hdct := hdct) (sn := sn) (sub := sub) (ab := ab) (col := col) (dd := dd) (k0 := k0) (k1 := k1) (k2 := k2) (k3 := k3) (k5 := k5) (newId := newId) hbase hh (wpAny_bind (wpAny_mono (wpAny_Call_ofName (wpAny_mono h (fun f s₁ h₁ => ?_) fun _ _ x => x)) (fun v s₃ h₃ => wpAny_bind (wpAny_standAt (wpAny_pure h₃))) fun _ _ x => x))))
  obtain ⟨rfl, h₁⟩ := h₁
  unfold callWith
  refine wpAny_bind (wpAny_holding (wpAny_mono h₁ (fun a s₂ h₂ => wpAny_bind (wpAny_standAt ?_)) fun _ _ x => x))
  obtain ⟨apos, akw⟩ := a
  obtain ⟨hkw, hlen, hC, hn, T, ⟨oI, ho, hoc⟩, h₂⟩ := h₂
  obtain rfl : akw = [] := hkw
  obtain ⟨hp, g, d, tk, os⟩ := s₂
  simp only [hplain]
  refine wpAny_bind (wpAny_keeperOf_exc hC ?_)
  refine wpAny_bind (call_init (hrest := hlen) F T hC hn hi ho hoc fun h' e hm => wpAny_mono (h₂ h' e hm) (fun r s' ⟨hr, ⟨t, ed, hC', hx⟩, hE⟩ => ⟨hr, wpAny_bind (wpAny_holding (wpAny_point (wpAny_pure ?_)))⟩) fun _ _ x => x)
  exact ⟨e, t, ed, rfl, hC', hx, hE⟩
end
/-! ### how an exception leaves a def: its class, its own dict -/
noncomputable def CX2 (κ : Option Value → Prop) (P : Program) (w : World) : CXT := fun outer H s E e s' => ∃ (ea : Addr) (cls : Value) (dd : Option Addr) (cx : Option Value) (B : Heap) (H' : Hp), e = .ref ea ∧ κ cx ∧ FlyD B outer ea cls dd cx s'.heap ∧
  (∀ b o, s.heap.get? b = some o → b ∉ frs outer → ∃ o', B.get? b = some o') ∧ (∀ a o, H' a = some o → ∃ ob, B.get? a = some ob) ∧ s'.os = s.os ∧ AllBare s'.gens ∧ Un (frs outer) [] H H' s.heap s'.heap ∧ HOk P w H' s'.heap ∧ E cls dd H'
section
variable {X : Cx} {pins : List (Addr × Obj)} {σ : St} {H H' : Hp} {s s' : Shared} {B h'' : Heap}
theorem lands2 (b : Body X) (I : Inv X pins σ H s) (un : Un (L2.frs X.stack) [] H H' s.heap s'.heap) (hok : HOk X.prog X.w H' s'.heap) (os : s'.os = s.os) (bare : AllBare s'.gens)
    (hB1 : B.StaysIn s'.heap) (hB2 : B.StaysIn h'') (up : s'.heap.UpToSlots h'') (fr : ∀ c ∈ L2.frs X.stack, ∃ o, s'.heap.get? c = some o ∧ ∀ vs, o.data ≠ .fields vs)
    (inB : ∀ c o, X.s₀.heap.get? c = some o → c ∉ X.fs → ∃ o', B.get? c = some o') (pres : ∀ c o, s.heap.get? c = some o → H c = none → c ∉ L2.frs X.stack → ∃ o', B.get? c = some o') (trk : ∀ a o, H' a = some o → ∃ ob, B.get? a = some ob) : Inv X pins σ H' { s' with heap := h'' } := by
  have I' : Inv X pins σ H' s' := I.call' os un hok bare fun c hc => absurd hc (by simp)
  have same : ∀ c o, s'.heap.get? c = some o → (∃ o', B.get? c = some o') → h''.get? c = some o := fun c o e ⟨o', eb⟩ => by
    have := hB1 c o' eb
    rw [e] at this
    cases this
    exact hB2 c _ eb
  have fsub : ∀ c ∈ X.fs, c ∈ L2.frs X.stack := fun c hc => by rw [b.frs]; exact List.mem_cons_of_mem _ hc
  refine ⟨I'.ok, I'.os, I'.bare, ⟨fun c o q n hb hx => same c o (I'.base.keep c o q n hb hx) (inB c o q hb), fun c o q n hb hx => ?_, I'.base.free, fun c o q hx => ?_, I'.base.tups, I'.base.frzs, I'.base.tbls⟩, ?_, fun x c e => ?_, I'.free, I'.freeC, fun p hp => ?_, fun a o e => ?_, I'.len⟩
  · obtain ⟨sl, e1⟩ := I'.base.slot c o q n hb hx
    obtain ⟨o1, e2, nd⟩ := fr c (fsub c hb)
    rw [e1] at e2
    cases e2
    obtain ⟨sl', e3⟩ := up c _ e1 nd
    exact ⟨sl', e3⟩
  · by_cases hb : c ∈ X.fs
    · obtain ⟨o1, e2, nd⟩ := fr c (fsub c hb)
      obtain ⟨sl', e3⟩ := up c _ e2 nd
      exact ⟨_, e3⟩
    · obtain ⟨o', eb⟩ := inB c o q hb
      exact ⟨o', hB2 c o' eb⟩
  · obtain ⟨m, hn, hl⟩ := I'.loc
    refine ⟨m, up.ns hn, fun i x v e1 e2 e3 => ?_⟩
    obtain ⟨u, r, lk⟩ := hl i x v e1 e2 e3
    refine ⟨u, r, ?_⟩
    rcases lk with z | ⟨k, c, ec, oc, hc, hd⟩
    · exact .inl z
    · obtain ⟨v0, o0, ho0, _⟩ := I.cell x c ec
      exact .inr ⟨k, c, ec, oc, same c oc hc (pres c o0 ho0 (I.freeC x c ec) (b.cell I ec)), hd⟩
  · obtain ⟨v1, o1, ho1, hd1⟩ := I'.cell x c e
    obtain ⟨v0, o0, ho0, _⟩ := I.cell x c e
    exact ⟨v1, o1, same c o1 ho1 (pres c o0 ho0 (I.freeC x c e) (b.cell I e)), hd1⟩
  · obtain ⟨e, n, ne, nf, d⟩ := I'.pin p hp
    obtain ⟨e0, n0, _⟩ := I.pin p hp
    refine ⟨same p.1 p.2 e (pres p.1 p.2 e0 n0 ?_), n, ne, nf, d⟩
    rw [b.frs]
    intro hm
    rcases List.mem_cons.mp hm with z | z
    · exact ne z
    · exact nf z
  · refine (I'.hok a o e).stay (fun c u hc q => same c u q ?_) (fun _ q => q) fun _ _ q => q
    rcases hc with rfl | hc
    · exact trk _ _ e
    · exact trk _ _ hc
end
noncomputable def del (H : Hp) (a : Addr) : Hp := fun b => if b = a then none else H b
theorem del_ne {H : Hp} {a b : Addr} (h : b ≠ a) : del H a b = H b := if_neg h
theorem del_same {H : Hp} {a : Addr} : del H a a = none := if_pos rfl
noncomputable def excN (e C t : Addr) (dd : Option Addr) : HO := .ext (ExcN e C t dd)
theorem excN_ok {P : Program} {w : World} {H : Hp} {h : Heap} {e C t : Addr} {dd : Option Addr} (p : ExcN e C t dd h) : ObjOk P w H h e (excN e C t dd) := ⟨p, ⟨_, p⟩, fun _ _ q k => k _ q⟩
noncomputable def XdAt (dx : Addr) (fs : List (Str × V)) (h : Heap) : Prop := ∃ mA, h.Ns1 dx mA ∧ ∀ f, RelO (fs.lookup f) (mA f)
noncomputable def xdO (dx : Addr) (fs : List (Str × V)) : HO := .ext (XdAt dx fs)
theorem XdAt.obj {dx : Addr} {fs : List (Str × V)} {h : Heap} (p : XdAt dx fs h) : ∃ o, h.get? dx = some o := by obtain ⟨_, ⟨o, _, _, e, _⟩, _⟩ := p; exact ⟨o, e⟩
theorem xd_ok {P : Program} {w : World} {H : Hp} {h : Heap} {dx : Addr} {fs : List (Str × V)} (p : XdAt dx fs h) : ObjOk P w H h dx (xdO dx fs) := ⟨p, p.obj, fun _ _ hsl48 k => by obtain ⟨mA, n, r⟩ := hsl48; exact ⟨mA, n.at k, r⟩⟩
section
variable {P : Program} {w : World} {K : PySem.W.Frag} {mg : Str → Option Value} {base : Heap} {N : List Str} {qual : Str} {scope : Scope} {f : Addr} {cd : Value} {A : Around} {outer : List Env} {s₀ : Shared} {H₀ : Hp} {E : XK}
/-- an exception of a callee goes on out of the def -/
theorem pass2 {κ κ' : Option Value → Prop} (hκ : ∀ cx, κ' cx → κ cx) : Passes (CX2 κ' P w) (cxOf (CX2 κ P w) P w K mg base N qual scope f cd A outer s₀ H₀ E) E := by
  intro pins σ H s e s' I h
  obtain ⟨ea, cls, dd, cx, B, H', rfl, hc, fl, pres, trk, os, bare, un, hok, q⟩ := h
  have bd := body_cx (CX := CX2 κ P w) (P := P) (w := w) (K := K) (mg := mg) (base := base) (N := N) (qual := qual) (scope := scope) (f := f) (cd := cd) (A := A) (outer := outer) (s₀ := s₀) (H₀ := H₀) (E := E)
  refine leaves_onD I.ok.frames rfl fl fun h'' fl'' up => ?_
  have J := lands bd I un hok os bare fl.1 fl''.1 up (frames_of fl.2.2.1) pres trk
  refine ⟨ea, cls, dd, cx, B, H', rfl, hκ _ hc, fl'', fun b o e hb => ?_, trk, J.os, J.bare, J.base, J.hok, q⟩
  obtain ⟨o1, e1⟩ := I.base.there b o e (by rw [bd.ex]; simp)
  exact pres b o1 e1 (bd.old I e hb)
/-- an exception that was made here, tracked, goes on out of the def -/
noncomputable def RaiseOk2 (X : Cx) (E : XK) : Prop := ∀ (pins : List (Addr × Obj)) (σ : St) (H : Hp) (s : Shared) (ea C t : Addr) (dd : Option Addr), Inv X pins σ H s → H ea = some (excN ea C t dd) → X.s₀.heap.get? ea = none → E (.ref C) dd (del H ea) → X.xe (.ref ea) s
theorem raise2 {κ : Option Value → Prop} (h0 : κ (some .none)) : RaiseOk2 (cxOf (CX2 κ P w) P w K mg base N qual scope f cd A outer s₀ H₀ E) E := by
  intro pins σ H s ea C t dd I ha hnew q
  have bd := body_cx (CX := CX2 κ P w) (P := P) (w := w) (K := K) (mg := mg) (base := base) (N := N) (qual := qual) (scope := scope) (f := f) (cd := cd) (A := A) (outer := outer) (s₀ := s₀) (H₀ := H₀) (E := E)
  generalize hX : cxOf (CX2 κ P w) P w K mg base N qual scope f cd A outer s₀ H₀ E = X at I bd hnew
  have px : ExcN ea C t dd s.heap := (show ObjOk X.prog X.w H s.heap ea (.ext (ExcN ea C t dd)) from I.hok ea _ ha).1
  have nst : ea ∉ L2.frs X.stack := fun hm => by rw [I.stkFree ea hm] at ha; cases ha
  have hin : ∀ b o, s.heap.get? b = some o → b ≠ ea → b ∉ L2.frs X.stack → (PySem.W.hideAll s.heap (ea :: L2.frs X.stack)).get? b = some o := fun b o e n1 n2 => PySem.W.hideAll_get _ e (by intro z; rcases List.mem_cons.mp z with z | z; exact n1 z; exact n2 z)
  have hst : (PySem.W.hideAll s.heap (ea :: L2.frs X.stack)).StaysIn s.heap := fun b o e => PySem.W.of_hideAll _ e
  have ff : s.heap.FunFrames (PySem.W.hideAll s.heap (ea :: L2.frs X.stack)) X.stack := PySem.W.funFrames_hide I.stack fun env he a hf => List.mem_cons_of_mem _ (List.mem_filterMap.mpr ⟨env, he, hf⟩)
  have hno : (PySem.W.hideAll s.heap (ea :: L2.frs X.stack)).get? ea = none := PySem.W.hideAll_none _ List.mem_cons_self
  have dl : ∀ b o, H b = some o → (∀ φ, o ≠ .ext φ) → del H ea b = some o := fun b o e n => by rw [del_ne (fun z => n (ExcN ea C t dd) (by rw [z, ha] at e; exact (Option.some.inj e).symm))]; exact e
  have un : Un (L2.frs X.stack) [] H (del H ea) s.heap s.heap := by
    refine ⟨fun b o e _ _ _ => e, fun b o e _ _ _ => ⟨o.slots, e⟩, fun b o e n _ => ?_, fun b o e _ => ⟨o, e⟩, fun b xs e => dl _ _ e (fun _ z => nomatch z), fun b o u e => dl _ _ e (fun _ z => nomatch z), fun b ps e => ⟨#[], by rw [Array.append_empty]; exact dl _ _ e (fun _ z => nomatch z)⟩⟩
    unfold del
    split
    · rfl
    · exact n
  have hok : HOk X.prog X.w (del H ea) s.heap := fun b o e => by
    have hb : b ≠ ea := fun z => by rw [z, del_same] at e; cases e
    rw [del_ne hb] at e
    exact (I.hok b o e).stay (fun _ _ _ z => z) (fun c z => dl _ _ z (fun _ z => nomatch z)) fun c xs z => dl _ _ z (fun _ z => nomatch z)
  have trk : ∀ a o, del H ea a = some o → ∃ ob, (PySem.W.hideAll s.heap (ea :: L2.frs X.stack)).get? a = some ob := fun a o e => by
    have hb : a ≠ ea := fun z => by rw [z, del_same] at e; cases e
    rw [del_ne hb] at e
    obtain ⟨ob, hob⟩ := obj_is I e
    exact ⟨ob, hin a ob hob hb fun hm => by rw [I.stkFree a hm] at e; cases e⟩
  have pres : ∀ b o, X.s₀.heap.get? b = some o → b ∉ X.fs → ∃ o', (PySem.W.hideAll s.heap (ea :: L2.frs X.stack)).get? b = some o' := fun b o e hb => by
    obtain ⟨o1, e1⟩ := I.base.there b o e (by rw [bd.ex]; simp)
    exact ⟨o1, hin b o1 e1 (fun z => by rw [z, hnew] at e; cases e) (bd.old I e hb)⟩
  subst hX
  refine leaves_firstD I.ok.frames ff rfl px hst hno rfl rfl fun h'' fl up => ?_
  have J := lands2 bd I un hok rfl I.bare hst fl.1 up (frames_of ff) pres (fun b o e n hb => ⟨o, hin b o e (fun z => by rw [z, ha] at n; cases n) hb⟩) trk
  exact ⟨ea, .ref C, dd, some .none, _, del H ea, rfl, h0, fl, pres, trk, J.os, J.bare, J.base, J.hok, q⟩
end

/-! ### self.f = v in the __init__ of an exception -/
section
variable {X : Cx} {pins : List (Addr × Obj)} {σ : St} {H : Hp} {s : Shared} {a C t dx : Addr} {fs : List (Str × V)} {f : Str} {A : Around} {E : Value → Shared → Prop}
theorem setx1_ok {y : V} {u : Value} {Q : Unit → Shared → Prop} (bd : Body X) (I : Inv X pins σ H s) (e : H a = some (excN a C t none)) (c : ICls X.K C) (n : NoAttr X.K C f) (ry : RelV y u)
    (h : ∀ dx s', H dx = none → dx ≠ a → Inv X pins σ (upd (upd H a (excN a C t (some dx))) dx (xdO dx [(f, y)])) s' → Q () s') : wpAny (model X.prog X.w) A (setAttr (.ref a) f u) Q E s := by
  have p : ExcN a C t none s.heap := (show ObjOk X.prog X.w H s.heap a (.ext (ExcN a C t none)) from I.hok a _ e).1
  refine set_exc1 I.kIn p c n.taker fun h' N p' kp => ?_
  have hn : H s.heap.objs.size = none := I.hok.fresh (Nat.le_refl _)
  have lt : ∀ {b : Addr} {o : Obj}, s.heap.get? b = some o → b ≠ s.heap.objs.size := fun q => Nat.ne_of_lt (Heap.lt_size q)
  refine h s.heap.objs.size _ hn (lt p).symm ?_
  have I1 : Inv X pins σ (upd H a (excN a C t (some s.heap.objs.size))) { s with heap := h', toks := s.toks + 2 } :=
    I.write (x := a) (e := a) (by rw [e]; exact True.intro) (.inl rfl) (fun b q hb z => kp b q hb z) ⟨_, p'⟩ (excN_ok p')
  refine I1.track (by rw [upd_ne (lt p).symm]; exact hn) ?_ ?_ (fun x c ec z => ?_) (fun p hp z => ?_) (xd_ok ⟨_, N, fun g => ?_⟩)
  · cases z : X.s₀.heap.get? s.heap.objs.size with
    | none => rfl
    | some o =>
      obtain ⟨o1, e1⟩ := I.base.there _ o z (by rw [bd.ex]; simp)
      exact absurd rfl (lt e1)
  · obtain ⟨m, ⟨o, _, _, eo, _⟩, _⟩ := I.loc
    exact (lt eo).symm
  · obtain ⟨_, o0, ho0, _⟩ := I.cell x c ec
    exact lt ho0 z
  · obtain ⟨e0, _⟩ := I.pin p hp
    exact lt e0 z
  · show RelO (List.lookup g [(f, y)]) (if g = f then some u else none)
    by_cases q : g = f
    · rw [if_pos q]
      simp only [List.lookup, beq_iff_eq.mpr q]
      exact ry
    · rw [if_neg q]
      simp only [List.lookup, beq_eq_false_iff_ne.mpr q]
      exact True.intro
theorem within_of {fs : List (Str × V)} {mA : Str → Option Value} (r : ∀ f, RelO (fs.lookup f) (mA f)) : PySem.Within mA (fs.map (·.1)) := fun g hg => by
  cases q : fs.lookup g with
  | none => exact absurd (RelO.none_of (by rw [← q]; exact r g)) hg
  | some v =>
    clear r hg
    induction fs with
    | nil => cases q
    | cons p fs ih =>
      simp only [List.lookup] at q
      split at q
      · rename_i z
        rw [beq_iff_eq.mp z]; exact List.mem_cons_self
      · exact List.mem_cons_of_mem _ (ih q)
theorem setx2_ok {y : V} {u : Value} {Q : Unit → Shared → Prop} (I : Inv X pins σ H s) (e : H a = some (excN a C t (some dx))) (ed : H dx = some (xdO dx fs)) (ne : dx ≠ a) (hl : fs.length ≤ 1000) (c : ICls X.K C) (n : NoAttr X.K C f) (ry : RelV y u)
    (h : ∀ s', Inv X pins σ (upd H dx (xdO dx (putF f y fs))) s' → Q () s') : wpAny (model X.prog X.w) A (setAttr (.ref a) f u) Q E s := by
  have p : ExcN a C t (some dx) s.heap := (show ObjOk X.prog X.w H s.heap a (.ext (ExcN a C t (some dx))) from I.hok a _ e).1
  obtain ⟨mA, N, r⟩ : XdAt dx fs s.heap := (show ObjOk X.prog X.w H s.heap dx (.ext (XdAt dx fs)) from I.hok dx _ ed).1
  refine set_exc2 I.kIn p N ne (within_of r) (by rw [List.length_map]; exact hl) c n.taker fun h' N' sb => h _ ?_
  have xd' : XdAt dx (putF f y fs) h' := ⟨_, N', fun g => by
    show RelO ((putF f y fs).lookup g) (if g = f then some u else mA g)
    rw [lookup_putF]
    by_cases q : g = f
    · rw [if_pos q, if_pos q]; exact ry
    · rw [if_neg q, if_neg q]; exact r g⟩
  exact I.write (x := dx) (e := dx) (by rw [ed]; exact True.intro) (.inl rfl) (fun b q hb z => (sb.2 b hb).trans z) xd'.obj (xd_ok xd')
end
/-- self.f = v -/
noncomputable def sXfld (K : PySem.W.Frag) (ta tv : TE) (f : Str) : TS := fun D σ H => tv σ H fun y H1 => ta σ H1 fun x H2 => ∃ (a C t : Addr), x = .ref a ∧ ICls K C ∧ NoAttr K C f ∧
  ((H2 a = some (excN a C t none) ∧ ∀ dx, H2 dx = none → dx ≠ a → D.nx σ (upd (upd H2 a (excN a C t (some dx))) dx (xdO dx [(f, y)]))) ∨
   ∃ (dx : Addr) (fs : List (Str × V)), H2 a = some (excN a C t (some dx)) ∧ H2 dx = some (xdO dx fs) ∧ dx ≠ a ∧ fs.length ≤ 1000 ∧ D.nx σ (upd H2 dx (xdO dx (putF f y fs))))
section
variable {X : Cx} {o e value : Expr} {f : Str} {pos pos' tpos : Pos} {ta tv : TE}
theorem ps_xfld (bd : Body X) (ha : PE X o ta) (hv : PE X value tv) (hs : swapsWith value (some (.Attribute o f pos')) pos.line X.env = pure false := by rfl) : PS X (.Assign [.Attribute o f pos'] value pos) (sXfld X.K ta tv f) := by
  intro pins s σ H D I h
  refine plainObj_wpAny_Assign_Attribute (thn (hv pins s σ H _ I h) fun u s1 ⟨y, H1, I1, ry, q⟩ => thn (ha pins s1 σ H1 _ I1 q) fun ov s2 hsl49 => ?_) hs
  obtain ⟨x, H2, I2, rx, a, C, t, ex, c, n, q2⟩ := hsl49
  subst ex
  obtain rfl : ov = Value.ref a := rx
  rcases q2 with ⟨ea, q2⟩ | ⟨dx, fs, ea, ed, ne, hl, q2⟩
  · exact setx1_ok bd I2 ea c n ry fun dx s3 hn ne I3 => ⟨σ, _, I3, q2 dx hn ne⟩
  · exact setx2_ok I2 ea ed ne hl c n ry fun s3 I3 => ⟨σ, _, I3, q2⟩
end
/-! ### raise C(..) -/
/-- C(..) is made, its __init__ run, and it is raised -/
noncomputable def tRaiseI (E : XK) (C : Addr) (sp : Sp) (t : TA) : TS := fun _ σ H => t σ H fun vs H1 => vs.length ≤ sizeLine ∧ ∀ e tt, H1 e = none → H1 tt = none → e ≠ tt →
  sp (.ref e :: vs) (upd H1 e (excN e C tt none)) (fun v H2 => v = .non ∧ ∃ dd, H2 e = some (excN e C tt dd) ∧ E (.ref C) dd (del H2 e)) E0
structure MkI (K : PySem.W.Frag) (C f : Addr) (bm : List Value) (newId : String) : Prop where
  exc : excInI K C bm newId f = true
  fn : PySem.W.isFn K (.ref f) = true
section
variable {X : Cx}
theorem ps_raiseI {E : XK} {x : Str} {C f : Addr} {fd : FuncData} {ps : List Str} {k : Nat} {sp : Sp} {bm : List Value} {newId initId B : String} {e : Expr} {es : List Expr} {t : TA} {np cpos pos : Pos} (bd : Body X) (hR : RaiseOk2 X E) (hc : X.calm = true) (hg : Gl X x) (hm : X.mg x = some (.ref C))
    (M : MkI X.K C f bm newId) (FB : ExcBaseFacts B newId initId bm) (F : FnOk X.prog X.w X.K X.mg X.base CX0 k f fd ps sp) (hr : Room (k + 1) X.A) (hb : Binds X.K fd ps []) (ha : PA X (e :: es) t) (hdb : (x == ("__debug__" : Str)) = false := by decide)
    (he : starEach (e :: es) X.env = (false, eval e X.env) :: starEach es X.env := by rfl) (hpl : (backTo cpos (starEach es X.env)).any (·.1) = false := by rfl) : PS X (.Raise (some (.Call (.Name x np) (e :: es) [] cpos)) none pos) (tRaiseI E C sp t) := by
  intro pins s σ H D I h
  obtain ⟨tl, N, nm, qn, bs, hdct, sn, sub, ab, col, dd, k0, k1, k2, k3, k5, mN, hC, hN, hni, T⟩ := own_of_KI I.ok.mod.kin M.exc
  refine raise_init (C := C) (nm := nm) (q := qn) (N := N) (bs := bs) (bm := tl) (hdct := hdct) (sn := sn) (sub := sub) (ab := ab) (col := col) (dd := dd) (k0 := k0) (k1 := k1) (k2 := k2) (k3 := k3) (k5 := k5)
    FB (mN := mN) (T.hasType FB.hasBase) (I.ok.hd hc) (by rw [he]; show (false || (backTo cpos (starEach es X.env)).any (·.1)) = false; rw [hpl]; rfl) hni (ld_glob I hg hm ⟨rfl, ?_⟩ hdb)
  have hA := ha cpos pins s σ H _ I h
  rw [he] at hA ⊢
  refine Calls.evalArgs_plain (thn hA fun us s1 ⟨vs, H1, I1, r1, hl, q1⟩ => ⟨rfl, by rw [← r1.length]; exact hl, I1.bk _ _ hC, hN.keeps I1.bk, T.keeps I1.bk, ?_, fun h' ea mx => ?_⟩)
  · have q := beq_iff_eq.mp M.fn
    obtain ⟨o, ho, hoc⟩ := Option.map_eq_some_iff.mp (show (X.K.lookup f).map (·.cls) = some (.type "function") from q)
    exact ⟨o, I1.kIn _ _ ho, hoc⟩
  · obtain ⟨tt, ht, htn, htt⟩ := mx.there
    have lt : ∀ {b : Addr} {o : Obj}, s1.heap.get? b = some o → b ≠ ea := fun q z => by rw [z, mx.new] at q; cases q
    have none_of : ∀ b, s1.heap.get? b = none → H1 b = none := fun b hb => by
      cases z : H1 b with
      | none => rfl
      | some o =>
        obtain ⟨ob, hob⟩ := obj_is I1 z
        rw [hb] at hob
        cases hob
    have net : ea ≠ tt := fun z => by
      rw [z, htt] at ht
      cases ht
    have hs0 : X.s₀.heap.get? ea = none := by
      cases z : X.s₀.heap.get? ea with
      | none => rfl
      | some o =>
        obtain ⟨o1, e1⟩ := I1.base.there _ o z (by rw [bd.ex]; simp)
        exact absurd rfl (lt e1)
    have I1' : Inv X pins σ H1 { s1 with heap := h', toks := s1.toks } := I1.kept mx.keeps
    have I2 : Inv X pins σ (upd H1 ea (excN ea C tt none)) { s1 with heap := h', toks := s1.toks } := by
      refine I1'.track (none_of _ mx.new) hs0 ?_ (fun x c ec z => ?_) (fun p hp z => ?_) (excN_ok ht)
      · obtain ⟨m, ⟨o, _, _, eo, _⟩, _⟩ := I1.loc
        exact (lt eo).symm
      · obtain ⟨_, o0, ho0, _⟩ := I1.cell x c ec
        exact lt ho0 z
      · obtain ⟨e0, _⟩ := I1.pin p hp
        exact lt e0 z
    have hq := q1 ea tt (none_of _ mx.new) (none_of _ htn) net
    have r2 : Vals (V.ref ea :: vs) (Value.ref ea :: us) := .cons rfl r1
    have hl2 : ((Value.ref ea :: us) ++ ([] : List Value)).length = ps.length := by
      rw [List.append_nil, ← r2.length]
      exact F.len _ _ _ _ hq
    have hbb := hb { s1 with heap := h', toks := s1.toks } (Value.ref ea :: us) I2.kIn hl2
    rw [List.append_nil] at hbb
    refine wpAny_call (codeAny_mono (F.run _ X.stack _ _ ⟨Value.ref ea :: us, []⟩ (Value.ref ea :: us) _ _ E0 (hr.make C us []) (I2.env0.make C us []) hbb r2 hq) fun r s' hq' => ?_)
    cases r with
    | error e => exact False.elim hq'
    | ok fl =>
      cases fl with
      | ret u =>
        obtain ⟨v, H', I3, rv, ev, dd', hx, hE⟩ := I2.after hq'
        subst ev
        have px : ExcN ea C tt dd' s'.heap := (show ObjOk X.prog X.w H' s'.heap ea (.ext (ExcN ea C tt dd')) from I3.hok ea _ hx).1
        exact ⟨rv, ⟨tt, dd', I3.bk _ _ hC, px⟩, hR pins σ H' s' ea C tt dd' I3 hx hs0 hE⟩
      | next => exact False.elim hq'
      | brk => exact False.elim hq'
      | cont => exact False.elim hq'
end
end L2

set_option Elab.async false
set_option linter.all false
set_option maxRecDepth 100000
set_option maxHeartbeats 4000000
namespace L2
open PySem PySem.Spec PyProof.Rows
section
variable {P : Program} {w : World} {K : PySem.W.Frag} {mg : Str → Option Value} {base : Heap} {N : List Str} {qual : Str} {scope : Scope} {f : Addr} {cd : Value} {A : Around} {outer : List Env} {s₀ : Shared} {H₀ : Hp} {E : XK}
/-- raise C(..), C without an __init__ of its own, in a def that may raise others too -/
theorem raise2m {κ : Option Value → Prop} (h0 : κ (some .none)) : RaiseOk (cxOf (CX2 κ P w) P w K mg base N qual scope f cd A outer s₀ H₀ E) E := by
  intro pins σ H s h' ea cls args I mx q
  have bd := body_cx (CX := CX2 κ P w) (P := P) (w := w) (K := K) (mg := mg) (base := base) (N := N) (qual := qual) (scope := scope) (f := f) (cd := cd) (A := A) (outer := outer) (s₀ := s₀) (H₀ := H₀) (E := E)
  obtain ⟨B, hst, ff, pres, trk⟩ := at_raise I
  obtain ⟨t, he, htn, ht⟩ := mx.there
  have hno : B.get? ea = none := by
    cases z : B.get? ea with
    | none => rfl
    | some o => have := hst ea o z; rw [mx.new] at this; cases this
  refine leaves_firstD (s := { s with heap := h' }) I.ok.frames (ff.of_keeps fun b o hb _ => ⟨o, mx.keeps b o hb, rfl⟩) rfl he (fun b o hb => mx.keeps b o (hst b o hb)) hno rfl rfl fun h'' fl up => ?_
  have J := lands (s' := s) (H' := H) (h'' := h'') bd I Un.refl I.hok rfl I.bare hst fl.1 ((Heap.UpToSlots.of_keeps mx.keeps).trans up) (frames_of ff) pres trk
  refine ⟨ea, cls, none, some .none, B, H, rfl, h0, fl, fun b o e hb => ?_, trk, J.os, J.bare, J.base, J.hok, q⟩
  obtain ⟨o1, e1⟩ := I.base.there b o e (by rw [bd.ex]; simp)
  exact pres b o1 e1 (bd.old I e hb)
theorem Fun.ok2 {κ : Option Value → Prop} {x qual : Str} {st : Stmt} {f : Addr} {fd : FuncData} {N ps : List Str} {k : Nat} {sp : Sp} (F : Fun K x qual st f fd) (S : FnScope N ps (defScope st)) (len : ∀ vs H Q E, sp vs H Q E → vs.length = ps.length)
    (hbody : ∀ (cdv : Value) (A : Around) (outer : List Env) (s : Shared) (H : Hp) (vs : List V) (Q : VK) (E : XK), Room k (A.deeper (envOfC qual (defScope st) s.heap.objs.size f cdv)) → sp vs H Q E →
      ∃ t, PSs (cxOf (CX2 κ P w) P w K mg base N qual (defScope st) f cdv A outer s H E) (defBody st) t ∧ t { nx := fun _ H' => Q .non H', rt := Q } (start N vs) H) : FnOk P w K mg base (CX2 κ P w) (k + 1) f fd ps sp := by
  obtain ⟨oc, od, kV, doc, pm, an, cdv, ct, osl, rfl, lk, hcd⟩ := F.ex
  exact fn_of lk hcd S len fun A outer s H vs Q E hr hsp => hbody cdv A outer s H vs Q E hr hsp
end
/-! ### a caught exception: its class, its own dict -/
noncomputable def HasD (a : Addr) (cls : Value) (dd : Option Addr) (cx : Option Value) (h : Heap) : Prop := ∃ o vs, h.get? a = some o ∧ o.cls = cls ∧ o.dict = dd ∧ o.data = .fields vs ∧ vs[2]? = cx
noncomputable def excD (a : Addr) (cls : Value) (dd : Option Addr) (cx : Option Value) : HO := .ext (HasD a cls dd cx)
theorem excD_ok {P : Program} {w : World} {H : Hp} {h : Heap} {e : Addr} {cls : Value} {dd : Option Addr} {cx : Option Value} (p : HasD e cls dd cx h) : ObjOk P w H h e (excD e cls dd cx) :=
  ⟨p, by obtain ⟨o, _, q, _⟩ := p; exact ⟨o, q⟩, fun _ _ hsl50 k => by obtain ⟨o, vs, q, r⟩ := hsl50; exact ⟨o, vs, k _ q, r⟩⟩
theorem HasD.cls {a : Addr} {cls : Value} {dd : Option Addr} {cx : Option Value} {h : Heap} (p : HasD a cls dd cx h) : HasCls a cls h := by obtain ⟨o, _, q, r, _⟩ := p; exact ⟨o, q, r⟩
theorem FlyD.has {base h : Heap} {l : List Env} {e : Addr} {cls : Value} {dd : Option Addr} {cx : Option Value} (x : FlyD base l e cls dd cx h) : HasD e cls dd cx h := by
  obtain ⟨_, _, _, oe, vs, _, _, _, he, hc, hd, _⟩ := x
  exact ⟨oe, vs, he, hc.1, hc.2.1, hd, hc.2.2⟩
theorem FlyD.cls {base h : Heap} {l : List Env} {e : Addr} {cls : Value} {dd : Option Addr} {cx : Option Value} (x : FlyD base l e cls dd cx h) : HasCls e cls h := x.has.cls
/-- try: body; except C as n: suite -- C takes whatever may be raised -/
noncomputable def tTryD (κ : Option Value → Prop) (K : PySem.W.Frag) (C : Addr) (i : Nat) (tb : XK → TS) (ts : TS) : TS := fun D σ H =>
  tb (fun cls dd H1 => PySem.W.exmOne K cls (.ref C) = some true ∧ ∀ ea cx, κ cx → H1 ea = none → ts (D.unset i) (σ.set i (some (.ref ea))) (upd H1 ea (excD ea cls dd cx))) D σ H
section
variable {X : Cx}
theorem ps_tryD {κ : Option Value → Prop} {body : List Stmt} {tb : XK → TS} {x n : Str} {C : Addr} {i : Nat} {b₀ : Stmt} {suite : List Stmt} {ts : TS} {np hpos pos : Pos} (bd : Body X) (hx : PSX (CX2 κ X.prog X.w) X body tb) (hg : Gl X x) (hm : X.mg x = some (.ref C))
    (hN : X.N.Nodup) (hi : X.N[i]? = some n) (hk : X.env.scope.names.lookup n = some .local) (hsu : ∀ ea, PSs (X.hnd ea) (b₀ :: suite) ts) (hdb : (x == ("__debug__" : Str)) = false := by decide) :
    PS X (.Try body [.ExceptHandler (some (.Name x np)) (some n) (b₀ :: suite) hpos] [] [] pos) (tTryD κ X.K C i tb ts) := by
  intro pins s σ H D I h
  refine wpAny_Try_except (thn (hx _ _ pins s σ H D ?_ I h) fun f s1 q => ?_)
  case refine_2 =>
    cases f with
    | next => exact wpAny_execs_nil q
    | ret v => exact q
    | brk => exact q
    | cont => exact q
  intro H0 s0 ev s' I0 hc
  obtain ⟨ea, cls, dd, cx, B, H', rfl, hc0, fl, pres, trk, os, bare, un, hok, hit, q⟩ := hc
  have fr : X.A.frames = some (X.env :: X.outer) := by rw [← bd.stk]; exact I0.ok.frames
  have fl0 : FlyD B (X.env :: X.outer) ea cls dd cx s'.heap := by rw [← bd.stk]; exact fl
  refine note_on fr bd.frm fl0 fun h1 held up1 => ?_
  refine landsD (s := { s' with heap := h1 }) held fun h2 fl2 up2 => ?_
  have J2 : Inv X pins σ H' { s' with heap := h2 } := lands bd I0 un hok os bare fl.1 fl2.1 (up1.trans up2) (frames_of fl.2.2.1) pres trk
  refine wpAny_handleBy_cons (codeAny_handlers_test (ld_glob (J2.hnd ea) hg hm ?_ hdb)) (by intro q; cases q)
  have LT : PySem.W.Looks (model X.prog X.w) h2 (typeOf (.ref ea)) cls := HasCls.type fl2.cls
  refine (PySem.W.exm_one (M := model X.prog X.w) J2.kIn LT hit).here ?_
  refine codeAny_handlers_suite_as ?_
  refine lands_againD (s := { s' with heap := h2 }) fl2 fun h3 fl3 up3 => ?_
  have J3 : Inv X pins σ H' { s' with heap := h3 } := lands bd I0 un hok os bare fl.1 fl3.1 ((up1.trans up2).trans up3) (frames_of fl.2.2.1) pres trk
  have hBn : B.get? ea = none := fl.2.1
  have nst : ea ∉ L2.frs X.stack := fun hm => by
    obtain ⟨o, ho, nd⟩ := frames_of fl.2.2.1 ea hm
    obtain ⟨oe, vs, _, _, _, he, _, hd, _⟩ := fl.2.2.2
    rw [ho] at he
    cases he
    exact nd _ hd
  have hn : H' ea = none := by
    cases z : H' ea with
    | none => rfl
    | some o =>
      obtain ⟨ob, hb⟩ := trk ea o z
      rw [hBn] at hb
      cases hb
  have hs0 : s0.heap.get? ea = none := by
    cases z : s0.heap.get? ea with
    | none => rfl
    | some o =>
      obtain ⟨ob, hb⟩ := pres ea o z nst
      rw [hBn] at hb
      cases hb
  have hsX : X.s₀.heap.get? ea = none := by
    cases z : X.s₀.heap.get? ea with
    | none => rfl
    | some o =>
      obtain ⟨o1, e1⟩ := I0.base.there ea o z (by rw [bd.ex]; simp)
      rw [hs0] at e1
      cases e1
  have J4 : Inv X pins σ (upd H' ea (excD ea cls dd cx)) { s' with heap := h3 } := by
    refine J3.track hn hsX (fun z => nst ?_) (fun y c e z => ?_) (fun p hp z => ?_) (excD_ok fl3.has)
    · rw [bd.frs, z]; exact List.mem_cons_self
    · obtain ⟨_, o0, ho0, _⟩ := I0.cell y c e
      rw [z, hs0] at ho0
      cases ho0
    · obtain ⟨e, _⟩ := I0.pin p hp
      rw [z, hs0] at e
      cases e
  refine store_ok (X := X.hnd ea) (v := .ref ea) (J4.hnd ea) hN hi (.inl hk) rfl (fun s5 J5 => ?_) (.inr hk)
  refine wpAny_mono (hsu ea pins s5 _ _ (D.unset i) J5 (q ea cx hc0 hn)) (fun f s6 z => ?_) fun _ _ z => False.elim z
  cases f with
  | next => obtain ⟨σ6, H6, J6, q6⟩ := z; exact goes_ok (J6.unhnd I.ok) hN hi hk fun s7 J7 => ⟨_, _, J7, q6⟩
  | brk => obtain ⟨σ6, H6, J6, q6⟩ := z; exact goes_ok (J6.unhnd I.ok) hN hi hk fun s7 J7 => ⟨_, _, J7, q6⟩
  | cont => obtain ⟨σ6, H6, J6, q6⟩ := z; exact goes_ok (J6.unhnd I.ok) hN hi hk fun s7 J7 => ⟨_, _, J7, q6⟩
  | ret u => obtain ⟨v6, σ6, H6, J6, r6, q6⟩ := z; exact goes_ok (J6.unhnd I.ok) hN hi hk fun s7 J7 => ⟨_, _, _, J7, r6, q6⟩
theorem excD_has {pins : List (Addr × Obj)} {σ : St} {H : Hp} {s : Shared} {a : Addr} {cls : Value} {dd : Option Addr} {cx : Option Value} (I : Inv X pins σ H s) (e : H a = some (excD a cls dd cx)) : HasD a cls dd cx s.heap := (show ObjOk X.prog X.w H s.heap a (.ext (HasD a cls dd cx)) from I.hok a _ e).1
/-- isinstance(e, C): C an own class -/
theorem call_isexD {K : PySem.W.Frag} (hK : X.K = K) : CallR X (.builtin "isinstance") (fun xs H Q => ∃ a D C dd cx b, xs = [.ref a, .ref C] ∧ H a = some (excD a (.ref D) dd cx) ∧ XCls K D ∧ PySem.W.kitOne K (.ref D) (.ref C) = some b ∧ Q (.bl b) H) := by
  subst hK
  intro pins s σ H xs us Q I r h
  obtain ⟨a, D, C, dd, cx, b, rfl, ha, c, e, q⟩ := h
  obtain ⟨u, w', rfl, rx, rw'⟩ := vals2 r
  cases (show w' = Value.ref C from rw')
  cases (show u = Value.ref a from rx)
  exact PySem.W.kia_one (kitx_exc c) I.kIn (excD_has I ha).cls e (fun z => nomatch z) fun tk => ⟨.bl b, H, I.tok _, rfl, q⟩
end
end L2

set_option Elab.async false
set_option linter.all false
set_option maxRecDepth 100000
set_option maxHeartbeats 4000000
namespace L2
open PySem PySem.Spec PyProof.Rows
/-! ### e.f of a caught exception -/
section
variable {prog : Program} {w : World} {A : Around} {E : Value → Shared → Prop} {s : Shared} {K : PySem.W.Frag} {x D dx : Addr} {name : Str} {v : Value} {mA : Str → Option Value}
theorem HasD.inst {dx : Addr} {cx : Option Value} {h : Heap} (p : HasD x (.ref D) (some dx) cx h) {od : Obj} (ho : h.get? dx = some od) : ∃ ox, PySem.W.InstAt h x ox D (some od) := by
  obtain ⟨o, vs, q, hc, hd, hv, _⟩ := p
  refine ⟨o, q, hc, ?_, ?_⟩
  · obtain ⟨a, b, c, d⟩ := o
    cases hv
    rfl
  · rw [hd]; exact ho
open PySem.W PySem.Calls Builtin Builtin.ObjectAttr in
theorem xc_at {expr : Bool} {cx : Option Value} {Q : Value → Shared → Prop} (c : XCls K D) (hh : PySem.W.hasDictIn K D = true) (na : NoAttr K D name) (X : K.In s.heap) (p : HasD x (.ref D) (some dx) cx s.heap) (N : s.heap.Ns1 dx mA) (hv : mA name = some v) (hv' : PySem.W.handedIn v = true)
    (h : Q v { s with toks := s.toks + 1 }) : wpAny (model prog w) A (getAttr (.ref x) name expr) Q E s := by
  obtain ⟨od, ho, hl⟩ := lookIn_ns N
  obtain ⟨ox, J⟩ := p.inst ho
  have LF := looks_find (M := model prog w) X J (findObj_own hh na rfl (by rw [hl, hv]))
  obtain ⟨hp, g, d, t, os⟩ := s
  have L0 := p.cls.type (M := model prog w)
  have L1 := looks_findIn (M := model prog w) X c.hg
  have L2 := looks_findIn (M := model prog w) X c.hk
  unfold getAttr getAttrBy
  refine wpAny_bind (wpAny_mkText (wpAny_holding (wpAny_bind (L0.at (wpAny_bind (L1.at ?_))))))
  show wpAny _ _ (getAttrByItsOwn _ _ _ _ _ _) _ _ _
  unfold getAttrByItsOwn
  refine wpAny_bind ((show Looks (model prog w) hp (hookBefore (.ref D)) none from L2).at ?_)
  refine wpAny_bind (wpAny_attempt (wpAny_holding ?_))
  unfold callGetattribute
  rw [show (expr && onTheHeap (.builtin "BaseException.__getattribute__")) = false from by cases expr <;> rfl]
  rw [if_neg (by decide)]
  unfold boundAndCalled
  rw [F.excAttr_ValueError.ga.bind]
  refine wpAny_bind (wpAny_pure ?_)
  refine wpAny_call (codeAny_call_builtin F.excAttr_ValueError.ga.plain F.entry_bexc_ga (xc_check (s := ⟨hp, g, d, t + 1, os⟩) c X p.cls ?_))
  refine wpAny_bind (wpAny_pure (wpAny_bind (wpAny_pure (wpAny_bind (L0.at (wpAny_bind (LF.at ?_)))))))
  refine wpAny_pure ?_
  show wpAny _ _ (handedOut v) _ _ _
  rw [handedOut_of hv']
  exact wpAny_pure h
end
section
variable {X : Cx}
/-- e.f -/
noncomputable def tXfld (K : PySem.W.Frag) (ta : TE) (f : Str) : TE := fun σ H Q => ta σ H fun x H1 => ∃ (a D dx : Addr) (cx : Option Value) (fs : List (Str × V)) (v : V), x = .ref a ∧ H1 a = some (excD a (.ref D) (some dx) cx) ∧ H1 dx = some (xdO dx fs) ∧ XCls K D ∧ PySem.W.hasDictIn K D = true ∧ NoAttr K D f ∧ fs.lookup f = some v ∧ Q v H1
theorem pe_xfld {e : Expr} {f : Str} {pos : Pos} {ta : TE} (he : PE X e ta) (hb : attributeBase e f X.env (eval e X.env) = eval e X.env) : PE X (.Attribute e f pos) (tXfld X.K ta f) := by
  intro pins s σ H Q I h
  refine attr_of hb (thn (he pins s σ H _ I h) fun u s1 hsl51 => ?_)
  obtain ⟨x, H1, I1, rx, a, D, dx, cx, fs, v, ex, ea, ed, c, hh, n, l, q⟩ := hsl51
  subst ex
  obtain rfl : u = Value.ref a := rx
  obtain ⟨mA, N, r⟩ : XdAt dx fs s1.heap := (show ObjOk X.prog X.w H1 s1.heap dx (.ext (XdAt dx fs)) from I1.hok dx _ ed).1
  obtain ⟨u, hu, ru⟩ := RelO.some_of (v := v) (o := mA f) (by rw [← l]; exact r f)
  exact xc_at c hh n I1.kIn (excD_has I1 ea) N hu (handed_of ru) ⟨v, H1, I1.tok _, ru, q⟩
end
end L2

set_option Elab.async false
set_option linter.all false
set_option maxRecDepth 100000
set_option maxHeartbeats 4000000
namespace L2
open PySem PySem.Spec PyProof.Rows
/-! ### a def that may be called within an except suite too (it raises nothing, and makes no use of calm) -/
structure RoomH (k : Nat) (A : Around) : Prop where
  dp : A.depth + 3 * k + 5 < recursionLimit
  un : A.units + 16 * k + 200 < cLine
theorem RoomH.make {k : Nat} {A : Around} (r : RoomH (k + 1) A) (C : Addr) (us : List Value) (kw : List (Str × Value)) : RoomH k (A.under (.builtin "type.__call__" ⟨.ref C :: us, kw⟩)) :=
  ⟨by have := r.dp; rw [make_depth]; omega, by have := r.un; rw [make_units]; omega⟩
theorem Room.mark {k : Nat} {A : Around} (r : Room k A) (v : Option Value) : RoomH k (A.mark v) := ⟨r.dp, r.un⟩
structure FnOkH (P : Program) (w : World) (K : PySem.W.Frag) (mg : Str → Option Value) (base : Heap) (k : Nat) (f : Addr) (fd : FuncData) (ps : List Str) (sp : Sp) : Prop where
  len : ∀ vs H Q E, sp vs H Q E → vs.length = ps.length
  run : ∀ (A : Around) (outer : List Env) (s : Shared) (H : Hp) (args : Args) (us : List Value) (vs : List V) (Q : VK) (E : XK), RoomH k A → Env0 P w K mg base A outer s H → BindsTo s fd args (ps.zip us) → Vals vs us → sp vs H Q E →
    codeAny (model P w) A (.call (.ref f) args) (CR CX0 outer P w H s Q E) s
noncomputable abbrev cxH (P : Program) (w : World) (K : PySem.W.Frag) (mg : Str → Option Value) (base : Heap) (N : List Str) (qual : Str) (scope : Scope) (f : Addr) (cd : Value) (A : Around) (outer : List Env) (s : Shared) (H : Hp) : Cx :=
  { cxOf CX0 P w K mg base N qual scope f cd A outer s H E0 with calm := false, xe := fun _ _ => False }
section
variable {P : Program} {w : World} {K : PySem.W.Frag} {mg : Str → Option Value} {base : Heap}
theorem fn_ofH {k : Nat} {f : Addr} {name qual : Str} {params : Arguments} {body : List Stmt} {scope : Scope} {dV kV doc pm cdv ct oc : Value} {an od : Option Addr}
    {osl : Array (Option Value)} {N ps : List Str} {sp : Sp} (lk : K.lookup f = some ⟨oc, od, .func (PySem.W.fnOf name qual params body scope dV kV doc pm an cdv ct), osl⟩) (hcd : PySem.W.codeIn K cdv qual = true) (S : FnScope N ps scope)
    (len : ∀ vs H Q E, sp vs H Q E → vs.length = ps.length)
    (hbody : ∀ (A : Around) (outer : List Env) (s : Shared) (H : Hp) (vs : List V) (Q : VK) (E : XK), sp vs H Q E →
      ∃ t, PSs (cxH P w K mg base N qual scope f cdv A outer s H) body t ∧ t { nx := fun _ H' => Q .non H', rt := Q } (start N vs) H) :
    FnOkH P w K mg base (k + 1) f (PySem.W.fnOf name qual params body scope dV kV doc pm an cdv ct) ps sp := by
  refine ⟨len, fun A outer s H args us vs Q E hr e0 hb r hsp => ?_⟩
  have hl := len _ _ _ _ hsp
  have KX : K.In s.heap := e0.mod.kin.keeps fun b o e => (e0.bs b o e).1
  have lim : s.heap.NoLimit := e0.mod.nolimit.keeps fun b o e => (e0.bs b o e).1
  have hkind : ∀ y ∈ ps.zip us, scope.names.lookup y.1 = some .local ∨ (scope.names.lookup y.1 = some .cell ∧ ((cellsFrom (s.heap.objs.size + 1) scope.names []).lookup y.1).isSome = true) := fun ⟨n, v⟩ hy => by
    rcases S.par n (List.of_mem_zip hy).1 with q | q
    · exact .inl q
    · exact .inr ⟨q, PySem.W.cellsFrom_some _ _ _ (.inl q)⟩
  refine codeAny_call_function (show A.depth < recursionLimit by have := hr.dp; (first | (assumption) | (exact Nat.lt_of_lt_of_le (by assumption) (by assumption)) | (clear hkind hl hbody len; omega) | omega)) (KX _ _ lk) rfl S.co S.gen rfl (PySem.W.codeRec_of KX hcd) (hb _ _ _ _ ?_)
  refine wpAny_newFunctionEnv_cells S.kind hkind fun env he s1 x => ?_
  subst he
  refine ⟨lim.keeps x.toInCall.keep, codeAny_func ?_⟩
  obtain ⟨t, ht, hq⟩ := hbody A outer s H vs Q E hsp
  have I0 : Inv (cxOf CX0 P w K mg base N qual scope f cdv { A with handled := none } outer s H E0) [] (start N vs) H s1 := inv_start (A := { A with handled := none }) S rfl ⟨e0.frames, e0.mod, e0.bs, e0.bsz, e0.funs, e0.frf, e0.hok, e0.bare⟩ hl r x
  have I : Inv (cxH P w K mg base N qual scope f cdv A outer s H) [] (start N vs) H s1 :=
    ⟨⟨I0.ok.mod, I0.ok.kind, I0.ok.glob, I0.ok.blt, I0.ok.above, I0.ok.inj, I0.ok.has, I0.ok.cab, (fun z => nomatch z), Around.frames_deeper e0.frames, I0.ok.stk, I0.ok.exf, I0.ok.bs, I0.ok.bsz, I0.ok.noex, I0.ok.exfs, I0.ok.funs, I0.ok.frf⟩, I0.os, I0.bare, I0.base, I0.loc, I0.cell, I0.free, I0.freeC, I0.pin, I0.hok, I0.len⟩
  refine wpAny_mono (ht [] s1 (start N vs) H _ I hq) (fun fl s' hs => ?_) fun e s' hs => hs.elim
  have fin : ∀ {σ' : St} {H' : Hp} {v : V} {u : Value}, Inv (cxH P w K mg base N qual scope f cdv A outer s H) [] σ' H' s' → RelV v u → Q v H' → CE outer P w H s Q u s' :=
    fun {σ' H' v u} J rv q => ⟨v, H', J.os, J.bare, J.base, J.hok, rv, q⟩
  cases fl with
  | ret u =>
    obtain ⟨v, σ', H', J, rv, q⟩ := hs
    exact fin J rv q
  | next =>
    obtain ⟨σ', H', J, q⟩ := hs
    exact fin (v := V.non) (u := Value.none) J rfl q
  | brk =>
    obtain ⟨_, _, _, q⟩ := hs
    exact False.elim q
  | cont =>
    obtain ⟨_, _, _, q⟩ := hs
    exact False.elim q
theorem Fun.okH {x qual : Str} {st : Stmt} {f : Addr} {fd : FuncData} {N ps : List Str} {k : Nat} {sp : Sp} (F : Fun K x qual st f fd) (S : FnScope N ps (defScope st)) (len : ∀ vs H Q E, sp vs H Q E → vs.length = ps.length)
    (hbody : ∀ (cdv : Value) (A : Around) (outer : List Env) (s : Shared) (H : Hp) (vs : List V) (Q : VK) (E : XK), sp vs H Q E →
      ∃ t, PSs (cxH P w K mg base N qual (defScope st) f cdv A outer s H) (defBody st) t ∧ t { nx := fun _ H' => Q .non H', rt := Q } (start N vs) H) : FnOkH P w K mg base (k + 1) f fd ps sp := by
  obtain ⟨oc, od, kV, doc, pm, an, cdv, ct, osl, rfl, lk, hcd⟩ := F.ex
  exact fn_ofH lk hcd S len fun A outer s H vs Q E hsp => hbody cdv A outer s H vs Q E hsp
end
end L2

set_option Elab.async false
set_option linter.all false
set_option maxRecDepth 100000
set_option maxHeartbeats 4000000
namespace L2
open PySem PySem.Spec PyProof.Rows
/-! ### a raise in the suite of an except clause: the caught exception, which has no context, becomes the new one's context -/
theorem entry_unchain : entryFor table "proto.unchain" = some Builtin.«proto.unchain» := entryFor_of_fast (by kernel_rfl)
section
variable {prog : Program} {w : World} {A : Around} {E : Value → Shared → Prop} {s : Shared}
theorem raiseNew_ctx {α : Type} {e a : Addr} {oa oe : Obj} {va ve : Array Value} {Q : α → Shared → Prop} (hh : A.handled = some (.ref a)) (hne : a ≠ e) (ha : s.heap.get? a = some oa) (hda : oa.data = .fields va) (h2 : va[2]? = some .none)
    (he : s.heap.get? e = some oe) (hde : oe.data = .fields ve) (hz : 2 < ve.size) (h : E (.ref e) { s with heap := s.heap.update e (Obj.mapFields (·.setIfInBounds 2 (.ref a))) }) : wpAny (model prog w) A (raiseNew (.ref e) : Sem α) Q E s := by
  unfold raiseNew
  refine wpAny_bind (wpAny_handled ?_)
  rw [hh]
  dsimp only
  have hn : (Value.ref a != Value.ref e) = true := bne_iff_ne.mpr fun z => hne (Value.ref.inj z)
  rw [if_pos hn]
  refine wpAny_bind (wpAny_holding (wpAny_runValue (codeAny_builtin entry_unchain ?_)))
  unfold Builtin.«proto.unchain»
  refine wpAny_bind (wpAny_field ha hda h2 ?_)
  refine wpAny_pure ?_
  refine wpAny_bind ?_
  unfold updateField
  refine wpAny_bind (wpAny_load he ?_)
  rw [hde]
  dsimp only
  rw [if_pos hz]
  exact wpAny_update he (wpAny_throw h)
end

section
variable {M : Model} {A : Around} {E : Value → Shared → Prop} {s : Shared} {base : Heap} {l outer : List Env} {env : Env} {L e : Addr} {cls : Value} {dd : Option Addr} {cx : Option Value} {Q : Unit → Shared → Prop}
theorem note_again (hf : env.frame = some L) (ht : TrD s.heap base e cls (rawInt L) dd cx) (h : Q () s) : wpAny M A (noteFrame (.ref e) env) Q E s := by
  obtain ⟨oe, vs, T, oT, ts, he, hcls, hd, h1, hnT, hTe, hT, hdT, h3⟩ := ht
  unfold noteFrame
  simp only [hf]
  refine wpAny_bind (wpAny_field he hd h1 ?_)
  rw [if_pos (show (Value.ref T != Value.none) = true from by simp)]
  refine wpAny_bind (wpAny_field hT hdT h3 ?_)
  rw [if_pos (show (rawInt L == rawInt L) = true from by simp)]
  exact wpAny_pure h
theorem leaves_heldD (hf : env.frame = some L) (hh : HeldD base (env :: outer) e cls dd cx L s.heap) (h : ∀ h', FlyD base outer e cls dd cx h' → s.heap.UpToSlots h' → Q () { s with heap := h' }) : wpAny M A (leaving env (.ref e)) Q E s := by
  unfold leaving
  refine wpAny_bind (note_again hf hh.2.2.2 ?_)
  exact landsD hh fun h2 f2 up2 => h h2 f2.out up2
theorem came_back (hf : env.frame = some L) (hh : HeldD base l e cls dd cx L s.heap) (h : ∀ h', HeldD base l e cls dd cx L h' → s.heap.UpToSlots h' → E (.ref e) { s with heap := h' }) : cameBackBy M A env E (.ref e) s := by
  obtain ⟨hkb, hen, hl, oe, vs, T, oT, ts, he, hcls, hd, h1, hnT, hTe, hT, hdT, h3⟩ := hh
  have hsz3 : 3 < ts.size := (Array.getElem?_eq_some_iff.mp h3).1
  have other : ∀ b, b ≠ T → (s.heap.update T (Obj.mapFields (·.setIfInBounds 3 (rawInt L)))).get? b = s.heap.get? b := fun b hb => Heap.get?_update_other _ _ (Ne.symm hb)
  have rec' : ∀ b o, s.heap.get? b = some o → (∀ vs, o.data ≠ .fields vs) → b ≠ T := fun b o hb hnf q => by
    rw [q, hT] at hb; injection hb with hb; subst hb; exact hnf ts hdT
  unfold cameBackBy
  refine wpAny_bind (wpAny_field he hd h1 ?_)
  rw [if_neg (show ¬ ((Value.ref T == Value.none) = true) from by simp)]
  rw [hf]
  unfold setFlight
  refine wpAny_bind (wpAny_field he hd h1 ?_)
  rw [if_pos (show (Value.ref T != Value.none) = true from by simp)]
  refine wpAny_setField hT hdT hsz3 (h _ ⟨fun b o hbo => (other b fun q => by rw [q, hnT] at hbo; cases hbo).trans (hkb b o hbo), hen,
    hl.of_keeps fun b o hb hnf => ⟨o, (other b (rec' b o hb hnf)).trans hb, rfl⟩, ?_⟩ fun b o hb hnf => ⟨o.slots, (other b (rec' b o hb hnf)).trans hb⟩)
  exact ⟨oe, vs, T, _, _, (other e (Ne.symm hTe)).trans he, hcls, hd, h1, hnT, hTe, Heap.get?_update_self _ hT (Obj.isFreed_of_fields (Obj.data_mapFields hdT _)), Obj.data_mapFields hdT _, by simp [hsz3]⟩
end
/-- the suite of an except clause that may raise -/
noncomputable abbrev Cx.hndR (X : Cx) (ea : Addr) : Cx := { X with A := X.A.mark (some (.ref ea)), calm := false, xe := notedBy (model X.prog X.w) (X.A.mark (some (.ref ea))) X.env (cameBackBy (model X.prog X.w) X.A X.env X.xe) }
section
variable {X : Cx} {pins : List (Addr × Obj)} {σ : St} {H : Hp} {s : Shared}
theorem Cx.Ok.hndR (ok : X.Ok) (ea : Addr) : (X.hndR ea).Ok :=
  ⟨ok.mod, ok.kind, ok.glob, ok.blt, ok.above, ok.inj, ok.has, ok.cab, (fun z => nomatch z), ok.frames, ok.stk, ok.exf, ok.bs, ok.bsz, ok.noex, ok.exfs, ok.funs, ok.frf⟩
theorem Inv.hndR (I : Inv X pins σ H s) (ea : Addr) : Inv (X.hndR ea) pins σ H s := ⟨I.ok.hndR ea, I.os, I.bare, I.base, I.loc, I.cell, I.free, I.freeC, I.pin, I.hok, I.len⟩
theorem Inv.unhndR {ea : Addr} (ok : X.Ok) (I : Inv (X.hndR ea) pins σ H s) : Inv X pins σ H s := ⟨ok, I.os, I.bare, I.base, I.loc, I.cell, I.free, I.freeC, I.pin, I.hok, I.len⟩
end
noncomputable def RaiseOkH (X : Cx) (E : XK) : Prop := ∀ (pins : List (Addr × Obj)) (σ : St) (H : Hp) (s : Shared) (a0 ea C t : Addr) (dd : Option Addr), Inv (X.hndR a0) pins σ H s → H ea = some (excN ea C t dd) → X.s₀.heap.get? ea = none → E (.ref C) dd (del H ea) →
  (X.hndR a0).xe (.ref ea) { s with heap := s.heap.update ea (Obj.mapFields (·.setIfInBounds 2 (.ref a0))) }
section
variable {P : Program} {w : World} {K : PySem.W.Frag} {mg : Str → Option Value} {base : Heap} {N : List Str} {qual : Str} {scope : Scope} {f : Addr} {cd : Value} {A : Around} {outer : List Env} {s₀ : Shared} {H₀ : Hp} {E : XK}
theorem raise3 {κ : Option Value → Prop} (h1 : ∀ a, κ (some (.ref a))) : RaiseOkH (cxOf (CX2 κ P w) P w K mg base N qual scope f cd A outer s₀ H₀ E) E := by
  intro pins σ H s a0 ea C t dd I ha hnew q
  have bd := body_cx (CX := CX2 κ P w) (P := P) (w := w) (K := K) (mg := mg) (base := base) (N := N) (qual := qual) (scope := scope) (f := f) (cd := cd) (A := A) (outer := outer) (s₀ := s₀) (H₀ := H₀) (E := E)
  have bd : Body ((cxOf (CX2 κ P w) P w K mg base N qual scope f cd A outer s₀ H₀ E).hndR a0) := ⟨bd.ex, bd.stk, bd.frm, bd.fn⟩
  generalize hX : cxOf (CX2 κ P w) P w K mg base N qual scope f cd A outer s₀ H₀ E = X at I bd hnew
  have px : ExcN ea C t dd s.heap := (show ObjOk X.prog X.w H s.heap ea (.ext (ExcN ea C t dd)) from I.hok ea _ ha).1
  have nst : ea ∉ L2.frs X.stack := fun hm => by rw [I.stkFree ea hm] at ha; cases ha
  have hin : ∀ b o, s.heap.get? b = some o → b ≠ ea → b ∉ L2.frs X.stack → (PySem.W.hideAll s.heap (ea :: L2.frs X.stack)).get? b = some o := fun b o e n1 n2 => PySem.W.hideAll_get _ e (by intro z; rcases List.mem_cons.mp z with z | z; exact n1 z; exact n2 z)
  have hst : (PySem.W.hideAll s.heap (ea :: L2.frs X.stack)).StaysIn s.heap := fun b o e => PySem.W.of_hideAll _ e
  have ff : s.heap.FunFrames (PySem.W.hideAll s.heap (ea :: L2.frs X.stack)) X.stack := PySem.W.funFrames_hide I.stack fun env he a hf => List.mem_cons_of_mem _ (List.mem_filterMap.mpr ⟨env, he, hf⟩)
  have hno : (PySem.W.hideAll s.heap (ea :: L2.frs X.stack)).get? ea = none := PySem.W.hideAll_none _ List.mem_cons_self
  have dl : ∀ b o, H b = some o → (∀ φ, o ≠ .ext φ) → del H ea b = some o := fun b o e n => by rw [del_ne (fun z => n (ExcN ea C t dd) (by rw [z, ha] at e; exact (Option.some.inj e).symm))]; exact e
  have un : Un (L2.frs X.stack) [] H (del H ea) s.heap s.heap := by
    refine ⟨fun b o e _ _ _ => e, fun b o e _ _ _ => ⟨o.slots, e⟩, fun b o e n _ => ?_, fun b o e _ => ⟨o, e⟩, fun b xs e => dl _ _ e (fun _ z => nomatch z), fun b o u e => dl _ _ e (fun _ z => nomatch z), fun b ps e => ⟨#[], by rw [Array.append_empty]; exact dl _ _ e (fun _ z => nomatch z)⟩⟩
    unfold del
    split
    · rfl
    · exact n
  have hok : HOk X.prog X.w (del H ea) s.heap := fun b o e => by
    have hb : b ≠ ea := fun z => by rw [z, del_same] at e; cases e
    rw [del_ne hb] at e
    exact (I.hok b o e).stay (fun _ _ _ z => z) (fun c z => dl _ _ z (fun _ z => nomatch z)) fun c xs z => dl _ _ z (fun _ z => nomatch z)
  have trk : ∀ a o, del H ea a = some o → ∃ ob, (PySem.W.hideAll s.heap (ea :: L2.frs X.stack)).get? a = some ob := fun a o e => by
    have hb : a ≠ ea := fun z => by rw [z, del_same] at e; cases e
    rw [del_ne hb] at e
    obtain ⟨ob, hob⟩ := obj_is I e
    exact ⟨ob, hin a ob hob hb fun hm => by rw [I.stkFree a hm] at e; cases e⟩
  have pres : ∀ b o, X.s₀.heap.get? b = some o → b ∉ X.fs → ∃ o', (PySem.W.hideAll s.heap (ea :: L2.frs X.stack)).get? b = some o' := fun b o e hb => by
    obtain ⟨o1, e1⟩ := I.base.there b o e (by rw [bd.ex]; simp)
    exact ⟨o1, hin b o1 e1 (fun z => by rw [z, hnew] at e; cases e) (bd.old I e hb)⟩
  have hdx := Obj.data_mapFields (o := { cls := .ref C, dict := dd, data := .fields #[.ref t, .none, .none, .none, .bool false, .none] }) rfl (·.setIfInBounds 2 (Value.ref a0))
  have he' := Heap.get?_update_self (Obj.mapFields (·.setIfInBounds 2 (Value.ref a0))) px (Obj.isFreed_of_fields hdx)
  have other : ∀ b, b ≠ ea → (s.heap.update ea (Obj.mapFields (·.setIfInBounds 2 (Value.ref a0)))).get? b = s.heap.get? b := fun b hb => Heap.get?_update_other _ _ (Ne.symm hb)
  have rec' : ∀ b o, s.heap.get? b = some o → (∀ vs, o.data ≠ .fields vs) → b ≠ ea := fun b o hb hnf q => by
    rw [q, show s.heap.get? ea = _ from px] at hb; injection hb with hb; subst hb; exact hnf _ rfl
  have hst' : (PySem.W.hideAll s.heap (ea :: L2.frs X.stack)).StaysIn (s.heap.update ea (Obj.mapFields (·.setIfInBounds 2 (Value.ref a0)))) := fun b o e => (other b fun z => by rw [z, hno] at e; cases e).trans (hst b o e)
  have ff' : (s.heap.update ea (Obj.mapFields (·.setIfInBounds 2 (Value.ref a0)))).FunFrames (PySem.W.hideAll s.heap (ea :: L2.frs X.stack)) X.stack := ff.of_keeps fun b o hb hnf => ⟨o, (other b (rec' b o hb hnf)).trans hb, rfl⟩
  have up' : s.heap.UpToSlots (s.heap.update ea (Obj.mapFields (·.setIfInBounds 2 (Value.ref a0)))) := fun b o hb hnf => ⟨o.slots, (other b (rec' b o hb hnf)).trans hb⟩
  subst hX
  refine note_first (s := { s with heap := s.heap.update ea (Obj.mapFields (·.setIfInBounds 2 (Value.ref a0))) }) I.ok.frames ff' rfl he' hst' hno hdx rfl fun h2 hh up2 => ?_
  refine came_back (s := { s with heap := h2 }) rfl hh fun h3 hh3 up3 => ?_
  refine leaves_heldD (s := { s with heap := h3 }) rfl hh3 fun h'' fl up => ?_
  have J := lands2 bd I un hok rfl I.bare hst fl.1 (((up'.trans up2).trans up3).trans up) (frames_of ff) pres (fun b o e n hb => ⟨o, hin b o e (fun z => by rw [z, ha] at n; cases n) hb⟩) trk
  exact ⟨ea, .ref C, dd, some (.ref a0), _, del H ea, rfl, h1 a0, fl, pres, trk, J.os, J.bare, J.base, J.hok, q⟩
end

section
variable {prog : Program} {w : World} {A : Around} {E : Value → Shared → Prop} {env : Env}
variable {nm q : Str} {C N : Addr} {bs bm bmB : List Value} {hdct : Bool} {sn : List Str} {sub : List Value} {ab : Bool} {col : Option Bool} {dd : Option Addr} {k0 k1 k2 k3 k5 : Option Value} {B newId initId : String}
theorem raised_madeH {a0 : Addr} {s : Shared} {x : Sem Value} {Q : Flow → Shared → Prop} (hbase : bm.contains (.type "BaseException") = true) (hh : A.handled = some (.ref a0))
    (h : wpAny (model prog w) A x (fun v s₁ => ∃ e t ed, v = .ref e ∧ s₁.heap.get? C = some (excClassObj nm q C N bs bm hdct sn sub ab col dd k0 k1 k2 k3 k5 newId) ∧ ExcN e C t ed s₁.heap ∧ (∃ oa va, s₁.heap.get? a0 = some oa ∧ oa.data = .fields va ∧ va[2]? = some .none) ∧ a0 ≠ e ∧ E (.ref e) { s₁ with heap := s₁.heap.update e (Obj.mapFields (·.setIfInBounds 2 (.ref a0))) }) E s) :
    wpAny (model prog w) A (raiseStmt env (some x) none) Q E s := by
  have hcB : (Value.ref C :: bm).contains (.type "BaseException") = true := by rw [List.contains_cons, hbase, Bool.or_true]
  unfold raiseStmt
  refine wpAny_bind (wpAny_mono h (fun v s₁ h₁ => ?_) fun _ _ x => x)
  obtain ⟨e, t, ed, rfl, hC, he, ⟨oa, va, ha, hda, h2⟩, hne, hE⟩ := h₁
  obtain ⟨hp, g, d, tk, os⟩ := s₁
  unfold ExcN at he
  repeat (first | with_reducible refine wpAny_loadPart_at he ?_ | with_reducible refine wpAny_loadPart_at hC ?_ | (with_reducible refine wpAny_isSubtype_exc hC ?_; rw [hcB]) | wp_step)
  exact raiseNew_ctx hh hne ha hda h2 he rfl (by show 2 < 6; decide) hE
theorem raise_initH {a0 : Addr} (F : ExcBaseFacts B newId initId bmB) {mN : Str → Option Value} {fI : Addr} {s : Shared} {x : Str} {np cpos pos : Pos} {args : List Expr} {Q : Flow → Shared → Prop}
    (hbase : bm.contains (.type "BaseException") = true) (hh : A.handled = some (.ref a0)) (hplain : (backTo cpos (starEach args env)).any (·.1) = false) (hi : mN "__init__" = some (.ref fI))
    (h : wpAny (model prog w) A (eval (.Name x np) env) (fun f s₁ => f = .ref C ∧ wpAny (model prog w) A (evalArgs (.ref C) true (backTo cpos (starEach args env)) [])
      (fun a s₂ => a.kw = [] ∧ a.pos.length ≤ sizeLine ∧ s₂.heap.get? C = some (excClassObj nm q C N bs bm hdct sn sub ab col dd k0 k1 k2 k3 k5 newId) ∧ s₂.heap.Ns N mN ∧ OwnTail s₂.heap bmB bm ∧ (∃ oI, s₂.heap.get? fI = some oI ∧ oI.cls = .type "function") ∧
        ∀ h' e, Heap.MadeExcOf s₂.heap h' e (.ref C) a.pos → wpAny (model prog w) (A.under (.builtin "type.__call__" ⟨.ref C :: a.pos, []⟩)) (call (.ref fI) (.ref e :: a.pos))
          (fun r s' => r = .none ∧ (∃ t ed, s'.heap.get? C = some (excClassObj nm q C N bs bm hdct sn sub ab col dd k0 k1 k2 k3 k5 newId) ∧ ExcN e C t ed s'.heap) ∧ (∃ oa va, s'.heap.get? a0 = some oa ∧ oa.data = .fields va ∧ va[2]? = some .none) ∧ a0 ≠ e ∧ E (.ref e) { s' with heap := s'.heap.update e (Obj.mapFields (·.setIfInBounds 2 (.ref a0))) }) E { s₂ with heap := h' }) E s₁) E s) :
    wpAny (model prog w) A (exec (.Raise (some (.Call (.Name x np) args [] cpos)) none pos) env) Q E s := by
  rw [arm_exec_Raise]
  refine wpAny_bind (wpAny_standAt (raised_madeH (C := C) (nm := nm) (q := q) (N := N) (bs := bs) (bm := bm) (hdct := hdct) (sn := sn) (sub := sub) (ab := ab) (col := col) (dd := dd) (k0 := k0) (k1 := k1) (k2 := k2) (k3 := k3) (k5 := k5) (newId := newId) hbase hh (wpAny_bind (wpAny_mono (wpAny_Call_ofName (wpAny_mono h (fun f s₁ h₁ => ?_) fun _ _ x => x)) (fun v s₃ h₃ => wpAny_bind (wpAny_standAt (wpAny_pure h₃))) fun _ _ x => x))))
  obtain ⟨rfl, h₁⟩ := h₁
  unfold callWith
  refine wpAny_bind (wpAny_holding (wpAny_mono h₁ (fun a s₂ h₂ => wpAny_bind (wpAny_standAt ?_)) fun _ _ x => x))
  obtain ⟨apos, akw⟩ := a
  obtain ⟨hkw, hlen, hC, hn, T, ⟨oI, ho, hoc⟩, h₂⟩ := h₂
  obtain rfl : akw = [] := hkw
  obtain ⟨hp, g, d, tk, os⟩ := s₂
  simp only [hplain]
  refine wpAny_bind (wpAny_keeperOf_exc hC ?_)
  refine wpAny_bind (call_init (hrest := hlen) F T hC hn hi ho hoc fun h' e hm => wpAny_mono (h₂ h' e hm) (fun r s' ⟨hr, ⟨t, ed, hC', hx⟩, hoa, hne, hE⟩ => ⟨hr, wpAny_bind (wpAny_holding (wpAny_point (wpAny_pure ?_)))⟩) fun _ _ x => x)
  exact ⟨e, t, ed, rfl, hC', hx, hoa, hne, hE⟩
end
noncomputable def tRaiseH (E : XK) (a0 C : Addr) (sp : Sp) (t : TA) : TS := fun _ σ H => t σ H fun vs H1 => vs.length ≤ sizeLine ∧ (∃ c0 d0, H1 a0 = some (excD a0 c0 d0 (some .none))) ∧ ∀ e tt, H1 e = none → H1 tt = none → e ≠ tt →
  sp (.ref e :: vs) (upd H1 e (excN e C tt none)) (fun v H2 => v = .non ∧ ∃ dd, H2 e = some (excN e C tt dd) ∧ (∃ c0 d0, H2 a0 = some (excD a0 c0 d0 (some .none))) ∧ E (.ref C) dd (del H2 e)) E0
section
variable {X : Cx}
theorem ps_raiseH {a0 : Addr} {E : XK} {x : Str} {C f : Addr} {fd : FuncData} {ps : List Str} {k : Nat} {sp : Sp} {bm : List Value} {newId initId B : String} {e : Expr} {es : List Expr} {t : TA} {np cpos pos : Pos} (bd : Body X) (hR : RaiseOkH X E) (hg : Gl (X.hndR a0) x) (hm : X.mg x = some (.ref C))
    (M : MkI X.K C f bm newId) (FB : ExcBaseFacts B newId initId bm) (F : FnOkH X.prog X.w X.K X.mg X.base k f fd ps sp) (hr : RoomH (k + 1) (X.hndR a0).A) (hb : Binds X.K fd ps []) (ha : PA (X.hndR a0) (e :: es) t) (hdb : (x == ("__debug__" : Str)) = false := by decide)
    (he : starEach (e :: es) X.env = (false, eval e X.env) :: starEach es X.env := by rfl) (hpl : (backTo cpos (starEach es X.env)).any (·.1) = false := by rfl) : PS (X.hndR a0) (.Raise (some (.Call (.Name x np) (e :: es) [] cpos)) none pos) (tRaiseH E a0 C sp t) := by
  intro pins s σ H D I h
  obtain ⟨tl, N, nm, qn, bs, hdct, sn, sub, ab, col, dd, k0, k1, k2, k3, k5, mN, hC, hN, hni, T⟩ := own_of_KI I.ok.mod.kin M.exc
  refine raise_initH (C := C) (nm := nm) (q := qn) (N := N) (bs := bs) (bm := tl) (hdct := hdct) (sn := sn) (sub := sub) (ab := ab) (col := col) (dd := dd) (k0 := k0) (k1 := k1) (k2 := k2) (k3 := k3) (k5 := k5)
    FB (mN := mN) (T.hasType FB.hasBase) rfl (by rw [he]; show (false || (backTo cpos (starEach es X.env)).any (·.1)) = false; rw [hpl]; rfl) hni (ld_glob I hg hm ⟨rfl, ?_⟩ hdb)
  have hA := ha cpos pins s σ H _ I h
  rw [he] at hA ⊢
  refine Calls.evalArgs_plain (thn hA fun us s1 ⟨vs, H1, I1, r1, hl, ⟨c1, d1, hq0⟩, q1⟩ => ⟨rfl, by rw [← r1.length]; exact hl, I1.bk _ _ hC, hN.keeps I1.bk, T.keeps I1.bk, ?_, fun h' ea mx => ?_⟩)
  · have q := beq_iff_eq.mp M.fn
    obtain ⟨o, ho, hoc⟩ := Option.map_eq_some_iff.mp (show (X.K.lookup f).map (·.cls) = some (.type "function") from q)
    exact ⟨o, I1.kIn _ _ ho, hoc⟩
  · obtain ⟨tt, ht, htn, htt⟩ := mx.there
    have lt : ∀ {b : Addr} {o : Obj}, s1.heap.get? b = some o → b ≠ ea := fun q z => by rw [z, mx.new] at q; cases q
    have none_of : ∀ b, s1.heap.get? b = none → H1 b = none := fun b hb => by
      cases z : H1 b with
      | none => rfl
      | some o =>
        obtain ⟨ob, hob⟩ := obj_is I1 z
        rw [hb] at hob
        cases hob
    have net : ea ≠ tt := fun z => by
      rw [z, htt] at ht
      cases ht
    have nea : ea ≠ a0 := fun z => by
      obtain ⟨_, _, p0, _⟩ := excD_has I1 hq0
      exact lt p0 z.symm
    have hs0 : X.s₀.heap.get? ea = none := by
      cases z : X.s₀.heap.get? ea with
      | none => rfl
      | some o =>
        obtain ⟨o1, e1⟩ := I1.base.there _ o z (by rw [bd.ex]; simp)
        exact absurd rfl (lt e1)
    have I1' : Inv (X.hndR a0) pins σ H1 { s1 with heap := h', toks := s1.toks } := I1.kept mx.keeps
    have I2 : Inv (X.hndR a0) pins σ (upd H1 ea (excN ea C tt none)) { s1 with heap := h', toks := s1.toks } := by
      refine I1'.track (none_of _ mx.new) hs0 ?_ (fun x c ec z => ?_) (fun p hp z => ?_) (excN_ok ht)
      · obtain ⟨m, ⟨o, _, _, eo, _⟩, _⟩ := I1.loc
        exact (lt eo).symm
      · obtain ⟨_, o0, ho0, _⟩ := I1.cell x c ec
        exact lt ho0 z
      · obtain ⟨e0, _⟩ := I1.pin p hp
        exact lt e0 z
    have hq := q1 ea tt (none_of _ mx.new) (none_of _ htn) net
    have r2 : Vals (V.ref ea :: vs) (Value.ref ea :: us) := .cons rfl r1
    have hl2 : ((Value.ref ea :: us) ++ ([] : List Value)).length = ps.length := by
      rw [List.append_nil, ← r2.length]
      exact F.len _ _ _ _ hq
    have hbb := hb { s1 with heap := h', toks := s1.toks } (Value.ref ea :: us) I2.kIn hl2
    rw [List.append_nil] at hbb
    refine wpAny_call (codeAny_mono (F.run _ X.stack _ _ ⟨Value.ref ea :: us, []⟩ (Value.ref ea :: us) _ _ E0 (hr.make C us []) (I2.env0.make C us []) hbb r2 hq) fun r s' hq' => ?_)
    cases r with
    | error e => exact False.elim hq'
    | ok fl =>
      cases fl with
      | ret u =>
        obtain ⟨v, H', I3, rv, ev, dd', hx, ⟨c0, d0, ho0⟩, hE⟩ := I2.after hq'
        subst ev
        have px : ExcN ea C tt dd' s'.heap := (show ObjOk X.prog X.w H' s'.heap ea (.ext (ExcN ea C tt dd')) from I3.hok ea _ hx).1
        obtain ⟨oa, va, ha1, _, _, ha2, ha3⟩ := excD_has I3 ho0
        exact ⟨rv, ⟨tt, dd', I3.bk _ _ hC, px⟩, ⟨oa, va, ha1, ha2, ha3⟩, nea.symm, hR pins σ H' s' a0 ea C tt dd' I3 hx hs0 hE⟩
      | next => exact False.elim hq'
      | brk => exact False.elim hq'
      | cont => exact False.elim hq'
/-- try: body; except C: suite -- C takes whatever may be raised, the suite may raise -/
noncomputable def tTryR (κ : Option Value → Prop) (K : PySem.W.Frag) (C : Addr) (tb : XK → TS) (ts : Addr → TS) : TS := fun D σ H =>
  tb (fun cls dd H1 => PySem.W.exmOne K cls (.ref C) = some true ∧ ∀ ea cx, κ cx → H1 ea = none → ts ea D σ (upd H1 ea (excD ea cls dd cx))) D σ H
theorem ps_tryR {κ : Option Value → Prop} {body : List Stmt} {tb : XK → TS} {x : Str} {C : Addr} {b₀ : Stmt} {suite : List Stmt} {ts : Addr → TS} {np hpos pos : Pos} (bd : Body X) (hx : PSX (CX2 κ X.prog X.w) X body tb) (hg : Gl X x) (hm : X.mg x = some (.ref C))
    (hsu : ∀ ea, PSs (X.hndR ea) (b₀ :: suite) (ts ea)) (hdb : (x == ("__debug__" : Str)) = false := by decide) :
    PS X (.Try body [.ExceptHandler (some (.Name x np)) none (b₀ :: suite) hpos] [] [] pos) (tTryR κ X.K C tb ts) := by
  intro pins s σ H D I h
  refine wpAny_Try_except (thn (hx _ _ pins s σ H D ?_ I h) fun f s1 q => ?_)
  case refine_2 =>
    cases f with
    | next => exact wpAny_execs_nil q
    | ret v => exact q
    | brk => exact q
    | cont => exact q
  intro H0 s0 ev s' I0 hc
  obtain ⟨ea, cls, dd, cx, B, H', rfl, hc0, fl, pres, trk, os, bare, un, hok, hit, q⟩ := hc
  have fr : X.A.frames = some (X.env :: X.outer) := by rw [← bd.stk]; exact I0.ok.frames
  have fl0 : FlyD B (X.env :: X.outer) ea cls dd cx s'.heap := by rw [← bd.stk]; exact fl
  refine note_on fr bd.frm fl0 fun h1 held up1 => ?_
  refine landsD (s := { s' with heap := h1 }) held fun h2 fl2 up2 => ?_
  have J2 : Inv X pins σ H' { s' with heap := h2 } := lands bd I0 un hok os bare fl.1 fl2.1 (up1.trans up2) (frames_of fl.2.2.1) pres trk
  refine wpAny_handleBy_cons (codeAny_handlers_test (ld_glob (J2.hndR ea) hg hm ?_ hdb)) (by intro q; cases q)
  have LT : PySem.W.Looks (model X.prog X.w) h2 (typeOf (.ref ea)) cls := HasCls.type fl2.cls
  refine (PySem.W.exm_one (M := model X.prog X.w) J2.kIn LT hit).here ?_
  refine codeAny_handlers_suite ?_
  refine lands_againD (s := { s' with heap := h2 }) fl2 fun h3 fl3 up3 => ?_
  have J3 : Inv X pins σ H' { s' with heap := h3 } := lands bd I0 un hok os bare fl.1 fl3.1 ((up1.trans up2).trans up3) (frames_of fl.2.2.1) pres trk
  have hBn : B.get? ea = none := fl.2.1
  have nst : ea ∉ L2.frs X.stack := fun hm => by
    obtain ⟨o, ho, nd⟩ := frames_of fl.2.2.1 ea hm
    obtain ⟨oe, vs, _, _, _, he, _, hd, _⟩ := fl.2.2.2
    rw [ho] at he
    cases he
    exact nd _ hd
  have hn : H' ea = none := by
    cases z : H' ea with
    | none => rfl
    | some o =>
      obtain ⟨ob, hb⟩ := trk ea o z
      rw [hBn] at hb
      cases hb
  have hs0 : s0.heap.get? ea = none := by
    cases z : s0.heap.get? ea with
    | none => rfl
    | some o =>
      obtain ⟨ob, hb⟩ := pres ea o z nst
      rw [hBn] at hb
      cases hb
  have hsX : X.s₀.heap.get? ea = none := by
    cases z : X.s₀.heap.get? ea with
    | none => rfl
    | some o =>
      obtain ⟨o1, e1⟩ := I0.base.there ea o z (by rw [bd.ex]; simp)
      rw [hs0] at e1
      cases e1
  have J4 : Inv X pins σ (upd H' ea (excD ea cls dd cx)) { s' with heap := h3 } := by
    refine J3.track hn hsX (fun z => nst ?_) (fun y c e z => ?_) (fun p hp z => ?_) (excD_ok fl3.has)
    · rw [bd.frs, z]; exact List.mem_cons_self
    · obtain ⟨_, o0, ho0, _⟩ := I0.cell y c e
      rw [z, hs0] at ho0
      cases ho0
    · obtain ⟨e, _⟩ := I0.pin p hp
      rw [z, hs0] at e
      cases e
  refine wpAny_mono (hsu ea pins _ _ _ D (J4.hndR ea) (q ea cx hc0 hn)) (fun f s6 z => ?_) fun _ _ z => z
  cases f with
  | next => obtain ⟨σ6, H6, J6, q6⟩ := z; exact ⟨_, _, J6.unhndR I.ok, q6⟩
  | brk => obtain ⟨σ6, H6, J6, q6⟩ := z; exact ⟨_, _, J6.unhndR I.ok, q6⟩
  | cont => obtain ⟨σ6, H6, J6, q6⟩ := z; exact ⟨_, _, J6.unhndR I.ok, q6⟩
  | ret u => obtain ⟨v6, σ6, H6, J6, r6, q6⟩ := z; exact ⟨_, _, _, J6.unhndR I.ok, r6, q6⟩
end
end L2

set_option Elab.async false
set_option linter.all false
set_option maxRecDepth 100000
set_option maxHeartbeats 4000000
namespace L2
open PySem PySem.Spec PyProof.Rows
/-! ### comprehensions whose target is any one (a tuple of names) -/
theorem cmp_loop2 {prog : Program} {w : World} {A : Around} {R : Result → Shared → Prop} {s : Shared} {elt iter : Expr} {tg : Expr} {ifs : List Expr} {sc : Scope} {pos : Pos} {it acc : Value} {env : Env} (J : Nat → Shared → Prop)
    (one : ∀ k st, J k st → wpAny (model prog w) A (pyNext it) (fun r s₁ => match r with
      | none => R (.ok .next) s₁
      | some v => wpAny (model prog w) A (letOwnedTupleGo tg it v) (fun _ sg => wpAny (model prog w) A (assign tg env v) (fun _ s₂ =>
          wpAny (model prog w) A (cmpTests ifs env) (fun ok s₃ =>
            if ok = true then wpAny (model prog w) A (eval elt env) (fun y s₄ => wpAny (model prog w) A (call (.builtin "list.append") [acc, y]) (fun _ s₅ => ∃ m, m < k ∧ J m s₅) (fun _ _ => False) s₄) (fun _ _ => False) s₃
            else ∃ m, m < k ∧ J m s₃) (fun _ _ => False) s₂) (fun _ _ => False) sg) (fun _ _ => False) s₁) (fun _ _ => False) st)
    (k0 : Nat) (h0 : J k0 s) : codeAny (model prog w) A (.compLoop (.ListComp elt [⟨tg, iter, ifs, 0⟩] sc pos) 0 it acc env) R s := by
  refine codeAny_loop rfl J (fun k st hk => ?_) k0 h0
  show wpAny _ A ((compTurn (.ListComp elt [⟨tg, iter, ifs, 0⟩] sc pos) 0 it acc env).onRaise (fun y => do noteFrame y env; theTreesLotGoes y)) _ _ st
  refine wpAny_noted ?_
  rw [compTurn_list]
  refine wpAny_bind (wpAny_standAt (wpAny_bind (wpAny_mono (one k st hk) (fun r s₁ h₁ => ?_) fun _ _ z => z.elim)))
  cases r with
  | none => exact wpAny_pure h₁
  | some v =>
    refine wpAny_bind (wpAny_mono h₁ (fun _ sg hg => ?_) fun _ _ z => z.elim)
    refine wpAny_bind (wpAny_mono hg (fun _ s₂ h₂ => ?_) fun _ _ z => z.elim)
    refine wpAny_bind (wpAny_mono h₂ (fun ok s₃ h₃ => ?_) fun _ _ z => z.elim)
    cases ok with
    | false => exact wpAny_pure ⟨rfl, h₃⟩
    | true =>
      refine wpAny_bind (wpAny_bind (wpAny_mono h₃ (fun y s₄ h₄ => ?_) fun _ _ z => z.elim))
      exact wpAny_bind (wpAny_mono h₄ (fun _ s₅ h₅ => wpAny_pure (wpAny_pure ⟨rfl, h₅⟩)) fun _ _ z => z.elim)


structure CompSc2 (scX sc : Scope) (NX : List Str) (xs : List Str) (fv : List Str) (js : List Nat) : Prop where
  kind : sc.kind = .function
  kindX : scX.kind = .function
  cell : ∀ y ∈ sc.names, y.2 ≠ .cell
  own : ∀ x ∈ xs, sc.names.lookup x = some .local
  names : ∀ y ∈ sc.names, y.2 = .local → sc.names.lookup y.1 = some .local
  free : ∀ y ∈ sc.names, y.2 = .free → scX.names.lookup y.1 = some .cell
  nd : (xs ++ fv).Nodup
  at' : js.map (fun j => NX[j]?) = fv.map some
  fr : ∀ y ∈ fv, sc.names.lookup y = some .free
noncomputable abbrev xc2 (X : Cx) (sc : Scope) (xs : List Str) (fv : List Str) (C : Addr) (s0 : Shared) (H0 : Hp) (ex : List Addr) : Cx :=
  { X with N := xs ++ fv, s₀ := s0, H₀ := H0, env := compEnvC sc (clOf X.env.cells sc.names []) C X.env, outer := X.stack, ex := ex, fn := fun _ => false, pn := [], xe := fun _ _ => False }
noncomputable def tStep2 (k : Nat) (js : List Nat) (g : TG) (tt : TT) (te : TE) (σ : St) (ys : List V) (N : List V → Hp → Prop) (x : V) (H' : Hp) : Prop :=
  ∀ os : List (Option V), os.length = k → g x (os ++ pick js σ) H' fun σ6 H6 => (∃ os' : List (Option V), os'.length = k ∧ σ6 = os' ++ pick js σ) ∧
    tt σ6 H6 fun b H2 => if b = true then te σ6 H2 fun y H3 => ys.length < sizeLine ∧ N (ys ++ [y]) H3 else N ys H2
noncomputable def tCompB2 (J : It) (k : Nat) (js : List Nat) (g : TG) (tt : TT) (te : TE) : TE := fun σ H1 Q => ∃ W : Nat → Nat → List V → Hp → Prop, (∃ m, W 0 m [] H1) ∧ ∀ i m ys H, W i m ys H →
  (J.stop i H ∧ ∀ p, H p = none → Q (.ref p) (upd H p (.lst ys))) ∨
  (J.go i H ∧ ∃ N : List V → Hp → Prop, (∀ ys' H', N ys' H' → ∃ m', m' < m ∧ W (i + 1) m' ys' H') ∧ ∀ x H', J.yld i H x H' → tStep2 k js g tt te σ ys N x H')
noncomputable def tComp2 (wi : TI) (k : Nat) (js : List Nat) (g : TG) (tt : TT) (te : TE) : TE := fun σ H Q => wi σ H fun J H1 => tCompB2 J k js g tt te σ H1 Q
section
variable {X : Cx} {pins : List (Addr × Obj)} {σ : St} {H2 : Hp} {s2 : Shared} {elt iter tg : Expr} {xs : List Str} {ifs : List Expr} {sc scX : Scope} {pos : Pos} {fv : List Str} {js : List Nat} {g : TG} {tt : TT} {te : TE}

theorem comp_core2 (S : CompSc2 scX sc X.N xs fv js) (hsx : X.env.scope = scX) (hcalm : X.calm = true) (hgg : ∀ C s0 H0 ex, PG (xc2 X sc xs fv C s0 H0 ex) tg g)
    (ht : ∀ C s0 H0 ex, PIf (xc2 X sc xs fv C s0 H0 ex) ifs tt) (he : ∀ C s0 H0 ex, PE (xc2 X sc xs fv C s0 H0 ex) elt te)
    {it : Addr} {fp : List Addr} {tn : Nat → Heap → Prop} {J : It} (I2 : Inv X pins σ H2 s2) (T : Turn X.prog X.w X.K tg J fp it tn) (st2 : tn 0 s2.heap) (f2 : ∀ b ∈ fp, FpOk X pins H2 b)
    {Q : VK} {W : Nat → Nat → List V → Hp → Prop} (w0 : ∃ m, W 0 m [] H2)
    (step : ∀ i m ys H, W i m ys H → (J.stop i H ∧ ∀ p, H p = none → Q (.ref p) (upd H p (.lst ys))) ∨
      (J.go i H ∧ ∃ N : List V → Hp → Prop, (∀ ys' H', N ys' H' → ∃ m', m' < m ∧ W (i + 1) m' ys' H') ∧
        ∀ x H', J.yld i H x H' → tStep2 xs.length js g tt te σ ys N x H'))
    {RR : Value → Addr → Result → Shared → Prop} {E : Value → Shared → Prop}
    (fin : ∀ (D C : Addr) (s' : Shared) (H' : Hp), Inv X pins σ H' s' → Q (.ref D) H' → (∃ m, s'.heap.Ns C m) → FpOk X pins H' C → RR (.ref D) C (.ok .next) s') :
    wpAny (model X.prog X.w) X.A (newList []) (fun acc s₃ => wpAny (model X.prog X.w) X.A (newFunctionEnv sc X.env.globals (clOf X.env.cells sc.names []) [] X.env.qual none .none (some X.env)) (fun cenv s₄ =>
      codeAny (model X.prog X.w) X.A (.compStart (.ListComp elt [⟨tg, iter, ifs, 0⟩] sc pos) 0 (.ref it) acc { cenv with scope := relabel sc X.env }) (RR acc cenv.locals) s₄) E s₃) E s2 := by
  have hfree : ∀ y ∈ sc.names, y.2 = .free → ∃ c, X.env.cells.lookup y.1 = some c := fun y hy hf => I2.ok.has y.1 (.inl (by show X.env.scope.names.lookup y.1 = _; rw [hsx]; exact S.free y hy hf))
  obtain ⟨cl1, _, cl3⟩ := clOf_look (cells := X.env.cells) sc.names [] hfree (fun y c h => by simp at h)
  refine wpAny_newObj_type (wpAny_newFunctionEnv S.cell (by intro y hy; simp at hy) (fun h₁ hns₁ hsb₁ => ?_) S.kind)
  dsimp only at hns₁ hsb₁ ⊢
  generalize hG : s2.heap.push { cls := .type "list", dict := none, data := .seq ([] : List Value).toArray } = G at hns₁ hsb₁ ⊢
  have hGz : G.objs.size = s2.heap.objs.size + 1 := by rw [← hG, Heap.size_push]
  have upG : ∀ b o, s2.heap.get? b = some o → G.get? b = some o := fun b o e => hG ▸ Heap.get?_push_of_some _ e
  have upH : ∀ b o, G.get? b = some o → h₁.get? b = some o := fun b o e => hsb₁.extBut b o (Nat.ne_of_lt (Heap.lt_size e)) (Heap.get?_push_of_some _ e)
  have ltD : ∀ b o, s2.heap.get? b = some o → b ≠ s2.heap.objs.size := fun b o e => Nat.ne_of_lt (Heap.lt_size e)
  have fpo : ∀ b ∈ fp, ∃ o, s2.heap.get? b = some o := fun b hb => by obtain ⟨o, e, _⟩ := T.obj 0 _ st2 b hb; exact ⟨o, e⟩
  have fpD : ∀ b ∈ fp, b ≠ s2.heap.objs.size := fun b hb => by obtain ⟨o, e⟩ := fpo b hb; exact ltD b o e
  have fpC : ∀ b ∈ fp, b ≠ G.objs.size := fun b hb => by obtain ⟨o, e⟩ := fpo b hb; exact Nat.ne_of_lt (Heap.lt_size (upG b o e))
  have cellO : ∀ y c, (clOf X.env.cells sc.names []).lookup y = some c → ∃ v, s2.heap.IsCell c v := fun y c e => I2.cell y c (cl1 y c e)
  have cellD : ∀ y c, (clOf X.env.cells sc.names []).lookup y = some c → c ≠ s2.heap.objs.size := fun y c e => by obtain ⟨v, q⟩ := cellO y c e; exact Nat.ne_of_lt q.lt
  have Dfs : s2.heap.objs.size ∉ frs X.stack := fun hb => by
    rcases List.mem_cons.mp (I2.stkSub _ hb) with z | z
    · exact absurd I2.lt (by rw [← z]; exact Nat.lt_irrefl _)
    · exact I2.nofs (Nat.le_refl _) z
  have fpfs : ∀ b ∈ fp, b ∉ frs X.stack := fun b hb hz => by
    obtain ⟨_, f1, f2', _⟩ := f2 b hb
    rcases List.mem_cons.mp (I2.stkSub _ hz) with z | z
    · exact f1 z
    · exact f2' z
  have HD : H2 s2.heap.objs.size = none := I2.hok.fresh (Nat.le_refl _)
  have HC : H2 G.objs.size = none := I2.hok.fresh (by rw [hGz]; exact Nat.le_succ _)
  have DC : s2.heap.objs.size ≠ G.objs.size := by rw [hGz]; exact Nat.ne_of_lt (Nat.lt_succ_self _)
  -- the block's context is right
  have okC : Cx.Ok (xc2 X sc xs fv G.objs.size { s2 with heap := G } H2 (s2.heap.objs.size :: fp)) := by
    refine ⟨I2.ok.mod, S.kind, I2.ok.glob, I2.ok.blt, Nat.le_refl _, fun y z c h1 h2 => I2.ok.inj y z c (cl1 _ _ h1) (cl1 _ _ h2), fun y hy => ?_, fun y c hfn _ => (by cases hfn), I2.ok.hd, I2.ok.frames, .inl rfl, fun b hb => ?_, fun b o e => ?_, ?_, fun b o e hb => ?_, fun b hb => ?_, ?_, I2.stkFree⟩
    · exact Option.isSome_iff_exists.mp (cl3 y (relabel_back S.cell hy))
    · rcases List.mem_cons.mp hb with z | z
      · subst z; exact ⟨DC, cellD⟩
      · refine ⟨fpC b z, fun y c e => ?_⟩
        obtain ⟨_, _, _, _, f4, _⟩ := f2 b z
        exact f4 y c (cl1 y c e)
    · exact ⟨upG b o (I2.bs b o e).1, (I2.bs b o e).2⟩
    · show X.base.objs.size ≤ G.objs.size
      rw [hGz]; exact Nat.le_succ_of_le (Nat.le_trans I2.ok.bsz I2.sz)
    · rcases List.mem_cons.mp hb with z | z
      · exact ltD b o (I2.bk b o e) z
      · obtain ⟨_, _, _, f3, _⟩ := f2 b z
        rcases f3 with q | q
        · exact I2.ok.noex b o e q
        · exact absurd (Nat.lt_of_lt_of_le (Heap.lt_size e) (Nat.le_trans I2.ok.bsz q)) (Nat.lt_irrefl _)
    · rcases List.mem_cons.mp hb with z | z
      · subst z; exact Dfs
      · exact fpfs b z
    · exact (I2.stack).of_keeps fun b o e _ => ⟨o, upG b o e, rfl⟩
  have lenC : ∀ os : List (Option V), os.length = xs.length → (os ++ pick js σ).length = (xs ++ fv).length := fun os ho => by
    have := congrArg List.length S.at'
    simp only [List.length_map] at this
    simp [pick, this, ho]
  have hacc : h₁.get? s2.heap.objs.size = some { cls := .type "list", dict := none, data := .seq ([] : List Value).toArray } := upH _ _ (hG ▸ Heap.get?_push_size _ rfl)
  have I4 : Inv (xc2 X sc xs fv G.objs.size { s2 with heap := G } H2 (s2.heap.objs.size :: fp)) [(s2.heap.objs.size, { cls := .type "list", dict := none, data := .seq ([] : List Value).toArray })] (xs.map (fun _ => none) ++ pick js σ) H2 { s2 with heap := h₁, toks := s2.toks + ([] : List (Str × Value)).length } := by
    refine ⟨okC, rfl, I2.bare, Un.kept upH, ⟨_, hns₁, fun i y v e1 e2 e3 => ?_⟩, fun y c e => ?_, HC, fun y c e => I2.freeC y c (cl1 y c e), fun p hp => ?_, I2.hok.kept fun b u e => upH b u (upG b u e), lenC _ (by simp)⟩
    · by_cases hix : i < xs.length
      · have : (xs.map (fun _ => (none : Option V)) ++ pick js σ)[i]? = some none := by
          rw [List.getElem?_append_left (by simpa using hix), List.getElem?_map, List.getElem?_eq_getElem hix]; rfl
        rw [this] at e2
        cases e2
      · obtain ⟨i', rfl⟩ : ∃ i', i = xs.length + i' := ⟨i - xs.length, by (clear lenC DC fpfs Dfs cellD cellO fpC fpD fpo ltD upH upG hGz cl3 cl1 hfree fin step f2 he ht hgg; omega)⟩
        have e1' : fv[i']? = some y := by
          have e1a : (xs ++ fv)[xs.length + i']? = some y := e1
          rw [List.getElem?_append_right (by (exact Nat.le_add_right _ _)), Nat.add_sub_cancel_left] at e1a
          exact e1a
        have e2' : (pick js σ)[i']? = some (some v) := by
          have e2a := e2
          rw [List.getElem?_append_right (by simp), List.length_map, Nat.add_sub_cancel_left] at e2a
          exact e2a
        have q := congrArg (fun l => l[i']?) S.at'
        simp only [List.getElem?_map, e1', Option.map_some] at q
        cases hj : js[i']? with
        | none => rw [hj] at q; cases q
        | some j =>
          rw [hj] at q
          have hj' : X.N[j]? = some y := Option.some.inj q
          unfold pick at e2'
          rw [List.getElem?_map, hj] at e2'
          have e2'' : (σ[j]?).getD none = some v := Option.some.inj e2'
          have e2b : σ[j]? = some (some v) := by
            cases hh : σ[j]? with
            | none => rw [hh] at e2''; cases e2''
            | some o => rw [hh] at e2''; exact congrArg some e2''
          have hm : y ∈ fv := List.mem_of_getElem? e1'
          have hcX : scX.names.lookup y = some .cell := S.free (y, .free) (PySem.mem_of_lookup (S.fr y hm)) rfl
          have kX : X.env.kindOf y = some .cell := by show X.env.scope.names.lookup y = _; rw [hsx]; exact hcX
          obtain ⟨m, hn, hl⟩ := I2.loc
          obtain ⟨u, r, lk⟩ := hl j y v hj' e2b (.inr (.inl kX))
          refine ⟨u, r, ?_⟩
          rcases lk with ⟨k, _⟩ | ⟨_, c, ec, z⟩
          · rw [kX] at k; cases k
          · refine .inr ⟨.inl (relabel_free (by rw [hsx]; exact S.kindX) (S.fr y hm) kX), c, ?_, ?_⟩
            · obtain ⟨c', ec'⟩ := Option.isSome_iff_exists.mp (cl3 y (PySem.mem_of_lookup (S.fr y hm)))
              have := cl1 y c' ec'
              rw [ec] at this; cases this
              exact ec'
            · obtain ⟨o, ho, hd⟩ := z
              exact ⟨o, upH c o (upG c o ho), hd⟩
    · obtain ⟨v, o, ho, hd⟩ := cellO y c e
      exact ⟨v, o, upH c o (upG c o ho), hd⟩
    · have hp' : p = (s2.heap.objs.size, { cls := .type "list", dict := none, data := .seq ([] : List Value).toArray }) := by simpa using hp
      subst hp'
      exact ⟨hacc, HD, DC, Dfs, fun v z => by cases z⟩
  have loop : codeAny (model X.prog X.w) X.A (.compLoop (.ListComp elt [⟨tg, iter, ifs, 0⟩] sc pos) 0 (.ref it) (.ref s2.heap.objs.size) (compEnvC sc (clOf X.env.cells sc.names []) G.objs.size X.env)) (RR (.ref s2.heap.objs.size) G.objs.size) { s2 with heap := h₁, toks := s2.toks + ([] : List (Str × Value)).length } := by
    obtain ⟨m0, w0⟩ := w0
    have fok : ∀ {H' : Hp} {o : Obj}, (∀ b ∈ fp, H' b = none) → ∀ b ∈ fp, FpOk (xc2 X sc xs fv G.objs.size { s2 with heap := G } H2 (s2.heap.objs.size :: fp)) [(s2.heap.objs.size, o)] H' b := fun {H' o} hn b hb => by
      refine ⟨hn b hb, fpC b hb, fpfs b hb, .inl (List.mem_cons_of_mem _ hb), fun y c e => ?_, fun p hp => ?_⟩
      · obtain ⟨_, _, _, _, f4, _⟩ := f2 b hb
        exact f4 y c (cl1 y c e)
      · have hp' : p = (s2.heap.objs.size, o) := by simpa using hp
        subst hp'
        exact (fpD b hb).symm
    refine cmp_loop2 (fun k st => ∃ (i : Nat) (ys : List V) (its : List Value) (n : Nat) (os : List (Option V)) (H' : Hp), os.length = xs.length ∧ Inv (xc2 X sc xs fv G.objs.size { s2 with heap := G } H2 (s2.heap.objs.size :: fp)) [(s2.heap.objs.size, { cls := .type "list", data := .seq its.toArray n })] (os ++ pick js σ) H' st ∧
      Vals ys its ∧ ys.length ≤ sizeLine ∧ tn i st.heap ∧ (∀ b ∈ fp, H' b = none) ∧ W i k ys H') ?_ m0
      ⟨0, [], [], _, xs.map (fun _ => none), H2, by simp, I4, .nil, Nat.zero_le _, T.keep _ _ _ st2 fun b _ o e => upH b o (upG b o e), fun b hb => (f2 b hb).1, w0⟩
    rintro k s3 ⟨i, ys, its, n, os, H3, hos, I3, rv, hz, st3, fr3, w3⟩
    rcases step i k ys H3 w3 with ⟨stop, q⟩ | ⟨go, N, hN, hgo⟩
    · refine thn (T.done (xc2 X sc xs fv G.objs.size { s2 with heap := G } H2 (s2.heap.objs.size :: fp)) rfl rfl rfl hcalm i _ s3 _ H3 _ I3 (fok fr3) st3 stop) fun r s4 hsl52 => ?_
      obtain ⟨hr, I4⟩ := hsl52
      subst hr
      obtain ⟨pD, pn, _, _, _⟩ := I4.pin _ (List.mem_append_right _ List.mem_cons_self)
      have B := I4.base
      have nD : ∀ b o, s2.heap.get? b = some o → b ∉ fp → b ∉ s2.heap.objs.size :: fp := fun b o e hx hm => (List.mem_cons.mp hm).elim (ltD b o e) hx
      have neH : ∀ b u, H2 b = some u → b ≠ s2.heap.objs.size := fun b u e z => by rw [z, HD] at e; cases e
      have JX : Inv X pins σ (upd H3 s2.heap.objs.size (.lst ys)) s4 := by
        refine I2.call' (ch := fp) I4.os ⟨fun b o e hn hb hx => B.keep b o (upG b o e) hn hb (nD b o e hx), fun b o e hn hb hx => B.slot b o (upG b o e) hn hb (nD b o e hx), fun b o e hn hx => ?_, fun b o e hx => B.there b o (upG b o e) (nD b o e hx), fun b xs e => ?_, fun b o u e => ?_, fun b ps e => ?_⟩ (fun b u e => ?_) I4.bare fun b hb => ?_
        · rw [upd_ne (ltD b o e)]; exact B.free b o (upG b o e) hn (nD b o e hx)
        · rw [upd_ne (neH b _ e)]; exact B.tups b xs e
        · rw [upd_ne (neH b _ e)]; exact B.frzs b o u e
        · rw [upd_ne (neH b _ e)]; exact B.tbls b ps e
        · by_cases hb : b = s2.heap.objs.size
          · subst hb
            rw [upd_same] at e; cases e
            exact ⟨hz, its, n, rv, pD⟩
          · rw [upd_ne hb] at e
            exact (I4.hok b u e).stay (fun _ _ _ z => z) (fun c z => by rw [upd_ne (ne_of_none z pn)]; exact z) fun c xs z => by rw [upd_ne (ne_of_none z pn)]; exact z
        · obtain ⟨_, f1, _, f3, f4, f5⟩ := f2 b hb
          exact ⟨f3, f1, f4, f5⟩
      refine fin _ _ s4 _ JX (q _ pn) (by obtain ⟨m, hm, _⟩ := I4.loc; exact ⟨m, hm⟩) (I2.fpOk (by rw [hGz]; exact Nat.le_succ _) ?_)
      rw [upd_ne DC.symm]; exact I4.free
    · refine thn (T.item (xc2 X sc xs fv G.objs.size { s2 with heap := G } H2 (s2.heap.objs.size :: fp)) rfl rfl rfl hcalm i _ s3 _ H3 _ I3 (fok fr3) st3 go) fun r s4 hsl53 => ?_
      obtain ⟨u, hr, h4⟩ := hsl53
      subst hr
      refine thn h4 fun _ s5 hsl54 => ?_
      obtain ⟨y, H5, I5, r5, y5, st5, fr5⟩ := hsl54
      have I5' := I5.pinned (fok fr5) (T.obj _ _ st5)
      refine thn (hgg _ _ _ _ _ s5 _ H5 y u _ I5' r5 (hgo y _ y5 os hos)) fun _ s6 hsl55 => ?_
      obtain ⟨σ6, H6, I6, ⟨os', hos', eσ⟩, q6⟩ := hsl55
      subst eσ
      refine thn (ht _ _ _ _ _ s6 _ _ _ I6 q6) fun b s7 hsl56 => ?_
      obtain ⟨H7, I7, q7⟩ := hsl56
      cases b with
      | false =>
        rw [if_neg Bool.false_ne_true] at q7 ⊢
        obtain ⟨m', hm, w7⟩ := hN ys H7 q7
        exact ⟨m', hm, i + 1, ys, its, n, os', H7, hos', I7.unpinned, rv, hz, T.keep _ _ _ st5 fun b hb o e => (I7.pin (b, o) (List.mem_append_right _ (List.mem_append_right _ (mem_pinsAt hb e)))).1, fun b hb => by
          obtain ⟨o, e, d⟩ := T.obj _ _ st5 b hb
          exact (I7.pin (b, o) (List.mem_append_right _ (List.mem_append_right _ (mem_pinsAt hb e)))).2.1, w7⟩
      | true =>
        rw [if_pos rfl] at q7 ⊢
        refine thn (he _ _ _ _ _ s7 _ H7 _ I7 q7) fun u8 s8 hsl57 => ?_
        obtain ⟨y8, H8, I8, r8, hl8, q8⟩ := hsl57
        obtain ⟨m', hm, w8⟩ := hN _ H8 q8
        obtain ⟨pD, pn, pC, pf, _⟩ := I8.pin _ (List.mem_append_right _ (List.mem_append_left _ List.mem_cons_self))
        refine wpAny_list_append_plain (items := its.toArray) ⟨n, pD⟩ (fun h9 hl9 sb9 => ?_) (by rw [List.size_toArray, ← rv.length]; exact Nat.le_of_lt hl8)
        have pinF : ∀ p ∈ pinsAt fp s5.heap, p ∈ [(s2.heap.objs.size, ({ cls := .type "list", data := .seq its.toArray n } : Obj))] ++ pinsAt fp s5.heap := fun p hp => List.mem_append_right _ hp
        have I8a := I8.pins_of (pins' := pinsAt fp s5.heap) fun p hp => I8.pin p (List.mem_append_right _ (pinF p hp))
        have I9 := I8a.turned (it := s2.heap.objs.size) (h' := h9) (t' := s8.toks) (fun b o hb e => (sb9.2 b hb).trans e) pn DC (.inl List.mem_cons_self) (fun y c e => cellD y c e) fun p hp => fpD p.1 (of_pinsAt (by simpa using hp)).1
        obtain ⟨n9, e9⟩ := hl9
        have e9' : h9.get? s2.heap.objs.size = some { cls := .type "list", data := .seq (its ++ [u8]).toArray n9 } := by
          rw [e9, show (its ++ [u8]).toArray = its.toArray.push u8 by simp]
        refine ⟨m', hm, i + 1, ys ++ [y8], its ++ [u8], n9, os', H8, hos', I9.pins_of fun p hp => ?_, rv.append (.cons r8 .nil), by rw [List.length_append]; exact hl8, T.keep _ _ _ st5 fun b hb o e => (I9.pin (b, o) (List.mem_append_right _ (mem_pinsAt hb e))).1, fun b hb => ?_, w8⟩
        · have hp' : p = (s2.heap.objs.size, { cls := .type "list", data := .seq (its ++ [u8]).toArray n9 }) := by simpa using hp
          subst hp'
          exact ⟨e9', pn, DC, pf, fun v z => by cases z⟩
        · obtain ⟨o, e, d⟩ := T.obj _ _ st5 b hb
          exact (I9.pin (b, o) (List.mem_append_right _ (mem_pinsAt hb e))).2.1
  exact codeAny_compStart_list loop (T.self _ 0 _ _ _ (T.keep _ _ _ st2 fun b _ o e => upH b o (upG b o e)) loop)

theorem pe_comp2 {wi : TI} (scX : Scope) (NX fv : List Str) (js : List Nat) (hNX : X.N = NX) (S : CompSc2 scX sc NX xs fv js) (hsx : X.env.scope = scX) (hcalm : X.calm = true) (hi : PI X tg iter wi) (hgg : ∀ C s0 H0 ex, PG (xc2 X sc xs fv C s0 H0 ex) tg g)
    (ht : ∀ C s0 H0 ex, PIf (xc2 X sc xs fv C s0 H0 ex) ifs tt) (he : ∀ C s0 H0 ex, PE (xc2 X sc xs fv C s0 H0 ex) elt te)
    (hs : ∀ v, foldedSetIterable iter X.env v = pure v := by intro _; rfl) : PE X (.ListComp elt [⟨tg, iter, ifs, 0⟩] sc pos) (tComp2 wi xs.length js g tt te) := by
  intro pins s σ H Q I h
  rw [← hNX] at S
  have hfree : ∀ y ∈ sc.names, y.2 = .free → ∃ c, X.env.cells.lookup y.1 = some c := fun y hy hf => I.ok.has y.1 (.inl (by show X.env.scope.names.lookup y.1 = _; rw [hsx]; exact S.free y hy hf))
  rw [eval_ListComp]
  refine wpAny_comprehension_free (use := none) rfl hs (closure_eq hfree) S.kind S.names (thn (hi pins s σ H _ I h) fun v s1 h1 => thn h1 fun itv s2 h2 => ?_)
  obtain ⟨it, fp, tn, J, H2, e, I2, T, st2, f2, W, w0, step⟩ := h2
  subst e
  refine comp_core2 (RR := fun acc C => compPost (model X.prog X.w) X.A X.xe none (EP X pins σ Q) acc C) S hsx hcalm hgg ht he I2 T st2 f2 w0 step fun D C s' H' I' q hsl58 hC => ?_
  obtain ⟨m, hm⟩ := hsl58
  obtain ⟨f0, f1, _, f3, f4, f5⟩ := hC
  exact ⟨m, hm, fun h' sb => ⟨.ref D, H', I'.turned (t' := s'.toks) (fun b o hb e => (sb.2 b hb).trans e) f0 f1 f3 f4 f5, rfl, q⟩⟩

end
theorem CompSc.two {scX sc : Scope} {NX : List Str} {x : Str} {fv : List Str} {js : List Nat} (S : CompSc scX sc NX x fv js) : CompSc2 scX sc NX [x] fv js :=
  ⟨S.kind, S.kindX, S.cell, fun y hy => by rw [List.mem_singleton.mp hy]; exact S.own, S.names, S.free, S.nd, S.at', S.fr⟩
section
variable {X : Cx} {pins : List (Addr × Obj)} {σ : St} {H2 : Hp} {s2 : Shared} {elt iter : Expr} {x : Str} {px : Pos} {ifs : List Expr} {sc scX : Scope} {pos : Pos} {fv : List Str} {js : List Nat} {tt : TT} {te : TE}
theorem comp_core (S : CompSc scX sc X.N x fv js) (hsx : X.env.scope = scX) (hcalm : X.calm = true)
    (ht : ∀ C s0 H0 ex, PIf (xc X sc x fv C s0 H0 ex) ifs tt) (he : ∀ C s0 H0 ex, PE (xc X sc x fv C s0 H0 ex) elt te)
    {it : Addr} {fp : List Addr} {tn : Nat → Heap → Prop} {J : It} (I2 : Inv X pins σ H2 s2) (T : Turn X.prog X.w X.K (.Name x px) J fp it tn) (st2 : tn 0 s2.heap) (f2 : ∀ b ∈ fp, FpOk X pins H2 b)
    {Q : VK} {W : Nat → Nat → List V → Hp → Prop} (w0 : ∃ m, W 0 m [] H2)
    (step : ∀ i m ys H, W i m ys H → (J.stop i H ∧ ∀ p, H p = none → Q (.ref p) (upd H p (.lst ys))) ∨
      (J.go i H ∧ ∃ N : List V → Hp → Prop, (∀ ys' H', N ys' H' → ∃ m', m' < m ∧ W (i + 1) m' ys' H') ∧
        ∀ x H', J.yld i H x H' → tt (some x :: pick js σ) H' fun b H2 => if b = true then te (some x :: pick js σ) H2 fun y H3 => ys.length < sizeLine ∧ N (ys ++ [y]) H3 else N ys H2))
    {RR : Value → Addr → Result → Shared → Prop} {E : Value → Shared → Prop}
    (fin : ∀ (D C : Addr) (s' : Shared) (H' : Hp), Inv X pins σ H' s' → Q (.ref D) H' → (∃ m, s'.heap.Ns C m) → FpOk X pins H' C → RR (.ref D) C (.ok .next) s') :
    wpAny (model X.prog X.w) X.A (newList []) (fun acc s₃ => wpAny (model X.prog X.w) X.A (newFunctionEnv sc X.env.globals (clOf X.env.cells sc.names []) [] X.env.qual none .none (some X.env)) (fun cenv s₄ =>
      codeAny (model X.prog X.w) X.A (.compStart (.ListComp elt [⟨.Name x px, iter, ifs, 0⟩] sc pos) 0 (.ref it) acc { cenv with scope := relabel sc X.env }) (RR acc cenv.locals) s₄) E s₃) E s2 := by
  refine comp_core2 (xs := [x]) (g := gName 0) (RR := RR) S.two hsx hcalm (fun C s0 H0 ex => pg_name S.nd rfl (.inl (lookup_relabel_local S.own)) (.inr (lookup_relabel_local S.own))) ht he I2 T st2 f2 w0 (fun i m ys H w => ?_) fin
  rcases step i m ys H w with h | ⟨go, N, hN, st⟩
  · exact .inl h
  · refine .inr ⟨go, N, hN, fun y H' hy os hos => ?_⟩
    obtain ⟨o, rfl⟩ := List.length_eq_one_iff.mp hos
    exact ⟨⟨[some y], rfl, rfl⟩, st y H' hy⟩
theorem pe_comp {wi : TI} (scX : Scope) (NX fv : List Str) (js : List Nat) (hNX : X.N = NX) (S : CompSc scX sc NX x fv js) (hsx : X.env.scope = scX) (hcalm : X.calm = true) (hi : PI X (.Name x px) iter wi)
    (ht : ∀ C s0 H0 ex, PIf (xc X sc x fv C s0 H0 ex) ifs tt) (he : ∀ C s0 H0 ex, PE (xc X sc x fv C s0 H0 ex) elt te)
    (hs : ∀ v, foldedSetIterable iter X.env v = pure v := by intro _; rfl) : PE X (.ListComp elt [⟨.Name x px, iter, ifs, 0⟩] sc pos) (tComp wi js tt te) := by
  intro pins s σ H Q I h
  rw [← hNX] at S
  have hfree : ∀ y ∈ sc.names, y.2 = .free → ∃ c, X.env.cells.lookup y.1 = some c := fun y hy hf => I.ok.has y.1 (.inl (by show X.env.scope.names.lookup y.1 = _; rw [hsx]; exact S.free y hy hf))
  rw [eval_ListComp]
  refine wpAny_comprehension_free (use := none) rfl hs (closure_eq hfree) S.kind S.names (thn (hi pins s σ H _ I h) fun v s1 h1 => thn h1 fun itv s2 h2 => ?_)
  obtain ⟨it, fp, tn, J, H2, e, I2, T, st2, f2, W, w0, step⟩ := h2
  subst e
  refine comp_core (RR := fun acc C => compPost (model X.prog X.w) X.A X.xe none (EP X pins σ Q) acc C) S hsx hcalm ht he I2 T st2 f2 w0 step fun D C s' H' I' q hsl59 hC => ?_
  obtain ⟨m, hm⟩ := hsl59
  obtain ⟨f0, f1, _, f3, f4, f5⟩ := hC
  exact ⟨m, hm, fun h' sb => ⟨.ref D, H', I'.turned (t' := s'.toks) (fun b o hb e => (sb.2 b hb).trans e) f0 f1 f3 f4 f5, rfl, q⟩⟩

end
end L2

set_option Elab.async false
set_option linter.all false
set_option maxRecDepth 100000
namespace L2
open PySem PySem.Spec PyProof.Rows
/-! ### lists of pairs as tables -/
section
variable {κ : Type} [DecidableEq κ]
end


/-! ### a tracked dict, its keys ints and texts or tuples of these -/
section
variable {P : Program} {w : World} {H : Hp} {h : Heap} {a : Addr}
end

section
variable {X : Cx} {pins : List (Addr × Obj)} {σ : St} {H : Hp} {s : Shared} {a : Addr} {y v : V} {u r : Value} {o : Option V} {A : Around} {E : Value → Shared → Prop}

end

section
variable {X : Cx} {pins : List (Addr × Obj)} {σ : St} {H : Hp} {s : Shared} {a : Addr} {kvs : List (Key × V)} {k : Key} {u : Value} {A : Around} {E : Value → Shared → Prop}
end


/-! ### readings and rules -/
section
variable {X : Cx} {o i e value : Expr} {pos pos' tpos : Pos} {td ty tv : TE}
end


/-! ### displays -/
section
variable {X : Cx} {pos : Pos}
end

/-! ### methods -/
/-- a method call o.m(e) of a built-in, with one argument: what must be seen of the text -/
structure M1 (X : Cx) (o : Expr) (m : Str) (apos : Pos) (e : Expr) (cpos : Pos) : Prop where
  base : attributeBase o m X.env (eval o X.env) = eval o X.env
  few : ((backTo cpos (starEach [e] X.env)).all (fun x => !x.1) && (backToKw cpos (keywordEach [] X.env)).all (fun x => x.1.isSome)
    && decide (([e] : List Expr).length + ([] : List Keyword).length + (if ([] : List Keyword).isEmpty then 0 else 1) < 30)) = true
  line : (apos.endLine == cpos.line) = true
  trees : backTo cpos (starEach [e] X.env) = [(false, eval e X.env)]
structure M2 (X : Cx) (o : Expr) (m : Str) (apos : Pos) (e f : Expr) (cpos : Pos) : Prop where
  base : attributeBase o m X.env (eval o X.env) = eval o X.env
  few : ((backTo cpos (starEach [e, f] X.env)).all (fun x => !x.1) && (backToKw cpos (keywordEach [] X.env)).all (fun x => x.1.isSome)
    && decide (([e, f] : List Expr).length + ([] : List Keyword).length + (if ([] : List Keyword).isEmpty then 0 else 1) < 30)) = true
  line : (apos.endLine == cpos.line) = true
  trees : backTo cpos (starEach [e, f] X.env) = [(false, eval e X.env), (false, eval f X.env)]

section
variable {X : Cx} {pins : List (Addr × Obj)} {σ : St} {H : Hp} {s : Shared} {a : Addr} {y d : V} {u r : Value} {o : Option V} {A : Around} {E : Value → Shared → Prop}
end

section
variable {X : Cx} {o e f : Expr} {apos cpos : Pos} {td ty tx : TE}
end

/-! ### dict(d): a copy -/
section
variable {X : Cx} {pins : List (Addr × Obj)} {σ : St} {H : Hp} {s : Shared} {a : Addr} {kvs : List (Key × V)} {A : Around} {E : Value → Shared → Prop}
end


section
variable {X : Cx} {pins : List (Addr × Obj)} {σ : St} {H : Hp} {s : Shared} {a : Addr} {y : V} {u : Value} {A : Around} {E : Value → Shared → Prop}
end
end L2
namespace L2
open PySem PySem.Spec PyProof.Rows
section
variable {X : Cx}
end
/-! ### a dict's pairs: keys that differ -/
section
variable {κ : Type} [DecidableEq κ]
end
end L2

set_option linter.all false
namespace Mm
open PySem
/-! the settings of a mask -/
noncomputable def setsOf (m N : Nat) : List Nat := (List.range N).filter fun s => m.testBit s
theorem high_bit {m B s : Nat} (h : m < 2 ^ B) (hs : B ≤ s) : m.testBit s = false := Nat.testBit_lt_two_pow (Nat.lt_of_lt_of_le h (Nat.pow_le_pow_right (by decide) hs))
theorem sets_ext {m B N : Nat} (h : m < 2 ^ B) (hB : B ≤ N) : setsOf m B = setsOf m N := by
  obtain ⟨d, rfl⟩ : ∃ d, N = B + d := ⟨N - B, by (clear h; omega)⟩
  unfold setsOf
  rw [List.range_add, List.filter_append]
  have : ((List.range d).map (B + ·)).filter (fun s => m.testBit s) = [] := by
    rw [List.filter_eq_nil_iff]
    intro a ha
    obtain ⟨b, _, rfl⟩ := List.mem_map.mp ha
    rw [high_bit h (by (exact Nat.le_add_right _ _))]
    simp
  rw [this, List.append_nil]
theorem sets_lt {m N s : Nat} (h : s ∈ setsOf m N) : s < N := by
  have := (List.mem_filter.mp h).1
  simpa using this
theorem sets_len (m N : Nat) : (setsOf m N).length ≤ N := by
  have := List.length_filter_le (fun s => m.testBit s) (List.range N)
  simpa [setsOf] using this
theorem bits_self (m : Nat) : m < 2 ^ Builtin.Int.intBits (m : Int) := by
  have := (intBits_le_iff (m := Builtin.Int.intBits (m : Int)) (x := (m : Int))).mp (Nat.le_refl _)
  simpa using this
end Mm

set_option Elab.async false
set_option linter.all false
set_option maxRecDepth 100000
namespace Mm
open PySem L2
/-! a wood's masks and numbers -/
noncomputable def wkf (M : List Nat) (k : Nat) : List (Key × V) := (M.zipIdx k).map fun p => (Sum.inl (p.1 : Int), V.int ((p.2 : Nat) : Int))
noncomputable def wkv (M : List Nat) : List (Key × V) := wkf M 0
/-- what a wood's masks are -/
structure Gd (n : Nat) (M : List Nat) : Prop where
  nd : M.Nodup
  lt : ∀ m ∈ M, m < 2 ^ 2 ^ n
  z : M[0]? = some 0
  f : M[1]? = some (2 ^ 2 ^ n - 1)
noncomputable def wfl (n : Nat) (l d : Addr) : List (Str × V) := [("n", .int (n : Nat)), ("masks", .ref l), ("numbers", .ref d)]
/-- the wood at o -/
structure Wd (C : Addr) (H : Hp) (o dx l d : Addr) (n : Nat) (M : List Nat) : Prop where
  ins : H o = some (.ins C dx (wfl n l d))
  lst : H l = some (.lst (M.map fun x => V.int ((x : Nat) : Int)))
  dic : H d = some (.dK (wkv M))
  gd : Gd n M
/-! counting -/
theorem ix_tupK {X : Cx} {K : PySem.W.Frag} (h : X.K = K) : IxR X (rIxT K) := by subst h; exact ix_tup
theorem pe_bmK {X : Cx} {K : PySem.W.Frag} {o e : Expr} {es : List Expr} {to : TE} {t : TA} {name : Str} {apos cpos : Pos} {T id : String} {r : V → List V → Hp → VK → Prop} (hK : X.K = K) (pa : PlainAttrs T) (slot : Slot T name id) (hty : typeOf (.builtin id) = pure (.type "method_descriptor")) (hm : MtR X id r) (ho : PE X o to) (ha : PA X (e :: es) t)
    (hbase : attributeBase o name X.env (eval o X.env) = eval o X.env := by rfl)
    (hfew : ((backTo cpos (starEach (e :: es) X.env)).all (fun x => !x.1) && (backToKw cpos (keywordEach [] X.env)).all (fun x => x.1.isSome)
      && decide ((e :: es).length + ([] : List Keyword).length + (if ([] : List Keyword).isEmpty then 0 else 1) < 30)) = true := by rfl)
    (hline : (apos.endLine == cpos.line) = true := by rfl) (hs : starEach (e :: es) X.env = (false, eval e X.env) :: starEach es X.env := by rfl) (hplain : (backTo cpos (starEach es X.env)).any (·.1) = false := by rfl) :
    PE X (.Call (.Attribute o name apos) (e :: es) [] cpos) (tBM K T r to t) := by
  subst hK
  exact pe_bm pa slot hty hm ho ha hbase hfew hline hs hplain
/-! one statement, then the rest: what stands between -/
theorem seq_c {v : V} {i : Nat} {b : TS} {D : Ends} {σ : St} {H : Hp} (h : b D (σ.set i (some v)) H) : tSeq (tAsg (tC v) (gName i)) b D σ H := h
theorem if_cut {c : TT} {t u : TS} {D : Ends} {σ : St} {H : Hp} (B : Bool → Hp → Prop) (h1 : ∀ R : Bool → Hp → Prop, (∀ b H1, B b H1 → R b H1) → c σ H R) (h2 : ∀ H1, B true H1 → t D σ H1) (h3 : ∀ H1, B false H1 → u D σ H1) : tIfS c t u D σ H :=
  h1 _ fun b H1 hb => by
    cases b with
    | true => exact (if_pos rfl : (if true = true then t D σ H1 else u D σ H1) = _) ▸ h2 H1 hb
    | false => exact (if_neg Bool.false_ne_true : (if false = true then t D σ H1 else u D σ H1) = _) ▸ h3 H1 hb
theorem cut_for {wi : TI} {g : TG} {tb b : TS} {D : Ends} {σ : St} {H : Hp} (P : St → Hp → Prop) (h1 : ∀ R : St → Hp → Prop, (∀ σ' H', P σ' H' → R σ' H') → tFor wi g tb { D with nx := R } σ H) (h2 : ∀ σ' H', P σ' H' → b D σ' H') : tSeq (tFor wi g tb) b D σ H := h1 (b D) h2
end Mm

set_option Elab.async false
set_option linter.all false
set_option maxRecDepth 100000
set_option maxHeartbeats 4000000
namespace L2
open PySem PySem.Spec PyProof.Rows
section
variable {X : Cx}
theorem vals_strs : ∀ {l : List (Str × Tok)}, Vals ((l.map (·.1)).map V.str) (strValues l)
  | [] => .nil
  | (x, t) :: r => .cons ⟨t, rfl⟩ (vals_strs (l := r))
/-- x.split(y) -/
noncomputable def rSplit : V → List V → Hp → VK → Prop := fun x vs H Q => ∃ a b : Str, x = .str a ∧ vs = [.str b] ∧ (b.length == 0) = false ∧ a.length + 2 ≤ sizeLine ∧ ∀ p, H p = none → Q (.ref p) (upd H p (.lst ((Txt.split a b).map V.str)))
theorem mt_split : MtM X "str.split" rSplit := by
  intro pins s σ H x vs v us Q I rx rv h
  obtain ⟨a, b, rfl, rfl, hb, hz, q⟩ := h
  obtain ⟨t, rfl⟩ := rx
  obtain ⟨u, rfl, u', rfl⟩ := rv.one
  have hs := split_le a b
  have fin : ∀ (l : List (Str × Tok)) (tk : Nat), l.map (·.1) = Txt.split a b → EP X pins σ Q (.ref s.heap.objs.size) { s with heap := s.heap.push { cls := .type "list", data := .seq (strValues l).toArray }, toks := tk } := fun l tk e =>
    ⟨.ref s.heap.objs.size, _, I.lnew (ys := (Txt.split a b).map V.str) (by rw [← e]; exact vals_strs) (by rw [List.length_map]; (exact Nat.le_trans (by assumption) (by assumption))), rfl, q _ I.fresh⟩
  cases h1 : (decide (a.length < b.length) || decide (Builtin.Str.strKind a < Builtin.Str.strKind b))
  · cases hf : (Builtin.Str.occurrences a b 0 a.length (a.length + 1)).isEmpty
    · have e : Txt.split a b = Builtin.Str.partsBetween a (Builtin.Str.occurrences a b 0 a.length (a.length + 1)) b.length := (if_neg (ne_true_of_eq_false h1)).trans (if_neg (ne_true_of_eq_false hf))
      refine call_meets F.slot_str_split (typeIs_str _ _ _) F.entry_str_split (F.args_str_split_2 _ _) (meets_str_split_sep a b t u' h1 hb hf (by (solve_by_elim (maxDepth := 4) only [*, Nat.lt_of_lt_of_le, Nat.le_of_lt, Nat.succ_le_of_lt, Nat.le_refl])) (by rw [← e]; (exact Nat.le_trans (by assumption) (by assumption)))) ?_
      rw [strsFrom_eq]
      exact fin (numbered s.toks _) _ ((numbered_texts _ _).trans e.symm)
    · exact call_meets F.slot_str_split (typeIs_str _ _ _) F.entry_str_split (F.args_str_split_2 _ _) (meets_str_split_not_found a b t u' h1 hb hf) (fin [(a, t)] _ ((if_neg (ne_true_of_eq_false h1)).trans (if_pos hf)).symm)
  · exact call_meets F.slot_str_split (typeIs_str _ _ _) F.entry_str_split (F.args_str_split_2 _ _) (meets_str_split_cannot_occur a b t u' h1) (fin [(a, t)] _ (if_pos h1).symm)
/-- x.startswith(y) -/
theorem mt_starts : MtR X "str.startswith" (fun x xs H Q => ∃ a b, x = .str a ∧ xs = [.str b] ∧ Q (.bl (0 + b.length ≤ a.length && Builtin.Str.subAt a b 0)) H) := by
  intro pins s σ H x xs v us Q I rx rs h
  obtain ⟨a, b, rfl, rfl, q⟩ := h
  obtain ⟨t, rfl⟩ := rx
  obtain ⟨u, rfl, t', rfl⟩ := vals1 rs
  exact call_gives PySem.F.slot_str_startswith (typeIs_str s a t) PySem.F.entry_str_startswith (PySem.F.args_str_startswith_2 _ _) (gives_str_startswith a b t t') ⟨.bl _, H, I, rfl, q⟩
theorem strs_of : ∀ {zs : List Str} {us : List Value}, Vals (zs.map V.str) us → StrsAre us zs
  | [], _, r => by cases r; exact .nil
  | z :: zs, _, r => by
    cases r with
    | cons h t => obtain ⟨k, rfl⟩ := h; exact .cons _ _ (strs_of t)
/-- x.join(list) -/
theorem mt_join {K : PySem.W.Frag} (hK : X.K = K) : MtM X "str.join" (fun x xs H Q => ∃ (a : Str) (l : Addr) (zs : List Str), x = .str a ∧ xs = [.ref l] ∧ SqL K H l (zs.map V.str) ∧ a.length ≤ 16 ∧ (zs.map (·.length)).sum + zs.length ≤ 1048576 ∧ Q (.str (Str.join a zs)) H) := by
  intro pins s σ H x xs v us Q I rx rs h
  obtain ⟨a, l, zs, rfl, rfl, hq, ha, hw, q⟩ := h
  subst hK
  obtain ⟨t, rfl⟩ := rx
  obtain ⟨u, rfl, ru⟩ := rs.one
  cases ru
  obtain ⟨its, rv, p, hz⟩ := I.list hq
  refine join_listW (items := its.toArray) p.isList (by simpa using strs_of rv) ha hw fun t' k => ?_
  exact ⟨.str _, H, I.tok _, ⟨t', rfl⟩, by rw [show Txt.join a zs = Str.join a zs from StrLaws.glued_eq_join a zs]; exact q⟩
/-- try: body except ..: a body that raises nothing -/
theorem ps_tryok {body : List Stmt} {h₀ : ExceptHandler} {hs : List ExceptHandler} {t : TS} {pos : Pos} (h : PSs X.nox body t) : PS X (.Try body (h₀ :: hs) [] [] pos) t := by
  intro pins s σ H D I q
  refine wpAny_Try_except (wpAny_mono (h pins s σ H D (I.wish _) q) (fun f s1 z => ?_) fun _ _ z => False.elim z)
  cases f with
  | next => obtain ⟨σ1, H1, I1, q1⟩ := z; exact wpAny_execs_nil ⟨σ1, H1, I1.unwish, q1⟩
  | ret v => obtain ⟨x, σ1, H1, I1, r, q1⟩ := z; exact ⟨x, σ1, H1, I1.unwish, r, q1⟩
  | brk => obtain ⟨σ1, H1, I1, q1⟩ := z; exact ⟨σ1, H1, I1.unwish, q1⟩
  | cont => obtain ⟨σ1, H1, I1, q1⟩ := z; exact ⟨σ1, H1, I1.unwish, q1⟩
end
end L2

set_option Elab.async false
set_option linter.all false
set_option maxRecDepth 100000
set_option maxHeartbeats 4000000
namespace L2
open PySem PySem.Spec PyProof.Rows
/-- enumerate(list at a) -/
noncomputable def Ite (K : PySem.W.Frag) (a : Addr) : It := ⟨fun i H => ∃ xs x, SqL K H a xs ∧ xs[i]? = some x, fun i H x H' => ∃ (t : Addr) (y : V), (∀ xs, SqL K H a xs → xs[i]? = some y) ∧ H t = none ∧ x = .ref t ∧ H' = upd H t (.tup [.int ((i : Nat) : Int), y]), fun i H => ∃ xs, SqL K H a xs ∧ xs.length ≤ i⟩
theorem turn_enum {P : Program} {w : World} {K : PySem.W.Frag} {elts : List Expr} {k : Nat} {tpos : Pos} (a e it : Addr) (hei : e ≠ it) :
    Turn P w K (.Tuple elts k tpos) (Ite K a) [e, it] e (fun i h => (∃ old, IsEnum h e it i old) ∧ h.IsListIter it a i) where
  mem := by simp
  obj := fun i h st b hb => by
    rcases (show b = e ∨ b = it by simpa using hb) with z | z
    · subst z
      obtain ⟨⟨old, he⟩, _⟩ := st
      exact ⟨_, he, fun v z => by cases z⟩
    · subst z
      obtain ⟨_, o, e, c, d⟩ := st
      exact ⟨o, e, fun v z => by rw [d] at z; cases z⟩
  keep := fun i h h' st kk => ⟨by obtain ⟨old, he⟩ := st.1; exact ⟨old, kk e (by simp) _ he⟩, st.2.at fun o q => kk it (by simp) o q⟩
  item := by
    intro X hP hw hK hc i pins s σ H E I hf st hg
    subst hP hw hK
    obtain ⟨xs, x, hq, hx⟩ := hg
    obtain ⟨its, rv, p, hz⟩ := I.list hq
    obtain ⟨u, hu, ru⟩ := rv.get hx
    obtain ⟨⟨old, he⟩, hit⟩ := st
    obtain ⟨e0, e1, e2, e3, e4, e5⟩ := hf e (by simp)
    obtain ⟨f0, f1, f2, f3, f4, f5⟩ := hf it (by simp)
    refine wpAny_pyNext_enum_item he hit p.isList (x := u) (by simpa using hu) hei fun h1 ho hit1 ht hsz kk => ?_
    refine ⟨_, rfl, ?_⟩
    have hel : e < s.heap.objs.size := Heap.lt_size he
    have hil : it < s.heap.objs.size := by obtain ⟨_, q, _⟩ := hit; exact Heap.lt_size q
    refine wpAny_letOwnedTupleGo_enum (s := { s with heap := h1, toks := s.toks + 1 }) ho fun h2 he2 hs2 => ?_
    have hs2 : Heap.SameBut e h1 h2 := hs2
    have kk2 : ∀ b o, b ≠ e → b ≠ it → s.heap.get? b = some o → h2.get? b = some o := fun b o q1 q2 q => (hs2.2 b q1).trans (kk b o q1 q2 q)
    have ht2 : h2.get? s.heap.objs.size = some { cls := .type "tuple", data := .seq #[.int i s.toks, u] } := (hs2.2 _ (Nat.ne_of_gt hel)).trans ht
    have hT : H s.heap.objs.size = none := I.fresh
    have I2 : Inv X pins σ (upd H s.heap.objs.size (.tup [.int ((i : Nat) : Int), x])) { s with heap := h2, toks := s.toks + 1 } := by
      refine I.call' (ch := [e, it]) rfl ⟨fun b o q hn hb hx => ?_, fun b o q hn hb hx => ?_, fun b o q hn hx => ?_, fun b o q hx => ?_, fun b ys q => ?_, fun b o v q => ?_, fun b ps q => ?_⟩ (fun b v q => ?_) I.bare fun b hb => ?_
      · exact kk2 b o (fun z => hx (by simp [z])) (fun z => hx (by simp [z])) q
      · exact ⟨o.slots, kk2 b o (fun z => hx (by simp [z])) (fun z => hx (by simp [z])) q⟩
      · rw [upd_ne (Nat.ne_of_lt (Heap.lt_size q))]; exact hn
      · exact ⟨o, kk2 b o (fun z => hx (by simp [z])) (fun z => hx (by simp [z])) q⟩
      · rw [upd_ne (ne_of_none q hT)]; exact q
      · rw [upd_ne (ne_of_none q hT)]; exact q
      · exact ⟨#[], by rw [upd_ne (ne_of_none q hT)]; simpa using q⟩
      · by_cases hb : b = s.heap.objs.size
        · subst hb
          rw [upd_same] at q
          cases q
          exact ⟨(by show 2 ≤ sizeLine; decide), [.int i s.toks, u], .cons ⟨_, rfl⟩ (.cons ru .nil), _, ht2, rfl, _, rfl⟩
        · rw [upd_ne hb] at q
          have hne : b ≠ e := fun z => by rw [z, e0] at q; cases q
          have hni : b ≠ it := fun z => by rw [z, f0] at q; cases q
          refine (I.hok b v q).stay (fun c o hcb z => kk2 c o (fun y => ?_) (fun y => ?_) z) (fun c z => by rw [upd_ne (ne_of_none z hT)]; exact z) fun c ys z => by rw [upd_ne (ne_of_none z hT)]; exact z
          · rcases hcb with r | r
            · exact hne (r ▸ y)
            · rw [y, e0] at r; cases r
          · rcases hcb with r | r
            · exact hni (r ▸ y)
            · rw [y, f0] at r; cases r
      · rcases (show b = e ∨ b = it by simpa using hb) with z | z
        · subst z; exact ⟨e3, e1, e4, e5⟩
        · subst z; exact ⟨f3, f1, f4, f5⟩
    refine ⟨.ref s.heap.objs.size, _, I2, rfl, ⟨_, x, fun ys hy => by rw [I.list_inj hy hq]; exact hx, hT, rfl, rfl⟩, ⟨⟨u, by simpa using he2⟩, hit1.at fun o q => (hs2.2 it hei.symm).trans q⟩, fun b hb => ?_⟩
    rcases (show b = e ∨ b = it by simpa using hb) with z | z
    · subst z; rw [upd_ne (Nat.ne_of_lt hel)]; exact e0
    · subst z; rw [upd_ne (Nat.ne_of_lt hil)]; exact f0
  done := by
    intro X hP hw hK hc i pins s σ H E I hf st hg
    subst hP hw hK
    obtain ⟨xs, hq, hx⟩ := hg
    obtain ⟨its, rv, p, hz⟩ := I.list hq
    obtain ⟨f0, f1, f2, f3, f4, f5⟩ := hf it (by simp)
    obtain ⟨⟨old, he⟩, hit⟩ := st
    have hl := rv.length
    exact wpAny_pyNext_enum_end (I.ok.hd hc) he hit p.isList (by simp; omega) fun h' eb => ⟨rfl, I.turned (t' := s.toks) (fun b o hb q => eb b o hb q) f0 f1 f3 f4 f5⟩
  self := fun _ _ _ _ _ st h => by obtain ⟨⟨old, he⟩, _⟩ := st; exact wpAny_pyIter_enum he h
section
variable {X : Cx}
noncomputable def iEnum (K : PySem.W.Frag) (ta : TA) : TI := fun σ H R => ta σ H fun vs H1 => ∃ a xs, vs = [.ref a] ∧ SqL K H1 a xs ∧ R (Ite K a) H1
theorem pi_enum {a : Expr} {ta : TA} {p pos tpos : Pos} {elts : List Expr} {k : Nat} (hg : Gl X "enumerate") (hm : X.mg "enumerate" = none) (ha : PA X [a] ta) (hs : starEach [a] X.env = [(false, eval a X.env)] := by rfl) :
    PI X (.Tuple elts k tpos) (.Call (.Name "enumerate" p) [a] [] pos) (iEnum X.K ta) := by
  intro pins s σ H R I h
  refine Call_ (ld_blt I hg hm boot_enumerate (PyProof.Rows.callWith_type1 (thn (ha pos pins s σ H _ I h) fun us s1 hsl60 => ?_) hs rfl))
  obtain ⟨vs, H1, I1, r1, q1⟩ := hsl60
  obtain ⟨l, xs, e, hq, q⟩ := q1
  subst e
  obtain ⟨u, rfl, ru⟩ := vals1 r1
  cases ru
  obtain ⟨its, rv, pp, hz⟩ := I1.list hq
  refine call_enumerate_list pp.isList fun h' he hit hsz kk => ?_
  refine wpAny_pyIter_enum (s := { s1 with heap := h' }) he ?_
  refine ⟨s1.heap.objs.size + 1, [s1.heap.objs.size + 1, s1.heap.objs.size], _, _, H1, rfl, I1.kept (t' := s1.toks) kk, turn_enum l _ _ (Nat.succ_ne_self _), ⟨⟨_, he⟩, hit⟩, fun b hb => ?_, q⟩
  rcases (show b = s1.heap.objs.size + 1 ∨ b = s1.heap.objs.size by simpa using hb) with z | z
  · subst z; exact I1.fpOk (Nat.le_succ _) (I1.hok.fresh (Nat.le_succ _))
  · subst z; exact I1.fpOk (Nat.le_refl _) (I1.hok.fresh (Nat.le_refl _))
end
theorem pg_tupK {X : Cx} {K : PySem.W.Frag} {es : List Expr} {k : Nat} {pos : Pos} {t : TGs} {n : Nat} (hK : X.K = K) (hc : X.calm = true) (h : PGs X es t)
    (hn : (assignEach es X.env).length = n := by rfl) (hst : (assignEach es X.env).findIdx? (·.1) = none := by rfl) : PG X (.Tuple es k pos) (gTup K n t) := by
  subst hK
  exact pg_tup hc h hn hst
/-! the forms one uses -/
section
variable {k : Nat} {js : List Nat} {g : TG} {tt : TT} {te : TE}
theorem comp2_list {K : PySem.W.Frag} {a : Addr} {xs : List V} {σ : St} {H : Hp} {Q : VK} (Pv : Nat → List V → Hp → Prop) (h0 : Pv 0 [] H) (hl : ∀ i ys H, i ≤ xs.length → Pv i ys H → SqL K H a xs)
    (hs : ∀ i x ys H, xs[i]? = some x → Pv i ys H → tStep2 k js g tt te σ ys (Pv (i + 1)) x H)
    (hd : ∀ ys H, Pv xs.length ys H → ∀ p, H p = none → Q (.ref p) (upd H p (.lst ys))) : tCompB2 (Itl K a) k js g tt te σ H Q := by
  refine ⟨fun i m ys H => m = xs.length - i ∧ i ≤ xs.length ∧ Pv i ys H, ⟨xs.length, by simp, Nat.zero_le _, h0⟩, ?_⟩
  rintro i m ys H ⟨rfl, hi, p⟩
  have q := hl i ys H hi p
  by_cases hlt : i < xs.length
  · refine .inr ⟨⟨xs, xs[i], q, by simp [hlt]⟩, Pv (i + 1), fun ys' H' p' => ⟨xs.length - (i + 1), by (exact Nat.sub_lt_sub_left (by assumption) (Nat.lt_succ_self _)), rfl, hlt, p'⟩, fun x H' y => ?_⟩
    obtain ⟨e, y⟩ := y
    subst e
    exact hs i x ys _ (y xs q) p
  · have e : i = xs.length := by omega
    subst e
    exact .inl ⟨⟨xs, q, Nat.le_refl _⟩, hd ys H p⟩
theorem comp2_enum {K : PySem.W.Frag} {a : Addr} {xs : List V} {σ : St} {H : Hp} {Q : VK} (Pv : Nat → List V → Hp → Prop) (h0 : Pv 0 [] H) (hl : ∀ i ys H, i ≤ xs.length → Pv i ys H → SqL K H a xs)
    (hs : ∀ i x ys H t, xs[i]? = some x → Pv i ys H → H t = none → tStep2 k js g tt te σ ys (Pv (i + 1)) (.ref t) (upd H t (.tup [.int ((i : Nat) : Int), x])))
    (hd : ∀ ys H, Pv xs.length ys H → ∀ p, H p = none → Q (.ref p) (upd H p (.lst ys))) : tCompB2 (Ite K a) k js g tt te σ H Q := by
  refine ⟨fun i m ys H => m = xs.length - i ∧ i ≤ xs.length ∧ Pv i ys H, ⟨xs.length, by simp, Nat.zero_le _, h0⟩, ?_⟩
  rintro i m ys H ⟨rfl, hi, p⟩
  have q := hl i ys H hi p
  by_cases hlt : i < xs.length
  · refine .inr ⟨⟨xs, xs[i], q, by simp [hlt]⟩, Pv (i + 1), fun ys' H' p' => ⟨xs.length - (i + 1), by (exact Nat.sub_lt_sub_left (by assumption) (Nat.lt_succ_self _)), rfl, hlt, p'⟩, fun x H' y => ?_⟩
    obtain ⟨t, y, hy, hn, rfl, rfl⟩ := y
    exact hs i y ys _ t (hy xs q) p hn
  · have e : i = xs.length := by omega
    subst e
    exact .inl ⟨⟨xs, q, Nat.le_refl _⟩, hd ys H p⟩
end
end L2

set_option Elab.async false
set_option linter.all false
set_option maxRecDepth 100000
set_option maxHeartbeats 4000000
namespace L2
open PySem PySem.Spec PyProof.Rows
/-! ### an exception that leaves a comprehension -/
theorem noteFrame_frame {e : Value} {env env' : Env} (h : env.frame = env'.frame) : noteFrame e env = noteFrame e env' := by
  unfold noteFrame PySem.frameOf
  rw [h]
section
variable {M : Model} {A : Around} {E : Value → Shared → Prop} {s : Shared}
theorem note_any {base : Heap} {env : Env} {outer : List Env} {L e : Addr} {cls fl : Value} {dd : Option Addr} {cx : Option Value} {Q : Unit → Shared → Prop}
    (hfr : A.frames = some (env :: outer)) (hf : env.frame = some L) (hkb : base.StaysIn s.heap) (hen : base.get? e = none) (hl : s.heap.FunFrames base (env :: outer)) (ht : TrD s.heap base e cls fl dd cx)
    (h : ∀ h', HeldD base (env :: outer) e cls dd cx L h' → s.heap.UpToSlots h' → Q () { s with heap := h' }) : wpAny M A (noteFrame (.ref e) env) Q E s := by
  by_cases hfl : fl = rawInt L
  · subst hfl
    have ht0 := ht
    obtain ⟨oe, vs, T, oT, ts, he, _, hd, h1, hnT, hTe, hT, hdT, h3⟩ := ht
    unfold noteFrame
    simp only [hf]
    refine wpAny_bind (wpAny_field he hd h1 ?_)
    rw [if_pos (show (Value.ref T != Value.none) = true from by simp)]
    refine wpAny_bind (wpAny_field hT hdT h3 ?_)
    rw [if_pos (show ((rawInt L == rawInt L) = true) from by simp)]
    exact wpAny_pure (h s.heap ⟨hkb, hen, hl, ht0⟩ (Heap.UpToSlots.refl _))
  obtain ⟨oe, vs, T, oT, ts, he, ⟨rfl, rfl, rfl⟩, hd, h1, hnT, hTe, hT, hdT, h3⟩ := ht
  unfold noteFrame
  simp only [hf]
  refine wpAny_bind (wpAny_field he hd h1 ?_)
  rw [if_pos (show (Value.ref T != Value.none) = true from by simp)]
  refine wpAny_bind (wpAny_field hT hdT h3 ?_)
  rw [if_neg (show ¬ ((fl == rawInt L) = true) from by simpa using hfl)]
  refine wpAny_bind (wpAny_setField hT hdT (Array.getElem?_eq_some_iff.mp h3).1 ?_)
  have other : ∀ b, b ≠ T → (s.heap.update T (Obj.mapFields (·.setIfInBounds 3 Value.none))).get? b = s.heap.get? b := fun b hb => Heap.get?_update_other _ _ (Ne.symm hb)
  have rec' : ∀ b o, s.heap.get? b = some o → (∀ vs, o.data ≠ .fields vs) → b ≠ T := fun b o hb hnf q => by
    rw [q, hT] at hb; injection hb with hb; subst hb; exact hnf ts hdT
  refine noteEntry (s := { s with heap := s.heap.update T (Obj.mapFields (·.setIfInBounds 3 Value.none)) }) hfr (hl.of_keeps fun b o hb hnf => ⟨o, (other b (rec' b o hb hnf)).trans hb, rfl⟩) hf ((other e (Ne.symm hTe)).trans he)
    (fun b o hbo => (other b fun q => by rw [q, hnT] at hbo; cases hbo).trans (hkb b o hbo)) hen hd (Array.getElem?_eq_some_iff.mp h1).1
    fun h' x1 x2 x3 x4 => h h' ⟨x1, hen, x2, x3⟩ fun b o hb hnf => x4 b o ((other b (rec' b o hb hnf)).trans hb) hnf
theorem leaves_anyD {base : Heap} {env : Env} {outer : List Env} {L e : Addr} {cls fl : Value} {dd : Option Addr} {cx : Option Value} {Q : Unit → Shared → Prop}
    (hfr : A.frames = some (env :: outer)) (hf : env.frame = some L) (hkb : base.StaysIn s.heap) (hen : base.get? e = none) (hl : s.heap.FunFrames base (env :: outer)) (ht : TrD s.heap base e cls fl dd cx)
    (h : ∀ h', FlyD base outer e cls dd cx h' → s.heap.UpToSlots h' → Q () { s with heap := h' }) : wpAny M A (leaving env (.ref e)) Q E s := by
  unfold leaving
  refine wpAny_bind (note_any hfr hf hkb hen hl ht fun h1 hh up => ?_)
  exact landsD (s := { s with heap := h1 }) hh fun h2 f2 up2 => h h2 f2.out (up.trans up2)
theorem set_flightD {base : Heap} {l : List Env} {e : Addr} {cls fl : Value} {dd : Option Addr} {cx : Option Value} {fr : Option Addr} {Q : Unit → Shared → Prop}
    (hkb : base.StaysIn s.heap) (hen : base.get? e = none) (hl : s.heap.FunFrames base l) (ht : TrD s.heap base e cls fl dd cx)
    (h : ∀ h', base.StaysIn h' → h'.FunFrames base l → TrD h' base e cls (fr.elim .none fun f => rawInt f) dd cx → s.heap.UpToSlots h' → Q () { s with heap := h' }) : wpAny M A (setFlight (.ref e) fr) Q E s := by
  obtain ⟨oe, vs, T, oT, ts, he, hcls, hd, h1, hnT, hTe, hT, hdT, h3⟩ := ht
  have hsz3 : 3 < ts.size := (Array.getElem?_eq_some_iff.mp h3).1
  have other : ∀ b, b ≠ T → (s.heap.update T (Obj.mapFields (·.setIfInBounds 3 (fr.elim Value.none fun f => rawInt f)))).get? b = s.heap.get? b :=
    fun b hb => Heap.get?_update_other _ _ (Ne.symm hb)
  have rec' : ∀ b o, s.heap.get? b = some o → (∀ vs, o.data ≠ .fields vs) → b ≠ T := fun b o hb hnf q => by
    rw [q, hT] at hb; injection hb with hb; subst hb; exact hnf ts hdT
  unfold setFlight
  refine wpAny_bind (wpAny_field he hd h1 ?_)
  rw [if_pos (show (Value.ref T != Value.none) = true from by simp)]
  refine wpAny_setField hT hdT hsz3 (h _ (fun b o hbo => (other b fun q => by rw [q, hnT] at hbo; cases hbo).trans (hkb b o hbo))
    (hl.of_keeps fun b o hb hnf => ⟨o, (other b (rec' b o hb hnf)).trans hb, rfl⟩) ?_ fun b o hb hnf => ⟨o.slots, (other b (rec' b o hb hnf)).trans hb⟩)
  exact ⟨oe, vs, T, _, _, (other e (Ne.symm hTe)).trans he, hcls, hd, h1, hnT, hTe, Heap.get?_update_self _ hT (Obj.isFreed_of_fields (Obj.data_mapFields hdT _)), Obj.data_mapFields hdT _, by simp [hsz3]⟩
theorem ff_but {h h' B B' : Heap} {C : Addr} (sb : ∀ b, b ≠ C → h'.get? b = h.get? b) (hB : ∀ b, B.get? b = none → B'.get? b = none) : ∀ {l : List Env}, h.FunFrames B l → C ∉ L2.frs l → h'.FunFrames B' l
  | [], _, _ => trivial
  | env :: r, ⟨hk, ⟨L, o, hf, hn, ho, hd⟩, hr⟩, hc => by
    have hc' : C ≠ L ∧ C ∉ L2.frs r := by
      refine ⟨fun z => hc ?_, fun z => hc ?_⟩
      · show C ∈ List.filterMap _ _
        rw [z]; simp [hf]
      · show C ∈ List.filterMap _ _
        rw [List.filterMap_cons, hf]
        exact List.mem_cons_of_mem _ z
    exact ⟨hk, ⟨L, o, hf, hB _ hn, (sb L (Ne.symm hc'.1)).trans ho, hd⟩, ff_but sb hB hr hc'.2⟩
end
section
variable {X : Cx} {pins : List (Addr × Obj)} {σ : St} {H H' : Hp} {s s' : Shared} {B h'' : Heap}
theorem lands3 (b : Body X) (I' : Inv X pins σ H' s') (hB1 : B.StaysIn s'.heap) (hB2 : B.StaysIn h'') (up : s'.heap.UpToSlots h'') (fr : ∀ c ∈ L2.frs X.stack, ∃ o, s'.heap.get? c = some o ∧ ∀ vs, o.data ≠ .fields vs)
    (inB : ∀ c o, X.s₀.heap.get? c = some o → c ∉ X.fs → ∃ o', B.get? c = some o') (inC : ∀ x c, X.env.cells.lookup x = some c → ∃ o', B.get? c = some o') (inP : ∀ p ∈ X.pn ++ pins, ∃ o', B.get? p.1 = some o')
    (trk : ∀ a o, H' a = some o → ∃ ob, B.get? a = some ob) : Inv X pins σ H' { s' with heap := h'' } := by
  have same : ∀ c o, s'.heap.get? c = some o → (∃ o', B.get? c = some o') → h''.get? c = some o := fun c o e ⟨o', eb⟩ => by
    have := hB1 c o' eb
    rw [e] at this
    cases this
    exact hB2 c _ eb
  have fsub : ∀ c ∈ X.fs, c ∈ L2.frs X.stack := fun c hc => by rw [b.frs]; exact List.mem_cons_of_mem _ hc
  refine ⟨I'.ok, I'.os, I'.bare, ⟨fun c o q n hb hx => same c o (I'.base.keep c o q n hb hx) (inB c o q hb), fun c o q n hb hx => ?_, I'.base.free, fun c o q hx => ?_, I'.base.tups, I'.base.frzs, I'.base.tbls⟩, ?_, fun x c e => ?_, I'.free, I'.freeC, fun p hp => ?_, fun a o e => ?_, I'.len⟩
  · obtain ⟨sl, e1⟩ := I'.base.slot c o q n hb hx
    obtain ⟨o1, e2, nd⟩ := fr c (fsub c hb)
    rw [e1] at e2
    cases e2
    obtain ⟨sl', e3⟩ := up c _ e1 nd
    exact ⟨sl', e3⟩
  · by_cases hb : c ∈ X.fs
    · obtain ⟨o1, e2, nd⟩ := fr c (fsub c hb)
      obtain ⟨sl', e3⟩ := up c _ e2 nd
      exact ⟨_, e3⟩
    · obtain ⟨o', eb⟩ := inB c o q hb
      exact ⟨o', hB2 c o' eb⟩
  · obtain ⟨m, hn, hl⟩ := I'.loc
    refine ⟨m, up.ns hn, fun i x v e1 e2 e3 => ?_⟩
    obtain ⟨u, r, lk⟩ := hl i x v e1 e2 e3
    refine ⟨u, r, ?_⟩
    rcases lk with z | ⟨k, c, ec, oc, hc, hd⟩
    · exact .inl z
    · exact .inr ⟨k, c, ec, oc, same c oc hc (inC x c ec), hd⟩
  · obtain ⟨v1, o1, ho1, hd1⟩ := I'.cell x c e
    exact ⟨v1, o1, same c o1 ho1 (inC x c e), hd1⟩
  · obtain ⟨e, n, ne, nf, d⟩ := I'.pin p hp
    exact ⟨same p.1 p.2 e (inP p hp), n, ne, nf, d⟩
  · refine (I'.hok a o e).stay (fun c u hc q => same c u q ?_) (fun _ q => q) fun _ _ q => q
    rcases hc with rfl | hc
    · exact trk _ _ e
    · exact trk _ _ hc
end
/-- an exception on its way, noted or not, goes on out of the def -/
noncomputable def XOk (κ : Option Value → Prop) (X : Cx) (E : XK) : Prop := ∀ (pins : List (Addr × Obj)) (σ : St) (H' : Hp) (s' : Shared) (ea : Addr) (cls : Value) (dd : Option Addr) (cx : Option Value) (B : Heap) (fl : Value), Inv X pins σ H' s' → κ cx →
  B.StaysIn s'.heap → B.get? ea = none → s'.heap.FunFrames B X.stack → TrD s'.heap B ea cls fl dd cx → (∀ c o, X.s₀.heap.get? c = some o → c ∉ X.fs → ∃ o', B.get? c = some o') → (∀ x c, X.env.cells.lookup x = some c → ∃ o', B.get? c = some o') →
  (∀ p ∈ X.pn ++ pins, ∃ o', B.get? p.1 = some o') → (∀ a o, H' a = some o → ∃ ob, B.get? a = some ob) → E cls dd H' → X.xe (.ref ea) s'
section
variable {P : Program} {w : World} {K : PySem.W.Frag} {mg : Str → Option Value} {base : Heap} {N : List Str} {qual : Str} {scope : Scope} {f : Addr} {cd : Value} {A : Around} {outer : List Env} {s₀ : Shared} {H₀ : Hp} {E : XK}
theorem xok2 {κ : Option Value → Prop} : XOk κ (cxOf (CX2 κ P w) P w K mg base N qual scope f cd A outer s₀ H₀ E) E := by
  intro pins σ H' s' ea cls dd cx B fl I hc hst hno ff tr inB inC inP trk q
  have bd := body_cx (CX := CX2 κ P w) (P := P) (w := w) (K := K) (mg := mg) (base := base) (N := N) (qual := qual) (scope := scope) (f := f) (cd := cd) (A := A) (outer := outer) (s₀ := s₀) (H₀ := H₀) (E := E)
  refine leaves_anyD I.ok.frames rfl hst hno ff tr fun h'' fl'' up => ?_
  have J := lands3 bd I hst fl''.1 up (frames_of ff) inB inC inP trk
  exact ⟨ea, cls, dd, cx, B, H', rfl, hc, fl'', inB, trk, J.os, J.bare, J.base, J.hok, q⟩
end
/-! ### the loop of a comprehension whose element may raise -/
theorem cmp_loop2X {prog : Program} {w : World} {A : Around} {R : Result → Shared → Prop} {s : Shared} {elt iter : Expr} {tg : Expr} {ifs : List Expr} {sc : Scope} {pos : Pos} {it acc : Value} {env : Env} (J : Nat → Shared → Prop)
    (one : ∀ k st, J k st → wpAny (model prog w) A (pyNext it) (fun r s₁ => match r with
      | none => R (.ok .next) s₁
      | some v => wpAny (model prog w) A (letOwnedTupleGo tg it v) (fun _ sg => wpAny (model prog w) A (assign tg env v) (fun _ s₂ =>
          wpAny (model prog w) A (cmpTests ifs env) (fun ok s₃ =>
            if ok = true then wpAny (model prog w) A (eval elt env) (fun y s₄ => wpAny (model prog w) A (call (.builtin "list.append") [acc, y]) (fun _ s₅ => ∃ m, m < k ∧ J m s₅) (fun _ _ => False) s₄) (notedBy (model prog w) A env fun e s' => R (.error e) s') s₃
            else ∃ m, m < k ∧ J m s₃) (fun _ _ => False) s₂) (fun _ _ => False) sg) (fun _ _ => False) s₁) (fun _ _ => False) st)
    (k0 : Nat) (h0 : J k0 s) : codeAny (model prog w) A (.compLoop (.ListComp elt [⟨tg, iter, ifs, 0⟩] sc pos) 0 it acc env) R s := by
  refine codeAny_loop rfl J (fun k st hk => ?_) k0 h0
  show wpAny _ A ((compTurn (.ListComp elt [⟨tg, iter, ifs, 0⟩] sc pos) 0 it acc env).onRaise (fun y => do noteFrame y env; theTreesLotGoes y)) _ _ st
  refine wpAny_noted ?_
  rw [compTurn_list]
  refine wpAny_bind (wpAny_standAt (wpAny_bind (wpAny_mono (one k st hk) (fun r s₁ h₁ => ?_) fun _ _ z => z.elim)))
  cases r with
  | none => exact wpAny_pure h₁
  | some v =>
    refine wpAny_bind (wpAny_mono h₁ (fun _ sg hg => ?_) fun _ _ z => z.elim)
    refine wpAny_bind (wpAny_mono hg (fun _ s₂ h₂ => ?_) fun _ _ z => z.elim)
    refine wpAny_bind (wpAny_mono h₂ (fun ok s₃ h₃ => ?_) fun _ _ z => z.elim)
    cases ok with
    | false => exact wpAny_pure ⟨rfl, h₃⟩
    | true =>
      refine wpAny_bind (wpAny_bind (wpAny_mono h₃ (fun y s₄ h₄ => ?_) fun _ _ z => z))
      exact wpAny_bind (wpAny_mono h₄ (fun _ s₅ h₅ => wpAny_pure (wpAny_pure ⟨rfl, h₅⟩)) fun _ _ z => z.elim)
section
variable {X : Cx} {pins : List (Addr × Obj)} {σ : St} {H2 : Hp} {s2 : Shared} {elt iter tg : Expr} {xs : List Str} {ifs : List Expr} {sc scX : Scope} {pos : Pos} {fv : List Str} {js : List Nat} {g : TG} {tt : TT}
theorem comp_core2X {κ : Option Value → Prop} {te : XK → TE} {E : XK} (bd : Body X) (hX : XOk κ X E) (S : CompSc2 scX sc X.N xs fv js) (hsx : X.env.scope = scX) (hcalm : X.calm = true) (hgg : ∀ C s0 H0 ex, PG (xc2 X sc xs fv C s0 H0 ex) tg g)
    (ht : ∀ C s0 H0 ex, PIf (xc2 X sc xs fv C s0 H0 ex) ifs tt) (he : ∀ C s0 H0 ex, PEX (CX2 κ X.prog X.w) (xc2 X sc xs fv C s0 H0 ex) elt te)
    {it : Addr} {fp : List Addr} {tn : Nat → Heap → Prop} {J : It} (I2 : Inv X pins σ H2 s2) (T : Turn X.prog X.w X.K tg J fp it tn) (st2 : tn 0 s2.heap) (f2 : ∀ b ∈ fp, FpOk X pins H2 b)
    {Q : VK} {W : Nat → Nat → List V → Hp → Prop} (w0 : ∃ m, W 0 m [] H2)
    (step : ∀ i m ys H, W i m ys H → (J.stop i H ∧ ∀ p, H p = none → Q (.ref p) (upd H p (.lst ys))) ∨
      (J.go i H ∧ ∃ N : List V → Hp → Prop, (∀ ys' H', N ys' H' → ∃ m', m' < m ∧ W (i + 1) m' ys' H') ∧
        ∀ x H', J.yld i H x H' → tStep2 xs.length js g tt (te E) σ ys N x H'))
    {RR : Value → Addr → Result → Shared → Prop} {E' : Value → Shared → Prop}
    (fin : ∀ (D C : Addr) (s' : Shared) (H' : Hp), Inv X pins σ H' s' → Q (.ref D) H' → (∃ m, s'.heap.Ns C m) → FpOk X pins H' C → RR (.ref D) C (.ok .next) s')
    (xfin : ∀ (D C : Addr) (e : Value) (s' : Shared), (∃ m, s'.heap.Ns C m ∧ ∀ h', Heap.SameBut C s'.heap h' → ∀ cenv : Env, cenv.locals = C → wpAny (model X.prog X.w) X.A (PySem.passOn "comprehension.variables-let-go" e cenv : Sem Value) (fun _ _ => False) X.xe { s' with heap := h' }) → RR (.ref D) C (.error e) s') :
    wpAny (model X.prog X.w) X.A (newList []) (fun acc s₃ => wpAny (model X.prog X.w) X.A (newFunctionEnv sc X.env.globals (clOf X.env.cells sc.names []) [] X.env.qual none .none (some X.env)) (fun cenv s₄ =>
      codeAny (model X.prog X.w) X.A (.compStart (.ListComp elt [⟨tg, iter, ifs, 0⟩] sc pos) 0 (.ref it) acc { cenv with scope := relabel sc X.env }) (RR acc cenv.locals) s₄) E' s₃) E' s2 := by
  have hfree : ∀ y ∈ sc.names, y.2 = .free → ∃ c, X.env.cells.lookup y.1 = some c := fun y hy hf => I2.ok.has y.1 (.inl (by show X.env.scope.names.lookup y.1 = _; rw [hsx]; exact S.free y hy hf))
  obtain ⟨cl1, _, cl3⟩ := clOf_look (cells := X.env.cells) sc.names [] hfree (fun y c h => by simp at h)
  refine wpAny_newObj_type (wpAny_newFunctionEnv S.cell (by intro y hy; simp at hy) (fun h₁ hns₁ hsb₁ => ?_) S.kind)
  dsimp only at hns₁ hsb₁ ⊢
  generalize hG : s2.heap.push { cls := .type "list", dict := none, data := .seq ([] : List Value).toArray } = G at hns₁ hsb₁ ⊢
  have hGz : G.objs.size = s2.heap.objs.size + 1 := by rw [← hG, Heap.size_push]
  have upG : ∀ b o, s2.heap.get? b = some o → G.get? b = some o := fun b o e => hG ▸ Heap.get?_push_of_some _ e
  have upH : ∀ b o, G.get? b = some o → h₁.get? b = some o := fun b o e => hsb₁.extBut b o (Nat.ne_of_lt (Heap.lt_size e)) (Heap.get?_push_of_some _ e)
  have ltD : ∀ b o, s2.heap.get? b = some o → b ≠ s2.heap.objs.size := fun b o e => Nat.ne_of_lt (Heap.lt_size e)
  have fpo : ∀ b ∈ fp, ∃ o, s2.heap.get? b = some o := fun b hb => by obtain ⟨o, e, _⟩ := T.obj 0 _ st2 b hb; exact ⟨o, e⟩
  have fpD : ∀ b ∈ fp, b ≠ s2.heap.objs.size := fun b hb => by obtain ⟨o, e⟩ := fpo b hb; exact ltD b o e
  have fpC : ∀ b ∈ fp, b ≠ G.objs.size := fun b hb => by obtain ⟨o, e⟩ := fpo b hb; exact Nat.ne_of_lt (Heap.lt_size (upG b o e))
  have cellO : ∀ y c, (clOf X.env.cells sc.names []).lookup y = some c → ∃ v, s2.heap.IsCell c v := fun y c e => I2.cell y c (cl1 y c e)
  have cellD : ∀ y c, (clOf X.env.cells sc.names []).lookup y = some c → c ≠ s2.heap.objs.size := fun y c e => by obtain ⟨v, q⟩ := cellO y c e; exact Nat.ne_of_lt q.lt
  have Dfs : s2.heap.objs.size ∉ frs X.stack := fun hb => by
    rcases List.mem_cons.mp (I2.stkSub _ hb) with z | z
    · exact absurd I2.lt (by rw [← z]; exact Nat.lt_irrefl _)
    · exact I2.nofs (Nat.le_refl _) z
  have fpfs : ∀ b ∈ fp, b ∉ frs X.stack := fun b hb hz => by
    obtain ⟨_, f1, f2', _⟩ := f2 b hb
    rcases List.mem_cons.mp (I2.stkSub _ hz) with z | z
    · exact f1 z
    · exact f2' z
  have HD : H2 s2.heap.objs.size = none := I2.hok.fresh (Nat.le_refl _)
  have HC : H2 G.objs.size = none := I2.hok.fresh (by rw [hGz]; exact Nat.le_succ _)
  have DC : s2.heap.objs.size ≠ G.objs.size := by rw [hGz]; exact Nat.ne_of_lt (Nat.lt_succ_self _)
  -- the block's context is right
  have okC : Cx.Ok (xc2 X sc xs fv G.objs.size { s2 with heap := G } H2 (s2.heap.objs.size :: fp)) := by
    refine ⟨I2.ok.mod, S.kind, I2.ok.glob, I2.ok.blt, Nat.le_refl _, fun y z c h1 h2 => I2.ok.inj y z c (cl1 _ _ h1) (cl1 _ _ h2), fun y hy => ?_, fun y c hfn _ => (by cases hfn), I2.ok.hd, I2.ok.frames, .inl rfl, fun b hb => ?_, fun b o e => ?_, ?_, fun b o e hb => ?_, fun b hb => ?_, ?_, I2.stkFree⟩
    · exact Option.isSome_iff_exists.mp (cl3 y (relabel_back S.cell hy))
    · rcases List.mem_cons.mp hb with z | z
      · subst z; exact ⟨DC, cellD⟩
      · refine ⟨fpC b z, fun y c e => ?_⟩
        obtain ⟨_, _, _, _, f4, _⟩ := f2 b z
        exact f4 y c (cl1 y c e)
    · exact ⟨upG b o (I2.bs b o e).1, (I2.bs b o e).2⟩
    · show X.base.objs.size ≤ G.objs.size
      rw [hGz]; exact Nat.le_succ_of_le (Nat.le_trans I2.ok.bsz I2.sz)
    · rcases List.mem_cons.mp hb with z | z
      · exact ltD b o (I2.bk b o e) z
      · obtain ⟨_, _, _, f3, _⟩ := f2 b z
        rcases f3 with q | q
        · exact I2.ok.noex b o e q
        · exact absurd (Nat.lt_of_lt_of_le (Heap.lt_size e) (Nat.le_trans I2.ok.bsz q)) (Nat.lt_irrefl _)
    · rcases List.mem_cons.mp hb with z | z
      · subst z; exact Dfs
      · exact fpfs b z
    · exact (I2.stack).of_keeps fun b o e _ => ⟨o, upG b o e, rfl⟩
  have lenC : ∀ os : List (Option V), os.length = xs.length → (os ++ pick js σ).length = (xs ++ fv).length := fun os ho => by
    have := congrArg List.length S.at'
    simp only [List.length_map] at this
    simp [pick, this, ho]
  have hacc : h₁.get? s2.heap.objs.size = some { cls := .type "list", dict := none, data := .seq ([] : List Value).toArray } := upH _ _ (hG ▸ Heap.get?_push_size _ rfl)
  have I4 : Inv (xc2 X sc xs fv G.objs.size { s2 with heap := G } H2 (s2.heap.objs.size :: fp)) [(s2.heap.objs.size, { cls := .type "list", dict := none, data := .seq ([] : List Value).toArray })] (xs.map (fun _ => none) ++ pick js σ) H2 { s2 with heap := h₁, toks := s2.toks + ([] : List (Str × Value)).length } := by
    refine ⟨okC, rfl, I2.bare, Un.kept upH, ⟨_, hns₁, fun i y v e1 e2 e3 => ?_⟩, fun y c e => ?_, HC, fun y c e => I2.freeC y c (cl1 y c e), fun p hp => ?_, I2.hok.kept fun b u e => upH b u (upG b u e), lenC _ (by simp)⟩
    · by_cases hix : i < xs.length
      · have : (xs.map (fun _ => (none : Option V)) ++ pick js σ)[i]? = some none := by
          rw [List.getElem?_append_left (by simpa using hix), List.getElem?_map, List.getElem?_eq_getElem hix]; rfl
        rw [this] at e2
        cases e2
      · obtain ⟨i', rfl⟩ : ∃ i', i = xs.length + i' := ⟨i - xs.length, by (clear lenC DC fpfs Dfs cellD cellO fpC fpD fpo ltD upH upG hGz cl3 cl1 hfree xfin fin step f2 he ht hgg; omega)⟩
        have e1' : fv[i']? = some y := by
          have e1a : (xs ++ fv)[xs.length + i']? = some y := e1
          rw [List.getElem?_append_right (by (exact Nat.le_add_right _ _)), Nat.add_sub_cancel_left] at e1a
          exact e1a
        have e2' : (pick js σ)[i']? = some (some v) := by
          have e2a := e2
          rw [List.getElem?_append_right (by simp), List.length_map, Nat.add_sub_cancel_left] at e2a
          exact e2a
        have q := congrArg (fun l => l[i']?) S.at'
        simp only [List.getElem?_map, e1', Option.map_some] at q
        cases hj : js[i']? with
        | none => rw [hj] at q; cases q
        | some j =>
          rw [hj] at q
          have hj' : X.N[j]? = some y := Option.some.inj q
          unfold pick at e2'
          rw [List.getElem?_map, hj] at e2'
          have e2'' : (σ[j]?).getD none = some v := Option.some.inj e2'
          have e2b : σ[j]? = some (some v) := by
            cases hh : σ[j]? with
            | none => rw [hh] at e2''; cases e2''
            | some o => rw [hh] at e2''; exact congrArg some e2''
          have hm : y ∈ fv := List.mem_of_getElem? e1'
          have hcX : scX.names.lookup y = some .cell := S.free (y, .free) (PySem.mem_of_lookup (S.fr y hm)) rfl
          have kX : X.env.kindOf y = some .cell := by show X.env.scope.names.lookup y = _; rw [hsx]; exact hcX
          obtain ⟨m, hn, hl⟩ := I2.loc
          obtain ⟨u, r, lk⟩ := hl j y v hj' e2b (.inr (.inl kX))
          refine ⟨u, r, ?_⟩
          rcases lk with ⟨k, _⟩ | ⟨_, c, ec, z⟩
          · rw [kX] at k; cases k
          · refine .inr ⟨.inl (relabel_free (by rw [hsx]; exact S.kindX) (S.fr y hm) kX), c, ?_, ?_⟩
            · obtain ⟨c', ec'⟩ := Option.isSome_iff_exists.mp (cl3 y (PySem.mem_of_lookup (S.fr y hm)))
              have := cl1 y c' ec'
              rw [ec] at this; cases this
              exact ec'
            · obtain ⟨o, ho, hd⟩ := z
              exact ⟨o, upH c o (upG c o ho), hd⟩
    · obtain ⟨v, o, ho, hd⟩ := cellO y c e
      exact ⟨v, o, upH c o (upG c o ho), hd⟩
    · have hp' : p = (s2.heap.objs.size, { cls := .type "list", dict := none, data := .seq ([] : List Value).toArray }) := by simpa using hp
      subst hp'
      exact ⟨hacc, HD, DC, Dfs, fun v z => by cases z⟩
  have loop : codeAny (model X.prog X.w) X.A (.compLoop (.ListComp elt [⟨tg, iter, ifs, 0⟩] sc pos) 0 (.ref it) (.ref s2.heap.objs.size) (compEnvC sc (clOf X.env.cells sc.names []) G.objs.size X.env)) (RR (.ref s2.heap.objs.size) G.objs.size) { s2 with heap := h₁, toks := s2.toks + ([] : List (Str × Value)).length } := by
    obtain ⟨m0, w0⟩ := w0
    have fok : ∀ {H' : Hp} {o : Obj}, (∀ b ∈ fp, H' b = none) → ∀ b ∈ fp, FpOk (xc2 X sc xs fv G.objs.size { s2 with heap := G } H2 (s2.heap.objs.size :: fp)) [(s2.heap.objs.size, o)] H' b := fun {H' o} hn b hb => by
      refine ⟨hn b hb, fpC b hb, fpfs b hb, .inl (List.mem_cons_of_mem _ hb), fun y c e => ?_, fun p hp => ?_⟩
      · obtain ⟨_, _, _, _, f4, _⟩ := f2 b hb
        exact f4 y c (cl1 y c e)
      · have hp' : p = (s2.heap.objs.size, o) := by simpa using hp
        subst hp'
        exact (fpD b hb).symm
    refine cmp_loop2X (fun k st => ∃ (i : Nat) (ys : List V) (its : List Value) (n : Nat) (os : List (Option V)) (H' : Hp), os.length = xs.length ∧ Inv (xc2 X sc xs fv G.objs.size { s2 with heap := G } H2 (s2.heap.objs.size :: fp)) [(s2.heap.objs.size, { cls := .type "list", data := .seq its.toArray n })] (os ++ pick js σ) H' st ∧
      Vals ys its ∧ ys.length ≤ sizeLine ∧ tn i st.heap ∧ (∀ b ∈ fp, H' b = none) ∧ W i k ys H') ?_ m0
      ⟨0, [], [], _, xs.map (fun _ => none), H2, by simp, I4, .nil, Nat.zero_le _, T.keep _ _ _ st2 fun b _ o e => upH b o (upG b o e), fun b hb => (f2 b hb).1, w0⟩
    rintro k s3 ⟨i, ys, its, n, os, H3, hos, I3, rv, hz, st3, fr3, w3⟩
    rcases step i k ys H3 w3 with ⟨stop, q⟩ | ⟨go, N, hN, hgo⟩
    · refine thn (T.done (xc2 X sc xs fv G.objs.size { s2 with heap := G } H2 (s2.heap.objs.size :: fp)) rfl rfl rfl hcalm i _ s3 _ H3 _ I3 (fok fr3) st3 stop) fun r s4 hsl61 => ?_
      obtain ⟨hr, I4⟩ := hsl61
      subst hr
      obtain ⟨pD, pn, _, _, _⟩ := I4.pin _ (List.mem_append_right _ List.mem_cons_self)
      have B := I4.base
      have nD : ∀ b o, s2.heap.get? b = some o → b ∉ fp → b ∉ s2.heap.objs.size :: fp := fun b o e hx hm => (List.mem_cons.mp hm).elim (ltD b o e) hx
      have neH : ∀ b u, H2 b = some u → b ≠ s2.heap.objs.size := fun b u e z => by rw [z, HD] at e; cases e
      have JX : Inv X pins σ (upd H3 s2.heap.objs.size (.lst ys)) s4 := by
        refine I2.call' (ch := fp) I4.os ⟨fun b o e hn hb hx => B.keep b o (upG b o e) hn hb (nD b o e hx), fun b o e hn hb hx => B.slot b o (upG b o e) hn hb (nD b o e hx), fun b o e hn hx => ?_, fun b o e hx => B.there b o (upG b o e) (nD b o e hx), fun b xs e => ?_, fun b o u e => ?_, fun b ps e => ?_⟩ (fun b u e => ?_) I4.bare fun b hb => ?_
        · rw [upd_ne (ltD b o e)]; exact B.free b o (upG b o e) hn (nD b o e hx)
        · rw [upd_ne (neH b _ e)]; exact B.tups b xs e
        · rw [upd_ne (neH b _ e)]; exact B.frzs b o u e
        · rw [upd_ne (neH b _ e)]; exact B.tbls b ps e
        · by_cases hb : b = s2.heap.objs.size
          · subst hb
            rw [upd_same] at e; cases e
            exact ⟨hz, its, n, rv, pD⟩
          · rw [upd_ne hb] at e
            exact (I4.hok b u e).stay (fun _ _ _ z => z) (fun c z => by rw [upd_ne (ne_of_none z pn)]; exact z) fun c xs z => by rw [upd_ne (ne_of_none z pn)]; exact z
        · obtain ⟨_, f1, _, f3, f4, f5⟩ := f2 b hb
          exact ⟨f3, f1, f4, f5⟩
      refine fin _ _ s4 _ JX (q _ pn) (by obtain ⟨m, hm, _⟩ := I4.loc; exact ⟨m, hm⟩) (I2.fpOk (by rw [hGz]; exact Nat.le_succ _) ?_)
      rw [upd_ne DC.symm]; exact I4.free
    · refine thn (T.item (xc2 X sc xs fv G.objs.size { s2 with heap := G } H2 (s2.heap.objs.size :: fp)) rfl rfl rfl hcalm i _ s3 _ H3 _ I3 (fok fr3) st3 go) fun r s4 hsl62 => ?_
      obtain ⟨u, hr, h4⟩ := hsl62
      subst hr
      refine thn h4 fun _ s5 hsl63 => ?_
      obtain ⟨y, H5, I5, r5, y5, st5, fr5⟩ := hsl63
      have I5' := I5.pinned (fok fr5) (T.obj _ _ st5)
      refine thn (hgg _ _ _ _ _ s5 _ H5 y u _ I5' r5 (hgo y _ y5 os hos)) fun _ s6 hsl64 => ?_
      obtain ⟨σ6, H6, I6, ⟨os', hos', eσ⟩, q6⟩ := hsl64
      subst eσ
      refine thn (ht _ _ _ _ _ s6 _ _ _ I6 q6) fun b s7 hsl65 => ?_
      obtain ⟨H7, I7, q7⟩ := hsl65
      cases b with
      | false =>
        rw [if_neg Bool.false_ne_true] at q7 ⊢
        obtain ⟨m', hm, w7⟩ := hN ys H7 q7
        exact ⟨m', hm, i + 1, ys, its, n, os', H7, hos', I7.unpinned, rv, hz, T.keep _ _ _ st5 fun b hb o e => (I7.pin (b, o) (List.mem_append_right _ (List.mem_append_right _ (mem_pinsAt hb e)))).1, fun b hb => by
          obtain ⟨o, e, d⟩ := T.obj _ _ st5 b hb
          exact (I7.pin (b, o) (List.mem_append_right _ (List.mem_append_right _ (mem_pinsAt hb e)))).2.1, w7⟩
      | true =>
        rw [if_pos rfl] at q7 ⊢
        refine wpAny_mono (he _ _ _ _ E _ _ s7 _ H7 _ (fun Ha sa ev s' Ia hc => ?_) I7 q7) (fun u8 s8 ⟨y8, H8, I8, r8, hl8, q8⟩ => ?_) fun _ _ z => z
        · obtain ⟨ea, cls, dd, cx, B, H', rfl, hκ, fl, pres, trk, os, bare, un, hok, q⟩ := hc
          have Bb := Ia.base
          have nD : ∀ b o, s2.heap.get? b = some o → b ∉ fp → b ∉ s2.heap.objs.size :: fp := fun b o e hx hm => (List.mem_cons.mp hm).elim (ltD b o e) hx
          have JX : Inv X pins σ Ha sa := by
            refine I2.call' (ch := fp) Ia.os ⟨fun b o e hn hb hx => Bb.keep b o (upG b o e) hn hb (nD b o e hx), fun b o e hn hb hx => Bb.slot b o (upG b o e) hn hb (nD b o e hx), fun b o e hn hx => Bb.free b o (upG b o e) hn (nD b o e hx), fun b o e hx => Bb.there b o (upG b o e) (nD b o e hx), Bb.tups, Bb.frzs, Bb.tbls⟩ Ia.hok Ia.bare fun b hb => ?_
            obtain ⟨_, f1, _, f3, f4, f5⟩ := f2 b hb
            exact ⟨f3, f1, f4, f5⟩
          have J8 : Inv X pins σ H' s' := JX.call' os un hok bare fun c hc => absurd hc (by simp)
          have Ic := Ia.call' os un hok bare fun c hc => absurd hc (by simp)
          have Cfs : G.objs.size ∉ L2.frs X.stack := fun hb => by
            rcases List.mem_cons.mp (I2.stkSub _ hb) with z | z
            · exact absurd I2.lt (by rw [← z, hGz]; exact Nat.not_lt.mpr (Nat.le_succ _))
            · exact I2.nofs (by rw [hGz]; exact Nat.le_succ _) z
          have CB : ∃ o', B.get? G.objs.size = some o' := by
            obtain ⟨m, ⟨o, _, _, eo, _⟩, _⟩ := Ia.loc
            exact pres _ o eo Cfs
          have inB : ∀ c o, X.s₀.heap.get? c = some o → c ∉ X.fs → ∃ o', B.get? c = some o' := fun c o e hc => by
            obtain ⟨o1, e1⟩ := JX.base.there c o e (by rw [bd.ex]; simp)
            exact pres c o1 e1 (bd.old JX e hc)
          have inC : ∀ x c, X.env.cells.lookup x = some c → ∃ o', B.get? c = some o' := fun x c e => by
            obtain ⟨_, o0, ho0, _⟩ := JX.cell x c e
            exact pres c o0 ho0 (bd.cell JX e)
          have inP : ∀ p ∈ X.pn ++ pins, ∃ o', B.get? p.1 = some o' := fun p hp => by
            obtain ⟨e0, _, ne, nf, _⟩ := JX.pin p hp
            refine pres p.1 p.2 e0 ?_
            rw [bd.frs]
            intro hm
            rcases List.mem_cons.mp hm with z | z
            · exact ne z
            · exact nf z
          have fr : X.A.frames = some (X.env :: X.outer) := by rw [← bd.stk]; exact I2.ok.frames
          have fl0 : FlyD B (X.env :: X.outer) ea cls dd cx s'.heap := by rw [← bd.stk]; exact fl
          show wpAny _ _ (noteFrame (.ref ea) (compEnvC sc (clOf X.env.cells sc.names []) G.objs.size X.env)) _ _ s'
          rw [noteFrame_frame (env := compEnvC sc (clOf X.env.cells sc.names []) G.objs.size X.env) (env' := X.env) rfl]
          refine note_on fr bd.frm fl0 fun h1 held up1 => ?_
          have J9 := lands3 bd J8 fl.1 held.1 up1 (frames_of fl.2.2.1) inB inC inP trk
          refine xfin _ _ _ _ ?_
          obtain ⟨m, hm, _⟩ := Ic.loc
          refine ⟨m, up1.ns hm, fun h' sb cenv _ => ?_⟩
          have HC' : H' G.objs.size = none := Ic.free
          obtain ⟨f0, f1, _, f3, f4, f5⟩ := I2.fpOk (H' := H') (b := G.objs.size) (by rw [hGz]; exact Nat.le_succ _) HC'
          have J10 := J9.turned (it := G.objs.size) (h' := h') (t' := s'.toks) (fun b o hb e => (sb.2 b hb).trans e) f0 f1 f3 f4 f5
          obtain ⟨oC, hoC⟩ := CB
          have toB : ∀ b o, b ≠ G.objs.size → B.get? b = some o → (PySem.W.hideAll B [G.objs.size]).get? b = some o := fun b o hb e => PySem.W.hideAll_get _ e (by simpa using hb)
          have ofB : ∀ b o, (PySem.W.hideAll B [G.objs.size]).get? b = some o → b ≠ G.objs.size ∧ B.get? b = some o := fun b o e => ⟨fun z => (by rw [z, PySem.W.hideAll_none _ List.mem_cons_self] at e; cases e), PySem.W.of_hideAll _ e⟩
          have noB : ∀ b, B.get? b = none → (PySem.W.hideAll B [G.objs.size]).get? b = none := fun b hb => by
            cases z : (PySem.W.hideAll B [G.objs.size]).get? b with
            | none => rfl
            | some o => have := (ofB b o z).2; rw [hb] at this; cases this
          have neB : ∀ b, B.get? b = none → b ≠ G.objs.size := fun b hb z => by rw [z, hoC] at hb; cases hb
          have st' : (PySem.W.hideAll B [G.objs.size]).StaysIn h' := fun b o e => (sb.2 b (ofB b o e).1).trans (held.1 b o (ofB b o e).2)
          have ff' : h'.FunFrames (PySem.W.hideAll B [G.objs.size]) X.stack := ff_but (fun b hb => sb.2 b hb) noB (by rw [bd.stk]; exact held.2.2.1) Cfs
          have tr' : TrD h' (PySem.W.hideAll B [G.objs.size]) ea cls (rawInt X.env.locals) dd cx := by
            obtain ⟨oe, vs, T, oT, ts, he, hcls, hd, h1', hnT, hTe, hT, hdT, h3⟩ := held.2.2.2
            exact ⟨oe, vs, T, oT, ts, (sb.2 _ (neB _ held.2.1)).trans he, hcls, hd, h1', noB _ hnT, hTe, (sb.2 _ (neB _ hnT)).trans hT, hdT, h3⟩
          have inB' : ∀ c o, X.s₀.heap.get? c = some o → c ∉ X.fs → ∃ o', (PySem.W.hideAll B [G.objs.size]).get? c = some o' := fun c o e hc => by
            obtain ⟨o', e'⟩ := inB c o e hc
            obtain ⟨o2, e2⟩ := I2.base.there c o e (by rw [bd.ex]; simp)
            exact ⟨o', toB c o' (by have := Heap.lt_size e2; rw [hGz]; exact Nat.ne_of_lt (Nat.lt_succ_of_lt this)) e'⟩
          have inC' : ∀ x c, X.env.cells.lookup x = some c → ∃ o', (PySem.W.hideAll B [G.objs.size]).get? c = some o' := fun x c e => by
            obtain ⟨o', e'⟩ := inC x c e
            exact ⟨o', toB c o' (f4 x c e) e'⟩
          have inP' : ∀ p ∈ X.pn ++ pins, ∃ o', (PySem.W.hideAll B [G.objs.size]).get? p.1 = some o' := fun p hp => by
            obtain ⟨o', e'⟩ := inP p hp
            exact ⟨o', toB p.1 o' (f5 p hp) e'⟩
          have trk' : ∀ a o, H' a = some o → ∃ ob, (PySem.W.hideAll B [G.objs.size]).get? a = some ob := fun a o e => by
            obtain ⟨o', e'⟩ := trk a o e
            exact ⟨o', toB a o' (fun z => by rw [z, HC'] at e; cases e) e'⟩
          have trx := tr'
          obtain ⟨oe, vs, T, oT, ts, he, hcls, hd, h1', hnT, hTe, hT, hdT, h3⟩ := trx
          unfold PySem.passOn
          refine wpAny_bind (wpAny_field he hd h1' ?_)
          rw [if_neg (show ¬ ((Value.ref T == Value.none) = true) from by simp)]
          refine wpAny_bind (set_flightD (s := { s' with heap := h' }) st' (noB _ held.2.1) ff' tr' fun h3 st3 ff3 tr3 up3 => wpAny_throw ?_)
          have J11 := lands3 bd J10 st' st3 up3 (frames_of ff') inB' inC' inP' trk'
          exact hX pins σ H' _ ea cls dd cx _ _ J11 hκ st3 (noB _ held.2.1) ff3 tr3 inB' inC' inP' trk' q
        obtain ⟨m', hm, w8⟩ := hN _ H8 q8
        obtain ⟨pD, pn, pC, pf, _⟩ := I8.pin _ (List.mem_append_right _ (List.mem_append_left _ List.mem_cons_self))
        refine wpAny_list_append_plain (items := its.toArray) ⟨n, pD⟩ (fun h9 hl9 sb9 => ?_) (by rw [List.size_toArray, ← rv.length]; exact Nat.le_of_lt hl8)
        have pinF : ∀ p ∈ pinsAt fp s5.heap, p ∈ [(s2.heap.objs.size, ({ cls := .type "list", data := .seq its.toArray n } : Obj))] ++ pinsAt fp s5.heap := fun p hp => List.mem_append_right _ hp
        have I8a := I8.pins_of (pins' := pinsAt fp s5.heap) fun p hp => I8.pin p (List.mem_append_right _ (pinF p hp))
        have I9 := I8a.turned (it := s2.heap.objs.size) (h' := h9) (t' := s8.toks) (fun b o hb e => (sb9.2 b hb).trans e) pn DC (.inl List.mem_cons_self) (fun y c e => cellD y c e) fun p hp => fpD p.1 (of_pinsAt (by simpa using hp)).1
        obtain ⟨n9, e9⟩ := hl9
        have e9' : h9.get? s2.heap.objs.size = some { cls := .type "list", data := .seq (its ++ [u8]).toArray n9 } := by
          rw [e9, show (its ++ [u8]).toArray = its.toArray.push u8 by simp]
        refine ⟨m', hm, i + 1, ys ++ [y8], its ++ [u8], n9, os', H8, hos', I9.pins_of fun p hp => ?_, rv.append (.cons r8 .nil), by rw [List.length_append]; exact hl8, T.keep _ _ _ st5 fun b hb o e => (I9.pin (b, o) (List.mem_append_right _ (mem_pinsAt hb e))).1, fun b hb => ?_, w8⟩
        · have hp' : p = (s2.heap.objs.size, { cls := .type "list", data := .seq (its ++ [u8]).toArray n9 }) := by simpa using hp
          subst hp'
          exact ⟨e9', pn, DC, pf, fun v z => by cases z⟩
        · obtain ⟨o, e, d⟩ := T.obj _ _ st5 b hb
          exact (I9.pin (b, o) (List.mem_append_right _ (mem_pinsAt hb e))).2.1
  exact codeAny_compStart_list loop (T.self _ 0 _ _ _ (T.keep _ _ _ st2 fun b _ o e => upH b o (upG b o e)) loop)

theorem pe_comp2X {κ : Option Value → Prop} {te : XK → TE} {E : XK} {wi : TI} (bd : Body X) (hX : XOk κ X E) (scX : Scope) (NX fv : List Str) (js : List Nat) (hNX : X.N = NX) (S : CompSc2 scX sc NX xs fv js) (hsx : X.env.scope = scX) (hcalm : X.calm = true) (hi : PI X tg iter wi) (hgg : ∀ C s0 H0 ex, PG (xc2 X sc xs fv C s0 H0 ex) tg g)
    (ht : ∀ C s0 H0 ex, PIf (xc2 X sc xs fv C s0 H0 ex) ifs tt) (he : ∀ C s0 H0 ex, PEX (CX2 κ X.prog X.w) (xc2 X sc xs fv C s0 H0 ex) elt te)
    (hs : ∀ v, foldedSetIterable iter X.env v = pure v := by intro _; rfl) : PE X (.ListComp elt [⟨tg, iter, ifs, 0⟩] sc pos) (tComp2 wi xs.length js g tt (te E)) := by
  intro pins s σ H Q I h
  rw [← hNX] at S
  have hfree : ∀ y ∈ sc.names, y.2 = .free → ∃ c, X.env.cells.lookup y.1 = some c := fun y hy hf => I.ok.has y.1 (.inl (by show X.env.scope.names.lookup y.1 = _; rw [hsx]; exact S.free y hy hf))
  rw [eval_ListComp]
  refine wpAny_comprehension_free (use := none) rfl hs (closure_eq hfree) S.kind S.names (thn (hi pins s σ H _ I h) fun v s1 h1 => thn h1 fun itv s2 h2 => ?_)
  obtain ⟨it, fp, tn, J, H2, e, I2, T, st2, f2, W, w0, step⟩ := h2
  subst e
  refine comp_core2X (E' := X.xe) bd hX (RR := fun acc C => compPost (model X.prog X.w) X.A X.xe none (EP X pins σ Q) acc C) S hsx hcalm hgg ht he I2 T st2 f2 w0 step (fun D C s' H' I' q hsl66 hC => ?_) fun D C e s' h => h
  obtain ⟨m, hm⟩ := hsl66
  obtain ⟨f0, f1, _, f3, f4, f5⟩ := hC
  exact ⟨m, hm, fun h' sb => ⟨.ref D, H', I'.turned (t' := s'.toks) (fun b o hb e => (sb.2 b hb).trans e) f0 f1 f3 f4 f5, rfl, q⟩⟩

end
end L2

set_option Elab.async false
set_option linter.all false
set_option maxRecDepth 100000
set_option maxHeartbeats 4000000
namespace L2
open PySem PySem.Spec PyProof.Rows
/-- a promise of a def that raises nothing, or one of it that may -/
theorem FnOk.or0 {P : Program} {w : World} {K : PySem.W.Frag} {mg : Str → Option Value} {base : Heap} {CX : CXT} {k : Nat} {f : Addr} {fd : FuncData} {ps : List Str} {sp sp' : Sp} (F0 : FnOk P w K mg base CX0 k f fd ps sp) (F1 : FnOk P w K mg base CX k f fd ps sp') :
    FnOk P w K mg base CX k f fd ps (fun vs H Q E => sp vs H Q E ∨ sp' vs H Q E) := by
  refine ⟨fun vs H Q E h => h.elim (F0.len vs H Q E) (F1.len vs H Q E), fun A outer s H args us vs Q E hr e0 hb r h => ?_⟩
  rcases h with h | h
  · refine codeAny_mono (F0.run A outer s H args us vs Q E hr e0 hb r h) fun r s' hq => ?_
    cases r with
    | error e => exact hq.elim
    | ok fl => cases fl <;> exact hq
  · exact F1.run A outer s H args us vs Q E hr e0 hb r h
section
variable {X : Cx}
end
theorem pe_xfldK {X : Cx} {K : PySem.W.Frag} {e : Expr} {f : Str} {pos : Pos} {ta : TE} (hK : X.K = K) (he : PE X e ta) (hb : attributeBase e f X.env (eval e X.env) = eval e X.env) : PE X (.Attribute e f pos) (tXfld K ta f) := by
  subst hK
  exact pe_xfld he hb
/-- an exception with the field at -/
noncomputable def ErrAt (E : XK) (C : Addr) (x : V) (H : Hp) : Prop := ∀ dx H', Same H H' → H' dx = some (xdO dx [("at", x)]) → E (.ref C) (some dx) H'
theorem ErrAt.same {E : XK} {C : Addr} {x : V} {H H1 : Hp} (h : ErrAt E C x H) (s : Same H H1) : ErrAt E C x H1 := fun dx H' s' e => h dx H' (s.trans s') e
end L2

set_option Elab.async false
set_option linter.all false
set_option maxRecDepth 100000
set_option maxHeartbeats 4000000
namespace L2
open PySem PySem.Spec PyProof.Rows
/-! ### values as data, for == of lists and tuples -/
mutual
inductive Rdv (K : PySem.W.Frag) (H : Hp) : V → PyData → Prop
  | non : Rdv K H .non .none
  | bl (b : Bool) : Rdv K H (.bl b) (.bool b)
  | int (i : Int) : Rdv K H (.int i) (.int i)
  | str (x : Str) : Rdv K H (.str x) (.str x)
  | lst {a : Addr} {xs : List V} {ds : List PyData} : SqL K H a xs → RdvA K H xs ds → Rdv K H (.ref a) (.list ds)
  | tup {a : Addr} {xs : List V} {ds : List PyData} : SqT K H a xs → RdvA K H xs ds → Rdv K H (.ref a) (.tuple ds)
inductive RdvA (K : PySem.W.Frag) (H : Hp) : List V → List PyData → Prop
  | nil : RdvA K H [] []
  | cons {x : V} {d : PyData} {xs : List V} {ds : List PyData} : Rdv K H x d → RdvA K H xs ds → RdvA K H (x :: xs) (d :: ds)
end
section
variable {X : Cx} {pins : List (Addr × Obj)} {σ : St} {H : Hp} {s : Shared}
mutual
theorem Rdv.reads (I : Inv X pins σ H s) : ∀ {x : V} {d : PyData} {u : Value}, Rdv X.K H x d → RelV x u → ∃ as, Reads s.heap u d as
  | _, _, _, .non, r => by cases r; exact ⟨_, .none⟩
  | _, _, _, .bl b, r => by cases r; exact ⟨_, .bool b⟩
  | _, _, _, .int i, r => by obtain ⟨t, rfl⟩ := r; exact ⟨_, .int i t⟩
  | _, _, _, .str x, r => by obtain ⟨t, rfl⟩ := r; exact ⟨_, .str x t⟩
  | _, _, _, .lst hq ha, r => by
    cases r
    obtain ⟨its, rv, p, _⟩ := I.list hq
    obtain ⟨as, ra⟩ := RdvA.reads I ha rv
    obtain ⟨o, ho, hc, n, hd⟩ := p.isList
    exact ⟨_, .list ho hc hd (by simpa using ra)⟩
  | _, _, _, .tup hq ha, r => by
    cases r
    obtain ⟨its, rv, p, _⟩ := I.tuple hq
    obtain ⟨as, ra⟩ := RdvA.reads I ha rv
    obtain ⟨o, ho, hc, n, hd⟩ := p
    exact ⟨_, .tuple ho hc hd (by simpa using ra)⟩
theorem RdvA.reads (I : Inv X pins σ H s) : ∀ {xs : List V} {ds : List PyData} {us : List Value}, RdvA X.K H xs ds → Vals xs us → ∃ as, ReadsAll s.heap us ds as
  | _, _, _, .nil, r => by cases r; exact ⟨_, .nil⟩
  | _, _, _, .cons h t, r => by
    cases r with
    | cons r1 r2 =>
      obtain ⟨as, ra⟩ := Rdv.reads I h r1
      obtain ⟨bs, rb⟩ := RdvA.reads I t r2
      exact ⟨_, .cons ra rb⟩
end
end
section
variable {X : Cx}
theorem op_eqD {K : PySem.W.Frag} (hK : X.K = K) (hu : X.A.units + 64 < cLine) : OpR X (compareOp .Eq) (fun x y H Q => ∃ d e, Rdv K H x d ∧ Rdv K H y e ∧ SeqAt.shaped d = true ∧ SeqAt.shaped e = true ∧ Q (.bl (PyData.eqv d e)) H) := by
  intro pins s σ H x y v u Q I rx ry h
  subst hK
  obtain ⟨d, e, h1, h2, s1, s2, q⟩ := h
  obtain ⟨as, ra⟩ := h1.reads I rx
  obtain ⟨bs, rb⟩ := h2.reads I ry
  exact eq_dataH ra rb s1 s2 hu ⟨.bl _, H, I, rfl, q⟩
theorem op_neD {K : PySem.W.Frag} (hK : X.K = K) (hu : X.A.units + 64 < cLine) : OpR X (compareOp .NotEq) (fun x y H Q => ∃ d e, Rdv K H x d ∧ Rdv K H y e ∧ SeqAt.shaped d = true ∧ SeqAt.shaped e = true ∧ Q (.bl (!PyData.eqv d e)) H) := by
  intro pins s σ H x y v u Q I rx ry h
  subst hK
  obtain ⟨d, e, h1, h2, s1, s2, q⟩ := h
  obtain ⟨as, ra⟩ := h1.reads I rx
  obtain ⟨bs, rb⟩ := h2.reads I ry
  exact ne_dataH ra rb s1 s2 hu ⟨.bl _, H, I, rfl, q⟩
end
section
variable {X : Cx}
end
/-! shapes -/
noncomputable def Shd (n : Nat) (d : PyData) : Prop := d.canLay0 = true ∧ d.depth ≤ n
theorem Shd.int (i : Int) : Shd 0 (.int i) := ⟨rfl, Nat.le_refl _⟩
theorem Shd.bl (i : Bool) : Shd 0 (.bool i) := ⟨rfl, Nat.le_refl _⟩
theorem Shd.str {z : Str} (h : ∀ c ∈ z.cps.toList, c < 128) : Shd 0 (.str z) := ⟨by
  show PyData.strOk z = true
  unfold PyData.strOk
  rw [Array.all_eq_true]
  intro i hi
  have := h z.cps[i] (by simp)
  simp only [decide_eq_true_eq]
  (exact Nat.le_trans (by assumption) (by decide)), Nat.le_refl _⟩
theorem shd_all {n : Nat} : ∀ {ds : List PyData}, (∀ d ∈ ds, Shd n d) → PyData.canLayAll0 ds = true ∧ PyData.depthAll ds ≤ n
  | [], _ => ⟨rfl, Nat.zero_le _⟩
  | d :: r, h => by
    obtain ⟨a, b⟩ := h d List.mem_cons_self
    obtain ⟨c, e⟩ := shd_all (ds := r) fun x hx => h x (List.mem_cons_of_mem _ hx)
    exact ⟨by simp only [PyData.canLayAll0]; rw [a, c]; rfl, by simp only [PyData.depthAll]; omega⟩
theorem Shd.list {n : Nat} {ds : List PyData} (h : ∀ d ∈ ds, Shd n d) : Shd (n + 1) (.list ds) := ⟨by simp only [PyData.canLay0]; exact (shd_all h).1, by simp only [PyData.depth]; have := (shd_all h).2; (exact Nat.lt_succ_of_le (by assumption))⟩
theorem Shd.tuple {n : Nat} {ds : List PyData} (h : ∀ d ∈ ds, Shd n d) : Shd (n + 1) (.tuple ds) := ⟨by simp only [PyData.canLay0]; exact (shd_all h).1, by simp only [PyData.depth]; have := (shd_all h).2; (exact Nat.lt_succ_of_le (by assumption))⟩
theorem Shd.ok {n : Nat} {d : PyData} (h : Shd n d) (hn : n ≤ 64) : SeqAt.shaped d = true := by
  show (d.canLay0 && decide (d.depth ≤ 64)) = true
  rw [h.1, decide_eq_true (Nat.le_trans h.2 hn)]; rfl
theorem Shd.refl {n : Nat} {d : PyData} (h : Shd n d) : PyData.eqv d d = true := SeqAt.eqv_refl d h.1
theorem RdvA.map {α : Type} {K : PySem.W.Frag} {H : Hp} {f : α → V} {g : α → PyData} : ∀ {l : List α}, (∀ x ∈ l, Rdv K H (f x) (g x)) → RdvA K H (l.map f) (l.map g)
  | [], _ => .nil
  | x :: r, h => .cons (h x List.mem_cons_self) (RdvA.map fun y hy => h y (List.mem_cons_of_mem _ hy))
theorem Rdv.strs {K : PySem.W.Frag} {H : Hp} {a : Addr} {zs : List Str} (h : SqL K H a (zs.map V.str)) : Rdv K H (.ref a) (.list (zs.map PyData.str)) := .lst h (RdvA.map fun x _ => .str x)
end L2

set_option linter.all false
namespace Mm
/-! wishes, and how they are read from behind -/
inductive W where
  | c0 | c1 | sw (k : Nat) | no (a : W) | an (a b : W) | orr (a b : W) | xo (a b : W) | ch (k : Nat) (a b : W)
noncomputable def W.signs : W → List Nat
  | .c0 => [48]
  | .c1 => [49]
  | .sw k => [97 + k]
  | .no a => 33 :: a.signs
  | .an a b => 38 :: (a.signs ++ b.signs)
  | .orr a b => 124 :: (a.signs ++ b.signs)
  | .xo a b => 94 :: (a.signs ++ b.signs)
  | .ch k a b => 63 :: (97 + k) :: (a.signs ++ b.signs)
noncomputable def W.ok (n : Nat) : W → Prop
  | .c0 => True
  | .c1 => True
  | .sw k => k < n
  | .no a => a.ok n
  | .an a b => a.ok n ∧ b.ok n
  | .orr a b => a.ok n ∧ b.ok n
  | .xo a b => a.ok n ∧ b.ok n
  | .ch k a b => k < n ∧ a.ok n ∧ b.ok n
/-! the program's way: a sign, what it needs, what it makes -/
noncomputable def needs (c : Nat) : Nat := if c = 33 then 1 else if c = 38 then 2 else if c = 124 then 2 else if c = 94 then 2 else if c = 63 then 3 else 0
noncomputable def isL (c : Nat) : Bool := decide (97 ≤ c) && decide (c < 107)
noncomputable def putR (full c : Nat) (ps : List Nat) : Nat :=
  if c = 33 then full ^^^ ps.getD 0 0 else if c = 38 then ps.getD 0 0 &&& ps.getD 1 0 else if c = 124 then ps.getD 0 0 ||| ps.getD 1 0
  else if c = 94 then ps.getD 0 0 ^^^ ps.getD 1 0 else (ps.getD 0 0 &&& ps.getD 1 0) ||| ((full ^^^ ps.getD 0 0) &&& ps.getD 2 0)
noncomputable def valR (sws : List Nat) (full c : Nat) : Option Nat := if c = 48 then some 0 else if c = 49 then some full else if isL c = true then sws[c - 97]? else none
noncomputable def hdL : List Nat → Bool
  | [] => true
  | c :: _ => isL c
noncomputable def stepR (sws : List Nat) (full c : Nat) (rest : List Nat) (st : List Nat) : Option (List Nat) :=
  if st.length < needs c then none else if c = 63 ∧ hdL rest = false then none
  else if 0 < needs c then some (putR full c (st.take (needs c)) :: st.drop (needs c)) else (valR sws full c).map (· :: st)
noncomputable def runR (sws : List Nat) (full : Nat) : List Nat → Option (List Nat)
  | [] => some []
  | c :: rest => (runR sws full rest).bind fun st => stepR sws full c rest st
noncomputable def W.val (sws : List Nat) (full : Nat) : W → Nat
  | .c0 => 0
  | .c1 => full
  | .sw k => sws.getD k 0
  | .no a => full ^^^ a.val sws full
  | .an a b => a.val sws full &&& b.val sws full
  | .orr a b => a.val sws full ||| b.val sws full
  | .xo a b => a.val sws full ^^^ b.val sws full
  | .ch k a b => (sws.getD k 0 &&& a.val sws full) ||| ((full ^^^ sws.getD k 0) &&& b.val sws full)
theorem isL_of {k : Nat} (h : k < 10) : isL (97 + k) = true := by simp [isL]; omega
theorem run_letter {sws : List Nat} {full k : Nat} {rest st : List Nat} (hk : k < sws.length) (h10 : k < 10) (h : runR sws full rest = some st) : runR sws full ((97 + k) :: rest) = some (sws.getD k 0 :: st) := by
  have n0 : needs (97 + k) = 0 := by unfold needs; rw [if_neg (by (clear h10 hk; omega)), if_neg (by (clear h10 hk; omega)), if_neg (by (clear hk; omega)), if_neg (by (clear h10 hk; omega)), if_neg (by (clear h10 hk; omega))]
  have hv : valR sws full (97 + k) = some (sws.getD k 0) := by
    unfold valR
    rw [if_neg (by (clear n0 h10 hk; omega)), if_neg (by (clear n0 h10 hk; omega)), if_pos (isL_of h10), show 97 + k - 97 = k by (simp; done)]
    simp [List.getD_eq_getElem?_getD, List.getElem?_eq_getElem hk]
  simp only [runR, h, Option.bind_some]
  unfold stepR
  rw [n0, if_neg (by (simp; done)), if_neg (by (clear n0 h10 hk; omega)), if_neg (by (simp; done)), hv]
  rfl
theorem run_signs {sws : List Nat} {full n : Nat} (hn : n ≤ sws.length) (h10 : n ≤ 10) : ∀ (w : W) (rest st : List Nat), w.ok n → runR sws full rest = some st → runR sws full (w.signs ++ rest) = some (w.val sws full :: st) := by
  intro w
  induction w with
  | c0 => intro rest st _ h; simp [W.signs, W.val, runR, h, stepR, needs, valR]
  | c1 => intro rest st _ h; simp [W.signs, W.val, runR, h, stepR, needs, valR]
  | sw k => intro rest st hk h; exact run_letter (Nat.lt_of_lt_of_le hk hn) (Nat.lt_of_lt_of_le hk h10) h
  | no a ih =>
    intro rest st hk h
    have e := ih rest st hk h
    simp [W.signs, W.val, runR, e, stepR, needs, putR]
  | an a b iha ihb =>
    intro rest st hk h
    have e := iha _ _ hk.1 (ihb rest st hk.2 h)
    simp [W.signs, W.val, runR, e, stepR, needs, putR, List.append_assoc]
  | orr a b iha ihb =>
    intro rest st hk h
    have e := iha _ _ hk.1 (ihb rest st hk.2 h)
    simp [W.signs, W.val, runR, e, stepR, needs, putR, List.append_assoc]
  | xo a b iha ihb =>
    intro rest st hk h
    have e := iha _ _ hk.1 (ihb rest st hk.2 h)
    simp [W.signs, W.val, runR, e, stepR, needs, putR, List.append_assoc]
  | ch k a b iha ihb =>
    intro rest st hk h
    have e := iha _ _ hk.2.1 (ihb rest st hk.2.2 h)
    have e2 := run_letter (sws := sws) (full := full) (Nat.lt_of_lt_of_le hk.1 hn) (Nat.lt_of_lt_of_le hk.1 h10) e
    have hl : isL (97 + k) = true := isL_of (Nat.lt_of_lt_of_le hk.1 h10)
    have e3 : (W.ch k a b).signs ++ rest = 63 :: ((97 + k) :: (a.signs ++ (b.signs ++ rest))) := by simp [W.signs, List.append_assoc]
    rw [e3]
    simp only [runR] at e2 ⊢
    rw [e2, Option.bind_some]
    simp [stepR, needs, hdL, hl, putR, W.val]
theorem run_wish {sws : List Nat} {full n : Nat} {w : W} (hn : n ≤ sws.length) (h10 : n ≤ 10) (h : w.ok n) : runR sws full w.signs = some [w.val sws full] := by
  have := run_signs (full := full) hn h10 w [] [] h rfl
  simpa using this
theorem run_rest {sws : List Nat} {full c : Nat} {rest st : List Nat} (h : runR sws full (c :: rest) = some st) : ∃ st', runR sws full rest = some st' ∧ stepR sws full c rest st' = some st := by
  simp only [runR] at h
  cases e : runR sws full rest with
  | none => rw [e] at h; cases h
  | some st' => rw [e] at h; exact ⟨st', rfl, h⟩
theorem run_drop {sws : List Nat} {full : Nat} : ∀ (i : Nat) {l st : List Nat}, runR sws full l = some st → ∃ st', runR sws full (l.drop i) = some st'
  | 0, _, st, h => ⟨st, h⟩
  | i + 1, [], st, h => ⟨[], rfl⟩
  | i + 1, c :: l, st, h => by
    obtain ⟨st', h', _⟩ := run_rest h
    exact run_drop i h'
/-! where it holds -/
/-! the values stay small on the way, too -/
/-! the law's way: from behind, a chooser at once -/
/-! a text with open parts: whatever wishes follow, it is a wish -/
end Mm

set_option Elab.async false
set_option linter.all false
set_option maxRecDepth 100000
namespace Mm
open PySem L2 PyProof.Rows
theorem str_ext {a b : Str} (h : a.cps.toList = b.cps.toList) : a = b := by
  cases a; cases b
  congr 1
  exact Array.toList_inj.mp h
theorem str_len (z : Str) : z.length = z.cps.toList.length := by simp [Str.length]
theorem str_app (a b : Str) : (a ++ b).cps.toList = a.cps.toList ++ b.cps.toList := Array.toList_append ..
/-! joined lists of signs -/
noncomputable def jl (c : Nat) : List (List Nat) → List Nat
  | [] => []
  | [a] => a
  | a :: b :: r => a ++ c :: jl c (b :: r)
theorem join_list (c : Nat) : ∀ zs : List Str, (Str.join ⟨#[c]⟩ zs).cps.toList = jl c (zs.map (·.cps.toList))
  | [] => rfl
  | [a] => rfl
  | a :: b :: r => by
    show (a ++ ⟨#[c]⟩ ++ Str.join ⟨#[c]⟩ (b :: r)).cps.toList = a.cps.toList ++ c :: jl c ((b :: r).map (·.cps.toList))
    rw [str_app, str_app, join_list c (b :: r)]
    simp
theorem cut_at {c : Nat} : ∀ {a b x y : List Nat}, c ∉ a → c ∉ b → a ++ c :: x = b ++ c :: y → a = b ∧ x = y
  | [], [], _, _, _, _, h => by simpa using h
  | [], q :: b, x, y, _, hb, h => by
    have : c = q := by simpa using (List.cons.inj h).1
    exact absurd (by rw [this]; exact List.mem_cons_self) hb
  | p :: a, [], x, y, ha, _, h => by
    have : p = c := by simpa using (List.cons.inj h).1
    exact absurd (by rw [← this]; exact List.mem_cons_self) ha
  | p :: a, q :: b, x, y, ha, hb, h => by
    obtain ⟨e1, e2⟩ := List.cons.inj (show p :: (a ++ c :: x) = q :: (b ++ c :: y) from h)
    obtain ⟨e3, e4⟩ := cut_at (fun z => ha (List.mem_cons_of_mem _ z)) (fun z => hb (List.mem_cons_of_mem _ z)) e2
    exact ⟨by rw [e1, e3], e4⟩
theorem jl_inj {c : Nat} : ∀ {ps qs : List (List Nat)}, ps ≠ [] → qs ≠ [] → (∀ p ∈ ps, c ∉ p) → (∀ q ∈ qs, c ∉ q) → jl c ps = jl c qs → ps = qs
  | [], _, h, _, _, _, _ => absurd rfl h
  | _, [], _, h, _, _, _ => absurd rfl h
  | [a], [b], _, _, _, _, h => by rw [show a = b from h]
  | [a], b :: b' :: r, _, _, h1, _, h => absurd (show c ∈ a by rw [show a = b ++ c :: jl c (b' :: r) from h]; simp) (h1 a List.mem_cons_self)
  | a :: a' :: r, [b], _, _, _, h2, h => absurd (show c ∈ b by rw [← show a ++ c :: jl c (a' :: r) = b from h]; simp) (h2 b List.mem_cons_self)
  | a :: a' :: r, b :: b' :: r', _, _, h1, h2, h => by
    obtain ⟨e1, e2⟩ := cut_at (h1 a List.mem_cons_self) (h2 b List.mem_cons_self) (show a ++ c :: jl c (a' :: r) = b ++ c :: jl c (b' :: r') from h)
    have ih := jl_inj (by simp) (by simp) (fun p hp => h1 p (List.mem_cons_of_mem _ hp)) (fun q hq => h2 q (List.mem_cons_of_mem _ hq)) e2
    rw [e1, ih]
theorem jl_mem {c d : Nat} : ∀ {ls : List (List Nat)}, d ∈ jl c ls → d = c ∨ ∃ l ∈ ls, d ∈ l
  | [], h => nomatch h
  | [a], h => .inr ⟨a, List.mem_cons_self, h⟩
  | a :: b :: r, h => by
    rcases List.mem_append.mp (show d ∈ a ++ c :: jl c (b :: r) from h) with h | h
    · exact .inr ⟨a, List.mem_cons_self, h⟩
    · rcases List.mem_cons.mp h with h | h
      · exact .inl h
      · rcases jl_mem h with h | ⟨l, hl, hd⟩
        · exact .inl h
        · exact .inr ⟨l, List.mem_cons_of_mem _ hl, hd⟩
theorem jl_len {c : Nat} : ∀ ls : List (List Nat), (jl c ls).length ≤ (ls.map List.length).sum + ls.length
  | [] => Nat.zero_le _
  | [a] => by simp [jl]
  | a :: b :: r => by
    have := jl_len (c := c) (b :: r)
    simp [jl] at this ⊢
    omega
theorem split_join {c : Nat} {zs : List Str} (h0 : zs ≠ []) (h : ∀ z ∈ zs, c ∉ z.cps.toList) : Txt.split (Str.join ⟨#[c]⟩ zs) ⟨#[c]⟩ = zs := by
  have e1 := StrLaws.join_split (Str.join ⟨#[c]⟩ zs) ⟨#[c]⟩
  have e2 := StrLaws.split_free (Str.join ⟨#[c]⟩ zs) c
  have e3 := split_pos (Str.join ⟨#[c]⟩ zs) ⟨#[c]⟩
  generalize Txt.split (Str.join ⟨#[c]⟩ zs) ⟨#[c]⟩ = ps at e1 e2 e3
  have e4 := congrArg (fun z : Str => z.cps.toList) e1
  simp only [join_list] at e4
  have e5 := jl_inj (c := c) (by intro z; rw [List.map_eq_nil_iff] at z; rw [z] at e3; simp at e3) (by intro z; rw [List.map_eq_nil_iff] at z; exact h0 z) (by
    intro p hp
    obtain ⟨z, hz, rfl⟩ := List.mem_map.mp hp
    exact e2 z hz) (by
    intro p hp
    obtain ⟨z, hz, rfl⟩ := List.mem_map.mp hp
    exact h z hz) e4
  have inj : ∀ {as bs : List Str}, as.map (fun z => z.cps.toList) = bs.map (fun z => z.cps.toList) → as = bs := by
    intro as
    induction as with
    | nil => intro bs hb; cases bs with
      | nil => rfl
      | cons _ _ => simp at hb
    | cons a r ih => intro bs hb; cases bs with
      | nil => simp at hb
      | cons b q =>
        rw [List.map_cons, List.map_cons] at hb
        obtain ⟨h1, h2⟩ := List.cons.inj hb
        rw [str_ext h1, ih h2]
  exact inj e5
/-! a row's words, one by one -/
inductive Ev where
  | op (v : W) | cl | pl (z : Str)
structure Pl (z : Str) : Prop where
  sg : ∀ c ∈ z.cps.toList, 33 ≤ c ∧ c ≤ 126
  hd : ∃ c r, z.cps.toList = c :: r ∧ c ≠ 60
  gt : z ≠ ⟨#[62]⟩
noncomputable def wst (v : W) : Str := ⟨v.signs.toArray⟩
noncomputable def wd : Ev → Str
  | .op v => ⟨(60 :: v.signs).toArray⟩
  | .cl => ⟨#[62]⟩
  | .pl z => z
noncomputable abbrev RSt := List (Str × List W) × List W
noncomputable def stp (st : RSt) : Ev → RSt
  | .op v => (st.1, st.2 ++ [v])
  | .cl => (st.1, st.2.dropLast)
  | .pl z => (st.1 ++ [(z, st.2)], st.2)
noncomputable def rn (evs : List Ev) : RSt := evs.foldl stp ([], [])
noncomputable def evok (n : Nat) (ar : List W) : Ev → Prop
  | .op v => v.ok n ∧ v.signs.length ≤ 100 ∧ ar.length < 5
  | .cl => ar ≠ []
  | .pl z => Pl z ∧ z.length ≤ 5
noncomputable def Gev (n : Nat) (evs : List Ev) : Prop := ∀ i e, evs[i]? = some e → evok n (rn (evs.take i)).2 e
theorem rn_snoc (evs : List Ev) (e : Ev) : rn (evs ++ [e]) = stp (rn evs) e := by simp [rn]
theorem rn_take {evs : List Ev} {i : Nat} {e : Ev} (h : evs[i]? = some e) : rn (evs.take (i + 1)) = stp (rn (evs.take i)) e := by
  rw [List.take_succ, h]; exact rn_snoc _ _
theorem Gev.nil (n : Nat) : Gev n [] := fun i e h => by simp at h
theorem Gev.snoc {n : Nat} {evs : List Ev} {e : Ev} (g : Gev n evs) (h : evok n (rn evs).2 e) : Gev n (evs ++ [e]) := fun i e' hi => by
  by_cases hl : i < evs.length
  · rw [List.getElem?_append_left hl] at hi
    rw [List.take_append_of_le_length (by (exact Nat.le_of_lt (by assumption)))]
    exact g i e' hi
  · rw [List.getElem?_append_right (by (exact Nat.le_of_not_lt (by assumption)))] at hi
    have h0 : i - evs.length = 0 := by
      cases hh : i - evs.length with
      | zero => rfl
      | succ m => rw [hh] at hi; simp at hi
    rw [h0] at hi
    have e1 : e = e' := by simpa using hi
    have e2 : i = evs.length := by omega
    subst e1 e2
    rw [List.take_append_of_le_length (Nat.le_refl _), List.take_length]
    exact h
theorem Gev.close {n : Nat} : ∀ (k : Nat) {evs : List Ev}, Gev n evs → (rn evs).2.length = k → Gev n (evs ++ List.replicate k .cl) ∧ rn (evs ++ List.replicate k .cl) = ((rn evs).1, [])
  | 0, evs, g, h => by
    have : (rn evs).2 = [] := List.eq_nil_of_length_eq_zero h
    refine ⟨by simpa using g, ?_⟩
    simp only [List.replicate_zero, List.append_nil]
    rw [← this]
  | k + 1, evs, g, h => by
    have hn : (rn evs).2 ≠ [] := fun z => by rw [z] at h; simp at h
    have g1 : Gev n (evs ++ [.cl]) := g.snoc hn
    have e1 := rn_snoc evs .cl
    obtain ⟨g2, e2⟩ := Gev.close k g1 (by rw [e1]; show (rn evs).2.dropLast.length = k; rw [List.length_dropLast]; omega)
    rw [List.replicate_succ, show evs ++ Ev.cl :: List.replicate k Ev.cl = evs ++ [Ev.cl] ++ List.replicate k Ev.cl by simp]
    exact ⟨g2, by rw [e2, e1]; rfl⟩
theorem signs_range {n : Nat} (hn : n ≤ 10) : ∀ v : W, v.ok n → ∀ c ∈ v.signs, 33 ≤ c ∧ c ≤ 126 := by
  intro v
  induction v with
  | c0 => intro _ c h; simp [W.signs] at h; subst h; exact ⟨by decide, by decide⟩
  | c1 => intro _ c h; simp [W.signs] at h; subst h; exact ⟨by decide, by decide⟩
  | sw k => intro hk c h; have hk' : k < n := hk; simp [W.signs] at h; (first | (exact Nat.le_trans (by assumption) (by decide)) | omega)
  | no a ih =>
    intro hk c h
    rcases List.mem_cons.mp h with e | e
    · subst e; exact ⟨by decide, by decide⟩
    · exact ih hk c e
  | an a b iha ihb =>
    intro hk c h
    rcases List.mem_cons.mp h with e | e
    · subst e; exact ⟨by decide, by decide⟩
    · rcases List.mem_append.mp e with e | e
      · exact iha hk.1 c e
      · exact ihb hk.2 c e
  | orr a b iha ihb =>
    intro hk c h
    rcases List.mem_cons.mp h with e | e
    · subst e; exact ⟨by decide, by decide⟩
    · rcases List.mem_append.mp e with e | e
      · exact iha hk.1 c e
      · exact ihb hk.2 c e
  | xo a b iha ihb =>
    intro hk c h
    rcases List.mem_cons.mp h with e | e
    · subst e; exact ⟨by decide, by decide⟩
    · rcases List.mem_append.mp e with e | e
      · exact iha hk.1 c e
      · exact ihb hk.2 c e
  | ch k a b iha ihb =>
    intro hk c h
    have hk' : k < n := hk.1
    rcases List.mem_cons.mp h with e | e
    · subst e; exact ⟨by decide, by decide⟩
    · rcases List.mem_cons.mp e with e | e
      · omega
      · rcases List.mem_append.mp e with e | e
        · exact iha hk.2.1 c e
        · exact ihb hk.2.2 c e
theorem evok_wd {n : Nat} (hn : n ≤ 10) {ar : List W} {e : Ev} (h : evok n ar e) : (∀ c ∈ (wd e).cps.toList, 33 ≤ c ∧ c ≤ 126) ∧ (wd e).cps.toList ≠ [] ∧ (wd e).length ≤ 101 := by
  cases e with
  | op v =>
    obtain ⟨h1, h2, _⟩ := h
    refine ⟨fun c hc => ?_, by simp [wd], by simp [wd, Str.length]; (assumption)⟩
    rcases List.mem_cons.mp (show c ∈ 60 :: v.signs by simpa [wd] using hc) with z | z
    · (first | (exact Nat.le_trans (by assumption) (by decide)) | (clear h2 hn; omega) | omega)
    · exact signs_range hn v h1 c z
  | cl => exact ⟨fun c hc => by have : c = 62 := by simpa [wd] using hc
                                (first | (exact Nat.le_trans (by assumption) (by decide)) | (clear hn; omega) | omega), by simp [wd], by decide⟩
  | pl z =>
    obtain ⟨h1, h2⟩ := h
    obtain ⟨c, r, e, _⟩ := h1.hd
    exact ⟨h1.sg, by show z.cps.toList ≠ []; rw [e]; simp, by show z.length ≤ 101; (exact Nat.le_trans (by assumption) (by decide))⟩
theorem Gev.wd {n : Nat} (hn : n ≤ 10) {evs : List Ev} (g : Gev n evs) : ∀ z ∈ evs.map wd, (∀ c ∈ z.cps.toList, 33 ≤ c ∧ c ≤ 126) ∧ z.cps.toList ≠ [] ∧ z.length ≤ 101 := fun z hz => by
  obtain ⟨e, he, rfl⟩ := List.mem_map.mp hz
  obtain ⟨i, hi⟩ := List.mem_iff_getElem?.mp he
  exact evok_wd hn (g i e hi)
theorem sum_le {l : List Nat} {b : Nat} (h : ∀ x ∈ l, x ≤ b) : l.sum ≤ l.length * b := by
  induction l with
  | nil => simp
  | cons a r ih =>
    have h1 := h a List.mem_cons_self
    have h2 := ih fun x hx => h x (List.mem_cons_of_mem _ hx)
    simp only [List.sum_cons, List.length_cons, Nat.add_mul, Nat.one_mul]
    omega
/-- the text of a row -/
noncomputable def rowT (evs : List Ev) : Str := Str.join ⟨#[32]⟩ (evs.map Mm.wd)
theorem rowT_len {n : Nat} (hn : n ≤ 10) {evs : List Ev} (g : Gev n evs) : (rowT evs).length ≤ evs.length * 102 := by
  rw [str_len, rowT, join_list]
  refine Nat.le_trans (jl_len _) ?_
  have := sum_le (l := ((evs.map Mm.wd).map fun z => z.cps.toList).map List.length) (b := 101) (fun x hx => by
    obtain ⟨l, hl, rfl⟩ := List.mem_map.mp hx
    obtain ⟨z, hz, rfl⟩ := List.mem_map.mp hl
    have := (g.wd hn z hz).2.2
    rw [str_len] at this
    exact this)
  simp only [List.length_map] at this ⊢
  (clear hn; omega)
theorem rowT_sg {n : Nat} (hn : n ≤ 10) {evs : List Ev} (g : Gev n evs) : ∀ c ∈ (rowT evs).cps.toList, c = 32 ∨ (33 ≤ c ∧ c ≤ 126) := fun c hc => by
  rw [rowT, join_list] at hc
  rcases jl_mem hc with h | ⟨l, hl, hd⟩
  · exact .inl h
  · obtain ⟨z, hz, rfl⟩ := List.mem_map.mp hl
    exact .inr ((g.wd hn z hz).1 c hd)
end Mm

set_option Elab.async false
set_option linter.all false
set_option maxRecDepth 100000
namespace Mm
open PySem L2 PyProof.Rows
/-! rows that are wrong -/
noncomputable def wordsZ (z : Str) : List Str := if z = ⟨#[]⟩ then [] else Txt.split z ⟨#[32]⟩
noncomputable def badAt (bw : List Nat → Prop) (ar : List W) (z : Str) : Prop := z = ⟨#[]⟩ ∨ (z = ⟨#[62]⟩ ∧ ar = []) ∨ ∃ t, z = ⟨(60 :: t).toArray⟩ ∧ (5 ≤ ar.length ∨ bw t)
noncomputable def Bad (n : Nat) (bw : List Nat → Prop) (zs : List Str) : Prop :=
  ∃ pre : List Ev, Gev n pre ∧ pre.length ≤ 100 ∧ ((∃ z post, zs = pre.map wd ++ z :: post ∧ badAt bw (rn pre).2 z) ∨ (zs = pre.map wd ∧ (rn pre).2 ≠ []))
theorem jl_nil {c : Nat} : ∀ {ls : List (List Nat)}, jl c ls = [] → ls = [] ∨ ls = [[]]
  | [], _ => .inl rfl
  | [a], h => .inr (by rw [show a = [] from h])
  | a :: b :: r, h => by simp [jl] at h
theorem words_join {zs : List Str} (h0 : zs ≠ []) (h1 : zs ≠ [⟨#[]⟩]) (h : ∀ z ∈ zs, 32 ∉ z.cps.toList) : wordsZ (Str.join ⟨#[32]⟩ zs) = zs := by
  unfold wordsZ
  rw [if_neg, split_join h0 h]
  intro e
  have e1 := congrArg (fun z : Str => z.cps.toList) e
  simp only [join_list] at e1
  rcases jl_nil (show jl 32 (zs.map fun z => z.cps.toList) = [] from e1) with z | z
  · exact h0 (by simpa using z)
  · match zs, z with
    | [a], z =>
      refine h1 ?_
      have : a.cps.toList = [] := by simpa using z
      rw [show a = ⟨#[]⟩ from str_ext this]
    | a :: b :: r, z => simp at z
/-- a wrong row: its words, no line feed, not too long -/
structure Wrong (n : Nat) (bw : List Nat → Prop) (z : Str) : Prop where
  bad : Bad n bw (wordsZ z)
  nl : 10 ∉ z.cps.toList
  len : z.length ≤ 1000
theorem wrong_of {n : Nat} {bw : List Nat → Prop} {zs : List Str} (h0 : zs ≠ []) (h1 : zs ≠ [⟨#[]⟩]) (h : ∀ z ∈ zs, 32 ∉ z.cps.toList ∧ 10 ∉ z.cps.toList) (hl : (Str.join ⟨#[32]⟩ zs).length ≤ 1000) (hb : Bad n bw zs) : Wrong n bw (Str.join ⟨#[32]⟩ zs) := by
  refine ⟨by rw [words_join h0 h1 fun z hz => (h z hz).1]; exact hb, fun hc => ?_, hl⟩
  rw [join_list] at hc
  rcases jl_mem hc with e | ⟨l, hl', hd⟩
  · (contradiction)
  · obtain ⟨z, hz, rfl⟩ := List.mem_map.mp hl'
    exact (h z hz).2 hd
end Mm

set_option Elab.async false
set_option linter.all false
set_option maxRecDepth 100000
namespace L2
open PySem PySem.Spec PyProof.Rows
end L2

set_option Elab.async false
set_option linter.all false
namespace L2
open PySem PySem.Spec PyProof.Rows
end L2

namespace L2
theorem len1 {α : Type} : ∀ {us : List α}, us.length = 1 → ∃ a, us = [a]
  | [a], _ => ⟨a, rfl⟩
theorem lenS {α : Type} {n : Nat} : ∀ {us : List α}, us.length = n + 1 → ∃ a r, us = a :: r ∧ r.length = n
  | a :: r, h => ⟨a, r, rfl, Nat.succ.inj h⟩
theorem len2 {α : Type} {us : List α} (h : us.length = 2) : ∃ a b, us = [a, b] := by
  obtain ⟨a, r, rfl, k⟩ := lenS h
  obtain ⟨b, rfl⟩ := len1 k
  exact ⟨a, b, rfl⟩
theorem len3 {α : Type} {us : List α} (h : us.length = 3) : ∃ a b c, us = [a, b, c] := by
  obtain ⟨a, r, rfl, k⟩ := lenS h
  obtain ⟨b, c, rfl⟩ := len2 k
  exact ⟨a, b, c, rfl⟩
theorem len4 {α : Type} {us : List α} (h : us.length = 4) : ∃ a b c d, us = [a, b, c, d] := by
  obtain ⟨a, r, rfl, k⟩ := lenS h
  obtain ⟨b, c, d, rfl⟩ := len3 k
  exact ⟨a, b, c, d, rfl⟩
end L2

set_option Elab.async false
set_option linter.all false
set_option maxRecDepth 100000
set_option maxHeartbeats 4000000
namespace L2
open PySem PySem.Spec PyProof.Rows
/-! ### a def with defaults -/
structure FunD (K : PySem.W.Frag) (x qual : Str) (st : Stmt) (f T : Addr) (items : List Value) (fd : FuncData) : Prop where
  ex : ∃ (oc : Value) (od : Option Addr) (kV doc pm : Value) (an : Option Addr) (cdv ct : Value) (osl : Array (Option Value)),
    fd = PySem.W.fnOf x qual (defArgs st) (defBody st) (defScope st) (.ref T) kV doc pm an cdv ct ∧ K.lookup f = some ⟨oc, od, .func fd, osl⟩ ∧ PySem.W.codeIn K cdv qual = true
  df : ∃ (o : Obj) (n : Nat), K.lookup T = some o ∧ o.data = .seq items.toArray n
section
variable {P : Program} {w : World} {K : PySem.W.Frag} {mg : Str → Option Value} {base : Heap}
end
/-! ### x in a list of data -/
section
variable {X : Cx}
end
/-! ### sum of a list of ints -/
section
variable {X : Cx}
end
end L2

set_option linter.all false
namespace Mm
/-! a setting with a switch put on, put off -/
/-! a mask with a switch put on, put off -/
/-! a mask that hangs on no switch ahead of k -/
/-! the shown wish -/
/-! letters rise, no two parts alike -/
/-! trees, read from behind -/
end Mm

set_option Elab.async false
set_option linter.all false
set_option maxRecDepth 100000
namespace L2
open PySem PySem.Spec PyProof.Rows
section
variable {X : Cx}
/-- isinstance(e, T): T a built-in type -/
theorem call_isexDTy {n : String} {K : PySem.W.Frag} (hK : X.K = K) : CallR X (.builtin "isinstance") (fun xs H Q => ∃ a D dd cx b, xs = [.ref a, .ty n] ∧ H a = some (excD a (.ref D) dd cx) ∧ XCls K D ∧ PySem.W.kitOne K (.ref D) (.type n) = some b ∧ Q (.bl b) H) := by
  subst hK
  intro pins s σ H xs us Q I r h
  obtain ⟨a, D, dd, cx, b, rfl, ha, c, e, q⟩ := h
  obtain ⟨u, w', rfl, rx, rw'⟩ := vals2 r
  cases (show w' = Value.type n from rw')
  cases (show u = Value.ref a from rx)
  exact PySem.W.kia_one (kitx_exc c) I.kIn (excD_has I ha).cls e (fun z => nomatch z) fun tk => ⟨.bl b, H, I.tok _, rfl, q⟩
/-- behind a statement -/
theorem cut_seq {a b : TS} {D : Ends} {σ : St} {H : Hp} (P : St → Hp → Prop) (h1 : ∀ R : St → Hp → Prop, (∀ σ' H', P σ' H' → R σ' H') → a { D with nx := R } σ H) (h2 : ∀ σ' H', P σ' H' → b D σ' H') : tSeq a b D σ H := h1 _ fun σ' H' h => h2 σ' H' h
/-- what may leave the body of a try -/
theorem try_cut {κ : Option Value → Prop} {K : PySem.W.Frag} {C : Addr} {i : Nat} {tb : XK → TS} {ts : TS} {D : Ends} {σ : St} {H : Hp} (B : Value → Option Addr → Hp → Prop) (h1 : ∀ E : XK, (∀ c dd H1, B c dd H1 → E c dd H1) → tb E D σ H)
    (h2 : ∀ c dd H1, B c dd H1 → PySem.W.exmOne K c (.ref C) = some true ∧ ∀ ea cx, κ cx → H1 ea = none → ts (D.unset i) (σ.set i (some (.ref ea))) (upd H1 ea (excD ea c dd cx))) : tTryD κ K C i tb ts D σ H := h1 _ h2
end
end L2

set_option Elab.async false
set_option linter.all false
set_option maxRecDepth 100000
set_option maxHeartbeats 4000000
namespace K75
open PySem L2 Mm
/-! the text by places -/
noncomputable def top (i : Nat) : Stmt := PySem.Challenge.pw_manymakes_k75_tidying_refused.main.body.getD i (.Pass ⟨0, 0, 0, 0⟩)
noncomputable abbrev st_every : Stmt := top 7
noncomputable abbrev st_switch_mask : Stmt := top 8
noncomputable abbrev st_is_whole : Stmt := top 9
noncomputable abbrev st_is_mask : Stmt := top 10
noncomputable abbrev st_has : Stmt := top 11
noncomputable abbrev st_settings : Stmt := top 12
noncomputable abbrev st_read_wish : Stmt := top 18
noncomputable abbrev st_mask_of_text : Stmt := top 19
noncomputable abbrev st_reckoned : Stmt := top 20
noncomputable abbrev st_taken : Stmt := top 21
noncomputable abbrev st_value_of : Stmt := top 22
noncomputable abbrev st_put_together : Stmt := top 23
noncomputable abbrev st_read_rows : Stmt := top 28
noncomputable abbrev st_read_words : Stmt := top 29
noncomputable abbrev st_words_of : Stmt := top 30
noncomputable abbrev st_group_mask : Stmt := top 31
noncomputable abbrev st_in_group : Stmt := top 32
noncomputable abbrev st_cut_row : Stmt := top 33
noncomputable abbrev st_cut_rows : Stmt := top 34
noncomputable abbrev st_tidied : Stmt := top 36
noncomputable abbrev st_ask_rule : Stmt := top 37
noncomputable abbrev st_tidied_row : Stmt := top 38
noncomputable abbrev st_come_together : Stmt := top 39
noncomputable abbrev st_parted : Stmt := top 40
noncomputable abbrev st_law_cell_at : Stmt := top 42
noncomputable abbrev st_law_mixed : Stmt := top 43
noncomputable abbrev st_law_bad_row : Stmt := top 44
noncomputable abbrev st_law_text : Stmt := top 45
noncomputable abbrev st_law_rule : Stmt := top 46
noncomputable abbrev st_law_told : Stmt := top 47
noncomputable abbrev st_law_due : Stmt := top 48
noncomputable abbrev st_NoGroup_init : Stmt := inClass (top 4) 0
noncomputable abbrev st_law : Stmt := top 49
set_option genInjectivity false in
structure Adr where
  every : Addr
  switch_mask : Addr
  is_whole : Addr
  is_mask : Addr
  has : Addr
  settings : Addr
  read_wish : Addr
  mask_of_text : Addr
  reckoned : Addr
  taken : Addr
  value_of : Addr
  put_together : Addr
  read_rows : Addr
  read_words : Addr
  words_of : Addr
  group_mask : Addr
  in_group : Addr
  cut_row : Addr
  cut_rows : Addr
  tidied : Addr
  ask_rule : Addr
  tidied_row : Addr
  come_together : Addr
  parted : Addr
  law_cell_at : Addr
  law_mixed : Addr
  law_bad_row : Addr
  law_text : Addr
  law_rule : Addr
  law_told : Addr
  law_due : Addr
  NoGroup_init : Addr
  d_NEEDS : Addr
  x_MakesError : Addr
  x_NoWish : Addr
  x_NoSet : Addr
  x_TooMany : Addr
  x_NoGroup : Addr
set_option genInjectivity false in
structure Fds where
  every : FuncData
  switch_mask : FuncData
  is_whole : FuncData
  is_mask : FuncData
  has : FuncData
  settings : FuncData
  read_wish : FuncData
  mask_of_text : FuncData
  reckoned : FuncData
  taken : FuncData
  value_of : FuncData
  put_together : FuncData
  read_rows : FuncData
  read_words : FuncData
  words_of : FuncData
  group_mask : FuncData
  in_group : FuncData
  cut_row : FuncData
  cut_rows : FuncData
  tidied : FuncData
  ask_rule : FuncData
  tidied_row : FuncData
  come_together : FuncData
  parted : FuncData
  law_cell_at : FuncData
  law_mixed : FuncData
  law_bad_row : FuncData
  law_text : FuncData
  law_rule : FuncData
  law_told : FuncData
  law_due : FuncData
  NoGroup_init : FuncData
structure All (P : Program) (w : World) (K : PySem.W.Frag) (mg : Str → Option Value) (A : Adr) (D : Fds) : Prop where
  m_every : mg "every" = some (.ref A.every)
  k_every : PySem.W.keepIn K (.ref A.every) = true
  F_every : Fun K "every" "every" st_every A.every D.every
  b_every : Binds K D.every ["n"] []
  m_switch_mask : mg "switch_mask" = some (.ref A.switch_mask)
  k_switch_mask : PySem.W.keepIn K (.ref A.switch_mask) = true
  F_switch_mask : Fun K "switch_mask" "switch_mask" st_switch_mask A.switch_mask D.switch_mask
  b_switch_mask : Binds K D.switch_mask ["k", "n"] []
  m_is_whole : mg "is_whole" = some (.ref A.is_whole)
  k_is_whole : PySem.W.keepIn K (.ref A.is_whole) = true
  F_is_whole : Fun K "is_whole" "is_whole" st_is_whole A.is_whole D.is_whole
  b_is_whole : Binds K D.is_whole ["value"] []
  m_is_mask : mg "is_mask" = some (.ref A.is_mask)
  k_is_mask : PySem.W.keepIn K (.ref A.is_mask) = true
  F_is_mask : Fun K "is_mask" "is_mask" st_is_mask A.is_mask D.is_mask
  b_is_mask : Binds K D.is_mask ["value", "n"] []
  m_has : mg "has" = some (.ref A.has)
  k_has : PySem.W.keepIn K (.ref A.has) = true
  F_has : Fun K "has" "has" st_has A.has D.has
  b_has : Binds K D.has ["mask", "s"] []
  m_settings : mg "settings" = some (.ref A.settings)
  k_settings : PySem.W.keepIn K (.ref A.settings) = true
  F_settings : Fun K "settings" "settings" st_settings A.settings D.settings
  b_settings : Binds K D.settings ["mask"] []
  m_read_wish : mg "read_wish" = some (.ref A.read_wish)
  k_read_wish : PySem.W.keepIn K (.ref A.read_wish) = true
  F_read_wish : Fun K "read_wish" "read_wish" st_read_wish A.read_wish D.read_wish
  b_read_wish : Binds K D.read_wish ["text", "n"] []
  m_mask_of_text : mg "mask_of_text" = some (.ref A.mask_of_text)
  k_mask_of_text : PySem.W.keepIn K (.ref A.mask_of_text) = true
  F_mask_of_text : Fun K "mask_of_text" "mask_of_text" st_mask_of_text A.mask_of_text D.mask_of_text
  b_mask_of_text : Binds K D.mask_of_text ["text", "n"] []
  m_reckoned : mg "reckoned" = some (.ref A.reckoned)
  k_reckoned : PySem.W.keepIn K (.ref A.reckoned) = true
  F_reckoned : Fun K "reckoned" "reckoned" st_reckoned A.reckoned D.reckoned
  b_reckoned : Binds K D.reckoned ["text", "switches", "full"] []
  m_taken : mg "taken" = some (.ref A.taken)
  k_taken : PySem.W.keepIn K (.ref A.taken) = true
  F_taken : Fun K "taken" "taken" st_taken A.taken D.taken
  b_taken : Binds K D.taken ["found", "many"] []
  m_value_of : mg "value_of" = some (.ref A.value_of)
  k_value_of : PySem.W.keepIn K (.ref A.value_of) = true
  F_value_of : Fun K "value_of" "value_of" st_value_of A.value_of D.value_of
  b_value_of : Binds K D.value_of ["sign", "switches", "full"] []
  m_put_together : mg "put_together" = some (.ref A.put_together)
  k_put_together : PySem.W.keepIn K (.ref A.put_together) = true
  F_put_together : Fun K "put_together" "put_together" st_put_together A.put_together D.put_together
  b_put_together : Binds K D.put_together ["sign", "parts", "full"] []
  m_read_rows : mg "read_rows" = some (.ref A.read_rows)
  k_read_rows : PySem.W.keepIn K (.ref A.read_rows) = true
  F_read_rows : Fun K "read_rows" "read_rows" st_read_rows A.read_rows D.read_rows
  b_read_rows : Binds K D.read_rows ["text", "n"] []
  m_read_words : mg "read_words" = some (.ref A.read_words)
  k_read_words : PySem.W.keepIn K (.ref A.read_words) = true
  F_read_words : Fun K "read_words" "read_words" st_read_words A.read_words D.read_words
  b_read_words : Binds K D.read_words ["row", "n", "at"] []
  m_words_of : mg "words_of" = some (.ref A.words_of)
  k_words_of : PySem.W.keepIn K (.ref A.words_of) = true
  F_words_of : Fun K "words_of" "words_of" st_words_of A.words_of D.words_of
  b_words_of : Binds K D.words_of ["row"] []
  m_group_mask : mg "group_mask" = some (.ref A.group_mask)
  k_group_mask : PySem.W.keepIn K (.ref A.group_mask) = true
  F_group_mask : Fun K "group_mask" "group_mask" st_group_mask A.group_mask D.group_mask
  b_group_mask : Binds K D.group_mask ["word", "n", "at"] []
  m_in_group : mg "in_group" = some (.ref A.in_group)
  k_in_group : PySem.W.keepIn K (.ref A.in_group) = true
  F_in_group : Fun K "in_group" "in_group" st_in_group A.in_group D.in_group
  b_in_group : Binds K D.in_group ["row", "mask", "n"] []
  m_cut_row : mg "cut_row" = some (.ref A.cut_row)
  k_cut_row : PySem.W.keepIn K (.ref A.cut_row) = true
  F_cut_row : Fun K "cut_row" "cut_row" st_cut_row A.cut_row D.cut_row
  b_cut_row : Binds K D.cut_row ["row", "s"] []
  m_cut_rows : mg "cut_rows" = some (.ref A.cut_rows)
  k_cut_rows : PySem.W.keepIn K (.ref A.cut_rows) = true
  F_cut_rows : Fun K "cut_rows" "cut_rows" st_cut_rows A.cut_rows D.cut_rows
  b_cut_rows : Binds K D.cut_rows ["rows", "s"] []
  m_tidied : mg "tidied" = some (.ref A.tidied)
  k_tidied : PySem.W.keepIn K (.ref A.tidied) = true
  F_tidied : Fun K "tidied" "tidied" st_tidied A.tidied D.tidied
  b_tidied : Binds K D.tidied ["text", "n", "rule"] []
  m_ask_rule : mg "ask_rule" = some (.ref A.ask_rule)
  k_ask_rule : PySem.W.keepIn K (.ref A.ask_rule) = true
  F_ask_rule : Fun K "ask_rule" "ask_rule" st_ask_rule A.ask_rule D.ask_rule
  b_ask_rule : Binds K D.ask_rule ["rule", "n"] []
  m_tidied_row : mg "tidied_row" = some (.ref A.tidied_row)
  k_tidied_row : PySem.W.keepIn K (.ref A.tidied_row) = true
  F_tidied_row : Fun K "tidied_row" "tidied_row" st_tidied_row A.tidied_row D.tidied_row
  b_tidied_row : Binds K D.tidied_row ["row", "n", "rule"] []
  m_come_together : mg "come_together" = some (.ref A.come_together)
  k_come_together : PySem.W.keepIn K (.ref A.come_together) = true
  F_come_together : Fun K "come_together" "come_together" st_come_together A.come_together D.come_together
  b_come_together : Binds K D.come_together ["row", "rule"] []
  m_parted : mg "parted" = some (.ref A.parted)
  k_parted : PySem.W.keepIn K (.ref A.parted) = true
  F_parted : Fun K "parted" "parted" st_parted A.parted D.parted
  b_parted : Binds K D.parted ["one", "other", "n", "rule"] []
  m_law_cell_at : mg "_law_cell_at" = some (.ref A.law_cell_at)
  k_law_cell_at : PySem.W.keepIn K (.ref A.law_cell_at) = true
  F_law_cell_at : Fun K "_law_cell_at" "_law_cell_at" st_law_cell_at A.law_cell_at D.law_cell_at
  b_law_cell_at : Binds K D.law_cell_at ["_law_script", "_law_k"] []
  m_law_mixed : mg "_law_mixed" = some (.ref A.law_mixed)
  k_law_mixed : PySem.W.keepIn K (.ref A.law_mixed) = true
  F_law_mixed : Fun K "_law_mixed" "_law_mixed" st_law_mixed A.law_mixed D.law_mixed
  b_law_mixed : Binds K D.law_mixed ["_law_cell", "_law_k"] []
  m_law_bad_row : mg "_law_bad_row" = some (.ref A.law_bad_row)
  k_law_bad_row : PySem.W.keepIn K (.ref A.law_bad_row) = true
  F_law_bad_row : Fun K "_law_bad_row" "_law_bad_row" st_law_bad_row A.law_bad_row D.law_bad_row
  b_law_bad_row : Binds K D.law_bad_row ["_law_number", "_law_n"] []
  m_law_text : mg "_law_text" = some (.ref A.law_text)
  k_law_text : PySem.W.keepIn K (.ref A.law_text) = true
  F_law_text : Fun K "_law_text" "_law_text" st_law_text A.law_text D.law_text
  b_law_text : Binds K D.law_text ["_law_cell", "_law_n"] []
  m_law_rule : mg "_law_rule" = some (.ref A.law_rule)
  k_law_rule : PySem.W.keepIn K (.ref A.law_rule) = true
  F_law_rule : Fun K "_law_rule" "_law_rule" st_law_rule A.law_rule D.law_rule
  b_law_rule : Binds K D.law_rule ["_law_cell", "_law_n"] []
  m_law_told : mg "_law_told" = some (.ref A.law_told)
  k_law_told : PySem.W.keepIn K (.ref A.law_told) = true
  F_law_told : Fun K "_law_told" "_law_told" st_law_told A.law_told D.law_told
  b_law_told : Binds K D.law_told ["_law_one", "_law_other", "_law_n", "_law_rule_here"] []
  m_law_due : mg "_law_due" = some (.ref A.law_due)
  k_law_due : PySem.W.keepIn K (.ref A.law_due) = true
  F_law_due : Fun K "_law_due" "_law_due" st_law_due A.law_due D.law_due
  b_law_due : Binds K D.law_due ["_law_at", "_law_other"] []
  M_NoGroup : MkI K A.x_NoGroup A.NoGroup_init bmVE "ValueError.__new__"
  ic_NoGroup : ICls K A.x_NoGroup
  na_NoGroup_at : NoAttr K A.x_NoGroup "at"
  k_NoGroup_init : PySem.W.keepIn K (.ref A.NoGroup_init) = true
  F_NoGroup_init : Fun K "__init__" "NoGroup.__init__" st_NoGroup_init A.NoGroup_init D.NoGroup_init
  b_NoGroup_init : Binds K D.NoGroup_init ["self", "at"] []
  v_LETTERS : ∃ t, mg "LETTERS" = some (.str "abcdefghij" t)
  v_DEEPEST_GROUP : ∃ t, mg "DEEPEST_GROUP" = some (.int 5 t)
  m_NEEDS : mg "NEEDS" = some (.ref A.d_NEEDS)
  D_NEEDS : KDict P w K A.d_NEEDS [("!", 1), ("&", 2), ("|", 2), ("^", 2), ("?", 3)]
  m_MakesError : mg "MakesError" = some (.ref A.x_MakesError)
  xc_MakesError : XCls K A.x_MakesError
  m_NoWish : mg "NoWish" = some (.ref A.x_NoWish)
  xc_NoWish : XCls K A.x_NoWish
  x_NoWish : PySem.W.excIn K A.x_NoWish [.type "ValueError", .type "Exception", .type "BaseException", .type "object"] "ValueError.__new__" = true
  m_NoSet : mg "NoSet" = some (.ref A.x_NoSet)
  xc_NoSet : XCls K A.x_NoSet
  x_NoSet : PySem.W.excIn K A.x_NoSet [.type "ValueError", .type "Exception", .type "BaseException", .type "object"] "ValueError.__new__" = true
  m_TooMany : mg "TooMany" = some (.ref A.x_TooMany)
  xc_TooMany : XCls K A.x_TooMany
  m_NoGroup : mg "NoGroup" = some (.ref A.x_NoGroup)
  xc_NoGroup : XCls K A.x_NoGroup
  em_NoWish_NoWish : PySem.W.exmOne K (.ref A.x_NoWish) (.ref A.x_NoWish) = some true
  em_NoGroup_MakesError : PySem.W.exmOne K (.ref A.x_NoGroup) (.ref A.x_MakesError) = some true
  em_NoSet_MakesError : PySem.W.exmOne K (.ref A.x_NoSet) (.ref A.x_MakesError) = some true
  ki_NoGroup_NoSet : PySem.W.kitOne K (.ref A.x_NoGroup) (.ref A.x_NoSet) = some false
  ki_NoGroup_NoGroup : PySem.W.kitOne K (.ref A.x_NoGroup) (.ref A.x_NoGroup) = some true
  ki_NoGroup_NoWish : PySem.W.kitOne K (.ref A.x_NoGroup) (.ref A.x_NoWish) = some false
  ki_NoGroup_TooMany : PySem.W.kitOne K (.ref A.x_NoGroup) (.ref A.x_TooMany) = some false
  ki_NoGroup_ValueError : PySem.W.kitOne K (.ref A.x_NoGroup) (.type "ValueError") = some true
  ki_NoSet_NoSet : PySem.W.kitOne K (.ref A.x_NoSet) (.ref A.x_NoSet) = some true
  ki_NoSet_NoGroup : PySem.W.kitOne K (.ref A.x_NoSet) (.ref A.x_NoGroup) = some false
  ki_NoSet_NoWish : PySem.W.kitOne K (.ref A.x_NoSet) (.ref A.x_NoWish) = some false
  ki_NoSet_TooMany : PySem.W.kitOne K (.ref A.x_NoSet) (.ref A.x_TooMany) = some false
  ki_NoSet_ValueError : PySem.W.kitOne K (.ref A.x_NoSet) (.type "ValueError") = some true
  n_len : mg "len" = none
  n_range : mg "range" = none
  n_int : mg "int" = none
  n_bool : mg "bool" = none
  n_str : mg "str" = none
  n_reversed : mg "reversed" = none
  n_enumerate : mg "enumerate" = none
  n_isinstance : mg "isinstance" = none
  n_ValueError : mg "ValueError" = none
/-! promises -/
noncomputable def swl (n : Nat) : List Nat := (List.range n).map fun k => sw k n
noncomputable def fulln (n : Nat) : Nat := 2 ^ 2 ^ n - 1
noncomputable def iv (l : List Nat) : List V := l.map fun x => V.int ((x : Nat) : Int)
noncomputable def spEvery : Sp := fun vs H Q _ => ∃ n : Nat, vs = [.int n] ∧ n ≤ 10 ∧ Q (.int (fulln n : Nat)) H
noncomputable def spSwitch : Sp := fun vs H Q _ => ∃ k n : Nat, vs = [.int k, .int n] ∧ k < n ∧ n ≤ 10 ∧ Q (.int (sw k n : Nat)) H
noncomputable def spTaken : Sp := fun vs H Q _ => ∃ (l : Addr) (st : List V) (m : Nat), vs = [.ref l, .int m] ∧ H l = some (.lst st.reverse) ∧ m ≤ st.length ∧ st.length ≤ 4000 ∧
  ∀ p H', H p = none → H' p = some (.lst (st.take m)) → H' l = some (.lst (st.drop m).reverse) → (∀ b o, H b = some o → b ≠ l → H' b = some o) → Q (.ref p) H'
noncomputable def spPut (K : PySem.W.Frag) : Sp := fun vs H Q _ => ∃ (c : Nat) (p : Addr) (ps : List Nat) (full : Nat), vs = [.str ⟨#[c]⟩, .ref p, .int full] ∧ SqL K H p (iv ps) ∧ 0 < needs c ∧ ps.length = needs c ∧ Q (.int (putR full c ps : Nat)) H
noncomputable def spValue (K : PySem.W.Frag) : Sp := fun vs H Q _ => ∃ (c : Nat) (l : Addr) (sws : List Nat) (full v : Nat), vs = [.str ⟨#[c]⟩, .ref l, .int full] ∧ SqL K H l (iv sws) ∧ c < 128 ∧ valR sws full c = some v ∧ Q (.int v) H
noncomputable def spReck (K : PySem.W.Frag) : Sp := fun vs H Q _ => ∃ (z : Str) (l : Addr) (sws : List Nat) (full v : Nat), vs = [.str z, .ref l, .int full] ∧ SqL K H l (iv sws) ∧ (∀ c ∈ z.cps.toList, c < 128) ∧ z.length ≤ 4000 ∧
  runR sws full z.cps.toList = some [v] ∧ ∀ H', Same H H' → Q (.int v) H'
noncomputable def spMaskOf : Sp := fun vs H Q _ => ∃ (z : Str) (n v : Nat), vs = [.str z, .int n] ∧ n ≤ 10 ∧ (∀ c ∈ z.cps.toList, c < 128) ∧ z.length ≤ 4000 ∧ runR (swl n) (fulln n) z.cps.toList = some [v] ∧ ∀ H', Same H H' → Q (.int v) H'
/-! facts -/
theorem two_le {n : Nat} (h : n ≤ 10) : (2 : Nat) ^ n ≤ 1024 := Nat.pow_le_pow_right (by decide) h
theorem one_shl {n : Nat} (h : n ≤ 1024) : CShl 1 (n : Int) := ⟨by (exact Int.natCast_nonneg _), 1, by decide, by omega⟩
theorem same_upd {H : Hp} {p : Addr} {o : HO} (h : H p = none) : Same H (upd H p o) := fun b u e => by rw [upd_ne (ne_of_none e h)]; exact e
theorem small5k {n : Nat} (h : n ≤ 5000) : n < sizeLine := Nat.lt_of_le_of_lt h (by decide)
theorem iv_len (l : List Nat) : (iv l).length = l.length := List.length_map ..
theorem iv_cons (x : Nat) (l : List Nat) : iv (x :: l) = V.int (x : Nat) :: iv l := rfl
theorem iv_snoc (l : List Nat) (x : Nat) : iv (l ++ [x]) = iv l ++ [V.int ((x : Nat) : Int)] := by simp [iv]
theorem iv_take (l : List Nat) (n : Nat) : (iv l).take n = iv (l.take n) := by simp [iv, List.map_take]
theorem iv_drop (l : List Nat) (n : Nat) : (iv l).drop n = iv (l.drop n) := by simp [iv, List.map_drop]
theorem atI_iv {ps : List Nat} {j : Nat} (h : j < ps.length) : atI (iv ps) (j : Int) = some (.int (ps.getD j 0 : Nat)) :=
  atI_nat (by rw [iv, List.getElem?_map, List.getElem?_eq_getElem h]; simp [List.getD_eq_getElem?_getD, List.getElem?_eq_getElem h])
theorem sg {c d : Nat} {x : Str} (hx : x = ⟨#[d]⟩) : decide (V.str ⟨#[c]⟩ = V.str x) = decide (c = d) := by
  subst hx
  by_cases h : c = d
  · subst h; simp
  · have : ¬ (V.str ⟨#[c]⟩ = V.str ⟨#[d]⟩) := fun z => by
      injection z with z
      injection z with z
      exact h (by simpa using z)
    rw [decide_eq_false this, decide_eq_false h]
theorem needs_pos {c : Nat} (h : 0 < needs c) : c = 33 ∨ c = 38 ∨ c = 124 ∨ c = 94 ∨ c = 63 := by
  exact (Decidable.em (c = 33)).elim .inl fun h1 => .inr ((Decidable.em (c = 38)).elim .inl fun h2 => .inr ((Decidable.em (c = 124)).elim .inl fun h3 => .inr ((Decidable.em (c = 94)).elim .inl fun h4 => .inr ((Decidable.em (c = 63)).elim id fun h5 => absurd h (by unfold needs; rw [if_neg h1, if_neg h2, if_neg h3, if_neg h4, if_neg h5]; exact Nat.lt_irrefl 0)))))
noncomputable abbrev needsD : List (Str × Int) := [("!", 1), ("&", 2), ("|", 2), ("^", 2), ("?", 3)]
theorem s33 : ("!" : Str) = ⟨#[33]⟩ := by decide +kernel
theorem s38 : ("&" : Str) = ⟨#[38]⟩ := by decide +kernel
theorem s124 : ("|" : Str) = ⟨#[124]⟩ := by decide +kernel
theorem s94 : ("^" : Str) = ⟨#[94]⟩ := by decide +kernel
theorem s63 : ("?" : Str) = ⟨#[63]⟩ := by decide +kernel
theorem s48 : ("0" : Str) = ⟨#[48]⟩ := by decide +kernel
theorem s49 : ("1" : Str) = ⟨#[49]⟩ := by decide +kernel
theorem beqS (c d : Nat) : ((⟨#[c]⟩ : Str) == ⟨#[d]⟩) = (c == d) := by
  by_cases h : c = d
  · subst h; simp
  · have : (⟨#[c]⟩ : Str) ≠ ⟨#[d]⟩ := fun z => by
      injection z with z
      exact h (by simpa using z)
    rw [beq_eq_false_iff_ne.mpr this, beq_eq_false_iff_ne.mpr h]
theorem look_needs (c : Nat) : needsD.lookup (⟨#[c]⟩ : Str) = if 0 < needs c then some ((needs c : Nat) : Int) else none := by
  unfold needsD
  rw [s33, s38, s124, s94, s63]
  simp only [List.lookup_cons, beqS, List.lookup_nil]
  unfold needs
  by_cases h1 : c = 33
  · subst h1; rfl
  by_cases h2 : c = 38
  · subst h2; rfl
  by_cases h3 : c = 124
  · subst h3; rfl
  by_cases h4 : c = 94
  · subst h4; rfl
  by_cases h5 : c = 63
  · subst h5; rfl
  rw [beq_eq_false_iff_ne.mpr h1, beq_eq_false_iff_ne.mpr h2, beq_eq_false_iff_ne.mpr h3, beq_eq_false_iff_ne.mpr h4, beq_eq_false_iff_ne.mpr h5, if_neg h1, if_neg h2, if_neg h3, if_neg h4, if_neg h5]
  rfl
theorem occL : ∀ c, c < 128 → Builtin.Str.occurrences ("abcdefghij" : Str) ⟨#[c]⟩ 0 ("abcdefghij" : Str).length 1 = if isL c = true then [c - 97] else [] := by decide +kernel
theorem isL_128 {c : Nat} (h : isL c = true) : c < 128 := by
  unfold isL at h
  simp at h
  (first | (assumption) | (exact Nat.lt_of_lt_of_le (by assumption) (by assumption)) | omega)
theorem shl_n (n : Nat) : (1 : Int) * 2 ^ ((n : Int)).toNat = ((2 ^ n : Nat) : Int) := by rw [pow2, Int.toNat_natCast]; (simp; done)
theorem letterAt : ∀ j, j < 10 → atI ("abcdefghij" : Str).cps.toList ((j : Nat) : Int) = some (97 + j) := by decide +kernel
theorem app_len (a b : Str) : (a ++ b).length = a.length + b.length := Array.size_append ..
theorem one_len (c : Nat) : (⟨#[c]⟩ : Str).length = 1 := rfl
theorem one_list (c : Nat) : (⟨#[c]⟩ : Str).cps.toList = [c] := rfl
theorem modN {a : Int} {n : Nat} (h : 0 < n) : ∃ j : Nat, a % (n : Int) = (j : Int) ∧ j < n := ⟨(a % (n : Int)).toNat, by
  have := Int.emod_nonneg a (show (n : Int) ≠ 0 by omega)
  (clear h; omega), by
  have := Int.emod_nonneg a (show (n : Int) ≠ 0 by omega)
  have := Int.emod_lt_of_pos a (show (0 : Int) < (n : Int) by (exact Int.ofNat_lt.mpr (by assumption)))
  omega⟩
theorem signs_128 {n : Nat} (hn : n ≤ 10) : ∀ v : W, v.ok n → ∀ c ∈ v.signs, c < 128 := fun v hv c hc => Nat.lt_of_le_of_lt (signs_range hn v hv c hc).2 (by decide)
theorem swl_len' (n : Nat) : (swl n).length = n := by simp [swl]
theorem full_lt (n : Nat) : fulln n < 2 ^ 2 ^ n := by
  have := Nat.two_pow_pos (2 ^ n)
  unfold fulln; (exact Nat.sub_lt_sub_left (by assumption) (Nat.lt_succ_self _))
section
variable {P : Program} {w : World} {K : PySem.W.Frag} {mg : Str → Option Value} {base : Heap} {AA : Adr} {DD : Fds}
theorem same_put {H H' : Hp} {p : Addr} {o : HO} (s : Same H H') (h : H p = none) : Same H (upd H' p o) := fun b u e => by rw [upd_ne (ne_of_none e h)]; exact s b u e
theorem scE : FnScope ["n"] ["n"] (defScope st_every) := ⟨rfl, rfl, rfl, by decide +kernel, rfl, by decide +kernel, by decide +kernel⟩
theorem ok_every (T : All P w K mg AA DD) : FnOk P w K mg base CX0 1 AA.every DD.every ["n"] spEvery := by
  refine T.F_every.ok scE (fun vs H Q E h => ?_) (fun cdv A outer s H vs Q E hr h => ?_)
  · obtain ⟨n, rfl, _⟩ := h
    rfl
  · obtain ⟨n, rfl, hn, k⟩ := h
    refine ⟨_, pss_one (ps_ret (pe_op op_sub (pe_op op_shlB pe_int (pe_op op_shlB pe_int (pv 0))) pe_int)), ?_⟩
    have e1 : (1 : Int) * 2 ^ ((n : Int)).toNat = ((2 ^ n : Nat) : Int) := by rw [pow2, Int.toNat_natCast]; omega
    refine ⟨_, rfl, _, _, rfl, rfl, one_shl (by (exact Nat.le_trans (by assumption) (by decide))), _, _, rfl, rfl, ?_, _, _, rfl, rfl, ?_⟩
    · rw [e1]; exact one_shl (two_le hn)
    · dsimp only
      rw [e1, pow2, Int.toNat_natCast]
      have e2 : (1 : Int) * ((2 ^ 2 ^ n : Nat) : Int) - 1 = ((2 ^ 2 ^ n - 1 : Nat) : Int) := by
        have := Nat.two_pow_pos (2 ^ n)
        (clear e1 hn; omega)
      rw [e2]
      exact k
theorem scS : FnScope ["k", "n", "run", "mask", "width"] ["k", "n"] (defScope st_switch_mask) := ⟨rfl, rfl, rfl, by decide +kernel, rfl, by decide +kernel, by decide +kernel⟩
theorem ok_switch (T : All P w K mg AA DD) : FnOk P w K mg base CX0 1 AA.switch_mask DD.switch_mask ["k", "n"] spSwitch := by
  refine T.F_switch_mask.ok scS (fun vs H Q E h => ?_) (fun cdv A outer s H vs Q E hr h => ?_)
  · obtain ⟨k, n, rfl, _⟩ := h
    rfl
  · obtain ⟨k, n, rfl, hk, hn, q⟩ := h
    refine ⟨_, pss_cons (ps_set (i := 2) scS.nd rfl (Or.inl rfl) (pe_op op_shlB pe_int (pv 0)))
      (pss_cons (ps_set (i := 3) scS.nd rfl (Or.inl rfl) (pe_op op_shlB (pe_op op_sub (pe_op op_shlB pe_int (pv 2)) pe_int) (pv 2)))
      (pss_cons (ps_set (i := 4) scS.nd rfl (Or.inl rfl) (pe_op op_mul pe_int (pv 2)))
      (pss_cons (ps_while PassesOwn.never (pt_cmpR op_lt (pv 4) (pe_op op_shlB pe_int (pv 1)) (nomark _))
        (pss_cons (ps_set (i := 3) scS.nd rfl (Or.inl rfl) (pe_op op_or (pv 3) (pe_op op_shlB (pv 3) (pv 4))))
        (pss_one (ps_set (i := 4) scS.nd rfl (Or.inl rfl) (pe_op op_mul pe_int (pv 4))))))
      (pss_one (ps_ret (pv 3)))))), ?_⟩
    have hk2 : (2 : Nat) ^ k ≤ 1024 := two_le (by (exact Nat.le_of_lt (Nat.lt_of_lt_of_le (by assumption) (by assumption))))
    have e1 : (1 : Int) * 2 ^ ((k : Int)).toNat = ((2 ^ k : Nat) : Int) := by rw [pow2, Int.toNat_natCast]; (simp; done)
    refine ⟨_, rfl, _, _, rfl, rfl, one_shl (by (first | (exact Nat.le_trans (by assumption) (by decide)) | omega)), ?_⟩
    dsimp only
    rw [e1]
    refine ⟨_, rfl, _, _, rfl, rfl, one_shl hk2, _, _, rfl, rfl, _, rfl, _, _, rfl, rfl, ?_, ?_⟩
    · show CShl ((1 : Int) * 2 ^ (((2 ^ k : Nat) : Int)).toNat - 1) ((2 ^ k : Nat) : Int)
      have hp := Nat.two_pow_pos (2 ^ k)
      rw [shl1, show ((2 ^ 2 ^ k : Nat) : Int) - 1 = ((2 ^ 2 ^ k - 1 : Nat) : Int) by (clear e1 hk2 hn hk; omega)]
      exact cshl (m := 2 ^ k) (by (exact Nat.sub_lt_sub_left (by assumption) (Nat.lt_succ_self _))) (by (clear hp e1 hn hk; omega))
    · have e2 : ((1 : Int) * 2 ^ (((2 ^ k : Nat) : Int)).toNat - 1) * 2 ^ (((2 ^ k : Nat) : Int)).toNat = ((mk (fun s => s.testBit k) (2 ^ (k + 1) * 2 ^ 0) : Nat) : Int) := by
        have q0 := sw_start k
        rw [Nat.pow_zero, Nat.mul_one, ← q0, pow2, Int.toNat_natCast]
        have hp := Nat.two_pow_pos (2 ^ k)
        rw [Int.natCast_mul]
        congr 1
        (clear q0 e1 hk2 hn hk; omega)
      dsimp only
      rw [e2]
      refine ⟨_, rfl, _, _, rfl, rfl, .inl ⟨by decide, by decide⟩, ?_⟩
      have e3 : (2 : Int) * ((2 ^ k : Nat) : Int) = ((2 ^ (k + 1) * 2 ^ 0 : Nat) : Int) := by
        rw [Nat.pow_zero, Nat.mul_one, Nat.pow_succ]; (clear e2 e1 hk2 hn hk; omega)
      dsimp only
      rw [e3]
      refine while_by (fun σ H' => ∃ j : Nat, k + 1 + j ≤ n ∧ H' = H ∧ σ = [some (.int (k : Nat)), some (.int (n : Nat)), some (.int ((2 ^ k : Nat) : Int)), some (.int ((mk (fun s => s.testBit k) (2 ^ (k + 1) * 2 ^ j) : Nat) : Int)), some (.int ((2 ^ (k + 1) * 2 ^ j : Nat) : Int))])
        (fun (σ : St) (_ : Hp) => match σ[4]? with | some (some (V.int z)) => 2 ^ n - z.toNat | _ => 0) ⟨0, by (assumption), rfl, rfl⟩ ?_ ?_
      · rintro σ H' ⟨j, hj, rfl, rfl⟩
        have e4 : (1 : Int) * 2 ^ ((n : Int)).toNat = ((2 ^ n : Nat) : Int) := by rw [pow2, Int.toNat_natCast]; (simp; done)
        refine ⟨_, rfl, _, rfl, _, _, rfl, rfl, one_shl (by (exact Nat.le_trans (by assumption) (by decide))), _, _, rfl, rfl, _, rfl, ?_⟩
        dsimp only
        rw [e4]
        have ew : 2 ^ (k + 1) * 2 ^ j = 2 ^ (k + 1 + j) := by rw [← Nat.pow_add]
        refine ite2 (fun hlt => ?_) (fun hge => ?_)
        · have hlt : ((2 ^ (k + 1) * 2 ^ j : Nat) : Int) < ((2 ^ n : Nat) : Int) := of_decide_eq_true hlt
          have hlt' : 2 ^ (k + 1 + j) < 2 ^ n := by rw [← ew]; exact Int.ofNat_lt.mp hlt
          have hjn : k + 1 + j < n := (Nat.pow_lt_pow_iff_right (by decide)).mp hlt'
          have hw : 2 ^ (k + 1) * 2 ^ j ≤ 1024 := by rw [ew]; exact two_le (by (exact Nat.le_trans (by assumption) (by assumption)))
          refine ⟨_, rfl, _, rfl, _, rfl, _, _, rfl, rfl, ⟨by (exact Int.natCast_nonneg _), 2 ^ (k + 1) * 2 ^ j, ?_, by omega⟩, _, _, rfl, rfl, ?_⟩
          · rw [Int.natAbs_natCast]; exact mk_lt _ _
          · have e5 : Builtin.bitOr ((mk (fun s => s.testBit k) (2 ^ (k + 1) * 2 ^ j) : Nat) : Int) (((mk (fun s => s.testBit k) (2 ^ (k + 1) * 2 ^ j) : Nat) : Int) * 2 ^ (((2 ^ (k + 1) * 2 ^ j : Nat) : Int)).toNat) = ((mk (fun s => s.testBit k) (2 ^ (k + 1) * 2 ^ (j + 1)) : Nat) : Int) := by
              rw [Int.toNat_natCast, pow2, ← Int.natCast_mul, bitOr_nat, sw_step, show 2 * (2 ^ (k + 1) * 2 ^ j) = 2 ^ (k + 1) * 2 ^ (j + 1) by rw [Nat.pow_succ 2 j, Nat.mul_left_comm, Nat.mul_comm 2 (2 ^ j)]]
            dsimp only
            rw [e5]
            refine ⟨_, rfl, _, _, rfl, rfl, .inl ⟨by decide, by decide⟩, ?_⟩
            have e6 : (2 : Int) * ((2 ^ (k + 1) * 2 ^ j : Nat) : Int) = ((2 ^ (k + 1) * 2 ^ (j + 1) : Nat) : Int) := by
              rw [Nat.pow_succ 2 j, ← Nat.mul_assoc]; (clear e5 hw hjn hlt' hlt ew e4 hj e3 e2 e1 hk2 hn hk; omega)
            dsimp only
            rw [e6]
            refine ⟨⟨j + 1, by (assumption), rfl, rfl⟩, ?_⟩
            show 2 ^ n - (((2 ^ (k + 1) * 2 ^ (j + 1) : Nat) : Int)).toNat < 2 ^ n - (((2 ^ (k + 1) * 2 ^ j : Nat) : Int)).toNat
            rw [Int.toNat_natCast, Int.toNat_natCast, Nat.pow_succ 2 j, ← Nat.mul_assoc]
            have hp : 0 < 2 ^ (k + 1) * 2 ^ j := Nat.mul_pos (Nat.two_pow_pos _) (Nat.two_pow_pos _)
            rw [← ew] at hlt'
            (clear e6 e5 hw hjn hlt' ew e4 hj e3 e2 e1 hk2 hn hk; omega)
        · have hge : ¬ ((2 ^ (k + 1) * 2 ^ j : Nat) : Int) < ((2 ^ n : Nat) : Int) := fun z => hge (decide_eq_true z)
          have hge' : 2 ^ n ≤ 2 ^ (k + 1 + j) := by rw [← ew]; (clear ew e4 hj e3 e2 e1 hk2 hn hk; omega)
          have hjn : n ≤ k + 1 + j := (Nat.pow_le_pow_iff_right (by decide)).mp hge'
          have e7 : 2 ^ (k + 1) * 2 ^ j = 2 ^ n := by rw [ew]; congr 1; (exact Nat.le_antisymm (by assumption) (by assumption))
          refine ⟨_, rfl, ?_⟩
          rw [e7]
          exact q
      · rintro σ H' Q1 Q2 hq ⟨v, h1, u, h2, i, j, e1, e2, C, i', j', e3, e4, b, eb, qq⟩
        exact ⟨v, h1, u, h2, i, j, e1, e2, C, i', j', e3, e4, b, eb, hq _ _ qq⟩
theorem sc_taken : FnScope ["found", "many", "parts", "k"] ["found", "many"] (defScope st_taken) := ⟨rfl, rfl, rfl, by decide +kernel, rfl, by decide +kernel, by decide +kernel⟩
theorem ok_taken (T : All P w K mg AA DD) : FnOk P w K mg base CX0 1 AA.taken DD.taken ["found", "many"] spTaken := by
  refine T.F_taken.ok sc_taken (fun vs H Q E h => ?_) (fun cdv A outer s H vs Q E hr h => ?_)
  · obtain ⟨l, st, m, rfl, _⟩ := h
    rfl
  · obtain ⟨l, st, m, rfl, hl, hm, hz, k⟩ := h
    have nd := sc_taken.nd
    refine ⟨_, pss_cons (ps_set (i := 2) nd rfl (Or.inl rfl) (pe_lst pa_nil))
      (pss_cons (ps_for PassesOwn.never rfl (pi_range1 rfl T.n_range (pa_cons (pv 1) pa_nil)) (pg_name (i := 3) nd rfl (Or.inl rfl))
        (pss_one (ps_expr (pe_bm PySem.F.plainAttrs_list PySem.F.slot_list_append PySem.F.type_list_append mt_append (pv 2) (pa_cons (pe_bm0 PySem.F.plainAttrs_list PySem.F.slot_list_pop PySem.F.type_list_pop mt_pop (pv 0)) pa_nil)))))
      (pss_one (ps_ret (pv 2)))), ?_⟩
    refine ⟨Nat.zero_le _, fun p hp => ?_⟩
    have npl : l ≠ p := ne_of_none hl hp
    refine ⟨_, rfl, _, rfl, by (solve_by_elim (maxDepth := 4) only [*, Nat.lt_of_lt_of_le, Nat.le_of_lt, Nat.succ_le_of_lt, Nat.le_refl]), by omega, ?_⟩
    rw [Int.toNat_natCast]
    refine for_range (fun i σ H' => i ≤ m ∧ (∃ s3 : Option V, σ = [some (.ref l), some (.int (m : Nat)), some (.ref p), s3]) ∧ H' l = some (.lst (st.drop i).reverse) ∧ H' p = some (.lst (st.take i)) ∧ ∀ b o, H b = some o → b ≠ l → H' b = some o)
      ⟨Nat.zero_le _, ⟨none, rfl⟩, by rw [upd_ne npl]; exact hl, upd_same, fun b o e _ => by rw [upd_ne (ne_of_none e hp)]; exact e⟩ ?_ ?_
    · rintro i σ H' hi ⟨_, ⟨s3, rfl⟩, h1, h2, h3⟩
      have hin : i < st.length := by (exact Nat.lt_of_lt_of_le (by assumption) (by assumption))
      have ed : (st.drop i).reverse = (st.drop (i + 1)).reverse ++ [st[i]] := by rw [List.drop_eq_getElem_cons hin, List.reverse_cons]
      refine ⟨_, rfl, .inl ⟨rfl, _, SqL.of h2⟩, _, rfl, .inl ⟨rfl, _, SqL.of h1⟩, l, _, st[i], rfl, rfl, h1, ?_, p, _, _, rfl, rfl, (by rw [upd_ne npl.symm]; exact h2), ?_, ?_⟩
      · rw [ed]; simp
      · rw [List.length_take]; exact small5k (by (first | (exact Nat.le_trans (by assumption) (by decide)) | omega))
      · refine ⟨hi, ⟨_, rfl⟩, ?_, ?_, fun b o e hb => ?_⟩
        · rw [upd_ne npl, upd_same, ed, List.dropLast_concat]
        · rw [upd_same, List.take_add_one, List.getElem?_eq_getElem hin]; rfl
        · rw [upd_ne (ne_of_none e hp), upd_ne hb]; exact h3 b o e hb
    · rintro σ H' ⟨_, ⟨s3, rfl⟩, h1, h2, h3⟩
      exact ⟨_, rfl, k p H' hp h2 h1 h3⟩
theorem sc_put : FnScope ["sign", "parts", "full"] ["sign", "parts", "full"] (defScope st_put_together) := ⟨rfl, rfl, rfl, by decide +kernel, rfl, by decide +kernel, by decide +kernel⟩
theorem ok_put (T : All P w K mg AA DD) : FnOk P w K mg base CX0 1 AA.put_together DD.put_together ["sign", "parts", "full"] (spPut K) := by
  refine T.F_put_together.ok sc_put (fun vs H Q E h => ?_) (fun cdv A outer s H vs Q E hr h => ?_)
  · obtain ⟨c, p, ps, full, rfl, _⟩ := h
    rfl
  · obtain ⟨c, p, ps, full, rfl, hS, hc, hl, k⟩ := h
    refine ⟨_, pss_cons (ps_if (pt_cmpR op_eq (pv 0) pe_str (nomark _)) (pss_one (ps_ret (pe_op op_xor (pv 2) (pe_ix ix_list (pv 1) pe_int (fun _ _ => rfl))))) pss_nil)
      (pss_cons (ps_if (pt_cmpR op_eq (pv 0) pe_str (nomark _)) (pss_one (ps_ret (pe_op op_and (pe_ix ix_list (pv 1) pe_int (fun _ _ => rfl)) (pe_ix ix_list (pv 1) pe_int (fun _ _ => rfl))))) pss_nil)
      (pss_cons (ps_if (pt_cmpR op_eq (pv 0) pe_str (nomark _)) (pss_one (ps_ret (pe_op op_or (pe_ix ix_list (pv 1) pe_int (fun _ _ => rfl)) (pe_ix ix_list (pv 1) pe_int (fun _ _ => rfl))))) pss_nil)
      (pss_cons (ps_if (pt_cmpR op_eq (pv 0) pe_str (nomark _)) (pss_one (ps_ret (pe_op op_xor (pe_ix ix_list (pv 1) pe_int (fun _ _ => rfl)) (pe_ix ix_list (pv 1) pe_int (fun _ _ => rfl))))) pss_nil)
      (pss_one (ps_ret (pe_op op_or (pe_op op_and (pe_ix ix_list (pv 1) pe_int (fun _ _ => rfl)) (pe_ix ix_list (pv 1) pe_int (fun _ _ => rfl)))
        (pe_op op_and (pe_op op_xor (pv 2) (pe_ix ix_list (pv 1) pe_int (fun _ _ => rfl))) (pe_ix ix_list (pv 1) pe_int (fun _ _ => rfl))))))))), ?_⟩
    have a0 : ∀ j, j < needs c → atI (iv ps) ((j : Nat) : Int) = some (.int (ps.getD j 0 : Nat)) := fun j hj => atI_iv (by (first | (assumption) | (exact Nat.lt_of_lt_of_le (by assumption) (by assumption)) | omega))
    refine ⟨_, rfl, rfl, _, rfl, ?_⟩
    rw [sg s33]
    rcases needs_pos hc with rfl | rfl | rfl | rfl | rfl
    · refine iteT ?_
      refine ⟨_, rfl, _, rfl, p, _, _, _, rfl, rfl, hS, a0 0 (by decide), _, _, rfl, rfl, ?_⟩
      dsimp only
      rw [bitXor_nat]
      exact k
    · refine iteF ?_
      refine ⟨_, rfl, rfl, _, rfl, ?_⟩
      rw [sg s38]
      refine iteT ?_
      refine ⟨_, rfl, p, _, _, _, rfl, rfl, hS, a0 0 (by decide), _, rfl, p, _, _, _, rfl, rfl, hS, a0 1 (by decide), _, _, rfl, rfl, ?_⟩
      dsimp only
      rw [bitAnd_nat]
      exact k
    · refine iteF ?_
      refine ⟨_, rfl, rfl, _, rfl, ?_⟩
      rw [sg s38]
      refine iteF ?_
      refine ⟨_, rfl, rfl, _, rfl, ?_⟩
      rw [sg s124]
      refine iteT ?_
      refine ⟨_, rfl, p, _, _, _, rfl, rfl, hS, a0 0 (by decide), _, rfl, p, _, _, _, rfl, rfl, hS, a0 1 (by decide), _, _, rfl, rfl, ?_⟩
      dsimp only
      rw [bitOr_nat]
      exact k
    · refine iteF ?_
      refine ⟨_, rfl, rfl, _, rfl, ?_⟩
      rw [sg s38]
      refine iteF ?_
      refine ⟨_, rfl, rfl, _, rfl, ?_⟩
      rw [sg s124]
      refine iteF ?_
      refine ⟨_, rfl, rfl, _, rfl, ?_⟩
      rw [sg s94]
      refine iteT ?_
      refine ⟨_, rfl, p, _, _, _, rfl, rfl, hS, a0 0 (by decide), _, rfl, p, _, _, _, rfl, rfl, hS, a0 1 (by decide), _, _, rfl, rfl, ?_⟩
      dsimp only
      rw [bitXor_nat]
      exact k
    · refine iteF ?_
      refine ⟨_, rfl, rfl, _, rfl, ?_⟩
      rw [sg s38]
      refine iteF ?_
      refine ⟨_, rfl, rfl, _, rfl, ?_⟩
      rw [sg s124]
      refine iteF ?_
      refine ⟨_, rfl, rfl, _, rfl, ?_⟩
      rw [sg s94]
      refine iteF ?_
      refine ⟨_, rfl, p, _, _, _, rfl, rfl, hS, a0 0 (by decide), _, rfl, p, _, _, _, rfl, rfl, hS, a0 1 (by decide), _, _, rfl, rfl, _, rfl, _, rfl, p, _, _, _, rfl, rfl, hS, a0 0 (by decide), _, _, rfl, rfl,
        _, rfl, p, _, _, _, rfl, rfl, hS, a0 2 (by decide), _, _, rfl, rfl, _, _, rfl, rfl, ?_⟩
      dsimp only
      rw [bitXor_nat, bitAnd_nat, bitAnd_nat, bitOr_nat]
      exact k
theorem sc_value : FnScope ["sign", "switches", "full", "k"] ["sign", "switches", "full"] (defScope st_value_of) := ⟨rfl, rfl, rfl, by decide +kernel, rfl, by decide +kernel, by decide +kernel⟩
theorem ok_value (T : All P w K mg AA DD) : FnOk P w K mg base CX0 1 AA.value_of DD.value_of ["sign", "switches", "full"] (spValue K) := by
  refine T.F_value_of.ok sc_value (fun vs H Q E h => ?_) (fun cdv A outer s H vs Q E hr h => ?_)
  · obtain ⟨c, l, sws, full, v, rfl, _⟩ := h
    rfl
  · obtain ⟨c, l, sws, full, v, rfl, hS, hc, hv, k⟩ := h
    have nd := sc_value.nd
    obtain ⟨tL, hL⟩ := T.v_LETTERS
    refine ⟨_, pss_cons (ps_if (pt_cmpR op_eq (pv 0) pe_str (nomark _)) (pss_one (ps_ret pe_int)) pss_nil)
      (pss_cons (ps_if (pt_cmpR op_eq (pv 0) pe_str (nomark _)) (pss_one (ps_ret (pv 2))) pss_nil)
      (pss_cons (ps_set (i := 3) nd rfl (Or.inl rfl) (pe_bm PySem.F.plainAttrs_str PySem.F.slot_str_find PySem.F.type_str_find mt_find (pe_glob (v := .str "abcdefghij") rfl hL ⟨_, rfl⟩) (pa_cons (pv 0) pa_nil)))
      (pss_cons (ps_if (PW.pt (pw_or (pt_cmpR op_lt (pv 3) pe_int (nomark _)) (pw_or1 (pt_cmpR op_ge (pv 3) (pe_callB call_len_seq rfl T.n_len bt_len (pa_cons (pv 1) pa_nil)) (nomark _))))) pss_never pss_nil)
      (pss_one (ps_ret (pe_ix ix_list (pv 1) (pv 3) (fun _ _ => rfl))))))), ?_⟩
    unfold valR at hv
    refine ⟨_, rfl, rfl, _, rfl, ?_⟩
    rw [sg s48]
    by_cases h0 : c = 48
    · rw [if_pos h0] at hv
      cases hv
      rw [decide_eq_true h0]
      exact iteT k
    rw [if_neg h0] at hv
    rw [decide_eq_false h0]
    refine iteF ?_
    refine ⟨_, rfl, rfl, _, rfl, ?_⟩
    rw [sg s49]
    by_cases h1 : c = 49
    · rw [if_pos h1] at hv
      cases hv
      rw [decide_eq_true h1]
      exact iteT ⟨_, rfl, k⟩
    rw [if_neg h1] at hv
    rw [decide_eq_false h1]
    refine iteF ?_
    by_cases hl : isL c = true
    · rw [if_pos hl] at hv
      have hk : c - 97 < sws.length := (List.getElem?_eq_some_iff.mp hv).1
      refine ⟨rfl, _, rfl, _, _, rfl, rfl, ?_⟩
      rw [occL c hc, if_pos hl]
      dsimp only
      refine ⟨_, rfl, _, _, rfl, rfl, _, rfl, ?_⟩
      rw [decide_eq_false (by (simp; done))]
      refine iteF ?_
      refine ⟨_, rfl, _, rfl, l, _, rfl, .inl hS, _, _, rfl, rfl, _, rfl, ?_⟩
      rw [iv_len, decide_eq_false (by (clear h1 h0 hc; omega))]
      refine iteF ?_
      refine ⟨_, rfl, _, rfl, l, _, _, _, rfl, rfl, hS, atI_iv hk, ?_⟩
      rw [List.getD_eq_getElem?_getD, hv]
      exact k
    · rw [if_neg hl] at hv
      cases hv
end
section
variable {P : Program} {w : World} {K : PySem.W.Frag} {mg : Str → Option Value} {base : Heap} {AA : Adr} {DD : Fds}
noncomputable abbrev NR : List Str := ["text", "switches", "full", "found", "behind", "sign", "parts"]
theorem sc_reck : FnScope NR ["text", "switches", "full"] (defScope st_reckoned) := ⟨rfl, rfl, rfl, by decide +kernel, rfl, by decide +kernel, by decide +kernel⟩
theorem ok_reck (T : All P w K mg AA DD) : FnOk P w K mg base CX0 2 AA.reckoned DD.reckoned ["text", "switches", "full"] (spReck K) := by
  have GT := ok_taken (base := base) T
  have GP := ok_put (base := base) T
  have GV := ok_value (base := base) T
  refine T.F_reckoned.ok sc_reck (fun vs H Q E h => ?_) (fun cdv A outer s H vs Q E hr h => ?_)
  · obtain ⟨z, l, sws, full, v, rfl, _⟩ := h
    rfl
  · obtain ⟨z, l, sws, full, v, rfl, hS, hcs, hz, hrun, k⟩ := h
    have nd := sc_reck.nd
    obtain ⟨tL, hL⟩ := T.v_LETTERS
    refine ⟨_, pss_cons (ps_set (i := 3) nd rfl (Or.inl rfl) (pe_lst pa_nil))
      (pss_cons (ps_set (i := 4) nd rfl (Or.inl rfl) pe_str)
      (pss_cons (ps_for PassesOwn.never rfl (pi_revstr rfl T.n_reversed (pa_cons (pv 0) pa_nil)) (pg_name (i := 5) nd rfl (Or.inl rfl))
        (pss_cons (ps_if (pt_cmpR op_lt (pe_callB call_len_seq rfl T.n_len bt_len (pa_cons (pv 3) pa_nil)) (pe_kget2 T.D_NEEDS rfl T.m_NEEDS (pv 5) pe_int) (nomark _)) pss_never pss_nil)
        (pss_cons (ps_if (PW.pt (pw_and (pt_cmpR op_eq (pv 5) pe_str (nomark _)) (pw_and1 (pt_cmpR op_notIn_str (pv 4) (pe_glob (v := .str "abcdefghij") rfl hL ⟨_, rfl⟩) rfl)))) pss_never pss_nil)
        (pss_cons (ps_if (pt_cmp (pc_kin T.D_NEEDS rfl T.m_NEEDS (pv 5)))
          (pss_cons (ps_set (i := 6) nd rfl (Or.inl rfl) (pe_call GT hr rfl T.m_taken T.k_taken T.b_taken .nil pass0 (pa_cons (pv 3) (pa_cons (pe_kix T.D_NEEDS rfl T.m_NEEDS (pv 5) (fun _ _ => rfl)) pa_nil))))
          (pss_one (ps_expr (pe_bm PySem.F.plainAttrs_list PySem.F.slot_list_append PySem.F.type_list_append mt_append (pv 3) (pa_cons (pe_call GP hr rfl T.m_put_together T.k_put_together T.b_put_together .nil pass0 (pa_cons (pv 5) (pa_cons (pv 6) (pa_cons (pv 2) pa_nil)))) pa_nil)))))
          (pss_one (ps_expr (pe_bm PySem.F.plainAttrs_list PySem.F.slot_list_append PySem.F.type_list_append mt_append (pv 3) (pa_cons (pe_call GV hr rfl T.m_value_of T.k_value_of T.b_value_of .nil pass0 (pa_cons (pv 5) (pa_cons (pv 1) (pa_cons (pv 2) pa_nil)))) pa_nil)))))
        (pss_one (ps_set (i := 4) nd rfl (Or.inl rfl) (pv 5)))))))
      (pss_cons (ps_if (pt_cmpR op_ne (pe_callB call_len_seq rfl T.n_len bt_len (pa_cons (pv 3) pa_nil)) pe_int (nomark _)) pss_never pss_nil)
      (pss_one (ps_ret (pe_ix ix_list (pv 3) pe_int (fun _ _ => rfl))))))), ?_⟩
    generalize ht : z.cps.toList = t at hcs hrun
    have hlen : t.length = z.length := by rw [← ht]; simp [Str.length]
    refine ⟨Nat.zero_le _, fun p hp => ?_⟩
    refine ⟨_, rfl, z, rfl, Nat.le_of_lt (small5k (by (exact Nat.le_trans (by assumption) (by decide)))), ?_⟩
    refine for_N (fun i σ H' => i ≤ z.length ∧ Same H H' ∧ ∃ (st : List Nat) (bh : Str) (s5 s6 : Option V), runR sws full (t.drop (z.length - i)) = some st ∧ (∀ c r, t.drop (z.length - i) = c :: r → bh = ⟨#[c]⟩) ∧
        st.length ≤ i ∧ H' p = some (.lst (iv st).reverse) ∧ σ = [some (.str z), some (.ref l), some (.int (full : Nat)), some (.ref p), some (.str bh), s5, s6])
      ⟨Nat.zero_le _, same_upd hp, [], _, none, none, (by rw [Nat.sub_zero, List.drop_of_length_le (by (exact Nat.le_of_eq (by assumption)))]; rfl), (by rw [Nat.sub_zero, List.drop_of_length_le (by (exact Nat.le_of_eq (by assumption)))]; intro c r e; cases e), Nat.le_refl _, upd_same, rfl⟩ ?_ ?_
    · rintro i σ H' hi ⟨_, hsm, st, bh, s5, s6, hst, hbh, hsl, hH, rfl⟩
      obtain ⟨st', h'⟩ := run_drop (z.length - (i + 1)) hrun
      have hlt : z.length - (i + 1) < t.length := by (clear hsl hbh hcs k hz; omega)
      have ed : t.drop (z.length - (i + 1)) = t[z.length - (i + 1)] :: t.drop (z.length - i) := by
        rw [List.drop_eq_getElem_cons hlt, show z.length - (i + 1) + 1 = z.length - i by (first | (rw [← Nat.sub_sub]; exact Nat.sub_add_cancel (Nat.sub_pos_of_lt (by assumption))) | (rw [← Nat.sub_sub]; exact Nat.sub_add_cancel (Nat.sub_pos_of_lt (Nat.lt_of_succ_le (by assumption)))) | omega)]
      have ec : (revAt z i) = V.str ⟨#[t[z.length - (i + 1)]]⟩ := by
        unfold revAt
        rw [ht, List.getD_eq_getElem?_getD, show z.length - 1 - i = z.length - (i + 1) by rw [Nat.sub_sub, Nat.add_comm], List.getElem?_eq_getElem hlt]
        rfl
      rw [ec]
      generalize hcc : t[z.length - (i + 1)] = c at ed
      have hc128 : c < 128 := by rw [← hcc]; exact hcs _ (List.getElem_mem _)
      rw [ed] at h'
      obtain ⟨st2, h2, hstep⟩ := run_rest h'
      rw [hst] at h2
      cases h2
      have hpl : p ≠ l ∨ True := .inr trivial
      have hSl : SqL K H' l (iv sws) := hsm.seq hS
      unfold stepR at hstep
      by_cases hn : st.length < needs c
      · rw [if_pos hn] at hstep; cases hstep
      rw [if_neg hn] at hstep
      by_cases hq : c = 63 ∧ hdL (t.drop (z.length - i)) = false
      · rw [if_pos hq] at hstep; cases hstep
      rw [if_neg hq] at hstep
      -- len(found) < NEEDS.get(sign, 0)
      refine ⟨_, rfl, p, _, rfl, .inl (SqL.of hH), _, rfl, ⟨#[c]⟩, .int (needs c : Nat), rfl, ?_, _, _, rfl, rfl, _, rfl, ?_⟩
      · show ((needsD.lookup (⟨#[c]⟩ : Str)).map V.int).getD (V.int 0) = _
        rw [look_needs]
        by_cases h0 : 0 < needs c
        · rw [if_pos h0]; rfl
        · rw [if_neg h0, show needs c = 0 by (clear hq hn hpl hc128 hcc hsl hbh hi hlen hcs k hz; omega)]; rfl
      rw [List.length_reverse, iv_len, decide_eq_false (by (clear hq hpl hc128 hcc hsl hbh hi hlen hcs k hz; omega))]
      refine iteF ?_
      -- sign == '?' and behind not in LETTERS
      refine ⟨_, rfl, rfl, _, rfl, ?_⟩
      rw [sg s63]
      have go : ∀ (D : Ends) (t1 : TS) (u1 : TS) (σ' : St), u1 D σ' H' → (if decide (c = 63) = true then (tTest (tOp (fun x y H Q => ∃ i j, x = .str i ∧ y = .str j ∧ Q (.bl (!(!(Builtin.Str.occurrences j i 0 j.length 1).isEmpty))) H) (tVar 4) (tC (.str "abcdefghij")))) [some (.str z), some (.ref l), some (.int (full : Nat)), some (.ref p), some (.str bh), some (.str ⟨#[c]⟩), s6] H' (fun b H1 => if b = true then t1 D σ' H1 else u1 D σ' H1) else (if false = true then t1 D σ' H' else u1 D σ' H')) := by
        intro D t1 u1 σ' hu1
        by_cases h63 : c = 63
        · rw [decide_eq_true h63]
          refine iteT ?_
          have hd : hdL (t.drop (z.length - i)) = true := by
            cases hh : hdL (t.drop (z.length - i)) with
            | true => rfl
            | false => exact absurd ⟨h63, hh⟩ hq
          cases er : t.drop (z.length - i) with
          | nil =>
            exfalso
            rw [er] at hst
            cases hst
            subst h63
            exact hn (by decide)
          | cons d r =>
            rw [er] at hd
            have hbd := hbh d r er
            subst hbd
            have hLd : isL d = true := hd
            refine ⟨_, rfl, _, _, rfl, rfl, _, rfl, ?_⟩
            rw [occL d (isL_128 hLd), if_pos hLd]
            exact iteF hu1
        · rw [decide_eq_false h63]
          exact iteF (iteF hu1)
      refine go _ _ _ _ ?_
      -- sign in NEEDS
      refine ⟨_, rfl, ⟨#[c]⟩, rfl, _, rfl, ?_⟩
      rw [look_needs]
      by_cases h0 : 0 < needs c
      · rw [if_pos h0] at hstep ⊢
        cases hstep
        refine iteT ?_
        refine ⟨_, rfl, _, rfl, ⟨#[c]⟩, ((needs c : Nat) : Int), rfl, by rw [look_needs, if_pos h0], p, iv st, needs c, rfl, hH, by rw [iv_len]; (exact Nat.le_of_not_lt (by assumption)), by rw [iv_len]; (clear h0 go hq hn hpl hc128 hcc hbh hi hlen hcs k; (first | (exact Nat.le_trans (by assumption) (by decide)) | omega)), fun p2 H2 np2 h2p h2l hk => ?_⟩
        have n2 : p2 ≠ p := (ne_of_none hH np2).symm
        refine ⟨_, rfl, .inl ⟨rfl, _, SqL.of h2l⟩, _, rfl, _, rfl, _, rfl, c, p2, st.take (needs c), full, rfl, SqL.of (by rw [h2p, iv_take]), h0, by rw [List.length_take]; (clear hk h0 go hq hpl hc128 hcc hsl hbh hi hlen hcs k hz; omega), p, _, _, rfl, rfl, h2l, ?_, ?_⟩
        · rw [List.length_reverse, List.length_drop, iv_len]; exact small5k (by (clear hk h0 go hq hn hpl hc128 hcc hbh hi hlen hcs k; (first | (exact Nat.le_trans (by assumption) (by decide)) | omega)))
        · refine ⟨_, rfl, hi, ?_, _, _, _, _, (by rw [ed]; exact h'), ?_, ?_, ?_, rfl⟩
          · intro b o e
            have hb : b ≠ p := ne_of_none e hp
            rw [upd_ne hb]
            exact hk b o (hsm b o e) hb
          · rw [ed]
            intro c' r' e'
            cases e'
            rfl
          · rw [List.length_cons, List.length_drop]; (clear hk h0 go hq hn hpl hc128 hcc hbh hi hlen hcs k hz; omega)
          · rw [upd_same, iv_cons, List.reverse_cons, iv_drop]
      · rw [if_neg h0] at hstep ⊢
        refine iteF ?_
        cases hv : valR sws full c with
        | none => rw [hv] at hstep; cases hstep
        | some v' =>
          rw [hv] at hstep
          cases hstep
          refine ⟨_, rfl, .inl ⟨rfl, _, SqL.of hH⟩, _, rfl, _, rfl, _, rfl, c, l, sws, full, v', rfl, hSl, hc128, hv, p, _, _, rfl, rfl, hH, ?_, ?_⟩
          · rw [List.length_reverse, iv_len]; exact small5k (by (clear h0 go hq hn hpl hc128 hcc hbh hi hlen hcs k; (first | (exact Nat.le_trans (by assumption) (by decide)) | omega)))
          · refine ⟨_, rfl, hi, ?_, _, _, _, _, (by rw [ed]; exact h'), ?_, ?_, ?_, rfl⟩
            · intro b o e
              rw [upd_ne (ne_of_none e hp)]
              exact hsm b o e
            · rw [ed]
              intro c' r' e'
              cases e'
              rfl
            · rw [List.length_cons]; (exact Nat.lt_succ_of_le (by assumption))
            · rw [upd_same, iv_cons, List.reverse_cons]
    · rintro σ H' ⟨_, hsm, st, bh, s5, s6, hst, hbh, hsl, hH, rfl⟩
      rw [Nat.sub_self, List.drop_zero, hrun] at hst
      cases hst
      refine ⟨_, rfl, p, _, rfl, .inl (SqL.of hH), rfl, _, rfl, ?_⟩
      refine iteNS rfl ?_
      exact ⟨_, rfl, p, _, _, _, rfl, rfl, SqL.of hH, atI_nat (j := 0) rfl, k _ hsm⟩
theorem sc_maskof : FnScope ["text", "n"] ["text", "n"] (defScope st_mask_of_text) := ⟨rfl, rfl, rfl, by decide +kernel, rfl, by decide +kernel, by decide +kernel⟩
theorem ok_maskof (T : All P w K mg AA DD) : FnOk P w K mg base CX0 3 AA.mask_of_text DD.mask_of_text ["text", "n"] spMaskOf := by
  have GE := ok_every (base := base) T
  have GS := ok_switch (base := base) T
  have GR := ok_reck (base := base) T
  refine T.F_mask_of_text.ok sc_maskof (fun vs H Q E h => ?_) (fun cdv A outer s H vs Q E hr h => ?_)
  · obtain ⟨z, n, v, rfl, _⟩ := h
    rfl
  · obtain ⟨z, n, v, rfl, hn, hcs, hz, hrun, k⟩ := h
    have hr1 : Room 1 _ := hr.mono (by decide)
    refine ⟨_, pss_one (ps_ret (pe_call GR hr rfl T.m_reckoned T.k_reckoned T.b_reckoned .nil pass0 (pa_cons (pv 0) (pa_cons
      (pe_comp (defScope st_mask_of_text) ["text", "n"] ["n"] [1] rfl (by exact ⟨rfl, rfl, by decide +kernel, rfl, by decide +kernel, by decide +kernel, by decide +kernel, rfl, by decide +kernel⟩) rfl rfl
        (pi_range1 rfl T.n_range (pa_cons (pv 1) pa_nil)) (fun _ _ _ _ => pif_nil) (fun _ _ _ _ => pe_call GS hr1 rfl T.m_switch_mask T.k_switch_mask T.b_switch_mask .nil pass0 (pa_cons (pv 0) (pa_cons (pv 1) pa_nil))))
      (pa_cons (pe_call GE hr1 rfl T.m_every T.k_every T.b_every .nil pass0 (pa_cons (pv 1) pa_nil)) pa_nil))))), ?_⟩
    refine ⟨_, rfl, _, rfl, _, rfl, by (solve_by_elim (maxDepth := 4) only [*, Nat.lt_of_lt_of_le, Nat.le_of_lt, Nat.succ_le_of_lt, Nat.le_refl]), by omega, ?_⟩
    rw [Int.toNat_natCast]
    refine comp_range (fun i ys H' => H' = H ∧ ys = iv ((List.range i).map fun k => sw k n)) ⟨rfl, rfl⟩ ?_ ?_
    · rintro i ys H' hi ⟨rfl, rfl⟩
      refine tYes_ok ?_
      rw [if_pos rfl]
      refine ⟨_, rfl, _, rfl, i, n, by simp, hi, hn, ?_, rfl, ?_⟩
      · rw [iv_len, List.length_map, List.length_range]; exact small5k (by (clear k hz hcs; (first | (exact Nat.le_trans (by assumption) (by decide)) | omega)))
      · rw [List.range_succ, List.map_append, List.map_singleton, iv_snoc]
    · rintro ys H' ⟨rfl, rfl⟩ p hp
      refine ⟨_, rfl, n, rfl, hn, z, p, swl n, fulln n, v, rfl, SqL.of upd_same, hcs, hz, hrun, fun H2 hs => k H2 ((same_upd hp).trans hs)⟩
theorem sc_read : FnScope ["text", "n"] ["text", "n"] (defScope st_read_wish) := ⟨rfl, rfl, rfl, by decide +kernel, rfl, by decide +kernel, by decide +kernel⟩
theorem ok_read (T : All P w K mg AA DD) : FnOk P w K mg base CX0 4 AA.read_wish DD.read_wish ["text", "n"] spMaskOf := by
  have GM := ok_maskof (base := base) T
  refine T.F_read_wish.ok sc_read (fun vs H Q E h => ?_) (fun cdv A outer s H vs Q E hr h => ?_)
  · obtain ⟨z, n, v, rfl, _⟩ := h
    rfl
  · obtain ⟨z, n, v, rfl, h⟩ := h
    refine ⟨_, pss_one (ps_ret (pe_call GM hr rfl T.m_mask_of_text T.k_mask_of_text T.b_mask_of_text .nil pass0 (pa_cons (pv 0) (pa_cons (pv 1) pa_nil)))), ?_⟩
    exact ⟨_, rfl, _, rfl, z, n, v, rfl, h⟩
end
section
variable {P : Program} {w : World} {K : PySem.W.Frag} {mg : Str → Option Value} {base : Heap} {AA : Adr} {DD : Fds}
/-! rows of words: the good ones -/
noncomputable def mka (n : Nat) (ar : List W) : Nat := ar.foldl (fun m v => m &&& v.val (swl n) (fulln n)) (fulln n)
noncomputable def rowD (n : Nat) (fs : List (Str × List W)) : List (Str × Nat) := fs.map fun p => (p.1, mka n p.2)
noncomputable def stk (n : Nat) (ar : List W) : List Nat := (List.range (ar.length + 1)).map fun i => mka n (ar.take i)
theorem mka_snoc (n : Nat) (ar : List W) (v : W) : mka n (ar ++ [v]) = mka n ar &&& v.val (swl n) (fulln n) := by simp [mka]
theorem stk_len (n : Nat) (ar : List W) : (stk n ar).length = ar.length + 1 := by simp [stk]
theorem stk_snoc (n : Nat) (ar : List W) (v : W) : stk n (ar ++ [v]) = stk n ar ++ [mka n (ar ++ [v])] := by
  unfold stk
  rw [List.length_append, List.length_singleton, List.range_succ, List.map_append]
  congr 1
  · refine List.map_congr_left fun i hi => ?_
    have := List.mem_range.mp hi
    rw [List.take_append_of_le_length (by (exact Nat.le_of_lt_succ (by assumption)))]
  · rw [List.map_singleton, List.take_of_length_le (by simp)]
theorem stk_drop (n : Nat) {ar : List W} (h : ar ≠ []) : (stk n ar).dropLast = stk n ar.dropLast := by
  obtain ⟨a, v, rfl⟩ : ∃ a v, ar = a ++ [v] := ⟨ar.dropLast, ar.getLast h, (List.dropLast_concat_getLast h).symm⟩
  rw [stk_snoc, List.dropLast_concat, List.dropLast_concat]
theorem stk_at (n : Nat) (ar : List W) : atI (iv (stk n ar)) (-1) = some (.int ((mka n ar : Nat) : Int)) := by
  rcases List.eq_nil_or_concat ar with rfl | ⟨a, v, rfl⟩
  · exact atI_last [] _
  · rw [List.concat_eq_append, stk_snoc, iv_snoc]; exact atI_last _ _
theorem stk_last (n : Nat) (ar : List W) : (stk n ar)[ar.length]? = some (mka n ar) := by
  unfold stk
  rw [List.getElem?_map, List.getElem?_range (by (exact Nat.lt_succ_self _))]
  simp
/-- tuples of a word and a mask -/
noncomputable def TupL (H : Hp) (ts : List Addr) (r : List (Str × Nat)) : Prop := ts.length = r.length ∧ ∀ (i : Nat) (t : Addr) (w : Str × Nat), ts[i]? = some t → r[i]? = some w → H t = some (.tup [.str w.1, .int ((w.2 : Nat) : Int)])
theorem TupL.nil (H : Hp) : TupL H [] [] := ⟨rfl, fun i t w h => by simp at h⟩
theorem TupL.same {H H' : Hp} {ts : List Addr} {r : List (Str × Nat)} (h : TupL H ts r) (s : Same H H') : TupL H' ts r := ⟨h.1, fun i t w a b => s _ _ (h.2 i t w a b)⟩
theorem TupL.lst {H : Hp} {ts : List Addr} {r : List (Str × Nat)} {l : Addr} {xs ys : List V} (h : TupL H ts r) (hl : H l = some (.lst xs)) : TupL (upd H l (.lst ys)) ts r :=
  ⟨h.1, fun i t w a b => by rw [upd_ne (ne_of (h.2 i t w a b) hl (by intro z; cases z))]; exact h.2 i t w a b⟩
theorem TupL.snoc {H : Hp} {ts : List Addr} {r : List (Str × Nat)} {t : Addr} {w : Str × Nat} (h : TupL H ts r) (ht : H t = some (.tup [.str w.1, .int ((w.2 : Nat) : Int)])) : TupL H (ts ++ [t]) (r ++ [w]) := by
  refine ⟨by simp [h.1], fun i u q h1 h2 => ?_⟩
  have hl := h.1
  by_cases hi : i < ts.length
  · rw [List.getElem?_append_left hi] at h1
    rw [List.getElem?_append_left (by (first | (assumption) | (exact Nat.lt_of_lt_of_le (by assumption) (by assumption)) | omega))] at h2
    exact h.2 i u q h1 h2
  · rw [List.getElem?_append_right (by (exact Nat.le_of_not_lt (by assumption)))] at h1
    rw [List.getElem?_append_right (by omega)] at h2
    have hi0 : i - ts.length = 0 := by
      cases hh : i - ts.length with
      | zero => rfl
      | succ m => rw [hh] at h1; simp at h1
    rw [← hl, hi0] at h2
    rw [hi0] at h1
    have e1 : t = u := by simpa using h1
    have e2 : w = q := by simpa using h2
    subst e1; subst e2
    exact ht
noncomputable def RowAt (H : Hp) (l : Addr) (r : List (Str × Nat)) : Prop := ∃ ts : List Addr, H l = some (.lst (ts.map V.ref)) ∧ TupL H ts r
theorem RowAt.same {H H' : Hp} {l : Addr} {r : List (Str × Nat)} (h : RowAt H l r) (s : Same H H') : RowAt H' l r := by obtain ⟨ts, a, b⟩ := h; exact ⟨ts, s _ _ a, b.same s⟩
noncomputable def spGroup : Sp := fun vs H Q _ => ∃ (v : W) (n : Nat) (x : V), vs = [.str (wd (.op v)), .int n, x] ∧ n ≤ 10 ∧ v.ok n ∧ v.signs.length ≤ 100 ∧ ∀ H', Same H H' → Q (.int (v.val (swl n) (fulln n) : Nat)) H'
noncomputable def spReadW : Sp := fun vs H Q _ => ∃ (evs : List Ev) (n : Nat) (x : V), vs = [.str (rowT evs), .int n, x] ∧ n ≤ 10 ∧ Gev n evs ∧ (rn evs).2 = [] ∧ evs.length ≤ 1000 ∧ ∀ p H', H p = none → Same H H' → RowAt H' p (rowD n (rn evs).1) → Q (.ref p) H'
theorem e_ : ("" : Str) = ⟨#[]⟩ := by decide +kernel
theorem e_gt : (">" : Str) = ⟨#[62]⟩ := by decide +kernel
theorem e_lt : ("<" : Str) = ⟨#[60]⟩ := by decide +kernel
theorem e_sp : (" " : Str) = ⟨#[32]⟩ := by decide +kernel
theorem dec_str (a b : Str) : decide (V.str a = V.str b) = decide (a = b) := by
  by_cases h : a = b
  · subst h; simp
  · rw [decide_eq_false h]; exact decide_eq_false fun z => h (by injection z)
theorem starts_op (v : W) : (0 + ("<" : Str).length ≤ (wd (.op v)).length && Builtin.Str.subAt (wd (.op v)) "<" 0) = true := by
  rw [e_lt]
  have : (⟨#[60]⟩ : Str).length = 1 := rfl
  simp [wd, Builtin.Str.subAt, Str.length]
noncomputable abbrev N_words_of : List Str := ["row"]
theorem sc_words_of : FnScope N_words_of ["row"] (defScope st_words_of) := ⟨rfl, rfl, rfl, by decide +kernel, rfl, by decide +kernel, by decide +kernel⟩
noncomputable abbrev N_group_mask : List Str := ["word", "n", "at"]
theorem sc_group_mask : FnScope N_group_mask ["word", "n", "at"] (defScope st_group_mask) := ⟨rfl, rfl, rfl, by decide +kernel, rfl, by decide +kernel, by decide +kernel⟩
theorem ok_group (T : All P w K mg AA DD) : FnOk P w K mg base CX0 5 AA.group_mask DD.group_mask ["word", "n", "at"] spGroup := by
  have GR := ok_read (base := base) T
  refine T.F_group_mask.ok sc_group_mask (fun vs H Q E h => ?_) (fun cdv A outer s H vs Q E hr h => ?_)
  · obtain ⟨v, n, x, rfl, _⟩ := h
    rfl
  · obtain ⟨v, n, x, rfl, hn, hv, hl, k⟩ := h
    have hr4 : Room 4 _ := hr.mono (by decide)
    refine ⟨_, (@pss_one _ _ _ (ps_tryok (@pss_one _ _ _ (@ps_ret _ _ _ _ (pe_call GR hr4 rfl T.m_read_wish T.k_read_wish T.b_read_wish .nil pass0 (@pa_cons _ _ _ _ _ (pe_slice sl_str (pv 0) (po_some pe_int) po_none) (@pa_cons _ _ _ _ _ (pv 1) pa_nil (by rfl)) (by rfl))))))), ?_⟩
    have hwl : (wd (.op v)).length ≤ sizeLine := Nat.le_of_lt (small1000 (by simp [wd, Str.length]; (exact Nat.le_trans (by assumption) (by decide))))
    have ec : cutS (wd (.op v)) (some 1) none = wst v := str_ext (by rw [show (1 : Int) = ((1 : Nat) : Int) from rfl, cutS_from]; rfl)
    refine ⟨_, rfl, _, rfl, _, rfl, hwl, ?_⟩
    rw [ec]
    refine ⟨_, rfl, wst v, n, v.val (swl n) (fulln n), rfl, hn, signs_128 hn v hv, (by show v.signs.toArray.size ≤ 4000; simp; (exact Nat.le_trans (by assumption) (by decide))), run_wish (by rw [swl_len']; exact Nat.le_refl _) hn hv, fun H' hs => k H' hs⟩
noncomputable abbrev N_read_words : List Str := ["row", "n", "at", "plain", "masks", "word"]
theorem sc_read_words : FnScope N_read_words ["row", "n", "at"] (defScope st_read_words) := ⟨rfl, rfl, rfl, by decide +kernel, rfl, by decide +kernel, by decide +kernel⟩
end
section
variable {P : Program} {w : World} {K : PySem.W.Frag} {mg : Str → Option Value} {base : Heap} {AA : Adr} {DD : Fds}
noncomputable def textT (rws : List (List Ev)) : Str := Str.join ⟨#[10]⟩ (rws.map rowT)
noncomputable def RowsAt (H : Hp) (p : Addr) (ls : List Addr) (rows : List (List (Str × Nat))) : Prop := H p = some (.lst (ls.map V.ref)) ∧ ls.length = rows.length ∧ ∀ (i : Nat) (l : Addr) (r : List (Str × Nat)), ls[i]? = some l → rows[i]? = some r → RowAt H l r
theorem RowsAt.same {H H' : Hp} {p : Addr} {ls : List Addr} {rows : List (List (Str × Nat))} (h : RowsAt H p ls rows) (s : Same H H') : RowsAt H' p ls rows := ⟨s _ _ h.1, h.2.1, fun i l r a b => (h.2.2 i l r a b).same s⟩
noncomputable def Grs (n : Nat) (rws : List (List Ev)) : Prop := rws ≠ [] ∧ rws.length ≤ 60 ∧ ∀ evs ∈ rws, Gev n evs ∧ (rn evs).2 = [] ∧ evs.length ≤ 100
noncomputable def rowsD (n : Nat) (rws : List (List Ev)) : List (List (Str × Nat)) := rws.map fun evs => rowD n (rn evs).1
noncomputable def spReadR : Sp := fun vs H Q _ => ∃ (rws : List (List Ev)) (n : Nat), vs = [.str (textT rws), .int n] ∧ n ≤ 10 ∧ Grs n rws ∧ ∀ p ls H', H p = none → Same H H' → RowsAt H' p ls (rowsD n rws) → Q (.ref p) H'
theorem e_nl : ("\n" : Str) = ⟨#[10]⟩ := by decide +kernel
theorem textT_split {n : Nat} (hn : n ≤ 10) {rws : List (List Ev)} (g : Grs n rws) : Txt.split (textT rws) ⟨#[10]⟩ = rws.map rowT :=
  split_join (by simpa using g.1) fun z hz hc => by
    obtain ⟨evs, he, rfl⟩ := List.mem_map.mp hz
    have := rowT_sg hn (g.2.2 evs he).1 10 hc
    (contradiction)
theorem textT_len {n : Nat} (hn : n ≤ 10) {rws : List (List Ev)} (g : Grs n rws) : (textT rws).length ≤ 700000 := by
  rw [str_len, textT, join_list]
  refine Nat.le_trans (jl_len _) ?_
  have := sum_le (l := ((rws.map rowT).map fun z => z.cps.toList).map List.length) (b := 10200) (fun x hx => by
    obtain ⟨l, hl, rfl⟩ := List.mem_map.mp hx
    obtain ⟨z, hz, rfl⟩ := List.mem_map.mp hl
    obtain ⟨evs, he, rfl⟩ := List.mem_map.mp hz
    have h1 := rowT_len hn (g.2.2 evs he).1
    have h2 := (g.2.2 evs he).2.2
    rw [str_len] at h1
    (first | (exact Nat.le_trans (by assumption) (by decide)) | (clear hn; omega) | omega))
  have h60 := g.2.1
  simp only [List.length_map] at this ⊢
  (first | (exact Nat.le_trans (by assumption) (by decide)) | (exact Nat.le_trans hL5 (by decide)) | (clear hn; omega) | omega)
noncomputable abbrev N_read_rows : List Str := ["text", "n"]
theorem sc_read_rows : FnScope N_read_rows ["text", "n"] (defScope st_read_rows) := ⟨rfl, rfl, rfl, by decide +kernel, rfl, by decide +kernel, by decide +kernel⟩
end
section
variable {P : Program} {w : World} {K : PySem.W.Frag} {mg : Str → Option Value} {base : Heap} {AA : Adr} {DD : Fds}
theorem full_and {n m : Nat} (hm : m < 2 ^ 2 ^ n) : fulln n &&& m = m := by
  unfold fulln
  rw [Nat.and_comm, Nat.and_two_pow_sub_one_of_lt_two_pow hm]
theorem iteFb {c : Bool} {a b : Prop} (h : c = false) (k : b) : if c = true then a else b := by rw [h]; exact k
theorem iteTb {c : Bool} {a b : Prop} (h : c = true) (k : a) : if c = true then a else b := by rw [h]; exact k
/-! tidying -/
noncomputable def spIsWh : Sp := fun vs H Q _ => ∃ i : Int, vs = [.int i] ∧ Q (.bl true) H
noncomputable abbrev N_is_whole : List Str := ["value"]
theorem sc_is_whole : FnScope N_is_whole ["value"] (defScope st_is_whole) := ⟨rfl, rfl, rfl, by decide +kernel, rfl, by decide +kernel, by decide +kernel⟩
theorem ok_iswh (T : All P w K mg AA DD) : FnOk P w K mg base CX0 1 AA.is_whole DD.is_whole ["value"] spIsWh := by
  refine T.F_is_whole.ok sc_is_whole (fun vs H Q E h => ?_) (fun cdv A outer s H vs Q E hr h => ?_)
  · obtain ⟨x, rfl, _⟩ := h
    rfl
  · obtain ⟨i, rfl, k⟩ := h
    refine ⟨_, (@pss_one _ _ _ (@ps_ret _ _ _ _ (pe_and (pe_callB (call_isinst (n := "int")) rfl T.n_isinstance bt_isi (@pa_cons _ _ _ _ _ (pv 0) (@pa_cons _ _ _ _ _ (pe_bltn (v := .ty "int") rfl T.n_int bt_int rfl) pa_nil (by rfl)) (by rfl))) (pe_one (pe_not (pe_callB (call_isinst (n := "bool")) rfl T.n_isinstance bt_isi (@pa_cons _ _ _ _ _ (pv 0) (@pa_cons _ _ _ _ _ (pe_bltn (v := .ty "bool") rfl T.n_bool bt_bool rfl) pa_nil (by rfl)) (by rfl)))))))), ?_⟩
    refine ⟨_, rfl, _, _, true, rfl, .int _, kit_int_int _, _, rfl, ?_⟩
    rw [if_pos rfl]
    exact ⟨_, rfl, _, _, false, rfl, .int _, kit_int_bool _, _, rfl, k⟩
noncomputable def spIsMask : Sp := fun vs H Q _ => ∃ m n : Nat, vs = [.int ((m : Nat) : Int), .int ((n : Nat) : Int)] ∧ n ≤ 10 ∧ m < 2 ^ 2 ^ n ∧ Q (.bl true) H
noncomputable abbrev N_is_mask : List Str := ["value", "n"]
theorem sc_is_mask : FnScope N_is_mask ["value", "n"] (defScope st_is_mask) := ⟨rfl, rfl, rfl, by decide +kernel, rfl, by decide +kernel, by decide +kernel⟩
theorem ok_ismask (T : All P w K mg AA DD) : FnOk P w K mg base CX0 2 AA.is_mask DD.is_mask ["value", "n"] spIsMask := by
  have GH0 := ok_iswh (base := base) T
  have GE := ok_every (base := base) T
  refine T.F_is_mask.ok sc_is_mask (fun vs H Q E h => ?_) (fun cdv A outer s H vs Q E hr h => ?_)
  · obtain ⟨m, n, rfl, _⟩ := h
    rfl
  · obtain ⟨m, n, rfl, hn, hm, k⟩ := h
    have hr1 : Room 1 _ := hr
    refine ⟨_, (@pss_one _ _ _ (@ps_ret _ _ _ _ (pe_and (pe_call GH0 hr1 rfl T.m_is_whole T.k_is_whole T.b_is_whole .nil pass0 (@pa_cons _ _ _ _ _ (pv 0) pa_nil (by rfl))) (pe_and (@pe_cmpR _ _ _ _ _ _ _ _ op_ge (pv 0) pe_int (nomark _)) (pe_one (@pe_cmpR _ _ _ _ _ _ _ _ op_le (pv 0) (pe_call GE hr1 rfl T.m_every T.k_every T.b_every .nil pass0 (@pa_cons _ _ _ _ _ (pv 1) pa_nil (by rfl))) (nomark _))))))), ?_⟩
    refine ⟨_, rfl, _, rfl, _, rfl, ?_⟩
    refine iteT ?_
    refine ⟨_, rfl, _, _, rfl, rfl, _, rfl, ?_⟩
    rw [decide_eq_true (show (0 : Int) ≤ ((m : Nat) : Int) by (exact Int.natCast_nonneg _))]
    refine iteT ?_
    refine ⟨_, rfl, _, rfl, n, rfl, hn, _, _, rfl, rfl, ?_⟩
    dsimp only
    rw [decide_eq_true (show ((m : Nat) : Int) ≤ ((fulln n : Nat) : Int) by unfold fulln; (clear hn; omega))]
    exact k
noncomputable def spAsk : Sp := fun vs H Q _ => ∃ m n : Nat, vs = [.int ((m : Nat) : Int), .int ((n : Nat) : Int)] ∧ n ≤ 10 ∧ m < 2 ^ 2 ^ n ∧ Q .non H
noncomputable abbrev N_ask_rule : List Str := ["rule", "n"]
theorem sc_ask_rule : FnScope N_ask_rule ["rule", "n"] (defScope st_ask_rule) := ⟨rfl, rfl, rfl, by decide +kernel, rfl, by decide +kernel, by decide +kernel⟩
theorem ok_ask (T : All P w K mg AA DD) : FnOk P w K mg base CX0 3 AA.ask_rule DD.ask_rule ["rule", "n"] spAsk := by
  have GM := ok_ismask (base := base) T
  refine T.F_ask_rule.ok sc_ask_rule (fun vs H Q E h => ?_) (fun cdv A outer s H vs Q E hr h => ?_)
  · obtain ⟨m, n, rfl, _⟩ := h
    rfl
  · obtain ⟨m, n, rfl, hn, hm, k⟩ := h
    have hr2 : Room 2 _ := hr
    refine ⟨_, (@pss_one _ _ _ (@ps_if _ _ _ _ _ _ _ _ (pt_not (pt_val (pe_call GM hr2 rfl T.m_is_mask T.k_is_mask T.b_is_mask .nil pass0 (@pa_cons _ _ _ _ _ (pv 0) (@pa_cons _ _ _ _ _ (pv 1) pa_nil (by rfl)) (by rfl))))) pss_never pss_nil)), ?_⟩
    refine ⟨_, rfl, _, rfl, m, n, rfl, hn, hm, _, rfl, iteF ?_⟩
    exact k
theorem weighT {zs : List Str} {b k : Nat} (h : ∀ z ∈ zs, z.length ≤ b) (hk : zs.length ≤ k) (hb : k * b + k ≤ 1048576) : (zs.map (·.length)).sum + zs.length ≤ 1048576 := by
  have := sum_le (l := zs.map (·.length)) (b := b) (fun y hy => by
    obtain ⟨z, hz, rfl⟩ := List.mem_map.mp hy
    exact h z hz)
  rw [List.length_map] at this
  have h2 : zs.length * b ≤ k * b := Nat.mul_le_mul_right _ hk
  (first | (exact Nat.le_trans (by assumption) (by decide)) | omega)
theorem joinLe {c b : Nat} {zs : List Str} (h : ∀ z ∈ zs, z.length ≤ b) : (Str.join ⟨#[c]⟩ zs).length ≤ zs.length * b + zs.length := by
  rw [str_len, join_list]
  refine Nat.le_trans (jl_len _) ?_
  have := sum_le (l := (zs.map fun z => z.cps.toList).map List.length) (b := b) (fun x hx => by
    obtain ⟨l, hl, rfl⟩ := List.mem_map.mp hx
    obtain ⟨z, hz, rfl⟩ := List.mem_map.mp hl
    have := h z hz
    rw [str_len] at this
    exact this)
  simp only [List.length_map] at this ⊢
  omega
/-- a row that stands in all or in none -/
noncomputable def FlatR (n : Nat) (r : List (Str × Nat)) : Prop := r.length ≤ 33 ∧ ∀ w ∈ r, (w.2 = 0 ∨ w.2 = fulln n) ∧ w.1.length ≤ 5
/-- what came together: nothing, or one -/
noncomputable def Fd (B H : Hp) (p : Addr) (m k : Nat) : Prop := H p = some (.lst []) ∨ ∃ (t l : Addr) (ws : List Str), H p = some (.lst [.ref t]) ∧ H t = some (.tup [.int ((m : Nat) : Int), .ref l]) ∧ H l = some (.lst (ws.map V.str)) ∧ m ≠ 0 ∧ B l = none ∧ l ≠ p ∧ ws.length ≤ k ∧ ∀ z ∈ ws, z.length ≤ 5
noncomputable def spCome : Sp := fun vs H Q _ => ∃ (l : Addr) (r : List (Str × Nat)) (n m : Nat), vs = [.ref l, .int ((m : Nat) : Int)] ∧ m < 2 ^ 2 ^ n ∧ RowAt H l r ∧ FlatR n r ∧ ∀ p H', H p = none → Same H H' → Fd H H' p m 33 → Q (.ref p) H'
noncomputable abbrev N_come_together : List Str := ["row", "rule", "found", "word", "mask", "here"]
theorem sc_come_together : FnScope N_come_together ["row", "rule"] (defScope st_come_together) := ⟨rfl, rfl, rfl, by decide +kernel, rfl, by decide +kernel, by decide +kernel⟩
theorem ok_come (T : All P w K mg AA DD) : FnOk P w K mg base CX0 1 AA.come_together DD.come_together ["row", "rule"] spCome := by
  refine T.F_come_together.ok sc_come_together (fun vs H Q E h => ?_) (fun cdv A outer s H vs Q E hr h => ?_)
  · obtain ⟨l, r, n, m, rfl, _⟩ := h
    rfl
  · obtain ⟨l, r, n, m, rfl, hm, ⟨rts, hrts, hrl, hat⟩, ⟨hr33, hfl⟩, k⟩ := h
    have nd := sc_come_together.nd
    refine ⟨_, (@pss_cons _ _ _ _ _ (@ps_set _ _ 2 _ _ _ _ nd rfl (Or.inl rfl) (@pe_lst _ _ _ _ pa_nil) (by rfl) (by first | exact .inl rfl | exact .inr rfl | assumption)) (@pss_cons _ _ _ _ _ (@ps_for _ _ _ _ _ _ _ _ PassesOwn.never rfl (pi_list (pv 0)) (pg_tup rfl (pgs_cons (pg_name (i := 3) nd rfl (Or.inl rfl)) (pgs_cons (pg_name (i := 4) nd rfl (Or.inl rfl)) pgs_nil))) (@pss_cons _ _ _ _ _ (@ps_set _ _ 5 _ _ _ _ nd rfl (Or.inl rfl) (@pe_op _ _ _ _ _ _ _ _ op_and (pv 4) (pv 1)) (by rfl) (by first | exact .inl rfl | exact .inr rfl | assumption)) (@pss_one _ _ _ (@ps_if _ _ _ _ _ _ _ _ (PW.pt (pw_and (@pt_cmpR _ _ _ _ _ _ _ _ op_gt (pe_callB call_len_seq rfl T.n_len bt_len (@pa_cons _ _ _ _ _ (pv 2) pa_nil (by rfl))) pe_int (nomark _)) (pw_and1 (@pt_cmpR _ _ _ _ _ _ _ _ op_eq (@pe_ix _ _ _ _ _ _ _ (ix_tupK (K := K) rfl) (@pe_ix _ _ _ _ _ _ _ (ix_listK (K := K) rfl) (pv 2) (pe_un un_neg pe_int) (fun _ _ => rfl)) pe_int (fun _ _ => rfl)) (pv 5) (nomark _))))) (@pss_one _ _ _ (@ps_expr _ _ _ _ (pe_bm PySem.F.plainAttrs_list PySem.F.slot_list_append PySem.F.type_list_append mt_append (@pe_ix _ _ _ _ _ _ _ (ix_tupK (K := K) rfl) (@pe_ix _ _ _ _ _ _ _ (ix_listK (K := K) rfl) (pv 2) (pe_un un_neg pe_int) (fun _ _ => rfl)) pe_int (fun _ _ => rfl)) (@pa_cons _ _ _ _ _ (pv 3) pa_nil (by rfl))) (by rfl))) (@pss_one _ _ _ (@ps_if _ _ _ _ _ _ _ _ (@pt_cmpR _ _ _ _ _ _ _ _ op_ne (pv 5) pe_int (nomark _)) (@pss_one _ _ _ (@ps_expr _ _ _ _ (pe_bm PySem.F.plainAttrs_list PySem.F.slot_list_append PySem.F.type_list_append mt_append (pv 2) (@pa_cons _ _ _ _ _ (@pe_tup _ _ _ _ _ (@pa_cons _ _ _ _ _ (pv 5) (@pa_cons _ _ _ _ _ (@pe_lst _ _ _ _ (@pa_cons _ _ _ _ _ (pv 3) pa_nil (by rfl))) pa_nil (by rfl)) (by rfl))) pa_nil (by rfl))) (by rfl))) pss_nil))))) (by intro _; rfl)) (@pss_one _ _ _ (@ps_ret _ _ _ _ (pv 2))))), ?_⟩
    refine ⟨Nat.zero_le _, fun p hp => ?_⟩
    try dsimp only [gName]
    refine cut_for (fun σ' H' => Same H H' ∧ Fd H H' p m 33 ∧ ∃ x3 x4 x5 : Option V, σ' = [some (.ref l), some (.int ((m : Nat) : Int)), some (.ref p), x3, x4, x5]) (fun R hR => ?_) ?_
    · refine ⟨_, rfl, l, rfl, ⟨_, SqL.of (same_upd hp _ _ hrts)⟩, ?_⟩
      refine for_list (K := K) (a := l) (xs := rts.map V.ref) (D := ⟨R, _, R, R⟩) (fun i σ' H' => Same H H' ∧ i ≤ 33 ∧ Fd H H' p m i ∧ ∃ x3 x4 x5 : Option V, σ' = [some (.ref l), some (.int ((m : Nat) : Int)), some (.ref p), x3, x4, x5])
        ⟨same_upd hp, Nat.zero_le _, .inl upd_same, none, none, none, rfl⟩ (fun i σ' H' _ z => SqL.of (z.1 _ _ hrts)) ?_ ?_
      · rintro i x σ' H1 hx ⟨sm, _, hC, x3, x4, x5, rfl⟩
        have hi : i < rts.length := by
          have := (List.getElem?_eq_some_iff.mp hx).1
          rw [List.length_map] at this; exact this
        have hir : i < r.length := by rw [← hrl]; exact hi
        have ex : x = V.ref rts[i] := by rw [List.getElem?_map, List.getElem?_eq_getElem hi] at hx; exact (Option.some.inj hx).symm
        subst ex
        have htu := sm _ _ (hat i rts[i] r[i] (List.getElem?_eq_getElem hi) (List.getElem?_eq_getElem hir))
        obtain ⟨hw0, hw5⟩ := hfl r[i] (List.getElem_mem hir)
        have hi33 : i + 1 ≤ 33 := Nat.le_trans hir hr33
        generalize r[i] = wv at htu hw0 hw5 ⊢
        have hv : wv.2 &&& m = 0 ∨ wv.2 &&& m = m := by
          rcases hw0 with q | q
          · exact .inl (by rw [q, Nat.zero_and])
          · exact .inr (by rw [q, full_and hm])
        refine ⟨rts[i], _, rfl, SqT.of htu, rfl, _, _, rfl, _, _, rfl, rfl, ?_⟩
        try dsimp only [gName]
        refine ⟨_, rfl, _, rfl, _, _, rfl, rfl, ?_⟩
        try dsimp only [gName]
        rw [bitAnd_nat]
        generalize wv.2 &&& m = h at hv ⊢
        rcases hC with h1 | ⟨t, lw, ws, h1, h2, h3, hm0, hB, hne, hwl, hw⟩
        · refine ⟨_, rfl, p, _, rfl, .inl (SqL.of h1), _, _, rfl, rfl, _, rfl, ?_⟩
          refine iteF (iteF ?_)
          refine ⟨_, rfl, rfl, _, rfl, ?_⟩
          by_cases h0 : h = 0
          · rw [decide_eq_true (by rw [h0]; rfl)]
            refine iteF ?_
            exact ⟨sm, hi33, .inl h1, _, _, _, rfl⟩
          · rw [decide_eq_false (fun z => h0 (Int.ofNat.inj (by injection z)))]
            refine iteT ?_
            refine ⟨_, rfl, .inl ⟨rfl, _, SqL.of h1⟩, _, rfl, _, rfl, (by show 1 ≤ sizeLine; decide), fun nl hnl => ⟨(by show 2 ≤ sizeLine; decide), fun nt hnt => ?_⟩⟩
            have s1 := same_upd (o := .lst [V.str wv.1]) hnl
            have s2 := same_upd (o := .tup [V.int ((h : Nat) : Int), V.ref nl]) hnt
            have ehm : h = m := hv.resolve_left h0
            refine ⟨p, _, _, rfl, rfl, s2 _ _ (s1 _ _ h1), by decide, ?_⟩
            have npl : nl ≠ p := fun z => by rw [z] at hnl; rw [h1] at hnl; cases hnl
            have npt : nt ≠ p := fun z => by rw [z] at hnt; rw [s1 _ _ h1] at hnt; cases hnt
            have hBn : H nl = none := by
              cases e : H nl with
              | none => rfl
              | some o => rw [sm _ _ e] at hnl; cases hnl
            refine ⟨same_put ((sm.trans s1).trans s2) hp, hi33, .inr ⟨nt, nl, [wv.1], upd_same, by rw [upd_ne npt, upd_same, ehm], by rw [upd_ne npl]; exact s2 _ _ upd_same, by rw [← ehm]; exact h0, hBn, npl, Nat.succ_le_succ (Nat.zero_le i), fun z hz => by rw [List.mem_singleton.mp hz]; exact hw5⟩, _, _, _, rfl⟩
        · refine ⟨_, rfl, p, _, rfl, .inl (SqL.of h1), _, _, rfl, rfl, _, rfl, ?_⟩
          refine iteT ?_
          have hlast : atI [V.ref t] (-1) = some (V.ref t) := atI_last [] _
          refine ⟨_, rfl, _, rfl, p, _, _, _, rfl, rfl, SqL.of h1, hlast, t, _, _, _, rfl, rfl, SqT.of h2, rfl, _, rfl, rfl, _, rfl, ?_⟩
          by_cases he : m = h
          · rw [decide_eq_true (by rw [he])]
            refine iteT ?_
            refine ⟨_, rfl, _, rfl, p, _, _, _, rfl, rfl, SqL.of h1, hlast, t, _, _, _, rfl, rfl, SqT.of h2, rfl, .inl ⟨rfl, _, SqL.of h3⟩, _, rfl, lw, _, _, rfl, rfl, h3, by rw [List.length_map]; exact small1000 (Nat.le_trans hwl (Nat.le_trans (Nat.le_of_succ_le hi33) (by decide))), ?_⟩
            have ntl : t ≠ lw := ne_of h2 h3 (by intro z; cases z)
            refine ⟨same_put sm hB, hi33, .inr ⟨t, lw, ws ++ [wv.1], by rw [upd_ne (Ne.symm hne)]; exact h1, by rw [upd_ne ntl]; exact h2, by rw [upd_same, List.map_append]; rfl, hm0, hB, hne, by rw [List.length_append]; exact Nat.succ_le_succ hwl, fun z hz => ?_⟩, _, _, _, rfl⟩
            rcases List.mem_append.mp hz with q | q
            · exact hw z q
            · rw [List.mem_singleton.mp q]; exact hw5
          · rw [decide_eq_false (fun z => he (Int.ofNat.inj (by injection z)))]
            refine iteF ?_
            refine ⟨_, rfl, rfl, _, rfl, ?_⟩
            rw [hv.resolve_right (Ne.symm he)]
            refine iteF ?_
            exact ⟨sm, hi33, .inr ⟨t, lw, ws, h1, h2, h3, hm0, hB, hne, Nat.le_succ_of_le hwl, hw⟩, _, _, _, rfl⟩
      · rintro σ' H1 ⟨sm, hi, hC, x⟩
        refine hR _ _ ⟨sm, ?_, x⟩
        rcases hC with h1 | ⟨t, lw, ws, h1, h2, h3, hm0, hB, hne, hwl, hw⟩
        · exact .inl h1
        · exact .inr ⟨t, lw, ws, h1, h2, h3, hm0, hB, hne, Nat.le_trans hwl hi, hw⟩
    rintro σ' H1 ⟨sm, hC, x3, x4, x5, rfl⟩
    exact ⟨_, rfl, k p _ hp sm hC⟩
noncomputable def spTRow : Sp := fun vs H Q _ => ∃ (l : Addr) (r : List (Str × Nat)) (n m : Nat), vs = [.ref l, .int ((n : Nat) : Int), .int ((m : Nat) : Int)] ∧ m < 2 ^ 2 ^ n ∧ RowAt H l r ∧ FlatR n r ∧ ∀ z H', z.length ≤ 500 → Same H H' → Q (.str z) H'
noncomputable abbrev N_in_group : List Str := ["row", "mask", "n"]
theorem sc_in_group : FnScope N_in_group ["row", "mask", "n"] (defScope st_in_group) := ⟨rfl, rfl, rfl, by decide +kernel, rfl, by decide +kernel, by decide +kernel⟩
noncomputable abbrev N_tidied_row : List Str := ["row", "n", "rule", "pieces", "mask", "words", "piece"]
theorem sc_tidied_row : FnScope N_tidied_row ["row", "n", "rule"] (defScope st_tidied_row) := ⟨rfl, rfl, rfl, by decide +kernel, rfl, by decide +kernel, by decide +kernel⟩
theorem ok_trow (T : All P w K mg AA DD) : FnOk P w K mg base CX0 16 AA.tidied_row DD.tidied_row ["row", "n", "rule"] spTRow := by
  have GC := ok_come (base := base) T
  have GG : FnOk P w K mg base CX0 15 AA.in_group DD.in_group ["row", "mask", "n"] (fun _ _ _ _ => False) := T.F_in_group.ok sc_in_group (fun vs H Q E h => h.elim) (fun cdv A outer s H vs Q E hr h => h.elim)
  refine T.F_tidied_row.ok sc_tidied_row (fun vs H Q E h => ?_) (fun cdv A outer s H vs Q E hr h => ?_)
  · obtain ⟨l, r, n, m, rfl, _⟩ := h
    rfl
  · obtain ⟨l, r, n, m, rfl, hm, hRow, hF, k⟩ := h
    have nd := sc_tidied_row.nd
    have hr1 : Room 1 _ := hr.mono (by decide)
    have hrG : Room 15 _ := hr
    refine ⟨_, (@pss_cons _ _ _ _ _ (@ps_set _ _ 3 _ _ _ _ nd rfl (Or.inl rfl) (@pe_lst _ _ _ _ pa_nil) (by rfl) (by first | exact .inl rfl | exact .inr rfl | assumption)) (@pss_cons _ _ _ _ _ (@ps_for _ _ _ _ _ _ _ _ PassesOwn.never rfl (pi_list (pe_call GC hr1 rfl T.m_come_together T.k_come_together T.b_come_together .nil pass0 (@pa_cons _ _ _ _ _ (pv 0) (@pa_cons _ _ _ _ _ (pv 2) pa_nil (by rfl)) (by rfl)))) (pg_tup rfl (pgs_cons (pg_name (i := 4) nd rfl (Or.inl rfl)) (pgs_cons (pg_name (i := 5) nd rfl (Or.inl rfl)) pgs_nil))) (@pss_cons _ _ _ _ _ (@ps_set _ _ 6 _ _ _ _ nd rfl (Or.inl rfl) (pe_bmK (K := K) rfl PySem.F.plainAttrs_str PySem.F.slot_str_join PySem.F.type_str_join (mt_join (K := K) rfl) pe_str (@pa_cons _ _ _ _ _ (pv 5) pa_nil (by rfl))) (by rfl) (by first | exact .inl rfl | exact .inr rfl | assumption)) (@pss_one _ _ _ (@ps_expr _ _ _ _ (pe_bm PySem.F.plainAttrs_list PySem.F.slot_list_append PySem.F.type_list_append mt_append (pv 3) (@pa_cons _ _ _ _ _ (pe_ifExp (@pt_cmpR _ _ _ _ _ _ _ _ op_eq (pv 4) (pv 2) (nomark _)) (pv 6) (pe_call GG hrG rfl T.m_in_group T.k_in_group T.b_in_group .nil pass0 (@pa_cons _ _ _ _ _ (pv 6) (@pa_cons _ _ _ _ _ (pv 4) (@pa_cons _ _ _ _ _ (pv 1) pa_nil (by rfl)) (by rfl)) (by rfl)))) pa_nil (by rfl))) (by rfl)))) (by intro _; rfl)) (@pss_one _ _ _ (@ps_ret _ _ _ _ (pe_bmK (K := K) rfl PySem.F.plainAttrs_str PySem.F.slot_str_join PySem.F.type_str_join (mt_join (K := K) rfl) pe_str (@pa_cons _ _ _ _ _ (pv 3) pa_nil (by rfl))))))), ?_⟩
    refine ⟨Nat.zero_le _, fun pp hpp => ?_⟩
    try dsimp only [gName]
    refine cut_for (fun σ' H' => Same H H' ∧ ∃ (ps : List Str) (x4 x5 x6 : Option V), ps.length ≤ 1 ∧ (∀ z ∈ ps, z.length ≤ 200) ∧ H' pp = some (.lst (ps.map V.str)) ∧ σ' = [some (.ref l), some (.int ((n : Nat) : Int)), some (.int ((m : Nat) : Int)), some (.ref pp), x4, x5, x6]) (fun R hR => ?_) ?_
    · refine ⟨_, rfl, _, rfl, l, r, n, m, rfl, hm, hRow.same (same_upd hpp), hF, fun p H1 hp s1 hC => ?_⟩
      have hpp1 := s1 _ _ (upd_same (H := H) (a := pp) (o := .lst []))
      have sH : Same H H1 := (same_upd hpp).trans s1
      have npp : p ≠ pp := fun z => by rw [z, upd_same] at hp; cases hp
      obtain ⟨ts, h1, hl1, ht⟩ : ∃ ts : List Addr, H1 p = some (.lst (ts.map V.ref)) ∧ ts.length ≤ 1 ∧ ∀ t ∈ ts, ∃ (lw : Addr) (ws : List Str), H1 t = some (.tup [.int ((m : Nat) : Int), .ref lw]) ∧ H1 lw = some (.lst (ws.map V.str)) ∧ lw ≠ pp ∧ ws.length ≤ 33 ∧ ∀ z ∈ ws, z.length ≤ 5 := by
        rcases hC with h1 | ⟨t, lw, ws, h1, h2, h3, hm0, hB, hne, hwl, hw⟩
        · exact ⟨[], h1, Nat.zero_le _, fun t h => nomatch h⟩
        · refine ⟨[t], h1, Nat.le_refl _, fun t' h => ?_⟩
          rw [List.mem_singleton.mp h]
          exact ⟨lw, ws, h2, h3, (fun z => by rw [z, upd_same] at hB; cases hB), hwl, hw⟩
      refine ⟨p, rfl, ⟨_, SqL.of h1⟩, ?_⟩
      refine for_list (K := K) (a := p) (xs := ts.map V.ref) (D := ⟨R, _, R, R⟩) (fun i σ' H' => Same H H' ∧ (∀ b u, b ≠ pp → H1 b = some u → H' b = some u) ∧ ∃ (ps : List Str) (x4 x5 x6 : Option V), ps.length = i ∧ (∀ z ∈ ps, z.length ≤ 200) ∧ H' pp = some (.lst (ps.map V.str)) ∧ σ' = [some (.ref l), some (.int ((n : Nat) : Int)), some (.int ((m : Nat) : Int)), some (.ref pp), x4, x5, x6])
        ⟨sH, fun _ _ _ z => z, [], none, none, none, rfl, (fun z h => nomatch h), hpp1, rfl⟩ (fun i σ' H' _ z => SqL.of (z.2.1 _ _ npp h1)) ?_ ?_
      · rintro i x σ' H2 hx ⟨sm, sb, ps, x4, x5, x6, hpl, hpz, hP, rfl⟩
        rw [List.getElem?_map] at hx
        obtain ⟨t, et, rfl⟩ := Option.map_eq_some_iff.mp hx
        obtain ⟨lw, ws, h2, h3, hne, hwl, hw⟩ := ht t (List.mem_of_getElem? et)
        have ntp : t ≠ pp := ne_of h2 hpp1 (by intro z; cases z)
        have h2 := sb _ _ ntp h2
        have h3 := sb _ _ hne h3
        have hj := joinLe (c := 32) (b := 5) (zs := ws) hw
        have hjl : (Str.join ⟨#[32]⟩ ws).length ≤ 200 := Nat.le_trans hj (Nat.le_trans (Nat.add_le_add (Nat.mul_le_mul_right 5 hwl) hwl) (by decide))
        refine ⟨t, _, rfl, SqT.of h2, rfl, _, _, rfl, _, _, rfl, rfl, ?_⟩
        try dsimp only [gName]
        refine ⟨rfl, _, rfl, _, lw, _, rfl, rfl, SqL.of h3, (by rw [e_sp]; decide), weighT (b := 5) (k := 33) hw hwl (by decide), ?_⟩
        rw [e_sp]
        try dsimp only [gName]
        refine ⟨_, rfl, .inl ⟨rfl, _, SqL.of hP⟩, _, rfl, _, rfl, rfl, _, rfl, ?_⟩
        rw [decide_eq_true rfl]
        refine iteT ?_
        have hi1 : i < 1 := Nat.lt_of_lt_of_le (List.getElem?_eq_some_iff.mp et).1 hl1
        refine ⟨_, rfl, pp, _, _, rfl, rfl, hP, by rw [List.length_map, hpl]; exact small1000 (Nat.le_trans (Nat.le_of_lt hi1) (by decide)), ?_⟩
        refine ⟨same_put sm hpp, fun b u hb e => by rw [upd_ne hb]; exact sb b u hb e, ps ++ [Str.join ⟨#[32]⟩ ws], _, _, _, by rw [List.length_append, hpl]; rfl, fun z hz => ?_, by rw [upd_same, List.map_append]; rfl, rfl⟩
        rcases List.mem_append.mp hz with q | q
        · exact hpz z q
        · rw [List.mem_singleton.mp q]; exact hjl
      · rintro σ' H2 ⟨sm, sb, ps, x4, x5, x6, hpl, hpz, hP, rfl⟩
        rw [List.length_map] at hpl
        exact hR _ _ ⟨sm, ps, x4, x5, x6, by rw [hpl]; exact hl1, hpz, hP, rfl⟩
    rintro σ' H1 ⟨sm, ps, x4, x5, x6, hpl, hpz, hP, rfl⟩
    have hj := joinLe (c := 32) (b := 200) (zs := ps) hpz
    refine ⟨rfl, _, rfl, _, pp, _, rfl, rfl, SqL.of hP, (by rw [e_sp]; decide), weighT (b := 200) (k := 1) hpz hpl (by decide), ?_⟩
    rw [e_sp]
    exact k _ _ (Nat.le_trans hj (Nat.le_trans (Nat.add_le_add (Nat.mul_le_mul_right 200 hpl) hpl) (by decide))) sm
noncomputable def spTidied : Sp := fun vs H Q _ => ∃ (rws : List (List Ev)) (n m : Nat), vs = [.str (textT rws), .int ((n : Nat) : Int), .int ((m : Nat) : Int)] ∧ n ≤ 5 ∧ m < 2 ^ 2 ^ n ∧ Grs n rws ∧ (∀ evs ∈ rws, FlatR n (rowD n (rn evs).1)) ∧ ∀ z H', Same H H' → Q (.str z) H'
noncomputable abbrev N_tidied : List Str := ["text", "n", "rule"]
theorem sc_tidied : FnScope N_tidied ["text", "n", "rule"] (defScope st_tidied) := ⟨rfl, rfl, rfl, by decide +kernel, rfl, by decide +kernel, by decide +kernel⟩
end
section
variable {P : Program} {w : World} {K : PySem.W.Frag} {mg : Str → Option Value} {base : Heap} {AA : Adr} {DD : Fds}
noncomputable def spHas : Sp := fun vs H Q _ => ∃ m s : Nat, vs = [.int m, .int s] ∧ Q (.bl (m.testBit s)) H
noncomputable def bl (m : Nat) : Nat := Builtin.Int.intBits (m : Int)
noncomputable def asInts (l : List Nat) : List Int := l.map fun (s : Nat) => (s : Int)
noncomputable def spSettings : Sp := fun vs H Q _ => ∃ m : Nat, vs = [.int m] ∧ m < 2 ^ 1024 ∧ ∀ p, H p = none → Q (.ref p) (upd H p (.lst ((asInts (setsOf m (bl m))).map V.int)))
theorem shr_nat (m s : Nat) : (m : Int) / 2 ^ ((s : Int)).toNat = ((m / 2 ^ s : Nat) : Int) := by rw [Int.toNat_natCast, pow2]; rfl
theorem has_val (m s : Nat) : decide (V.int (Builtin.bitAnd ((m : Int) / 2 ^ ((s : Int)).toNat) 1) = V.int 1) = m.testBit s := by
  rw [dec_int, shr_nat, show (1 : Int) = ((1 : Nat) : Int) from rfl, bitAnd_nat, Nat.and_one_is_mod, testBit_mod]
  by_cases h : m / 2 ^ s % 2 = 1
  · rw [h]; rfl
  · have h0 : m / 2 ^ s % 2 = 0 := (Nat.mod_two_eq_zero_or_one _).resolve_right h
    rw [h0]; rfl
theorem sets_succ (m i : Nat) : setsOf m (i + 1) = if m.testBit i then setsOf m i ++ [i] else setsOf m i := by
  unfold setsOf
  rw [List.range_succ, List.filter_append]
  cases h : m.testBit i <;> simp [h]
theorem snocInts (l : List Nat) (i : Nat) : asInts (l ++ [i]) = asInts l ++ [(i : Int)] := by simp [asInts]
theorem bl_le {m N : Nat} (h : m < 2 ^ N) : bl m ≤ N := bits_nat h
theorem sets_bl {m N : Nat} (h : m < 2 ^ N) : setsOf m (bl m) = setsOf m N := sets_ext (bits_self m) (bl_le h)
theorem sc_has : FnScope ["mask", "s"] ["mask", "s"] (defScope st_has) := ⟨rfl, rfl, rfl, by decide +kernel, rfl, by decide +kernel, by decide +kernel⟩
theorem ok_has (T : All P w K mg AA DD) : FnOk P w K mg base CX0 1 AA.has DD.has ["mask", "s"] spHas := by
  refine T.F_has.ok sc_has (fun vs H Q E h => ?_) (fun cdv A outer s H vs Q E hr h => ?_)
  · obtain ⟨m, t, rfl, _⟩ := h
    rfl
  · obtain ⟨m, t, rfl, k⟩ := h
    refine ⟨_, pss_one (ps_ret (pe_cmpR op_eq (pe_op op_and (pe_op op_shr (pv 0) (pv 1)) pe_int) pe_int (nomark _))), ?_⟩
    refine ⟨_, rfl, _, rfl, _, _, rfl, rfl, by (exact Int.natCast_nonneg _), _, _, rfl, rfl, rfl, ?_⟩
    rw [has_val]
    exact k
theorem sc_settings : FnScope ["mask"] ["mask"] (defScope st_settings) := ⟨rfl, rfl, rfl, by decide +kernel, rfl, by decide +kernel, by decide +kernel⟩
theorem ok_settings (T : All P w K mg AA DD) : FnOk P w K mg base CX0 2 AA.settings DD.settings ["mask"] spSettings := by
  have G0 := ok_has (base := base) T
  refine T.F_settings.ok sc_settings (fun vs H Q E h => ?_) (fun cdv A outer s H vs Q E hr h => ?_)
  · obtain ⟨m, rfl, _⟩ := h
    rfl
  · obtain ⟨m, rfl, hm, k⟩ := h
    refine ⟨_, pss_one (ps_ret (pe_comp (defScope st_settings) ["mask"] ["mask"] [0] rfl (by exact ⟨rfl, rfl, by decide +kernel, rfl, by decide +kernel, by decide +kernel, by decide +kernel, rfl, by decide +kernel⟩) rfl rfl
      (pi_range1 rfl T.n_range (pa_cons (pe_bm0 PySem.F.plainAttrs_int PySem.F.slot_int_bit_length PySem.F.type_int_bit_length mt_bitlen (pv 0)) pa_nil))
      (fun _ _ _ _ => pif_one (pt_val (pe_call G0 hr rfl T.m_has T.k_has T.b_has .nil pass0 (pa_cons (pv 1) (pa_cons (pv 0) pa_nil))))) (fun _ _ _ _ => pv 0))), ?_⟩
    have hb : bl m ≤ 1024 := bl_le hm
    refine ⟨_, rfl, rfl, _, rfl, rfl, _, rfl, ?_, ?_, ?_⟩
    · show -(2 ^ 62) ≤ ((bl m : Nat) : Int); omega
    · show ((bl m : Nat) : Int) < 2 ^ 62; omega
    show ∃ W : Nat → Nat → List V → Hp → Prop, _
    rw [show (((Builtin.Int.intBits (m : Int) : Nat) : Int)).toNat = bl m from Int.toNat_natCast _]
    refine comp_range (fun i ys H' => H' = H ∧ i ≤ bl m ∧ ys = (asInts (setsOf m i)).map V.int) ⟨rfl, Nat.zero_le _, rfl⟩ ?_ ?_
    · rintro i ys H' hi ⟨rfl, _, rfl⟩
      refine ⟨_, rfl, _, rfl, m, i, by simp, _, rfl, ?_⟩
      have hs := sets_succ m i
      cases hb : m.testBit i with
      | true =>
        rw [hb, if_pos rfl] at hs
        refine iteT ?_
        refine ⟨_, rfl, ?_, rfl, hi, ?_⟩
        · rw [List.length_map, asInts, List.length_map]
          have := sets_len m i
          exact small5k (by (clear k hi hm; (first | (exact Nat.le_trans (by assumption) (by decide)) | omega)))
        · rw [hs, snocInts, List.map_append, Int.zero_add]; rfl
      | false =>
        rw [hb, if_neg Bool.false_ne_true] at hs
        refine iteF ?_
        exact ⟨rfl, hi, by rw [hs]⟩
    · rintro ys H' ⟨rfl, _, rfl⟩ p hp
      exact k p hp
theorem last_idx {α : Type} {l : List α} {x y : α} {i : Nat} (h : (l ++ [x])[i]? = some y) (hi : ¬ i < l.length) : i = l.length ∧ x = y := by
  rw [List.getElem?_append_right (by (exact Nat.le_of_not_lt (by assumption)))] at h
  have h0 : i - l.length = 0 := by
    cases hh : i - l.length with
    | zero => rfl
    | succ m => rw [hh] at h; simp at h
  rw [h0] at h
  exact ⟨by omega, by simpa using h⟩
theorem shd_strs {zs : List Str} (h : ∀ z ∈ zs, ∀ c ∈ z.cps.toList, c < 128) : Shd 1 (.list (zs.map PyData.str)) := Shd.list fun d hd => by
  obtain ⟨z, hz, rfl⟩ := List.mem_map.mp hd
  exact Shd.str (h z hz)
noncomputable def ArOk (n : Nat) (ar : List W) : Prop := ar.length ≤ 5 ∧ ∀ v ∈ ar, v.ok n ∧ v.signs.length ≤ 100
theorem rn_ok {n : Nat} {evs : List Ev} (g : Gev n evs) : ∀ i, i ≤ evs.length → ArOk n (rn (evs.take i)).2 ∧ ∀ f ∈ (rn (evs.take i)).1, ArOk n f.2 ∧ Pl f.1
  | 0, _ => ⟨⟨by simp [rn], fun v h => by simp [rn] at h⟩, fun f h => by simp [rn] at h⟩
  | i + 1, hi => by
    obtain ⟨h1, h2⟩ := rn_ok g i (by (exact Nat.le_of_lt (by assumption)))
    have he : evs[i]? = some evs[i] := List.getElem?_eq_getElem (by (assumption))
    have ho := g i _ he
    rw [rn_take he]
    generalize evs[i] = e at ho he
    cases e with
    | op v => exact ⟨⟨by show ((rn (evs.take i)).2 ++ [v]).length ≤ 5; have := ho.2.2; simp; (exact Nat.le_of_lt_succ (by assumption)), fun u hu => by
        rcases List.mem_append.mp hu with h | h
        · exact h1.2 u h
        · have : u = v := by simpa using h
          rw [this]; exact ⟨ho.1, ho.2.1⟩⟩, h2⟩
    | cl => exact ⟨⟨by show ((rn (evs.take i)).2.dropLast).length ≤ 5; have := h1.1; simp; (exact Nat.le_succ_of_le (by assumption)), fun u hu => h1.2 u (List.dropLast_subset _ hu)⟩, h2⟩
    | pl z => exact ⟨h1, fun f hf => by
        rcases List.mem_append.mp hf with h | h
        · exact h2 f h
        · have : f = (z, (rn (evs.take i)).2) := by simpa using h
          rw [this]; exact ⟨h1, ho.1⟩⟩
theorem rn_all {n : Nat} {evs : List Ev} (g : Gev n evs) : ArOk n (rn evs).2 ∧ ∀ f ∈ (rn evs).1, ArOk n f.2 ∧ Pl f.1 := by
  have := rn_ok g evs.length (Nat.le_refl _)
  rw [List.take_length] at this
  exact this
theorem evs_step (evs : List Ev) : ∀ st : RSt, (evs.foldl stp st).1.length ≤ st.1.length + evs.length ∧ (evs.foldl stp st).2.length ≤ st.2.length + evs.length := by
  induction evs with
  | nil => intro st; exact ⟨Nat.le_refl _, Nat.le_refl _⟩
  | cons e r ih =>
    intro st
    obtain ⟨h1, h2⟩ := ih (stp st e)
    have h3 : (stp st e).1.length ≤ st.1.length + 1 ∧ (stp st e).2.length ≤ st.2.length + 1 := by cases e <;> simp [stp] <;> (solve_by_elim (maxDepth := 4) only [*, Nat.lt_of_lt_of_le, Nat.le_of_lt, Nat.succ_le_of_lt, Nat.le_refl])
    simp only [List.foldl_cons, List.length_cons]
    exact ⟨Nat.le_trans h1 (Nat.le_trans (Nat.add_le_add_right h3.1 _) (Nat.le_of_eq (Nat.add_right_comm _ _ _))), Nat.le_trans h2 (Nat.le_trans (Nat.add_le_add_right h3.2 _) (Nat.le_of_eq (Nat.add_right_comm _ _ _)))⟩
theorem evs_fs (evs : List Ev) : (rn evs).1.length ≤ evs.length := by have := (evs_step evs ([], [])).1; simpa [rn] using this
theorem rdvA_of {H : Hp} : ∀ {xs : List V} {ds : List PyData}, xs.length = ds.length → (∀ (i : Nat) (x : V) (d : PyData), xs[i]? = some x → ds[i]? = some d → Rdv K H x d) → RdvA K H xs ds
  | [], [], _, _ => .nil
  | [], _ :: _, h, _ => by simp at h
  | _ :: _, [], h, _ => by simp at h
  | x :: xs, d :: ds, h, f => .cons (f 0 x d rfl rfl) (rdvA_of (by simpa using h) fun i y e h1 h2 => f (i + 1) y e h1 h2)
/-! rows cut -/
structure LLs (H : Hp) (p : Addr) (ls : List Addr) (zss : List (List Str)) : Prop where
  lst : H p = some (.lst (ls.map V.ref))
  len : ls.length = zss.length
  at_ : ∀ (i : Nat) (l : Addr) (zs : List Str), ls[i]? = some l → zss[i]? = some zs → H l = some (.lst (zs.map V.str))
theorem LLs.same {H H' : Hp} {p : Addr} {ls : List Addr} {zss : List (List Str)} (h : LLs H p ls zss) (s : Same H H') : LLs H' p ls zss := ⟨s _ _ h.lst, h.len, fun i l zs a b => s _ _ (h.at_ i l zs a b)⟩
noncomputable def llPD (zss : List (List Str)) : PyData := .list (zss.map fun zs => .list (zs.map PyData.str))
theorem LLs.rdv {H : Hp} {p : Addr} {ls : List Addr} {zss : List (List Str)} (h : LLs H p ls zss) : Rdv K H (.ref p) (llPD zss) := by
  refine .lst (SqL.of h.lst) (rdvA_of (by simp [h.len]) fun i x d e1 e2 => ?_)
  rw [List.getElem?_map] at e1 e2
  cases et : ls[i]? with
  | none => rw [et] at e1; cases e1
  | some l =>
    cases er : zss[i]? with
    | none => rw [er] at e2; cases e2
    | some zs =>
      rw [et] at e1
      rw [er] at e2
      cases e1
      cases e2
      exact Rdv.strs (SqL.of (h.at_ i l zs et er))
theorem shd_ll {zss : List (List Str)} (h : ∀ zs ∈ zss, ∀ z ∈ zs, ∀ c ∈ z.cps.toList, c < 128) : Shd 2 (llPD zss) := Shd.list fun d hd => by
  obtain ⟨zs, hz, rfl⟩ := List.mem_map.mp hd
  exact shd_strs (h zs hz)
noncomputable def cutR (s : Nat) (r : List (Str × Nat)) : List Str := (r.filter fun w => w.2.testBit s).map (·.1)
noncomputable def cutD (s : Nat) (rows : List (List (Str × Nat))) : List (List Str) := rows.map (cutR s)
noncomputable def spCutR : Sp := fun vs H Q _ => ∃ (l : Addr) (r : List (Str × Nat)) (s : Nat), vs = [.ref l, .int s] ∧ RowAt H l r ∧ r.length ≤ 1000 ∧ ∀ p, H p = none → Q (.ref p) (upd H p (.lst ((cutR s r).map V.str)))
noncomputable def spCutRs : Sp := fun vs H Q _ => ∃ (p : Addr) (ls : List Addr) (rows : List (List (Str × Nat))) (s : Nat), vs = [.ref p, .int s] ∧ RowsAt H p ls rows ∧ rows.length ≤ 60 ∧ (∀ r ∈ rows, r.length ≤ 1000) ∧ ∀ q qs H', H q = none → (∀ x ∈ qs, H x = none) → q ∉ qs → Same H H' → LLs H' q qs (cutD s rows) → Q (.ref q) H'
noncomputable abbrev N_cut_row : List Str := ["row", "s"]
theorem sc_cut_row : FnScope N_cut_row ["row", "s"] (defScope st_cut_row) := ⟨rfl, rfl, rfl, by decide +kernel, rfl, by decide +kernel, by decide +kernel⟩
theorem ok_cutr (T : All P w K mg AA DD) : FnOk P w K mg base CX0 2 AA.cut_row DD.cut_row ["row", "s"] spCutR := by
  have GH := ok_has (base := base) T
  refine T.F_cut_row.ok sc_cut_row (fun vs H Q E h => ?_) (fun cdv A outer s H vs Q E hr h => ?_)
  · obtain ⟨l, r, s, rfl, _⟩ := h
    rfl
  · obtain ⟨l, r, s, rfl, ⟨ts, hts, htl⟩, hrl, k⟩ := h
    have hr1 : Room 1 _ := hr.mono (by decide)
    refine ⟨_, (@pss_one _ _ _ (@ps_ret _ _ _ _ (pe_comp2 (xs := ["word", "mask"]) (defScope st_cut_row) N_cut_row ["s"] [1] rfl (by exact ⟨rfl, rfl, by decide +kernel, by decide +kernel, by decide +kernel, by decide +kernel, by decide +kernel, rfl, by decide +kernel⟩) rfl rfl (pi_list (pv 0)) (fun _ _ _ _ => (pg_tupK (K := K) (n := 2) rfl rfl (pgs_cons (pg_name (i := 0) (show (["word", "mask", "s"] : List Str).Nodup by decide +kernel) rfl (Or.inl rfl)) (pgs_cons (pg_name (i := 1) (show (["word", "mask", "s"] : List Str).Nodup by decide +kernel) rfl (Or.inl rfl)) pgs_nil)))) (fun _ _ _ _ => pif_one (pt_val (pe_call GH hr1 rfl T.m_has T.k_has T.b_has .nil pass0 (pa_cons (pv 1) (pa_cons (pv 2) pa_nil))))) (fun _ _ _ _ => (pv 0))))), ?_⟩
    have h1 := htl.1
    refine ⟨_, rfl, l, rfl, ⟨_, SqL.of hts⟩, ?_⟩
    refine comp2_list (K := K) (a := l) (xs := ts.map V.ref) (fun i ys H' => H' = H ∧ i ≤ 1000 ∧ ys = (cutR s (r.take i)).map V.str) ⟨rfl, Nat.zero_le _, rfl⟩ (fun i ys H' _ hsl67 => by obtain ⟨e, _⟩ := hsl67; rw [e]; exact SqL.of hts) ?_ ?_
    · rintro i x ys H1 hx ⟨rfl, _, rfl⟩
      have hi : i < ts.length := by
        have := (List.getElem?_eq_some_iff.mp hx).1
        rw [List.length_map] at this; exact this
      have hir : i < r.length := by omega
      have ex : x = V.ref ts[i] := by rw [List.getElem?_map, List.getElem?_eq_getElem hi] at hx; exact (Option.some.inj hx).symm
      subst ex
      have htu := htl.2 i ts[i] r[i] (List.getElem?_eq_getElem hi) (List.getElem?_eq_getElem hir)
      intro os hos
      obtain ⟨a, b, rfl⟩ : ∃ a b, os = [a, b] := by
        match os, hos with
        | [a, b], _ => exact ⟨a, b, rfl⟩
      refine ⟨ts[i], _, rfl, SqT.of htu, rfl, _, _, rfl, _, _, rfl, rfl, ⟨[_, _], rfl, rfl⟩, ?_⟩
      refine ⟨_, rfl, _, rfl, r[i].2, s, rfl, _, rfl, ?_⟩
      have hl : ((cutR s (r.take i)).map V.str).length < sizeLine := by
        have := List.length_filter_le (fun w : Str × Nat => w.2.testBit s) (r.take i)
        rw [List.length_take] at this
        rw [List.length_map, cutR, List.length_map]
        exact small5k (by (clear hos k h1 hrl; (first | (exact Nat.le_trans (by assumption) (by decide)) | omega)))
      have et : cutR s (r.take (i + 1)) = if r[i].2.testBit s = true then cutR s (r.take i) ++ [r[i].1] else cutR s (r.take i) := by
        rw [List.take_succ_eq_append_getElem hir]
        unfold cutR
        rw [List.filter_append]
        cases hb : r[i].2.testBit s <;> simp [hb]
      cases hb : r[i].2.testBit s with
      | true =>
        refine iteT ?_
        refine ⟨_, rfl, hl, rfl, by (solve_by_elim (maxDepth := 4) only [*, Nat.lt_of_lt_of_le, Nat.le_of_lt, Nat.succ_le_of_lt, Nat.le_refl]), ?_⟩
        rw [et, if_pos hb, List.map_append]
        rfl
      | false =>
        refine iteF ?_
        exact ⟨rfl, by (solve_by_elim (maxDepth := 4) only [*, Nat.lt_of_lt_of_le, Nat.le_of_lt, Nat.succ_le_of_lt, Nat.le_refl]), by rw [et, if_neg (by simp [hb])]⟩
    · rintro ys H1 ⟨rfl, _, rfl⟩ p hp
      rw [List.length_map, h1, List.take_length]
      exact k p hp
noncomputable abbrev N_cut_rows : List Str := ["rows", "s"]
theorem sc_cut_rows : FnScope N_cut_rows ["rows", "s"] (defScope st_cut_rows) := ⟨rfl, rfl, rfl, by decide +kernel, rfl, by decide +kernel, by decide +kernel⟩
theorem ok_cutrs (T : All P w K mg AA DD) : FnOk P w K mg base CX0 3 AA.cut_rows DD.cut_rows ["rows", "s"] spCutRs := by
  have GC := ok_cutr (base := base) T
  refine T.F_cut_rows.ok sc_cut_rows (fun vs H Q E h => ?_) (fun cdv A outer s H vs Q E hr h => ?_)
  · obtain ⟨p, ls, rows, s, rfl, _⟩ := h
    rfl
  · obtain ⟨p, ls, rows, s, rfl, hR, h60, hrl, k⟩ := h
    have hr2 : Room 2 _ := hr.mono (by decide)
    refine ⟨_, (@pss_one _ _ _ (@ps_ret _ _ _ _ (pe_comp (defScope st_cut_rows) N_cut_rows ["s"] [1] rfl (by exact ⟨rfl, rfl, by decide +kernel, rfl, by decide +kernel, by decide +kernel, by decide +kernel, rfl, by decide +kernel⟩) rfl rfl (pi_list (pv 0)) (fun _ _ _ _ => pif_nil) (fun _ _ _ _ => (pe_call GC hr2 rfl T.m_cut_row T.k_cut_row T.b_cut_row .nil pass0 (@pa_cons _ _ _ _ _ (pv 0) (@pa_cons _ _ _ _ _ (pv 1) pa_nil (by rfl)) (by rfl))))))), ?_⟩
    have hll := hR.2.1
    refine ⟨_, rfl, p, rfl, ⟨_, SqL.of hR.1⟩, ?_⟩
    refine comp_list (K := K) (a := p) (xs := ls.map V.ref) (fun i ys H' => Same H H' ∧ i ≤ 60 ∧ ∃ qs : List Addr, ys = qs.map V.ref ∧ qs.length = i ∧ (∀ x ∈ qs, H x = none ∧ ∃ o, H' x = some o) ∧ ∀ (j : Nat) (q : Addr) (zs : List Str), qs[j]? = some q → (cutD s rows)[j]? = some zs → H' q = some (.lst (zs.map V.str)))
      ⟨Same.refl _, Nat.zero_le _, [], rfl, rfl, by simp, fun j q zs h => by simp at h⟩ (fun i ys H' _ hsl68 => by obtain ⟨e, _⟩ := hsl68; exact SqL.of (e _ _ hR.1)) ?_ ?_
    · rintro i y ys H1 hy ⟨sm, _, qs, rfl, hql, hqn, hq⟩
      have hi : i < ls.length := by
        have := (List.getElem?_eq_some_iff.mp hy).1
        rw [List.length_map] at this; exact this
      have hir : i < rows.length := by (clear hq hqn hql k hrl h60; (first | (assumption) | (exact Nat.lt_of_lt_of_le (by assumption) (by assumption)) | omega))
      have ey : y = V.ref ls[i] := by rw [List.getElem?_map, List.getElem?_eq_getElem hi] at hy; exact (Option.some.inj hy).symm
      subst ey
      refine tYes_ok ?_
      rw [if_pos rfl]
      refine ⟨_, rfl, _, rfl, ls[i], rows[i], s, rfl, (hR.2.2 i ls[i] rows[i] (List.getElem?_eq_getElem hi) (List.getElem?_eq_getElem hir)).same sm, hrl _ (List.getElem_mem hir), fun q hqq => ?_⟩
      have s2 := same_upd (o := .lst ((cutR s rows[i]).map V.str)) hqq
      refine ⟨by rw [List.length_map]; exact small1000 (by (clear hq hqn hll k hrl h60; (first | (exact Nat.le_trans (by assumption) (by decide)) | omega))), sm.trans s2, by (solve_by_elim (maxDepth := 4) only [*, Nat.lt_of_lt_of_le, Nat.le_of_lt, Nat.succ_le_of_lt, Nat.le_refl]), qs ++ [q], by simp, by simp [hql], fun x hx => ?_, fun j q' zs e1 e2 => ?_⟩
      · rcases List.mem_append.mp hx with h | h
        · obtain ⟨a, o, b⟩ := hqn x h
          exact ⟨a, o, s2 _ _ b⟩
        · have : x = q := by simpa using h
          subst this
          refine ⟨?_, _, upd_same⟩
          cases e : H x with
          | none => rfl
          | some o => rw [sm _ _ e] at hqq; cases hqq
      · by_cases hj : j < qs.length
        · rw [List.getElem?_append_left hj] at e1
          exact s2 _ _ (hq j q' zs e1 e2)
        · obtain ⟨ej, rfl⟩ := last_idx e1 hj
          have : j = i := by (clear hj hq hqn hll k hrl h60; omega)
          subst this
          rw [cutD, List.getElem?_map, List.getElem?_eq_getElem hir] at e2
          cases e2
          exact upd_same
    · rintro ys H1 ⟨sm, _, qs, rfl, hql, hqn, hq⟩ q hqq
      have s2 := same_upd (o := .lst (qs.map V.ref)) hqq
      refine k q qs _ ?_ (fun x hx => (hqn x hx).1) (fun hx => ?_) (sm.trans s2) ⟨upd_same, by rw [hql, List.length_map, hll]; simp [cutD], fun j q' zs e1 e2 => s2 _ _ (hq j q' zs e1 e2)⟩
      · cases e : H q with
        | none => rfl
        | some o => rw [sm _ _ e] at hqq; cases hqq
      · obtain ⟨_, o, b⟩ := hqn q hx
        rw [hqq] at b; cases b
theorem rn_len {n : Nat} {evs : List Ev} (g : Gev n evs) : ∀ i, i ≤ evs.length → ∀ f ∈ (rn (evs.take i)).1, f.1.length ≤ 5
  | 0, _ => fun f h => by simp [rn] at h
  | i + 1, hi => by
    have h2 := rn_len g i (by (exact Nat.le_of_lt (by assumption)))
    have he : evs[i]? = some evs[i] := List.getElem?_eq_getElem (by (assumption))
    have ho := g i _ he
    rw [rn_take he]
    generalize evs[i] = e at ho he
    cases e with
    | op v => exact h2
    | cl => exact h2
    | pl z =>
      intro f hf
      rcases List.mem_append.mp hf with h | h
      · exact h2 f h
      · have : f = (z, (rn (evs.take i)).2) := by simpa using h
        rw [this]; exact ho.2
theorem rn_len5 {n : Nat} {evs : List Ev} (g : Gev n evs) : ∀ f ∈ (rn evs).1, f.1.length ≤ 5 := by
  have := rn_len g evs.length (Nat.le_refl _)
  rw [List.take_length] at this
  exact this
theorem cut_words {n s : Nat} {rws : List (List Ev)} (g : Grs n rws) : ∀ zs ∈ cutD s (rowsD n rws), zs.length ≤ 100 ∧ ∀ z ∈ zs, z.length ≤ 5 ∧ Pl z := fun zs hz => by
  obtain ⟨r, hr, rfl⟩ := List.mem_map.mp hz
  obtain ⟨evs, he, rfl⟩ := List.mem_map.mp hr
  obtain ⟨g1, g2, g3⟩ := g.2.2 evs he
  refine ⟨?_, fun z hz => ?_⟩
  · have h1 := List.length_filter_le (fun w : Str × Nat => w.2.testBit s) (rowD n (rn evs).1)
    have h2 := evs_fs evs
    have h3 : (rowD n (rn evs).1).length = (rn evs).1.length := by simp [rowD]
    rw [cutR, List.length_map]
    (first | (exact Nat.le_trans (by assumption) (by decide)) | omega)
  · obtain ⟨w, hw, rfl⟩ := List.mem_map.mp hz
    have hw := (List.mem_filter.mp hw).1
    obtain ⟨f, hf, rfl⟩ := List.mem_map.mp hw
    exact ⟨rn_len5 g1 f hf, ((rn_all g1).2 f hf).2⟩
theorem rows_le {n : Nat} {rws : List (List Ev)} (g : Grs n rws) : (rowsD n rws).length ≤ 60 ∧ ∀ r ∈ rowsD n rws, r.length ≤ 1000 := ⟨by simp [rowsD]; exact g.2.1, fun r hr => by
  obtain ⟨evs, he, rfl⟩ := List.mem_map.mp hr
  have h2 := evs_fs evs
  have h3 := (g.2.2 evs he).2.2
  simp [rowD]; (first | (exact Nat.le_trans (by assumption) (by decide)) | omega)⟩
end
section
variable {P : Program} {w : World} {K : PySem.W.Frag} {mg : Str → Option Value} {base : Heap} {AA : Adr} {DD : Fds}
/-! texts that are cut otherwise somewhere -/
theorem eqv_strs2 : ∀ a b : List Str, PyData.eqvAll (a.map PyData.str) (b.map PyData.str) = decide (a = b)
  | [], [] => by simp [PyData.eqvAll]
  | [], _ :: _ => by simp [PyData.eqvAll]
  | _ :: _, [] => by simp [PyData.eqvAll]
  | x :: xs, y :: ys => by
    simp only [List.map_cons, PyData.eqvAll, eqv_strs2 xs ys, PyData.eqv, List.cons.injEq]
    by_cases h : x = y <;> simp [h]
theorem eqv_ll2 : ∀ a b : List (List Str), PyData.eqvAll (a.map fun zs => .list (zs.map PyData.str)) (b.map fun zs => .list (zs.map PyData.str)) = decide (a = b)
  | [], [] => by simp [PyData.eqvAll]
  | [], _ :: _ => by simp [PyData.eqvAll]
  | _ :: _, [] => by simp [PyData.eqvAll]
  | x :: xs, y :: ys => by
    simp only [List.map_cons, PyData.eqvAll, eqv_ll2 xs ys, PyData.eqv, eqv_strs2, List.cons.injEq]
    by_cases h : x = y <;> simp [h]
theorem eqv_ll (a b : List (List Str)) : PyData.eqv (llPD a) (llPD b) = decide (a = b) := by
  unfold llPD
  simp only [PyData.eqv]
  exact eqv_ll2 a b
/-- where two texts are cut otherwise -/
noncomputable def Dif (n : Nat) (r1 r2 : List (List Ev)) (s : Nat) : Prop := cutD s (rowsD n r1) ≠ cutD s (rowsD n r2)
theorem sets_before {m N i s t : Nat} (h : (setsOf m N)[i]? = some s) (ht : t < s) (hb : m.testBit t = true) : t ∈ (setsOf m N).take i := by
  have hp : (setsOf m N).Pairwise (· < ·) := List.Pairwise.sublist List.filter_sublist List.pairwise_lt_range
  have hi := (List.getElem?_eq_some_iff.mp h).1
  have hs : s ∈ setsOf m N := List.mem_of_getElem? h
  have hsN := sets_lt hs
  have htm : t ∈ setsOf m N := List.mem_filter.mpr ⟨List.mem_range.mpr (by (exact Nat.lt_trans (by assumption) (by assumption))), hb⟩
  have e : setsOf m N = (setsOf m N).take i ++ s :: (setsOf m N).drop (i + 1) := by
    have := (List.getElem?_eq_some_iff.mp h).2
    rw [← this, List.getElem_cons_drop, List.take_append_drop]
  rw [e] at htm hp
  rcases List.mem_append.mp htm with q | q
  · exact q
  · exfalso
    have hp2 := (List.pairwise_append.mp hp).2.1
    rcases List.mem_cons.mp q with z | z
    · omega
    · have := (List.pairwise_cons.mp hp2).1 t z
      omega
noncomputable def spParted : Sp := fun vs H Q _ => ∃ (r1 r2 : List (List Ev)) (n m : Nat), vs = [.str (textT r1), .str (textT r2), .int ((n : Nat) : Int), .int ((m : Nat) : Int)] ∧ n ≤ 5 ∧ m < 2 ^ 2 ^ n ∧ Grs n r1 ∧ Grs n r2 ∧
  (∀ H' s, Same H H' → s < 2 ^ n → m.testBit s = true → Dif n r1 r2 s → (∀ t, t < s → m.testBit t = true → ¬ Dif n r1 r2 t) → Q (.int ((s : Nat) : Int)) H') ∧
  (∀ H', Same H H' → (∀ s, s < 2 ^ n → m.testBit s = true → ¬ Dif n r1 r2 s) → Q .non H')
theorem cut_shape {n s : Nat} {rws : List (List Ev)} (g : Grs n rws) : Shd 2 (llPD (cutD s (rowsD n rws))) := shd_ll fun zs hz z hz2 c hc => by
  have := ((cut_words g zs hz).2 z hz2).2.sg c hc
  (first | (assumption) | (exact Nat.lt_of_lt_of_le (by assumption) (by assumption)) | omega)
noncomputable abbrev N_parted : List Str := ["one", "other", "n", "rule", "left", "right", "s"]
theorem sc_parted : FnScope N_parted ["one", "other", "n", "rule"] (defScope st_parted) := ⟨rfl, rfl, rfl, by decide +kernel, rfl, by decide +kernel, by decide +kernel⟩
end
section
variable {P : Program} {w : World} {K : PySem.W.Frag} {mg : Str → Option Value} {base : Heap} {AA : Adr} {DD : Fds}
/-! where a text is refused -/
noncomputable def spValueX (K : PySem.W.Frag) (C : Addr) : Sp := fun vs H Q E => ∃ (c : Nat) (l : Addr) (sws : List Nat) (full : Nat), vs = [.str ⟨#[c]⟩, .ref l, .int full] ∧ SqL K H l (iv sws) ∧ c < 128 ∧ (∀ v, valR sws full c = some v → Q (.int v) H) ∧ (valR sws full c = none → E (.ref C) none H)
noncomputable def spReckX (K : PySem.W.Frag) (C : Addr) : Sp := fun vs H _ E => ∃ (z : Str) (l : Addr) (sws : List Nat) (full : Nat), vs = [.str z, .ref l, .int full] ∧ SqL K H l (iv sws) ∧ (∀ c ∈ z.cps.toList, c < 128) ∧ z.length ≤ 4000 ∧
  (∀ v, runR sws full z.cps.toList ≠ some [v]) ∧ ∀ H', Same H H' → E (.ref C) none H'
noncomputable def spMaskX (C : Addr) : Sp := fun vs H _ E => ∃ (z : Str) (n : Nat), vs = [.str z, .int n] ∧ n ≤ 10 ∧ (∀ c ∈ z.cps.toList, c < 128) ∧ z.length ≤ 4000 ∧ (∀ v, runR (swl n) (fulln n) z.cps.toList ≠ some [v]) ∧ ∀ H', Same H H' → E (.ref C) none H'
theorem ok_valueX (T : All P w K mg AA DD) : FnOk P w K mg base (CX2 (fun c => c = some .none) P w) 1 AA.value_of DD.value_of ["sign", "switches", "full"] (spValueX K AA.x_NoWish) := by
  refine T.F_value_of.ok2 sc_value (fun vs H Q E h => ?_) (fun cdv A outer s H vs Q E hr h => ?_)
  · obtain ⟨c, l, sws, full, rfl, _⟩ := h
    rfl
  · obtain ⟨c, l, sws, full, rfl, hS, hc, kv, kx⟩ := h
    have nd := sc_value.nd
    obtain ⟨tL, hL⟩ := T.v_LETTERS
    refine ⟨_, pss_cons (ps_if (pt_cmpR op_eq (pv 0) pe_str (nomark _)) (pss_one (ps_ret pe_int)) pss_nil)
      (pss_cons (ps_if (pt_cmpR op_eq (pv 0) pe_str (nomark _)) (pss_one (ps_ret (pv 2))) pss_nil)
      (pss_cons (ps_set (i := 3) nd rfl (Or.inl rfl) (pe_bm PySem.F.plainAttrs_str PySem.F.slot_str_find PySem.F.type_str_find mt_find (pe_glob (v := .str "abcdefghij") rfl hL ⟨_, rfl⟩) (pa_cons (pv 0) pa_nil)))
      (pss_cons (ps_if (PW.pt (pw_or (pt_cmpR op_lt (pv 3) pe_int (nomark _)) (pw_or1 (pt_cmpR op_ge (pv 3) (pe_callB call_len_seq rfl T.n_len bt_len (pa_cons (pv 1) pa_nil)) (nomark _)))))
        (pss_one (ps_raise (raise2m rfl) rfl rfl T.m_NoWish T.x_NoWish PySem.F.excBase_ValueError (pa_cons (pe_frep (pv 0)) pa_nil))) pss_nil)
      (pss_one (ps_ret (pe_ix ix_list (pv 1) (pv 3) (fun _ _ => rfl))))))), ?_⟩
    unfold valR at kv kx
    refine ⟨_, rfl, rfl, _, rfl, ?_⟩
    rw [sg s48]
    by_cases h0 : c = 48
    · rw [if_pos h0] at kv
      rw [decide_eq_true h0]
      exact iteT (kv 0 rfl)
    rw [if_neg h0] at kv kx
    rw [decide_eq_false h0]
    refine iteF ?_
    refine ⟨_, rfl, rfl, _, rfl, ?_⟩
    rw [sg s49]
    by_cases h1 : c = 49
    · rw [if_pos h1] at kv
      rw [decide_eq_true h1]
      exact iteT ⟨_, rfl, kv _ rfl⟩
    rw [if_neg h1] at kv kx
    rw [decide_eq_false h1]
    refine iteF ?_
    have one128 : ∀ d ∈ (⟨#[c]⟩ : Str).cps.toList, d < 1000000 := fun d hd => by
      rw [one_list] at hd
      have : d = c := by simpa using hd
      (first | (assumption) | (exact Nat.lt_of_lt_of_le (by assumption) (by assumption)) | omega)
    by_cases hl : isL c = true
    · rw [if_pos hl] at kv kx
      refine ⟨rfl, _, rfl, _, _, rfl, rfl, ?_⟩
      rw [occL c hc, if_pos hl]
      dsimp only
      refine ⟨_, rfl, _, _, rfl, rfl, _, rfl, ?_⟩
      rw [decide_eq_false (by (simp; done))]
      refine iteF ?_
      refine ⟨_, rfl, _, rfl, l, _, rfl, .inl hS, _, _, rfl, rfl, _, rfl, ?_⟩
      by_cases hk : c - 97 < sws.length
      · rw [iv_len, decide_eq_false (by omega)]
        refine iteF ?_
        refine ⟨_, rfl, _, rfl, l, _, _, _, rfl, rfl, hS, atI_iv hk, ?_⟩
        have e := kv (sws[c - 97]) (List.getElem?_eq_getElem hk)
        rw [List.getD_eq_getElem?_getD, List.getElem?_eq_getElem hk]
        exact e
      · rw [iv_len, decide_eq_true (by (clear one128 h1 h0 kx kv hc; omega))]
        refine iteT ?_
        exact ⟨_, rfl, _, rfl, one128, by rw [one_len]; decide, by decide +kernel, fun r => ⟨(show 1 ≤ sizeLine by decide), kx (List.getElem?_eq_none (by (exact Nat.le_of_not_lt (by assumption))))⟩⟩
    · rw [if_neg hl] at kv kx
      refine ⟨rfl, _, rfl, _, _, rfl, rfl, ?_⟩
      rw [occL c hc, if_neg hl]
      dsimp only
      refine ⟨_, rfl, _, _, rfl, rfl, _, rfl, ?_⟩
      refine iteT ?_
      refine iteT ?_
      exact ⟨_, rfl, _, rfl, one128, by rw [one_len]; decide, by decide +kernel, fun r => ⟨(show 1 ≤ sizeLine by decide), kx rfl⟩⟩
theorem ok_reckX (T : All P w K mg AA DD) : FnOk P w K mg base (CX2 (fun c => c = some .none) P w) 2 AA.reckoned DD.reckoned ["text", "switches", "full"] (spReckX K AA.x_NoWish) := by
  have GT := ok_taken (base := base) T
  have GP := ok_put (base := base) T
  have GV := ok_valueX (base := base) T
  refine T.F_reckoned.ok2 sc_reck (fun vs H Q E h => ?_) (fun cdv A outer s H vs Q E hr h => ?_)
  · obtain ⟨z, l, sws, full, rfl, _⟩ := h
    rfl
  · obtain ⟨z, l, sws, full, rfl, hS, hcs, hz, hbad, k⟩ := h
    have nd := sc_reck.nd
    obtain ⟨tL, hL⟩ := T.v_LETTERS
    refine ⟨_, pss_cons (ps_set (i := 3) nd rfl (Or.inl rfl) (pe_lst pa_nil))
      (pss_cons (ps_set (i := 4) nd rfl (Or.inl rfl) pe_str)
      (pss_cons (ps_for PassesOwn.leaving rfl (pi_revstr rfl T.n_reversed (pa_cons (pv 0) pa_nil)) (pg_name (i := 5) nd rfl (Or.inl rfl))
        (pss_cons (ps_if (pt_cmpR op_lt (pe_callB call_len_seq rfl T.n_len bt_len (pa_cons (pv 3) pa_nil)) (pe_kget2 T.D_NEEDS rfl T.m_NEEDS (pv 5) pe_int) (nomark _)) (pss_one (ps_raise (raise2m rfl) rfl rfl T.m_NoWish T.x_NoWish PySem.F.excBase_ValueError (pa_cons (pe_frep (pv 0)) pa_nil))) pss_nil)
        (pss_cons (ps_if (PW.pt (pw_and (pt_cmpR op_eq (pv 5) pe_str (nomark _)) (pw_and1 (pt_cmpR op_notIn_str (pv 4) (pe_glob (v := .str "abcdefghij") rfl hL ⟨_, rfl⟩) rfl)))) (pss_one (ps_raise (raise2m rfl) rfl rfl T.m_NoWish T.x_NoWish PySem.F.excBase_ValueError (pa_cons (pe_frep (pv 0)) pa_nil))) pss_nil)
        (pss_cons (ps_if (pt_cmp (pc_kin T.D_NEEDS rfl T.m_NEEDS (pv 5)))
          (pss_cons (ps_set (i := 6) nd rfl (Or.inl rfl) (pe_call GT hr rfl T.m_taken T.k_taken T.b_taken .nil pass0 (pa_cons (pv 3) (pa_cons (pe_kix T.D_NEEDS rfl T.m_NEEDS (pv 5) (fun _ _ => rfl)) pa_nil))))
          (pss_one (ps_expr (pe_bm PySem.F.plainAttrs_list PySem.F.slot_list_append PySem.F.type_list_append mt_append (pv 3) (pa_cons (pe_call GP hr rfl T.m_put_together T.k_put_together T.b_put_together .nil pass0 (pa_cons (pv 5) (pa_cons (pv 6) (pa_cons (pv 2) pa_nil)))) pa_nil)))))
          (pss_one (ps_expr (pe_bm PySem.F.plainAttrs_list PySem.F.slot_list_append PySem.F.type_list_append mt_append (pv 3) (pa_cons (pe_call GV hr rfl T.m_value_of T.k_value_of T.b_value_of .nil (pass2 fun _ h => h) (pa_cons (pv 5) (pa_cons (pv 1) (pa_cons (pv 2) pa_nil)))) pa_nil)))))
        (pss_one (ps_set (i := 4) nd rfl (Or.inl rfl) (pv 5)))))))
      (pss_cons (ps_if (pt_cmpR op_ne (pe_callB call_len_seq rfl T.n_len bt_len (pa_cons (pv 3) pa_nil)) pe_int (nomark _)) (pss_one (ps_raise (raise2m rfl) rfl rfl T.m_NoWish T.x_NoWish PySem.F.excBase_ValueError (pa_cons (pe_frep (pv 0)) pa_nil))) pss_nil)
      (pss_one (ps_ret (pe_ix ix_list (pv 3) pe_int (fun _ _ => rfl))))))), ?_⟩
    have zd : ∀ d ∈ z.cps.toList, d < 1000000 := fun d hd => Nat.lt_of_lt_of_le (hcs d hd) (by decide)
    generalize ht : z.cps.toList = t at hcs hbad
    have hlen : t.length = z.length := by rw [← ht]; simp [Str.length]
    refine ⟨Nat.zero_le _, fun p hp => ?_⟩
    refine ⟨_, rfl, z, rfl, Nat.le_of_lt (small5k (by (exact Nat.le_trans (by assumption) (by decide)))), ?_⟩
    refine for_N (fun i σ H' => i ≤ z.length ∧ Same H H' ∧ ∃ (st : List Nat) (bh : Str) (s5 s6 : Option V), runR sws full (t.drop (z.length - i)) = some st ∧ (∀ c r, t.drop (z.length - i) = c :: r → bh = ⟨#[c]⟩) ∧
        st.length ≤ i ∧ H' p = some (.lst (iv st).reverse) ∧ σ = [some (.str z), some (.ref l), some (.int (full : Nat)), some (.ref p), some (.str bh), s5, s6])
      ⟨Nat.zero_le _, same_upd hp, [], _, none, none, (by rw [Nat.sub_zero, List.drop_of_length_le (by (exact Nat.le_of_eq (by assumption)))]; rfl), (by rw [Nat.sub_zero, List.drop_of_length_le (by (exact Nat.le_of_eq (by assumption)))]; intro c r e; cases e), Nat.le_refl _, upd_same, rfl⟩ ?_ ?_
    · rintro i σ H' hi ⟨_, hsm, st, bh, s5, s6, hst, hbh, hsl, hH, rfl⟩
      have hlt : z.length - (i + 1) < t.length := by (clear hsl hbh hbad hcs zd k hz; omega)
      have ed : t.drop (z.length - (i + 1)) = t[z.length - (i + 1)] :: t.drop (z.length - i) := by
        rw [List.drop_eq_getElem_cons hlt, show z.length - (i + 1) + 1 = z.length - i by (first | (rw [← Nat.sub_sub]; exact Nat.sub_add_cancel (Nat.sub_pos_of_lt (by assumption))) | (rw [← Nat.sub_sub]; exact Nat.sub_add_cancel (Nat.sub_pos_of_lt (Nat.lt_of_succ_le (by assumption)))) | omega)]
      have ec : (revAt z i) = V.str ⟨#[t[z.length - (i + 1)]]⟩ := by
        unfold revAt
        rw [ht, List.getD_eq_getElem?_getD, show z.length - 1 - i = z.length - (i + 1) by rw [Nat.sub_sub, Nat.add_comm], List.getElem?_eq_getElem hlt]
        rfl
      rw [ec]
      generalize hcc : t[z.length - (i + 1)] = c at ed
      have hc128 : c < 128 := by rw [← hcc]; exact hcs _ (List.getElem_mem _)
      have hr2 : runR sws full (c :: t.drop (z.length - i)) = stepR sws full c (t.drop (z.length - i)) st := by
        simp only [runR, hst, Option.bind_some]
      unfold stepR at hr2
      have hSl : SqL K H' l (iv sws) := hsm.seq hS
      -- len(found) < NEEDS.get(sign, 0)
      refine ⟨_, rfl, p, _, rfl, .inl (SqL.of hH), _, rfl, ⟨#[c]⟩, .int (needs c : Nat), rfl, ?_, _, _, rfl, rfl, _, rfl, ?_⟩
      · show ((needsD.lookup (⟨#[c]⟩ : Str)).map V.int).getD (V.int 0) = _
        rw [look_needs]
        by_cases h0 : 0 < needs c
        · rw [if_pos h0]; rfl
        · rw [if_neg h0, show needs c = 0 by (clear hc128 hcc hsl hbh hi hlen hbad hcs zd k hz; omega)]; rfl
      by_cases hn : st.length < needs c
      · rw [List.length_reverse, iv_len, decide_eq_true (by (exact Int.ofNat_lt.mpr (by assumption)))]
        refine iteT ?_
        exact ⟨_, rfl, z, rfl, zd, by (exact Nat.le_trans (by assumption) (by decide)), by decide +kernel, fun r => ⟨(show 1 ≤ sizeLine by decide), k _ hsm⟩⟩
      rw [if_neg hn] at hr2
      rw [List.length_reverse, iv_len, decide_eq_false (by (clear hc128 hcc hsl hbh hi hlen hbad hcs zd k hz; omega))]
      refine iteF ?_
      -- sign == '?' and behind not in LETTERS
      refine ⟨_, rfl, rfl, _, rfl, ?_⟩
      rw [sg s63]
      have go : ∀ (D : Ends) (t1 : TS) (u1 : TS) (σ' : St), ((c = 63 ∧ hdL (t.drop (z.length - i)) = false) → t1 D σ' H') → (¬ (c = 63 ∧ hdL (t.drop (z.length - i)) = false) → u1 D σ' H') → (if decide (c = 63) = true then (tTest (tOp (fun x y H Q => ∃ i j, x = .str i ∧ y = .str j ∧ Q (.bl (!(!(Builtin.Str.occurrences j i 0 j.length 1).isEmpty))) H) (tVar 4) (tC (.str "abcdefghij")))) [some (.str z), some (.ref l), some (.int (full : Nat)), some (.ref p), some (.str bh), some (.str ⟨#[c]⟩), s6] H' (fun b H1 => if b = true then t1 D σ' H1 else u1 D σ' H1) else (if false = true then t1 D σ' H' else u1 D σ' H')) := by
        intro D t1 u1 σ' ht1 hu1
        by_cases h63 : c = 63
        · rw [decide_eq_true h63]
          refine iteT ?_
          cases er : t.drop (z.length - i) with
          | nil =>
            exfalso
            rw [er] at hst
            cases hst
            subst h63
            exact hn (by decide)
          | cons d r =>
            have hbd := hbh d r er
            subst hbd
            have hd128 : d < 128 := hcs d (List.mem_of_mem_drop (er ▸ List.mem_cons_self : d ∈ t.drop (z.length - i)))
            rw [er] at ht1 hu1
            refine ⟨_, rfl, _, _, rfl, rfl, _, rfl, ?_⟩
            rw [occL d hd128]
            by_cases hLd : isL d = true
            · rw [if_pos hLd]
              exact iteF (hu1 fun z => by have := z.2; rw [show hdL (d :: r) = isL d from rfl, hLd] at this; cases this)
            · rw [if_neg hLd]
              exact iteT (ht1 ⟨h63, by show isL d = false; simpa using hLd⟩)
        · rw [decide_eq_false h63]
          exact iteF (iteF (hu1 fun z => h63 z.1))
      refine go _ _ _ _ (fun hq => ?_) (fun hq => ?_)
      · exact ⟨_, rfl, z, rfl, zd, by (first | (exact Nat.le_trans (by assumption) (by decide)) | omega), by decide +kernel, fun r => ⟨(show 1 ≤ sizeLine by decide), k _ hsm⟩⟩
      rw [if_neg hq] at hr2
      -- sign in NEEDS
      refine ⟨_, rfl, ⟨#[c]⟩, rfl, _, rfl, ?_⟩
      rw [look_needs]
      by_cases h0 : 0 < needs c
      · rw [if_pos h0] at hr2 ⊢
        refine iteT ?_
        refine ⟨_, rfl, _, rfl, ⟨#[c]⟩, ((needs c : Nat) : Int), rfl, by rw [look_needs, if_pos h0], p, iv st, needs c, rfl, hH, by rw [iv_len]; (exact Nat.le_of_not_lt (by assumption)), by rw [iv_len]; (clear h0 hq go hn hc128 hcc hbh hi hlen hbad hcs zd k; omega), fun p2 H2 np2 h2p h2l hk => ?_⟩
        have n2 : p2 ≠ p := (ne_of_none hH np2).symm
        refine ⟨_, rfl, .inl ⟨rfl, _, SqL.of h2l⟩, _, rfl, _, rfl, _, rfl, c, p2, st.take (needs c), full, rfl, SqL.of (by rw [h2p, iv_take]), h0, by rw [List.length_take]; (clear hk h0 hq go hc128 hcc hsl hbh hi hlen hbad hcs zd k hz; omega), p, _, _, rfl, rfl, h2l, ?_, ?_⟩
        · rw [List.length_reverse, List.length_drop, iv_len]; exact small5k (by (clear hk h0 hq go hn hc128 hcc hbh hi hlen hbad hcs zd k; omega))
        · refine ⟨_, rfl, hi, ?_, _, _, _, _, (by rw [ed]; exact hr2), ?_, ?_, ?_, rfl⟩
          · intro b o e
            have hb : b ≠ p := ne_of_none e hp
            rw [upd_ne hb]
            exact hk b o (hsm b o e) hb
          · rw [ed]
            intro c' r' e'
            cases e'
            rfl
          · rw [List.length_cons, List.length_drop]; (clear hk h0 hq go hn hc128 hcc hbh hi hlen hbad hcs zd k hz; omega)
          · rw [upd_same, iv_cons, List.reverse_cons, iv_drop]
      · rw [if_neg h0] at hr2 ⊢
        refine iteF ?_
        refine ⟨_, rfl, .inl ⟨rfl, _, SqL.of hH⟩, _, rfl, _, rfl, _, rfl, c, l, sws, full, rfl, hSl, hc128, (fun v' hv => ?_), fun _ => k _ hsm⟩
        rw [hv] at hr2
        refine ⟨p, _, _, rfl, rfl, hH, ?_, ?_⟩
        · rw [List.length_reverse, iv_len]; exact small5k (by (clear h0 hq go hn hc128 hcc hbh hi hlen hbad hcs zd k; omega))
        · refine ⟨_, rfl, hi, ?_, _, _, _, _, (by rw [ed]; exact hr2), ?_, ?_, ?_, rfl⟩
          · intro b o e
            rw [upd_ne (ne_of_none e hp)]
            exact hsm b o e
          · rw [ed]
            intro c' r' e'
            cases e'
            rfl
          · rw [List.length_cons]; (exact Nat.lt_succ_of_le (by assumption))
          · rw [upd_same, iv_cons, List.reverse_cons]
    · rintro σ H' ⟨_, hsm, st, bh, s5, s6, hst, hbh, hsl, hH, rfl⟩
      rw [Nat.sub_self, List.drop_zero] at hst
      refine ⟨_, rfl, p, _, rfl, .inl (SqL.of hH), rfl, _, rfl, ?_⟩
      rw [dec_int, List.length_reverse, iv_len]
      have n1 : st.length ≠ 1 := fun e => by
        obtain ⟨v, rfl⟩ := List.length_eq_one_iff.mp e
        exact hbad v hst
      rw [show (!(((st.length : Nat) : Int) == 1)) = true by rw [beq_eq_false_iff_ne.mpr (by (clear hsl hbh hlen hbad hcs zd k hz; omega))]; rfl]
      refine iteT ?_
      exact ⟨_, rfl, z, rfl, zd, by (clear n1 hsl hbh hlen hbad hcs zd k; omega), by decide +kernel, fun r => ⟨(show 1 ≤ sizeLine by decide), k _ hsm⟩⟩
theorem ok_maskX (T : All P w K mg AA DD) : FnOk P w K mg base (CX2 (fun c => c = some .none) P w) 3 AA.mask_of_text DD.mask_of_text ["text", "n"] (spMaskX AA.x_NoWish) := by
  have GE := ok_every (base := base) T
  have GS := ok_switch (base := base) T
  have GR := ok_reckX (base := base) T
  refine T.F_mask_of_text.ok2 sc_maskof (fun vs H Q E h => ?_) (fun cdv A outer s H vs Q E hr h => ?_)
  · obtain ⟨z, n, rfl, _⟩ := h
    rfl
  · obtain ⟨z, n, rfl, hn, hcs, hz, hbad, k⟩ := h
    have hr1 : Room 1 _ := hr.mono (by decide)
    refine ⟨_, pss_one (ps_ret (pe_call GR hr rfl T.m_reckoned T.k_reckoned T.b_reckoned .nil (pass2 fun _ h => h) (pa_cons (pv 0) (pa_cons
      (pe_comp (defScope st_mask_of_text) ["text", "n"] ["n"] [1] rfl (by exact ⟨rfl, rfl, by decide +kernel, rfl, by decide +kernel, by decide +kernel, by decide +kernel, rfl, by decide +kernel⟩) rfl rfl
        (pi_range1 rfl T.n_range (pa_cons (pv 1) pa_nil)) (fun _ _ _ _ => pif_nil) (fun _ _ _ _ => pe_call GS hr1 rfl T.m_switch_mask T.k_switch_mask T.b_switch_mask .nil pass0 (pa_cons (pv 0) (pa_cons (pv 1) pa_nil))))
      (pa_cons (pe_call GE hr1 rfl T.m_every T.k_every T.b_every .nil pass0 (pa_cons (pv 1) pa_nil)) pa_nil))))), ?_⟩
    refine ⟨_, rfl, _, rfl, _, rfl, by (solve_by_elim (maxDepth := 4) only [*, Nat.lt_of_lt_of_le, Nat.le_of_lt, Nat.succ_le_of_lt, Nat.le_refl]), by omega, ?_⟩
    rw [Int.toNat_natCast]
    refine comp_range (fun i ys H' => H' = H ∧ ys = iv ((List.range i).map fun k => sw k n)) ⟨rfl, rfl⟩ ?_ ?_
    · rintro i ys H' hi ⟨rfl, rfl⟩
      refine tYes_ok ?_
      rw [if_pos rfl]
      refine ⟨_, rfl, _, rfl, i, n, by simp, hi, hn, ?_, rfl, ?_⟩
      · rw [iv_len, List.length_map, List.length_range]; exact small5k (by (clear k hbad hz hcs; omega))
      · rw [List.range_succ, List.map_append, List.map_singleton, iv_snoc]
    · rintro ys H' ⟨rfl, rfl⟩ p hp
      refine ⟨_, rfl, n, rfl, hn, z, p, swl n, fulln n, rfl, SqL.of upd_same, hcs, hz, hbad, fun H2 hs => k H2 ((same_upd hp).trans hs)⟩
theorem ok_readX (T : All P w K mg AA DD) : FnOk P w K mg base (CX2 (fun c => c = some .none) P w) 4 AA.read_wish DD.read_wish ["text", "n"] (spMaskX AA.x_NoWish) := by
  have GM := ok_maskX (base := base) T
  refine T.F_read_wish.ok2 sc_read (fun vs H Q E h => ?_) (fun cdv A outer s H vs Q E hr h => ?_)
  · obtain ⟨z, n, rfl, _⟩ := h
    rfl
  · obtain ⟨z, n, rfl, h⟩ := h
    refine ⟨_, pss_one (ps_ret (pe_call GM hr rfl T.m_mask_of_text T.k_mask_of_text T.b_mask_of_text .nil (pass2 fun _ h => h) (pa_cons (pv 0) (pa_cons (pv 1) pa_nil)))), ?_⟩
    exact ⟨_, rfl, _, rfl, z, n, rfl, h⟩
/-! NoGroup.__init__ -/
noncomputable def spXInit_NoGroup (C : Addr) : Sp := fun vs H Q _ => ∃ (e tt : Addr) (v : V), vs = [.ref e, v] ∧ H e = some (excN e C tt none) ∧ ∀ dx, H dx = none → dx ≠ e → Q .non (upd (upd H e (excN e C tt (some dx))) dx (xdO dx [("at", v)]))
noncomputable abbrev N_NoGroup_init : List Str := ["self", "at"]
theorem sc_NoGroup_init : FnScope N_NoGroup_init ["self", "at"] (defScope st_NoGroup_init) := ⟨rfl, rfl, rfl, by decide +kernel, rfl, by decide +kernel, by decide +kernel⟩
theorem ok_NoGroup_init (T : All P w K mg AA DD) : FnOk P w K mg base CX0 1 AA.NoGroup_init DD.NoGroup_init ["self", "at"] (spXInit_NoGroup AA.x_NoGroup) := by
  refine T.F_NoGroup_init.ok sc_NoGroup_init (fun vs H Q E h => ?_) (fun cdv A outer s H vs Q E hr h => ?_)
  · obtain ⟨e, tt, v, rfl, _⟩ := h
    rfl
  · obtain ⟨e, tt, v, rfl, he, k⟩ := h
    refine ⟨_, (@pss_one _ _ _ (ps_xfld (body_cx.wish _) (pv 0) (pv 1))), ?_⟩
    exact ⟨v, rfl, _, rfl, e, AA.x_NoGroup, tt, rfl, T.ic_NoGroup, T.na_NoGroup_at, .inl ⟨he, k⟩⟩
/-- raise NoGroup(v): what is wanted of E -/
theorem raise_NoGroup {C : Addr} {E : XK} {H : Hp} {v : V} (h : ∀ dx H', Same H H' → H' dx = some (xdO dx [("at", v)]) → E (.ref C) (some dx) H') (e tt : Addr) (he : H e = none) :
    spXInit_NoGroup C [.ref e, v] (upd H e (excN e C tt none)) (fun x H2 => x = .non ∧ ∃ dd, H2 e = some (excN e C tt dd) ∧ E (.ref C) dd (del H2 e)) E0 := by
  refine ⟨e, tt, v, rfl, upd_same, fun dx hd ne => ⟨rfl, some dx, by rw [upd_ne ne.symm, upd_same], h dx _ (fun b u q => ?_) (by rw [del_ne ne, upd_same])⟩⟩
  have hb : b ≠ e := ne_of_none q he
  have hbd : b ≠ dx := ne_of_none (show upd H e _ b = some u by rw [upd_ne hb]; exact q) hd
  rw [del_ne hb, upd_ne hbd, upd_ne hb, upd_ne hb]
  exact q
theorem okH_NoGroup_init (T : All P w K mg AA DD) : FnOkH P w K mg base 1 AA.NoGroup_init DD.NoGroup_init ["self", "at"] (spXInit_NoGroup AA.x_NoGroup) := by
  refine T.F_NoGroup_init.okH sc_NoGroup_init (fun vs H Q E h => ?_) (fun cdv A outer s H vs Q E h => ?_)
  · obtain ⟨e, tt, v, rfl, _⟩ := h
    rfl
  · obtain ⟨e, tt, v, rfl, he, k⟩ := h
    refine ⟨_, (@pss_one _ _ _ (ps_xfld ⟨rfl, rfl, rfl, fun _ => rfl⟩ (pv 0) (pv 1))), ?_⟩
    exact ⟨v, rfl, _, rfl, e, AA.x_NoGroup, tt, rfl, T.ic_NoGroup, T.na_NoGroup_at, .inl ⟨he, k⟩⟩
/-- raise NoGroup(v) in an except suite -/
theorem raiseH_NoGroup {C a0 : Addr} {c0 : Value} {d0 : Option Addr} {E : XK} {H : Hp} {v : V} (h : ErrAt E C v H) (ha : H a0 = some (excD a0 c0 d0 (some .none))) (e tt : Addr) (he : H e = none) :
    spXInit_NoGroup C [.ref e, v] (upd H e (excN e C tt none)) (fun x H2 => x = .non ∧ ∃ dd, H2 e = some (excN e C tt dd) ∧ (∃ c0 d0, H2 a0 = some (excD a0 c0 d0 (some .none))) ∧ E (.ref C) dd (del H2 e)) E0 := by
  have nae : a0 ≠ e := ne_of_none ha he
  refine ⟨e, tt, v, rfl, upd_same, fun dx hd ne => ?_⟩
  have nad : a0 ≠ dx := ne_of_none (show upd H e _ a0 = some _ by rw [upd_ne nae]; exact ha) hd
  refine ⟨rfl, some dx, by rw [upd_ne ne.symm, upd_same], ⟨c0, d0, by rw [upd_ne nad, upd_ne nae, upd_ne nae]; exact ha⟩, h dx _ (fun b u q => ?_) (by rw [del_ne ne, upd_same])⟩
  have hb : b ≠ e := ne_of_none q he
  have hbd : b ≠ dx := ne_of_none (show upd H e _ b = some u by rw [upd_ne hb]; exact q) hd
  rw [del_ne hb, upd_ne hbd, upd_ne hb, upd_ne hb]
  exact q
/-! a group whose wish is none -/
noncomputable def badW (n : Nat) (t : List Nat) : Prop := (∀ c ∈ t, c < 128) ∧ t.length ≤ 100 ∧ ∀ v, runR (swl n) (fulln n) t ≠ some [v]
noncomputable def spGroupX (C : Addr) : Sp := fun vs H _ E => ∃ (t : List Nat) (n : Nat) (x : V), vs = [.str ⟨(60 :: t).toArray⟩, .int n, x] ∧ n ≤ 10 ∧ badW n t ∧ ErrAt E C x H
theorem ok_groupX (T : All P w K mg AA DD) : FnOk P w K mg base (CX2 (fun _ => True) P w) 5 AA.group_mask DD.group_mask ["word", "n", "at"] (spGroupX AA.x_NoGroup) := by
  have GR := ok_readX (base := base) T
  have GI := okH_NoGroup_init (base := base) T
  refine T.F_group_mask.ok2 sc_group_mask (fun vs H Q E h => ?_) (fun cdv A outer s H vs Q E hr h => ?_)
  · obtain ⟨t, n, x, rfl, _⟩ := h
    rfl
  · obtain ⟨t, n, x, rfl, hn, ⟨hc, hl, hb⟩, k⟩ := h
    have hr4 : Room 4 _ := hr.mono (by decide)
    refine ⟨_, (@pss_one _ _ _ (ps_tryR (κ := fun c => c = some .none) body_cx (psx_ret (pex_call GR hr4 rfl T.m_read_wish T.k_read_wish T.b_read_wish .nil (@pa_cons _ _ _ _ _ (pe_slice sl_str (pv 0) (po_some pe_int) po_none) (@pa_cons _ _ _ _ _ (pv 1) pa_nil (by rfl)) (by rfl)))) rfl T.m_NoWish
      (fun ea => @pss_one _ _ _ (ps_raiseH body_cx (raise3 fun _ => trivial) rfl T.m_NoGroup T.M_NoGroup PySem.F.excBase_ValueError GI (Room.mark (hr.mono (by decide)) _) T.b_NoGroup_init (@pa_cons _ _ _ _ _ (pv 2) pa_nil (by rfl)))))), ?_⟩
    have hwl : (⟨(60 :: t).toArray⟩ : Str).length ≤ sizeLine := Nat.le_of_lt (small1000 (by simp [Str.length]; (exact Nat.le_trans (by assumption) (by decide))))
    have ec : cutS (⟨(60 :: t).toArray⟩ : Str) (some 1) none = ⟨t.toArray⟩ := str_ext (by rw [show (1 : Int) = ((1 : Nat) : Int) from rfl, cutS_from]; simp)
    refine ⟨_, rfl, _, rfl, _, rfl, hwl, ?_⟩
    rw [ec]
    refine ⟨_, rfl, ⟨t.toArray⟩, n, rfl, hn, (by simpa using hc), (by simp [Str.length]; (exact Nat.le_trans (by assumption) (by decide))), (by simpa using hb), fun H' hs => ⟨T.em_NoWish_NoWish, fun ea cx hcx hea => ?_⟩⟩
    subst hcx
    have k' := (k.same hs).same (same_upd (o := excD ea (.ref AA.x_NoWish) none (some .none)) hea)
    exact ⟨_, rfl, (by show 1 ≤ sizeLine; decide), ⟨_, _, upd_same⟩, fun e tt he _ _ => raiseH_NoGroup k' upd_same e tt he⟩
end
section
variable {P : Program} {w : World} {K : PySem.W.Frag} {mg : Str → Option Value} {base : Heap} {AA : Adr} {DD : Fds}
/-! rows that are refused -/
noncomputable def spWordsG : Sp := fun vs H Q _ => ∃ z : Str, vs = [.str z] ∧ z.length ≤ 200000 ∧ ∀ p, H p = none → Q (.ref p) (upd H p (.lst ((wordsZ z).map V.str)))
theorem ok_wordsG (T : All P w K mg AA DD) : FnOk P w K mg base CX0 1 AA.words_of DD.words_of ["row"] spWordsG := by
  refine T.F_words_of.ok sc_words_of (fun vs H Q E h => ?_) (fun cdv A outer s H vs Q E hr h => ?_)
  · obtain ⟨z, rfl, _⟩ := h
    rfl
  · obtain ⟨z, rfl, hl, k⟩ := h
    refine ⟨_, (@pss_cons _ _ _ _ _ (@ps_if _ _ _ _ _ _ _ _ (@pt_cmpR _ _ _ _ _ _ _ _ op_eq (pv 0) pe_str (nomark _)) (@pss_one _ _ _ (@ps_ret _ _ _ _ (@pe_lst _ _ _ _ pa_nil))) pss_nil) (@pss_one _ _ _ (@ps_ret _ _ _ _ (pe_bmK (K := K) rfl PySem.F.plainAttrs_str PySem.F.slot_str_split PySem.F.type_str_split mt_split (pv 0) (@pa_cons _ _ _ _ _ pe_str pa_nil (by rfl)))))), ?_⟩
    refine ⟨_, rfl, rfl, _, rfl, ?_⟩
    rw [dec_str, e_]
    unfold wordsZ at k
    by_cases h0 : z = ⟨#[]⟩
    · rw [if_pos h0] at k
      rw [decide_eq_true h0]
      refine iteT ?_
      exact ⟨(by decide), fun p hp => k p hp⟩
    · rw [if_neg h0] at k
      rw [decide_eq_false h0]
      refine iteF ?_
      refine ⟨_, rfl, rfl, _, _, rfl, rfl, (by rw [e_sp]; rfl), Nat.le_of_lt (Nat.lt_of_lt_of_le (Nat.lt_of_le_of_lt (Nat.add_le_add_right hl 2) (show 200000 + 2 < 16777216 by decide)) (by decide)), fun p hp => ?_⟩
      rw [e_sp]
      exact k p hp
noncomputable def spReadWX (C : Addr) : Sp := fun vs H _ E => ∃ (z : Str) (n : Nat) (x : V), vs = [.str z, .int n, x] ∧ n ≤ 10 ∧ Wrong n (badW n) z ∧ ErrAt E C x H
theorem starts_lt (t : List Nat) : (0 + ("<" : Str).length ≤ (⟨(60 :: t).toArray⟩ : Str).length && Builtin.Str.subAt (⟨(60 :: t).toArray⟩ : Str) "<" 0) = true := by
  rw [e_lt]
  have : (⟨#[60]⟩ : Str).length = 1 := rfl
  simp [Builtin.Str.subAt, Str.length]
theorem words_row {n : Nat} (hn : n ≤ 10) {evs : List Ev} (g : Gev n evs) : wordsZ (rowT evs) = evs.map Mm.wd := by
  by_cases h : evs = []
  · rw [h]; decide +kernel
  · refine words_join (by simpa using h) (fun z => ?_) fun z hz hc => ?_
    · have := (g.wd hn ⟨#[]⟩ (by rw [z]; simp)).2.1
      exact this rfl
    · have := (g.wd hn z hz).1 32 hc
      omega
noncomputable def RwCase (C : Addr) (n : Nat) (z : Str) (x : V) (pre : List Ev) (H : Hp) (Q : VK) (E : XK) : Prop :=
  (∃ b post, wordsZ z = pre.map Mm.wd ++ b :: post ∧ badAt (badW n) (rn pre).2 b ∧ ErrAt E C x H) ∨ (wordsZ z = pre.map Mm.wd ∧ (rn pre).2 ≠ [] ∧ ErrAt E C x H) ∨
  (wordsZ z = pre.map Mm.wd ∧ (rn pre).2 = [] ∧ ∀ p H', H p = none → Same H H' → RowAt H' p (rowD n (rn pre).1) → Q (.ref p) H')
theorem ok_readwB (T : All P w K mg AA DD) : FnOk P w K mg base (CX2 (fun _ => True) P w) 6 AA.read_words DD.read_words ["row", "n", "at"] (fun vs H Q E => spReadW vs H Q E ∨ spReadWX AA.x_NoGroup vs H Q E) := by
  have GE := ok_every (base := base) T
  have GO := ok_wordsG (base := base) T
  have GG := (ok_group (base := base) T).or0 (ok_groupX (base := base) T)
  have GI := ok_NoGroup_init (base := base) T
  refine T.F_read_words.ok2 sc_read_words (fun vs H Q E h => ?_) (fun cdv A outer s H vs Q E hr h => ?_)
  · rcases h with ⟨z, n, x, rfl, _⟩ | ⟨z, n, x, rfl, _⟩ <;> rfl
  · obtain ⟨z, n, x, pre, rfl, hn, g, hle, hzl, hbad⟩ : ∃ (z : Str) (n : Nat) (x : V) (pre : List Ev), vs = [.str z, .int n, x] ∧ n ≤ 10 ∧ Gev n pre ∧ pre.length ≤ 1000 ∧ z.length ≤ 200000 ∧ RwCase AA.x_NoGroup n z x pre H Q E := by
      rcases h with ⟨evs, n, x, rfl, hn, g, he, hle, k⟩ | ⟨z, n, x, rfl, hn, ⟨⟨pre, g, hle, hb⟩, _, hzl⟩, k⟩
      · refine ⟨_, n, x, evs, rfl, hn, g, hle, ?_, .inr (.inr ⟨words_row hn g, he, k⟩)⟩
        have := rowT_len hn g
        omega
      · refine ⟨z, n, x, pre, rfl, hn, g, Nat.le_trans hle (by decide), Nat.le_trans hzl (by decide), ?_⟩
        rcases hb with ⟨b, post, e1, hb⟩ | ⟨e1, hb⟩
        · exact .inl ⟨b, post, e1, hb, k⟩
        · exact .inr (.inl ⟨e1, hb, k⟩)
    have nd := sc_read_words.nd
    have hr1 : Room 1 _ := hr.mono (by decide)
    have hr2 : Room 2 _ := hr.mono (by decide)
    have hr5 : Room 5 _ := hr.mono (by decide)
    obtain ⟨tD, hDEEPEST_GROUP⟩ := T.v_DEEPEST_GROUP
    have no : ErrAt E AA.x_NoGroup x H → ∀ {H1 : Hp}, Same H H1 → ([V.int 0] : List V).length ≤ sizeLine ∧ ∀ e tt : Addr, H1 e = none → H1 tt = none → e ≠ tt → spXInit_NoGroup AA.x_NoGroup [.ref e, x] (upd H1 e (excN e AA.x_NoGroup tt none)) (fun v H2 => v = .non ∧ ∃ dd, H2 e = some (excN e AA.x_NoGroup tt dd) ∧ E (.ref AA.x_NoGroup) dd (del H2 e)) E0 :=
      fun k {_} sm => ⟨(by show 1 ≤ sizeLine; decide), fun e tt he _ _ => raise_NoGroup (k.same sm) e tt he⟩
    refine ⟨_, (@pss_cons _ _ _ _ _ (@ps_set _ _ 3 _ _ _ _ nd rfl (Or.inl rfl) (@pe_lst _ _ _ _ pa_nil) (by rfl) (by first | exact .inl rfl | exact .inr rfl | assumption)) (@pss_cons _ _ _ _ _ (@ps_set _ _ 4 _ _ _ _ nd rfl (Or.inl rfl) (@pe_lst _ _ _ _ (@pa_cons _ _ _ _ _ (pe_call GE hr1 rfl T.m_every T.k_every T.b_every .nil pass0 (@pa_cons _ _ _ _ _ (pv 1) pa_nil (by rfl))) pa_nil (by rfl))) (by rfl) (by first | exact .inl rfl | exact .inr rfl | assumption)) (@pss_cons _ _ _ _ _ (@ps_for _ _ _ _ _ _ _ _ PassesOwn.leaving rfl (pi_list (pe_call GO hr1 rfl T.m_words_of T.k_words_of T.b_words_of .nil pass0 (@pa_cons _ _ _ _ _ (pv 0) pa_nil (by rfl)))) (pg_name (i := 5) nd rfl (Or.inl rfl)) (@pss_cons _ _ _ _ _ (@ps_if _ _ _ _ _ _ _ _ (@pt_cmpR _ _ _ _ _ _ _ _ op_eq (pv 5) pe_str (nomark _)) (@pss_one _ _ _ (ps_raiseI body_cx (raise2 trivial) rfl rfl T.m_NoGroup T.M_NoGroup PySem.F.excBase_ValueError GI hr2 T.b_NoGroup_init (@pa_cons _ _ _ _ _ (pv 2) pa_nil (by rfl)))) pss_nil) (@pss_one _ _ _ (@ps_if _ _ _ _ _ _ _ _ (@pt_cmpR _ _ _ _ _ _ _ _ op_eq (pv 5) pe_str (nomark _)) (@pss_cons _ _ _ _ _ (@ps_expr _ _ _ _ (pe_bm0 PySem.F.plainAttrs_list PySem.F.slot_list_pop PySem.F.type_list_pop mt_pop (pv 4)) (by rfl)) (@pss_one _ _ _ (@ps_if _ _ _ _ _ _ _ _ (@pt_cmpR _ _ _ _ _ _ _ _ op_eq (pe_callB call_len_seq rfl T.n_len bt_len (@pa_cons _ _ _ _ _ (pv 4) pa_nil (by rfl))) pe_int (nomark _)) (@pss_one _ _ _ (ps_raiseI body_cx (raise2 trivial) rfl rfl T.m_NoGroup T.M_NoGroup PySem.F.excBase_ValueError GI hr2 T.b_NoGroup_init (@pa_cons _ _ _ _ _ (pv 2) pa_nil (by rfl)))) pss_nil))) (@pss_one _ _ _ (@ps_if _ _ _ _ _ _ _ _ (pt_val (pe_bmK (K := K) rfl PySem.F.plainAttrs_str PySem.F.slot_str_startswith PySem.F.type_str_startswith mt_starts (pv 5) (@pa_cons _ _ _ _ _ pe_str pa_nil (by rfl)))) (@pss_cons _ _ _ _ _ (@ps_if _ _ _ _ _ _ _ _ (@pt_cmpR _ _ _ _ _ _ _ _ op_gt (pe_callB call_len_seq rfl T.n_len bt_len (@pa_cons _ _ _ _ _ (pv 4) pa_nil (by rfl))) (pe_glob (v := .int 5) rfl hDEEPEST_GROUP ⟨_, rfl⟩) (nomark _)) (@pss_one _ _ _ (ps_raiseI body_cx (raise2 trivial) rfl rfl T.m_NoGroup T.M_NoGroup PySem.F.excBase_ValueError GI hr2 T.b_NoGroup_init (@pa_cons _ _ _ _ _ (pv 2) pa_nil (by rfl)))) pss_nil) (@pss_one _ _ _ (@ps_expr _ _ _ _ (pe_bm PySem.F.plainAttrs_list PySem.F.slot_list_append PySem.F.type_list_append mt_append (pv 4) (@pa_cons _ _ _ _ _ (@pe_op _ _ _ _ _ _ _ _ op_and (@pe_ix _ _ _ _ _ _ _ (ix_listK (K := K) rfl) (pv 4) (pe_un un_neg pe_int) (fun _ _ => rfl)) (pe_call GG hr5 rfl T.m_group_mask T.k_group_mask T.b_group_mask .nil (pass2 fun _ h => h) (@pa_cons _ _ _ _ _ (pv 5) (@pa_cons _ _ _ _ _ (pv 1) (@pa_cons _ _ _ _ _ (pv 2) pa_nil (by rfl)) (by rfl)) (by rfl)))) pa_nil (by rfl))) (by rfl)))) (@pss_one _ _ _ (@ps_expr _ _ _ _ (pe_bm PySem.F.plainAttrs_list PySem.F.slot_list_append PySem.F.type_list_append mt_append (pv 3) (@pa_cons _ _ _ _ _ (@pe_tup _ _ _ _ _ (@pa_cons _ _ _ _ _ (pv 5) (@pa_cons _ _ _ _ _ (@pe_ix _ _ _ _ _ _ _ (ix_listK (K := K) rfl) (pv 4) (pe_un un_neg pe_int) (fun _ _ => rfl)) pa_nil (by rfl)) (by rfl))) pa_nil (by rfl))) (by rfl)))))))) (by intro _; rfl)) (@pss_cons _ _ _ _ _ (@ps_if _ _ _ _ _ _ _ _ (@pt_cmpR _ _ _ _ _ _ _ _ op_gt (pe_callB call_len_seq rfl T.n_len bt_len (@pa_cons _ _ _ _ _ (pv 4) pa_nil (by rfl))) pe_int (nomark _)) (@pss_one _ _ _ (ps_raiseI body_cx (raise2 trivial) rfl rfl T.m_NoGroup T.M_NoGroup PySem.F.excBase_ValueError GI hr2 T.b_NoGroup_init (@pa_cons _ _ _ _ _ (pv 2) pa_nil (by rfl)))) pss_nil) (@pss_one _ _ _ (@ps_ret _ _ _ _ (pv 3))))))), ?_⟩
    refine ⟨Nat.zero_le _, fun pp hpp => ?_⟩
    refine ⟨_, rfl, n, rfl, hn, (by show 1 ≤ sizeLine; decide), fun pm hpm => ?_⟩
    have npm : pp ≠ pm := ne_of_none upd_same hpm
    dsimp only [gName]
    refine cut_for (fun σ' H' => Same H H' ∧ wordsZ z = pre.map Mm.wd ∧ ∃ s5 : Option V, RowAt H' pp (rowD n (rn pre).1) ∧ H' pm = some (.lst (iv (stk n (rn pre).2))) ∧ σ' = [some (.str z), some (.int (n : Nat)), some x, some (.ref pp), some (.ref pm), s5]) (fun R hR => ?_) ?_
    · refine ⟨_, rfl, z, rfl, hzl, fun pw hpw => ?_⟩
      have s0 : Same H (upd (upd (upd H pp (.lst [])) pm (.lst [.int ((fulln n : Nat) : Int)])) pw (.lst ((wordsZ z).map V.str))) := ((same_upd hpp).trans (same_upd hpm)).trans (same_upd hpw)
      have npw : pp ≠ pw := ne_of_none (show upd (upd H pp _) pm _ pp = some _ by rw [upd_ne npm, upd_same]) hpw
      have nmw : pm ≠ pw := ne_of_none upd_same hpw
      have hpp0 : H pp = none := hpp
      have hpm0 : H pm = none := by rw [upd_ne (Ne.symm npm)] at hpm; exact hpm
      refine ⟨pw, rfl, ⟨_, SqL.of upd_same⟩, ?_⟩
      refine for_list (K := K) (a := pw) (xs := (wordsZ z).map V.str) (fun i σ' H' => i ≤ pre.length ∧ Same H H' ∧ H' pw = some (.lst ((wordsZ z).map V.str)) ∧ ∃ s5 : Option V, RowAt H' pp (rowD n (rn (pre.take i)).1) ∧ H' pm = some (.lst (iv (stk n (rn (pre.take i)).2))) ∧
          σ' = [some (.str z), some (.int (n : Nat)), some x, some (.ref pp), some (.ref pm), s5])
        ⟨Nat.zero_le _, s0, upd_same, none, ⟨[], by rw [upd_ne npw, upd_ne npm, upd_same]; rfl, TupL.nil _⟩, by rw [upd_ne nmw, upd_same]; rfl, rfl⟩ (fun i σ' H' _ hsl69 => by obtain ⟨_, _, e, _⟩ := hsl69; exact SqL.of e) ?_ ?_
      · rintro i y σ' H1 hy ⟨hip, sm, hpw1, s5, ⟨ts, hts, htl⟩, hst, rfl⟩
        by_cases hlt : i < pre.length
        · obtain ⟨e, he⟩ : ∃ e, pre[i]? = some e := ⟨_, List.getElem?_eq_getElem hlt⟩
          have ez : (wordsZ z)[i]? = some (wd e) := by
            rcases hbad with ⟨b, post, e1, _⟩ | ⟨e1, _⟩ | ⟨e1, _⟩
            · rw [e1, List.getElem?_append_left (by simpa using hlt), List.getElem?_map, he]; rfl
            · rw [e1, List.getElem?_map, he]; rfl
            · rw [e1, List.getElem?_map, he]; rfl
          have ey : y = V.str (wd e) := by
            rw [List.getElem?_map, ez] at hy
            exact (Option.some.inj hy).symm
          subst ey
          have hok := g i e he
          have hrn := rn_take he
          obtain ⟨hsg, hne, hl10⟩ := evok_wd hn hok
          generalize hgo : rn (pre.take i) = st at hok hrn htl hst
          obtain ⟨fs, ar⟩ := st
          have hfl : fs.length ≤ 1000 ∧ ts.length = fs.length := by
            refine ⟨?_, by rw [htl.1]; simp [rowD]⟩
            have : ∀ l : List Ev, (rn l).1.length ≤ l.length := by
              intro l
              have : ∀ (l : List Ev) (st : RSt), (l.foldl stp st).1.length ≤ st.1.length + l.length := by
                intro l
                induction l with
                | nil => intro st; exact Nat.le_refl _
                | cons e r ih =>
                  intro st
                  have h1 := ih (stp st e)
                  have h2 : (stp st e).1.length ≤ st.1.length + 1 := by cases e <;> simp [stp]
                  simp only [List.foldl_cons, List.length_cons]
                  omega
              simpa [rn] using this l ([], [])
            have h3 := this (pre.take i)
            rw [hgo] at h3
            rw [List.length_take] at h3
            show fs.length ≤ 1000
            have : fs.length ≤ min i pre.length := h3
            omega
          refine ⟨_, rfl, rfl, _, rfl, ?_⟩
          rw [dec_str, decide_eq_false (show ¬ wd e = "" from fun z => hne (by rw [z, e_]))]
          refine iteF ?_
          refine ⟨_, rfl, rfl, _, rfl, ?_⟩
          rw [dec_str, e_gt]
          have nwm : pw ≠ pm := Ne.symm nmw
          cases e with
          | cl =>
            rw [decide_eq_true (show wd .cl = ⟨#[62]⟩ from rfl)]
            refine iteT ?_
            have har : ar ≠ [] := hok
            have hal : 0 < ar.length := List.length_pos_iff.mpr har
            refine ⟨_, rfl, .inl ⟨rfl, _, SqL.of hst⟩, pm, _, _, rfl, rfl, hst, (by rw [iv_len, stk_len, Nat.add_sub_cancel]; rw [iv, List.getElem?_map, stk_last]; rfl), ?_⟩
            have h2 : (iv (stk n ar)).dropLast = iv (stk n ar.dropLast) := by rw [← stk_drop n har]; simp [iv, List.map_dropLast]
            rw [h2]
            refine ⟨_, rfl, pm, _, rfl, .inl (SqL.of upd_same), rfl, _, rfl, ?_⟩
            rw [iv_len, stk_len, dec_int, beq_eq_false_iff_ne.mpr (show ¬ ((ar.dropLast.length + 1 : Nat) : Int) = 0 by omega)]
            refine iteF ?_
            refine ⟨hlt, fun b u e => ?_, ?_, _, ⟨ts, ?_, ?_⟩, ?_, rfl⟩
            · rw [upd_ne (ne_of_none e hpm0)]; exact sm b u e
            · rw [upd_ne nwm]; exact hpw1
            · rw [upd_ne npm]; exact hts
            · rw [hrn]; exact htl.lst hst
            · rw [upd_same, hrn]; rfl
          | op v =>
            obtain ⟨hv, hl9, h5⟩ := hok
            have h5 : ar.length < 5 := h5
            rw [decide_eq_false (show ¬ wd (.op v) = ⟨#[62]⟩ from fun z => by
              have := congrArg (fun z : Str => z.cps.toList) z
              simp [wd] at this)]
            refine iteF ?_
            refine ⟨_, rfl, rfl, _, _, rfl, rfl, _, rfl, ?_⟩
            rw [starts_op]
            refine iteT ?_
            refine ⟨_, rfl, pm, _, rfl, .inl (SqL.of hst), _, _, rfl, rfl, _, rfl, ?_⟩
            rw [iv_len, stk_len, decide_eq_false (show ¬ (5 : Int) < ((ar.length + 1 : Nat) : Int) by omega)]
            refine iteF ?_
            refine ⟨_, rfl, .inl ⟨rfl, _, SqL.of hst⟩, _, rfl, _, rfl, pm, _, _, .int (mka n ar : Nat), rfl, rfl, SqL.of hst, ?_, ?_⟩
            · exact stk_at n ar
            refine ⟨_, rfl, _, rfl, _, rfl, .inl ⟨v, n, x, rfl, hn, hv, hl9, fun H2 hs2 => ⟨_, _, rfl, rfl, ?_⟩⟩⟩
            have hst2 := hs2 _ _ hst
            refine ⟨pm, _, _, rfl, rfl, hst2, (by rw [iv_len, stk_len]; exact small1000 (by omega)), ?_⟩
            refine ⟨hlt, fun b u e => ?_, ?_, _, ⟨ts, ?_, ?_⟩, ?_, rfl⟩
            · rw [upd_ne (ne_of_none e hpm0)]; exact hs2 _ _ (sm b u e)
            · rw [upd_ne nwm]; exact hs2 _ _ hpw1
            · rw [upd_ne npm]; exact hs2 _ _ hts
            · rw [hrn]; exact (htl.same hs2).lst hst2
            · rw [upd_same, hrn]
              dsimp only
              rw [bitAnd_nat, ← mka_snoc]
              show some (HO.lst (iv (stk n ar) ++ [V.int ((mka n (ar ++ [v]) : Nat) : Int)])) = some (HO.lst (iv (stk n (ar ++ [v]))))
              rw [stk_snoc, iv_snoc]
          | pl z =>
            obtain ⟨hP, hz5⟩ := hok
            rw [decide_eq_false (show ¬ wd (.pl z) = ⟨#[62]⟩ from hP.gt)]
            refine iteF ?_
            refine ⟨_, rfl, rfl, _, _, rfl, rfl, _, rfl, ?_⟩
            have hns : (0 + ("<" : Str).length ≤ (wd (.pl z)).length && Builtin.Str.subAt (wd (.pl z)) "<" 0) = false := by
              obtain ⟨c, r, hzc, hc60⟩ := hP.hd
              rw [e_lt]
              show (0 + 1 ≤ z.length && Builtin.Str.subAt z ⟨#[60]⟩ 0) = false
              have hx : (z.cps.extract 0 (⟨#[60]⟩ : Str).length).toList = [c] := by
                rw [Array.toList_extract, hzc]; rfl
              simp [Builtin.Str.subAt]
              intro _ h2
              have h3 := congrArg Array.toList h2
              rw [hx] at h3
              simp at h3
              exact hc60 h3
            rw [hns]
            refine iteF ?_
            refine ⟨_, rfl, .inl ⟨rfl, _, SqL.of hts⟩, _, rfl, _, rfl, _, rfl, pm, _, _, .int (mka n ar : Nat), rfl, rfl, SqL.of hst, ?_, (by show 2 ≤ sizeLine; decide), fun t ht => ?_⟩
            · exact stk_at n ar
            have s2 := same_upd (o := .tup [.str z, .int ((mka n ar : Nat) : Int)]) ht
            refine ⟨pp, _, _, rfl, rfl, s2 _ _ hts, (by rw [List.length_map]; exact small1000 (by omega)), ?_⟩
            refine ⟨hlt, fun b u e => ?_, ?_, _, ⟨ts ++ [t], ?_, ?_⟩, ?_, rfl⟩
            · rw [upd_ne (ne_of_none e hpp0)]; exact s2 _ _ (sm b u e)
            · rw [upd_ne (Ne.symm npw)]; exact s2 _ _ hpw1
            · rw [upd_same, List.map_append]; rfl
            · rw [hrn]
              show TupL _ (ts ++ [t]) (rowD n (fs ++ [(z, ar)]))
              rw [show rowD n (fs ++ [(z, ar)]) = rowD n fs ++ [(z, mka n ar)] by simp [rowD]]
              exact ((htl.same s2).snoc upd_same).lst (s2 _ _ hts)
            · rw [upd_ne (Ne.symm npm), hrn]; exact s2 _ _ hst
        · have ei : i = pre.length := by omega
          subst ei
          rw [List.take_length] at hst
          have hyl := (List.getElem?_eq_some_iff.mp hy).1
          rw [List.length_map] at hyl
          rcases hbad with ⟨b, post, e1, hb, k⟩ | ⟨e1, _⟩ | ⟨e1, _⟩
          · have ey : y = V.str b := by
              rw [e1, List.getElem?_map, List.getElem?_append_right (by simp)] at hy
              simp only [List.length_map, Nat.sub_self, List.getElem?_cons_zero, Option.map_some] at hy
              exact (Option.some.inj hy).symm
            subst ey
            generalize (rn pre).2 = ar at hst hb
            refine ⟨_, rfl, rfl, _, rfl, ?_⟩
            rw [dec_str, e_]
            rcases hb with hb | ⟨hb, har⟩ | ⟨t, hb, ht⟩
            · rw [decide_eq_true hb]
              refine iteT ?_
              exact ⟨_, rfl, no k sm⟩
            · rw [decide_eq_false (by rw [hb]; decide)]
              refine iteF ?_
              refine ⟨_, rfl, rfl, _, rfl, ?_⟩
              rw [dec_str, e_gt, decide_eq_true hb]
              refine iteT ?_
              subst har
              refine ⟨_, rfl, .inl ⟨rfl, _, SqL.of hst⟩, pm, _, _, rfl, rfl, hst, (by rw [iv_len, stk_len]; rw [iv, List.getElem?_map, show ([] : List W).length + 1 - 1 = ([] : List W).length from rfl, stk_last]; rfl), ?_⟩
              refine ⟨_, rfl, pm, _, rfl, .inl (SqL.of upd_same), rfl, _, rfl, ?_⟩
              have h0 : (iv (stk n ([] : List W))).dropLast = [] := by simp [iv, stk]
              rw [h0]
              refine iteT ?_
              refine ⟨_, rfl, no k fun b' u e => ?_⟩
              rw [upd_ne (ne_of_none e hpm0)]; exact sm b' u e
            · subst hb
              rw [decide_eq_false (by intro z; have := congrArg (fun z : Str => z.cps.toList) z; simp at this)]
              refine iteF ?_
              refine ⟨_, rfl, rfl, _, rfl, ?_⟩
              rw [dec_str, e_gt, decide_eq_false (by intro z; have := congrArg (fun z : Str => z.cps.toList) z; simp at this)]
              refine iteF ?_
              refine ⟨_, rfl, rfl, _, _, rfl, rfl, _, rfl, ?_⟩
              rw [starts_lt]
              refine iteT ?_
              refine ⟨_, rfl, pm, _, rfl, .inl (SqL.of hst), _, _, rfl, rfl, _, rfl, ?_⟩
              rw [iv_len, stk_len]
              by_cases h5 : 5 ≤ ar.length
              · rw [decide_eq_true (show (5 : Int) < ((ar.length + 1 : Nat) : Int) by omega)]
                refine iteT ?_
                exact ⟨_, rfl, no k sm⟩
              · rw [decide_eq_false (show ¬ (5 : Int) < ((ar.length + 1 : Nat) : Int) by omega)]
                refine iteF ?_
                refine ⟨_, rfl, .inl ⟨rfl, _, SqL.of hst⟩, _, rfl, _, rfl, pm, _, _, .int (mka n ar : Nat), rfl, rfl, SqL.of hst, ?_, ?_⟩
                · exact stk_at n ar
                exact ⟨_, rfl, _, rfl, _, rfl, .inr ⟨t, n, x, rfl, hn, ht.resolve_left h5, k.same sm⟩⟩
          · rw [e1, List.length_map] at hyl
            exact absurd hyl (Nat.lt_irrefl _)
          · rw [e1, List.length_map] at hyl
            exact absurd hyl (Nat.lt_irrefl _)
      · rintro σ' H1 ⟨hip, sm, _, s5, hrow, hst, rfl⟩
        rw [List.length_map] at hip hst hrow
        have e1 : wordsZ z = pre.map Mm.wd := by
          rcases hbad with ⟨b, post, e1, _⟩ | ⟨e1, _⟩ | ⟨e1, _⟩
          · rw [e1, List.length_append, List.length_map, List.length_cons] at hip
            omega
          · exact e1
          · exact e1
        rw [e1, List.length_map, List.take_length] at hst hrow
        exact hR _ _ ⟨sm, e1, s5, hrow, hst, rfl⟩
    rintro σ' H1 ⟨sm, e1, s5, hrow, hst, rfl⟩
    refine ⟨_, rfl, pm, _, rfl, .inl (SqL.of hst), _, _, rfl, rfl, _, rfl, ?_⟩
    rw [iv_len, stk_len]
    rcases hbad with ⟨b, post, e2, _⟩ | ⟨_, hne, k⟩ | ⟨_, hend, k⟩
    · rw [e2] at e1
      have := congrArg List.length e1
      simp at this
    · have hp := List.length_pos_iff.mpr hne
      rw [decide_eq_true (show (1 : Int) < (((rn pre).2.length + 1 : Nat) : Int) by omega)]
      refine iteT ?_
      exact ⟨_, rfl, no k sm⟩
    · rw [hend, decide_eq_false (show ¬ (1 : Int) < ((([] : List W).length + 1 : Nat) : Int) by decide)]
      refine iteF ?_
      exact ⟨_, rfl, k pp H1 hpp sm hrow⟩
end
section
variable {P : Program} {w : World} {K : PySem.W.Frag} {mg : Str → Option Value} {base : Heap} {AA : Adr} {DD : Fds}
/-- rows of which the one at at_ is the first wrong one -/
structure RBad (n : Nat) (ss : List Str) (at_ : Nat) : Prop where
  len : ss.length ≤ 60
  each : ∀ z ∈ ss, 10 ∉ z.cps.toList ∧ z.length ≤ 1000
  good : ∀ i, i < at_ → ∃ evs, ss[i]? = some (rowT evs) ∧ Gev n evs ∧ (rn evs).2 = [] ∧ evs.length ≤ 100
  bad : ∃ z, ss[at_]? = some z ∧ Wrong n (badW n) z
noncomputable def joinN (ss : List Str) : Str := Str.join ⟨#[10]⟩ ss
noncomputable def spReadRX (C : Addr) : Sp := fun vs H _ E => ∃ (ss : List Str) (n at_ : Nat), vs = [.str (joinN ss), .int n] ∧ n ≤ 10 ∧ RBad n ss at_ ∧ ErrAt E C (.int ((at_ : Nat) : Int)) H
theorem joinN_len {ss : List Str} (h60 : ss.length ≤ 60) (h : ∀ z ∈ ss, z.length ≤ 1000) : (joinN ss).length ≤ 700000 := by
  rw [str_len, joinN, join_list]
  refine Nat.le_trans (jl_len _) ?_
  have := sum_le (l := (ss.map fun z => z.cps.toList).map List.length) (b := 1000) (fun x hx => by
    obtain ⟨l, hl, rfl⟩ := List.mem_map.mp hx
    obtain ⟨z, hz, rfl⟩ := List.mem_map.mp hl
    have h1 := h z hz
    rw [str_len] at h1
    exact h1)
  simp only [List.length_map] at this ⊢
  omega
theorem ok_readrB (T : All P w K mg AA DD) : FnOk P w K mg base (CX2 (fun _ => True) P w) 7 AA.read_rows DD.read_rows ["text", "n"] (fun vs H Q E => spReadR vs H Q E ∨ spReadRX AA.x_NoGroup vs H Q E) := by
  have GX := ok_readwB (base := base) T
  refine T.F_read_rows.ok2 sc_read_rows (fun vs H Q E h => ?_) (fun cdv A outer s H vs Q E hr h => ?_)
  · rcases h with ⟨rws, n, rfl, _⟩ | ⟨ss, n, at_, rfl, _⟩ <;> rfl
  · have hr6 : Room 6 _ := hr.mono (by decide)
    refine ⟨_, (@pss_one _ _ _ (@ps_ret _ _ _ _ (pe_comp2X (κ := fun _ => True) body_cx xok2 (xs := ["at", "row"]) (defScope st_read_rows) N_read_rows ["n"] [1] rfl (by exact ⟨rfl, rfl, by decide +kernel, by decide +kernel, by decide +kernel, by decide +kernel, by decide +kernel, rfl, by decide +kernel⟩) rfl rfl (pi_enum rfl T.n_enumerate (@pa_cons _ _ _ _ _ (pe_bmK (K := K) rfl PySem.F.plainAttrs_str PySem.F.slot_str_split PySem.F.type_str_split mt_split (pv 0) (@pa_cons _ _ _ _ _ pe_str pa_nil (by rfl))) pa_nil (by rfl))) (fun _ _ _ _ => (pg_tupK (K := K) (n := 2) rfl rfl (pgs_cons (pg_name (i := 0) (show (["at", "row", "n"] : List Str).Nodup by decide +kernel) rfl (Or.inl rfl)) (pgs_cons (pg_name (i := 1) (show (["at", "row", "n"] : List Str).Nodup by decide +kernel) rfl (Or.inl rfl)) pgs_nil)))) (fun _ _ _ _ => pif_nil) (fun _ _ _ _ => (pex_call GX hr6 rfl T.m_read_words T.k_read_words T.b_read_words .nil (@pa_cons _ _ _ _ _ (pv 1) (@pa_cons _ _ _ _ _ (pv 2) (@pa_cons _ _ _ _ _ (pv 0) pa_nil (by rfl)) (by rfl)) (by rfl))))))), ?_⟩
    rcases h with ⟨rws, n, rfl, hn, g, k⟩ | ⟨ss, n, at_, rfl, hn, g, k⟩
    · have hlen := textT_len hn g
      refine ⟨_, rfl, rfl, _, _, rfl, rfl, (by rw [e_nl]; rfl), Nat.le_of_lt (Nat.lt_of_le_of_lt (Nat.add_le_add_right hlen 2) (by decide)), fun pl hpl => ?_⟩
      rw [e_nl, textT_split hn g]
      have h60 := g.2.1
      refine ⟨pl, _, rfl, SqL.of upd_same, ?_⟩
      have s0 := same_upd (o := .lst ((rws.map rowT).map V.str)) hpl
      refine comp2_enum (K := K) (a := pl) (xs := (rws.map rowT).map V.str) (fun i ys H' => i ≤ 60 ∧ Same H H' ∧ H' pl = some (.lst ((rws.map rowT).map V.str)) ∧ ∃ ls : List Addr, ys = ls.map V.ref ∧ ls.length = i ∧
          ∀ (j : Nat) (l : Addr) (r : List (Str × Nat)), ls[j]? = some l → (rowsD n rws)[j]? = some r → RowAt H' l r) ⟨Nat.zero_le _, s0, upd_same, [], rfl, rfl, fun j l r h => by simp at h⟩ (fun i ys H' _ hsl70 => by obtain ⟨_, _, e, _⟩ := hsl70; exact SqL.of e) ?_ ?_
      · rintro i x ys H1 t hx ⟨_, sm, hpl1, ls, rfl, hil, hrow⟩ ht
        have hi : i < rws.length := by
          have := (List.getElem?_eq_some_iff.mp hx).1
          simpa using this
        have ex : x = V.str (rowT rws[i]) := by
          rw [List.getElem?_map, List.getElem?_map, List.getElem?_eq_getElem hi] at hx
          exact (Option.some.inj hx).symm
        subst ex
        intro os hos
        obtain ⟨a, b, rfl⟩ : ∃ a b, os = [a, b] := by
          match os, hos with
          | [a, b], _ => exact ⟨a, b, rfl⟩
        refine ⟨t, _, rfl, SqT.of upd_same, rfl, _, _, rfl, _, _, rfl, rfl, ⟨[_, _], rfl, rfl⟩, tYes_ok ?_⟩
        rw [if_pos rfl]
        obtain ⟨g1, g2, g3⟩ := g.2.2 rws[i] (List.getElem_mem hi)
        have st := same_upd (o := .tup [.int ((i : Nat) : Int), .str (rowT rws[i])]) ht
        refine ⟨_, rfl, _, rfl, _, rfl, .inl ⟨rws[i], n, _, rfl, hn, g1, g2, by omega, fun p H2 hp s2 hr2 => ?_⟩⟩
        have s12 := st.trans s2
        refine ⟨by rw [List.length_map]; exact small1000 (by omega), by omega, sm.trans s12, s12 _ _ hpl1, ls ++ [p], by simp, by simp [hil], fun j l r h1 h2 => ?_⟩
        by_cases hj : j < ls.length
        · rw [List.getElem?_append_left hj] at h1
          exact (hrow j l r h1 h2).same s12
        · rw [List.getElem?_append_right (by omega)] at h1
          have h0 : j - ls.length = 0 := by
            cases hh : j - ls.length with
            | zero => rfl
            | succ m => rw [hh] at h1; simp at h1
          rw [h0] at h1
          have e1 : p = l := by simpa using h1
          have ej : j = i := by omega
          subst e1 ej
          have e2 : rowD n (rn rws[j]).1 = r := by
            rw [rowsD, List.getElem?_map, List.getElem?_eq_getElem hi] at h2
            exact Option.some.inj h2
          rw [← e2]
          exact hr2
      · rintro ys H1 ⟨_, sm, hpl1, ls, rfl, hil, hrow⟩ p hp
        refine k p ls _ (by
          cases e : H p with
          | none => rfl
          | some o => rw [sm _ _ e] at hp; cases hp) (sm.trans (same_upd hp)) ⟨upd_same, ?_, fun j l r h1 h2 => (hrow j l r h1 h2).same (same_upd hp)⟩
        rw [hil]; simp [rowsD]
    · obtain ⟨zb, hzb, hw⟩ := g.bad
      have hat := (List.getElem?_eq_some_iff.mp hzb).1
      have h60 := g.len
      have hss : ss ≠ [] := fun z => by rw [z] at hat; simp at hat
      have hlen := joinN_len g.len fun z hz => (g.each z hz).2
      have hsp : Txt.split (joinN ss) ⟨#[10]⟩ = ss := split_join hss fun z hz => (g.each z hz).1
      refine ⟨_, rfl, rfl, _, _, rfl, rfl, (by rw [e_nl]; rfl), Nat.le_of_lt (Nat.lt_of_le_of_lt (Nat.add_le_add_right hlen 2) (by decide)), fun pl hpl => ?_⟩
      rw [e_nl, hsp]
      refine ⟨pl, _, rfl, SqL.of upd_same, ?_⟩
      have s0 := same_upd (o := .lst (ss.map V.str)) hpl
      refine comp2_enum (K := K) (a := pl) (xs := ss.map V.str) (fun i ys H' => i ≤ at_ ∧ ys.length = i ∧ Same H H' ∧ H' pl = some (.lst (ss.map V.str))) ⟨Nat.zero_le _, rfl, s0, upd_same⟩ (fun i ys H' _ hsl71 => by obtain ⟨_, _, _, e⟩ := hsl71; exact SqL.of e) ?_ ?_
      · rintro i x ys H1 t hx ⟨hia, hyl, sm, hpl1⟩ ht
        intro os hos
        obtain ⟨a, b, rfl⟩ : ∃ a b, os = [a, b] := by
          match os, hos with
          | [a, b], _ => exact ⟨a, b, rfl⟩
        have st := same_upd (o := .tup [.int ((i : Nat) : Int), x]) ht
        by_cases hlt : i < at_
        · obtain ⟨evs, he, g1, g2, g3⟩ := g.good i hlt
          have ex : x = V.str (rowT evs) := by
            rw [List.getElem?_map, he] at hx
            exact (Option.some.inj hx).symm
          subst ex
          refine ⟨t, _, rfl, SqT.of upd_same, rfl, _, _, rfl, _, _, rfl, rfl, ⟨[_, _], rfl, rfl⟩, tYes_ok ?_⟩
          rw [if_pos rfl]
          refine ⟨_, rfl, _, rfl, _, rfl, .inl ⟨evs, n, _, rfl, hn, g1, g2, by omega, fun p H2 hp s2 hr2 => ?_⟩⟩
          have s12 := st.trans s2
          exact ⟨by rw [hyl]; exact small1000 (by omega), by omega, by simp [hyl], sm.trans s12, s12 _ _ hpl1⟩
        · have ei : i = at_ := by omega
          subst ei
          have ex : x = V.str zb := by
            rw [List.getElem?_map, hzb] at hx
            exact (Option.some.inj hx).symm
          subst ex
          refine ⟨t, _, rfl, SqT.of upd_same, rfl, _, _, rfl, _, _, rfl, rfl, ⟨[_, _], rfl, rfl⟩, tYes_ok ?_⟩
          rw [if_pos rfl]
          exact ⟨_, rfl, _, rfl, _, rfl, .inr ⟨zb, n, _, rfl, hn, hw, k.same (sm.trans st)⟩⟩
      · rintro ys H1 ⟨hia, _⟩ p hp
        rw [List.length_map] at hia
        omega
end
section
variable {P : Program} {w : World} {K : PySem.W.Frag} {mg : Str → Option Value} {base : Heap} {AA : Adr} {DD : Fds}
/-! rules that are none, texts that are wrong -/
noncomputable def Odd (H : Hp) (x : V) : Prop := (∃ b, x = .bl b) ∨ x = .non ∨ (∃ z, x = .str z) ∨ ∃ p xs, x = .ref p ∧ H p = some (.lst xs)
noncomputable def BadM (n : Nat) (H : Hp) (x : V) : Prop := Odd H x ∨ ∃ i : Int, x = .int i ∧ (i < 0 ∨ ((fulln n : Nat) : Int) < i)
theorem BadM.same {n : Nat} {H H' : Hp} {x : V} (h : BadM n H x) (s : Same H H') : BadM n H' x := by
  rcases h with (h | h | h | ⟨p, xs, e, h⟩) | h
  · exact .inl (.inl h)
  · exact .inl (.inr (.inl h))
  · exact .inl (.inr (.inr (.inl h)))
  · exact .inl (.inr (.inr (.inr ⟨p, xs, e, s _ _ h⟩)))
  · exact .inr h
noncomputable def spIsWhX : Sp := fun vs H Q _ => ∃ x, vs = [x] ∧ Odd H x ∧ Q (.bl false) H
theorem ok_iswhX (T : All P w K mg AA DD) : FnOk P w K mg base CX0 1 AA.is_whole DD.is_whole ["value"] spIsWhX := by
  refine T.F_is_whole.ok sc_is_whole (fun vs H Q E h => ?_) (fun cdv A outer s H vs Q E hr h => ?_)
  · obtain ⟨x, rfl, _⟩ := h
    rfl
  · obtain ⟨x, rfl, hx, k⟩ := h
    refine ⟨_, (@pss_one _ _ _ (@ps_ret _ _ _ _ (pe_and (pe_callB (call_isinst (n := "int")) rfl T.n_isinstance bt_isi (@pa_cons _ _ _ _ _ (pv 0) (@pa_cons _ _ _ _ _ (pe_bltn (v := .ty "int") rfl T.n_int bt_int rfl) pa_nil (by rfl)) (by rfl))) (pe_one (pe_not (pe_callB (call_isinst (n := "bool")) rfl T.n_isinstance bt_isi (@pa_cons _ _ _ _ _ (pv 0) (@pa_cons _ _ _ _ _ (pe_bltn (v := .ty "bool") rfl T.n_bool bt_bool rfl) pa_nil (by rfl)) (by rfl)))))))), ?_⟩
    rcases hx with ⟨b, rfl⟩ | rfl | ⟨z, rfl⟩ | ⟨p, xs, rfl, e⟩
    · refine ⟨_, rfl, _, _, true, rfl, .bl _, (by rfl), _, rfl, ?_⟩
      rw [if_pos rfl]
      exact ⟨_, rfl, _, _, true, rfl, .bl _, kit_bool_bool _, _, rfl, k⟩
    · refine ⟨_, rfl, _, _, false, rfl, .non, (by rfl), _, rfl, ?_⟩
      rw [if_neg Bool.false_ne_true]
      exact k
    · refine ⟨_, rfl, _, _, false, rfl, .str _, (by rfl), _, rfl, ?_⟩
      rw [if_neg Bool.false_ne_true]
      exact k
    · refine ⟨_, rfl, _, _, false, rfl, .lst e, (by rfl), _, rfl, ?_⟩
      rw [if_neg Bool.false_ne_true]
      exact k
noncomputable def spIsMaskX : Sp := fun vs H Q _ => ∃ (x : V) (n : Nat), vs = [x, .int ((n : Nat) : Int)] ∧ n ≤ 10 ∧ BadM n H x ∧ Q (.bl false) H
theorem ok_ismaskX (T : All P w K mg AA DD) : FnOk P w K mg base CX0 2 AA.is_mask DD.is_mask ["value", "n"] spIsMaskX := by
  have GH0 := (ok_iswh (base := base) T).or0 (ok_iswhX (base := base) T)
  have GE := ok_every (base := base) T
  refine T.F_is_mask.ok sc_is_mask (fun vs H Q E h => ?_) (fun cdv A outer s H vs Q E hr h => ?_)
  · obtain ⟨x, n, rfl, _⟩ := h
    rfl
  · obtain ⟨x, n, rfl, hn, hx, k⟩ := h
    have hr1 : Room 1 _ := hr
    refine ⟨_, (@pss_one _ _ _ (@ps_ret _ _ _ _ (pe_and (pe_call GH0 hr1 rfl T.m_is_whole T.k_is_whole T.b_is_whole .nil pass0 (@pa_cons _ _ _ _ _ (pv 0) pa_nil (by rfl))) (pe_and (@pe_cmpR _ _ _ _ _ _ _ _ op_ge (pv 0) pe_int (nomark _)) (pe_one (@pe_cmpR _ _ _ _ _ _ _ _ op_le (pv 0) (pe_call GE hr1 rfl T.m_every T.k_every T.b_every .nil pass0 (@pa_cons _ _ _ _ _ (pv 1) pa_nil (by rfl))) (nomark _))))))), ?_⟩
    rcases hx with hx | ⟨i, rfl, hi⟩
    · exact ⟨_, rfl, .inr ⟨x, rfl, hx, _, rfl, iteF k⟩⟩
    · refine ⟨_, rfl, .inl ⟨i, rfl, _, rfl, iteT ?_⟩⟩
      refine ⟨_, rfl, _, _, rfl, rfl, _, rfl, ?_⟩
      by_cases h0 : 0 ≤ i
      · rw [decide_eq_true h0]
        refine iteT ?_
        refine ⟨_, rfl, _, rfl, n, rfl, hn, _, _, rfl, rfl, ?_⟩
        dsimp only
        rw [decide_eq_false (show ¬ i ≤ ((fulln n : Nat) : Int) by (clear hn; omega))]
        exact k
      · rw [decide_eq_false h0]
        exact iteF k
noncomputable def spAskX (C : Addr) : Sp := fun vs H _ E => ∃ (x : V) (n : Nat), vs = [x, .int ((n : Nat) : Int)] ∧ n ≤ 10 ∧ BadM n H x ∧ ∀ H', Same H H' → E (.ref C) none H'
theorem ok_askX (T : All P w K mg AA DD) : FnOk P w K mg base (CX2 (fun _ => True) P w) 3 AA.ask_rule DD.ask_rule ["rule", "n"] (spAskX AA.x_NoSet) := by
  have GM := ok_ismaskX (base := base) T
  refine T.F_ask_rule.ok2 sc_ask_rule (fun vs H Q E h => ?_) (fun cdv A outer s H vs Q E hr h => ?_)
  · obtain ⟨x, n, rfl, _⟩ := h
    rfl
  · obtain ⟨x, n, rfl, hn, hx, k⟩ := h
    have hr2 : Room 2 _ := hr
    refine ⟨_, (@pss_one _ _ _ (@ps_if _ _ _ _ _ _ _ _ (pt_not (pt_val (pe_call GM hr2 rfl T.m_is_mask T.k_is_mask T.b_is_mask .nil pass0 (@pa_cons _ _ _ _ _ (pv 0) (@pa_cons _ _ _ _ _ (pv 1) pa_nil (by rfl)) (by rfl))))) (pss_one (ps_raise (raise2m trivial) rfl rfl T.m_NoSet T.x_NoSet PySem.F.excBase_ValueError (pa_cons pe_str pa_nil))) pss_nil)), ?_⟩
    refine ⟨_, rfl, _, rfl, x, n, rfl, hn, hx, _, rfl, iteT ?_⟩
    exact ⟨(show 1 ≤ sizeLine by decide), k _ (Same.refl _)⟩
noncomputable def spTidiedX (CS CG : Addr) : Sp := fun vs H _ E => ∃ (z : Str) (n : Nat) (x : V), vs = [.str z, .int ((n : Nat) : Int), x] ∧ n ≤ 5 ∧ ((BadM n H x ∧ ∀ H', Same H H' → E (.ref CS) none H') ∨
  ∃ (m : Nat) (ss : List Str) (at_ : Nat), x = .int ((m : Nat) : Int) ∧ m < 2 ^ 2 ^ n ∧ z = joinN ss ∧ RBad n ss at_ ∧ ErrAt E CG (.int ((at_ : Nat) : Int)) H)
theorem ok_tidiedB (T : All P w K mg AA DD) : FnOk P w K mg base (CX2 (fun _ => True) P w) 17 AA.tidied DD.tidied ["text", "n", "rule"] (fun vs H Q E => spTidied vs H Q E ∨ spTidiedX AA.x_NoSet AA.x_NoGroup vs H Q E) := by
  have GA := (ok_ask (base := base) T).or0 (ok_askX (base := base) T)
  have GY := ok_readrB (base := base) T
  have GT := ok_trow (base := base) T
  refine T.F_tidied.ok2 sc_tidied (fun vs H Q E h => ?_) (fun cdv A outer s H vs Q E hr h => ?_)
  · rcases h with ⟨z, n, x, rfl, _⟩ | ⟨z, n, x, rfl, _⟩ <;> rfl
  · have nd := sc_tidied.nd
    have hr3 : Room 3 _ := hr.mono (by decide)
    have hr7 : Room 7 _ := hr.mono (by decide)
    have hr16 : Room 16 _ := hr
    refine ⟨_, (@pss_cons _ _ _ _ _ (@ps_expr _ _ _ _ (pe_call GA hr3 rfl T.m_ask_rule T.k_ask_rule T.b_ask_rule .nil (pass2 fun _ h => h) (@pa_cons _ _ _ _ _ (pv 2) (@pa_cons _ _ _ _ _ (pv 1) pa_nil (by rfl)) (by rfl))) (by rfl)) (@pss_one _ _ _ (@ps_ret _ _ _ _ (pe_bmK (K := K) rfl PySem.F.plainAttrs_str PySem.F.slot_str_join PySem.F.type_str_join (mt_join (K := K) rfl) pe_str (@pa_cons _ _ _ _ _ (pe_comp (defScope st_tidied) N_tidied ["n", "rule"] [1, 2] rfl (by exact ⟨rfl, rfl, by decide +kernel, rfl, by decide +kernel, by decide +kernel, by decide +kernel, rfl, by decide +kernel⟩) rfl rfl (pi_list (pe_call GY hr7 rfl T.m_read_rows T.k_read_rows T.b_read_rows .nil (pass2 fun _ h => h) (@pa_cons _ _ _ _ _ (pv 0) (@pa_cons _ _ _ _ _ (pv 1) pa_nil (by rfl)) (by rfl)))) (fun _ _ _ _ => pif_nil) (fun _ _ _ _ => (pe_call GT hr16 rfl T.m_tidied_row T.k_tidied_row T.b_tidied_row .nil pass0 (@pa_cons _ _ _ _ _ (pv 0) (@pa_cons _ _ _ _ _ (pv 1) (@pa_cons _ _ _ _ _ (pv 2) pa_nil (by rfl)) (by rfl)) (by rfl))))) pa_nil (by rfl)))))), ?_⟩
    rcases h with ⟨rws, n, m, rfl, hn, hm, g, hfl, k⟩ | ⟨z, n, x, rfl, hn, h⟩
    · refine ⟨_, rfl, _, rfl, .inl ⟨m, n, rfl, by omega, hm, ?_⟩⟩
      refine ⟨rfl, _, rfl, _, rfl, .inl ⟨rws, n, rfl, by omega, g, fun p ls H1 hp s1 hR => ?_⟩⟩
      obtain ⟨h1, h2, h3⟩ := hR
      have hrl : (rowsD n rws).length = rws.length := by simp [rowsD]
      have h60 := g.2.1
      refine ⟨p, rfl, ⟨_, SqL.of h1⟩, ?_⟩
      refine comp_list (K := K) (a := p) (xs := ls.map V.ref) (fun i ys H' => Same H1 H' ∧ ∃ zs : List Str, ys = zs.map V.str ∧ zs.length = i ∧ ∀ z ∈ zs, z.length ≤ 500) ⟨Same.refl _, [], rfl, rfl, fun z h => nomatch h⟩ (fun i ys H' _ z => SqL.of (z.1 _ _ h1)) ?_ ?_
      · rintro i x ys H2 hx ⟨sm, zs, rfl, hzl, hz5⟩
        have hi : i < ls.length := by
          have := (List.getElem?_eq_some_iff.mp hx).1
          rw [List.length_map] at this; exact this
        have ex : x = V.ref ls[i] := by rw [List.getElem?_map, List.getElem?_eq_getElem hi] at hx; exact (Option.some.inj hx).symm
        subst ex
        have hir : i < rws.length := by rw [← hrl, ← h2]; exact hi
        have hro : (rowsD n rws)[i]? = some (rowD n (rn rws[i]).1) := by rw [rowsD, List.getElem?_map, List.getElem?_eq_getElem hir]; rfl
        have hRow := (h3 i ls[i] _ (List.getElem?_eq_getElem hi) hro).same sm
        refine tYes_ok ?_
        rw [if_pos rfl]
        refine ⟨_, rfl, _, rfl, _, rfl, ls[i], _, n, m, rfl, hm, hRow, hfl rws[i] (List.getElem_mem hir), fun z H3 hzz s3 => ?_⟩
        refine ⟨by rw [List.length_map, hzl]; exact small1000 (Nat.le_trans (Nat.le_of_lt hir) (Nat.le_trans h60 (by decide))), sm.trans s3, zs ++ [z], by simp, by simp [hzl], fun y hy => ?_⟩
        rcases List.mem_append.mp hy with q | q
        · exact hz5 y q
        · rw [List.mem_singleton.mp q]; exact hzz
      rintro ys H2 ⟨sm, zs, rfl, hzl, hz5⟩ q hq
      rw [List.length_map, h2, hrl] at hzl
      refine ⟨_, q, _, rfl, rfl, SqL.of upd_same, (by rw [e_nl]; decide), weighT (b := 500) (k := 60) hz5 (by rw [hzl]; exact h60) (by decide), ?_⟩
      exact k _ _ ((s1.trans sm).trans (same_upd hq))
    · rcases h with ⟨hx, k⟩ | ⟨m, ss, at_, rfl, hm, rfl, g, k⟩
      · exact ⟨_, rfl, _, rfl, .inr ⟨x, n, rfl, by omega, hx, k⟩⟩
      · refine ⟨_, rfl, _, rfl, .inl ⟨m, n, rfl, by omega, hm, ?_⟩⟩
        exact ⟨rfl, _, rfl, _, rfl, .inr ⟨ss, n, at_, rfl, by omega, g, k⟩⟩
noncomputable def spPartedX (CS CG : Addr) : Sp := fun vs H _ E => ∃ (z1 z2 : Str) (n : Nat) (x : V), vs = [.str z1, .str z2, .int ((n : Nat) : Int), x] ∧ n ≤ 5 ∧ ((BadM n H x ∧ ∀ H', Same H H' → E (.ref CS) none H') ∨
  ∃ (m : Nat) (ss : List Str) (at_ : Nat), x = .int ((m : Nat) : Int) ∧ m < 2 ^ 2 ^ n ∧ RBad n ss at_ ∧ ErrAt E CG (.int ((at_ : Nat) : Int)) H ∧ (z1 = joinN ss ∨ ∃ r1, z1 = textT r1 ∧ Grs n r1 ∧ z2 = joinN ss))
theorem ok_partedB (T : All P w K mg AA DD) : FnOk P w K mg base (CX2 (fun _ => True) P w) 8 AA.parted DD.parted ["one", "other", "n", "rule"] (fun vs H Q E => spParted vs H Q E ∨ spPartedX AA.x_NoSet AA.x_NoGroup vs H Q E) := by
  have GA := (ok_ask (base := base) T).or0 (ok_askX (base := base) T)
  have GY := ok_readrB (base := base) T
  have GT := ok_settings (base := base) T
  have GC := ok_cutrs (base := base) T
  refine T.F_parted.ok2 sc_parted (fun vs H Q E h => ?_) (fun cdv A outer s H vs Q E hr h => ?_)
  · rcases h with ⟨z1, z2, n, x, rfl, _⟩ | ⟨z1, z2, n, x, rfl, _⟩ <;> rfl
  · have nd := sc_parted.nd
    have hu := hr.units
    have hr2 : Room 2 _ := hr.mono (by decide)
    have hr3 : Room 3 _ := hr.mono (by decide)
    have hr7 : Room 7 _ := hr
    refine ⟨_, (@pss_cons _ _ _ _ _ (@ps_expr _ _ _ _ (pe_call GA hr3 rfl T.m_ask_rule T.k_ask_rule T.b_ask_rule .nil (pass2 fun _ h => h) (@pa_cons _ _ _ _ _ (pv 3) (@pa_cons _ _ _ _ _ (pv 2) pa_nil (by rfl)) (by rfl))) (by rfl)) (@pss_cons _ _ _ _ _ (@ps_set _ _ 4 _ _ _ _ nd rfl (Or.inl rfl) (pe_call GY hr7 rfl T.m_read_rows T.k_read_rows T.b_read_rows .nil (pass2 fun _ h => h) (@pa_cons _ _ _ _ _ (pv 0) (@pa_cons _ _ _ _ _ (pv 2) pa_nil (by rfl)) (by rfl))) (by rfl) (by first | exact .inl rfl | exact .inr rfl | assumption)) (@pss_cons _ _ _ _ _ (@ps_set _ _ 5 _ _ _ _ nd rfl (Or.inl rfl) (pe_call GY hr7 rfl T.m_read_rows T.k_read_rows T.b_read_rows .nil (pass2 fun _ h => h) (@pa_cons _ _ _ _ _ (pv 1) (@pa_cons _ _ _ _ _ (pv 2) pa_nil (by rfl)) (by rfl))) (by rfl) (by first | exact .inl rfl | exact .inr rfl | assumption)) (@pss_cons _ _ _ _ _ (@ps_for _ _ _ _ _ _ _ _ PassesOwn.leaving rfl (pi_list (pe_call GT hr2 rfl T.m_settings T.k_settings T.b_settings .nil pass0 (@pa_cons _ _ _ _ _ (pv 3) pa_nil (by rfl)))) (pg_name (i := 6) nd rfl (Or.inl rfl)) (@pss_one _ _ _ (@ps_if _ _ _ _ _ _ _ _ (@pt_cmpR _ _ _ _ _ _ _ _ (op_neD (K := K) rfl hu) (pe_call GC hr3 rfl T.m_cut_rows T.k_cut_rows T.b_cut_rows .nil pass0 (@pa_cons _ _ _ _ _ (pv 4) (@pa_cons _ _ _ _ _ (pv 6) pa_nil (by rfl)) (by rfl))) (pe_call GC hr3 rfl T.m_cut_rows T.k_cut_rows T.b_cut_rows .nil pass0 (@pa_cons _ _ _ _ _ (pv 5) (@pa_cons _ _ _ _ _ (pv 6) pa_nil (by rfl)) (by rfl))) (nomark _)) (@pss_one _ _ _ (@ps_ret _ _ _ _ (pv 6))) pss_nil)) (by intro _; rfl)) (@pss_one _ _ _ (@ps_ret _ _ _ _ pe_non)))))), ?_⟩
    rcases h with ⟨r1, r2, n, m, rfl, hn, hm, g1, g2, k1, k2⟩ | ⟨z1, z2, n, x, rfl, hn, h⟩
    · refine ⟨_, rfl, _, rfl, .inl ⟨m, n, rfl, by omega, hm, ?_⟩⟩
      refine ⟨_, rfl, _, rfl, .inl ⟨r1, n, rfl, by omega, g1, fun p1 l1 H1 hp1 s1 hR1 => ?_⟩⟩
      try dsimp only [gName]
      refine ⟨_, rfl, _, rfl, .inl ⟨r2, n, rfl, by omega, g2, fun p2 l2 H2 hp2 s2 hR2 => ?_⟩⟩
      try dsimp only [gName]
      have hR1 := hR1.same s2
      have sA := s1.trans s2
      have h2n : 2 ^ n ≤ 32 := Nat.pow_le_pow_right (by decide) hn
      have hmB : m < 2 ^ 1024 := Nat.lt_of_lt_of_le hm (Nat.pow_le_pow_right (by decide) (by omega))
      have hsb := sets_bl hm
      refine cut_for (fun σ' H' => Same H H' ∧ ∀ t, t < 2 ^ n → m.testBit t = true → ¬ Dif n r1 r2 t) (fun R hR => ?_) ?_
      · refine ⟨_, rfl, m, rfl, hmB, fun ps hps => ?_⟩
        have s3 := same_upd (o := .lst ((asInts (setsOf m (bl m))).map V.int)) hps
        have hPs : upd H2 ps (.lst ((asInts (setsOf m (bl m))).map V.int)) ps = some (.lst ((asInts (setsOf m (bl m))).map V.int)) := upd_same
        rw [hsb] at s3 hPs ⊢
        have hR1 := hR1.same s3
        have hR2 := hR2.same s3
        have sA := sA.trans s3
        generalize upd H2 ps _ = H3 at hPs hR1 hR2 sA ⊢
        refine ⟨ps, rfl, ⟨_, SqL.of hPs⟩, ?_⟩
        refine for_list (K := K) (a := ps) (xs := (asInts (setsOf m (2 ^ n))).map V.int) (fun i σ' H' => Same H3 H' ∧ (∀ t ∈ (setsOf m (2 ^ n)).take i, ¬ Dif n r1 r2 t) ∧ ∃ x6 : Option V, σ' = [some (.str (textT r1)), some (.str (textT r2)), some (.int ((n : Nat) : Int)), some (.int ((m : Nat) : Int)), some (.ref p1), some (.ref p2), x6]) ⟨Same.refl _, by simp, none, rfl⟩ (fun i σ' H' _ z => SqL.of (z.1 _ _ hPs)) ?_ ?_
        · rintro i x σ' H4 hx ⟨sm, hno, x6, rfl⟩
          rw [List.getElem?_map, asInts, List.getElem?_map] at hx
          obtain ⟨y, hy, rfl⟩ := Option.map_eq_some_iff.mp hx
          obtain ⟨t, ht, rfl⟩ := Option.map_eq_some_iff.mp hy
          have htm := List.mem_of_getElem? ht
          have htn := sets_lt htm
          have htb : m.testBit t = true := (List.mem_filter.mp htm).2
          have o1 := rows_le g1
          have o2 := rows_le g2
          refine ⟨_, rfl, _, rfl, p1, l1, _, t, rfl, hR1.same sm, o1.1, o1.2, fun q1 qs1 H5 _ _ _ s5 hL1 => ?_⟩
          refine ⟨_, rfl, _, rfl, p2, l2, _, t, rfl, (hR2.same sm).same s5, o2.1, o2.2, fun q2 qs2 H6 _ _ _ s6 hL2 => ?_⟩
          refine ⟨_, _, (hL1.same s6).rdv, hL2.rdv, (cut_shape g1).ok (by decide), (cut_shape g2).ok (by decide), _, rfl, ?_⟩
          rw [eqv_ll]
          by_cases hd : cutD t (rowsD n r1) = cutD t (rowsD n r2)
          · rw [decide_eq_true hd]
            refine iteF ?_
            refine ⟨(sm.trans s5).trans s6, fun t' ht' => ?_, _, rfl⟩
            have hi := (List.getElem?_eq_some_iff.mp ht).1
            rw [List.take_succ, ht] at ht'
            rcases List.mem_append.mp ht' with z | z
            · exact hno t' z
            · have : t' = t := by simpa using z
              subst this
              exact fun h => h hd
          · rw [decide_eq_false hd]
            refine iteT ?_
            exact ⟨_, rfl, k1 _ t (((sA.trans sm).trans s5).trans s6) htn htb hd fun t' h1 h2 => hno t' (sets_before ht h1 h2)⟩
        · rintro σ' H4 ⟨sm, hno, x6, rfl⟩
          rw [List.length_map, asInts, List.length_map, List.take_length] at hno
          exact hR _ _ ⟨sA.trans sm, fun t h1 h2 => hno t (List.mem_filter.mpr ⟨List.mem_range.mpr h1, h2⟩)⟩
      · rintro σ' H' ⟨sm, hno⟩
        exact k2 _ sm hno
    · rcases h with ⟨hx, k⟩ | ⟨m, ss, at_, rfl, hm, g, k, hz⟩
      · exact ⟨_, rfl, _, rfl, .inr ⟨x, n, rfl, by omega, hx, k⟩⟩
      · refine ⟨_, rfl, _, rfl, .inl ⟨m, n, rfl, by omega, hm, ?_⟩⟩
        rcases hz with rfl | ⟨r1, rfl, g1, rfl⟩
        · exact ⟨_, rfl, _, rfl, .inr ⟨ss, n, at_, rfl, by omega, g, k⟩⟩
        · refine ⟨_, rfl, _, rfl, .inl ⟨r1, n, rfl, by omega, g1, fun p1 l1 H1 hp1 s1 hR1 => ?_⟩⟩
          try dsimp only [gName]
          exact ⟨_, rfl, _, rfl, .inr ⟨ss, n, at_, rfl, by omega, g, k.same s1⟩⟩
end
section
variable {P : Program} {w : World} {K : PySem.W.Frag} {mg : Str → Option Value} {base : Heap} {AA : Adr} {DD : Fds}
/-! the wrong rows of this law -/
theorem badW_mk {n : Nat} {t : List Nat} (h1 : ∀ c ∈ t, c < 128) (h2 : t.length ≤ 100) (h3 : ∀ v, runR (swl n) (fulln n) t ≠ some [v]) : badW n t := ⟨h1, h2, h3⟩
theorem run_beyond {n : Nat} (hn : n ≤ 4) : runR (swl n) (fulln n) [97 + n] = none := by
  have hv : valR (swl n) (fulln n) (97 + n) = none := by
    unfold valR
    rw [if_neg (by (clear hn; omega)), if_neg (by (clear hn; omega))]
    split
    · rw [show 97 + n - 97 = n by (simp; done)]
      refine List.getElem?_eq_none ?_
      simp [swl]
    · rfl
  have hnd : needs (97 + n) = 0 := by
    unfold needs
    rw [if_neg (by (clear hn; omega)), if_neg (by (clear hn; omega)), if_neg (by omega), if_neg (by (clear hn; omega)), if_neg (by (clear hn; omega))]
  simp [runR, stepR, hv, hnd]
theorem wrong_fix {n : Nat} {z : Str} (zs : List Str) (e : z = Str.join ⟨#[32]⟩ zs) (h0 : zs ≠ []) (h1 : zs ≠ [⟨#[]⟩]) (h : ∀ y ∈ zs, 32 ∉ y.cps.toList ∧ 10 ∉ y.cps.toList) (hl : z.length ≤ 1000) (hb : Bad n (badW n) zs) : Wrong n (badW n) z := by
  subst e
  exact wrong_of h0 h1 h hl hb
section
variable {n : Nat}
noncomputable abbrev xS : Str := ⟨#[120]⟩
noncomputable abbrev yS : Str := ⟨#[121]⟩
noncomputable abbrev yyS : Str := ⟨#[121, 121]⟩
noncomputable abbrev zS : Str := ⟨#[122]⟩
theorem plx : Pl xS ∧ xS.length ≤ 5 := ⟨⟨by decide, ⟨120, [], rfl, by decide⟩, by decide⟩, by decide⟩
theorem ply : Pl yS ∧ yS.length ≤ 5 := ⟨⟨by decide, ⟨121, [], rfl, by decide⟩, by decide⟩, by decide⟩
theorem plyy : Pl yyS ∧ yyS.length ≤ 5 := ⟨⟨by decide, ⟨121, [121], rfl, by decide⟩, by decide⟩, by decide⟩
theorem plz : Pl zS ∧ zS.length ≤ 5 := ⟨⟨by decide, ⟨122, [], rfl, by decide⟩, by decide⟩, by decide⟩
theorem opc1 {ar : List W} (h : ar.length < 5) : evok n ar (.op .c1) := ⟨trivial, by decide, h⟩
theorem opc0 {ar : List W} (h : ar.length < 5) : evok n ar (.op .c0) := ⟨trivial, by decide, h⟩
theorem opno {ar : List W} (h : ar.length < 5) : evok n ar (.op (.no .c1)) := ⟨trivial, by decide, h⟩
theorem gev1 : Gev n [.op .c1] := Gev.snoc (evs := []) (Gev.nil n) (opc1 (by decide))
theorem gevx : Gev n [.pl xS] := Gev.snoc (evs := []) (Gev.nil n) plx
theorem gev1x : Gev n [.op .c1, .pl xS] := Gev.snoc (evs := [.op .c1]) gev1 plx
theorem gev1xc : Gev n [.op .c1, .pl xS, .cl] := Gev.snoc (evs := [.op .c1, .pl xS]) gev1x (show (rn [.op .c1, .pl xS]).2 ≠ [] by simp [rn, stp])
theorem gev1x0yc : Gev n [.op .c1, .pl xS, .op .c0, .pl yS, .cl] :=
  Gev.snoc (evs := [.op .c1, .pl xS, .op .c0, .pl yS]) (Gev.snoc (evs := [.op .c1, .pl xS, .op .c0]) (Gev.snoc (evs := [.op .c1, .pl xS]) gev1x (opc0 (by simp [rn, stp]))) ply) (show (rn [.op .c1, .pl xS, .op .c0, .pl yS]).2 ≠ [] by simp [rn, stp])
theorem gev11111 : Gev n [.op .c1, .op .c1, .op .c1, .op .c1, .op .c1] :=
  Gev.snoc (evs := [.op .c1, .op .c1, .op .c1, .op .c1]) (Gev.snoc (evs := [.op .c1, .op .c1, .op .c1]) (Gev.snoc (evs := [.op .c1, .op .c1]) (Gev.snoc (evs := [.op .c1]) gev1 (opc1 (by decide))) (opc1 (by decide))) (opc1 (by decide))) (opc1 (by decide))
noncomputable def badRows (n : Nat) : List Str := (([("<1 x" : Str), "x >", "<1 x > > y", ("<a" : Str) ++ ⟨#[97 + n]⟩ ++ " x >", ("<" : Str) ++ ⟨#[97 + n]⟩ ++ " x >"] : List Str) ++ (["<& x >", "x  y", " x", "x ", "<"] : List Str)) ++ (["<1 <1 <1 <1 <1 <1 x > > > > > >", "<1 x <0 y >", "> <1 x", "<1> x >", "< x >"] : List Str)
theorem bad_w (t : List Nat) (post : List Str) (hb : badW n t) : Bad n (badW n) (⟨(60 :: t).toArray⟩ :: post) := ⟨[], Gev.nil n, by decide, .inl ⟨_, post, rfl, .inr (.inr ⟨t, rfl, .inr hb⟩)⟩⟩
theorem badRows_ok (hn : n ≤ 4) : ∀ z ∈ badRows n, Wrong n (badW n) z := by
  intro z hz
  have b0 : badW n [] := badW_mk (by simp) (by simp) (fun v => by simp [runR])
  have b38 : badW n [38] := badW_mk (by simp) (by simp) (fun v => by simp [runR, stepR, valR, needs, isL])
  have b1g : badW n [49, 62] := badW_mk (by simp) (by simp) (fun v => by simp [runR, stepR, valR, needs, isL])
  have bL : badW n [97 + n] := badW_mk (by simp; omega) (by simp) (fun v => by rw [run_beyond hn]; exact fun z => nomatch z)
  have baL : badW n [97, 97 + n] := badW_mk (by simp; omega) (by simp) (fun v => by
    have : runR (swl n) (fulln n) (97 :: [97 + n]) = none := by
      show (runR (swl n) (fulln n) [97 + n]).bind _ = none
      rw [run_beyond hn]; rfl
    rw [this]; exact fun z => nomatch z)
  simp only [badRows, List.mem_append, List.mem_cons, List.not_mem_nil, or_false] at hz
  rcases hz with ((rfl | rfl | rfl | rfl | rfl) | rfl | rfl | rfl | rfl | rfl) | rfl | rfl | rfl | rfl | rfl
  · exact wrong_fix [⟨#[60, 49]⟩, xS] (by decide +kernel) (by simp) (by simp) (by decide +kernel) (by decide +kernel) ⟨_, gev1x, by decide, .inr ⟨rfl, by simp [rn, stp]⟩⟩
  · exact wrong_fix [xS, ⟨#[62]⟩] (by decide +kernel) (by simp) (by simp) (by decide +kernel) (by decide +kernel) ⟨_, gevx, by decide, .inl ⟨⟨#[62]⟩, [], rfl, .inr (.inl ⟨rfl, rfl⟩)⟩⟩
  · exact wrong_fix [⟨#[60, 49]⟩, xS, ⟨#[62]⟩, ⟨#[62]⟩, yS] (by decide +kernel) (by simp) (by simp) (by decide +kernel) (by decide +kernel) ⟨_, gev1xc, by decide, .inl ⟨⟨#[62]⟩, [yS], rfl, .inr (.inl ⟨rfl, by simp [rn, stp]⟩)⟩⟩
  · refine wrong_fix [⟨#[60, 97, 97 + n]⟩, xS, ⟨#[62]⟩] (str_ext ?_) (by simp) (by simp) (fun y hy => ?_) ?_ (bad_w [97, 97 + n] _ baL)
    · rw [str_app, str_app, join_list, show ("<a" : Str).cps.toList = [60, 97] by decide +kernel, show (" x >" : Str).cps.toList = [32, 120, 32, 62] by decide +kernel]; simp [jl]
    · simp only [List.mem_cons, List.not_mem_nil, or_false] at hy
      rcases hy with rfl | rfl | rfl
      · simp; (clear hn; omega)
      · decide
      · decide
    · rw [str_len, str_app, str_app, show ("<a" : Str).cps.toList = [60, 97] by decide +kernel, show (" x >" : Str).cps.toList = [32, 120, 32, 62] by decide +kernel]; simp
  · refine wrong_fix [⟨#[60, 97 + n]⟩, xS, ⟨#[62]⟩] (str_ext ?_) (by simp) (by simp) (fun y hy => ?_) ?_ (bad_w [97 + n] _ bL)
    · rw [str_app, str_app, join_list, show ("<" : Str).cps.toList = [60] by decide +kernel, show (" x >" : Str).cps.toList = [32, 120, 32, 62] by decide +kernel]; simp [jl]
    · simp only [List.mem_cons, List.not_mem_nil, or_false] at hy
      rcases hy with rfl | rfl | rfl
      · simp; omega
      · decide
      · decide
    · rw [str_len, str_app, str_app, show ("<" : Str).cps.toList = [60] by decide +kernel, show (" x >" : Str).cps.toList = [32, 120, 32, 62] by decide +kernel]; simp
  · exact wrong_fix [⟨#[60, 38]⟩, xS, ⟨#[62]⟩] (by decide +kernel) (by simp) (by simp) (by decide +kernel) (by decide +kernel) (bad_w [38] _ b38)
  · exact wrong_fix [xS, ⟨#[]⟩, yS] (by decide +kernel) (by simp) (by simp) (by decide +kernel) (by decide +kernel) ⟨_, gevx, by decide, .inl ⟨⟨#[]⟩, [yS], rfl, .inl rfl⟩⟩
  · exact wrong_fix [⟨#[]⟩, xS] (by decide +kernel) (by simp) (by simp) (by decide +kernel) (by decide +kernel) ⟨_, Gev.nil n, by decide, .inl ⟨⟨#[]⟩, [xS], rfl, .inl rfl⟩⟩
  · exact wrong_fix [xS, ⟨#[]⟩] (by decide +kernel) (by simp) (by simp) (by decide +kernel) (by decide +kernel) ⟨_, gevx, by decide, .inl ⟨⟨#[]⟩, [], rfl, .inl rfl⟩⟩
  · exact wrong_fix [⟨#[60]⟩] (by decide +kernel) (by simp) (by simp) (by decide +kernel) (by decide +kernel) (bad_w [] _ b0)
  · exact wrong_fix [⟨#[60, 49]⟩, ⟨#[60, 49]⟩, ⟨#[60, 49]⟩, ⟨#[60, 49]⟩, ⟨#[60, 49]⟩, ⟨#[60, 49]⟩, xS, ⟨#[62]⟩, ⟨#[62]⟩, ⟨#[62]⟩, ⟨#[62]⟩, ⟨#[62]⟩, ⟨#[62]⟩] (by decide +kernel) (by simp) (by simp) (by decide +kernel) (by decide +kernel) ⟨_, gev11111, by decide, .inl ⟨⟨#[60, 49]⟩, _, rfl, .inr (.inr ⟨[49], rfl, .inl (by decide)⟩)⟩⟩
  · exact wrong_fix [⟨#[60, 49]⟩, xS, ⟨#[60, 48]⟩, yS, ⟨#[62]⟩] (by decide +kernel) (by simp) (by simp) (by decide +kernel) (by decide +kernel) ⟨_, gev1x0yc, by decide, .inr ⟨rfl, by simp [rn, stp]⟩⟩
  · exact wrong_fix [⟨#[62]⟩, ⟨#[60, 49]⟩, xS] (by decide +kernel) (by simp) (by simp) (by decide +kernel) (by decide +kernel) ⟨_, Gev.nil n, by decide, .inl ⟨⟨#[62]⟩, _, rfl, .inr (.inl ⟨rfl, rfl⟩)⟩⟩
  · exact wrong_fix [⟨#[60, 49, 62]⟩, xS, ⟨#[62]⟩] (by decide +kernel) (by simp) (by simp) (by decide +kernel) (by decide +kernel) (bad_w [49, 62] _ b1g)
  · exact wrong_fix [⟨#[60]⟩, xS, ⟨#[62]⟩] (by decide +kernel) (by simp) (by simp) (by decide +kernel) (by decide +kernel) (bad_w [] _ b0)
noncomputable def goodE : List (List Ev) := [[], [.pl xS], [.pl xS, .op .c1, .pl yS, .cl, .pl zS], [.op .c0, .pl xS, .cl, .op (.no .c1), .pl yyS, .cl], [.op .c1, .op .c1, .op .c1, .op .c1, .op .c1, .pl xS, .cl, .cl, .cl, .cl, .cl]]
theorem goodE_ok : ∀ evs ∈ goodE, Gev n evs ∧ (rn evs).2 = [] ∧ evs.length ≤ 11 ∧ (rn evs).1.length ≤ 3 := by
  intro evs he
  simp only [goodE, List.mem_cons, List.not_mem_nil, or_false] at he
  rcases he with rfl | rfl | rfl | rfl | rfl
  · exact ⟨Gev.nil n, rfl, by decide, by decide⟩
  · exact ⟨gevx, rfl, by decide, by decide⟩
  · refine ⟨?_, rfl, by decide, by decide⟩
    exact Gev.snoc (evs := [.pl xS, .op .c1, .pl yS, .cl]) (Gev.snoc (evs := [.pl xS, .op .c1, .pl yS]) (Gev.snoc (evs := [.pl xS, .op .c1]) (Gev.snoc (evs := [.pl xS]) gevx (opc1 (by decide))) ply) (show (rn [.pl xS, .op .c1, .pl yS]).2 ≠ [] by simp [rn, stp])) plz
  · refine ⟨?_, rfl, by decide, by decide⟩
    exact Gev.snoc (evs := [.op .c0, .pl xS, .cl, .op (.no .c1), .pl yyS]) (Gev.snoc (evs := [.op .c0, .pl xS, .cl, .op (.no .c1)]) (Gev.snoc (evs := [.op .c0, .pl xS, .cl]) (Gev.snoc (evs := [.op .c0, .pl xS]) (Gev.snoc (evs := [.op .c0]) (Gev.snoc (evs := []) (Gev.nil n) (opc0 (by decide))) plx) (show (rn [.op .c0, .pl xS]).2 ≠ [] by simp [rn, stp])) (opno (by decide))) plyy) (show (rn [.op .c0, .pl xS, .cl, .op (.no .c1), .pl yyS]).2 ≠ [] by simp [rn, stp])
  · have g6 : Gev n [.op .c1, .op .c1, .op .c1, .op .c1, .op .c1, .pl xS] := Gev.snoc (evs := [.op .c1, .op .c1, .op .c1, .op .c1, .op .c1]) gev11111 plx
    obtain ⟨gc, ec⟩ := g6.close _ rfl
    exact ⟨gc, by rw [show ([.op .c1, .op .c1, .op .c1, .op .c1, .op .c1, .pl xS, .cl, .cl, .cl, .cl, .cl] : List Ev) = [.op .c1, .op .c1, .op .c1, .op .c1, .op .c1, .pl xS] ++ List.replicate (rn [.op .c1, .op .c1, .op .c1, .op .c1, .op .c1, .pl xS]).2.length Ev.cl from rfl, ec], by decide, by decide⟩
noncomputable abbrev goods : List Str := ["", "x", "x <1 y > z", "<0 x > <!1 yy >", "<1 <1 <1 <1 <1 x > > > > >"]
theorem goods_eq : goods = goodE.map rowT := by decide +kernel
end
theorem goodE_flat {n : Nat} : ∀ evs ∈ goodE, FlatR n (rowD n (rn evs).1) := by
  intro evs he
  have m0 : mka n [] = fulln n := rfl
  have m1 : mka n [.c1] = fulln n := by show fulln n &&& fulln n = _; rw [Nat.and_self]
  have mz : mka n [.c0] = 0 := by show fulln n &&& 0 = _; rw [Nat.and_zero]
  have mn : mka n [.no .c1] = 0 := by show fulln n &&& (fulln n ^^^ fulln n) = _; rw [Nat.xor_self, Nat.and_zero]
  have m5 : mka n [.c1, .c1, .c1, .c1, .c1] = fulln n := by show fulln n &&& fulln n &&& fulln n &&& fulln n &&& fulln n &&& fulln n = _; simp only [Nat.and_self]
  refine ⟨by rw [rowD, List.length_map]; exact Nat.le_trans (goodE_ok (n := n) evs he).2.2.2 (by decide), fun w hw => ?_⟩
  simp only [goodE, List.mem_cons, List.not_mem_nil, or_false] at he
  rcases he with rfl | rfl | rfl | rfl | rfl
  · exact nomatch hw
  · have : w = (xS, mka n []) := by simpa [rowD, rn, stp] using hw
    rw [this, m0]; exact ⟨.inr rfl, plx.2⟩
  · have : w = (xS, mka n []) ∨ w = (yS, mka n [.c1]) ∨ w = (zS, mka n []) := by simpa [rowD, rn, stp] using hw
    rcases this with q | q | q <;> rw [q]
    · rw [m0]; exact ⟨.inr rfl, plx.2⟩
    · rw [m1]; exact ⟨.inr rfl, ply.2⟩
    · rw [m0]; exact ⟨.inr rfl, plz.2⟩
  · have : w = (xS, mka n [.c0]) ∨ w = (yyS, mka n [.no .c1]) := by simpa [rowD, rn, stp] using hw
    rcases this with q | q <;> rw [q]
    · rw [mz]; exact ⟨.inl rfl, plx.2⟩
    · rw [mn]; exact ⟨.inl rfl, plyy.2⟩
  · have : w = (xS, mka n [.c1, .c1, .c1, .c1, .c1]) := by simpa [rowD, rn, stp] using hw
    rw [this, m5]; exact ⟨.inr rfl, plx.2⟩
/-- a text of this law, and the number of its wrong row -/
noncomputable def TxOk (n : Nat) (z : Str) (a : Int) : Prop := (∃ rws, z = textT rws ∧ Grs n rws ∧ (∀ evs ∈ rws, FlatR n (rowD n (rn evs).1)) ∧ a = -1) ∨ ∃ (ss : List Str) (at_ : Nat), z = joinN ss ∧ RBad n ss at_ ∧ a = ((at_ : Nat) : Int)
end
section
variable {P : Program} {w : World} {K : PySem.W.Frag} {mg : Str → Option Value} {base : Heap} {AA : Adr} {DD : Fds}
/-! numbers mixed, words, rows -/
noncomputable def spCellAt (K : PySem.W.Frag) : Sp := fun vs H Q _ => ∃ (a : Addr) (ns : List Int) (j : Nat), vs = [.ref a, .int ((j : Nat) : Int)] ∧ SqL K H a (ns.map V.int) ∧ ∀ c : Int, Q (.int c) H
noncomputable abbrev N_law_cell_at : List Str := ["_law_script", "_law_k"]
theorem sc_law_cell_at : FnScope N_law_cell_at ["_law_script", "_law_k"] (defScope st_law_cell_at) := ⟨rfl, rfl, rfl, by decide +kernel, rfl, by decide +kernel, by decide +kernel⟩
theorem ok_cellat (T : All P w K mg AA DD) : FnOk P w K mg base CX0 1 AA.law_cell_at DD.law_cell_at ["_law_script", "_law_k"] (spCellAt K) := by
  refine T.F_law_cell_at.ok sc_law_cell_at (fun vs H Q E h => ?_) (fun cdv A outer s H vs Q E hr h => ?_)
  · obtain ⟨a, ns, k, rfl, _⟩ := h
    rfl
  · obtain ⟨a, ns, j, rfl, hS, k⟩ := h
    have nd := sc_law_cell_at.nd
    refine ⟨_, (@pss_cons _ _ _ _ _ (@ps_if _ _ _ _ _ _ _ _ (@pt_cmpR _ _ _ _ _ _ _ _ op_lt (pv 1) (pe_callB call_len_seq rfl T.n_len bt_len (@pa_cons _ _ _ _ _ (pv 0) pa_nil (by rfl))) (nomark _)) (@pss_one _ _ _ (@ps_ret _ _ _ _ (@pe_ix _ _ _ _ _ _ _ (ix_listK (K := K) rfl) (pv 0) (pv 1) (fun _ _ => rfl)))) pss_nil) (@pss_one _ _ _ (@ps_ret _ _ _ _ pe_int))), ?_⟩
    refine ⟨_, rfl, _, rfl, a, _, rfl, .inl hS, _, _, rfl, rfl, _, rfl, ?_⟩
    rw [List.length_map]
    refine ite2 (fun h1 => ?_) (fun h1 => k 0)
    have h1 : ((j : Nat) : Int) < (ns.length : Int) := of_decide_eq_true h1
    exact ⟨_, rfl, _, rfl, a, _, _, _, rfl, rfl, hS, atI_nat (j := j) (by rw [List.getElem?_map, List.getElem?_eq_getElem (by (first | (assumption) | (exact Nat.lt_of_lt_of_le (by assumption) (by assumption)) | omega))]; rfl), k _⟩
noncomputable def spMixed : Sp := fun vs H Q _ => ∃ c k : Int, vs = [.int c, .int k] ∧ ∀ r : Int, 0 ≤ r → r < 2147483647 → Q (.int r) H
noncomputable abbrev N_law_mixed : List Str := ["_law_cell", "_law_k", "_law_number"]
theorem sc_law_mixed : FnScope N_law_mixed ["_law_cell", "_law_k"] (defScope st_law_mixed) := ⟨rfl, rfl, rfl, by decide +kernel, rfl, by decide +kernel, by decide +kernel⟩
theorem ok_mixed (T : All P w K mg AA DD) : FnOk P w K mg base CX0 1 AA.law_mixed DD.law_mixed ["_law_cell", "_law_k"] spMixed := by
  refine T.F_law_mixed.ok sc_law_mixed (fun vs H Q E h => ?_) (fun cdv A outer s H vs Q E hr h => ?_)
  · obtain ⟨c, k, rfl, _⟩ := h
    rfl
  · obtain ⟨c, j, rfl, k⟩ := h
    have nd := sc_law_mixed.nd
    refine ⟨_, (@pss_cons _ _ _ _ _ (@ps_set _ _ 2 _ _ _ _ nd rfl (Or.inl rfl) (@pe_op _ _ _ _ _ _ _ _ op_mod (@pe_op _ _ _ _ _ _ _ _ op_mul (@pe_op _ _ _ _ _ _ _ _ op_add (@pe_op _ _ _ _ _ _ _ _ op_add (pv 0) (@pe_op _ _ _ _ _ _ _ _ op_mul pe_int (pv 1))) pe_int) pe_int) pe_int) (by rfl) (by first | exact .inl rfl | exact .inr rfl | assumption)) (@pss_one _ _ _ (@ps_ret _ _ _ _ (@pe_op _ _ _ _ _ _ _ _ op_mod (@pe_op _ _ _ _ _ _ _ _ op_mul (pv 2) (@pe_op _ _ _ _ _ _ _ _ op_add (@pe_op _ _ _ _ _ _ _ _ op_fdiv (pv 2) pe_int) pe_int)) pe_int)))), ?_⟩
    refine ⟨_, rfl, _, rfl, _, _, rfl, rfl, .inl ⟨by decide, by decide⟩, _, _, rfl, rfl, _, _, rfl, rfl, _, _, rfl, rfl, .inr ⟨by decide, by decide⟩, _, _, rfl, rfl, (by show (0 : Int) < 2147483647; decide), ?_⟩
    try dsimp only [gName]
    have b0 := Int.emod_nonneg ((c + 7919 * j + 1) * 48271) (show (2147483647 : Int) ≠ 0 by decide)
    have b1 := Int.emod_lt_of_pos ((c + 7919 * j + 1) * 48271) (show (0 : Int) < 2147483647 by decide)
    generalize (c + 7919 * j + 1) * 48271 % 2147483647 = y at b0 b1 ⊢
    refine ⟨_, rfl, _, rfl, _, _, rfl, rfl, ⟨by decide, by decide⟩, _, _, rfl, rfl, _, _, rfl, rfl, .inl ⟨by (clear b1 k; omega), by (clear b0 k; omega)⟩, _, _, rfl, rfl, (by show (0 : Int) < 2147483647; decide), ?_⟩
    exact k _ (Int.emod_nonneg _ (by decide)) (Int.emod_lt_of_pos _ (by decide))
/-! the law's texts and rules -/
theorem at_of_mod {α : Type} {l : List α} {x : Int} (hl : 0 < l.length) : ∃ v, v ∈ l ∧ atI l (x % (l.length : Int)) = some v := by
  have h1 := Int.emod_nonneg x (show (l.length : Int) ≠ 0 by omega)
  have h2 := Int.emod_lt_of_pos x (show (0 : Int) < (l.length : Int) by (exact Int.ofNat_lt.mpr (by assumption)))
  obtain ⟨j, hj⟩ : ∃ j : Nat, x % (l.length : Int) = (j : Int) := ⟨(x % (l.length : Int)).toNat, by (clear h2 hl; omega)⟩
  rw [hj] at h2 ⊢
  have hjl : j < l.length := by (first | (assumption) | (exact Nat.lt_of_lt_of_le (by assumption) (by assumption)) | (clear hj h1 hl; omega) | omega)
  exact ⟨l[j], List.getElem_mem hjl, atI_nat (List.getElem?_eq_getElem hjl)⟩
theorem set_strs (ss : List Str) (j : Nat) (z : Str) : (ss.map V.str).set j (.str z) = (ss.set j z).map V.str := by rw [List.map_set]
theorem ixN_nat {m j : Nat} (h : j < m) : ixN m (j : Int) = some j := by
  unfold ixN
  rw [if_pos (by (exact Int.natCast_nonneg _))]
  simp [h]
noncomputable def spBadRow : Sp := fun vs H Q _ => ∃ (x : Int) (n : Nat), vs = [.int x, .int ((n : Nat) : Int)] ∧ n ≤ 4 ∧ ∀ z H', Same H H' → Wrong n (badW n) z → Q (.str z) H'
noncomputable abbrev N_law_bad_row : List Str := ["_law_number", "_law_n", "_law_letter", "_law_some"]
theorem sc_law_bad_row : FnScope N_law_bad_row ["_law_number", "_law_n"] (defScope st_law_bad_row) := ⟨rfl, rfl, rfl, by decide +kernel, rfl, by decide +kernel, by decide +kernel⟩
theorem ok_badrow (T : All P w K mg AA DD) : FnOk P w K mg base CX0 1 AA.law_bad_row DD.law_bad_row ["_law_number", "_law_n"] spBadRow := by
  refine T.F_law_bad_row.ok sc_law_bad_row (fun vs H Q E h => ?_) (fun cdv A outer s H vs Q E hr h => ?_)
  · obtain ⟨x, n, rfl, _⟩ := h
    rfl
  · obtain ⟨x, n, rfl, hn, k⟩ := h
    have nd := sc_law_bad_row.nd
    refine ⟨_, (@pss_cons _ _ _ _ _ (@ps_set _ _ 2 _ _ _ _ nd rfl (Or.inl rfl) (@pe_ix _ _ _ _ _ _ _ ix_str pe_str (pv 1) (fun _ _ => rfl)) (by rfl) (by first | exact .inl rfl | exact .inr rfl | assumption)) (@pss_cons _ _ _ _ _ (@ps_set _ _ 3 _ _ _ _ nd rfl (Or.inl rfl) (@pe_lst _ _ _ _ (@pa_cons _ _ _ _ _ pe_str (@pa_cons _ _ _ _ _ pe_str (@pa_cons _ _ _ _ _ pe_str (@pa_cons _ _ _ _ _ (@pe_op _ _ _ _ _ _ _ _ op_add_str (@pe_op _ _ _ _ _ _ _ _ op_add_str pe_str (pv 2)) pe_str) (@pa_cons _ _ _ _ _ (@pe_op _ _ _ _ _ _ _ _ op_add_str (@pe_op _ _ _ _ _ _ _ _ op_add_str pe_str (pv 2)) pe_str) pa_nil (by rfl)) (by rfl)) (by rfl)) (by rfl)) (by rfl))) (by rfl) (by first | exact .inl rfl | exact .inr rfl | assumption)) (@pss_cons _ _ _ _ _ (@ps_set _ _ 3 _ _ _ _ nd rfl (Or.inl rfl) (@pe_op _ _ _ _ _ _ _ _ op_cat (pv 3) (@pe_lst _ _ _ _ (@pa_cons _ _ _ _ _ pe_str (@pa_cons _ _ _ _ _ pe_str (@pa_cons _ _ _ _ _ pe_str (@pa_cons _ _ _ _ _ pe_str (@pa_cons _ _ _ _ _ pe_str pa_nil (by rfl)) (by rfl)) (by rfl)) (by rfl)) (by rfl)))) (by rfl) (by first | exact .inl rfl | exact .inr rfl | assumption)) (@pss_cons _ _ _ _ _ (@ps_set _ _ 3 _ _ _ _ nd rfl (Or.inl rfl) (@pe_op _ _ _ _ _ _ _ _ op_cat (pv 3) (@pe_lst _ _ _ _ (@pa_cons _ _ _ _ _ pe_str (@pa_cons _ _ _ _ _ pe_str (@pa_cons _ _ _ _ _ pe_str (@pa_cons _ _ _ _ _ pe_str (@pa_cons _ _ _ _ _ pe_str pa_nil (by rfl)) (by rfl)) (by rfl)) (by rfl)) (by rfl)))) (by rfl) (by first | exact .inl rfl | exact .inr rfl | assumption)) (@pss_one _ _ _ (@ps_ret _ _ _ _ (@pe_ix _ _ _ _ _ _ _ (ix_listK (K := K) rfl) (pv 3) (@pe_op _ _ _ _ _ _ _ _ op_mod (pv 0) pe_int) (fun _ _ => rfl)))))))), ?_⟩
    have l1 : ("<a" : Str).length = 2 := by decide +kernel
    have l2 : ("<" : Str).length = 1 := by decide +kernel
    have l3 : (" x >" : Str).length = 4 := by decide +kernel
    have five : 5 ≤ sizeLine := by decide
    refine ⟨_, rfl, ("abcdefghij" : Str), _, 97 + n, rfl, rfl, by decide +kernel, letterAt n (by (exact Nat.lt_of_le_of_lt (by assumption) (by decide))), ?_⟩
    try dsimp only [gName]
    refine ⟨_, rfl, _, _, rfl, rfl, (by rw [l1, one_len]; decide), _, _, rfl, rfl, (by rw [app_len, l1, one_len, l3]; decide), _, rfl, _, _, rfl, rfl, (by rw [l2, one_len]; decide), _, _, rfl, rfl, (by rw [app_len, l2, one_len, l3]; decide), five, fun p1 hp1 => ?_⟩
    try dsimp only [gName]
    refine ⟨_, rfl, five, fun p2 hp2 => ⟨p1, p2, _, _, rfl, rfl, same_upd hp2 _ _ upd_same, upd_same, (by show 10 ≤ sizeLine; decide), fun p3 hp3 => ?_⟩⟩
    try dsimp only [gName]
    refine ⟨_, rfl, five, fun p4 hp4 => ⟨p3, p4, _, _, rfl, rfl, same_upd hp4 _ _ upd_same, upd_same, (by show 15 ≤ sizeLine; decide), fun p5 hp5 => ?_⟩⟩
    try dsimp only [gName]
    obtain ⟨v, hv, ha⟩ := at_of_mod (l := (badRows n).map V.str) (x := x) (by show 0 < 15; decide)
    obtain ⟨z, hz, rfl⟩ := List.mem_map.mp hv
    refine ⟨_, rfl, _, rfl, _, _, rfl, rfl, (by show (0 : Int) < 15; decide), p5, _, _, _, rfl, rfl, SqL.of upd_same, ha, ?_⟩
    exact k z _ ((((same_upd hp1).trans (same_upd hp2)).trans (same_upd hp3)).trans ((same_upd hp4).trans (same_upd hp5))) (badRows_ok hn z hz)
theorem goodE_txt : ∀ evs ∈ goodE, 10 ∉ (rowT evs).cps.toList ∧ (rowT evs).length ≤ 30 := by
  have : ∀ z ∈ goodE.map rowT, 10 ∉ z.cps.toList ∧ z.length ≤ 30 := by rw [← goods_eq]; decide +kernel
  exact fun evs he => this _ (List.mem_map.mpr ⟨evs, he, rfl⟩)
theorem rbad75 {n : Nat} {rws : List (List Ev)} (h8 : rws.length ≤ 8) (hg : ∀ e ∈ rws, e ∈ goodE) {at_ : Nat} (hat : at_ < rws.length) {z : Str} (hz : Wrong n (badW n) z) : RBad n ((rws.map rowT).set at_ z) at_ := by
  refine ⟨by simp; (exact Nat.le_trans (by assumption) (by decide)), fun y hy => ?_, fun i hi => ?_, z, by rw [List.getElem?_set_self (by simpa using hat)], hz⟩
  · rcases List.mem_or_eq_of_mem_set hy with h | h
    · obtain ⟨e, he, rfl⟩ := List.mem_map.mp h
      have := goodE_txt e (hg e he)
      exact ⟨this.1, by (first | (exact Nat.le_trans (by assumption) (by decide)) | (clear hat hg h8; omega) | omega)⟩
    · rw [h]; exact ⟨hz.nl, hz.len⟩
  · have hg' := goodE_ok (n := n) rws[i] (hg rws[i] (List.getElem_mem (by (exact Nat.lt_trans (by assumption) (by assumption)))))
    refine ⟨rws[i], ?_, hg'.1, hg'.2.1, by have := hg'.2.2.1; (exact Nat.le_trans (by assumption) (by decide))⟩
    rw [List.getElem?_set_ne (by (exact Nat.ne_of_gt (by assumption))), List.getElem?_map, List.getElem?_eq_getElem (by (exact Nat.lt_trans (by assumption) (by assumption)))]; rfl
noncomputable def spText : Sp := fun vs H Q _ => ∃ (c : Int) (n : Nat), vs = [.int c, .int ((n : Nat) : Int)] ∧ n ≤ 4 ∧ ∀ (t : Addr) (z : Str) (a : Int) (H' : Hp), Same H H' → H' t = some (.tup [.str z, .int a]) → TxOk n z a → Q (.ref t) H'
noncomputable abbrev N_law_text : List Str := ["_law_cell", "_law_n", "_law_number", "_law_rows", "_law_k", "_law_more", "_law_at"]
theorem sc_law_text : FnScope N_law_text ["_law_cell", "_law_n"] (defScope st_law_text) := ⟨rfl, rfl, rfl, by decide +kernel, rfl, by decide +kernel, by decide +kernel⟩
theorem ok_text (T : All P w K mg AA DD) : FnOk P w K mg base CX0 2 AA.law_text DD.law_text ["_law_cell", "_law_n"] spText := by
  have GX := ok_mixed (base := base) T
  have GB := ok_badrow (base := base) T
  refine T.F_law_text.ok sc_law_text (fun vs H Q E h => ?_) (fun cdv A outer s H vs Q E hr h => ?_)
  · obtain ⟨c, n, rfl, _⟩ := h
    rfl
  · obtain ⟨c, n, rfl, hn, k⟩ := h
    have nd := sc_law_text.nd
    have hr1 : Room 1 _ := hr
    refine ⟨_, (@pss_cons _ _ _ _ _ (@ps_set _ _ 2 _ _ _ _ nd rfl (Or.inl rfl) (pe_call GX hr1 rfl T.m_law_mixed T.k_law_mixed T.b_law_mixed .nil pass0 (@pa_cons _ _ _ _ _ (pv 0) (@pa_cons _ _ _ _ _ pe_int pa_nil (by rfl)) (by rfl))) (by rfl) (by first | exact .inl rfl | exact .inr rfl | assumption)) (@pss_cons _ _ _ _ _ (@ps_set _ _ 3 _ _ _ _ nd rfl (Or.inl rfl) (@pe_lst _ _ _ _ pa_nil) (by rfl) (by first | exact .inl rfl | exact .inr rfl | assumption)) (@pss_cons _ _ _ _ _ (@ps_for _ _ _ _ _ _ _ _ PassesOwn.never rfl (pi_range1 rfl T.n_range (@pa_cons _ _ _ _ _ (@pe_op _ _ _ _ _ _ _ _ op_add pe_int (@pe_op _ _ _ _ _ _ _ _ op_mod (pv 2) pe_int)) pa_nil (by rfl))) (pg_name (i := 4) nd rfl (Or.inl rfl)) (@pss_cons _ _ _ _ _ (@ps_set _ _ 5 _ _ _ _ nd rfl (Or.inl rfl) (pe_call GX hr1 rfl T.m_law_mixed T.k_law_mixed T.b_law_mixed .nil pass0 (@pa_cons _ _ _ _ _ (pv 0) (@pa_cons _ _ _ _ _ (@pe_op _ _ _ _ _ _ _ _ op_add pe_int (pv 4)) pa_nil (by rfl)) (by rfl))) (by rfl) (by first | exact .inl rfl | exact .inr rfl | assumption)) (@pss_one _ _ _ (@ps_expr _ _ _ _ (pe_bm PySem.F.plainAttrs_list PySem.F.slot_list_append PySem.F.type_list_append mt_append (pv 3) (@pa_cons _ _ _ _ _ (@pe_ix _ _ _ _ _ _ _ (ix_listK (K := K) rfl) (@pe_lst _ _ _ _ (@pa_cons _ _ _ _ _ pe_str (@pa_cons _ _ _ _ _ pe_str (@pa_cons _ _ _ _ _ pe_str (@pa_cons _ _ _ _ _ pe_str (@pa_cons _ _ _ _ _ pe_str pa_nil (by rfl)) (by rfl)) (by rfl)) (by rfl)) (by rfl))) (@pe_op _ _ _ _ _ _ _ _ op_mod (pv 5) pe_int) (fun _ _ => rfl)) pa_nil (by rfl))) (by rfl)))) (by intro _; rfl)) (@pss_cons _ _ _ _ _ (@ps_if _ _ _ _ _ _ _ _ (@pt_cmpR _ _ _ _ _ _ _ _ op_gt (@pe_op _ _ _ _ _ _ _ _ op_mod (@pe_op _ _ _ _ _ _ _ _ op_fdiv (pv 2) pe_int) pe_int) pe_int (nomark _)) (@pss_one _ _ _ (@ps_ret _ _ _ _ (@pe_tup _ _ _ _ _ (@pa_cons _ _ _ _ _ (pe_bmK (K := K) rfl PySem.F.plainAttrs_str PySem.F.slot_str_join PySem.F.type_str_join (mt_join (K := K) rfl) pe_str (@pa_cons _ _ _ _ _ (pv 3) pa_nil (by rfl))) (@pa_cons _ _ _ _ _ (pe_un un_neg pe_int) pa_nil (by rfl)) (by rfl))))) pss_nil) (@pss_cons _ _ _ _ _ (@ps_set _ _ 6 _ _ _ _ nd rfl (Or.inl rfl) (@pe_op _ _ _ _ _ _ _ _ op_mod (@pe_op _ _ _ _ _ _ _ _ op_fdiv (pv 2) pe_int) (pe_callB call_len_seq rfl T.n_len bt_len (@pa_cons _ _ _ _ _ (pv 3) pa_nil (by rfl)))) (by rfl) (by first | exact .inl rfl | exact .inr rfl | assumption)) (@pss_cons _ _ _ _ _ (ps_asg (pe_call GB hr1 rfl T.m_law_bad_row T.k_law_bad_row T.b_law_bad_row .nil pass0 (@pa_cons _ _ _ _ _ (@pe_op _ _ _ _ _ _ _ _ op_fdiv (pv 2) pe_int) (@pa_cons _ _ _ _ _ (pv 1) pa_nil (by rfl)) (by rfl))) (pg_sub (pv 3) (pv 6) set_list)) (@pss_one _ _ _ (@ps_ret _ _ _ _ (@pe_tup _ _ _ _ _ (@pa_cons _ _ _ _ _ (pe_bmK (K := K) rfl PySem.F.plainAttrs_str PySem.F.slot_str_join PySem.F.type_str_join (mt_join (K := K) rfl) pe_str (@pa_cons _ _ _ _ _ (pv 3) pa_nil (by rfl))) (@pa_cons _ _ _ _ _ (pv 6) pa_nil (by rfl)) (by rfl))))))))))), ?_⟩
    refine ⟨_, rfl, c, 1, rfl, fun x hx0 hx1 => ?_⟩
    try dsimp only [gName]
    refine ⟨Nat.zero_le _, fun pr hpr => ?_⟩
    try dsimp only [gName]
    refine cut_for (fun σ' H' => Same H H' ∧ ∃ (rws : List (List Ev)) (x4 x5 : Option V), H' pr = some (.lst ((rws.map rowT).map V.str)) ∧ (∀ e ∈ rws, e ∈ goodE) ∧ 0 < rws.length ∧ rws.length ≤ 8 ∧ σ' = [some (.int c), some (.int ((n : Nat) : Int)), some (.int x), some (.ref pr), x4, x5, none]) (fun R hR => ?_) ?_
    · obtain ⟨q, eq, hq⟩ := modN (a := x) (n := 8) (by decide)
      have eq : x % 8 = ((q : Nat) : Int) := eq
      refine ⟨_, rfl, _, _, rfl, rfl, (by show (0 : Int) < 8; decide), _, _, rfl, rfl, _, rfl, (by rw [eq]; (solve_by_elim (maxDepth := 4) only [*, Nat.lt_of_lt_of_le, Nat.le_of_lt, Nat.succ_le_of_lt, Nat.le_refl])), (by rw [eq]; omega), ?_⟩
      rw [eq, show ((1 : Int) + ((q : Nat) : Int)).toNat = 1 + q by (rfl)]
      refine for_range (D := ⟨R, _, R, R⟩) (fun i σ' H' => Same H H' ∧ ∃ (rws : List (List Ev)) (x4 x5 : Option V), H' pr = some (.lst ((rws.map rowT).map V.str)) ∧ (∀ e ∈ rws, e ∈ goodE) ∧ rws.length = i ∧ σ' = [some (.int c), some (.int ((n : Nat) : Int)), some (.int x), some (.ref pr), x4, x5, none]) ⟨same_upd hpr, [], none, none, upd_same, by simp, rfl, rfl⟩ ?_ ?_
      · rintro i σ' H1 hi ⟨sm, rws, x4, x5, hP, hg, hl, rfl⟩
        refine ⟨_, rfl, _, rfl, _, _, rfl, rfl, c, _, rfl, fun y hy0 hy1 => ?_⟩
        try dsimp only [gName]
        refine ⟨_, rfl, .inl ⟨rfl, _, SqL.of hP⟩, (by show 5 ≤ sizeLine; decide), fun pg hpg => ?_⟩
        obtain ⟨v, hv, ha⟩ := at_of_mod (l := goods.map V.str) (x := y) (by show 0 < 5; decide)
        obtain ⟨z, hz, rfl⟩ := List.mem_map.mp hv
        rw [goods_eq] at hz
        obtain ⟨evs, he, rfl⟩ := List.mem_map.mp hz
        have sg := same_upd (o := .lst (goods.map V.str)) hpg
        refine ⟨_, rfl, _, _, rfl, rfl, (by show (0 : Int) < 5; decide), pg, _, _, _, rfl, rfl, SqL.of upd_same, ha, pr, _, _, rfl, rfl, sg _ _ hP, (by rw [List.length_map, List.length_map]; exact small1000 (by (first | (exact Nat.le_trans (by assumption) (by decide)) | (exact Nat.le_trans hL5 (by decide)) | (clear hy1 hy0 hg eq hq hR hx1 hx0 k hn; omega) | omega))), ?_⟩
        refine ⟨same_put (sm.trans sg) hpr, rws ++ [evs], _, _, by rw [upd_same]; simp, fun e he' => ?_, by simp [hl], rfl⟩
        rcases List.mem_append.mp he' with q | q
        · exact hg e q
        · rw [List.mem_singleton.mp q]; exact he
      · rintro σ' H1 ⟨sm, rws, x4, x5, hP, hg, hl, rfl⟩
        exact hR _ _ ⟨sm, rws, x4, x5, hP, hg, by (first | (assumption) | (exact Nat.lt_of_lt_of_le (by assumption) (by assumption)) | (clear hg eq hq hR hx1 hx0 k hn; omega) | omega), by (first | (exact Nat.le_trans (by assumption) (by decide)) | (exact Nat.le_trans hL5 (by decide)) | (clear hg eq hq hR hx1 hx0 k hn; omega) | omega), rfl⟩
    rintro σ' H1 ⟨sm, rws, x4, x5, hP, hg, h0, h8, rfl⟩
    have hlen : ((rws.map rowT).map V.str).length = rws.length := by rw [List.length_map, List.length_map]
    have gR : Grs n rws := ⟨by intro z; rw [z] at h0; exact absurd h0 (by decide), by (exact Nat.le_trans (by assumption) (by decide)), fun evs he => ⟨(goodE_ok evs (hg evs he)).1, (goodE_ok (n := n) evs (hg evs he)).2.1, by have := (goodE_ok (n := n) evs (hg evs he)).2.2.1; (exact Nat.le_trans (by assumption) (by decide))⟩⟩
    refine ⟨_, rfl, _, _, rfl, rfl, ⟨by decide, by decide⟩, _, _, rfl, rfl, (by show (0 : Int) < 3; decide), _, _, rfl, rfl, _, rfl, ?_⟩
    refine ite2 (fun _ => ?_) (fun _ => ?_)
    · refine ⟨rfl, _, rfl, _, pr, _, rfl, rfl, SqL.of hP, (by rw [e_nl]; decide), weighT (b := 30) (k := 8) (fun z hz => ?_) (by rw [List.length_map]; exact h8) (by decide), ?_⟩
      · obtain ⟨evs, he, rfl⟩ := List.mem_map.mp hz
        exact (goodE_txt evs (hg evs he)).2
      rw [e_nl]
      refine ⟨_, rfl, (by show 2 ≤ sizeLine; decide), fun t ht => ?_⟩
      exact k t _ _ _ (sm.trans (same_upd ht)) upd_same (.inl ⟨rws, rfl, gR, fun evs he => goodE_flat evs (hg evs he), rfl⟩)
    · obtain ⟨at_, eat, hat⟩ := modN (a := x / 24) (n := rws.length) h0
      refine ⟨_, rfl, _, _, rfl, rfl, ⟨by decide, by decide⟩, _, rfl, pr, _, rfl, .inl (SqL.of hP), _, _, rfl, rfl, (by rw [hlen]; (exact Int.ofNat_lt.mpr (by assumption))), ?_⟩
      try dsimp only [gName]
      rw [hlen, eat]
      refine ⟨_, rfl, _, _, rfl, rfl, ⟨by decide, by decide⟩, _, rfl, _, n, rfl, hn, fun z H2 s2 hz => ?_⟩
      have hP2 := s2 _ _ hP
      refine ⟨_, rfl, _, rfl, pr, _, _, at_, rfl, rfl, hP2, (by rw [hlen]; exact ixN_nat hat), ?_⟩
      rw [set_strs]
      have rb := rbad75 h8 hg hat hz
      have sm3 := same_put (o := .lst (((rws.map rowT).set at_ z).map V.str)) (sm.trans s2) hpr
      refine ⟨rfl, _, rfl, _, pr, _, rfl, rfl, SqL.of upd_same, (by rw [e_nl]; decide), weighT (b := 1000) (k := 8) (fun y hy => (rb.each y hy).2) (by rw [List.length_set, List.length_map]; exact h8) (by decide), ?_⟩
      rw [e_nl]
      refine ⟨_, rfl, (by show 2 ≤ sizeLine; decide), fun t ht => ?_⟩
      exact k t _ _ _ (sm3.trans (same_upd ht)) upd_same (.inr ⟨_, at_, rfl, rb, rfl⟩)
noncomputable def spRule : Sp := fun vs H Q _ => ∃ (c : Int) (n : Nat), vs = [.int c, .int ((n : Nat) : Int)] ∧ n ≤ 4 ∧ ∀ (x : V) (H' : Hp), Same H H' → BadM n H' x → Q x H'
noncomputable abbrev N_law_rule : List Str := ["_law_cell", "_law_n", "_law_full", "_law_some"]
theorem sc_law_rule : FnScope N_law_rule ["_law_cell", "_law_n"] (defScope st_law_rule) := ⟨rfl, rfl, rfl, by decide +kernel, rfl, by decide +kernel, by decide +kernel⟩
theorem ok_rule (T : All P w K mg AA DD) : FnOk P w K mg base CX0 1 AA.law_rule DD.law_rule ["_law_cell", "_law_n"] spRule := by
  refine T.F_law_rule.ok sc_law_rule (fun vs H Q E h => ?_) (fun cdv A outer s H vs Q E hr h => ?_)
  · obtain ⟨c, n, rfl, _⟩ := h
    rfl
  · obtain ⟨c, n, rfl, hn, k⟩ := h
    have nd := sc_law_rule.nd
    refine ⟨_, (@pss_cons _ _ _ _ _ (@ps_set _ _ 2 _ _ _ _ nd rfl (Or.inl rfl) (@pe_op _ _ _ _ _ _ _ _ op_sub (@pe_op _ _ _ _ _ _ _ _ op_shlB pe_int (@pe_op _ _ _ _ _ _ _ _ op_shlB pe_int (pv 1))) pe_int) (by rfl) (by first | exact .inl rfl | exact .inr rfl | assumption)) (@pss_cons _ _ _ _ _ (@ps_set _ _ 3 _ _ _ _ nd rfl (Or.inl rfl) (@pe_lst _ _ _ _ (@pa_cons _ _ _ _ _ pe_bl (@pa_cons _ _ _ _ _ pe_non (@pa_cons _ _ _ _ _ pe_str (@pa_cons _ _ _ _ _ (@pe_lst _ _ _ _ (@pa_cons _ _ _ _ _ pe_int pa_nil (by rfl))) (@pa_cons _ _ _ _ _ (pe_un un_neg pe_int) (@pa_cons _ _ _ _ _ (@pe_op _ _ _ _ _ _ _ _ op_add (pv 2) pe_int) (@pa_cons _ _ _ _ _ (@pe_op _ _ _ _ _ _ _ _ op_add (@pe_op _ _ _ _ _ _ _ _ op_add (pv 2) pe_int) (@pe_op _ _ _ _ _ _ _ _ op_mod (@pe_op _ _ _ _ _ _ _ _ op_fdiv (pv 0) pe_int) (@pe_op _ _ _ _ _ _ _ _ op_pow pe_int pe_int))) (@pa_cons _ _ _ _ _ (@pe_op _ _ _ _ _ _ _ _ op_sub (@pe_op _ _ _ _ _ _ _ _ op_sub pe_int pe_int) (@pe_op _ _ _ _ _ _ _ _ op_mod (@pe_op _ _ _ _ _ _ _ _ op_fdiv (pv 0) pe_int) (@pe_op _ _ _ _ _ _ _ _ op_pow pe_int pe_int))) pa_nil (by rfl)) (by rfl)) (by rfl)) (by rfl)) (by rfl)) (by rfl)) (by rfl)) (by rfl))) (by rfl) (by first | exact .inl rfl | exact .inr rfl | assumption)) (@pss_one _ _ _ (@ps_ret _ _ _ _ (@pe_ix _ _ _ _ _ _ _ (ix_listK (K := K) rfl) (pv 3) (@pe_op _ _ _ _ _ _ _ _ op_mod (pv 0) pe_int) (fun _ _ => rfl)))))), ?_⟩
    have h2n : 2 ^ n ≤ 1024 := two_le (by (exact Nat.le_trans (by assumption) (by decide)))
    refine ⟨_, rfl, _, _, rfl, rfl, one_shl (by (exact Nat.le_trans (by assumption) (by decide))), ?_⟩
    dsimp only
    rw [shl_n]
    refine ⟨_, _, rfl, rfl, one_shl h2n, _, _, rfl, rfl, ?_⟩
    have ef : (1 : Int) * 2 ^ (((2 ^ n : Nat) : Int)).toNat - 1 = ((fulln n : Nat) : Int) := by
      rw [shl_n]
      have := Nat.two_pow_pos (2 ^ n)
      unfold fulln; (clear h2n k hn; omega)
    try dsimp only [gName]
    rw [ef]
    generalize hD : c / 11 = D
    have p0 : (0 : Int) < 10 ^ (40 : Int).toNat := by decide
    have m0 := Int.emod_nonneg D (show (10 : Int) ^ (40 : Int).toNat ≠ 0 by decide)
    have f0 : (0 : Int) ≤ ((fulln n : Nat) : Int) := Int.natCast_nonneg _
    refine ⟨(by show 1 ≤ sizeLine; decide), fun p1 hp1 => ?_⟩
    refine ⟨_, rfl, _, rfl, _, _, rfl, rfl, _, rfl, _, _, rfl, rfl, _, rfl, _, _, rfl, rfl, ⟨by decide, by decide⟩, _, _, rfl, rfl, ⟨by decide, by decide⟩, _, _, rfl, rfl, p0, _, _, rfl, rfl, _, _, rfl, rfl, _, rfl, _, _, rfl, rfl, ⟨by decide, by decide⟩, _, _, rfl, rfl, ⟨by decide, by decide⟩, _, _, rfl, rfl, p0, _, _, rfl, rfl, (by show 8 ≤ sizeLine; decide), fun p2 hp2 => ?_⟩
    try dsimp only [gName]
    rw [hD]
    have s2 := (same_upd (o := .lst [V.int 1]) hp1).trans (same_upd (o := .lst [V.bl true, V.non, V.str "1", V.ref p1, V.int (-1), V.int (((fulln n : Nat) : Int) + 1), V.int (((fulln n : Nat) : Int) + 1 + D % 10 ^ (40 : Int).toNat), V.int (0 - 1 - D % 10 ^ (40 : Int).toNat)]) hp2)
    obtain ⟨v, hv, ha⟩ := at_of_mod (l := [V.bl true, V.non, V.str "1", V.ref p1, V.int (-1), V.int (((fulln n : Nat) : Int) + 1), V.int (((fulln n : Nat) : Int) + 1 + D % 10 ^ (40 : Int).toNat), V.int (0 - 1 - D % 10 ^ (40 : Int).toNat)]) (x := c) (by show 0 < 8; decide)
    refine ⟨_, rfl, _, rfl, _, _, rfl, rfl, (by show (0 : Int) < 8; decide), p2, _, _, _, rfl, rfl, SqL.of upd_same, ha, ?_⟩
    refine k v _ s2 ?_
    generalize D % 10 ^ (40 : Int).toNat = M at m0 hv
    simp only [List.mem_cons, List.not_mem_nil, or_false] at hv
    rcases hv with rfl | rfl | rfl | rfl | rfl | rfl | rfl | rfl
    · exact .inl (.inl ⟨_, rfl⟩)
    · exact .inl (.inr (.inl rfl))
    · exact .inl (.inr (.inr (.inl ⟨_, rfl⟩)))
    · exact .inl (.inr (.inr (.inr ⟨p1, _, rfl, same_upd hp2 _ _ upd_same⟩)))
    · exact .inr ⟨_, rfl, .inl (by decide)⟩
    · exact .inr ⟨_, rfl, .inr (by (clear m0 f0 p0 hD ef h2n k hn; omega))⟩
    · exact .inr ⟨_, rfl, .inr (by (clear f0 p0 hD ef h2n k hn; omega))⟩
    · exact .inr ⟨_, rfl, .inl (by (clear f0 p0 hD ef h2n k hn; omega))⟩
noncomputable def dueV (a b : Int) : Str × Int := if 0 ≤ a then ("row", a) else if 0 ≤ b then ("row", b) else ("told", -1)
noncomputable def spDue : Sp := fun vs H Q _ => ∃ a b : Int, vs = [.int a, .int b] ∧ ∀ (t : Addr), H t = none → Q (.ref t) (upd H t (.tup [.str (dueV a b).1, .int (dueV a b).2]))
noncomputable abbrev N_law_due : List Str := ["_law_at", "_law_other"]
theorem sc_law_due : FnScope N_law_due ["_law_at", "_law_other"] (defScope st_law_due) := ⟨rfl, rfl, rfl, by decide +kernel, rfl, by decide +kernel, by decide +kernel⟩
theorem ok_due (T : All P w K mg AA DD) : FnOk P w K mg base CX0 1 AA.law_due DD.law_due ["_law_at", "_law_other"] spDue := by
  refine T.F_law_due.ok sc_law_due (fun vs H Q E h => ?_) (fun cdv A outer s H vs Q E hr h => ?_)
  · obtain ⟨a, b, rfl, _⟩ := h
    rfl
  · obtain ⟨a, b, rfl, k⟩ := h
    have nd := sc_law_due.nd
    refine ⟨_, (@pss_cons _ _ _ _ _ (@ps_if _ _ _ _ _ _ _ _ (@pt_cmpR _ _ _ _ _ _ _ _ op_ge (pv 0) pe_int (nomark _)) (@pss_one _ _ _ (@ps_ret _ _ _ _ (@pe_tup _ _ _ _ _ (@pa_cons _ _ _ _ _ pe_str (@pa_cons _ _ _ _ _ (pv 0) pa_nil (by rfl)) (by rfl))))) pss_nil) (@pss_cons _ _ _ _ _ (@ps_if _ _ _ _ _ _ _ _ (@pt_cmpR _ _ _ _ _ _ _ _ op_ge (pv 1) pe_int (nomark _)) (@pss_one _ _ _ (@ps_ret _ _ _ _ (@pe_tup _ _ _ _ _ (@pa_cons _ _ _ _ _ pe_str (@pa_cons _ _ _ _ _ (pv 1) pa_nil (by rfl)) (by rfl))))) pss_nil) (@pss_one _ _ _ (@ps_ret _ _ _ _ (@pe_tup _ _ _ _ _ (@pa_cons _ _ _ _ _ pe_str (@pa_cons _ _ _ _ _ (pe_un un_neg pe_int) pa_nil (by rfl)) (by rfl))))))), ?_⟩
    have two : 2 ≤ sizeLine := by decide
    unfold dueV at k
    refine ⟨_, rfl, _, _, rfl, rfl, _, rfl, ?_⟩
    by_cases ha : 0 ≤ a
    · rw [if_pos ha] at k
      rw [decide_eq_true ha]
      exact iteT ⟨_, rfl, two, fun t ht => k t ht⟩
    · rw [if_neg ha] at k
      rw [decide_eq_false ha]
      refine iteF ?_
      refine ⟨_, rfl, _, _, rfl, rfl, _, rfl, ?_⟩
      by_cases hb : 0 ≤ b
      · rw [if_pos hb] at k
        rw [decide_eq_true hb]
        exact iteT ⟨_, rfl, two, fun t ht => k t ht⟩
      · rw [if_neg hb] at k
        rw [decide_eq_false hb]
        exact iteF ⟨_, rfl, two, fun t ht => k t ht⟩
end
section
variable {P : Program} {w : World} {K : PySem.W.Frag} {mg : Str → Option Value} {base : Heap} {AA : Adr} {DD : Fds}
theorem bt_ve : bootBuiltins "ValueError" = some (.type "ValueError") := by decide +kernel
theorem next_c {D : Ends} {σ : St} {H : Hp} (h : D.nx σ H) : tNext D σ H := h
noncomputable def Told (n : Nat) (H : Hp) (x : V) (a1 a2 : Int) (r : Str × Int) : Prop := (BadM n H x ∧ r = (("rule" : Str), (-1 : Int))) ∨ ∃ m : Nat, x = .int ((m : Nat) : Int) ∧ m < 2 ^ 2 ^ n ∧ r = dueV a1 a2
noncomputable def Oth (n : Nat) (o : V) (a2 : Int) : Prop := (o = .non ∧ a2 = -1) ∨ ∃ z2, o = .str z2 ∧ TxOk n z2 a2
noncomputable def spTold : Sp := fun vs H Q _ => ∃ (z1 : Str) (a1 a2 : Int) (o : V) (n : Nat) (x : V) (r : Str × Int), vs = [.str z1, o, .int ((n : Nat) : Int), x] ∧ n ≤ 4 ∧ TxOk n z1 a1 ∧ Oth n o a2 ∧ Told n H x a1 a2 r ∧ ∀ t H', Same H H' → H' t = some (.tup [.str r.1, .int r.2]) → Q (.ref t) H'
theorem shd_b4 (a b c d : Bool) : Shd 1 (.list [.bool a, .bool b, .bool c, .bool d]) := Shd.list fun e he => by
  rcases (show e = _ ∨ e = _ ∨ e = _ ∨ e = _ by simpa using he) with z | z | z | z <;> subst z <;> exact Shd.bl _
theorem rdv_b4 {H : Hp} {p : Addr} {a b c d : Bool} (h : H p = some (.lst [.bl a, .bl b, .bl c, .bl d])) : Rdv K H (.ref p) (.list [.bool a, .bool b, .bool c, .bool d]) := .lst (SqL.of h) (.cons (.bl _) (.cons (.bl _) (.cons (.bl _) (.cons (.bl _) .nil))))
noncomputable abbrev N_law_told : List Str := ["_law_one", "_law_other", "_law_n", "_law_rule_here", "_law_said", "_law_found", "e", "_law_others"]
theorem sc_law_told : FnScope N_law_told ["_law_one", "_law_other", "_law_n", "_law_rule_here"] (defScope st_law_told) := ⟨rfl, rfl, rfl, by decide +kernel, rfl, by decide +kernel, by decide +kernel⟩
theorem ok_told (T : All P w K mg AA DD) : FnOk P w K mg base CX0 18 AA.law_told DD.law_told ["_law_one", "_law_other", "_law_n", "_law_rule_here"] spTold := by
  have GD := ok_tidiedB (base := base) T
  have GP := ok_partedB (base := base) T
  refine T.F_law_told.ok sc_law_told (fun vs H Q E h => ?_) (fun cdv A outer s H vs Q E hr h => ?_)
  · obtain ⟨z1, a1, a2, o, n, x, r, rfl, _⟩ := h
    rfl
  · obtain ⟨z1, a1, a2, o, n, x, r, rfl, hn, hz1, ho, hx, k⟩ := h
    have nd := sc_law_told.nd
    have hu := hr.units
    have hr8 : Room 8 _ := hr.mono (by decide)
    have hr17 : Room 17 _ := hr
    refine ⟨_, (@pss_cons _ _ _ _ _ (@ps_set _ _ 4 _ _ _ _ nd rfl (Or.inl rfl) (@pe_tup _ _ _ _ _ (@pa_cons _ _ _ _ _ pe_str (@pa_cons _ _ _ _ _ (pe_un un_neg pe_int) pa_nil (by rfl)) (by rfl))) (by rfl) (by first | exact .inl rfl | exact .inr rfl | assumption)) (@pss_cons _ _ _ _ _ (@ps_set _ _ 5 _ _ _ _ nd rfl (Or.inl rfl) pe_non (by rfl) (by first | exact .inl rfl | exact .inr rfl | assumption)) (@pss_cons _ _ _ _ _ (ps_tryD (κ := fun _ => True) (i := 6) (Body.wish body_cx _) (psx_if (pt_cmp (pc_isN (pv 1))) (psx_set (i := 5) nd rfl (Or.inl rfl) (pex_call GD hr17 rfl T.m_tidied T.k_tidied T.b_tidied .nil (@pa_cons _ _ _ _ _ (pv 0) (@pa_cons _ _ _ _ _ (pv 2) (@pa_cons _ _ _ _ _ (pv 3) pa_nil (by rfl)) (by rfl)) (by rfl)))) (psx_set (i := 5) nd rfl (Or.inl rfl) (pex_call GP hr8 rfl T.m_parted T.k_parted T.b_parted .nil (@pa_cons _ _ _ _ _ (pv 0) (@pa_cons _ _ _ _ _ (pv 1) (@pa_cons _ _ _ _ _ (pv 2) (@pa_cons _ _ _ _ _ (pv 3) pa_nil (by rfl)) (by rfl)) (by rfl)) (by rfl))))) rfl T.m_MakesError nd rfl rfl (fun ea => (@pss_cons _ _ _ _ _ (@ps_set _ _ 7 _ _ _ _ nd rfl (Or.inl rfl) (@pe_lst _ _ _ _ (@pa_cons _ _ _ _ _ (pe_callB (call_isexD (K := K) rfl) rfl T.n_isinstance bt_isi (@pa_cons _ _ _ _ _ (pv 6) (@pa_cons _ _ _ _ _ (pe_glob (v := .ref AA.x_NoSet) rfl T.m_NoSet rfl) pa_nil (by rfl)) (by rfl))) (@pa_cons _ _ _ _ _ (pe_callB (call_isexD (K := K) rfl) rfl T.n_isinstance bt_isi (@pa_cons _ _ _ _ _ (pv 6) (@pa_cons _ _ _ _ _ (pe_glob (v := .ref AA.x_NoGroup) rfl T.m_NoGroup rfl) pa_nil (by rfl)) (by rfl))) (@pa_cons _ _ _ _ _ (pe_callB (call_isexD (K := K) rfl) rfl T.n_isinstance bt_isi (@pa_cons _ _ _ _ _ (pv 6) (@pa_cons _ _ _ _ _ (pe_glob (v := .ref AA.x_NoWish) rfl T.m_NoWish rfl) pa_nil (by rfl)) (by rfl))) (@pa_cons _ _ _ _ _ (pe_callB (call_isexD (K := K) rfl) rfl T.n_isinstance bt_isi (@pa_cons _ _ _ _ _ (pv 6) (@pa_cons _ _ _ _ _ (pe_glob (v := .ref AA.x_TooMany) rfl T.m_TooMany rfl) pa_nil (by rfl)) (by rfl))) pa_nil (by rfl)) (by rfl)) (by rfl)) (by rfl))) (by rfl) (by first | exact .inl rfl | exact .inr rfl | assumption)) (@pss_cons _ _ _ _ _ (@ps_set _ _ 4 _ _ _ _ nd rfl (Or.inl rfl) (@pe_tup _ _ _ _ _ (@pa_cons _ _ _ _ _ pe_str (@pa_cons _ _ _ _ _ (pe_un un_neg pe_int) pa_nil (by rfl)) (by rfl))) (by rfl) (by first | exact .inl rfl | exact .inr rfl | assumption)) (@pss_cons _ _ _ _ _ (@ps_if _ _ _ _ _ _ _ _ (PW.pt (pw_and (@pt_cmpR _ _ _ _ _ _ _ _ (op_eqD (K := K) rfl hu) (pv 7) (@pe_lst _ _ _ _ (@pa_cons _ _ _ _ _ pe_bl (@pa_cons _ _ _ _ _ pe_bl (@pa_cons _ _ _ _ _ pe_bl (@pa_cons _ _ _ _ _ pe_bl pa_nil (by rfl)) (by rfl)) (by rfl)) (by rfl))) (nomark _)) (pw_and1 (pt_val (pe_callB (call_isexDTy (n := "ValueError") (K := K) rfl) rfl T.n_isinstance bt_isi (@pa_cons _ _ _ _ _ (pv 6) (@pa_cons _ _ _ _ _ (pe_bltn (v := .ty "ValueError") rfl T.n_ValueError bt_ve rfl) pa_nil (by rfl)) (by rfl))))))) (@pss_one _ _ _ (@ps_set _ _ 4 _ _ _ _ nd rfl (Or.inl rfl) (@pe_tup _ _ _ _ _ (@pa_cons _ _ _ _ _ pe_str (@pa_cons _ _ _ _ _ (pe_un un_neg pe_int) pa_nil (by rfl)) (by rfl))) (by rfl) (by first | exact .inl rfl | exact .inr rfl | assumption))) pss_nil) (@pss_one _ _ _ (@ps_if _ _ _ _ _ _ _ _ (PW.pt (pw_and (@pt_cmpR _ _ _ _ _ _ _ _ (op_eqD (K := K) rfl hu) (pv 7) (@pe_lst _ _ _ _ (@pa_cons _ _ _ _ _ pe_bl (@pa_cons _ _ _ _ _ pe_bl (@pa_cons _ _ _ _ _ pe_bl (@pa_cons _ _ _ _ _ pe_bl pa_nil (by rfl)) (by rfl)) (by rfl)) (by rfl))) (nomark _)) (pw_and1 (pt_val (pe_callB (call_isexDTy (n := "ValueError") (K := K) rfl) rfl T.n_isinstance bt_isi (@pa_cons _ _ _ _ _ (pv 6) (@pa_cons _ _ _ _ _ (pe_bltn (v := .ty "ValueError") rfl T.n_ValueError bt_ve rfl) pa_nil (by rfl)) (by rfl))))))) (@pss_one _ _ _ (@ps_set _ _ 4 _ _ _ _ nd rfl (Or.inl rfl) (@pe_tup _ _ _ _ _ (@pa_cons _ _ _ _ _ pe_str (@pa_cons _ _ _ _ _ (pe_xfldK (K := K) rfl (pv 6) (by rfl)) pa_nil (by rfl)) (by rfl))) (by rfl) (by first | exact .inl rfl | exact .inr rfl | assumption))) pss_nil))))))) (@pss_cons _ _ _ _ _ (@ps_if _ _ _ _ _ _ _ _ (PW.pt (pw_and (@pt_cmpR _ _ _ _ _ _ _ _ op_eq (@pe_ix _ _ _ _ _ _ _ (ix_tupK (K := K) rfl) (pv 4) pe_int (fun _ _ => rfl)) pe_str (nomark _)) (pw_and (pt_cmp (pc_isN (pv 1))) (pw_and1 (pt_not (pt_val (pe_callB (call_isinst (n := "str")) rfl T.n_isinstance bt_isi (@pa_cons _ _ _ _ _ (pv 5) (@pa_cons _ _ _ _ _ (pe_bltn (v := .ty "str") rfl T.n_str bt_str rfl) pa_nil (by rfl)) (by rfl))))))))) (@pss_one _ _ _ (@ps_ret _ _ _ _ (@pe_tup _ _ _ _ _ (@pa_cons _ _ _ _ _ pe_str (@pa_cons _ _ _ _ _ (pe_un un_neg pe_int) pa_nil (by rfl)) (by rfl))))) pss_nil) (@pss_cons _ _ _ _ _ (@ps_if _ _ _ _ _ _ _ _ (PW.pt (pw_and (@pt_cmpR _ _ _ _ _ _ _ _ op_eq (@pe_ix _ _ _ _ _ _ _ (ix_tupK (K := K) rfl) (pv 4) pe_int (fun _ _ => rfl)) pe_str (nomark _)) (pw_and (pt_cmp (pc_notN (pv 1))) (pw_and (pt_cmp (pc_notN (pv 5))) (pw_and1 (pt_not (pt_val (pe_callB (call_isinst (n := "int")) rfl T.n_isinstance bt_isi (@pa_cons _ _ _ _ _ (pv 5) (@pa_cons _ _ _ _ _ (pe_bltn (v := .ty "int") rfl T.n_int bt_int rfl) pa_nil (by rfl)) (by rfl)))))))))) (@pss_one _ _ _ (@ps_ret _ _ _ _ (@pe_tup _ _ _ _ _ (@pa_cons _ _ _ _ _ pe_str (@pa_cons _ _ _ _ _ (pe_un un_neg pe_int) pa_nil (by rfl)) (by rfl))))) pss_nil) (@pss_cons _ _ _ _ _ (@ps_if _ _ _ _ _ _ _ _ (pt_val (pe_callB (call_isinst (n := "bool")) rfl T.n_isinstance bt_isi (@pa_cons _ _ _ _ _ (@pe_ix _ _ _ _ _ _ _ (ix_tupK (K := K) rfl) (pv 4) pe_int (fun _ _ => rfl)) (@pa_cons _ _ _ _ _ (pe_bltn (v := .ty "bool") rfl T.n_bool bt_bool rfl) pa_nil (by rfl)) (by rfl)))) (@pss_one _ _ _ (@ps_ret _ _ _ _ (@pe_tup _ _ _ _ _ (@pa_cons _ _ _ _ _ pe_str (@pa_cons _ _ _ _ _ (pe_un un_neg pe_int) pa_nil (by rfl)) (by rfl))))) pss_nil) (@pss_one _ _ _ (@ps_ret _ _ _ _ (pv 4))))))))), ?_⟩
    refine ⟨_, rfl, (by show 2 ≤ sizeLine; decide), fun t0 ht0 => ?_⟩
    try dsimp only [gName]
    refine seq_c ?_
    try dsimp only [gName]
    have s0 := same_upd (o := .tup [V.str "told", V.int (-1)]) ht0
    have hT0 : upd H t0 (.tup [V.str "told", V.int (-1)]) t0 = some (.tup [V.str "told", V.int (-1)]) := upd_same
    generalize upd H t0 (.tup [V.str "told", V.int (-1)]) = H0 at s0 hT0 ⊢
    refine cut_seq (fun σ' H' => Same H0 H' ∧ ∃ (t : Addr) (f : V) (x6 x7 : Option V), H' t = some (.tup [.str r.1, .int r.2]) ∧ (r.1 = "told" → (o = .non → ∃ z, f = .str z) ∧ (o ≠ .non → f = .non ∨ ∃ i, f = .int i)) ∧ σ' = [some (.str z1), some o, some (.int ((n : Nat) : Int)), some x, some (.ref t), some f, x6, x7]) (fun R hR => ?_) ?_
    · refine try_cut (fun c dd H1 => Same H0 H1 ∧ ((c = .ref AA.x_NoSet ∧ dd = none ∧ r = (("rule" : Str), (-1 : Int))) ∨ (c = .ref AA.x_NoGroup ∧ ∃ (dx : Addr) (a : Int), dd = some dx ∧ H1 dx = some (xdO dx [("at", .int a)]) ∧ r = (("row" : Str), a)))) (fun E1 hE => ?_) ?_
      · have two5 : n ≤ 5 := by (exact Nat.le_succ_of_le (by assumption))
        have eS : ∀ H1, Same H0 H1 → r = (("rule" : Str), (-1 : Int)) → E1 (.ref AA.x_NoSet) none H1 := fun H1 s h => hE _ _ _ ⟨s, .inl ⟨rfl, rfl, h⟩⟩
        have eG : ∀ at_ : Nat, r = (("row" : Str), ((at_ : Nat) : Int)) → ErrAt E1 AA.x_NoGroup (.int ((at_ : Nat) : Int)) H0 := fun at_ h dx H1 s e => hE _ _ _ ⟨s, .inr ⟨rfl, dx, _, rfl, e, h⟩⟩
        have dG : ∀ at_ : Nat, dueV ((at_ : Nat) : Int) a2 = (("row" : Str), ((at_ : Nat) : Int)) := fun at_ => if_pos (Int.natCast_nonneg _)
        have dG2 : ∀ at_ : Nat, dueV (-1) ((at_ : Nat) : Int) = (("row" : Str), ((at_ : Nat) : Int)) := fun at_ => (if_neg (by decide)).trans (if_pos (Int.natCast_nonneg _))
        have dT : dueV (-1) (-1) = (("told" : Str), (-1 : Int)) := by decide +kernel
        rcases ho with ⟨rfl, rfl⟩ | ⟨z2, rfl, hz2⟩
        · refine ⟨_, rfl, _, rfl, ?_⟩
          refine iteT ?_
          refine ⟨_, rfl, _, rfl, _, rfl, ?_⟩
          rcases hx with ⟨hb, hr1⟩ | ⟨m, rfl, hm, hr1⟩
          · exact .inr ⟨z1, n, x, rfl, two5, .inl ⟨hb.same s0, fun H1 s => eS H1 s hr1⟩⟩
          · rcases hz1 with ⟨rws, rfl, gR, h33, rfl⟩ | ⟨ss, at_, rfl, rb, rfl⟩
            · refine .inl ⟨rws, n, m, rfl, two5, hm, gR, h33, fun _ H1 s1 => ?_⟩
              exact hR _ _ ⟨s1, t0, _, none, none, by rw [hr1, dT]; exact s1 _ _ hT0, fun _ => ⟨fun _ => ⟨_, rfl⟩, fun h => absurd rfl h⟩, rfl⟩
            · exact .inr ⟨_, n, _, rfl, two5, .inr ⟨m, ss, at_, rfl, hm, rfl, rb, eG at_ (hr1.trans (dG at_))⟩⟩
        · refine ⟨_, rfl, _, rfl, ?_⟩
          refine iteF ?_
          refine ⟨_, rfl, _, rfl, _, rfl, _, rfl, ?_⟩
          rcases hx with ⟨hb, hr1⟩ | ⟨m, rfl, hm, hr1⟩
          · exact .inr ⟨z1, z2, n, x, rfl, two5, .inl ⟨hb.same s0, fun H1 s => eS H1 s hr1⟩⟩
          · rcases hz1 with ⟨rws, rfl, gR, h33, rfl⟩ | ⟨ss, at_, rfl, rb, rfl⟩
            · rcases hz2 with ⟨rw2, rfl, gR2, _, rfl⟩ | ⟨ss, at_, rfl, rb, rfl⟩
              · have hok : ∀ f H1, Same H0 H1 → (f = .non ∨ ∃ i, f = .int i) → R [some (.str (textT rws)), some (.str (textT rw2)), some (.int ((n : Nat) : Int)), some (.int ((m : Nat) : Int)), some (.ref t0), some f, none, none] H1 := fun f H1 s1 hf =>
                  hR _ _ ⟨s1, t0, f, none, none, by rw [hr1, dT]; exact s1 _ _ hT0, fun _ => ⟨fun h => (nomatch h), fun _ => hf⟩, rfl⟩
                exact .inl ⟨rws, rw2, n, m, rfl, two5, hm, gR, gR2, fun H1 t s1 _ _ _ _ => hok _ _ s1 (.inr ⟨_, rfl⟩), fun H1 s1 _ => hok _ _ s1 (.inl rfl)⟩
              · exact .inr ⟨_, _, n, _, rfl, two5, .inr ⟨m, ss, at_, rfl, hm, rb, eG at_ (hr1.trans (dG2 at_)), .inr ⟨rws, rfl, gR, rfl⟩⟩⟩
            · exact .inr ⟨_, _, n, _, rfl, two5, .inr ⟨m, ss, at_, rfl, hm, rb, eG at_ (hr1.trans (dG at_)), .inl rfl⟩⟩
      · rintro c dd H1 ⟨s1, ⟨rfl, rfl, rfl⟩ | ⟨rfl, dx, a, rfl, hdx, rfl⟩⟩
        · refine ⟨T.em_NoSet_MakesError, fun ea cx _ hea => ?_⟩
          have s2 := same_upd (o := excD ea (.ref AA.x_NoSet) none cx) hea
          have hE2 : upd H1 ea (excD ea (.ref AA.x_NoSet) none cx) ea = some (excD ea (.ref AA.x_NoSet) none cx) := upd_same
          generalize upd H1 ea (excD ea (.ref AA.x_NoSet) none cx) = H2 at s2 hE2 ⊢
          refine ⟨_, rfl, ea, AA.x_NoSet, AA.x_NoSet, _, _, _, rfl, hE2, T.xc_NoSet, T.ki_NoSet_NoSet, _, rfl, ea, AA.x_NoSet, AA.x_NoGroup, _, _, _, rfl, hE2, T.xc_NoSet, T.ki_NoSet_NoGroup, _, rfl, ea, AA.x_NoSet, AA.x_NoWish, _, _, _, rfl, hE2, T.xc_NoSet, T.ki_NoSet_NoWish, _, rfl, ea, AA.x_NoSet, AA.x_TooMany, _, _, _, rfl, hE2, T.xc_NoSet, T.ki_NoSet_TooMany, (by show 4 ≤ sizeLine; decide), fun pl hpl => ?_⟩
          try dsimp only [gName]
          have s3 := same_upd (o := .lst [.bl true, .bl false, .bl false, .bl false]) hpl
          have hL3 : upd H2 pl (.lst [.bl true, .bl false, .bl false, .bl false]) pl = some (.lst [.bl true, .bl false, .bl false, .bl false]) := upd_same
          have hE3 := s3 _ _ hE2
          generalize upd H2 pl (.lst [.bl true, .bl false, .bl false, .bl false]) = H3 at s3 hL3 hE3 ⊢
          refine ⟨_, rfl, (by show 2 ≤ sizeLine; decide), fun t1 ht1 => ?_⟩
          try dsimp only [gName]
          have s4 := same_upd (o := .tup [V.str "other", V.int (-1)]) ht1
          have hL4 := s4 _ _ hL3
          have hE4 := s4 _ _ hE3
          generalize upd H3 t1 (.tup [V.str "other", V.int (-1)]) = H4 at s4 hL4 hE4 ⊢
          have four : 4 ≤ sizeLine := by decide
          refine ⟨_, rfl, four, fun p2 hp2 => ?_⟩
          have s5 := same_upd (o := .lst [.bl true, .bl false, .bl false, .bl false]) hp2
          refine ⟨_, _, rdv_b4 (s5 _ _ hL4), rdv_b4 upd_same, (shd_b4 _ _ _ _).ok (by decide), (shd_b4 _ _ _ _).ok (by decide), _, rfl, ?_⟩
          refine iteTb (by rfl) ?_
          refine ⟨_, rfl, ea, AA.x_NoSet, _, _, _, rfl, s5 _ _ hE4, T.xc_NoSet, T.ki_NoSet_ValueError, _, rfl, ?_⟩
          refine iteT ?_
          refine ⟨_, rfl, (by show 2 ≤ sizeLine; decide), fun t2 ht2 => ?_⟩
          try dsimp only [gName]
          have s6 := s5.trans (same_upd (o := .tup [V.str "rule", V.int (-1)]) ht2)
          refine ⟨_, rfl, four, fun p3 hp3 => ?_⟩
          have s7 := same_upd (o := .lst [.bl false, .bl true, .bl false, .bl false]) hp3
          refine ⟨_, _, rdv_b4 (s7 _ _ (s6 _ _ hL4)), rdv_b4 upd_same, (shd_b4 _ _ _ _).ok (by decide), (shd_b4 _ _ _ _).ok (by decide), _, rfl, ?_⟩
          refine iteFb (by rfl) (iteF ?_)
          exact hR _ _ ⟨((((s1.trans s2).trans s3).trans s4).trans s6).trans s7, t2, .non, _, _, s7 _ _ upd_same, fun h => absurd h (by decide +kernel), rfl⟩
        · refine ⟨T.em_NoGroup_MakesError, fun ea cx _ hea => ?_⟩
          have s2 := same_upd (o := excD ea (.ref AA.x_NoGroup) (some dx) cx) hea
          have hE2 : upd H1 ea (excD ea (.ref AA.x_NoGroup) (some dx) cx) ea = some (excD ea (.ref AA.x_NoGroup) (some dx) cx) := upd_same
          generalize upd H1 ea (excD ea (.ref AA.x_NoGroup) (some dx) cx) = H2 at s2 hE2 ⊢
          refine ⟨_, rfl, ea, AA.x_NoGroup, AA.x_NoSet, _, _, _, rfl, hE2, T.xc_NoGroup, T.ki_NoGroup_NoSet, _, rfl, ea, AA.x_NoGroup, AA.x_NoGroup, _, _, _, rfl, hE2, T.xc_NoGroup, T.ki_NoGroup_NoGroup, _, rfl, ea, AA.x_NoGroup, AA.x_NoWish, _, _, _, rfl, hE2, T.xc_NoGroup, T.ki_NoGroup_NoWish, _, rfl, ea, AA.x_NoGroup, AA.x_TooMany, _, _, _, rfl, hE2, T.xc_NoGroup, T.ki_NoGroup_TooMany, (by show 4 ≤ sizeLine; decide), fun pl hpl => ?_⟩
          try dsimp only [gName]
          have s3 := same_upd (o := .lst [.bl false, .bl true, .bl false, .bl false]) hpl
          have hL3 : upd H2 pl (.lst [.bl false, .bl true, .bl false, .bl false]) pl = some (.lst [.bl false, .bl true, .bl false, .bl false]) := upd_same
          have hE3 := s3 _ _ hE2
          generalize upd H2 pl (.lst [.bl false, .bl true, .bl false, .bl false]) = H3 at s3 hL3 hE3 ⊢
          refine ⟨_, rfl, (by show 2 ≤ sizeLine; decide), fun t1 ht1 => ?_⟩
          try dsimp only [gName]
          have s4 := same_upd (o := .tup [V.str "other", V.int (-1)]) ht1
          have hL4 := s4 _ _ hL3
          have hE4 := s4 _ _ hE3
          generalize upd H3 t1 (.tup [V.str "other", V.int (-1)]) = H4 at s4 hL4 hE4 ⊢
          have four : 4 ≤ sizeLine := by decide
          refine ⟨_, rfl, four, fun p2 hp2 => ?_⟩
          have s5 := same_upd (o := .lst [.bl true, .bl false, .bl false, .bl false]) hp2
          refine ⟨_, _, rdv_b4 (s5 _ _ hL4), rdv_b4 upd_same, (shd_b4 _ _ _ _).ok (by decide), (shd_b4 _ _ _ _).ok (by decide), _, rfl, ?_⟩
          refine iteFb (by rfl) (iteF ?_)
          refine ⟨_, rfl, four, fun p3 hp3 => ?_⟩
          have s6 := s5.trans (same_upd (o := .lst [.bl false, .bl true, .bl false, .bl false]) hp3)
          refine ⟨_, _, rdv_b4 (s6 _ _ hL4), rdv_b4 upd_same, (shd_b4 _ _ _ _).ok (by decide), (shd_b4 _ _ _ _).ok (by decide), _, rfl, ?_⟩
          refine iteTb (by rfl) ?_
          refine ⟨_, rfl, ea, AA.x_NoGroup, _, _, _, rfl, s6 _ _ hE4, T.xc_NoGroup, T.ki_NoGroup_ValueError, _, rfl, ?_⟩
          refine iteT ?_
          refine ⟨_, rfl, ea, AA.x_NoGroup, dx, cx, _, _, rfl, s6 _ _ hE4, s6 _ _ (s4 _ _ (s3 _ _ (s2 _ _ hdx))), T.xc_NoGroup, T.ic_NoGroup.hd, T.na_NoGroup_at, rfl, ?_⟩
          refine ⟨(by show 2 ≤ sizeLine; decide), fun t2 ht2 => ?_⟩
          exact hR _ _ ⟨((((s1.trans s2).trans s3).trans s4).trans s6).trans (same_upd ht2), t2, .non, _, _, upd_same, fun h => absurd h (show ¬ ("row" : Str) = "told" by decide +kernel), rfl⟩
    · rintro σ' H1 ⟨s1, t, f, x6, x7, hT, hF, rfl⟩
      have sA := s0.trans s1
      refine if_cut (fun b H' => b = false ∧ H' = H1) (fun R hR => ?_) (fun H' h => absurd h.1 (fun z => by cases z)) ?_
      · refine ⟨_, rfl, t, _, _, _, rfl, rfl, SqT.of hT, rfl, rfl, _, rfl, ?_⟩
        by_cases ht : r.1 = "told"
        · rw [decide_eq_true (congrArg V.str ht)]
          refine iteT ?_
          refine ⟨_, rfl, _, rfl, ?_⟩
          by_cases hno : o = .non
          · rw [decide_eq_true hno]
            refine iteT ?_
            obtain ⟨z, rfl⟩ := (hF ht).1 hno
            exact ⟨_, rfl, _, _, true, rfl, .str _, (by rfl), _, rfl, hR _ _ ⟨rfl, rfl⟩⟩
          · rw [decide_eq_false hno]
            exact iteF (hR _ _ ⟨rfl, rfl⟩)
        · rw [decide_eq_false (fun z => ht (by injection z))]
          exact iteF (hR _ _ ⟨rfl, rfl⟩)
      rintro H2 ⟨_, rfl⟩
      refine next_c ?_
      dsimp only
      refine if_cut (fun b H' => b = false ∧ H' = H2) (fun R hR => ?_) (fun H' h => absurd h.1 (fun z => by cases z)) ?_
      · refine ⟨_, rfl, t, _, _, _, rfl, rfl, SqT.of hT, rfl, rfl, _, rfl, ?_⟩
        by_cases ht : r.1 = "told"
        · rw [decide_eq_true (congrArg V.str ht)]
          refine iteT ?_
          refine ⟨_, rfl, _, rfl, ?_⟩
          by_cases hno : o = .non
          · rw [decide_eq_true hno]
            exact iteF (hR _ _ ⟨rfl, rfl⟩)
          · rw [decide_eq_false hno]
            refine iteT ?_
            rcases (hF ht).2 hno with rfl | ⟨i, rfl⟩
            · exact ⟨_, rfl, _, rfl, iteF (hR _ _ ⟨rfl, rfl⟩)⟩
            · exact ⟨_, rfl, _, rfl, iteT ⟨_, rfl, _, _, true, rfl, .int _, kit_int_int _, _, rfl, hR _ _ ⟨rfl, rfl⟩⟩⟩
        · rw [decide_eq_false (fun z => ht (by injection z))]
          exact iteF (hR _ _ ⟨rfl, rfl⟩)
      rintro H3 ⟨_, rfl⟩
      refine ⟨_, rfl, t, _, _, _, rfl, rfl, SqT.of hT, rfl, _, _, false, rfl, .int _, kit_int_bool _, _, rfl, iteF ?_⟩
      exact ⟨_, rfl, k t _ sA hT⟩
end
section
variable {P : Program} {w : World} {K : PySem.W.Frag} {mg : Str → Option Value} {base : Heap} {AA : Adr} {DD : Fds}
noncomputable def spLaw (K : PySem.W.Frag) : Sp := fun vs H Q _ => ∃ (a : Addr) (ns : List Int), vs = [.ref a] ∧ SqL K H a (ns.map V.int) ∧ ns.length ≤ 63 ∧ ∀ H', Q (.bl true) H'
noncomputable def pD (r : Str × Int) : PyData := .tuple [.str r.1, .int r.2]
theorem rdv_p {H : Hp} {t : Addr} {r : Str × Int} (h : H t = some (.tup [.str r.1, .int r.2])) : Rdv K H (.ref t) (pD r) := .tup (SqT.of h) (.cons (.str _) (.cons (.int _) .nil))
theorem shd_p {r : Str × Int} (h : ∀ c ∈ r.1.cps.toList, c < 128) : Shd 1 (pD r) := Shd.tuple fun e he => by
  rcases (show e = _ ∨ e = _ by simpa using he) with z | z <;> subst z
  · exact Shd.str h
  · exact Shd.int _
theorem due_s (a b : Int) : ∀ c ∈ (dueV a b).1.cps.toList, c < 128 := by
  unfold dueV
  split
  · show ∀ c ∈ ("row" : Str).cps.toList, c < 128
    decide +kernel
  · split
    · show ∀ c ∈ ("row" : Str).cps.toList, c < 128
      decide +kernel
    · show ∀ c ∈ ("told" : Str).cps.toList, c < 128
      decide +kernel
theorem rule_s : ∀ c ∈ (("rule" : Str), (-1 : Int)).1.cps.toList, c < 128 := by
  show ∀ c ∈ ("rule" : Str).cps.toList, c < 128
  decide +kernel
noncomputable abbrev N_law : List Str := ["_law_script", "_law_n", "_law_full", "_law_one", "_law_at", "_law_other", "_law_behind", "_law_rule_here", "_law_good"]
theorem sc_law : FnScope N_law ["_law_script"] (defScope st_law) := ⟨rfl, rfl, rfl, by decide +kernel, rfl, by decide +kernel, by decide +kernel⟩
theorem ok_law (T : All P w K mg AA DD) {f : Addr} {fd : FuncData} (F : Fun K "law" "law" st_law f fd) : FnOk P w K mg base CX0 20 f fd ["_law_script"] (spLaw K) := by
  have GE := ok_cellat (base := base) T
  have GX := ok_mixed (base := base) T
  have GT := ok_text (base := base) T
  have GR := ok_rule (base := base) T
  have GL := ok_told (base := base) T
  have GU := ok_due (base := base) T
  refine F.ok sc_law (fun vs H Q E h => ?_) (fun cdv A outer s H vs Q E hr h => ?_)
  · obtain ⟨a, ns, rfl, _⟩ := h
    rfl
  · obtain ⟨a, ns, rfl, hS, hlen, k⟩ := h
    have nd := sc_law.nd
    have hu := hr.units
    have hr1 : Room 1 _ := hr.mono (by decide)
    have hr2 : Room 2 _ := hr.mono (by decide)
    have hr18 : Room 18 _ := hr.mono (by decide)
    refine ⟨_, (@pss_cons _ _ _ _ _ (@ps_set _ _ 1 _ _ _ _ nd rfl (Or.inl rfl) (@pe_op _ _ _ _ _ _ _ _ op_mod (pe_call GE hr1 rfl T.m_law_cell_at T.k_law_cell_at T.b_law_cell_at .nil pass0 (@pa_cons _ _ _ _ _ (pv 0) (@pa_cons _ _ _ _ _ pe_int pa_nil (by rfl)) (by rfl))) pe_int) (by rfl) (by first | exact .inl rfl | exact .inr rfl | assumption)) (@pss_cons _ _ _ _ _ (@ps_set _ _ 2 _ _ _ _ nd rfl (Or.inl rfl) (@pe_op _ _ _ _ _ _ _ _ op_sub (@pe_op _ _ _ _ _ _ _ _ op_shlB pe_int (@pe_op _ _ _ _ _ _ _ _ op_shlB pe_int (pv 1))) pe_int) (by rfl) (by first | exact .inl rfl | exact .inr rfl | assumption)) (@pss_cons _ _ _ _ _ (ps_asg (pe_call GT hr2 rfl T.m_law_text T.k_law_text T.b_law_text .nil pass0 (@pa_cons _ _ _ _ _ (pe_call GE hr1 rfl T.m_law_cell_at T.k_law_cell_at T.b_law_cell_at .nil pass0 (@pa_cons _ _ _ _ _ (pv 0) (@pa_cons _ _ _ _ _ pe_int pa_nil (by rfl)) (by rfl))) (@pa_cons _ _ _ _ _ (pv 1) pa_nil (by rfl)) (by rfl))) (pg_tup rfl (pgs_cons (pg_name (i := 3) nd rfl (Or.inl rfl)) (pgs_cons (pg_name (i := 4) nd rfl (Or.inl rfl)) pgs_nil)))) (@pss_cons _ _ _ _ _ (ps_asg (pe_call GT hr2 rfl T.m_law_text T.k_law_text T.b_law_text .nil pass0 (@pa_cons _ _ _ _ _ (pe_call GE hr1 rfl T.m_law_cell_at T.k_law_cell_at T.b_law_cell_at .nil pass0 (@pa_cons _ _ _ _ _ (pv 0) (@pa_cons _ _ _ _ _ pe_int pa_nil (by rfl)) (by rfl))) (@pa_cons _ _ _ _ _ (pv 1) pa_nil (by rfl)) (by rfl))) (pg_tup rfl (pgs_cons (pg_name (i := 5) nd rfl (Or.inl rfl)) (pgs_cons (pg_name (i := 6) nd rfl (Or.inl rfl)) pgs_nil)))) (@pss_cons _ _ _ _ _ (@ps_set _ _ 7 _ _ _ _ nd rfl (Or.inl rfl) (pe_call GR hr1 rfl T.m_law_rule T.k_law_rule T.b_law_rule .nil pass0 (@pa_cons _ _ _ _ _ (pe_call GE hr1 rfl T.m_law_cell_at T.k_law_cell_at T.b_law_cell_at .nil pass0 (@pa_cons _ _ _ _ _ (pv 0) (@pa_cons _ _ _ _ _ pe_int pa_nil (by rfl)) (by rfl))) (@pa_cons _ _ _ _ _ (pv 1) pa_nil (by rfl)) (by rfl))) (by rfl) (by first | exact .inl rfl | exact .inr rfl | assumption)) (@pss_cons _ _ _ _ _ (@ps_set _ _ 8 _ _ _ _ nd rfl (Or.inl rfl) (@pe_op _ _ _ _ _ _ _ _ op_and (pe_call GX hr1 rfl T.m_law_mixed T.k_law_mixed T.b_law_mixed .nil pass0 (@pa_cons _ _ _ _ _ (pe_call GE hr1 rfl T.m_law_cell_at T.k_law_cell_at T.b_law_cell_at .nil pass0 (@pa_cons _ _ _ _ _ (pv 0) (@pa_cons _ _ _ _ _ pe_int pa_nil (by rfl)) (by rfl))) (@pa_cons _ _ _ _ _ pe_int pa_nil (by rfl)) (by rfl))) (pv 2)) (by rfl) (by first | exact .inl rfl | exact .inr rfl | assumption)) (@pss_cons _ _ _ _ _ (@ps_if _ _ _ _ _ _ _ _ (PW.pt (pw_or (@pt_cmpR _ _ _ _ _ _ _ _ (op_neD (K := K) rfl hu) (pe_call GL hr18 rfl T.m_law_told T.k_law_told T.b_law_told .nil pass0 (@pa_cons _ _ _ _ _ (pv 3) (@pa_cons _ _ _ _ _ pe_non (@pa_cons _ _ _ _ _ (pv 1) (@pa_cons _ _ _ _ _ (pv 7) pa_nil (by rfl)) (by rfl)) (by rfl)) (by rfl))) (@pe_tup _ _ _ _ _ (@pa_cons _ _ _ _ _ pe_str (@pa_cons _ _ _ _ _ (pe_un un_neg pe_int) pa_nil (by rfl)) (by rfl))) (nomark _)) (pw_or1 (@pt_cmpR _ _ _ _ _ _ _ _ (op_neD (K := K) rfl hu) (pe_call GL hr18 rfl T.m_law_told T.k_law_told T.b_law_told .nil pass0 (@pa_cons _ _ _ _ _ (pv 3) (@pa_cons _ _ _ _ _ (pv 5) (@pa_cons _ _ _ _ _ (pv 1) (@pa_cons _ _ _ _ _ (pv 7) pa_nil (by rfl)) (by rfl)) (by rfl)) (by rfl))) (@pe_tup _ _ _ _ _ (@pa_cons _ _ _ _ _ pe_str (@pa_cons _ _ _ _ _ (pe_un un_neg pe_int) pa_nil (by rfl)) (by rfl))) (nomark _))))) (@pss_one _ _ _ (@ps_ret _ _ _ _ pe_bl)) pss_nil) (@pss_cons _ _ _ _ _ (@ps_if _ _ _ _ _ _ _ _ (@pt_cmpR _ _ _ _ _ _ _ _ (op_neD (K := K) rfl hu) (pe_call GL hr18 rfl T.m_law_told T.k_law_told T.b_law_told .nil pass0 (@pa_cons _ _ _ _ _ (pv 3) (@pa_cons _ _ _ _ _ pe_non (@pa_cons _ _ _ _ _ (pv 1) (@pa_cons _ _ _ _ _ (pv 8) pa_nil (by rfl)) (by rfl)) (by rfl)) (by rfl))) (pe_call GU hr1 rfl T.m_law_due T.k_law_due T.b_law_due .nil pass0 (@pa_cons _ _ _ _ _ (pv 4) (@pa_cons _ _ _ _ _ (pe_un un_neg pe_int) pa_nil (by rfl)) (by rfl))) (nomark _)) (@pss_one _ _ _ (@ps_ret _ _ _ _ pe_bl)) pss_nil) (@pss_one _ _ _ (@ps_ret _ _ _ _ (@pe_cmpR _ _ _ _ _ _ _ _ (op_eqD (K := K) rfl hu) (pe_call GL hr18 rfl T.m_law_told T.k_law_told T.b_law_told .nil pass0 (@pa_cons _ _ _ _ _ (pv 3) (@pa_cons _ _ _ _ _ (pv 5) (@pa_cons _ _ _ _ _ (pv 1) (@pa_cons _ _ _ _ _ (pv 8) pa_nil (by rfl)) (by rfl)) (by rfl)) (by rfl))) (pe_call GU hr1 rfl T.m_law_due T.k_law_due T.b_law_due .nil pass0 (@pa_cons _ _ _ _ _ (pv 4) (@pa_cons _ _ _ _ _ (pv 6) pa_nil (by rfl)) (by rfl))) (nomark _)))))))))))), ?_⟩
    refine ⟨_, rfl, a, ns, 0, rfl, hS, fun c0 => ⟨_, _, rfl, rfl, (by show (0 : Int) < 5; decide), ?_⟩⟩
    try dsimp only [gName]
    obtain ⟨n, en, hn⟩ : ∃ n : Nat, c0 % 5 = ((n : Nat) : Int) ∧ n ≤ 4 := ⟨(c0 % 5).toNat, by (clear hu k hlen; omega), by (first | (exact Nat.le_trans (by assumption) (by decide)) | (clear hu k hlen; omega) | omega)⟩
    rw [en]
    have h2n : 2 ^ n ≤ 1024 := two_le (by (exact Nat.le_trans (by assumption) (by decide)))
    refine ⟨_, rfl, _, _, rfl, rfl, one_shl (by (exact Nat.le_trans (by assumption) (by decide))), ?_⟩
    dsimp only
    rw [shl_n]
    refine ⟨_, _, rfl, rfl, one_shl h2n, _, _, rfl, rfl, ?_⟩
    have ef : (1 : Int) * 2 ^ (((2 ^ n : Nat) : Int)).toNat - 1 = ((fulln n : Nat) : Int) := by
      rw [shl_n]
      have := Nat.two_pow_pos (2 ^ n)
      unfold fulln; (clear h2n hn en hu k hlen; omega)
    try dsimp only [gName]
    rw [ef]
    -- two texts
    refine ⟨_, rfl, a, ns, 1, rfl, hS, fun c1 => ⟨_, rfl, c1, n, rfl, hn, fun t1 z1 a1 H1 s1 ht1 hz1 => ?_⟩⟩
    have hS1 := s1.seq hS
    refine ⟨t1, _, rfl, SqT.of ht1, rfl, _, _, rfl, _, _, rfl, rfl, ?_⟩
    try dsimp only [gName]
    refine ⟨_, rfl, a, ns, 2, rfl, hS1, fun c2 => ⟨_, rfl, c2, n, rfl, hn, fun t2 z2 a2 H2 s2 ht2 hz2 => ?_⟩⟩
    have hS2 := s2.seq hS1
    refine ⟨t2, _, rfl, SqT.of ht2, rfl, _, _, rfl, _, _, rfl, rfl, ?_⟩
    try dsimp only [gName]
    -- a rule that is none, a good one
    refine ⟨_, rfl, a, ns, 3, rfl, hS2, fun c3 => ⟨_, rfl, c3, n, rfl, hn, fun x H3 s3 hx => ?_⟩⟩
    have hS3 := s3.seq hS2
    try dsimp only [gName]
    refine ⟨_, rfl, a, ns, 4, rfl, hS3, fun c4 => ⟨c4, 1, rfl, fun g hg0 hg1 => ⟨_, rfl, _, _, rfl, rfl, ?_⟩⟩⟩
    try dsimp only [gName]
    obtain ⟨m, em, hm⟩ : ∃ m : Nat, Builtin.bitAnd g ((fulln n : Nat) : Int) = ((m : Nat) : Int) ∧ m < 2 ^ 2 ^ n := by
      refine ⟨g.toNat &&& fulln n, ?_, Nat.lt_of_le_of_lt Nat.and_le_right (full_lt n)⟩
      rw [← bitAnd_nat, Int.toNat_of_nonneg hg0]
    rw [em]
    have two : 2 ≤ sizeLine := by decide
    have shR := shd_p rule_s
    have shD := fun b => shd_p (due_s a1 b)
    refine if_cut (fun b H' => b = false ∧ Same H3 H') (fun R hR => ?_) (fun H' h => absurd h.1 (fun z => by cases z)) ?_
    · refine ⟨_, rfl, _, rfl, _, rfl, z1, a1, -1, .non, n, x, (("rule" : Str), (-1 : Int)), rfl, hn, hz1, .inl ⟨rfl, rfl⟩, .inl ⟨hx, rfl⟩, fun t3 H4 s4 ht3 => ?_⟩
      refine ⟨_, rfl, two, fun t4 ht4 => ?_⟩
      have s5 := same_upd (o := .tup [V.str "rule", V.int (-1)]) ht4
      refine ⟨pD (("rule" : Str), (-1 : Int)), pD (("rule" : Str), (-1 : Int)), rdv_p (s5 _ _ ht3), rdv_p upd_same, shR.ok (by decide), shR.ok (by decide), _, rfl, ?_⟩
      rw [shR.refl]
      refine iteF ?_
      refine ⟨_, rfl, _, rfl, _, rfl, _, rfl, z1, a1, a2, .str z2, n, x, (("rule" : Str), (-1 : Int)), rfl, hn, hz1, .inr ⟨z2, rfl, hz2⟩, .inl ⟨(hx.same s4).same s5, rfl⟩, fun t5 H5 s6 ht5 => ?_⟩
      refine ⟨_, rfl, two, fun t6 ht6 => ?_⟩
      have s7 := same_upd (o := .tup [V.str "rule", V.int (-1)]) ht6
      refine ⟨pD (("rule" : Str), (-1 : Int)), pD (("rule" : Str), (-1 : Int)), rdv_p (s7 _ _ ht5), rdv_p upd_same, shR.ok (by decide), shR.ok (by decide), _, rfl, ?_⟩
      rw [shR.refl]
      exact hR _ _ ⟨rfl, ((s4.trans s5).trans s6).trans s7⟩
    rintro H4 ⟨_, s4⟩
    refine next_c ?_
    dsimp only
    refine if_cut (fun b H' => b = false) (fun R hR => ?_) (fun H' h => absurd h (fun z => by cases z)) ?_
    · refine ⟨_, rfl, _, rfl, _, rfl, z1, a1, -1, .non, n, _, dueV a1 (-1), rfl, hn, hz1, .inl ⟨rfl, rfl⟩, .inr ⟨m, rfl, hm, rfl⟩, fun t3 H5 s5 ht3 => ?_⟩
      refine ⟨_, rfl, _, rfl, a1, -1, rfl, fun t4 ht4 => ?_⟩
      refine ⟨pD (dueV a1 (-1)), pD (dueV a1 (-1)), rdv_p (same_upd ht4 _ _ ht3), rdv_p upd_same, (shD _).ok (by decide), (shD _).ok (by decide), _, rfl, ?_⟩
      rw [(shD _).refl]
      exact hR _ _ rfl
    rintro H5 _
    refine next_c ?_
    dsimp only
    refine ⟨_, rfl, _, rfl, _, rfl, _, rfl, z1, a1, a2, .str z2, n, _, dueV a1 a2, rfl, hn, hz1, .inr ⟨z2, rfl, hz2⟩, .inr ⟨m, rfl, hm, rfl⟩, fun t3 H6 s6 ht3 => ?_⟩
    refine ⟨_, rfl, _, rfl, a1, a2, rfl, fun t4 ht4 => ?_⟩
    refine ⟨pD (dueV a1 a2), pD (dueV a1 a2), rdv_p (same_upd ht4 _ _ ht3), rdv_p upd_same, (shD _).ok (by decide), (shD _).ok (by decide), ?_⟩
    rw [(shD _).refl]
    exact k _
end
theorem all_mk {l : PySem.W.OpenLaw} {w : World} {K : PySem.W.Frag} {h : Heap} {mg : Str → Option Value} {fa f_every f_switch_mask f_is_whole f_is_mask f_has f_settings f_read_wish f_mask_of_text f_reckoned f_taken f_value_of f_put_together f_read_rows f_read_words f_words_of f_group_mask f_in_group f_cut_row f_cut_rows f_tidied f_ask_rule f_tidied_row f_come_together f_parted f_law_cell_at f_law_mixed f_law_bad_row f_law_text f_law_rule f_law_told f_law_due f_NoGroup_init f_law d_NEEDS x_MakesError x_NoWish x_NoSet x_TooMany x_NoGroup : Addr} (X : K.In h) (G : h.Ns mainGlobals mg) (hfa : mg "law" = some (.ref fa))
    {od_every an_every od_switch_mask an_switch_mask od_is_whole an_is_whole od_is_mask an_is_mask od_has an_has od_settings an_settings od_read_wish an_read_wish od_mask_of_text an_mask_of_text od_reckoned an_reckoned od_taken an_taken od_value_of an_value_of od_put_together an_put_together od_read_rows an_read_rows od_read_words an_read_words od_words_of an_words_of od_group_mask an_group_mask od_in_group an_in_group od_cut_row an_cut_row od_cut_rows an_cut_rows od_tidied an_tidied od_ask_rule an_ask_rule od_tidied_row an_tidied_row od_come_together an_come_together od_parted an_parted od_law_cell_at an_law_cell_at od_law_mixed an_law_mixed od_law_bad_row an_law_bad_row od_law_text an_law_text od_law_rule an_law_rule od_law_told an_law_told od_law_due an_law_due od_NoGroup_init an_NoGroup_init od_law an_law : Option Addr} {sl_every sl_switch_mask sl_is_whole sl_is_mask sl_has sl_settings sl_read_wish sl_mask_of_text sl_reckoned sl_taken sl_value_of sl_put_together sl_read_rows sl_read_words sl_words_of sl_group_mask sl_in_group sl_cut_row sl_cut_rows sl_tidied sl_ask_rule sl_tidied_row sl_come_together sl_parted sl_law_cell_at sl_law_mixed sl_law_bad_row sl_law_text sl_law_rule sl_law_told sl_law_due sl_NoGroup_init sl_law : Array (Option Value)} {oc_every kV_every dc_every pm_every cd_every ct_every oc_switch_mask kV_switch_mask dc_switch_mask pm_switch_mask cd_switch_mask ct_switch_mask oc_is_whole kV_is_whole dc_is_whole pm_is_whole cd_is_whole ct_is_whole oc_is_mask kV_is_mask dc_is_mask pm_is_mask cd_is_mask ct_is_mask oc_has kV_has dc_has pm_has cd_has ct_has oc_settings kV_settings dc_settings pm_settings cd_settings ct_settings oc_read_wish kV_read_wish dc_read_wish pm_read_wish cd_read_wish ct_read_wish oc_mask_of_text kV_mask_of_text dc_mask_of_text pm_mask_of_text cd_mask_of_text ct_mask_of_text oc_reckoned kV_reckoned dc_reckoned pm_reckoned cd_reckoned ct_reckoned oc_taken kV_taken dc_taken pm_taken cd_taken ct_taken oc_value_of kV_value_of dc_value_of pm_value_of cd_value_of ct_value_of oc_put_together kV_put_together dc_put_together pm_put_together cd_put_together ct_put_together oc_read_rows kV_read_rows dc_read_rows pm_read_rows cd_read_rows ct_read_rows oc_read_words kV_read_words dc_read_words pm_read_words cd_read_words ct_read_words oc_words_of kV_words_of dc_words_of pm_words_of cd_words_of ct_words_of oc_group_mask kV_group_mask dc_group_mask pm_group_mask cd_group_mask ct_group_mask oc_in_group kV_in_group dc_in_group pm_in_group cd_in_group ct_in_group oc_cut_row kV_cut_row dc_cut_row pm_cut_row cd_cut_row ct_cut_row oc_cut_rows kV_cut_rows dc_cut_rows pm_cut_rows cd_cut_rows ct_cut_rows oc_tidied kV_tidied dc_tidied pm_tidied cd_tidied ct_tidied oc_ask_rule kV_ask_rule dc_ask_rule pm_ask_rule cd_ask_rule ct_ask_rule oc_tidied_row kV_tidied_row dc_tidied_row pm_tidied_row cd_tidied_row ct_tidied_row oc_come_together kV_come_together dc_come_together pm_come_together cd_come_together ct_come_together oc_parted kV_parted dc_parted pm_parted cd_parted ct_parted oc_law_cell_at kV_law_cell_at dc_law_cell_at pm_law_cell_at cd_law_cell_at ct_law_cell_at oc_law_mixed kV_law_mixed dc_law_mixed pm_law_mixed cd_law_mixed ct_law_mixed oc_law_bad_row kV_law_bad_row dc_law_bad_row pm_law_bad_row cd_law_bad_row ct_law_bad_row oc_law_text kV_law_text dc_law_text pm_law_text cd_law_text ct_law_text oc_law_rule kV_law_rule dc_law_rule pm_law_rule cd_law_rule ct_law_rule oc_law_told kV_law_told dc_law_told pm_law_told cd_law_told ct_law_told oc_law_due kV_law_due dc_law_due pm_law_due cd_law_due ct_law_due oc_NoGroup_init kV_NoGroup_init dc_NoGroup_init pm_NoGroup_init cd_NoGroup_init ct_NoGroup_init oc_law kV_law dc_law pm_law cd_law ct_law : Value}
    {t_LETTERS t_DEEPEST_GROUP : Tok}
    {h_NEEDS_0 h_NEEDS_1 h_NEEDS_2 h_NEEDS_3 h_NEEDS_4 : Int} {t_NEEDS_0 u_NEEDS_0 t_NEEDS_1 u_NEEDS_1 t_NEEDS_2 u_NEEDS_2 t_NEEDS_3 u_NEEDS_3 t_NEEDS_4 u_NEEDS_4 : Tok} {ep_NEEDS : Nat}
    (a_every : PySem.W.nsIn K mainGlobals "every" = some (some (.ref f_every)))
    (l_every : K.lookup f_every = some ⟨oc_every, od_every, .func (PySem.W.fnOf "every" "every" (defArgs st_every) (defBody st_every) (defScope st_every) .none kV_every dc_every pm_every an_every cd_every ct_every), sl_every⟩)
    (c_every' : PySem.W.codeIn K cd_every "every" = true)
    (k_every : PySem.W.keepIn K (.ref f_every) = true)
    (a_switch_mask : PySem.W.nsIn K mainGlobals "switch_mask" = some (some (.ref f_switch_mask)))
    (l_switch_mask : K.lookup f_switch_mask = some ⟨oc_switch_mask, od_switch_mask, .func (PySem.W.fnOf "switch_mask" "switch_mask" (defArgs st_switch_mask) (defBody st_switch_mask) (defScope st_switch_mask) .none kV_switch_mask dc_switch_mask pm_switch_mask an_switch_mask cd_switch_mask ct_switch_mask), sl_switch_mask⟩)
    (c_switch_mask' : PySem.W.codeIn K cd_switch_mask "switch_mask" = true)
    (k_switch_mask : PySem.W.keepIn K (.ref f_switch_mask) = true)
    (a_is_whole : PySem.W.nsIn K mainGlobals "is_whole" = some (some (.ref f_is_whole)))
    (l_is_whole : K.lookup f_is_whole = some ⟨oc_is_whole, od_is_whole, .func (PySem.W.fnOf "is_whole" "is_whole" (defArgs st_is_whole) (defBody st_is_whole) (defScope st_is_whole) .none kV_is_whole dc_is_whole pm_is_whole an_is_whole cd_is_whole ct_is_whole), sl_is_whole⟩)
    (c_is_whole' : PySem.W.codeIn K cd_is_whole "is_whole" = true)
    (k_is_whole : PySem.W.keepIn K (.ref f_is_whole) = true)
    (a_is_mask : PySem.W.nsIn K mainGlobals "is_mask" = some (some (.ref f_is_mask)))
    (l_is_mask : K.lookup f_is_mask = some ⟨oc_is_mask, od_is_mask, .func (PySem.W.fnOf "is_mask" "is_mask" (defArgs st_is_mask) (defBody st_is_mask) (defScope st_is_mask) .none kV_is_mask dc_is_mask pm_is_mask an_is_mask cd_is_mask ct_is_mask), sl_is_mask⟩)
    (c_is_mask' : PySem.W.codeIn K cd_is_mask "is_mask" = true)
    (k_is_mask : PySem.W.keepIn K (.ref f_is_mask) = true)
    (a_has : PySem.W.nsIn K mainGlobals "has" = some (some (.ref f_has)))
    (l_has : K.lookup f_has = some ⟨oc_has, od_has, .func (PySem.W.fnOf "has" "has" (defArgs st_has) (defBody st_has) (defScope st_has) .none kV_has dc_has pm_has an_has cd_has ct_has), sl_has⟩)
    (c_has' : PySem.W.codeIn K cd_has "has" = true)
    (k_has : PySem.W.keepIn K (.ref f_has) = true)
    (a_settings : PySem.W.nsIn K mainGlobals "settings" = some (some (.ref f_settings)))
    (l_settings : K.lookup f_settings = some ⟨oc_settings, od_settings, .func (PySem.W.fnOf "settings" "settings" (defArgs st_settings) (defBody st_settings) (defScope st_settings) .none kV_settings dc_settings pm_settings an_settings cd_settings ct_settings), sl_settings⟩)
    (c_settings' : PySem.W.codeIn K cd_settings "settings" = true)
    (k_settings : PySem.W.keepIn K (.ref f_settings) = true)
    (a_read_wish : PySem.W.nsIn K mainGlobals "read_wish" = some (some (.ref f_read_wish)))
    (l_read_wish : K.lookup f_read_wish = some ⟨oc_read_wish, od_read_wish, .func (PySem.W.fnOf "read_wish" "read_wish" (defArgs st_read_wish) (defBody st_read_wish) (defScope st_read_wish) .none kV_read_wish dc_read_wish pm_read_wish an_read_wish cd_read_wish ct_read_wish), sl_read_wish⟩)
    (c_read_wish' : PySem.W.codeIn K cd_read_wish "read_wish" = true)
    (k_read_wish : PySem.W.keepIn K (.ref f_read_wish) = true)
    (a_mask_of_text : PySem.W.nsIn K mainGlobals "mask_of_text" = some (some (.ref f_mask_of_text)))
    (l_mask_of_text : K.lookup f_mask_of_text = some ⟨oc_mask_of_text, od_mask_of_text, .func (PySem.W.fnOf "mask_of_text" "mask_of_text" (defArgs st_mask_of_text) (defBody st_mask_of_text) (defScope st_mask_of_text) .none kV_mask_of_text dc_mask_of_text pm_mask_of_text an_mask_of_text cd_mask_of_text ct_mask_of_text), sl_mask_of_text⟩)
    (c_mask_of_text' : PySem.W.codeIn K cd_mask_of_text "mask_of_text" = true)
    (k_mask_of_text : PySem.W.keepIn K (.ref f_mask_of_text) = true)
    (a_reckoned : PySem.W.nsIn K mainGlobals "reckoned" = some (some (.ref f_reckoned)))
    (l_reckoned : K.lookup f_reckoned = some ⟨oc_reckoned, od_reckoned, .func (PySem.W.fnOf "reckoned" "reckoned" (defArgs st_reckoned) (defBody st_reckoned) (defScope st_reckoned) .none kV_reckoned dc_reckoned pm_reckoned an_reckoned cd_reckoned ct_reckoned), sl_reckoned⟩)
    (c_reckoned' : PySem.W.codeIn K cd_reckoned "reckoned" = true)
    (k_reckoned : PySem.W.keepIn K (.ref f_reckoned) = true)
    (a_taken : PySem.W.nsIn K mainGlobals "taken" = some (some (.ref f_taken)))
    (l_taken : K.lookup f_taken = some ⟨oc_taken, od_taken, .func (PySem.W.fnOf "taken" "taken" (defArgs st_taken) (defBody st_taken) (defScope st_taken) .none kV_taken dc_taken pm_taken an_taken cd_taken ct_taken), sl_taken⟩)
    (c_taken' : PySem.W.codeIn K cd_taken "taken" = true)
    (k_taken : PySem.W.keepIn K (.ref f_taken) = true)
    (a_value_of : PySem.W.nsIn K mainGlobals "value_of" = some (some (.ref f_value_of)))
    (l_value_of : K.lookup f_value_of = some ⟨oc_value_of, od_value_of, .func (PySem.W.fnOf "value_of" "value_of" (defArgs st_value_of) (defBody st_value_of) (defScope st_value_of) .none kV_value_of dc_value_of pm_value_of an_value_of cd_value_of ct_value_of), sl_value_of⟩)
    (c_value_of' : PySem.W.codeIn K cd_value_of "value_of" = true)
    (k_value_of : PySem.W.keepIn K (.ref f_value_of) = true)
    (a_put_together : PySem.W.nsIn K mainGlobals "put_together" = some (some (.ref f_put_together)))
    (l_put_together : K.lookup f_put_together = some ⟨oc_put_together, od_put_together, .func (PySem.W.fnOf "put_together" "put_together" (defArgs st_put_together) (defBody st_put_together) (defScope st_put_together) .none kV_put_together dc_put_together pm_put_together an_put_together cd_put_together ct_put_together), sl_put_together⟩)
    (c_put_together' : PySem.W.codeIn K cd_put_together "put_together" = true)
    (k_put_together : PySem.W.keepIn K (.ref f_put_together) = true)
    (a_read_rows : PySem.W.nsIn K mainGlobals "read_rows" = some (some (.ref f_read_rows)))
    (l_read_rows : K.lookup f_read_rows = some ⟨oc_read_rows, od_read_rows, .func (PySem.W.fnOf "read_rows" "read_rows" (defArgs st_read_rows) (defBody st_read_rows) (defScope st_read_rows) .none kV_read_rows dc_read_rows pm_read_rows an_read_rows cd_read_rows ct_read_rows), sl_read_rows⟩)
    (c_read_rows' : PySem.W.codeIn K cd_read_rows "read_rows" = true)
    (k_read_rows : PySem.W.keepIn K (.ref f_read_rows) = true)
    (a_read_words : PySem.W.nsIn K mainGlobals "read_words" = some (some (.ref f_read_words)))
    (l_read_words : K.lookup f_read_words = some ⟨oc_read_words, od_read_words, .func (PySem.W.fnOf "read_words" "read_words" (defArgs st_read_words) (defBody st_read_words) (defScope st_read_words) .none kV_read_words dc_read_words pm_read_words an_read_words cd_read_words ct_read_words), sl_read_words⟩)
    (c_read_words' : PySem.W.codeIn K cd_read_words "read_words" = true)
    (k_read_words : PySem.W.keepIn K (.ref f_read_words) = true)
    (a_words_of : PySem.W.nsIn K mainGlobals "words_of" = some (some (.ref f_words_of)))
    (l_words_of : K.lookup f_words_of = some ⟨oc_words_of, od_words_of, .func (PySem.W.fnOf "words_of" "words_of" (defArgs st_words_of) (defBody st_words_of) (defScope st_words_of) .none kV_words_of dc_words_of pm_words_of an_words_of cd_words_of ct_words_of), sl_words_of⟩)
    (c_words_of' : PySem.W.codeIn K cd_words_of "words_of" = true)
    (k_words_of : PySem.W.keepIn K (.ref f_words_of) = true)
    (a_group_mask : PySem.W.nsIn K mainGlobals "group_mask" = some (some (.ref f_group_mask)))
    (l_group_mask : K.lookup f_group_mask = some ⟨oc_group_mask, od_group_mask, .func (PySem.W.fnOf "group_mask" "group_mask" (defArgs st_group_mask) (defBody st_group_mask) (defScope st_group_mask) .none kV_group_mask dc_group_mask pm_group_mask an_group_mask cd_group_mask ct_group_mask), sl_group_mask⟩)
    (c_group_mask' : PySem.W.codeIn K cd_group_mask "group_mask" = true)
    (k_group_mask : PySem.W.keepIn K (.ref f_group_mask) = true)
    (a_in_group : PySem.W.nsIn K mainGlobals "in_group" = some (some (.ref f_in_group)))
    (l_in_group : K.lookup f_in_group = some ⟨oc_in_group, od_in_group, .func (PySem.W.fnOf "in_group" "in_group" (defArgs st_in_group) (defBody st_in_group) (defScope st_in_group) .none kV_in_group dc_in_group pm_in_group an_in_group cd_in_group ct_in_group), sl_in_group⟩)
    (c_in_group' : PySem.W.codeIn K cd_in_group "in_group" = true)
    (k_in_group : PySem.W.keepIn K (.ref f_in_group) = true)
    (a_cut_row : PySem.W.nsIn K mainGlobals "cut_row" = some (some (.ref f_cut_row)))
    (l_cut_row : K.lookup f_cut_row = some ⟨oc_cut_row, od_cut_row, .func (PySem.W.fnOf "cut_row" "cut_row" (defArgs st_cut_row) (defBody st_cut_row) (defScope st_cut_row) .none kV_cut_row dc_cut_row pm_cut_row an_cut_row cd_cut_row ct_cut_row), sl_cut_row⟩)
    (c_cut_row' : PySem.W.codeIn K cd_cut_row "cut_row" = true)
    (k_cut_row : PySem.W.keepIn K (.ref f_cut_row) = true)
    (a_cut_rows : PySem.W.nsIn K mainGlobals "cut_rows" = some (some (.ref f_cut_rows)))
    (l_cut_rows : K.lookup f_cut_rows = some ⟨oc_cut_rows, od_cut_rows, .func (PySem.W.fnOf "cut_rows" "cut_rows" (defArgs st_cut_rows) (defBody st_cut_rows) (defScope st_cut_rows) .none kV_cut_rows dc_cut_rows pm_cut_rows an_cut_rows cd_cut_rows ct_cut_rows), sl_cut_rows⟩)
    (c_cut_rows' : PySem.W.codeIn K cd_cut_rows "cut_rows" = true)
    (k_cut_rows : PySem.W.keepIn K (.ref f_cut_rows) = true)
    (a_tidied : PySem.W.nsIn K mainGlobals "tidied" = some (some (.ref f_tidied)))
    (l_tidied : K.lookup f_tidied = some ⟨oc_tidied, od_tidied, .func (PySem.W.fnOf "tidied" "tidied" (defArgs st_tidied) (defBody st_tidied) (defScope st_tidied) .none kV_tidied dc_tidied pm_tidied an_tidied cd_tidied ct_tidied), sl_tidied⟩)
    (c_tidied' : PySem.W.codeIn K cd_tidied "tidied" = true)
    (k_tidied : PySem.W.keepIn K (.ref f_tidied) = true)
    (a_ask_rule : PySem.W.nsIn K mainGlobals "ask_rule" = some (some (.ref f_ask_rule)))
    (l_ask_rule : K.lookup f_ask_rule = some ⟨oc_ask_rule, od_ask_rule, .func (PySem.W.fnOf "ask_rule" "ask_rule" (defArgs st_ask_rule) (defBody st_ask_rule) (defScope st_ask_rule) .none kV_ask_rule dc_ask_rule pm_ask_rule an_ask_rule cd_ask_rule ct_ask_rule), sl_ask_rule⟩)
    (c_ask_rule' : PySem.W.codeIn K cd_ask_rule "ask_rule" = true)
    (k_ask_rule : PySem.W.keepIn K (.ref f_ask_rule) = true)
    (a_tidied_row : PySem.W.nsIn K mainGlobals "tidied_row" = some (some (.ref f_tidied_row)))
    (l_tidied_row : K.lookup f_tidied_row = some ⟨oc_tidied_row, od_tidied_row, .func (PySem.W.fnOf "tidied_row" "tidied_row" (defArgs st_tidied_row) (defBody st_tidied_row) (defScope st_tidied_row) .none kV_tidied_row dc_tidied_row pm_tidied_row an_tidied_row cd_tidied_row ct_tidied_row), sl_tidied_row⟩)
    (c_tidied_row' : PySem.W.codeIn K cd_tidied_row "tidied_row" = true)
    (k_tidied_row : PySem.W.keepIn K (.ref f_tidied_row) = true)
    (a_come_together : PySem.W.nsIn K mainGlobals "come_together" = some (some (.ref f_come_together)))
    (l_come_together : K.lookup f_come_together = some ⟨oc_come_together, od_come_together, .func (PySem.W.fnOf "come_together" "come_together" (defArgs st_come_together) (defBody st_come_together) (defScope st_come_together) .none kV_come_together dc_come_together pm_come_together an_come_together cd_come_together ct_come_together), sl_come_together⟩)
    (c_come_together' : PySem.W.codeIn K cd_come_together "come_together" = true)
    (k_come_together : PySem.W.keepIn K (.ref f_come_together) = true)
    (a_parted : PySem.W.nsIn K mainGlobals "parted" = some (some (.ref f_parted)))
    (l_parted : K.lookup f_parted = some ⟨oc_parted, od_parted, .func (PySem.W.fnOf "parted" "parted" (defArgs st_parted) (defBody st_parted) (defScope st_parted) .none kV_parted dc_parted pm_parted an_parted cd_parted ct_parted), sl_parted⟩)
    (c_parted' : PySem.W.codeIn K cd_parted "parted" = true)
    (k_parted : PySem.W.keepIn K (.ref f_parted) = true)
    (a_law_cell_at : PySem.W.nsIn K mainGlobals "_law_cell_at" = some (some (.ref f_law_cell_at)))
    (l_law_cell_at : K.lookup f_law_cell_at = some ⟨oc_law_cell_at, od_law_cell_at, .func (PySem.W.fnOf "_law_cell_at" "_law_cell_at" (defArgs st_law_cell_at) (defBody st_law_cell_at) (defScope st_law_cell_at) .none kV_law_cell_at dc_law_cell_at pm_law_cell_at an_law_cell_at cd_law_cell_at ct_law_cell_at), sl_law_cell_at⟩)
    (c_law_cell_at' : PySem.W.codeIn K cd_law_cell_at "_law_cell_at" = true)
    (k_law_cell_at : PySem.W.keepIn K (.ref f_law_cell_at) = true)
    (a_law_mixed : PySem.W.nsIn K mainGlobals "_law_mixed" = some (some (.ref f_law_mixed)))
    (l_law_mixed : K.lookup f_law_mixed = some ⟨oc_law_mixed, od_law_mixed, .func (PySem.W.fnOf "_law_mixed" "_law_mixed" (defArgs st_law_mixed) (defBody st_law_mixed) (defScope st_law_mixed) .none kV_law_mixed dc_law_mixed pm_law_mixed an_law_mixed cd_law_mixed ct_law_mixed), sl_law_mixed⟩)
    (c_law_mixed' : PySem.W.codeIn K cd_law_mixed "_law_mixed" = true)
    (k_law_mixed : PySem.W.keepIn K (.ref f_law_mixed) = true)
    (a_law_bad_row : PySem.W.nsIn K mainGlobals "_law_bad_row" = some (some (.ref f_law_bad_row)))
    (l_law_bad_row : K.lookup f_law_bad_row = some ⟨oc_law_bad_row, od_law_bad_row, .func (PySem.W.fnOf "_law_bad_row" "_law_bad_row" (defArgs st_law_bad_row) (defBody st_law_bad_row) (defScope st_law_bad_row) .none kV_law_bad_row dc_law_bad_row pm_law_bad_row an_law_bad_row cd_law_bad_row ct_law_bad_row), sl_law_bad_row⟩)
    (c_law_bad_row' : PySem.W.codeIn K cd_law_bad_row "_law_bad_row" = true)
    (k_law_bad_row : PySem.W.keepIn K (.ref f_law_bad_row) = true)
    (a_law_text : PySem.W.nsIn K mainGlobals "_law_text" = some (some (.ref f_law_text)))
    (l_law_text : K.lookup f_law_text = some ⟨oc_law_text, od_law_text, .func (PySem.W.fnOf "_law_text" "_law_text" (defArgs st_law_text) (defBody st_law_text) (defScope st_law_text) .none kV_law_text dc_law_text pm_law_text an_law_text cd_law_text ct_law_text), sl_law_text⟩)
    (c_law_text' : PySem.W.codeIn K cd_law_text "_law_text" = true)
    (k_law_text : PySem.W.keepIn K (.ref f_law_text) = true)
    (a_law_rule : PySem.W.nsIn K mainGlobals "_law_rule" = some (some (.ref f_law_rule)))
    (l_law_rule : K.lookup f_law_rule = some ⟨oc_law_rule, od_law_rule, .func (PySem.W.fnOf "_law_rule" "_law_rule" (defArgs st_law_rule) (defBody st_law_rule) (defScope st_law_rule) .none kV_law_rule dc_law_rule pm_law_rule an_law_rule cd_law_rule ct_law_rule), sl_law_rule⟩)
    (c_law_rule' : PySem.W.codeIn K cd_law_rule "_law_rule" = true)
    (k_law_rule : PySem.W.keepIn K (.ref f_law_rule) = true)
    (a_law_told : PySem.W.nsIn K mainGlobals "_law_told" = some (some (.ref f_law_told)))
    (l_law_told : K.lookup f_law_told = some ⟨oc_law_told, od_law_told, .func (PySem.W.fnOf "_law_told" "_law_told" (defArgs st_law_told) (defBody st_law_told) (defScope st_law_told) .none kV_law_told dc_law_told pm_law_told an_law_told cd_law_told ct_law_told), sl_law_told⟩)
    (c_law_told' : PySem.W.codeIn K cd_law_told "_law_told" = true)
    (k_law_told : PySem.W.keepIn K (.ref f_law_told) = true)
    (a_law_due : PySem.W.nsIn K mainGlobals "_law_due" = some (some (.ref f_law_due)))
    (l_law_due : K.lookup f_law_due = some ⟨oc_law_due, od_law_due, .func (PySem.W.fnOf "_law_due" "_law_due" (defArgs st_law_due) (defBody st_law_due) (defScope st_law_due) .none kV_law_due dc_law_due pm_law_due an_law_due cd_law_due ct_law_due), sl_law_due⟩)
    (c_law_due' : PySem.W.codeIn K cd_law_due "_law_due" = true)
    (k_law_due : PySem.W.keepIn K (.ref f_law_due) = true)
    (a_law : PySem.W.nsIn K mainGlobals "law" = some (some (.ref f_law)))
    (l_law : K.lookup f_law = some ⟨oc_law, od_law, .func (PySem.W.fnOf "law" "law" (defArgs st_law) (defBody st_law) (defScope st_law) .none kV_law dc_law pm_law an_law cd_law ct_law), sl_law⟩)
    (c_law' : PySem.W.codeIn K cd_law "law" = true)
    (k_law : PySem.W.keepIn K (.ref f_law) = true)
    (v_LETTERS : PySem.W.nsIn K mainGlobals "LETTERS" = some (some (.str "abcdefghij" t_LETTERS)))
    (v_DEEPEST_GROUP : PySem.W.nsIn K mainGlobals "DEEPEST_GROUP" = some (some (.int 5 t_DEEPEST_GROUP)))
    (a_NEEDS : PySem.W.nsIn K mainGlobals "NEEDS" = some (some (.ref d_NEEDS)))
    (l_NEEDS : K.lookup d_NEEDS = some ⟨.type "dict", none, .dict #[⟨h_NEEDS_0, .str "!" t_NEEDS_0, .int 1 u_NEEDS_0⟩, ⟨h_NEEDS_1, .str "&" t_NEEDS_1, .int 2 u_NEEDS_1⟩, ⟨h_NEEDS_2, .str "|" t_NEEDS_2, .int 2 u_NEEDS_2⟩, ⟨h_NEEDS_3, .str "^" t_NEEDS_3, .int 2 u_NEEDS_3⟩, ⟨h_NEEDS_4, .str "?" t_NEEDS_4, .int 3 u_NEEDS_4⟩] ep_NEEDS, #[]⟩)
    (s_NEEDS : (d_NEEDS == sysModules) = false)
    (e_NEEDS_0 : h_NEEDS_0 = hashStr w "!")
    (e_NEEDS_1 : h_NEEDS_1 = hashStr w "&")
    (e_NEEDS_2 : h_NEEDS_2 = hashStr w "|")
    (e_NEEDS_3 : h_NEEDS_3 = hashStr w "^")
    (e_NEEDS_4 : h_NEEDS_4 = hashStr w "?")
    (ax_MakesError : PySem.W.nsIn K mainGlobals "MakesError" = some (some (.ref x_MakesError)))
    (pg_MakesError : PySem.W.findIn K (.ref x_MakesError) "__getattribute__" = some (some (.builtin "BaseException.__getattribute__")))
    (pk_MakesError : PySem.W.findIn K (.ref x_MakesError) "__getattr__" = some none)
    (pb_MakesError : PySem.W.mroIn K x_MakesError (.type "BaseException") = some true)
    (t1_MakesError : PySem.W.findIn K (.ref x_MakesError) "__class__" = some (some (.builtin "object.__class__")))
    (t2_MakesError : PySem.W.specialIn K (.builtin "object.__class__") "__get__" = some (some (.builtin "getset_descriptor.__get__")))
    (t3_MakesError : PySem.W.takesIn K (.builtin "object.__class__") = some true)
    (t4_MakesError : PySem.W.mroIn K x_MakesError (.type "object") = some true)
    (ax_NoWish : PySem.W.nsIn K mainGlobals "NoWish" = some (some (.ref x_NoWish)))
    (pg_NoWish : PySem.W.findIn K (.ref x_NoWish) "__getattribute__" = some (some (.builtin "BaseException.__getattribute__")))
    (pk_NoWish : PySem.W.findIn K (.ref x_NoWish) "__getattr__" = some none)
    (pb_NoWish : PySem.W.mroIn K x_NoWish (.type "BaseException") = some true)
    (t1_NoWish : PySem.W.findIn K (.ref x_NoWish) "__class__" = some (some (.builtin "object.__class__")))
    (t2_NoWish : PySem.W.specialIn K (.builtin "object.__class__") "__get__" = some (some (.builtin "getset_descriptor.__get__")))
    (t3_NoWish : PySem.W.takesIn K (.builtin "object.__class__") = some true)
    (t4_NoWish : PySem.W.mroIn K x_NoWish (.type "object") = some true)
    (ex_NoWish : PySem.W.excIn K x_NoWish [.type "ValueError", .type "Exception", .type "BaseException", .type "object"] "ValueError.__new__" = true)
    (ax_NoSet : PySem.W.nsIn K mainGlobals "NoSet" = some (some (.ref x_NoSet)))
    (pg_NoSet : PySem.W.findIn K (.ref x_NoSet) "__getattribute__" = some (some (.builtin "BaseException.__getattribute__")))
    (pk_NoSet : PySem.W.findIn K (.ref x_NoSet) "__getattr__" = some none)
    (pb_NoSet : PySem.W.mroIn K x_NoSet (.type "BaseException") = some true)
    (t1_NoSet : PySem.W.findIn K (.ref x_NoSet) "__class__" = some (some (.builtin "object.__class__")))
    (t2_NoSet : PySem.W.specialIn K (.builtin "object.__class__") "__get__" = some (some (.builtin "getset_descriptor.__get__")))
    (t3_NoSet : PySem.W.takesIn K (.builtin "object.__class__") = some true)
    (t4_NoSet : PySem.W.mroIn K x_NoSet (.type "object") = some true)
    (ex_NoSet : PySem.W.excIn K x_NoSet [.type "ValueError", .type "Exception", .type "BaseException", .type "object"] "ValueError.__new__" = true)
    (ax_TooMany : PySem.W.nsIn K mainGlobals "TooMany" = some (some (.ref x_TooMany)))
    (pg_TooMany : PySem.W.findIn K (.ref x_TooMany) "__getattribute__" = some (some (.builtin "BaseException.__getattribute__")))
    (pk_TooMany : PySem.W.findIn K (.ref x_TooMany) "__getattr__" = some none)
    (pb_TooMany : PySem.W.mroIn K x_TooMany (.type "BaseException") = some true)
    (t1_TooMany : PySem.W.findIn K (.ref x_TooMany) "__class__" = some (some (.builtin "object.__class__")))
    (t2_TooMany : PySem.W.specialIn K (.builtin "object.__class__") "__get__" = some (some (.builtin "getset_descriptor.__get__")))
    (t3_TooMany : PySem.W.takesIn K (.builtin "object.__class__") = some true)
    (t4_TooMany : PySem.W.mroIn K x_TooMany (.type "object") = some true)
    (ax_NoGroup : PySem.W.nsIn K mainGlobals "NoGroup" = some (some (.ref x_NoGroup)))
    (pg_NoGroup : PySem.W.findIn K (.ref x_NoGroup) "__getattribute__" = some (some (.builtin "BaseException.__getattribute__")))
    (pk_NoGroup : PySem.W.findIn K (.ref x_NoGroup) "__getattr__" = some none)
    (pb_NoGroup : PySem.W.mroIn K x_NoGroup (.type "BaseException") = some true)
    (t1_NoGroup : PySem.W.findIn K (.ref x_NoGroup) "__class__" = some (some (.builtin "object.__class__")))
    (t2_NoGroup : PySem.W.specialIn K (.builtin "object.__class__") "__get__" = some (some (.builtin "getset_descriptor.__get__")))
    (t3_NoGroup : PySem.W.takesIn K (.builtin "object.__class__") = some true)
    (t4_NoGroup : PySem.W.mroIn K x_NoGroup (.type "object") = some true)
    (a_NoGroup_init : PySem.W.findIn K (.ref x_NoGroup) "__init__" = some (some (.ref f_NoGroup_init)))
    (i_NoGroup_init : PySem.W.isFn K (.ref f_NoGroup_init) = true)
    (l_NoGroup_init : K.lookup f_NoGroup_init = some ⟨oc_NoGroup_init, od_NoGroup_init, .func (PySem.W.fnOf "__init__" "NoGroup.__init__" (defArgs st_NoGroup_init) (defBody st_NoGroup_init) (defScope st_NoGroup_init) .none kV_NoGroup_init dc_NoGroup_init pm_NoGroup_init an_NoGroup_init cd_NoGroup_init ct_NoGroup_init), sl_NoGroup_init⟩)
    (c_NoGroup_init' : PySem.W.codeIn K cd_NoGroup_init "NoGroup.__init__" = true)
    (k_NoGroup_init : PySem.W.keepIn K (.ref f_NoGroup_init) = true)
    (mi_NoGroup : excInI K x_NoGroup bmVE "ValueError.__new__" f_NoGroup_init = true)
    (po_NoGroup : (PySem.W.clsIn K x_NoGroup).any (fun cd => refsThen 2 cd.mro) = true)
    (sa_NoGroup : PySem.W.findIn K (.ref x_NoGroup) "__setattr__" = some (some (.builtin "object.__setattr__")))
    (hd_NoGroup : PySem.W.hasDictIn K x_NoGroup = true)
    (na_NoGroup_at : PySem.W.findIn K (.ref x_NoGroup) "at" = some none)
    (em_NoWish_NoWish : PySem.W.exmOne K (.ref x_NoWish) (.ref x_NoWish) = some true)
    (em_NoGroup_MakesError : PySem.W.exmOne K (.ref x_NoGroup) (.ref x_MakesError) = some true)
    (em_NoSet_MakesError : PySem.W.exmOne K (.ref x_NoSet) (.ref x_MakesError) = some true)
    (ki_NoGroup_NoSet : PySem.W.kitOne K (.ref x_NoGroup) (.ref x_NoSet) = some false)
    (ki_NoGroup_NoGroup : PySem.W.kitOne K (.ref x_NoGroup) (.ref x_NoGroup) = some true)
    (ki_NoGroup_NoWish : PySem.W.kitOne K (.ref x_NoGroup) (.ref x_NoWish) = some false)
    (ki_NoGroup_TooMany : PySem.W.kitOne K (.ref x_NoGroup) (.ref x_TooMany) = some false)
    (ki_NoGroup_ValueError : PySem.W.kitOne K (.ref x_NoGroup) (.type "ValueError") = some true)
    (ki_NoSet_NoSet : PySem.W.kitOne K (.ref x_NoSet) (.ref x_NoSet) = some true)
    (ki_NoSet_NoGroup : PySem.W.kitOne K (.ref x_NoSet) (.ref x_NoGroup) = some false)
    (ki_NoSet_NoWish : PySem.W.kitOne K (.ref x_NoSet) (.ref x_NoWish) = some false)
    (ki_NoSet_TooMany : PySem.W.kitOne K (.ref x_NoSet) (.ref x_TooMany) = some false)
    (ki_NoSet_ValueError : PySem.W.kitOne K (.ref x_NoSet) (.type "ValueError") = some true)
    (z_len : PySem.W.nsIn K mainGlobals "len" = some none)
    (z_range : PySem.W.nsIn K mainGlobals "range" = some none)
    (z_int : PySem.W.nsIn K mainGlobals "int" = some none)
    (z_bool : PySem.W.nsIn K mainGlobals "bool" = some none)
    (z_str : PySem.W.nsIn K mainGlobals "str" = some none)
    (z_reversed : PySem.W.nsIn K mainGlobals "reversed" = some none)
    (z_enumerate : PySem.W.nsIn K mainGlobals "enumerate" = some none)
    (z_isinstance : PySem.W.nsIn K mainGlobals "isinstance" = some none)
    (z_ValueError : PySem.W.nsIn K mainGlobals "ValueError" = some none)
    :
    ∃ fd : FuncData, (∀ (s : Shared) (v : Value), BindsTo s fd ⟨[v], []⟩ [("_law_script", v)]) ∧ ∀ base : Heap, K.In base → base.Ns mainGlobals mg → FnOk l.prog w K mg base CX0 20 fa fd ["_law_script"] (spLaw K) := by
  have e := hfa.symm.trans (PySem.W.mg_of X G a_law)
  cases e
  have F_every := fun_mk (st := st_every) l_every c_every' k_every
  have F_switch_mask := fun_mk (st := st_switch_mask) l_switch_mask c_switch_mask' k_switch_mask
  have F_is_whole := fun_mk (st := st_is_whole) l_is_whole c_is_whole' k_is_whole
  have F_is_mask := fun_mk (st := st_is_mask) l_is_mask c_is_mask' k_is_mask
  have F_has := fun_mk (st := st_has) l_has c_has' k_has
  have F_settings := fun_mk (st := st_settings) l_settings c_settings' k_settings
  have F_read_wish := fun_mk (st := st_read_wish) l_read_wish c_read_wish' k_read_wish
  have F_mask_of_text := fun_mk (st := st_mask_of_text) l_mask_of_text c_mask_of_text' k_mask_of_text
  have F_reckoned := fun_mk (st := st_reckoned) l_reckoned c_reckoned' k_reckoned
  have F_taken := fun_mk (st := st_taken) l_taken c_taken' k_taken
  have F_value_of := fun_mk (st := st_value_of) l_value_of c_value_of' k_value_of
  have F_put_together := fun_mk (st := st_put_together) l_put_together c_put_together' k_put_together
  have F_read_rows := fun_mk (st := st_read_rows) l_read_rows c_read_rows' k_read_rows
  have F_read_words := fun_mk (st := st_read_words) l_read_words c_read_words' k_read_words
  have F_words_of := fun_mk (st := st_words_of) l_words_of c_words_of' k_words_of
  have F_group_mask := fun_mk (st := st_group_mask) l_group_mask c_group_mask' k_group_mask
  have F_in_group := fun_mk (st := st_in_group) l_in_group c_in_group' k_in_group
  have F_cut_row := fun_mk (st := st_cut_row) l_cut_row c_cut_row' k_cut_row
  have F_cut_rows := fun_mk (st := st_cut_rows) l_cut_rows c_cut_rows' k_cut_rows
  have F_tidied := fun_mk (st := st_tidied) l_tidied c_tidied' k_tidied
  have F_ask_rule := fun_mk (st := st_ask_rule) l_ask_rule c_ask_rule' k_ask_rule
  have F_tidied_row := fun_mk (st := st_tidied_row) l_tidied_row c_tidied_row' k_tidied_row
  have F_come_together := fun_mk (st := st_come_together) l_come_together c_come_together' k_come_together
  have F_parted := fun_mk (st := st_parted) l_parted c_parted' k_parted
  have F_law_cell_at := fun_mk (st := st_law_cell_at) l_law_cell_at c_law_cell_at' k_law_cell_at
  have F_law_mixed := fun_mk (st := st_law_mixed) l_law_mixed c_law_mixed' k_law_mixed
  have F_law_bad_row := fun_mk (st := st_law_bad_row) l_law_bad_row c_law_bad_row' k_law_bad_row
  have F_law_text := fun_mk (st := st_law_text) l_law_text c_law_text' k_law_text
  have F_law_rule := fun_mk (st := st_law_rule) l_law_rule c_law_rule' k_law_rule
  have F_law_told := fun_mk (st := st_law_told) l_law_told c_law_told' k_law_told
  have F_law_due := fun_mk (st := st_law_due) l_law_due c_law_due' k_law_due
  have F_NoGroup_init := fun_mk (st := st_NoGroup_init) l_NoGroup_init c_NoGroup_init' k_NoGroup_init
  have F_law := fun_mk (st := st_law) l_law c_law' k_law
  have b_every := F_every.binds (ps := ["n"]) fun _ _ _ _ _ _ us hl => by obtain ⟨_, rfl⟩ := len1 hl; rfl
  have b_switch_mask := F_switch_mask.binds (ps := ["k", "n"]) fun _ _ _ _ _ _ us hl => by obtain ⟨_, _, rfl⟩ := len2 hl; rfl
  have b_is_whole := F_is_whole.binds (ps := ["value"]) fun _ _ _ _ _ _ us hl => by obtain ⟨_, rfl⟩ := len1 hl; rfl
  have b_is_mask := F_is_mask.binds (ps := ["value", "n"]) fun _ _ _ _ _ _ us hl => by obtain ⟨_, _, rfl⟩ := len2 hl; rfl
  have b_has := F_has.binds (ps := ["mask", "s"]) fun _ _ _ _ _ _ us hl => by obtain ⟨_, _, rfl⟩ := len2 hl; rfl
  have b_settings := F_settings.binds (ps := ["mask"]) fun _ _ _ _ _ _ us hl => by obtain ⟨_, rfl⟩ := len1 hl; rfl
  have b_read_wish := F_read_wish.binds (ps := ["text", "n"]) fun _ _ _ _ _ _ us hl => by obtain ⟨_, _, rfl⟩ := len2 hl; rfl
  have b_mask_of_text := F_mask_of_text.binds (ps := ["text", "n"]) fun _ _ _ _ _ _ us hl => by obtain ⟨_, _, rfl⟩ := len2 hl; rfl
  have b_reckoned := F_reckoned.binds (ps := ["text", "switches", "full"]) fun _ _ _ _ _ _ us hl => by obtain ⟨_, _, _, rfl⟩ := len3 hl; rfl
  have b_taken := F_taken.binds (ps := ["found", "many"]) fun _ _ _ _ _ _ us hl => by obtain ⟨_, _, rfl⟩ := len2 hl; rfl
  have b_value_of := F_value_of.binds (ps := ["sign", "switches", "full"]) fun _ _ _ _ _ _ us hl => by obtain ⟨_, _, _, rfl⟩ := len3 hl; rfl
  have b_put_together := F_put_together.binds (ps := ["sign", "parts", "full"]) fun _ _ _ _ _ _ us hl => by obtain ⟨_, _, _, rfl⟩ := len3 hl; rfl
  have b_read_rows := F_read_rows.binds (ps := ["text", "n"]) fun _ _ _ _ _ _ us hl => by obtain ⟨_, _, rfl⟩ := len2 hl; rfl
  have b_read_words := F_read_words.binds (ps := ["row", "n", "at"]) fun _ _ _ _ _ _ us hl => by obtain ⟨_, _, _, rfl⟩ := len3 hl; rfl
  have b_words_of := F_words_of.binds (ps := ["row"]) fun _ _ _ _ _ _ us hl => by obtain ⟨_, rfl⟩ := len1 hl; rfl
  have b_group_mask := F_group_mask.binds (ps := ["word", "n", "at"]) fun _ _ _ _ _ _ us hl => by obtain ⟨_, _, _, rfl⟩ := len3 hl; rfl
  have b_in_group := F_in_group.binds (ps := ["row", "mask", "n"]) fun _ _ _ _ _ _ us hl => by obtain ⟨_, _, _, rfl⟩ := len3 hl; rfl
  have b_cut_row := F_cut_row.binds (ps := ["row", "s"]) fun _ _ _ _ _ _ us hl => by obtain ⟨_, _, rfl⟩ := len2 hl; rfl
  have b_cut_rows := F_cut_rows.binds (ps := ["rows", "s"]) fun _ _ _ _ _ _ us hl => by obtain ⟨_, _, rfl⟩ := len2 hl; rfl
  have b_tidied := F_tidied.binds (ps := ["text", "n", "rule"]) fun _ _ _ _ _ _ us hl => by obtain ⟨_, _, _, rfl⟩ := len3 hl; rfl
  have b_ask_rule := F_ask_rule.binds (ps := ["rule", "n"]) fun _ _ _ _ _ _ us hl => by obtain ⟨_, _, rfl⟩ := len2 hl; rfl
  have b_tidied_row := F_tidied_row.binds (ps := ["row", "n", "rule"]) fun _ _ _ _ _ _ us hl => by obtain ⟨_, _, _, rfl⟩ := len3 hl; rfl
  have b_come_together := F_come_together.binds (ps := ["row", "rule"]) fun _ _ _ _ _ _ us hl => by obtain ⟨_, _, rfl⟩ := len2 hl; rfl
  have b_parted := F_parted.binds (ps := ["one", "other", "n", "rule"]) fun _ _ _ _ _ _ us hl => by obtain ⟨_, _, _, _, rfl⟩ := len4 hl; rfl
  have b_law_cell_at := F_law_cell_at.binds (ps := ["_law_script", "_law_k"]) fun _ _ _ _ _ _ us hl => by obtain ⟨_, _, rfl⟩ := len2 hl; rfl
  have b_law_mixed := F_law_mixed.binds (ps := ["_law_cell", "_law_k"]) fun _ _ _ _ _ _ us hl => by obtain ⟨_, _, rfl⟩ := len2 hl; rfl
  have b_law_bad_row := F_law_bad_row.binds (ps := ["_law_number", "_law_n"]) fun _ _ _ _ _ _ us hl => by obtain ⟨_, _, rfl⟩ := len2 hl; rfl
  have b_law_text := F_law_text.binds (ps := ["_law_cell", "_law_n"]) fun _ _ _ _ _ _ us hl => by obtain ⟨_, _, rfl⟩ := len2 hl; rfl
  have b_law_rule := F_law_rule.binds (ps := ["_law_cell", "_law_n"]) fun _ _ _ _ _ _ us hl => by obtain ⟨_, _, rfl⟩ := len2 hl; rfl
  have b_law_told := F_law_told.binds (ps := ["_law_one", "_law_other", "_law_n", "_law_rule_here"]) fun _ _ _ _ _ _ us hl => by obtain ⟨_, _, _, _, rfl⟩ := len4 hl; rfl
  have b_law_due := F_law_due.binds (ps := ["_law_at", "_law_other"]) fun _ _ _ _ _ _ us hl => by obtain ⟨_, _, rfl⟩ := len2 hl; rfl
  have b_NoGroup_init := F_NoGroup_init.binds (ps := ["self", "at"]) fun _ _ _ _ _ _ us hl => by obtain ⟨_, _, rfl⟩ := len2 hl; rfl
  have T : All l.prog w K mg ⟨f_every, f_switch_mask, f_is_whole, f_is_mask, f_has, f_settings, f_read_wish, f_mask_of_text, f_reckoned, f_taken, f_value_of, f_put_together, f_read_rows, f_read_words, f_words_of, f_group_mask, f_in_group, f_cut_row, f_cut_rows, f_tidied, f_ask_rule, f_tidied_row, f_come_together, f_parted, f_law_cell_at, f_law_mixed, f_law_bad_row, f_law_text, f_law_rule, f_law_told, f_law_due, f_NoGroup_init, d_NEEDS, x_MakesError, x_NoWish, x_NoSet, x_TooMany, x_NoGroup⟩ ⟨_, _, _, _, _, _, _, _, _, _, _, _, _, _, _, _, _, _, _, _, _, _, _, _, _, _, _, _, _, _, _, _⟩ := {
    m_every := PySem.W.mg_of X G a_every
    k_every := k_every
    F_every := F_every
    b_every := b_every
    m_switch_mask := PySem.W.mg_of X G a_switch_mask
    k_switch_mask := k_switch_mask
    F_switch_mask := F_switch_mask
    b_switch_mask := b_switch_mask
    m_is_whole := PySem.W.mg_of X G a_is_whole
    k_is_whole := k_is_whole
    F_is_whole := F_is_whole
    b_is_whole := b_is_whole
    m_is_mask := PySem.W.mg_of X G a_is_mask
    k_is_mask := k_is_mask
    F_is_mask := F_is_mask
    b_is_mask := b_is_mask
    m_has := PySem.W.mg_of X G a_has
    k_has := k_has
    F_has := F_has
    b_has := b_has
    m_settings := PySem.W.mg_of X G a_settings
    k_settings := k_settings
    F_settings := F_settings
    b_settings := b_settings
    m_read_wish := PySem.W.mg_of X G a_read_wish
    k_read_wish := k_read_wish
    F_read_wish := F_read_wish
    b_read_wish := b_read_wish
    m_mask_of_text := PySem.W.mg_of X G a_mask_of_text
    k_mask_of_text := k_mask_of_text
    F_mask_of_text := F_mask_of_text
    b_mask_of_text := b_mask_of_text
    m_reckoned := PySem.W.mg_of X G a_reckoned
    k_reckoned := k_reckoned
    F_reckoned := F_reckoned
    b_reckoned := b_reckoned
    m_taken := PySem.W.mg_of X G a_taken
    k_taken := k_taken
    F_taken := F_taken
    b_taken := b_taken
    m_value_of := PySem.W.mg_of X G a_value_of
    k_value_of := k_value_of
    F_value_of := F_value_of
    b_value_of := b_value_of
    m_put_together := PySem.W.mg_of X G a_put_together
    k_put_together := k_put_together
    F_put_together := F_put_together
    b_put_together := b_put_together
    m_read_rows := PySem.W.mg_of X G a_read_rows
    k_read_rows := k_read_rows
    F_read_rows := F_read_rows
    b_read_rows := b_read_rows
    m_read_words := PySem.W.mg_of X G a_read_words
    k_read_words := k_read_words
    F_read_words := F_read_words
    b_read_words := b_read_words
    m_words_of := PySem.W.mg_of X G a_words_of
    k_words_of := k_words_of
    F_words_of := F_words_of
    b_words_of := b_words_of
    m_group_mask := PySem.W.mg_of X G a_group_mask
    k_group_mask := k_group_mask
    F_group_mask := F_group_mask
    b_group_mask := b_group_mask
    m_in_group := PySem.W.mg_of X G a_in_group
    k_in_group := k_in_group
    F_in_group := F_in_group
    b_in_group := b_in_group
    m_cut_row := PySem.W.mg_of X G a_cut_row
    k_cut_row := k_cut_row
    F_cut_row := F_cut_row
    b_cut_row := b_cut_row
    m_cut_rows := PySem.W.mg_of X G a_cut_rows
    k_cut_rows := k_cut_rows
    F_cut_rows := F_cut_rows
    b_cut_rows := b_cut_rows
    m_tidied := PySem.W.mg_of X G a_tidied
    k_tidied := k_tidied
    F_tidied := F_tidied
    b_tidied := b_tidied
    m_ask_rule := PySem.W.mg_of X G a_ask_rule
    k_ask_rule := k_ask_rule
    F_ask_rule := F_ask_rule
    b_ask_rule := b_ask_rule
    m_tidied_row := PySem.W.mg_of X G a_tidied_row
    k_tidied_row := k_tidied_row
    F_tidied_row := F_tidied_row
    b_tidied_row := b_tidied_row
    m_come_together := PySem.W.mg_of X G a_come_together
    k_come_together := k_come_together
    F_come_together := F_come_together
    b_come_together := b_come_together
    m_parted := PySem.W.mg_of X G a_parted
    k_parted := k_parted
    F_parted := F_parted
    b_parted := b_parted
    m_law_cell_at := PySem.W.mg_of X G a_law_cell_at
    k_law_cell_at := k_law_cell_at
    F_law_cell_at := F_law_cell_at
    b_law_cell_at := b_law_cell_at
    m_law_mixed := PySem.W.mg_of X G a_law_mixed
    k_law_mixed := k_law_mixed
    F_law_mixed := F_law_mixed
    b_law_mixed := b_law_mixed
    m_law_bad_row := PySem.W.mg_of X G a_law_bad_row
    k_law_bad_row := k_law_bad_row
    F_law_bad_row := F_law_bad_row
    b_law_bad_row := b_law_bad_row
    m_law_text := PySem.W.mg_of X G a_law_text
    k_law_text := k_law_text
    F_law_text := F_law_text
    b_law_text := b_law_text
    m_law_rule := PySem.W.mg_of X G a_law_rule
    k_law_rule := k_law_rule
    F_law_rule := F_law_rule
    b_law_rule := b_law_rule
    m_law_told := PySem.W.mg_of X G a_law_told
    k_law_told := k_law_told
    F_law_told := F_law_told
    b_law_told := b_law_told
    m_law_due := PySem.W.mg_of X G a_law_due
    k_law_due := k_law_due
    F_law_due := F_law_due
    b_law_due := b_law_due
    M_NoGroup := ⟨mi_NoGroup, i_NoGroup_init⟩
    ic_NoGroup := ⟨po_NoGroup, sa_NoGroup, hd_NoGroup⟩
    na_NoGroup_at := na_NoGroup_at
    k_NoGroup_init := k_NoGroup_init
    F_NoGroup_init := F_NoGroup_init
    b_NoGroup_init := b_NoGroup_init
    v_LETTERS := ⟨_, PySem.W.mg_of X G v_LETTERS⟩
    v_DEEPEST_GROUP := ⟨_, PySem.W.mg_of X G v_DEEPEST_GROUP⟩
    m_NEEDS := PySem.W.mg_of X G a_NEEDS
    D_NEEDS := by
      subst e_NEEDS_0 e_NEEDS_1 e_NEEDS_2 e_NEEDS_3 e_NEEDS_4
      exact kdict_mk (es := [("!", t_NEEDS_0, 1, u_NEEDS_0), ("&", t_NEEDS_1, 2, u_NEEDS_1), ("|", t_NEEDS_2, 2, u_NEEDS_2), ("^", t_NEEDS_3, 2, u_NEEDS_3), ("?", t_NEEDS_4, 3, u_NEEDS_4)]) s_NEEDS l_NEEDS (show (["!", "&", "|", "^", "?"] : List Str).Nodup by decide +kernel)
    m_MakesError := PySem.W.mg_of X G ax_MakesError
    xc_MakesError := ⟨pg_MakesError, pk_MakesError, pb_MakesError, t1_MakesError, t2_MakesError, t3_MakesError, t4_MakesError⟩
    m_NoWish := PySem.W.mg_of X G ax_NoWish
    xc_NoWish := ⟨pg_NoWish, pk_NoWish, pb_NoWish, t1_NoWish, t2_NoWish, t3_NoWish, t4_NoWish⟩
    x_NoWish := ex_NoWish
    m_NoSet := PySem.W.mg_of X G ax_NoSet
    xc_NoSet := ⟨pg_NoSet, pk_NoSet, pb_NoSet, t1_NoSet, t2_NoSet, t3_NoSet, t4_NoSet⟩
    x_NoSet := ex_NoSet
    m_TooMany := PySem.W.mg_of X G ax_TooMany
    xc_TooMany := ⟨pg_TooMany, pk_TooMany, pb_TooMany, t1_TooMany, t2_TooMany, t3_TooMany, t4_TooMany⟩
    m_NoGroup := PySem.W.mg_of X G ax_NoGroup
    xc_NoGroup := ⟨pg_NoGroup, pk_NoGroup, pb_NoGroup, t1_NoGroup, t2_NoGroup, t3_NoGroup, t4_NoGroup⟩
    em_NoWish_NoWish := em_NoWish_NoWish
    em_NoGroup_MakesError := em_NoGroup_MakesError
    em_NoSet_MakesError := em_NoSet_MakesError
    ki_NoGroup_NoSet := ki_NoGroup_NoSet
    ki_NoGroup_NoGroup := ki_NoGroup_NoGroup
    ki_NoGroup_NoWish := ki_NoGroup_NoWish
    ki_NoGroup_TooMany := ki_NoGroup_TooMany
    ki_NoGroup_ValueError := ki_NoGroup_ValueError
    ki_NoSet_NoSet := ki_NoSet_NoSet
    ki_NoSet_NoGroup := ki_NoSet_NoGroup
    ki_NoSet_NoWish := ki_NoSet_NoWish
    ki_NoSet_TooMany := ki_NoSet_TooMany
    ki_NoSet_ValueError := ki_NoSet_ValueError
    n_len := PySem.W.mg_none_of X G z_len
    n_range := PySem.W.mg_none_of X G z_range
    n_int := PySem.W.mg_none_of X G z_int
    n_bool := PySem.W.mg_none_of X G z_bool
    n_str := PySem.W.mg_none_of X G z_str
    n_reversed := PySem.W.mg_none_of X G z_reversed
    n_enumerate := PySem.W.mg_none_of X G z_enumerate
    n_isinstance := PySem.W.mg_none_of X G z_isinstance
    n_ValueError := PySem.W.mg_none_of X G z_ValueError
  }
  exact ⟨PySem.W.fnOf "law" "law" (defArgs st_law) (defBody st_law) (defScope st_law) .none kV_law dc_law pm_law an_law cd_law ct_law, fun s v => .of_eq rfl, fun base _ _ => ok_law T F_law⟩
theorem walk {l : PySem.W.OpenLaw} {q : Program} {loose : List Str} {XP : (Str → Option Value) → Heap → Prop} {YP : World → Heap → Prop} {d : DefRec} {K : Params → PySem.W.Frag} (hn : l.most = some 63) (hdf : d.params.defaults = [])
    (hY : ∀ (w : World) (h : Heap), YP w h → (K w.params).In h)
    (F : ∀ (w : World) (mg : Str → Option Value) (fa : Addr) (h : Heap), (K w.params).In h → h.Ns mainGlobals mg → mg d.name = some (.ref fa) →
      ∃ fd : FuncData, (∀ (s : Shared) (u : Value), BindsTo s fd ⟨[u], []⟩ [("_law_script", u)]) ∧ ∀ base : Heap, (K w.params).In base → base.Ns mainGlobals mg → FnOk l.prog w (K w.params) mg base CX0 20 fa fd ["_law_script"] (spLaw (K w.params))) :
    PySem.W.WalkO q loose XP YP l.row.toRowW d [] (fun f vs => PySem.call f vs) :=
  L2.walk_of (n := 63) (k := 20) (x := "_law_script") (CX := fun _ => CX0) (sp := fun w => spLaw (K w.params)) hn (by decide) hdf ⟨rfl, by decide, by decide⟩ hY F (fun _ _ a ns hl _ hS => ⟨a, ns, rfl, hS, hl, fun _ => rfl⟩) fun _ _ _ _ _ z => z
end K75
open PySem PySem.W PyProof.Rows
set_option maxRecDepth 100000 in
set_option maxHeartbeats 0 in
theorem PySem.Challenge.cw_manymakes_k75_tidying_refused_holds : PySem.Challenge.rw_manymakes_k75_tidying_refused.Holds := by
  w_on; o_law; k_head; (case hw => w_witness2)
  k_fill
  refine K75.walk (l := PySem.Challenge.rw_manymakes_k75_tidying_refused) rfl rfl (fun w h Y => PySem.W.kIn_of Y) ?F
  case F =>
    intro w mg fa h KX G hmg
    refine' K75.all_mk KX G hmg ?a_every ?l_every ?c_every' ?k_every ?a_switch_mask ?l_switch_mask ?c_switch_mask' ?k_switch_mask ?a_is_whole ?l_is_whole ?c_is_whole' ?k_is_whole ?a_is_mask ?l_is_mask ?c_is_mask' ?k_is_mask ?a_has ?l_has ?c_has' ?k_has ?a_settings ?l_settings ?c_settings' ?k_settings ?a_read_wish ?l_read_wish ?c_read_wish' ?k_read_wish ?a_mask_of_text ?l_mask_of_text ?c_mask_of_text' ?k_mask_of_text ?a_reckoned ?l_reckoned ?c_reckoned' ?k_reckoned ?a_taken ?l_taken ?c_taken' ?k_taken ?a_value_of ?l_value_of ?c_value_of' ?k_value_of ?a_put_together ?l_put_together ?c_put_together' ?k_put_together ?a_read_rows ?l_read_rows ?c_read_rows' ?k_read_rows ?a_read_words ?l_read_words ?c_read_words' ?k_read_words ?a_words_of ?l_words_of ?c_words_of' ?k_words_of ?a_group_mask ?l_group_mask ?c_group_mask' ?k_group_mask ?a_in_group ?l_in_group ?c_in_group' ?k_in_group ?a_cut_row ?l_cut_row ?c_cut_row' ?k_cut_row ?a_cut_rows ?l_cut_rows ?c_cut_rows' ?k_cut_rows ?a_tidied ?l_tidied ?c_tidied' ?k_tidied ?a_ask_rule ?l_ask_rule ?c_ask_rule' ?k_ask_rule ?a_tidied_row ?l_tidied_row ?c_tidied_row' ?k_tidied_row ?a_come_together ?l_come_together ?c_come_together' ?k_come_together ?a_parted ?l_parted ?c_parted' ?k_parted ?a_law_cell_at ?l_law_cell_at ?c_law_cell_at' ?k_law_cell_at ?a_law_mixed ?l_law_mixed ?c_law_mixed' ?k_law_mixed ?a_law_bad_row ?l_law_bad_row ?c_law_bad_row' ?k_law_bad_row ?a_law_text ?l_law_text ?c_law_text' ?k_law_text ?a_law_rule ?l_law_rule ?c_law_rule' ?k_law_rule ?a_law_told ?l_law_told ?c_law_told' ?k_law_told ?a_law_due ?l_law_due ?c_law_due' ?k_law_due ?a_law ?l_law ?c_law' ?k_law ?v_LETTERS ?v_DEEPEST_GROUP ?a_NEEDS ?l_NEEDS ?s_NEEDS ?e_NEEDS_0 ?e_NEEDS_1 ?e_NEEDS_2 ?e_NEEDS_3 ?e_NEEDS_4 ?ax_MakesError ?pg_MakesError ?pk_MakesError ?pb_MakesError ?t1_MakesError ?t2_MakesError ?t3_MakesError ?t4_MakesError ?ax_NoWish ?pg_NoWish ?pk_NoWish ?pb_NoWish ?t1_NoWish ?t2_NoWish ?t3_NoWish ?t4_NoWish ?ex_NoWish ?ax_NoSet ?pg_NoSet ?pk_NoSet ?pb_NoSet ?t1_NoSet ?t2_NoSet ?t3_NoSet ?t4_NoSet ?ex_NoSet ?ax_TooMany ?pg_TooMany ?pk_TooMany ?pb_TooMany ?t1_TooMany ?t2_TooMany ?t3_TooMany ?t4_TooMany ?ax_NoGroup ?pg_NoGroup ?pk_NoGroup ?pb_NoGroup ?t1_NoGroup ?t2_NoGroup ?t3_NoGroup ?t4_NoGroup ?a_NoGroup_init ?i_NoGroup_init ?l_NoGroup_init ?c_NoGroup_init' ?k_NoGroup_init ?mi_NoGroup ?po_NoGroup ?sa_NoGroup ?hd_NoGroup ?na_NoGroup_at ?em_NoWish_NoWish ?em_NoGroup_MakesError ?em_NoSet_MakesError ?ki_NoGroup_NoSet ?ki_NoGroup_NoGroup ?ki_NoGroup_NoWish ?ki_NoGroup_TooMany ?ki_NoGroup_ValueError ?ki_NoSet_NoSet ?ki_NoSet_NoGroup ?ki_NoSet_NoWish ?ki_NoSet_TooMany ?ki_NoSet_ValueError ?z_len ?z_range ?z_int ?z_bool ?z_str ?z_reversed ?z_enumerate ?z_isinstance ?z_ValueError
    (case a_every => k_is)
    (case l_every => k_is)
    (case c_every' => k_is)
    (case k_every => k_is)
    (case a_switch_mask => k_is)
    (case l_switch_mask => k_is)
    (case c_switch_mask' => k_is)
    (case k_switch_mask => k_is)
    (case a_is_whole => k_is)
    (case l_is_whole => k_is)
    (case c_is_whole' => k_is)
    (case k_is_whole => k_is)
    (case a_is_mask => k_is)
    (case l_is_mask => k_is)
    (case c_is_mask' => k_is)
    (case k_is_mask => k_is)
    (case a_has => k_is)
    (case l_has => k_is)
    (case c_has' => k_is)
    (case k_has => k_is)
    (case a_settings => k_is)
    (case l_settings => k_is)
    (case c_settings' => k_is)
    (case k_settings => k_is)
    (case a_read_wish => k_is)
    (case l_read_wish => k_is)
    (case c_read_wish' => k_is)
    (case k_read_wish => k_is)
    (case a_mask_of_text => k_is)
    (case l_mask_of_text => k_is)
    (case c_mask_of_text' => k_is)
    (case k_mask_of_text => k_is)
    (case a_reckoned => k_is)
    (case l_reckoned => k_is)
    (case c_reckoned' => k_is)
    (case k_reckoned => k_is)
    (case a_taken => k_is)
    (case l_taken => k_is)
    (case c_taken' => k_is)
    (case k_taken => k_is)
    (case a_value_of => k_is)
    (case l_value_of => k_is)
    (case c_value_of' => k_is)
    (case k_value_of => k_is)
    (case a_put_together => k_is)
    (case l_put_together => k_is)
    (case c_put_together' => k_is)
    (case k_put_together => k_is)
    (case a_read_rows => k_is)
    (case l_read_rows => k_is)
    (case c_read_rows' => k_is)
    (case k_read_rows => k_is)
    (case a_read_words => k_is)
    (case l_read_words => k_is)
    (case c_read_words' => k_is)
    (case k_read_words => k_is)
    (case a_words_of => k_is)
    (case l_words_of => k_is)
    (case c_words_of' => k_is)
    (case k_words_of => k_is)
    (case a_group_mask => k_is)
    (case l_group_mask => k_is)
    (case c_group_mask' => k_is)
    (case k_group_mask => k_is)
    (case a_in_group => k_is)
    (case l_in_group => k_is)
    (case c_in_group' => k_is)
    (case k_in_group => k_is)
    (case a_cut_row => k_is)
    (case l_cut_row => k_is)
    (case c_cut_row' => k_is)
    (case k_cut_row => k_is)
    (case a_cut_rows => k_is)
    (case l_cut_rows => k_is)
    (case c_cut_rows' => k_is)
    (case k_cut_rows => k_is)
    (case a_tidied => k_is)
    (case l_tidied => k_is)
    (case c_tidied' => k_is)
    (case k_tidied => k_is)
    (case a_ask_rule => k_is)
    (case l_ask_rule => k_is)
    (case c_ask_rule' => k_is)
    (case k_ask_rule => k_is)
    (case a_tidied_row => k_is)
    (case l_tidied_row => k_is)
    (case c_tidied_row' => k_is)
    (case k_tidied_row => k_is)
    (case a_come_together => k_is)
    (case l_come_together => k_is)
    (case c_come_together' => k_is)
    (case k_come_together => k_is)
    (case a_parted => k_is)
    (case l_parted => k_is)
    (case c_parted' => k_is)
    (case k_parted => k_is)
    (case a_law_cell_at => k_is)
    (case l_law_cell_at => k_is)
    (case c_law_cell_at' => k_is)
    (case k_law_cell_at => k_is)
    (case a_law_mixed => k_is)
    (case l_law_mixed => k_is)
    (case c_law_mixed' => k_is)
    (case k_law_mixed => k_is)
    (case a_law_bad_row => k_is)
    (case l_law_bad_row => k_is)
    (case c_law_bad_row' => k_is)
    (case k_law_bad_row => k_is)
    (case a_law_text => k_is)
    (case l_law_text => k_is)
    (case c_law_text' => k_is)
    (case k_law_text => k_is)
    (case a_law_rule => k_is)
    (case l_law_rule => k_is)
    (case c_law_rule' => k_is)
    (case k_law_rule => k_is)
    (case a_law_told => k_is)
    (case l_law_told => k_is)
    (case c_law_told' => k_is)
    (case k_law_told => k_is)
    (case a_law_due => k_is)
    (case l_law_due => k_is)
    (case c_law_due' => k_is)
    (case k_law_due => k_is)
    (case a_law => k_is)
    (case l_law => k_is)
    (case c_law' => k_is)
    (case k_law => k_is)
    (case v_LETTERS => k_is)
    (case v_DEEPEST_GROUP => k_is)
    (case a_NEEDS => k_is)
    (case l_NEEDS => k_is)
    (case s_NEEDS => first | rfl | decide | k_is)
    (case e_NEEDS_0 => first | rfl | decide | k_is)
    (case e_NEEDS_1 => first | rfl | decide | k_is)
    (case e_NEEDS_2 => first | rfl | decide | k_is)
    (case e_NEEDS_3 => first | rfl | decide | k_is)
    (case e_NEEDS_4 => first | rfl | decide | k_is)
    (case ax_MakesError => k_is)
    (case pg_MakesError => k_is)
    (case pk_MakesError => k_is)
    (case pb_MakesError => k_is)
    (case t1_MakesError => k_is)
    (case t2_MakesError => k_is)
    (case t3_MakesError => k_is)
    (case t4_MakesError => k_is)
    (case ax_NoWish => k_is)
    (case pg_NoWish => k_is)
    (case pk_NoWish => k_is)
    (case pb_NoWish => k_is)
    (case t1_NoWish => k_is)
    (case t2_NoWish => k_is)
    (case t3_NoWish => k_is)
    (case t4_NoWish => k_is)
    (case ex_NoWish => k_exc)
    (case ax_NoSet => k_is)
    (case pg_NoSet => k_is)
    (case pk_NoSet => k_is)
    (case pb_NoSet => k_is)
    (case t1_NoSet => k_is)
    (case t2_NoSet => k_is)
    (case t3_NoSet => k_is)
    (case t4_NoSet => k_is)
    (case ex_NoSet => k_exc)
    (case ax_TooMany => k_is)
    (case pg_TooMany => k_is)
    (case pk_TooMany => k_is)
    (case pb_TooMany => k_is)
    (case t1_TooMany => k_is)
    (case t2_TooMany => k_is)
    (case t3_TooMany => k_is)
    (case t4_TooMany => k_is)
    (case ax_NoGroup => k_is)
    (case pg_NoGroup => k_is)
    (case pk_NoGroup => k_is)
    (case pb_NoGroup => k_is)
    (case t1_NoGroup => k_is)
    (case t2_NoGroup => k_is)
    (case t3_NoGroup => k_is)
    (case t4_NoGroup => k_is)
    (case a_NoGroup_init => k_is)
    (case i_NoGroup_init => k_is)
    (case l_NoGroup_init => k_is)
    (case c_NoGroup_init' => k_is)
    (case k_NoGroup_init => k_is)
    (case mi_NoGroup => kernel_rfl)
    (case po_NoGroup => kernel_rfl)
    (case sa_NoGroup => k_is)
    (case hd_NoGroup => k_is)
    (case na_NoGroup_at => k_is)
    (case em_NoWish_NoWish => kts_exm)
    (case em_NoGroup_MakesError => kts_exm)
    (case em_NoSet_MakesError => kts_exm)
    (case ki_NoGroup_NoSet => kit_is)
    (case ki_NoGroup_NoGroup => kit_is)
    (case ki_NoGroup_NoWish => kit_is)
    (case ki_NoGroup_TooMany => kit_is)
    (case ki_NoGroup_ValueError => kit_is)
    (case ki_NoSet_NoSet => kit_is)
    (case ki_NoSet_NoGroup => kit_is)
    (case ki_NoSet_NoWish => kit_is)
    (case ki_NoSet_TooMany => kit_is)
    (case ki_NoSet_ValueError => kit_is)
    (case z_len => k_is)
    (case z_range => k_is)
    (case z_int => k_is)
    (case z_bool => k_is)
    (case z_str => k_is)
    (case z_reversed => k_is)
    (case z_enumerate => k_is)
    (case z_isinstance => k_is)
    (case z_ValueError => k_is)

