import PyProof.Rows.All
import Wide.All
import OpenK.AllK
import Wide.FinOn
import Lean
import PyProof.EqAt
import PyProof.EqKinds
import PyProof.TupleCall
import PyProof.Rows.BitMore
import KE.IntBitsLaws
import KE.KLam
import KE.KNestM
import KE.KRevIter
import KE.KTryMore
import PyProof.StrLawsRepr
import KE.KIsAll
import KE.RegKIsAll
import KE.RegKTryMore
import PyProof.StrCalls2
import PyProof.StrLawsTight
import PyProof.StrLawsChain
import PyProof.Rows.StrItems
import PyProof.Rows.StrWeight2
import PyProof.EnumMake
import PyProof.EnumStmt
import PyProof.Rows.EnumRows
import PyProof.Rows.EqDataRows
import PyProof.P3Eq
import KE.KRevSl
import PyProof.StrBlock2
import PyProof.Rows.SortRev
import KE.KPairComp
import PyProof.SumWalk
import PyProof.Rows.InDataRows
import PySem.Challenge.RW_manymakes_k53_mapped_and_paired
/-! the text's own head: read at once -/
set_option Elab.async false
set_option maxRecDepth 100000
def K53.tq (i : Nat) : PySem.Stmt := PySem.Challenge.pw_manymakes_k53_mapped_and_paired.main.body.getD i (PySem.Stmt.Pass ⟨0, 0, 0, 0⟩)
noncomputable def K53.vw : PySem.Program := { PySem.Challenge.pw_manymakes_k53_mapped_and_paired with main := { PySem.Challenge.pw_manymakes_k53_mapped_and_paired.main with body := [K53.tq 1, K53.tq 2, K53.tq 3, K53.tq 5, K53.tq 6, K53.tq 7, K53.tq 8, K53.tq 10, K53.tq 11, K53.tq 12, K53.tq 13, K53.tq 14, K53.tq 15, K53.tq 16] } }
section
open PySem PySem.W PyProof.Rows
theorem Mm.keepIt (_ : Hook) {p : Prop} (h : p) : p := h
section
local macro_rules | `(tactic| o_head $H) => `(tactic| exact Mm.keepIt $H (by assumption))
set_option maxHeartbeats 0 in
theorem K53.pre (h : (OpenLaw.row PySem.Challenge.rw_manymakes_k53_mapped_and_paired).Holds) : (OpenLaw.row PySem.Challenge.rw_manymakes_k53_mapped_and_paired).Holds := by k_head
end
def K53.as : List Addr := [2, 3, 6, 15, 17, 18, 20, 21, 22, 25, 26, 27, 29, 30, 32, 33, 34, 37, 38, 39, 41, 42, 44, 45, 46, 49, 50, 51, 53, 54, 56, 57, 58, 60, 61, 63, 64, 65, 67, 68, 70, 71, 72, 74, 75, 77, 78, 79, 81, 82, 84, 85, 86, 88, 89, 91, 92, 93, 96, 97, 98, 101, 102]
theorem K53.ase (P : Params) : K53.as = (K53.pre.heap_1 P).map (·.1) := by kernel_rfl
theorem Mm.both_true {a b : Bool} (h : (a && b) = true) : a = true ∧ b = true := by cases a <;> cases b <;> simp_all
noncomputable abbrev K53.xt : Shared → Bool := fun s => (xlAt K53.vw [] s) && (recOk (RowW.records (OpenRow.toRowW (OpenLaw.row PySem.Challenge.rw_manymakes_k53_mapped_and_paired))) s)
abbrev Mm.LAt (p q : Program) (loose : List Str) (Xt : Shared → Bool) {α : Type} (Yf : Shared → α) (Ya : World → α) (N : Nat) (w : World) : Prop :=
  Option.map (fun s => (openSeen q loose (importedModules p.main.body) Xt true s, Yf s)) (openEnds treeTable p w N) = some (openGood q loose, Ya w)
set_option maxRecDepth 100000 in
theorem K53.la (w : World) : Option.map (openSeen K53.vw [] (importedModules PySem.Challenge.pw_manymakes_k53_mapped_and_paired.main.body) K53.xt true) (openEnds treeTable PySem.Challenge.pw_manymakes_k53_mapped_and_paired w 1006) = some (openGood K53.vw []) := by kernel_rfl
set_option maxRecDepth 100000 in
theorem K53.lb (w : World) : Option.map (kHook K53.pre.heap_1 K53.as K53.ase).obs (openEnds treeTable PySem.Challenge.pw_manymakes_k53_mapped_and_paired w 1006) = some ((kHook K53.pre.heap_1 K53.as K53.ase).val w) := by kernel_rfl
theorem Mm.twoM {α β γ : Type} {o : Option α} {f : α → β} {g : α → γ} {b : β} {c : γ} (h1 : o.map f = some b) (h2 : o.map g = some c) : o.map (fun s => (f s, g s)) = some (b, c) := by
  cases o with
  | none => cases h1
  | some s =>
    have h1 := Option.some.inj h1
    have h2 := Option.some.inj h2
    show some (f s, g s) = _
    rw [h1, h2]
theorem K53.left : LeftO PySem.Challenge.pw_manymakes_k53_mapped_and_paired K53.vw [] K53.xt (kHook K53.pre.heap_1 K53.as K53.ase).obs (kHook K53.pre.heap_1 K53.as K53.ase).val 1006 := fun w => Mm.twoM (K53.la w) (K53.lb w)
end
-- CHANGE: your row's module here, as the last of these rows
set_option Elab.async false
set_option linter.all false
set_option maxRecDepth 100000
/-! THE HAND LAYER, for ints, bools, texts, own classes, LISTS and tuples (index, slices, in, append, pop ..), calls, loops. Paste it whole ahead of your own text; what your proof does not reach may be deleted. -/
namespace L2
open PySem PySem.Spec PyProof.Rows

/-- a key: an int or a str -/
noncomputable abbrev Key := Sum Int Str
noncomputable def keyIs : Key → Value → Bool
  | .inl k, v => Value.isInt k v
  | .inr x, v => Value.isStrOf x v
noncomputable def keyH (w : World) : Key → Int
  | .inl k => hashInt k
  | .inr x => hashStr w x
theorem keyIs_shape : ∀ {k : Key} {v : Value}, keyIs k v = true → (∃ i t, k = Sum.inl i ∧ v = Value.int i t) ∨ (∃ x t, k = Sum.inr x ∧ v = Value.str x t)
  | .inl i, v, h => by
    obtain ⟨t, e⟩ := Value.isInt_shape (k := i) (v := v) h
    exact .inl ⟨i, t, rfl, e⟩
  | .inr x, v, h => by
    obtain ⟨t, e⟩ := Value.isStrOf_shape (x := x) (v := v) h
    exact .inr ⟨x, t, rfl, e⟩
theorem keyIs_int (i : Int) (t : Tok) : keyIs (.inl i) (.int i t) = true := by simp [keyIs, Value.isInt]
theorem keyIs_str (x : Str) (t : Tok) : keyIs (.inr x) (.str x t) = true := by simp [keyIs, Value.isStrOf]
theorem key_ll (a b : Int) : decide ((Sum.inl a : Key) = Sum.inl b) = (a == b) := by
  by_cases e : a = b
  · subst e; simp
  · have h : ¬ (Sum.inl a : Key) = Sum.inl b := fun q => e (Sum.inl.inj q)
    rw [decide_eq_false h]
    exact (beq_eq_false_iff_ne.mpr e).symm
theorem key_rr (a b : Str) : decide ((Sum.inr a : Key) = Sum.inr b) = decide (a = b) := by
  by_cases e : a = b
  · subst e; simp
  · have h : ¬ (Sum.inr a : Key) = Sum.inr b := fun q => e (Sum.inr.inj q)
    rw [decide_eq_false h, decide_eq_false e]
theorem key_lr (a : Int) (b : Str) : decide ((Sum.inl a : Key) = Sum.inr b) = false := decide_eq_false (fun q => nomatch q)
theorem key_rl (a : Str) (b : Int) : decide ((Sum.inr a : Key) = Sum.inl b) = false := decide_eq_false (fun q => nomatch q)

noncomputable def mixKind (prog : Program) (w : World) : PySem.KeyKind prog w Key where
  is := keyIs
  hash := keyH w
  inj := fun v a b ha hb => by
    rcases keyIs_shape ha with ⟨i, t, rfl, rfl⟩ | ⟨x, t, rfl, rfl⟩
    · rcases keyIs_shape hb with ⟨j, u, rfl, e⟩ | ⟨y, u, rfl, e⟩
      · injection e with e1 _; rw [e1]
      · exact nomatch e
    · rcases keyIs_shape hb with ⟨j, u, rfl, e⟩ | ⟨y, u, rfl, e⟩
      · exact nomatch e
      · injection e with e1 _; rw [e1]
  byValue := fun k v h => by
    rcases keyIs_shape h with ⟨i, t, rfl, rfl⟩ | ⟨x, t, rfl, rfl⟩ <;> rfl
  pyHash := fun hv h => by
    rcases keyIs_shape hv with ⟨i, t, rfl, rfl⟩ | ⟨x, t, rfl, rfl⟩
    · exact wpAny_pyHash_int h
    · exact wpAny_pyHash_str h
  eqBool := fun hu hv h => by
    rcases keyIs_shape hu with ⟨i, t, rfl, rfl⟩ | ⟨x, t, rfl, rfl⟩
    · rcases keyIs_shape hv with ⟨j, u, rfl, rfl⟩ | ⟨y, u, rfl, rfl⟩
      · rw [key_ll] at h; exact wpAny_eqBool_int h
      · rw [key_lr] at h; exact SeqAt.EqAt.int_str i t y u _ _ _ _ h
    · rcases keyIs_shape hv with ⟨j, u, rfl, rfl⟩ | ⟨y, u, rfl, rfl⟩
      · rw [key_rl] at h; exact SeqAt.EqAt.str_int x t j u _ _ _ _ h
      · rw [key_rr] at h; exact wpAny_eqBool_str h
  «strs» := fun k x t v h => by
    rcases keyIs_shape h with ⟨i, u, rfl, e⟩ | ⟨y, u, rfl, e⟩
    · exact nomatch e
    · injection e with e1 _
      subst e1
      cases v <;> rfl

theorem mixKind_int (prog : Program) (w : World) (i : Int) (t : Tok) : (mixKind prog w).is (.inl i) (.int i t) = true := keyIs_int i t
theorem mixKind_str (prog : Program) (w : World) (x : Str) (t : Tok) : (mixKind prog w).is (.inr x) (.str x t) = true := keyIs_str x t
end L2

namespace L2
open PySem PySem.Spec PyProof.Rows

/-- a value, without the heap -/
inductive V where
  | non | bl (b : Bool) | int (i : Int) | str (x : Str) | byt (b : Array UInt8) | flt (b : UInt64) | ref (a : Addr) | ty (n : String)
  deriving DecidableEq

noncomputable def RelV : V → Value → Prop
  | .non, u => u = Value.none
  | .bl b, u => u = Value.bool b
  | .int i, u => ∃ t, u = Value.int i t
  | .str x, u => ∃ t, u = Value.str x t
  | .byt b, u => ∃ t, u = Value.bytes b t
  | .flt b, u => ∃ t, u = Value.float b t
  | .ref a, u => u = Value.ref a
  | .ty n, u => u = Value.type n

noncomputable abbrev Vals : List V → List Value → Prop := Paired RelV
theorem Vals.length {xs : List V} {us : List Value} (r : Vals xs us) : xs.length = us.length := Paired.length r
theorem Vals.get : ∀ {xs : List V} {us : List Value} {i : Nat} {x : V}, Vals xs us → xs[i]? = some x → ∃ u, us[i]? = some u ∧ RelV x u
  | _, _, _, _, .nil, e => by simp at e
  | _, _, 0, _, .cons r _, e => by simp at e; subst e; exact ⟨_, rfl, r⟩
  | _, _, i + 1, x, .cons _ t, e => by
    obtain ⟨u, h1, h2⟩ := Vals.get (i := i) (x := x) t (by simpa using e)
    exact ⟨u, by simpa using h1, h2⟩
theorem Vals.set {x : V} {u : Value} (r : RelV x u) : ∀ {xs : List V} {us : List Value} (i : Nat), Vals xs us → Vals (xs.set i x) (us.set i u)
  | _, _, _, .nil => .nil
  | _, _, 0, .cons _ t => .cons r t
  | _, _, i + 1, .cons q t => .cons q (Vals.set r i t)
theorem Vals.append : ∀ {xs ys : List V} {us ws : List Value}, Vals xs us → Vals ys ws → Vals (xs ++ ys) (us ++ ws)
  | _, _, _, _, .nil, s => s
  | _, _, _, _, .cons r t, s => .cons r (Vals.append t s)
theorem Vals.take : ∀ {xs : List V} {us : List Value} (n : Nat), Vals xs us → Vals (xs.take n) (us.take n)
  | _, _, 0, _ => .nil
  | _, _, _ + 1, .nil => .nil
  | _, _, n + 1, .cons r t => .cons r (Vals.take n t)
theorem Vals.drop : ∀ {xs : List V} {us : List Value} (n : Nat), Vals xs us → Vals (xs.drop n) (us.drop n)
  | _, _, 0, r => r
  | _, _, _ + 1, .nil => .nil
  | _, _, n + 1, .cons _ t => Vals.drop n t
theorem Vals.none_of : ∀ {xs : List V} {us : List Value} {i : Nat}, Vals xs us → xs[i]? = none → us[i]? = none := fun {xs us i} r e => by
  have h1 := r.length
  have h2 : xs.length ≤ i := List.getElem?_eq_none_iff.mp e
  exact List.getElem?_eq_none_iff.mpr (by omega)

noncomputable def RelO : Option V → Option Value → Prop
  | some v, some u => RelV v u
  | none, none => True
  | _, _ => False
noncomputable def KV {κ : Type} : List (κ × V) → List (κ × Value) → Prop := Paired fun (p : κ × V) (q : κ × Value) => p.1 = q.1 ∧ RelV p.2 q.2

/-- a key of a dict (00_mix): an int or a text -/
noncomputable def kV : Key → V
  | .inl i => .int i
  | .inr x => .str x

/-- what stands at a tracked address -/
inductive HO where
  /-- a list -/
  | lst (xs : List V)
  /-- a tuple (never changes) -/
  | tup (xs : List V)
  /-- a dict whose keys are ints and texts; one whose keys are tuples of ints and texts (the empty one is both) -/
  | dK (kvs : List (Key × V)) | dT (kvs : List (List Key × V))
  /-- a set of ints: its members, its size -/
  | set (S : Int → Bool) (n : Nat)
  /-- an instance of the class at C, its dict at dx, its attributes -/
  | ins (C dx : Addr) (fs : List (Str × V))
  /-- the dict of the instance at x -/
  | own (x : Addr)
  /-- the dict of an exception -/
  | xd (fs : List (Str × V))
  /-- a bound method, f of x -/
  | met (f x : Addr)
  /-- a range object lo, lo + 1, .. below hi -/
  | rng (lo hi : Int)
  /-- a thing that is known to the object (the script; a dict while a loop walks it): read, never written while it is so -/
  | frz (o : Obj) (u : HO)
  /-- a code object's table -/
  | tbl (ps : Array Value)
  /-- any other thing, by what is true of its one object (a def of one's own: SetO a S n := HO.ext fun h => ..) -/
  | ext (φ : Heap → Prop)

noncomputable abbrev Hp := Addr → Option HO
noncomputable def upd (H : Hp) (a : Addr) (o : HO) : Hp := fun b => if b = a then some o else H b
theorem upd_same {H : Hp} {a : Addr} {o : HO} : upd H a o a = some o := by unfold upd; rw [if_pos rfl]
theorem upd_ne {H : Hp} {a b : Addr} {o : HO} (h : b ≠ a) : upd H a o b = H b := by unfold upd; rw [if_neg h]
theorem upd_upd {H : Hp} {a : Addr} {o u : HO} : upd (upd H a o) a u = upd H a u := by
  funext b; unfold upd; split <;> rfl
/-- two objects of different content stand apart -/
theorem ne_of {H : Hp} {a b : Addr} {o u : HO} (h : H a = some o) (h' : H b = some u) (d : o ≠ u) : a ≠ b := by
  intro e; subst e; rw [h] at h'; exact d (Option.some.inj h')
theorem ne_of_none {H : Hp} {a b : Addr} {o : HO} (h : H a = some o) (h' : H b = none) : a ≠ b := by
  intro e; subst e; rw [h] at h'; cases h'

section
variable (P : Program) (w : World)
noncomputable def ObjOk (H : Hp) (h : Heap) (a : Addr) : HO → Prop
  | .lst xs => xs.length ≤ sizeLine ∧ ∃ (its : List Value) (n : Nat), Vals xs its ∧ h.get? a = some { cls := .type "list", data := .seq its.toArray n }
  | .tup xs => xs.length ≤ sizeLine ∧ ∃ its : List Value, Vals xs its ∧ IsTup h a its.toArray
  | .dK kvs => kvs.length ≤ sizeLine ∧ (a == sysModules) = false ∧ ∃ vs, KV kvs vs ∧ h.DictOf (mixKind P w) a vs
  | .dT kvs => kvs.length ≤ sizeLine ∧ (a == sysModules) = false ∧ ∃ xs : List (List Key × Addr × Value),
      Paired (fun (p : List Key × V) (q : List Key × Addr × Value) => p.1 = q.1 ∧ H q.2.1 = some (.tup (p.1.map kV)) ∧ RelV p.2 q.2.2) kvs xs ∧
      ∃ o es ep, h.get? a = some o ∧ o.ExactDict ∧ o.data = .dict es ep ∧ es.toList = xs.map (entryOfKey (tupleKind (mixKind P w))) ∧ (xs.map (·.1)).Nodup
  | .set S n => h.SetOf (intKind P w) a S n
  | .ins C dx fs => H dx = some (.own a) ∧ fs.length ≤ 1000 ∧ dx ≠ a ∧ h.get? a = some (PySem.W.instObj C dx) ∧
      ∃ mA, h.Ns1 dx mA ∧ (∀ f, RelO (fs.lookup f) (mA f)) ∧ PySem.Within mA (fs.map (·.1))
  | .own _ => ∃ o, h.get? a = some o
  | .xd fs => ∃ mA, h.Ns1 a mA ∧ ∀ f, RelO (fs.lookup f) (mA f)
  | .rng lo hi => ∃ t u v, h.get? a = some { cls := .type "range", data := .fields #[.int lo t, .int hi u, .int 1 v] }
  | .frz o u => h.get? a = some o ∧ ObjOk H h a u
  | .tbl ps => h.get? a = some { cls := .none, data := .fields ps }
  | .met f x => h.get? a = some (PySem.W.methodObj (.ref f) (.ref x))
  | .ext φ => φ h ∧ (∃ o, h.get? a = some o) ∧ ∀ h1 h2 : Heap, φ h1 → (∀ o, h1.get? a = some o → h2.get? a = some o) → φ h2
/-- the abstract heap is held -/
noncomputable def HOk (H : Hp) (h : Heap) : Prop := ∀ a o, H a = some o → ObjOk P w H h a o
end

section
variable {P : Program} {w : World} {H H' : Hp} {h h' : Heap} {a : Addr} {o : HO}
theorem ObjOk.lt (x : ObjOk P w H h a o) : a < h.objs.size := by
  cases o with
  | lst xs => obtain ⟨_, _, _, _, e⟩ := x; exact Heap.lt_size e
  | tup xs => obtain ⟨_, _, _, p⟩ := x; exact p.lt
  | dK kvs => obtain ⟨_, _, _, _, o, _, _, e, _⟩ := x; exact Heap.lt_size e
  | dT kvs => obtain ⟨_, _, _, _, o, _, _, e, _⟩ := x; exact Heap.lt_size e
  | set S n => obtain ⟨o, _, _, _, e, _⟩ := x; exact Heap.lt_size e
  | ins C dx fs => obtain ⟨_, _, _, e, _⟩ := x; exact Heap.lt_size e
  | own y => obtain ⟨_, e⟩ := x; exact Heap.lt_size e
  | xd fs => obtain ⟨_, ⟨_, _, _, e, _⟩, _⟩ := x; exact Heap.lt_size e
  | rng lo hi => obtain ⟨_, _, _, e⟩ := x; exact Heap.lt_size e
  | frz ob u => obtain ⟨e, _⟩ := x; exact Heap.lt_size e
  | tbl ps => exact Heap.lt_size (show h.get? a = some _ from x)
  | met f y => exact Heap.lt_size (show h.get? a = some _ from x)
  | ext φ => obtain ⟨_, ⟨_, e⟩, _⟩ := x; exact Heap.lt_size e
theorem Paired.mapP {α β : Type} {F G : α → β → Prop} : ∀ {l₁ : List α} {l₂ : List β}, Paired F l₁ l₂ → (∀ a b, F a b → G a b) → Paired G l₁ l₂
  | _, _, .nil, _ => .nil
  | _, _, .cons r t, f => .cons (f _ _ r) (Paired.mapP t f)
/-- what an object's description leans on: its own object, its own dict, the tuples -/
theorem ObjOk.stay (x : ObjOk P w H h a o) (k : ∀ b u, (b = a ∨ H b = some (.own a)) → h.get? b = some u → h'.get? b = some u)
    (ho : ∀ b, H b = some (.own a) → H' b = some (.own a)) (ht : ∀ b xs, H b = some (.tup xs) → H' b = some (.tup xs)) : ObjOk P w H' h' a o := by
  induction o with
  | lst xs => obtain ⟨z, its, n, r, e⟩ := x; exact ⟨z, its, n, r, k _ _ (.inl rfl) e⟩
  | tup xs => obtain ⟨z, its, r, ob, e, c⟩ := x; exact ⟨z, its, r, ob, k _ _ (.inl rfl) e, c⟩
  | dK kvs => obtain ⟨z, y, vs, r, ob, es, ep, e, c⟩ := x; exact ⟨z, y, vs, r, ob, es, ep, k _ _ (.inl rfl) e, c⟩
  | dT kvs =>
    obtain ⟨z, y, xs, r, ob, es, ep, e, c⟩ := x
    exact ⟨z, y, xs, Paired.mapP r fun p q z => ⟨z.1, ht _ _ z.2.1, z.2.2⟩, ob, es, ep, k _ _ (.inl rfl) e, c⟩
  | set S n => obtain ⟨ob, es, ep, t, e, c⟩ := x; exact ⟨ob, es, ep, t, k _ _ (.inl rfl) e, c⟩
  | ins C dx fs =>
    obtain ⟨d, z, ne, e, mA, ⟨od, es, ep, e2, c⟩, r⟩ := x
    exact ⟨ho _ d, z, ne, k _ _ (.inl rfl) e, mA, ⟨od, es, ep, k _ _ (.inr d) e2, c⟩, r⟩
  | own y => obtain ⟨ob, e⟩ := x; exact ⟨ob, k _ _ (.inl rfl) e⟩
  | xd fs => obtain ⟨mA, ⟨od, es, ep, e, c⟩, r⟩ := x; exact ⟨mA, ⟨od, es, ep, k _ _ (.inl rfl) e, c⟩, r⟩
  | rng lo hi => obtain ⟨t, u, v, e⟩ := x; exact ⟨t, u, v, k _ _ (.inl rfl) e⟩
  | frz ob u ih => obtain ⟨e, q⟩ := x; exact ⟨k _ _ (.inl rfl) e, ih q⟩
  | tbl ps =>
    have e : h.get? a = some { cls := .none, data := .fields ps } := x
    show h'.get? a = some { cls := .none, data := .fields ps }
    exact k a _ (.inl rfl) e
  | met f y =>
    have e : h.get? a = some (PySem.W.methodObj (.ref f) (.ref y)) := x
    show h'.get? a = some (PySem.W.methodObj (.ref f) (.ref y))
    exact k a _ (.inl rfl) e
  | ext φ => obtain ⟨p, ⟨o, e⟩, st⟩ := x; exact ⟨st _ _ p fun o q => k _ _ (.inl rfl) q, ⟨o, k _ _ (.inl rfl) e⟩, st⟩
theorem HOk.lt (x : HOk P w H h) (e : H a = some o) : a < h.objs.size := (x a o e).lt
theorem HOk.fresh (x : HOk P w H h) (e : h.objs.size ≤ a) : H a = none := by
  cases q : H a with
  | none => rfl
  | some u => exact absurd (Nat.lt_of_lt_of_le (x.lt q) e) (Nat.lt_irrefl _)
/-- every object of the heap is kept -/
theorem HOk.kept (x : HOk P w H h) (k : ∀ b u, h.get? b = some u → h'.get? b = some u) : HOk P w H h' := fun a o e =>
  (x a o e).stay (fun b u _ q => k b u q) (fun _ q => q) fun _ _ q => q
/-- a new object is laid and tracked -/
theorem HOk.laid (x : HOk P w H h) (k : ∀ b u, h.get? b = some u → h'.get? b = some u) (hp : h.objs.size ≤ a) (new : ObjOk P w (upd H a o) h' a o) : HOk P w (upd H a o) h' := fun b u e => by
  have hn := x.fresh hp
  by_cases hb : b = a
  · subst hb; rw [upd_same] at e; cases e; exact new
  · rw [upd_ne hb] at e
    exact (x b u e).stay (fun c v _ q => k c v q) (fun c q => by rw [upd_ne (ne_of_none q hn)]; exact q) fun c xs q => by rw [upd_ne (ne_of_none q hn)]; exact q
end

/-- what may be read as u: it is u, or a known u -/
noncomputable def Rd (H : Hp) (a : Addr) (u : HO) : Prop := H a = some u ∨ ∃ o, H a = some (.frz o u)
theorem Rd.of {H : Hp} {a : Addr} {u : HO} (h : H a = some u) : Rd H a u := .inl h
theorem Rd.ok {P : Program} {w : World} {H : Hp} {h : Heap} {a : Addr} {u : HO} (r : Rd H a u) (x : HOk P w H h) : ObjOk P w H h a u := by
  rcases r with r | ⟨o, r⟩
  · exact x a u r
  · obtain ⟨_, q⟩ := x a _ r
    exact q
/-- what may be written -/
noncomputable def Mut : Option HO → Prop
  | some (.lst _) => True
  | some (.dK _) => True
  | some (.dT _) => True
  | some (.set _ _) => True
  | some (.ins _ _ _) => True
  | some (.ext _) => True
  | _ => False
section
variable {P : Program} {w : World} {H : Hp} {h h' : Heap} {x e : Addr} {o' : HO}
/-- the object at e is changed: x itself, or the dict of the instance x -/
theorem HOk.write (ok : HOk P w H h) (mu : Mut (H x)) (he : e = x ∨ H e = some (.own x)) (k : ∀ b u, b ≠ e → h.get? b = some u → h'.get? b = some u) (heo : ∃ u, h'.get? e = some u)
    (new : ObjOk P w (upd H x o') h' x o') : HOk P w (upd H x o') h' := fun b u q => by
  have nown : ∀ c y, H c = some (.own y) → c ≠ x := fun c y r z => by subst z; rw [r] at mu; exact mu
  have ntup : ∀ c xs, H c = some (.tup xs) → c ≠ x := fun c xs r z => by subst z; rw [r] at mu; exact mu
  by_cases hb : b = x
  · subst hb; rw [upd_same] at q; cases q; exact new
  · rw [upd_ne hb] at q
    by_cases hbe : b = e
    · have q' : H b = some (.own x) := by
        rcases he with z | z
        · exact absurd (hbe.trans z) hb
        · rw [hbe]; exact z
      rw [q] at q'; cases q'
      obtain ⟨v, hv⟩ := heo
      exact ⟨v, by rw [hbe]; exact hv⟩
    · refine (ok b u q).stay (fun c v hc r => k c v ?_ r) (fun c r => by rw [upd_ne (nown c b r)]; exact r) fun c xs r => by rw [upd_ne (ntup c xs r)]; exact r
      rcases hc with rfl | hc
      · exact hbe
      · rintro rfl
        rcases he with z | z
        · exact nown c b hc z
        · rw [hc] at z; cases z; exact hb rfl
end

/-! ### kept unless tracked; of the frames at fs (the callers') the slots may change (an exception that passes writes there); of the records at ex (iterators) nothing is said -/
structure Un (fs ex : List Addr) (H H' : Hp) (h h' : Heap) : Prop where
  keep : ∀ b o, h.get? b = some o → H b = none → b ∉ fs → b ∉ ex → h'.get? b = some o
  slot : ∀ b o, h.get? b = some o → H b = none → b ∈ fs → b ∉ ex → ∃ sl, h'.get? b = some { o with slots := sl }
  free : ∀ b o, h.get? b = some o → H b = none → b ∉ ex → H' b = none
  there : ∀ b o, h.get? b = some o → b ∉ ex → ∃ o', h'.get? b = some o'
  tups : ∀ b xs, H b = some (.tup xs) → H' b = some (.tup xs)
  frzs : ∀ b o u, H b = some (.frz o u) → H' b = some (.frz o u)
  tbls : ∀ b ps, H b = some (.tbl ps) → ∃ more, H' b = some (.tbl (ps ++ more))
section
variable {fs fs' ex ex' : List Addr} {H H1 H2 : Hp} {h h1 h2 h' : Heap} {a x e : Addr} {o : HO}
theorem Un.any (u : Un fs ex H H1 h h1) {b : Addr} {ob : Obj} (q : h.get? b = some ob) (n : H b = none) (hx : b ∉ ex) : ∃ sl, h1.get? b = some { ob with slots := sl } := by
  by_cases hb : b ∈ fs
  · exact u.slot b ob q n hb hx
  · exact ⟨ob.slots, u.keep b ob q n hb hx⟩
theorem Un.trans (a : Un fs ex H H1 h h1) (b : Un fs ex H1 H2 h1 h2) : Un fs ex H H2 h h2 where
  keep := fun c ob q n hc hx => b.keep c ob (a.keep c ob q n hc hx) (a.free c ob q n hx) hc hx
  slot := fun c ob q n hc hx => by
    obtain ⟨sl, e1⟩ := a.slot c ob q n hc hx
    obtain ⟨sl', e2⟩ := b.slot c _ e1 (a.free c ob q n hx) hc hx
    exact ⟨sl', e2⟩
  free := fun c ob q n hx => by
    obtain ⟨o', e1⟩ := a.there c ob q hx
    exact b.free c o' e1 (a.free c ob q n hx) hx
  there := fun c ob q hx => by
    obtain ⟨o', e1⟩ := a.there c ob q hx
    exact b.there c o' e1 hx
  tups := fun c xs q => b.tups c xs (a.tups c xs q)
  frzs := fun c ob xs q => b.frzs c ob xs (a.frzs c ob xs q)
  tbls := fun c ps q => by
    obtain ⟨m1, e1⟩ := a.tbls c ps q
    obtain ⟨m2, e2⟩ := b.tbls c _ e1
    exact ⟨m1 ++ m2, by rw [e2, Array.append_assoc]⟩
theorem Un.kept (k : ∀ b u, h.get? b = some u → h'.get? b = some u) : Un fs ex H H h h' :=
  ⟨fun b ob q _ _ _ => k b ob q, fun b ob q _ _ _ => ⟨ob.slots, k b ob q⟩, fun _ _ _ n _ => n, fun b ob q _ => ⟨ob, k b ob q⟩, fun _ _ q => q, fun _ _ _ q => q, fun _ ps q => ⟨#[], by rw [q]; simp⟩⟩
theorem Un.refl : Un fs ex H H h h := Un.kept fun _ _ q => q
theorem Un.laid (k : ∀ b u, h.get? b = some u → h'.get? b = some u) (hp : h.objs.size ≤ a) (hn : H a = none) : Un fs ex H (upd H a o) h h' where
  keep := fun b u q _ _ _ => k b u q
  slot := fun b u q _ _ _ => ⟨u.slots, k b u q⟩
  free := fun b u q n _ => by rw [upd_ne (Nat.ne_of_lt (Nat.lt_of_lt_of_le (Heap.lt_size q) hp))]; exact n
  there := fun b u q _ => ⟨u, k b u q⟩
  tups := fun b xs q => by rw [upd_ne (ne_of_none q hn)]; exact q
  frzs := fun b u xs q => by rw [upd_ne (ne_of_none q hn)]; exact q
  tbls := fun b ps q => ⟨#[], by rw [upd_ne (ne_of_none q hn), q]; simp⟩
theorem Un.write (mu : Mut (H x)) (he : e = x ∨ H e = some (.own x)) (k : ∀ b u, b ≠ e → h.get? b = some u → h'.get? b = some u) (heo : ∃ u, h'.get? e = some u) : Un fs ex H (upd H x o) h h' := by
  have hx : ∀ b, H b = none → b ≠ x := fun b n z => by subst z; rw [n] at mu; exact mu
  have hb : ∀ b, H b = none → b ≠ e := fun b n z => by
    subst z
    rcases he with r | r
    · exact hx b n r
    · rw [n] at r; cases r
  have hm : ∀ b u, H b = some u → ¬ Mut (some u) → b ≠ x := fun b u q nm z => by subst z; rw [q] at mu; exact nm mu
  refine ⟨fun b u q n _ _ => k b u (hb b n) q, fun b u q n _ _ => ⟨u.slots, k b u (hb b n) q⟩, fun b u q n _ => by rw [upd_ne (hx b n)]; exact n, fun b u q _ => ?_,
    fun b xs q => by rw [upd_ne (hm b _ q fun z => z)]; exact q, fun b u xs q => by rw [upd_ne (hm b _ q fun z => z)]; exact q, fun b ps q => ⟨#[], by rw [upd_ne (hm b _ q fun z => z), q]; simp⟩⟩
  by_cases hbe : b = e
  · subst hbe; exact heo
  · exact ⟨u, k b u hbe q⟩
theorem Un.mono (u : Un fs ex H H1 h h1) (hs : ∀ b ∈ fs, b ∈ fs') (hx : ∀ b ∈ ex, b ∈ ex') : Un fs' ex' H H1 h h1 :=
  ⟨fun b ob q n hb he => u.keep b ob q n (fun z => hb (hs b z)) fun z => he (hx b z), fun _ _ q n _ he => u.any q n fun z => he (hx _ z), fun b ob q n he => u.free b ob q n fun z => he (hx b z), fun b ob q he => u.there b ob q fun z => he (hx b z), u.tups, u.frzs, u.tbls⟩
end

/-! ### the heap without what is tracked -/
noncomputable def trk (h : Heap) (H : Hp) : List Addr := (List.range h.objs.size).filter fun a => (H a).isSome
noncomputable def hidT (h : Heap) (H : Hp) : Heap := PySem.W.hideAll h (trk h H)
theorem hidT_size (h : Heap) (H : Hp) : (hidT h H).objs.size = h.objs.size := PySem.W.hideAll_size _ _
theorem hidT_get {h : Heap} {H : Hp} {b : Addr} {o : Obj} (e : h.get? b = some o) (n : H b = none) : (hidT h H).get? b = some o :=
  PySem.W.hideAll_get _ e fun hm => by
    have q : (H b).isSome = true := (List.mem_filter.mp hm).2
    rw [n] at q; simp at q
theorem of_hidT {h : Heap} {H : Hp} {b : Addr} {o : Obj} (e : (hidT h H).get? b = some o) : h.get? b = some o ∧ H b = none := by
  have e' : h.get? b = some o := PySem.W.of_hideAll (trk h H) e
  refine ⟨e', ?_⟩
  cases q : H b with
  | none => rfl
  | some x =>
    have hm : b ∈ trk h H := List.mem_filter.mpr ⟨List.mem_range.mpr (Heap.lt_size e'), by simp [q]⟩
    have z : (hidT h H).get? b = none := PySem.W.hideAll_none (trk h H) hm
    rw [z] at e; cases e

/-! ### OpenK's ledger, filled with every new object but one -/
noncomputable def allNews (g h : Heap) (L : Addr) : List (Addr × Obj) := (List.range h.objs.size).filterMap fun a => if a = L ∨ (g.get? a).isSome = true then none else (h.get? a).map fun o => (a, o)
noncomputable def rest (g h : Heap) (L d : Addr) : List (Addr × Obj) := (allNews g h L).filter fun p => decide (p.1 ≠ d)
end L2

namespace L2
open PySem PySem.Spec PyProof.Rows

/-- the module's facts, over the base: the heap at the law's entry without what is tracked there -/
structure Mod (K : PySem.W.Frag) (mg : Str → Option Value) (base : Heap) : Prop where
  kin : K.In base
  glob : base.Ns mainGlobals mg
  blt : ∃ mb, base.Ns builtinsNs mb ∧ ∀ x : Str, x ≠ "__name__" → mb x = bootBuiltins x
  nolimit : base.NoLimit

/-- the context: a def's body (or a comprehension's block) running. base: fixed through the whole law; s₀, H₀: the entry; outer: the frames whose slots others may change (a def's callers); stack: all frames that run;
   ex: iterators that were made ahead of the entry and are walked here (a comprehension's); fn: the names whose cells were made at the entry (a def: all; a comprehension's block: its own); calm: not within an except suite; pn: pins that every state bears; xe: what is wanted of an exception that leaves the code -/
structure Cx where
  prog : Program
  w : World
  K : PySem.W.Frag
  mg : Str → Option Value
  base : Heap
  A : Around
  N : List Str
  s₀ : Shared
  H₀ : Hp
  env : Env
  outer : List Env
  stack : List Env
  ex : List Addr
  fn : Str → Bool
  calm : Bool
  pn : List (Addr × Obj)
  xe : Value → Shared → Prop
/-- the callers' frames -/
noncomputable def frs (l : List Env) : List Addr := l.filterMap (·.frame)
noncomputable abbrev Cx.fs (X : Cx) : List Addr := frs X.outer

noncomputable def Vis (sc : Scope) (x : Str) : Prop := sc.names.lookup x = some .local ∨ sc.names.lookup x = some .cell ∨ sc.names.lookup x = some .free
noncomputable def Loc (sc : Scope) (x : Str) : Prop := sc.names.lookup x = some .local ∨ sc.names.lookup x = some .cell
noncomputable def Look (env : Env) (h : Heap) (m : Str → Option Value) (x : Str) (u : Value) : Prop :=
  (env.kindOf x = some .local ∧ m x = some u) ∨ ((env.kindOf x = some .cell ∨ env.kindOf x = some .free) ∧ ∃ c, env.cells.lookup x = some c ∧ h.IsCell c (some u))

structure Cx.Ok (X : Cx) : Prop where
  mod : Mod X.K X.mg X.base
  kind : X.env.scope.kind = .function
  glob : X.env.globals = mainGlobals
  blt : X.env.builtins = builtinsNs
  above : X.s₀.heap.objs.size ≤ X.env.locals
  inj : ∀ x y c, X.env.cells.lookup x = some c → X.env.cells.lookup y = some c → x = y
  has : ∀ x, (X.env.kindOf x = some .cell ∨ X.env.kindOf x = some .free) → ∃ c, X.env.cells.lookup x = some c
  cab : ∀ x c, X.fn x = true → X.env.cells.lookup x = some c → X.s₀.heap.objs.size ≤ c
  hd : X.calm = true → X.A.handled = none
  frames : X.A.frames = some X.stack
  stk : X.stack = X.outer ∨ (X.stack = X.env :: X.outer ∧ X.env.frame = some X.env.locals)
  exf : ∀ b ∈ X.ex, b ≠ X.env.locals ∧ ∀ x c, X.env.cells.lookup x = some c → c ≠ b
  bs : ∀ b o, X.base.get? b = some o → X.s₀.heap.get? b = some o ∧ X.H₀ b = none
  bsz : X.base.objs.size ≤ X.s₀.heap.objs.size
  noex : ∀ b o, X.base.get? b = some o → b ∉ X.ex
  exfs : ∀ b ∈ X.ex, b ∉ X.fs
  funs : X.s₀.heap.FunFrames X.base X.outer
  frf : ∀ b ∈ X.fs, X.H₀ b = none

structure Inv (X : Cx) (pins : List (Addr × Obj)) (σ : List (Option V)) (H : Hp) (s : Shared) : Prop where
  ok : X.Ok
  os : s.os = X.s₀.os
  bare : AllBare s.gens
  base : Un X.fs X.ex X.H₀ H X.s₀.heap s.heap
  loc : ∃ m, s.heap.Ns X.env.locals m ∧ ∀ (i : Nat) (x : Str) (v : V), X.N[i]? = some x → σ[i]? = some (some v) → Vis X.env.scope x → ∃ u, RelV v u ∧ Look X.env s.heap m x u
  cell : ∀ x c, X.env.cells.lookup x = some c → ∃ v, s.heap.IsCell c v
  free : H X.env.locals = none
  freeC : ∀ x c, X.env.cells.lookup x = some c → H c = none
  pin : ∀ p ∈ X.pn ++ pins, s.heap.get? p.1 = some p.2 ∧ H p.1 = none ∧ p.1 ≠ X.env.locals ∧ p.1 ∉ X.fs ∧ ∀ v, p.2.data ≠ .cell v
  hok : HOk X.prog X.w H s.heap
  len : σ.length = X.N.length

section
variable {X : Cx} {pins : List (Addr × Obj)} {σ : List (Option V)} {H H' : Hp} {s : Shared} {h' : Heap}

theorem Cx.Ok.nofr (ok : X.Ok) {b : Addr} {o : Obj} (e : X.base.get? b = some o) : b ∉ X.fs := fun hb => by
  have := (ok.funs.mem hb).1
  rw [e] at this; cases this
theorem Inv.bs (I : Inv X pins σ H s) : ∀ b o, X.base.get? b = some o → s.heap.get? b = some o ∧ H b = none := fun b o e =>
  ⟨I.base.keep b o (I.ok.bs b o e).1 (I.ok.bs b o e).2 (I.ok.nofr e) (I.ok.noex b o e), I.base.free b o (I.ok.bs b o e).1 (I.ok.bs b o e).2 (I.ok.noex b o e)⟩
theorem Inv.bk (I : Inv X pins σ H s) : ∀ b o, X.base.get? b = some o → s.heap.get? b = some o := fun b o e => (I.bs b o e).1
theorem Inv.mod (I : Inv X pins σ H s) : Mod X.K X.mg X.base := I.ok.mod
theorem Inv.kIn (I : Inv X pins σ H s) : X.K.In s.heap := I.ok.mod.kin.keeps I.bk
theorem Inv.nolimit (I : Inv X pins σ H s) : s.heap.NoLimit := I.ok.mod.nolimit.keeps I.bk
/-- the frame over the base: for OpenK's rules (K.In X.base is I.mod.kin) -/
theorem Inv.fr (I : Inv X pins σ H s) : ∃ m, Fr X.base X.env.locals s.heap m :=
  let ⟨m, hn, _⟩ := I.loc
  ⟨m, hn, I.bk, Nat.le_trans I.ok.bsz I.ok.above⟩
theorem Inv.lt (I : Inv X pins σ H s) : X.env.locals < s.heap.objs.size := by obtain ⟨_, hn, _⟩ := I.loc; exact hn.lt
theorem Inv.sz (I : Inv X pins σ H s) : X.s₀.heap.objs.size ≤ s.heap.objs.size := Nat.le_trans I.ok.above (Nat.le_of_lt I.lt)
theorem Inv.nofs (I : Inv X pins σ H s) {a : Addr} (h : s.heap.objs.size ≤ a) : a ∉ X.fs := fun hb => by
  obtain ⟨_, o, ho, _⟩ := I.ok.funs.mem hb
  exact absurd (Nat.lt_of_lt_of_le (Heap.lt_size ho) (Nat.le_trans I.sz h)) (Nat.lt_irrefl _)
theorem Inv.cne (I : Inv X pins σ H s) : ∀ x c, X.env.cells.lookup x = some c → c ≠ X.env.locals := fun x c e z => by
  obtain ⟨v, o, ho, hd⟩ := I.cell x c e
  obtain ⟨m, ⟨o', es, ep, ho', hd', _⟩, _⟩ := I.loc
  rw [z, ho'] at ho; cases ho; rw [hd'] at hd; cases hd
theorem Inv.funs (I : Inv X pins σ H s) : s.heap.FunFrames X.base X.outer := by
  have all : ∀ (l : List Env), (∀ b ∈ frs l, b ∈ X.fs) → X.s₀.heap.FunFrames X.base l → s.heap.FunFrames X.base l := by
    intro l
    induction l with
    | nil => intro _ _; trivial
    | cons env r ih =>
      intro hs hl
      obtain ⟨hk, ⟨L, o, hf, hn, ho, hd⟩, hr⟩ := hl
      have hL : L ∈ X.fs := hs L (by unfold frs; rw [List.filterMap_cons, hf]; exact List.mem_cons_self)
      obtain ⟨sl, e⟩ := I.base.slot L o ho (I.ok.frf L hL) hL fun z => I.ok.exfs L z hL
      exact ⟨hk, ⟨L, _, hf, hn, e, hd⟩, ih (fun b hb => hs b (by unfold frs; rw [List.filterMap_cons, hf]; exact List.mem_cons_of_mem _ hb)) hr⟩
  exact all X.outer (fun _ hb => hb) I.ok.funs

/-- the frames that run, for a call -/
theorem Inv.stack (I : Inv X pins σ H s) : s.heap.FunFrames X.base X.stack := by
  rcases I.ok.stk with e | ⟨e, hf⟩
  · rw [e]; exact I.funs
  · rw [e]
    obtain ⟨m, hn, _⟩ := I.loc
    refine .cons (by rw [I.ok.kind]; decide) hf hn ?_ I.funs
    exact Heap.get?_none_of_le (Nat.le_trans I.ok.bsz I.ok.above)
theorem Inv.stkSub (I : Inv X pins σ H s) : ∀ b ∈ frs X.stack, b ∈ X.env.locals :: X.fs := fun b hb => by
  rcases I.ok.stk with e | ⟨e, hf⟩
  · rw [e] at hb; exact List.mem_cons_of_mem _ hb
  · rw [e] at hb
    unfold frs at hb
    rw [List.filterMap_cons, hf] at hb
    exact hb
theorem Inv.stkFree (I : Inv X pins σ H s) : ∀ b ∈ frs X.stack, H b = none := fun b hb => by
  rcases List.mem_cons.mp (I.stkSub b hb) with e | hb
  · rw [e]; exact I.free
  · obtain ⟨_, o, ho, _⟩ := I.ok.funs.mem hb
    exact I.base.free b o ho (I.ok.frf b hb) fun z => I.ok.exfs b z hb

/-- THE STEP: the untracked objects but the frame and the records at ch are kept (the callers' frames up to slots), the frame's map is kept, the new abstract heap is held -/
theorem Inv.step {g' : Array GenState} {t' : Nat} {d' : Drawn} {ch : List Addr} (I : Inv X pins σ H s)
    (hch : ∀ b ∈ ch, (b ∈ X.ex ∨ X.s₀.heap.objs.size ≤ b) ∧ b ≠ X.env.locals ∧ (∀ x c, X.env.cells.lookup x = some c → c ≠ b) ∧ ∀ p ∈ X.pn ++ pins, p.1 ≠ b)
    (keep : ∀ b o, b ≠ X.env.locals → b ∉ X.fs → b ∉ ch → s.heap.get? b = some o → H b = none → h'.get? b = some o)
    (slot : ∀ b o, b ≠ X.env.locals → b ∈ X.fs → b ∉ ch → s.heap.get? b = some o → H b = none → ∃ sl, h'.get? b = some { o with slots := sl }) (free : ∀ b o, b ∉ ch → s.heap.get? b = some o → H b = none → H' b = none)
    (there : ∀ b o, b ∉ ch → s.heap.get? b = some o → ∃ o', h'.get? b = some o')
    (tups : ∀ b xs, H b = some (.tup xs) → H' b = some (.tup xs)) (frzs : ∀ b o u, H b = some (.frz o u) → H' b = some (.frz o u)) (tbls : ∀ b ps, H b = some (.tbl ps) → ∃ more, H' b = some (.tbl (ps ++ more)))
    (ns : ∀ m, s.heap.Ns X.env.locals m → h'.Ns X.env.locals m) (hok : HOk X.prog X.w H' h') (hg : AllBare g') :
    Inv X pins σ H' { s with heap := h', gens := g', drawn := d', toks := t' } := by
  have neL : ∀ b o, X.s₀.heap.get? b = some o → b ≠ X.env.locals := fun b o e => Nat.ne_of_lt (Nat.lt_of_lt_of_le (Heap.lt_size e) I.ok.above)
  have neC : ∀ b o, X.s₀.heap.get? b = some o → b ∉ X.ex → b ∉ ch := fun b o e hx hb => by
    rcases (hch b hb).1 with z | z
    · exact hx z
    · exact absurd (Nat.lt_of_lt_of_le (Heap.lt_size e) z) (Nat.lt_irrefl _)
  have cellK : ∀ x c, X.env.cells.lookup x = some c → ∀ v, s.heap.IsCell c v → h'.IsCell c v := fun x c e v ⟨o, ho, hd⟩ => by
    have nch : c ∉ ch := fun z => (hch c z).2.2.1 x c e rfl
    by_cases hc : c ∈ X.fs
    · obtain ⟨sl, q⟩ := slot c o (I.cne x c e) hc nch ho (I.freeC x c e)
      exact ⟨_, q, hd⟩
    · exact ⟨o, keep c o (I.cne x c e) hc nch ho (I.freeC x c e), hd⟩
  refine ⟨I.ok, I.os, hg, ⟨fun b o e n hb hx => ?_, fun b o e n hb hx => ?_, fun b o e n hx => ?_, fun b o e hx => ?_, fun b xs e => tups b xs (I.base.tups b xs e), fun b o xs e => frzs b o xs (I.base.frzs b o xs e), fun b ps e => ?_⟩, ?_, fun x c e => ?_, ?_, fun x c e => ?_, fun p hp => ?_, hok, I.len⟩
  · exact keep b o (neL b o e) hb (neC b o e hx) (I.base.keep b o e n hb hx) (I.base.free b o e n hx)
  · obtain ⟨sl, e1⟩ := I.base.slot b o e n hb hx
    obtain ⟨sl', e2⟩ := slot b _ (neL b o e) hb (neC b o e hx) e1 (I.base.free b o e n hx)
    exact ⟨sl', e2⟩
  · obtain ⟨o', e1⟩ := I.base.there b o e hx
    exact free b o' (neC b o e hx) e1 (I.base.free b o e n hx)
  · obtain ⟨o', e1⟩ := I.base.there b o e hx
    exact there b o' (neC b o e hx) e1
  · obtain ⟨m1, e1⟩ := I.base.tbls b ps e
    obtain ⟨m2, e2⟩ := tbls b _ e1
    exact ⟨m1 ++ m2, by rw [e2, Array.append_assoc]⟩
  · obtain ⟨m, hn, hl⟩ := I.loc
    refine ⟨m, ns m hn, fun i x v e1 e2 e3 => ?_⟩
    obtain ⟨u, r, l⟩ := hl i x v e1 e2 e3
    refine ⟨u, r, ?_⟩
    rcases l with l | ⟨k, c, e, z⟩
    · exact .inl l
    · exact .inr ⟨k, c, e, cellK x c e _ z⟩
  · obtain ⟨v, z⟩ := I.cell x c e
    exact ⟨v, cellK x c e v z⟩
  · obtain ⟨m, ⟨o, _, _, ho, _⟩, _⟩ := I.loc
    exact free _ o (fun z => (hch _ z).2.1 rfl) ho I.free
  · obtain ⟨v, o, ho, hd⟩ := I.cell x c e
    exact free c o (fun z => (hch c z).2.2.1 x c e rfl) ho (I.freeC x c e)
  · obtain ⟨e, n, ne, nf, d⟩ := I.pin p hp
    have nch : p.1 ∉ ch := fun z => (hch p.1 z).2.2.2 p hp rfl
    exact ⟨keep p.1 p.2 ne nf nch e n, free p.1 p.2 nch e n, ne, nf, d⟩
/-- .. where the frame's own object is kept too -/
theorem Inv.un {t' : Nat} (I : Inv X pins σ H s) (u : Un X.fs [] H H' s.heap h') (hok : HOk X.prog X.w H' h') : Inv X pins σ H' { s with heap := h', toks := t' } := by
  obtain ⟨m, ⟨o, es, ep, ho, r⟩, _⟩ := id I.loc
  obtain ⟨sl, hL⟩ := u.any ho I.free (by simp)
  exact I.step (g' := s.gens) (d' := s.drawn) (ch := []) (fun _ z => nomatch z) (fun b o _ hb _ e n => u.keep b o e n hb (by simp)) (fun b o _ hb _ e n => u.slot b o e n hb (by simp)) (fun b o _ e n => u.free b o e n (by simp)) (fun b o _ e => u.there b o e (by simp)) u.tups u.frzs u.tbls (fun m' hm => by
    obtain ⟨o', es', ep', ho', r'⟩ := hm
    rw [ho] at ho'; cases ho'
    exact ⟨_, es', ep', hL, r'⟩) hok I.bare
/-- behind a call (or a comprehension's block): the slots of this frame may have changed too, the records at ch may have turned -/
theorem Inv.call {g' : Array GenState} {t' : Nat} {d' : Drawn} {ch : List Addr} (I : Inv X pins σ H s) (u : Un (frs X.stack) ch H H' s.heap h') (hok : HOk X.prog X.w H' h') (hg : AllBare g')
    (hch : ∀ b ∈ ch, (b ∈ X.ex ∨ X.s₀.heap.objs.size ≤ b) ∧ b ≠ X.env.locals ∧ (∀ x c, X.env.cells.lookup x = some c → c ≠ b) ∧ ∀ p ∈ X.pn ++ pins, p.1 ≠ b) :
    Inv X pins σ H' { s with heap := h', gens := g', drawn := d', toks := t' } := by
  obtain ⟨m, ⟨o, es, ep, ho, r⟩, _⟩ := id I.loc
  obtain ⟨sl, hL⟩ := u.any ho I.free fun z => (hch _ z).2.1 rfl
  exact I.step (ch := ch) hch (fun b o hL hb hc e n => u.keep b o e n (fun z => (List.mem_cons.mp (I.stkSub b z)).elim hL hb) hc) (fun b o _ _ hc e n => u.any e n hc) (fun b o hc e n => u.free b o e n hc) (fun b o hc e => u.there b o e hc) u.tups u.frzs u.tbls (fun m' hm => by
    obtain ⟨o', es', ep', ho', r'⟩ := hm
    rw [ho] at ho'; cases ho'
    exact ⟨_, es', ep', hL, r'⟩) hok hg
/-- an untracked record of ours (an iterator) has turned -/
theorem Inv.turned {t' : Nat} {it : Addr} (I : Inv X pins σ H s) (k : ∀ b o, b ≠ it → s.heap.get? b = some o → h'.get? b = some o) (hn : H it = none) (hL : it ≠ X.env.locals)
    (h1 : it ∈ X.ex ∨ X.s₀.heap.objs.size ≤ it) (h2 : ∀ x c, X.env.cells.lookup x = some c → c ≠ it) (h3 : ∀ p ∈ X.pn ++ pins, p.1 ≠ it) : Inv X pins σ H { s with heap := h', toks := t' } := by
  have nit : ∀ b u, H b = some u → b ≠ it := fun b u e z => by rw [z, hn] at e; cases e
  refine I.step (g' := s.gens) (d' := s.drawn) (ch := [it]) (fun b hb => ?_) (fun b o _ _ hc e _ => k b o (fun z => hc (by simp [z])) e) (fun b o _ _ hc e _ => ⟨o.slots, k b o (fun z => hc (by simp [z])) e⟩) (fun _ _ _ _ n => n)
    (fun b o hc e => ⟨o, k b o (fun z => hc (by simp [z])) e⟩) (fun _ _ e => e) (fun _ _ _ e => e) (fun b ps e => ⟨#[], by rw [e]; simp⟩) (fun m hm => ?_) (fun b u e => ?_) I.bare
  · have e : b = it := by simpa using hb
    subst e
    exact ⟨h1, hL, h2, h3⟩
  · obtain ⟨o, es, ep, ho, r⟩ := hm
    exact ⟨o, es, ep, k _ o (Ne.symm hL) ho, r⟩
  · refine (I.hok b u e).stay (fun c v hc q => k c v ?_ q) (fun _ q => q) fun _ _ q => q
    rcases hc with z | z
    · rw [z]; exact nit b u e
    · exact nit c _ z
theorem Inv.tok (I : Inv X pins σ H s) (t : Nat) : Inv X pins σ H { s with toks := t } := I.un (h' := s.heap) (t' := t) Un.refl I.hok
/-- all objects kept -/
theorem Inv.kept {t' : Nat} (I : Inv X pins σ H s) (k : ∀ b u, s.heap.get? b = some u → h'.get? b = some u) : Inv X pins σ H { s with heap := h', toks := t' } := I.un (Un.kept k) (I.hok.kept k)
/-- a new object laid and tracked -/
theorem Inv.laid {a : Addr} {o : HO} {t' : Nat} (I : Inv X pins σ H s) (k : ∀ b u, s.heap.get? b = some u → h'.get? b = some u) (hp : s.heap.objs.size ≤ a) (new : ObjOk X.prog X.w (upd H a o) h' a o) :
    Inv X pins σ (upd H a o) { s with heap := h', toks := t' } := I.un (Un.laid k hp (I.hok.fresh hp)) (I.hok.laid k hp new)
/-- an object written -/
theorem Inv.write {x e : Addr} {o : HO} {t' : Nat} (I : Inv X pins σ H s) (mu : Mut (H x)) (he : e = x ∨ H e = some (.own x)) (k : ∀ b u, b ≠ e → s.heap.get? b = some u → h'.get? b = some u) (heo : ∃ u, h'.get? e = some u)
    (new : ObjOk X.prog X.w (upd H x o) h' x o) : Inv X pins σ (upd H x o) { s with heap := h', toks := t' } := I.un (Un.write mu he k heo) (I.hok.write mu he k heo new)
theorem Inv.pins_of {pins' : List (Addr × Obj)} (I : Inv X pins σ H s) (h : ∀ p ∈ pins', s.heap.get? p.1 = some p.2 ∧ H p.1 = none ∧ p.1 ≠ X.env.locals ∧ p.1 ∉ X.fs ∧ ∀ v, p.2.data ≠ .cell v) : Inv X pins' σ H s :=
  ⟨I.ok, I.os, I.bare, I.base, I.loc, I.cell, I.free, I.freeC, fun p hp => (List.mem_append.mp hp).elim (fun z => I.pin p (List.mem_append_left _ z)) (h p), I.hok, I.len⟩

theorem nodup_ix {N : List Str} (hN : N.Nodup) {i j : Nat} {x : Str} (a : N[i]? = some x) (b : N[j]? = some x) : i = j := by
  obtain ⟨h1, e1⟩ := List.getElem?_eq_some_iff.mp a
  obtain ⟨h2, e2⟩ := List.getElem?_eq_some_iff.mp b
  exact (List.getElem_inj hN).mp (e1.trans e2.symm)

/-- a name is stored; what changed -/
theorem store_ok2 {M : Model} {A : Around} {E : Value → Shared → Prop} {i : Nat} {x : Str} {v : V} {u : Value} {Q : Unit → Shared → Prop} (I : Inv X pins σ H s) (hN : X.N.Nodup) (hi : X.N[i]? = some x) (hx : Loc X.env.scope x) (r : RelV v u)
    (h : ∀ s', Inv X pins (σ.set i (some v)) H s' → (∃ a, Heap.SameBut a s.heap s'.heap ∧ (a = X.env.locals ∨ X.env.cells.lookup x = some a)) → Q () s') (hf : X.fn x = true ∨ X.env.scope.names.lookup x = some .local := by first | exact .inl rfl | exact .inr rfl | assumption) : wpAny M A (storeName X.env x u) Q E s := by
  obtain ⟨m, hn, hl⟩ := id I.loc
  have hcls : (X.env.scope.kind == .class || (X.env.scope.kind == .module && X.env.locals != X.env.globals)) = false := by rw [I.ok.kind]; rfl
  have hiσ : i < σ.length := by rw [I.len]; exact (List.getElem?_eq_some_iff.mp hi).1
  have cne := I.cne
  have tracked : ∀ {a : Addr} {h' : Heap}, (∃ o, s.heap.get? a = some o ∧ H a = none) → Heap.SameBut a s.heap h' → HOk X.prog X.w H h' := fun {a h'} ha hs b ob e => by
    obtain ⟨_, _, hfree⟩ := ha
    refine (I.hok b ob e).stay (fun c w' hc q => (hs.2 c ?_).trans q) (fun _ q => q) fun _ _ q => q
    rintro rfl
    rcases hc with rfl | hc
    · rw [hfree] at e; cases e
    · rw [hfree] at hc; cases hc
  rcases hx with hk | hk
  · refine wpAny_storeName_local hk hn (fun h' hn' hs => ?_) hcls
    obtain ⟨oL, _, _, hoL, _⟩ := id hn
    refine h _ ⟨I.ok, I.os, I.bare, ⟨fun b o e n hb hx => ?_, fun b o e n hb hx => ?_, I.base.free, fun b o e hx => ?_, I.base.tups, I.base.frzs, I.base.tbls⟩, ⟨_, hn', fun j y v' e1 e2 e3 => ?_⟩, fun y c e => ?_, I.free, I.freeC, fun p hp => ?_, tracked ⟨oL, hoL, I.free⟩ hs, by simpa using I.len⟩ ⟨_, hs, .inl rfl⟩
    · exact (hs.2 b (Nat.ne_of_lt (Nat.lt_of_lt_of_le (Heap.lt_size e) I.ok.above))).trans (I.base.keep b o e n hb hx)
    · obtain ⟨sl, e1⟩ := I.base.slot b o e n hb hx
      exact ⟨sl, (hs.2 b (Nat.ne_of_lt (Nat.lt_of_lt_of_le (Heap.lt_size e) I.ok.above))).trans e1⟩
    · obtain ⟨o', e1⟩ := I.base.there b o e hx
      exact ⟨o', (hs.2 b (Nat.ne_of_lt (Nat.lt_of_lt_of_le (Heap.lt_size e) I.ok.above))).trans e1⟩
    · by_cases hj : j = i
      · subst hj
        rw [hi] at e1; cases e1
        rw [List.getElem?_set_self hiσ] at e2
        cases e2
        exact ⟨u, r, .inl ⟨hk, by simp⟩⟩
      · rw [List.getElem?_set_ne (Ne.symm hj)] at e2
        obtain ⟨u', r', q⟩ := hl j y v' e1 e2 e3
        refine ⟨u', r', ?_⟩
        rcases q with ⟨k, e⟩ | ⟨k, c, e, z⟩
        · refine .inl ⟨k, ?_⟩
          have : y ≠ x := fun e => hj (nodup_ix hN e1 (e ▸ hi))
          simp [this, e]
        · exact .inr ⟨k, c, e, z.sameBut hs (cne y c e)⟩
    · obtain ⟨w', z⟩ := I.cell y c e
      exact ⟨w', z.sameBut hs (cne y c e)⟩
    · obtain ⟨e, n, ne, nf, d⟩ := I.pin p hp
      exact ⟨(hs.2 p.1 ne).trans e, n, ne, nf, d⟩
  · have hfn : X.fn x = true := by
      rcases hf with z | z
      · exact z
      · rw [z] at hk; cases hk
    obtain ⟨c, hc⟩ := I.ok.has x (.inl hk)
    obtain ⟨w', z⟩ := I.cell x c hc
    refine wpAny_storeName_cell I.ok.kind hk hc z (fun h' hc' hs => ?_)
    obtain ⟨oc, hoc, hocd⟩ := id z
    refine h { s with heap := h' } ⟨I.ok, I.os, I.bare, ⟨fun b o e n hb hx => ?_, fun b o e n hb hx => ?_, I.base.free, fun b o e hx => ?_, I.base.tups, I.base.frzs, I.base.tbls⟩, ⟨m, hn.sameBut hs (Ne.symm (cne x c hc)), fun j y v' e1 e2 e3 => ?_⟩, fun y c' e => ?_, I.free, I.freeC, fun p hp => ?_, tracked ⟨oc, hoc, I.freeC x c hc⟩ hs, by simpa using I.len⟩ ⟨c, hs, .inr hc⟩
    · exact (hs.2 b (Nat.ne_of_lt (Nat.lt_of_lt_of_le (Heap.lt_size e) (I.ok.cab x c hfn hc)))).trans (I.base.keep b o e n hb hx)
    · obtain ⟨sl, e1⟩ := I.base.slot b o e n hb hx
      exact ⟨sl, (hs.2 b (Nat.ne_of_lt (Nat.lt_of_lt_of_le (Heap.lt_size e) (I.ok.cab x c hfn hc)))).trans e1⟩
    · obtain ⟨o', e1⟩ := I.base.there b o e hx
      exact ⟨o', (hs.2 b (Nat.ne_of_lt (Nat.lt_of_lt_of_le (Heap.lt_size e) (I.ok.cab x c hfn hc)))).trans e1⟩
    · by_cases hj : j = i
      · subst hj
        rw [hi] at e1; cases e1
        rw [List.getElem?_set_self hiσ] at e2
        cases e2
        exact ⟨u, r, .inr ⟨.inl hk, c, hc, hc'⟩⟩
      · rw [List.getElem?_set_ne (Ne.symm hj)] at e2
        obtain ⟨u', r', q⟩ := hl j y v' e1 e2 e3
        refine ⟨u', r', ?_⟩
        rcases q with q | ⟨k, c', e, z'⟩
        · exact .inl q
        · refine .inr ⟨k, c', e, z'.sameBut hs ?_⟩
          rintro rfl
          exact hj (nodup_ix hN e1 (I.ok.inj _ _ _ e hc ▸ hi))
    · by_cases hcc : c' = c
      · subst hcc; exact ⟨_, hc'⟩
      · obtain ⟨w2, z2⟩ := I.cell y c' e
        exact ⟨w2, z2.sameBut hs hcc⟩
    · obtain ⟨e, n, ne, nf, d⟩ := I.pin p hp
      refine ⟨(hs.2 p.1 ?_).trans e, n, ne, nf, d⟩
      intro q
      rw [q, hoc] at e
      have q' : oc = p.2 := Option.some.inj e
      exact d w' (by rw [← q']; exact hocd)
theorem store_ok {M : Model} {A : Around} {E : Value → Shared → Prop} {i : Nat} {x : Str} {v : V} {u : Value} {Q : Unit → Shared → Prop} (I : Inv X pins σ H s) (hN : X.N.Nodup) (hi : X.N[i]? = some x) (hx : Loc X.env.scope x) (r : RelV v u)
    (h : ∀ s', Inv X pins (σ.set i (some v)) H s' → Q () s') (hf : X.fn x = true ∨ X.env.scope.names.lookup x = some .local := by first | exact .inl rfl | exact .inr rfl | assumption) : wpAny M A (storeName X.env x u) Q E s :=
  store_ok2 I hN hi hx r (fun s' I' _ => h s' I') hf
/-- behind a call or a block, the state as it is -/
theorem Inv.call' {s' : Shared} {ch : List Addr} (I : Inv X pins σ H s) (ho : s'.os = s.os) (u : Un (frs X.stack) ch H H' s.heap s'.heap) (hok : HOk X.prog X.w H' s'.heap) (hg : AllBare s'.gens)
    (hch : ∀ b ∈ ch, (b ∈ X.ex ∨ X.s₀.heap.objs.size ≤ b) ∧ b ≠ X.env.locals ∧ (∀ x c, X.env.cells.lookup x = some c → c ≠ b) ∧ ∀ p ∈ X.pn ++ pins, p.1 ≠ b) : Inv X pins σ H' s' := by
  obtain ⟨h', g', d', t', o'⟩ := s'
  have e : o' = s.os := ho
  subst e
  exact I.call (g' := g') (t' := t') (d' := d') u hok hg hch
end

/-! ### the judgements -/
/-- an exception: its class, its own dict's address (where it has one), the abstract heap behind it -/
noncomputable abbrev XK := Value → Option Addr → Hp → Prop
noncomputable abbrev St := List (Option V)
noncomputable abbrev VK := V → Hp → Prop
/-- an expression's reading; a test's; an argument list's -/
noncomputable abbrev TE := St → Hp → VK → Prop
noncomputable abbrev TT := St → Hp → (Bool → Hp → Prop) → Prop
noncomputable abbrev TA := St → Hp → (List V → Hp → Prop) → Prop
/-- what is wanted behind a statement -/
structure Ends where
  nx : St → Hp → Prop
  rt : VK
  bk : St → Hp → Prop := fun _ _ => False
  ct : St → Hp → Prop := fun _ _ => False
noncomputable abbrev TS := Ends → St → Hp → Prop

noncomputable def EP (X : Cx) (pins : List (Addr × Obj)) (σ : St) (Q : VK) (u : Value) (s' : Shared) : Prop := ∃ v H', Inv X pins σ H' s' ∧ RelV v u ∧ Q v H'
noncomputable def TP (X : Cx) (pins : List (Addr × Obj)) (σ : St) (Q : Bool → Hp → Prop) (b : Bool) (s' : Shared) : Prop := ∃ H', Inv X pins σ H' s' ∧ Q b H'
noncomputable def AP (X : Cx) (pins : List (Addr × Obj)) (σ : St) (Q : List V → Hp → Prop) (us : List Value) (s' : Shared) : Prop := ∃ vs H', Inv X pins σ H' s' ∧ Vals vs us ∧ Q vs H'
noncomputable def SP (X : Cx) (pins : List (Addr × Obj)) (D : Ends) (f : Flow) (s' : Shared) : Prop :=
  match f with
  | .next => ∃ σ' H', Inv X pins σ' H' s' ∧ D.nx σ' H'
  | .brk => ∃ σ' H', Inv X pins σ' H' s' ∧ D.bk σ' H'
  | .cont => ∃ σ' H', Inv X pins σ' H' s' ∧ D.ct σ' H'
  | .ret u => ∃ v σ' H', Inv X pins σ' H' s' ∧ RelV v u ∧ D.rt v H'

noncomputable def PE (X : Cx) (e : Expr) (t : TE) : Prop :=
  ∀ (pins : List (Addr × Obj)) (s : Shared) (σ : St) (H : Hp) (Q : VK), Inv X pins σ H s → t σ H Q → wpAny (model X.prog X.w) X.A (eval e X.env) (EP X pins σ Q) X.xe s
noncomputable def PT (X : Cx) (e : Expr) (t : TT) : Prop :=
  ∀ (pins : List (Addr × Obj)) (s : Shared) (σ : St) (H : Hp) (Q : Bool → Hp → Prop), Inv X pins σ H s → t σ H Q → wpAny (model X.prog X.w) X.A (isTrue e X.env (eval e X.env)) (TP X pins σ Q) X.xe s
/-- a test whatever its 'whole' is (and, or) -/
noncomputable def PW (X : Cx) (e : Expr) (t : TT) : Prop :=
  ∀ (whole : Sem Value) (pins : List (Addr × Obj)) (s : Shared) (σ : St) (H : Hp) (Q : Bool → Hp → Prop), Inv X pins σ H s → t σ H Q → wpAny (model X.prog X.w) X.A (isTrue e X.env whole) (TP X pins σ Q) X.xe s
theorem PW.pt {X : Cx} {e : Expr} {t : TT} (h : PW X e t) : PT X e t := h _
/-- an argument list (no star), from the left -/
noncomputable def PA (X : Cx) (es : List Expr) (t : TA) : Prop :=
  ∀ (pos : Pos) (pins : List (Addr × Obj)) (s : Shared) (σ : St) (H : Hp) (Q : List V → Hp → Prop), Inv X pins σ H s → t σ H Q → wpAny (model X.prog X.w) X.A (spliced (backTo pos (starEach es X.env))) (AP X pins σ Q) X.xe s
noncomputable def PS (X : Cx) (st : Stmt) (t : TS) : Prop :=
  ∀ (pins : List (Addr × Obj)) (s : Shared) (σ : St) (H : Hp) (D : Ends), Inv X pins σ H s → t D σ H → wpAny (model X.prog X.w) X.A (exec st X.env) (SP X pins D) X.xe s
noncomputable def PSs (X : Cx) (st : List Stmt) (t : TS) : Prop :=
  ∀ (pins : List (Addr × Obj)) (s : Shared) (σ : St) (H : Hp) (D : Ends), Inv X pins σ H s → t D σ H → wpAny (model X.prog X.w) X.A (execs st X.env) (SP X pins D) X.xe s
/-- weaken the end -/
theorem thn {α : Type} {t : Sem α} {Q Q' : α → Shared → Prop} {M : Model} {A : Around} {E : Value → Shared → Prop} {s : Shared} (h : wpAny M A t Q E s) (hQ : ∀ a s, Q a s → Q' a s) : wpAny M A t Q' E s := wpAny_mono h hQ fun _ _ x => x
end L2

namespace L2
open PySem PySem.Spec PyProof.Rows
section
variable {X : Cx}

/-! ### names and constants -/
noncomputable def tVar (i : Nat) : TE := fun σ H Q => ∃ v, σ[i]? = some (some v) ∧ Q v H
noncomputable def tC (v : V) : TE := fun _ H Q => Q v H
theorem pe_var {i : Nat} {x : Str} {pos : Pos} (hN : X.N[i]? = some x) (hv : Vis X.env.scope x) (hd : (x == ("__debug__" : Str)) = false := by decide) (hcd : (x == ("__classdict__" : Str)) = false := by decide) : PE X (.Name x pos) (tVar i) := by
  intro pins s σ H Q I h
  obtain ⟨v, e, h⟩ := h
  obtain ⟨m, hn, hl⟩ := I.loc
  obtain ⟨u, r, l⟩ := hl i x v hN e hv
  have fin : EP X pins σ Q u s := ⟨v, H, I, r, h⟩
  rcases l with ⟨hk, hm⟩ | ⟨hk, c, hc, hcell⟩
  · exact wpAny_Name (wpAny_loadName_local I.ok.kind hk hn hm fin) hd
  · rcases hk with hk | hk
    · exact wpAny_Name (wpAny_loadName_cell I.ok.kind hk hc hcell fin) hd
    · exact wpAny_Name (wpAny_loadName_free I.ok.kind hk hc hcell fin hcd) hd
theorem pe_int {i j pos} : PE X (.Constant (.int i) j pos) (tC (.int i)) := fun _ _ _ H _ I h => wpAny_Constant_int ⟨.int i, H, I.tok _, ⟨_, rfl⟩, h⟩
theorem pe_bl {b j pos} : PE X (.Constant (.bool b) j pos) (tC (.bl b)) := fun _ _ _ H _ I h => Constant_bool ⟨.bl b, H, I, rfl, h⟩
theorem pe_non {j pos} : PE X (.Constant .none j pos) (tC .non) := fun _ _ _ H _ I h => Constant_none ⟨.non, H, I, rfl, h⟩
theorem pe_str {x j pos} : PE X (.Constant (.str x) j pos) (tC (.str x)) := fun _ _ _ H _ I h => Calls.Constant_str ⟨.str x, H, I.tok _, ⟨_, rfl⟩, h⟩

/-- a global name of the def -/
noncomputable def Gl (X : Cx) (x : Str) : Prop := X.env.kindOf x = some .globalImplicit
theorem ld_glob {E : Value → Shared → Prop} {pins : List (Addr × Obj)} {s : Shared} {σ : St} {H : Hp} {x : Str} {u : Value} {pos : Pos} {Q : Value → Shared → Prop} (I : Inv X pins σ H s) (hg : Gl X x) (hm : X.mg x = some u) (h : Q u s)
    (hd : (x == ("__debug__" : Str)) = false := by decide) : wpAny (model X.prog X.w) X.A (eval (.Name x pos) X.env) Q E s :=
  Calls.Name_function_global I.ok.kind hg (Calls.loadGlobal_global (by rw [I.ok.glob]; exact I.mod.glob.keeps I.bk) hm h) hd
theorem ld_blt {E : Value → Shared → Prop} {pins : List (Addr × Obj)} {s : Shared} {σ : St} {H : Hp} {x : Str} {u : Value} {pos : Pos} {Q : Value → Shared → Prop} (I : Inv X pins σ H s) (hg : Gl X x) (hm : X.mg x = none) (hv : bootBuiltins x = some u) (h : Q u s)
    (hn : x ≠ "__name__" := by decide) (hd : (x == ("__debug__" : Str)) = false := by decide) : wpAny (model X.prog X.w) X.A (eval (.Name x pos) X.env) Q E s := by
  obtain ⟨mb, h1, h2⟩ := I.mod.blt
  exact Calls.Name_function_global I.ok.kind hg (Calls.loadGlobal_builtin (by rw [I.ok.glob]; exact I.mod.glob.keeps I.bk) hm (by rw [I.ok.blt]; exact h1.keeps I.bk) ((h2 x hn).trans hv) h) hd
theorem pe_bltn {x : Str} {v : V} {u : Value} {pos : Pos} (hg : Gl X x) (hm : X.mg x = none) (hv : bootBuiltins x = some u) (r : RelV v u) (hn : x ≠ "__name__" := by decide) (hd : (x == ("__debug__" : Str)) = false := by decide) : PE X (.Name x pos) (tC v) :=
  fun _ _ _ H _ I h => ld_blt I hg hm hv ⟨v, H, I, r, h⟩ hn hd

/-! ### arithmetic -/
variable {a b : Expr} {ta tb : TE} {pos : Pos}
/-! ### comparisons -/
/-- a comparison as a value, as a test -/
noncomputable def tB (t : TE) : TT := fun σ H Q => t σ H fun x H1 => ∃ c, x = .bl c ∧ Q c H1
/-- an expression whose value is a bool, as a test -/
theorem pt_val {e : Expr} {t : TE} (h : PE X e t) (he : ∀ whole, isTrue e X.env whole = (do let v ← whole; standAt e.pos; holding [v] (truthy v)) := by intro _; rfl) : PT X e (tB t) := by
  intro pins s σ H Q I hw
  refine isTrue_plain (thn (h pins s σ H _ I hw) fun v s1 hsl1 => ?_) (he _)
  obtain ⟨x, H1, I1, r1, q1⟩ := hsl1
  obtain ⟨d, rfl, q⟩ := q1
  cases r1
  exact wpAny_truthy_bool ⟨H1, I1, q⟩

/-! ### and, or, not -/
variable {tA tB' : TT} {rest : List Expr}
noncomputable def tAnd (t u : TT) : TT := fun σ H Q => t σ H fun c H1 => if c = true then u σ H1 Q else Q false H1
noncomputable def tOr (t u : TT) : TT := fun σ H Q => t σ H fun c H1 => if c = true then Q true H1 else u σ H1 Q
noncomputable def tNot (t : TT) : TT := fun σ H Q => t σ H fun c H1 => Q (!c) H1
theorem pw_and1 (ha : PT X a tA) : PW X (.BoolOp .And [a] pos) tA := by
  intro wh pins s σ H Q I h
  refine isTrue_and (thn (ha pins s σ H Q I h) fun c s1 e => ?_)
  cases c with
  | true => exact isTrue_and_nil e
  | false => exact e
theorem pw_or1 (ha : PT X a tA) : PW X (.BoolOp .Or [a] pos) tA := by
  intro wh pins s σ H Q I h
  refine isTrue_or (thn (ha pins s σ H Q I h) fun c s1 e => ?_)
  cases c with
  | false => exact isTrue_or_nil e
  | true => exact e
theorem pw_and (ha : PT X a tA) (hb : PW X (.BoolOp .And (b :: rest) pos) tB') : PW X (.BoolOp .And (a :: b :: rest) pos) (tAnd tA tB') := by
  intro wh pins s σ H Q I h
  refine isTrue_and (thn (ha pins s σ H _ I h) fun c s1 hsl2 => ?_)
  obtain ⟨H1, I1, q1⟩ := hsl2
  cases c with
  | true => exact hb wh pins s1 σ H1 Q I1 q1
  | false => exact ⟨H1, I1, q1⟩
theorem pw_or (ha : PT X a tA) (hb : PW X (.BoolOp .Or (b :: rest) pos) tB') : PW X (.BoolOp .Or (a :: b :: rest) pos) (tOr tA tB') := by
  intro wh pins s σ H Q I h
  refine isTrue_or (thn (ha pins s σ H _ I h) fun c s1 hsl3 => ?_)
  obtain ⟨H1, I1, q1⟩ := hsl3
  cases c with
  | true => exact ⟨H1, I1, q1⟩
  | false => exact hb wh pins s1 σ H1 Q I1 q1
theorem pt_not (ha : PT X a tA) : PT X (.UnaryOp .Not a pos) (tNot tA) := by
  intro pins s σ H Q I h
  exact isTrue_not (ha pins s σ H (fun c H1 => Q (!c) H1) I h)
end
end L2

namespace L2
open PySem PySem.Spec PyProof.Rows

/-! ### a list, a tuple that is read: tracked, frozen, or an object of the module -/
noncomputable def SqL (K : PySem.W.Frag) (H : Hp) (a : Addr) (xs : List V) : Prop :=
  Rd H a (.lst xs) ∨
    ∃ (o : Obj) (its : Array Value) (n : Nat), K.lookup a = some o ∧ o.cls = .type "list" ∧ o.dict = none ∧ o.data = .seq its n ∧ its.size ≤ sizeLine ∧ Vals xs its.toList
noncomputable def SqT (K : PySem.W.Frag) (H : Hp) (a : Addr) (xs : List V) : Prop :=
  Rd H a (.tup xs) ∨
    ∃ (o : Obj) (its : Array Value) (n : Nat), K.lookup a = some o ∧ o.cls = .type "tuple" ∧ o.data = .seq its n ∧ its.size ≤ sizeLine ∧ Vals xs its.toList
noncomputable def absV : Value → Option V
  | .none => some .non
  | .bool b => some (.bl b)
  | .int i _ => some (.int i)
  | .str x _ => some (.str x)
  | .bytes b _ => some (.byt b)
  | .float b _ => some (.flt b)
  | .ref a => some (.ref a)
  | .type n => some (.ty n)
  | _ => none
theorem RelV.abs {x : V} {u : Value} (r : RelV x u) : absV u = some x := by
  cases x with
  | non => cases r; rfl
  | bl _ => cases r; rfl
  | int _ => obtain ⟨t, rfl⟩ := r; rfl
  | str _ => obtain ⟨t, rfl⟩ := r; rfl
  | byt _ => obtain ⟨t, rfl⟩ := r; rfl
  | flt _ => obtain ⟨t, rfl⟩ := r; rfl
  | ref _ => cases r; rfl
  | ty _ => cases r; rfl
theorem RelV.inj {x y : V} {u : Value} (r : RelV x u) (q : RelV y u) : x = y := Option.some.inj (r.abs.symm.trans q.abs)
theorem Vals.inj : ∀ {xs ys : List V} {us : List Value}, Vals xs us → Vals ys us → xs = ys
  | _, _, _, .nil, .nil => rfl
  | _, _, _, .cons r t, .cons r' t' => by rw [r.inj r', Vals.inj t t']
section
variable {X : Cx} {pins : List (Addr × Obj)} {σ : St} {H : Hp} {s : Shared} {a : Addr} {xs ys : List V}
theorem SqL.of {K : PySem.W.Frag} (h : H a = some (.lst xs)) : SqL K H a xs := .inl (.inl h)
theorem SqT.of {K : PySem.W.Frag} (h : H a = some (.tup xs)) : SqT K H a xs := .inl (.inl h)
theorem Inv.list (I : Inv X pins σ H s) (h : SqL X.K H a xs) : ∃ its : List Value, Vals xs its ∧ PlainL s.heap a its.toArray ∧ xs.length ≤ sizeLine := by
  rcases h with h | ⟨o, its, n, hk, hc, hd, hs, hz, r⟩
  · obtain ⟨z, its, n, r, e⟩ := h.ok I.hok
    exact ⟨its, r, ⟨_, n, e, rfl, rfl, rfl⟩, z⟩
  · refine ⟨its.toList, r, ⟨o, n, I.kIn a o hk, hc, hd, by simpa using hs⟩, ?_⟩
    have e := r.length
    simp only [Array.length_toList] at e
    omega
theorem Inv.tuple (I : Inv X pins σ H s) (h : SqT X.K H a xs) : ∃ its : List Value, Vals xs its ∧ IsTup s.heap a its.toArray ∧ xs.length ≤ sizeLine := by
  rcases h with h | ⟨o, its, n, hk, hc, hs, hz, r⟩
  · obtain ⟨z, its, r, p⟩ := h.ok I.hok
    exact ⟨its, r, p, z⟩
  · refine ⟨its.toList, r, ⟨o, I.kIn a o hk, hc, n, by simpa using hs⟩, ?_⟩
    have e := r.length
    simp only [Array.length_toList] at e
    omega
theorem Inv.list_inj (I : Inv X pins σ H s) (h : SqL X.K H a xs) (h' : SqL X.K H a ys) : xs = ys := by
  obtain ⟨its, r, ⟨o, n, e, _, _, d⟩, _⟩ := I.list h
  obtain ⟨its', r', ⟨o', n', e', _, _, d'⟩, _⟩ := I.list h'
  rw [e] at e'; cases e'
  rw [d] at d'
  injection d' with d1 _
  have : its = its' := by simpa using congrArg Array.toList d1
  subst this
  exact r.inj r'
end

/-! ### another wish about exceptions -/
noncomputable abbrev Cx.wish (X : Cx) (E : Value → Shared → Prop) : Cx := { X with xe := E }
/-- no exception leaves -/
noncomputable abbrev Cx.nox (X : Cx) : Cx := X.wish fun _ _ => False
theorem Cx.Ok.wish {X : Cx} (ok : X.Ok) (E : Value → Shared → Prop) : (X.wish E).Ok :=
  ⟨ok.mod, ok.kind, ok.glob, ok.blt, ok.above, ok.inj, ok.has, ok.cab, ok.hd, ok.frames, ok.stk, ok.exf, ok.bs, ok.bsz, ok.noex, ok.exfs, ok.funs, ok.frf⟩
theorem Cx.Ok.unwish {X : Cx} {E : Value → Shared → Prop} (ok : (X.wish E).Ok) : X.Ok :=
  ⟨ok.mod, ok.kind, ok.glob, ok.blt, ok.above, ok.inj, ok.has, ok.cab, ok.hd, ok.frames, ok.stk, ok.exf, ok.bs, ok.bsz, ok.noex, ok.exfs, ok.funs, ok.frf⟩
section
variable {X : Cx} {pins : List (Addr × Obj)} {σ : St} {H : Hp} {s : Shared} {E : Value → Shared → Prop}
theorem Inv.wish (I : Inv X pins σ H s) (E : Value → Shared → Prop) : Inv (X.wish E) pins σ H s := ⟨I.ok.wish E, I.os, I.bare, I.base, I.loc, I.cell, I.free, I.freeC, I.pin, I.hok, I.len⟩
theorem Inv.unwish (I : Inv (X.wish E) pins σ H s) : Inv X pins σ H s := ⟨I.ok.unwish, I.os, I.bare, I.base, I.loc, I.cell, I.free, I.freeC, I.pin, I.hok, I.len⟩
theorem SP.unwish {D : Ends} {f : Flow} {s' : Shared} (h : SP (X.wish E) pins D f s') : SP X pins D f s' := by
  cases f with
  | next => obtain ⟨σ', H', I, q⟩ := h; exact ⟨σ', H', I.unwish, q⟩
  | brk => obtain ⟨σ', H', I, q⟩ := h; exact ⟨σ', H', I.unwish, q⟩
  | cont => obtain ⟨σ', H', I, q⟩ := h; exact ⟨σ', H', I.unwish, q⟩
  | ret u => obtain ⟨v, σ', H', I, r, q⟩ := h; exact ⟨v, σ', H', I.unwish, r, q⟩
theorem PE.nox {e : Expr} {t : TE} (h : PE X.nox e t) : PE X e t := fun pins s σ H Q I hw =>
  wpAny_mono (h pins s σ H Q (I.wish _) hw) (fun _ _ hsl4 => by obtain ⟨v, H', I', r, q⟩ := hsl4; exact ⟨v, H', I'.unwish, r, q⟩) fun _ _ z => False.elim z
theorem PT.nox {e : Expr} {t : TT} (h : PT X.nox e t) : PT X e t := fun pins s σ H Q I hw =>
  wpAny_mono (h pins s σ H Q (I.wish _) hw) (fun _ _ hsl5 => by obtain ⟨H', I', q⟩ := hsl5; exact ⟨H', I'.unwish, q⟩) fun _ _ z => False.elim z
theorem PSs.nox {st : List Stmt} {t : TS} (h : PSs X.nox st t) : PSs X st t := fun pins s σ H D I hw =>
  wpAny_mono (h pins s σ H D (I.wish _) hw) (fun _ _ q => q.unwish) fun _ _ z => False.elim z
end

/-! ### blocks and small statements -/
section
variable {X : Cx} {st : Stmt} {rest : List Stmt} {t u : TS} {e : Expr} {te : TE} {pos : Pos}
noncomputable def tNext : TS := fun D σ H => D.nx σ H
noncomputable def tSeq (t u : TS) : TS := fun D σ H => t { D with nx := u D } σ H
theorem pss_nil : PSs X [] tNext := fun _ _ σ H _ I h => wpAny_execs_nil ⟨σ, H, I, h⟩
theorem pss_cons (h1 : PS X st t) (h2 : PSs X rest u) : PSs X (st :: rest) (tSeq t u) := by
  intro pins s σ H D I h
  refine wpAny_execs_cons (thn (h1 pins s σ H { D with nx := u D } I h) fun f s1 q => ?_)
  cases f with
  | next =>
    obtain ⟨σ', H', I', q⟩ := q
    exact h2 pins s1 σ' H' D I' q
  | ret v => exact q
  | brk => exact q
  | cont => exact q
theorem pss_one (h1 : PS X st t) : PSs X [st] t := by
  intro pins s σ H D I h
  refine wpAny_execs_cons (thn (h1 pins s σ H D I h) fun f s1 q => ?_)
  cases f with
  | next => exact wpAny_execs_nil q
  | ret v => exact q
  | brk => exact q
  | cont => exact q
/-- in a def's body nothing is shown -/
theorem Inv.quiet {pins : List (Addr × Obj)} {σ : St} {H : Hp} {s : Shared} (I : Inv X pins σ H s) : interactive X.env = false := by simp [interactive, I.ok.kind]
/-- an expression whose value is dropped -/
noncomputable def tDrop (te : TE) : TS := fun D σ H => te σ H fun _ H1 => D.nx σ H1
theorem ps_expr (he : PE X e te) (hs : swapsWith e none pos.line X.env = pure false := by rfl) : PS X (.Expr e pos) (tDrop te) := by
  intro pins s σ H D I h
  exact wpAny_Expr_any (thn (he pins s σ H _ I h) fun v s1 hsl6 => by obtain ⟨x, H1, I1, r1, q1⟩ := hsl6; exact ⟨σ, H1, I1, q1⟩) I.quiet hs
noncomputable def tRet (te : TE) : TS := fun D σ H => te σ H D.rt
theorem ps_ret (he : PE X e te) : PS X (.Return (some e) pos) (tRet te) := by
  intro pins s σ H D I h
  exact wpAny_Return_some (thn (he pins s σ H _ I h) fun v s1 hsl7 => by obtain ⟨x, H1, I1, r1, q1⟩ := hsl7; exact ⟨x, σ, H1, I1, r1, q1⟩)
noncomputable def tIfS (c : TT) (t u : TS) : TS := fun D σ H => c σ H fun b H1 => if b = true then t D σ H1 else u D σ H1
theorem ps_if {c : Expr} {a b : List Stmt} {tc : TT} (hc : PT X c tc) (ha : PSs X a t) (hb : PSs X b u) : PS X (.If c a b pos) (tIfS tc t u) := by
  intro pins s σ H D I h
  refine wpAny_If (thn (hc pins s σ H _ I h) fun d s1 hsl8 => ?_)
  obtain ⟨H1, I1, q1⟩ := hsl8
  cases d with
  | true => exact ha pins s1 σ H1 D I1 q1
  | false => exact hb pins s1 σ H1 D I1 q1
end

/-! ### targets -/
noncomputable abbrev TG := V → St → Hp → (St → Hp → Prop) → Prop
noncomputable abbrev TGs := List V → St → Hp → (St → Hp → Prop) → Prop
noncomputable def PG (X : Cx) (target : Expr) (t : TG) : Prop :=
  ∀ (pins : List (Addr × Obj)) (s : Shared) (σ : St) (H : Hp) (v : V) (u : Value) (Q : St → Hp → Prop), Inv X pins σ H s → RelV v u → t v σ H Q →
    wpAny (model X.prog X.w) X.A (assign target X.env u) (fun _ s' => ∃ σ' H', Inv X pins σ' H' s' ∧ Q σ' H') X.xe s
/-- several targets, one after another -/
noncomputable def PGs (X : Cx) (ts : List Expr) (t : TGs) : Prop :=
  ∀ (pins : List (Addr × Obj)) (s : Shared) (σ : St) (H : Hp) (vs : List V) (us : List Value) (Q : St → Hp → Prop), Inv X pins σ H s → Vals vs us → t vs σ H Q →
    wpAny (model X.prog X.w) X.A (assignInOrder ((assignEach ts X.env).map (·.2)) us) (fun _ s' => ∃ σ' H', Inv X pins σ' H' s' ∧ Q σ' H') X.xe s
/-- o[i] = v, by values -/
noncomputable abbrev TSet := V → V → V → Hp → (Hp → Prop) → Prop
noncomputable def PSet (X : Cx) (t : TSet) : Prop :=
  ∀ (pins : List (Addr × Obj)) (s : Shared) (σ : St) (H : Hp) (o i v : V) (ov iv u : Value) (Q : Hp → Prop), Inv X pins σ H s → RelV o ov → RelV i iv → RelV v u → t o i v H Q →
    wpAny (model X.prog X.w) X.A (setItem ov iv u) (fun _ s' => ∃ H', Inv X pins σ H' s' ∧ Q H') X.xe s
section
variable {X : Cx} {pos : Pos}
noncomputable def gName (i : Nat) : TG := fun v σ H Q => Q (σ.set i (some v)) H
theorem pg_name {i : Nat} {x : Str} (hN : X.N.Nodup) (hi : X.N[i]? = some x) (hx : Loc X.env.scope x) (hf : X.fn x = true ∨ X.env.scope.names.lookup x = some .local := by first | exact .inl rfl | exact .inr rfl | assumption) : PG X (.Name x pos) (gName i) := by
  intro pins s σ H v u Q I r h
  exact wpAny_assign_Name (store_ok I hN hi hx r (fun s' I' => ⟨_, H, I', h⟩) hf)
noncomputable def gNil : TGs := fun vs σ H Q => vs = [] ∧ Q σ H
noncomputable def gCons (t : TG) (u : TGs) : TGs := fun vs σ H Q => ∃ v r, vs = v :: r ∧ t v σ H fun σ' H' => u r σ' H' Q
theorem pgs_nil : PGs X [] gNil := by
  intro pins s σ H vs us Q I r h
  obtain ⟨e, h⟩ := h
  subst e
  cases r
  exact assignInOrder_nil ⟨σ, H, I, h⟩
theorem pgs_cons {e : Expr} {es : List Expr} {t : TG} {u : TGs} (h1 : PG X e t) (h2 : PGs X es u)
    (hs : (assignEach (e :: es) X.env).map (·.2) = assign e X.env :: (assignEach es X.env).map (·.2) := by rfl) : PGs X (e :: es) (gCons t u) := by
  intro pins s σ H vs us Q I r h
  obtain ⟨v, vr, e1, h⟩ := h
  subst e1
  cases r with
  | cons r rr =>
    rw [hs]
    refine assignInOrder_cons (thn (h1 pins s σ H _ _ _ I r h) fun _ s1 hsl9 => ?_)
    obtain ⟨σ1, H1, I1, q1⟩ := hsl9
    exact h2 pins s1 σ1 H1 _ _ Q I1 rr q1
/-- (a, b, ..) = a tuple of that length -/
noncomputable def gTup (K : PySem.W.Frag) (n : Nat) (t : TGs) : TG := fun v σ H Q => ∃ a xs, v = .ref a ∧ SqT K H a xs ∧ xs.length = n ∧ t xs σ H Q
theorem pg_tup {es : List Expr} {k : Nat} {t : TGs} {n : Nat} (hc : X.calm = true) (h : PGs X es t)
    (hn : (assignEach es X.env).length = n := by rfl) (hst : (assignEach es X.env).findIdx? (·.1) = none := by rfl) : PG X (.Tuple es k pos) (gTup X.K n t) := by
  intro pins s σ H v u Q I r hw
  obtain ⟨a, xs, e1, hq, hl, hw⟩ := hw
  subst e1
  cases r
  obtain ⟨its, rv, ht, hz⟩ := I.tuple hq
  refine assign_Tuple_tuple (I.ok.hd hc) ht (by simp [hn, ← hl, rv.length]) hst fun h' hx => ?_
  have I1 : Inv X pins σ H { s with heap := h' } := I.kept (t' := s.toks) fun b o e => hx b o (Nat.ne_of_lt (Heap.lt_size e)) e
  exact h pins _ σ H xs _ Q I1 (by simpa using rv) hw
/-- o[i] = .. -/
noncomputable def gSub (to ti : TE) (t : TSet) : TG := fun v σ H Q => to σ H fun o H1 => ti σ H1 fun i H2 => t o i v H2 fun H3 => Q σ H3
theorem pg_sub {o i : Expr} {to ti : TE} {t : TSet} (ho : PE X o to) (hi : PE X i ti) (hs : PSet X t)
    (ha : ∀ v, assign (.Subscript o i pos) X.env v = (do
      let ov ← holding [v] (eval o X.env)
      let iv ← holding [v, ov] (eval i X.env)
      standAt pos
      holding [v, ov, iv] (setItem ov iv v)
      release [v, ov, iv] []) := by intro _; rfl) : PG X (.Subscript o i pos) (gSub to ti t) := by
  intro pins s σ H v u Q I r h
  rw [ha]
  refine wpAny_bind (wpAny_holding (thn (ho pins s σ H _ I h) fun ov s1 hsl10 => ?_))
  obtain ⟨x, H1, I1, r1, q1⟩ := hsl10
  refine wpAny_bind (wpAny_holding (thn (hi pins s1 σ H1 _ I1 q1) fun iv s2 hsl11 => ?_))
  obtain ⟨y, H2, I2, r2, q2⟩ := hsl11
  refine wpAny_bind (wpAny_standAt (wpAny_bind (wpAny_holding (thn (hs pins s2 σ H2 x y v ov iv u _ I2 r1 r2 r q2) fun _ s3 hsl12 => ?_))))
  obtain ⟨H3, I3, q3⟩ := hsl12
  exact wpAny_release ⟨σ, H3, I3, q3⟩
/-- target = value -/
noncomputable def tAsg (te : TE) (g : TG) : TS := fun D σ H => te σ H fun x H1 => g x σ H1 D.nx
theorem ps_asg {tg e : Expr} {te : TE} {g : TG} (he : PE X e te) (hg : PG X tg g) (hs : swapsWithSole [tg] e pos.line X.env = pure false := by rfl) (hw : swappedStores [tg] e X.env = pure none := by rfl)
    (h1 : (assignEach [tg] X.env).map (·.2) = [assign tg X.env] := by rfl) : PS X (.Assign [tg] e pos) (tAsg te g) := by
  intro pins s σ H D I h
  refine wpAny_Assign_stores (thn (he pins s σ H _ I h) fun v s1 hsl13 => ?_) hs hw
  obtain ⟨x, H1, I1, r1, q1⟩ := hsl13
  rw [h1]
  exact thn (hg pins s1 σ H1 x v _ I1 r1 q1) fun _ s2 q => q
/-- name = value -/
theorem ps_set {i : Nat} {x : Str} {e : Expr} {te : TE} {pos' : Pos} (hN : X.N.Nodup) (hi : X.N[i]? = some x) (hx : Loc X.env.scope x) (he : PE X e te) (hs : swapsWith e (some (.Name x pos')) pos.line X.env = pure false := by rfl) (hf : X.fn x = true ∨ X.env.scope.names.lookup x = some .local := by first | exact .inl rfl | exact .inr rfl | assumption) :
    PS X (.Assign [.Name x pos'] e pos) (tAsg te (gName i)) := by
  intro pins s σ H D I h
  refine wpAny_Assign_Name (thn (he pins s σ H _ I h) fun v s1 hsl14 => ?_) hs
  obtain ⟨y, H1, I1, r1, q1⟩ := hsl14
  exact store_ok I1 hN hi hx r1 (fun s2 I2 => ⟨_, H1, I2, q1⟩) hf
end

/-! ### while -/
section
variable {X : Cx} {pos : Pos}
end

/-! ### what a loop or a comprehension walks -/
/-- at turn i: it yields x (the heap may grow), or it stops -/
structure It where
  go : Nat → Hp → Prop
  yld : Nat → Hp → V → Hp → Prop
  stop : Nat → Hp → Prop
/-- the iterator's own objects may turn: they are not the frame's, not pinned, younger than the entry (or a comprehension's own) -/
noncomputable def FpOk (X : Cx) (pins : List (Addr × Obj)) (H : Hp) (b : Addr) : Prop :=
  H b = none ∧ b ≠ X.env.locals ∧ b ∉ X.fs ∧ (b ∈ X.ex ∨ X.s₀.heap.objs.size ≤ b) ∧ (∀ x c, X.env.cells.lookup x = some c → c ≠ b) ∧ ∀ p ∈ X.pn ++ pins, p.1 ≠ b
theorem Inv.fpOk {X : Cx} {pins : List (Addr × Obj)} {σ : St} {H H' : Hp} {s : Shared} {b : Addr} (I : Inv X pins σ H s) (hb : s.heap.objs.size ≤ b) (hn : H' b = none) : FpOk X pins H' b := by
  refine ⟨hn, Nat.ne_of_gt (Nat.lt_of_lt_of_le I.lt hb), I.nofs hb, .inr (Nat.le_trans I.sz hb), fun x c e z => ?_, fun p hp z => ?_⟩
  · obtain ⟨v, q⟩ := I.cell x c e
    exact absurd (Nat.lt_of_lt_of_le q.lt (by rw [z]; exact hb)) (Nat.lt_irrefl _)
  · exact absurd (Nat.lt_of_lt_of_le (Heap.lt_size (I.pin p hp).1) (by rw [z]; exact hb)) (Nat.lt_irrefl _)
structure Turn (P : Program) (w : World) (K : PySem.W.Frag) (tg : Expr) (J : It) (fp : List Addr) (it : Addr) (tn : Nat → Heap → Prop) : Prop where
  mem : it ∈ fp
  obj : ∀ i h, tn i h → ∀ b ∈ fp, ∃ o, h.get? b = some o ∧ ∀ v, o.data ≠ .cell v
  keep : ∀ i h h', tn i h → (∀ b ∈ fp, ∀ o, h.get? b = some o → h'.get? b = some o) → tn i h'
  item : ∀ (X : Cx), X.prog = P → X.w = w → X.K = K → X.calm = true → ∀ (i : Nat) (pins : List (Addr × Obj)) (s : Shared) (σ : St) (H : Hp) (E : Value → Shared → Prop), Inv X pins σ H s → (∀ b ∈ fp, FpOk X pins H b) → tn i s.heap → J.go i H →
    wpAny (model P w) X.A (pyNext (.ref it)) (fun r s1 => ∃ u, r = some u ∧
      wpAny (model P w) X.A (letOwnedTupleGo tg (.ref it) u) (fun _ s2 => ∃ x H', Inv X pins σ H' s2 ∧ RelV x u ∧ J.yld i H x H' ∧ tn (i + 1) s2.heap ∧ ∀ b ∈ fp, H' b = none) E s1) E s
  done : ∀ (X : Cx), X.prog = P → X.w = w → X.K = K → X.calm = true → ∀ (i : Nat) (pins : List (Addr × Obj)) (s : Shared) (σ : St) (H : Hp) (E : Value → Shared → Prop), Inv X pins σ H s → (∀ b ∈ fp, FpOk X pins H b) → tn i s.heap → J.stop i H →
    wpAny (model P w) X.A (pyNext (.ref it)) (fun r s1 => r = none ∧ Inv X pins σ H s1) E s
  self : ∀ (A : Around) (i : Nat) (s : Shared) (Q : Value → Shared → Prop) (E : Value → Shared → Prop), tn i s.heap → Q (.ref it) s → wpAny (model P w) A (pyIter (.ref it)) Q E s
noncomputable abbrev TI := St → Hp → (It → Hp → Prop) → Prop
/-- an iterator has come -/
noncomputable def PIE (X : Cx) (pins : List (Addr × Obj)) (σ : St) (tg : Expr) (R : It → Hp → Prop) (itv : Value) (s2 : Shared) : Prop :=
  ∃ (it : Addr) (fp : List Addr) (tn : Nat → Heap → Prop) (J : It) (H' : Hp), itv = .ref it ∧ Inv X pins σ H' s2 ∧ Turn X.prog X.w X.K tg J fp it tn ∧ tn 0 s2.heap ∧ (∀ b ∈ fp, FpOk X pins H' b) ∧ R J H'
noncomputable def PI (X : Cx) (tg iter : Expr) (wi : TI) : Prop :=
  ∀ (pins : List (Addr × Obj)) (s : Shared) (σ : St) (H : Hp) (R : It → Hp → Prop), Inv X pins σ H s → wi σ H R →
    wpAny (model X.prog X.w) X.A (eval iter X.env) (fun v s1 => wpAny (model X.prog X.w) X.A (pyIter v) (PIE X pins σ tg R) X.xe s1) X.xe s

/-- the step ahead of the store is nothing for an iterator that keeps no tuple -/
theorem go_of {M : Model} {A : Around} {E : Value → Shared → Prop} {s : Shared} {tg : Expr} {it : Addr} {u : Value} {o : Obj} {n : String} {vs : Array Value} {Q : Unit → Shared → Prop} (ho : s.heap.get? it = some o) (hc : o.cls = .type n) (hd : o.data = .fields vs)
    (hn : ["enumerate", "zip", "dict_itemiterator", "dict_reverseitemiterator", "odict_iterator", "itertools.zip_longest", "itertools.pairwise"].contains n = false) (hQ : Q () s) : wpAny M A (letOwnedTupleGo tg (.ref it) u) Q E s := by
  unfold letOwnedTupleGo
  cases tg <;> first
    | exact wpAny_pure hQ
    | (cases u <;> first
        | exact wpAny_pure hQ
        | (refine wpAny_bind (wpAny_load ho ?_)
           rw [hc, hd]
           show wpAny M A (if (["enumerate", "zip", "dict_itemiterator", "dict_reverseitemiterator", "odict_iterator", "itertools.zip_longest", "itertools.pairwise"].contains n && vs[0]? == some (rawInt _)) = true then _ else _) Q E s
           rw [if_neg (by intro h; rw [hn, Bool.false_and] at h; cases h)]
           exact wpAny_pure hQ))

/-- the list at a, as it stands at each turn (a loop may append to it) -/
noncomputable def Itl (K : PySem.W.Frag) (a : Addr) : It :=
  ⟨fun i H => ∃ xs x, SqL K H a xs ∧ xs[i]? = some x, fun i H x H' => H' = H ∧ ∀ xs, SqL K H a xs → xs[i]? = some x, fun i H => ∃ xs, SqL K H a xs ∧ xs.length ≤ i⟩
/-- lo, lo + 1, .. (n of them) -/
noncomputable def Itr (lo : Int) (n : Nat) : It := ⟨fun i _ => i < n, fun i H x H' => H' = H ∧ x = .int (lo + i), fun i _ => n ≤ i⟩
theorem turn_list {P : Program} {w : World} {K : PySem.W.Frag} {tg : Expr} (a it : Addr) : Turn P w K tg (Itl K a) [it] it (fun i h => h.IsListIter it a i) where
  mem := by simp
  obj := fun i h st b hb => by
    have e : b = it := by simpa using hb
    subst e
    obtain ⟨o, e, c, d⟩ := st
    exact ⟨o, e, fun v z => by rw [d] at z; cases z⟩
  keep := fun i h h' st k => st.at fun o e => k it (by simp) o e
  item := by
    intro X hP hw hK hc i pins s σ H E I hf st hg
    subst hP hw hK
    obtain ⟨xs, x, hq, hx⟩ := hg
    obtain ⟨its, rv, p, hz⟩ := I.list hq
    obtain ⟨u, hu, ru⟩ := rv.get hx
    obtain ⟨f0, f1, f2, f3, f4, f5⟩ := hf it (by simp)
    refine wpAny_pyNext_list_item st p.isList (x := u) (by simpa using hu) fun h' st' sb => ?_
    have I1 : Inv X pins σ H { s with heap := h' } := I.turned (t' := s.toks) (fun b o hb e => (sb.2 b hb).trans e) f0 f1 f3 f4 f5
    obtain ⟨o, e, c, d⟩ := id st'
    exact ⟨u, rfl, go_of (s := { s with heap := h' }) e c d (by decide) ⟨x, H, I1, ru, ⟨rfl, fun ys hy => by rw [I.list_inj hy hq]; exact hx⟩, st', fun b hb => (hf b hb).1⟩⟩
  done := by
    intro X hP hw hK hc i pins s σ H E I hf st hg
    subst hP hw hK
    obtain ⟨xs, hq, hx⟩ := hg
    obtain ⟨its, rv, p, hz⟩ := I.list hq
    obtain ⟨f0, f1, f2, f3, f4, f5⟩ := hf it (by simp)
    have hl := rv.length
    exact wpAny_pyNext_list_end (I.ok.hd hc) st p.isList (by simp; omega) fun h' eb => ⟨rfl, I.turned (t' := s.toks) (fun b o hb e => eb b o hb e) f0 f1 f3 f4 f5⟩
  self := fun _ _ _ _ _ st h => wpAny_pyIter_listiter st h
theorem turn_range {P : Program} {w : World} {K : PySem.W.Frag} {tg : Expr} (it : Addr) (lo : Int) (n : Nat) : Turn P w K tg (Itr lo n) [it] it (fun i h => IsRangeIter h it (lo + (i : Nat) * 1) ((n : Int) - (i : Nat)) 1) where
  mem := by simp
  obj := fun i h st b hb => by
    have e : b = it := by simpa using hb
    subst e
    exact ⟨_, st, fun v z => by
      have z' : Data.fields _ = Data.cell v := z
      cases z'⟩
  keep := fun i h h' st k => k it (by simp) _ st
  item := by
    intro X hP hw hK hc i pins s σ H E I hf st hg
    subst hP hw hK
    obtain ⟨f0, f1, f2, f3, f4, f5⟩ := hf it (by simp)
    have W := Walks.range (prog := X.prog) (w := X.w) (I.ok.hd hc) it lo 1 n
    refine W.item i s _ _ hg st fun v h' tk hv st' kk => ?_
    obtain ⟨t, rfl⟩ := hv
    have I1 : Inv X pins σ H { s with heap := h', toks := tk } := I.turned (fun b o hb e => kk b o (by simpa using hb) e) f0 f1 f3 f4 f5
    refine ⟨_, rfl, go_of (s := { s with heap := h', toks := tk }) (n := "range_iterator") st' rfl rfl (by decide) ⟨.int (lo + i), H, I1, ⟨t, ?_⟩, ⟨rfl, rfl⟩, st', fun b hb => (hf b hb).1⟩⟩
    rw [Int.mul_one]
  done := by
    intro X hP hw hK hc i pins s σ H E I hf st hg
    subst hP hw hK
    obtain ⟨f0, f1, f2, f3, f4, f5⟩ := hf it (by simp)
    exact wpAny_pyNext_range_end (I.ok.hd hc) st (by have : n ≤ i := hg; omega) fun h' eb => ⟨rfl, I.turned (t' := s.toks) (fun b o hb e => eb b o hb e) f0 f1 f3 f4 f5⟩
  self := fun _ _ _ _ _ st h => wpAny_pyIter_rangeiter st h
end L2

namespace L2
open PySem PySem.Spec PyProof.Rows
section
variable {X : Cx} {tg : Expr}
noncomputable def iList (K : PySem.W.Frag) (tl : TE) : TI := fun σ H R => tl σ H fun x H1 => ∃ a, x = .ref a ∧ (∃ xs, SqL K H1 a xs) ∧ R (Itl K a) H1
theorem pi_list {l : Expr} {tl : TE} (hl : PE X l tl) : PI X tg l (iList X.K tl) := by
  intro pins s σ H R I h
  refine thn (hl pins s σ H _ I h) fun v s1 hsl15 => ?_
  obtain ⟨x, H1, I1, r1, q1⟩ := hsl15
  obtain ⟨a, e, ⟨xs, hq⟩, q⟩ := q1
  subst e
  cases r1
  obtain ⟨its, rv, p, hz⟩ := I1.list hq
  refine wpAny_pyIter_list p.isList ?_
  refine ⟨s1.heap.objs.size, [s1.heap.objs.size], _, _, H1, rfl, I1.kept (t' := s1.toks) fun b o e => Heap.get?_push_of_some _ e, turn_list a _, ⟨_, Heap.get?_push_size _ rfl, rfl, rfl⟩, fun b hb => ?_, q⟩
  have e : b = s1.heap.objs.size := by simpa using hb
  subst e
  exact I1.fpOk (Nat.le_refl _) (I1.hok.fresh (Nat.le_refl _))
/-- a range object just made, walked -/
theorem range_it {pins : List (Addr × Obj)} {σ : St} {H : Hp} {s : Shared} {R : It → Hp → Prop} {E : Value → Shared → Prop} {lo hi : Int} {t u v : Tok} {tk : Nat} (I : Inv X pins σ H s) (h1 : -(2 ^ 62) ≤ lo) (h2 : lo < 2 ^ 62) (h3 : -(2 ^ 62) ≤ hi) (h4 : hi < 2 ^ 62)
    (q : R (Itr lo (hi - lo).toNat) H) : wpAny (model X.prog X.w) X.A (pyIter (.ref s.heap.objs.size)) (PIE X pins σ tg R) E { s with heap := s.heap.push { cls := .type "range", data := .fields #[.int lo t, .int hi u, .int 1 v] }, toks := tk } := by
  refine wpAny_pyIter_range (IsRange.new ..) (small_one h1 h2 h3 h4) ?_
  have I1 : Inv X pins σ H { s with heap := s.heap.push { cls := .type "range", data := .fields #[.int lo t, .int hi u, .int 1 v] }, toks := tk } := I.kept fun b o e => Heap.get?_push_of_some _ e
  refine ⟨(s.heap.push { cls := .type "range", data := .fields #[.int lo t, .int hi u, .int 1 v] }).objs.size, [(s.heap.push { cls := .type "range", data := .fields #[.int lo t, .int hi u, .int 1 v] }).objs.size], _, _, H, rfl,
    I1.kept (t' := tk) fun b o e => Heap.get?_push_of_some _ e, turn_range _ lo (hi - lo).toNat, ?_, fun b hb => ?_, q⟩
  · have e1 : lo + ((0 : Nat) : Int) * 1 = lo := by simp
    have e2 : (((hi - lo).toNat : Nat) : Int) - ((0 : Nat) : Int) = Builtin.Range.rangeSize lo hi 1 := by rw [rangeSize_one]; split <;> omega
    show IsRangeIter _ _ (lo + ((0 : Nat) : Int) * 1) ((((hi - lo).toNat : Nat) : Int) - ((0 : Nat) : Int)) 1
    rw [e1, e2]
    exact Heap.get?_push_size _ rfl
  · have e : b = (s.heap.push { cls := .type "range", data := .fields #[.int lo t, .int hi u, .int 1 v] }).objs.size := by simpa using hb
    subst e
    exact I1.fpOk (Nat.le_refl _) (I1.hok.fresh (Nat.le_refl _))
noncomputable def iRng1 (ta : TA) : TI := fun σ H R => ta σ H fun vs H1 => ∃ j : Int, vs = [.int j] ∧ -(2 ^ 62) ≤ j ∧ j < 2 ^ 62 ∧ R (Itr 0 j.toNat) H1
theorem pi_range1 {a : Expr} {ta : TA} {p pos : Pos} (hg : Gl X "range") (hm : X.mg "range" = none) (ha : PA X [a] ta) (hs : starEach [a] X.env = [(false, eval a X.env)] := by rfl) : PI X tg (.Call (.Name "range" p) [a] [] pos) (iRng1 ta) := by
  intro pins s σ H R I h
  refine Call_ (ld_blt I hg hm boot_range (PyProof.Rows.callWith_type1 (thn (ha pos pins s σ H _ I h) fun us s1 hsl16 => ?_) hs rfl))
  obtain ⟨vs, H1, I1, r1, q1⟩ := hsl16
  obtain ⟨j, e, q1, q2, q⟩ := q1
  subst e
  cases r1 with
  | cons r rr =>
    cases rr
    obtain ⟨t, rfl⟩ := r
    exact call_range_1 (range_it I1 (by omega) (by omega) q1 q2 (by simpa using q))
/-! ### for -/
/-- W: the invariant by the turn and a measure; N: what the body is to reach -/
noncomputable def tFor (wi : TI) (g : TG) (tb : TS) : TS := fun D σ H => wi σ H fun J H1 => ∃ W : Nat → Nat → St → Hp → Prop, (∃ m, W 0 m σ H1) ∧ ∀ i m σ H, W i m σ H →
  (J.stop i H ∧ D.nx σ H) ∨ (J.go i H ∧ ∃ N : St → Hp → Prop, (∀ σ' H', N σ' H' → ∃ m', m' < m ∧ W (i + 1) m' σ' H') ∧ ∀ x H', J.yld i H x H' → g x σ H' fun σ2 H2 => tb { D with nx := N, ct := N, bk := D.nx } σ2 H2)
/-- the records at fp as they stand -/
noncomputable def pinsAt (fp : List Addr) (h : Heap) : List (Addr × Obj) := fp.filterMap fun b => (h.get? b).map fun o => (b, o)
theorem mem_pinsAt {fp : List Addr} {h : Heap} {b : Addr} {o : Obj} (hb : b ∈ fp) (e : h.get? b = some o) : (b, o) ∈ pinsAt fp h := List.mem_filterMap.mpr ⟨b, hb, by rw [e]; rfl⟩
theorem of_pinsAt {fp : List Addr} {h : Heap} {p : Addr × Obj} (hp : p ∈ pinsAt fp h) : p.1 ∈ fp ∧ h.get? p.1 = some p.2 := by
  obtain ⟨b, hb, e⟩ := List.mem_filterMap.mp hp
  cases q : h.get? b with
  | none => rw [q] at e; cases e
  | some o =>
    rw [q] at e
    have e' : (b, o) = p := Option.some.inj e
    subst e'
    exact ⟨hb, q⟩
theorem Inv.pinned {pins : List (Addr × Obj)} {σ : St} {H : Hp} {s : Shared} {fp : List Addr} (I : Inv X pins σ H s) (hf : ∀ b ∈ fp, FpOk X pins H b) (ho : ∀ b ∈ fp, ∃ o, s.heap.get? b = some o ∧ ∀ v, o.data ≠ .cell v) : Inv X (pins ++ pinsAt fp s.heap) σ H s :=
  I.pins_of fun p hp => (List.mem_append.mp hp).elim (fun z => I.pin p (List.mem_append_right _ z)) fun z => by
    obtain ⟨hb, e⟩ := of_pinsAt z
    obtain ⟨f0, f1, f2, _⟩ := hf p.1 hb
    obtain ⟨o, e', d⟩ := ho p.1 hb
    rw [e] at e'; cases e'
    exact ⟨e, f0, f1, f2, d⟩
theorem Inv.unpinned {pins pl : List (Addr × Obj)} {σ : St} {H : Hp} {s : Shared} (I : Inv X (pins ++ pl) σ H s) : Inv X pins σ H s := I.pins_of fun p hp => I.pin p (List.mem_append_right _ (List.mem_append_left _ hp))
theorem ps_for {iter : Expr} {body : List Stmt} {wi : TI} {g : TG} {tb : TS} {pos : Pos} (hp : PassesOwn (model X.prog X.w) X.A X.env X.xe) (hc : X.calm = true) (hi : PI X tg iter wi) (hg : PG X tg g) (hb : PSs X body tb)
    (hs : ∀ x, foldedSetIterable iter X.env x = pure x := by intro _; rfl) : PS X (.For tg iter body [] pos) (tFor wi g tb) := by
  intro pins s σ H D I h
  refine wpAny_For (thn (hi pins s σ H _ I h) fun v s1 h1 => thn h1 fun itv s2 h2 => ?_) hs
  obtain ⟨it, fp, tn, J, H2, e, I2, T, st2, f2, W, ⟨m0, w0⟩, turn⟩ := h2
  subst e
  -- what stays true of the iterator's objects through the loop
  have stat : ∀ {H' : Hp}, (∀ b ∈ fp, H' b = none) → ∀ b ∈ fp, FpOk X pins H' b := fun hn b hb => ⟨hn b hb, (f2 b hb).2⟩
  refine codeAny_forLoop_any (fun n s' => ∃ i σ' H', Inv X pins σ' H' s' ∧ tn i s'.heap ∧ (∀ b ∈ fp, H' b = none) ∧ W i n σ' H') ?_ m0 ⟨0, σ, H2, I2, st2, fun b hb => (f2 b hb).1, w0⟩
  rintro n s3 ⟨i, σ3, H3, I3, st3, fr3, w3⟩
  rcases turn i n σ3 H3 w3 with ⟨stop, qn⟩ | ⟨go, N, hN, step⟩
  · refine wpAny_passesOwn hp (thn (T.done X rfl rfl rfl hc i pins s3 σ3 H3 X.xe I3 (stat fr3) st3 stop) fun r s4 hsl17 => ?_)
    obtain ⟨hr, I4⟩ := hsl17
    subst hr
    exact wpAny_execs_nil ⟨σ3, H3, I4, qn⟩
  · refine wpAny_passesOwn hp (thn (T.item X rfl rfl rfl hc i pins s3 σ3 H3 X.xe I3 (stat fr3) st3 go) fun r s4 hsl18 => ?_)
    obtain ⟨u, hr, h4⟩ := hsl18
    subst hr
    refine wpAny_passesOwn hp (thn h4 fun _ s5 hsl19 => ?_)
    obtain ⟨x, H5, I5, r5, y5, st5, fr5⟩ := hsl19
    have I5' := I5.pinned (stat fr5) (T.obj _ _ st5)
    refine wpAny_passesOwn hp (thn (hg _ s5 σ3 H5 x u _ I5' r5 (step x H5 y5)) fun _ s6 hsl20 => ?_)
    obtain ⟨σ6, H6, I6, q6⟩ := hsl20
    refine wpAny_passesOwn hp (thn (hb _ s6 σ6 H6 _ I6 q6) fun f s7 q7 => ?_)
    have again : ∀ {σ7 : St} {H7 : Hp}, Inv X (pins ++ pinsAt fp s5.heap) σ7 H7 s7 → N σ7 H7 → ∃ m, m < n ∧ ∃ i σ' H', Inv X pins σ' H' s7 ∧ tn i s7.heap ∧ (∀ b ∈ fp, H' b = none) ∧ W i m σ' H' := fun {σ7 H7} I7 n7 => by
      obtain ⟨m', hm, w7⟩ := hN σ7 H7 n7
      refine ⟨m', hm, i + 1, σ7, H7, I7.unpinned, T.keep _ _ _ st5 fun b hb o e => (I7.pin (b, o) (List.mem_append_right _ (List.mem_append_right _ (mem_pinsAt hb e)))).1, fun b hb => ?_, w7⟩
      obtain ⟨o, e, d⟩ := T.obj _ _ st5 b hb
      exact (I7.pin (b, o) (List.mem_append_right _ (List.mem_append_right _ (mem_pinsAt hb e)))).2.1
    cases f with
    | next => obtain ⟨σ7, H7, I7, n7⟩ := q7; exact again I7 n7
    | cont => obtain ⟨σ7, H7, I7, n7⟩ := q7; exact again I7 n7
    | brk => obtain ⟨σ7, H7, I7, q7⟩ := q7; exact ⟨σ7, H7, I7.unpinned, q7⟩
    | ret v => obtain ⟨x7, σ7, H7, I7, r7, q7⟩ := q7; exact ⟨x7, σ7, H7, I7.unpinned, r7, q7⟩
end

/-! ### the forms one uses -/
/-- over a list that the body leaves as it is -/
theorem for_list {K : PySem.W.Frag} {a : Addr} {xs : List V} {g : TG} {tb : TS} {D : Ends} {σ : St} {H : Hp} (Pv : Nat → St → Hp → Prop) (h0 : Pv 0 σ H) (hl : ∀ i σ H, i ≤ xs.length → Pv i σ H → SqL K H a xs)
    (hs : ∀ i x σ H, xs[i]? = some x → Pv i σ H → g x σ H fun σ2 H2 => tb { D with nx := Pv (i + 1), ct := Pv (i + 1), bk := D.nx } σ2 H2) (hd : ∀ σ H, Pv xs.length σ H → D.nx σ H) :
    ∃ W : Nat → Nat → St → Hp → Prop, (∃ m, W 0 m σ H) ∧ ∀ i m σ H, W i m σ H →
      ((Itl K a).stop i H ∧ D.nx σ H) ∨ ((Itl K a).go i H ∧ ∃ N : St → Hp → Prop, (∀ σ' H', N σ' H' → ∃ m', m' < m ∧ W (i + 1) m' σ' H') ∧ ∀ x H', (Itl K a).yld i H x H' → g x σ H' fun σ2 H2 => tb { D with nx := N, ct := N, bk := D.nx } σ2 H2) := by
  refine ⟨fun i m σ H => m = xs.length - i ∧ i ≤ xs.length ∧ Pv i σ H, ⟨xs.length, by simp, Nat.zero_le _, h0⟩, ?_⟩
  rintro i m σ H ⟨rfl, hi, p⟩
  have q := hl i σ H hi p
  by_cases hlt : i < xs.length
  · refine .inr ⟨⟨xs, xs[i], q, by simp [hlt]⟩, Pv (i + 1), fun σ' H' p' => ⟨xs.length - (i + 1), by omega, rfl, hlt, p'⟩, fun x H' y => ?_⟩
    obtain ⟨e, y⟩ := y
    subst e
    exact hs i x σ _ (y xs q) p
  · have e : i = xs.length := by omega
    subst e
    exact .inl ⟨⟨xs, q, Nat.le_refl _⟩, hd σ H p⟩
theorem for_range {lo : Int} {n : Nat} {g : TG} {tb : TS} {D : Ends} {σ : St} {H : Hp} (Pv : Nat → St → Hp → Prop) (h0 : Pv 0 σ H)
    (hs : ∀ i σ H, i < n → Pv i σ H → g (.int (lo + i)) σ H fun σ2 H2 => tb { D with nx := Pv (i + 1), ct := Pv (i + 1), bk := D.nx } σ2 H2) (hd : ∀ σ H, Pv n σ H → D.nx σ H) :
    ∃ W : Nat → Nat → St → Hp → Prop, (∃ m, W 0 m σ H) ∧ ∀ i m σ H, W i m σ H →
      ((Itr lo n).stop i H ∧ D.nx σ H) ∨ ((Itr lo n).go i H ∧ ∃ N : St → Hp → Prop, (∀ σ' H', N σ' H' → ∃ m', m' < m ∧ W (i + 1) m' σ' H') ∧ ∀ x H', (Itr lo n).yld i H x H' → g x σ H' fun σ2 H2 => tb { D with nx := N, ct := N, bk := D.nx } σ2 H2) := by
  refine ⟨fun i m σ H => m = n - i ∧ i ≤ n ∧ Pv i σ H, ⟨n, by simp, Nat.zero_le _, h0⟩, ?_⟩
  rintro i m σ H ⟨rfl, hi, p⟩
  by_cases hlt : i < n
  · refine .inr ⟨hlt, Pv (i + 1), fun σ' H' p' => ⟨n - (i + 1), by omega, rfl, hlt, p'⟩, fun x H' y => ?_⟩
    obtain ⟨e, y⟩ := y
    subst e y
    exact hs i σ _ hlt p
  · have e : i = n := by omega
    subst e
    exact .inl ⟨Nat.le_refl _, hd σ H p⟩
end L2

namespace L2
open PySem PySem.Spec PyProof.Rows

noncomputable abbrev R2 := V → V → Hp → VK → Prop
/-- a two-place operation on values: f is binaryOp op, inplaceOp op or compareOp op -/
noncomputable def OpR (X : Cx) (f : Value → Value → Sem Value) (r : R2) : Prop :=
  ∀ (pins : List (Addr × Obj)) (s : Shared) (σ : St) (H : Hp) (x y : V) (v u : Value) (Q : VK), Inv X pins σ H s → RelV x v → RelV y u → r x y H Q →
    wpAny (model X.prog X.w) X.A (f v u) (EP X pins σ Q) X.xe s
/-- a one-place operation -/
noncomputable def UnR (X : Cx) (f : Value → Sem Value) (r : V → Hp → VK → Prop) : Prop :=
  ∀ (pins : List (Addr × Obj)) (s : Shared) (σ : St) (H : Hp) (x : V) (v : Value) (Q : VK), Inv X pins σ H s → RelV x v → r x H Q →
    wpAny (model X.prog X.w) X.A (f v) (EP X pins σ Q) X.xe s
/-- a call of a value that is known (a builtin, a type) with values -/
noncomputable def CallR (X : Cx) (f : Value) (r : List V → Hp → VK → Prop) : Prop :=
  ∀ (pins : List (Addr × Obj)) (s : Shared) (σ : St) (H : Hp) (xs : List V) (us : List Value) (Q : VK), Inv X pins σ H s → Vals xs us → r xs H Q →
    wpAny (model X.prog X.w) X.A (call f us) (EP X pins σ Q) X.xe s
noncomputable def tOp (r : R2) (ta tb : TE) : TE := fun σ H Q => ta σ H fun x H1 => tb σ H1 fun y H2 => r x y H2 Q
noncomputable def tUn (r : V → Hp → VK → Prop) (ta : TE) : TE := fun σ H Q => ta σ H fun x H1 => r x H1 Q
/-- ints in, under C, and a value out -/
noncomputable def rI (C : Int → Int → Prop) (g : Int → Int → V) : R2 := fun x y H Q => ∃ i j, x = .int i ∧ y = .int j ∧ C i j ∧ Q (g i j) H
noncomputable def rI0 (g : Int → Int → V) : R2 := fun x y H Q => ∃ i j, x = .int i ∧ y = .int j ∧ Q (g i j) H
noncomputable def rU (g : Int → V) : V → Hp → VK → Prop := fun x H Q => ∃ i, x = .int i ∧ Q (g i) H

section
variable {X : Cx} {a b c : Expr} {ta tb tc : TE} {pos : Pos}

theorem binT (ha : PE X a ta) (hb : PE X b tb) {pins : List (Addr × Obj)} {s : Shared} {σ : St} {H : Hp} {R : V → V → Hp → Prop} (I : Inv X pins σ H s)
    (h : ta σ H fun x H1 => tb σ H1 fun y H2 => R x y H2) {Q : Value → Shared → Prop} {f : Value → Value → Sem Value}
    (hf : ∀ v u s2 x y H2, Inv X pins σ H2 s2 → RelV x v → RelV y u → R x y H2 → wpAny (model X.prog X.w) X.A (f v u) Q X.xe s2) :
    wpAny (model X.prog X.w) X.A (eval a X.env) (fun v s₁ => wpAny (model X.prog X.w) X.A (eval b X.env) (fun u s₂ => wpAny (model X.prog X.w) X.A (f v u) Q X.xe s₂) X.xe s₁) X.xe s := by
  refine thn (ha pins s σ H _ I h) fun v s1 hsl21 => ?_
  obtain ⟨x, H1, I1, r1, q1⟩ := hsl21
  refine thn (hb pins s1 σ H1 _ I1 q1) fun u s2 hsl22 => ?_
  obtain ⟨y, H2, I2, r2, q2⟩ := hsl22
  exact hf v u s2 x y H2 I2 r1 r2 q2

theorem pe_op {op : Operator} {r : R2} (ho : OpR X (binaryOp op) r) (ha : PE X a ta) (hb : PE X b tb) : PE X (.BinOp a op b pos) (tOp r ta tb) := by
  intro pins s σ H Q I h
  exact wpAny_BinOp (binT ha hb I h fun v u s2 x y H2 I2 rx ry q => ho pins s2 σ H2 x y v u Q I2 rx ry q)
theorem pe_un {op : UnaryOp} {r : V → Hp → VK → Prop} (ho : UnR X (unaryOp op) r) (ha : PE X a ta) : PE X (.UnaryOp op a pos) (tUn r ta) := by
  intro pins s σ H Q I h
  exact UnaryOp_ (thn (ha pins s σ H _ I h) fun v s1 hsl23 => by obtain ⟨x, H1, I1, r1, q1⟩ := hsl23; exact ho pins s1 σ H1 x v Q I1 r1 q1)
/-! ### ints -/
theorem opI {f : Value → Value → Sem Value} {C : Int → Int → Prop} {g : Int → Int → Int}
    (rule : ∀ (i j : Int) (t u : Tok) (s : Shared) (Q : Value → Shared → Prop) (E : Value → Shared → Prop), C i j → Q (.int (g i j) s.toks) { s with toks := s.toks + 1 } → wpAny (model X.prog X.w) X.A (f (.int i t) (.int j u)) Q E s) :
    OpR X f (rI C fun i j => .int (g i j)) := by
  intro pins s σ H x y v u Q I rx ry h
  obtain ⟨i, j, rfl, rfl, hc, q⟩ := h
  obtain ⟨t, rfl⟩ := rx
  obtain ⟨t', rfl⟩ := ry
  exact rule i j t t' s _ _ hc ⟨.int (g i j), H, I.tok _, ⟨_, rfl⟩, q⟩
theorem opI0 {f : Value → Value → Sem Value} {g : Int → Int → Int}
    (rule : ∀ (i j : Int) (t u : Tok) (s : Shared) (Q : Value → Shared → Prop) (E : Value → Shared → Prop), Q (.int (g i j) s.toks) { s with toks := s.toks + 1 } → wpAny (model X.prog X.w) X.A (f (.int i t) (.int j u)) Q E s) :
    OpR X f (rI0 fun i j => .int (g i j)) := by
  intro pins s σ H x y v u Q I rx ry h
  obtain ⟨i, j, rfl, rfl, q⟩ := h
  obtain ⟨t, rfl⟩ := rx
  obtain ⟨t', rfl⟩ := ry
  exact rule i j t t' s _ _ ⟨.int (g i j), H, I.tok _, ⟨_, rfl⟩, q⟩
theorem opB0 {f : Value → Value → Sem Value} {g : Int → Int → Bool}
    (rule : ∀ (i j : Int) (t u : Tok) (s : Shared) (Q : Value → Shared → Prop) (E : Value → Shared → Prop), Q (.bool (g i j)) s → wpAny (model X.prog X.w) X.A (f (.int i t) (.int j u)) Q E s) :
    OpR X f (rI0 fun i j => .bl (g i j)) := by
  intro pins s σ H x y v u Q I rx ry h
  obtain ⟨i, j, rfl, rfl, q⟩ := h
  obtain ⟨t, rfl⟩ := rx
  obtain ⟨t', rfl⟩ := ry
  exact rule i j t t' s _ _ ⟨.bl (g i j), H, I, rfl, q⟩

noncomputable def CDiv (i j : Int) : Prop := 0 < j ∧ j < 1073741824
noncomputable def CPow (i j : Int) : Prop := 0 ≤ j ∧ j ≤ 1000000 ∧ i.natAbs < 2 ^ 64
noncomputable def CMul (i j : Int) : Prop := (-(2 ^ 64) < i ∧ i < 2 ^ 64) ∨ (-(2 ^ 64) < j ∧ j < 2 ^ 64)
theorem CMul.ok {i j : Int} (h : CMul i j) : IntMulOk i j := by
  rcases h with ⟨h1, h2⟩ | ⟨h1, h2⟩
  · exact .of_left (intBits_le_64 h1 h2)
  · exact .of_right (intBits_le_64 h1 h2)
theorem two_pow_nn (k : Nat) : (0 : Int) ≤ 2 ^ k := by
  rw [two_pow_cast]
  exact Int.natCast_nonneg _

theorem op_add : OpR X (binaryOp .Add) (rI0 fun i j => .int (i + j)) := opI0 fun _ _ _ _ _ _ _ q => add_int q
theorem op_sub : OpR X (binaryOp .Sub) (rI0 fun i j => .int (i - j)) := opI0 fun _ _ _ _ _ _ _ q => sub_int q
theorem op_mul : OpR X (binaryOp .Mult) (rI CMul fun i j => .int (i * j)) := opI fun _ _ _ _ _ _ _ hc q => mul_int q hc.ok
/-- // by a positive divisor -/
theorem op_fdiv : OpR X (binaryOp .FloorDiv) (rI CDiv fun i j => .int (i / j)) := opI fun i j _ _ _ _ _ hc q => by
  have h1 : (0 : Int) < j := hc.1
  have h2 : j < 1073741824 := hc.2
  exact floordiv_int (by omega) (by rw [Int.fdiv_eq_ediv_of_nonneg i (by omega)]; exact q) (.inl (PyProof.noPylong_small (by omega)))
/-- % by a positive divisor of any size -/
theorem op_mod : OpR X (binaryOp .Mod) (rI (fun _ j => 0 < j) fun i j => .int (i % j)) := opI fun i j _ _ _ _ _ hc q => by
  have h1 : (0 : Int) < j := hc
  exact mod_int' (by omega) (by rw [Int.fmod_eq_emod_of_nonneg i (by omega)]; exact q)
theorem op_pow : OpR X (binaryOp .Pow) (rI CPow fun i j => .int (i ^ j.toNat)) := opI fun _ _ _ _ _ _ _ hc q => pow_int_small hc.1 hc.2.1 hc.2.2 q
theorem op_shr : OpR X (binaryOp .RShift) (rI (fun _ j => 0 ≤ j) fun i j => .int (i / 2 ^ j.toNat)) := opI fun i j _ _ _ _ _ hc q =>
  rshift_int hc (by rw [Int.fdiv_eq_ediv_of_nonneg i (two_pow_nn _)]; exact q)
theorem op_and : OpR X (binaryOp .BitAnd) (rI0 fun i j => .int (Builtin.bitAnd i j)) := opI0 fun _ _ _ _ _ _ _ q => and_int q
theorem op_or : OpR X (binaryOp .BitOr) (rI0 fun i j => .int (Builtin.bitOr i j)) := opI0 fun _ _ _ _ _ _ _ q => or_int q
theorem op_xor : OpR X (binaryOp .BitXor) (rI0 fun i j => .int (Builtin.bitXor i j)) := opI0 fun _ _ _ _ _ _ _ q => xor_int q

theorem unI {f : Value → Sem Value} {g : Int → Int}
    (rule : ∀ (i : Int) (t : Tok) (s : Shared) (Q : Value → Shared → Prop) (E : Value → Shared → Prop), Q (.int (g i) s.toks) { s with toks := s.toks + 1 } → wpAny (model X.prog X.w) X.A (f (.int i t)) Q E s) :
    UnR X f (rU fun i => .int (g i)) := by
  intro pins s σ H x v Q I rx h
  obtain ⟨i, rfl, q⟩ := h
  obtain ⟨t, rfl⟩ := rx
  exact rule i t s _ _ ⟨.int (g i), H, I.tok _, ⟨_, rfl⟩, q⟩
theorem un_inv : UnR X (unaryOp .Invert) (rU fun i => .int (Builtin.bitNot i)) := unI fun _ _ _ _ _ q => invert_int q

/-! ### bools among ints: n += (a < b) -/
end

/-! ### comparisons -/
/-- the scalars that == tells apart as data does -/
noncomputable def scal : V → V → Bool
  | .non, .non => true | .non, .int _ => true | .int _, .non => true | .non, .bl _ => true | .bl _, .non => true | .non, .str _ => true | .str _, .non => true
  | .int _, .int _ => true | .bl _, .bl _ => true | .str _, .str _ => true | .byt _, .byt _ => true
  | .int _, .str _ => true | .str _, .int _ => true | .bl _, .str _ => true | .str _, .bl _ => true
  | _, _ => false
noncomputable def rEq : R2 := fun x y H Q => scal x y = true ∧ Q (.bl (decide (x = y))) H
noncomputable def rNe : R2 := fun x y H Q => scal x y = true ∧ Q (.bl (!decide (x = y))) H

theorem dec_int {i j : Int} : decide (V.int i = V.int j) = (i == j) := by
  rw [Bool.eq_iff_iff]
  simp
theorem dec_bl {i j : Bool} : decide (V.bl i = V.bl j) = (i == j) := by
  rw [Bool.eq_iff_iff]
  simp
theorem dec_str {i j : Str} : decide (V.str i = V.str j) = (i == j) := by
  rw [Bool.eq_iff_iff]
  simp
theorem dec_byt {i j : Array UInt8} : decide (V.byt i = V.byt j) = (i.toList == j.toList) := by
  rw [Bool.eq_iff_iff]
  cases i
  cases j
  simp

section
variable {X : Cx} {a b c : Expr} {ta tb tc : TE} {pos : Pos}
theorem fin_bl {pins : List (Addr × Obj)} {σ : St} {H : Hp} {s : Shared} {Q : VK} {k k' : Bool} (I : Inv X pins σ H s) (q : Q (.bl k) H) (e : k = k') : EP X pins σ Q (.bool k') s := by
  subst e
  exact ⟨.bl k, H, I, rfl, q⟩
theorem op_eq : OpR X (compareOp .Eq) rEq := by
  intro pins s σ H x y v u Q I rx ry h
  obtain ⟨hs, q⟩ := h
  cases x with
  | non =>
    cases rx
    cases y with
    | non => cases ry; exact PySem.EqNone.eq_none_none (fin_bl I q (by simp))
    | bl j => cases ry; exact PySem.EqNone.eq_none_bool (fin_bl I q (by simp))
    | int j => obtain ⟨t', rfl⟩ := ry; exact PySem.EqNone.eq_none_int (fin_bl I q (by simp))
    | str j => obtain ⟨t', rfl⟩ := ry; exact PySem.EqNone.eq_none_str (fin_bl I q (by simp))
    | _ => exact absurd (show false = true from hs) Bool.false_ne_true
  | bl i =>
    cases rx
    cases y with
    | non => cases ry; exact PySem.EqNone.eq_bool_none (fin_bl I q (by simp))
    | bl j => cases ry; exact eq_bool (fin_bl I q dec_bl)
    | str j => obtain ⟨t', rfl⟩ := ry; exact PySem.EqMixed.eq_bool_str (fin_bl I q (by simp))
    | _ => exact absurd (show false = true from hs) Bool.false_ne_true
  | int i =>
    obtain ⟨t, rfl⟩ := rx
    cases y with
    | non => cases ry; exact PySem.EqNone.eq_int_none (fin_bl I q (by simp))
    | int j => obtain ⟨t', rfl⟩ := ry; exact eq_int (fin_bl I q dec_int)
    | str j => obtain ⟨t', rfl⟩ := ry; exact PySem.EqMixed.eq_int_str (fin_bl I q (by simp))
    | _ => exact absurd (show false = true from hs) Bool.false_ne_true
  | str i =>
    obtain ⟨t, rfl⟩ := rx
    cases y with
    | non => cases ry; exact PySem.EqNone.eq_str_none (fin_bl I q (by simp))
    | bl j => cases ry; exact PySem.EqMixed.eq_str_bool (fin_bl I q (by simp))
    | int j => obtain ⟨t', rfl⟩ := ry; exact PySem.EqMixed.eq_str_int (fin_bl I q (by simp))
    | str j => obtain ⟨t', rfl⟩ := ry; exact eq_str (fin_bl I q dec_str)
    | _ => exact absurd (show false = true from hs) Bool.false_ne_true
  | byt i =>
    obtain ⟨t, rfl⟩ := rx
    cases y with
    | byt j => obtain ⟨t', rfl⟩ := ry; exact PySem.W.eq_bytes (fin_bl I q dec_byt)
    | _ => exact absurd (show false = true from hs) Bool.false_ne_true
  | _ => cases y <;> exact absurd (show false = true from hs) Bool.false_ne_true
theorem op_ne : OpR X (compareOp .NotEq) rNe := by
  intro pins s σ H x y v u Q I rx ry h
  obtain ⟨hs, q⟩ := h
  cases x with
  | non =>
    cases rx
    cases y with
    | non => cases ry; exact PySem.EqNone.ne_none_none (fin_bl I q (by simp))
    | bl j => cases ry; exact PySem.EqNone.ne_none_bool (fin_bl I q (by simp))
    | int j => obtain ⟨t', rfl⟩ := ry; exact PySem.EqNone.ne_none_int (fin_bl I q (by simp))
    | str j => obtain ⟨t', rfl⟩ := ry; exact PySem.EqNone.ne_none_str (fin_bl I q (by simp))
    | _ => exact absurd (show false = true from hs) Bool.false_ne_true
  | bl i =>
    cases rx
    cases y with
    | non => cases ry; exact PySem.EqNone.ne_bool_none (fin_bl I q (by simp))
    | bl j => cases ry; exact ne_bool (fin_bl I q (congrArg not dec_bl))
    | str j => obtain ⟨t', rfl⟩ := ry; exact PySem.EqMixed.ne_bool_str (fin_bl I q (by simp))
    | _ => exact absurd (show false = true from hs) Bool.false_ne_true
  | int i =>
    obtain ⟨t, rfl⟩ := rx
    cases y with
    | non => cases ry; exact PySem.EqNone.ne_int_none (fin_bl I q (by simp))
    | int j => obtain ⟨t', rfl⟩ := ry; exact ne_int (fin_bl I q (congrArg not dec_int))
    | str j => obtain ⟨t', rfl⟩ := ry; exact PySem.EqMixed.ne_int_str (fin_bl I q (by simp))
    | _ => exact absurd (show false = true from hs) Bool.false_ne_true
  | str i =>
    obtain ⟨t, rfl⟩ := rx
    cases y with
    | non => cases ry; exact PySem.EqNone.ne_str_none (fin_bl I q (by simp))
    | bl j => cases ry; exact PySem.EqMixed.ne_str_bool (fin_bl I q (by simp))
    | int j => obtain ⟨t', rfl⟩ := ry; exact PySem.EqMixed.ne_str_int (fin_bl I q (by simp))
    | str j => obtain ⟨t', rfl⟩ := ry; exact ne_str (fin_bl I q (congrArg not dec_str))
    | _ => exact absurd (show false = true from hs) Bool.false_ne_true
  | byt i =>
    obtain ⟨t, rfl⟩ := rx
    cases y with
    | byt j => obtain ⟨t', rfl⟩ := ry; exact PySem.W.ne_bytes (fin_bl I q (congrArg not dec_byt))
    | _ => exact absurd (show false = true from hs) Bool.false_ne_true
  | _ => cases y <;> exact absurd (show false = true from hs) Bool.false_ne_true

theorem op_lt : OpR X (compareOp .Lt) (rI0 fun i j => .bl (decide (i < j))) := opB0 fun _ _ _ _ _ _ _ q => lt_int q
/-- is, is not of two objects that are tracked lists or instances -/
noncomputable def isObj : HO → Bool
  | .lst _ => true
  | .ins _ _ _ => true
  | _ => false
/-- two rules for one operation: by cases -/
theorem OpR.or {f : Value → Value → Sem Value} {r r' : R2} (h : OpR X f r) (h' : OpR X f r') : OpR X f (fun x y H Q => r x y H Q ∨ r' x y H Q) := by
  intro pins s σ H x y v u Q I rx ry q
  rcases q with q | q
  · exact h pins s σ H x y v u Q I rx ry q
  · exact h' pins s σ H x y v u Q I rx ry q

theorem nomark (b : Expr) {op : CmpOp} (h : op ≠ .In := by decide) (h2 : op ≠ .NotIn := by decide) : behindInMarks op b = false := by
  have e1 : (op == CmpOp.In) = false := by cases op <;> first | rfl | exact absurd rfl h
  have e2 : (op == CmpOp.NotIn) = false := by cases op <;> first | rfl | exact absurd rfl h2
  cases b <;> simp [behindInMarks, e1, e2]
/-- a comparison as a value; hm: nomark b, or (for in, not in) by with_unfolding_all rfl -/
theorem pe_cmpR {op : CmpOp} {r : R2} (ho : OpR X (compareOp op) r) (ha : PE X a ta) (hb : PE X b tb) (hm : behindInMarks op b = false) : PE X (.Compare a [op] [b] pos) (tOp r ta tb) := by
  intro pins s σ H Q I h
  exact wpAny_Compare1 (binT ha hb I h fun v u s2 x y H2 I2 rx ry q => ho pins s2 σ H2 x y v u Q I2 rx ry q) hm
/-- a reading of a value as a test -/
noncomputable def tTest (t : TE) : TT := fun σ H Q => t σ H fun x H' => ∃ k, x = .bl k ∧ Q k H'
theorem pt_cmpR {op : CmpOp} {r : R2} (ho : OpR X (compareOp op) r) (ha : PE X a ta) (hb : PE X b tb) (hm : behindInMarks op b = false) : PT X (.Compare a [op] [b] pos) (tTest (tOp r ta tb)) := by
  intro pins s σ H Q I h
  refine wpAny_isTrue_Compare1 (thn (ha pins s σ H _ I h) fun v s1 ⟨x, H1, I1, r1, q1⟩ => thn (hb pins s1 σ H1 _ I1 q1) fun u s2 ⟨y, H2, I2, r2, q2⟩ =>
    thn (ho pins s2 σ H2 x y v u _ I2 r1 r2 q2) fun c s3 ⟨z, H3, I3, r3, k, e, q3⟩ => ?_) hm
  subst e
  cases r3
  exact wpAny_truthy_bool ⟨H3, I3, q3⟩
/-! ### truth -/
theorem line63 : (sizeLine : Nat) < 2 ^ 63 := by rw [sizeLine_eq]; decide
/-! ### strs and bytes -/
/-! ### scalar builtins, by CallR -/
theorem vals1 {x : V} {us : List Value} (r : Vals [x] us) : ∃ u, us = [u] ∧ RelV x u := by
  cases r with
  | cons r1 r2 => cases r2; exact ⟨_, rfl, r1⟩
theorem vals2 {x y : V} {us : List Value} (r : Vals [x, y] us) : ∃ u w', us = [u, w'] ∧ RelV x u ∧ RelV y w' := by
  cases r with
  | cons r1 r2 =>
    cases r2 with
    | cons r3 r4 => cases r4; exact ⟨_, _, rfl, r1, r3⟩
theorem call_max2 (hc : X.calm = true) : CallR X (.builtin "max") (fun xs H Q => ∃ i j, xs = [.int i, .int j] ∧ Q (.int (if j > i then j else i)) H) := by
  intro pins s σ H xs us Q I r h
  obtain ⟨i, j, rfl, q⟩ := h
  obtain ⟨u, w', rfl, ⟨t, rfl⟩, ⟨t', rfl⟩⟩ := vals2 r
  refine max_two_ints (I.ok.hd hc) fun h' tk k => ⟨_, H, I.kept k, ?_, q⟩
  by_cases hj : j > i
  · rw [if_pos hj, if_pos hj]; exact ⟨_, rfl⟩
  · rw [if_neg hj, if_neg hj]; exact ⟨_, rfl⟩
theorem call_int1 : CallR X (.type "int") (fun xs H Q => (∃ i, xs = [.int i] ∧ Q (.int i) H) ∨ ∃ k, xs = [.bl k] ∧ Q (.int (if k then 1 else 0)) H) := by
  intro pins s σ H xs us Q I r h
  rcases h with ⟨i, rfl, q⟩ | ⟨k, rfl, q⟩
  · obtain ⟨u, rfl, t, rfl⟩ := vals1 r
    exact call_int_int ⟨.int i, H, I, ⟨_, rfl⟩, q⟩
  · obtain ⟨u, rfl, r1⟩ := vals1 r
    cases r1
    exact call_int_bool ⟨.int (if k then 1 else 0), H, I.tok _, ⟨_, rfl⟩, q⟩
end
end L2

namespace L2
open PySem PySem.Spec PyProof.Rows

/-! ### an instance, its attributes a map -/
structure ObjM (h : Heap) (x dx C : Addr) (mA : Str → Option Value) : Prop where
  obj : h.get? x = some (PySem.W.instObj C dx)
  ns : h.Ns1 dx mA
  ne : dx ≠ x

theorem lookIn_ns {h : Heap} {dx : Addr} {mA : Str → Option Value} (n : h.Ns1 dx mA) : ∃ od, h.get? dx = some od ∧ ∀ name, PySem.W.lookIn name od = some (mA name) := by
  obtain ⟨o, es, ep, ho, hd, hk, _, hm⟩ := n
  refine ⟨o, ho, fun name => ?_⟩
  have e := hm name
  unfold nsFind findBy at e
  rw [← Array.find?_toList] at e
  unfold PySem.W.lookIn
  rw [hd]
  dsimp only
  split
  · rename_i y q
    rw [q] at e
    exact congrArg some e
  · rename_i q
    rw [q] at e
    have a : es.toList.any (·.refKey) = false := by
      rw [List.any_eq_false]
      intro y hy
      obtain ⟨z, t, hkey⟩ := hk y (Array.mem_toList_iff.mp hy)
      simp [DictEntry.refKey, hkey]
    have a' : ¬ es.toList.any (·.refKey) = true := by rw [a]; exact Bool.false_ne_true
    rw [if_neg a']
    exact congrArg some e

theorem ObjM.look {h : Heap} {x dx C : Addr} {mA : Str → Option Value} (I : ObjM h x dx C mA) : ∃ od, PySem.W.InstAt h x (PySem.W.instObj C dx) C (some od) ∧ ∀ name, PySem.W.lookIn name od = some (mA name) :=
  let ⟨od, ho, hl⟩ := lookIn_ns I.ns
  ⟨od, ⟨I.obj, rfl, rfl, ho⟩, hl⟩

section
variable {prog : Program} {w : World} {A : Around} {E : Value → Shared → Prop} {s : Shared} {K : PySem.W.Frag} {x dx C f : Addr} {mA : Str → Option Value} {name : Str} {v : Value}

theorem get_meth {pl : Sem Bool} {Q : Value × List Value → Shared → Prop} (X : K.In s.heap) (I : ObjM s.heap x dx C mA) (hg : PySem.W.plainGet K C name = true)
    (hf : PySem.W.findIn K (.ref C) name = some (some (.ref f))) (ht : PySem.W.isFn K (.ref f) = true) (hv : mA name = none) (h : Q (.ref f, [.ref x]) s) :
    wpAny (model prog w) A (getMethod (.ref x) name pl) Q E s := by
  obtain ⟨od, J, hl⟩ := I.look
  exact PySem.W.method_fn X J (PySem.W.plainGet_of hg).1 (PySem.W.plainGet_of hg).2 hf (beq_iff_eq.mp ht) (by show (PySem.W.lookIn name od).map (·.isSome) = some false; rw [hl, hv]; rfl) h

/-- C(..): the dict at the heap's end, the instance behind it; then its __init__ -/
theorem make_map {R : Result → Shared → Prop} {vs : List Value} {kw : List (Str × Value)} (X : K.In s.heap) (hm : PySem.W.makesIn K C = true)
    (hi : PySem.W.findIn K (.ref C) "__init__" = some (some (.ref f))) (hf : PySem.W.typeIn K (.ref f) = some (.type "function"))
    (h : codeAny (model prog w) (A.under (.builtin "type.__call__" ⟨.ref C :: vs, kw⟩)) (.call (.ref f) ⟨.ref (s.heap.objs.size + 1) :: vs, kw⟩) (PySem.W.InitBack (s.heap.objs.size + 1) R)
      { s with heap := (s.heap.push PySem.W.emptyDict).push (PySem.W.instObj C s.heap.objs.size) }) :
    codeAny (model prog w) A (.call (.ref C) ⟨vs, kw⟩) R s := by
  obtain ⟨hh, g, d, t, os⟩ := s
  exact PySem.W.make_core (PySem.W.makes_of X hm) (PySem.W.looks_findIn X hi) (fun self => PySem.W.bind_fn X self hf) (.inl rfl) h
end

/-! ### the attributes as a list of pairs -/
theorem RelO.none_of {o : Option Value} (r : RelO none o) : o = none := by
  cases o with
  | none => rfl
  | some u => exact (show False from r).elim
section
variable {P : Program} {w : World} {H H' : Hp} {h h' : Heap} {a C dx : Addr} {fs fs' : List (Str × V)}
theorem ins_get (hok : HOk P w H h) (e : H a = some (.ins C dx fs)) : ∃ mA, ObjM h a dx C mA ∧ (∀ f, RelO (fs.lookup f) (mA f)) ∧ PySem.Within mA (fs.map (·.1)) ∧ fs.length ≤ 1000 ∧ H dx = some (.own a) := by
  obtain ⟨d, z, ne, ob, mA, n, r, q⟩ := (show ObjOk P w H h a (.ins C dx fs) from hok a _ e)
  exact ⟨mA, ⟨ob, n, ne⟩, r, q, z, d⟩
end

/-! ### what of the text a class must have -/
structure Cls (K : PySem.W.Frag) (C : Addr) : Prop where
  pg : PySem.W.plainGet K C Str.empty = true
  hd : PySem.W.hasDictIn K C = true
  po : PySem.W.plainOver K C = true
  sa : PySem.W.findIn K (.ref C) "__setattr__" = some (some (.builtin "object.__setattr__"))
theorem Cls.get {K : PySem.W.Frag} {C : Addr} (c : Cls K C) (f : Str) : PySem.W.plainGet K C f = true := c.pg
/-- no class of it has the name -/
noncomputable def NoAttr (K : PySem.W.Frag) (C : Addr) (f : Str) : Prop := PySem.W.findIn K (.ref C) f = some none
/-- a constant of the class -/
structure Con (K : PySem.W.Frag) (C : Addr) (f : Str) (v : V) (u : Value) : Prop where
  at_ : PySem.W.findIn K (.ref C) f = some (some u)
  rel : RelV v u
  get : PySem.W.specialIn K u "__get__" = some none
  cp : PySem.W.copiedNames.contains f = false
/-- a method: a plain def of the class or of one above it -/
structure Meth (K : PySem.W.Frag) (C : Addr) (m : Str) (f : Addr) : Prop where
  at_ : PySem.W.findIn K (.ref C) m = some (some (.ref f))
  fn : PySem.W.isFn K (.ref f) = true
  kp : PySem.W.keepIn K (.ref f) = true

section
variable {X : Cx} {pins : List (Addr × Obj)} {σ : St} {H : Hp} {s : Shared} {a C dx : Addr} {fs : List (Str × V)} {f : Str} {v : V} {A : Around} {E : Value → Shared → Prop}

theorem getmeth_ok {m : Str} {g : Addr} {pl : Sem Bool} {Q : Value × List Value → Shared → Prop} (I : Inv X pins σ H s) (e : H a = some (.ins C dx fs)) (c : Cls X.K C) (k : Meth X.K C m g) (l : fs.lookup m = none)
    (h : Q (.ref g, [.ref a]) s) : wpAny (model X.prog X.w) A (getMethod (.ref a) m pl) Q E s := by
  obtain ⟨mA, O, r, _, _, _⟩ := ins_get I.hok e
  have hn : mA m = none := RelO.none_of (by rw [← l]; exact r m)
  exact get_meth I.kIn O (c.get m) k.at_ k.fn hn h

/-- a new instance, tracked, without attributes -/
theorem Inv.made (I : Inv X pins σ H s) : Inv X pins σ (upd (upd H s.heap.objs.size (.own (s.heap.objs.size + 1))) (s.heap.objs.size + 1) (.ins C s.heap.objs.size []))
    { s with heap := (s.heap.push PySem.W.emptyDict).push (PySem.W.instObj C s.heap.objs.size) } := by
  have e1 : (s.heap.push PySem.W.emptyDict).get? s.heap.objs.size = some PySem.W.emptyDict := Heap.get?_push_size s.heap rfl
  have e2 : ((s.heap.push PySem.W.emptyDict).push (PySem.W.instObj C s.heap.objs.size)).get? (s.heap.objs.size + 1) = some (PySem.W.instObj C s.heap.objs.size) := by
    have := Heap.get?_push_size (s.heap.push PySem.W.emptyDict) (o := PySem.W.instObj C s.heap.objs.size) rfl
    rwa [Heap.size_push] at this
  have e3 : (s.heap.push PySem.W.emptyDict).Ns s.heap.objs.size (fun _ => none) := ⟨PySem.W.emptyDict, #[], _, e1, rfl, (fun e he => absurd he (by simp)), fun _ => rfl⟩
  have I1 := I.laid (a := s.heap.objs.size) (o := .own (s.heap.objs.size + 1)) (h' := s.heap.push PySem.W.emptyDict) (t' := s.toks) (fun b u q => Heap.get?_push_of_some _ q) (Nat.le_refl _) ⟨_, e1⟩
  refine I1.laid (a := s.heap.objs.size + 1) (o := .ins C s.heap.objs.size []) (t' := s.toks) (fun b u q => Heap.get?_push_of_some _ q) (Nat.le_of_eq (Heap.size_push _ _)) ?_
  have ne : s.heap.objs.size ≠ s.heap.objs.size + 1 := Nat.ne_of_lt (Nat.lt_succ_self _)
  refine ⟨by rw [upd_ne ne, upd_same], Nat.zero_le _, ne, e2, fun _ => none, (Heap.Ns1.of_empty e3).at fun o q => Heap.get?_push_of_some _ q, fun _ => True.intro, fun y hy => absurd rfl hy⟩

end

/-! ### readings and rules -/
/-- e.f, an attribute of the instance -/
noncomputable def tFld (K : PySem.W.Frag) (ta : TE) (f : Str) : TE := fun σ H Q => ta σ H fun x H1 => ∃ a C dx fs v, x = .ref a ∧ H1 a = some (.ins C dx fs) ∧ Cls K C ∧ NoAttr K C f ∧ fs.lookup f = some v ∧ Q v H1
section
variable {X : Cx} {o e value : Expr} {f : Str} {pos pos' tpos : Pos} {ta tv : TE}
/-- what is between an instance and its method: the tree of a method call -/
theorem methcall_of {pl : Sem Bool} {m : Str} {apos : Pos} {args : List Expr} {pins : List (Addr × Obj)} {s : Shared} {σ : St} {H : Hp} {Q : Value → Shared → Prop} {te : TE} (he : PE X e te) (I : Inv X pins σ H s)
    (h : te σ H fun x H1 => ∃ a C dx fs g, x = .ref a ∧ H1 a = some (.ins C dx fs) ∧ Cls X.K C ∧ Meth X.K C m g ∧ fs.lookup m = none ∧
      ∀ s1, Inv X pins σ H1 s1 → wpAny (model X.prog X.w) X.A (callWith pos (.ref g) [.ref a] (backTo pos (starEach args X.env)) (backToKw pos (keywordEach [] X.env))) Q X.xe s1)
    (ht : eval (.Call (.Attribute e m apos) args [] pos) X.env = (do
      let ov ← eval e X.env
      standAt apos.atName
      let (f, first) ← holding [ov] (getMethod ov m pl)
      callWith pos f first (backTo pos (starEach args X.env)) (backToKw pos (keywordEach [] X.env)))) :
    wpAny (model X.prog X.w) X.A (eval (.Call (.Attribute e m apos) args [] pos) X.env) Q X.xe s := by
  refine PySem.W.methodCall_KW (pl := pl) (thn (he pins s σ H _ I h) fun u s1 hsl24 => ?_) ht
  obtain ⟨x, H1, I1, rx, a, C, dx, fs, g, ex, ea, c, k, l, q⟩ := hsl24
  subst ex
  obtain rfl : u = Value.ref a := rx
  exact getmeth_ok I1 ea c k l (q s1 I1)
end

/-! ### isinstance -/
section
variable {X : Cx} {pins : List (Addr × Obj)} {σ : St} {H : Hp} {s : Shared} {A : Around} {E : Value → Shared → Prop} {Q : Value → Shared → Prop} {c : Value} {b : Bool}
/-- the type of a value, as the fragment's deciders take it; for an instance its class -/
inductive TyOf (K : PySem.W.Frag) (H : Hp) : V → Value → Prop where
  | non : TyOf K H .non (.type "NoneType")
  | bl (x : Bool) : TyOf K H (.bl x) (.type "bool")
  | int (i : Int) : TyOf K H (.int i) (.type "int")
  | str (x : Str) : TyOf K H (.str x) (.type "str")
  | flt (x : UInt64) : TyOf K H (.flt x) (.type "float")
  | lst {a : Addr} {xs : List V} (e : H a = some (.lst xs)) : TyOf K H (.ref a) (.type "list")
  | frz {a : Addr} {o : Obj} {xs : List V} (e : H a = some (.frz o (.lst xs))) : TyOf K H (.ref a) (.type "list")
  | tup {a : Addr} {xs : List V} (e : H a = some (.tup xs)) : TyOf K H (.ref a) (.type "tuple")
  | dK {a : Addr} {kvs : List (Key × V)} (e : H a = some (.dK kvs)) : TyOf K H (.ref a) (.type "dict")
  | dT {a : Addr} {kvs : List (List Key × V)} (e : H a = some (.dT kvs)) : TyOf K H (.ref a) (.type "dict")
  | ins {a C dx : Addr} {fs : List (Str × V)} (e : H a = some (.ins C dx fs)) (cl : Cls K C) (ha : PySem.W.findIn K (.ref C) "__class__" = some (some (.builtin "object.__class__")))
      (hn : PySem.W.specialIn K (.builtin "object.__class__") "__get__" = some (some (.builtin "getset_descriptor.__get__"))) (htk : PySem.W.takesIn K (.builtin "object.__class__") = some true)
      (hm : PySem.W.mroIn K C (.type "object") = some true) : TyOf K H (.ref a) (.ref C)
/-- isinstance(x, c) for one class c, a built-in or an own one: kitOne's answer -/
theorem isinst_ok {x : V} {u t : Value} (I : Inv X pins σ H s) (rx : RelV x u) (ty : TyOf X.K H x t) (e : PySem.W.kitOne X.K t c = some b) (h : ∀ tk, Q (.bool b) { s with toks := tk }) :
    wpAny (model X.prog X.w) A (call (.builtin "isinstance") [u, c]) Q E s := by
  cases ty with
  | non => cases (show u = Value.none from rx); exact PySem.W.kia_one PySem.W.kitx_none I.kIn True.intro e (fun z => nomatch z) h
  | bl y => cases (show u = Value.bool y from rx); exact PySem.W.kia_one PySem.W.kitx_bool I.kIn True.intro e (fun z => nomatch z) h
  | int i => obtain ⟨t, q⟩ := (show ∃ t, u = Value.int i t from rx); cases q; exact PySem.W.kia_one PySem.W.kitx_int I.kIn True.intro e (fun z => nomatch z) h
  | str y => obtain ⟨t, q⟩ := (show ∃ t, u = Value.str y t from rx); cases q; exact PySem.W.kia_one PySem.W.kitx_str I.kIn True.intro e (fun z => nomatch z) h
  | flt y => obtain ⟨t, q⟩ := (show ∃ t, u = Value.float y t from rx); cases q; exact PySem.W.kia_one PySem.W.kitx_float I.kIn True.intro e (fun z => nomatch z) h
  | @lst a xs ea =>
    cases (show u = Value.ref a from rx)
    obtain ⟨_, _, n, _, h1⟩ := (show ObjOk X.prog X.w H s.heap a (.lst xs) from I.hok a _ ea)
    exact PySem.W.kia_one PySem.W.kitx_list I.kIn ⟨_, h1, rfl⟩ e (fun z => nomatch z) h
  | @frz a ob xs ea =>
    cases (show u = Value.ref a from rx)
    obtain ⟨_, _, _, n, _, h1⟩ := (show ObjOk X.prog X.w H s.heap a (.frz ob (.lst xs)) from I.hok a _ ea)
    exact PySem.W.kia_one PySem.W.kitx_list I.kIn ⟨_, h1, rfl⟩ e (fun z => nomatch z) h
  | @tup a xs ea =>
    cases (show u = Value.ref a from rx)
    obtain ⟨_, _, _, p⟩ := (show ObjOk X.prog X.w H s.heap a (.tup xs) from I.hok a _ ea)
    obtain ⟨o, h1, h2, _⟩ := p
    exact PySem.W.kia_one PySem.W.kitx_tuple I.kIn ⟨o, h1, h2⟩ e (fun z => nomatch z) h
  | @dK a kvs ea =>
    cases (show u = Value.ref a from rx)
    obtain ⟨_, _, vs, _, p⟩ := (show ObjOk X.prog X.w H s.heap a (.dK kvs) from I.hok a _ ea)
    obtain ⟨o, es, ep, h1, h2, _⟩ := p
    exact PySem.W.kia_one PySem.W.kitx_dict I.kIn ⟨o, h1, h2.1⟩ e (fun z => nomatch z) h
  | @dT a kvs ea =>
    cases (show u = Value.ref a from rx)
    obtain ⟨_, _, xs, _, o, es, ep, h1, h2, _⟩ := (show ObjOk X.prog X.w H s.heap a (.dT kvs) from I.hok a _ ea)
    exact PySem.W.kia_one PySem.W.kitx_dict I.kIn ⟨o, h1, h2.1⟩ e (fun z => nomatch z) h
  | @ins a C dx fs ea cl ha hn htk hm =>
    cases (show u = Value.ref a from rx)
    obtain ⟨mA, O, _⟩ := ins_get I.hok ea
    obtain ⟨od, J, _⟩ := O.look
    exact PySem.W.kia_one (PySem.W.kitx_own (cl.get _) cl.hd ha hn htk hm) I.kIn J e (fun z => nomatch z) h
end
end L2

namespace L2
open PySem PySem.Spec PyProof.Rows

/-! ### room -/
structure Room (k : Nat) (A : Around) : Prop where
  hd : A.handled = none
  dp : A.depth + 3 * k + 5 < recursionLimit
  un : A.units + 16 * k + 200 < cLine
theorem Room.mono {j k : Nat} {A : Around} (r : Room k A) (h : j ≤ k) : Room j A := ⟨r.hd, by have := r.dp; omega, by have := r.un; omega⟩
theorem Room.deeper {k : Nat} {A : Around} (r : Room (k + 1) A) (env : Env) : Room k (A.deeper env) :=
  ⟨r.hd, by have := r.dp; show A.depth + 1 + 3 * k + 5 < _; omega, by have := r.un; show A.units + 3 + 16 * k + 200 < _; omega⟩
theorem Room.in1 {k : Nat} {A : Around} (r : Room (k + 1) A) : Room k A.in1 :=
  ⟨r.hd, by have := r.dp; show A.depth + 3 * k + 5 < _; omega, by have := r.un; show A.units + 1 + 16 * k + 200 < _; omega⟩
theorem make_depth {A : Around} {C : Addr} {us : List Value} {kw : List (Str × Value)} : (A.under (.builtin "type.__call__" ⟨.ref C :: us, kw⟩)).depth = A.depth + 1 := by
  first | rfl | simp [Around.under, Code.weight, Code.isCreation, Code.isGuard, Code.isCaller, Code.frames, Code.isFrame, guardIds]
theorem make_units {A : Around} {C : Addr} {us : List Value} {kw : List (Str × Value)} : (A.under (.builtin "type.__call__" ⟨.ref C :: us, kw⟩)).units = A.units + 1 := by
  first | rfl | simp [Around.under, Code.cUnits, Code.frames, Code.isFrame]
theorem Room.make {k : Nat} {A : Around} (r : Room (k + 1) A) (C : Addr) (us : List Value) (kw : List (Str × Value)) : Room k (A.under (.builtin "type.__call__" ⟨.ref C :: us, kw⟩)) :=
  ⟨r.hd, by have := r.dp; rw [make_depth]; omega, by have := r.un; rw [make_units]; omega⟩
theorem Room.depth {k : Nat} {A : Around} (r : Room k A) : A.depth < recursionLimit := by have := r.dp; omega
theorem Room.units {k : Nat} {A : Around} (r : Room k A) : A.units + 64 < cLine := by have := r.un; omega
/-! ### argument lists and displays -/
noncomputable def tNil : TA := fun _ H Q => Q [] H
noncomputable def tCons (ta : TE) (tr : TA) : TA := fun σ H Q => ta σ H fun x H1 => tr σ H1 fun xs H2 => Q (x :: xs) H2
section
variable {X : Cx} {e : Expr} {es : List Expr} {te : TE} {t : TA} {pos : Pos}
theorem pa_nil : PA X [] tNil := fun _ _ _ _ H Q I h => Calls.spliced_nil ⟨[], H, I, .nil, h⟩
theorem pa_cons (ha : PE X e te) (hr : PA X es t) (hs : starEach (e :: es) X.env = (false, eval e X.env) :: starEach es X.env := by rfl) : PA X (e :: es) (tCons te t) := by
  intro pos pins s σ H Q I h
  rw [hs]
  show wpAny _ _ (spliced ((false, eval e X.env) :: backTo pos (starEach es X.env))) _ _ s
  refine Calls.spliced_cons (thn (ha pins s σ H _ I h) fun u s1 hsl25 => ?_)
  obtain ⟨x, H1, I1, r1, q1⟩ := hsl25
  exact thn (hr pos pins s1 σ H1 _ I1 q1) fun us s2 hsl26 => by obtain ⟨xs, H2, I2, r2, q2⟩ := hsl26; exact ⟨x :: xs, H2, I2, .cons r1 r2, q2⟩

/-- a tuple, a list of written items -/
noncomputable def tTup (t : TA) : TE := fun σ H Q => t σ H fun xs H1 => xs.length ≤ sizeLine ∧ ∀ p, H1 p = none → Q (.ref p) (upd H1 p (.tup xs))
noncomputable def tLst (t : TA) : TE := fun σ H Q => t σ H fun xs H1 => xs.length ≤ sizeLine ∧ ∀ p, H1 p = none → Q (.ref p) (upd H1 p (.lst xs))
theorem pe_tup {x1} (h : PA X es t) : PE X (.Tuple es x1 pos) (tTup t) := by
  intro pins s σ H Q I hq
  refine wpAny_Tuple_spliced (thn (h pos pins s σ H _ I hq) fun us s1 ⟨xs, H1, I1, r, z, q⟩ => ⟨by rw [← r.length]; exact z, ?_⟩)
  have hf : H1 s1.heap.objs.size = none := I1.hok.fresh (Nat.le_refl _)
  refine ⟨.ref s1.heap.objs.size, upd H1 s1.heap.objs.size (.tup xs), I1.laid (t' := s1.toks) (fun b u e => Heap.get?_push_of_some _ e) (Nat.le_refl _) ?_, rfl, q _ hf⟩
  exact ⟨z, us, r, ⟨_, Heap.get?_push_size _ rfl, rfl, _, rfl⟩⟩
theorem pe_lst (h : PA X es t) : PE X (.List es pos) (tLst t) := by
  intro pins s σ H Q I hq
  refine wpAny_List_spliced (thn (h pos pins s σ H _ I hq) fun us s1 ⟨xs, H1, I1, r, z, q⟩ => ⟨by rw [← r.length]; exact z, ?_⟩)
  have hf : H1 s1.heap.objs.size = none := I1.hok.fresh (Nat.le_refl _)
  refine ⟨.ref s1.heap.objs.size, upd H1 s1.heap.objs.size (.lst xs), I1.laid (t' := s1.toks) (fun b u e => Heap.get?_push_of_some _ e) (Nat.le_refl _) ?_, rfl, q _ hf⟩
  exact ⟨z, us, 0, r, Heap.get?_push_size _ rfl⟩
end

/-! ### what a def promises -/
/-- a def's promise: the bound arguments in the parameters' order, the heap, the wanted end, the wanted exception -/
noncomputable abbrev Sp := List V → Hp → VK → XK → Prop
/-- how an exception lies behind a call (file 08 gives it): the callers' frames, abstract heap and state ahead of the call, the wish, the exception, the state -/
noncomputable abbrev CXT := List Env → Hp → Shared → XK → Value → Shared → Prop

/-- the state at a call -/
structure Env0 (P : Program) (w : World) (K : PySem.W.Frag) (mg : Str → Option Value) (base : Heap) (A : Around) (outer : List Env) (s : Shared) (H : Hp) : Prop where
  frames : A.frames = some outer
  mod : Mod K mg base
  bs : ∀ b o, base.get? b = some o → s.heap.get? b = some o ∧ H b = none
  bsz : base.objs.size ≤ s.heap.objs.size
  funs : s.heap.FunFrames base outer
  frf : ∀ b ∈ frs outer, H b = none
  hok : HOk P w H s.heap
  bare : AllBare s.gens
/-- a call's end -/
noncomputable def CE (outer : List Env) (P : Program) (w : World) (H : Hp) (s : Shared) (Q : VK) (u : Value) (s' : Shared) : Prop :=
  ∃ v H', s'.os = s.os ∧ AllBare s'.gens ∧ Un (frs outer) [] H H' s.heap s'.heap ∧ HOk P w H' s'.heap ∧ RelV v u ∧ Q v H'
noncomputable def CR (CX : CXT) (outer : List Env) (P : Program) (w : World) (H : Hp) (s : Shared) (Q : VK) (E : XK) (r : Result) (s' : Shared) : Prop :=
  match r with
  | .ok (.ret u) => CE outer P w H s Q u s'
  | .ok _ => False
  | .error e => CX outer H s E e s'
structure FnOk (P : Program) (w : World) (K : PySem.W.Frag) (mg : Str → Option Value) (base : Heap) (CX : CXT) (k : Nat) (f : Addr) (fd : FuncData) (ps : List Str) (sp : Sp) : Prop where
  len : ∀ vs H Q E, sp vs H Q E → vs.length = ps.length
  run : ∀ (A : Around) (outer : List Env) (s : Shared) (H : Hp) (args : Args) (us : List Value) (vs : List V) (Q : VK) (E : XK), Room k A → Env0 P w K mg base A outer s H → BindsTo s fd args (ps.zip us) → Vals vs us → sp vs H Q E →
    codeAny (model P w) A (.call (.ref f) args) (CR CX outer P w H s Q E) s
theorem FnOk.mono {P : Program} {w : World} {K : PySem.W.Frag} {mg : Str → Option Value} {base : Heap} {CX : CXT} {j k : Nat} {f : Addr} {fd : FuncData} {ps : List Str} {sp : Sp} (F : FnOk P w K mg base CX j f fd ps sp) (h : j ≤ k) :
    FnOk P w K mg base CX k f fd ps sp := ⟨F.len, fun A outer s H args us vs Q E hr => F.run A outer s H args us vs Q E (hr.mono h)⟩
/-- a weaker promise -/
theorem FnOk.imp {P : Program} {w : World} {K : PySem.W.Frag} {mg : Str → Option Value} {base : Heap} {CX : CXT} {k : Nat} {f : Addr} {fd : FuncData} {ps : List Str} {sp sp' : Sp} (F : FnOk P w K mg base CX k f fd ps sp)
    (h : ∀ vs H Q E, sp' vs H Q E → sp vs H Q E) : FnOk P w K mg base CX k f fd ps sp' :=
  ⟨fun vs H Q E q => F.len vs H Q E (h _ _ _ _ q), fun A outer s H args us vs Q E hr he hb hv hs => F.run A outer s H args us vs Q E hr he hb hv (h _ _ _ _ hs)⟩

theorem Env0.make {P : Program} {w : World} {K : PySem.W.Frag} {mg : Str → Option Value} {base : Heap} {A : Around} {outer : List Env} {s : Shared} {H : Hp} (e : Env0 P w K mg base A outer s H) (C : Addr) (us : List Value) (kw : List (Str × Value)) :
    Env0 P w K mg base (A.under (.builtin "type.__call__" ⟨.ref C :: us, kw⟩)) outer s H := ⟨by first | exact e.frames | (simpa [Around.under, Code.envs, Code.isFrame, pushEnvs] using e.frames), e.mod, e.bs, e.bsz, e.funs, e.frf, e.hok, e.bare⟩
theorem Env0.in1 {P : Program} {w : World} {K : PySem.W.Frag} {mg : Str → Option Value} {base : Heap} {A : Around} {outer : List Env} {s : Shared} {H : Hp} (e : Env0 P w K mg base A outer s H) :
    Env0 P w K mg base A.in1 outer s H := ⟨e.frames, e.mod, e.bs, e.bsz, e.funs, e.frf, e.hok, e.bare⟩

section
variable {X : Cx} {pins : List (Addr × Obj)} {σ : St} {H : Hp} {s s' : Shared}
/-- from a body: what a callee wants -/
theorem Inv.env0 (I : Inv X pins σ H s) : Env0 X.prog X.w X.K X.mg X.base X.A X.stack s H :=
  ⟨I.ok.frames, I.ok.mod, I.bs, Nat.le_trans I.ok.bsz I.sz, I.stack, I.stkFree, I.hok, I.bare⟩
/-- behind a call -/
theorem Inv.after {Q : VK} {u : Value} (I : Inv X pins σ H s) (h : CE X.stack X.prog X.w H s Q u s') : EP X pins σ Q u s' := by
  obtain ⟨v, H', os, bare, un, hok, r, q⟩ := h
  obtain ⟨hh, g, d, t, os'⟩ := s'
  obtain rfl : os' = s.os := os
  exact ⟨v, H', I.call (h' := hh) (g' := g) (d' := d) (t' := t) (ch := []) un hok bare (fun b z => absurd z (by simp)), r, q⟩
end

/-! ### calls -/
/-- f(..): the written arguments, then the defaults dvs; E: what is wanted of an exception -/
noncomputable def tCall (sp : Sp) (dvs : List V) (E : XK) (t : TA) : TE := fun σ H Q => t σ H fun vs H1 => sp (vs ++ dvs) H1 Q E
/-- o.m(..) of an instance of the class at C -/
noncomputable def tMeth (C : Addr) (m : Str) (sp : Sp) (dvs : List V) (E : XK) (ta : TE) (t : TA) : TE := fun σ H Q => ta σ H fun x H1 => ∃ a dx fs, x = .ref a ∧ H1 a = some (.ins C dx fs) ∧ fs.lookup m = none ∧
  t σ H1 fun vs H2 => sp (x :: (vs ++ dvs)) H2 Q E
/-- C(..): a new instance and its dict, then __init__ -/
noncomputable def tMake (C : Addr) (sp : Sp) (dvs : List V) (E : XK) (t : TA) : TE := fun σ H Q => t σ H fun vs H1 => ∀ x dx, H1 x = none → H1 dx = none → dx ≠ x →
  sp (.ref x :: (vs ++ dvs)) (upd (upd H1 dx (.own x)) x (.ins C dx [])) (fun v H2 => v = .non ∧ Q (.ref x) H2) E

/-- how the parameters are bound: us the positional arguments, kw the keywords' values by name, ds the defaults that fill up -/
noncomputable def Binds (K : PySem.W.Frag) (fd : FuncData) (ps : List Str) (ds : List Value) : Prop :=
  ∀ (s : Shared) (us : List Value), K.In s.heap → (us ++ ds).length = ps.length → BindsTo s fd ⟨us, []⟩ (ps.zip (us ++ ds))
/-- every parameter is given -/
theorem Binds.all {K : PySem.W.Frag} {fd : FuncData} {ps : List Str} (h : ∀ us : List Value, us.length = ps.length → bindArgs fd ⟨us, []⟩ = pure (ps.zip us)) : Binds K fd ps [] := fun s us _ hl => by
  rw [List.append_nil] at hl ⊢
  exact .of_eq (h us hl)

/-- an exception of a callee reaches what this body wants of exceptions -/
noncomputable def Passes (CX : CXT) (X : Cx) (E : XK) : Prop := ∀ (pins : List (Addr × Obj)) (σ : St) (H : Hp) (s : Shared) (e : Value) (s' : Shared), Inv X pins σ H s → CX X.stack H s E e s' → X.xe e s'

section
variable {X : Cx} {CX : CXT} {k : Nat} {f C : Addr} {fd : FuncData} {ps : List Str} {sp : Sp} {dvs : List V} {ds : List Value} {E : XK} {x m : Str} {p pos apos : Pos} {e o : Expr} {es : List Expr} {ta : TE} {t : TA}

/-- the callee runs -/
theorem run_fn {pins : List (Addr × Obj)} {σ : St} {H : Hp} {s : Shared} {Q : VK} {us : List Value} {vs : List V} (F : FnOk X.prog X.w X.K X.mg X.base CX k f fd ps sp) (hr : Room k X.A) (hb : Binds X.K fd ps ds) (hd : Vals dvs ds) (hx : Passes CX X E)
    (I : Inv X pins σ H s) (r : Vals vs us) (h : sp (vs ++ dvs) H Q E) : wpAny (model X.prog X.w) X.A (call (.ref f) us) (EP X pins σ Q) X.xe s := by
  have r2 : Vals (vs ++ dvs) (us ++ ds) := r.append hd
  have hl : (us ++ ds).length = ps.length := by rw [← r2.length]; exact F.len _ _ _ _ h
  refine wpAny_call (codeAny_mono (F.run X.A X.stack s H ⟨us, []⟩ (us ++ ds) (vs ++ dvs) Q E hr I.env0 (hb s us I.kIn hl) r2 h) fun r s' hq => ?_)
  cases r with
  | error e => exact hx pins σ H s e s' I hq
  | ok fl =>
    cases fl with
    | ret u => exact I.after hq
    | next => exact False.elim hq
    | brk => exact False.elim hq
    | cont => exact False.elim hq

theorem pe_call (F : FnOk X.prog X.w X.K X.mg X.base CX k f fd ps sp) (hr : Room k X.A) (hg : Gl X x) (hm : X.mg x = some (.ref f)) (hk : PySem.W.keepIn X.K (.ref f) = true) (hb : Binds X.K fd ps ds) (hd : Vals dvs ds) (hx : Passes CX X E)
    (ha : PA X (e :: es) t) (hdb : (x == ("__debug__" : Str)) = false := by decide) (he : starEach (e :: es) X.env = (false, eval e X.env) :: starEach es X.env := by rfl) (hpl : (backTo pos (starEach es X.env)).any (·.1) = false := by rfl) :
    PE X (.Call (.Name x p) (e :: es) [] pos) (tCall sp dvs E t) := by
  intro pins s σ H Q I h
  refine wpAny_Call_Name_kw (ld_glob I hg hm ?_ hdb)
  refine PySem.W.callWith_K (h₀ := X.base) I.ok.mod.kin hk (thn (ha pos pins s σ H _ I h) fun us s1 ⟨vs, H1, I1, r, q⟩ => ⟨I1.kIn, ?_⟩) he hpl
  exact run_fn F hr hb hd hx I1 r q
/-- what a class must have to be made -/
structure Mk (K : PySem.W.Frag) (C f : Addr) : Prop where
  makes : PySem.W.makesIn K C = true
  init : PySem.W.findIn K (.ref C) "__init__" = some (some (.ref f))
  fn : PySem.W.isFn K (.ref f) = true
  kp : PySem.W.keepIn K (.ref C) = true

end

/-! ### keywords -/
/-- the values of the keywords, from the left -/
noncomputable def PK (X : Cx) (kws : List Keyword) (t : TA) : Prop :=
  ∀ (pos : Pos) (pins : List (Addr × Obj)) (s : Shared) (σ : St) (H : Hp) (Q : List V → Hp → Prop), Inv X pins σ H s → t σ H Q → wpAny (model X.prog X.w) X.A (evalAll ((backToKw pos (keywordEach kws X.env)).map (·.2))) (AP X pins σ Q) X.xe s
section
variable {X : Cx} {CX : CXT} {k : Nat} {f C : Addr} {fd : FuncData} {ps ks : List Str} {sp : Sp} {E : XK} {x m : Str} {p pos apos kpos : Pos} {e o : Expr} {es : List Expr} {kws : List Keyword} {te ta : TE} {t tk : TA} {nm : Option Str}
theorem pk_nil : PK X [] tNil := fun _ _ _ _ H Q I h => wpAny_evalAll_nil ⟨[], H, I, .nil, h⟩
theorem pk_cons (ha : PE X e te) (hr : PK X kws t) : PK X (⟨nm, e, kpos⟩ :: kws) (tCons te t) := by
  intro pos pins s σ H Q I h
  show wpAny _ _ (evalAll ((do let v ← eval e X.env; standAt pos; pure v) :: (backToKw pos (keywordEach kws X.env)).map (·.2))) _ _ s
  refine wpAny_evalAll_cons (wpAny_bind (thn (ha pins s σ H _ I h) fun u s1 ⟨x, H1, I1, r1, q1⟩ => wpAny_bind (wpAny_standAt (wpAny_pure ?_))))
  exact thn (hr pos pins s1 σ H1 _ I1 q1) fun us s2 hsl27 => by obtain ⟨xs, H2, I2, r2, q2⟩ := hsl27; exact ⟨x :: xs, H2, I2, .cons r1 r2, q2⟩

/-- how a call with keywords binds: g puts the positional values us and the keywords' values ws (names ks) in the parameters' order, defaults among them -/
structure KBinds (K : PySem.W.Frag) (fd : FuncData) (ps ks : List Str) (g : List Value → List Value → List Value) (gV : List V → List V → List V) : Prop where
  to : ∀ (s : Shared) (us ws : List Value), K.In s.heap → (g us ws).length = ps.length → BindsTo s fd ⟨us, ks.zip ws⟩ (ps.zip (g us ws))
  rel : ∀ {vs : List V} {us : List Value} {zs : List V} {ws : List Value}, Vals vs us → Vals zs ws → Vals (gV vs zs) (g us ws)
variable {g : List Value → List Value → List Value} {gV : List V → List V → List V}
end

/-! ### a def's body keeps its promise -/
/-- names: the parameters first -/
structure FnScope (N P : List Str) (sc : Scope) : Prop where
  kind : sc.kind = .function
  co : sc.isCoroutine = false
  gen : sc.isGenerator = false
  nd : N.Nodup
  pre : N.take P.length = P
  par : ∀ x ∈ P, sc.names.lookup x = some .local ∨ sc.names.lookup x = some .cell
  nofree : ∀ y ∈ sc.names, y.2 ≠ .free

theorem bindL_out {kindOf : Str → Option NameKind} {x : Str} : ∀ {binds : List (Str × Value)} {m : Str → Option Value}, (∀ v, (x, v) ∉ binds) → bindL kindOf binds m x = m x
  | [], _, _ => rfl
  | (n, v) :: r, m, h => by
    unfold bindL
    rw [bindL_out fun w hw => h w (List.mem_cons_of_mem _ hw)]
    split
    · have : x ≠ n := by rintro rfl; exact h v List.mem_cons_self
      simp [this]
    · rfl
theorem bindC_out {kindOf : Str → Option NameKind} {x : Str} : ∀ {binds : List (Str × Value)} {m : Str → Option Value}, (∀ v, (x, v) ∉ binds) → bindC kindOf binds m x = m x
  | [], _, _ => rfl
  | (n, v) :: r, m, h => by
    unfold bindC
    rw [bindC_out fun w hw => h w (List.mem_cons_of_mem _ hw)]
    split
    · rfl
    · have : x ≠ n := by rintro rfl; exact h v List.mem_cons_self
      simp [this]
theorem bindL_get {kindOf : Str → Option NameKind} {x : Str} {v : Value} : ∀ {P : List Str} {vs : List Value} {i : Nat} {m : Str → Option Value}, P.Nodup → P[i]? = some x → vs[i]? = some v → kindOf x = some .local →
    bindL kindOf (P.zip vs) m x = some v
  | [], _, _, _, _, h, _, _ => by simp at h
  | _ :: _, [], _, _, _, _, h, _ => by simp at h
  | p :: P, w :: vs, 0, m, nd, h1, h2, hk => by
    simp at h1 h2; subst h1; subst h2
    show bindL kindOf ((p, w) :: P.zip vs) m p = _
    unfold bindL
    rw [bindL_out fun v hv => (List.nodup_cons.mp nd).1 (List.of_mem_zip hv).1, if_pos hk]
    simp
  | p :: P, w :: vs, i + 1, m, nd, h1, h2, hk => by
    show bindL kindOf ((p, w) :: P.zip vs) m x = _
    unfold bindL
    exact bindL_get (i := i) (List.nodup_cons.mp nd).2 (by simpa using h1) (by simpa using h2) hk
theorem bindC_get {kindOf : Str → Option NameKind} {x : Str} {v : Value} : ∀ {P : List Str} {vs : List Value} {i : Nat} {m : Str → Option Value}, P.Nodup → P[i]? = some x → vs[i]? = some v → kindOf x ≠ some .local →
    bindC kindOf (P.zip vs) m x = some v
  | [], _, _, _, _, h, _, _ => by simp at h
  | _ :: _, [], _, _, _, _, h, _ => by simp at h
  | p :: P, w :: vs, 0, m, nd, h1, h2, hk => by
    simp at h1 h2; subst h1; subst h2
    show bindC kindOf ((p, w) :: P.zip vs) m p = _
    unfold bindC
    rw [bindC_out fun v hv => (List.nodup_cons.mp nd).1 (List.of_mem_zip hv).1, if_neg hk]
    simp
  | p :: P, w :: vs, i + 1, m, nd, h1, h2, hk => by
    show bindC kindOf ((p, w) :: P.zip vs) m x = _
    unfold bindC
    exact bindC_get (i := i) (List.nodup_cons.mp nd).2 (by simpa using h1) (by simpa using h2) hk

/-- the names' values at the entry -/
noncomputable def start (N : List Str) (vs : List V) : St := vs.map some ++ List.replicate (N.length - vs.length) none

/-- the context of a def's body, at its entry; an exception leaves the frame, then lies as CX says -/
noncomputable def cxOf (CX : CXT) (P : Program) (w : World) (K : PySem.W.Frag) (mg : Str → Option Value) (base : Heap) (N : List Str) (qual : Str) (scope : Scope) (f : Addr) (cd : Value) (A : Around) (outer : List Env) (s : Shared) (H : Hp) (E : XK) : Cx where
  prog := P
  w := w
  K := K
  mg := mg
  base := base
  A := A.deeper (envOfC qual scope s.heap.objs.size f cd)
  N := N
  s₀ := s
  H₀ := H
  env := envOfC qual scope s.heap.objs.size f cd
  outer := outer
  stack := envOfC qual scope s.heap.objs.size f cd :: outer
  ex := []
  calm := true
  fn := fun _ => true
  pn := []
  xe := fun e s' => wpAny (model P w) (A.deeper (envOfC qual scope s.heap.objs.size f cd)) (leaving (envOfC qual scope s.heap.objs.size f cd) e) (fun _ s'' => CX outer H s E e s'') (fun e' s'' => CX outer H s E e' s'') s'

theorem cell_has {sc : Scope} {n : Nat} {x : Str} (h : sc.names.lookup x = some .cell) : ∃ c, (cellsFrom n sc.names []).lookup x = some c := by
  have q := PySem.W.cellsFrom_some sc.names n [] (.inl h)
  exact Option.isSome_iff_exists.mp q

theorem inv_start {CX : CXT} {P : Program} {w : World} {K : PySem.W.Frag} {mg : Str → Option Value} {base : Heap} {N ps : List Str} {qual : Str} {scope : Scope} {f : Addr} {cd : Value} {A : Around} {outer : List Env} {s s1 : Shared} {H : Hp} {E : XK} {us : List Value} {vs : List V}
    (S : FnScope N ps scope) (hd : A.handled = none) (e0 : Env0 P w K mg base A outer s H) (hl : vs.length = ps.length) (r : Vals vs us)
    (x : InCallC s s.heap.objs.size (bindL (envOfC qual scope s.heap.objs.size f cd).kindOf (ps.zip us) fun _ => none) (cellsFrom (s.heap.objs.size + 1) scope.names []) (bindC (envOfC qual scope s.heap.objs.size f cd).kindOf (ps.zip us) fun _ => none) s1) :
    Inv (cxOf CX P w K mg base N qual scope f cd A outer s H E) [] (start N vs) H s1 := by
  have hpl : ps.length ≤ N.length := by have := congrArg List.length S.pre; rw [List.length_take] at this; omega
  obtain ⟨h1, tk, rfl, hk⟩ := x.done
  have noA : ∀ b : Addr, b ∉ (cxOf CX P w K mg base N qual scope f cd A outer s H E).ex := fun b z => absurd (show b ∈ ([] : List Addr) from z) (by simp)
  refine ⟨⟨e0.mod, S.kind, rfl, rfl, Nat.le_refl _, fun y z c h1 h2 => ?_, fun y hy => ?_, fun y c _ h => ?_, fun _ => hd, Around.frames_deeper e0.frames, .inr ⟨rfl, rfl⟩, fun b z => absurd z (noA b), e0.bs, e0.bsz, fun b _ _ => noA b, fun b z => absurd z (noA b), e0.funs, e0.frf⟩,
    rfl, e0.bare, Un.kept hk, ⟨_, x.toInCall.ns, fun i y v h1 h2 h3 => ?_⟩, fun y c h => ⟨_, x.cell y c h⟩, e0.hok.fresh (Nat.le_refl _), fun y c h => ?_, fun p hp => absurd (show p ∈ ([] : List (Addr × Obj)) from hp) (by simp), e0.hok.kept hk, ?_⟩
  · exact name_of_addr x.apart (PySem.mem_of_lookup h1) (PySem.mem_of_lookup h2)
  · have hy : scope.names.lookup y = some .cell ∨ scope.names.lookup y = some .free := hy
    rcases hy with hy | hy
    · exact cell_has hy
    · exact absurd rfl (S.nofree _ (PySem.mem_of_lookup hy))
  · exact Nat.le_of_lt (x.above y c (PySem.mem_of_lookup h))
  · have hi : i < vs.length := by
      unfold start at h2
      by_cases hi : i < vs.length
      · exact hi
      · rw [List.getElem?_append_right (by simpa using hi)] at h2
        rw [List.getElem?_replicate] at h2
        split at h2 <;> cases h2
    have ha : vs[i]? = some v := by
      unfold start at h2
      rw [List.getElem?_append_left (by simpa using hi), List.getElem?_map] at h2
      cases e : vs[i]? with
      | none => rw [e] at h2; cases h2
      | some a => rw [e] at h2; cases h2; rfl
    obtain ⟨u, hu, rv⟩ := r.get ha
    have hp : ps[i]? = some y := by
      rw [← S.pre, List.getElem?_take_of_lt (by omega)]; exact h1
    have ndP : ps.Nodup := by rw [← S.pre]; exact S.nd.sublist (List.take_sublist _ _)
    refine ⟨u, rv, ?_⟩
    rcases S.par y (List.mem_of_getElem? hp) with k | k
    · exact .inl ⟨k, bindL_get ndP hp hu k⟩
    · obtain ⟨c, e⟩ := cell_has (n := s.heap.objs.size + 1) k
      refine .inr ⟨.inl k, c, e, ?_⟩
      have q := x.cell y c e
      rw [bindC_get ndP hp hu (by show scope.names.lookup y ≠ _; rw [k]; decide)] at q
      exact q
  · exact e0.hok.fresh (Nat.le_of_lt (x.above y c (PySem.mem_of_lookup h)))
  · unfold start
    show _ = N.length
    rw [List.length_append, List.length_map, List.length_replicate]
    omega

/-- THE RULE: a def (or a method) of the text, by its body. The body's reading t is chosen for each entry; it is run at the parameters' values -/
theorem fn_of {CX : CXT} {P : Program} {w : World} {K : PySem.W.Frag} {mg : Str → Option Value} {base : Heap} {k : Nat} {f : Addr} {name qual : Str} {params : Arguments} {body : List Stmt} {scope : Scope} {dV kV doc pm cdv ct oc : Value} {an od : Option Addr}
    {osl : Array (Option Value)} {N ps : List Str} {sp : Sp} (lk : K.lookup f = some ⟨oc, od, .func (PySem.W.fnOf name qual params body scope dV kV doc pm an cdv ct), osl⟩) (hcd : PySem.W.codeIn K cdv qual = true) (S : FnScope N ps scope)
    (len : ∀ vs H Q E, sp vs H Q E → vs.length = ps.length)
    (hbody : ∀ (A : Around) (outer : List Env) (s : Shared) (H : Hp) (vs : List V) (Q : VK) (E : XK), Room k (A.deeper (envOfC qual scope s.heap.objs.size f cdv)) → sp vs H Q E →
      ∃ t, PSs (cxOf CX P w K mg base N qual scope f cdv A outer s H E) body t ∧ t { nx := fun _ H' => Q .non H', rt := Q } (start N vs) H) :
    FnOk P w K mg base CX (k + 1) f (PySem.W.fnOf name qual params body scope dV kV doc pm an cdv ct) ps sp := by
  refine ⟨len, fun A outer s H args us vs Q E hr e0 hb r hsp => ?_⟩
  have hl := len _ _ _ _ hsp
  have KX : K.In s.heap := e0.mod.kin.keeps fun b o e => (e0.bs b o e).1
  have lim : s.heap.NoLimit := e0.mod.nolimit.keeps fun b o e => (e0.bs b o e).1
  have hkind : ∀ y ∈ ps.zip us, scope.names.lookup y.1 = some .local ∨ (scope.names.lookup y.1 = some .cell ∧ ((cellsFrom (s.heap.objs.size + 1) scope.names []).lookup y.1).isSome = true) := fun ⟨n, v⟩ hy => by
    rcases S.par n (List.of_mem_zip hy).1 with q | q
    · exact .inl q
    · exact .inr ⟨q, PySem.W.cellsFrom_some _ _ _ (.inl q)⟩
  refine codeAny_call_function hr.depth (KX _ _ lk) rfl S.co S.gen rfl (PySem.W.codeRec_of KX hcd) (hb _ _ _ _ ?_)
  refine wpAny_newFunctionEnv_cells S.kind hkind fun env he s1 x => ?_
  subst he
  refine ⟨lim.keeps x.toInCall.keep, codeAny_func ?_⟩
  obtain ⟨t, ht, hq⟩ := hbody A outer s H vs Q E (hr.deeper _) hsp
  have I : Inv (cxOf CX P w K mg base N qual scope f cdv A outer s H E) [] (start N vs) H s1 := inv_start S hr.hd e0 hl r x
  refine wpAny_mono (ht [] s1 (start N vs) H _ I hq) (fun fl s' hs => ?_) fun e s' hs => hs
  have fin : ∀ {σ' : St} {H' : Hp} {v : V} {u : Value}, Inv (cxOf CX P w K mg base N qual scope f cdv A outer s H E) [] σ' H' s' → RelV v u → Q v H' → CE outer P w H s Q u s' :=
    fun {σ' H' v u} J rv q => ⟨v, H', J.os, J.bare, J.base, J.hok, rv, q⟩
  cases fl with
  | ret u =>
    obtain ⟨v, σ', H', J, rv, q⟩ := hs
    exact fin J rv q
  | next =>
    obtain ⟨σ', H', J, q⟩ := hs
    exact fin (v := V.non) (u := Value.none) J rfl q
  | brk =>
    obtain ⟨_, _, _, q⟩ := hs
    exact False.elim q
  | cont =>
    obtain ⟨_, _, _, q⟩ := hs
    exact False.elim q
end L2

namespace L2
open PySem PySem.Spec PyProof.Rows
section
variable {X : Cx} {x : Str} {p pos : Pos} {e : Expr} {es : List Expr} {t : TA} {id T : String} {r : List V → Hp → VK → Prop}

noncomputable def tCB (r : List V → Hp → VK → Prop) (t : TA) : TE := fun σ H Q => t σ H fun vs H1 => r vs H1 Q
/-- f(e, ..), f a built-in function -/
theorem pe_callB (hc : CallR X (.builtin id) r) (hg : Gl X x) (hm : X.mg x = none) (hv : bootBuiltins x = some (.builtin id)) (ha : PA X (e :: es) t) (hn : x ≠ "__name__" := by decide) (hdb : (x == ("__debug__" : Str)) = false := by decide)
    (he : starEach (e :: es) X.env = (false, eval e X.env) :: starEach es X.env := by rfl) (hpl : (backTo pos (starEach es X.env)).any (·.1) = false := by rfl) : PE X (.Call (.Name x p) (e :: es) [] pos) (tCB r t) := by
  intro pins s σ H Q I h
  refine wpAny_Call_Name_kw (ld_blt I hg hm hv ?_ hn hdb)
  exact PyProof.Rows.callWith_builtin1 (thn (ha pos pins s σ H _ I h) fun us s1 hsl28 => by obtain ⟨vs, H1, I1, r1, q1⟩ := hsl28; exact hc pins s1 σ H1 vs us Q I1 r1 q1) he hpl
/-- T(e, ..), T a built-in type -/
theorem pe_callTy (hc : CallR X (.type T) r) (hg : Gl X x) (hm : X.mg x = none) (hv : bootBuiltins x = some (.type T)) (ha : PA X (e :: es) t) (hn : x ≠ "__name__" := by decide) (hdb : (x == ("__debug__" : Str)) = false := by decide)
    (he : starEach (e :: es) X.env = (false, eval e X.env) :: starEach es X.env := by rfl) (hpl : (backTo pos (starEach es X.env)).any (·.1) = false := by rfl) : PE X (.Call (.Name x p) (e :: es) [] pos) (tCB r t) := by
  intro pins s σ H Q I h
  refine wpAny_Call_Name_kw (ld_blt I hg hm hv ?_ hn hdb)
  exact PyProof.Rows.callWith_type1 (thn (ha pos pins s σ H _ I h) fun us s1 hsl29 => by obtain ⟨vs, H1, I1, r1, q1⟩ := hsl29; exact hc pins s1 σ H1 vs us Q I1 r1 q1) he hpl
end
end L2

namespace HT
open PySem PyProof.Rows

section
open PySem.SeqAt
open PySem.AutoSeq1 (wpAny_loadPart')
open PySem.MeetsSeq PySem.MeetsSeq2 PySem.MeetsSeq3

end

section
variable {prog : Program} {w : World} {A : Around} {E : Value → Shared → Prop} {s : Shared}

/-! ### t[a:b], not the whole -/
/-- a slice's bound as a place among n (d where it is left out) -/
noncomputable def sIx (n d : Nat) : Option Int → Nat
  | none => d
  | some v => if v < 0 then (v + (n : Int)).toNat else min v.toNat n
theorem sIx_nat (n d k : Nat) : sIx n d (some (k : Int)) = min k n := by
  show (if (k : Int) < 0 then ((k : Int) + (n : Int)).toNat else min (k : Int).toNat n) = min k n
  rw [if_neg (by omega), Int.toNat_natCast]
end
end HT

namespace L2
open PySem PySem.Spec PyProof.Rows

/-! ### the parts of a slice -/
noncomputable abbrev TO := St → Hp → (Option Int → Hp → Prop) → Prop
/-- a slice's part (left out, or an int) -/
noncomputable def PO (X : Cx) (e : Option Expr) (t : TO) : Prop :=
  ∀ (pins : List (Addr × Obj)) (s : Shared) (σ : St) (H : Hp) (Q : Option Int → Hp → Prop), Inv X pins σ H s → t σ H Q →
    wpAny (model X.prog X.w) X.A (evalPart e X.env) (fun u s' => ∃ o H', Inv X pins σ H' s' ∧ IsPart u o ∧ Q o H') X.xe s
noncomputable def tPart (t : TE) : TO := fun σ H Q => t σ H fun x H1 => ∃ i, x = .int i ∧ Q (some i) H1

section
variable {X : Cx} {e : Expr} {te : TE} {lo hi : Option Expr} {tl th : TO} {pos p2 : Pos}

theorem po_some (h : PE X e te) : PO X (some e) (tPart te) := by
  intro pins s σ H Q I hw
  rw [evalPart_some]
  refine thn (h pins s σ H _ I hw) fun u s1 hsl30 => ?_
  obtain ⟨x, H1, I1, r1, q1⟩ := hsl30
  obtain ⟨i, rfl, q⟩ := q1
  obtain ⟨t, rfl⟩ := r1
  exact ⟨some i, H1, I1, .int i t, q⟩

/-- what a slice of a value is, by values: the slice object stands at sl -/
noncomputable def SlR (X : Cx) (r : V → Option Int → Option Int → Hp → VK → Prop) : Prop :=
  ∀ (pins : List (Addr × Obj)) (s : Shared) (σ : St) (H : Hp) (x : V) (v vl vu : Value) (lo hi : Option Int) (sl : Addr) (Q : VK), Inv X pins σ H s → RelV x v → s.heap.IsSliceOf sl vl vu .none → IsPart vl lo → IsPart vu hi → r x lo hi H Q →
    ∃ T id, typeLookup (.type T) "__getitem__" = pure (some (.builtin id)) ∧ s.TypeIs v T ∧ wpAny (model X.prog X.w) X.A (getItem v (.ref sl)) (EP X pins σ Q) X.xe s
theorem SlR.or {r r' : V → Option Int → Option Int → Hp → VK → Prop} (h : SlR X r) (h' : SlR X r') : SlR X (fun x lo hi H Q => r x lo hi H Q ∨ r' x lo hi H Q) := by
  intro pins s σ H x v vl vu lo hi sl Q I rx hs pl pu q
  rcases q with q | q
  · exact h pins s σ H x v vl vu lo hi sl Q I rx hs pl pu q
  · exact h' pins s σ H x v vl vu lo hi sl Q I rx hs pl pu q
noncomputable def tSl (r : V → Option Int → Option Int → Hp → VK → Prop) (te : TE) (tl th : TO) : TE := fun σ H Q => te σ H fun x H1 => tl σ H1 fun l H2 => th σ H2 fun u H3 => r x l u H3 Q
/-- a[lo:hi], any a -/
theorem pe_slice {r : V → Option Int → Option Int → Hp → VK → Prop} (hr : SlR X r) (he : PE X e te) (hl : PO X lo tl) (hu : PO X hi th) : PE X (.Subscript e (.Slice lo hi none p2) pos) (tSl r te tl th) := by
  intro pins s σ H Q I h
  refine Subscript_ (thn (he pins s σ H _ I h) fun v s1 hsl31 => ?_)
  obtain ⟨x, H1, I1, r1, q1⟩ := hsl31
  refine wpAny_Slice (thn (hl pins s1 σ H1 _ I1 q1) fun vl s2 ⟨l, H2, I2, pl, q2⟩ => thn (hu pins s2 σ H2 _ I2 q2) fun vu s3 hsl32 => ?_)
  obtain ⟨u, H3, I3, pu, q3⟩ := hsl32
  rw [evalPart_none]
  refine wpAny_pure ?_
  have I4 : Inv X pins σ H3 { s3 with heap := s3.heap.push { cls := .type "slice", data := .fields #[vl, vu, .none] } } := I3.kept (t' := s3.toks) fun b ob q => Heap.get?_push_of_some _ q
  obtain ⟨T, id, hT, ht, hg⟩ := hr pins { s3 with heap := s3.heap.push { cls := .type "slice", data := .fields #[vl, vu, .none] } } σ H3 x v vl vu l u s3.heap.objs.size Q I4 r1 (Heap.IsSliceOf.new ..) pl pu q3
  show wpAny (model X.prog X.w) X.A (subscriptTail e (.Slice lo hi none p2) v (.ref s3.heap.objs.size)) (EP X pins σ Q) X.xe { s3 with heap := s3.heap.push { cls := .type "slice", data := .fields #[vl, vu, .none] } }
  exact tail_any (ops := [.ref s3.heap.objs.size, v]) ht hT hg (by with_unfolding_all rfl)

/-- the items of xs[lo:hi] -/
noncomputable def cutV (xs : List V) (lo hi : Option Int) : List V := (xs.drop (HT.sIx xs.length 0 lo)).take (HT.sIx xs.length xs.length hi - HT.sIx xs.length 0 lo)
theorem cutV_length (xs : List V) (lo hi : Option Int) : (cutV xs lo hi).length ≤ xs.length := by
  unfold cutV
  rw [List.length_take, List.length_drop]
  omega
/-! ### t < u, t + u -/
end
end L2

namespace L2
open PySem PySem.Spec PyProof.Rows

/-! ### places -/
/-- the place that an index of any sign means -/
noncomputable def ixN (n : Nat) (i : Int) : Option Nat := if 0 ≤ i then (if i < n then some i.toNat else none) else if -(n : Int) ≤ i then some (i + n).toNat else none
noncomputable def atI {α : Type} (xs : List α) (i : Int) : Option α := (ixN xs.length i).bind fun j => xs[j]?
theorem ixN_seq {n : Nat} {i : Int} {j : Nat} (h : ixN n i = some j) : seqIndex? i n = some j ∧ j < n ∧ -(n : Int) ≤ i ∧ i < n := by
  unfold ixN at h
  by_cases h0 : 0 ≤ i
  · rw [if_pos h0] at h
    by_cases h1 : i < n
    · rw [if_pos h1] at h
      have e : i.toNat = j := Option.some.inj h
      exact ⟨by rw [seqIndex_of h0 h1, e], by omega, by omega, h1⟩
    · rw [if_neg h1] at h; cases h
  · rw [if_neg h0] at h
    by_cases h1 : -(n : Int) ≤ i
    · rw [if_pos h1] at h
      have e : (i + n).toNat = j := Option.some.inj h
      exact ⟨by rw [seqIndex_neg (by omega) h1, e], by omega, h1, by omega⟩
    · rw [if_neg h1] at h; cases h
theorem atI_get {α : Type} {xs : List α} {i : Int} {v : α} (h : atI xs i = some v) : ∃ j, seqIndex? i xs.length = some j ∧ xs[j]? = some v ∧ j < xs.length ∧ -(xs.length : Int) ≤ i ∧ i < xs.length := by
  unfold atI at h
  cases e : ixN xs.length i with
  | none => rw [e] at h; cases h
  | some j =>
    rw [e] at h
    obtain ⟨h1, h2, h3, h4⟩ := ixN_seq e
    exact ⟨j, h1, h, h2, h3, h4⟩
theorem atI_nat {α : Type} {xs : List α} {j : Nat} {v : α} (h : xs[j]? = some v) : atI xs (j : Int) = some v := by
  have hj : j < xs.length := (List.getElem?_eq_some_iff.mp h).1
  have e : ixN xs.length (j : Int) = some j := by
    unfold ixN
    rw [if_pos (by omega), if_pos (by omega)]; simp
  unfold atI; rw [e]; exact h
/-! ### what may be subscripted -/
/-- what stands as an index of a plain subscript -/
noncomputable def PlainIx (b : Expr) : Prop := ∀ o i, subscripted b false o i = operate [o, i] (getItem o i)
/-- a subscript by values -/
noncomputable def IxR (X : Cx) (r : R2) : Prop :=
  ∀ (value slice : Expr) (pins : List (Addr × Obj)) (s : Shared) (σ : St) (H : Hp) (x y : V) (v u : Value) (Q : VK), Inv X pins σ H s → RelV x v → RelV y u → r x y H Q →
    subscripted slice false v u = operate [v, u] (getItem v u) → wpAny (model X.prog X.w) X.A (subscriptTail value slice v u) (EP X pins σ Q) X.xe s
/-- a call of a builtin's method by values: the receiver, the arguments -/
noncomputable def MtR (X : Cx) (id : String) (r : V → List V → Hp → VK → Prop) : Prop :=
  ∀ (pins : List (Addr × Obj)) (s : Shared) (σ : St) (H : Hp) (x : V) (xs : List V) (v : Value) (us : List Value) (Q : VK), Inv X pins σ H s → RelV x v → Vals xs us → r x xs H Q →
    wpAny (model X.prog X.w) X.A (call (.builtin id) (v :: us)) (EP X pins σ Q) X.xe s
section
variable {X : Cx} {a b : Expr} {ta tb : TE} {pos : Pos}
theorem IxR.or {r r' : R2} (h : IxR X r) (h' : IxR X r') : IxR X (fun x y H Q => r x y H Q ∨ r' x y H Q) := by
  intro value slice pins s σ H x y v u Q I rx ry q hs
  rcases q with q | q
  · exact h value slice pins s σ H x y v u Q I rx ry q hs
  · exact h' value slice pins s σ H x y v u Q I rx ry q hs
theorem MtR.or {id : String} {r r' : V → List V → Hp → VK → Prop} (h : MtR X id r) (h' : MtR X id r') : MtR X id (fun x xs H Q => r x xs H Q ∨ r' x xs H Q) := by
  intro pins s σ H x xs v us Q I rx rs q
  rcases q with q | q
  · exact h pins s σ H x xs v us Q I rx rs q
  · exact h' pins s σ H x xs v us Q I rx rs q
/-- a[b] -/
theorem pe_ix {r : R2} (hr : IxR X r) (ha : PE X a ta) (hb : PE X b tb) (hs : PlainIx b) : PE X (.Subscript a b pos) (tOp r ta tb) := by
  intro pins s σ H Q I h
  exact Subscript_ (binT ha hb I h fun v u s2 x y H2 I2 rx ry q => hr a b pins s2 σ H2 x y v u Q I2 rx ry q (hs _ _))

noncomputable def rIxL (K : PySem.W.Frag) : R2 := fun x y H Q => ∃ p xs i v, x = .ref p ∧ y = .int i ∧ SqL K H p xs ∧ atI xs i = some v ∧ Q v H
noncomputable def rIxT (K : PySem.W.Frag) : R2 := fun x y H Q => ∃ p xs i v, x = .ref p ∧ y = .int i ∧ SqT K H p xs ∧ atI xs i = some v ∧ Q v H
theorem ix_list : IxR X (rIxL X.K) := by
  intro value slice pins s σ H x y v u Q I rx ry h hs
  obtain ⟨p, xs, i, z, rfl, rfl, hq, he, q⟩ := h
  cases rx
  obtain ⟨t, rfl⟩ := ry
  obtain ⟨its, r, pl, hz⟩ := I.list hq
  obtain ⟨j, h1, h2, h3, h4, h5⟩ := atI_get he
  obtain ⟨w, ew, rw'⟩ := r.get h2
  have hl := r.length
  have hn := line63
  have fin : EP X pins σ Q w s := ⟨z, H, I, rw', q⟩
  by_cases h0 : 0 ≤ i
  · have hj : i.toNat = j := by
      rw [seqIndex_of h0 h5] at h1
      exact Option.some.inj h1
    exact item_listR pl.isList h0 (by omega) (by rw [hj]; simpa using ew) fin hs
  · have hj : (i + (its.toArray.size : Int)).toNat = j := by
      rw [seqIndex_neg (by omega) h4] at h1
      rw [List.size_toArray, ← hl]
      exact Option.some.inj h1
    exact subscriptTail_builtinR (x := w) pl.isList.typeIs slot_list_getitem.lookup
      (wpAny_getItem_list_neg (Q := fun r s' => r = w ∧ EP X pins σ Q r s') pl.isList (by omega) (by rw [List.size_toArray] <;> omega) (by omega) (by rw [hj]; simpa using ew) ⟨rfl, fin⟩) hs
theorem ix_tup : IxR X (rIxT X.K) := by
  intro value slice pins s σ H x y v u Q I rx ry h hs
  obtain ⟨p, xs, i, z, rfl, rfl, hq, he, q⟩ := h
  cases rx
  obtain ⟨t, rfl⟩ := ry
  obtain ⟨its, r, pl, hz⟩ := I.tuple hq
  obtain ⟨j, h1, h2, h3, h4, h5⟩ := atI_get he
  obtain ⟨w, ew, rw'⟩ := r.get h2
  have hl := r.length
  have hn := line63
  have fin : EP X pins σ Q w s := ⟨z, H, I, rw', q⟩
  exact subscriptTail_builtinR (x := w) pl.typeIs slot_tuple_getitem.lookup
    (getItem_tuple (j := j) (Q := fun r s' => r = w ∧ EP X pins σ Q r s') pl (by omega) (by omega) (by rw [List.size_toArray, ← hl]; exact h1) (by simpa using ew) ⟨rfl, fin⟩) hs
/-! ### xs[i] = v, any sign -/
theorem Inv.lst {pins : List (Addr × Obj)} {σ : St} {H : Hp} {s : Shared} {p : Addr} {xs : List V} (I : Inv X pins σ H s) (h : H p = some (.lst xs)) :
    ∃ (its : List Value) (n : Nat), Vals xs its ∧ s.heap.get? p = some { cls := .type "list", data := .seq its.toArray n } ∧ xs.length ≤ sizeLine := by
  obtain ⟨z, its, n, r, e⟩ := I.hok p _ h
  exact ⟨its, n, r, e, z⟩
/-! ### slices -/
theorem slice_bounds (lo hi : Option Int) (n : Nat) : (sliceBounds lo hi none n).1 = ((HT.sIx n 0 lo : Nat) : Int) ∧ (sliceBounds lo hi none n).2.1 = ((HT.sIx n n hi : Nat) : Int) ∧ (sliceBounds lo hi none n).2.2 = 1 := by
  refine ⟨?_, ?_, rfl⟩
  · cases lo with
    | none => simp [sliceBounds, HT.sIx]
    | some i =>
      simp only [sliceBounds, HT.sIx, Option.getD_none, show (1 : Int) > 0 by decide, if_true]
      by_cases h : i < 0
      · simp only [h, if_true] <;> omega
      · simp only [h, if_false] <;> omega
  · cases hi with
    | none => simp [sliceBounds, HT.sIx]
    | some i =>
      simp only [sliceBounds, HT.sIx, Option.getD_none, show (1 : Int) > 0 by decide, if_true]
      by_cases h : i < 0
      · simp only [h, if_true] <;> omega
      · simp only [h, if_false] <;> omega
theorem slicePick_cut (its : List Value) (lo hi : Option Int) : slicePick its.toArray lo hi none = ((its.drop (HT.sIx its.length 0 lo)).take (HT.sIx its.length its.length hi - HT.sIx its.length 0 lo)).toArray := by
  obtain ⟨h1, h2, h3⟩ := slice_bounds lo hi its.toArray.size
  unfold slicePick
  rw [h1, h2, h3]
  simp only [sliceRange_one, pick_run, List.size_toArray] <;> rfl
/-- xs[lo:hi] of a list: a new list -/
noncomputable def rSlL (K : PySem.W.Frag) : V → Option Int → Option Int → Hp → VK → Prop := fun x lo hi H Q => ∃ a xs, x = .ref a ∧ SqL K H a xs ∧ ∀ p, H p = none → Q (.ref p) (upd H p (.lst (cutV xs lo hi)))
theorem sl_list : SlR X (rSlL X.K) := by
  intro pins s σ H x v vl vu lo hi sl Q I rx hs pl pu h
  obtain ⟨a, xs, rfl, hx, q⟩ := h
  cases rx
  obtain ⟨its, r, ht, hz⟩ := I.list hx
  have hlen := r.length
  refine ⟨"list", _, slot_list_getitem.lookup, ht.isList.typeIs, ?_⟩
  refine wpAny_getItem_list_slice ht.isList hs pl pu .none (by simp) ?_ (by rw [List.size_toArray] <;> omega)
  rw [slicePick_cut, ← hlen]
  refine ⟨.ref s.heap.objs.size, _, I.laid (t' := s.toks) (o := .lst (cutV xs lo hi)) (fun b ob q => Heap.get?_push_of_some _ q) (Nat.le_refl _) ?_, rfl, q _ (I.hok.fresh (Nat.le_refl _))⟩
  exact ⟨Nat.le_trans (cutV_length xs lo hi) hz, _, 0, (r.drop (HT.sIx xs.length 0 lo)).take (HT.sIx xs.length xs.length hi - HT.sIx xs.length 0 lo), Heap.get?_push_size _ rfl⟩

/-! ### in, not in: flat items -/
/-! ### len, list(x), tuple(x) of any list or tuple that is read -/
theorem call_len_seq : CallR X (.builtin "len") (fun xs H Q => ∃ p ys, xs = [.ref p] ∧ (SqL X.K H p ys ∨ SqT X.K H p ys) ∧ Q (.int ys.length) H) := by
  intro pins s σ H xs us Q I r h
  obtain ⟨p, ys, rfl, hq, q⟩ := h
  obtain ⟨u, rfl, rx⟩ := vals1 r
  cases rx
  have hn := line63
  rcases hq with hq | hq
  · obtain ⟨its, r', pl, hz⟩ := I.list hq
    have hlen := r'.length
    exact Calls.call_len_list pl.isList (by simp only [List.size_toArray] <;> omega) ⟨.int ys.length, H, I.tok _, ⟨s.toks + 1, by rw [List.size_toArray, hlen]⟩, q⟩
  · obtain ⟨its, r', pl, hz⟩ := I.tuple hq
    have hlen := r'.length
    exact len_tuple pl (by simp only [List.size_toArray] <;> omega) ⟨.int ys.length, H, I.tok _, ⟨s.toks + 1, by rw [List.size_toArray, hlen]⟩, q⟩
theorem CallR.or {f : Value} {r r' : List V → Hp → VK → Prop} (h : CallR X f r) (h' : CallR X f r') : CallR X f (fun xs H Q => r xs H Q ∨ r' xs H Q) := by
  intro pins s σ H xs us Q I rs q
  rcases q with q | q
  · exact h pins s σ H xs us Q I rs q
  · exact h' pins s σ H xs us Q I rs q
theorem call_list_of : CallR X (.type "list") (fun xs H Q => ∃ p ys, xs = [.ref p] ∧ (SqL X.K H p ys ∨ SqT X.K H p ys) ∧ ∀ l, H l = none → Q (.ref l) (upd H l (.lst ys))) := by
  intro pins s σ H xs us Q I r h
  obtain ⟨p, ys, rfl, hq, q⟩ := h
  obtain ⟨u, rfl, rx⟩ := vals1 r
  cases rx
  have fin : ∀ (its : List Value), Vals ys its → ys.length ≤ sizeLine → ∀ (h' : Heap) (c' : Nat), (∀ b o', s.heap.get? b = some o' → h'.get? b = some o') →
      h'.get? s.heap.objs.size = some { cls := .type "list", dict := none, data := .seq its.toArray c', slots := #[] } → EP X pins σ Q (.ref s.heap.objs.size) { s with heap := h' } := fun its r' hz h' c' kp e =>
    ⟨.ref s.heap.objs.size, _, I.laid (t' := s.toks) kp (Nat.le_refl _) (show ObjOk X.prog X.w _ h' _ (.lst ys) from ⟨hz, its, c', r', e⟩), rfl, q _ (I.hok.fresh (Nat.le_refl _))⟩
  rcases hq with hq | hq
  · obtain ⟨its, r', pl, hz⟩ := I.list hq
    have hlen := r'.length
    obtain ⟨o, ho, hc, n, hd⟩ := pl.isList
    exact call_list_seq p (.inl rfl) ho hc hd (fun h' c' kp e => fin its r' hz h' c' kp e) (by simp only [List.size_toArray] <;> omega)
  · obtain ⟨its, r', pl, hz⟩ := I.tuple hq
    have hlen := r'.length
    obtain ⟨o, ho, hc, n, hd⟩ := pl
    exact call_list_seq p (.inr rfl) ho hc hd (fun h' c' kp e => fin its r' hz h' c' kp e) (by simp only [List.size_toArray] <;> omega)
/-! ### the call of a builtin's method: o.m(..) -/
/-- the value is of that builtin type -/
noncomputable def tyV (K : PySem.W.Frag) (T : String) (x : V) (H : Hp) : Prop := match x with
  | .str _ => T = "str"
  | .int _ => T = "int"
  | .ref p => (T = "list" ∧ ∃ xs, SqL K H p xs) ∨ (T = "tuple" ∧ ∃ o, K.lookup p = some o ∧ o.cls = .type "tuple" ∧ o.dict = none) ∨
      (T = "dict" ∧ ((∃ kvs, H p = some (.dK kvs)) ∨ ∃ kvs, H p = some (.dT kvs))) ∨ (T = "set" ∧ ∃ S n, H p = some (.set S n))
  | _ => False
theorem tyV_is {pins : List (Addr × Obj)} {σ : St} {H : Hp} {s : Shared} {T : String} {x : V} {v : Value} (I : Inv X pins σ H s) (r : RelV x v) (ty : tyV X.K T x H) :
    s.TypeIs v T ∧ ∀ a, v = .ref a → ∃ ob, s.heap.get? a = some ob ∧ ob.dict = none := by
  cases x with
  | str z =>
    obtain ⟨t, rfl⟩ := r
    cases (show T = "str" from ty)
    exact ⟨typeIs_str s z t, fun _ e => nomatch e⟩
  | int i =>
    obtain ⟨t, rfl⟩ := r
    cases (show T = "int" from ty)
    exact ⟨typeIs_int s i t, fun _ e => nomatch e⟩
  | ref p =>
    cases r
    rcases ty with ⟨rfl, xs, hq⟩ | ⟨rfl, o, hk, hc, hd⟩ | ⟨rfl, hk⟩ | ⟨rfl, S, n, hk⟩
    · obtain ⟨its, _, pl, _⟩ := I.list hq
      refine ⟨pl.isList.typeIs, fun a e => ?_⟩
      cases e
      obtain ⟨o, n, e, c, hd, _⟩ := pl
      exact ⟨o, e, hd⟩
    · refine ⟨⟨o, I.kIn p o hk, hc⟩, fun a e => ?_⟩
      cases e
      exact ⟨o, I.kIn _ o hk, hd⟩
    · have z : ∃ o, s.heap.get? p = some o ∧ o.ExactDict := by
        rcases hk with ⟨kvs, hk⟩ | ⟨kvs, hk⟩
        · obtain ⟨_, _, _, _, o, _, _, e, ex, _⟩ := I.hok p _ hk
          exact ⟨o, e, ex⟩
        · obtain ⟨_, _, _, _, o, _, _, e, ex, _⟩ := I.hok p _ hk
          exact ⟨o, e, ex⟩
      obtain ⟨o, e, ex⟩ := z
      refine ⟨⟨o, e, ex.1⟩, fun a e2 => ?_⟩
      cases e2
      exact ⟨o, e, ex.2.1⟩
    · obtain ⟨o, _, _, _, e, ex, _⟩ := I.hok p _ hk
      refine ⟨⟨o, e, ex.1⟩, fun a e2 => ?_⟩
      cases e2
      exact ⟨o, e, ex.2.1⟩
  | _ => exact False.elim ty
noncomputable def tBM0 (K : PySem.W.Frag) (T : String) (r : V → List V → Hp → VK → Prop) (to : TE) : TE := fun σ H Q => to σ H fun x H1 => tyV K T x H1 ∧ r x [] H1 Q
noncomputable def tBM (K : PySem.W.Frag) (T : String) (r : V → List V → Hp → VK → Prop) (to : TE) (t : TA) : TE := fun σ H Q => to σ H fun x H1 => tyV K T x H1 ∧ t σ H1 fun xs H2 => r x xs H2 Q
variable {o e : Expr} {es : List Expr} {to : TE} {t : TA} {name : Str} {apos cpos : Pos} {T id : String} {r : V → List V → Hp → VK → Prop}
theorem pe_bm0 (pa : PlainAttrs T) (slot : Slot T name id) (hty : typeOf (.builtin id) = pure (.type "method_descriptor")) (hm : MtR X id r) (ho : PE X o to)
    (hbase : attributeBase o name X.env (eval o X.env) = eval o X.env := by rfl) (hline : (apos.endLine == cpos.line) = true := by rfl) : PE X (.Call (.Attribute o name apos) [] [] cpos) (tBM0 X.K T r to) := by
  intro pins s σ H Q I h
  refine wpAny_Call_method0_late hbase hline (thn (ho pins s σ H _ I h) fun v s1 hsl33 => ?_)
  obtain ⟨x, H1, I1, r1, ty, q1⟩ := hsl33
  obtain ⟨h1, h2⟩ := tyV_is I1 r1 ty
  exact ⟨T, id, pa, slot, hty, h1, h2, Calls.callWith_builtin rfl (PySem.evalArgs_none (hm pins s1 σ H1 x [] v [] Q I1 r1 .nil q1))⟩
theorem pe_bm (pa : PlainAttrs T) (slot : Slot T name id) (hty : typeOf (.builtin id) = pure (.type "method_descriptor")) (hm : MtR X id r) (ho : PE X o to) (ha : PA X (e :: es) t)
    (hbase : attributeBase o name X.env (eval o X.env) = eval o X.env := by rfl)
    (hfew : ((backTo cpos (starEach (e :: es) X.env)).all (fun x => !x.1) && (backToKw cpos (keywordEach [] X.env)).all (fun x => x.1.isSome)
      && decide ((e :: es).length + ([] : List Keyword).length + (if ([] : List Keyword).isEmpty then 0 else 1) < 30)) = true := by rfl)
    (hline : (apos.endLine == cpos.line) = true := by rfl) (hs : starEach (e :: es) X.env = (false, eval e X.env) :: starEach es X.env := by rfl) (hplain : (backTo cpos (starEach es X.env)).any (·.1) = false := by rfl) :
    PE X (.Call (.Attribute o name apos) (e :: es) [] cpos) (tBM X.K T r to t) := by
  intro pins s σ H Q I h
  refine wpAny_Call_method_late hbase hfew hline rfl (thn (ho pins s σ H _ I h) fun v s1 hsl34 => ?_)
  obtain ⟨x, H1, I1, r1, ty, q1⟩ := hsl34
  obtain ⟨h1, h2⟩ := tyV_is I1 r1 ty
  refine ⟨T, id, pa, slot, hty, h1, h2, ?_⟩
  have hA := ha cpos pins s1 σ H1 _ I1 q1
  rw [hs] at hA ⊢
  refine Calls.callWith_builtin (by show (false || (backTo cpos (starEach es X.env)).any (·.1)) = false; rw [hplain] <;> rfl) (Calls.evalArgs_plain ?_)
  exact thn hA fun us s2 hsl35 => by obtain ⟨vs, H2, I2, r2, q2⟩ := hsl35; exact hm pins s2 σ H2 x vs v us Q I2 r1 r2 q2
/- xs.append(e), list.index on a module's tuple .. are MtR facts of 06m -/
end
end L2

namespace L2
open PySem PySem.Spec PyProof.Rows

noncomputable def MtM (X : Cx) (id : String) (r : V → List V → Hp → VK → Prop) : Prop :=
  ∀ (pins : List (Addr × Obj)) (s : Shared) (σ : St) (H : Hp) (x : V) (xs : List V) (v : Value) (us : List Value) (Q : VK), Inv X pins σ H s → RelV x v → Vals xs us → r x xs H Q →
    wpAny (model X.prog X.w) X.A (call (.builtin id) (v :: us)) (EP X pins σ Q) X.xe s

/-! ### lists of values -/
theorem Vals.one : ∀ {x : V} {us : List Value}, Vals [x] us → ∃ u, us = [u] ∧ RelV x u
  | _, _, .cons r .nil => ⟨_, rfl, r⟩
theorem Vals.two : ∀ {x y : V} {us : List Value}, Vals [x, y] us → ∃ u v, us = [u, v] ∧ RelV x u ∧ RelV y v
  | _, _, _, .cons r (.cons q .nil) => ⟨_, _, rfl, r, q⟩
theorem Vals.zero : ∀ {us : List Value}, Vals [] us → us = []
  | _, .nil => rfl
theorem Vals.dropLast {xs : List V} {us : List Value} (h : Vals xs us) : Vals xs.dropLast us.dropLast := by
  induction h with
  | nil => exact .nil
  | cons r t ih =>
    cases t with
    | nil => exact .nil
    | cons q t' => exact .cons r ih
theorem Vals.reverse {xs : List V} {us : List Value} (h : Vals xs us) : Vals xs.reverse us.reverse := by
  induction h with
  | nil => exact .nil
  | cons r t ih => rw [List.reverse_cons, List.reverse_cons]; exact Vals.append ih (.cons r .nil)
section
variable {X : Cx} {pins : List (Addr × Obj)} {σ : St} {H : Hp} {s : Shared} {l b : Addr} {xs ys zs : List V}

/-! ### the two steps: a tracked list is rewritten, a new list is laid -/
theorem Inv.lset {its its' : List Value} {n : Nat} {f : Array Value → Array Value} {t' : Nat} (I : Inv X pins σ H s) (hH : H l = some (.lst xs))
    (e : s.heap.get? l = some { cls := .type "list", data := .seq its.toArray n }) (hf : f its.toArray = its'.toArray) (hv : Vals ys its') (hz : ys.length ≤ sizeLine) :
    Inv X pins σ (upd H l (.lst ys)) { s with heap := s.heap.update l (Obj.mapSeq f), toks := t' } := by
  have q := PySem.IsL.update e f
  rw [hf] at q
  refine I.write (x := l) (e := l) (by rw [hH]; exact trivial) (.inl rfl) (fun b' u hb hu => (Heap.get?_update_other s.heap (Obj.mapSeq f) (Ne.symm hb)).trans hu) ⟨_, q⟩ ?_
  exact ⟨hz, its', _, hv, q⟩
theorem Inv.fresh (I : Inv X pins σ H s) : H s.heap.objs.size = none := I.hok.fresh (Nat.le_refl _)
theorem Inv.lstM (I : Inv X pins σ H s) (hH : H l = some (.lst xs)) : xs.length ≤ sizeLine ∧ ∃ (its : List Value) (n : Nat), Vals xs its ∧ xs.length = its.length ∧ s.heap.get? l = some { cls := .type "list", data := .seq its.toArray n } := by
  obtain ⟨z, its, n, r, e⟩ := I.hok l _ hH
  exact ⟨z, its, n, r, r.length, e⟩

end

section
variable {X : Cx}

/-! ### methods -/
noncomputable def rAppend : V → List V → Hp → VK → Prop := fun x vs H Q => ∃ l xs y, x = .ref l ∧ vs = [y] ∧ H l = some (.lst xs) ∧ xs.length < sizeLine ∧ Q .non (upd H l (.lst (xs ++ [y])))
theorem mt_append : MtM X "list.append" rAppend := by
  intro pins s σ H x vs v us Q I rx rv h
  obtain ⟨l, xs, y, rfl, rfl, hH, hz, q⟩ := h
  cases rx
  obtain ⟨u, rfl, ru⟩ := rv.one
  obtain ⟨z, its, n, r, hl, e⟩ := I.lstM hH
  refine call_meets F.slot_list_append ⟨_, e, rfl⟩ F.entry_list_append (F.args_list_append_2 _ _) (PySem.list_append l its.toArray n u (by rw [List.size_toArray]; omega)) ⟨e, ?_⟩
  refine ⟨.non, _, I.lset (its' := its ++ [u]) hH e (by simp) (r.append (.cons ru .nil)) ?_, rfl, q⟩
  rw [List.length_append, List.length_singleton]
  omega

/-! ### list + list, list += list, list * int -/
/-! ### del xs[i] -/
end

/-! ### xs[a:b] = ys -/
section
variable {prog : Program} {w : World} {A : Around} {E : Value → Shared → Prop} {s : Shared}
end

section
variable {X : Cx}
end
end L2

namespace Att
open PySem PySem.W PySem.Calls PyProof.Rows

/-! ### the script -/
theorem ints_of_wellAll {P : Params} {h : Heap} : ∀ (ns : List Int) (vs : List Value), WellAll P h vs (ns.map WData.int) → IntsAre vs ns := by
  intro ns
  induction ns with
  | nil =>
    intro vs w
    rw [List.map_nil] at w
    cases w
    exact .nil
  | cons n ns ih =>
    intro vs w
    rw [List.map_cons] at w
    cases w with
    | cons a b =>
      cases a
      exact .cons _ _ (ih _ b)

theorem script_of {l : OpenLaw} {n : Nat} (hn : l.most = some n) {P : Params} {h : Heap} {args : List WData} {vals : List Value}
    (hpre : l.row.toRowW.claim.pre args = true) (hwl : WellAll P h vals args) :
    ∃ a vs ns, vals = [Value.ref a] ∧ args = [WData.list (ns.map WData.int)] ∧ h.get? a = some { cls := .type "list", data := .seq vs.toArray } ∧ IntsAre vs ns ∧ ns.length ≤ n := by
  have hsh : WShape.hasAll [] args [.list .int] = true := (pre_splitW hpre).1
  have hc : l.pre.holds [] { args := args } = true := (pre_splitW hpre).2
  obtain ⟨d, r, rfl, h1, h2⟩ := hasAllW_cons hsh
  obtain rfl := hasAllW_nil h2
  obtain ⟨xs, rfl, h3⟩ := hasW_list h1
  obtain ⟨ns, rfl⟩ := items_int h3
  have hlen : ns.length ≤ n := by
    unfold OpenLaw.pre at hc
    have h4 : (WTm.not (.lt (.lit (.int (n : Int))) (.len (.arg 0)))).holds [] { args := [.list (ns.map .int)] } = true := by
      have h4 := (holds_andW hc).1
      rw [hn] at h4
      exact h4
    have h5 := condW_of h4 (w_not (w_lt w_lit (w_len_list (w_arg rfl))))
    rw [List.length_map] at h5
    refine Nat.le_of_not_lt fun q => ?_
    have q' : (n : Int) < ((ns.length : Nat) : Int) := by omega
    first
      | (rw [decide_eq_true q'] at h5; exact absurd h5 (by decide))
      | (simp at h5; omega)
  cases hwl with
  | cons w1 w2 =>
    cases w2
    cases w1 with
    | list ho hall => exact ⟨_, _, ns, rfl, rfl, ho, ints_of_wellAll ns _ hall, hlen⟩

theorem post_true (l : OpenLaw) (args : List WData) : l.row.toRowW.claim.post args (.bool true) args = true :=
  postW_of (r := l.row.toRowW) (X := (true == true))
    (show WShape.has [] (.bool true) .bool = true by first | rfl | decide | simp [WShape.has, WShape.arms, WShape.armsAll])
    (show (WTm.eq .res (.lit (.bool true))).value [] { args := args, res := some (.bool true), after := args } = some (.bool (true == true)) from w_eq_bool (w_res rfl) w_lit) rfl

/-! ### the attachment: holds_open's last premise (the goal 'hc' behind k_head) from a wpAny of the law's body -/
/-- the same from a codeAny of the CALL (for a layer whose function contracts speak of calls) -/
theorem attach_call {l : OpenLaw} {n : Nat} {q : Program} {loose : List Str} {XP : (Str → Option Value) → Heap → Prop} {YP : World → Heap → Prop} {d : DefRec}
    (hn : l.most = some n) (hdf : d.params.defaults = [])
    (call : ∀ (w : World) (s₀ s₁ : Shared) (mg mb : Str → Option Value) (fa : Addr) (o : Obj) (pm cd doc : Value) (a : Addr) (vs : List Value) (ns : List Int),
      Ground q loose [] XP w s₀ mg mb s₁.heap → YP w s₁.heap →
      s₁.heap.get? fa = some o → o.data = .func (docDef d.name d.params d.body d.scope pm cd doc) → s₁.heap.CodeRec cd d.name → mg d.name = some (.ref fa) →
      s₁.heap.get? a = some { cls := .type "list", data := .seq vs.toArray } → IntsAre vs ns → ns.length ≤ n → s₁.gens = #[] →
      codeAny (model l.prog w) callerA (.call (.ref fa) ⟨[.ref a], []⟩) (fun r s' => r = .ok (.ret (.bool true)) ∧ OldK s₁.heap s'.heap ∧ s'.os = s₁.os ∧ AllBare s'.gens) s₁) :
    WalkO q loose XP YP l.row.toRowW d [] (fun f vs => PySem.call f vs) := by
  intro w s₀ s₁ mg mb G Y fa o pm cd doc dV kV ho hd hcd hD hmg hg args vals as hpre hlay hrd hwl hlo
  obtain rfl : dV = .none := Dflts.none hD hdf
  obtain rfl : kV = .none := Dflts.noKw hD
  obtain ⟨a, vs, ns, rfl, rfl, hobj, hints, hlen⟩ := script_of hn hpre hwl
  refine enter_call (codeAny_mono (call w s₀ s₁ mg mb fa o pm cd doc a vs ns G Y ho (fd_plain hd) hcd hmg hobj hints hlen hg) fun r s' hq => ?_)
  obtain ⟨rfl, h2, h3, h4⟩ := hq
  exact ⟨.inl ⟨.bool true, .bool true, [], rfl, fun _ => rfl, .bool true, post_true l _, fun _ => ⟨List.Pairwise.nil, fun _ hm => (nomatch hm)⟩⟩, h2, h3, h4⟩

/-! ### rules over ANY heap (no ledger) from facts about the written part K: the library's own take a ledger (News) for what they write -/
section
variable {prog : Program} {w : World} {A : Around} {E : Value → Shared → Prop} {s : Shared} {K : Frag}

/-- C(..): dict at size, instance at size + 1, then __init__ -/
theorem make_obj {R : Result → Shared → Prop} {C fI : Addr} {rest : List Value} {kw : List (Str × Value)}
    (X : K.In s.heap) (hm : makesIn K C = true) (hi : findIn K (.ref C) "__init__" = some (some (.ref fI))) (hf : isFn K (.ref fI) = true)
    (h : codeAny (model prog w) (A.under (.builtin "type.__call__" ⟨.ref C :: rest, kw⟩)) (.call (.ref fI) ⟨.ref (s.heap.objs.size + 1) :: rest, kw⟩) (InitBack (s.heap.objs.size + 1) R)
      { s with heap := (s.heap.push emptyDict).push (instObj C s.heap.objs.size) }) : codeAny (model prog w) A (.call (.ref C) ⟨rest, kw⟩) R s := by
  obtain ⟨hh, g, d, t, os⟩ := s
  exact make_core (makes_of X hm) (looks_findIn X hi) (fun self => bind_fn X self (beq_iff_eq.mp hf)) (.inl rfl) h

/-- x.name where the instance's dict holds the name and the class does not -/
theorem get_field {x C : Addr} {ox : Obj} {es : List DictEntry} {n : Nat} {name : Str} {expr : Bool} {v : Value} {Q : Value → Shared → Prop}
    (X : K.In s.heap) (I : PySem.W.InstAt s.heap x ox C (some (dictOf es n))) (hg : plainGet K C name = true) (hh : hasDictIn K C = true) (ha : findIn K (.ref C) name = some none)
    (hl : getL name es = some (some v)) (hv : handedIn v = true) (h : Q v { s with toks := s.toks + 1 }) : wpAny (model prog w) A (getAttr (.ref x) name expr) Q E s :=
  get_value X I (plainGet_of hg).1 (findObj_own hh ha rfl hl) hv h

/-! the whole heap as the ledger: makes every rule that writes through a ledger a rule over any heap -/
noncomputable def ledger (h : Heap) (L d : Addr) : List (Addr × Obj) := (List.range h.objs.size).filterMap fun a => if a = L ∨ a = d then none else (h.get? a).map fun o => (a, o)
end
end Att

namespace L2
open PySem PySem.Spec PyProof.Rows

theorem vals_ints : ∀ {vs : List Value} {ns : List Int}, IntsAre vs ns → Vals (ns.map V.int) vs
  | _, _, .nil => .nil
  | _, _, .cons n t h => .cons ⟨t, rfl⟩ (vals_ints h)

/-- nothing is tracked but the script, known to the object (or it is an object of the module) -/
noncomputable def Only (H : Hp) : Prop := ∀ b, H b = none ∨ ∃ o xs, H b = some (.frz o (.lst xs))

/-- THE HEAD: the law's promise, at the heap behind the top. F, the promise of the law's def, may use that base is part of the heap (so K.In base, base.Ns mainGlobals mg stand in Mod) -/
theorem law_call {P : Program} {w : World} {K : PySem.W.Frag} {mg mb : Str → Option Value} {CX : CXT} {k : Nat} {fa a : Addr} {fd : FuncData} {x : Str} {sp : Sp} {s₁ : Shared} {vs : List Value} {ns : List Int}
    (KX : K.In s₁.heap) (hns : s₁.heap.Ns mainGlobals mg) (hb : s₁.heap.Ns builtinsNs mb) (hbb : ∀ x : Str, x ≠ "__name__" → mb x = bootBuiltins x) (hlim : s₁.heap.NoLimit) (hg : s₁.gens = #[])
    (ha : s₁.heap.get? a = some { cls := .type "list", data := .seq vs.toArray }) (hi : IntsAre vs ns) (hl : ns.length ≤ sizeLine) (hr : Room k callerA)
    (F : ∀ base : Heap, K.In base → base.Ns mainGlobals mg → FnOk P w K mg base CX k fa fd [x] sp) (hbind : ∀ (s : Shared) (u : Value), BindsTo s fd ⟨[u], []⟩ [(x, u)])
    (hsp : ∀ H : Hp, Only H → SqL K H a (ns.map V.int) → sp [.ref a] H (fun v _ => v = .bl true) fun _ _ _ => False)
    (hCX : ∀ H e s', CX [] H s₁ (fun _ _ _ => False) e s' → False) :
    codeAny (model P w) callerA (.call (.ref fa) ⟨[.ref a], []⟩) (fun r s' => r = .ok (.ret (.bool true)) ∧ OldK s₁.heap s'.heap ∧ s'.os = s₁.os ∧ AllBare s'.gens) s₁ := by
  have rv := vals_ints hi
  have lenV := hi.length
  -- from an abstract heap in which nothing but the script may be tracked
  have core : ∀ H : Hp, Only H → SqL K H a (ns.map V.int) → HOk P w H s₁.heap → (∀ b, H b ≠ none → b = a) → (H a ≠ none → K.lookup a = none) →
      codeAny (model P w) callerA (.call (.ref fa) ⟨[.ref a], []⟩) (fun r s' => r = .ok (.ret (.bool true)) ∧ OldK s₁.heap s'.heap ∧ s'.os = s₁.os ∧ AllBare s'.gens) s₁ := by
    intro H hO hS hok hA hK
    have base_of : ∀ {b : Addr} {o : Obj}, s₁.heap.get? b = some o → H b = none → (hidT s₁.heap H).get? b = some o := fun e n => hidT_get e n
    have noA : ∀ {b : Addr} {o : Obj} {es : Array DictEntry} {ep : Nat}, s₁.heap.get? b = some o → o.data = .dict es ep → H b = none := fun {b o es ep} e d => by
      cases q : H b with
      | none => rfl
      | some u =>
        have e' : b = a := hA b (by rw [q]; simp)
        subst e'
        rw [ha] at e; cases e
        have d' : Data.seq vs.toArray _ = Data.dict es ep := d
        cases d'
    have nsK : ∀ {b : Addr} {m : Str → Option Value}, s₁.heap.Ns b m → (hidT s₁.heap H).Ns b m := fun {b m} ⟨o, es, ep, e, d, r⟩ => ⟨o, es, ep, base_of e (noA e d), d, r⟩
    have hKb : K.In (hidT s₁.heap H) := fun b o e => base_of (KX b o e) (by
      cases q : H b with
      | none => rfl
      | some u =>
        have e' : b = a := hA b (by rw [q]; simp)
        subst e'
        rw [hK (by rw [q]; simp)] at e; cases e)
    have hM : Mod K mg (hidT s₁.heap H) := ⟨hKb, nsK hns, ⟨mb, nsK hb, hbb⟩, by obtain ⟨mc, h1, h2⟩ := hlim; exact ⟨mc, nsK h1, h2⟩⟩
    have e0 : Env0 P w K mg (hidT s₁.heap H) callerA [] s₁ H := ⟨rfl, hM, fun b o e => of_hidT e, Nat.le_of_eq (hidT_size _ _), trivial, fun b hb => absurd (show b ∈ ([] : List Addr) from hb) (by simp), hok, .of_eq hg⟩
    refine codeAny_mono ((F _ hKb (nsK hns)).run callerA [] s₁ H ⟨[.ref a], []⟩ [.ref a] [.ref a] _ _ hr e0 (hbind s₁ (.ref a)) (.cons rfl .nil) (hsp H hO hS)) fun r s' h => ?_
    cases r with
    | error e => exact (hCX H e s' h).elim
    | ok fl =>
      cases fl with
      | next => exact False.elim h
      | brk => exact False.elim h
      | cont => exact False.elim h
      | ret u =>
        obtain ⟨v, H', os, bare, un, hok', r', q⟩ := h
        have q' : v = .bl true := q
        subst q'
        obtain rfl : u = Value.bool true := r'
        refine ⟨rfl, OldK.of_keep fun b o e => ?_, os, bare⟩
        cases q : H b with
        | none => exact un.keep b o e q (by intro z; exact absurd (show b ∈ ([] : List Addr) from z) (by simp)) (by simp)
        | some u =>
          rcases hO b with z | ⟨ob, xs, z⟩
          · rw [q] at z; cases z
          · have z2 := un.frzs b ob _ z
            obtain ⟨e1, _⟩ := hok b _ z
            obtain ⟨e2, _⟩ := hok' b _ z2
            rw [e] at e1; cases e1
            exact e2
  cases hk : K.lookup a with
  | some o =>
    -- the script is one of the module's own objects
    have e := KX a o hk
    rw [ha] at e
    cases e
    refine core (fun _ => none) (fun _ => .inl rfl) (.inr ⟨_, vs.toArray, _, hk, rfl, rfl, rfl, by rw [List.size_toArray, lenV]; exact hl, by simpa using rv⟩) (fun b u z => by have z' : (none : Option HO) = some u := z; cases z') (fun b z => absurd rfl z) fun z => absurd rfl z
  | none =>
    refine core (fun b => if b = a then some (.frz { cls := .type "list", data := .seq vs.toArray } (.lst (ns.map V.int))) else none) (fun b => ?_) (.inl (.inr ⟨{ cls := .type "list", data := .seq vs.toArray }, if_pos rfl⟩)) (fun b u z => ?_) (fun b z => ?_) fun _ => hk
    · by_cases hb : b = a
      · exact .inr ⟨_, _, if_pos hb⟩
      · exact .inl (if_neg hb)
    · by_cases hb : b = a
      · have z' := (if_pos hb).symm.trans z
        cases z'
        subst hb
        exact ⟨ha, by rw [List.length_map]; exact hl, vs, _, rv, ha⟩
      · have z' := (if_neg hb).symm.trans z
        cases z'
    · by_cases hb : b = a
      · exact hb
      · exact absurd (if_neg hb) z
end L2

namespace L2
open PySem PySem.Spec PyProof.Rows

noncomputable abbrev KOf {K : PySem.W.Frag} {h : Heap} (_ : K.In h) : PySem.W.Frag := K

/-- the goal that k_head leaves (case hc), from the law's promise. F gives the function object fd (K's own) once, then the promise over every base -/
theorem walk_of {l : PySem.W.OpenLaw} {n k : Nat} {q : Program} {loose : List Str} {XP : (Str → Option Value) → Heap → Prop} {YP : World → Heap → Prop} {d : DefRec} {K : Params → PySem.W.Frag} {CX : World → CXT} {sp : World → Sp} {x : Str}
    (hn : l.most = some n) (hn2 : n ≤ sizeLine) (hdf : d.params.defaults = []) (hr : Room k callerA)
    (hY : ∀ (w : World) (h : Heap), YP w h → (K w.params).In h)
    (F : ∀ (w : World) (mg : Str → Option Value) (fa : Addr) (h : Heap), (K w.params).In h → h.Ns mainGlobals mg → mg d.name = some (.ref fa) →
      ∃ fd : FuncData, (∀ (s : Shared) (u : Value), BindsTo s fd ⟨[u], []⟩ [(x, u)]) ∧
        ∀ base : Heap, (K w.params).In base → base.Ns mainGlobals mg → FnOk l.prog w (K w.params) mg base (CX w) k fa fd [x] (sp w))
    (hsp : ∀ (w : World) (H : Hp) (a : Addr) (ns : List Int), ns.length ≤ n → Only H → SqL (K w.params) H a (ns.map V.int) → sp w [.ref a] H (fun v _ => v = .bl true) fun _ _ _ => False)
    (hCX : ∀ (w : World) (H : Hp) (s : Shared) (e : Value) (s' : Shared), CX w [] H s (fun _ _ _ => False) e s' → False) :
    PySem.W.WalkO q loose XP YP l.row.toRowW d [] (fun f vs => PySem.call f vs) := by
  refine Att.attach_call hn hdf fun w s₀ s₁ mg mb fa o pm cd doc a vs ns G Y ho hd hcd hmg hobj hints hlen hg => ?_
  have KX := hY w _ Y
  obtain ⟨fd, hb, hF⟩ := F w mg fa _ KX G.T.g hmg
  exact law_call KX G.T.g G.T.b G.T.builtins G.T.nolimit hg hobj hints (Nat.le_trans hlen hn2) hr hF hb (fun H hO hS => hsp w H a ns hlen hO hS) fun H e s' => hCX w H s₁ e s'
end L2

/- THE LAST THEOREM (shape; LID, My.* are yours):
   My.Adr: a structure of the addresses that your layer names (classes, functions); My.Txt K t: a structure (Prop) of the equations over K;
   My.txt_mk : {K} {implicit addresses ..} (e1 : nsIn K mainGlobals "law" = some (some (.ref f))) (e2 : K.lookup f = some ⟨oc, od, .func (fnOf "law" "law" params body scope dV kV doc pm an cdv ct), sl⟩) (e3 : codeIn K cdv "law" = true) .. : ∃ t, My.Txt K t

set_option maxRecDepth 100000 in
set_option maxHeartbeats 0 in
theorem PySem.Challenge.cw_LID_holds : PySem.Challenge.rw_LID.Holds := by
  w_on; o_law; k_head; (case hw => w_witness2)
  k_fill
  refine L2.walk_of (l := PySem.Challenge.rw_LID) (n := 63) (k := 40) (x := "script") (CX := fun w => ..) (sp := fun _ => My.sp_law) rfl (by decide) rfl ⟨rfl, by decide, by decide⟩ (fun w h Y => PySem.W.kIn_of Y) ?F ?S ?C
  case F =>
    intro w mg fa h KX G hmg
    have T : ∃ t, My.Txt (L2.KOf KX) t := by
      dsimp only [L2.KOf]                          -- K must stand as «<heap const> w.params» for k_is
      refine' My.txt_mk ?e1 ?e2 ?e3 ..
      (case e1 => PySem.W.k_is)                    -- in the order: a name -> its address -> its object -> its parts
      (case e2 => PySem.W.k_is)
      ..
    obtain ⟨t, T⟩ := T
    have e0 := hmg.symm.trans (PySem.W.mg_of KX G T.law)
    cases e0                                       -- fa is the law's own address
    exact ⟨_, fun s u => .of_eq rfl, fun base kb nb => My.law_fn T kb nb⟩     -- if «.of_eq rfl» comes too early: refine' ⟨_, ?b, fun base kb nb => My.law_fn T kb nb⟩; exact fun s u => .of_eq rfl
  case S => exact fun w H a ns hl hO hS => ..
  case C => exact ..
(the tactic k_is has no namespace: write k_is) -/

/-! SHORT WORDS over the layer: a def of the text, its body, what a loop and a test want. -/
namespace L2
open PySem PySem.Spec PyProof.Rows

/-! ### the text by places -/
noncomputable def defArgs (s : Stmt) : Arguments := match s with
  | .FunctionDef _ a _ _ _ _ _ _ _ _ => a
  | _ => { posonlyargs := [], args := [], vararg := none, kwonlyargs := [], kw_defaults := [], kwarg := none, defaults := [] }
noncomputable def defBody (s : Stmt) : List Stmt := match s with
  | .FunctionDef _ _ b _ _ _ _ _ _ _ => b
  | _ => []
noncomputable def defScope (s : Stmt) : Scope := match s with
  | .FunctionDef _ _ _ _ _ _ sc _ _ _ => sc
  | _ => { kind := .function, names := [], isGenerator := false, isCoroutine := false }

/-! ### no exception leaves a def -/
noncomputable abbrev CX0 : CXT := fun _ _ _ _ _ _ => False
noncomputable abbrev E0 : XK := fun _ _ _ => False
theorem pass0 {X : Cx} : Passes CX0 X E0 := fun _ _ _ _ _ _ _ h => h.elim

/-! ### a def (or method) of the text as it stands behind the top -/
structure Fun (K : PySem.W.Frag) (x qual : Str) (st : Stmt) (f : Addr) (fd : FuncData) : Prop where
  ex : ∃ (oc : Value) (od : Option Addr) (kV doc pm : Value) (an : Option Addr) (cdv ct : Value) (osl : Array (Option Value)),
    fd = PySem.W.fnOf x qual (defArgs st) (defBody st) (defScope st) .none kV doc pm an cdv ct ∧ K.lookup f = some ⟨oc, od, .func fd, osl⟩ ∧ PySem.W.codeIn K cdv qual = true
  kp : PySem.W.keepIn K (.ref f) = true
section
variable {P : Program} {w : World} {K : PySem.W.Frag} {mg : Str → Option Value} {base : Heap}
/-- THE RULE for a def: its body as a term of rules, and the reading of that term -/
theorem Fun.ok {x qual : Str} {st : Stmt} {f : Addr} {fd : FuncData} {N ps : List Str} {k : Nat} {sp : Sp} (F : Fun K x qual st f fd) (S : FnScope N ps (defScope st)) (len : ∀ vs H Q E, sp vs H Q E → vs.length = ps.length)
    (hbody : ∀ (cdv : Value) (A : Around) (outer : List Env) (s : Shared) (H : Hp) (vs : List V) (Q : VK) (E : XK), Room k (A.deeper (envOfC qual (defScope st) s.heap.objs.size f cdv)) → sp vs H Q E →
      ∃ t, PSs (cxOf CX0 P w K mg base N qual (defScope st) f cdv A outer s H E).nox (defBody st) t ∧ t { nx := fun _ H' => Q .non H', rt := Q } (start N vs) H) : FnOk P w K mg base CX0 (k + 1) f fd ps sp := by
  obtain ⟨oc, od, kV, doc, pm, an, cdv, ct, osl, rfl, lk, hcd⟩ := F.ex
  refine fn_of lk hcd S len fun A outer s H vs Q E hr hsp => ?_
  obtain ⟨t, h, q⟩ := hbody cdv A outer s H vs Q E hr hsp
  exact ⟨t, h.nox, q⟩
/-- how its arguments bind (no defaults): h is «fun _ _ _ _ _ _ us hl => match us, hl with | [_, _], _ => rfl», one _ a parameter -/
theorem Fun.binds {x qual : Str} {st : Stmt} {f : Addr} {fd : FuncData} {ps : List Str} (F : Fun K x qual st f fd)
    (h : ∀ (kV doc pm : Value) (an : Option Addr) (cdv ct : Value) (us : List Value), us.length = ps.length → bindArgs (PySem.W.fnOf x qual (defArgs st) (defBody st) (defScope st) .none kV doc pm an cdv ct) ⟨us, []⟩ = pure (ps.zip us)) : Binds K fd ps [] := by
  obtain ⟨oc, od, kV, doc, pm, an, cdv, ct, osl, rfl, lk, hcd⟩ := F.ex
  exact .all (h kV doc pm an cdv ct)
theorem fun_mk {x qual : Str} {st : Stmt} {f : Addr} {oc : Value} {od an : Option Addr} {osl : Array (Option Value)} {kV doc pm cdv ct : Value} (l : K.lookup f = some ⟨oc, od, .func (PySem.W.fnOf x qual (defArgs st) (defBody st) (defScope st) .none kV doc pm an cdv ct), osl⟩)
    (c : PySem.W.codeIn K cdv qual = true) (k : PySem.W.keepIn K (.ref f) = true) : Fun K x qual st f (PySem.W.fnOf x qual (defArgs st) (defBody st) (defScope st) .none kV doc pm an cdv ct) := ⟨⟨oc, od, kV, doc, pm, an, cdv, ct, osl, rfl, l, c⟩, k⟩
end
theorem small1000 {n : Nat} (h : n ≤ 1000) : n < sizeLine := Nat.lt_of_le_of_lt h (by decide)

/-! ### expressions in short: the name that stands in the i-th slot -/
section
variable {X : Cx}
theorem pv (i : Nat) {x : Str} {pos : Pos} (hN : X.N[i]? = some x := by rfl) (hv : Vis X.env.scope x := by first | exact Or.inl rfl | exact Or.inr (Or.inl rfl) | exact Or.inr (Or.inr rfl)) (hd : (x == ("__debug__" : Str)) = false := by decide)
    (hcd : (x == ("__classdict__" : Str)) = false := by decide) : PE X (.Name x pos) (tVar i) := pe_var hN hv hd hcd
end

/-! ### tests -/
theorem iteF {A B : Prop} (h : B) : if false = true then A else B := by
  rw [if_neg Bool.false_ne_true]
  exact h
theorem iteT {A B : Prop} (h : A) : if true = true then A else B := by
  rw [if_pos rfl]
  exact h
theorem ite2 {c A B : Prop} [Decidable c] (h1 : c → A) (h2 : ¬ c → B) : if c then A else B := by
  by_cases h : c
  · rw [if_pos h]
    exact h1 h
  · rw [if_neg h]
    exact h2 h
/-! ### heaps -/
/-- all that was tracked is as it was -/
noncomputable def Same (H H' : Hp) : Prop := ∀ b o, H b = some o → H' b = some o
theorem Same.refl (H : Hp) : Same H H := fun _ _ h => h
theorem Same.trans {H H1 H2 : Hp} (a : Same H H1) (b : Same H1 H2) : Same H H2 := fun c o h => b c o (a c o h)
theorem Same.free {H H' : Hp} (e : Same H H') {l : Addr} (h : H' l = Option.none) : H l = Option.none := by
  cases q : H l with
  | none => rfl
  | some o =>
    rw [e l o q] at h
    cases h
theorem Same.seq {K : PySem.W.Frag} {H H' : Hp} {a : Addr} {xs : List V} (e : Same H H') (h : SqL K H a xs) : SqL K H' a xs := by
  rcases h with (h | ⟨o, h⟩) | h
  · exact .inl (.inl (e _ _ h))
  · exact .inl (.inr ⟨o, e _ _ h⟩)
  · exact .inr h

end L2

set_option Elab.async false
set_option linter.all false
set_option maxRecDepth 100000
set_option maxHeartbeats 4000000
namespace L2
open PySem PySem.Spec PyProof.Rows

/-! ### comprehensions: [elt for x in iter if c] over the layer -/
noncomputable abbrev cmpTests (ifs : List Expr) (env : Env) : Sem Bool :=
  forIn ifs true fun c r => if r = true then do let ok ← isTrue c env (eval c env); pure (ForInStep.yield ok) else pure (ForInStep.yield r)

noncomputable def clOf (cells : List (Str × Addr)) : List (Str × NameKind) → List (Str × Addr) → List (Str × Addr)
  | [], acc => acc
  | (n, k) :: r, acc => clOf cells r (if k == .free then (n, (cells.lookup n).getD 0) :: acc else acc)
theorem clOf_eq {env : Env} : ∀ (ns : List (Str × NameKind)) (acc : List (Str × Addr)), (∀ y ∈ ns, y.2 = .free → ∃ c, env.cells.lookup y.1 = some c) →
    (forIn ns acc fun (p : Str × NameKind) (cs : List (Str × Addr)) => (if p.2 == .free then (do let c ← cellOf env p.1; pure (ForInStep.yield ((p.1, c) :: cs))) else pure (ForInStep.yield cs) : Sem (ForInStep (List (Str × Addr))))) = (pure (clOf env.cells ns acc) : Sem (List (Str × Addr)))
  | [], acc, _ => rfl
  | (n, k) :: r, acc, h => by
    rw [List.forIn_cons]
    by_cases hk : k = .free
    · subst hk
      obtain ⟨c, hc⟩ := h (n, .free) List.mem_cons_self rfl
      have e1 : cellOf env n = pure c := by unfold cellOf; rw [show env.cells.lookup n = some c from hc]
      simp only [beq_self_eq_true, if_true, e1, clOf, hc, Option.getD_some]
      exact clOf_eq r ((n, c) :: acc) fun y hy => h y (List.mem_cons_of_mem _ hy)
    · have hb : (k == NameKind.free) = false := by simpa using hk
      simp only [hb, Bool.false_eq_true, if_false, clOf]
      exact clOf_eq r acc fun y hy => h y (List.mem_cons_of_mem _ hy)
theorem closure_eq {env : Env} {sc : Scope} (h : ∀ y ∈ sc.names, y.2 = .free → ∃ c, env.cells.lookup y.1 = some c) : closureFor sc env = pure (clOf env.cells sc.names []) := by
  unfold closureFor
  have q := clOf_eq (env := env) sc.names [] h
  have e : (forIn sc.names [] fun (p : Str × NameKind) (cs : List (Str × Addr)) => (match p with | (name, kind) => if kind == .free then (do let c ← cellOf env name; pure (ForInStep.yield ((name, c) :: cs))) else pure (ForInStep.yield cs) : Sem (ForInStep (List (Str × Addr))))) = (pure (clOf env.cells sc.names []) : Sem (List (Str × Addr))) := q
  simp only [e]
  rfl
theorem clOf_look {cells : List (Str × Addr)} : ∀ (ns : List (Str × NameKind)) (acc : List (Str × Addr)), (∀ y ∈ ns, y.2 = .free → ∃ c, cells.lookup y.1 = some c) → (∀ y c, acc.lookup y = some c → cells.lookup y = some c) →
    (∀ y c, (clOf cells ns acc).lookup y = some c → cells.lookup y = some c) ∧ (∀ y, (acc.lookup y).isSome = true → ((clOf cells ns acc).lookup y).isSome = true) ∧ (∀ y, (y, NameKind.free) ∈ ns → ((clOf cells ns acc).lookup y).isSome = true)
  | [], acc, _, h2 => ⟨h2, fun _ h => h, fun _ h => nomatch h⟩
  | (n, k) :: r, acc, h1, h2 => by
    have h1' : ∀ y ∈ r, y.2 = .free → ∃ c, cells.lookup y.1 = some c := fun y hy => h1 y (List.mem_cons_of_mem _ hy)
    by_cases hk : k = .free
    · subst hk
      obtain ⟨c, hc⟩ := h1 (n, .free) List.mem_cons_self rfl
      have hc' : cells.lookup n = some c := hc
      have e : clOf cells ((n, .free) :: r) acc = clOf cells r ((n, c) :: acc) := by simp only [clOf, beq_self_eq_true, if_true, hc', Option.getD_some]
      have ih := clOf_look (cells := cells) r ((n, c) :: acc) h1' (fun y d hy => by
        rw [List.lookup_cons] at hy
        cases q : y == n with
        | true => rw [q] at hy; cases hy; rw [eq_of_beq q]; exact hc'
        | false => rw [q] at hy; exact h2 y d hy)
      rw [e]
      refine ⟨ih.1, fun y hy => ih.2.1 y ?_, fun y hy => ?_⟩
      · rw [List.lookup_cons]; split
        · rfl
        · exact hy
      · rcases List.mem_cons.mp hy with z | z
        · cases z; exact ih.2.1 n (by rw [List.lookup_cons]; simp)
        · exact ih.2.2 y z
    · have hb : (k == NameKind.free) = false := by simpa using hk
      have e : clOf cells ((n, k) :: r) acc = clOf cells r acc := by simp only [clOf, hb, Bool.false_eq_true, if_false]
      have ih := clOf_look (cells := cells) r acc h1' h2
      rw [e]
      refine ⟨ih.1, ih.2.1, fun y hy => ?_⟩
      rcases List.mem_cons.mp hy with z | z
      · cases z; exact absurd rfl hk
      · exact ih.2.2 y z

/-! names of the block -/
structure CompSc (scX sc : Scope) (NX : List Str) (x : Str) (fv : List Str) (js : List Nat) : Prop where
  kind : sc.kind = .function
  kindX : scX.kind = .function
  cell : ∀ y ∈ sc.names, y.2 ≠ .cell
  own : sc.names.lookup x = some .local
  names : ∀ y ∈ sc.names, y.2 = .local → sc.names.lookup y.1 = some .local
  free : ∀ y ∈ sc.names, y.2 = .free → scX.names.lookup y.1 = some .cell
  nd : (x :: fv).Nodup
  at' : js.map (fun j => NX[j]?) = fv.map some
  fr : ∀ y ∈ fv, sc.names.lookup y = some .free

theorem relabel_free {env : Env} (hk : env.scope.kind = .function) : ∀ {ns : List (Str × NameKind)} {y : Str}, ns.lookup y = some .free → env.kindOf y = some .cell →
    (ns.map fun (n, k) => if (k == NameKind.free && env.scope.kind == .function && env.kindOf n == some .cell) then (n, NameKind.cell) else (n, k)).lookup y = some .cell
  | [], _, h, _ => by simp at h
  | (n, k) :: r, y, h, hc => by
    have ih := @relabel_free env hk r y
    show List.lookup y ((if (k == NameKind.free && env.scope.kind == .function && env.kindOf n == some .cell) = true then (n, NameKind.cell) else (n, k)) :: _) = _
    cases hx : y == n with
    | true =>
      simp only [List.lookup_cons, hx] at h
      cases h
      have e : y = n := eq_of_beq hx
      subst e
      simp [List.lookup_cons, hc, hk]
    | false =>
      simp only [List.lookup_cons, hx] at h
      split <;> (simp only [List.lookup_cons, hx]; exact ih h hc)
theorem relabel_back {env : Env} : ∀ {ns : List (Str × NameKind)} {y : Str}, (∀ z ∈ ns, z.2 ≠ .cell) →
    ((ns.map fun (n, k) => if (k == NameKind.free && env.scope.kind == .function && env.kindOf n == some .cell) then (n, NameKind.cell) else (n, k)).lookup y = some .cell ∨
     (ns.map fun (n, k) => if (k == NameKind.free && env.scope.kind == .function && env.kindOf n == some .cell) then (n, NameKind.cell) else (n, k)).lookup y = some .free) → (y, NameKind.free) ∈ ns
  | [], _, _, h => by simp at h
  | (n, k) :: r, y, hz, h => by
    have ih := @relabel_back env r y fun z hm => hz z (List.mem_cons_of_mem _ hm)
    have hk : k ≠ .cell := hz (n, k) List.mem_cons_self
    rw [List.map_cons] at h
    by_cases hc : (k == NameKind.free && env.scope.kind == .function && env.kindOf n == some .cell) = true
    · have hf : k = .free := by
        rw [Bool.and_eq_true, Bool.and_eq_true] at hc
        exact eq_of_beq hc.1.1
      simp only [hc, if_true, List.lookup_cons] at h
      cases hx : y == n with
      | true => rw [eq_of_beq hx, hf]; exact List.mem_cons_self
      | false => rw [hx] at h; exact List.mem_cons_of_mem _ (ih h)
    · rw [Bool.not_eq_true] at hc
      simp only [hc, Bool.false_eq_true, if_false, List.lookup_cons] at h
      cases hx : y == n with
      | true =>
        rw [hx] at h
        rcases h with h | h
        · exact absurd (Option.some.inj h) hk
        · have : k = .free := Option.some.inj h
          rw [eq_of_beq hx, this]; exact List.mem_cons_self
      | false => rw [hx] at h; exact List.mem_cons_of_mem _ (ih h)

/-- the slots of the free names -/
noncomputable def pick (js : List Nat) (σ : St) : St := js.map fun j => (σ[j]?).getD none

/-- the block's context -/
noncomputable abbrev xc (X : Cx) (sc : Scope) (x : Str) (fv : List Str) (C : Addr) (s0 : Shared) (H0 : Hp) (ex : List Addr) : Cx :=
  { X with N := x :: fv, s₀ := s0, H₀ := H0, env := compEnvC sc (clOf X.env.cells sc.names []) C X.env, outer := X.stack, ex := ex, fn := fun _ => false, pn := [], xe := fun _ _ => False }

/-- the clause's tests -/
noncomputable def PIf (X : Cx) (ifs : List Expr) (t : TT) : Prop :=
  ∀ (pins : List (Addr × Obj)) (s : Shared) (σ : St) (H : Hp) (Q : Bool → Hp → Prop), Inv X pins σ H s → t σ H Q → wpAny (model X.prog X.w) X.A (cmpTests ifs X.env) (TP X pins σ Q) X.xe s
noncomputable def tYes : TT := fun _ H Q => Q true H
theorem tYes_ok {σ : St} {H : Hp} {Q : Bool → Hp → Prop} (h : Q true H) : tYes σ H Q := h
theorem pif_nil {X : Cx} : PIf X [] tYes := fun _ _ _ H _ I h => wpAny_tests_nil ⟨H, I, h⟩
theorem pif_one {X : Cx} {c : Expr} {t : TT} (hc : PT X c t) : PIf X [c] t := fun pins s σ H Q I h => wpAny_tests_one (hc pins s σ H Q I h)

/-- the reading of a comprehension -/
noncomputable def tCompB (J : It) (js : List Nat) (tt : TT) (te : TE) : TE := fun σ H1 Q => ∃ W : Nat → Nat → List V → Hp → Prop, (∃ m, W 0 m [] H1) ∧ ∀ i m ys H, W i m ys H →
  (J.stop i H ∧ ∀ p, H p = none → Q (.ref p) (upd H p (.lst ys))) ∨
  (J.go i H ∧ ∃ N : List V → Hp → Prop, (∀ ys' H', N ys' H' → ∃ m', m' < m ∧ W (i + 1) m' ys' H') ∧
    ∀ x H', J.yld i H x H' → tt (some x :: pick js σ) H' fun b H2 => if b = true then te (some x :: pick js σ) H2 fun y H3 => ys.length < sizeLine ∧ N (ys ++ [y]) H3 else N ys H2)
noncomputable def tComp (wi : TI) (js : List Nat) (tt : TT) (te : TE) : TE := fun σ H Q => wi σ H fun J H1 => tCompB J js tt te σ H1 Q

section
variable {X : Cx} {pins : List (Addr × Obj)} {σ : St} {H2 : Hp} {s2 : Shared} {elt iter : Expr} {x : Str} {px : Pos} {ifs : List Expr} {sc scX : Scope} {pos : Pos} {fv : List Str} {js : List Nat} {tt : TT} {te : TE}

/-! the forms one uses -/
theorem comp_list {K : PySem.W.Frag} {a : Addr} {xs : List V} {σ : St} {H : Hp} {Q : VK} (Pv : Nat → List V → Hp → Prop) (h0 : Pv 0 [] H) (hl : ∀ i ys H, i ≤ xs.length → Pv i ys H → SqL K H a xs)
    (hs : ∀ i x ys H, xs[i]? = some x → Pv i ys H → tt (some x :: pick js σ) H fun b H2 => if b = true then te (some x :: pick js σ) H2 fun y H3 => ys.length < sizeLine ∧ Pv (i + 1) (ys ++ [y]) H3 else Pv (i + 1) ys H2)
    (hd : ∀ ys H, Pv xs.length ys H → ∀ p, H p = none → Q (.ref p) (upd H p (.lst ys))) :
    tCompB (Itl K a) js tt te σ H Q := by
  refine ⟨fun i m ys H => m = xs.length - i ∧ i ≤ xs.length ∧ Pv i ys H, ⟨xs.length, by simp, Nat.zero_le _, h0⟩, ?_⟩
  rintro i m ys H ⟨rfl, hi, p⟩
  have q := hl i ys H hi p
  by_cases hlt : i < xs.length
  · refine .inr ⟨⟨xs, xs[i], q, by simp [hlt]⟩, Pv (i + 1), fun ys' H' p' => ⟨xs.length - (i + 1), by omega, rfl, hlt, p'⟩, fun x H' y => ?_⟩
    obtain ⟨e, y⟩ := y
    subst e
    exact hs i x ys _ (y xs q) p
  · have e : i = xs.length := by omega
    subst e
    exact .inl ⟨⟨xs, q, Nat.le_refl _⟩, hd ys H p⟩
end
end L2

set_option Elab.async false
set_option linter.all false
set_option maxRecDepth 100000
set_option maxHeartbeats 4000000
namespace L2
open PySem PySem.Spec PyProof.Rows

/-! ### lambdas: a closure, its code and its cells are things known to the object -/
noncomputable abbrev Kp (o : Obj) : HO := .frz o (.ext fun _ => True)
theorem kp_mk {P : Program} {w : World} {H : Hp} {h : Heap} {a : Addr} {o : Obj} (e : h.get? a = some o) : ObjOk P w H h a (Kp o) := ⟨e, trivial, ⟨o, e⟩, fun _ _ _ _ => trivial⟩
theorem kp_get {P : Program} {w : World} {H : Hp} {h : Heap} {a : Addr} {o : Obj} (x : HOk P w H h) (e : H a = some (Kp o)) : h.get? a = some o := (x a _ e).1

/-! a body that stores nothing and returns: the names stay -/
noncomputable def PR (X : Cx) (ss : List Stmt) (t : TE) : Prop :=
  ∀ (pins : List (Addr × Obj)) (s : Shared) (σ : St) (H : Hp) (Q : VK), Inv X pins σ H s → t σ H Q → wpAny (model X.prog X.w) X.A (execs ss X.env) (fun fl s' => ∃ u, fl = .ret u ∧ EP X pins σ Q u s') X.xe s
section
variable {X : Cx} {e : Expr} {te u : TE} {rest a : List Stmt} {pos : Pos}
theorem pr_ret (he : PE X e te) : PR X (.Return (some e) pos :: rest) te := by
  intro pins s σ H Q I h
  refine wpAny_execs_cons (wpAny_Return_some (thn (he pins s σ H _ I h) fun v s1 q => ?_))
  exact ⟨v, rfl, q⟩
noncomputable def tIfR (c : TT) (t u : TE) : TE := fun σ H Q => c σ H fun b H1 => if b = true then t σ H1 Q else u σ H1 Q
theorem pr_if {c : Expr} {tc : TT} (hc : PT X c tc) (ha : PR X a te) (hb : PR X rest u) : PR X (.If c a [] pos :: rest) (tIfR tc te u) := by
  intro pins s σ H Q I h
  refine wpAny_execs_cons (wpAny_If (thn (hc pins s σ H _ I h) fun d s1 hsl36 => ?_))
  obtain ⟨H1, I1, q1⟩ := hsl36
  cases d with
  | true =>
    refine thn (ha pins s1 σ H1 Q I1 q1) ?_
    rintro fl s2 ⟨u, rfl, q⟩
    exact ⟨u, rfl, q⟩
  | false => exact wpAny_execs_nil (hb pins s1 σ H1 Q I1 q1)
theorem PR.nox {ss : List Stmt} {t : TE} (h : PR X.nox ss t) : PR X ss t := fun pins s σ H Q I hw =>
  wpAny_mono (h pins s σ H Q (I.wish _) hw) (fun _ _ hsl37 => by obtain ⟨u, e, v, H', I', r, q⟩ := hsl37; exact ⟨u, e, v, H', I'.unwish, r, q⟩) fun _ _ z => False.elim z
end

/-! a lambda is made -/
/-- what the module says of itself -/
structure BMain (mg : Str → Option Value) (base : Heap) : Prop where
  ex : ∃ bm o, mg "__builtins__" = some (.ref bm) ∧ bm ≠ builtinsNs ∧ base.get? bm = some o ∧ o.cls = .type "module" ∧ o.dict = some builtinsNs ∧ o.data = .plain
noncomputable def tLam (qual : Str) (params : Arguments) (body : Expr) (sc : Scope) (pos : Pos) (cells : List (Str × Addr)) (pm : Value) (Pt : Addr) : TE := fun _ H Q => ∃ ps, H Pt = some (.tbl ps) ∧ TriplesOk ps.toList ∧ codeAmong pos ps.toList = none ∧
  ∀ (f c' : Addr) (oc : Obj) (vs : Array Value) (t : Tok) (ctv : Value), H f = none → H c' = none → f ≠ c' → oc.data = .fields vs → vs[1]? = some (.str (qual ++ "<lambda>") t) →
    Q (.ref f) (upd (upd (upd H Pt (.tbl (ps ++ #[rawInt pos.line, rawInt pos.col, .ref c']))) c' (Kp oc)) f (Kp (PySem.W.kla_obj "<lambda>" (qual ++ "<lambda>") params body sc (clOf cells sc.names []) pm c' ctv)))
theorem pe_lam {X : Cx} {params : Arguments} {body : Expr} {sc : Scope} {pos : Pos} {c Pt : Addr} (hdef : defaultsOf params X.env = ([], [])) (hcode : X.env.code = .ref c) (hC : PySem.W.CodeHd X.base c Pt) (hB : BMain X.mg X.base)
    (hfree : ∀ y ∈ sc.names, y.2 = .free → ∃ c, X.env.cells.lookup y.1 = some c) :
    PE X (.Lambda params body sc pos) (tLam X.env.qual params body sc pos X.env.cells ((X.mg "__name__").getD .none) Pt) := by
  intro pins s σ H Q I h
  obtain ⟨ps, hP, ht, hnf, h⟩ := h
  have hP' : s.heap.get? Pt = some (PySem.W.tabObj ps) := I.hok Pt _ hP
  have hg : s.heap.Ns mainGlobals X.mg := I.mod.glob.keeps I.bk
  obtain ⟨bm, ob, b1, b2, b3, b4, b5, b6⟩ := hB.ex
  have b3' := I.bk _ _ b3
  have hgP : mainGlobals ≠ Pt := fun q => by
    obtain ⟨o, es, ep, e, hd, _⟩ := hg
    rw [q, hP'] at e; cases e; cases hd
  have hbP : bm ≠ Pt := fun q => by rw [q, hP'] at b3'; cases b3'; cases b4
  have hbG : bm ≠ mainGlobals := fun q => by
    obtain ⟨o, es, ep, e, hd, _⟩ := hg
    rw [q, e] at b3'; cases b3'; rw [hd] at b6; cases b6
  refine PySem.W.kla_eval hdef ?_
  refine PySem.W.kla_makeFunction (mg := X.mg) (closure_eq hfree) I.ok.glob hg hcode (hC.keeps I.bk) hP' ht hnf hgP ⟨bm, ob, b1, b2, hbG, hbP, b3', b4, b5, b6⟩ fun c' ctv h' tk hx hge hlt hrec htb => ?_
  obtain ⟨c2, oc, vs, t, e2, hoc, hd, hv⟩ := hrec
  cases e2
  have fF : H h'.objs.size = none := I.hok.fresh (Nat.le_of_lt (Nat.lt_of_le_of_lt hge hlt))
  have fC : H c' = none := I.hok.fresh hge
  refine ⟨.ref h'.objs.size, _, ?_, rfl, h h'.objs.size c' oc vs t ctv fF fC (Nat.ne_of_gt hlt) hd hv⟩
  have nPc : Pt ≠ c' := Nat.ne_of_lt (Nat.lt_of_lt_of_le (Heap.lt_size hP') hge)
  have nPf : Pt ≠ h'.objs.size := Nat.ne_of_lt (Nat.lt_trans (Nat.lt_of_lt_of_le (Heap.lt_size hP') hge) hlt)
  have sub : ∀ b o, s.heap.get? b = some o → b ≠ c' ∧ b ≠ h'.objs.size := fun b o e =>
    ⟨Nat.ne_of_lt (Nat.lt_of_lt_of_le (Heap.lt_size e) hge), Nat.ne_of_lt (Nat.lt_trans (Nat.lt_of_lt_of_le (Heap.lt_size e) hge) hlt)⟩
  have old : ∀ {b o u}, s.heap.get? b = some o → b ≠ Pt → (upd (upd (upd H Pt (.tbl (ps ++ #[rawInt pos.line, rawInt pos.col, .ref c']))) c' (Kp oc)) h'.objs.size u) b = H b := fun {b o u} e n => by
    rw [upd_ne (sub b o e).2, upd_ne (sub b o e).1, upd_ne n]
  have oldH : ∀ {b o u}, H b = some o → b ≠ Pt → (upd (upd (upd H Pt (.tbl (ps ++ #[rawInt pos.line, rawInt pos.col, .ref c']))) c' (Kp oc)) h'.objs.size u) b = H b := fun {b o u} e n => by
    rw [upd_ne (ne_of_none e fF), upd_ne (ne_of_none e fC), upd_ne n]
  have kp : ∀ b o, b ≠ Pt → s.heap.get? b = some o → (h'.push (PySem.W.kla_obj "<lambda>" (X.env.qual ++ "<lambda>") params body sc (clOf X.env.cells sc.names []) ((X.mg "__name__").getD .none) c' ctv)).get? b = some o := fun b o n e => Heap.get?_push_of_some _ (hx b o n e)
  refine I.un (t' := tk) ⟨fun b o e n _ _ => kp b o (fun z => by rw [z, hP] at n; cases n) e, fun b o e n _ _ => ⟨o.slots, kp b o (fun z => by rw [z, hP] at n; cases n) e⟩, fun b o e n _ => ?_, fun b o e _ => ?_, fun b xs e => ?_, fun b o u e => ?_, fun b qs e => ?_⟩ ?_
  · rw [old e (fun z => by rw [z, hP] at n; cases n)]; exact n
  · by_cases z : b = Pt
    · subst z; exact ⟨_, Heap.get?_push_of_some _ htb⟩
    · exact ⟨o, kp b o z e⟩
  · rw [oldH e (fun z => by rw [z, hP] at e; cases e)]; exact e
  · rw [oldH e (fun z => by rw [z, hP] at e; cases e)]; exact e
  · by_cases z : b = Pt
    · subst z
      rw [hP] at e; cases e
      exact ⟨_, by rw [upd_ne nPf, upd_ne nPc, upd_same]⟩
    · exact ⟨#[], by rw [oldH e z, e]; simp⟩
  · intro b o e
    by_cases z1 : b = h'.objs.size
    · subst z1
      rw [upd_same] at e; cases e
      exact kp_mk (Heap.get?_push_size _ rfl)
    rw [upd_ne z1] at e
    by_cases z2 : b = c'
    · subst z2
      rw [upd_same] at e; cases e
      exact kp_mk (Heap.get?_push_of_some _ hoc)
    rw [upd_ne z2] at e
    by_cases z3 : b = Pt
    · subst z3
      rw [upd_same] at e; cases e
      exact Heap.get?_push_of_some _ htb
    rw [upd_ne z3] at e
    refine (I.hok b o e).stay (fun c v hc q => kp c v ?_ q) (fun c r => by rw [oldH r (fun z => by rw [z, hP] at r; cases r)]; exact r) fun c xs r => by rw [oldH r (fun z => by rw [z, hP] at r; cases r)]; exact r
    rcases hc with rfl | hc
    · exact z3
    · rintro rfl
      rw [hP] at hc; cases hc

/-! a lambda is called -/
noncomputable def hid (cl : List (Str × Addr)) (H : Hp) : Hp := fun b => if b ∈ cl.map (·.2) then none else H b
noncomputable def back (cl : List (Str × Addr)) (H H' : Hp) : Hp := fun b => if b ∈ cl.map (·.2) then H b else H' b
theorem hid_ne {cl : List (Str × Addr)} {H : Hp} {b : Addr} (h : b ∉ cl.map (·.2)) : hid cl H b = H b := if_neg h
theorem hid_in {cl : List (Str × Addr)} {H : Hp} {b : Addr} (h : b ∈ cl.map (·.2)) : hid cl H b = none := if_pos h
theorem back_ne {cl : List (Str × Addr)} {H H' : Hp} {b : Addr} (h : b ∉ cl.map (·.2)) : back cl H H' b = H' b := if_neg h
theorem back_in {cl : List (Str × Addr)} {H H' : Hp} {b : Addr} (h : b ∈ cl.map (·.2)) : back cl H H' b = H b := if_pos h
theorem hid_some {cl : List (Str × Addr)} {H : Hp} {b : Addr} {o : HO} (h : hid cl H b = some o) : b ∉ cl.map (·.2) ∧ H b = some o := by
  by_cases z : b ∈ cl.map (·.2)
  · rw [hid_in z] at h; cases h
  · rw [hid_ne z] at h; exact ⟨z, h⟩

theorem zipRev_out {x : Str} : ∀ {ps : List Str} {us : List Value}, x ∉ ps → (ps.zip us).reverse.lookup x = none
  | [], _, _ => rfl
  | _ :: _, [], _ => rfl
  | p :: ps, u :: us, h => by
    have h1 : x ≠ p := fun z => h (by simp [z])
    rw [List.zip_cons_cons, List.reverse_cons, List.lookup_append, zipRev_out (fun z => h (List.mem_cons_of_mem _ z))]
    have h2 : (x == p) = false := by simpa using h1
    simp [List.lookup_cons, h2]
theorem zipRev_get {x : Str} {u : Value} : ∀ {ps : List Str} {us : List Value} {i : Nat}, ps.Nodup → ps[i]? = some x → us[i]? = some u → (ps.zip us).reverse.lookup x = some u
  | [], _, _, _, h, _ => by simp at h
  | _ :: _, [], _, _, _, h => by simp at h
  | p :: ps, v :: us, 0, nd, h1, h2 => by
    simp at h1 h2; subst h1; subst h2
    rw [List.zip_cons_cons, List.reverse_cons, List.lookup_append, zipRev_out (List.nodup_cons.mp nd).1]
    simp [List.lookup_cons]
  | p :: ps, v :: us, i + 1, nd, h1, h2 => by
    rw [List.zip_cons_cons, List.reverse_cons, List.lookup_append, zipRev_get (i := i) (List.nodup_cons.mp nd).2 (by simpa using h1) (by simpa using h2)]
    rfl

/-- the scope of a lambda: parameters, then free names -/
structure LmScope (ps fv : List Str) (sc : Scope) : Prop where
  kind : sc.kind = .function
  co : sc.isCoroutine = false
  gen : sc.isGenerator = false
  nd : ps.Nodup
  par : ∀ x ∈ ps, sc.names.lookup x = some .local
  fr : ∀ x ∈ fv, sc.names.lookup x = some .free
  nocell : ∀ y ∈ sc.names, y.2 ≠ .cell
/-- the context of its body -/
noncomputable def cxL (P : Program) (w : World) (K : PySem.W.Frag) (mg : Str → Option Value) (base : Heap) (N : List Str) (qual : Str) (scope : Scope) (f : Addr) (cd : Value) (cl : List (Str × Addr)) (A : Around) (outer : List Env) (s : Shared) (H : Hp) : Cx where
  prog := P
  w := w
  K := K
  mg := mg
  base := base
  A := A.deeper (PySem.W.envX qual scope s.heap.objs.size f cd cl)
  N := N
  s₀ := s
  H₀ := H
  env := PySem.W.envX qual scope s.heap.objs.size f cd cl
  outer := outer
  stack := PySem.W.envX qual scope s.heap.objs.size f cd cl :: outer
  ex := []
  calm := true
  fn := fun _ => false
  pn := []
  xe := fun _ _ => False
theorem lam_ok {P : Program} {w : World} {K : PySem.W.Frag} {mg : Str → Option Value} {base : Heap} {k : Nat} {f c' : Addr} {name qual : Str} {params : Arguments} {body : Expr} {scope : Scope} {cl : List (Str × Addr)} {pm ctv : Value} {ps fv : List Str} {sp : Sp}
    (S : LmScope ps fv scope) (hinj : ∀ x y c, cl.lookup x = some c → cl.lookup y = some c → x = y) (hhas : ∀ x, scope.names.lookup x = some .free → ∃ c, cl.lookup x = some c)
    (len : ∀ vs H Q E, sp vs H Q E → vs.length = ps.length)
    (hbody : ∀ (A : Around) (outer : List Env) (s : Shared) (H : Hp) (vs : List V) (Q : VK) (E : XK), Room k (A.deeper (PySem.W.envX qual scope s.heap.objs.size f (.ref c') cl)) → sp vs H Q E →
      H f = some (Kp (PySem.W.kla_obj name qual params body scope cl pm c' ctv)) ∧ (∃ oc vsc t, H c' = some (Kp oc) ∧ oc.data = .fields vsc ∧ vsc[1]? = some (.str qual t)) ∧
      (∀ p ∈ cl, ∃ o v, H p.2 = some (Kp o) ∧ o.data = .cell v) ∧
      ∃ (ws : List V) (t : TE), ws.length = fv.length ∧ (∀ (i : Nat) (x : Str) (v : V), fv[i]? = some x → ws[i]? = some v → ∃ c o u, cl.lookup x = some c ∧ H c = some (Kp o) ∧ o.data = .cell (some u) ∧ RelV v u) ∧
        PE (cxL P w K mg base (ps ++ fv) qual scope f (.ref c') cl A outer s (hid cl H)) body t ∧ t (vs.map some ++ ws.map some) (hid cl H) (fun v H' => (∀ b ∈ cl.map (·.2), H' b = none) → Q v (back cl H H'))) :
    FnOk P w K mg base CX0 (k + 1) f (PySem.W.kla_fn name qual params body scope cl pm (.ref c') ctv) ps sp := by
  refine ⟨len, fun A outer s H args us vs Q E hr e0 hb r hsp => ?_⟩
  have hl := len _ _ _ _ hsp
  have lim : s.heap.NoLimit := e0.mod.nolimit.keeps fun b o e => (e0.bs b o e).1
  obtain ⟨hf, ⟨oc, vsc, tq, hc', hoc, hov⟩, hcl, ws, t, hwl, hws, hpe, ht⟩ := hbody A outer s H vs Q E (hr.deeper _) hsp
  have hloc : ∀ y ∈ ps.zip us, scope.names.lookup y.1 = some .local := fun hsl38 hy => by obtain ⟨n, v⟩ := hsl38; exact S.par n (List.of_mem_zip hy).1
  refine PySem.W.kla_callFunE hr.depth (kp_get e0.hok hf) rfl S.co S.gen rfl ⟨c', oc, vsc, tq, rfl, kp_get e0.hok hc', hoc, hov⟩ (hb _ _ _ _ ?_)
  refine wpAny_newFunctionEnv S.nocell hloc (fun h₁ hns hsb => ⟨?_, ?_⟩) S.kind
  · exact lim.fresh _ hsb
  show codeAny _ _ (.expr body (PySem.W.envX qual scope s.heap.objs.size f (.ref c') cl)) _ _
  have hk : ∀ b o, s.heap.get? b = some o → h₁.get? b = some o := fun b o e => hsb.extBut b o (Nat.ne_of_lt (Heap.lt_size e)) (Heap.get?_push_of_some _ e)
  have cellOf : ∀ x c, cl.lookup x = some c → c ∈ cl.map (·.2) ∧ ∃ o v, H c = some (Kp o) ∧ o.data = .cell v := fun x c e => by
    have m := PySem.mem_of_lookup e
    exact ⟨List.mem_map.mpr ⟨_, m, rfl⟩, hcl _ m⟩
  have inCl : ∀ b, b ∈ cl.map (·.2) → ∃ o v, H b = some (Kp o) ∧ o.data = .cell v := fun b hb => by
    obtain ⟨p, hp, rfl⟩ := List.mem_map.mp hb
    exact hcl p hp
  have noF : ∀ b, H b = none → hid cl H b = none := fun b n => by
    by_cases z : b ∈ cl.map (·.2)
    · exact hid_in z
    · rw [hid_ne z]; exact n
  have nin : ∀ b, H b = none → b ∉ cl.map (·.2) := fun b n z => by
    obtain ⟨o, v, e, _⟩ := inCl b z
    rw [n] at e; cases e
  have hokH : HOk P w (hid cl H) h₁ := fun b o e => by
    obtain ⟨_, e'⟩ := hid_some e
    have g : ∀ c u, H c = some u → (∀ o, u ≠ Kp o) → hid cl H c = some u := fun c u q n => by
      rw [hid_ne (fun z => by
        obtain ⟨o, v, e, _⟩ := inCl c z
        rw [q] at e; exact n o (Option.some.inj e))]
      exact q
    exact (e0.hok b o e').stay (fun c u _ q => hk c u q) (fun c q => g c _ q (fun o z => by cases z)) fun c xs q => g c _ q (fun o z => by cases z)
  have noA : ∀ b : Addr, b ∉ ([] : List Addr) := fun b z => by simp at z
  have I : Inv (cxL P w K mg base (ps ++ fv) qual scope f (.ref c') cl A outer s (hid cl H)) [] (vs.map some ++ ws.map some) (hid cl H) { s with heap := h₁, toks := s.toks + (ps.zip us).length } := by
    refine ⟨⟨e0.mod, S.kind, rfl, rfl, Nat.le_refl _, hinj, fun y hy => ?_, fun _ _ z => (by cases z), fun _ => hr.hd, Around.frames_deeper e0.frames, .inr ⟨rfl, rfl⟩, fun b z => absurd z (noA b), fun b o e => ⟨(e0.bs b o e).1, noF b (e0.bs b o e).2⟩, e0.bsz, fun b _ _ => noA b, fun b z => absurd z (noA b), e0.funs, fun b hb => noF b (e0.frf b hb)⟩,
      rfl, e0.bare, Un.kept hk, ⟨_, hns, fun i y v h1 h2 h3 => ?_⟩, fun y c e => ?_, ?_, fun y c e => hid_in (cellOf y c e).1, fun p hp => absurd (show p ∈ ([] : List (Addr × Obj)) from hp) (by simp), hokH, ?_⟩
    · have hy : scope.names.lookup y = some .cell ∨ scope.names.lookup y = some .free := hy
      rcases hy with hy | hy
      · exact absurd rfl (S.nocell _ (PySem.mem_of_lookup hy))
      · exact hhas y hy
    · by_cases hi : i < ps.length
      · have h1' : ps[i]? = some y := by rw [← h1]; exact (List.getElem?_append_left hi).symm
        have h2' : vs[i]? = some v := by
          rw [List.getElem?_append_left (by simpa [hl] using hi), List.getElem?_map] at h2
          cases q : vs[i]? with
          | none => rw [q] at h2; cases h2
          | some a => rw [q] at h2; cases h2; rfl
        obtain ⟨u, hu, rv⟩ := r.get h2'
        exact ⟨u, rv, .inl ⟨S.par y (List.mem_of_getElem? h1'), zipRev_get S.nd h1' hu⟩⟩
      · have h1' : fv[i - ps.length]? = some y := by rw [← h1]; exact (List.getElem?_append_right (by omega)).symm
        have h2' : ws[i - ps.length]? = some v := by
          rw [List.getElem?_append_right (by simpa [hl] using hi), List.getElem?_map] at h2
          rw [List.length_map, hl] at h2
          cases q : ws[i - ps.length]? with
          | none => rw [q] at h2; cases h2
          | some a => rw [q] at h2; cases h2; rfl
        obtain ⟨c, o, u, e1, e2, e3, rv⟩ := hws _ y v h1' h2'
        exact ⟨u, rv, .inr ⟨.inr (S.fr y (List.mem_of_getElem? h1')), c, e1, o, hk _ _ (kp_get e0.hok e2), e3⟩⟩
    · obtain ⟨_, o, v, e1, e2⟩ := cellOf y c e
      exact ⟨v, o, hk _ _ (kp_get e0.hok e1), e2⟩
    · exact noF _ (e0.hok.fresh (Nat.le_refl _))
    · show (vs.map some ++ ws.map some).length = (ps ++ fv).length
      simp [hl, hwl]
  refine PySem.W.kla_codeExpr (wpAny_mono (hpe [] _ _ _ _ I ht) (fun u s' hq => ?_) fun _ _ z => False.elim z)
  obtain ⟨v, H', J, rv, q⟩ := hq
  have jb : Un (frs outer) [] (hid cl H) H' s.heap s'.heap := J.base
  have clF : ∀ b, b ∈ cl.map (·.2) → b ∉ frs outer := fun b hb z => by
    obtain ⟨o, v, e, _⟩ := inCl b hb
    rw [e0.frf b z] at e; cases e
  have clG : ∀ b o, b ∈ cl.map (·.2) → H b = some (Kp o) → s'.heap.get? b = some o ∧ H' b = none := fun b o hb e =>
    ⟨jb.keep b o (kp_get e0.hok e) (hid_in hb) (clF b hb) (noA b), jb.free b o (kp_get e0.hok e) (hid_in hb) (noA b)⟩
  refine ⟨v, back cl H H', J.os, J.bare, ⟨fun b o e n hb hx => jb.keep b o e (noF b n) hb hx, fun b o e n hb hx => jb.slot b o e (noF b n) hb hx, fun b o e n hx => ?_, jb.there, fun b xs e => ?_, fun b o u e => ?_, fun b qs e => ?_⟩, fun b o e => ?_, rv, q fun b hb => by obtain ⟨o', _, e', _⟩ := inCl b hb; exact (clG b o' hb e').2⟩
  · rw [back_ne (nin b n)]; exact jb.free b o e (noF b n) hx
  · have z : b ∉ cl.map (·.2) := fun z => by
      obtain ⟨o, v, e', _⟩ := inCl b z
      rw [e] at e'; cases e'
    rw [back_ne z]; exact jb.tups b xs (by rw [hid_ne z]; exact e)
  · by_cases z : b ∈ cl.map (·.2)
    · rw [back_in z]; exact e
    · rw [back_ne z]; exact jb.frzs b o u (by rw [hid_ne z]; exact e)
  · have z : b ∉ cl.map (·.2) := fun z => by
      obtain ⟨o, v, e', _⟩ := inCl b z
      rw [e] at e'; cases e'
    rw [back_ne z]; exact jb.tbls b qs (by rw [hid_ne z]; exact e)
  · by_cases z : b ∈ cl.map (·.2)
    · rw [back_in z] at e
      obtain ⟨o', _, e', _⟩ := inCl b z
      rw [e] at e'; cases e'
      exact kp_mk (clG b o' z e).1
    · rw [back_ne z] at e
      have g : ∀ c u, H' c = some u → back cl H H' c = some u := fun c u q => by
        rw [back_ne (fun z => by
          obtain ⟨o', _, e', _⟩ := inCl c z
          rw [(clG c o' z e').2] at q; cases q)]
        exact q
      exact (J.hok b o e).stay (fun c u _ q => q) (fun c q => g c _ q) fun c xs q => g c _ q

theorem back_same {cl : List (Str × Addr)} {H H' : Hp} (s : Same (hid cl H) H') : Same H (back cl H H') := fun b o e => by
  by_cases z : b ∈ cl.map (·.2)
  · rw [back_in z]; exact e
  · rw [back_ne z]; exact s b o (by rw [hid_ne z]; exact e)

/-! a call of a name that holds a function -/
noncomputable def tCallV (P : Program) (w : World) (K : PySem.W.Frag) (mg : Str → Option Value) (base : Heap) (k : Nat) (ps : List Str) (ti : TE) (t : TA) : TE := fun σ H Q => ti σ H fun v H1 => ∃ f oc od fd sl, v = .ref f ∧ H1 f = some (Kp ⟨oc, od, .func fd, sl⟩) ∧
  t σ H1 fun vs H2 => H2 f = some (Kp ⟨oc, od, .func fd, sl⟩) ∧ ∃ sp, FnOk P w K mg base CX0 k f fd ps sp ∧ Binds K fd ps [] ∧ sp vs H2 Q E0
theorem pe_callV {X : Cx} (P : Program) (w : World) (K : PySem.W.Frag) (mg : Str → Option Value) (base : Heap) {k : Nat} {ps : List Str} {x : Str} {p pos : Pos} {e : Expr} {es : List Expr} {ti : TE} {t : TA} (e1 : X.prog = P) (e2 : X.w = w) (e3 : X.K = K) (e4 : X.mg = mg) (e5 : X.base = base) (hr : Room k X.A) (hi : PE X (.Name x p) ti) (ha : PA X (e :: es) t)
    (he : starEach (e :: es) X.env = (false, eval e X.env) :: starEach es X.env := by rfl) (hpl : (backTo pos (starEach es X.env)).any (·.1) = false := by rfl) :
    PE X (.Call (.Name x p) (e :: es) [] pos) (tCallV P w K mg base k ps ti t) := by
  subst e1 e2 e3 e4 e5
  intro pins s σ H Q I h
  refine wpAny_Call_Name_kw (thn (hi pins s σ H _ I h) ?_)
  rintro u s1 ⟨v, H1, I1, r, f, oc, od, fd, sl, rfl, hf, q⟩
  obtain rfl : u = .ref f := r
  refine PySem.W.callWith_F ⟨oc, od, fd, sl, kp_get I1.hok hf⟩ (thn (ha pos pins s1 σ H1 _ I1 q) ?_) he hpl
  rintro us s2 ⟨vs, H2, I2, r2, hf2, sp, F, hb, q2⟩
  refine ⟨⟨oc, od, fd, sl, kp_get I2.hok hf2⟩, ?_⟩
  exact run_fn (dvs := []) F hr hb .nil pass0 I2 r2 (by rw [List.append_nil]; exact q2)

/-! a def that hands out a closure over one of its parameters: the cell can be tracked behind it -/
theorem fun_okR {P : Program} {w : World} {K : PySem.W.Frag} {mg : Str → Option Value} {base : Heap} {x qual : Str} {st : Stmt} {f : Addr} {fd : FuncData} {N ps : List Str} {k : Nat} {sp : Sp} (y : Str) (i0 : Nat) (F : Fun K x qual st f fd) (S : FnScope N ps (defScope st)) (len : ∀ vs H Q E, sp vs H Q E → vs.length = ps.length)
    (hnd : ps.length = N.length) (hy : N[i0]? = some y) (hyc : (defScope st).names.lookup y = some .cell) (hcs : ∀ n, cellsFrom n (defScope st).names [] = [(y, n)])
    (hbody : ∀ (cdv : Value) (A : Around) (outer : List Env) (s : Shared) (H : Hp) (vs : List V) (Q : VK) (E : XK), (∃ (kV doc pm : Value) (an : Option Addr) (ct : Value), fd = PySem.W.fnOf x qual (defArgs st) (defBody st) (defScope st) .none kV doc pm an cdv ct) → Room k (A.deeper (envOfC qual (defScope st) s.heap.objs.size f cdv)) → sp vs H Q E →
      ∃ t, PR (cxOf CX0 P w K mg base N qual (defScope st) f cdv A outer s H E).nox (defBody st) t ∧ t (vs.map some) H fun v H' =>
        ∀ (c : Addr) (oc : Obj) (u : Value) (v0 : V), cellsFrom (s.heap.objs.size + 1) (defScope st).names [] = [(y, c)] → H c = none → H' c = none → vs[i0]? = some v0 → oc.data = .cell (some u) → RelV v0 u → Q v (upd H' c (Kp oc))) :
    FnOk P w K mg base CX0 (k + 1) f fd ps sp := by
  obtain ⟨oc, od, kV, doc, pm, an, cdv, ct, osl, rfl, lk, hcd⟩ := F.ex
  refine ⟨len, fun A outer s H args us vs Q E hr e0 hb r hsp => ?_⟩
  have hl := len _ _ _ _ hsp
  have KX : K.In s.heap := e0.mod.kin.keeps fun b o e => (e0.bs b o e).1
  have lim : s.heap.NoLimit := e0.mod.nolimit.keeps fun b o e => (e0.bs b o e).1
  have hkind : ∀ y ∈ ps.zip us, (defScope st).names.lookup y.1 = some .local ∨ ((defScope st).names.lookup y.1 = some .cell ∧ ((cellsFrom (s.heap.objs.size + 1) (defScope st).names []).lookup y.1).isSome = true) := fun ⟨n, v⟩ hy => by
    rcases S.par n (List.of_mem_zip hy).1 with q | q
    · exact .inl q
    · exact .inr ⟨q, PySem.W.cellsFrom_some _ _ _ (.inl q)⟩
  refine codeAny_call_function hr.depth (KX _ _ lk) rfl S.co S.gen rfl (PySem.W.codeRec_of KX hcd) (hb _ _ _ _ ?_)
  refine wpAny_newFunctionEnv_cells S.kind hkind fun env he s1 x => ?_
  subst he
  refine ⟨lim.keeps x.toInCall.keep, codeAny_func ?_⟩
  obtain ⟨t, ht, hq⟩ := hbody cdv A outer s H vs Q E ⟨kV, doc, pm, an, ct, rfl⟩ (hr.deeper _) hsp
  have I : Inv (cxOf CX0 P w K mg base N qual (defScope st) f cdv A outer s H E) [] (start N vs) H s1 := inv_start S hr.hd e0 hl r x
  have es : start N vs = vs.map some := by
    unfold start
    rw [hl, hnd, Nat.sub_self]; simp
  rw [es] at I
  refine wpAny_mono (ht.nox [] s1 _ H _ I hq) (fun fl s' hs => ?_) fun e s' hs => hs
  obtain ⟨u, rfl, v, H', J, rv, q⟩ := hs
  have hc0 : (envOfC qual (defScope st) s.heap.objs.size f cdv).cells.lookup y = some (s.heap.objs.size + 1) := by
    show (cellsFrom (s.heap.objs.size + 1) (defScope st).names []).lookup y = _
    rw [hcs]; simp [List.lookup_cons]
  have hi : i0 < vs.length := by rw [hl, hnd]; exact (List.getElem?_eq_some_iff.mp hy).1
  have hv0 : vs[i0]? = some vs[i0] := List.getElem?_eq_getElem hi
  obtain ⟨m, hn, hloc⟩ := J.loc
  obtain ⟨u0, r0, lo⟩ := hloc i0 y vs[i0] hy (by rw [List.getElem?_map, hv0]; rfl) (.inr (.inl hyc))
  have hCell : s'.heap.IsCell (s.heap.objs.size + 1) (some u0) := by
    rcases lo with ⟨kk, _⟩ | ⟨_, c, e, z⟩
    · have kk : (defScope st).names.lookup y = some .local := kk
      rw [hyc] at kk; cases kk
    · have e : (envOfC qual (defScope st) s.heap.objs.size f cdv).cells.lookup y = some c := e
      rw [hc0] at e; cases e; exact z
  obtain ⟨o, ho, hd⟩ := hCell
  have fH : H (s.heap.objs.size + 1) = none := e0.hok.fresh (Nat.le_succ _)
  have fH' : H' (s.heap.objs.size + 1) = none := J.freeC y _ hc0
  have ne : ∀ b ob, s.heap.get? b = some ob → b ≠ s.heap.objs.size + 1 := fun b ob e => Nat.ne_of_lt (Nat.lt_succ_of_lt (Heap.lt_size e))
  have nH : ∀ {b ob}, H' b = some ob → upd H' (s.heap.objs.size + 1) (Kp o) b = some ob := fun {b ob} e => by rw [upd_ne (ne_of_none e fH')]; exact e
  have jb : Un (frs outer) [] H H' s.heap s'.heap := J.base
  refine ⟨v, upd H' (s.heap.objs.size + 1) (Kp o), J.os, J.bare, ⟨jb.keep, jb.slot, fun b ob e n hx => ?_, jb.there, fun b xs e => nH (jb.tups b xs e), fun b ob z e => nH (jb.frzs b ob z e), fun b qs e => ?_⟩, fun b ob e => ?_, rv, q _ o u0 vs[i0] (hcs _) fH fH' hv0 hd r0⟩
  · rw [upd_ne (ne b ob e)]; exact jb.free b ob e n hx
  · obtain ⟨more, z⟩ := jb.tbls b qs e
    exact ⟨more, nH z⟩
  · by_cases z : b = s.heap.objs.size + 1
    · subst z
      rw [upd_same] at e; cases e
      exact kp_mk ho
    · rw [upd_ne z] at e
      exact (J.hok b ob e).stay (fun _ _ _ q => q) (fun c q => nH q) fun c xs q => nH q
/-! the head where lambdas are made: the tables of the codes are tracked -/
theorem law_callT {P : Program} {w : World} {K : PySem.W.Frag} {mg mb : Str → Option Value} {CX : CXT} {k : Nat} {fa a : Addr} {fd : FuncData} {x : Str} {sp : Sp} {s₁ : Shared} {vs : List Value} {ns : List Int} (ts : List Addr)
    (hts : ∀ P ∈ ts, s₁.heap.get? P = some (PySem.W.tabObj #[]) ∧ ∃ c, PySem.W.CodeHd s₁.heap c P) (hKt : ∀ P ∈ ts, K.lookup P = none) (hbm : BMain mg s₁.heap)
    (KX : K.In s₁.heap) (hns : s₁.heap.Ns mainGlobals mg) (hb : s₁.heap.Ns builtinsNs mb) (hbb : ∀ x : Str, x ≠ "__name__" → mb x = bootBuiltins x) (hlim : s₁.heap.NoLimit) (hg : s₁.gens = #[])
    (ha : s₁.heap.get? a = some { cls := .type "list", data := .seq vs.toArray }) (hi : IntsAre vs ns) (hl : ns.length ≤ sizeLine) (hr : Room k callerA)
    (F : ∀ base : Heap, K.In base → base.Ns mainGlobals mg → BMain mg base → FnOk P w K mg base CX k fa fd [x] sp) (hbind : ∀ (s : Shared) (u : Value), BindsTo s fd ⟨[u], []⟩ [(x, u)])
    (hsp : ∀ H : Hp, SqL K H a (ns.map V.int) → (∀ P ∈ ts, H P = some (.tbl #[])) → sp [.ref a] H (fun v _ => v = .bl true) fun _ _ _ => False)
    (hCX : ∀ H e s', CX [] H s₁ (fun _ _ _ => False) e s' → False) :
    codeAny (model P w) callerA (.call (.ref fa) ⟨[.ref a], []⟩) (fun r s' => r = .ok (.ret (.bool true)) ∧ OldK s₁.heap s'.heap ∧ s'.os = s₁.os ∧ AllBare s'.gens) s₁ := by
  have rv := vals_ints hi
  have lenV := hi.length
  have nat : a ∉ ts := fun z => by
    have e := (hts a z).1
    rw [ha] at e; cases e
  have core : ∀ H : Hp, SqL K H a (ns.map V.int) → (∀ P ∈ ts, H P = some (.tbl #[])) → (∀ b u, H b = some u → (b = a ∧ ∃ o xs, u = .frz o (.lst xs) ∧ s₁.heap.get? a = some o) ∨ (b ∈ ts ∧ u = .tbl #[])) → HOk P w H s₁.heap → (H a ≠ none → K.lookup a = none) →
      codeAny (model P w) callerA (.call (.ref fa) ⟨[.ref a], []⟩) (fun r s' => r = .ok (.ret (.bool true)) ∧ OldK s₁.heap s'.heap ∧ s'.os = s₁.os ∧ AllBare s'.gens) s₁ := by
    intro H hS hT hA hok hK
    have base_of : ∀ {b : Addr} {o : Obj}, s₁.heap.get? b = some o → H b = none → (hidT s₁.heap H).get? b = some o := fun e n => hidT_get e n
    have noA : ∀ {b : Addr} {o : Obj} {es : Array DictEntry} {ep : Nat}, s₁.heap.get? b = some o → o.data = .dict es ep → H b = none := fun {b o es ep} e d => by
      cases q : H b with
      | none => rfl
      | some u =>
        rcases hA b u q with ⟨e', _⟩ | ⟨e', _⟩
        · subst e'
          rw [ha] at e; cases e
          have d' : Data.seq vs.toArray _ = Data.dict es ep := d
          cases d'
        · rw [(hts b e').1] at e; cases e
          have d' : Data.fields #[] = Data.dict es ep := d
          cases d'
    have nsK : ∀ {b : Addr} {m : Str → Option Value}, s₁.heap.Ns b m → (hidT s₁.heap H).Ns b m := fun {b m} ⟨o, es, ep, e, d, r⟩ => ⟨o, es, ep, base_of e (noA e d), d, r⟩
    have hKb : K.In (hidT s₁.heap H) := fun b o e => base_of (KX b o e) (by
      cases q : H b with
      | none => rfl
      | some u =>
        rcases hA b u q with ⟨e', _⟩ | ⟨e', _⟩
        · subst e'
          rw [hK (by rw [q]; simp)] at e; cases e
        · rw [hKt b e'] at e; cases e)
    have hBb : BMain mg (hidT s₁.heap H) := by
      obtain ⟨bm, o, b1, b2, b3, b4, b5, b6⟩ := hbm.ex
      refine ⟨bm, o, b1, b2, base_of b3 ?_, b4, b5, b6⟩
      cases q : H bm with
      | none => rfl
      | some u =>
        rcases hA bm u q with ⟨e', _⟩ | ⟨e', _⟩
        · rw [e', ha] at b3; cases b3
          have b4 : Value.type "list" = Value.type "module" := b4
          injection b4 with b4
          exact absurd b4 (by decide)
        · rw [(hts bm e').1] at b3; cases b3; cases b4
    have hM : Mod K mg (hidT s₁.heap H) := ⟨hKb, nsK hns, ⟨mb, nsK hb, hbb⟩, by obtain ⟨mc, h1, h2⟩ := hlim; exact ⟨mc, nsK h1, h2⟩⟩
    have e0 : Env0 P w K mg (hidT s₁.heap H) callerA [] s₁ H := ⟨rfl, hM, fun b o e => of_hidT e, Nat.le_of_eq (hidT_size _ _), trivial, fun b hb => absurd (show b ∈ ([] : List Addr) from hb) (by simp), hok, .of_eq hg⟩
    refine codeAny_mono ((F _ hKb (nsK hns) hBb).run callerA [] s₁ H ⟨[.ref a], []⟩ [.ref a] [.ref a] _ _ hr e0 (hbind s₁ (.ref a)) (.cons rfl .nil) (hsp H hS hT)) fun r s' h => ?_
    cases r with
    | error e => exact (hCX H e s' h).elim
    | ok fl =>
      cases fl with
      | next => exact False.elim h
      | brk => exact False.elim h
      | cont => exact False.elim h
      | ret u =>
        obtain ⟨v, H', os, bare, un, hok', r', q⟩ := h
        have q' : v = .bl true := q
        subst q'
        obtain rfl : u = Value.bool true := r'
        refine ⟨rfl, ⟨fun b o e => ?_, fun b o e => un.there b o e (by simp)⟩, os, bare⟩
        cases q : H b with
        | none => exact .inl (un.keep b o e q (by intro z; exact absurd (show b ∈ ([] : List Addr) from z) (by simp)) (by simp))
        | some u =>
          rcases hA b u q with ⟨e', ob, xs, rfl, eo⟩ | ⟨e', rfl⟩
          · have z2 := un.frzs b ob _ q
            obtain ⟨e2, _⟩ := hok' b _ z2
            subst e'
            rw [e] at eo; cases eo
            exact .inl e2
          · obtain ⟨more, z2⟩ := un.tbls b _ q
            have e2 : s'.heap.get? b = some { cls := .none, data := .fields (#[] ++ more) } := hok' b _ z2
            obtain ⟨h1, c, hC⟩ := hts b e'
            rw [h1] at e; cases e
            exact .inr (.inl ⟨(hC.tab h1).isCodeTable, rfl, #[], more, rfl, e2⟩)
  cases hk : K.lookup a with
  | some o =>
    have e := KX a o hk
    rw [ha] at e
    cases e
    refine core (fun b => if b ∈ ts then some (.tbl #[]) else none) (.inr ⟨_, vs.toArray, _, hk, rfl, rfl, rfl, by rw [List.size_toArray, lenV]; exact hl, by simpa using rv⟩) (fun P hP => if_pos hP) (fun b u z => ?_) (fun b u z => ?_) fun z => absurd (if_neg nat) z
    · by_cases hb : b ∈ ts
      · have z' := (if_pos hb).symm.trans z
        exact .inr ⟨hb, (Option.some.inj z').symm⟩
      · have z' := (if_neg hb).symm.trans z
        cases z'
    · by_cases hb : b ∈ ts
      · have z' := (if_pos hb).symm.trans z
        cases z'
        exact (hts b hb).1
      · have z' := (if_neg hb).symm.trans z
        cases z'
  | none =>
    refine core (fun b => if b = a then some (.frz { cls := .type "list", data := .seq vs.toArray } (.lst (ns.map V.int))) else if b ∈ ts then some (.tbl #[]) else none) (.inl (.inr ⟨{ cls := .type "list", data := .seq vs.toArray }, if_pos rfl⟩)) (fun P hP => ?_) (fun b u z => ?_) (fun b u z => ?_) fun _ => hk
    · have hn : P ≠ a := fun z => nat (z ▸ hP)
      show (if P = a then _ else _) = _
      rw [if_neg hn, if_pos hP]
    · by_cases hb : b = a
      · have z' := (if_pos hb).symm.trans z
        exact .inl ⟨hb, _, _, (Option.some.inj z').symm, ha⟩
      · have z : (if b = a then _ else if b ∈ ts then some (HO.tbl #[]) else none) = some u := z
        rw [if_neg hb] at z
        by_cases hb2 : b ∈ ts
        · rw [if_pos hb2] at z
          exact .inr ⟨hb2, (Option.some.inj z).symm⟩
        · rw [if_neg hb2] at z; cases z
    · by_cases hb : b = a
      · have z' := (if_pos hb).symm.trans z
        cases z'
        subst hb
        exact ⟨ha, by rw [List.length_map]; exact hl, vs, _, rv, ha⟩
      · have z : (if b = a then _ else if b ∈ ts then some (HO.tbl #[]) else none) = some u := z
        rw [if_neg hb] at z
        by_cases hb2 : b ∈ ts
        · rw [if_pos hb2] at z; cases z
          exact (hts b hb2).1
        · rw [if_neg hb2] at z; cases z
/-- a def's own table, behind the top -/
theorem tab_of {p : Program} {loose : List Str} {mean : ExcName → Option Value} {K : PySem.W.Frag} {mg mb : Str → Option Value} {h : Heap} {x : Str} {f c P : Addr} {oc : Value} {od : Option Addr} {fd : FuncData} {sl : Array (Option Value)} (T : Top p loose mean mg mb h) (KX : K.In h)
    (hx : (recsOf p).any (fun d => d.name == x) = true) (ha : PySem.W.nsIn K mainGlobals x = some (some (.ref f))) (hl : K.lookup f = some ⟨oc, od, .func fd, sl⟩) (hc : fd.code = .ref c) (hd : PySem.W.codeHdIn K c P = true) :
    h.get? P = some (PySem.W.tabObj #[]) ∧ ∃ c, PySem.W.CodeHd h c P := by
  have C := PySem.W.codeHd_of_K KX hd
  obtain ⟨d, hd1, hd2⟩ := List.any_eq_true.mp hx
  have hd2 : d.name = x := eq_of_beq hd2
  obtain ⟨a, o, fd', c', P', h1, h2, h3, h4, _, h6⟩ := T.tab d hd1
  rw [hd2] at h1
  have e1 := h1.symm.trans (PySem.W.mg_of KX T.g ha)
  cases e1
  have e2 := h2.symm.trans (KX _ _ hl)
  cases e2
  cases h3
  rw [hc] at h4; cases h4
  refine ⟨?_, c, C⟩
  obtain ⟨⟨o1, vs1, g1, g2, g3, g4⟩, g5⟩ := h6
  obtain ⟨o2, vs2, _, _, _, _, _, _, _, k1, k2, k3, k4, _⟩ := C
  rw [g1] at k1; cases k1
  rw [g3] at k3; cases k3
  rw [g4] at k4; cases k4
  exact g5
theorem walk_T {l : PySem.W.OpenLaw} {n k : Nat} {q : Program} {loose : List Str} {XP : (Str → Option Value) → Heap → Prop} {YP : World → Heap → Prop} {d : DefRec} {K : Params → PySem.W.Frag} {CX : CXT} {sp : PySem.W.Frag → Addr → Addr → Sp} {x : Str} (x1 x2 : Str)
    (hn : l.most = some n) (hn2 : n ≤ sizeLine) (hdf : d.params.defaults = []) (hr : Room k callerA)
    (hx1 : (recsOf q).any (fun d => d.name == x1) = true) (hx2 : (recsOf q).any (fun d => d.name == x2) = true)
    (hY : ∀ (w : World) (h : Heap), YP w h → (K w.params).In h)
    (F : ∀ (w : World) (mg : Str → Option Value) (fa : Addr) (h : Heap), (K w.params).In h → h.Ns mainGlobals mg → mg d.name = some (.ref fa) →
      ∃ (fd : FuncData) (P1 P2 : Addr), (∀ (s : Shared) (u : Value), BindsTo s fd ⟨[u], []⟩ [(x, u)]) ∧ (K w.params).lookup P1 = none ∧ (K w.params).lookup P2 = none ∧
        (∃ f c oc od fd sl, PySem.W.nsIn (K w.params) mainGlobals x1 = some (some (.ref f)) ∧ (K w.params).lookup f = some ⟨oc, od, .func fd, sl⟩ ∧ fd.code = .ref c ∧ PySem.W.codeHdIn (K w.params) c P1 = true) ∧
        (∃ f c oc od fd sl, PySem.W.nsIn (K w.params) mainGlobals x2 = some (some (.ref f)) ∧ (K w.params).lookup f = some ⟨oc, od, .func fd, sl⟩ ∧ fd.code = .ref c ∧ PySem.W.codeHdIn (K w.params) c P2 = true) ∧
        ∀ base : Heap, (K w.params).In base → base.Ns mainGlobals mg → BMain mg base → FnOk l.prog w (K w.params) mg base CX k fa fd [x] (sp (K w.params) P1 P2))
    (hsp : ∀ (K : PySem.W.Frag) (P1 P2 : Addr) (H : Hp) (a : Addr) (ns : List Int), ns.length ≤ n → SqL K H a (ns.map V.int) → H P1 = some (.tbl #[]) → H P2 = some (.tbl #[]) → sp K P1 P2 [.ref a] H (fun v _ => v = .bl true) fun _ _ _ => False)
    (hCX : ∀ (H : Hp) (s : Shared) (e : Value) (s' : Shared), CX [] H s (fun _ _ _ => False) e s' → False) :
    PySem.W.WalkO q loose XP YP l.row.toRowW d [] (fun f vs => PySem.call f vs) := by
  refine Att.attach_call hn hdf fun w s₀ s₁ mg mb fa o pm cd doc a vs ns G Y ho hd hcd hmg hobj hints hlen hg => ?_
  have KX := hY w _ Y
  obtain ⟨fd, P1, P2, hb, n1, n2, ⟨f1, c1, oc1, od1, fd1, sl1, a1, l1, e1, d1⟩, ⟨f2, c2, oc2, od2, fd2, sl2, a2, l2, e2, d2⟩, hF⟩ := F w mg fa _ KX G.T.g hmg
  obtain ⟨bm, ob, b1, b2, b3, b4, b5, b6⟩ := G.T.bmain
  refine law_callT [P1, P2] (fun P hP => ?_) (fun P hP => ?_) ⟨bm, ob, b1, b2, b3, b4, b5, b6⟩ KX G.T.g G.T.b G.T.builtins G.T.nolimit hg hobj hints (Nat.le_trans hlen hn2) hr hF hb (fun H hS hT => hsp _ P1 P2 H a ns hlen hS (hT _ (by simp)) (hT _ (by simp))) fun H e s' => hCX H s₁ e s'
  · rcases (show P = P1 ∨ P = P2 by simpa using hP) with rfl | rfl
    · exact tab_of G.T KX hx1 a1 l1 e1 d1
    · exact tab_of G.T KX hx2 a2 l2 e2 d2
  · rcases (show P = P1 ∨ P = P2 by simpa using hP) with rfl | rfl
    · exact n1
    · exact n2
end L2

set_option linter.all false
namespace Mm
open PySem

/-! bits of natural numbers -/
theorem or_xor_and : ∀ (n a b : Nat), a ≤ n → (a ||| b) = (a ^^^ b) + (a &&& b)
  | 0, a, b, h => by
    have : a = 0 := by omega
    subst this
    simp
  | n + 1, a, b, h => by
    by_cases ha : a = 0
    · subst ha; simp
    · have ih := or_xor_and n (a / 2) (b / 2) (by omega)
      have e1 : (a ||| b) / 2 = a / 2 ||| b / 2 := Nat.or_div_two
      have e2 : (a ^^^ b) / 2 = a / 2 ^^^ b / 2 := Nat.xor_div_two
      have e3 : (a &&& b) / 2 = a / 2 &&& b / 2 := Nat.and_div_two
      have m1 : (a ||| b) % 2 = (a % 2 ||| b % 2) := by simpa using Nat.or_mod_two_pow (a := a) (b := b) (n := 1)
      have m2 : (a ^^^ b) % 2 = (a % 2 ^^^ b % 2) := by simpa using Nat.xor_mod_two_pow (a := a) (b := b) (n := 1)
      have m3 : (a &&& b) % 2 = (a % 2 &&& b % 2) := by simpa using Nat.and_mod_two_pow (a := a) (b := b) (n := 1)
      have d : ∀ x < 2, ∀ y < 2, (x ||| y) = (x ^^^ y) + (x &&& y) := by decide
      have dd := d (a % 2) (by omega) (b % 2) (by omega)
      omega
theorem bitAnd_nat (a b : Nat) : Builtin.bitAnd (a : Int) (b : Int) = ((a &&& b : Nat) : Int) := by
  rw [PyProof.Rows.bitAnd_pp (by omega) (by omega)]
  simp
theorem bitOr_nat (a b : Nat) : Builtin.bitOr (a : Int) (b : Int) = ((a ||| b : Nat) : Int) := by
  have ha : ¬ 0 ≤ Builtin.bitNot (a : Int) := by unfold Builtin.bitNot; omega
  have hb : ¬ 0 ≤ Builtin.bitNot (b : Int) := by unfold Builtin.bitNot; omega
  unfold Builtin.bitOr
  rw [PyProof.Rows.bitAnd_nn ha hb, PyProof.Rows.bitNot_bitNot, PyProof.Rows.bitNot_bitNot, PyProof.Rows.bitNot_bitNot]
  simp
theorem bitXor_nat (a b : Nat) : Builtin.bitXor (a : Int) (b : Int) = ((a ^^^ b : Nat) : Int) := by
  unfold Builtin.bitXor
  rw [bitOr_nat, bitAnd_nat]
  have := or_xor_and a a b (Nat.le_refl _)
  omega
theorem bits_nat {a m : Nat} (h : a < 2 ^ m) : (Builtin.Int.intBits (a : Int) : Nat) ≤ m := intBits_le_iff.mpr (by simpa using h)

/-! the number whose bits below N are p's -/
noncomputable def mk (p : Nat → Bool) : Nat → Nat
  | 0 => 0
  | N + 1 => mk p N + (if p N then 2 ^ N else 0)
theorem testBit_mod (s k : Nat) : s.testBit k = decide (s / 2 ^ k % 2 = 1) := by rw [Nat.testBit_eq_decide_div_mod_eq]

/-! the mask of a switch -/
noncomputable def sw (k n : Nat) : Nat := mk (fun s => s.testBit k) (2 ^ n)
end Mm

set_option Elab.async false
set_option linter.all false
set_option maxRecDepth 100000
set_option maxHeartbeats 4000000
namespace L2
open PySem PySem.Spec PyProof.Rows
section
variable {X : Cx}
/-! ### shifts of great numbers -/
noncomputable def CShl (i j : Int) : Prop := 0 ≤ j ∧ ∃ m : Nat, i.natAbs < 2 ^ m ∧ (m : Int) + j ≤ 2 ^ 27
theorem op_shlB : OpR X (binaryOp .LShift) (rI CShl fun i j => .int (i * 2 ^ j.toNat)) := opI fun i j _ _ _ _ _ hc q => by
  obtain ⟨h0, m, hm, hs⟩ := hc
  have hb : (Builtin.Int.intBits i : Nat) ≤ m := intBits_le_iff.mpr hm
  exact lshift_int h0 (by omega) q
/-! ### isinstance(x, T), T a built-in type -/
theorem call_isinst {n : String} : CallR X (.builtin "isinstance") (fun xs H Q => ∃ x t b, xs = [x, .ty n] ∧ TyOf X.K H x t ∧ PySem.W.kitOne X.K t (.type n) = some b ∧ Q (.bl b) H) := by
  intro pins s σ H xs us Q I r h
  obtain ⟨x, t, b, rfl, ty, e, q⟩ := h
  obtain ⟨u, w', rfl, rx, rw'⟩ := vals2 r
  cases (show w' = Value.type n from rw')
  exact isinst_ok I rx ty e fun tk => ⟨.bl b, H, I.tok _, rfl, q⟩
end
theorem bt_len : bootBuiltins "len" = some (.builtin "len") := by decide +kernel
theorem bt_isi : bootBuiltins "isinstance" = some (.builtin "isinstance") := by decide +kernel
theorem bt_int : bootBuiltins "int" = some (.type "int") := by decide +kernel
theorem ix_listK {X : Cx} {K : PySem.W.Frag} (h : X.K = K) : IxR X (rIxL K) := by subst h; exact ix_list
theorem pow2 (k : Nat) : (2 : Int) ^ k = ((2 ^ k : Nat) : Int) := by simp
end L2

set_option Elab.async false
set_option linter.all false
set_option maxRecDepth 100000
set_option maxHeartbeats 4000000
namespace L2
open PySem PySem.Spec PyProof.Rows
section
variable {X : Cx}
/-! ### n.bit_length() -/
theorem mt_bitlen : MtR X "int.bit_length" (fun x xs H Q => ∃ i, x = .int i ∧ xs = [] ∧ Q (.int ((Builtin.Int.intBits i : Nat) : Int)) H) := by
  intro pins s σ H x xs v us Q I rx rs h
  obtain ⟨i, rfl, rfl, q⟩ := h
  obtain ⟨t, rfl⟩ := rx
  cases rs
  exact call_int_bit_length ⟨.int _, H, I.tok _, ⟨_, rfl⟩, q⟩
/-! ### two lists of ints, compared -/
/-! ### all([..]) of truths -/
/-! ### range(lo, hi, step) -/
end
theorem bt_list : bootBuiltins "list" = some (.type "list") := by decide +kernel
end L2

set_option Elab.async false
set_option linter.all false
set_option maxRecDepth 100000
set_option maxHeartbeats 4000000
namespace L2
open PySem PySem.Spec PyProof.Rows
section
variable {X : Cx}
/-! ### text[lo:hi] -/
/-! ### find, index -/
/-! ### for-loops over n things that hang on nothing -/
end
end L2

namespace PySem.F
end PySem.F

set_option Elab.async false
set_option linter.all false
set_option maxRecDepth 100000
set_option maxHeartbeats 4000000
namespace PySem
section
variable {prog : Program} {w : World} {A : Around} {E : Value → Shared → Prop} {s : Shared}
noncomputable def Heap.IsRevS (h : Heap) (a : Addr) (x : Str) (t : Tok) (i : Int) : Prop := ∃ o, h.get? a = some o ∧ o.cls = .type "reversed" ∧ o.data = .fields #[.str x t, rawInt i]
theorem Heap.IsRevS.typeIs {a : Addr} {x : Str} {t : Tok} {i : Int} (y : s.heap.IsRevS a x t i) : s.TypeIs (.ref a) "reversed" := by obtain ⟨o, ho, hc, _⟩ := y; exact ⟨o, ho, hc⟩
theorem Heap.IsRevS.at {h h' : Heap} {a : Addr} {x : Str} {t : Tok} {i : Int} (y : h.IsRevS a x t i) (e : ∀ o, h.get? a = some o → h'.get? a = some o) : h'.IsRevS a x t i := by obtain ⟨o, ho, r⟩ := y; exact ⟨o, e _ ho, r⟩
end
end PySem

namespace L2
open PySem PySem.Spec PyProof.Rows
/-! ### for c in reversed(text) -/
section
variable {X : Cx} {tg : Expr}
end
end L2

set_option Elab.async false
set_option linter.all false
set_option maxRecDepth 100000
set_option maxHeartbeats 4000000
namespace L2
open PySem PySem.Spec PyProof.Rows
/-! ### a dict of the module: texts to ints; read alone -/
structure KDict (P : Program) (w : World) (K : PySem.W.Frag) (a : Addr) (kvs : List (Str × Int)) : Prop where
  ns : (a == sysModules) = false
  ob : ∃ (o : Obj) (vs : List (Key × Value)), K.lookup a = some o ∧ o.cls = .type "dict" ∧ o.dict = none ∧ (∀ h : Heap, h.get? a = some o → h.DictOf (mixKind P w) a vs) ∧
    ∀ k : Str, (∀ i, kvs.lookup k = some i → ∃ t, valueAt vs (Sum.inr k : Key) = some (.int i t)) ∧ (kvs.lookup k = none → valueAt vs (Sum.inr k : Key) = none)
section
variable {X : Cx} {a : Addr} {kvs : List (Str × Int)} {x : Str} {p pos apos cpos : Pos} {e f : Expr} {ty tx : TE}
theorem KDict.here {pins : List (Addr × Obj)} {σ : St} {H : Hp} {s : Shared} (D : KDict X.prog X.w X.K a kvs) (I : Inv X pins σ H s) :
    ∃ vs : List (Key × Value), s.heap.DictOf (mixKind X.prog X.w) a vs ∧ (∀ b, Value.ref a = .ref b → ∃ ob, s.heap.get? b = some ob ∧ ob.dict = none) ∧
      ∀ k : Str, (∀ i, kvs.lookup k = some i → ∃ t, valueAt vs (Sum.inr k : Key) = some (.int i t)) ∧ (kvs.lookup k = none → valueAt vs (Sum.inr k : Key) = none) := by
  obtain ⟨o, vs, hk, hc, hd, hh, hv⟩ := D.ob
  have e := I.kIn a o hk
  exact ⟨vs, hh _ e, fun b q => by cases q; exact ⟨o, e, hd⟩, hv⟩
end
end L2

set_option Elab.async false
set_option linter.all false
set_option maxRecDepth 100000
set_option maxHeartbeats 4000000
namespace L2
open PySem PySem.Spec PyProof.Rows
section
variable {X : Cx}
/-! ### range(n) as a thing, list(range(n)) -/
/-! ### isinstance(x, C), C an own class -/
theorem call_isinstC : CallR X (.builtin "isinstance") (fun xs H Q => ∃ x t C b, xs = [x, .ref C] ∧ TyOf X.K H x t ∧ PySem.W.kitOne X.K t (.ref C) = some b ∧ Q (.bl b) H) := by
  intro pins s σ H xs us Q I r h
  obtain ⟨x, t, C, b, rfl, ty, e, q⟩ := h
  obtain ⟨u, w', rfl, rx, rw'⟩ := vals2 r
  cases (show w' = Value.ref C from rw')
  exact isinst_ok I rx ty e fun tk => ⟨.bl b, H, I.tok _, rfl, q⟩
end
end L2

set_option Elab.async false
set_option linter.all false
set_option maxRecDepth 100000
set_option maxHeartbeats 4000000
namespace L2
open PySem PySem.Spec PyProof.Rows
/-! ### f'{e!r}..': some text -/
section
variable {X : Cx}
end
/-! ### an exception that leaves a def -/
/-- a def's body, not a comprehension's block -/
structure Body (X : Cx) : Prop where
  ex : X.ex = []
  stk : X.stack = X.env :: X.outer
  frm : X.env.frame = some X.env.locals
  fn : ∀ x, X.fn x = true
theorem Body.wish {X : Cx} (b : Body X) (E : Value → Shared → Prop) : Body (X.wish E) := ⟨b.ex, b.stk, b.frm, b.fn⟩
section
variable {X : Cx} {pins : List (Addr × Obj)} {σ : St} {H H' : Hp} {s s' : Shared} {B h'' : Heap}
theorem Body.frs (b : Body X) : frs X.stack = X.env.locals :: X.fs := by
  show List.filterMap _ _ = _
  rw [b.stk]
  simp [b.frm, Cx.fs, L2.frs]
theorem Body.old (b : Body X) (I : Inv X pins σ H s) {c : Addr} {o : Obj} (e : X.s₀.heap.get? c = some o) (hc : c ∉ X.fs) : c ∉ L2.frs X.stack := by
  rw [b.frs]
  intro hm
  rcases List.mem_cons.mp hm with z | z
  · exact absurd (Nat.lt_of_lt_of_le (Heap.lt_size e) I.ok.above) (by rw [z]; exact Nat.lt_irrefl _)
  · exact hc z
theorem Body.cell (b : Body X) (I : Inv X pins σ H s) {x : Str} {c : Addr} (e : X.env.cells.lookup x = some c) : c ∉ L2.frs X.stack := by
  rw [b.frs]
  intro hm
  rcases List.mem_cons.mp hm with z | z
  · exact I.cne x c e z
  · obtain ⟨o, ho, _⟩ := (I.ok.funs.mem (show c ∈ X.outer.filterMap (·.frame) from z)).2
    exact absurd (Nat.lt_of_lt_of_le (Heap.lt_size ho) (I.ok.cab x c (b.fn x) e)) (Nat.lt_irrefl _)
end
section
variable {P : Program} {w : World} {K : PySem.W.Frag} {mg : Str → Option Value} {base : Heap} {N : List Str} {qual : Str} {scope : Scope} {f : Addr} {cd : Value} {A : Around} {outer : List Env} {s₀ : Shared} {H₀ : Hp} {E : XK}
/-! ### a def that may raise -/
end
/-! ### raise C(..), C an own class of exceptions without an __init__ of its own -/
section
variable {X : Cx}
end
end L2

set_option Elab.async false
set_option linter.all false
set_option maxRecDepth 100000
set_option maxHeartbeats 4000000
namespace L2
open PySem PySem.Spec PyProof.Rows
/-! ### isinstance of an exception: only its class is known -/
section
variable {prog : Program} {w : World} {A : Around} {E : Value → Shared → Prop} {s : Shared} {K : PySem.W.Frag} {x D : Addr} {name : Str}
structure XCls (K : PySem.W.Frag) (D : Addr) : Prop where
  hg : PySem.W.findIn K (.ref D) "__getattribute__" = some (some (.builtin "BaseException.__getattribute__"))
  hk : PySem.W.findIn K (.ref D) "__getattr__" = some none
  hb : PySem.W.mroIn K D (.type "BaseException") = some true
  ha : PySem.W.findIn K (.ref D) "__class__" = some (some (.builtin "object.__class__"))
  hn : PySem.W.specialIn K (.builtin "object.__class__") "__get__" = some (some (.builtin "getset_descriptor.__get__"))
  ht : PySem.W.takesIn K (.builtin "object.__class__") = some true
  hm : PySem.W.mroIn K D (.type "object") = some true
theorem XCls.hc (c : XCls K D) : (PySem.W.clsIn K D).isSome = true := by
  have q := c.hm
  unfold PySem.W.mroIn at q
  cases h : PySem.W.clsIn K D with
  | none => rw [h] at q; cases q
  | some _ => rfl
noncomputable def HasCls (a : Addr) (cls : Value) (h : Heap) : Prop := ∃ o, h.get? a = some o ∧ o.cls = cls
open PySem.W in
theorem HasCls.type {M : Model} {h : Heap} {cls : Value} (p : HasCls x cls h) : Looks M h (typeOf (.ref x)) cls := by
  obtain ⟨o, h1, h2⟩ := p
  exact h2 ▸ (Looks.ld h1).andThen .now
open PySem.W PySem.Calls Builtin Builtin.ObjectAttr Builtin.Getset_descriptor in
theorem xc_get {R : Result → Shared → Prop} {tp : Value} (X : K.In s.heap) (I : HasCls x (.ref D) s.heap) (hm : mroIn K D (.type "object") = some true)
    (h : R (.ok (.ret (.ref D))) s) : codeAny (model prog w) A (.call (.builtin "getset_descriptor.__get__") ⟨[.builtin "object.__class__", .ref x, tp], []⟩) R s := by
  obtain ⟨hh, g, dr, t, os⟩ := s
  have L0 := I.type (M := model prog w)
  have L1 := looks_mroIn (M := model prog w) X hm
  refine codeAny_call_builtin KF.slot_gs.plain KF.entry_gs (KF.slot_gs.check _ _ _ _ _ _ _ _ KF.type_class (KF.args_gs _ _ _) ?_)
  unfold Builtin.«getset_descriptor.__get__» descrGet
  rw [dga_obj]
  refine wpAny_bind (wpAny_pure ?_)
  unfold descrGetter descrCheckInstance descrNameAndClass isInstance
  simp only [KF.owner_class]
  repeat lk
  refine ⟨Code.quiet_builtin _ (by decide +kernel), codeAny_builtin KF.entry_class ?_⟩
  unfold Builtin.«object.__class__» shownTypeOf
  repeat lk
  exact h
open PySem.W PySem.Calls Builtin Builtin.ObjectAttr in
theorem xc_entry {tk : Tok} {Q : Fin → Shared → Prop} (c : XCls K D) (X : K.In s.heap) (I : HasCls x (.ref D) s.heap) (hq : Q (.done (.ret (.ref D))) s) :
    wpAny (model prog w) A (Builtin.«object.__getattribute__» ⟨[.ref x, .str "__class__" tk], []⟩) Q E s := by
  obtain ⟨hh, gg, d, t, os⟩ := s
  have L0 := I.type (M := model prog w)
  have L1 : Looks (model prog w) hh (find (.ref x) (.ref D) "__class__") (.bind (.builtin "getset_descriptor.__get__") (.builtin "object.__class__")) := by
    have L3 := looks_takesIn (M := model prog w) X c.ht
    exact (looks_findIn X c.ha).andThen ((show Looks (model prog w) hh (getOf (some (.builtin "object.__class__"))) (some (.builtin "getset_descriptor.__get__")) from looks_specialIn X c.hn).andThen ((show Looks (model prog w) hh (dataDescriptor? (some (.builtin "object.__class__")) (some (.builtin "getset_descriptor.__get__"))) (some (.builtin "getset_descriptor.__get__", .builtin "object.__class__")) from L3.andThen .now).andThen (Looks.tag .now)))
  refine wpAny_bind (wpAny_pure (wpAny_bind (wpAny_pure (wpAny_bind (L0.at (wpAny_bind (L1.at ?_)))))))
  show wpAny _ _ (holding [Value.builtin "object.__class__"] (call (.builtin "getset_descriptor.__get__") [.builtin "object.__class__", .ref x, .ref D]) >>= ret) _ _ _
  exact wpAny_bind (wpAny_holding (wpAny_call (xc_get (s := ⟨hh, gg, d, t, os⟩) X I c.hm (wpAny_pure hq))))
open PySem.W PySem.Calls in
theorem xc_check {M : Model} {nameV : Value} {Q : Unit → Shared → Prop} (c : XCls K D) (X : K.In s.heap) (I : HasCls x (.ref D) s.heap) (hq : Q () s) : wpAny M A (checkBuiltinCall "BaseException.__getattribute__" ⟨[.ref x, nameV], []⟩) Q E s := by
  have hk : builtinKind "BaseException.__getattribute__" = some .slot := by decide +kernel
  have hsplit : splitId "BaseException.__getattribute__" = some ("BaseException", "__getattribute__") := by decide +kernel
  have ha := F.args_bexc_ga (.ref x) nameV
  obtain ⟨hh, gg, d, t, os⟩ := s
  have L0 := I.type (M := M)
  have L1 := looks_mroIn (M := M) X c.hb
  have L2 : Looks M hh (isInstance (.ref x) (.type "BaseException")) true := L0.andThen L1
  simp only [checkBuiltinCall, hk, hsplit]
  refine wpAny_bind (L2.at ?_)
  repeat (first | exact hq | wp_step)
open PySem.W PySem.Calls in
theorem xc_class {Q : Option Value → Shared → Prop} (c : XCls K D) (X : K.In s.heap) (I : HasCls x (.ref D) s.heap) (h : Q (some (.ref D)) { s with toks := s.toks + 1 }) : wpAny (model prog w) A (getAttr? (.ref x) "__class__") Q E s := by
  obtain ⟨hh, g, d, t, os⟩ := s
  have L0 := I.type (M := model prog w)
  have L1 := looks_findIn (M := model prog w) X c.hg
  have L2 := looks_findIn (M := model prog w) X c.hk
  unfold getAttr? getAttrBy? getAttrBy
  refine wpAny_bind (wpAny_mkText (wpAny_bind (wpAny_attempt (wpAny_holding (wpAny_bind (L0.at (wpAny_bind (L1.at ?_))))))))
  show wpAny _ _ (getAttrByItsOwn _ _ _ _ _ _) _ _ _
  unfold getAttrByItsOwn
  refine wpAny_bind ((show Looks (model prog w) hh (hookBefore (.ref D)) none from L2).at ?_)
  refine wpAny_bind (wpAny_attempt (wpAny_holding ?_))
  show wpAny _ _ (boundAndCalled _ _ _) _ _ _
  unfold boundAndCalled
  rw [F.excAttr_ValueError.ga.bind]
  refine wpAny_bind (wpAny_pure ?_)
  refine wpAny_call (codeAny_call_builtin F.excAttr_ValueError.ga.plain F.entry_bexc_ga (xc_check (s := ⟨hh, g, d, t + 1, os⟩) c X I (xc_entry (s := ⟨hh, g, d, t + 1, os⟩) c X I ?_)))
  refine handed_on rfl ?_
  exact wpAny_pure h
open PySem.W in
theorem kitx_exc (c : XCls K D) : KitX K (.ref x) (.ref D) (HasCls x (.ref D)) where
  ty := fun _ _ _ I => I.type
  it := fun _ _ X _ => by
    have hcD := c.hc
    unfold clsIn at hcD
    split at hcD
    · rename_i c' d' cd' sl' ho
      intro A' Q' E' s' k q
      unfold isType loadHead
      exact wpAny_bind (wpAny_loadPart (k _ _ (X _ _ ho)) (wpAny_pure q))
    · cases hcD
  ne := fun h tp dd its n sl X htp => by
    have hcD := c.hc
    refine Bool.eq_false_iff.mpr fun q => ?_
    have e : D = tp := Value.ref.inj (beq_iff_eq.mp q)
    subst e
    unfold clsIn at hcD
    split at hcD
    · rename_i c' d' cd' sl' ho
      have z := (X _ _ ho).symm.trans htp
      cases z
    · cases hcD
  ca := fun X I k => xc_class c X I k
end
/-- a caught exception, of which the class is known -/
noncomputable def excO (a : Addr) (cls : Value) : HO := .ext (HasCls a cls)
section
variable {X : Cx}
theorem exc_has {pins : List (Addr × Obj)} {σ : St} {H : Hp} {s : Shared} {a : Addr} {cls : Value} (I : Inv X pins σ H s) (e : H a = some (excO a cls)) : HasCls a cls s.heap := (show ObjOk X.prog X.w H s.heap a (.ext (HasCls a cls)) from I.hok a _ e).1
/-- isinstance(e, C): C an own class -/
theorem call_isexcC {K : PySem.W.Frag} (hK : X.K = K) : CallR X (.builtin "isinstance") (fun xs H Q => ∃ a D C b, xs = [.ref a, .ref C] ∧ H a = some (excO a (.ref D)) ∧ XCls K D ∧ PySem.W.kitOne K (.ref D) (.ref C) = some b ∧ Q (.bl b) H) := by
  subst hK
  intro pins s σ H xs us Q I r h
  obtain ⟨a, D, C, b, rfl, ha, c, e, q⟩ := h
  obtain ⟨u, w', rfl, rx, rw'⟩ := vals2 r
  cases (show w' = Value.ref C from rw')
  cases (show u = Value.ref a from rx)
  exact PySem.W.kia_one (kitx_exc c) I.kIn (exc_has I ha) e (fun z => nomatch z) fun tk => ⟨.bl b, H, I.tok _, rfl, q⟩
/-- isinstance(e, T): T a built-in type -/
theorem call_isexcT {n : String} {K : PySem.W.Frag} (hK : X.K = K) : CallR X (.builtin "isinstance") (fun xs H Q => ∃ a D b, xs = [.ref a, .ty n] ∧ H a = some (excO a (.ref D)) ∧ XCls K D ∧ PySem.W.kitOne K (.ref D) (.type n) = some b ∧ Q (.bl b) H) := by
  subst hK
  intro pins s σ H xs us Q I r h
  obtain ⟨a, D, b, rfl, ha, c, e, q⟩ := h
  obtain ⟨u, w', rfl, rx, rw'⟩ := vals2 r
  cases (show w' = Value.type n from rw')
  cases (show u = Value.ref a from rx)
  exact PySem.W.kia_one (kitx_exc c) I.kIn (exc_has I ha) e (fun z => nomatch z) fun tk => ⟨.bl b, H, I.tok _, rfl, q⟩
end
/-! ### an expression that may raise, at known local names -/
section
variable {X : Cx} {CX : CXT} {k : Nat} {f C : Addr} {fd : FuncData} {ps : List Str} {sp : Sp} {dvs : List V} {ds : List Value} {x m : Str} {p pos apos : Pos} {e o : Expr} {es : List Expr} {ta : TE} {t : TA}
end
/-! ### try: e except C as n: suite -/
/-- the suite of an except clause: an exception is at hand, none leaves -/
noncomputable abbrev Cx.hnd (X : Cx) (ea : Addr) : Cx := { X with A := X.A.mark (some (.ref ea)), calm := false, xe := fun _ _ => False }
section
variable {X : Cx} {pins : List (Addr × Obj)} {σ : St} {H : Hp} {s : Shared}
theorem Cx.Ok.hnd (ok : X.Ok) (ea : Addr) : (X.hnd ea).Ok :=
  ⟨ok.mod, ok.kind, ok.glob, ok.blt, ok.above, ok.inj, ok.has, ok.cab, (fun z => nomatch z), ok.frames, ok.stk, ok.exf, ok.bs, ok.bsz, ok.noex, ok.exfs, ok.funs, ok.frf⟩
theorem Inv.hnd (I : Inv X pins σ H s) (ea : Addr) : Inv (X.hnd ea) pins σ H s := ⟨I.ok.hnd ea, I.os, I.bare, I.base, I.loc, I.cell, I.free, I.freeC, I.pin, I.hok, I.len⟩
end
section
variable {X : Cx}
end
end L2

set_option Elab.async false
set_option linter.all false
set_option maxRecDepth 100000
set_option maxHeartbeats 4000000
namespace L2
open PySem PySem.Spec PyProof.Rows
/-! ### a body that may raise while the local names stand as at its start -/
section
variable {X : Cx} {CX : CXT} {e : Expr} {te : XK → TE} {pos : Pos}
end
/-! ### o.m(..) that may raise -/
section
variable {X : Cx} {CX : CXT} {k : Nat} {f C : Addr} {fd : FuncData} {ps : List Str} {sp : Sp} {dvs : List V} {ds : List Value} {x m : Str} {p pos apos : Pos} {e o : Expr} {es : List Expr} {ta : TE} {t : TA}
end
/-! ### try: body except C as n: suite -/
section
variable {X : Cx}
end
end L2

set_option Elab.async false
set_option linter.all false
set_option maxRecDepth 100000
set_option maxHeartbeats 4000000
namespace L2
open PySem PySem.Spec PyProof.Rows
/-! ### comprehensions whose target is any one (a tuple of names) -/
theorem cmp_loop2 {prog : Program} {w : World} {A : Around} {R : Result → Shared → Prop} {s : Shared} {elt iter : Expr} {tg : Expr} {ifs : List Expr} {sc : Scope} {pos : Pos} {it acc : Value} {env : Env} (J : Nat → Shared → Prop)
    (one : ∀ k st, J k st → wpAny (model prog w) A (pyNext it) (fun r s₁ => match r with
      | none => R (.ok .next) s₁
      | some v => wpAny (model prog w) A (letOwnedTupleGo tg it v) (fun _ sg => wpAny (model prog w) A (assign tg env v) (fun _ s₂ =>
          wpAny (model prog w) A (cmpTests ifs env) (fun ok s₃ =>
            if ok = true then wpAny (model prog w) A (eval elt env) (fun y s₄ => wpAny (model prog w) A (call (.builtin "list.append") [acc, y]) (fun _ s₅ => ∃ m, m < k ∧ J m s₅) (fun _ _ => False) s₄) (fun _ _ => False) s₃
            else ∃ m, m < k ∧ J m s₃) (fun _ _ => False) s₂) (fun _ _ => False) sg) (fun _ _ => False) s₁) (fun _ _ => False) st)
    (k0 : Nat) (h0 : J k0 s) : codeAny (model prog w) A (.compLoop (.ListComp elt [⟨tg, iter, ifs, 0⟩] sc pos) 0 it acc env) R s := by
  refine codeAny_loop rfl J (fun k st hk => ?_) k0 h0
  show wpAny _ A ((compTurn (.ListComp elt [⟨tg, iter, ifs, 0⟩] sc pos) 0 it acc env).onRaise (fun y => do noteFrame y env; theTreesLotGoes y)) _ _ st
  refine wpAny_noted ?_
  rw [compTurn_list]
  refine wpAny_bind (wpAny_standAt (wpAny_bind (wpAny_mono (one k st hk) (fun r s₁ h₁ => ?_) fun _ _ z => z.elim)))
  cases r with
  | none => exact wpAny_pure h₁
  | some v =>
    refine wpAny_bind (wpAny_mono h₁ (fun _ sg hg => ?_) fun _ _ z => z.elim)
    refine wpAny_bind (wpAny_mono hg (fun _ s₂ h₂ => ?_) fun _ _ z => z.elim)
    refine wpAny_bind (wpAny_mono h₂ (fun ok s₃ h₃ => ?_) fun _ _ z => z.elim)
    cases ok with
    | false => exact wpAny_pure ⟨rfl, h₃⟩
    | true =>
      refine wpAny_bind (wpAny_bind (wpAny_mono h₃ (fun y s₄ h₄ => ?_) fun _ _ z => z.elim))
      exact wpAny_bind (wpAny_mono h₄ (fun _ s₅ h₅ => wpAny_pure (wpAny_pure ⟨rfl, h₅⟩)) fun _ _ z => z.elim)


structure CompSc2 (scX sc : Scope) (NX : List Str) (xs : List Str) (fv : List Str) (js : List Nat) : Prop where
  kind : sc.kind = .function
  kindX : scX.kind = .function
  cell : ∀ y ∈ sc.names, y.2 ≠ .cell
  own : ∀ x ∈ xs, sc.names.lookup x = some .local
  names : ∀ y ∈ sc.names, y.2 = .local → sc.names.lookup y.1 = some .local
  free : ∀ y ∈ sc.names, y.2 = .free → scX.names.lookup y.1 = some .cell
  nd : (xs ++ fv).Nodup
  at' : js.map (fun j => NX[j]?) = fv.map some
  fr : ∀ y ∈ fv, sc.names.lookup y = some .free
noncomputable abbrev xc2 (X : Cx) (sc : Scope) (xs : List Str) (fv : List Str) (C : Addr) (s0 : Shared) (H0 : Hp) (ex : List Addr) : Cx :=
  { X with N := xs ++ fv, s₀ := s0, H₀ := H0, env := compEnvC sc (clOf X.env.cells sc.names []) C X.env, outer := X.stack, ex := ex, fn := fun _ => false, pn := [], xe := fun _ _ => False }
noncomputable def tStep2 (k : Nat) (js : List Nat) (g : TG) (tt : TT) (te : TE) (σ : St) (ys : List V) (N : List V → Hp → Prop) (x : V) (H' : Hp) : Prop :=
  ∀ os : List (Option V), os.length = k → g x (os ++ pick js σ) H' fun σ6 H6 => (∃ os' : List (Option V), os'.length = k ∧ σ6 = os' ++ pick js σ) ∧
    tt σ6 H6 fun b H2 => if b = true then te σ6 H2 fun y H3 => ys.length < sizeLine ∧ N (ys ++ [y]) H3 else N ys H2
noncomputable def tCompB2 (J : It) (k : Nat) (js : List Nat) (g : TG) (tt : TT) (te : TE) : TE := fun σ H1 Q => ∃ W : Nat → Nat → List V → Hp → Prop, (∃ m, W 0 m [] H1) ∧ ∀ i m ys H, W i m ys H →
  (J.stop i H ∧ ∀ p, H p = none → Q (.ref p) (upd H p (.lst ys))) ∨
  (J.go i H ∧ ∃ N : List V → Hp → Prop, (∀ ys' H', N ys' H' → ∃ m', m' < m ∧ W (i + 1) m' ys' H') ∧ ∀ x H', J.yld i H x H' → tStep2 k js g tt te σ ys N x H')
noncomputable def tComp2 (wi : TI) (k : Nat) (js : List Nat) (g : TG) (tt : TT) (te : TE) : TE := fun σ H Q => wi σ H fun J H1 => tCompB2 J k js g tt te σ H1 Q
section
variable {X : Cx} {pins : List (Addr × Obj)} {σ : St} {H2 : Hp} {s2 : Shared} {elt iter tg : Expr} {xs : List Str} {ifs : List Expr} {sc scX : Scope} {pos : Pos} {fv : List Str} {js : List Nat} {g : TG} {tt : TT} {te : TE}

theorem comp_core2 (S : CompSc2 scX sc X.N xs fv js) (hsx : X.env.scope = scX) (hcalm : X.calm = true) (hgg : ∀ C s0 H0 ex, PG (xc2 X sc xs fv C s0 H0 ex) tg g)
    (ht : ∀ C s0 H0 ex, PIf (xc2 X sc xs fv C s0 H0 ex) ifs tt) (he : ∀ C s0 H0 ex, PE (xc2 X sc xs fv C s0 H0 ex) elt te)
    {it : Addr} {fp : List Addr} {tn : Nat → Heap → Prop} {J : It} (I2 : Inv X pins σ H2 s2) (T : Turn X.prog X.w X.K tg J fp it tn) (st2 : tn 0 s2.heap) (f2 : ∀ b ∈ fp, FpOk X pins H2 b)
    {Q : VK} {W : Nat → Nat → List V → Hp → Prop} (w0 : ∃ m, W 0 m [] H2)
    (step : ∀ i m ys H, W i m ys H → (J.stop i H ∧ ∀ p, H p = none → Q (.ref p) (upd H p (.lst ys))) ∨
      (J.go i H ∧ ∃ N : List V → Hp → Prop, (∀ ys' H', N ys' H' → ∃ m', m' < m ∧ W (i + 1) m' ys' H') ∧
        ∀ x H', J.yld i H x H' → tStep2 xs.length js g tt te σ ys N x H'))
    {RR : Value → Addr → Result → Shared → Prop} {E : Value → Shared → Prop}
    (fin : ∀ (D C : Addr) (s' : Shared) (H' : Hp), Inv X pins σ H' s' → Q (.ref D) H' → (∃ m, s'.heap.Ns C m) → FpOk X pins H' C → RR (.ref D) C (.ok .next) s') :
    wpAny (model X.prog X.w) X.A (newList []) (fun acc s₃ => wpAny (model X.prog X.w) X.A (newFunctionEnv sc X.env.globals (clOf X.env.cells sc.names []) [] X.env.qual none .none (some X.env)) (fun cenv s₄ =>
      codeAny (model X.prog X.w) X.A (.compStart (.ListComp elt [⟨tg, iter, ifs, 0⟩] sc pos) 0 (.ref it) acc { cenv with scope := relabel sc X.env }) (RR acc cenv.locals) s₄) E s₃) E s2 := by
  have hfree : ∀ y ∈ sc.names, y.2 = .free → ∃ c, X.env.cells.lookup y.1 = some c := fun y hy hf => I2.ok.has y.1 (.inl (by show X.env.scope.names.lookup y.1 = _; rw [hsx]; exact S.free y hy hf))
  obtain ⟨cl1, _, cl3⟩ := clOf_look (cells := X.env.cells) sc.names [] hfree (fun y c h => by simp at h)
  refine wpAny_newObj_type (wpAny_newFunctionEnv S.cell (by intro y hy; simp at hy) (fun h₁ hns₁ hsb₁ => ?_) S.kind)
  dsimp only at hns₁ hsb₁ ⊢
  generalize hG : s2.heap.push { cls := .type "list", dict := none, data := .seq ([] : List Value).toArray } = G at hns₁ hsb₁ ⊢
  have hGz : G.objs.size = s2.heap.objs.size + 1 := by rw [← hG, Heap.size_push]
  have upG : ∀ b o, s2.heap.get? b = some o → G.get? b = some o := fun b o e => hG ▸ Heap.get?_push_of_some _ e
  have upH : ∀ b o, G.get? b = some o → h₁.get? b = some o := fun b o e => hsb₁.extBut b o (Nat.ne_of_lt (Heap.lt_size e)) (Heap.get?_push_of_some _ e)
  have ltD : ∀ b o, s2.heap.get? b = some o → b ≠ s2.heap.objs.size := fun b o e => Nat.ne_of_lt (Heap.lt_size e)
  have fpo : ∀ b ∈ fp, ∃ o, s2.heap.get? b = some o := fun b hb => by obtain ⟨o, e, _⟩ := T.obj 0 _ st2 b hb; exact ⟨o, e⟩
  have fpD : ∀ b ∈ fp, b ≠ s2.heap.objs.size := fun b hb => by obtain ⟨o, e⟩ := fpo b hb; exact ltD b o e
  have fpC : ∀ b ∈ fp, b ≠ G.objs.size := fun b hb => by obtain ⟨o, e⟩ := fpo b hb; exact Nat.ne_of_lt (Heap.lt_size (upG b o e))
  have cellO : ∀ y c, (clOf X.env.cells sc.names []).lookup y = some c → ∃ v, s2.heap.IsCell c v := fun y c e => I2.cell y c (cl1 y c e)
  have cellD : ∀ y c, (clOf X.env.cells sc.names []).lookup y = some c → c ≠ s2.heap.objs.size := fun y c e => by obtain ⟨v, q⟩ := cellO y c e; exact Nat.ne_of_lt q.lt
  have Dfs : s2.heap.objs.size ∉ frs X.stack := fun hb => by
    rcases List.mem_cons.mp (I2.stkSub _ hb) with z | z
    · exact absurd I2.lt (by rw [← z]; exact Nat.lt_irrefl _)
    · exact I2.nofs (Nat.le_refl _) z
  have fpfs : ∀ b ∈ fp, b ∉ frs X.stack := fun b hb hz => by
    obtain ⟨_, f1, f2', _⟩ := f2 b hb
    rcases List.mem_cons.mp (I2.stkSub _ hz) with z | z
    · exact f1 z
    · exact f2' z
  have HD : H2 s2.heap.objs.size = none := I2.hok.fresh (Nat.le_refl _)
  have HC : H2 G.objs.size = none := I2.hok.fresh (by rw [hGz]; exact Nat.le_succ _)
  have DC : s2.heap.objs.size ≠ G.objs.size := by rw [hGz]; exact Nat.ne_of_lt (Nat.lt_succ_self _)
  -- the block's context is right
  have okC : Cx.Ok (xc2 X sc xs fv G.objs.size { s2 with heap := G } H2 (s2.heap.objs.size :: fp)) := by
    refine ⟨I2.ok.mod, S.kind, I2.ok.glob, I2.ok.blt, Nat.le_refl _, fun y z c h1 h2 => I2.ok.inj y z c (cl1 _ _ h1) (cl1 _ _ h2), fun y hy => ?_, fun y c hfn _ => (by cases hfn), I2.ok.hd, I2.ok.frames, .inl rfl, fun b hb => ?_, fun b o e => ?_, ?_, fun b o e hb => ?_, fun b hb => ?_, ?_, I2.stkFree⟩
    · exact Option.isSome_iff_exists.mp (cl3 y (relabel_back S.cell hy))
    · rcases List.mem_cons.mp hb with z | z
      · subst z; exact ⟨DC, cellD⟩
      · refine ⟨fpC b z, fun y c e => ?_⟩
        obtain ⟨_, _, _, _, f4, _⟩ := f2 b z
        exact f4 y c (cl1 y c e)
    · exact ⟨upG b o (I2.bs b o e).1, (I2.bs b o e).2⟩
    · show X.base.objs.size ≤ G.objs.size
      rw [hGz]; exact Nat.le_succ_of_le (Nat.le_trans I2.ok.bsz I2.sz)
    · rcases List.mem_cons.mp hb with z | z
      · exact ltD b o (I2.bk b o e) z
      · obtain ⟨_, _, _, f3, _⟩ := f2 b z
        rcases f3 with q | q
        · exact I2.ok.noex b o e q
        · exact absurd (Nat.lt_of_lt_of_le (Heap.lt_size e) (Nat.le_trans I2.ok.bsz q)) (Nat.lt_irrefl _)
    · rcases List.mem_cons.mp hb with z | z
      · subst z; exact Dfs
      · exact fpfs b z
    · exact (I2.stack).of_keeps fun b o e _ => ⟨o, upG b o e, rfl⟩
  have lenC : ∀ os : List (Option V), os.length = xs.length → (os ++ pick js σ).length = (xs ++ fv).length := fun os ho => by
    have := congrArg List.length S.at'
    simp only [List.length_map] at this
    simp [pick, this, ho]
  have hacc : h₁.get? s2.heap.objs.size = some { cls := .type "list", dict := none, data := .seq ([] : List Value).toArray } := upH _ _ (hG ▸ Heap.get?_push_size _ rfl)
  have I4 : Inv (xc2 X sc xs fv G.objs.size { s2 with heap := G } H2 (s2.heap.objs.size :: fp)) [(s2.heap.objs.size, { cls := .type "list", dict := none, data := .seq ([] : List Value).toArray })] (xs.map (fun _ => none) ++ pick js σ) H2 { s2 with heap := h₁, toks := s2.toks + ([] : List (Str × Value)).length } := by
    refine ⟨okC, rfl, I2.bare, Un.kept upH, ⟨_, hns₁, fun i y v e1 e2 e3 => ?_⟩, fun y c e => ?_, HC, fun y c e => I2.freeC y c (cl1 y c e), fun p hp => ?_, I2.hok.kept fun b u e => upH b u (upG b u e), lenC _ (by simp)⟩
    · by_cases hix : i < xs.length
      · have : (xs.map (fun _ => (none : Option V)) ++ pick js σ)[i]? = some none := by
          rw [List.getElem?_append_left (by simpa using hix), List.getElem?_map, List.getElem?_eq_getElem hix]; rfl
        rw [this] at e2
        cases e2
      · obtain ⟨i', rfl⟩ : ∃ i', i = xs.length + i' := ⟨i - xs.length, by omega⟩
        have e1' : fv[i']? = some y := by
          have e1a : (xs ++ fv)[xs.length + i']? = some y := e1
          rw [List.getElem?_append_right (by omega), Nat.add_sub_cancel_left] at e1a
          exact e1a
        have e2' : (pick js σ)[i']? = some (some v) := by
          have e2a := e2
          rw [List.getElem?_append_right (by simp), List.length_map, Nat.add_sub_cancel_left] at e2a
          exact e2a
        have q := congrArg (fun l => l[i']?) S.at'
        simp only [List.getElem?_map, e1', Option.map_some] at q
        cases hj : js[i']? with
        | none => rw [hj] at q; cases q
        | some j =>
          rw [hj] at q
          have hj' : X.N[j]? = some y := Option.some.inj q
          unfold pick at e2'
          rw [List.getElem?_map, hj] at e2'
          have e2'' : (σ[j]?).getD none = some v := Option.some.inj e2'
          have e2b : σ[j]? = some (some v) := by
            cases hh : σ[j]? with
            | none => rw [hh] at e2''; cases e2''
            | some o => rw [hh] at e2''; exact congrArg some e2''
          have hm : y ∈ fv := List.mem_of_getElem? e1'
          have hcX : scX.names.lookup y = some .cell := S.free (y, .free) (PySem.mem_of_lookup (S.fr y hm)) rfl
          have kX : X.env.kindOf y = some .cell := by show X.env.scope.names.lookup y = _; rw [hsx]; exact hcX
          obtain ⟨m, hn, hl⟩ := I2.loc
          obtain ⟨u, r, lk⟩ := hl j y v hj' e2b (.inr (.inl kX))
          refine ⟨u, r, ?_⟩
          rcases lk with ⟨k, _⟩ | ⟨_, c, ec, z⟩
          · rw [kX] at k; cases k
          · refine .inr ⟨.inl (relabel_free (by rw [hsx]; exact S.kindX) (S.fr y hm) kX), c, ?_, ?_⟩
            · obtain ⟨c', ec'⟩ := Option.isSome_iff_exists.mp (cl3 y (PySem.mem_of_lookup (S.fr y hm)))
              have := cl1 y c' ec'
              rw [ec] at this; cases this
              exact ec'
            · obtain ⟨o, ho, hd⟩ := z
              exact ⟨o, upH c o (upG c o ho), hd⟩
    · obtain ⟨v, o, ho, hd⟩ := cellO y c e
      exact ⟨v, o, upH c o (upG c o ho), hd⟩
    · have hp' : p = (s2.heap.objs.size, { cls := .type "list", dict := none, data := .seq ([] : List Value).toArray }) := by simpa using hp
      subst hp'
      exact ⟨hacc, HD, DC, Dfs, fun v z => by cases z⟩
  have loop : codeAny (model X.prog X.w) X.A (.compLoop (.ListComp elt [⟨tg, iter, ifs, 0⟩] sc pos) 0 (.ref it) (.ref s2.heap.objs.size) (compEnvC sc (clOf X.env.cells sc.names []) G.objs.size X.env)) (RR (.ref s2.heap.objs.size) G.objs.size) { s2 with heap := h₁, toks := s2.toks + ([] : List (Str × Value)).length } := by
    obtain ⟨m0, w0⟩ := w0
    have fok : ∀ {H' : Hp} {o : Obj}, (∀ b ∈ fp, H' b = none) → ∀ b ∈ fp, FpOk (xc2 X sc xs fv G.objs.size { s2 with heap := G } H2 (s2.heap.objs.size :: fp)) [(s2.heap.objs.size, o)] H' b := fun {H' o} hn b hb => by
      refine ⟨hn b hb, fpC b hb, fpfs b hb, .inl (List.mem_cons_of_mem _ hb), fun y c e => ?_, fun p hp => ?_⟩
      · obtain ⟨_, _, _, _, f4, _⟩ := f2 b hb
        exact f4 y c (cl1 y c e)
      · have hp' : p = (s2.heap.objs.size, o) := by simpa using hp
        subst hp'
        exact (fpD b hb).symm
    refine cmp_loop2 (fun k st => ∃ (i : Nat) (ys : List V) (its : List Value) (n : Nat) (os : List (Option V)) (H' : Hp), os.length = xs.length ∧ Inv (xc2 X sc xs fv G.objs.size { s2 with heap := G } H2 (s2.heap.objs.size :: fp)) [(s2.heap.objs.size, { cls := .type "list", data := .seq its.toArray n })] (os ++ pick js σ) H' st ∧
      Vals ys its ∧ ys.length ≤ sizeLine ∧ tn i st.heap ∧ (∀ b ∈ fp, H' b = none) ∧ W i k ys H') ?_ m0
      ⟨0, [], [], _, xs.map (fun _ => none), H2, by simp, I4, .nil, Nat.zero_le _, T.keep _ _ _ st2 fun b _ o e => upH b o (upG b o e), fun b hb => (f2 b hb).1, w0⟩
    rintro k s3 ⟨i, ys, its, n, os, H3, hos, I3, rv, hz, st3, fr3, w3⟩
    rcases step i k ys H3 w3 with ⟨stop, q⟩ | ⟨go, N, hN, hgo⟩
    · refine thn (T.done (xc2 X sc xs fv G.objs.size { s2 with heap := G } H2 (s2.heap.objs.size :: fp)) rfl rfl rfl hcalm i _ s3 _ H3 _ I3 (fok fr3) st3 stop) fun r s4 hsl39 => ?_
      obtain ⟨hr, I4⟩ := hsl39
      subst hr
      obtain ⟨pD, pn, _, _, _⟩ := I4.pin _ (List.mem_append_right _ List.mem_cons_self)
      have B := I4.base
      have nD : ∀ b o, s2.heap.get? b = some o → b ∉ fp → b ∉ s2.heap.objs.size :: fp := fun b o e hx hm => (List.mem_cons.mp hm).elim (ltD b o e) hx
      have neH : ∀ b u, H2 b = some u → b ≠ s2.heap.objs.size := fun b u e z => by rw [z, HD] at e; cases e
      have JX : Inv X pins σ (upd H3 s2.heap.objs.size (.lst ys)) s4 := by
        refine I2.call' (ch := fp) I4.os ⟨fun b o e hn hb hx => B.keep b o (upG b o e) hn hb (nD b o e hx), fun b o e hn hb hx => B.slot b o (upG b o e) hn hb (nD b o e hx), fun b o e hn hx => ?_, fun b o e hx => B.there b o (upG b o e) (nD b o e hx), fun b xs e => ?_, fun b o u e => ?_, fun b ps e => ?_⟩ (fun b u e => ?_) I4.bare fun b hb => ?_
        · rw [upd_ne (ltD b o e)]; exact B.free b o (upG b o e) hn (nD b o e hx)
        · rw [upd_ne (neH b _ e)]; exact B.tups b xs e
        · rw [upd_ne (neH b _ e)]; exact B.frzs b o u e
        · rw [upd_ne (neH b _ e)]; exact B.tbls b ps e
        · by_cases hb : b = s2.heap.objs.size
          · subst hb
            rw [upd_same] at e; cases e
            exact ⟨hz, its, n, rv, pD⟩
          · rw [upd_ne hb] at e
            exact (I4.hok b u e).stay (fun _ _ _ z => z) (fun c z => by rw [upd_ne (ne_of_none z pn)]; exact z) fun c xs z => by rw [upd_ne (ne_of_none z pn)]; exact z
        · obtain ⟨_, f1, _, f3, f4, f5⟩ := f2 b hb
          exact ⟨f3, f1, f4, f5⟩
      refine fin _ _ s4 _ JX (q _ pn) (by obtain ⟨m, hm, _⟩ := I4.loc; exact ⟨m, hm⟩) (I2.fpOk (by rw [hGz]; exact Nat.le_succ _) ?_)
      rw [upd_ne DC.symm]; exact I4.free
    · refine thn (T.item (xc2 X sc xs fv G.objs.size { s2 with heap := G } H2 (s2.heap.objs.size :: fp)) rfl rfl rfl hcalm i _ s3 _ H3 _ I3 (fok fr3) st3 go) fun r s4 hsl40 => ?_
      obtain ⟨u, hr, h4⟩ := hsl40
      subst hr
      refine thn h4 fun _ s5 hsl41 => ?_
      obtain ⟨y, H5, I5, r5, y5, st5, fr5⟩ := hsl41
      have I5' := I5.pinned (fok fr5) (T.obj _ _ st5)
      refine thn (hgg _ _ _ _ _ s5 _ H5 y u _ I5' r5 (hgo y _ y5 os hos)) fun _ s6 hsl42 => ?_
      obtain ⟨σ6, H6, I6, ⟨os', hos', eσ⟩, q6⟩ := hsl42
      subst eσ
      refine thn (ht _ _ _ _ _ s6 _ _ _ I6 q6) fun b s7 hsl43 => ?_
      obtain ⟨H7, I7, q7⟩ := hsl43
      cases b with
      | false =>
        rw [if_neg Bool.false_ne_true] at q7 ⊢
        obtain ⟨m', hm, w7⟩ := hN ys H7 q7
        exact ⟨m', hm, i + 1, ys, its, n, os', H7, hos', I7.unpinned, rv, hz, T.keep _ _ _ st5 fun b hb o e => (I7.pin (b, o) (List.mem_append_right _ (List.mem_append_right _ (mem_pinsAt hb e)))).1, fun b hb => by
          obtain ⟨o, e, d⟩ := T.obj _ _ st5 b hb
          exact (I7.pin (b, o) (List.mem_append_right _ (List.mem_append_right _ (mem_pinsAt hb e)))).2.1, w7⟩
      | true =>
        rw [if_pos rfl] at q7 ⊢
        refine thn (he _ _ _ _ _ s7 _ H7 _ I7 q7) fun u8 s8 hsl44 => ?_
        obtain ⟨y8, H8, I8, r8, hl8, q8⟩ := hsl44
        obtain ⟨m', hm, w8⟩ := hN _ H8 q8
        obtain ⟨pD, pn, pC, pf, _⟩ := I8.pin _ (List.mem_append_right _ (List.mem_append_left _ List.mem_cons_self))
        refine wpAny_list_append_plain (items := its.toArray) ⟨n, pD⟩ (fun h9 hl9 sb9 => ?_) (by rw [List.size_toArray, ← rv.length]; exact Nat.le_of_lt hl8)
        have pinF : ∀ p ∈ pinsAt fp s5.heap, p ∈ [(s2.heap.objs.size, ({ cls := .type "list", data := .seq its.toArray n } : Obj))] ++ pinsAt fp s5.heap := fun p hp => List.mem_append_right _ hp
        have I8a := I8.pins_of (pins' := pinsAt fp s5.heap) fun p hp => I8.pin p (List.mem_append_right _ (pinF p hp))
        have I9 := I8a.turned (it := s2.heap.objs.size) (h' := h9) (t' := s8.toks) (fun b o hb e => (sb9.2 b hb).trans e) pn DC (.inl List.mem_cons_self) (fun y c e => cellD y c e) fun p hp => fpD p.1 (of_pinsAt (by simpa using hp)).1
        obtain ⟨n9, e9⟩ := hl9
        have e9' : h9.get? s2.heap.objs.size = some { cls := .type "list", data := .seq (its ++ [u8]).toArray n9 } := by
          rw [e9, show (its ++ [u8]).toArray = its.toArray.push u8 by simp]
        refine ⟨m', hm, i + 1, ys ++ [y8], its ++ [u8], n9, os', H8, hos', I9.pins_of fun p hp => ?_, rv.append (.cons r8 .nil), by rw [List.length_append]; exact hl8, T.keep _ _ _ st5 fun b hb o e => (I9.pin (b, o) (List.mem_append_right _ (mem_pinsAt hb e))).1, fun b hb => ?_, w8⟩
        · have hp' : p = (s2.heap.objs.size, { cls := .type "list", data := .seq (its ++ [u8]).toArray n9 }) := by simpa using hp
          subst hp'
          exact ⟨e9', pn, DC, pf, fun v z => by cases z⟩
        · obtain ⟨o, e, d⟩ := T.obj _ _ st5 b hb
          exact (I9.pin (b, o) (List.mem_append_right _ (mem_pinsAt hb e))).2.1
  exact codeAny_compStart_list loop (T.self _ 0 _ _ _ (T.keep _ _ _ st2 fun b _ o e => upH b o (upG b o e)) loop)

theorem pe_comp2 {wi : TI} (scX : Scope) (NX fv : List Str) (js : List Nat) (hNX : X.N = NX) (S : CompSc2 scX sc NX xs fv js) (hsx : X.env.scope = scX) (hcalm : X.calm = true) (hi : PI X tg iter wi) (hgg : ∀ C s0 H0 ex, PG (xc2 X sc xs fv C s0 H0 ex) tg g)
    (ht : ∀ C s0 H0 ex, PIf (xc2 X sc xs fv C s0 H0 ex) ifs tt) (he : ∀ C s0 H0 ex, PE (xc2 X sc xs fv C s0 H0 ex) elt te)
    (hs : ∀ v, foldedSetIterable iter X.env v = pure v := by intro _; rfl) : PE X (.ListComp elt [⟨tg, iter, ifs, 0⟩] sc pos) (tComp2 wi xs.length js g tt te) := by
  intro pins s σ H Q I h
  rw [← hNX] at S
  have hfree : ∀ y ∈ sc.names, y.2 = .free → ∃ c, X.env.cells.lookup y.1 = some c := fun y hy hf => I.ok.has y.1 (.inl (by show X.env.scope.names.lookup y.1 = _; rw [hsx]; exact S.free y hy hf))
  rw [eval_ListComp]
  refine wpAny_comprehension_free (use := none) rfl hs (closure_eq hfree) S.kind S.names (thn (hi pins s σ H _ I h) fun v s1 h1 => thn h1 fun itv s2 h2 => ?_)
  obtain ⟨it, fp, tn, J, H2, e, I2, T, st2, f2, W, w0, step⟩ := h2
  subst e
  refine comp_core2 (RR := fun acc C => compPost (model X.prog X.w) X.A X.xe none (EP X pins σ Q) acc C) S hsx hcalm hgg ht he I2 T st2 f2 w0 step fun D C s' H' I' q hsl45 hC => ?_
  obtain ⟨m, hm⟩ := hsl45
  obtain ⟨f0, f1, _, f3, f4, f5⟩ := hC
  exact ⟨m, hm, fun h' sb => ⟨.ref D, H', I'.turned (t' := s'.toks) (fun b o hb e => (sb.2 b hb).trans e) f0 f1 f3 f4 f5, rfl, q⟩⟩

end
theorem CompSc.two {scX sc : Scope} {NX : List Str} {x : Str} {fv : List Str} {js : List Nat} (S : CompSc scX sc NX x fv js) : CompSc2 scX sc NX [x] fv js :=
  ⟨S.kind, S.kindX, S.cell, fun y hy => by rw [List.mem_singleton.mp hy]; exact S.own, S.names, S.free, S.nd, S.at', S.fr⟩
section
variable {X : Cx} {pins : List (Addr × Obj)} {σ : St} {H2 : Hp} {s2 : Shared} {elt iter : Expr} {x : Str} {px : Pos} {ifs : List Expr} {sc scX : Scope} {pos : Pos} {fv : List Str} {js : List Nat} {tt : TT} {te : TE}
theorem comp_core (S : CompSc scX sc X.N x fv js) (hsx : X.env.scope = scX) (hcalm : X.calm = true)
    (ht : ∀ C s0 H0 ex, PIf (xc X sc x fv C s0 H0 ex) ifs tt) (he : ∀ C s0 H0 ex, PE (xc X sc x fv C s0 H0 ex) elt te)
    {it : Addr} {fp : List Addr} {tn : Nat → Heap → Prop} {J : It} (I2 : Inv X pins σ H2 s2) (T : Turn X.prog X.w X.K (.Name x px) J fp it tn) (st2 : tn 0 s2.heap) (f2 : ∀ b ∈ fp, FpOk X pins H2 b)
    {Q : VK} {W : Nat → Nat → List V → Hp → Prop} (w0 : ∃ m, W 0 m [] H2)
    (step : ∀ i m ys H, W i m ys H → (J.stop i H ∧ ∀ p, H p = none → Q (.ref p) (upd H p (.lst ys))) ∨
      (J.go i H ∧ ∃ N : List V → Hp → Prop, (∀ ys' H', N ys' H' → ∃ m', m' < m ∧ W (i + 1) m' ys' H') ∧
        ∀ x H', J.yld i H x H' → tt (some x :: pick js σ) H' fun b H2 => if b = true then te (some x :: pick js σ) H2 fun y H3 => ys.length < sizeLine ∧ N (ys ++ [y]) H3 else N ys H2))
    {RR : Value → Addr → Result → Shared → Prop} {E : Value → Shared → Prop}
    (fin : ∀ (D C : Addr) (s' : Shared) (H' : Hp), Inv X pins σ H' s' → Q (.ref D) H' → (∃ m, s'.heap.Ns C m) → FpOk X pins H' C → RR (.ref D) C (.ok .next) s') :
    wpAny (model X.prog X.w) X.A (newList []) (fun acc s₃ => wpAny (model X.prog X.w) X.A (newFunctionEnv sc X.env.globals (clOf X.env.cells sc.names []) [] X.env.qual none .none (some X.env)) (fun cenv s₄ =>
      codeAny (model X.prog X.w) X.A (.compStart (.ListComp elt [⟨.Name x px, iter, ifs, 0⟩] sc pos) 0 (.ref it) acc { cenv with scope := relabel sc X.env }) (RR acc cenv.locals) s₄) E s₃) E s2 := by
  refine comp_core2 (xs := [x]) (g := gName 0) (RR := RR) S.two hsx hcalm (fun C s0 H0 ex => pg_name S.nd rfl (.inl (lookup_relabel_local S.own)) (.inr (lookup_relabel_local S.own))) ht he I2 T st2 f2 w0 (fun i m ys H w => ?_) fin
  rcases step i m ys H w with h | ⟨go, N, hN, st⟩
  · exact .inl h
  · refine .inr ⟨go, N, hN, fun y H' hy os hos => ?_⟩
    obtain ⟨o, rfl⟩ := List.length_eq_one_iff.mp hos
    exact ⟨⟨[some y], rfl, rfl⟩, st y H' hy⟩
theorem pe_comp {wi : TI} (scX : Scope) (NX fv : List Str) (js : List Nat) (hNX : X.N = NX) (S : CompSc scX sc NX x fv js) (hsx : X.env.scope = scX) (hcalm : X.calm = true) (hi : PI X (.Name x px) iter wi)
    (ht : ∀ C s0 H0 ex, PIf (xc X sc x fv C s0 H0 ex) ifs tt) (he : ∀ C s0 H0 ex, PE (xc X sc x fv C s0 H0 ex) elt te)
    (hs : ∀ v, foldedSetIterable iter X.env v = pure v := by intro _; rfl) : PE X (.ListComp elt [⟨.Name x px, iter, ifs, 0⟩] sc pos) (tComp wi js tt te) := by
  intro pins s σ H Q I h
  rw [← hNX] at S
  have hfree : ∀ y ∈ sc.names, y.2 = .free → ∃ c, X.env.cells.lookup y.1 = some c := fun y hy hf => I.ok.has y.1 (.inl (by show X.env.scope.names.lookup y.1 = _; rw [hsx]; exact S.free y hy hf))
  rw [eval_ListComp]
  refine wpAny_comprehension_free (use := none) rfl hs (closure_eq hfree) S.kind S.names (thn (hi pins s σ H _ I h) fun v s1 h1 => thn h1 fun itv s2 h2 => ?_)
  obtain ⟨it, fp, tn, J, H2, e, I2, T, st2, f2, W, w0, step⟩ := h2
  subst e
  refine comp_core (RR := fun acc C => compPost (model X.prog X.w) X.A X.xe none (EP X pins σ Q) acc C) S hsx hcalm ht he I2 T st2 f2 w0 step fun D C s' H' I' q hsl46 hC => ?_
  obtain ⟨m, hm⟩ := hsl46
  obtain ⟨f0, f1, _, f3, f4, f5⟩ := hC
  exact ⟨m, hm, fun h' sb => ⟨.ref D, H', I'.turned (t' := s'.toks) (fun b o hb e => (sb.2 b hb).trans e) f0 f1 f3 f4 f5, rfl, q⟩⟩

end
end L2

set_option Elab.async false
set_option linter.all false
set_option maxRecDepth 100000
namespace L2
open PySem PySem.Spec PyProof.Rows
/-! ### lists of pairs as tables -/
section
variable {κ : Type} [DecidableEq κ]
noncomputable def valV (kvs : List (κ × V)) (k : κ) : Option V := (kvs.find? fun kv => decide (kv.1 = k)).map (·.2)
/-- in its place, or at the end -/
noncomputable def putK (kvs : List (κ × V)) (k : κ) (v : V) : List (κ × V) :=
  if (kvs.any fun kv => decide (kv.1 = k)) = true then kvs.map (fun kv => if kv.1 = k then (kv.1, v) else kv) else kvs ++ [(k, v)]
noncomputable def dropK (kvs : List (κ × V)) (k : κ) : List (κ × V) := kvs.filter fun kv => decide (kv.1 ≠ k)

theorem valV_pos {p : κ × V} {r : List (κ × V)} {k : κ} (e : p.1 = k) : valV (p :: r) k = some p.2 := by simp [valV, List.find?_cons, e]
theorem valV_neg {p : κ × V} {r : List (κ × V)} {k : κ} (e : ¬ p.1 = k) : valV (p :: r) k = valV r k := by simp [valV, List.find?_cons, e]
theorem valV_any (k : κ) : ∀ kvs : List (κ × V), (kvs.any fun kv => decide (kv.1 = k)) = (valV kvs k).isSome
  | [] => rfl
  | p :: r => by
    rw [List.any_cons]
    by_cases e : p.1 = k
    · simp only [valV_pos e, decide_eq_true e, Bool.true_or, Option.isSome_some]
    · rw [valV_neg e, decide_eq_false e, Bool.false_or]; exact valV_any k r
theorem RelO.isSome_eq {o : Option V} {u : Option Value} (r : RelO o u) : o.isSome = u.isSome := by
  cases o with
  | none => cases u with
    | none => rfl
    | some _ => exact (show False from r).elim
  | some _ => cases u with
    | none => exact (show False from r).elim
    | some _ => rfl
theorem RelO.getD {o : Option V} {u : Option Value} {d : V} {d' : Value} (r : RelO o u) (rd : RelV d d') : RelV (o.getD d) (u.getD d') := by
  cases o with
  | none => cases u with
    | none => exact rd
    | some _ => exact (show False from r).elim
  | some _ => cases u with
    | none => exact (show False from r).elim
    | some _ => exact r

/-- raw tables of the same keys -/
theorem KV.val {kvs : List (κ × V)} {vs : List (κ × Value)} (r : KV kvs vs) (k : κ) : RelO (valV kvs k) (valueAt vs k) := by
  unfold KV at r
  induction r with
  | nil => exact True.intro
  | @cons p q ps qs h t ih =>
    obtain ⟨h1, h2⟩ := h
    by_cases e : p.1 = k
    · have e' : q.1 = k := h1.symm.trans e
      have b : valueAt (q :: qs) k = some q.2 := by simp [valueAt, List.find?_cons, e']
      rw [valV_pos e, b]; exact h2
    · have e' : ¬ q.1 = k := fun z => e (h1.trans z)
      have b : valueAt (q :: qs) k = valueAt qs k := by simp [valueAt, List.find?_cons, e']
      rw [valV_neg e, b]; exact ih
theorem KV.any {kvs : List (κ × V)} {vs : List (κ × Value)} (r : KV kvs vs) (k : κ) : (kvs.any fun kv => decide (kv.1 = k)) = vs.any fun kv => decide (kv.1 = k) := by
  unfold KV at r
  induction r with
  | nil => rfl
  | cons h t ih => rw [List.any_cons, List.any_cons, ih, h.1]
theorem KV.repl {kvs : List (κ × V)} {vs : List (κ × Value)} (r : KV kvs vs) (k : κ) {y : V} {u : Value} (ry : RelV y u) :
    KV (kvs.map fun kv => if kv.1 = k then (kv.1, y) else kv) (vs.map fun kv => if kv.1 = k then (kv.1, u) else kv) := by
  unfold KV at r ⊢
  induction r with
  | nil => exact .nil
  | @cons p q ps qs h t ih =>
    rw [List.map_cons, List.map_cons]
    refine .cons ?_ ih
    obtain ⟨h1, h2⟩ := h
    by_cases e : p.1 = k
    · rw [if_pos e, if_pos (h1.symm.trans e)]; exact ⟨h1, ry⟩
    · rw [if_neg e, if_neg (fun z => e (h1.trans z))]; exact ⟨h1, h2⟩
theorem KV.put {kvs : List (κ × V)} {vs : List (κ × Value)} (r : KV kvs vs) (k : κ) {y : V} {u : Value} (ry : RelV y u) : KV (putK kvs k y) (stored vs k u) := by
  unfold putK stored
  rw [r.any k]
  by_cases e : (vs.any fun kv => decide (kv.1 = k)) = true
  · rw [if_pos e, if_pos e]; exact r.repl k ry
  · rw [if_neg e, if_neg e]; exact Paired.snoc r ⟨rfl, ry⟩
theorem KV.drop {kvs : List (κ × V)} {vs : List (κ × Value)} (r : KV kvs vs) (k : κ) : KV (dropK kvs k) (without vs k) := by
  unfold KV at r ⊢
  unfold dropK without
  induction r with
  | nil => exact .nil
  | @cons p q ps qs h t ih =>
    obtain ⟨h1, h2⟩ := h
    rw [List.filter_cons, List.filter_cons]
    by_cases e : p.1 = k
    · have a : ¬ decide (p.1 ≠ k) = true := by simp [e]
      have b : ¬ decide (q.1 ≠ k) = true := by simp [h1.symm.trans e]
      rw [if_neg a, if_neg b]; exact ih
    · have e' : ¬ q.1 = k := fun z => e (h1.trans z)
      have a : decide (p.1 ≠ k) = true := by simp [e]
      have b : decide (q.1 ≠ k) = true := by simp [e']
      rw [if_pos a, if_pos b]; exact .cons ⟨h1, h2⟩ ih
theorem KV.keys {kvs : List (κ × V)} {vs : List (κ × Value)} (r : KV kvs vs) : kvs.map (·.1) = vs.map (·.1) := by
  unfold KV at r
  induction r with
  | nil => rfl
  | cons h t ih => rw [List.map_cons, List.map_cons, ih, h.1]
theorem KV.length {kvs : List (κ × V)} {vs : List (κ × Value)} (r : KV kvs vs) : kvs.length = vs.length := Paired.length r
end


/-! ### a tracked dict, its keys ints and texts or tuples of these -/
theorem kV_is {P : Program} {w : World} {k : Key} {u : Value} (r : RelV (kV k) u) : (mixKind P w).is k u = true := by
  cases k with
  | inl i => obtain ⟨t, e⟩ := (show ∃ t, u = Value.int i t from r); subst e; exact mixKind_int P w i t
  | inr x => obtain ⟨t, e⟩ := (show ∃ t, u = Value.str x t from r); subst e; exact mixKind_str P w x t
theorem items_are {P : Program} {w : World} : ∀ {ks : List Key} {us : List Value}, Vals (ks.map kV) us → ItemsAre (mixKind P w) ks us
  | [], _, r => by rw [List.map_nil] at r; cases r; exact .nil
  | k :: ks, _, r => by
    rw [List.map_cons] at r
    cases r with
    | cons h t => exact .cons (kV_is h) (items_are t)

/-- raw entries of a dict with tuple keys -/
noncomputable abbrev KT (H : Hp) : List (List Key × V) → List (List Key × Addr × Value) → Prop := Paired fun p q => p.1 = q.1 ∧ H q.2.1 = some (.tup (p.1.map kV)) ∧ RelV p.2 q.2.2
theorem KT.val {H : Hp} {kvs : List (List Key × V)} {xs : List (List Key × Addr × Value)} (r : KT H kvs xs) (k : List Key) : RelO (valV kvs k) ((atKey xs k).map (·.2)) := by
  induction r with
  | nil => exact True.intro
  | @cons p q ps qs h t ih =>
    obtain ⟨h1, _, h2⟩ := h
    by_cases e : p.1 = k
    · have e' : q.1 = k := h1.symm.trans e
      have b : atKey (q :: qs) k = some q.2 := by simp [atKey, List.find?_cons, e']
      rw [valV_pos e, b]; exact h2
    · have e' : ¬ q.1 = k := fun z => e (h1.trans z)
      have b : atKey (q :: qs) k = atKey qs k := by simp [atKey, List.find?_cons, e']
      rw [valV_neg e, b]; exact ih
theorem KT.repl {H : Hp} {kvs : List (List Key × V)} {xs : List (List Key × Addr × Value)} (r : KT H kvs xs) (k : List Key) {y : V} {u : Value} (ry : RelV y u) :
    KT H (kvs.map fun kv => if kv.1 = k then (kv.1, y) else kv) (xs.map (putAt k u)) := by
  induction r with
  | nil => exact .nil
  | @cons p q ps qs h t ih =>
    rw [List.map_cons, List.map_cons]
    refine .cons ?_ ih
    obtain ⟨h1, h2, h3⟩ := h
    unfold putAt
    by_cases e : p.1 = k
    · rw [if_pos e, if_pos (h1.symm.trans e)]; exact ⟨h1, h2, ry⟩
    · rw [if_neg e, if_neg (fun z => e (h1.trans z))]; exact ⟨h1, h2, h3⟩
theorem KT.put {H : Hp} {kvs : List (List Key × V)} {xs : List (List Key × Addr × Value)} (r : KT H kvs xs) (k : List Key) {b : Addr} {y : V} {u : Value} (hb : H b = some (.tup (k.map kV))) (ry : RelV y u) :
    KT H (putK kvs k y) (storedH xs k b u) := by
  have e : (kvs.any fun kv => decide (kv.1 = k)) = (atKey xs k).isSome := by
    rw [valV_any, (r.val k).isSome_eq, Option.isSome_map]
  unfold putK storedH
  rw [e]
  by_cases q : (atKey xs k).isSome = true
  · rw [if_pos q, if_pos q]; exact r.repl k ry
  · rw [if_neg q, if_neg q]; exact Paired.snoc r ⟨rfl, hb, ry⟩
theorem KT.keeps {H H' : Hp} {kvs : List (List Key × V)} {xs : List (List Key × Addr × Value)} (r : KT H kvs xs) (ht : ∀ b ys, H b = some (.tup ys) → H' b = some (.tup ys)) : KT H' kvs xs :=
  Paired.mapP r fun _ _ z => ⟨z.1, ht _ _ z.2.1, z.2.2⟩

section
variable {P : Program} {w : World} {H : Hp} {h : Heap} {a : Addr}
/-- a tracked tuple of ints and texts is a key -/
theorem key_of {ks : List Key} (ok : HOk P w H h) (e : H a = some (.tup (ks.map kV))) : (tupleKind (mixKind P w)).is h ks a := by
  obtain ⟨_, its, r, o, h1, h2, n, h3⟩ := (show ObjOk P w H h a (.tup (ks.map kV)) from ok a _ e)
  exact ⟨o, its.toArray, n, h1, h2, h3, by simpa using items_are r⟩
end

/-- what the dict at a holds at the key y -/
noncomputable def DGet (H : Hp) (a : Addr) (y : V) (r : Option V) : Prop :=
  (∃ kvs k, Rd H a (.dK kvs) ∧ y = kV k ∧ r = valV kvs k) ∨ ∃ kvs k b, Rd H a (.dT kvs) ∧ y = .ref b ∧ H b = some (.tup (k.map kV)) ∧ r = valV kvs k
/-- the heap behind a[y] = v -/
noncomputable def DPut (H : Hp) (a : Addr) (y v : V) (H' : Hp) : Prop :=
  (∃ kvs k, H a = some (.dK kvs) ∧ y = kV k ∧ kvs.length < sizeLine ∧ H' = upd H a (.dK (putK kvs k v))) ∨
  ∃ kvs k b, H a = some (.dT kvs) ∧ y = .ref b ∧ H b = some (.tup (k.map kV)) ∧ kvs.length < sizeLine ∧ H' = upd H a (.dT (putK kvs k v))
theorem DGet.k {H : Hp} {a : Addr} {kvs : List (Key × V)} {k : Key} (e : H a = some (.dK kvs)) : DGet H a (kV k) (valV kvs k) := .inl ⟨kvs, k, .inl e, rfl, rfl⟩
theorem DGet.t {H : Hp} {a b : Addr} {kvs : List (List Key × V)} {k : List Key} (e : H a = some (.dT kvs)) (eb : H b = some (.tup (k.map kV))) : DGet H a (.ref b) (valV kvs k) := .inr ⟨kvs, k, b, .inl e, rfl, eb, rfl⟩
theorem DPut.k {H : Hp} {a : Addr} {kvs : List (Key × V)} {k : Key} {v : V} (e : H a = some (.dK kvs)) (hl : kvs.length < sizeLine) : DPut H a (kV k) v (upd H a (.dK (putK kvs k v))) := .inl ⟨kvs, k, e, rfl, hl, rfl⟩
theorem DPut.t {H : Hp} {a b : Addr} {kvs : List (List Key × V)} {k : List Key} {v : V} (e : H a = some (.dT kvs)) (eb : H b = some (.tup (k.map kV))) (hl : kvs.length < sizeLine) :
    DPut H a (.ref b) v (upd H a (.dT (putK kvs k v))) := .inr ⟨kvs, k, b, e, rfl, eb, hl, rfl⟩


section
variable {X : Cx} {pins : List (Addr × Obj)} {σ : St} {H : Hp} {s : Shared} {a : Addr} {y v : V} {u r : Value} {o : Option V} {A : Around} {E : Value → Shared → Prop}

theorem Inv.big (I : Inv X pins σ H s) : sysModules < s.heap.objs.size := by
  have h : mainGlobals < s.heap.objs.size := (I.mod.glob.keeps I.bk).lt
  exact Nat.lt_trans (by decide) h

end

section
variable {X : Cx} {pins : List (Addr × Obj)} {σ : St} {H : Hp} {s : Shared} {a : Addr} {kvs : List (Key × V)} {k : Key} {u : Value} {A : Around} {E : Value → Shared → Prop}
end


/-! ### readings and rules -/
section
variable {X : Cx} {o i e value : Expr} {pos pos' tpos : Pos} {td ty tv : TE}
end


/-! ### displays -/
section
variable {X : Cx} {pos : Pos}
end

/-! ### methods -/
/-- a method call o.m(e) of a built-in, with one argument: what must be seen of the text -/
structure M1 (X : Cx) (o : Expr) (m : Str) (apos : Pos) (e : Expr) (cpos : Pos) : Prop where
  base : attributeBase o m X.env (eval o X.env) = eval o X.env
  few : ((backTo cpos (starEach [e] X.env)).all (fun x => !x.1) && (backToKw cpos (keywordEach [] X.env)).all (fun x => x.1.isSome)
    && decide (([e] : List Expr).length + ([] : List Keyword).length + (if ([] : List Keyword).isEmpty then 0 else 1) < 30)) = true
  line : (apos.endLine == cpos.line) = true
  trees : backTo cpos (starEach [e] X.env) = [(false, eval e X.env)]
structure M2 (X : Cx) (o : Expr) (m : Str) (apos : Pos) (e f : Expr) (cpos : Pos) : Prop where
  base : attributeBase o m X.env (eval o X.env) = eval o X.env
  few : ((backTo cpos (starEach [e, f] X.env)).all (fun x => !x.1) && (backToKw cpos (keywordEach [] X.env)).all (fun x => x.1.isSome)
    && decide (([e, f] : List Expr).length + ([] : List Keyword).length + (if ([] : List Keyword).isEmpty then 0 else 1) < 30)) = true
  line : (apos.endLine == cpos.line) = true
  trees : backTo cpos (starEach [e, f] X.env) = [(false, eval e X.env), (false, eval f X.env)]

section
variable {X : Cx} {pins : List (Addr × Obj)} {σ : St} {H : Hp} {s : Shared} {a : Addr} {y d : V} {u r : Value} {o : Option V} {A : Around} {E : Value → Shared → Prop}
end

section
variable {X : Cx} {o e f : Expr} {apos cpos : Pos} {td ty tx : TE}
end

/-! ### dict(d): a copy -/
section
variable {X : Cx} {pins : List (Addr × Obj)} {σ : St} {H : Hp} {s : Shared} {a : Addr} {kvs : List (Key × V)} {A : Around} {E : Value → Shared → Prop}
end


section
variable {X : Cx} {pins : List (Addr × Obj)} {σ : St} {H : Hp} {s : Shared} {a : Addr} {y : V} {u : Value} {A : Around} {E : Value → Shared → Prop}
end
end L2
namespace L2
open PySem PySem.Spec PyProof.Rows
section
variable {X : Cx}
end
/-! ### a dict's pairs: keys that differ -/
section
variable {κ : Type} [DecidableEq κ]
end
end L2

set_option linter.all false
namespace Mm
open PySem
/-! the settings of a mask -/
theorem lowest : ∀ (n m : Nat), m ≤ n → m ≠ 0 → ∃ t q, m = 2 ^ (t + 1) * q + 2 ^ t
  | 0, m, h, h0 => absurd (by omega) h0
  | n + 1, m, h, h0 => by
    by_cases hm : m % 2 = 1
    · exact ⟨0, m / 2, by simp; omega⟩
    · obtain ⟨t, q, e⟩ := lowest n (m / 2) (by omega) (by omega)
      refine ⟨t + 1, q, ?_⟩
      have e1 : 2 ^ (t + 1 + 1) * q = 2 * (2 ^ (t + 1) * q) := by rw [Nat.pow_succ 2 (t + 1), Nat.mul_comm (2 ^ (t + 1)) 2, Nat.mul_assoc]
      have e2 : 2 ^ (t + 1) = 2 * 2 ^ t := by rw [Nat.pow_succ, Nat.mul_comm]
      rw [e1]
      omega
theorem low_bits {t q s : Nat} (h : s < t) : (2 ^ (t + 1) * q + 2 ^ t).testBit s = false := by
  rw [Nat.testBit_two_pow_mul_add _ (Nat.pow_lt_pow_right (by decide) (by omega)), if_pos (by omega), Nat.testBit_two_pow]
  simp; omega
theorem low_bit (t q : Nat) : (2 ^ (t + 1) * q + 2 ^ t).testBit t = true := by
  rw [Nat.testBit_two_pow_mul_add _ (Nat.pow_lt_pow_right (by decide) (by omega)), if_pos (by omega), Nat.testBit_two_pow]
  simp
theorem low_xor (t q : Nat) : (2 ^ (t + 1) * q + 2 ^ t) ^^^ (2 ^ (t + 1) * q + 2 ^ t - 1) = 2 ^ (t + 1) - 1 := by
  have hp := Nat.two_pow_pos t
  have e2 : 2 ^ (t + 1) = 2 * 2 ^ t := by rw [Nat.pow_succ, Nat.mul_comm]
  have e : 2 ^ (t + 1) * q + 2 ^ t - 1 = 2 ^ (t + 1) * q + (2 ^ t - 1) := by omega
  rw [e]
  refine Nat.eq_of_testBit_eq fun j => ?_
  rw [Nat.testBit_xor, Nat.testBit_two_pow_mul_add _ (show 2 ^ t < 2 ^ (t + 1) by omega), Nat.testBit_two_pow_mul_add _ (show 2 ^ t - 1 < 2 ^ (t + 1) by omega), Nat.testBit_two_pow_sub_one]
  by_cases hj : j < t + 1
  · rw [if_pos hj, if_pos hj, Nat.testBit_two_pow, Nat.testBit_two_pow_sub_one]
    by_cases hjt : j < t
    · have : ¬ t = j := by omega
      simp [hj, hjt, this]
    · have : t = j := by omega
      subst this
      simp
  · rw [if_neg hj, if_neg hj]
    simp [hj]
theorem bits_ones (t : Nat) : Builtin.Int.intBits ((2 ^ (t + 1) - 1 : Nat) : Int) = t + 1 := by
  have hp := Nat.two_pow_pos t
  have e2 : 2 ^ (t + 1) = 2 * 2 ^ t := by rw [Nat.pow_succ, Nat.mul_comm]
  have h1 : Builtin.Int.intBits ((2 ^ (t + 1) - 1 : Nat) : Int) ≤ t + 1 := bits_nat (by omega)
  have h2 : ¬ Builtin.Int.intBits ((2 ^ (t + 1) - 1 : Nat) : Int) ≤ t := fun h => by
    have := intBits_le_iff.mp h
    rw [Int.natAbs_natCast] at this
    omega
  omega
end Mm

set_option Elab.async false
set_option linter.all false
set_option maxRecDepth 100000
namespace Mm
open PySem L2
/-! a wood's masks and numbers -/
noncomputable def insM (M : List Nat) (m : Nat) : List Nat := if m ∈ M then M else M ++ [m]
noncomputable def wkf (M : List Nat) (k : Nat) : List (Key × V) := (M.zipIdx k).map fun p => (Sum.inl (p.1 : Int), V.int ((p.2 : Nat) : Int))
noncomputable def wkv (M : List Nat) : List (Key × V) := wkf M 0
theorem insM_mem {M : List Nat} {m : Nat} (h : m ∈ M) : insM M m = M := if_pos h
theorem insM_new {M : List Nat} {m : Nat} (h : m ∉ M) : insM M m = M ++ [m] := if_neg h
theorem insM_nd {M : List Nat} {m : Nat} (nd : M.Nodup) : (insM M m).Nodup := by
  by_cases h : m ∈ M
  · rw [insM_mem h]; exact nd
  · rw [insM_new h]
    exact List.nodup_append.mpr ⟨nd, by simp, fun a ha b hb => by
      have : b = m := by simpa using hb
      subst this
      exact fun e => h (e ▸ ha)⟩
theorem insM_keep {M : List Nat} {m i k : Nat} (h : M[i]? = some k) : (insM M m)[i]? = some k := by
  unfold insM
  split
  · exact h
  · rw [List.getElem?_append_left (List.getElem?_eq_some_iff.mp h).1]; exact h
theorem insM_all {M : List Nat} {m : Nat} {p : Nat → Prop} (h : ∀ x ∈ M, p x) (hm : p m) : ∀ x ∈ insM M m, p x := fun x hx => by
  unfold insM at hx
  split at hx
  · exact h x hx
  · rcases List.mem_append.mp hx with e | e
    · exact h x e
    · have : x = m := by simpa using e
      rw [this]; exact hm
/-- what a wood's masks are -/
structure Gd (n : Nat) (M : List Nat) : Prop where
  nd : M.Nodup
  lt : ∀ m ∈ M, m < 2 ^ 2 ^ n
  z : M[0]? = some 0
  f : M[1]? = some (2 ^ 2 ^ n - 1)
theorem Gd.ins {n : Nat} {M : List Nat} {m : Nat} (g : Gd n M) (h : m < 2 ^ 2 ^ n) : Gd n (insM M m) := ⟨insM_nd g.nd, insM_all g.lt h, insM_keep g.z, insM_keep g.f⟩
theorem full_pos (n : Nat) : 0 < 2 ^ 2 ^ n - 1 := by
  have h1 : 0 < 2 ^ n := Nat.two_pow_pos n
  have h2 : 2 ^ 1 ≤ 2 ^ 2 ^ n := Nat.pow_le_pow_right (by decide) h1
  omega
theorem Gd.new (n : Nat) : Gd n [0, 2 ^ 2 ^ n - 1] := ⟨by
  have := full_pos n
  rw [List.nodup_cons]
  exact ⟨fun h => by
    have : 0 = 2 ^ 2 ^ n - 1 := by simpa using h
    omega, by simp⟩, fun m hm => by
  have := full_pos n
  have : m = 0 ∨ m = 2 ^ 2 ^ n - 1 := by simpa using hm
  omega, rfl, rfl⟩
theorem Gd.get {n : Nat} {M : List Nat} {m i : Nat} (g : Gd n M) (h : M[i]? = some m) : m < 2 ^ 2 ^ n := g.lt m (List.mem_of_getElem? h)
noncomputable def wfl (n : Nat) (l d : Addr) : List (Str × V) := [("n", .int (n : Nat)), ("masks", .ref l), ("numbers", .ref d)]
/-- the wood at o -/
structure Wd (C : Addr) (H : Hp) (o dx l d : Addr) (n : Nat) (M : List Nat) : Prop where
  ins : H o = some (.ins C dx (wfl n l d))
  lst : H l = some (.lst (M.map fun x => V.int ((x : Nat) : Int)))
  dic : H d = some (.dK (wkv M))
  gd : Gd n M
theorem Wd.od {C : Addr} {H : Hp} {o dx l d : Addr} {n : Nat} {M : List Nat} (W : Wd C H o dx l d n M) : o ≠ l ∧ o ≠ d ∧ l ≠ d := ⟨ne_of W.ins W.lst (by intro z; cases z), ne_of W.ins W.dic (by intro z; cases z), ne_of W.lst W.dic (by intro z; cases z)⟩
/-- all but two addresses stay -/
noncomputable def But (l d : Addr) (H H' : Hp) : Prop := ∀ b u, H b = some u → b ≠ l → b ≠ d → H' b = some u
theorem But.refl (l d : Addr) (H : Hp) : But l d H H := fun _ _ h _ _ => h
theorem But.of {l d : Addr} {H H' : Hp} (h : Same H H') : But l d H H' := fun b u e _ _ => h b u e
theorem But.trans {l d : Addr} {H H1 H2 : Hp} (a : But l d H H1) (b : But l d H1 H2) : But l d H H2 := fun c u h h1 h2 => b c u (a c u h h1 h2) h1 h2
theorem Wd.stay {C : Addr} {H H' : Hp} {o dx l d : Addr} {n : Nat} {M : List Nat} (W : Wd C H o dx l d n M) (h : Same H H') : Wd C H' o dx l d n M := ⟨h _ _ W.ins, h _ _ W.lst, h _ _ W.dic, W.gd⟩
theorem Wd.but {C : Addr} {H H' : Hp} {o dx l d l2 d2 : Addr} {n : Nat} {M : List Nat} (W : Wd C H o dx l d n M) (h : But l2 d2 H H') (h1 : o ≠ l2 ∧ o ≠ d2) (h2 : l ≠ l2 ∧ l ≠ d2) (h3 : d ≠ l2 ∧ d ≠ d2) : Wd C H' o dx l d n M :=
  ⟨h _ _ W.ins h1.1 h1.2, h _ _ W.lst h2.1 h2.2, h _ _ W.dic h3.1 h3.2, W.gd⟩
/-! counting -/
theorem ix_tupK {X : Cx} {K : PySem.W.Frag} (h : X.K = K) : IxR X (rIxT K) := by subst h; exact ix_tup
theorem bt_max : bootBuiltins "max" = some (.builtin "max") := by decide +kernel
theorem call_list_ofK {X : Cx} {K : PySem.W.Frag} (hK : X.K = K) : CallR X (.type "list") (fun xs H Q => ∃ p ys, xs = [.ref p] ∧ (SqL K H p ys ∨ SqT K H p ys) ∧ ∀ l, H l = none → Q (.ref l) (upd H l (.lst ys))) := by subst hK; exact call_list_of
/-! one statement, then the rest: what stands between -/
theorem seq_c {v : V} {i : Nat} {b : TS} {D : Ends} {σ : St} {H : Hp} (h : b D (σ.set i (some v)) H) : tSeq (tAsg (tC v) (gName i)) b D σ H := h
theorem cut_if {c : TT} {t u b : TS} {D : Ends} {σ : St} {H : Hp} (P : St → Hp → Prop) (h1 : ∀ R : St → Hp → Prop, (∀ σ' H', P σ' H' → R σ' H') → tIfS c t u { D with nx := R } σ H) (h2 : ∀ σ' H', P σ' H' → b D σ' H') : tSeq (tIfS c t u) b D σ H := h1 (b D) h2
theorem cut_for {wi : TI} {g : TG} {tb b : TS} {D : Ends} {σ : St} {H : Hp} (P : St → Hp → Prop) (h1 : ∀ R : St → Hp → Prop, (∀ σ' H', P σ' H' → R σ' H') → tFor wi g tb { D with nx := R } σ H) (h2 : ∀ σ' H', P σ' H' → b D σ' H') : tSeq (tFor wi g tb) b D σ H := h1 (b D) h2
end Mm

set_option Elab.async false
set_option linter.all false
set_option maxRecDepth 100000
set_option maxHeartbeats 4000000
namespace L2
open PySem PySem.Spec PyProof.Rows
section
variable {X : Cx}
end
end L2

set_option Elab.async false
set_option linter.all false
set_option maxRecDepth 100000
set_option maxHeartbeats 4000000
namespace L2
open PySem PySem.Spec PyProof.Rows
section
variable {X : Cx}
end
theorem pg_tupK {X : Cx} {K : PySem.W.Frag} {es : List Expr} {k : Nat} {pos : Pos} {t : TGs} {n : Nat} (hK : X.K = K) (hc : X.calm = true) (h : PGs X es t)
    (hn : (assignEach es X.env).length = n := by rfl) (hst : (assignEach es X.env).findIdx? (·.1) = none := by rfl) : PG X (.Tuple es k pos) (gTup K n t) := by
  subst hK
  exact pg_tup hc h hn hst
/-! the forms one uses -/
section
variable {k : Nat} {js : List Nat} {g : TG} {tt : TT} {te : TE}
theorem comp2_list {K : PySem.W.Frag} {a : Addr} {xs : List V} {σ : St} {H : Hp} {Q : VK} (Pv : Nat → List V → Hp → Prop) (h0 : Pv 0 [] H) (hl : ∀ i ys H, i ≤ xs.length → Pv i ys H → SqL K H a xs)
    (hs : ∀ i x ys H, xs[i]? = some x → Pv i ys H → tStep2 k js g tt te σ ys (Pv (i + 1)) x H)
    (hd : ∀ ys H, Pv xs.length ys H → ∀ p, H p = none → Q (.ref p) (upd H p (.lst ys))) : tCompB2 (Itl K a) k js g tt te σ H Q := by
  refine ⟨fun i m ys H => m = xs.length - i ∧ i ≤ xs.length ∧ Pv i ys H, ⟨xs.length, by simp, Nat.zero_le _, h0⟩, ?_⟩
  rintro i m ys H ⟨rfl, hi, p⟩
  have q := hl i ys H hi p
  by_cases hlt : i < xs.length
  · refine .inr ⟨⟨xs, xs[i], q, by simp [hlt]⟩, Pv (i + 1), fun ys' H' p' => ⟨xs.length - (i + 1), by omega, rfl, hlt, p'⟩, fun x H' y => ?_⟩
    obtain ⟨e, y⟩ := y
    subst e
    exact hs i x ys _ (y xs q) p
  · have e : i = xs.length := by omega
    subst e
    exact .inl ⟨⟨xs, q, Nat.le_refl _⟩, hd ys H p⟩
end
end L2

set_option Elab.async false
set_option linter.all false
set_option maxRecDepth 100000
set_option maxHeartbeats 4000000
namespace L2
open PySem PySem.Spec PyProof.Rows
/-! ### values as data, for == of lists and tuples -/
mutual
inductive Rdv (K : PySem.W.Frag) (H : Hp) : V → PyData → Prop
  | non : Rdv K H .non .none
  | bl (b : Bool) : Rdv K H (.bl b) (.bool b)
  | int (i : Int) : Rdv K H (.int i) (.int i)
  | str (x : Str) : Rdv K H (.str x) (.str x)
  | lst {a : Addr} {xs : List V} {ds : List PyData} : SqL K H a xs → RdvA K H xs ds → Rdv K H (.ref a) (.list ds)
  | tup {a : Addr} {xs : List V} {ds : List PyData} : SqT K H a xs → RdvA K H xs ds → Rdv K H (.ref a) (.tuple ds)
inductive RdvA (K : PySem.W.Frag) (H : Hp) : List V → List PyData → Prop
  | nil : RdvA K H [] []
  | cons {x : V} {d : PyData} {xs : List V} {ds : List PyData} : Rdv K H x d → RdvA K H xs ds → RdvA K H (x :: xs) (d :: ds)
end
section
variable {X : Cx} {pins : List (Addr × Obj)} {σ : St} {H : Hp} {s : Shared}
mutual
theorem Rdv.reads (I : Inv X pins σ H s) : ∀ {x : V} {d : PyData} {u : Value}, Rdv X.K H x d → RelV x u → ∃ as, Reads s.heap u d as
  | _, _, _, .non, r => by cases r; exact ⟨_, .none⟩
  | _, _, _, .bl b, r => by cases r; exact ⟨_, .bool b⟩
  | _, _, _, .int i, r => by obtain ⟨t, rfl⟩ := r; exact ⟨_, .int i t⟩
  | _, _, _, .str x, r => by obtain ⟨t, rfl⟩ := r; exact ⟨_, .str x t⟩
  | _, _, _, .lst hq ha, r => by
    cases r
    obtain ⟨its, rv, p, _⟩ := I.list hq
    obtain ⟨as, ra⟩ := RdvA.reads I ha rv
    obtain ⟨o, ho, hc, n, hd⟩ := p.isList
    exact ⟨_, .list ho hc hd (by simpa using ra)⟩
  | _, _, _, .tup hq ha, r => by
    cases r
    obtain ⟨its, rv, p, _⟩ := I.tuple hq
    obtain ⟨as, ra⟩ := RdvA.reads I ha rv
    obtain ⟨o, ho, hc, n, hd⟩ := p
    exact ⟨_, .tuple ho hc hd (by simpa using ra)⟩
theorem RdvA.reads (I : Inv X pins σ H s) : ∀ {xs : List V} {ds : List PyData} {us : List Value}, RdvA X.K H xs ds → Vals xs us → ∃ as, ReadsAll s.heap us ds as
  | _, _, _, .nil, r => by cases r; exact ⟨_, .nil⟩
  | _, _, _, .cons h t, r => by
    cases r with
    | cons r1 r2 =>
      obtain ⟨as, ra⟩ := Rdv.reads I h r1
      obtain ⟨bs, rb⟩ := RdvA.reads I t r2
      exact ⟨_, .cons ra rb⟩
end
end
section
variable {X : Cx}
theorem op_neD {K : PySem.W.Frag} (hK : X.K = K) (hu : X.A.units + 64 < cLine) : OpR X (compareOp .NotEq) (fun x y H Q => ∃ d e, Rdv K H x d ∧ Rdv K H y e ∧ SeqAt.shaped d = true ∧ SeqAt.shaped e = true ∧ Q (.bl (!PyData.eqv d e)) H) := by
  intro pins s σ H x y v u Q I rx ry h
  subst hK
  obtain ⟨d, e, h1, h2, s1, s2, q⟩ := h
  obtain ⟨as, ra⟩ := h1.reads I rx
  obtain ⟨bs, rb⟩ := h2.reads I ry
  exact ne_dataH ra rb s1 s2 hu ⟨.bl _, H, I, rfl, q⟩
end
section
variable {X : Cx}
end
/-! shapes -/
noncomputable def Shd (n : Nat) (d : PyData) : Prop := d.canLay0 = true ∧ d.depth ≤ n
theorem Shd.int (i : Int) : Shd 0 (.int i) := ⟨rfl, Nat.le_refl _⟩
theorem Shd.bl (i : Bool) : Shd 0 (.bool i) := ⟨rfl, Nat.le_refl _⟩
theorem Shd.str {z : Str} (h : ∀ c ∈ z.cps.toList, c < 128) : Shd 0 (.str z) := ⟨by
  show PyData.strOk z = true
  unfold PyData.strOk
  rw [Array.all_eq_true]
  intro i hi
  have := h z.cps[i] (by simp)
  simp only [decide_eq_true_eq]
  omega, Nat.le_refl _⟩
theorem shd_all {n : Nat} : ∀ {ds : List PyData}, (∀ d ∈ ds, Shd n d) → PyData.canLayAll0 ds = true ∧ PyData.depthAll ds ≤ n
  | [], _ => ⟨rfl, Nat.zero_le _⟩
  | d :: r, h => by
    obtain ⟨a, b⟩ := h d List.mem_cons_self
    obtain ⟨c, e⟩ := shd_all (ds := r) fun x hx => h x (List.mem_cons_of_mem _ hx)
    exact ⟨by simp only [PyData.canLayAll0]; rw [a, c]; rfl, by simp only [PyData.depthAll]; omega⟩
theorem Shd.list {n : Nat} {ds : List PyData} (h : ∀ d ∈ ds, Shd n d) : Shd (n + 1) (.list ds) := ⟨by simp only [PyData.canLay0]; exact (shd_all h).1, by simp only [PyData.depth]; have := (shd_all h).2; omega⟩
theorem Shd.tuple {n : Nat} {ds : List PyData} (h : ∀ d ∈ ds, Shd n d) : Shd (n + 1) (.tuple ds) := ⟨by simp only [PyData.canLay0]; exact (shd_all h).1, by simp only [PyData.depth]; have := (shd_all h).2; omega⟩
theorem Shd.up {n m : Nat} {d : PyData} (h : Shd n d) (hm : n ≤ m) : Shd m d := ⟨h.1, Nat.le_trans h.2 hm⟩
theorem Shd.ok {n : Nat} {d : PyData} (h : Shd n d) (hn : n ≤ 64) : SeqAt.shaped d = true := by
  show (d.canLay0 && decide (d.depth ≤ 64)) = true
  rw [h.1, decide_eq_true (Nat.le_trans h.2 hn)]; rfl
theorem Shd.refl {n : Nat} {d : PyData} (h : Shd n d) : PyData.eqv d d = true := SeqAt.eqv_refl d h.1
theorem RdvA.map {α : Type} {K : PySem.W.Frag} {H : Hp} {f : α → V} {g : α → PyData} : ∀ {l : List α}, (∀ x ∈ l, Rdv K H (f x) (g x)) → RdvA K H (l.map f) (l.map g)
  | [], _ => .nil
  | x :: r, h => .cons (h x List.mem_cons_self) (RdvA.map fun y hy => h y (List.mem_cons_of_mem _ hy))
theorem Rdv.strs {K : PySem.W.Frag} {H : Hp} {a : Addr} {zs : List Str} (h : SqL K H a (zs.map V.str)) : Rdv K H (.ref a) (.list (zs.map PyData.str)) := .lst h (RdvA.map fun x _ => .str x)
end L2

set_option Elab.async false
set_option linter.all false
set_option maxRecDepth 100000
set_option maxHeartbeats 4000000
namespace L2
open PySem PySem.Spec PyProof.Rows
section
variable {X : Cx}
end
theorem bitAnd_not (m t : Nat) : Builtin.bitAnd (m : Int) (Builtin.bitNot (t : Int)) = ((m ^^^ (m &&& t) : Nat) : Int) := by
  rw [PyProof.Rows.bitAnd_pn (by omega) (by unfold Builtin.bitNot; omega), PyProof.Rows.bitNot_bitNot, Int.toNat_natCast, Int.toNat_natCast]
  have h := Mm.or_xor_and m m (m &&& t) (Nat.le_refl _)
  have e1 : m ||| (m &&& t) = m := Nat.eq_of_testBit_eq fun i => by
    rw [Nat.testBit_or, Nat.testBit_and]; cases m.testBit i <;> simp
  have e2 : m &&& (m &&& t) = m &&& t := Nat.eq_of_testBit_eq fun i => by
    rw [Nat.testBit_and, Nat.testBit_and]; cases m.testBit i <;> simp
  rw [e1, e2] at h
  omega
end L2

set_option Elab.async false
set_option linter.all false
set_option maxRecDepth 100000
set_option maxHeartbeats 4000000
namespace L2
open PySem PySem.Spec PyProof.Rows
section
variable {X : Cx}
end
end L2

set_option Elab.async false
set_option linter.all false
set_option maxRecDepth 100000
set_option maxHeartbeats 4000000
namespace L2
open PySem PySem.Spec PyProof.Rows
/-! ### sorted(xs, key=f), f a def that tells a whole number and leaves the heap as it is -/
theorem args_lsort_key (a v : Value) : argsOk "list.sort" ⟨[a], [(Str.ofString "key", v)]⟩ := by unfold argsOk; kernel_rfl
theorem args_sorted_key (a v : Value) : argsOk "sorted" ⟨[a], [(Str.ofString "key", v)]⟩ := by unfold argsOk; kernel_rfl
theorem lsort_key (a f : Addr) : Builtin.«list.sort» ⟨[.ref a], [(Str.ofString "key", .ref f)]⟩ = (do
    let items ← Builtin.List.listItems (.ref a)
    Builtin.List.listUpdate (.ref a) fun _ => #[]
    let before ← seqEpoch a
    let held ← newTuple items.toList
    let keyStore ← newList []
    holding [held, keyStore] do
      rule "list.sort.key"
      for x in items do
        match ← (call (.ref f) [x]).attempt with
        | .ok k => Builtin.List.listUpdate keyStore (·.push k)
        | .error e =>
          rule "list.sort.key-raised"
          let made ← Builtin.List.listItems keyStore
          Builtin.List.listUpdate keyStore fun _ => #[]
          letGo made.toList.reverse [e]
          Builtin.List.listUpdate (.ref a) fun _ => items; throw e
      let keys ← Builtin.List.listItems keyStore
      let kind ← if items.size < 2 then pure general' else keyKind' keys
      let ((), s) ← (if items.size < 2 then pure () else sortRuns').run (SortSt.mk' kind (keys.zip items) #[] 7 none)
      let sorted := (arrOf s).map (·.2)
      Builtin.List.listUpdate keyStore fun _ => #[]
      letGo ((arrOf s).map (·.1)).toList (failedOf s).toList
      let touched := (← seqEpoch a) != before
      Builtin.List.listUpdate (.ref a) fun _ => sorted
      if let some e := failedOf s then rule "list.sort.comparison-raised"; throw e
      if touched then rule "list.sort.modified"; raiseError "ValueError" "list modified during sort"
      ret .none) := by
  first | rfl | (fail "not by rfl")
/-- an untracked object of ours is tracked from here on -/
theorem Inv.adopt {X : Cx} {pins : List (Addr × Obj)} {σ : St} {H : Hp} {s : Shared} {a : Addr} {o : HO} (I : Inv X pins σ H s) (f : FpOk X pins H a) (new : ObjOk X.prog X.w (upd H a o) s.heap a o) : Inv X pins σ (upd H a o) s := by
  obtain ⟨f0, f1, f2, f3, f4, f5⟩ := f
  have ne : ∀ b u, H b = some u → b ≠ a := fun b u e => ne_of_none e f0
  have hok : HOk X.prog X.w (upd H a o) s.heap := fun b u e => by
    by_cases hb : b = a
    · subst hb; rw [upd_same] at e; cases e; exact new
    · rw [upd_ne hb] at e
      exact (I.hok b u e).stay (fun c v _ q => q) (fun c q => by rw [upd_ne (ne c _ q)]; exact q) fun c xs q => by rw [upd_ne (ne c _ q)]; exact q
  have nc : ∀ {b : Addr}, b ∉ [a] → b ≠ a := fun h z => h (by simp [z])
  exact I.step (g' := s.gens) (d' := s.drawn) (t' := s.toks) (h' := s.heap) (ch := [a]) (fun b hb => by
      have e : b = a := by simpa using hb
      subst e
      exact ⟨f3, f1, f4, f5⟩)
    (fun b o _ _ _ e _ => e) (fun b o _ _ _ e _ => ⟨o.slots, e⟩) (fun b o hc e n => by rw [upd_ne (nc hc)]; exact n) (fun b o _ e => ⟨o, e⟩)
    (fun b xs e => by rw [upd_ne (ne b _ e)]; exact e) (fun b o u e => by rw [upd_ne (ne b _ e)]; exact e) (fun b ps e => ⟨#[], by rw [upd_ne (ne b _ e), e]; simp⟩) (fun m hm => hm) hok I.bare
theorem perm_lift {α β : Type} {f : α → β} {l' l : List β} (p : l'.Perm l) : ∀ t : List α, l = t.map f → ∃ t' : List α, t'.Perm t ∧ l' = t'.map f := by
  induction p with
  | nil => intro t h; exact ⟨[], by have : t = [] := by simpa using h.symm
                                    rw [this], rfl⟩
  | cons x p ih =>
    intro t h
    cases t with
    | nil => simp at h
    | cons a t =>
      simp only [List.map_cons, List.cons.injEq] at h
      obtain ⟨t', h1, h2⟩ := ih t h.2
      exact ⟨a :: t', h1.cons a, by rw [List.map_cons, ← h.1, h2]⟩
  | swap x y l =>
    intro t h
    match t, h with
    | [], h => simp at h
    | [_], h => simp at h
    | a :: b :: t, h =>
      simp only [List.map_cons, List.cons.injEq] at h
      exact ⟨b :: a :: t, .swap _ _ _, by simp [h.1, h.2.1, h.2.2]⟩
  | trans p q ih1 ih2 =>
    intro t h
    obtain ⟨t1, h1, h2⟩ := ih2 t h
    obtain ⟨t2, h3, h4⟩ := ih1 t1 h2
    exact ⟨t2, h3.trans h1, h4⟩
/-- what sorted by keys tells -/
noncomputable def SortedBy (ks : List Int) (xs ys : List V) : Prop := ∃ zs : List (Int × V), zs.Perm (ks.zip xs) ∧ zs.Pairwise (fun a b => a.1 ≤ b.1) ∧ ys = zs.map (·.2)
theorem sorted_out_key {ks : List Int} {xs : List V} {kv vs : List Value} {ar : Array Keyed} (hl : ks.length = xs.length) (rk : IntsAre kv ks) (rv : Vals xs vs) (hp : ar.Perm (kv.toArray.zip vs.toArray)) (hs : SortedTo ar (kv.toArray.zip vs.toArray).size) :
    ∃ ys, SortedBy ks xs ys ∧ Vals ys (ar.map (·.2)).toList := by
  -- all four together
  obtain ⟨t, e1, e2, ht⟩ : ∃ t : List ((Value × Value) × (Int × V)), t.map (·.1) = kv.zip vs ∧ t.map (·.2) = ks.zip xs ∧ ∀ q ∈ t, (∃ tk, q.1.1 = Value.int q.2.1 tk) ∧ RelV q.2.2 q.1.2 := by
    clear hp hs
    induction rk generalizing xs vs with
    | nil => exact ⟨[], by simp, by simp, fun q h => nomatch h⟩
    | cons n tk r ih =>
      cases rv with
      | nil => simp at hl
      | @cons x u xs vs h2 r2 =>
        obtain ⟨t, a, b, c⟩ := ih (by simpa using hl) r2
        refine ⟨((Value.int n tk, u), (n, x)) :: t, by rw [List.map_cons, a]; rfl, by rw [List.map_cons, b]; rfl, fun q hq => ?_⟩
        rcases List.mem_cons.mp hq with z | z
        · subst z; exact ⟨⟨_, rfl⟩, h2⟩
        · exact c q z
  have hp' : ar.toList.Perm (t.map (·.1)) := by rw [e1]; simpa using Array.perm_iff_toList_perm.mp hp
  obtain ⟨t', p', e'⟩ := perm_lift hp' t rfl
  have ht' : ∀ q ∈ t', (∃ tk, q.1.1 = Value.int q.2.1 tk) ∧ RelV q.2.2 q.1.2 := fun q hq => ht q (p'.mem_iff.mp hq)
  refine ⟨(t'.map (·.2)).map (·.2), ⟨t'.map (·.2), by rw [← e2]; exact p'.map _, ?_, rfl⟩, ?_⟩
  · rw [List.pairwise_map, List.pairwise_iff_getElem]
    intro i j hi hj hij
    have hsz : (kv.toArray.zip vs.toArray).size = t'.length := by rw [← Array.Perm.size_eq hp, ← Array.length_toList, e', List.length_map]
    have h := hs i j (Nat.le_of_lt hij) (by rw [hsz]; exact hj)
    have at_ : ∀ k (hk : k < t'.length), PyProof.Rows.K ar k = t'[k].2.1 := fun k hk => by
      have ea : ar[k]? = some t'[k].1 := by rw [← Array.getElem?_toList, e', List.getElem?_map, List.getElem?_eq_getElem hk]; rfl
      obtain ⟨⟨tk, q⟩, _⟩ := ht' t'[k] (List.getElem_mem hk)
      unfold PyProof.Rows.K
      rw [ea]
      show numOf t'[k].1.1 = _
      rw [q]; rfl
    rw [at_ i hi, at_ j hj] at h
    exact h
  · have : (ar.map (·.2)).toList = t'.map (·.1.2) := by rw [Array.toList_map, e', List.map_map]; rfl
    rw [this, List.map_map]
    clear this e' p' hp'
    have go : ∀ l : List ((Value × Value) × (Int × V)), (∀ q ∈ l, (∃ tk, q.1.1 = Value.int q.2.1 tk) ∧ RelV q.2.2 q.1.2) → Vals (l.map ((·.2) ∘ (·.2))) (l.map (·.1.2)) := by
      intro l
      induction l with
      | nil => intro _; exact .nil
      | cons q l ih => intro h; exact .cons (h q List.mem_cons_self).2 (ih fun x hx => h x (List.mem_cons_of_mem _ hx))
    exact go t' ht'

theorem ints_snoc : ∀ {vs : List Value} {ns : List Int} {n : Int} {t : Tok}, IntsAre vs ns → IntsAre (vs ++ [.int n t]) (ns ++ [n])
  | _, _, n, t, .nil => .cons n t .nil
  | _, _, _, _, .cons m u r => .cons m u (ints_snoc r)
theorem ints_len : ∀ {vs : List Value} {ns : List Int}, IntsAre vs ns → vs.length = ns.length
  | _, _, .nil => rfl
  | _, _, .cons _ _ r => by simp [ints_len r]
section
variable {X : Cx} {k : Nat} {f : Addr} {fd : FuncData} {ps : List Str} {sp : Sp} {dvs : List V} {ds : List Value} {pins : List (Addr × Obj)} {σ : St} {H : Hp} {s : Shared} {xs : List V} {ks : List Int}
theorem lsort_tree {A : Around} {E : Value → Shared → Prop} {a : Addr} {its : List Value} {n : Nat} {P : Fin → Shared → Prop} (F : FnOk X.prog X.w X.K X.mg X.base CX0 k f fd ps sp) (hr : Room k A)
    (hA : ∀ s H, Env0 X.prog X.w X.K X.mg X.base X.A X.stack s H → Env0 X.prog X.w X.K X.mg X.base A X.stack s H) (hb : Binds X.K fd ps ds) (hd : Vals dvs ds)
    (I : Inv X pins σ H s) (fa : FpOk X pins H a) (ho : s.heap.get? a = some (seqObj "list" its.toArray n)) (rv : Vals xs its) (h64 : xs.length < 64) (hl : ks.length = xs.length)
    (hk : ∀ (i : Nat) (x : V) (m : Int), xs[i]? = some x → ks[i]? = some m → ∀ Q' : VK, Q' (.int m) H → sp ([x] ++ dvs) H Q' E0)
    (fin : ∀ (s' : Shared) (ys : List V) (out : Array Value) (n' : Nat), Inv X pins σ H s' → s'.heap.get? a = some (seqObj "list" out n') → SortedBy ks xs ys → Vals ys out.toList → P (.done (.ret .none)) s') :
    wpAny (model X.prog X.w) A (Builtin.«list.sort» ⟨[.ref a], [(Str.ofString "key", .ref f)]⟩) P E s := by
  have hil : its.length = xs.length := rv.length.symm
  have hz : its.length ≤ sizeLine := by rw [sizeLine_eq]; omega
  obtain ⟨f0, f1, f2, f3, f4, f5⟩ := id fa
  rw [lsort_key]
  refine wpAny_bind (listItems_at ho rfl ?_)
  refine wpAny_bind (listUpdate_at ho rfl ?_ (by rw [List.size_toArray]; exact hz) (by show (#[] : Array Value).size ≤ _; simp))
  obtain ⟨e1, ho1⟩ : ∃ e1, (s.heap.update a (Obj.mapSeq fun _ => #[])).get? a = some (seqObj "list" #[] e1) := ⟨_, get?_update_seq ho (fun _ => #[])⟩
  have I1 : Inv X pins σ H { s with heap := s.heap.update a (Obj.mapSeq fun _ => #[]) } := I.turned (t' := s.toks) (fun b o hb e => by rw [Heap.get?_update_ne _ _ _ _ hb]; exact e) f0 f1 f3 f4 f5
  generalize s.heap.update a (Obj.mapSeq fun _ => #[]) = h1 at ho1 I1
  refine wpAny_bind (seqEpoch_at (s := { s with heap := h1 }) ho1 rfl ?_)
  refine wpAny_bind (wpAny_newTuple (s := { s with heap := h1 }) ?_ (by simpa using hz))
  have ho2 := Heap.get?_push_of_some (seqObj "tuple" its.toArray.toList.toArray 0) ho1
  have I2 : Inv X pins σ H { s with heap := h1.push (seqObj "tuple" its.toArray.toList.toArray 0) } := I1.kept (t' := s.toks) fun b o e => Heap.get?_push_of_some _ e
  change wpAny _ _ _ _ _ { s with heap := h1.push (seqObj "tuple" its.toArray.toList.toArray 0) }
  generalize h1.push (seqObj "tuple" its.toArray.toList.toArray 0) = h2 at ho2 I2
  refine wpAny_bind (wpAny_newList (s := { s with heap := h2 }) ?_ (by simp))
  have ho3 := Heap.get?_push_of_some (seqObj "list" #[] 0) ho2
  have hK3 : (h2.push (seqObj "list" #[] 0)).get? h2.objs.size = some (seqObj "list" #[] 0) := Heap.get?_push_size _ rfl
  have fK : FpOk X pins H h2.objs.size := I2.fpOk (Nat.le_refl _) (I2.hok.fresh (Nat.le_refl _))
  have naK : a ≠ h2.objs.size := Nat.ne_of_lt (Heap.lt_size ho2)
  have I3 : Inv X pins σ H { s with heap := h2.push (seqObj "list" #[] 0) } := I2.kept (t' := s.toks) fun b o e => Heap.get?_push_of_some _ e
  change wpAny _ _ _ _ _ { s with heap := h2.push (seqObj "list" #[] 0) }
  generalize h2.push (seqObj "list" #[] 0) = h3 at ho3 hK3 I3
  dsimp only
  generalize h2.objs.size = K at hK3 fK naK
  obtain ⟨g0, g1, g2, g3, g4, g5⟩ := id fK
  refine wpAny_holding ?_
  refine wpAny_bind (wpAny_rule ?_)
  refine wpAny_bind ?_
  rw [← Array.forIn_toList]
  refine wpAny_forIn_list _ (fun rest _ s' => ∃ (i : Nat) (kv : List Value) (n' : Nat), rest = its.drop i ∧ Inv X pins σ H s' ∧ s'.heap.get? a = some (seqObj "list" #[] e1) ∧ s'.heap.get? K = some (seqObj "list" kv.toArray n') ∧ IntsAre kv (ks.take i) ∧ i ≤ its.length) _ ?_ ?_ _ _
    ⟨0, [], 0, by simp, I3, ho3, hK3, by simpa using IntsAre.nil, Nat.zero_le _⟩
  · rintro x rest b s' ⟨i, kv, n', er, I', hoa, hoK, rk, hi⟩
    have hlt : i < its.length := by
      have := congrArg List.length er
      simp at this
      omega
    have e2 : its[i]? = some x ∧ its.drop (i + 1) = rest := by
      rw [List.drop_eq_getElem_cons hlt] at er
      obtain ⟨z1, z2⟩ := List.cons.inj er
      exact ⟨by rw [List.getElem?_eq_getElem hlt, z1], z2.symm⟩
    have hix : i < xs.length := by omega
    have hik : i < ks.length := by omega
    obtain ⟨u, eu, ru⟩ := rv.get (List.getElem?_eq_getElem hix)
    rw [e2.1] at eu
    cases eu
    have r1 : Vals ([xs[i]] ++ dvs) ([x] ++ ds) := Vals.append (.cons ru .nil) hd
    have hsp := hk i xs[i] ks[i] (List.getElem?_eq_getElem hix) (List.getElem?_eq_getElem hik) (fun v H' => v = .int ks[i] ∧ H' = H) ⟨rfl, rfl⟩
    have hlen : ([x] ++ ds).length = ps.length := by rw [← r1.length]; exact F.len _ _ _ _ hsp
    have ho2' : ∀ b ∈ [a, K], ∃ o, s'.heap.get? b = some o ∧ ∀ v, o.data ≠ .cell v := by
      intro b hb
      rcases List.mem_cons.mp hb with z | z
      · subst z; exact ⟨_, hoa, fun v z => nomatch z⟩
      · have z : b = K := by simpa using z
        subst z; exact ⟨_, hoK, fun v z => nomatch z⟩
    have hf2 : ∀ b ∈ [a, K], FpOk X pins H b := by
      intro b hb
      rcases List.mem_cons.mp hb with z | z
      · subst z; exact fa
      · have z : b = K := by simpa using z
        subst z; exact fK
    have Ip := I'.pinned hf2 ho2'
    refine wpAny_bind (wpAny_attempt ?_)
    refine wpAny_call (codeAny_mono (F.run A X.stack s' H ⟨[x], []⟩ ([x] ++ ds) ([xs[i]] ++ dvs) _ E0 hr (hA _ _ I'.env0) (hb s' [x] I'.kIn hlen) r1 hsp) fun r s2 hq => ?_)
    cases r with
    | error e => exact False.elim hq
    | ok fl =>
      cases fl with
      | next => exact False.elim hq
      | brk => exact False.elim hq
      | cont => exact False.elim hq
      | ret u =>
        obtain ⟨v, H', os, bare, un, hok, rr, ev, eH⟩ := (show CE X.stack X.prog X.w H s' _ u s2 from hq)
        subst ev eH
        obtain ⟨tk, rfl⟩ := (show ∃ t, u = Value.int ks[i] t from rr)
        have I2' := Ip.call' os un hok bare (fun b z => absurd z (by simp))
        have hoa2 := (I2'.pin (a, _) (List.mem_append_right _ (List.mem_append_right _ (mem_pinsAt (by simp) hoa)))).1
        have hoK2 := (I2'.pin (K, _) (List.mem_append_right _ (List.mem_append_right _ (mem_pinsAt (by simp) hoK)))).1
        have I3' := I2'.unpinned
        have hkl : kv.length ≤ 64 := by
          have := ints_len rk
          rw [List.length_take] at this
          omega
        dsimp only
        refine wpAny_bind (listUpdate_at hoK2 rfl ?_ (by rw [List.size_toArray, sizeLine_eq]; omega) (by rw [Array.size_push, List.size_toArray, sizeLine_eq]; omega))
        obtain ⟨n2, hn2⟩ : ∃ n2, (s2.heap.update K (Obj.mapSeq (·.push (Value.int ks[i] tk)))).get? K = some (seqObj "list" (kv ++ [Value.int ks[i] tk]).toArray n2) := ⟨_, (get?_update_seq hoK2 (·.push (Value.int ks[i] tk))).trans (by rw [List.push_toArray])⟩
        refine wpAny_pure ⟨i + 1, kv ++ [Value.int ks[i] tk], n2, e2.2.symm, I3'.turned (t' := s2.toks) (fun b o hb e => by rw [Heap.get?_update_ne _ _ _ _ hb]; exact e) g0 g1 g3 g4 g5, ?_, hn2, ?_, hlt⟩
        · show (s2.heap.update K _).get? a = _
          rw [Heap.get?_update_ne _ _ _ _ naK]; exact hoa2
        · rw [List.take_succ_eq_append_getElem hik]
          exact ints_snoc rk
  · rintro b s' ⟨i, kv, n', er, I', hoa, hoK, rk, hi⟩
    have hi' : i = its.length := by
      have := congrArg List.length er
      simp at this
      omega
    have rk' : IntsAre kv ks := by
      rw [hi', List.take_of_length_le (by omega)] at rk
      exact rk
    have hkl : kv.length = its.length := by rw [ints_len rk']; omega
    clear rk er hi hi'
    refine wpAny_bind (listItems_at hoK rfl ?_)
    have last : ∀ st' : SortSt, (arrOf st').Perm (kv.toArray.zip its.toArray) → failedOf st' = none → SortedTo (arrOf st') (kv.toArray.zip its.toArray).size → wpAny (model X.prog X.w) A (do
        Builtin.List.listUpdate (.ref K) fun _ => #[]
        letGo ((arrOf st').map (·.1)).toList (failedOf st').toList
        let touched := (← seqEpoch a) != e1
        Builtin.List.listUpdate (.ref a) fun _ => (arrOf st').map (·.2)
        if let some e := failedOf st' then rule "list.sort.comparison-raised"; throw e
        if touched then rule "list.sort.modified"; raiseError "ValueError" "list modified during sort"
        ret .none) P E s' := by
      intro st' hp hf hs
      obtain ⟨ys, sb, vy⟩ := sorted_out_key hl rk' rv hp hs
      have hsz : ((arrOf st').map (·.2)).size = its.length := by
        rw [Array.size_map, hp.size_eq, Array.size_zip, List.size_toArray, List.size_toArray, hkl, Nat.min_self]
      refine wpAny_bind (listUpdate_at hoK rfl ?_ (by rw [List.size_toArray]; omega) (by show (#[] : Array Value).size ≤ _; simp))
      refine wpAny_bind (wpAny_letGo ?_)
      have hoa2 : (s'.heap.update K (Obj.mapSeq fun _ => #[])).get? a = some (seqObj "list" #[] e1) := by rw [Heap.get?_update_ne _ _ _ _ naK]; exact hoa
      have I2 : Inv X pins σ H { s' with heap := s'.heap.update K (Obj.mapSeq fun _ => #[]) } := I'.turned (t' := s'.toks) (fun b o hb e => by rw [Heap.get?_update_ne _ _ _ _ hb]; exact e) g0 g1 g3 g4 g5
      refine wpAny_bind (seqEpoch_at (s := { s' with heap := s'.heap.update K (Obj.mapSeq fun _ => #[]) }) hoa2 rfl ?_)
      refine wpAny_bind (listUpdate_at (s := { s' with heap := s'.heap.update K (Obj.mapSeq fun _ => #[]) }) hoa2 rfl ?_ (by simp) (by rw [hsz]; omega))
      rw [hf]
      simp only [bne_self_eq_false, Bool.false_eq_true, if_false]
      exact wpAny_pure (fin _ ys _ _ (I2.turned (t' := s'.toks) (fun b o hb e => by rw [Heap.get?_update_ne _ _ _ _ hb]; exact e) f0 f1 f3 f4 f5) (get?_update_seq hoa2 (fun _ => (arrOf st').map (·.2))) sb vy)
    by_cases h2 : its.toArray.size < 2
    · rw [if_pos h2, if_pos h2]
      refine wpAny_bind (wpAny_pure ?_)
      rw [StateT.run_pure]
      refine wpAny_bind (wpAny_pure ?_)
      refine last (SortSt.mk' general' (kv.toArray.zip its.toArray) #[] 7 none) (Array.Perm.refl _) rfl ?_
      intro i j hij hj
      rw [Array.size_zip, List.size_toArray, List.size_toArray] at hj
      rw [List.size_toArray] at h2
      have : i = j := by omega
      subst this; exact Int.le_refl _
    · rw [if_neg h2, if_neg h2]
      obtain ⟨v₁, v₂, rest, rfl⟩ : ∃ v₁ v₂ rest, kv = v₁ :: v₂ :: rest := by
        rw [List.size_toArray] at h2
        match kv, hkl with
        | [], h => simp at h; omega
        | [_], h => simp at h; omega
        | v₁ :: v₂ :: rest, _ => exact ⟨v₁, v₂, rest, rfl⟩
      rw [keyKind_ints rk']
      refine wpAny_bind (wpAny_pure ?_)
      have hzz : ((v₁ :: v₂ :: rest).toArray.zip its.toArray).size = its.length := by rw [Array.size_zip, List.size_toArray, List.size_toArray, hkl, Nat.min_self]
      have hik : IntKeys ((v₁ :: v₂ :: rest).toArray.zip its.toArray) := by
        intro p hp
        have hp : p ∈ (v₁ :: v₂ :: rest).zip its := by simpa using hp
        have := (List.of_mem_zip hp).1
        obtain ⟨m, t, e⟩ := rk'.all _ this
        exact ⟨m, t, e⟩
      rw [List.size_toArray] at h2
      refine wpAny_bind (wpAny_mono (wpS_sortRuns (a₀ := (v₁ :: v₂ :: rest).toArray.zip its.toArray) (st := SortSt.mk' oneType' ((v₁ :: v₂ :: rest).toArray.zip its.toArray) #[] 7 none)
        (Q := fun _ st' => (arrOf st').Perm ((v₁ :: v₂ :: rest).toArray.zip its.toArray) ∧ failedOf st' = none ∧ SortedTo (arrOf st') ((v₁ :: v₂ :: rest).toArray.zip its.toArray).size)
        hik ⟨Array.Perm.refl _, rfl, rfl, rfl⟩ (by rw [hzz]; omega) (by rw [hzz]; omega) fun st' a1 a2 a3 => ⟨a1, a2, a3⟩) ?_ fun _ _ e => e)
      rintro ⟨⟨⟩, st'⟩ s2 ⟨rfl, hp, hf, hs⟩
      exact last st' hp hf hs
theorem call_sortedK {Q : VK} {l : Addr} (F : FnOk X.prog X.w X.K X.mg X.base CX0 k f fd ps sp) (hr : Room (k + 2) X.A) (hb : Binds X.K fd ps ds) (hd : Vals dvs ds)
    (I : Inv X pins σ H s) (hq : SqL X.K H l xs) (h64 : xs.length < 64) (hl : ks.length = xs.length)
    (hk : ∀ (i : Nat) (x : V) (m : Int), xs[i]? = some x → ks[i]? = some m → ∀ Q' : VK, Q' (.int m) H → sp ([x] ++ dvs) H Q' E0)
    (q : ∀ p ys, H p = none → SortedBy ks xs ys → Q (.ref p) (upd H p (.lst ys))) :
    wpAny (model X.prog X.w) X.A (call (.builtin "sorted") [.ref l] [(Str.ofString "key", .ref f)]) (EP X pins σ Q) X.xe s := by
  obtain ⟨its, rv, pl, hz⟩ := I.list hq
  have hil : its.length = xs.length := rv.length.symm
  refine call_function_entry_kw kind_sorted plain_sorted entry_sorted (args_sorted_key _ _) ?_
  unfold Builtin.«sorted»
  refine wpAny_bind (m := checkCount "sorted" 1 1 _) (wpAny_pure ?_)
  refine wpAny_bind (collect_list pl.isList ?_ (by rw [hil]; exact hz))
  have I1 : Inv X pins σ H { s with heap := (s.heap.push (seqObj "list" #[] 0)).update s.heap.objs.size (Obj.mapSeq (· ++ its.toArray)) } := I.kept (t' := s.toks) fun b o e => by
    rw [Heap.get?_update_ne _ _ _ _ (Nat.ne_of_lt (Heap.lt_size e))]
    exact Heap.get?_push_of_some _ e
  generalize (s.heap.push (seqObj "list" #[] 0)).update s.heap.objs.size (Obj.mapSeq (· ++ its.toArray)) = h1 at I1
  refine wpAny_bind (wpAny_newList (s := { s with heap := h1 }) ?_ (by rw [hil]; exact hz))
  have hoL : (h1.push (seqObj "list" its.toArray 0)).get? h1.objs.size = some (seqObj "list" its.toArray 0) := Heap.get?_push_size _ rfl
  have I2 : Inv X pins σ H { s with heap := h1.push (seqObj "list" its.toArray 0) } := I1.kept (t' := s.toks) fun b o e => Heap.get?_push_of_some _ e
  have fL : FpOk X pins H h1.objs.size := I1.fpOk (Nat.le_refl _) (I1.hok.fresh (Nat.le_refl _))
  change wpAny _ _ _ _ _ { s with heap := h1.push (seqObj "list" its.toArray 0) }
  dsimp only
  generalize h1.push (seqObj "list" its.toArray 0) = h2 at hoL I2
  generalize h1.objs.size = L at hoL fL
  have hr2 : Room k X.A.in1.in1 := (Room.in1 (k := k + 1) hr).in1
  refine wpAny_bind (wpAny_holding (wpAny_call_entry_kw (s := { s with heap := h2 }) slot_list_sort ⟨_, hoL, rfl⟩ entry_list_sort (lsort_tree F hr2 (fun _ _ e => e.in1.in1) hb hd I2 fL hoL rv h64 hl hk fun s' ys out n' I' hoa sb vy => ⟨_, rfl, ?_⟩) (args_lsort_key _ _)))
  refine wpAny_pure ⟨_, rfl, .ref L, upd H L (.lst ys), I'.adopt fL ?_, rfl, q L ys fL.1 sb⟩
  have hyl : ys.length ≤ sizeLine := by
    obtain ⟨zs, p, _, e⟩ := sb
    rw [e, List.length_map, p.length_eq, List.length_zip]
    omega
  exact ⟨hyl, out.toList, n', vy, by simpa using hoa⟩
end
/-- sorted(e, key=f) -/
noncomputable def tSortK (sp : Sp) (dvs : List V) (K : PySem.W.Frag) (t : TE) : TE := fun σ H Q => t σ H fun x H1 => ∃ (l : Addr) (xs : List V) (ks : List Int), x = .ref l ∧ SqL K H1 l xs ∧ xs.length < 64 ∧ ks.length = xs.length ∧
  (∀ (i : Nat) (x : V) (m : Int), xs[i]? = some x → ks[i]? = some m → ∀ Q' : VK, Q' (.int m) H1 → sp ([x] ++ dvs) H1 Q' E0) ∧ ∀ p ys, H1 p = none → SortedBy ks xs ys → Q (.ref p) (upd H1 p (.lst ys))
theorem pe_sortK {X : Cx} {k : Nat} {f : Addr} {fd : FuncData} {ps : List Str} {sp : Sp} {dvs : List V} {ds : List Value} {K : PySem.W.Frag} {e : Expr} {t : TE} {y : Str} {p p2 p3 pos : Pos} (hK : X.K = K) (F : FnOk X.prog X.w X.K X.mg X.base CX0 k f fd ps sp) (hr : Room (k + 2) X.A) (hb : Binds X.K fd ps ds) (hd : Vals dvs ds)
    (hg : Gl X "sorted") (hm : X.mg "sorted" = none) (hgf : Gl X y) (hmf : X.mg y = some (.ref f)) (he : PE X e t) (hy : (y == ("__debug__" : Str)) = false := by decide)
    (hs : starEach [e] X.env = (false, eval e X.env) :: starEach [] X.env := by rfl) :
    PE X (.Call (.Name "sorted" p) [e] [⟨some "key", .Name y p2, p3⟩] pos) (tSortK sp dvs K t) := by
  intro pins s σ H Q I h
  subst hK
  refine wpAny_Call_Name_kw (ld_blt I hg hm (show bootBuiltins "sorted" = some (.builtin "sorted") from by decide +kernel) ?_)
  refine callWith_kw ?_ (by rw [hs]; rfl) (by rw [hs]; rfl)
  rw [hs]
  show wpAny _ _ (spliced ((false, eval e X.env) :: backTo pos (starEach [] X.env))) _ _ s
  refine Calls.spliced_cons (thn (he pins s σ H _ I h) fun u s1 ⟨x, H1, I1, r1, q1⟩ => Calls.spliced_nil ?_)
  obtain ⟨l, xs, ks, e1, hq, h64, hl, hk, q⟩ := q1
  subst e1
  cases (show u = Value.ref l from r1)
  refine thn ((pk_cons (te := fun _ H Q => Q (.ref f) H) (fun pins s σ H Q I h => ld_glob I hgf hmf ⟨.ref f, H, I, rfl, h⟩ hy) pk_nil) pos pins s1 σ H1 (fun zs H2 => zs = [.ref f] ∧ H2 = H1) I1 ⟨rfl, rfl⟩) fun ws s2 hsl47 => ?_
  obtain ⟨zs, H2, I2, rz, ez, eH⟩ := hsl47
  subst ez eH
  obtain ⟨u, rfl, ru⟩ := vals1 rz
  cases (show u = Value.ref f from ru)
  exact call_sortedK F hr hb hd I2 hq h64 hl hk q
end L2

set_option Elab.async false
set_option linter.all false
set_option maxRecDepth 100000
set_option maxHeartbeats 4000000
namespace L2
open PySem PySem.Spec PyProof.Rows
/-! ### a dict whose keys are whole numbers, texts and tuples of these, as they come -/
noncomputable abbrev MKey := Sum Key (List Key)
noncomputable def kD : Key → PyData
  | .inl i => .int i
  | .inr x => .str x
noncomputable def mD : MKey → PyData
  | .inl k => kD k
  | .inr ks => .tuple (ks.map kD)
section
variable (P : Program) (w : World)
noncomputable def mH : MKey → Int
  | .inl k => (mixKind P w).hash k
  | .inr ks => tupleKeyHash (mixKind P w) ks
noncomputable def mDraw : MKey → Nat
  | .inl _ => 1
  | .inr ks => ks.length + 1
noncomputable def MIs (h : Heap) (k : MKey) (v : Value) : Prop := (mD k).canLay0 = true ∧ match k with
  | .inl k => (mixKind P w).is k v = true
  | .inr ks => ∃ b, v = .ref b ∧ IsTupleKey (mixKind P w) h ks b
end
theorem kD_eqv (x y : Key) : PyData.eqv (kD x) (kD y) = decide (x = y) := by
  cases x with
  | inl i =>
    cases y with
    | inl j => simp only [kD, PyData.eqv, Sum.inl.injEq]; by_cases h : i = j <;> simp [h]
    | inr y => simp [kD, PyData.eqv]
  | inr x =>
    cases y with
    | inl j => simp [kD, PyData.eqv]
    | inr y => simp only [kD, PyData.eqv, Sum.inr.injEq]; by_cases h : x = y <;> simp [h]
theorem kDs_eqv : ∀ xs ys : List Key, PyData.eqvAll (xs.map kD) (ys.map kD) = decide (xs = ys)
  | [], [] => by simp [PyData.eqvAll]
  | [], _ :: _ => by simp [PyData.eqvAll]
  | _ :: _, [] => by simp [PyData.eqvAll]
  | x :: xs, y :: ys => by
    simp only [List.map_cons, PyData.eqvAll, kD_eqv, kDs_eqv xs ys, List.cons.injEq]
    by_cases h : x = y <;> simp [h]
theorem mD_eqv (x y : MKey) : PyData.eqv (mD x) (mD y) = decide (x = y) := by
  cases x with
  | inl x =>
    cases y with
    | inl y => simp only [mD, kD_eqv, Sum.inl.injEq]
    | inr y => cases x <;> simp [mD, kD, PyData.eqv]
  | inr x =>
    cases y with
    | inl y => cases y <;> simp [mD, kD, PyData.eqv]
    | inr y => simp only [mD, PyData.eqv, kDs_eqv, Sum.inr.injEq]
theorem kD_depth : ∀ ks : List Key, PyData.depthAll (ks.map kD) = 0
  | [] => rfl
  | k :: r => by
    have e : (kD k).depth = 0 := by cases k <;> rfl
    simp only [List.map_cons, PyData.depthAll, e, kD_depth r]
    rfl
theorem mD_depth (k : MKey) : (mD k).depth ≤ 1 := by
  cases k with
  | inl k => cases k <;> exact Nat.zero_le _
  | inr ks => simp only [mD, PyData.depth, kD_depth]; omega
section
variable {P : Program} {w : World} {A : Around} {E : Value → Shared → Prop} {s : Shared} {h h' : Heap} {k k' : MKey} {v u : Value}
theorem items_read : ∀ {ks : List Key} {vs : List Value}, ItemsAre (mixKind P w) ks vs → ∃ as, ReadsAll h vs (ks.map kD) as
  | _, _, .nil => ⟨_, .nil⟩
  | _, _, .cons (k := k) h1 t => by
    obtain ⟨as, ra⟩ := items_read t
    rcases keyIs_shape (show keyIs k _ = true from h1) with ⟨i, t, e, ev⟩ | ⟨x, t, e, ev⟩
    · subst e ev; exact ⟨_, .cons (.int i t) ra⟩
    · subst e ev; exact ⟨_, .cons (.str x t) ra⟩
theorem MIs.reads (m : MIs P w h k v) : ∃ as, Reads h v (mD k) as := by
  obtain ⟨_, m⟩ := m
  cases k with
  | inl k =>
    rcases keyIs_shape (show keyIs k v = true from m) with ⟨i, t, e, ev⟩ | ⟨x, t, e, ev⟩
    · subst e ev; exact ⟨_, .int i t⟩
    · subst e ev; exact ⟨_, .str x t⟩
  | inr ks =>
    obtain ⟨b, rfl, o, items, n, ho, hc, hd, hi⟩ := m
    obtain ⟨as, ra⟩ := items_read (h := h) hi
    exact ⟨_, .tuple ho hc hd ra⟩
theorem MIs.inj (m : MIs P w h k v) (m' : MIs P w h k' v) : k = k' := by
  obtain ⟨_, m⟩ := m
  obtain ⟨_, m'⟩ := m'
  cases k with
  | inl k =>
    cases k' with
    | inl k' => rw [(mixKind P w).inj _ _ _ m m']
    | inr ks =>
      obtain ⟨b, rfl, _⟩ := m'
      rcases keyIs_shape (show keyIs k _ = true from m) with ⟨i, t, _, ev⟩ | ⟨x, t, _, ev⟩ <;> cases ev
  | inr ks =>
    obtain ⟨b, rfl, m⟩ := m
    cases k' with
    | inl k' => rcases keyIs_shape (show keyIs k' _ = true from m') with ⟨i, t, _, ev⟩ | ⟨x, t, _, ev⟩ <;> cases ev
    | inr ks' =>
      obtain ⟨b', e, m'⟩ := m'
      cases e
      rw [m.inj m']
theorem MIs.keeps {d : Addr} {o : Obj} {es : Array DictEntry} {ep : Nat} (m : MIs P w h k v) (ho : h.get? d = some o) (hd : o.data = .dict es ep) (hs : Heap.SameBut d h h') : MIs P w h' k v := by
  obtain ⟨c, m⟩ := m
  refine ⟨c, ?_⟩
  cases k with
  | inl k => exact m
  | inr ks => obtain ⟨b, e, m⟩ := m; exact ⟨b, e, m.keeps ho hd hs⟩
theorem MIs.hash {Q : Int → Shared → Prop} (hu : A.units < cLine) (m : MIs P w s.heap k v) (q : Q (mH P w k) { s with toks := s.toks + mDraw k }) : wpAny (model P w) A (pyHash v) Q E s := by
  obtain ⟨_, m⟩ := m
  cases k with
  | inl k => exact (mixKind P w).pyHash m q
  | inr ks => obtain ⟨b, rfl, m⟩ := m; exact wpAny_pyHash_tuple hu m q
theorem MIs.eq {Q : Bool → Shared → Prop} (hu : A.units + 64 < cLine) (m : MIs P w s.heap k v) (m' : MIs P w s.heap k' u) (q : Q (decide (k = k')) s) : wpAny (model P w) A (eqBool v u) Q E s := by
  obtain ⟨as, ra⟩ := m.reads
  obtain ⟨bs, rb⟩ := m'.reads
  exact SeqAt.eqBoolOverData P w A E s v u _ _ as bs Q ra rb m.1 m'.1 (by have := mD_depth k; omega) (by rw [mD_eqv]; exact q)
theorem MIs.quiet {Q : Bool → Shared → Prop} (m : MIs P w s.heap k v) (q : Q true s) : wpAny (model P w) A (eqIsQuiet 8 v) Q E s := by
  obtain ⟨_, m⟩ := m
  cases k with
  | inl k => rw [eqIsQuiet_byValue 8 ((mixKind P w).byValue k v m)]; exact wpAny_pure q
  | inr ks => obtain ⟨b, rfl, m⟩ := m; exact wpAny_eqIsQuiet_tuple m q
/-! the entries -/
noncomputable abbrev MEnt := MKey × Value × Value
noncomputable def mEnt (P : Program) (w : World) (x : MEnt) : DictEntry := ⟨mH P w x.1, x.2.1, x.2.2⟩
theorem ment_at {es : Array DictEntry} {xs : List MEnt} (he : es.toList = xs.map (mEnt P w)) (j : Nat) : es[j]? = (xs[j]?).map (mEnt P w) := by
  have e : es[j]? = es.toList[j]? := by simp
  rw [e, he, List.getElem?_map]
theorem ment_size {es : Array DictEntry} {xs : List MEnt} (he : es.toList = xs.map (mEnt P w)) : es.size = xs.length := by
  have e : es.size = es.toList.length := by simp
  rw [e, he, List.length_map]
theorem ment_one {xs : List MEnt} (hn : (xs.map (·.1)).Nodup) {i j : Nat} {k : MKey} {p q : Value × Value} (hi : xs[i]? = some (k, p)) (hj : xs[j]? = some (k, q)) : i = j := by
  have a : (xs.map (·.1))[i]? = some k := by rw [List.getElem?_map, hi]; rfl
  have b : (xs.map (·.1))[j]? = some k := by rw [List.getElem?_map, hj]; rfl
  exact (List.getElem?_inj (List.getElem?_eq_some_iff.mp a).1 hn).mp (a.trans b.symm)
noncomputable abbrev places (P : Program) (w : World) (es : Array DictEntry) (k : MKey) : List Nat := placesWithHash es.size (fun i => es[i]?.map (·.hash)) (mH P w k)
theorem mix_plain {d : Addr} {o : Obj} {es : Array DictEntry} {ep : Nat} {xs : List MEnt} {Q : Option Nat → Shared → Prop} (hu : A.units + 64 < cLine) (hk : MIs P w s.heap k v) (ho : s.heap.get? d = some o) (hd : o.data = .dict es ep)
    (he : es.toList = xs.map (mEnt P w)) (his : ∀ x ∈ xs, MIs P w s.heap x.1 x.2.1) (hnone : (∀ (j : Nat) (p : Value × Value), xs[j]? ≠ some (k, p)) → Q none s) (hsome : ∀ (j : Nat) (p : Value × Value), xs[j]? = some (k, p) → Q (some j) s) :
    wpAny (model P w) A (dictWalkPlain d v (mH P w k) es (places P w es k)) Q E s := by
  have hsz := ment_size he
  have hkey : ∀ (j : Nat) (p : Value × Value), xs[j]? = some (k, p) → ((es[j]?.map (·.hash)) == some (mH P w k)) = true := fun j p hj => by
    rw [ment_at he j, hj]; simp [mEnt]
  unfold dictWalkPlain
  refine wpAny_bind ?_
  refine wpAny_forIn_list _ (fun rest b s' => s' = s ∧ b = (none, ()) ∧ ∃ i, rest = (List.range' i (es.size - i)).filter (fun i => (es[i]?.map (·.hash)) == some (mH P w k)) ∧ i ≤ es.size ∧ ∀ j p, j < i → xs[j]? ≠ some (k, p)) _ ?_ ?_ _ _
    ⟨rfl, rfl, 0, by rw [places, placesWithHash, List.range_eq_range', Nat.sub_zero], Nat.zero_le _, fun _ _ h => absurd h (Nat.not_lt_zero _)⟩
  · rintro x rest b s' ⟨rfl, rfl, i, hr, hi, hno⟩
    obtain ⟨hix, hxn, hpx, hskip, hrest⟩ := filter_range'_cons _ _ _ _ _ hr.symm
    have hlt : x < es.size := by omega
    obtain ⟨⟨k2, b2, v2⟩, hkv⟩ : ∃ y, xs[x]? = some y := ⟨xs[x]'(by rw [← hsz]; exact hlt), List.getElem?_eq_getElem _⟩
    have hib : MIs P w s'.heap k2 b2 := his _ (List.mem_of_getElem? hkv)
    have hex : es[x]? = some ⟨mH P w k2, b2, v2⟩ := by rw [ment_at he x, hkv]; rfl
    have hno' : ∀ j p, j < x → xs[j]? ≠ some (k, p) := fun j p hjx hj => by
      rcases Nat.lt_or_ge j i with h | h
      · exact hno j p h hj
      · have := hskip j h hjx
        rw [hkey j p hj] at this
        exact absurd this (by decide)
    have hnext : k2 ≠ k → ∃ i, rest = (List.range' i (es.size - i)).filter (fun i => (es[i]?.map (·.hash)) == some (mH P w k)) ∧ i ≤ es.size ∧ ∀ j p, j < i → xs[j]? ≠ some (k, p) := fun hne =>
      ⟨x + 1, by rw [hrest]; congr 2; omega, hlt, fun j p hjx hj => by
        rcases Nat.lt_or_ge j x with h | h
        · exact hno' j p h hj
        · have z : j = x := by omega
          subst z
          rw [hkv] at hj
          cases hj
          exact hne rfl⟩
    rw [hex]
    dsimp only
    by_cases hh : (mH P w k2 == mH P w k) = true
    · rw [if_pos hh]
      refine wpAny_bind (wpAny_dictEpoch ho hd (wpAny_bind (MIs.eq hu hib hk (wpAny_bind (wpAny_dictEpoch ho hd ?_)))))
      rw [if_neg (by simp)]
      by_cases hkk : k2 = k
      · rw [decide_eq_true hkk]
        subst hkk
        exact wpAny_bind (wpAny_rule (wpAny_pure (wpAny_pure (hsome x _ hkv))))
      · rw [decide_eq_false hkk]
        exact wpAny_bind (wpAny_rule (wpAny_pure ⟨rfl, rfl, hnext hkk⟩))
    · rw [if_neg hh]
      refine wpAny_pure ⟨rfl, rfl, hnext fun hkk => ?_⟩
      rw [hkk] at hh; simp at hh
  · rintro b s' ⟨rfl, rfl, i, hr, hi, hno⟩
    refine wpAny_pure (hnone fun j p hj => ?_)
    rcases Nat.lt_or_ge j i with h | h
    · exact hno j p h hj
    · have hjl : j < es.size := by rw [hsz]; exact (List.getElem?_eq_some_iff.mp hj).1
      have := List.filter_eq_nil_iff.mp hr.symm j (List.mem_range'_1.mpr ⟨h, by omega⟩)
      exact this (hkey j p hj)
theorem mix_quiet {stored : List Value} {Q : Bool → Shared → Prop} (hk : MIs P w s.heap k v) (hst : ∀ x ∈ stored, ∃ k', MIs P w s.heap k' x) (q : Q false s) : wpAny (model P w) A (tableMayTell v stored) Q E s := by
  unfold tableMayTell
  split
  · exact wpAny_pure q
  · refine wpAny_bind (hk.quiet ?_)
    simp only [Bool.not_true, Bool.false_eq_true, if_false]
    refine wpAny_bind ?_
    refine wpAny_forIn_list _ (fun rest r s' => s' = s ∧ r = (none, ()) ∧ ∀ x ∈ rest, ∃ k', MIs P w s.heap k' x) _ ?_ ?_ _ _ ⟨rfl, rfl, hst⟩
    · rintro x rest r s' ⟨rfl, rfl, hr⟩
      obtain ⟨k2, hb⟩ := hr x List.mem_cons_self
      refine wpAny_bind (hb.quiet ?_)
      simp only [Bool.not_true, Bool.false_eq_true, if_false]
      exact wpAny_pure ⟨rfl, rfl, fun y hy => hr y (List.mem_cons_of_mem _ hy)⟩
    · rintro r s' ⟨rfl, rfl, _⟩
      exact wpAny_pure q
theorem mix_str {x : Str} {t : Tok} (m : MIs P w h k (.str x t)) : k = .inl (.inr x) := by
  obtain ⟨_, m⟩ := m
  cases k with
  | inl k => rcases keyIs_shape (show keyIs k _ = true from m) with ⟨i, t, _, ev⟩ | ⟨x, t, e, ev⟩ <;> cases ev; rw [e]
  | inr ks => obtain ⟨b, e, _⟩ := m; cases e
theorem mix_isStr {x : Str} (m : MIs P w h k v) : v.isStr x = decide (k = .inl (.inr x)) := by
  have e : (mixKind P w).is (.inr x) v = v.isStr x := (mixKind P w).strs (.inr x) x 0 v (mixKind_str P w x 0)
  obtain ⟨_, m⟩ := m
  rw [← e]
  cases k with
  | inl k =>
    rw [KeyKind.is_eq_decide m (.inr x)]
    by_cases h : (Sum.inr x : Key) = k
    · rw [decide_eq_true h, decide_eq_true (by rw [h])]
    · rw [decide_eq_false h, decide_eq_false fun z => h (Sum.inl.inj z).symm]
  | inr ks =>
    obtain ⟨b, rfl, _⟩ := m
    rw [decide_eq_false (fun z => nomatch z)]
    cases q : (mixKind P w).is (.inr x) (.ref b) with
    | false => rfl
    | true => rcases keyIs_shape (show keyIs (.inr x) (.ref b) = true from q) with ⟨i, t, _, ev⟩ | ⟨x, t, _, ev⟩ <;> cases ev
theorem ite_both {α : Type} {c : Prop} [Decidable c] {a b : Sem α} {Q : α → Shared → Prop} {M : Model} (ha : wpAny M A a Q E s) (hb : wpAny M A b Q E s) : wpAny M A (if c then a else b) Q E s := by
  by_cases h : c
  · rw [if_pos h]; exact ha
  · rw [if_neg h]; exact hb
theorem mix_find {d : Addr} {o : Obj} {es : Array DictEntry} {ep : Nat} {xs : List MEnt} {Q : Option Nat → Shared → Prop} (hu : A.units + 64 < cLine) (hk : MIs P w s.heap k v) (ho : s.heap.get? d = some o) (hd : o.data = .dict es ep)
    (he : es.toList = xs.map (mEnt P w)) (his : ∀ x ∈ xs, MIs P w s.heap x.1 x.2.1) (hn : (xs.map (·.1)).Nodup) (hnone : (∀ (j : Nat) (p : Value × Value), xs[j]? ≠ some (k, p)) → Q none s) (hsome : ∀ (j : Nat) (p : Value × Value), xs[j]? = some (k, p) → Q (some j) s) :
    wpAny (model P w) A (dictFind d v (mH P w k)) Q E s := by
  have hsz := ment_size he
  have hkey : ∀ (j : Nat) (p : Value × Value), xs[j]? = some (k, p) → ((es[j]?.map (·.hash)) == some (mH P w k)) = true := fun j p hj => by
    rw [ment_at he j, hj]; simp [mEnt]
  have hmem : ∀ e ∈ es, ∃ x ∈ xs, e = mEnt P w x := fun e hin => by
    have z : e ∈ xs.map (mEnt P w) := by rw [← he]; exact Array.mem_toList_iff.mpr hin
    obtain ⟨x, hx, z⟩ := List.mem_map.mp z
    exact ⟨x, hx, z.symm⟩
  have hst : ∀ y ∈ (places P w es k).filterMap (fun i => es[i]?.map (·.key)), ∃ k', MIs P w s.heap k' y := fun y hy => by
    obtain ⟨i, _, hi⟩ := List.mem_filterMap.mp hy
    cases hei : es[i]? with
    | none => rw [hei] at hi; cases hi
    | some e =>
      rw [hei] at hi
      have hi : e.key = y := by simpa using hi
      obtain ⟨x, hx, z⟩ := hmem e (Array.mem_of_getElem? hei)
      subst z hi
      exact ⟨x.1, his x hx⟩
  have plain := mix_plain (E := E) hu hk ho hd he his hnone hsome
  have byv : ∀ (x : Str) (t : Tok), v = .str x t → wpAny (model P w) A (foundByValue d v es x) Q E s := fun x t ev => by
    subst ev
    have ek := mix_str hk
    subst ek
    unfold foundByValue
    cases hf : es.findIdx? (fun e => e.key.isStr x) with
    | none =>
      refine wpAny_pure (hnone fun j p hj => ?_)
      have hjl : j < es.size := by rw [hsz]; exact (List.getElem?_eq_some_iff.mp hj).1
      have z := Array.findIdx?_eq_none_iff.mp hf es[j] (Array.getElem_mem hjl)
      have e2 : es[j] = mEnt P w (.inl (.inr x), p) := by
        have := ment_at (P := P) (w := w) he j
        rw [Array.getElem?_eq_getElem hjl, hj] at this
        exact Option.some.inj this
      rw [e2] at z
      have z : p.1.isStr x = false := z
      rw [mix_isStr (his _ (List.mem_of_getElem? hj)), decide_eq_true rfl] at z
      exact nomatch z
    | some i =>
      obtain ⟨hlt, hi, _⟩ := Array.findIdx?_eq_some_iff_getElem.mp hf
      obtain ⟨⟨k2, b2, v2⟩, hkv⟩ : ∃ y, xs[i]? = some y := ⟨xs[i]'(by rw [← hsz]; exact hlt), List.getElem?_eq_getElem _⟩
      have e2 : es[i] = mEnt P w (k2, b2, v2) := by
        have := ment_at (P := P) (w := w) he i
        rw [Array.getElem?_eq_getElem hlt, hkv] at this
        exact Option.some.inj this
      have hib := his _ (List.mem_of_getElem? hkv)
      rw [e2] at hi
      have hi : b2.isStr x = true := hi
      rw [mix_isStr hib] at hi
      have ek : k2 = .inl (.inr x) := of_decide_eq_true hi
      subst ek
      simp only [Array.getElem?_eq_getElem hlt, e2]
      refine wpAny_bind (wpAny_dictEpoch ho hd (wpAny_bind (MIs.eq hu hib hk (wpAny_bind (wpAny_dictEpoch ho hd ?_)))))
      rw [if_neg (by simp), decide_eq_true rfl]
      exact wpAny_bind (wpAny_rule (wpAny_pure (hsome i _ hkv)))
  unfold dictFind
  try with_reducible refine wpAny_holding ?_
  refine wpAny_bind (wpAny_dictEntries ho hd ?_)
  dsimp only
  by_cases hall : ((v :: (places P w es k).filterMap fun i => es[i]?.map (·.key)).all carriedByValue) = true
  · rw [if_pos hall]
    split
    · rename_i x t
      split
      · exact byv x t rfl
      · exact plain
    · exact plain
  · rw [if_neg hall]
    have hany : ¬ (es.any fun e => e.key == v && e.hash != mH P w k) = true := by
      rw [← Array.any_toList, List.any_eq_true]
      rintro ⟨e, hin, hc⟩
      obtain ⟨x, hx, z⟩ := hmem e (Array.mem_toList_iff.mp hin)
      subst z
      simp only [mEnt, Bool.and_eq_true, beq_iff_eq, bne_iff_ne, ne_eq] at hc
      obtain ⟨hxa, hne⟩ := hc
      have := his x hx
      rw [hxa] at this
      exact hne (by rw [this.inj hk])
    split
    case' h_1 =>
      rename_i x t
      by_cases hsx : (es.all fun e => isExactStrKey e.key) = true
      case' pos =>
        rw [if_pos hsx]
        exact byv x t rfl
      rw [if_neg hsx]
      dsimp only
    case' h_2 =>
      split
      case' h_1 => rw [if_neg hany]
    all_goals refine ite_both (wpAny_bind (wpAny_pure ?_)) (wpAny_bind (mix_quiet hk hst ?_))
    all_goals
      rw [if_neg (by simp)]
      refine wpAny_bind ?_
      refine wpAny_forIn_list _
        (fun rest b s' => s' = s ∧ ∃ i hit, b = (none, hit) ∧ rest = (List.range' i (es.size - i)).filter (fun i => (es[i]?.map (·.hash)) == some (mH P w k)) ∧ i ≤ es.size ∧
          ((hit = none ∧ ∀ j p, j < i → xs[j]? ≠ some (k, p)) ∨ ∃ j p, hit = some j ∧ j < i ∧ xs[j]? = some (k, p))) _ ?_ ?_ _ _
        ⟨rfl, 0, none, rfl, by rw [placesWithHash, List.range_eq_range', Nat.sub_zero], Nat.zero_le _, .inl ⟨rfl, fun _ _ h => absurd h (Nat.not_lt_zero _)⟩⟩
      · rintro x rest b s' ⟨rfl, i, hit, rfl, hr, hi, hH⟩
        obtain ⟨hix, hxn, hpx, hskip, hrest⟩ := filter_range'_cons _ _ _ _ _ hr.symm
        have hlt : x < es.size := by omega
        have hrest' : rest = (List.range' (x + 1) (es.size - (x + 1))).filter (fun i => (es[i]?.map (·.hash)) == some (mH P w k)) := by rw [hrest]; congr 2; omega
        obtain ⟨⟨k2, b2, v2⟩, hkv⟩ : ∃ y, xs[x]? = some y := ⟨xs[x]'(by rw [← hsz]; exact hlt), List.getElem?_eq_getElem _⟩
        have hib : MIs P w s'.heap k2 b2 := his _ (List.mem_of_getElem? hkv)
        have hex : es[x]? = some ⟨mH P w k2, b2, v2⟩ := by rw [ment_at he x, hkv]; rfl
        have hHx : (hit = none ∧ ∀ j p, j < x → xs[j]? ≠ some (k, p)) ∨ ∃ j p, hit = some j ∧ j < x ∧ xs[j]? = some (k, p) := by
          rcases hH with ⟨h0, hno⟩ | ⟨j, p, h1, hji, hj⟩
          · refine .inl ⟨h0, fun j p hjx hj => ?_⟩
            rcases Nat.lt_or_ge j i with h | h
            · exact hno j p h hj
            · have := hskip j h hjx
              rw [hkey j p hj] at this
              exact absurd this (by decide)
          · exact .inr ⟨j, p, h1, by omega, hj⟩
        have hstay : ¬ k2 = k → ((hit = none ∧ ∀ j p, j < x + 1 → xs[j]? ≠ some (k, p)) ∨ ∃ j p, hit = some j ∧ j < x + 1 ∧ xs[j]? = some (k, p)) := by
          intro hne
          rcases hHx with ⟨h0, hno⟩ | ⟨j, p, h1, hjx, hj⟩
          · refine .inl ⟨h0, fun j p hjx hj => ?_⟩
            rcases Nat.lt_or_ge j x with h | h
            · exact hno j p h hj
            · have z : j = x := by omega
              subst z
              rw [hkv] at hj
              cases hj
              exact hne rfl
          · exact .inr ⟨j, p, h1, by omega, hj⟩
        rw [hex]
        dsimp only
        by_cases hh : (mH P w k2 == mH P w k) = true
        · rw [if_pos hh]
          refine wpAny_bind (wpAny_dictEpoch ho hd (wpAny_bind (MIs.eq hu hib hk (wpAny_bind (wpAny_dictEpoch ho hd ?_)))))
          rw [if_neg (by simp)]
          by_cases hkk : k2 = k
          · rw [decide_eq_true hkk]
            subst hkk
            rcases hHx with ⟨rfl, _⟩ | ⟨j, p, _, hjx, hj⟩
            · first | rw [if_pos rfl] | skip
              simp only [Option.isSome_none, Bool.false_eq_true, if_false]
              first | refine wpAny_bind (wpAny_pure ?_) | skip
              refine wpAny_bind (wpAny_rule ?_)
              split
              · exact wpAny_pure (wpAny_pure (hsome x _ hkv))
              · exact wpAny_pure ⟨rfl, x + 1, some x, rfl, hrest', hlt, .inr ⟨x, _, rfl, Nat.lt_succ_self x, hkv⟩⟩
            · exact absurd (ment_one hn hj hkv) (by omega)
          · rw [decide_eq_false hkk]
            simp only [Bool.false_eq_true, if_false]
            refine wpAny_bind (wpAny_rule ?_)
            first | rw [if_neg (by simp)] | skip
            first
              | exact wpAny_pure ⟨rfl, x + 1, hit, rfl, hrest', hlt, hstay hkk⟩
              | exact wpAny_bind (wpAny_pure (wpAny_pure ⟨rfl, x + 1, hit, rfl, hrest', hlt, hstay hkk⟩))
        · rw [if_neg hh]
          refine wpAny_pure ⟨rfl, x + 1, hit, rfl, hrest', hlt, hstay fun hkk => ?_⟩
          rw [hkk] at hh; simp at hh
      · rintro b s' ⟨rfl, i, hit, rfl, hr, hi, hH⟩
        rcases hH with ⟨rfl, hno⟩ | ⟨j, p, rfl, _, hj⟩
        · refine wpAny_pure (hnone fun j p hj => ?_)
          rcases Nat.lt_or_ge j i with h | h
          · exact hno j p h hj
          · have hjl : j < es.size := by rw [hsz]; exact (List.getElem?_eq_some_iff.mp hj).1
            have := List.filter_eq_nil_iff.mp hr.symm j (List.mem_range'_1.mpr ⟨h, by omega⟩)
            exact this (hkey j p hj)
        · exact wpAny_pure (hsome j p hj)
/-! ### get, put -/
noncomputable def mGet (xs : List MEnt) (k : MKey) : Option (Value × Value) := (xs.find? fun x => decide (x.1 = k)).map (·.2)
noncomputable def mPut1 (k : MKey) (v : Value) (x : MEnt) : MEnt := if x.1 = k then (x.1, x.2.1, v) else x
noncomputable def mPut (xs : List MEnt) (k : MKey) (kv v : Value) : List MEnt := if (mGet xs k).isSome then xs.map (mPut1 k v) else xs ++ [(k, kv, v)]
theorem mget_of {xs : List MEnt} (hn : (xs.map (·.1)).Nodup) {i : Nat} {p : Value × Value} (hx : xs[i]? = some (k, p)) : mGet xs k = some p := by
  induction xs generalizing i with
  | nil => simp at hx
  | cons x rest ih =>
    rw [List.map_cons, List.nodup_cons] at hn
    cases i with
    | zero =>
      simp only [List.getElem?_cons_zero, Option.some.injEq] at hx
      subst hx; simp [mGet]
    | succ j =>
      simp only [List.getElem?_cons_succ] at hx
      have hne : ¬ x.1 = k := fun e => hn.1 (by rw [e]; exact List.mem_map.mpr ⟨(k, p), List.mem_of_getElem? hx, rfl⟩)
      have := ih hn.2 hx
      simpa [mGet, List.find?_cons, hne] using this
theorem mget_none {xs : List MEnt} (h : ∀ (j : Nat) (p : Value × Value), xs[j]? ≠ some (k, p)) : mGet xs k = none := by
  have e : (xs.find? fun x => decide (x.1 = k)) = none := by
    rw [List.find?_eq_none]
    intro x hx z
    obtain ⟨j, hj⟩ := List.mem_iff_getElem?.mp hx
    have z : x.1 = k := of_decide_eq_true z
    exact h j x.2 (by rw [hj, ← z])
  simp [mGet, e]
theorem mput_modify {xs : List MEnt} {j : Nat} {p : Value × Value} (hn : (xs.map (·.1)).Nodup) (hj : xs[j]? = some (k, p)) : (xs.map (mEnt P w)).modify j (fun e => { e with val := v }) = (xs.map (mPut1 k v)).map (mEnt P w) := by
  apply List.ext_getElem?
  intro i
  rw [List.getElem?_modify, List.map_map, List.getElem?_map, List.getElem?_map]
  by_cases e : j = i
  · subst e
    rw [hj]
    simp [mEnt, mPut1]
  · cases q : xs[i]? with
    | none => simp [e]
    | some x =>
      have ne : ¬ x.1 = k := fun z => e (ment_one hn hj (by rw [q, ← z]))
      simp [e, mPut1, ne]
noncomputable def DRaw (P : Program) (w : World) (h : Heap) (d : Addr) (xs : List MEnt) : Prop := ∃ o es ep, h.get? d = some o ∧ o.ExactDict ∧ o.data = .dict es ep ∧ es.toList = xs.map (mEnt P w)
theorem mix_get {d : Addr} {xs : List MEnt} {Q : Option Value → Shared → Prop} (hu : A.units + 64 < cLine) (hk : MIs P w s.heap k v) (hm : DRaw P w s.heap d xs) (his : ∀ x ∈ xs, MIs P w s.heap x.1 x.2.1) (hn : (xs.map (·.1)).Nodup)
    (q : Q ((mGet xs k).map (·.2)) { s with toks := s.toks + mDraw k }) : wpAny (model P w) A (dictGet d v) Q E s := by
  obtain ⟨o, es, ep, ho, _, hd, he⟩ := hm
  unfold dictGet
  try with_reducible refine wpAny_holding ?_
  refine wpAny_bind (hk.hash (by omega) (wpAny_bind (mix_find (s := { s with toks := s.toks + mDraw k }) hu hk ho hd he his hn ?_ ?_)))
  · intro hno
    rw [mget_none hno] at q
    exact wpAny_pure q
  · intro j p hj
    rw [mget_of hn hj] at q
    refine wpAny_bind (wpAny_dictEntries (s := { s with toks := s.toks + mDraw k }) ho hd ?_)
    rw [ment_at he j, hj]
    exact wpAny_pure q
theorem mix_set {d : Addr} {xs : List MEnt} {x : Value} {Q : Unit → Shared → Prop} (hu : A.units + 64 < cLine) (hk : MIs P w s.heap k v) (hm : DRaw P w s.heap d xs) (his : ∀ x ∈ xs, MIs P w s.heap x.1 x.2.1) (hn : (xs.map (·.1)).Nodup) (hz : xs.length ≤ sizeLine)
    (q : ∀ h', DRaw P w h' d (mPut xs k v x) → Heap.SameBut d s.heap h' → Q () { s with heap := h', toks := s.toks + mDraw k }) : wpAny (model P w) A (dictSet d v x) Q E s := by
  obtain ⟨o, es, ep, ho, hc, hd, he⟩ := hm
  unfold dictSet
  try with_reducible refine wpAny_holding ?_
  refine wpAny_bind (hk.hash (by omega) ?_)
  unfold dictSetHashed
  try with_reducible refine wpAny_holding ?_
  refine wpAny_bind (mix_find (s := { s with toks := s.toks + mDraw k }) hu hk ho hd he his hn ?_ ?_)
  · intro hno
    refine wpAny_bind (wpAny_rule (wpAny_updateDictKeys (hz := by have e := ment_size he; omega) (s := { s with toks := s.toks + mDraw k }) ho hd (q _ ⟨_, _, ep + 1, Heap.get?_update_self _ ho (Obj.isFreed_of_dict (Obj.data_mapDictKeys hd _)), hc.mapDictKeys _, Obj.data_mapDictKeys hd _, ?_⟩ (Heap.SameBut.update ..))))
    unfold mPut
    rw [mget_none hno]
    simp [he, mEnt]
  · intro j p hj
    refine wpAny_bind (wpAny_rule (wpAny_bind (wpAny_updateDict (s := { s with toks := s.toks + mDraw k }) ho hd (wpAny_point (q _ ⟨_, _, ep, Heap.get?_update_self _ ho (Obj.isFreed_of_dict (Obj.data_mapDict hd _)), hc.mapDict _, Obj.data_mapDict hd _, ?_⟩ (Heap.SameBut.update ..))))))
    unfold mPut
    rw [mget_of hn hj]
    have := mput_modify (P := P) (w := w) (v := x) hn hj
    rw [← he] at this
    obtain ⟨l⟩ := es
    simpa using this
theorem mix_getD {d : Addr} {xs : List MEnt} {x : Value} {Q : Value → Shared → Prop} (hu : A.units + 65 < cLine) (hs : (d == sysModules) = false) (hk : MIs P w s.heap k v) (hm : DRaw P w s.heap d xs) (his : ∀ x ∈ xs, MIs P w s.heap x.1 x.2.1) (hn : (xs.map (·.1)).Nodup)
    (q : Q (((mGet xs k).map (·.2)).getD x) { s with toks := s.toks + mDraw k }) : wpAny (model P w) A (call (.builtin "dict.get") [.ref d, v, x]) Q E s := by
  have hT : s.TypeIs (.ref d) "dict" := by obtain ⟨o, _, _, ho, hc, _⟩ := hm; exact ⟨o, ho, hc.1⟩
  refine wpAny_call_entry PySem.F.slot_dict_get hT PySem.F.entry_dict_get ?_ (PySem.F.args_dict_get_3 _ _ _)
  show wpAny _ _ (dictGet d v >>= _) _ _ s
  refine wpAny_bind (mix_get (A := A.in1) (show A.units + 1 + 64 < cLine by omega) hk hm his hn ?_)
  cases hf : (mGet xs k).map (·.2) with
  | some y =>
    rw [hf] at q
    exact wpAny_pure ⟨y, rfl, q⟩
  | none =>
    rw [hf] at q
    show wpAny _ _ (Builtin.Dict.missed d v >>= _) _ _ _
    exact wpAny_bind (wpAny_missed_other hs (wpAny_pure ⟨x, rfl, q⟩))
theorem mix_setItem {d : Addr} {xs : List MEnt} {x : Value} {Q : Unit → Shared → Prop} (hu : A.units + 65 < cLine) (hk : MIs P w s.heap k v) (hm : DRaw P w s.heap d xs) (his : ∀ x ∈ xs, MIs P w s.heap x.1 x.2.1) (hn : (xs.map (·.1)).Nodup) (hz : xs.length ≤ sizeLine)
    (q : ∀ h', DRaw P w h' d (mPut xs k v x) → Heap.SameBut d s.heap h' → Q () { s with heap := h', toks := s.toks + mDraw k }) : wpAny (model P w) A (setItem (.ref d) v x) Q E s := by
  have hT : s.TypeIs (.ref d) "dict" := by obtain ⟨o, _, _, ho, hc, _⟩ := hm; exact ⟨o, ho, hc.1⟩
  unfold setItem
  try with_reducible refine wpAny_holding ?_
  refine wpAny_bind (wpAny_sequenceKey hT (by decide) ?_)
  refine wpAny_bind (wpAny_callSpecial?_slot (name := Str.ofString "__setitem__") hT slot_dict_setitem (wpAny_call_entry slot_dict_setitem hT entry_dict_setitem ?_ (args_dict_setitem _ _ _)))
  show wpAny _ _ (Builtin.Dict.notOrdered "__setitem__" ⟨[.ref d, v, x], []⟩ >>= _) _ _ s
  refine wpAny_bind (wpAny_notOrdered_dict hT ?_)
  show wpAny _ _ (dictSet d v x >>= _) _ _ s
  exact wpAny_bind (mix_set (A := A.in1) (show A.units + 1 + 64 < cLine by omega) hk hm his hn hz fun h' hm' hs' => wpAny_pure ⟨.none, rfl, wpAny_pure (q h' hm' hs')⟩)
end
end L2

set_option Elab.async false
set_option linter.all false
set_option maxRecDepth 100000
set_option maxHeartbeats 4000000
namespace L2
open PySem PySem.Spec PyProof.Rows
/-! ### len of a dict whose keys are tuples -/
section
variable {prog : Program} {w : World} {K : Type} [DecidableEq K] {knd : HeapKind prog w K} {A : Around} {E : Value → Shared → Prop} {s : Shared} {d : Addr} {xs : List (K × Addr × Value)}
end
section
variable {X : Cx}
end
end L2

set_option Elab.async false
set_option linter.all false
set_option maxRecDepth 100000
set_option maxHeartbeats 4000000
namespace L2
open PySem PySem.Spec PyProof.Rows
/-! ### the keys of a dict, one by one, whatever they are -/
section
variable {prog : Program} {w : World} {A : Around} {E : Value → Shared → Prop} {s : Shared} {it d : Addr} {i ep : Nat} {es : Array DictEntry} {od : Obj}
end
section
variable {X : Cx} {tg : Expr}
end
end L2

set_option Elab.async false
set_option linter.all false
set_option maxRecDepth 100000
set_option maxHeartbeats 4000000
namespace L2
open PySem PySem.Spec PyProof.Rows
/-! ### the mixed dict in the layer -/
noncomputable def DMO (P : Program) (w : World) (d : Addr) (xs : List MEnt) : HO := .ext fun h => DRaw P w h d xs
noncomputable def MV (H : Hp) (k : MKey) (x : V) : Prop := (mD k).canLay0 = true ∧ match k with
  | .inl k => x = kV k
  | .inr ks => ∃ b, x = .ref b ∧ H b = some (.tup (ks.map kV))
noncomputable abbrev MRel (H : Hp) : List (MKey × V) → List MEnt → Prop := Paired fun p q => p.1 = q.1 ∧ (∃ x, MV H p.1 x ∧ RelV x q.2.1) ∧ RelV p.2 q.2.2
/-- the pairs of the dict at d, as they came in -/
noncomputable def DM (P : Program) (w : World) (H : Hp) (d : Addr) (kvs : List (MKey × V)) : Prop :=
  ∃ xs : List MEnt, H d = some (DMO P w d xs) ∧ (d == sysModules) = false ∧ (kvs.map (·.1)).Nodup ∧ kvs.length ≤ 1000 ∧ MRel H kvs xs
theorem MV.mono {H H' : Hp} {k : MKey} {x : V} (m : MV H k x) (ht : ∀ b ys, H b = some (.tup ys) → H' b = some (.tup ys)) : MV H' k x := by
  obtain ⟨c, m⟩ := m
  refine ⟨c, ?_⟩
  cases k with
  | inl k => exact m
  | inr ks => obtain ⟨b, e, m⟩ := m; exact ⟨b, e, ht _ _ m⟩
theorem MRel.mono {H H' : Hp} {kvs : List (MKey × V)} {xs : List MEnt} (m : MRel H kvs xs) (ht : ∀ b ys, H b = some (.tup ys) → H' b = some (.tup ys)) : MRel H' kvs xs :=
  Paired.mapP m fun _ _ z => ⟨z.1, by obtain ⟨x, a, b⟩ := z.2.1; exact ⟨x, a.mono ht, b⟩, z.2.2⟩
section
variable {P : Program} {w : World} {H : Hp} {h : Heap} {k : MKey} {x : V} {u : Value}
theorem MV.is (ok : HOk P w H h) (m : MV H k x) (r : RelV x u) : MIs P w h k u := by
  obtain ⟨c, m⟩ := m
  refine ⟨c, ?_⟩
  cases k with
  | inl k => subst m; exact kV_is r
  | inr ks =>
    obtain ⟨b, rfl, e⟩ := m
    cases (show u = Value.ref b from r)
    exact ⟨b, rfl, key_of ok e⟩
theorem MRel.keys : ∀ {kvs : List (MKey × V)} {xs : List MEnt}, MRel H kvs xs → xs.map (·.1) = kvs.map (·.1)
  | _, _, .nil => rfl
  | _, _, .cons r t => by rw [List.map_cons, List.map_cons, r.1, MRel.keys t]
theorem MRel.all (ok : HOk P w H h) : ∀ {kvs : List (MKey × V)} {xs : List MEnt}, MRel H kvs xs → ∀ q ∈ xs, MIs P w h q.1 q.2.1
  | _, _, .nil, q, hq => nomatch hq
  | _, _, .cons r t, q, hq => by
    rcases List.mem_cons.mp hq with z | z
    · subst z
      obtain ⟨e, ⟨x, m, rx⟩, _⟩ := r
      rw [← e]
      exact m.is ok rx
    · exact MRel.all ok t q z
/-- what the pairs hold at a key, and with another value there -/
noncomputable def kGet (kvs : List (MKey × V)) (k : MKey) : Option V := (kvs.find? fun p => decide (p.1 = k)).map (·.2)
noncomputable def kPut (kvs : List (MKey × V)) (k : MKey) (v : V) : List (MKey × V) := if (kGet kvs k).isSome then kvs.map (fun p => if p.1 = k then (p.1, v) else p) else kvs ++ [(k, v)]
theorem kget_rel (k : MKey) : ∀ {kvs : List (MKey × V)} {xs : List MEnt}, MRel H kvs xs → RelO (kGet kvs k) ((mGet xs k).map (·.2))
  | _, _, .nil => True.intro
  | p :: _, q :: _, .cons r t => by
    have ih := kget_rel k t
    unfold kGet mGet at ih ⊢
    rw [List.find?_cons, List.find?_cons]
    by_cases e : p.1 = k
    · have e2 : q.1 = k := by rw [← r.1]; exact e
      rw [decide_eq_true e, decide_eq_true e2]
      exact r.2.2
    · have e2 : ¬ q.1 = k := by rw [← r.1]; exact e
      rw [decide_eq_false e, decide_eq_false e2]
      exact ih
theorem relO_some {a : Option V} {b : Option Value} (r : RelO a b) : a.isSome = b.isSome := by
  cases a <;> cases b <;> first | rfl | exact False.elim r
theorem relO_getD {a : Option V} {b : Option Value} {x : V} {u : Value} (r : RelO a b) (h : RelV x u) : RelV (a.getD x) (b.getD u) := by
  cases a <;> cases b <;> first | exact h | exact r | exact False.elim r
theorem kput_rel {y : V} {kv : Value} {v : V} {r : Value} (m : MV H k y) (ry : RelV y kv) (rv : RelV v r) {kvs : List (MKey × V)} {xs : List MEnt} (h : MRel H kvs xs) : MRel H (kPut kvs k v) (mPut xs k kv r) := by
  unfold kPut mPut
  have e : (kGet kvs k).isSome = (mGet xs k).isSome := by rw [relO_some (kget_rel k h)]; cases mGet xs k <;> rfl
  rw [e]
  split
  · clear e
    rename_i hs
    clear hs
    induction h with
    | nil => exact .nil
    | @cons p q ps qs r1 t ih =>
      refine .cons ?_ ih
      unfold mPut1
      dsimp only
      by_cases e : p.1 = k
      · have e2 : q.1 = k := by rw [← r1.1]; exact e
        rw [if_pos e, if_pos e2]
        exact ⟨r1.1, r1.2.1, rv⟩
      · have e2 : ¬ q.1 = k := by rw [← r1.1]; exact e
        rw [if_neg e, if_neg e2]
        exact r1
  · clear e
    rename_i hs
    clear hs
    induction h with
    | nil => exact .cons ⟨rfl, ⟨y, m, ry⟩, rv⟩ .nil
    | cons r1 t ih => exact .cons r1 ih
theorem kget_mem {kvs : List (MKey × V)} {k : MKey} (h : (kGet kvs k).isSome = false) : k ∉ kvs.map (·.1) := by
  intro hm
  obtain ⟨p, hp, e⟩ := List.mem_map.mp hm
  unfold kGet at h
  rw [Option.isSome_map] at h
  have : kvs.find? (fun p => decide (p.1 = k)) = none := by cases q : kvs.find? (fun p => decide (p.1 = k)) with
    | none => rfl
    | some z => rw [q] at h; cases h
  exact List.find?_eq_none.mp this p hp (decide_eq_true e)
theorem kput_nodup {kvs : List (MKey × V)} {k : MKey} {v : V} (h : (kvs.map (·.1)).Nodup) : ((kPut kvs k v).map (·.1)).Nodup := by
  unfold kPut
  by_cases e : (kGet kvs k).isSome = true
  · rw [if_pos e, List.map_map]
    have : kvs.map ((·.1) ∘ fun p => if p.1 = k then (p.1, v) else p) = kvs.map (·.1) := List.map_congr_left fun p _ => by
      show (if p.1 = k then (p.1, v) else p).1 = p.1
      split <;> rfl
    rw [this]; exact h
  · rw [if_neg e, List.map_append, List.nodup_append]
    refine ⟨h, by simp, fun a ha b hb z => ?_⟩
    have hb : b = k := by simpa using hb
    subst hb z
    exact kget_mem (by simpa using e) ha
theorem kput_len (kvs : List (MKey × V)) (k : MKey) (v : V) : (kPut kvs k v).length ≤ kvs.length + 1 := by
  unfold kPut
  split
  · rw [List.length_map]; omega
  · simp
theorem draw_of {d : Addr} {xs : List MEnt} (ok : HOk P w H h) (e : H d = some (DMO P w d xs)) : DRaw P w h d xs := by
  obtain ⟨q, _⟩ := (show ObjOk P w H h d (DMO P w d xs) from ok d _ e)
  exact q
theorem dmo_ok {H' : Hp} {d : Addr} {xs : List MEnt} (q : DRaw P w h d xs) : ObjOk P w H' h d (DMO P w d xs) :=
  ⟨q, by obtain ⟨o, _, _, e, _⟩ := q; exact ⟨o, e⟩, fun h1 h2 hsl48 k => by obtain ⟨o, es, ep, e, r⟩ := hsl48; exact ⟨o, es, ep, k o e, r⟩⟩
theorem DM.mono {H' : Hp} {d : Addr} {kvs : List (MKey × V)} (m : DM P w H d kvs) (hd : H' d = H d) (ht : ∀ b ys, H b = some (.tup ys) → H' b = some (.tup ys)) : DM P w H' d kvs := by
  obtain ⟨xs, e, a, b, c, r⟩ := m
  exact ⟨xs, hd.trans e, a, b, c, r.mono ht⟩
end
section
variable {X : Cx} {pins : List (Addr × Obj)} {σ : St} {H : Hp} {s : Shared} {d : Addr} {kvs : List (MKey × V)} {k : MKey} {y v z : V} {u r : Value} {A : Around} {E : Value → Shared → Prop}
/-- {} -/
noncomputable def tDNewM (P : Program) (w : World) : TE := fun _ H Q => ∀ p, H p = none → DM P w (upd H p (DMO P w p [])) p [] → Q (.ref p) (upd H p (DMO P w p []))
theorem pe_dnewM {P : Program} {w : World} {pos : Pos} (hP : X.prog = P) (hw : X.w = w) : PE X (.Dict [] [] pos) (tDNewM P w) := fun pins s σ H Q I h => by
  subst hP hw
  refine wpAny_Dict_empty ⟨.ref s.heap.objs.size, upd H s.heap.objs.size (DMO X.prog X.w s.heap.objs.size []), I.laid (a := s.heap.objs.size) (o := DMO X.prog X.w s.heap.objs.size []) (t' := s.toks) (fun _ _ q => Heap.get?_push_of_some _ q) (Nat.le_refl _) (dmo_ok ⟨_, #[], 0, Heap.get?_push_size _ rfl, ⟨rfl, rfl, rfl⟩, rfl, rfl⟩), rfl, h _ (I.hok.fresh (Nat.le_refl _)) ?_⟩
  exact ⟨[], upd_same, beq_eq_false_iff_ne.mpr (Ne.symm (Nat.ne_of_lt I.big)), List.nodup_nil, Nat.zero_le _, .nil⟩
theorem dm_type (I : Inv X pins σ H s) (m : DM X.prog X.w H d kvs) : s.TypeIs (.ref d) "dict" ∧ ∀ b, Value.ref d = .ref b → ∃ ob, s.heap.get? b = some ob ∧ ob.dict = none := by
  obtain ⟨xs, e, _⟩ := m
  obtain ⟨o, _, _, ho, hc, _⟩ := draw_of I.hok e
  exact ⟨⟨o, ho, hc.1⟩, fun b q => by cases q; exact ⟨o, ho, hc.2.1⟩⟩
/-- d.get(y, z) -/
noncomputable def tDGetM (P : Program) (w : World) (td ty tx : TE) : TE := fun σ H Q => td σ H fun x H1 => ∃ d kvs0, x = .ref d ∧ DM P w H1 d kvs0 ∧ ty σ H1 fun y H2 => tx σ H2 fun z H3 => ∃ kvs k, DM P w H3 d kvs ∧ MV H3 k y ∧ Q ((kGet kvs k).getD z) H3
theorem pe_dgetM {P : Program} {w : World} {o e f : Expr} {apos cpos : Pos} {td ty tx : TE} (hP : X.prog = P) (hw : X.w = w) (hu : X.A.units + 65 < cLine) (ho : PE X o td) (he : PE X e ty) (hf : PE X f tx) (m : M2 X o "get" apos e f cpos) : PE X (.Call (.Attribute o "get" apos) [e, f] [] cpos) (tDGetM P w td ty tx) := by
  intro pins s σ H Q I h
  subst hP hw
  refine wpAny_Call_method m.base m.few m.line PySem.F.plainAttrs_dict PySem.F.slot_dict_get PySem.F.type_dict_get (thn (ho pins s σ H _ I h) fun u s1 hsl49 => ?_)
  obtain ⟨x, H1, I1, rx, a, kvs0, ex, dm, q1⟩ := hsl49
  subst ex
  obtain rfl : u = Value.ref a := rx
  obtain ⟨t1, t2⟩ := dm_type I1 dm
  refine ⟨t1, t2, ?_⟩
  rw [m.trees]
  refine Calls.callWith_builtin rfl (Calls.evalArgs_plain (Calls.spliced_cons (thn (he pins s1 σ H1 _ I1 q1) fun iv s2 ⟨y, H2, I2, ry, q2⟩ => Calls.spliced_cons (thn (hf pins s2 σ H2 _ I2 q2) fun fv s3 ⟨z, H3, I3, rz, kvs, k, dm3, mv, q3⟩ => Calls.spliced_nil ?_))))
  obtain ⟨xs, e, hs, hn, hl, rel⟩ := dm3
  exact mix_getD hu hs (mv.is I3.hok ry) (draw_of I3.hok e) (rel.all I3.hok) (by rw [rel.keys]; exact hn) ⟨_, H3, I3.tok _, relO_getD (kget_rel k rel) rz, q3⟩
/-- d[y] = v -/
noncomputable def rSetM (P : Program) (w : World) : TSet := fun x y v H Q => ∃ d kvs k, x = .ref d ∧ DM P w H d kvs ∧ kvs.length < 1000 ∧ MV H k y ∧ ∀ xs', DM P w (upd H d (DMO P w d xs')) d (kPut kvs k v) → Q (upd H d (DMO P w d xs'))
theorem set_mix {P : Program} {w : World} (hP : X.prog = P) (hw : X.w = w) (hu : X.A.units + 65 < cLine) : PSet X (rSetM P w) := by
  intro pins s σ H x y v ov iv u Q I r1 r2 r h
  subst hP hw
  obtain ⟨d, kvs, k, rfl, dm, hl, mv, q⟩ := h
  cases (show ov = Value.ref d from r1)
  obtain ⟨xs, e, hs, hn, _, rel⟩ := dm
  refine mix_setItem hu (mv.is I.hok r2) (draw_of I.hok e) (rel.all I.hok) (by rw [rel.keys]; exact hn) (by have := Paired.length rel; rw [sizeLine_eq]; omega) fun h' dd hsb => ?_
  have nt : ∀ b ys, H b = some (.tup ys) → upd H d (DMO X.prog X.w d (mPut xs k iv u)) b = some (.tup ys) := fun b ys q => by
    rw [upd_ne (fun z => by rw [z, e] at q; cases q)]; exact q
  refine ⟨_, I.write (x := d) (e := d) (o := DMO X.prog X.w d (mPut xs k iv u)) (t' := s.toks + mDraw k) (by rw [e]; exact True.intro) (.inl rfl) (fun b q hb z => (hsb.2 b hb).trans z) (by obtain ⟨o, _, _, e, _⟩ := dd; exact ⟨o, e⟩) (dmo_ok dd), q _ ?_⟩
  exact ⟨_, upd_same, hs, kput_nodup hn, by have := kput_len kvs k v; omega, (kput_rel mv r2 r rel).mono nt⟩
end
/-! ### d.items(), with a tuple as the target -/
section
variable {prog : Program} {w : World} {A : Around} {E : Value → Shared → Prop} {s : Shared} {it d : Addr} {i ep : Nat} {es : Array DictEntry} {od : Obj} {ok ov : Value}
theorem ditem_next {Q : Option Value → Shared → Prop} (hit : IsItemIter s.heap it d i es.size ep ok ov) (hod : s.heap.get? d = some od) (hdd : od.data = .dict es ep) (hlt : i < es.size)
    (hQ : ∀ h', IsItemIterOut h' it d (i + 1) es.size ep es[i].key es[i].val s.heap.objs.size → h'.get? s.heap.objs.size = some { cls := .type "tuple", data := .seq #[es[i].key, es[i].val] } → (∀ b o, b ≠ it → s.heap.get? b = some o → h'.get? b = some o) → Q (some (.ref s.heap.objs.size)) { s with heap := h' }) :
    wpAny (model prog w) A (pyNext (.ref it)) Q E s := by
  obtain ⟨hp, g, dr, tk, os⟩ := s
  have hT : Shared.TypeIs ⟨hp, g, dr, tk, os⟩ (.ref it) "dict_itemiterator" := ⟨_, hit, rfl⟩
  unfold pyNext
  refine wpAny_bind (wpAny_attempt (wpAny_callSpecial?_slot (name := Str.ofString "__next__") hT F.slot_dict_itemiterator_next (wpAny_call_entry F.slot_dict_itemiterator_next hT F.entry_dict_itemiterator_next ?_ (F.args_dict_itemiterator_next_1 _))))
  refine wpAny_bind (wpAny_pure (wpAny_bind (wpAny_bind ?_)))
  first | refine wpAny_bind (wpAny_typeNameOfWhole_itemiter hT (wpAny_pure (wpAny_bind (wpAny_fieldsOf hit rfl ?_)))) | refine wpAny_bind (wpAny_typeNameOf_itemiter hT (wpAny_pure (wpAny_bind (wpAny_fieldsOf hit rfl ?_))))
  simp only [show Builtin.Dict_items.ownsTuple "dict_itemiterator" = true by decide, if_true]
  show wpAny _ _ (if (Value.ref d == Value.none) = true then _ else _) _ _ _
  rw [if_neg (show ¬ (Value.ref d == Value.none) = true from fun z => by cases z)]
  refine wpAny_bind (wpAny_pure (wpAny_bind (wpAny_dictEntries hod hdd ?_)))
  rw [if_neg (by simp)]
  refine wpAny_bind (wpAny_pure (wpAny_bind (wpAny_dictEpoch hod hdd ?_)))
  rw [if_neg (by simp)]
  refine wpAny_pure ?_
  simp only [show ¬ ((i : Int) < 0) by omega, if_false, Int.toNat_natCast, Array.getElem?_eq_getElem hlt]
  refine wpAny_bind ?_
  first | refine wpAny_bind (wpAny_typeNameOfWhole_itemiter hT (wpAny_pure (wpAny_bind (wpAny_isOneOf_itemiter hT ?_)))) | refine wpAny_bind (wpAny_typeNameOf_itemiter hT (wpAny_pure (wpAny_bind (wpAny_isOneOf_itemiter hT ?_))))
  show wpAny _ _ (setField (.ref it) 3 (rawInt ((i : Int) + 1)) >>= _) _ _ ⟨hp, g, dr, tk, os⟩
  refine wpAny_bind (wpAny_setField_rec hit (by simp) fun h1 he1 hs1 => ?_)
  replace hs1 : Heap.SameBut it hp h1 := hs1
  replace he1 : IsItemIter h1 it d (i + 1) es.size ep ok ov := by
    have e : ((i + 1 : Nat) : Int) = (i : Int) + 1 := by omega
    unfold IsItemIter; rw [e]; simpa [rawInt] using he1
  have hT1 : Shared.TypeIs ⟨h1, g, dr, tk, os⟩ (.ref it) "dict_itemiterator" := ⟨_, he1, rfl⟩
  refine wpAny_bind (wpAny_holding (wpAny_bind (wpAny_isOneOf_itemiter hT1 (wpAny_bind (wpAny_isOneOf_itemiter hT1 ?_)))))
  show wpAny _ _ (Builtin.Dict_items.pairFromOwner (.ref it) 6 es[i].key es[i].val) _ _ ⟨h1, g, dr, tk, os⟩
  unfold Builtin.Dict_items.pairFromOwner
  refine wpAny_bind (wpAny_newTuple ?_)
  have he2 : IsItemIter (h1.push { cls := .type "tuple", data := .seq #[es[i].key, es[i].val] }) it d (i + 1) es.size ep ok ov := Heap.get?_push_of_some _ he1
  generalize hh2 : h1.push { cls := .type "tuple", data := .seq #[es[i].key, es[i].val] } = h2 at he2
  have hz1 : h1.objs.size = hp.objs.size := hs1.1
  have hil : it < hp.objs.size := Heap.lt_size hit
  have ht2 : h2.get? hp.objs.size = some { cls := .type "tuple", data := .seq #[es[i].key, es[i].val] } := by rw [← hh2, ← hz1]; exact Heap.get?_push_size _ rfl
  have hk2 : ∀ b o, b ≠ it → hp.get? b = some o → h2.get? b = some o := fun b o hb e => by rw [← hh2]; exact Heap.get?_push_of_some _ (hs1.extBut b o hb e)
  show wpAny _ _ (Builtin.Dict_items.ownedTupleIsFree (.ref it) >>= _) _ _ ⟨h2, g, dr, tk, os⟩
  rw [hz1]
  clear hh2 he1 hs1 hT1 hz1 h1
  refine wpAny_bind ?_
  unfold Builtin.Dict_items.ownedTupleIsFree
  refine wpAny_bind (wpAny_field he2 rfl (x := .none) rfl (wpAny_pure ?_))
  simp only [if_true]
  refine wpAny_bind (wpAny_field he2 rfl (x := ok) rfl (wpAny_bind (wpAny_field he2 rfl (x := ov) rfl ?_)))
  refine wpAny_bind (wpAny_setField_rec he2 (by simp) fun h3 he3 hs3 => ?_)
  replace hs3 : Heap.SameBut it h2 h3 := hs3
  replace he3 : IsItemIter h3 it d (i + 1) es.size ep es[i].key ov := he3
  refine wpAny_bind (wpAny_setField_rec he3 (by simp) fun h4 he4 hs4 => ?_)
  replace hs4 : Heap.SameBut it h3 h4 := hs4
  replace he4 : IsItemIter h4 it d (i + 1) es.size ep es[i].key es[i].val := he4
  refine wpAny_bind (wpAny_setField_rec he4 (by simp) fun h5 he5 hs5 => ?_)
  replace hs5 : Heap.SameBut it h4 h5 := hs5
  replace he5 : IsItemIterOut h5 it d (i + 1) es.size ep es[i].key es[i].val hp.objs.size := he5
  refine wpAny_bind (wpAny_setField_rec he5 (by simp) fun h6 he6 hs6 => ?_)
  replace hs6 : Heap.SameBut it h5 h6 := hs6
  replace he6 : IsItemIterOut h6 it d (i + 1) es.size ep es[i].key es[i].val hp.objs.size := he6
  have kk : ∀ b o, b ≠ it → h2.get? b = some o → h6.get? b = some o := fun b o hb e => hs6.extBut b o hb (hs5.extBut b o hb (hs4.extBut b o hb (hs3.extBut b o hb e)))
  exact wpAny_bind (wpAny_letGo (wpAny_pure (wpAny_pure ⟨_, rfl, wpAny_pure (hQ h6 he6 (kk _ _ (Nat.ne_of_gt hil) ht2) fun b o hb e => kk b o hb (hk2 b o hb e))⟩)))
theorem ditem_end {Q : Option Value → Shared → Prop} (hh : A.handled = none) (hit : IsItemIter s.heap it d i es.size ep ok ov) (hod : s.heap.get? d = some od) (hdd : od.data = .dict es ep) (hge : es.size ≤ i)
    (hQ : ∀ h', Heap.ExtBut it s.heap h' → Q none { s with heap := h' }) : wpAny (model prog w) A (pyNext (.ref it)) Q E s := by
  have hT : s.TypeIs (.ref it) "dict_itemiterator" := ⟨_, hit, rfl⟩
  unfold pyNext
  refine wpAny_bind (wpAny_attempt (wpAny_callSpecial?_slot (name := Str.ofString "__next__") hT F.slot_dict_itemiterator_next (wpAny_call_entry F.slot_dict_itemiterator_next hT F.entry_dict_itemiterator_next ?_ (F.args_dict_itemiterator_next_1 _))))
  refine wpAny_bind (wpAny_pure (wpAny_bind (wpAny_bind ?_)))
  first | refine wpAny_bind (wpAny_typeNameOfWhole_itemiter hT (wpAny_pure (wpAny_bind (wpAny_fieldsOf hit rfl ?_)))) | refine wpAny_bind (wpAny_typeNameOf_itemiter hT (wpAny_pure (wpAny_bind (wpAny_fieldsOf hit rfl ?_))))
  simp only [show Builtin.Dict_items.ownsTuple "dict_itemiterator" = true by decide, if_true]
  show wpAny _ _ (if (Value.ref d == Value.none) = true then _ else _) _ _ _
  rw [if_neg (show ¬ (Value.ref d == Value.none) = true from fun z => by cases z)]
  refine wpAny_bind (wpAny_pure (wpAny_bind (wpAny_dictEntries hod hdd ?_)))
  rw [if_neg (by simp)]
  refine wpAny_bind (wpAny_pure (wpAny_bind (wpAny_dictEpoch hod hdd ?_)))
  rw [if_neg (by simp)]
  refine wpAny_pure ?_
  simp only [show ¬ ((i : Int) < 0) by omega, if_false, Int.toNat_natCast, Array.getElem?_eq_none hge]
  refine wpAny_bind ?_
  first | refine wpAny_bind (wpAny_typeNameOfWhole_itemiter hT (wpAny_pure ?_)) | refine wpAny_bind (wpAny_typeNameOf_itemiter hT (wpAny_pure ?_))
  show wpAny _ _ (setField (.ref it) 2 .none >>= _) _ _ _
  refine wpAny_bind (wpAny_setField hit rfl (by simp) ?_)
  show wpAny _ _ (newExc (.type "StopIteration") [] >>= _) _ _ _
  refine wpAny_bind ?_
  simp only [newExc, newTuple]
  refine wpAny_bind (wpAny_newObj_type (wpAny_bind (m := firstArgMember _ _) (wpAny_of_eq (a := Value.none) (by first | rfl | (simp only [firstArgMember]; rfl)) (wpAny_newObj_type ?_ (by size_fits)))) (by size_fits))
  simp only [raiseNew]
  refine wpAny_bind (wpAny_handled ?_)
  rw [show A.in1.handled = none from hh]
  refine (wpAny_bind (wpAny_pure (wpAny_throw ?_)))
  refine (wpAny_bind (wpAny_isInstance (T := "StopIteration") (b := true) ⟨_, Heap.get?_push_size _ rfl, rfl⟩ isSubtype_stop (wpAny_pure (hQ _ ?_))))
  exact ((Heap.SameBut.update ..).extBut.push _).push _
theorem ditem_iter {vw : Addr} {Q : Value → Shared → Prop} (hv : s.heap.IsItemsView vw d) (hod : s.heap.get? d = some od) (hdd : od.data = .dict es ep)
    (hQ : Q (.ref s.heap.objs.size) { s with heap := s.heap.push { cls := .type "dict_itemiterator", data := .fields #[.none, .bool false, .ref d, .int 0 0, .int es.size 0, .int ep 0, .none, .none] } }) : wpAny (model prog w) A (pyIter (.ref vw)) Q E s := by
  obtain ⟨o2, ho2, hc2, hd2⟩ := id hv
  refine wpAny_pyIter_slot hv.typeIs F.slot_dict_items_iter (wpAny_call_entry F.slot_dict_items_iter hv.typeIs F.entry_dict_items_iter ?_ (F.args_dict_items_iter_1 _))
  unfold Builtin.«dict_items.__iter__»
  refine wpAny_bind (wpAny_pure (wpAny_bind ?_))
  unfold Builtin.Dict_items.dictOf
  refine wpAny_bind (wpAny_field ho2 hd2 (x := .ref d) rfl (wpAny_pure (wpAny_bind ?_)))
  unfold Builtin.Dict_items.newIterator
  refine wpAny_bind (wpAny_dictEntries hod hdd (wpAny_bind (wpAny_dictEpoch hod hdd ?_)))
  simp only [show Builtin.Dict_items.ownsTuple "dict_itemiterator" = true by decide, if_true]
  refine wpAny_newObj_type (wpAny_pure ⟨_, rfl, "dict_itemiterator", _, ⟨_, Heap.get?_push_size _ rfl, rfl⟩, F.slot_dict_itemiterator_next.lookup, ?_⟩) (by simp only [sizeOk, Builtin.Dict_items.ownedTupleFields, List.size_toArray, List.length_append, List.length_cons, List.length_nil, sizeLine_eq]; omega)
  simpa [rawInt, Builtin.Dict_items.ownedTupleFields] using hQ
end
/-- the items of the mixed dict at d, whose object stands as od -/
noncomputable def Itm (P : Program) (w : World) (d : Addr) (od : Obj) (xs : List MEnt) (kvs : List (MKey × V)) : It := ⟨fun i H => H d = some (.frz od (DMO P w d xs)) ∧ MRel H kvs xs ∧ i < kvs.length,
  fun i H x H' => ∃ (t : Addr) (kv : MKey × V) (y : V), kvs[i]? = some kv ∧ MV H kv.1 y ∧ H t = none ∧ x = .ref t ∧ H' = upd H t (.tup [y, kv.2]),
  fun i H => H d = some (.frz od (DMO P w d xs)) ∧ MRel H kvs xs ∧ kvs.length ≤ i⟩
theorem mrel_at {H : Hp} : ∀ {kvs : List (MKey × V)} {xs : List MEnt} {i : Nat} {q : MEnt}, MRel H kvs xs → xs[i]? = some q → ∃ p, kvs[i]? = some p ∧ p.1 = q.1 ∧ (∃ x, MV H p.1 x ∧ RelV x q.2.1) ∧ RelV p.2 q.2.2
  | _, _, _, _, .nil, e => by simp at e
  | _, _, 0, _, .cons r _, e => by simp at e; subst e; exact ⟨_, rfl, r⟩
  | _, _, i + 1, q, .cons _ t, e => by
    obtain ⟨p, h1, h2⟩ := mrel_at (i := i) (q := q) t (by simpa using e)
    exact ⟨p, by simpa using h1, h2⟩
theorem frz_raw {P : Program} {w : World} {H : Hp} {h : Heap} {d : Addr} {od : Obj} {xs : List MEnt} {es : Array DictEntry} {ep : Nat} (ok : HOk P w H h) (e : H d = some (.frz od (DMO P w d xs))) (hdd : od.data = .dict es ep) : h.get? d = some od ∧ es.toList = xs.map (mEnt P w) := by
  obtain ⟨ho, ⟨o, es2, ep2, ho2, _, hd2, he⟩, _⟩ := (show ObjOk P w H h d (.frz od (DMO P w d xs)) from ok d _ e)
  rw [ho] at ho2
  cases ho2
  rw [hdd] at hd2
  cases hd2
  exact ⟨ho, he⟩
theorem turn_ditem {P : Program} {w : World} {K : PySem.W.Frag} {elts : List Expr} {k : Nat} {tpos : Pos} (d it : Addr) {od : Obj} {xs : List MEnt} {kvs : List (MKey × V)} {es : Array DictEntry} {ep : Nat} (hdd : od.data = .dict es ep) :
    Turn P w K (.Tuple elts k tpos) (Itm P w d od xs kvs) [it] it (fun i h => ∃ ok ov, IsItemIter h it d i es.size ep ok ov) where
  mem := by simp
  obj := fun i h st b hb => by
    have e : b = it := by simpa using hb
    subst e
    obtain ⟨ok, ov, e⟩ := st
    exact ⟨_, e, fun v z => by cases z⟩
  keep := fun i h h' st kk => by obtain ⟨ok, ov, e⟩ := st; exact ⟨ok, ov, kk it (by simp) _ e⟩
  item := by
    intro X hP hw hK hc i pins s σ H E I hf st hg
    subst hP hw hK
    obtain ⟨he, rel, hi⟩ := hg
    obtain ⟨hod, hes⟩ := frz_raw I.hok he hdd
    obtain ⟨ok, ov, hit⟩ := st
    obtain ⟨f0, f1, f2, f3, f4, f5⟩ := hf it (by simp)
    have hsz : es.size = kvs.length := by rw [ment_size hes]; exact (Paired.length rel).symm
    have hlt : i < es.size := by omega
    have hix : i < xs.length := by rw [← ment_size hes]; exact hlt
    have ee : es[i] = mEnt X.prog X.w xs[i] := by
      have := ment_at (P := X.prog) (w := X.w) hes i
      rw [Array.getElem?_eq_getElem hlt, List.getElem?_eq_getElem hix] at this
      exact Option.some.inj this
    obtain ⟨p, hp, _, ⟨y, my, ry⟩, rv⟩ := mrel_at rel (List.getElem?_eq_getElem hix)
    refine ditem_next hit hod hdd hlt fun h1 ho ht kk => ⟨_, rfl, ?_⟩
    have hil : it < s.heap.objs.size := Heap.lt_size hit
    refine wpAny_letOwnedTupleGo_items (s := { s with heap := h1 }) ho fun h2 he2 hs2 => ?_
    have hs2 : Heap.SameBut it h1 h2 := hs2
    have kk2 : ∀ b o, b ≠ it → s.heap.get? b = some o → h2.get? b = some o := fun b o q1 q => (hs2.2 b q1).trans (kk b o q1 q)
    have ht2 : h2.get? s.heap.objs.size = some { cls := .type "tuple", data := .seq #[es[i].key, es[i].val] } := (hs2.2 _ (Nat.ne_of_gt hil)).trans ht
    have hT : H s.heap.objs.size = none := I.fresh
    have I2 : Inv X pins σ (upd H s.heap.objs.size (.tup [y, p.2])) { s with heap := h2 } := by
      refine I.call' (ch := [it]) rfl ⟨fun b o q hn hb hx => ?_, fun b o q hn hb hx => ?_, fun b o q hn hx => ?_, fun b o q hx => ?_, fun b ys q => ?_, fun b o v q => ?_, fun b ps q => ?_⟩ (fun b v q => ?_) I.bare fun b hb => ?_
      · exact kk2 b o (fun z => hx (by simp [z])) q
      · exact ⟨o.slots, kk2 b o (fun z => hx (by simp [z])) q⟩
      · rw [upd_ne (Nat.ne_of_lt (Heap.lt_size q))]; exact hn
      · exact ⟨o, kk2 b o (fun z => hx (by simp [z])) q⟩
      · rw [upd_ne (ne_of_none q hT)]; exact q
      · rw [upd_ne (ne_of_none q hT)]; exact q
      · exact ⟨#[], by rw [upd_ne (ne_of_none q hT)]; simpa using q⟩
      · by_cases hb : b = s.heap.objs.size
        · subst hb
          rw [upd_same] at q
          cases q
          refine ⟨(by show 2 ≤ sizeLine; decide), [es[i].key, es[i].val], ?_, _, ht2, rfl, _, rfl⟩
          rw [ee]
          exact .cons ry (.cons rv .nil)
        · rw [upd_ne hb] at q
          have hni : b ≠ it := fun z => by rw [z, f0] at q; cases q
          refine (I.hok b v q).stay (fun c o hcb z => kk2 c o (fun y => ?_) z) (fun c z => by rw [upd_ne (ne_of_none z hT)]; exact z) fun c ys z => by rw [upd_ne (ne_of_none z hT)]; exact z
          rcases hcb with r | r
          · exact hni (r ▸ y)
          · rw [y, f0] at r; cases r
      · have e : b = it := by simpa using hb
        subst e
        exact ⟨f3, f1, f4, f5⟩
    refine ⟨.ref s.heap.objs.size, _, I2, rfl, ⟨_, p, y, hp, my, hT, rfl, rfl⟩, ⟨_, _, he2⟩, fun b hb => ?_⟩
    have e : b = it := by simpa using hb
    subst e
    rw [upd_ne (Nat.ne_of_lt hil)]; exact f0
  done := by
    intro X hP hw hK hc i pins s σ H E I hf st hg
    subst hP hw hK
    obtain ⟨he, rel, hi⟩ := hg
    obtain ⟨hod, hes⟩ := frz_raw I.hok he hdd
    obtain ⟨ok, ov, hit⟩ := st
    obtain ⟨f0, f1, f2, f3, f4, f5⟩ := hf it (by simp)
    have hsz : es.size = kvs.length := by rw [ment_size hes]; exact (Paired.length rel).symm
    exact ditem_end (I.ok.hd hc) hit hod hdd (by omega) fun h' eb => ⟨rfl, I.turned (t' := s.toks) (fun b o hb e => eb b o hb e) f0 f1 f3 f4 f5⟩
  self := fun _ _ _ _ _ st h => by obtain ⟨ok, ov, e⟩ := st; exact PySem.W.kcp_self e h
/-- for k, v in d.items(): the dict stands still from here on -/
noncomputable def iDItem (P : Program) (w : World) (td : TE) : TI := fun σ H R => td σ H fun x H1 => ∃ d kvs, x = .ref d ∧ DM P w H1 d kvs ∧ ∀ od xs, MRel H1 kvs xs → H1 d = some (DMO P w d xs) → R (Itm P w d od xs kvs) (upd H1 d (.frz od (DMO P w d xs)))
section
variable {X : Cx}
theorem Inv.freezeM {pins : List (Addr × Obj)} {σ : St} {H : Hp} {s : Shared} {d : Addr} {xs : List MEnt} {od : Obj} (I : Inv X pins σ H s) (e : H d = some (DMO X.prog X.w d xs)) (ho : s.heap.get? d = some od) : Inv X pins σ (upd H d (.frz od (DMO X.prog X.w d xs))) s := by
  have h0 : ∀ {t : Nat}, Inv X pins σ (upd H d (.frz od (DMO X.prog X.w d xs))) { s with heap := s.heap, toks := t } := by
    intro t
    exact I.write (x := d) (e := d) (by rw [e]; exact True.intro) (.inl rfl) (fun b q hb z => z) ⟨_, ho⟩ ⟨ho, dmo_ok (draw_of I.hok e)⟩
  exact h0 (t := s.toks)
theorem pi_ditem {P : Program} {w : World} {o : Expr} {apos cpos : Pos} {td : TE} {elts : List Expr} {k : Nat} {tpos : Pos} (hP : X.prog = P) (hw : X.w = w) (ho : PE X o td)
    (hbase : attributeBase o "items" X.env (eval o X.env) = eval o X.env := by rfl) (hline : (apos.endLine == cpos.line) = true := by rfl) : PI X (.Tuple elts k tpos) (.Call (.Attribute o "items" apos) [] [] cpos) (iDItem P w td) := by
  intro pins s σ H R I h
  subst hP hw
  refine wpAny_Call_method0_late hbase hline (thn (ho pins s σ H _ I h) fun v s1 hsl50 => ?_)
  obtain ⟨x, H1, I1, r1, d, kvs, ex, dm, q⟩ := hsl50
  subst ex
  cases (show v = Value.ref d from r1)
  obtain ⟨t1, t2⟩ := dm_type I1 dm
  refine ⟨"dict", "dict.items", PySem.F.plainAttrs_dict, PySem.F.slot_dict_items, PySem.F.type_dict_items, t1, t2, Calls.callWith_builtin rfl (PySem.evalArgs_none ?_)⟩
  obtain ⟨xs, e, hs, hn, hl, rel⟩ := dm
  obtain ⟨od, es, ep, hod, hex, hdd, hes⟩ := draw_of I1.hok e
  refine wpAny_call_entry PySem.F.slot_dict_items t1 PySem.F.entry_dict_items ?_ (PySem.F.args_dict_items_1 _)
  unfold Builtin.«dict.items»
  refine wpAny_bind ?_
  unfold Builtin.Dict.noArgs
  refine wpAny_bind (wpAny_notOrdered_dict t1 ?_)
  show wpAny _ _ (pure d) _ _ s1
  refine wpAny_pure ?_
  show wpAny _ _ (Builtin.Dict.showsAll d >>= _) _ _ s1
  unfold Builtin.Dict.showsAll
  rw [if_neg (show ¬ (d == sysModules) = true by rw [hs]; decide)]
  refine wpAny_bind (wpAny_pure (wpAny_bind (wpAny_newObj_type (wpAny_pure ⟨_, rfl, ?_⟩))))
  have I2 : Inv X pins σ H1 { s1 with heap := s1.heap.push { cls := .type "dict_items", data := .fields #[.ref d] } } := I1.kept (t' := s1.toks) fun b o e => Heap.get?_push_of_some _ e
  have hod2 := Heap.get?_push_of_some { cls := .type "dict_items", data := .fields #[.ref d] } hod
  have hv : (s1.heap.push { cls := .type "dict_items", data := .fields #[.ref d] }).IsItemsView s1.heap.objs.size d := ⟨_, Heap.get?_push_size _ rfl, rfl, rfl⟩
  have I3 := I2.freezeM e hod2
  generalize s1.heap.push { cls := .type "dict_items", data := .fields #[.ref d] } = h2 at I3 hod2 hv
  refine ditem_iter (s := { s1 with heap := h2 }) hv hod2 hdd ?_
  refine ⟨h2.objs.size, [h2.objs.size], _, _, _, rfl, I3.kept (t' := s1.toks) fun b o e => Heap.get?_push_of_some _ e, turn_ditem d _ hdd, ⟨_, _, Heap.get?_push_size _ rfl⟩, fun b hb => ?_, q od xs rel e⟩
  have e : b = h2.objs.size := by simpa using hb
  subst e
  exact I3.fpOk (Nat.le_refl _) (I3.hok.fresh (Nat.le_refl _))
end
theorem comp2_ditem {P : Program} {w : World} {n : Nat} {js : List Nat} {g : TG} {tt : TT} {te : TE} {d : Addr} {od : Obj} {xs : List MEnt} {kvs : List (MKey × V)} {σ : St} {H : Hp} {Q : VK} (Pv : Nat → List V → Hp → Prop) (h0 : Pv 0 [] H) (hl : ∀ i ys H, i ≤ kvs.length → Pv i ys H → H d = some (.frz od (DMO P w d xs)) ∧ MRel H kvs xs)
    (hs : ∀ i kv y t ys H, kvs[i]? = some kv → MV H kv.1 y → H t = none → Pv i ys H → tStep2 n js g tt te σ ys (Pv (i + 1)) (.ref t) (upd H t (.tup [y, kv.2])))
    (hd : ∀ ys H, Pv kvs.length ys H → ∀ p, H p = none → Q (.ref p) (upd H p (.lst ys))) : tCompB2 (Itm P w d od xs kvs) n js g tt te σ H Q := by
  refine ⟨fun i m ys H => m = kvs.length - i ∧ i ≤ kvs.length ∧ Pv i ys H, ⟨kvs.length, by simp, Nat.zero_le _, h0⟩, ?_⟩
  rintro i m ys H ⟨rfl, hi, p⟩
  have q := hl i ys H hi p
  by_cases hlt : i < kvs.length
  · refine .inr ⟨⟨q.1, q.2, hlt⟩, Pv (i + 1), fun ys' H' p' => ⟨kvs.length - (i + 1), by omega, rfl, hlt, p'⟩, fun x H' y => ?_⟩
    obtain ⟨t, kv, y, hk, hm, hn, rfl, rfl⟩ := y
    exact hs i kv y t ys _ hk hm hn p
  · have e : i = kvs.length := by omega
    subst e
    exact .inl ⟨⟨q.1, q.2, Nat.le_refl _⟩, hd ys H p⟩
end L2

set_option Elab.async false
set_option linter.all false
set_option maxRecDepth 100000
namespace Mm
/-! parts, by plain lists -/
section
variable {κ : Type} [DecidableEq κ]
noncomputable abbrev Pt (κ : Type) := Nat × κ
noncomputable def Has (ps : List (Pt κ)) (s : Nat) (k : κ) : Prop := ∃ p ∈ ps, p.2 = k ∧ p.1.testBit s = true
noncomputable def Fnl (ps : List (Pt κ)) : Prop := ∀ s k k', Has ps s k → Has ps s k' → k = k'
/-- the first pair that has the setting -/
noncomputable def atP (ps : List (Pt κ)) (s : Nat) : Option κ := (ps.find? fun p => p.1.testBit s).map (·.2)
theorem atP_has {ps : List (Pt κ)} {s : Nat} {k : κ} (h : atP ps s = some k) : Has ps s k := by
  unfold atP at h
  cases q : ps.find? fun p => p.1.testBit s with
  | none => rw [q] at h; cases h
  | some p =>
    rw [q] at h
    exact ⟨p, List.mem_of_find?_eq_some q, Option.some.inj h, by simpa using List.find?_some q⟩
theorem atP_of {ps : List (Pt κ)} (f : Fnl ps) {s : Nat} {k : κ} (h : Has ps s k) : atP ps s = some k := by
  cases q : atP ps s with
  | some k' => rw [f s k' k (atP_has q) h]
  | none =>
    unfold atP at q
    rw [Option.map_eq_none_iff, List.find?_eq_none] at q
    obtain ⟨p, hp, _, hb⟩ := h
    exact absurd hb (q p hp)
/-- the least setting -/
noncomputable def lowN (m : Nat) : Nat := ((List.range 64).find? fun s => m.testBit s).getD 64
structure Form (R : List (Pt κ)) : Prop where
  nz : ∀ p ∈ R, ∃ s, s < 64 ∧ p.1.testBit s = true
  lt : ∀ p ∈ R, p.1 < 2 ^ 64
  nd : (R.map (·.2)).Nodup
  fn : Fnl R
  so : R.Pairwise fun a b => lowN a.1 < lowN b.1
theorem testBit_lt {m s : Nat} (h : m.testBit s = true) (hm : m < 2 ^ 64) : s < 64 := by
  rcases Nat.lt_or_ge s 64 with z | z
  · exact z
  · have : m < 2 ^ s := Nat.lt_of_lt_of_le hm (Nat.pow_le_pow_right (by omega) z)
    rw [Nat.testBit_lt_two_pow this] at h; cases h
theorem nd_mem {α β : Type} {f : α → β} : ∀ {l : List α} {a b : α}, (l.map f).Nodup → a ∈ l → b ∈ l → f a = f b → a = b
  | [], _, _, _, h, _, _ => nomatch h
  | x :: r, a, b, hn, ha, hb, e => by
    have hn : f x ∉ r.map f ∧ (r.map f).Nodup := List.nodup_cons.mp hn
    rcases List.mem_cons.mp ha with za | za
    · rcases List.mem_cons.mp hb with zb | zb
      · rw [za, zb]
      · exact absurd (List.mem_map.mpr ⟨b, zb, by rw [← e, za]⟩) hn.1
    · rcases List.mem_cons.mp hb with zb | zb
      · exact absurd (List.mem_map.mpr ⟨a, za, by rw [e, zb]⟩) hn.1
      · exact nd_mem hn.2 za zb e
theorem form_bits {R : List (Pt κ)} (F : Form R) {p : Pt κ} (hp : p ∈ R) (s : Nat) : p.1.testBit s = true ↔ Has R s p.2 := by
  constructor
  · intro h; exact ⟨p, hp, rfl, h⟩
  · rintro ⟨q, hq, e, h⟩
    rw [← nd_mem F.nd hq hp e]; exact h
theorem form_sub {R R' : List (Pt κ)} (F : Form R) (F' : Form R') (h : ∀ s k, Has R s k ↔ Has R' s k) {p : Pt κ} (hp : p ∈ R) : p ∈ R' := by
  obtain ⟨s, _, hs⟩ := F.nz p hp
  obtain ⟨q, hq, e, _⟩ := (h s p.2).mp ⟨p, hp, rfl, hs⟩
  have : q = p := by
    have e1 : q.1 = p.1 := by
      apply Nat.eq_of_testBit_eq
      intro i
      have a := form_bits F hp i
      have b := form_bits F' hq i
      rw [e] at b
      have c := a.trans ((h i p.2).trans b.symm)
      cases x : q.1.testBit i <;> cases y : p.1.testBit i <;> simp_all
    exact Prod.ext e1 e
  rw [← this]; exact hq
theorem sorted_eq {α : Type} {f : α → Nat} : ∀ {l l' : List α}, l.Pairwise (fun a b => f a < f b) → l'.Pairwise (fun a b => f a < f b) → (∀ x, x ∈ l ↔ x ∈ l') → l = l'
  | [], [], _, _, _ => rfl
  | [], y :: r, _, _, h => nomatch (h y).mpr List.mem_cons_self
  | x :: r, [], _, _, h => nomatch (h x).mp List.mem_cons_self
  | x :: r, y :: r', p, p', h => by
    obtain ⟨p1, p2⟩ := List.pairwise_cons.mp p
    obtain ⟨q1, q2⟩ := List.pairwise_cons.mp p'
    have e : x = y := by
      rcases List.mem_cons.mp ((h x).mp List.mem_cons_self) with z | z
      · exact z
      · rcases List.mem_cons.mp ((h y).mpr List.mem_cons_self) with z' | z'
        · exact z'.symm
        · have := q1 x z; have := p1 y z'; omega
    subst e
    congr 1
    refine sorted_eq p2 q2 fun z => ⟨fun hz => ?_, fun hz => ?_⟩
    · rcases List.mem_cons.mp ((h z).mp (List.mem_cons_of_mem _ hz)) with w | w
      · subst w; exact absurd (p1 z hz) (Nat.lt_irrefl _)
      · exact w
    · rcases List.mem_cons.mp ((h z).mpr (List.mem_cons_of_mem _ hz)) with w | w
      · subst w; exact absurd (q1 z hz) (Nat.lt_irrefl _)
      · exact w
theorem form_one {R R' : List (Pt κ)} (F : Form R) (F' : Form R') (h : ∀ s k, Has R s k ↔ Has R' s k) : R = R' :=
  sorted_eq (f := fun p => lowN p.1) F.so F'.so fun _ => ⟨form_sub F F' h, form_sub F' F fun s k => (h s k).symm⟩
/-! the dict that one_form fills -/
noncomputable def gM (M : List (κ × Nat)) (k : κ) : Nat := ((M.find? fun p => decide (p.1 = k)).map (·.2)).getD 0
noncomputable def pM (M : List (κ × Nat)) (k : κ) (x : Nat) : List (κ × Nat) := if ((M.find? fun p => decide (p.1 = k)).map (·.2)).isSome then M.map (fun p => if p.1 = k then (p.1, x) else p) else M ++ [(k, x)]
noncomputable def addM (M : List (κ × Nat)) (p : Pt κ) : List (κ × Nat) := if p.1 = 0 then M else pM M p.2 (gM M p.2 ||| p.1)
noncomputable def runM (ps : List (Pt κ)) : List (κ × Nat) := ps.foldl addM []
theorem runM_snoc (ps : List (Pt κ)) (p : Pt κ) : runM (ps ++ [p]) = addM (runM ps) p := by simp [runM]
structure MI (ps : List (Pt κ)) (M : List (κ × Nat)) : Prop where
  nd : (M.map (·.1)).Nodup
  ok : ∀ q ∈ M, q.2 ≠ 0 ∧ ∀ s, q.2.testBit s = true ↔ Has ps s q.1
  all : ∀ s k, Has ps s k → ∃ x, (k, x) ∈ M
  len : M.length ≤ ps.length
theorem has_snoc {ps : List (Pt κ)} {p : Pt κ} {s : Nat} {k : κ} : Has (ps ++ [p]) s k ↔ Has ps s k ∨ (p.2 = k ∧ p.1.testBit s = true) := by
  constructor
  · rintro ⟨q, hq, e, h⟩
    rcases List.mem_append.mp hq with z | z
    · exact .inl ⟨q, z, e, h⟩
    · have z : q = p := by simpa using z
      subst z; exact .inr ⟨e, h⟩
  · rintro (⟨q, hq, e, h⟩ | ⟨e, h⟩)
    · exact ⟨q, List.mem_append_left _ hq, e, h⟩
    · exact ⟨p, by simp, e, h⟩
theorem find_key {M : List (κ × Nat)} {k : κ} {x : Nat} (hn : (M.map (·.1)).Nodup) (h : (k, x) ∈ M) : (M.find? fun p => decide (p.1 = k)) = some (k, x) := by
  cases q : M.find? fun p => decide (p.1 = k) with
  | none => exact absurd (decide_eq_true (rfl : k = k)) (List.find?_eq_none.mp q _ h)
  | some y =>
    have e : y.1 = k := by simpa using List.find?_some q
    rw [nd_mem hn (List.mem_of_find?_eq_some q) h e]
theorem ne_zero_bit {m : Nat} (h : m ≠ 0) : ∃ s, m.testBit s = true := Nat.exists_testBit_of_ne_zero h
theorem mi_step {ps : List (Pt κ)} {M : List (κ × Nat)} (I : MI ps M) (p : Pt κ) : MI (ps ++ [p]) (addM M p) := by
  unfold addM
  by_cases h0 : p.1 = 0
  · rw [if_pos h0]
    have hs : ∀ s k, Has (ps ++ [p]) s k ↔ Has ps s k := fun s k => by
      rw [has_snoc, h0]; simp
    exact ⟨I.nd, fun q hq => ⟨(I.ok q hq).1, fun s => ((I.ok q hq).2 s).trans (hs s q.1).symm⟩, fun s k h => I.all s k ((hs s k).mp h), by have := I.len; simp; omega⟩
  · rw [if_neg h0]
    by_cases hk : ∃ x, (p.2, x) ∈ M
    · obtain ⟨x, hx⟩ := hk
      have hf := find_key I.nd hx
      have hg : gM M p.2 = x := by unfold gM; rw [hf]; rfl
      have hp : pM M p.2 (gM M p.2 ||| p.1) = M.map (fun q => if q.1 = p.2 then (q.1, x ||| p.1) else q) := by unfold pM; rw [hf, hg]; rfl
      rw [hp]
      have hkeys : (M.map (fun q => if q.1 = p.2 then (q.1, x ||| p.1) else q)).map (·.1) = M.map (·.1) := by
        rw [List.map_map]
        refine List.map_congr_left fun q _ => ?_
        show (if q.1 = p.2 then (q.1, x ||| p.1) else q).1 = q.1
        split <;> rfl
      refine ⟨by rw [hkeys]; exact I.nd, fun q hq => ?_, fun s k h => ?_, by have := I.len; simp; omega⟩
      · obtain ⟨r, hr, e⟩ := List.mem_map.mp hq
        by_cases e1 : r.1 = p.2
        · rw [if_pos e1] at e
          subst e
          refine ⟨fun z => h0 ?_, fun s => ?_⟩
          · have : p.1 ≤ x ||| p.1 := Nat.right_le_or
            have z : x ||| p.1 = 0 := z
            omega
          · show (x ||| p.1).testBit s = true ↔ _
            rw [Nat.testBit_or, Bool.or_eq_true, has_snoc, (I.ok _ hx).2 s]
            show Has ps s p.2 ∨ _ ↔ Has ps s r.1 ∨ _
            rw [e1]
            constructor
            · rintro (h | h)
              · exact .inl h
              · exact .inr ⟨rfl, h⟩
            · rintro (h | h)
              · exact .inl h
              · exact .inr h.2
        · rw [if_neg e1] at e
          subst e
          refine ⟨(I.ok r hr).1, fun s => ?_⟩
          rw [(I.ok r hr).2 s, has_snoc]
          constructor
          · exact .inl
          · rintro (h | h)
            · exact h
            · exact absurd h.1.symm e1
      · rcases has_snoc.mp h with h | ⟨e, _⟩
        · obtain ⟨y, hy⟩ := I.all s k h
          by_cases e1 : k = p.2
          · exact ⟨x ||| p.1, List.mem_map.mpr ⟨(k, y), hy, by simp [e1]⟩⟩
          · exact ⟨y, List.mem_map.mpr ⟨(k, y), hy, by simp [e1]⟩⟩
        · exact ⟨x ||| p.1, List.mem_map.mpr ⟨(p.2, x), hx, by simp [e]⟩⟩
    · have hn : (M.find? fun q => decide (q.1 = p.2)) = none := by
        rw [List.find?_eq_none]
        intro q hq z
        have z : q.1 = p.2 := of_decide_eq_true z
        exact hk ⟨q.2, by rw [← z]; exact hq⟩
      have hno : ∀ s, ¬ Has ps s p.2 := fun s h => hk (I.all s p.2 h)
      have hp : pM M p.2 (gM M p.2 ||| p.1) = M ++ [(p.2, p.1)] := by unfold pM gM; rw [hn]; simp
      rw [hp]
      refine ⟨?_, fun q hq => ?_, fun s k h => ?_, by have := I.len; simp; omega⟩
      · rw [List.map_append, List.nodup_append]
        refine ⟨I.nd, by simp, fun a ha b hb z => ?_⟩
        obtain ⟨q, hq, e⟩ := List.mem_map.mp ha
        have hb : b = p.2 := by simpa using hb
        exact hk ⟨q.2, by rw [← hb, ← z, ← e]; exact hq⟩
      · rcases List.mem_append.mp hq with z | z
        · refine ⟨(I.ok q z).1, fun s => ?_⟩
          rw [(I.ok q z).2 s, has_snoc]
          constructor
          · exact .inl
          · rintro (h | h)
            · exact h
            · exact absurd ⟨q.2, by rw [h.1]; exact z⟩ hk
        · have z : q = (p.2, p.1) := by simpa using z
          subst z
          refine ⟨h0, fun s => ?_⟩
          rw [has_snoc]
          constructor
          · intro h; exact .inr ⟨rfl, h⟩
          · rintro (h | h)
            · exact absurd h (hno s)
            · exact h.2
      · rcases has_snoc.mp h with h | ⟨e, _⟩
        · obtain ⟨y, hy⟩ := I.all s k h
          exact ⟨y, List.mem_append_left _ hy⟩
        · exact ⟨p.1, by rw [← e]; simp⟩
theorem mi_all (ps : List (Pt κ)) : MI ps (runM ps) := by
  have go : ∀ (qs rs : List (Pt κ)), MI rs (runM rs) → MI (rs ++ qs) (runM (rs ++ qs)) := by
    intro qs
    induction qs with
    | nil => intro rs h; simpa using h
    | cons q qs ih =>
      intro rs h
      have := ih (rs ++ [q]) (by rw [runM_snoc]; exact mi_step h q)
      simpa using this
  have h0 : MI ([] : List (Pt κ)) (runM []) := ⟨List.nodup_nil, (fun q h => nomatch h), (fun s k h => by obtain ⟨p, h, _⟩ := h; exact nomatch h), Nat.le_refl _⟩
  simpa using go ps [] h0
theorem lowN_spec {m : Nat} (h : ∃ s, s < 64 ∧ m.testBit s = true) : lowN m < 64 ∧ m.testBit (lowN m) = true ∧ ∀ s, s < lowN m → m.testBit s = false := by
  unfold lowN
  cases q : (List.range 64).find? fun s => m.testBit s with
  | none =>
    obtain ⟨s, hs, hb⟩ := h
    exact absurd hb (List.find?_eq_none.mp q s (List.mem_range.mpr hs))
  | some x =>
    have h1 := List.find?_some q
    have h2 : x < 64 := List.mem_range.mp (List.mem_of_find?_eq_some q)
    refine ⟨h2, h1, fun s hs => ?_⟩
    have hs : s < x := hs
    rw [List.find?_eq_some_iff_getElem] at q
    obtain ⟨_, i, hi, e, hl⟩ := q
    have e : i = x := by simpa using e
    have := hl s (by omega)
    simpa using this
/-- what comes out is the one form -/
theorem form_of {ps : List (Pt κ)} {R : List (Pt κ)} (f : Fnl ps) (hlt : ∀ p ∈ ps, p.1 < 2 ^ 64) (hp : R.Perm ((runM ps).map fun q => (q.2, q.1))) (hs : R.Pairwise fun a b => lowN a.1 ≤ lowN b.1) : Form R ∧ ∀ s k, Has R s k ↔ Has ps s k := by
  have I := mi_all ps
  have hm : ∀ p, p ∈ R ↔ (p.2, p.1) ∈ runM ps := fun p => by
    rw [hp.mem_iff, List.mem_map]
    constructor
    · rintro ⟨q, hq, e⟩; rw [← e]; exact hq
    · intro h; exact ⟨_, h, rfl⟩
  have hb : ∀ p ∈ R, ∀ s, p.1.testBit s = true ↔ Has ps s p.2 := fun p h s => (I.ok _ ((hm p).mp h)).2 s
  have hasR : ∀ s k, Has R s k ↔ Has ps s k := fun s k => by
    constructor
    · rintro ⟨p, h, e, b⟩; rw [← e]; exact (hb p h s).mp b
    · intro h
      obtain ⟨x, hx⟩ := I.all s k h
      have hx' : (x, k) ∈ R := (hm (x, k)).mpr hx
      exact ⟨(x, k), hx', rfl, (hb _ hx' s).mpr h⟩
  have lt : ∀ p ∈ R, p.1 < 2 ^ 64 := fun p h => by
    refine Nat.lt_pow_two_of_testBit _ fun i hi => ?_
    cases q : p.1.testBit i with
    | false => rfl
    | true =>
      obtain ⟨r, hr, _, hb⟩ := (hb p h i).mp q
      have := testBit_lt hb (hlt r hr)
      omega
  have nz : ∀ p ∈ R, ∃ s, s < 64 ∧ p.1.testBit s = true := fun p h => by
    obtain ⟨s, hs⟩ := ne_zero_bit (I.ok _ ((hm p).mp h)).1
    exact ⟨s, testBit_lt hs (lt p h), hs⟩
  have nd : (R.map (·.2)).Nodup := by
    have : (R.map (·.2)).Perm ((runM ps).map (·.1)) := by
      have := hp.map (·.2)
      rw [List.map_map] at this
      exact this
    exact this.nodup_iff.mpr I.nd
  have fn : Fnl R := fun s k k' h h' => f s k k' ((hasR s k).mp h) ((hasR s k').mp h')
  refine ⟨⟨nz, lt, nd, fn, ?_⟩, hasR⟩
  rw [List.pairwise_iff_getElem] at hs ⊢
  intro i j hi hj hij
  have h1 := hs i j hi hj hij
  rcases Nat.lt_or_ge (lowN R[i].1) (lowN R[j].1) with z | z
  · exact z
  · exfalso
    have e : lowN R[i].1 = lowN R[j].1 := Nat.le_antisymm h1 z
    have a := (lowN_spec (nz _ (List.getElem_mem hi))).2.1
    have b := (lowN_spec (nz _ (List.getElem_mem hj))).2.1
    rw [e] at a
    have ek := fn _ _ _ ⟨R[i], List.getElem_mem hi, rfl, a⟩ ⟨R[j], List.getElem_mem hj, rfl, b⟩
    have hi' : i < (R.map (·.2)).length := by simpa using hi
    have hj' : j < (R.map (·.2)).length := by simpa using hj
    have : (R.map (·.2))[i] = (R.map (·.2))[j] := by simpa using ek
    have := (List.getElem_inj nd).mp this
    omega
end
end Mm

namespace L2
theorem len1 {α : Type} : ∀ {us : List α}, us.length = 1 → ∃ a, us = [a]
  | [a], _ => ⟨a, rfl⟩
theorem lenS {α : Type} {n : Nat} : ∀ {us : List α}, us.length = n + 1 → ∃ a r, us = a :: r ∧ r.length = n
  | a :: r, h => ⟨a, r, rfl, Nat.succ.inj h⟩
theorem len2 {α : Type} {us : List α} (h : us.length = 2) : ∃ a b, us = [a, b] := by
  obtain ⟨a, r, rfl, k⟩ := lenS h
  obtain ⟨b, rfl⟩ := len1 k
  exact ⟨a, b, rfl⟩
theorem len3 {α : Type} {us : List α} (h : us.length = 3) : ∃ a b c, us = [a, b, c] := by
  obtain ⟨a, r, rfl, k⟩ := lenS h
  obtain ⟨b, c, rfl⟩ := len2 k
  exact ⟨a, b, c, rfl⟩
end L2

set_option Elab.async false
set_option linter.all false
set_option maxRecDepth 100000
set_option maxHeartbeats 4000000
namespace L2
open PySem PySem.Spec PyProof.Rows
/-! ### an exception on its way, of which the class and the own dict are known -/
noncomputable def TrD (h base : Heap) (e : Addr) (cls fl : Value) (dd : Option Addr) (cx : Option Value) : Prop :=
  ∃ oe vs T oT ts, h.get? e = some oe ∧ (oe.cls = cls ∧ oe.dict = dd ∧ vs[2]? = cx) ∧ oe.data = .fields vs ∧ vs[1]? = some (.ref T) ∧ base.get? T = none ∧ T ≠ e ∧ h.get? T = some oT ∧ oT.data = .fields ts ∧ ts[3]? = some fl
noncomputable def FlyD (base : Heap) (l : List Env) (e : Addr) (cls : Value) (dd : Option Addr) (cx : Option Value) (h : Heap) : Prop := base.StaysIn h ∧ base.get? e = none ∧ h.FunFrames base l ∧ TrD h base e cls .none dd cx
theorem FlyD.there {base h : Heap} {l : List Env} {e : Addr} {cls : Value} {dd : Option Addr} {cx : Option Value} (x : FlyD base l e cls dd cx h) : ∃ ob, h.get? e = some ob ∧ ob.cls = cls ∧ ob.dict = dd := by
  obtain ⟨_, _, _, oe, _, _, _, _, he, hc, _⟩ := x
  exact ⟨oe, he, hc.1, hc.2.1⟩
section
variable {M : Model} {A : Around} {E : Value → Shared → Prop} {s : Shared}
theorem FlyD.out {base h : Heap} {env : Env} {outer : List Env} {e : Addr} {cls : Value} {dd : Option Addr} {cx : Option Value} (x : FlyD base (env :: outer) e cls dd cx h) : FlyD base outer e cls dd cx h := by
  obtain ⟨k1, k2, ⟨_, _, k3⟩, k4⟩ := x
  exact ⟨k1, k2, k3, k4⟩
end
end L2

set_option Elab.async false
set_option linter.all false
set_option maxRecDepth 100000
set_option maxHeartbeats 4000000
namespace L2
open PySem PySem.Spec PyProof.Rows
/-! ### self.f = v where self is a new exception of an own class -/
noncomputable abbrev bmVE : List Value := [.type "ValueError", .type "Exception", .type "BaseException", .type "object"]
noncomputable def refsThen : Nat → List Value → Bool
  | 0, l => l == bmVE
  | n + 1, .ref _ :: r => refsThen n r
  | _ + 1, _ => false
/-- what of the text an own class of exceptions must have whose __init__ sets attributes -/
structure ICls (K : PySem.W.Frag) (C : Addr) : Prop where
  po : (PySem.W.clsIn K C).any (fun cd => refsThen 2 cd.mro) = true
  sa : PySem.W.findIn K (.ref C) "__setattr__" = some (some (.builtin "object.__setattr__"))
  hd : PySem.W.hasDictIn K C = true
section
variable {prog : Program} {w : World} {A : Around} {E : Value → Shared → Prop} {s : Shared} {K : PySem.W.Frag} {x C : Addr} {name : Str} {v : Value}
end

/-! ### C(..), C an own class of exceptions with an __init__ of its own -/
noncomputable def excInI (K : PySem.W.Frag) (C : Addr) (bmB : List Value) (newId : String) (f : Addr) : Bool := match K.lookup C with
  | some ⟨.type "type", _, .cls cd, sl⟩ => (match cd.mro, sl.toList with
    | .ref C' :: bm, [_, _, _, _, some (.builtin n), _] => C' == C && n == newId && !cd.hasDel && PySem.W.tailIn K bmB bm && PySem.W.nsOkIn K cd.ns && PySem.W.nsIn K cd.ns "__init__" == some (some (.ref f))
    | _, _ => false)
  | _ => false
section
variable {prog : Program} {w : World} {A : Around} {E : Value → Shared → Prop} {h : Heap} {g : Array GenState} {d : Drawn} {t : Nat} {os : OsState}
variable {nm q : Str} {C N : Addr} {bs bm bmB : List Value} {hdct : Bool} {sn : List Str} {sub : List Value} {ab : Bool} {col : Option Bool} {dd : Option Addr} {k0 k1 k2 k3 k5 : Option Value} {B newId initId : String}
end
section
variable {M : Model} {A : Around} {E : Value → Shared → Prop} {env : Env}
variable {nm q : Str} {C N : Addr} {bs bm : List Value} {hdct : Bool} {sn : List Str} {sub : List Value} {ab : Bool} {col : Option Bool} {dd : Option Addr} {k0 k1 k2 k3 k5 : Option Value} {newId : String}
end
end L2

set_option Elab.async false
set_option linter.all false
set_option maxRecDepth 100000
set_option maxHeartbeats 4000000
namespace L2
open PySem PySem.Spec PyProof.Rows
section
variable {prog : Program} {w : World} {A : Around} {E : Value → Shared → Prop} {s : Shared} {env : Env}
variable {nm q : Str} {C N : Addr} {bs bm bmB : List Value} {hdct : Bool} {sn : List Str} {sub : List Value} {ab : Bool} {col : Option Bool} {dd : Option Addr} {k0 k1 k2 k3 k5 : Option Value} {B newId initId : String}
end
/-! ### how an exception leaves a def: its class, its own dict -/
noncomputable def CX2 (κ : Option Value → Prop) (P : Program) (w : World) : CXT := fun outer H s E e s' => ∃ (ea : Addr) (cls : Value) (dd : Option Addr) (cx : Option Value) (B : Heap) (H' : Hp), e = .ref ea ∧ κ cx ∧ FlyD B outer ea cls dd cx s'.heap ∧
  (∀ b o, s.heap.get? b = some o → b ∉ frs outer → ∃ o', B.get? b = some o') ∧ (∀ a o, H' a = some o → ∃ ob, B.get? a = some ob) ∧ s'.os = s.os ∧ AllBare s'.gens ∧ Un (frs outer) [] H H' s.heap s'.heap ∧ HOk P w H' s'.heap ∧ E cls dd H'
section
variable {X : Cx} {pins : List (Addr × Obj)} {σ : St} {H H' : Hp} {s s' : Shared} {B h'' : Heap}
end
noncomputable def del (H : Hp) (a : Addr) : Hp := fun b => if b = a then none else H b
noncomputable def XdAt (dx : Addr) (fs : List (Str × V)) (h : Heap) : Prop := ∃ mA, h.Ns1 dx mA ∧ ∀ f, RelO (fs.lookup f) (mA f)
theorem XdAt.obj {dx : Addr} {fs : List (Str × V)} {h : Heap} (p : XdAt dx fs h) : ∃ o, h.get? dx = some o := by obtain ⟨_, ⟨o, _, _, e, _⟩, _⟩ := p; exact ⟨o, e⟩
section
variable {P : Program} {w : World} {K : PySem.W.Frag} {mg : Str → Option Value} {base : Heap} {N : List Str} {qual : Str} {scope : Scope} {f : Addr} {cd : Value} {A : Around} {outer : List Env} {s₀ : Shared} {H₀ : Hp} {E : XK}
end

/-! ### self.f = v in the __init__ of an exception -/
section
variable {X : Cx} {pins : List (Addr × Obj)} {σ : St} {H : Hp} {s : Shared} {a C t dx : Addr} {fs : List (Str × V)} {f : Str} {A : Around} {E : Value → Shared → Prop}
end
section
variable {X : Cx} {o e value : Expr} {f : Str} {pos pos' tpos : Pos} {ta tv : TE}
end
/-! ### raise C(..) -/
structure MkI (K : PySem.W.Frag) (C f : Addr) (bm : List Value) (newId : String) : Prop where
  exc : excInI K C bm newId f = true
  fn : PySem.W.isFn K (.ref f) = true
section
variable {X : Cx}
end
end L2

set_option Elab.async false
set_option linter.all false
set_option maxRecDepth 100000
set_option maxHeartbeats 4000000
namespace L2
open PySem PySem.Spec PyProof.Rows
section
variable {P : Program} {w : World} {K : PySem.W.Frag} {mg : Str → Option Value} {base : Heap} {N : List Str} {qual : Str} {scope : Scope} {f : Addr} {cd : Value} {A : Around} {outer : List Env} {s₀ : Shared} {H₀ : Hp} {E : XK}
theorem Fun.ok2 {κ : Option Value → Prop} {x qual : Str} {st : Stmt} {f : Addr} {fd : FuncData} {N ps : List Str} {k : Nat} {sp : Sp} (F : Fun K x qual st f fd) (S : FnScope N ps (defScope st)) (len : ∀ vs H Q E, sp vs H Q E → vs.length = ps.length)
    (hbody : ∀ (cdv : Value) (A : Around) (outer : List Env) (s : Shared) (H : Hp) (vs : List V) (Q : VK) (E : XK), Room k (A.deeper (envOfC qual (defScope st) s.heap.objs.size f cdv)) → sp vs H Q E →
      ∃ t, PSs (cxOf (CX2 κ P w) P w K mg base N qual (defScope st) f cdv A outer s H E) (defBody st) t ∧ t { nx := fun _ H' => Q .non H', rt := Q } (start N vs) H) : FnOk P w K mg base (CX2 κ P w) (k + 1) f fd ps sp := by
  obtain ⟨oc, od, kV, doc, pm, an, cdv, ct, osl, rfl, lk, hcd⟩ := F.ex
  exact fn_of lk hcd S len fun A outer s H vs Q E hr hsp => hbody cdv A outer s H vs Q E hr hsp
end
/-! ### a caught exception: its class, its own dict -/
noncomputable def HasD (a : Addr) (cls : Value) (dd : Option Addr) (cx : Option Value) (h : Heap) : Prop := ∃ o vs, h.get? a = some o ∧ o.cls = cls ∧ o.dict = dd ∧ o.data = .fields vs ∧ vs[2]? = cx
noncomputable def excD (a : Addr) (cls : Value) (dd : Option Addr) (cx : Option Value) : HO := .ext (HasD a cls dd cx)
theorem HasD.cls {a : Addr} {cls : Value} {dd : Option Addr} {cx : Option Value} {h : Heap} (p : HasD a cls dd cx h) : HasCls a cls h := by obtain ⟨o, _, q, r, _⟩ := p; exact ⟨o, q, r⟩
theorem FlyD.has {base h : Heap} {l : List Env} {e : Addr} {cls : Value} {dd : Option Addr} {cx : Option Value} (x : FlyD base l e cls dd cx h) : HasD e cls dd cx h := by
  obtain ⟨_, _, _, oe, vs, _, _, _, he, hc, hd, _⟩ := x
  exact ⟨oe, vs, he, hc.1, hc.2.1, hd, hc.2.2⟩
theorem FlyD.cls {base h : Heap} {l : List Env} {e : Addr} {cls : Value} {dd : Option Addr} {cx : Option Value} (x : FlyD base l e cls dd cx h) : HasCls e cls h := x.has.cls
section
variable {X : Cx}
theorem excD_has {pins : List (Addr × Obj)} {σ : St} {H : Hp} {s : Shared} {a : Addr} {cls : Value} {dd : Option Addr} {cx : Option Value} (I : Inv X pins σ H s) (e : H a = some (excD a cls dd cx)) : HasD a cls dd cx s.heap := (show ObjOk X.prog X.w H s.heap a (.ext (HasD a cls dd cx)) from I.hok a _ e).1
/-- isinstance(e, C): C an own class -/
theorem call_isexD {K : PySem.W.Frag} (hK : X.K = K) : CallR X (.builtin "isinstance") (fun xs H Q => ∃ a D C dd cx b, xs = [.ref a, .ref C] ∧ H a = some (excD a (.ref D) dd cx) ∧ XCls K D ∧ PySem.W.kitOne K (.ref D) (.ref C) = some b ∧ Q (.bl b) H) := by
  subst hK
  intro pins s σ H xs us Q I r h
  obtain ⟨a, D, C, dd, cx, b, rfl, ha, c, e, q⟩ := h
  obtain ⟨u, w', rfl, rx, rw'⟩ := vals2 r
  cases (show w' = Value.ref C from rw')
  cases (show u = Value.ref a from rx)
  exact PySem.W.kia_one (kitx_exc c) I.kIn (excD_has I ha).cls e (fun z => nomatch z) fun tk => ⟨.bl b, H, I.tok _, rfl, q⟩
end
end L2

set_option Elab.async false
set_option linter.all false
set_option maxRecDepth 100000
set_option maxHeartbeats 4000000
namespace L2
open PySem PySem.Spec PyProof.Rows
/-! ### a def with defaults -/
structure FunD (K : PySem.W.Frag) (x qual : Str) (st : Stmt) (f T : Addr) (items : List Value) (fd : FuncData) : Prop where
  ex : ∃ (oc : Value) (od : Option Addr) (kV doc pm : Value) (an : Option Addr) (cdv ct : Value) (osl : Array (Option Value)),
    fd = PySem.W.fnOf x qual (defArgs st) (defBody st) (defScope st) (.ref T) kV doc pm an cdv ct ∧ K.lookup f = some ⟨oc, od, .func fd, osl⟩ ∧ PySem.W.codeIn K cdv qual = true
  df : ∃ (o : Obj) (n : Nat), K.lookup T = some o ∧ o.data = .seq items.toArray n
section
variable {P : Program} {w : World} {K : PySem.W.Frag} {mg : Str → Option Value} {base : Heap}
theorem FunD.ok2 {κ : Option Value → Prop} {x qual : Str} {st : Stmt} {f T : Addr} {items : List Value} {fd : FuncData} {N ps : List Str} {k : Nat} {sp : Sp} (F : FunD K x qual st f T items fd) (S : FnScope N ps (defScope st)) (len : ∀ vs H Q E, sp vs H Q E → vs.length = ps.length)
    (hbody : ∀ (cdv : Value) (A : Around) (outer : List Env) (s : Shared) (H : Hp) (vs : List V) (Q : VK) (E : XK), Room k (A.deeper (envOfC qual (defScope st) s.heap.objs.size f cdv)) → sp vs H Q E →
      ∃ t, PSs (cxOf (CX2 κ P w) P w K mg base N qual (defScope st) f cdv A outer s H E) (defBody st) t ∧ t { nx := fun _ H' => Q .non H', rt := Q } (start N vs) H) : FnOk P w K mg base (CX2 κ P w) (k + 1) f fd ps sp := by
  obtain ⟨oc, od, kV, doc, pm, an, cdv, ct, osl, rfl, lk, hcd⟩ := F.ex
  exact fn_of lk hcd S len fun A outer s H vs Q E hr hsp => hbody cdv A outer s H vs Q E hr hsp
theorem FunD.binds {x qual : Str} {st : Stmt} {f T : Addr} {items ds : List Value} {fd : FuncData} {ps : List Str} (F : FunD K x qual st f T items fd)
    (h : ∀ (kV doc pm : Value) (an : Option Addr) (cdv ct : Value) (us : List Value), (us ++ ds).length = ps.length →
      ∃ k, bindArgs (PySem.W.fnOf x qual (defArgs st) (defBody st) (defScope st) (.ref T) kV doc pm an cdv ct) ⟨us, []⟩ = seqItems? (.ref T) >>= k ∧ k (some items.toArray) = pure (ps.zip (us ++ ds))) : Binds K fd ps ds := by
  obtain ⟨oc, od, kV, doc, pm, an, cdv, ct, osl, rfl, lk, hcd⟩ := F.ex
  obtain ⟨o, n, hT, hd⟩ := F.df
  intro s us KX hl
  obtain ⟨k, h1, h2⟩ := h kV doc pm an cdv ct us hl
  exact .of_defaults (T := T) rfl (KX _ _ hT) hd h1 h2
end
/-! ### x in a list of data -/
section
variable {X : Cx}
end
/-! ### sum of a list of ints -/
section
variable {X : Cx}
end
end L2

set_option linter.all false
namespace Mm
/-! wishes, and how they are read from behind -/
inductive W where
  | c0 | c1 | sw (k : Nat) | no (a : W) | an (a b : W) | orr (a b : W) | xo (a b : W) | ch (k : Nat) (a b : W)
noncomputable def W.signs : W → List Nat
  | .c0 => [48]
  | .c1 => [49]
  | .sw k => [97 + k]
  | .no a => 33 :: a.signs
  | .an a b => 38 :: (a.signs ++ b.signs)
  | .orr a b => 124 :: (a.signs ++ b.signs)
  | .xo a b => 94 :: (a.signs ++ b.signs)
  | .ch k a b => 63 :: (97 + k) :: (a.signs ++ b.signs)
noncomputable def W.ok (n : Nat) : W → Prop
  | .c0 => True
  | .c1 => True
  | .sw k => k < n
  | .no a => a.ok n
  | .an a b => a.ok n ∧ b.ok n
  | .orr a b => a.ok n ∧ b.ok n
  | .xo a b => a.ok n ∧ b.ok n
  | .ch k a b => k < n ∧ a.ok n ∧ b.ok n
noncomputable def flat : List W → List Nat
  | [] => []
  | w :: r => w.signs ++ flat r
noncomputable def Oks (n : Nat) (ws : List W) : Prop := ∀ w ∈ ws, w.ok n
theorem Oks.cons {n : Nat} {w : W} {ws : List W} (h : w.ok n) (hs : Oks n ws) : Oks n (w :: ws) := fun x hx => by
  rcases List.mem_cons.mp hx with e | e
  · subst e; exact h
  · exact hs x e
theorem Oks.hd {n : Nat} {w : W} {ws : List W} (h : Oks n (w :: ws)) : w.ok n := h w List.mem_cons_self
theorem Oks.tl {n : Nat} {w : W} {ws : List W} (h : Oks n (w :: ws)) : Oks n ws := fun x hx => h x (List.mem_cons_of_mem _ hx)
theorem Oks.nil {n : Nat} : Oks n [] := fun x hx => nomatch hx
/-- what stands there is some wishes, one behind the other -/
noncomputable def Fl (n : Nat) (l : List Nat) : Prop := ∃ ws, Oks n ws ∧ l = flat ws
theorem Fl.tail {n c : Nat} {l : List Nat} (h : Fl n (c :: l)) : Fl n l := by
  obtain ⟨ws, ho, e⟩ := h
  cases ws with
  | nil => cases e
  | cons w r =>
    have hw := ho.hd
    have hr := ho.tl
    cases w with
    | c0 => exact ⟨r, hr, (List.cons.inj e).2⟩
    | c1 => exact ⟨r, hr, (List.cons.inj e).2⟩
    | sw k => exact ⟨r, hr, (List.cons.inj e).2⟩
    | no a => exact ⟨a :: r, hr.cons hw, (List.cons.inj e).2⟩
    | an a b => exact ⟨a :: b :: r, (hr.cons hw.2).cons hw.1, by rw [(List.cons.inj e).2]; simp [flat, List.append_assoc]⟩
    | orr a b => exact ⟨a :: b :: r, (hr.cons hw.2).cons hw.1, by rw [(List.cons.inj e).2]; simp [flat, List.append_assoc]⟩
    | xo a b => exact ⟨a :: b :: r, (hr.cons hw.2).cons hw.1, by rw [(List.cons.inj e).2]; simp [flat, List.append_assoc]⟩
    | ch k a b => exact ⟨.sw k :: a :: b :: r, ((hr.cons hw.2.2).cons hw.2.1).cons hw.1, by rw [(List.cons.inj e).2]; simp [flat, W.signs, List.append_assoc]⟩
theorem Fl.drop {n : Nat} : ∀ (i : Nat) {l : List Nat}, Fl n l → Fl n (l.drop i)
  | 0, _, h => h
  | i + 1, [], h => h
  | i + 1, c :: l, h => Fl.drop i h.tail
/-! the program's way: a sign, what it needs, what it makes -/
noncomputable def needs (c : Nat) : Nat := if c = 33 then 1 else if c = 38 then 2 else if c = 124 then 2 else if c = 94 then 2 else if c = 63 then 3 else 0
noncomputable def W.val (sws : List Nat) (full : Nat) : W → Nat
  | .c0 => 0
  | .c1 => full
  | .sw k => sws.getD k 0
  | .no a => full ^^^ a.val sws full
  | .an a b => a.val sws full &&& b.val sws full
  | .orr a b => a.val sws full ||| b.val sws full
  | .xo a b => a.val sws full ^^^ b.val sws full
  | .ch k a b => (sws.getD k 0 &&& a.val sws full) ||| ((full ^^^ sws.getD k 0) &&& b.val sws full)
/-! where it holds -/
noncomputable def W.ev (s : Nat) : W → Bool
  | .c0 => false
  | .c1 => true
  | .sw k => s.testBit k
  | .no a => !a.ev s
  | .an a b => a.ev s && b.ev s
  | .orr a b => a.ev s || b.ev s
  | .xo a b => a.ev s != b.ev s
  | .ch k a b => if s.testBit k then a.ev s else b.ev s
/-! the values stay small on the way, too -/
/-! the law's way: from behind, a chooser at once -/
/-! a text with open parts: whatever wishes follow, it is a wish -/
noncomputable def Op (n : Nat) (t : List Nat) (k : Nat) : Prop := ∀ ws : List W, ws.length = k → Oks n ws → ∃ w : W, w.ok n ∧ w.signs = t ++ flat ws
theorem Op.start {n : Nat} : Op n [] 1 := fun ws hl ho => by
  match ws, hl with
  | [w], _ => exact ⟨w, ho.hd, by simp [flat]⟩
theorem Op.no {n k : Nat} {t : List Nat} (h : Op n t (k + 1)) : Op n (t ++ [33]) (k + 1) := fun ws hl ho => by
  match ws, hl with
  | a :: r, hl =>
    obtain ⟨w, hw, e⟩ := h (.no a :: r) (by simpa using hl) (ho.tl.cons ho.hd)
    exact ⟨w, hw, by rw [e]; simp [flat, W.signs]⟩
theorem Op.two {n k c : Nat} {t : List Nat} (hc : c = 38 ∨ c = 124 ∨ c = 94) (h : Op n t (k + 1)) : Op n (t ++ [c]) (k + 2) := fun ws hl ho => by
  match ws, hl with
  | a :: b :: r, hl =>
    have hl' : r.length = k := by simpa using hl
    have oa := ho.hd
    have ob := ho.tl.hd
    have hr := ho.tl.tl
    rcases hc with rfl | rfl | rfl
    · obtain ⟨w, hw, e⟩ := h (.an a b :: r) (by simp [hl']) (hr.cons ⟨oa, ob⟩)
      exact ⟨w, hw, by rw [e]; simp [flat, W.signs]⟩
    · obtain ⟨w, hw, e⟩ := h (.orr a b :: r) (by simp [hl']) (hr.cons ⟨oa, ob⟩)
      exact ⟨w, hw, by rw [e]; simp [flat, W.signs]⟩
    · obtain ⟨w, hw, e⟩ := h (.xo a b :: r) (by simp [hl']) (hr.cons ⟨oa, ob⟩)
      exact ⟨w, hw, by rw [e]; simp [flat, W.signs]⟩
theorem Op.ch {n k j : Nat} {t : List Nat} (h : Op n t (k + 1)) (hj : j < n) : Op n (t ++ [63] ++ [97 + j]) (k + 2) := fun ws hl ho => by
  match ws, hl with
  | a :: b :: r, hl =>
    have hl' : r.length = k := by simpa using hl
    obtain ⟨w, hw, e⟩ := h (.ch j a b :: r) (by simp [hl']) (ho.tl.tl.cons ⟨hj, ho.hd, ho.tl.hd⟩)
    exact ⟨w, hw, by rw [e]; simp [flat, W.signs]⟩
theorem Op.done {n : Nat} {t : List Nat} (h : Op n t 0) : ∃ w : W, w.ok n ∧ w.signs = t := by
  obtain ⟨w, hw, e⟩ := h [] rfl Oks.nil
  exact ⟨w, hw, by rw [e]; simp [flat]⟩
end Mm

set_option Elab.async false
set_option linter.all false
set_option maxRecDepth 100000
namespace Mm
open PySem L2 PyProof.Rows
/-! joined lists of signs -/
/-! a row's words, one by one -/
inductive Ev where
  | op (v : W) | cl | pl (z : Str)
structure Pl (z : Str) : Prop where
  sg : ∀ c ∈ z.cps.toList, 33 ≤ c ∧ c ≤ 126
  hd : ∃ c r, z.cps.toList = c :: r ∧ c ≠ 60
  gt : z ≠ ⟨#[62]⟩
noncomputable def wd : Ev → Str
  | .op v => ⟨(60 :: v.signs).toArray⟩
  | .cl => ⟨#[62]⟩
  | .pl z => z
noncomputable abbrev RSt := List (Str × List W) × List W
noncomputable def stp (st : RSt) : Ev → RSt
  | .op v => (st.1, st.2 ++ [v])
  | .cl => (st.1, st.2.dropLast)
  | .pl z => (st.1 ++ [(z, st.2)], st.2)
noncomputable def rn (evs : List Ev) : RSt := evs.foldl stp ([], [])
noncomputable def evok (n : Nat) (ar : List W) : Ev → Prop
  | .op v => v.ok n ∧ v.signs.length ≤ 9 ∧ ar.length < 5
  | .cl => ar ≠ []
  | .pl z => Pl z ∧ z.length ≤ 5
noncomputable def Gev (n : Nat) (evs : List Ev) : Prop := ∀ i e, evs[i]? = some e → evok n (rn (evs.take i)).2 e
theorem Gev.nil (n : Nat) : Gev n [] := fun i e h => by simp at h
theorem Gev.snoc {n : Nat} {evs : List Ev} {e : Ev} (g : Gev n evs) (h : evok n (rn evs).2 e) : Gev n (evs ++ [e]) := fun i e' hi => by
  by_cases hl : i < evs.length
  · rw [List.getElem?_append_left hl] at hi
    rw [List.take_append_of_le_length (by omega)]
    exact g i e' hi
  · rw [List.getElem?_append_right (by omega)] at hi
    have h0 : i - evs.length = 0 := by
      cases hh : i - evs.length with
      | zero => rfl
      | succ m => rw [hh] at hi; simp at hi
    rw [h0] at hi
    have e1 : e = e' := by simpa using hi
    have e2 : i = evs.length := by omega
    subst e1 e2
    rw [List.take_append_of_le_length (Nat.le_refl _), List.take_length]
    exact h
theorem signs_range {n : Nat} (hn : n ≤ 10) : ∀ v : W, v.ok n → ∀ c ∈ v.signs, 33 ≤ c ∧ c ≤ 126 := by
  intro v
  induction v with
  | c0 => intro _ c h; simp [W.signs] at h; omega
  | c1 => intro _ c h; simp [W.signs] at h; omega
  | sw k => intro hk c h; have hk' : k < n := hk; simp [W.signs] at h; omega
  | no a ih =>
    intro hk c h
    rcases List.mem_cons.mp h with e | e
    · omega
    · exact ih hk c e
  | an a b iha ihb =>
    intro hk c h
    rcases List.mem_cons.mp h with e | e
    · omega
    · rcases List.mem_append.mp e with e | e
      · exact iha hk.1 c e
      · exact ihb hk.2 c e
  | orr a b iha ihb =>
    intro hk c h
    rcases List.mem_cons.mp h with e | e
    · omega
    · rcases List.mem_append.mp e with e | e
      · exact iha hk.1 c e
      · exact ihb hk.2 c e
  | xo a b iha ihb =>
    intro hk c h
    rcases List.mem_cons.mp h with e | e
    · omega
    · rcases List.mem_append.mp e with e | e
      · exact iha hk.1 c e
      · exact ihb hk.2 c e
  | ch k a b iha ihb =>
    intro hk c h
    have hk' : k < n := hk.1
    rcases List.mem_cons.mp h with e | e
    · omega
    · rcases List.mem_cons.mp e with e | e
      · omega
      · rcases List.mem_append.mp e with e | e
        · exact iha hk.2.1 c e
        · exact ihb hk.2.2 c e
theorem evok_wd {n : Nat} (hn : n ≤ 10) {ar : List W} {e : Ev} (h : evok n ar e) : (∀ c ∈ (wd e).cps.toList, 33 ≤ c ∧ c ≤ 126) ∧ (wd e).cps.toList ≠ [] ∧ (wd e).length ≤ 10 := by
  cases e with
  | op v =>
    obtain ⟨h1, h2, _⟩ := h
    refine ⟨fun c hc => ?_, by simp [wd], by simp [wd, Str.length]; omega⟩
    rcases List.mem_cons.mp (show c ∈ 60 :: v.signs by simpa [wd] using hc) with z | z
    · omega
    · exact signs_range hn v h1 c z
  | cl => exact ⟨fun c hc => by have : c = 62 := by simpa [wd] using hc
                                omega, by simp [wd], by decide⟩
  | pl z =>
    obtain ⟨h1, h2⟩ := h
    obtain ⟨c, r, e, _⟩ := h1.hd
    exact ⟨h1.sg, by show z.cps.toList ≠ []; rw [e]; simp, by show z.length ≤ 10; omega⟩
theorem Gev.wd {n : Nat} (hn : n ≤ 10) {evs : List Ev} (g : Gev n evs) : ∀ z ∈ evs.map wd, (∀ c ∈ z.cps.toList, 33 ≤ c ∧ c ≤ 126) ∧ z.cps.toList ≠ [] ∧ z.length ≤ 10 := fun z hz => by
  obtain ⟨e, he, rfl⟩ := List.mem_map.mp hz
  obtain ⟨i, hi⟩ := List.mem_iff_getElem?.mp he
  exact evok_wd hn (g i e hi)
end Mm

set_option Elab.async false
set_option linter.all false
set_option maxRecDepth 100000
set_option maxHeartbeats 4000000
namespace K53
open PySem L2 Mm
/-! the text by places -/
noncomputable def top (i : Nat) : Stmt := PySem.Challenge.pw_manymakes_k53_mapped_and_paired.main.body.getD i (.Pass ⟨0, 0, 0, 0⟩)
noncomputable abbrev st_least : Stmt := top 1
noncomputable abbrev st_kept_pairs : Stmt := top 2
noncomputable abbrev st_add_to : Stmt := top 3
noncomputable abbrev st_one_form : Stmt := top 5
noncomputable abbrev st_least_of : Stmt := top 6
noncomputable abbrev st_mapped : Stmt := top 7
noncomputable abbrev st_paired : Stmt := top 8
noncomputable abbrev st_law_cell_at : Stmt := top 10
noncomputable abbrev st_law_stream : Stmt := top 11
noncomputable abbrev st_law_parts : Stmt := top 12
noncomputable abbrev st_law_one : Stmt := top 13
noncomputable abbrev st_law_two : Stmt := top 14
noncomputable abbrev st_law_at : Stmt := top 15
noncomputable abbrev st_law : Stmt := top 16
structure Adr where
  least : Addr
  kept_pairs : Addr
  add_to : Addr
  one_form : Addr
  least_of : Addr
  mapped : Addr
  paired : Addr
  law_cell_at : Addr
  law_stream : Addr
  law_parts : Addr
  law_one : Addr
  law_two : Addr
  law_at : Addr
structure Fds where
  least : FuncData
  kept_pairs : FuncData
  add_to : FuncData
  one_form : FuncData
  least_of : FuncData
  mapped : FuncData
  paired : FuncData
  law_cell_at : FuncData
  law_stream : FuncData
  law_parts : FuncData
  law_one : FuncData
  law_two : FuncData
  law_at : FuncData
structure All (P : Program) (w : World) (K : PySem.W.Frag) (mg : Str → Option Value) (A : Adr) (D : Fds) : Prop where
  m_least : mg "least" = some (.ref A.least)
  k_least : PySem.W.keepIn K (.ref A.least) = true
  F_least : Fun K "least" "least" st_least A.least D.least
  b_least : Binds K D.least ["mask"] []
  m_kept_pairs : mg "kept_pairs" = some (.ref A.kept_pairs)
  k_kept_pairs : PySem.W.keepIn K (.ref A.kept_pairs) = true
  F_kept_pairs : Fun K "kept_pairs" "kept_pairs" st_kept_pairs A.kept_pairs D.kept_pairs
  b_kept_pairs : Binds K D.kept_pairs ["pairs", "mask"] []
  m_add_to : mg "add_to" = some (.ref A.add_to)
  k_add_to : PySem.W.keepIn K (.ref A.add_to) = true
  F_add_to : Fun K "add_to" "add_to" st_add_to A.add_to D.add_to
  b_add_to : Binds K D.add_to ["found", "key", "mask"] []
  m_one_form : mg "one_form" = some (.ref A.one_form)
  k_one_form : PySem.W.keepIn K (.ref A.one_form) = true
  F_one_form : Fun K "one_form" "one_form" st_one_form A.one_form D.one_form
  b_one_form : Binds K D.one_form ["pairs"] []
  m_least_of : mg "least_of" = some (.ref A.least_of)
  k_least_of : PySem.W.keepIn K (.ref A.least_of) = true
  F_least_of : Fun K "least_of" "least_of" st_least_of A.least_of D.least_of
  b_least_of : Binds K D.least_of ["pair"] []
  m_mapped : mg "mapped" = some (.ref A.mapped)
  k_mapped : PySem.W.keepIn K (.ref A.mapped) = true
  F_mapped : Fun K "mapped" "mapped" st_mapped A.mapped D.mapped
  b_mapped : Binds K D.mapped ["parts", "f"] []
  m_paired : mg "paired" = some (.ref A.paired)
  k_paired : PySem.W.keepIn K (.ref A.paired) = true
  F_paired : Fun K "paired" "paired" st_paired A.paired D.paired
  b_paired : Binds K D.paired ["left", "right", "f"] []
  m_law_cell_at : mg "_law_cell_at" = some (.ref A.law_cell_at)
  k_law_cell_at : PySem.W.keepIn K (.ref A.law_cell_at) = true
  F_law_cell_at : Fun K "_law_cell_at" "_law_cell_at" st_law_cell_at A.law_cell_at D.law_cell_at
  b_law_cell_at : Binds K D.law_cell_at ["_law_script", "_law_k"] []
  m_law_stream : mg "_law_stream" = some (.ref A.law_stream)
  k_law_stream : PySem.W.keepIn K (.ref A.law_stream) = true
  F_law_stream : Fun K "_law_stream" "_law_stream" st_law_stream A.law_stream D.law_stream
  b_law_stream : Binds K D.law_stream ["_law_cell", "_law_size"] []
  m_law_parts : mg "_law_parts" = some (.ref A.law_parts)
  k_law_parts : PySem.W.keepIn K (.ref A.law_parts) = true
  F_law_parts : Fun K "_law_parts" "_law_parts" st_law_parts A.law_parts D.law_parts
  b_law_parts : Binds K D.law_parts ["_law_cells"] []
  m_law_one : mg "_law_one" = some (.ref A.law_one)
  k_law_one : PySem.W.keepIn K (.ref A.law_one) = true
  F_law_one : Fun K "_law_one" "_law_one" st_law_one A.law_one D.law_one
  b_law_one : Binds K D.law_one ["_law_kind", "_law_number"] []
  m_law_two : mg "_law_two" = some (.ref A.law_two)
  k_law_two : PySem.W.keepIn K (.ref A.law_two) = true
  F_law_two : Fun K "_law_two" "_law_two" st_law_two A.law_two D.law_two
  b_law_two : Binds K D.law_two ["_law_kind"] []
  m_law_at : mg "_law_at" = some (.ref A.law_at)
  k_law_at : PySem.W.keepIn K (.ref A.law_at) = true
  F_law_at : Fun K "_law_at" "_law_at" st_law_at A.law_at D.law_at
  b_law_at : Binds K D.law_at ["_law_parts_here", "_law_s"] []
  n_len : mg "len" = none
  n_range : mg "range" = none
  n_sorted : mg "sorted" = none
  n_isinstance : mg "isinstance" = none
  n_list : mg "list" = none
  n_max : mg "max" = none
  n_int : mg "int" = none
theorem shl_n (n : Nat) : (1 : Int) * 2 ^ ((n : Int)).toNat = ((2 ^ n : Nat) : Int) := by rw [pow2, Int.toNat_natCast]; omega
theorem modN {a : Int} {n : Nat} (h : 0 < n) : ∃ j : Nat, a % (n : Int) = (j : Int) ∧ j < n := ⟨(a % (n : Int)).toNat, by
  have := Int.emod_nonneg a (show (n : Int) ≠ 0 by omega)
  omega, by
  have := Int.emod_nonneg a (show (n : Int) ≠ 0 by omega)
  have := Int.emod_lt_of_pos a (show (0 : Int) < (n : Int) by omega)
  omega⟩
section
variable {P : Program} {w : World} {K : PySem.W.Frag} {mg : Str → Option Value} {base : Heap} {AA : Adr} {DD : Fds}
noncomputable def bl (m : Nat) : Nat := Builtin.Int.intBits (m : Int)
theorem shr_nat (m s : Nat) : (m : Int) / 2 ^ ((s : Int)).toNat = ((m / 2 ^ s : Nat) : Int) := by rw [Int.toNat_natCast, pow2]; rfl
theorem has_val (m s : Nat) : decide (V.int (Builtin.bitAnd ((m : Int) / 2 ^ ((s : Int)).toNat) 1) = V.int 1) = m.testBit s := by
  rw [dec_int, shr_nat, show (1 : Int) = ((1 : Nat) : Int) from rfl, bitAnd_nat, Nat.and_one_is_mod, testBit_mod]
  by_cases h : m / 2 ^ s % 2 = 1
  · rw [h]; rfl
  · have h0 : m / 2 ^ s % 2 = 0 := by omega
    rw [h0]; rfl
/-! parts -/
theorem one_shl {n : Nat} (h : n ≤ 1024) : CShl 1 (n : Int) := ⟨by omega, 1, by decide, by omega⟩
theorem same_upd {H : Hp} {p : Addr} {o : HO} (h : H p = none) : Same H (upd H p o) := fun b u e => by rw [upd_ne (ne_of_none e h)]; exact e
structure PAt (H : Hp) (l : Addr) (ps : List (Pt MKey)) : Prop where
  ex : ∃ ts : List Addr, H l = some (.lst (ts.map V.ref)) ∧ ts.length = ps.length ∧ ∀ (i : Nat) (t : Addr) (p : Pt MKey), ts[i]? = some t → ps[i]? = some p → ∃ y, H t = some (.tup [.int ((p.1 : Nat) : Int), y]) ∧ MV H p.2 y
theorem mv_same {H H' : Hp} {k : MKey} {x : V} (m : MV H k x) (s : Same H H') : MV H' k x := m.mono fun b ys e => s _ _ e
theorem PAt.same {H H' : Hp} {l : Addr} {ps : List (Pt MKey)} (h : PAt H l ps) (s : Same H H') : PAt H' l ps := by
  obtain ⟨ts, h1, h2, h3⟩ := h.ex
  exact ⟨ts, s _ _ h1, h2, fun i t p a b => by obtain ⟨y, u, v⟩ := h3 i t p a b; exact ⟨y, s _ _ u, mv_same v s⟩⟩
noncomputable def pD (p : Pt MKey) : PyData := .tuple [.int ((p.1 : Nat) : Int), mD p.2]
theorem mv_rdv {H : Hp} {k : MKey} {y : V} (m : MV H k y) : Rdv K H y (mD k) := by
  obtain ⟨_, m⟩ := m
  cases k with
  | inl k => subst m; cases k <;> constructor
  | inr ks =>
    obtain ⟨b, rfl, e⟩ := m
    exact .tup (SqT.of e) (RdvA.map fun x _ => by cases x <;> constructor)
theorem mv_shd {H : Hp} {k : MKey} {y : V} (m : MV H k y) : Shd 1 (mD k) := ⟨m.1, mD_depth k⟩
theorem rdvA_of {H : Hp} : ∀ {xs : List V} {ds : List PyData}, xs.length = ds.length → (∀ (i : Nat) (x : V) (d : PyData), xs[i]? = some x → ds[i]? = some d → Rdv K H x d) → RdvA K H xs ds
  | [], [], _, _ => .nil
  | [], _ :: _, h, _ => by simp at h
  | _ :: _, [], h, _ => by simp at h
  | x :: xs, d :: ds, h, f => .cons (f 0 x d rfl rfl) (rdvA_of (by simpa using h) fun i y e h1 h2 => f (i + 1) y e h1 h2)
theorem PAt.rdv {H : Hp} {l : Addr} {ps : List (Pt MKey)} (h : PAt H l ps) : Rdv K H (.ref l) (.list (ps.map pD)) := by
  obtain ⟨ts, h1, h2, h3⟩ := h.ex
  refine .lst (SqL.of h1) (rdvA_of (by simp [h2]) fun i x d e1 e2 => ?_)
  rw [List.getElem?_map] at e1 e2
  obtain ⟨b, eb, rfl⟩ := Option.map_eq_some_iff.mp e1
  obtain ⟨p, ep, rfl⟩ := Option.map_eq_some_iff.mp e2
  obtain ⟨y, u, v⟩ := h3 i b p eb ep
  exact .tup (SqT.of u) (.cons (.int _) (.cons (mv_rdv v) .nil))
theorem PAt.shd {H : Hp} {l : Addr} {ps : List (Pt MKey)} (h : PAt H l ps) : Shd 3 (.list (ps.map pD)) := by
  obtain ⟨ts, h1, h2, h3⟩ := h.ex
  refine Shd.list fun d hd => ?_
  obtain ⟨p, hp, rfl⟩ := List.mem_map.mp hd
  obtain ⟨i, hi⟩ := List.mem_iff_getElem?.mp hp
  have hlt : i < ts.length := by rw [h2]; exact (List.getElem?_eq_some_iff.mp hi).1
  obtain ⟨y, u, v⟩ := h3 i ts[i] p (List.getElem?_eq_getElem hlt) hi
  refine Shd.tuple fun d hd => ?_
  rcases List.mem_cons.mp hd with z | z
  · subst z; exact (Shd.int _).up (by decide)
  · have z : d = mD p.2 := by simpa using z
    subst z; exact mv_shd v
/-! least -/
noncomputable def spLeast : Sp := fun vs H Q _ => ∃ m : Nat, vs = [.int m] ∧ (∃ s, s < 64 ∧ m.testBit s = true) ∧ Q (.int ((lowN m : Nat) : Int)) H
theorem low_is {m t q : Nat} (e : m = 2 ^ (t + 1) * q + 2 ^ t) (h : ∃ s, s < 64 ∧ m.testBit s = true) : lowN m = t := by
  obtain ⟨_, h2, h3⟩ := lowN_spec h
  rcases Nat.lt_trichotomy (lowN m) t with z | z | z
  · rw [e] at h2; rw [e] at z; rw [low_bits z] at h2; cases h2
  · exact z
  · have := h3 t z
    rw [e, low_bit] at this; cases this
noncomputable abbrev N_least : List Str := ["mask"]
theorem sc_least : FnScope N_least ["mask"] (defScope st_least) := ⟨rfl, rfl, rfl, by decide +kernel, rfl, by decide +kernel, by decide +kernel⟩
theorem ok_least (T : All P w K mg AA DD) : FnOk P w K mg base CX0 1 AA.least DD.least ["mask"] spLeast := by
  refine T.F_least.ok sc_least (fun vs H Q E h => ?_) (fun cdv A outer s H vs Q E hr h => ?_)
  · obtain ⟨m, rfl, _⟩ := h
    rfl
  · obtain ⟨m, rfl, hb, k⟩ := h
    have nd := sc_least.nd
    refine ⟨_, (@pss_cons _ _ _ _ _ (@ps_if _ _ _ _ _ _ _ _ (@pt_cmpR _ _ _ _ _ _ _ _ op_eq (pv 0) pe_int (nomark _)) (@pss_one _ _ _ (@ps_ret _ _ _ _ pe_non)) pss_nil) (@pss_one _ _ _ (@ps_ret _ _ _ _ (@pe_op _ _ _ _ _ _ _ _ op_sub (pe_bm0 PySem.F.plainAttrs_int PySem.F.slot_int_bit_length PySem.F.type_int_bit_length mt_bitlen (@pe_op _ _ _ _ _ _ _ _ op_xor (pv 0) (@pe_op _ _ _ _ _ _ _ _ op_sub (pv 0) pe_int))) pe_int)))), ?_⟩
    have h' : ¬ (m = 0) := fun z => by obtain ⟨s, _, hs⟩ := hb; rw [z] at hs; simp at hs
    refine ⟨_, rfl, rfl, _, rfl, ?_⟩
    rw [decide_eq_false (fun z => h' (by injection z with z; omega))]
    refine iteF ?_
    obtain ⟨t, q, e⟩ := lowest m m (Nat.le_refl _) h'
    refine ⟨_, rfl, _, rfl, _, _, rfl, rfl, _, _, rfl, rfl, rfl, _, rfl, rfl, _, _, rfl, rfl, ?_⟩
    have hp := Nat.two_pow_pos t
    have e1 : (m : Int) - 1 = ((m - 1 : Nat) : Int) := by omega
    have e2 : Builtin.bitXor (m : Int) ((m : Int) - 1) = ((2 ^ (t + 1) - 1 : Nat) : Int) := by rw [e1, bitXor_nat, e, low_xor]
    rw [e2, bits_ones]
    have e3 : (((t + 1 : Nat) : Int)) - 1 = (t : Int) := by omega
    dsimp only
    rw [e3]
    rw [low_is e hb] at k
    exact k
noncomputable def spLeastOf : Sp := fun vs H Q _ => ∃ (t : Addr) (m : Nat) (y : V), vs = [.ref t] ∧ H t = some (.tup [.int m, y]) ∧ (∃ s, s < 64 ∧ m.testBit s = true) ∧ Q (.int ((lowN m : Nat) : Int)) H
noncomputable abbrev N_least_of : List Str := ["pair"]
theorem sc_least_of : FnScope N_least_of ["pair"] (defScope st_least_of) := ⟨rfl, rfl, rfl, by decide +kernel, rfl, by decide +kernel, by decide +kernel⟩
theorem ok_leastof (T : All P w K mg AA DD) : FnOk P w K mg base CX0 2 AA.least_of DD.least_of ["pair"] spLeastOf := by
  have GL := ok_least (base := base) T
  refine T.F_least_of.ok sc_least_of (fun vs H Q E h => ?_) (fun cdv A outer s H vs Q E hr h => ?_)
  · obtain ⟨t, m, y, rfl, _⟩ := h
    rfl
  · obtain ⟨t, m, y, rfl, ht, hb, k⟩ := h
    have nd := sc_least_of.nd
    have hr1 : Room 1 _ := hr
    refine ⟨_, (@pss_one _ _ _ (@ps_ret _ _ _ _ (pe_call GL hr1 rfl T.m_least T.k_least T.b_least .nil pass0 (@pa_cons _ _ _ _ _ (@pe_ix _ _ _ _ _ _ _ (ix_tupK (K := K) rfl) (pv 0) pe_int (fun _ _ => rfl)) pa_nil (by rfl))))), ?_⟩
    exact ⟨_, rfl, t, _, _, _, rfl, rfl, SqT.of ht, rfl, m, rfl, hb, k⟩
/-! all_of, covered -/
end
section
variable {P : Program} {w : World} {K : PySem.W.Frag} {mg : Str → Option Value} {base : Heap} {AA : Adr} {DD : Fds}
/-! add_to, one_form -/
noncomputable def toV (M : List (MKey × Nat)) : List (MKey × V) := M.map fun q => (q.1, .int ((q.2 : Nat) : Int))
theorem toV_find (M : List (MKey × Nat)) (k : MKey) : (toV M).find? (fun p => decide (p.1 = k)) = (M.find? fun p => decide (p.1 = k)).map fun q => (q.1, V.int ((q.2 : Nat) : Int)) := by
  unfold toV
  rw [List.find?_map]
  rfl
theorem toV_get (M : List (MKey × Nat)) (k : MKey) : (kGet (toV M) k).getD (.int 0) = .int ((gM M k : Nat) : Int) := by
  unfold kGet gM
  rw [toV_find]
  cases M.find? fun p => decide (p.1 = k) <;> rfl
theorem toV_put (M : List (MKey × Nat)) (k : MKey) (x : Nat) : kPut (toV M) k (.int ((x : Nat) : Int)) = toV (pM M k x) := by
  unfold kPut pM kGet
  rw [toV_find]
  have e : (((M.find? fun p => decide (p.1 = k)).map fun q => (q.1, V.int ((q.2 : Nat) : Int))).map (·.2)).isSome = ((M.find? fun p => decide (p.1 = k)).map (·.2)).isSome := by
    cases M.find? fun p => decide (p.1 = k) <;> rfl
  rw [e]
  split
  · unfold toV
    rw [List.map_map, List.map_map]
    refine List.map_congr_left fun q _ => ?_
    by_cases h : q.1 = k <;> simp [h]
  · unfold toV
    rw [List.map_append]; rfl
noncomputable def spAddTo (P : Program) (w : World) : Sp := fun vs H Q _ => ∃ (d : Addr) (M : List (MKey × Nat)) (m : Nat) (k : MKey) (y : V), vs = [.ref d, y, .int m] ∧ DM P w H d (toV M) ∧ M.length < 1000 ∧ MV H k y ∧
  ∀ H', (H' = H ∨ ∃ xs', H' = upd H d (DMO P w d xs')) → DM P w H' d (toV (addM M (m, k))) → Q .non H'
noncomputable abbrev N_add_to : List Str := ["found", "key", "mask"]
theorem sc_add_to : FnScope N_add_to ["found", "key", "mask"] (defScope st_add_to) := ⟨rfl, rfl, rfl, by decide +kernel, rfl, by decide +kernel, by decide +kernel⟩
theorem ok_addto (T : All P w K mg AA DD) : FnOk P w K mg base CX0 1 AA.add_to DD.add_to ["found", "key", "mask"] (spAddTo P w) := by
  refine T.F_add_to.ok sc_add_to (fun vs H Q E h => ?_) (fun cdv A outer s H vs Q E hr h => ?_)
  · obtain ⟨d, M, m, k, y, rfl, _⟩ := h
    rfl
  · obtain ⟨d, M, m, k, y, rfl, hD, hM, hk, kq⟩ := h
    have nd := sc_add_to.nd
    have hu65 : _ + 65 < cLine := Nat.lt_of_le_of_lt (Nat.add_le_add_left (show 65 ≤ 16 * 0 + 200 by decide) _) (by have := hr.un; omega)
    refine ⟨_, (@pss_one _ _ _ (@ps_if _ _ _ _ _ _ _ _ (@pt_cmpR _ _ _ _ _ _ _ _ op_ne (pv 2) pe_int (nomark _)) (@pss_one _ _ _ (ps_asg (@pe_op _ _ _ _ _ _ _ _ op_or (pe_dgetM (P := P) (w := w) rfl rfl hu65 (pv 0) (pv 1) pe_int ⟨by rfl, by rfl, by rfl, by rfl⟩) (pv 2)) (pg_sub (pv 0) (pv 1) (set_mix (P := P) (w := w) rfl rfl hu65)))) pss_nil)), ?_⟩
    refine ⟨_, rfl, rfl, _, rfl, ?_⟩
    unfold addM at kq
    by_cases h0 : m = 0
    · subst h0
      refine iteF ?_
      exact kq H (.inl rfl) (by rw [if_pos rfl]; exact hD)
    · rw [decide_eq_false (fun z => h0 (by injection z with z; omega))]
      refine iteT ?_
      rw [if_neg h0] at kq
      refine ⟨_, rfl, d, _, rfl, hD, _, rfl, _, k, hD, hk, ?_⟩
      rw [toV_get]
      refine ⟨_, rfl, _, _, rfl, rfl, ?_⟩
      dsimp only
      rw [bitOr_nat]
      refine ⟨_, rfl, _, rfl, d, _, k, rfl, hD, (by unfold toV; rw [List.length_map]; exact hM), hk, fun xs' dm => ?_⟩
      rw [toV_put] at dm
      exact kq _ (.inr ⟨xs', rfl⟩) dm
noncomputable def spOneForm : Sp := fun vs H Q _ => ∃ (l : Addr) (ps : List (Pt MKey)), vs = [.ref l] ∧ PAt H l ps ∧ ps.length < 64 ∧ Fnl ps ∧ (∀ p ∈ ps, p.1 < 2 ^ 64) ∧
  ∀ p H' R, H p = none → Same H H' → PAt H' p R → Form R → (∀ s k, Has R s k ↔ Has ps s k) → R.length ≤ ps.length → Q (.ref p) H'
theorem zip_swap {α β : Type} : ∀ {l : List α} {r : List β}, l.length = r.length → (l.zip r).map (·.1) = l
  | [], [], _ => rfl
  | _ :: l, _ :: r, h => by rw [List.zip_cons_cons, List.map_cons, zip_swap (by simpa using h)]
  | [], _ :: _, h => by simp at h
  | _ :: _, [], h => by simp at h
theorem zip_maps {α β γ δ : Type} {f : α → γ} {g : β → δ} : ∀ {l : List α} {r : List β}, (l.map f).zip (r.map g) = (l.zip r).map fun p => (f p.1, g p.2)
  | [], _ => rfl
  | _ :: _, [] => rfl
  | _ :: l, _ :: r => by simp only [List.map_cons, List.zip_cons_cons]; rw [zip_maps]
noncomputable abbrev N_one_form : List Str := ["pairs", "found", "mask", "value"]
theorem sc_one_form : FnScope N_one_form ["pairs"] (defScope st_one_form) := ⟨rfl, rfl, rfl, by decide +kernel, rfl, by decide +kernel, by decide +kernel⟩
theorem ok_oneform (T : All P w K mg AA DD) : FnOk P w K mg base CX0 5 AA.one_form DD.one_form ["pairs"] spOneForm := by
  have GA := ok_addto (base := base) T
  have GO := ok_leastof (base := base) T
  refine T.F_one_form.ok sc_one_form (fun vs H Q E h => ?_) (fun cdv A outer s H vs Q E hr h => ?_)
  · obtain ⟨l, ps, rfl, _⟩ := h
    rfl
  · obtain ⟨l, ps, rfl, hP, hpl, hfn, hlt, k⟩ := h
    have nd := sc_one_form.nd
    have hr4 : Room 4 _ := hr
    have hr1 : Room 1 _ := hr4.mono (by decide)
    refine ⟨_, (@pss_cons _ _ _ _ _ (@ps_set _ _ 1 _ _ _ _ nd rfl (Or.inl rfl) (pe_dnewM (P := P) (w := w) rfl rfl) (by rfl) (by first | exact .inl rfl | exact .inr rfl | assumption)) (@pss_cons _ _ _ _ _ (@ps_for _ _ _ _ _ _ _ _ PassesOwn.never rfl (pi_list (pv 0)) (pg_tup rfl (pgs_cons (pg_name (i := 2) nd rfl (Or.inl rfl)) (pgs_cons (pg_name (i := 3) nd rfl (Or.inl rfl)) pgs_nil))) (@pss_one _ _ _ (@ps_expr _ _ _ _ (pe_call GA hr1 rfl T.m_add_to T.k_add_to T.b_add_to .nil pass0 (@pa_cons _ _ _ _ _ (pv 1) (@pa_cons _ _ _ _ _ (pv 3) (@pa_cons _ _ _ _ _ (pv 2) pa_nil (by rfl)) (by rfl)) (by rfl))) (by rfl))) (by intro _; rfl)) (@pss_one _ _ _ (@ps_ret _ _ _ _ (pe_sortK (K := K) rfl GO hr4 T.b_least_of .nil rfl T.n_sorted rfl T.m_least_of (pe_comp2 (xs := ["value", "mask"]) (defScope st_one_form) N_one_form [] [] rfl (by exact ⟨rfl, rfl, by decide +kernel, by decide +kernel, by decide +kernel, by decide +kernel, by decide +kernel, rfl, by decide +kernel⟩) rfl rfl (pi_ditem (P := P) (w := w) rfl rfl (pv 1)) (fun _ _ _ _ => (pg_tupK (K := K) (n := 2) rfl rfl (pgs_cons (pg_name (i := 0) (show (["value", "mask"] : List Str).Nodup by decide +kernel) rfl (Or.inl rfl)) (pgs_cons (pg_name (i := 1) (show (["value", "mask"] : List Str).Nodup by decide +kernel) rfl (Or.inl rfl)) pgs_nil)))) (fun _ _ _ _ => pif_nil) (fun _ _ _ _ => (@pe_tup _ _ _ _ _ (@pa_cons _ _ _ _ _ (pv 1) (@pa_cons _ _ _ _ _ (pv 0) pa_nil (by rfl)) (by rfl)))))))))), ?_⟩
    obtain ⟨ts, hts, htl, hat⟩ := hP.ex
    refine fun pf hpf dm0 => ?_
    dsimp only [gName]
    refine cut_for (fun σ' H' => Same H H' ∧ DM P w H' pf (toV (runM ps)) ∧ ∃ s2 s3 : Option V, σ' = [some (.ref l), some (.ref pf), s2, s3]) (fun R hRR => ?_) ?_
    · refine ⟨_, rfl, l, rfl, ⟨_, SqL.of ((same_upd hpf) _ _ hts)⟩, ?_⟩
      refine for_list (K := K) (a := l) (xs := ts.map V.ref) (fun i σ' H' => Same H H' ∧ i ≤ 64 ∧ DM P w H' pf (toV (runM (ps.take i))) ∧ ∃ s2 s3 : Option V, σ' = [some (.ref l), some (.ref pf), s2, s3]) ⟨same_upd hpf, Nat.zero_le _, dm0, none, none, rfl⟩ (fun i σ' H' _ hsl51 => by obtain ⟨e, _⟩ := hsl51; exact SqL.of (e _ _ hts)) ?_ ?_
      · rintro i x σ' H1 hx ⟨sm, _, dm, s2, s3, rfl⟩
        have hi : i < ts.length := by
          have := (List.getElem?_eq_some_iff.mp hx).1
          rw [List.length_map] at this; exact this
        have hip : i < ps.length := by omega
        have ex : x = V.ref ts[i] := by rw [List.getElem?_map, List.getElem?_eq_getElem hi] at hx; exact (Option.some.inj hx).symm
        subst ex
        obtain ⟨y, htu, hmv⟩ := hat i ts[i] ps[i] (List.getElem?_eq_getElem hi) (List.getElem?_eq_getElem hip)
        refine ⟨ts[i], _, rfl, SqT.of (sm _ _ htu), rfl, _, _, rfl, _, _, rfl, rfl, ?_⟩
        have hml := (mi_all (ps.take i)).len
        rw [List.length_take] at hml
        refine ⟨_, rfl, _, rfl, _, rfl, pf, _, ps[i].1, ps[i].2, y, rfl, dm, by omega, mv_same hmv sm, fun H' hH dm' => ?_⟩
        refine ⟨?_, by omega, ?_, _, _, rfl⟩
        · rcases hH with rfl | ⟨xs', rfl⟩
          · exact sm
          · exact fun b u e => by rw [upd_ne (ne_of_none e hpf)]; exact sm b u e
        · rw [List.take_succ_eq_append_getElem hip, runM_snoc]
          exact dm'
      · rintro σ' H1 ⟨sm, _, dm, s2, s3, rfl⟩
        rw [List.length_map, htl, List.take_length] at dm
        exact hRR _ _ ⟨sm, dm, s2, s3, rfl⟩
    rintro σ' H1 ⟨sm, dm, s2, s3, rfl⟩
    have mi := mi_all ps
    have fo := fun (R : List (Pt MKey)) => form_of (R := R) hfn hlt
    have hML : (runM ps).length < 64 := by have := mi.len; omega
    have hMp := mi.len
    have hnz : ∀ q ∈ runM ps, ∃ s, s < 64 ∧ q.2.testBit s = true := fun q hq => by
      obtain ⟨s, hs⟩ := ne_zero_bit (mi.ok q hq).1
      obtain ⟨r, hr, _, hb⟩ := ((mi.ok q hq).2 s).mp hs
      exact ⟨s, testBit_lt hb (hlt r hr), hs⟩
    generalize runM ps = M at dm hML hnz fo hMp
    refine ⟨_, rfl, pf, _, rfl, dm, fun od xs rel hxs => ?_⟩
    have sm2 : Same H (upd H1 pf (.frz od (DMO P w pf xs))) := fun b u e => by rw [upd_ne (ne_of_none e hpf)]; exact sm b u e
    have hFz : upd H1 pf (.frz od (DMO P w pf xs)) pf = some (.frz od (DMO P w pf xs)) := upd_same
    have rel2 : MRel (upd H1 pf (.frz od (DMO P w pf xs))) (toV M) xs := rel.mono fun b ys e => by
      rw [upd_ne (fun z => by rw [z, hxs] at e; cases e)]; exact e
    generalize upd H1 pf (.frz od (DMO P w pf xs)) = H2 at sm2 hFz rel2
    refine comp2_ditem (P := P) (w := w) (d := pf) (od := od) (xs := xs) (kvs := toV M) (fun i ys H' => Same H2 H' ∧ i ≤ 64 ∧ ∃ us : List Addr, ys = us.map V.ref ∧ us.length = i ∧ ∀ (j : Nat) (t : Addr) (q : MKey × Nat), us[j]? = some t → M[j]? = some q → ∃ y, H' t = some (.tup [.int ((q.2 : Nat) : Int), y]) ∧ MV H' q.1 y)
      ⟨Same.refl _, Nat.zero_le _, [], rfl, rfl, fun j t q h => by simp at h⟩ (fun i ys H' _ hsl52 => by obtain ⟨e, _⟩ := hsl52; exact ⟨e _ _ hFz, rel2.mono fun b zs z => e _ _ z⟩) ?_ ?_
    · rintro i kv y t ys H3 hkv hmv ht ⟨s3', _, us, rfl, hul, hus⟩
      have hi : i < M.length := by
        have := (List.getElem?_eq_some_iff.mp hkv).1
        simpa [toV] using this
      have ekv : kv = (M[i].1, V.int ((M[i].2 : Nat) : Int)) := by
        rw [toV, List.getElem?_map, List.getElem?_eq_getElem hi] at hkv
        exact (Option.some.inj hkv).symm
      subst ekv
      intro os hos
      obtain ⟨a, b, rfl⟩ : ∃ a b, os = [a, b] := by
        match os, hos with
        | [a, b], _ => exact ⟨a, b, rfl⟩
      have s4 := same_upd (o := .tup [y, V.int ((M[i].2 : Nat) : Int)]) ht
      refine ⟨t, _, rfl, SqT.of upd_same, rfl, _, _, rfl, _, _, rfl, rfl, ⟨[_, _], rfl, rfl⟩, ?_⟩
      refine tYes_ok ?_
      rw [if_pos rfl]
      refine ⟨_, rfl, _, rfl, (by show 2 ≤ sizeLine; decide), fun t2 ht2 => ?_⟩
      have s5 := s4.trans (same_upd (o := .tup [V.int ((M[i].2 : Nat) : Int), y]) ht2)
      refine ⟨by rw [List.length_map]; exact small1000 (by omega), s3'.trans s5, by omega, us ++ [t2], by simp, by simp [hul], fun j t' q e1 e2 => ?_⟩
      by_cases hj : j < us.length
      · rw [List.getElem?_append_left hj] at e1
        obtain ⟨y', h1, h2⟩ := hus j t' q e1 e2
        exact ⟨y', s5 _ _ h1, mv_same h2 s5⟩
      · have hjl := (List.getElem?_eq_some_iff.mp e1).1
        rw [List.length_append, List.length_singleton] at hjl
        have ej : j = i := by omega
        subst ej
        rw [List.getElem?_append_right (by omega), hul, Nat.sub_self] at e1
        have et : t2 = t' := by simpa using e1
        have eq : M[j] = q := by rw [List.getElem?_eq_getElem hi] at e2; exact Option.some.inj e2
        subst et eq
        exact ⟨y, upd_same, mv_same hmv s5⟩
    · rintro ys H3 ⟨s3', _, us, rfl, hul, hus⟩ p hp
      have hul : us.length = M.length := by rw [hul]; simp [toV]
      have s4 := same_upd (o := .lst (us.map V.ref)) hp
      refine ⟨p, us.map V.ref, M.map (fun q => ((lowN q.2 : Nat) : Int)), rfl, SqL.of upd_same, by rw [List.length_map]; omega, by rw [List.length_map, List.length_map]; omega, fun i x m hx hm Q' hQ => ?_, fun p2 ys hp2 hs => ?_⟩
      · rw [List.getElem?_map] at hx hm
        obtain ⟨t, et, rfl⟩ := Option.map_eq_some_iff.mp hx
        obtain ⟨q, eq, rfl⟩ := Option.map_eq_some_iff.mp hm
        obtain ⟨y, h1, h2⟩ := hus i t q et eq
        exact ⟨t, q.2, y, rfl, s4 _ _ h1, hnz q (List.mem_of_getElem? eq), hQ⟩
      · obtain ⟨zs, pz, sz, rfl⟩ := hs
        rw [zip_maps] at pz
        obtain ⟨T', pT, eT⟩ := perm_lift pz (M.zip us) rfl
        subst eT
        have s5 := s4.trans (same_upd (o := .lst ((T'.map fun p => (((lowN p.1.2 : Nat) : Int), V.ref p.2)).map (·.2))) hp2)
        have hR : (T'.map fun p => (p.1.2, p.1.1)).Perm (M.map fun q => (q.2, q.1)) := by
          have h1 := pT.map (fun p : (MKey × Nat) × Addr => (p.1.2, p.1.1))
          have h2 : (M.zip us).map (fun p : (MKey × Nat) × Addr => (p.1.2, p.1.1)) = M.map fun q => (q.2, q.1) := by
            conv => rhs; rw [← zip_swap (l := M) (r := us) hul.symm, List.map_map]
            rfl
          rw [h2] at h1
          exact h1
        have hS : (T'.map fun p => (p.1.2, p.1.1)).Pairwise fun a b => lowN a.1 ≤ lowN b.1 := by
          rw [List.pairwise_map] at sz ⊢
          exact sz.imp fun {a b} h => by
            have h : ((lowN a.1.2 : Nat) : Int) ≤ ((lowN b.1.2 : Nat) : Int) := h
            show lowN a.1.2 ≤ lowN b.1.2
            omega
        obtain ⟨hF, hH⟩ := fo _ hR hS
        refine k p2 _ _ ?_ ((sm2.trans s3').trans s5) ⟨T'.map (·.2), by rw [upd_same, List.map_map, List.map_map]; rfl, by simp, fun i t q e1 e2 => ?_⟩ hF hH (by rw [hR.length_eq, List.length_map]; exact hMp)
        · cases e : H p2 with
          | none => rfl
          | some o => rw [((sm2.trans s3').trans s4) _ _ e] at hp2; cases hp2
        · rw [List.getElem?_map] at e1 e2
          obtain ⟨z, ez, rfl⟩ := Option.map_eq_some_iff.mp e1
          rw [ez] at e2
          have e2 : (z.1.2, z.1.1) = q := Option.some.inj e2
          subst e2
          have hz := pT.mem_iff.mp (List.mem_of_getElem? ez)
          obtain ⟨j, hj⟩ := List.mem_iff_getElem?.mp hz
          rw [List.getElem?_zip_eq_some] at hj
          obtain ⟨y, h1, h2⟩ := hus j z.2 z.1 hj.2 hj.1
          exact ⟨y, s5 _ _ h1, mv_same h2 s5⟩
end
section
variable {P : Program} {w : World} {K : PySem.W.Frag} {mg : Str → Option Value} {base : Heap} {AA : Adr} {DD : Fds}
/-! the law's own: numbers, values, pairs -/
noncomputable def spStream : Sp := fun vs H Q _ => ∃ (c : Int), vs = [.int c, .int 4] ∧ ∀ p (a b d e : Nat), H p = none → a < 2 ^ 32 → b < 2 ^ 32 → d < 2 ^ 32 → e < 2 ^ 32 → Q (.ref p) (upd H p (.lst [.int a, .int b, .int d, .int e]))
noncomputable abbrev N_law_stream : List Str := ["_law_cell", "_law_size", "_law_found", "_law_number", "_law_k"]
theorem sc_law_stream : FnScope N_law_stream ["_law_cell", "_law_size"] (defScope st_law_stream) := ⟨rfl, rfl, rfl, by decide +kernel, rfl, by decide +kernel, by decide +kernel⟩
theorem ok_stream (T : All P w K mg AA DD) : FnOk P w K mg base CX0 1 AA.law_stream DD.law_stream ["_law_cell", "_law_size"] spStream := by
  refine T.F_law_stream.ok sc_law_stream (fun vs H Q E h => ?_) (fun cdv A outer s H vs Q E hr h => ?_)
  · obtain ⟨c, rfl, _⟩ := h
    rfl
  · obtain ⟨c, rfl, k⟩ := h
    have nd := sc_law_stream.nd
    refine ⟨_, (@pss_cons _ _ _ _ _ (@ps_set _ _ 2 _ _ _ _ nd rfl (Or.inl rfl) (@pe_lst _ _ _ _ pa_nil) (by rfl) (by first | exact .inl rfl | exact .inr rfl | assumption)) (@pss_cons _ _ _ _ _ (@ps_set _ _ 3 _ _ _ _ nd rfl (Or.inl rfl) (@pe_op _ _ _ _ _ _ _ _ op_mod (@pe_op _ _ _ _ _ _ _ _ op_mul (@pe_op _ _ _ _ _ _ _ _ op_add (@pe_op _ _ _ _ _ _ _ _ op_mod (pv 0) pe_int) pe_int) pe_int) pe_int) (by rfl) (by first | exact .inl rfl | exact .inr rfl | assumption)) (@pss_cons _ _ _ _ _ (@ps_for _ _ _ _ _ _ _ _ PassesOwn.never rfl (pi_range1 rfl T.n_range (@pa_cons _ _ _ _ _ (pv 1) pa_nil (by rfl))) (pg_name (i := 4) nd rfl (Or.inl rfl)) (@pss_cons _ _ _ _ _ (@ps_set _ _ 3 _ _ _ _ nd rfl (Or.inl rfl) (@pe_op _ _ _ _ _ _ _ _ op_add (@pe_op _ _ _ _ _ _ _ _ op_add (@pe_op _ _ _ _ _ _ _ _ op_mod (@pe_op _ _ _ _ _ _ _ _ op_mul (pv 3) (@pe_op _ _ _ _ _ _ _ _ op_add (@pe_op _ _ _ _ _ _ _ _ op_fdiv (pv 3) pe_int) pe_int)) pe_int) (pv 4)) pe_int) (by rfl) (by first | exact .inl rfl | exact .inr rfl | assumption)) (@pss_one _ _ _ (@ps_expr _ _ _ _ (pe_bm PySem.F.plainAttrs_list PySem.F.slot_list_append PySem.F.type_list_append mt_append (pv 2) (@pa_cons _ _ _ _ _ (pv 3) pa_nil (by rfl))) (by rfl)))) (by intro _; rfl)) (@pss_one _ _ _ (@ps_ret _ _ _ _ (pv 2)))))), ?_⟩
    refine ⟨Nat.zero_le _, fun p hp => ?_⟩
    have b0 := Int.emod_nonneg c (show (2147483647 : Int) ≠ 0 by decide)
    have b1 := Int.emod_lt_of_pos c (show (0 : Int) < 2147483647 by decide)
    refine ⟨_, rfl, _, _, rfl, rfl, (by show (0 : Int) < 2147483647; decide), _, _, rfl, rfl, _, _, rfl, rfl, .inl ⟨by omega, by omega⟩, _, _, rfl, rfl, (by show (0 : Int) < 2147483647; decide), ?_⟩
    dsimp only
    generalize hy : (c % 2147483647 + 1) * 48271 % 2147483647 = y
    have y0 : 0 ≤ y := by rw [← hy]; exact Int.emod_nonneg _ (by decide)
    have y1 : y < 2147483647 := by rw [← hy]; exact Int.emod_lt_of_pos _ (by decide)
    refine ⟨_, rfl, _, rfl, by decide, by decide, ?_⟩
    refine for_range (fun i σ H' => ∃ (x : Int) (zs : List Int) (s4 : Option V), 0 ≤ x ∧ x < 2147483660 ∧ zs.length = i ∧ (∀ z ∈ zs, 0 ≤ z ∧ z < 2 ^ 32) ∧ H' = upd H p (.lst (zs.map V.int)) ∧ σ = [some (.int c), some (.int 4), some (.ref p), some (.int x), s4])
      ⟨_, [], none, y0, by omega, rfl, by simp, rfl, rfl⟩ ?_ ?_
    · rintro i σ H' hi ⟨x, zs, s4, h0, h1, hl, hz, rfl, rfl⟩
      have hi : i < 4 := hi
      have d0 : 0 ≤ x / 1009 := Int.ediv_nonneg h0 (by decide)
      have d1 : x / 1009 ≤ x := by omega
      refine ⟨_, rfl, _, rfl, _, _, rfl, rfl, ⟨by decide, by decide⟩, _, _, rfl, rfl, _, _, rfl, rfl, .inl ⟨by omega, by omega⟩, _, _, rfl, rfl, (by show (0 : Int) < 2147483647; decide), _, rfl, _, _, rfl, rfl, _, _, rfl, rfl, ?_⟩
      dsimp only
      generalize hw : (x * (x / 1009 + 69621)) % 2147483647 = u
      have u0 : 0 ≤ u := by rw [← hw]; exact Int.emod_nonneg _ (by decide)
      have u1 : u < 2147483647 := by rw [← hw]; exact Int.emod_lt_of_pos _ (by decide)
      refine ⟨_, rfl, .inl ⟨rfl, _, SqL.of upd_same⟩, _, rfl, p, _, _, rfl, rfl, upd_same, ?_, ?_⟩
      · rw [List.length_map]; exact small1000 (by omega)
      · refine ⟨u + (0 + (i : Int)) + 1, zs ++ [u + (0 + (i : Int)) + 1], _, by omega, by omega, by simp [hl], fun z hz' => ?_, ?_, rfl⟩
        · rcases List.mem_append.mp hz' with q | q
          · exact hz z q
          · have : z = u + (0 + (i : Int)) + 1 := by simpa using q
            subst this
            omega
        · rw [upd_upd, List.map_append]; rfl
    · rintro σ H' ⟨x, zs, s4, h0, h1, hl, hz, rfl, rfl⟩
      refine ⟨_, rfl, ?_⟩
      have hl : zs.length = 4 := hl
      match zs, hl, hz with
      | [a, b, d, e], _, hz =>
        obtain ⟨a0, a1⟩ := hz a (by simp)
        obtain ⟨c0, c1⟩ := hz b (by simp)
        obtain ⟨d0, d1⟩ := hz d (by simp)
        obtain ⟨e0, e1⟩ := hz e (by simp)
        obtain ⟨a, rfl⟩ := Int.eq_ofNat_of_zero_le a0
        obtain ⟨b, rfl⟩ := Int.eq_ofNat_of_zero_le c0
        obtain ⟨d, rfl⟩ := Int.eq_ofNat_of_zero_le d0
        obtain ⟨e, rfl⟩ := Int.eq_ofNat_of_zero_le e0
        exact k p a b d e hp (by omega) (by omega) (by omega) (by omega)
/-! pairs drawn; the form looked at -/
theorem fnl_snoc {ps : List (Pt MKey)} {p : Pt MKey} {t : Nat} (f : Fnl ps) (hs : ∀ q ∈ ps, ∀ s, q.1.testBit s = true → t.testBit s = true) (hp : ∀ s, p.1.testBit s = true → t.testBit s = false) : Fnl (ps ++ [p]) := by
  intro s k k' h h'
  have no : ∀ k, Has ps s k → p.1.testBit s = true → False := fun k ⟨q, hq, _, hb⟩ z => by
    have a := hs q hq s hb
    rw [hp s z] at a; cases a
  rcases has_snoc.mp h with h | ⟨e, b⟩
  · rcases has_snoc.mp h' with h' | ⟨e', b'⟩
    · exact f s k k' h h'
    · exact absurd b' (fun z => no k h z)
  · rcases has_snoc.mp h' with h' | ⟨e', b'⟩
    · exact absurd b (fun z => no k' h' z)
    · rw [← e, ← e']
theorem andNot_bit (m t s : Nat) : (m ^^^ (m &&& t)).testBit s = (m.testBit s && !t.testBit s) := by
  rw [Nat.testBit_xor, Nat.testBit_and]
  cases m.testBit s <;> cases t.testBit s <;> rfl
/-! the form -/
structure KAt (H : Hp) (l : Addr) (ks : List MKey) : Prop where
  ex : ∃ ys : List V, H l = some (.lst ys) ∧ ys.length = ks.length ∧ ∀ (i : Nat) (y : V) (k : MKey), ys[i]? = some y → ks[i]? = some k → MV H k y
theorem KAt.same {H H' : Hp} {l : Addr} {ks : List MKey} (h : KAt H l ks) (s : Same H H') : KAt H' l ks := by
  obtain ⟨ys, h1, h2, h3⟩ := h.ex
  exact ⟨ys, s _ _ h1, h2, fun i y k a b => mv_same (h3 i y k a b) s⟩
theorem KAt.rdv {H : Hp} {l : Addr} {ks : List MKey} (h : KAt H l ks) : Rdv K H (.ref l) (.list (ks.map mD)) := by
  obtain ⟨ys, h1, h2, h3⟩ := h.ex
  refine .lst (SqL.of h1) (rdvA_of (by simp [h2]) fun i x d e1 e2 => ?_)
  rw [List.getElem?_map] at e2
  obtain ⟨k, ek, rfl⟩ := Option.map_eq_some_iff.mp e2
  exact mv_rdv (h3 i x k e1 ek)
theorem KAt.shd {H : Hp} {l : Addr} {ks : List MKey} (h : KAt H l ks) : Shd 2 (.list (ks.map mD)) := by
  obtain ⟨ys, h1, h2, h3⟩ := h.ex
  refine Shd.list fun d hd => ?_
  obtain ⟨k, hk, rfl⟩ := List.mem_map.mp hd
  obtain ⟨i, hi⟩ := List.mem_iff_getElem?.mp hk
  have hlt : i < ys.length := by rw [h2]; exact (List.getElem?_eq_some_iff.mp hi).1
  exact mv_shd (h3 i ys[i] k (List.getElem?_eq_getElem hlt) hi)
theorem KAt.push {H : Hp} {l : Addr} {ks : List MKey} {k : MKey} {y : V} (h : KAt H l ks) (hy : MV H k y) : ∃ ys, H l = some (.lst ys) ∧ ys.length = ks.length ∧ KAt (upd H l (.lst (ys ++ [y]))) l (ks ++ [k]) := by
  obtain ⟨ys, h1, h2, h3⟩ := h.ex
  have keep : ∀ {k : MKey} {x : V}, MV H k x → MV (upd H l (.lst (ys ++ [y]))) k x := fun m => m.mono fun b zs e => by rw [upd_ne (fun z => by rw [z, h1] at e; cases e)]; exact e
  refine ⟨ys, h1, h2, ys ++ [y], upd_same, by simp [h2], fun i x k' e1 e2 => ?_⟩
  by_cases hj : i < ys.length
  · rw [List.getElem?_append_left hj] at e1
    rw [List.getElem?_append_left (by omega)] at e2
    exact keep (h3 i x k' e1 e2)
  · have hjl := (List.getElem?_eq_some_iff.mp e1).1
    rw [List.length_append, List.length_singleton] at hjl
    have ej : i = ys.length := by omega
    subst ej
    rw [List.getElem?_append_right (Nat.le_refl _), Nat.sub_self] at e1
    rw [h2, List.getElem?_append_right (Nat.le_refl _), Nat.sub_self] at e2
    have q1 : y = x := by simpa using e1
    have q2 : k = k' := by simpa using e2
    subst q1 q2
    exact keep hy
theorem kit_ll (K : PySem.W.Frag) : PySem.W.kitOne K (.type "list") (.type "list") = some true := by rfl
end
section
variable {P : Program} {w : World} {K : PySem.W.Frag} {mg : Str → Option Value} {base : Heap} {AA : Adr} {DD : Fds}
/-! without, kept_pairs, kept_to, put_over -/
theorem iteFb {c : Bool} {a b : Prop} (h : c = false) (k : b) : if c = true then a else b := by rw [h]; exact k
theorem iteTb {c : Bool} {a b : Prop} (h : c = true) (k : a) : if c = true then a else b := by rw [h]; exact k
theorem none_of {H H' : Hp} {p : Addr} (s : Same H H') (h : H' p = none) : H p = none := by
  cases e : H p with
  | none => rfl
  | some o => rw [s _ _ e] at h; cases h
noncomputable def keptP (ps : List (Pt MKey)) (m : Nat) : List (Pt MKey) := (ps.filter fun p => !decide (p.1 &&& m = 0)).map fun p => (p.1 &&& m, p.2)
theorem keptP_snoc (ps : List (Pt MKey)) (p : Pt MKey) (m : Nat) : keptP (ps ++ [p]) m = if p.1 &&& m = 0 then keptP ps m else keptP ps m ++ [(p.1 &&& m, p.2)] := by
  unfold keptP
  rw [List.filter_append]
  by_cases h : p.1 &&& m = 0 <;> simp [h]
theorem keptP_len (ps : List (Pt MKey)) (m : Nat) : (keptP ps m).length ≤ ps.length := by
  unfold keptP
  rw [List.length_map]
  exact List.length_filter_le _ _
theorem keptP_has {ps : List (Pt MKey)} {m s : Nat} {k : MKey} : Has (keptP ps m) s k ↔ Has ps s k ∧ m.testBit s = true := by
  unfold keptP
  constructor
  · rintro ⟨q, hq, e, hb⟩
    obtain ⟨p, hp, rfl⟩ := List.mem_map.mp hq
    have hb : (p.1 &&& m).testBit s = true := hb
    rw [Nat.testBit_and, Bool.and_eq_true] at hb
    exact ⟨⟨p, (List.mem_filter.mp hp).1, e, hb.1⟩, hb.2⟩
  · rintro ⟨⟨p, hp, e, hb⟩, hm⟩
    have hb2 : (p.1 &&& m).testBit s = true := by rw [Nat.testBit_and, hb, hm]; rfl
    refine ⟨(p.1 &&& m, p.2), List.mem_map.mpr ⟨p, List.mem_filter.mpr ⟨hp, ?_⟩, rfl⟩, e, hb2⟩
    rw [decide_eq_false (fun z => by rw [z] at hb2; simp at hb2)]; rfl
theorem keptP_lt {ps : List (Pt MKey)} {m : Nat} (h : ∀ p ∈ ps, p.1 < 2 ^ 64) : ∀ p ∈ keptP ps m, p.1 < 2 ^ 64 := by
  intro q hq
  obtain ⟨p, hp, rfl⟩ := List.mem_map.mp hq
  exact Nat.lt_of_le_of_lt Nat.and_le_left (h p (List.mem_filter.mp hp).1)
noncomputable def spKept : Sp := fun vs H Q _ => ∃ (l : Addr) (ps : List (Pt MKey)) (m : Nat), vs = [.ref l, .int m] ∧ PAt H l ps ∧ ps.length < 64 ∧ ∀ p H', H p = none → Same H H' → PAt H' p (keptP ps m) → Q (.ref p) H'
noncomputable abbrev N_kept_pairs : List Str := ["pairs", "mask"]
theorem sc_kept_pairs : FnScope N_kept_pairs ["pairs", "mask"] (defScope st_kept_pairs) := ⟨rfl, rfl, rfl, by decide +kernel, rfl, by decide +kernel, by decide +kernel⟩
theorem ok_kept (T : All P w K mg AA DD) : FnOk P w K mg base CX0 1 AA.kept_pairs DD.kept_pairs ["pairs", "mask"] spKept := by
  refine T.F_kept_pairs.ok sc_kept_pairs (fun vs H Q E h => ?_) (fun cdv A outer s H vs Q E hr h => ?_)
  · obtain ⟨l, ps, m, rfl, _⟩ := h
    rfl
  · obtain ⟨l, ps, m, rfl, hP, hpl, k⟩ := h
    have nd := sc_kept_pairs.nd
    refine ⟨_, (@pss_one _ _ _ (@ps_ret _ _ _ _ (pe_comp2 (xs := ["there", "value"]) (defScope st_kept_pairs) N_kept_pairs ["mask"] [1] rfl (by exact ⟨rfl, rfl, by decide +kernel, by decide +kernel, by decide +kernel, by decide +kernel, by decide +kernel, rfl, by decide +kernel⟩) rfl rfl (pi_list (pv 0)) (fun _ _ _ _ => (pg_tupK (K := K) (n := 2) rfl rfl (pgs_cons (pg_name (i := 0) (show (["there", "value", "mask"] : List Str).Nodup by decide +kernel) rfl (Or.inl rfl)) (pgs_cons (pg_name (i := 1) (show (["there", "value", "mask"] : List Str).Nodup by decide +kernel) rfl (Or.inl rfl)) pgs_nil)))) (fun _ _ _ _ => pif_one (pt_cmpR op_ne (pe_op op_and (pv 0) (pv 2)) pe_int (nomark _))) (fun _ _ _ _ => (@pe_tup _ _ _ _ _ (@pa_cons _ _ _ _ _ (@pe_op _ _ _ _ _ _ _ _ op_and (pv 0) (pv 2)) (@pa_cons _ _ _ _ _ (pv 1) pa_nil (by rfl)) (by rfl))))))), ?_⟩
    obtain ⟨ts, hts, htl, hat⟩ := hP.ex
    refine ⟨_, rfl, l, rfl, ⟨_, SqL.of hts⟩, ?_⟩
    refine comp2_list (K := K) (a := l) (xs := ts.map V.ref) (fun i ys H' => Same H H' ∧ i ≤ 64 ∧ ∃ us : List Addr, ys = us.map V.ref ∧ us.length = (keptP (ps.take i) m).length ∧ ∀ (j : Nat) (t : Addr) (q : Pt MKey), us[j]? = some t → (keptP (ps.take i) m)[j]? = some q → ∃ y, H' t = some (.tup [.int ((q.1 : Nat) : Int), y]) ∧ MV H' q.2 y)
      ⟨Same.refl _, Nat.zero_le _, [], rfl, rfl, fun j t q h => by simp at h⟩ (fun i ys H' _ hsl53 => by obtain ⟨e, _⟩ := hsl53; exact SqL.of (e _ _ hts)) ?_ ?_
    · rintro i x ys H1 hx ⟨sm, _, us, rfl, hul, hus⟩
      have hi : i < ts.length := by
        have := (List.getElem?_eq_some_iff.mp hx).1
        rw [List.length_map] at this; exact this
      have hip : i < ps.length := by omega
      have ex : x = V.ref ts[i] := by rw [List.getElem?_map, List.getElem?_eq_getElem hi] at hx; exact (Option.some.inj hx).symm
      subst ex
      obtain ⟨y, htu, hmv⟩ := hat i ts[i] ps[i] (List.getElem?_eq_getElem hi) (List.getElem?_eq_getElem hip)
      have hT1 := sm _ _ htu
      have hm1 := mv_same hmv sm
      have hkl := keptP_len (ps.take i) m
      rw [List.length_take] at hkl
      have hks := keptP_snoc (ps.take i) ps[i] m
      rw [← List.take_succ_eq_append_getElem hip] at hks
      intro os hos
      obtain ⟨a, b, rfl⟩ : ∃ a b, os = [a, b] := by
        match os, hos with
        | [a, b], _ => exact ⟨a, b, rfl⟩
      refine ⟨ts[i], _, rfl, SqT.of hT1, rfl, _, _, rfl, _, _, rfl, rfl, ⟨[_, _], rfl, rfl⟩, ?_⟩
      refine ⟨_, rfl, _, rfl, _, _, rfl, rfl, rfl, _, rfl, ?_⟩
      by_cases h0 : ps[i].1 &&& m = 0
      · refine iteFb (by
          show (!decide (V.int (Builtin.bitAnd ((ps[i].1 : Nat) : Int) ((m : Nat) : Int)) = V.int 0)) = false
          rw [bitAnd_nat, h0]; rfl) ?_
        rw [if_pos h0] at hks
        exact ⟨sm, by omega, us, rfl, by rw [hks]; exact hul, by rw [hks]; exact hus⟩
      · refine iteTb (by
          show (!decide (V.int (Builtin.bitAnd ((ps[i].1 : Nat) : Int) ((m : Nat) : Int)) = V.int 0)) = true
          rw [bitAnd_nat, decide_eq_false (fun z => h0 (by injection z with z; omega))]; rfl) ?_
        rw [if_neg h0] at hks
        refine ⟨_, rfl, _, rfl, _, _, rfl, rfl, _, rfl, (by show 2 ≤ sizeLine; decide), fun t2 ht2 => ?_⟩
        dsimp only
        rw [bitAnd_nat]
        have s5 := same_upd (o := .tup [V.int ((ps[i].1 &&& m : Nat) : Int), y]) ht2
        refine ⟨by rw [List.length_map, hul]; exact small1000 (by omega), sm.trans s5, by omega, us ++ [t2], by simp, by rw [hks]; simp [hul], fun j t' q e1 e2 => ?_⟩
        rw [hks] at e2
        by_cases hj : j < us.length
        · rw [List.getElem?_append_left hj] at e1
          rw [List.getElem?_append_left (by omega)] at e2
          obtain ⟨y', h1, h2⟩ := hus j t' q e1 e2
          exact ⟨y', s5 _ _ h1, mv_same h2 s5⟩
        · have hjl := (List.getElem?_eq_some_iff.mp e1).1
          rw [List.length_append, List.length_singleton] at hjl
          have ej : j = us.length := by omega
          subst ej
          rw [List.getElem?_append_right (Nat.le_refl _), Nat.sub_self] at e1
          rw [hul, List.getElem?_append_right (Nat.le_refl _), Nat.sub_self] at e2
          have q1 : t2 = t' := by simpa using e1
          have q2 : (ps[i].1 &&& m, ps[i].2) = q := by simpa using e2
          subst q1 q2
          exact ⟨y, upd_same, mv_same hm1 s5⟩
    · rintro ys H1 ⟨sm, _, us, rfl, hul, hus⟩ p hp
      rw [List.length_map, htl, List.take_length] at hul hus
      have sp := same_upd (o := .lst (us.map V.ref)) hp
      exact k p _ (none_of sm hp) (sm.trans sp) ⟨us, upd_same, hul, fun i t q a b => by obtain ⟨y, u, v⟩ := hus i t q a b; exact ⟨y, sp _ _ u, mv_same v sp⟩⟩
/-! the law's own: cells, parts -/
noncomputable def spCellAt (K : PySem.W.Frag) : Sp := fun vs H Q _ => ∃ (a : Addr) (ns : List Int) (k : Nat), vs = [.ref a, .int k] ∧ SqL K H a (ns.map V.int) ∧ ∀ c : Int, Q (.int c) H
noncomputable abbrev N_law_cell_at : List Str := ["_law_script", "_law_k"]
theorem sc_law_cell_at : FnScope N_law_cell_at ["_law_script", "_law_k"] (defScope st_law_cell_at) := ⟨rfl, rfl, rfl, by decide +kernel, rfl, by decide +kernel, by decide +kernel⟩
theorem ok_cellat (T : All P w K mg AA DD) : FnOk P w K mg base CX0 1 AA.law_cell_at DD.law_cell_at ["_law_script", "_law_k"] (spCellAt K) := by
  refine T.F_law_cell_at.ok sc_law_cell_at (fun vs H Q E h => ?_) (fun cdv A outer s H vs Q E hr h => ?_)
  · obtain ⟨a, ns, k, rfl, _⟩ := h
    rfl
  · obtain ⟨a, ns, j, rfl, hS, k⟩ := h
    have nd := sc_law_cell_at.nd
    refine ⟨_, (@pss_cons _ _ _ _ _ (@ps_if _ _ _ _ _ _ _ _ (@pt_cmpR _ _ _ _ _ _ _ _ op_lt (pv 1) (pe_callB call_len_seq rfl T.n_len bt_len (@pa_cons _ _ _ _ _ (pv 0) pa_nil (by rfl))) (nomark _)) (@pss_one _ _ _ (@ps_ret _ _ _ _ (@pe_ix _ _ _ _ _ _ _ (ix_listK (K := K) rfl) (pv 0) (pv 1) (fun _ _ => rfl)))) pss_nil) (@pss_one _ _ _ (@ps_ret _ _ _ _ pe_int))), ?_⟩
    refine ⟨_, rfl, _, rfl, a, _, rfl, .inl hS, _, _, rfl, rfl, _, rfl, ?_⟩
    rw [List.length_map]
    refine ite2 (fun h1 => ?_) (fun h1 => k 0)
    have h1 : ((j : Nat) : Int) < (ns.length : Int) := of_decide_eq_true h1
    exact ⟨_, rfl, _, rfl, a, _, _, _, rfl, rfl, hS, atI_nat (j := j) (by rw [List.getElem?_map, List.getElem?_eq_getElem (by omega)]; rfl), k _⟩
/-! the values at a setting -/
noncomputable def atL (R : List (Pt MKey)) (s : Nat) : List MKey := (R.filter fun p => p.1.testBit s).map (·.2)
noncomputable def spAt : Sp := fun vs H Q _ => ∃ (l : Addr) (R : List (Pt MKey)) (s : Nat), vs = [.ref l, .int s] ∧ PAt H l R ∧ R.length < 64 ∧ ∀ p H', H p = none → Same H H' → KAt H' p (atL R s) → Q (.ref p) H'
theorem atL_snoc (R : List (Pt MKey)) (p : Pt MKey) (s : Nat) : atL (R ++ [p]) s = if p.1.testBit s = true then atL R s ++ [p.2] else atL R s := by
  unfold atL
  rw [List.filter_append]
  cases h : p.1.testBit s <;> simp [h]
theorem atL_len (R : List (Pt MKey)) (s : Nat) : (atL R s).length ≤ R.length := by
  unfold atL
  rw [List.length_map]
  exact List.length_filter_le _ _
noncomputable abbrev N_law_at : List Str := ["_law_parts_here", "_law_s"]
theorem sc_law_at : FnScope N_law_at ["_law_parts_here", "_law_s"] (defScope st_law_at) := ⟨rfl, rfl, rfl, by decide +kernel, rfl, by decide +kernel, by decide +kernel⟩
theorem ok_at (T : All P w K mg AA DD) : FnOk P w K mg base CX0 1 AA.law_at DD.law_at ["_law_parts_here", "_law_s"] spAt := by
  refine T.F_law_at.ok sc_law_at (fun vs H Q E h => ?_) (fun cdv A outer s H vs Q E hr h => ?_)
  · obtain ⟨l, R, s, rfl, _⟩ := h
    rfl
  · obtain ⟨l, R, s, rfl, hP, hRl, k⟩ := h
    have nd := sc_law_at.nd
    refine ⟨_, (@pss_one _ _ _ (@ps_ret _ _ _ _ (pe_comp2 (xs := ["_law_mask", "_law_value"]) (defScope st_law_at) N_law_at ["_law_s"] [1] rfl (by exact ⟨rfl, rfl, by decide +kernel, by decide +kernel, by decide +kernel, by decide +kernel, by decide +kernel, rfl, by decide +kernel⟩) rfl rfl (pi_list (pv 0)) (fun _ _ _ _ => (pg_tupK (K := K) (n := 2) rfl rfl (pgs_cons (pg_name (i := 0) (show (["_law_mask", "_law_value", "_law_s"] : List Str).Nodup by decide +kernel) rfl (Or.inl rfl)) (pgs_cons (pg_name (i := 1) (show (["_law_mask", "_law_value", "_law_s"] : List Str).Nodup by decide +kernel) rfl (Or.inl rfl)) pgs_nil)))) (fun _ _ _ _ => pif_one (pt_cmpR op_eq (pe_op op_and (pe_op op_shr (pv 0) (pv 2)) pe_int) pe_int (nomark _))) (fun _ _ _ _ => (pv 1))))), ?_⟩
    obtain ⟨ts, hts, htl, hat⟩ := hP.ex
    refine ⟨_, rfl, l, rfl, ⟨_, SqL.of hts⟩, ?_⟩
    refine comp2_list (K := K) (a := l) (xs := ts.map V.ref) (fun i ys H' => H' = H ∧ i ≤ 64 ∧ ys.length = (atL (R.take i) s).length ∧ ∀ (j : Nat) (y : V) (k : MKey), ys[j]? = some y → (atL (R.take i) s)[j]? = some k → MV H k y)
      ⟨rfl, Nat.zero_le _, rfl, fun j y k h => by simp at h⟩ (fun i ys H' _ hsl54 => by obtain ⟨e, _⟩ := hsl54; rw [e]; exact SqL.of hts) ?_ ?_
    · rintro i x ys H1 hx ⟨rfl, _, hyl, hys⟩
      have hi : i < ts.length := by
        have := (List.getElem?_eq_some_iff.mp hx).1
        rw [List.length_map] at this; exact this
      have hip : i < R.length := by omega
      have ex : x = V.ref ts[i] := by rw [List.getElem?_map, List.getElem?_eq_getElem hi] at hx; exact (Option.some.inj hx).symm
      subst ex
      obtain ⟨y, htu, hmv⟩ := hat i ts[i] R[i] (List.getElem?_eq_getElem hi) (List.getElem?_eq_getElem hip)
      have hkl := atL_len (R.take i) s
      rw [List.length_take] at hkl
      have hks := atL_snoc (R.take i) R[i] s
      rw [← List.take_succ_eq_append_getElem hip] at hks
      intro os hos
      obtain ⟨a, b, rfl⟩ : ∃ a b, os = [a, b] := by
        match os, hos with
        | [a, b], _ => exact ⟨a, b, rfl⟩
      refine ⟨ts[i], _, rfl, SqT.of htu, rfl, _, _, rfl, _, _, rfl, rfl, ⟨[_, _], rfl, rfl⟩, ?_⟩
      refine ⟨_, rfl, _, rfl, _, _, rfl, rfl, by omega, _, _, rfl, rfl, rfl, _, rfl, ?_⟩
      rw [has_val]
      cases hb : R[i].1.testBit s with
      | true =>
        rw [hb, if_pos rfl] at hks
        refine iteT ?_
        refine ⟨_, rfl, by rw [hyl]; exact small1000 (by omega), rfl, by omega, by rw [hks]; simp [hyl], fun j y' k' e1 e2 => ?_⟩
        rw [hks] at e2
        by_cases hj : j < ys.length
        · rw [List.getElem?_append_left hj] at e1
          rw [List.getElem?_append_left (by omega)] at e2
          exact hys j y' k' e1 e2
        · have hjl := (List.getElem?_eq_some_iff.mp e1).1
          rw [List.length_append, List.length_singleton] at hjl
          have ej : j = ys.length := by omega
          subst ej
          rw [List.getElem?_append_right (Nat.le_refl _), Nat.sub_self] at e1
          rw [hyl, List.getElem?_append_right (Nat.le_refl _), Nat.sub_self] at e2
          have q1 : y = y' := by simpa using e1
          have q2 : R[i].2 = k' := by simpa using e2
          subst q1 q2
          exact hmv
      | false =>
        rw [hb, if_neg Bool.false_ne_true] at hks
        refine iteF ?_
        exact ⟨rfl, by omega, by rw [hks]; exact hyl, by rw [hks]; exact hys⟩
    · rintro ys H1 ⟨rfl, _, hyl, hys⟩ p hp
      rw [List.length_map, htl, List.take_length] at hyl hys
      have sp := same_upd (o := .lst ys) hp
      exact k p _ hp sp ⟨ys, upd_same, hyl, fun i y k a b => mv_same (hys i y k a b) sp⟩
theorem cut_le (ns : List Int) (i j : Nat) : ∃ cs : List Int, cutV (ns.map V.int) (some (i : Int)) (some (j : Int)) = cs.map V.int ∧ cs.length ≤ j - i := by
  unfold cutV
  rw [HT.sIx_nat, HT.sIx_nat]
  refine ⟨(ns.drop (min i (ns.map V.int).length)).take (min j (ns.map V.int).length - min i (ns.map V.int).length), by rw [List.map_take, List.map_drop], ?_⟩
  rw [List.length_take, List.length_drop, List.length_map]
  omega
theorem atL_form {R : List (Pt MKey)} (F : Form R) (s : Nat) : atL R s = (atP R s).toList := by
  unfold atL atP
  rw [← List.head?_filter]
  cases h : R.filter fun p => p.1.testBit s with
  | nil => rfl
  | cons p r =>
    have hp : p ∈ R ∧ p.1.testBit s = true := List.mem_filter.mp (by rw [h]; exact List.mem_cons_self)
    have nd : ((R.filter fun p => p.1.testBit s).map (·.2)).Nodup := (List.Sublist.map _ List.filter_sublist).nodup F.nd
    rw [h, List.map_cons, List.nodup_cons] at nd
    cases r with
    | nil => rfl
    | cons q r =>
      exfalso
      have hq0 : q ∈ R.filter fun p => p.1.testBit s := by rw [h]; simp
      have hq : q ∈ R ∧ q.1.testBit s = true := List.mem_filter.mp hq0
      have e := F.fn s _ _ ⟨p, hp.1, rfl, hp.2⟩ ⟨q, hq.1, rfl, hq.2⟩
      exact nd.1 (by rw [e]; simp)
theorem eqv_nil (ks : List MKey) : PyData.eqv (.list (ks.map mD)) (.list []) = decide (ks = []) := by
  cases ks with
  | nil => rfl
  | cons k r => simp [PyData.eqv, PyData.eqvAll]
end
section
variable {P : Program} {w : World} {K : PySem.W.Frag} {mg : Str → Option Value} {base : Heap} {AA : Adr} {DD : Fds}
/-! parts of whole numbers -/
noncomputable def AllI (R : List (Pt MKey)) : Prop := ∀ p ∈ R, ∃ n : Int, p.2 = .inl (.inl n)
theorem AllI.of {R ps : List (Pt MKey)} (F : Form R) (h : ∀ s k, Has R s k ↔ Has ps s k) (a : AllI ps) : AllI R := fun p hp => by
  obtain ⟨s, _, hs⟩ := F.nz p hp
  obtain ⟨q, hq, e, _⟩ := (h s p.2).mp ⟨p, hp, rfl, hs⟩
  obtain ⟨n, z⟩ := a q hq
  exact ⟨n, e.symm.trans z⟩
noncomputable def spParts : Sp := fun vs H Q _ => ∃ (pc : Addr) (cs : List Int), vs = [.ref pc] ∧ H pc = some (.lst (cs.map V.int)) ∧ cs.length ≤ 14 ∧ ∀ p H' R, H p = none → Same H H' → PAt H' p R → Form R → AllI R → R.length ≤ cs.length → Q (.ref p) H'
noncomputable abbrev N_law_parts : List Str := ["_law_cells", "_law_pairs", "_law_taken", "_law_cell", "_law_xs", "_law_mask", "_law_value"]
theorem sc_law_parts : FnScope N_law_parts ["_law_cells"] (defScope st_law_parts) := ⟨rfl, rfl, rfl, by decide +kernel, rfl, by decide +kernel, by decide +kernel⟩
theorem ok_parts (T : All P w K mg AA DD) : FnOk P w K mg base CX0 6 AA.law_parts DD.law_parts ["_law_cells"] spParts := by
  have GS := ok_stream (base := base) T
  have GF := ok_oneform (base := base) T
  refine T.F_law_parts.ok sc_law_parts (fun vs H Q E h => ?_) (fun cdv A outer s H vs Q E hr h => ?_)
  · obtain ⟨pc, cs, rfl, _⟩ := h
    rfl
  · obtain ⟨pc, cs, rfl, hC0, hcl, k⟩ := h
    have nd := sc_law_parts.nd
    have hr5 : Room 5 _ := hr
    have hr1 : Room 1 _ := hr5.mono (by decide)
    refine ⟨_, (@pss_cons _ _ _ _ _ (@ps_set _ _ 1 _ _ _ _ nd rfl (Or.inl rfl) (@pe_lst _ _ _ _ pa_nil) (by rfl) (by first | exact .inl rfl | exact .inr rfl | assumption)) (@pss_cons _ _ _ _ _ (@ps_set _ _ 2 _ _ _ _ nd rfl (Or.inl rfl) pe_int (by rfl) (by first | exact .inl rfl | exact .inr rfl | assumption)) (@pss_cons _ _ _ _ _ (@ps_for _ _ _ _ _ _ _ _ PassesOwn.never rfl (pi_list (pv 0)) (pg_name (i := 3) nd rfl (Or.inl rfl)) (@pss_cons _ _ _ _ _ (@ps_set _ _ 4 _ _ _ _ nd rfl (Or.inl rfl) (pe_call GS hr1 rfl T.m_law_stream T.k_law_stream T.b_law_stream .nil pass0 (@pa_cons _ _ _ _ _ (pv 3) (@pa_cons _ _ _ _ _ pe_int pa_nil (by rfl)) (by rfl))) (by rfl) (by first | exact .inl rfl | exact .inr rfl | assumption)) (@pss_cons _ _ _ _ _ (@ps_set _ _ 5 _ _ _ _ nd rfl (Or.inl rfl) (@pe_op _ _ _ _ _ _ _ _ op_mod (@pe_op _ _ _ _ _ _ _ _ op_add (@pe_op _ _ _ _ _ _ _ _ op_mul (@pe_ix _ _ _ _ _ _ _ (ix_listK (K := K) rfl) (pv 4) pe_int (fun _ _ => rfl)) pe_int) (@pe_ix _ _ _ _ _ _ _ (ix_listK (K := K) rfl) (pv 4) pe_int (fun _ _ => rfl))) pe_int) (by rfl) (by first | exact .inl rfl | exact .inr rfl | assumption)) (@pss_cons _ _ _ _ _ (@ps_if _ _ _ _ _ _ _ _ (@pt_cmpR _ _ _ _ _ _ _ _ op_eq (@pe_op _ _ _ _ _ _ _ _ op_mod (@pe_ix _ _ _ _ _ _ _ (ix_listK (K := K) rfl) (pv 4) pe_int (fun _ _ => rfl)) pe_int) pe_int (nomark _)) (@pss_one _ _ _ (@ps_set _ _ 5 _ _ _ _ nd rfl (Or.inl rfl) (@pe_op _ _ _ _ _ _ _ _ op_shlB pe_int (@pe_op _ _ _ _ _ _ _ _ op_mod (@pe_ix _ _ _ _ _ _ _ (ix_listK (K := K) rfl) (pv 4) pe_int (fun _ _ => rfl)) pe_int)) (by rfl) (by first | exact .inl rfl | exact .inr rfl | assumption))) pss_nil) (@pss_cons _ _ _ _ _ (@ps_set _ _ 6 _ _ _ _ nd rfl (Or.inl rfl) (@pe_ix _ _ _ _ _ _ _ (ix_listK (K := K) rfl) (@pe_lst _ _ _ _ (@pa_cons _ _ _ _ _ (@pe_op _ _ _ _ _ _ _ _ op_mod (@pe_ix _ _ _ _ _ _ _ (ix_listK (K := K) rfl) (pv 4) pe_int (fun _ _ => rfl)) pe_int) (@pa_cons _ _ _ _ _ (@pe_ix _ _ _ _ _ _ _ (ix_listK (K := K) rfl) (pv 4) pe_int (fun _ _ => rfl)) (@pa_cons _ _ _ _ _ (@pe_op _ _ _ _ _ _ _ _ op_mod (@pe_op _ _ _ _ _ _ _ _ op_mul (@pe_ix _ _ _ _ _ _ _ (ix_listK (K := K) rfl) (pv 4) pe_int (fun _ _ => rfl)) (@pe_ix _ _ _ _ _ _ _ (ix_listK (K := K) rfl) (pv 4) pe_int (fun _ _ => rfl))) (@pe_op _ _ _ _ _ _ _ _ op_pow pe_int pe_int)) pa_nil (by rfl)) (by rfl)) (by rfl))) (@pe_op _ _ _ _ _ _ _ _ op_mod (@pe_op _ _ _ _ _ _ _ _ op_fdiv (@pe_ix _ _ _ _ _ _ _ (ix_listK (K := K) rfl) (pv 4) pe_int (fun _ _ => rfl)) pe_int) pe_int) (fun _ _ => rfl)) (by rfl) (by first | exact .inl rfl | exact .inr rfl | assumption)) (@pss_cons _ _ _ _ _ (@ps_expr _ _ _ _ (pe_bm PySem.F.plainAttrs_list PySem.F.slot_list_append PySem.F.type_list_append mt_append (pv 1) (@pa_cons _ _ _ _ _ (@pe_tup _ _ _ _ _ (@pa_cons _ _ _ _ _ (@pe_op _ _ _ _ _ _ _ _ op_and (pv 5) (pe_un un_inv (pv 2))) (@pa_cons _ _ _ _ _ (pv 6) pa_nil (by rfl)) (by rfl))) pa_nil (by rfl))) (by rfl)) (@pss_one _ _ _ (@ps_set _ _ 2 _ _ _ _ nd rfl (Or.inl rfl) (@pe_op _ _ _ _ _ _ _ _ op_or (pv 2) (pv 5)) (by rfl) (by first | exact .inl rfl | exact .inr rfl | assumption)))))))) (by intro _; rfl)) (@pss_one _ _ _ (@ps_ret _ _ _ _ (pe_call GF hr5 rfl T.m_one_form T.k_one_form T.b_one_form .nil pass0 (@pa_cons _ _ _ _ _ (pv 1) pa_nil (by rfl)))))))), ?_⟩
    refine ⟨Nat.zero_le _, fun pp hpp => ?_⟩
    refine seq_c (v := .int 0) (i := 2) ?_
    dsimp only [gName]
    have nc : pp ≠ pc := (ne_of_none hC0 hpp).symm
    refine cut_for (fun σ' H' => ∃ (ps : List (Pt MKey)) (s2 s3 s4 s5 s6 : Option V), Same H H' ∧ PAt H' pp ps ∧ ps.length ≤ cs.length ∧ AllI ps ∧ Fnl ps ∧ (∀ q ∈ ps, q.1 < 2 ^ 64) ∧ σ' = [some (.ref pc), some (.ref pp), s2, s3, s4, s5, s6]) (fun R hRR => ?_) ?_
    · refine ⟨_, rfl, pc, rfl, ⟨_, SqL.of ((same_upd hpp) _ _ hC0)⟩, ?_⟩
      refine for_list (K := K) (a := pc) (xs := cs.map V.int) (fun i σ' H' => H' pc = some (.lst (cs.map V.int)) ∧ ∃ (ps : List (Pt MKey)) (tk : Nat) (s3 s4 s5 s6 : Option V), Same H H' ∧ PAt H' pp ps ∧ ps.length = i ∧ AllI ps ∧ Fnl ps ∧ (∀ q ∈ ps, q.1 < 2 ^ 64) ∧ (∀ q ∈ ps, ∀ s, q.1.testBit s = true → tk.testBit s = true) ∧ σ' = [some (.ref pc), some (.ref pp), some (.int ((tk : Nat) : Int)), s3, s4, s5, s6])
        ⟨(same_upd hpp) _ _ hC0, [], 0, none, none, none, none, same_upd hpp, ⟨[], upd_same, rfl, fun i t p h => by simp at h⟩, rfl, (fun q h => by cases h), (fun s k k' h => by obtain ⟨p, h, _⟩ := h; cases h), (fun q h => by cases h), (fun q h => by cases h), rfl⟩ (fun i σ' H' _ h => SqL.of h.1) ?_ ?_
      · rintro i x σ' H1 hx ⟨hC, ps, tk, s3, s4, s5, s6, sm, hP, hl, hai, hf, hb, hsub, rfl⟩
        have hi : i < cs.length := by
          have := (List.getElem?_eq_some_iff.mp hx).1
          simpa using this
        have ex : x = V.int cs[i] := by
          rw [List.getElem?_map, List.getElem?_eq_getElem hi] at hx
          exact (Option.some.inj hx).symm
        subst ex
        refine ⟨_, rfl, cs[i], rfl, fun px a0 a1 a2 a3 hpx h0 h1 h2 h3 => ?_⟩
        dsimp only [gName]
        have sx := same_upd (o := .lst [V.int a0, V.int a1, V.int a2, V.int a3]) hpx
        have hX : upd H1 px (.lst [V.int a0, V.int a1, V.int a2, V.int a3]) px = some (.lst [V.int a0, V.int a1, V.int a2, V.int a3]) := upd_same
        have hC2 := sx _ _ hC
        have hP2 := hP.same sx
        have sm2 := sm.trans sx
        generalize upd H1 px (.lst [V.int a0, V.int a1, V.int a2, V.int a3]) = H2 at hX hC2 hP2 sm2 ⊢
        refine ⟨_, rfl, px, _, _, _, rfl, rfl, SqL.of hX, rfl, _, _, rfl, rfl, .inr ⟨by decide, by decide⟩, _, rfl, px, _, _, _, rfl, rfl, SqL.of hX, rfl, _, _, rfl, rfl, _, _, rfl, rfl, (by show (0 : Int) < 18446744073709551616; decide), ?_⟩
        dsimp only [gName]
        obtain ⟨m0, em, hm0⟩ := modN (a := ((a0 : Nat) : Int) * 2147483648 + ((a1 : Nat) : Int)) (n := 18446744073709551616) (by decide)
        have em : (((a0 : Nat) : Int) * 2147483648 + ((a1 : Nat) : Int)) % 18446744073709551616 = ((m0 : Nat) : Int) := em
        rw [em]
        refine cut_if (fun σ' H' => H' = H2 ∧ ∃ m : Nat, m < 2 ^ 64 ∧ σ' = [some (.ref pc), some (.ref pp), some (.int ((tk : Nat) : Int)), some (.int cs[i]), some (.ref px), some (.int ((m : Nat) : Int)), s6]) (fun Rx hRx => ?_) ?_
        · refine ⟨_, rfl, px, _, _, _, rfl, rfl, SqL.of hX, rfl, _, _, rfl, rfl, (by show (0 : Int) < 3; decide), rfl, _, rfl, ?_⟩
          refine ite2 (fun h => ?_) (fun h => hRx _ _ ⟨rfl, m0, hm0, rfl⟩)
          obtain ⟨j, ej, hj⟩ := modN (a := ((a1 : Nat) : Int)) (n := 64) (by decide)
          have ej : ((a1 : Nat) : Int) % 64 = ((j : Nat) : Int) := ej
          refine ⟨_, rfl, px, _, _, _, rfl, rfl, SqL.of hX, rfl, _, _, rfl, rfl, (by show (0 : Int) < 64; decide), ?_⟩
          dsimp only
          rw [ej]
          refine ⟨_, _, rfl, rfl, one_shl (by omega), ?_⟩
          refine hRx _ _ ⟨rfl, 2 ^ j, Nat.pow_lt_pow_right (by decide) hj, ?_⟩
          rw [← shl_n]
          rfl
        rintro σ' H' ⟨rfl, m, hm, rfl⟩
        obtain ⟨ts, hts, htl, hat⟩ := hP2.ex
        refine ⟨_, rfl, px, _, _, _, rfl, rfl, SqL.of hX, rfl, _, _, rfl, rfl, (by show (0 : Int) < 7; decide), _, rfl, px, _, _, _, rfl, rfl, SqL.of hX, rfl, ?_⟩
        refine ⟨_, rfl, px, _, _, _, rfl, rfl, SqL.of hX, rfl, _, rfl, px, _, _, _, rfl, rfl, SqL.of hX, rfl, _, _, rfl, rfl, .inl ⟨by omega, by omega⟩, _, _, rfl, rfl, ⟨by decide, by decide, by decide⟩, _, _, rfl, rfl, (by show (0 : Int) < 10 ^ (19 : Int).toNat; decide), ?_⟩
        refine ⟨(by show 3 ≤ sizeLine; decide), fun pv hpv => ?_⟩
        obtain ⟨jv, ejv, hjv⟩ := modN (a := ((a3 : Nat) : Int) / 7) (n := 3) (by decide)
        have ejv : ((a3 : Nat) : Int) / 7 % 3 = ((jv : Nat) : Int) := ejv
        have s3' := same_upd (o := .lst [V.int (((a3 : Nat) : Int) % 7), V.int ((a3 : Nat) : Int), V.int (((a3 : Nat) : Int) * ((a2 : Nat) : Int) % 10 ^ Int.toNat 19)]) hpv
        obtain ⟨vv, hvv⟩ : ∃ vv : Int, [V.int (((a3 : Nat) : Int) % 7), V.int ((a3 : Nat) : Int), V.int (((a3 : Nat) : Int) * ((a2 : Nat) : Int) % 10 ^ Int.toNat 19)][jv]? = some (V.int vv) := by
          rcases (show jv = 0 ∨ jv = 1 ∨ jv = 2 by omega) with rfl | rfl | rfl <;> exact ⟨_, rfl⟩
        refine ⟨_, rfl, px, _, _, _, rfl, rfl, SqL.of (s3' _ _ hX), rfl, _, _, rfl, rfl, ⟨by decide, by decide⟩, _, _, rfl, rfl, (by show (0 : Int) < 3; decide), pv, _, _, V.int vv, rfl, rfl, SqL.of upd_same, ?_, ?_⟩
        · dsimp only
          rw [ejv]; exact atI_nat hvv
        dsimp only [gName]
        have hP3 := hP2.same s3'
        have hC3 := s3' _ _ hC2
        have sm3 := sm2.trans s3'
        clear hts htl hat
        generalize upd H' pv _ = H3 at hP3 hC3 sm3 ⊢
        obtain ⟨ts, hts, htl, hat⟩ := hP3.ex
        have hy : MV H3 (.inl (.inl vv)) (V.int vv) := ⟨rfl, rfl⟩
        refine ⟨_, rfl, .inl ⟨rfl, _, SqL.of hts⟩, _, rfl, _, rfl, _, rfl, _, _, rfl, rfl, _, rfl, (by show 2 ≤ sizeLine; decide), fun t ht => ?_⟩
        dsimp only
        rw [bitAnd_not]
        have s5' := same_upd (o := .tup [V.int ((m ^^^ (m &&& tk) : Nat) : Int), V.int vv]) ht
        have hts5 := s5' _ _ hts
        refine ⟨pp, _, _, rfl, rfl, hts5, (by rw [List.length_map, htl]; exact small1000 (by omega)), ?_⟩
        refine ⟨_, rfl, _, rfl, _, _, rfl, rfl, ?_⟩
        have npc : pc ≠ pp := nc.symm
        have keep : ∀ {b : Addr} {o : HO}, H3 b = some o → b ≠ pp → upd (upd H3 t (.tup [V.int ((m ^^^ (m &&& tk) : Nat) : Int), V.int vv])) pp (.lst (ts.map V.ref ++ [V.ref t])) b = some o := fun e n => by rw [upd_ne n]; exact s5' _ _ e
        have tup_ne : ∀ {b : Addr} {ys : List V} {G : Hp}, G pp = some (.lst (ts.map V.ref)) → G b = some (.tup ys) → b ≠ pp := fun e1 e2 z => by rw [z, e1] at e2; cases e2
        have mvk : ∀ {k : MKey} {x : V}, MV (upd H3 t (.tup [V.int ((m ^^^ (m &&& tk) : Nat) : Int), V.int vv])) k x → MV (upd (upd H3 t (.tup [V.int ((m ^^^ (m &&& tk) : Nat) : Int), V.int vv])) pp (.lst (ts.map V.ref ++ [V.ref t]))) k x := fun mv => mv.mono fun b ys e => by rw [upd_ne (tup_ne hts5 e)]; exact e
        refine ⟨keep hC3 npc, ps ++ [(m ^^^ (m &&& tk), .inl (.inl vv))], tk ||| m, some (.int cs[i]), some (.ref px), some (.int ((m : Nat) : Int)), some (.int vv), ?_, ?_, by simp [hl], ?_, ?_, ?_, ?_, ?_⟩
        · intro b u e
          rw [upd_ne (ne_of_none e hpp)]
          exact s5' _ _ (sm3 _ _ e)
        · refine ⟨ts ++ [t], by rw [upd_same, List.map_append]; rfl, by simp [htl], fun j t' p e1 e2 => ?_⟩
          by_cases hj : j < ts.length
          · rw [List.getElem?_append_left hj] at e1
            rw [List.getElem?_append_left (by omega)] at e2
            obtain ⟨y', h1, h2⟩ := hat j t' p e1 e2
            exact ⟨y', keep h1 (tup_ne hts h1), mvk (mv_same h2 s5')⟩
          · have hjl := (List.getElem?_eq_some_iff.mp e1).1
            rw [List.length_append, List.length_singleton] at hjl
            have ej : j = ts.length := by omega
            subst ej
            rw [List.getElem?_append_right (Nat.le_refl _), Nat.sub_self] at e1
            rw [htl, List.getElem?_append_right (Nat.le_refl _), Nat.sub_self] at e2
            have q1 : t = t' := by simpa using e1
            have q2 : (m ^^^ (m &&& tk), .inl (.inl vv)) = p := by simpa using e2
            subst q1 q2
            refine ⟨V.int vv, ?_, mvk (mv_same hy s5')⟩
            rw [upd_ne (tup_ne hts5 upd_same), upd_same]
        · intro q hq
          rcases List.mem_append.mp hq with z | z
          · exact hai q z
          · have z : q = (m ^^^ (m &&& tk), .inl (.inl vv)) := by simpa using z
            subst z; exact ⟨vv, rfl⟩
        · exact fnl_snoc hf hsub fun s h => by
            have h : (m ^^^ (m &&& tk)).testBit s = true := h
            rw [andNot_bit] at h
            cases q : tk.testBit s with
            | false => rfl
            | true => rw [q] at h; simp at h
        · intro q hq
          rcases List.mem_append.mp hq with z | z
          · exact hb q z
          · have z : q = (m ^^^ (m &&& tk), .inl (.inl vv)) := by simpa using z
            subst z
            refine Nat.lt_of_le_of_lt ?_ hm
            apply Nat.le_of_testBit
            intro s h
            have h : (m ^^^ (m &&& tk)).testBit s = true := h
            rw [andNot_bit] at h
            cases q : m.testBit s with
            | true => rfl
            | false => rw [q] at h; simp at h
        · intro q hq s h
          rw [Nat.testBit_or]
          rcases List.mem_append.mp hq with z | z
          · rw [hsub q z s h]; rfl
          · have z : q = (m ^^^ (m &&& tk), .inl (.inl vv)) := by simpa using z
            subst z
            have h : (m ^^^ (m &&& tk)).testBit s = true := h
            rw [andNot_bit] at h
            cases q : m.testBit s with
            | true => simp
            | false => rw [q] at h; simp at h
        · rw [← bitOr_nat]
          rfl
      · rintro σ' H1 ⟨_, ps, tk, s3, s4, s5, s6, sm, hP, hl, hai, hf, hb, hsub, rfl⟩
        rw [List.length_map] at hl
        exact hRR _ _ ⟨ps, _, s3, s4, s5, s6, sm, hP, by omega, hai, hf, hb, rfl⟩
    · rintro σ' H1 ⟨ps, s2, s3, s4, s5, s6, sm, hP, hl, hai, hf, hb, rfl⟩
      refine ⟨_, rfl, pp, ps, rfl, hP, by omega, hf, hb, fun p H' R hp s7 hR hF hH hRl => ?_⟩
      exact k p H' R (none_of sm hp) (sm.trans s7) hR hF (AllI.of hF hH hai) (by omega)
end
section
variable {P : Program} {w : World} {K : PySem.W.Frag} {mg : Str → Option Value} {base : Heap} {AA : Adr} {DD : Fds}
/-! functions that are handed in -/
noncomputable abbrev lamE : Stmt → Expr
  | .Return (some e) _ => e
  | .If _ [.Return (some e) _] _ _ => e
  | _ => .Constant .none 0 ⟨0, 0, 0, 0⟩
noncomputable abbrev lamArgs : Expr → Arguments
  | .Lambda a _ _ _ => a
  | _ => { posonlyargs := [], args := [], vararg := none, kwonlyargs := [], kw_defaults := [], kwarg := none, defaults := [] }
noncomputable abbrev lamBody : Expr → Expr
  | .Lambda _ b _ _ => b
  | e => e
noncomputable abbrev lamScope : Expr → Scope
  | .Lambda _ _ s _ => s
  | _ => { kind := .function, names := [], isGenerator := false, isCoroutine := false }
noncomputable abbrev one (i : Nat) : Expr := lamE ((defBody st_law_one).getD i (.Pass ⟨0, 0, 0, 0⟩))
noncomputable abbrev two (i : Nat) : Expr := lamE ((defBody st_law_two).getD i (.Pass ⟨0, 0, 0, 0⟩))
/-- all stays but the tables -/
noncomputable def SameT (H H' : Hp) : Prop := ∀ b o, H b = some o → (∀ ps, o ≠ .tbl ps) → H' b = some o
theorem Same.t {H H' : Hp} (s : Same H H') : SameT H H' := fun b o e _ => s b o e
theorem SameT.trans {H H1 H2 : Hp} (a : SameT H H1) (b : SameT H1 H2) : SameT H H2 := fun c o e n => b c o (a c o e n) n
theorem mv_sameT {H H' : Hp} {k : MKey} {x : V} (m : MV H k x) (s : SameT H H') : MV H' k x := m.mono fun b ys e => s _ _ e fun ps z => by cases z
theorem PAt.sameT {H H' : Hp} {l : Addr} {ps : List (Pt MKey)} (h : PAt H l ps) (s : SameT H H') : PAt H' l ps := by
  obtain ⟨ts, h1, h2, h3⟩ := h.ex
  exact ⟨ts, s _ _ h1 (fun ps z => by cases z), h2, fun i t p a b => by obtain ⟨y, u, v⟩ := h3 i t p a b; exact ⟨y, s _ _ u (fun ps z => by cases z), mv_sameT v s⟩⟩
/-- a function of numbers, handed in at f -/
noncomputable def FnV (P : Program) (w : World) (K : PySem.W.Frag) (mg : Str → Option Value) (base : Heap) (H : Hp) (f : Addr) (ps : List Str) (g : List Int → MKey) : Prop :=
  ∃ oc od fd sl sp, H f = some (Kp ⟨oc, od, .func fd, sl⟩) ∧ FnOk P w K mg base CX0 2 f fd ps sp ∧ Binds K fd ps [] ∧
    ∀ (H' : Hp) (ns : List Int) (Q : VK), SameT H H' → ns.length = ps.length → (∀ y H'', Same H' H'' → MV H'' (g ns) y → Q y H'') → sp (ns.map V.int) H' Q E0
theorem FnV.sameT {H H1 : Hp} {f : Addr} {ps : List Str} {g : List Int → MKey} (h : FnV P w K mg base H f ps g) (s : SameT H H1) : FnV P w K mg base H1 f ps g := by
  obtain ⟨oc, od, fd, sl, sp, h1, h2, h3, h4⟩ := h
  exact ⟨oc, od, fd, sl, sp, s _ _ h1 (fun ps z => by cases z), h2, h3, fun H' ns Q s2 hl q => h4 H' ns Q (s.trans s2) hl q⟩
theorem kp_nt {o : Obj} : ∀ ps, Kp o ≠ .tbl ps := fun ps z => by cases z
/-- a lambda does what its body does -/
theorem lamG {H : Hp} {f c' : Addr} {qual : Str} {e : Expr} {cl : List (Str × Addr)} {pm ctv : Value} {ps fv : List Str} {ws : List V} {g : List Int → MKey} (t : TE)
    (hf : H f = some (Kp (PySem.W.kla_obj "<lambda>" qual (lamArgs e) (lamBody e) (lamScope e) cl pm c' ctv))) (hc' : ∃ oc vsc t, H c' = some (Kp oc) ∧ oc.data = .fields vsc ∧ vsc[1]? = some (.str qual t))
    (S : LmScope ps fv (lamScope e)) (hinj : ∀ x y c, cl.lookup x = some c → cl.lookup y = some c → x = y) (hhas : ∀ x, (lamScope e).names.lookup x = some .free → ∃ c, cl.lookup x = some c)
    (hcl : ∀ p ∈ cl, ∃ o v, H p.2 = some (Kp o) ∧ o.data = .cell v) (hwl : ws.length = fv.length)
    (hws : ∀ (i : Nat) (x : Str) (v : V), fv[i]? = some x → ws[i]? = some v → ∃ c o u, cl.lookup x = some c ∧ H c = some (Kp o) ∧ o.data = .cell (some u) ∧ RelV v u)
    (hb : ∀ us : List Value, us.length = ps.length → bindArgs (PySem.W.kla_fn "<lambda>" qual (lamArgs e) (lamBody e) (lamScope e) cl pm (.ref c') ctv) ⟨us, []⟩ = pure (ps.zip us))
    (hPE : ∀ (A : Around) (outer : List Env) (s : Shared) (H : Hp), PE (cxL P w K mg base (ps ++ fv) qual (lamScope e) f (.ref c') cl A outer s H) (lamBody e) t)
    (ht : ∀ (H : Hp) (ns : List Int) (Q : VK), ns.length = ps.length → (∀ y H', Same H H' → MV H' (g ns) y → Q y H') → t ((ns.map V.int).map some ++ ws.map some) H Q) : FnV P w K mg base H f ps g := by
  refine ⟨_, _, _, _, fun vs H' Q _ => ∃ ns : List Int, vs = ns.map V.int ∧ ns.length = ps.length ∧ SameT H H' ∧ ∀ y H'', Same H' H'' → MV H'' (g ns) y → Q y H'', hf, lam_ok (fv := fv) S hinj hhas (fun vs H' Q E h => ?_) (fun A outer s H' vs Q E hr h => ?_), Binds.all hb, fun H' ns Q s hl q => ⟨ns, rfl, hl, s, q⟩⟩
  · obtain ⟨ns, rfl, hl, _⟩ := h
    rw [List.length_map]; exact hl
  · obtain ⟨ns, rfl, hl, s1, q⟩ := h
    obtain ⟨oc, vsc, tq, hc', h1, h2⟩ := hc'
    refine ⟨s1 _ _ hf kp_nt, ⟨oc, vsc, tq, s1 _ _ hc' kp_nt, h1, h2⟩, fun p hp => by obtain ⟨o, v, e1, e2⟩ := hcl p hp; exact ⟨o, v, s1 _ _ e1 kp_nt, e2⟩, ws, t, hwl, fun i x v a b => by obtain ⟨c, o, u, e1, e2, e3, e4⟩ := hws i x v a b; exact ⟨c, o, u, e1, s1 _ _ e2 kp_nt, e3, e4⟩, hPE A outer s _, ?_⟩
    refine ht _ ns _ hl fun y H'' s2 m hn => q y _ (back_same s2) (m.mono fun b ys e => ?_)
    rw [back_ne (fun z => by rw [hn b z] at e; cases e)]
    exact e
/-- where the lambdas' tables stand -/
structure LamT (K : PySem.W.Frag) (mg : Str → Option Value) (base : Heap) (DD : Fds) (P1 P2 : Addr) : Prop where
  bm : BMain mg base
  c1 : ∃ c, DD.law_one.code = .ref c ∧ PySem.W.CodeHd base c P1
  c2 : ∃ c, DD.law_two.code = .ref c ∧ PySem.W.CodeHd base c P2
  ne : P1 ≠ P2
noncomputable def g1 (kd : Nat) (num : Int) (ns : List Int) : MKey := match ns with
  | [n] => if kd = 0 then .inl (.inl (n % (1 + num % 5))) else if kd = 1 then .inr [.inl n, .inl num] else .inl (.inl num)
  | _ => .inr []
noncomputable def g2 (kd : Nat) (ns : List Int) : MKey := match ns with
  | [a, b] => if kd = 0 then .inl (.inl (a + b)) else if kd = 1 then .inl (.inl (if b > a then b else a)) else if kd = 2 then .inr [.inl a, .inl b] else .inl (.inr (if a < b then Str.ofString "yes" else Str.ofString "no"))
  | _ => .inr []
noncomputable def spOne (P : Program) (w : World) (K : PySem.W.Frag) (mg : Str → Option Value) (base : Heap) (P1 : Addr) : Sp := fun vs H Q _ => ∃ (kd : Nat) (num : Int), vs = [.int kd, .int num] ∧ kd < 3 ∧ H P1 = some (.tbl #[]) ∧ ∀ f H', SameT H H' → (∀ b, b ≠ P1 → ∀ ps, H b = some (.tbl ps) → H' b = some (.tbl ps)) → FnV P w K mg base H' f ["_law_value"] (g1 kd num) → Q (.ref f) H'
theorem sc_one : FnScope ["_law_kind", "_law_number"] ["_law_kind", "_law_number"] (defScope st_law_one) := ⟨rfl, rfl, rfl, by decide +kernel, rfl, by decide +kernel, by decide +kernel⟩
theorem mv_two {H : Hp} {p : Addr} {a b : Int} (h : H p = some (.tup [.int a, .int b])) : MV H (.inr [.inl a, .inl b]) (.ref p) := by
  refine ⟨(Shd.tuple (n := 0) fun d hd => ?_).1, p, rfl, h⟩
  rcases (show d = _ ∨ d = _ by simpa using hd) with z | z <;> subst z <;> exact Shd.int _
theorem lam_one {e : Expr} {H : Hp} {f c' c2 P1 : Addr} {oc oc2 : Obj} {vs : Array Value} {tq : Tok} {ctv pm u : Value} {qual : Str} {num : Int} {g : List Int → MKey} {tb : Array Value} {cells : List (Str × Addr)} (t : TE)
    (ecl : clOf cells (lamScope e).names [] = ([("_law_number", c2)] : List (Str × Addr))) (hHf : H f = none) (hHc' : H c' = none) (hne : f ≠ c') (hP : H P1 = some (.tbl #[])) (hHc : H c2 = none)
    (hH'c : (upd (upd (upd H P1 (.tbl tb)) c' (Kp oc)) f (Kp (PySem.W.kla_obj "<lambda>" qual (lamArgs e) (lamBody e) (lamScope e) (clOf cells (lamScope e).names []) pm c' ctv))) c2 = none)
    (hd : oc.data = .fields vs) (hv : vs[1]? = some (.str qual tq)) (hd2 : oc2.data = .cell (some u)) (r2 : RelV (.int num) u)
    (S : LmScope ["_law_value"] ["_law_number"] (lamScope e)) (hfn : ∀ y ∈ (lamScope e).names, y.2 = .free → y.1 = "_law_number")
    (hb : ∀ (cl : List (Str × Addr)) (us : List Value), us.length = 1 → bindArgs (PySem.W.kla_fn "<lambda>" qual (lamArgs e) (lamBody e) (lamScope e) cl pm (.ref c') ctv) ⟨us, []⟩ = pure ((["_law_value"] : List Str).zip us))
    (hPE : ∀ (cl : List (Str × Addr)) (A : Around) (outer : List Env) (s : Shared) (H : Hp), PE (cxL P w K mg base ["_law_value", "_law_number"] qual (lamScope e) f (.ref c') cl A outer s H) (lamBody e) t)
    (ht : ∀ (H : Hp) (n : Int) (Q : VK), (∀ y H', Same H H' → MV H' (g [n]) y → Q y H') → t [some (.int n), some (.int num)] H Q) :
    SameT H (upd (upd (upd (upd H P1 (.tbl tb)) c' (Kp oc)) f (Kp (PySem.W.kla_obj "<lambda>" qual (lamArgs e) (lamBody e) (lamScope e) (clOf cells (lamScope e).names []) pm c' ctv))) c2 (Kp oc2)) ∧
    (∀ b, b ≠ P1 → ∀ ps, H b = some (.tbl ps) → (upd (upd (upd (upd H P1 (.tbl tb)) c' (Kp oc)) f (Kp (PySem.W.kla_obj "<lambda>" qual (lamArgs e) (lamBody e) (lamScope e) (clOf cells (lamScope e).names []) pm c' ctv))) c2 (Kp oc2)) b = some (.tbl ps)) ∧
    FnV P w K mg base (upd (upd (upd (upd H P1 (.tbl tb)) c' (Kp oc)) f (Kp (PySem.W.kla_obj "<lambda>" qual (lamArgs e) (lamBody e) (lamScope e) (clOf cells (lamScope e).names []) pm c' ctv))) c2 (Kp oc2)) f ["_law_value"] g := by
  rw [ecl] at hH'c ⊢
  have n1 : f ≠ c2 := fun z => by rw [← z, upd_same] at hH'c; cases hH'c
  have n2 : c' ≠ c2 := fun z => by rw [← z, upd_ne hne.symm, upd_same] at hH'c; cases hH'c
  have old : ∀ b o, H b = some o → b ≠ P1 → (upd (upd (upd (upd H P1 (.tbl tb)) c' (Kp oc)) f (Kp (PySem.W.kla_obj "<lambda>" qual (lamArgs e) (lamBody e) (lamScope e) [("_law_number", c2)] pm c' ctv))) c2 (Kp oc2)) b = some o := fun b o q n => by
    rw [upd_ne (ne_of_none q hHc), upd_ne (ne_of_none q hHf), upd_ne (ne_of_none q hHc'), upd_ne n]; exact q
  have e1 : (upd (upd (upd (upd H P1 (.tbl tb)) c' (Kp oc)) f (Kp (PySem.W.kla_obj "<lambda>" qual (lamArgs e) (lamBody e) (lamScope e) [("_law_number", c2)] pm c' ctv))) c2 (Kp oc2)) f = some (Kp (PySem.W.kla_obj "<lambda>" qual (lamArgs e) (lamBody e) (lamScope e) [("_law_number", c2)] pm c' ctv)) := by rw [upd_ne n1, upd_same]
  have e2 : (upd (upd (upd (upd H P1 (.tbl tb)) c' (Kp oc)) f (Kp (PySem.W.kla_obj "<lambda>" qual (lamArgs e) (lamBody e) (lamScope e) [("_law_number", c2)] pm c' ctv))) c2 (Kp oc2)) c' = some (Kp oc) := by rw [upd_ne n2, upd_ne hne.symm, upd_same]
  have e3 : (upd (upd (upd (upd H P1 (.tbl tb)) c' (Kp oc)) f (Kp (PySem.W.kla_obj "<lambda>" qual (lamArgs e) (lamBody e) (lamScope e) [("_law_number", c2)] pm c' ctv))) c2 (Kp oc2)) c2 = some (Kp oc2) := upd_same
  refine ⟨fun b o q n => old b o q (fun z => by rw [z, hP] at q; cases q; exact n _ rfl), fun b n ps q => old b _ q n, ?_⟩
  refine lamG (e := e) (cl := [("_law_number", c2)]) (fv := ["_law_number"]) (ws := [.int num]) t e1 ⟨oc, vs, tq, e2, hd, hv⟩ S ?_ ?_ ?_ rfl ?_ (hb _) (hPE _) ?_
  · intro x y c h1 h2
    have h1 := PySem.mem_of_lookup h1
    have h2 := PySem.mem_of_lookup h2
    rw [List.mem_singleton] at h1 h2
    exact (congrArg Prod.fst h1).trans (congrArg Prod.fst h2).symm
  · intro x hx
    have := hfn _ (PySem.mem_of_lookup hx) rfl
    have this : x = "_law_number" := this
    subst this
    exact ⟨c2, by simp [List.lookup_cons]⟩
  · intro p hp
    rw [List.mem_singleton] at hp
    subst hp
    exact ⟨oc2, _, e3, hd2⟩
  · intro i x v h1 h2
    match i, h1, h2 with
    | 0, h1, h2 =>
      cases h1; cases h2
      exact ⟨c2, oc2, u, by simp [List.lookup_cons], e3, hd2, r2⟩
    | i + 1, h1, h2 => simp at h1
  · intro H ns Q hl q
    match ns, hl with
    | [n], _ => exact ht H n Q q
theorem ok_one (T : All P w K mg AA DD) {P1 P2 : Addr} (L : LamT K mg base DD P1 P2) : FnOk P w K mg base CX0 2 AA.law_one DD.law_one ["_law_kind", "_law_number"] (spOne P w K mg base P1) := by
  obtain ⟨c, hc, hC⟩ := L.c1
  refine fun_okR "_law_number" 1 T.F_law_one sc_one (fun vs H Q E h => ?_) rfl rfl (by rfl) (fun n => by rfl) (fun cdv A outer s H vs Q E hfd hr h => ?_)
  · obtain ⟨kd, num, rfl, _⟩ := h
    rfl
  · obtain ⟨kd, num, rfl, hk, hP, k⟩ := h
    obtain ⟨kV, doc, pm, an, ct, e⟩ := hfd
    have hcd : cdv = .ref c := by rw [e] at hc; exact hc
    subst hcd
    have fr : ∀ i, i < 3 → ∀ y ∈ (lamScope (one i)).names, y.2 = .free → y.1 = "_law_number" := by decide +kernel
    refine ⟨_, pr_if (@pt_cmpR _ _ _ _ _ _ _ _ op_eq (pv 0) pe_int (nomark _)) (pr_ret (pe_lam rfl rfl hC L.bm (fun y hy hf => ⟨s.heap.objs.size + 1, by rw [fr 0 (by decide) y hy hf]; rfl⟩)))
      (pr_if (@pt_cmpR _ _ _ _ _ _ _ _ op_eq (pv 0) pe_int (nomark _)) (pr_ret (pe_lam rfl rfl hC L.bm (fun y hy hf => ⟨s.heap.objs.size + 1, by rw [fr 1 (by decide) y hy hf]; rfl⟩))) (pr_ret (pe_lam rfl rfl hC L.bm (fun y hy hf => ⟨s.heap.objs.size + 1, by rw [fr 2 (by decide) y hy hf]; rfl⟩)))), ?_⟩
    refine ⟨_, rfl, rfl, _, rfl, ?_⟩
    have fin : ∀ (i : Nat) (hi : i < 3) (t : TE) (f c' : Addr) (oc : Obj) (vs : Array Value) (tq : Tok) (ctv : Value) (tb : Array Value), H f = none → H c' = none → f ≠ c' → oc.data = .fields vs → vs[1]? = some (.str ((PyProof.Rows.envOfC "_law_one" (defScope st_law_one) s.heap.objs.size AA.law_one (.ref c)).qual ++ "<lambda>") tq) →
        (∀ (qual : Str) (c' : Addr) (cl : List (Str × Addr)) (A : Around) (outer : List Env) (s : Shared) (H : Hp), PE (cxL P w K mg base ["_law_value", "_law_number"] qual (lamScope (one i)) f (.ref c') cl A outer s H) (lamBody (one i)) t) →
        (∀ (H : Hp) (n : Int) (Q : VK), (∀ y H', Same H H' → MV H' (g1 kd num [n]) y → Q y H') → t [some (.int n), some (.int num)] H Q) →
        ∀ (c2 : Addr) (oc2 : Obj) (u : Value) (v0 : V), cellsFrom (s.heap.objs.size + 1) (defScope st_law_one).names [] = ([("_law_number", c2)] : List (Str × Addr)) → H c2 = none →
          (upd (upd (upd H P1 (.tbl tb)) c' (Kp oc)) f (Kp (PySem.W.kla_obj "<lambda>" ((PyProof.Rows.envOfC "_law_one" (defScope st_law_one) s.heap.objs.size AA.law_one (.ref c)).qual ++ "<lambda>") (lamArgs (one i)) (lamBody (one i)) (lamScope (one i)) (clOf (cellsFrom (s.heap.objs.size + 1) (defScope st_law_one).names []) (lamScope (one i)).names []) ((mg "__name__").getD .none) c' ctv))) c2 = none →
          [V.int kd, V.int num][1]? = some v0 → oc2.data = .cell (some u) → RelV v0 u →
          Q (.ref f) (upd (upd (upd (upd H P1 (.tbl tb)) c' (Kp oc)) f (Kp (PySem.W.kla_obj "<lambda>" ((PyProof.Rows.envOfC "_law_one" (defScope st_law_one) s.heap.objs.size AA.law_one (.ref c)).qual ++ "<lambda>") (lamArgs (one i)) (lamBody (one i)) (lamScope (one i)) (clOf (cellsFrom (s.heap.objs.size + 1) (defScope st_law_one).names []) (lamScope (one i)).names []) ((mg "__name__").getD .none) c' ctv))) c2 (Kp oc2)) := by
      intro i hi t f c' oc vs tq ctv tb hHf hHc' hne hd hv hPE ht c2 oc2 u v0 hcs hHc hH'c hv0 hd2 r2
      cases hv0
      have ecl : clOf (cellsFrom (s.heap.objs.size + 1) (defScope st_law_one).names []) (lamScope (one i)).names [] = ([("_law_number", c2)] : List (Str × Addr)) := by
        rw [hcs]
        rcases (show i = 0 ∨ i = 1 ∨ i = 2 by omega) with rfl | rfl | rfl <;> rfl
      have S : LmScope ["_law_value"] ["_law_number"] (lamScope (one i)) := by
        rcases (show i = 0 ∨ i = 1 ∨ i = 2 by omega) with rfl | rfl | rfl <;> exact ⟨rfl, rfl, rfl, by decide +kernel, by decide +kernel, by decide +kernel, by decide +kernel⟩
      obtain ⟨q1, q2, q3⟩ := lam_one (P := P) (w := w) (K := K) (mg := mg) (base := base) (g := g1 kd num) t ecl hHf hHc' hne hP hHc hH'c hd hv hd2 r2 S (fr i hi) (fun cl us hl => by
        match us, hl with
        | [_], _ => rcases (show i = 0 ∨ i = 1 ∨ i = 2 by omega) with rfl | rfl | rfl <;> rfl) (fun cl => hPE _ _ cl) ht
      exact k f _ q1 q2 q3
    show if decide (V.int kd = V.int 0) = true then _ else _
    rcases (show kd = 0 ∨ kd = 1 ∨ kd = 2 by omega) with rfl | rfl | rfl
    · refine iteTb (decide_eq_true rfl) ?_
      refine ⟨#[], hP, trivial, rfl, fun f c' oc vs tq ctv h1 h2 h3 h4 h5 => fin 0 (by decide) _ f c' oc vs tq ctv _ h1 h2 h3 h4 h5 (fun qual c' cl A outer s H => (@pe_op _ _ _ _ _ _ _ _ op_mod (pv 0) (@pe_op _ _ _ _ _ _ _ _ op_add pe_int (@pe_op _ _ _ _ _ _ _ _ op_mod (pv 1) pe_int)))) ?_⟩
      intro H n Q q
      have hb := Int.emod_nonneg num (show (5 : Int) ≠ 0 by decide)
      exact ⟨_, rfl, _, rfl, _, _, rfl, rfl, (by show (0 : Int) < 5; decide), _, _, rfl, rfl, _, _, rfl, rfl, (by show (0 : Int) < 1 + num % 5; omega), q _ _ (Same.refl _) ⟨rfl, rfl⟩⟩
    · refine iteFb (decide_eq_false (fun z => by injection z with z; omega)) ?_
      refine ⟨_, rfl, rfl, _, rfl, ?_⟩
      show if decide (V.int (1 : Nat) = V.int 1) = true then _ else _
      refine iteTb (decide_eq_true rfl) ?_
      refine ⟨#[], hP, trivial, rfl, fun f c' oc vs tq ctv h1 h2 h3 h4 h5 => fin 1 (by decide) _ f c' oc vs tq ctv _ h1 h2 h3 h4 h5 (fun qual c' cl A outer s H => (@pe_tup _ _ _ _ _ (@pa_cons _ _ _ _ _ (pv 0) (@pa_cons _ _ _ _ _ (pv 1) pa_nil (by rfl)) (by rfl)))) ?_⟩
      intro H n Q q
      exact ⟨_, rfl, _, rfl, (by show 2 ≤ sizeLine; decide), fun p hp => q _ _ (same_upd hp) (mv_two upd_same)⟩
    · refine iteFb (decide_eq_false (fun z => by injection z with z; omega)) ?_
      refine ⟨_, rfl, rfl, _, rfl, ?_⟩
      show if decide (V.int (2 : Nat) = V.int 1) = true then _ else _
      refine iteFb (decide_eq_false (fun z => by injection z with z; omega)) ?_
      refine ⟨#[], hP, trivial, rfl, fun f c' oc vs tq ctv h1 h2 h3 h4 h5 => fin 2 (by decide) _ f c' oc vs tq ctv _ h1 h2 h3 h4 h5 (fun qual c' cl A outer s H => pv 1) ?_⟩
      intro H n Q q
      exact ⟨_, rfl, q _ _ (Same.refl _) ⟨rfl, rfl⟩⟩

/-! functions of two -/
noncomputable def spTwo (P : Program) (w : World) (K : PySem.W.Frag) (mg : Str → Option Value) (base : Heap) (P2 : Addr) : Sp := fun vs H Q _ => ∃ (kd : Nat), vs = [.int kd] ∧ kd < 4 ∧ H P2 = some (.tbl #[]) ∧ ∀ f H', SameT H H' → FnV P w K mg base H' f ["_law_left", "_law_right"] (g2 kd) → Q (.ref f) H'
theorem sc_two : FnScope ["_law_kind"] ["_law_kind"] (defScope st_law_two) := ⟨rfl, rfl, rfl, by decide +kernel, rfl, by decide +kernel, by decide +kernel⟩
theorem yes_ok : (PyData.str (Str.ofString "yes")).canLay0 = true := (Shd.str (by decide +kernel)).1
theorem no_ok : (PyData.str (Str.ofString "no")).canLay0 = true := (Shd.str (by decide +kernel)).1
theorem ok_two (T : All P w K mg AA DD) {P1 P2 : Addr} (L : LamT K mg base DD P1 P2) : FnOk P w K mg base CX0 2 AA.law_two DD.law_two ["_law_kind"] (spTwo P w K mg base P2) := by
  obtain ⟨c, hc, hC⟩ := L.c2
  have F := T.F_law_two
  generalize DD.law_two = fd at F hc ⊢
  obtain ⟨oc, od, kV, doc, pm, an, cdv, ct, osl, rfl, lk, hcd⟩ := F.ex
  have hc : cdv = .ref c := hc
  subst hc
  refine fn_of (k := 1) lk hcd sc_two (fun vs H Q E h => ?_) (fun A outer s H vs Q E hr h => ?_)
  · obtain ⟨kd, rfl, _⟩ := h
    rfl
  · obtain ⟨kd, rfl, hk, hP, k⟩ := h
    have fr : ∀ i, i < 4 → ∀ y ∈ (lamScope (two i)).names, y.2 ≠ .free := by decide +kernel
    refine ⟨_, PSs.nox (pss_cons (@ps_if _ _ _ _ _ _ _ _ (@pt_cmpR _ _ _ _ _ _ _ _ op_eq (pv 0) pe_int (nomark _)) (pss_one (ps_ret (pe_lam rfl rfl hC L.bm (fun y hy hf => absurd hf (fr 0 (by decide) y hy))))) pss_nil)
      (pss_cons (@ps_if _ _ _ _ _ _ _ _ (@pt_cmpR _ _ _ _ _ _ _ _ op_eq (pv 0) pe_int (nomark _)) (pss_one (ps_ret (pe_lam rfl rfl hC L.bm (fun y hy hf => absurd hf (fr 1 (by decide) y hy))))) pss_nil)
      (pss_cons (@ps_if _ _ _ _ _ _ _ _ (@pt_cmpR _ _ _ _ _ _ _ _ op_eq (pv 0) pe_int (nomark _)) (pss_one (ps_ret (pe_lam rfl rfl hC L.bm (fun y hy hf => absurd hf (fr 2 (by decide) y hy))))) pss_nil)
      (pss_one (ps_ret (pe_lam rfl rfl hC L.bm (fun y hy hf => absurd hf (fr 3 (by decide) y hy)))))))), ?_⟩
    have fin : ∀ (i : Nat) (hi : i < 4) (t : TE) (f c' : Addr) (oc : Obj) (vs : Array Value) (tq : Tok) (ctv : Value) (tb : Array Value), H f = none → H c' = none → f ≠ c' → oc.data = .fields vs → vs[1]? = some (.str ((PyProof.Rows.envOfC "_law_two" (defScope st_law_two) s.heap.objs.size AA.law_two (.ref c)).qual ++ "<lambda>") tq) →
        (∀ (qual : Str) (c' : Addr) (cl : List (Str × Addr)) (A : Around) (outer : List Env) (s : Shared) (H : Hp), PE (cxL P w K mg base ["_law_left", "_law_right"] qual (lamScope (two i)) f (.ref c') cl A outer s H) (lamBody (two i)) t) →
        (∀ (H : Hp) (a b : Int) (Q : VK), (∀ y H', Same H H' → MV H' (g2 kd [a, b]) y → Q y H') → t [some (.int a), some (.int b)] H Q) →
          Q (.ref f) (upd (upd (upd H P2 (.tbl tb)) c' (Kp oc)) f (Kp (PySem.W.kla_obj "<lambda>" ((PyProof.Rows.envOfC "_law_two" (defScope st_law_two) s.heap.objs.size AA.law_two (.ref c)).qual ++ "<lambda>") (lamArgs (two i)) (lamBody (two i)) (lamScope (two i)) (clOf (cellsFrom (s.heap.objs.size + 1) (defScope st_law_two).names []) (lamScope (two i)).names []) ((mg "__name__").getD .none) c' ctv))) := by
      intro i hi t f c' oc vs tq ctv tb hHf hHc' hne hd hv hPE ht
      have ecl : clOf (cellsFrom (s.heap.objs.size + 1) (defScope st_law_two).names []) (lamScope (two i)).names [] = [] := by
        rcases (show i = 0 ∨ i = 1 ∨ i = 2 ∨ i = 3 by omega) with rfl | rfl | rfl | rfl <;> rfl
      have S : LmScope ["_law_left", "_law_right"] [] (lamScope (two i)) := by
        rcases (show i = 0 ∨ i = 1 ∨ i = 2 ∨ i = 3 by omega) with rfl | rfl | rfl | rfl <;> exact ⟨rfl, rfl, rfl, by decide +kernel, by decide +kernel, by decide +kernel, by decide +kernel⟩
      rw [ecl]
      refine k f _ (fun b o q n => ?_) ?_
      · rw [upd_ne (ne_of_none q hHf), upd_ne (ne_of_none q hHc'), upd_ne (fun z => by rw [z, hP] at q; cases q; exact n _ rfl)]; exact q
      refine lamG (e := two i) (cl := []) (fv := []) (ws := []) t upd_same ⟨oc, vs, tq, by rw [upd_ne hne.symm, upd_same], hd, hv⟩ S (fun x y c h => by simp at h) (fun x hx => absurd rfl (fr i hi _ (PySem.mem_of_lookup hx))) (fun p hp => by cases hp) rfl (fun i x v h => by simp at h) (fun us hl => by
        match us, hl with
        | [_, _], _ => rcases (show i = 0 ∨ i = 1 ∨ i = 2 ∨ i = 3 by omega) with rfl | rfl | rfl | rfl <;> rfl) (fun A outer s H => hPE _ _ _ A outer s H) ?_
      intro H ns Q hl q
      match ns, hl with
      | [a, b], _ => exact ht H a b Q q
    refine ⟨_, rfl, rfl, _, rfl, ?_⟩
    rcases (show kd = 0 ∨ kd = 1 ∨ kd = 2 ∨ kd = 3 by omega) with rfl | rfl | rfl | rfl
    · refine iteTb (decide_eq_true rfl) ?_
      refine ⟨#[], hP, trivial, rfl, fun f c' oc vs tq ctv h1 h2 h3 h4 h5 => fin 0 (by decide) _ f c' oc vs tq ctv _ h1 h2 h3 h4 h5 (fun qual c' cl A outer s H => (@pe_op _ _ _ _ _ _ _ _ op_add (pv 0) (pv 1))) ?_⟩
      intro H a b Q q
      exact ⟨_, rfl, _, rfl, _, _, rfl, rfl, q _ _ (Same.refl _) ⟨rfl, rfl⟩⟩
    · refine iteFb (decide_eq_false (fun z => by injection z with z; omega)) ?_
      refine ⟨_, rfl, rfl, _, rfl, ?_⟩
      refine iteTb (decide_eq_true rfl) ?_
      refine ⟨#[], hP, trivial, rfl, fun f c' oc vs tq ctv h1 h2 h3 h4 h5 => fin 1 (by decide) _ f c' oc vs tq ctv _ h1 h2 h3 h4 h5 (fun qual c' cl A outer s H => (pe_callB (call_max2 rfl) rfl T.n_max bt_max (@pa_cons _ _ _ _ _ (pv 0) (@pa_cons _ _ _ _ _ (pv 1) pa_nil (by rfl)) (by rfl)))) ?_⟩
      intro H a b Q q
      exact ⟨_, rfl, _, rfl, a, b, rfl, q _ _ (Same.refl _) ⟨rfl, rfl⟩⟩
    · refine iteFb (decide_eq_false (fun z => by injection z with z; omega)) ?_
      refine ⟨_, rfl, rfl, _, rfl, ?_⟩
      refine iteFb (decide_eq_false (fun z => by injection z with z; omega)) ?_
      refine ⟨_, rfl, rfl, _, rfl, ?_⟩
      refine iteTb (decide_eq_true rfl) ?_
      refine ⟨#[], hP, trivial, rfl, fun f c' oc vs tq ctv h1 h2 h3 h4 h5 => fin 2 (by decide) _ f c' oc vs tq ctv _ h1 h2 h3 h4 h5 (fun qual c' cl A outer s H => (@pe_tup _ _ _ _ _ (@pa_cons _ _ _ _ _ (pv 0) (@pa_cons _ _ _ _ _ (pv 1) pa_nil (by rfl)) (by rfl)))) ?_⟩
      intro H a b Q q
      exact ⟨_, rfl, _, rfl, (by show 2 ≤ sizeLine; decide), fun p hp => q _ _ (same_upd hp) (mv_two upd_same)⟩
    · refine iteFb (decide_eq_false (fun z => by injection z with z; omega)) ?_
      refine ⟨_, rfl, rfl, _, rfl, ?_⟩
      refine iteFb (decide_eq_false (fun z => by injection z with z; omega)) ?_
      refine ⟨_, rfl, rfl, _, rfl, ?_⟩
      refine iteFb (decide_eq_false (fun z => by injection z with z; omega)) ?_
      refine ⟨#[], hP, trivial, rfl, fun f c' oc vs tq ctv h1 h2 h3 h4 h5 => fin 3 (by decide) _ f c' oc vs tq ctv _ h1 h2 h3 h4 h5 (fun qual c' cl A outer s H => (@pe_ix _ _ _ _ _ _ _ (ix_listK (K := K) rfl) (@pe_lst _ _ _ _ (@pa_cons _ _ _ _ _ pe_str (@pa_cons _ _ _ _ _ pe_str pa_nil (by rfl)) (by rfl))) (pe_callTy call_int1 rfl T.n_int bt_int (@pa_cons _ _ _ _ _ (@pe_cmpR _ _ _ _ _ _ _ _ op_lt (pv 0) (pv 1) (nomark _)) pa_nil (by rfl))) (fun _ _ => rfl))) ?_⟩
      intro H a b Q q
      refine ⟨(by show 2 ≤ sizeLine; decide), fun p hp => ?_⟩
      by_cases hab : a < b
      · refine ⟨_, rfl, _, rfl, _, _, rfl, rfl, .inr ⟨_, rfl, p, _, _, V.str (Str.ofString "yes"), rfl, rfl, SqL.of upd_same, ?_, q _ _ (same_upd hp) ?_⟩⟩
        · rw [decide_eq_true hab]; exact atI_nat (j := 1) rfl
        · show MV _ (.inl (.inr (if a < b then Str.ofString "yes" else Str.ofString "no"))) _
          rw [if_pos hab]; exact ⟨yes_ok, rfl⟩
      · refine ⟨_, rfl, _, rfl, _, _, rfl, rfl, .inr ⟨_, rfl, p, _, _, V.str (Str.ofString "no"), rfl, rfl, SqL.of upd_same, ?_, q _ _ (same_upd hp) ?_⟩⟩
        · rw [decide_eq_false hab]; exact atI_nat (j := 0) rfl
        · show MV _ (.inl (.inr (if a < b then Str.ofString "yes" else Str.ofString "no"))) _
          rw [if_neg hab]; exact ⟨no_ok, rfl⟩
end
section
variable {P : Program} {w : World} {K : PySem.W.Frag} {mg : Str → Option Value} {base : Heap} {AA : Adr} {DD : Fds}
/-! mapped, paired -/
noncomputable def mapP (g : List Int → MKey) (ps : List (Pt MKey)) : List (Pt MKey) := ps.map fun p => (p.1, match p.2 with | .inl (.inl n) => g [n] | _ => .inr [])
noncomputable def spMapped (P : Program) (w : World) (K : PySem.W.Frag) (mg : Str → Option Value) (base : Heap) : Sp := fun vs H Q _ => ∃ (l f : Addr) (R : List (Pt MKey)) (g : List Int → MKey), vs = [.ref l, .ref f] ∧ PAt H l R ∧ AllI R ∧ Form R ∧ R.length < 64 ∧ FnV P w K mg base H f ["_law_value"] g ∧
  ∀ p H' R', H p = none → Same H H' → PAt H' p R' → Form R' → (∀ s k, Has R' s k ↔ Has (mapP g R) s k) → R'.length ≤ R.length → Q (.ref p) H'
theorem mapP_has {g : List Int → MKey} {R : List (Pt MKey)} (a : AllI R) {s : Nat} {k : MKey} : Has (mapP g R) s k ↔ ∃ n : Int, Has R s (.inl (.inl n)) ∧ k = g [n] := by
  constructor
  · rintro ⟨q, hq, e, hb⟩
    obtain ⟨p, hp, rfl⟩ := List.mem_map.mp hq
    obtain ⟨n, hn⟩ := a p hp
    refine ⟨n, ⟨p, hp, hn, hb⟩, ?_⟩
    rw [← e]
    show (match p.2 with | .inl (.inl n) => g [n] | _ => .inr []) = g [n]
    rw [hn]
  · rintro ⟨n, ⟨p, hp, e, hb⟩, rfl⟩
    refine ⟨_, List.mem_map.mpr ⟨p, hp, rfl⟩, ?_, hb⟩
    show (match p.2 with | .inl (.inl n) => g [n] | _ => .inr []) = g [n]
    rw [e]
theorem mapP_fnl {g : List Int → MKey} {R : List (Pt MKey)} (a : AllI R) (f : Fnl R) : Fnl (mapP g R) := fun s k k' h h' => by
  obtain ⟨n, h1, rfl⟩ := (mapP_has a).mp h
  obtain ⟨n', h2, rfl⟩ := (mapP_has a).mp h'
  have := f s _ _ h1 h2
  cases this
  rfl
noncomputable abbrev N_mapped : List Str := ["parts", "f"]
theorem sc_mapped : FnScope N_mapped ["parts", "f"] (defScope st_mapped) := ⟨rfl, rfl, rfl, by decide +kernel, rfl, by decide +kernel, by decide +kernel⟩
theorem ok_mapped (T : All P w K mg AA DD) : FnOk P w K mg base CX0 6 AA.mapped DD.mapped ["parts", "f"] (spMapped P w K mg base) := by
  have GF := ok_oneform (base := base) T
  refine T.F_mapped.ok sc_mapped (fun vs H Q E h => ?_) (fun cdv A outer s H vs Q E hr h => ?_)
  · obtain ⟨l, f, R, g, rfl, _⟩ := h
    rfl
  · obtain ⟨l, f, R, g, rfl, hP, hA, hF, hl, hV, k⟩ := h
    have nd := sc_mapped.nd
    have hr5 : Room 5 _ := hr
    have hr2 : Room 2 _ := hr5.mono (by decide)
    refine ⟨_, (@pss_one _ _ _ (@ps_ret _ _ _ _ (pe_call GF hr5 rfl T.m_one_form T.k_one_form T.b_one_form .nil pass0 (@pa_cons _ _ _ _ _ (pe_comp2 (xs := ["mask", "value"]) (defScope st_mapped) N_mapped ["f"] [1] rfl (by exact ⟨rfl, rfl, by decide +kernel, by decide +kernel, by decide +kernel, by decide +kernel, by decide +kernel, rfl, by decide +kernel⟩) rfl rfl (pi_list (pv 0)) (fun _ _ _ _ => (pg_tupK (K := K) (n := 2) rfl rfl (pgs_cons (pg_name (i := 0) (show (["mask", "value", "f"] : List Str).Nodup by decide +kernel) rfl (Or.inl rfl)) (pgs_cons (pg_name (i := 1) (show (["mask", "value", "f"] : List Str).Nodup by decide +kernel) rfl (Or.inl rfl)) pgs_nil)))) (fun _ _ _ _ => pif_nil) (fun _ _ _ _ => (@pe_tup _ _ _ _ _ (@pa_cons _ _ _ _ _ (pv 0) (@pa_cons _ _ _ _ _ (@pe_callV _ P w K mg base 2 ["_law_value"] _ _ _ _ _ _ _ rfl rfl rfl rfl rfl hr2 (pv 2) (@pa_cons _ _ _ _ _ (pv 1) pa_nil (by rfl)) (by rfl) (by rfl)) pa_nil (by rfl)) (by rfl))))) pa_nil (by rfl))))), ?_⟩
    obtain ⟨ts, hts, htl, hat⟩ := hP.ex
    obtain ⟨oc, od, fd, sl, sp, v1, v2, v3, v4⟩ := hV
    refine ⟨_, rfl, l, rfl, ⟨_, SqL.of hts⟩, ?_⟩
    refine comp2_list (K := K) (a := l) (xs := ts.map V.ref) (fun i ys H' => Same H H' ∧ i ≤ 64 ∧ ∃ us : List Addr, ys = us.map V.ref ∧ us.length = i ∧ ∀ (j : Nat) (t : Addr) (q : Pt MKey), us[j]? = some t → (mapP g R)[j]? = some q → ∃ y, H' t = some (.tup [.int ((q.1 : Nat) : Int), y]) ∧ MV H' q.2 y)
      ⟨Same.refl _, Nat.zero_le _, [], rfl, rfl, fun j t q h => by simp at h⟩ (fun i ys H' _ hsl55 => by obtain ⟨e, _⟩ := hsl55; exact SqL.of (e _ _ hts)) ?_ ?_
    · rintro i x ys H1 hx ⟨sm, _, us, rfl, hul, hus⟩
      have hi : i < ts.length := by
        have := (List.getElem?_eq_some_iff.mp hx).1
        rw [List.length_map] at this; exact this
      have hip : i < R.length := by omega
      have ex : x = V.ref ts[i] := by rw [List.getElem?_map, List.getElem?_eq_getElem hi] at hx; exact (Option.some.inj hx).symm
      subst ex
      obtain ⟨y, htu, hmv⟩ := hat i ts[i] R[i] (List.getElem?_eq_getElem hi) (List.getElem?_eq_getElem hip)
      obtain ⟨n, hn⟩ := hA R[i] (List.getElem_mem hip)
      rw [hn] at hmv
      obtain ⟨_, rfl⟩ := hmv
      have hT1 := sm _ _ htu
      intro os hos
      obtain ⟨a, b, rfl⟩ : ∃ a b, os = [a, b] := by
        match os, hos with
        | [a, b], _ => exact ⟨a, b, rfl⟩
      refine ⟨ts[i], _, rfl, SqT.of hT1, rfl, _, _, rfl, _, _, rfl, rfl, ⟨[_, _], rfl, rfl⟩, ?_⟩
      refine tYes_ok ?_
      rw [if_pos rfl]
      refine ⟨_, rfl, _, rfl, f, oc, od, fd, sl, rfl, sm _ _ v1, _, rfl, sm _ _ v1, sp, v2, v3, v4 H1 [n] _ (Same.t sm) rfl fun y2 H2 s2 m2 => ⟨(by show 2 ≤ sizeLine; decide), fun t2 ht2 => ?_⟩⟩
      have s5 := s2.trans (same_upd (o := .tup [V.int ((R[i].1 : Nat) : Int), y2]) ht2)
      refine ⟨by rw [List.length_map, hul]; exact small1000 (by omega), sm.trans s5, by omega, us ++ [t2], by simp, by simp [hul], fun j t' q e1 e2 => ?_⟩
      by_cases hj : j < us.length
      · rw [List.getElem?_append_left hj] at e1
        obtain ⟨y', h1, h2⟩ := hus j t' q e1 e2
        exact ⟨y', s5 _ _ h1, mv_same h2 s5⟩
      · have hjl := (List.getElem?_eq_some_iff.mp e1).1
        rw [List.length_append, List.length_singleton] at hjl
        have ej : j = us.length := by omega
        subst ej
        rw [List.getElem?_append_right (Nat.le_refl _), Nat.sub_self] at e1
        have q1 : t2 = t' := by simpa using e1
        have q2 : (R[i].1, g [n]) = q := by
          unfold mapP at e2
          rw [hul, List.getElem?_map, List.getElem?_eq_getElem hip] at e2
          have e2 := Option.some.inj e2
          rw [← e2]
          show _ = (R[i].1, match R[i].2 with | .inl (.inl n) => g [n] | _ => .inr [])
          rw [hn]
        subst q1 q2
        exact ⟨y2, upd_same, mv_same m2 (same_upd ht2)⟩
    · rintro ys H1 ⟨sm, _, us, rfl, hul, hus⟩ p hp
      rw [List.length_map, htl] at hul
      have sp' := same_upd (o := .lst (us.map V.ref)) hp
      have lm : (mapP g R).length = R.length := by simp [mapP]
      refine ⟨p, mapP g R, rfl, ⟨us, upd_same, by omega, fun i t q a b => by obtain ⟨y, u, v⟩ := hus i t q a b; exact ⟨y, sp' _ _ u, mv_same v sp'⟩⟩, by omega, mapP_fnl hA hF.fn, fun q hq => ?_, fun p2 H2 R2 hp2 s2 hR2 hF2 hH2 hl2 => ?_⟩
      · obtain ⟨r, hr, rfl⟩ := List.mem_map.mp hq
        exact hF.lt r hr
      · exact k p2 H2 R2 (none_of (sm.trans sp') hp2) ((sm.trans sp').trans s2) hR2 hF2 hH2 (by omega)
noncomputable def iv : MKey → Int
  | .inl (.inl n) => n
  | _ => 0
noncomputable def prP (g : List Int → MKey) (p q : Pt MKey) : Pt MKey := (q.1, g [iv p.2, iv q.2])
noncomputable def pairP (g : List Int → MKey) (R1 R2 : List (Pt MKey)) : List (Pt MKey) := R1.flatMap fun p => (keptP R2 p.1).map (prP g p)
theorem pairP_snoc (g : List Int → MKey) (R1 R2 : List (Pt MKey)) (p : Pt MKey) : pairP g (R1 ++ [p]) R2 = pairP g R1 R2 ++ (keptP R2 p.1).map (prP g p) := by
  unfold pairP
  rw [List.flatMap_append]
  simp
theorem pairP_len (g : List Int → MKey) (R2 : List (Pt MKey)) : ∀ R1 : List (Pt MKey), (pairP g R1 R2).length ≤ R1.length * R2.length
  | [] => by simp [pairP]
  | p :: R1 => by
    have h1 := pairP_len g R2 R1
    have h2 := keptP_len R2 p.1
    have e : pairP g (p :: R1) R2 = (keptP R2 p.1).map (prP g p) ++ pairP g R1 R2 := rfl
    rw [e, List.length_append, List.length_map, List.length_cons, Nat.add_mul, Nat.one_mul]
    omega
theorem pairP_has {g : List Int → MKey} {R1 R2 : List (Pt MKey)} (a1 : AllI R1) (a2 : AllI R2) {s : Nat} {k : MKey} : Has (pairP g R1 R2) s k ↔ ∃ a b : Int, Has R1 s (.inl (.inl a)) ∧ Has R2 s (.inl (.inl b)) ∧ k = g [a, b] := by
  constructor
  · rintro ⟨q, hq, e, hb⟩
    obtain ⟨p, hp, hq⟩ := List.mem_flatMap.mp hq
    obtain ⟨r, hr, rfl⟩ := List.mem_map.mp hq
    have hb : r.1.testBit s = true := hb
    obtain ⟨h1, h2⟩ := keptP_has.mp ⟨r, hr, rfl, hb⟩
    obtain ⟨n, hn⟩ := a1 p hp
    obtain ⟨x, hx, ex, bx⟩ := h1
    obtain ⟨n2, hn2⟩ := a2 x hx
    refine ⟨n, n2, ⟨p, hp, hn, h2⟩, ⟨x, hx, hn2, bx⟩, ?_⟩
    rw [← e]
    show g [iv p.2, iv r.2] = _
    rw [hn, ← ex, hn2]; rfl
  · rintro ⟨a, b, ⟨p, hp, ep, hb⟩, h2, rfl⟩
    obtain ⟨r, hr, er, hrb⟩ := (keptP_has (m := p.1)).mpr ⟨h2, hb⟩
    refine ⟨prP g p r, List.mem_flatMap.mpr ⟨p, hp, List.mem_map.mpr ⟨r, hr, rfl⟩⟩, ?_, hrb⟩
    show g [iv p.2, iv r.2] = _
    rw [ep, er]; rfl
theorem pairP_fnl {g : List Int → MKey} {R1 R2 : List (Pt MKey)} (a1 : AllI R1) (a2 : AllI R2) (f1 : Fnl R1) (f2 : Fnl R2) : Fnl (pairP g R1 R2) := fun s k k' h h' => by
  obtain ⟨a, b, h1, h2, rfl⟩ := (pairP_has a1 a2).mp h
  obtain ⟨a', b', h1', h2', rfl⟩ := (pairP_has a1 a2).mp h'
  cases f1 s _ _ h1 h1'
  cases f2 s _ _ h2 h2'
  rfl
theorem pairP_lt {g : List Int → MKey} {R1 R2 : List (Pt MKey)} (h : ∀ p ∈ R2, p.1 < 2 ^ 64) : ∀ p ∈ pairP g R1 R2, p.1 < 2 ^ 64 := by
  intro q hq
  obtain ⟨p, hp, hq⟩ := List.mem_flatMap.mp hq
  obtain ⟨r, hr, rfl⟩ := List.mem_map.mp hq
  exact keptP_lt h r hr
theorem PAt.push {H : Hp} {pp t : Addr} {ps : List (Pt MKey)} {xs : List V} {m : Nat} {k : MKey} {y : V} (hP : PAt H pp ps) (hx : H pp = some (.lst xs)) (ht : H t = some (.tup [.int m, y])) (hm : MV H k y) : PAt (upd H pp (.lst (xs ++ [.ref t]))) pp (ps ++ [(m, k)]) := by
  obtain ⟨ts, hts, htl, hat⟩ := hP.ex
  rw [hx] at hts; cases hts
  have tup_ne : ∀ {b : Addr} {ys : List V}, H b = some (.tup ys) → b ≠ pp := fun e2 z => by rw [z, hx] at e2; cases e2
  have mvk : ∀ {k : MKey} {x : V}, MV H k x → MV (upd H pp (.lst (ts.map V.ref ++ [.ref t]))) k x := fun mv => mv.mono fun b ys e => by rw [upd_ne (tup_ne e)]; exact e
  refine ⟨ts ++ [t], by rw [upd_same, List.map_append]; rfl, by simp [htl], fun j t' p e1 e2 => ?_⟩
  by_cases hj : j < ts.length
  · rw [List.getElem?_append_left hj] at e1
    rw [List.getElem?_append_left (by omega)] at e2
    obtain ⟨y', h1, h2⟩ := hat j t' p e1 e2
    exact ⟨y', by rw [upd_ne (tup_ne h1)]; exact h1, mvk h2⟩
  · have hjl := (List.getElem?_eq_some_iff.mp e1).1
    rw [List.length_append, List.length_singleton] at hjl
    have ej : j = ts.length := by omega
    subst ej
    rw [List.getElem?_append_right (Nat.le_refl _), Nat.sub_self] at e1
    rw [htl, List.getElem?_append_right (Nat.le_refl _), Nat.sub_self] at e2
    have q1 : t = t' := by simpa using e1
    have q2 : (m, k) = p := by simpa using e2
    subst q1 q2
    exact ⟨y, by rw [upd_ne (tup_ne ht)]; exact ht, mvk hm⟩
/-- all stays but what stands at pp -/
noncomputable def SameX (pp : Addr) (H H' : Hp) : Prop := ∀ b o, H b = some o → b ≠ pp → H' b = some o
noncomputable def spPaired (P : Program) (w : World) (K : PySem.W.Frag) (mg : Str → Option Value) (base : Heap) : Sp := fun vs H Q _ => ∃ (l1 l2 f : Addr) (R1 R2 : List (Pt MKey)) (g : List Int → MKey), vs = [.ref l1, .ref l2, .ref f] ∧ PAt H l1 R1 ∧ PAt H l2 R2 ∧ AllI R1 ∧ AllI R2 ∧ Form R1 ∧ Form R2 ∧ R1.length < 64 ∧ R2.length < 64 ∧ R1.length * R2.length < 64 ∧ FnV P w K mg base H f ["_law_left", "_law_right"] g ∧
  ∀ p H' R', H p = none → Same H H' → PAt H' p R' → Form R' → (∀ s k, Has R' s k ↔ Has (pairP g R1 R2) s k) → R'.length < 64 → Q (.ref p) H'
noncomputable abbrev N_paired : List Str := ["left", "right", "f", "pairs", "mask", "one", "here", "other"]
theorem sc_paired : FnScope N_paired ["left", "right", "f"] (defScope st_paired) := ⟨rfl, rfl, rfl, by decide +kernel, rfl, by decide +kernel, by decide +kernel⟩
theorem ok_paired (T : All P w K mg AA DD) : FnOk P w K mg base CX0 6 AA.paired DD.paired ["left", "right", "f"] (spPaired P w K mg base) := by
  have GF := ok_oneform (base := base) T
  have GB := ok_kept (base := base) T
  refine T.F_paired.ok sc_paired (fun vs H Q E h => ?_) (fun cdv A outer s H vs Q E hr h => ?_)
  · obtain ⟨l1, l2, f, R1, R2, g, rfl, _⟩ := h
    rfl
  · obtain ⟨l1, l2, f, R1, R2, g, rfl, hP1, hP2, hA1, hA2, hF1, hF2, hl1, hl2, hl12, hV, k⟩ := h
    have nd := sc_paired.nd
    have hr5 : Room 5 _ := hr
    have hr2 : Room 2 _ := hr5.mono (by decide)
    have hr1 : Room 1 _ := hr5.mono (by decide)
    refine ⟨_, (@pss_cons _ _ _ _ _ (@ps_set _ _ 3 _ _ _ _ nd rfl (Or.inl rfl) (@pe_lst _ _ _ _ pa_nil) (by rfl) (by first | exact .inl rfl | exact .inr rfl | assumption)) (@pss_cons _ _ _ _ _ (@ps_for _ _ _ _ _ _ _ _ PassesOwn.never rfl (pi_list (pv 0)) (pg_tup rfl (pgs_cons (pg_name (i := 4) nd rfl (Or.inl rfl)) (pgs_cons (pg_name (i := 5) nd rfl (Or.inl rfl)) pgs_nil))) (@pss_one _ _ _ (@ps_for _ _ _ _ _ _ _ _ PassesOwn.never rfl (pi_list (pe_call GB hr1 rfl T.m_kept_pairs T.k_kept_pairs T.b_kept_pairs .nil pass0 (@pa_cons _ _ _ _ _ (pv 1) (@pa_cons _ _ _ _ _ (pv 4) pa_nil (by rfl)) (by rfl)))) (pg_tup rfl (pgs_cons (pg_name (i := 6) nd rfl (Or.inl rfl)) (pgs_cons (pg_name (i := 7) nd rfl (Or.inl rfl)) pgs_nil))) (@pss_one _ _ _ (@ps_expr _ _ _ _ (pe_bm PySem.F.plainAttrs_list PySem.F.slot_list_append PySem.F.type_list_append mt_append (pv 3) (@pa_cons _ _ _ _ _ (@pe_tup _ _ _ _ _ (@pa_cons _ _ _ _ _ (pv 6) (@pa_cons _ _ _ _ _ (@pe_callV _ P w K mg base 2 ["_law_left", "_law_right"] _ _ _ _ _ _ _ rfl rfl rfl rfl rfl hr2 (pv 2) (@pa_cons _ _ _ _ _ (pv 5) (@pa_cons _ _ _ _ _ (pv 7) pa_nil (by rfl)) (by rfl)) (by rfl) (by rfl)) pa_nil (by rfl)) (by rfl))) pa_nil (by rfl))) (by rfl))) (by intro _; rfl))) (by intro _; rfl)) (@pss_one _ _ _ (@ps_ret _ _ _ _ (pe_call GF hr5 rfl T.m_one_form T.k_one_form T.b_one_form .nil pass0 (@pa_cons _ _ _ _ _ (pv 3) pa_nil (by rfl))))))), ?_⟩
    obtain ⟨ts, hts, htl, hat⟩ := hP1.ex
    obtain ⟨oc, od, fd, sl, sp, v1, v2, v3, v4⟩ := hV
    refine ⟨Nat.zero_le _, fun pp hpp => ?_⟩
    dsimp only [gName]
    refine cut_for (fun σ' H' => ∃ s4 s5 s6 s7 : Option V, Same H H' ∧ PAt H' pp (pairP g R1 R2) ∧ σ' = [some (.ref l1), some (.ref l2), some (.ref f), some (.ref pp), s4, s5, s6, s7]) (fun R hRR => ?_) ?_
    · refine ⟨_, rfl, l1, rfl, ⟨_, SqL.of ((same_upd hpp) _ _ hts)⟩, ?_⟩
      refine for_list (K := K) (a := l1) (xs := ts.map V.ref) (fun i σ' H' => ∃ s4 s5 s6 s7 : Option V, Same H H' ∧ PAt H' pp (pairP g (R1.take i) R2) ∧ i ≤ 64 ∧ σ' = [some (.ref l1), some (.ref l2), some (.ref f), some (.ref pp), s4, s5, s6, s7])
        ⟨none, none, none, none, same_upd hpp, ⟨[], upd_same, rfl, fun i t p h => by simp at h⟩, Nat.zero_le _, rfl⟩ (fun i σ' H' _ hsl56 => by obtain ⟨_, _, _, _, e, _⟩ := hsl56; exact SqL.of (e _ _ hts)) ?_ ?_
      · rintro i x σ' H1 hx ⟨s4, s5, s6, s7, sm, hpa, _, rfl⟩
        have hi : i < ts.length := by
          have := (List.getElem?_eq_some_iff.mp hx).1
          rw [List.length_map] at this; exact this
        have hip : i < R1.length := by omega
        have ex : x = V.ref ts[i] := by rw [List.getElem?_map, List.getElem?_eq_getElem hi] at hx; exact (Option.some.inj hx).symm
        subst ex
        obtain ⟨y, htu, hmv⟩ := hat i ts[i] R1[i] (List.getElem?_eq_getElem hi) (List.getElem?_eq_getElem hip)
        obtain ⟨n, hn⟩ := hA1 R1[i] (List.getElem_mem hip)
        rw [hn] at hmv
        obtain ⟨_, rfl⟩ := hmv
        refine ⟨ts[i], _, rfl, SqT.of (sm _ _ htu), rfl, _, _, rfl, _, _, rfl, rfl, ?_⟩
        dsimp only [gName]
        refine ⟨_, rfl, _, rfl, l2, R2, R1[i].1, rfl, hP2.same sm, hl2, fun pk Hk hpk sk hK => ?_⟩
        have hpa2 := hpa.same sk
        have smk := sm.trans sk
        obtain ⟨ks, hks, hkl, hka⟩ := hK.ex
        obtain ⟨xs0, hxs0, hxl0, _⟩ := hpa2.ex
        have npk : pk ≠ pp := fun z => by obtain ⟨zs, hz, _⟩ := hpa.ex; rw [z, hz] at hpk; cases hpk
        refine ⟨pk, rfl, ⟨_, SqL.of hks⟩, ?_⟩
        have lk := keptP_len R2 R1[i].1
        have lp := pairP_len g R2 (R1.take i)
        have lt : (R1.take i).length ≤ i := by rw [List.length_take]; omega
        have hm1 : (R1.take i).length * R2.length + (keptP R2 R1[i].1).length < 64 := by
          have q1 : (R1.take i).length * R2.length ≤ i * R2.length := Nat.mul_le_mul_right _ lt
          have q2 : i * R2.length + R2.length = (i + 1) * R2.length := by rw [Nat.add_mul, Nat.one_mul]
          have q3 : (i + 1) * R2.length ≤ R1.length * R2.length := Nat.mul_le_mul_right _ hip
          omega
        refine for_list (K := K) (a := pk) (xs := ks.map V.ref) (fun j σ' H' => ∃ s6 s7 : Option V, Same H H' ∧ SameX pp Hk H' ∧ PAt H' pp (pairP g (R1.take i) R2 ++ ((keptP R2 R1[i].1).take j).map (prP g R1[i])) ∧ j ≤ 64 ∧ σ' = [some (.ref l1), some (.ref l2), some (.ref f), some (.ref pp), some (.int ((R1[i].1 : Nat) : Int)), some (.int n), s6, s7])
          ⟨s6, s7, smk, fun b o e _ => e, by simpa using hpa2, Nat.zero_le _, rfl⟩ (fun j σ' H' _ hsl57 => by obtain ⟨_, _, _, e, _⟩ := hsl57; exact SqL.of (e _ _ hks npk)) ?_ ?_
        · rintro j x σ' H2 hx ⟨s6, s7, sm2, sx2, hpa3, _, rfl⟩
          have hj : j < ks.length := by
            have := (List.getElem?_eq_some_iff.mp hx).1
            rw [List.length_map] at this; exact this
          have hjp : j < (keptP R2 R1[i].1).length := by omega
          have ex : x = V.ref ks[j] := by rw [List.getElem?_map, List.getElem?_eq_getElem hj] at hx; exact (Option.some.inj hx).symm
          subst ex
          obtain ⟨y2, hku, hkv⟩ := hka j ks[j] (keptP R2 R1[i].1)[j] (List.getElem?_eq_getElem hj) (List.getElem?_eq_getElem hjp)
          obtain ⟨r, hr', er⟩ := List.mem_map.mp (List.getElem_mem hjp)
          obtain ⟨n2, hn2⟩ := hA2 r (List.mem_filter.mp hr').1
          have e2 : (keptP R2 R1[i].1)[j].2 = .inl (.inl n2) := by rw [← er]; exact hn2
          rw [e2] at hkv
          obtain ⟨_, rfl⟩ := hkv
          have nkt : ks[j] ≠ pp := fun z => by rw [z, hxs0] at hku; cases hku
          refine ⟨ks[j], _, rfl, SqT.of (sx2 _ _ hku nkt), rfl, _, _, rfl, _, _, rfl, rfl, ?_⟩
          dsimp only [gName]
          obtain ⟨xs, hxs, hxl, _⟩ := hpa3.ex
          have hl3 : (pairP g (R1.take i) R2 ++ ((keptP R2 R1[i].1).take j).map (prP g R1[i])).length < 64 := by
            rw [List.length_append, List.length_map, List.length_take]; omega
          refine ⟨_, rfl, .inl ⟨rfl, _, SqL.of hxs⟩, _, rfl, _, rfl, f, oc, od, fd, sl, rfl, sm2 _ _ v1, _, rfl, _, rfl, sm2 _ _ v1, sp, v2, v3, v4 H2 [n, n2] _ (Same.t sm2) rfl fun y3 H3 s3 m3 => ⟨(by show 2 ≤ sizeLine; decide), fun t ht => ?_⟩⟩
          have s4' := s3.trans (same_upd (o := .tup [V.int (((keptP R2 R1[i].1)[j].1 : Nat) : Int), y3]) ht)
          refine ⟨pp, _, _, rfl, rfl, s4' _ _ hxs, (by rw [List.length_map, hxl]; exact small1000 (by omega)), ?_⟩
          refine ⟨_, _, fun b u e => ?_, fun b u e nb => ?_, ?_, by omega, rfl⟩
          · rw [upd_ne (ne_of_none e hpp)]; exact s4' _ _ (sm2 _ _ e)
          · rw [upd_ne nb]; exact s4' _ _ (sx2 _ _ e nb)
          · have q := (hpa3.same s4').push (s4' _ _ hxs) (upd_same (H := H3) (a := t) (o := .tup [V.int (((keptP R2 R1[i].1)[j].1 : Nat) : Int), y3])) (mv_same m3 (same_upd ht))
            rw [List.take_succ_eq_append_getElem hjp, List.map_append, ← List.append_assoc]
            have e3 : [(keptP R2 R1[i].1)[j]].map (prP g R1[i]) = [((keptP R2 R1[i].1)[j].1, g [n, n2])] := by
              show [((keptP R2 R1[i].1)[j].1, g [iv R1[i].2, iv (keptP R2 R1[i].1)[j].2])] = _
              rw [hn, e2]; rfl
            rw [e3]
            exact q
        · rintro σ' H2 ⟨s6, s7, sm2, sx2, hpa3, _, rfl⟩
          rw [List.length_map, hkl, List.take_length, ← pairP_snoc, ← List.take_succ_eq_append_getElem hip] at hpa3
          exact ⟨_, _, s6, s7, sm2, hpa3, by omega, rfl⟩
      · rintro σ' H1 ⟨s4, s5, s6, s7, sm, hpa, _, rfl⟩
        rw [List.length_map, htl, List.take_length] at hpa
        exact hRR _ _ ⟨s4, s5, s6, s7, sm, hpa, rfl⟩
    · rintro σ' H1 ⟨s4, s5, s6, s7, sm, hpa, rfl⟩
      have lp := pairP_len g R2 R1
      refine ⟨_, rfl, pp, pairP g R1 R2, rfl, hpa, by omega, pairP_fnl hA1 hA2 hF1.fn hF2.fn, pairP_lt hF2.lt, fun p2 H2 R' hp2 s2 hR2 hF' hH' hl' => ?_⟩
      exact k p2 H2 R' (none_of sm hp2) (sm.trans s2) hR2 hF' hH' (by omega)
end
section
variable {P : Program} {w : World} {K : PySem.W.Frag} {mg : Str → Option Value} {base : Heap} {AA : Adr} {DD : Fds}
noncomputable def spLaw (K : PySem.W.Frag) (P1 P2 : Addr) : Sp := fun vs H Q _ => ∃ (a : Addr) (ns : List Int), vs = [.ref a] ∧ SqL K H a (ns.map V.int) ∧ ns.length ≤ 63 ∧ H P1 = some (.tbl #[]) ∧ H P2 = some (.tbl #[]) ∧ ∀ H', Q (.bl true) H'
theorem atL_int {R : List (Pt MKey)} (a : AllI R) {s : Nat} {k : MKey} (h : k ∈ atL R s) : ∃ n : Int, k = .inl (.inl n) := by
  obtain ⟨p, hp, rfl⟩ := List.mem_map.mp h
  exact a p (List.mem_filter.mp hp).1
theorem at_map {g : List Int → MKey} {R R' : List (Pt MKey)} (F : Form R) (F' : Form R') (a : AllI R) (h : ∀ s k, Has R' s k ↔ Has (mapP g R) s k) (s : Nat) : atL R' s = (atL R s).map fun k => g [iv k] := by
  rw [atL_form F, atL_form F']
  cases q : atP R s with
  | some k =>
    have hk := atP_has q
    obtain ⟨p, hp, e, _⟩ := id hk
    obtain ⟨n, hn⟩ := a p hp
    have ek : k = .inl (.inl n) := e.symm.trans hn
    subst ek
    rw [atP_of F'.fn ((h s (g [n])).mpr ((mapP_has a).mpr ⟨n, hk, rfl⟩))]
    rfl
  | none =>
    cases q2 : atP R' s with
    | none => rfl
    | some k =>
      obtain ⟨n, hn, _⟩ := (mapP_has a).mp ((h s k).mp (atP_has q2))
      rw [atP_of F.fn hn] at q; cases q
noncomputable def dueF (g : List Int → MKey) (l r : List MKey) : List MKey := match l, r with
  | a :: _, b :: _ => [g [iv a, iv b]]
  | _, _ => []
theorem at_pair {g : List Int → MKey} {R1 R2 R' : List (Pt MKey)} (F1 : Form R1) (F2 : Form R2) (F' : Form R') (a1 : AllI R1) (a2 : AllI R2) (h : ∀ s k, Has R' s k ↔ Has (pairP g R1 R2) s k) (s : Nat) : atL R' s = dueF g (atL R1 s) (atL R2 s) := by
  rw [atL_form F1, atL_form F2, atL_form F']
  have no : (∀ a b : Int, Has R1 s (.inl (.inl a)) → Has R2 s (.inl (.inl b)) → False) → atP R' s = none := fun hn => by
    cases q2 : atP R' s with
    | none => rfl
    | some k =>
      obtain ⟨x, y, h1, h2, _⟩ := (pairP_has a1 a2).mp ((h s k).mp (atP_has q2))
      exact (hn x y h1 h2).elim
  cases q1 : atP R1 s with
  | none => rw [no fun x y h1 _ => by rw [atP_of F1.fn h1] at q1; cases q1]; rfl
  | some k1 =>
    cases q2 : atP R2 s with
    | none => rw [no fun x y _ h2 => by rw [atP_of F2.fn h2] at q2; cases q2]; rfl
    | some k2 =>
      have hk1 := atP_has q1
      have hk2 := atP_has q2
      obtain ⟨p1, hp1, e1, _⟩ := id hk1
      obtain ⟨n1, hn1⟩ := a1 p1 hp1
      obtain ⟨p2, hp2, e2, _⟩ := id hk2
      obtain ⟨n2, hn2⟩ := a2 p2 hp2
      have ek1 : k1 = .inl (.inl n1) := e1.symm.trans hn1
      have ek2 : k2 = .inl (.inl n2) := e2.symm.trans hn2
      subst ek1 ek2
      rw [atP_of F'.fn ((h s (g [n1, n2])).mpr ((pairP_has a1 a2).mpr ⟨n1, n2, hk1, hk2, rfl⟩))]
      rfl
noncomputable abbrev N_law : List Str := ["_law_script", "_law_cut", "_law_first", "_law_second", "_law_kind", "_law_one_here", "_law_two_here", "_law_handed", "_law_single", "_law_both", "_law_s", "_law_left", "_law_right", "_law_due"]
theorem sc_law : FnScope N_law ["_law_script"] (defScope st_law) := ⟨rfl, rfl, rfl, by decide +kernel, rfl, by decide +kernel, by decide +kernel⟩
theorem ok_law (T : All P w K mg AA DD) {P1 P2 : Addr} (L : LamT K mg base DD P1 P2) {f : Addr} {fd : FuncData} (F : Fun K "law" "law" st_law f fd) : FnOk P w K mg base CX0 9 f fd ["_law_script"] (spLaw K P1 P2) := by
  have GE := ok_cellat (base := base) T
  have GP := ok_parts (base := base) T
  have GM := ok_mapped (base := base) T
  have GQ := ok_paired (base := base) T
  have GF := ok_oneform (base := base) T
  have GD := ok_at (base := base) T
  have G1 := ok_one (base := base) T L
  have G2 := ok_two (base := base) T L
  refine F.ok sc_law (fun vs H Q E h => ?_) (fun cdv A outer s H vs Q E hr h => ?_)
  · obtain ⟨a, ns, rfl, _⟩ := h
    rfl
  · obtain ⟨a, ns, rfl, hS, hlen, hT1, hT2, k⟩ := h
    have nd := sc_law.nd
    have hu := hr.units
    have hr1 : Room 1 _ := hr.mono (by decide)
    have hr2 : Room 2 _ := hr.mono (by decide)
    have hr5 : Room 5 _ := hr.mono (by decide)
    have hr6 : Room 6 _ := hr.mono (by decide)
    refine ⟨_, (@pss_cons _ _ _ _ _ (@ps_set _ _ 1 _ _ _ _ nd rfl (Or.inl rfl) (@pe_op _ _ _ _ _ _ _ _ op_add pe_int (@pe_op _ _ _ _ _ _ _ _ op_mod (pe_call GE hr1 rfl T.m_law_cell_at T.k_law_cell_at T.b_law_cell_at .nil pass0 (@pa_cons _ _ _ _ _ (pv 0) (@pa_cons _ _ _ _ _ pe_int pa_nil (by rfl)) (by rfl))) pe_int)) (by rfl) (by first | exact .inl rfl | exact .inr rfl | assumption)) (@pss_cons _ _ _ _ _ (@ps_set _ _ 2 _ _ _ _ nd rfl (Or.inl rfl) (pe_call GP hr6 rfl T.m_law_parts T.k_law_parts T.b_law_parts .nil pass0 (@pa_cons _ _ _ _ _ (pe_slice sl_list (pv 0) (po_some pe_int) (po_some (pv 1))) pa_nil (by rfl))) (by rfl) (by first | exact .inl rfl | exact .inr rfl | assumption)) (@pss_cons _ _ _ _ _ (@ps_set _ _ 3 _ _ _ _ nd rfl (Or.inl rfl) (pe_call GP hr6 rfl T.m_law_parts T.k_law_parts T.b_law_parts .nil pass0 (@pa_cons _ _ _ _ _ (pe_slice sl_list (pv 0) (po_some (pv 1)) (po_some pe_int)) pa_nil (by rfl))) (by rfl) (by first | exact .inl rfl | exact .inr rfl | assumption)) (@pss_cons _ _ _ _ _ (@ps_set _ _ 4 _ _ _ _ nd rfl (Or.inl rfl) (@pe_op _ _ _ _ _ _ _ _ op_mod (pe_call GE hr1 rfl T.m_law_cell_at T.k_law_cell_at T.b_law_cell_at .nil pass0 (@pa_cons _ _ _ _ _ (pv 0) (@pa_cons _ _ _ _ _ pe_int pa_nil (by rfl)) (by rfl))) pe_int) (by rfl) (by first | exact .inl rfl | exact .inr rfl | assumption)) (@pss_cons _ _ _ _ _ (@ps_set _ _ 5 _ _ _ _ nd rfl (Or.inr rfl) (pe_call G1 hr2 rfl T.m_law_one T.k_law_one T.b_law_one .nil pass0 (@pa_cons _ _ _ _ _ (@pe_op _ _ _ _ _ _ _ _ op_mod (pv 4) pe_int) (@pa_cons _ _ _ _ _ (@pe_op _ _ _ _ _ _ _ _ op_mod (@pe_op _ _ _ _ _ _ _ _ op_fdiv (pe_call GE hr1 rfl T.m_law_cell_at T.k_law_cell_at T.b_law_cell_at .nil pass0 (@pa_cons _ _ _ _ _ (pv 0) (@pa_cons _ _ _ _ _ pe_int pa_nil (by rfl)) (by rfl))) pe_int) (@pe_op _ _ _ _ _ _ _ _ op_pow pe_int pe_int)) pa_nil (by rfl)) (by rfl))) (by rfl) (by first | exact .inl rfl | exact .inr rfl | assumption)) (@pss_cons _ _ _ _ _ (@ps_set _ _ 6 _ _ _ _ nd rfl (Or.inl rfl) (pe_call G2 hr2 rfl T.m_law_two T.k_law_two T.b_law_two .nil pass0 (@pa_cons _ _ _ _ _ (@pe_op _ _ _ _ _ _ _ _ op_fdiv (pv 4) pe_int) pa_nil (by rfl))) (by rfl) (by first | exact .inl rfl | exact .inr rfl | assumption)) (@pss_cons _ _ _ _ _ (@ps_set _ _ 7 _ _ _ _ nd rfl (Or.inl rfl) (@pe_tup _ _ _ _ _ (@pa_cons _ _ _ _ _ (pe_callTy (call_list_ofK (K := K) rfl) rfl T.n_list bt_list (@pa_cons _ _ _ _ _ (pv 2) pa_nil (by rfl))) (@pa_cons _ _ _ _ _ (pe_callTy (call_list_ofK (K := K) rfl) rfl T.n_list bt_list (@pa_cons _ _ _ _ _ (pv 3) pa_nil (by rfl))) pa_nil (by rfl)) (by rfl))) (by rfl) (by first | exact .inl rfl | exact .inr rfl | assumption)) (@pss_cons _ _ _ _ _ (@ps_set _ _ 8 _ _ _ _ nd rfl (Or.inl rfl) (pe_call GM hr6 rfl T.m_mapped T.k_mapped T.b_mapped .nil pass0 (@pa_cons _ _ _ _ _ (@pe_ix _ _ _ _ _ _ _ (ix_tupK (K := K) rfl) (pv 7) pe_int (fun _ _ => rfl)) (@pa_cons _ _ _ _ _ (pv 5) pa_nil (by rfl)) (by rfl))) (by rfl) (by first | exact .inl rfl | exact .inr rfl | assumption)) (@pss_cons _ _ _ _ _ (@ps_set _ _ 9 _ _ _ _ nd rfl (Or.inl rfl) (pe_call GQ hr6 rfl T.m_paired T.k_paired T.b_paired .nil pass0 (@pa_cons _ _ _ _ _ (@pe_ix _ _ _ _ _ _ _ (ix_tupK (K := K) rfl) (pv 7) pe_int (fun _ _ => rfl)) (@pa_cons _ _ _ _ _ (@pe_ix _ _ _ _ _ _ _ (ix_tupK (K := K) rfl) (pv 7) pe_int (fun _ _ => rfl)) (@pa_cons _ _ _ _ _ (pv 6) pa_nil (by rfl)) (by rfl)) (by rfl))) (by rfl) (by first | exact .inl rfl | exact .inr rfl | assumption)) (@pss_cons _ _ _ _ _ (@ps_if _ _ _ _ _ _ _ _ (PW.pt (pw_or (@pt_cmpR _ _ _ _ _ _ _ _ (op_neD (K := K) rfl hu) (pv 7) (@pe_tup _ _ _ _ _ (@pa_cons _ _ _ _ _ (pv 2) (@pa_cons _ _ _ _ _ (pv 3) pa_nil (by rfl)) (by rfl))) (nomark _)) (pw_or (pt_not (pt_val (pe_callB (call_isinst (n := "list")) rfl T.n_isinstance bt_isi (@pa_cons _ _ _ _ _ (pv 8) (@pa_cons _ _ _ _ _ (pe_bltn (v := .ty "list") rfl T.n_list bt_list rfl) pa_nil (by rfl)) (by rfl))))) (pw_or1 (pt_not (pt_val (pe_callB (call_isinst (n := "list")) rfl T.n_isinstance bt_isi (@pa_cons _ _ _ _ _ (pv 9) (@pa_cons _ _ _ _ _ (pe_bltn (v := .ty "list") rfl T.n_list bt_list rfl) pa_nil (by rfl)) (by rfl))))))))) (@pss_one _ _ _ (@ps_ret _ _ _ _ pe_bl)) pss_nil) (@pss_cons _ _ _ _ _ (@ps_if _ _ _ _ _ _ _ _ (PW.pt (pw_or (@pt_cmpR _ _ _ _ _ _ _ _ (op_neD (K := K) rfl hu) (pv 8) (pe_call GF hr5 rfl T.m_one_form T.k_one_form T.b_one_form .nil pass0 (@pa_cons _ _ _ _ _ (pv 8) pa_nil (by rfl))) (nomark _)) (pw_or1 (@pt_cmpR _ _ _ _ _ _ _ _ (op_neD (K := K) rfl hu) (pv 9) (pe_call GF hr5 rfl T.m_one_form T.k_one_form T.b_one_form .nil pass0 (@pa_cons _ _ _ _ _ (pv 9) pa_nil (by rfl))) (nomark _))))) (@pss_one _ _ _ (@ps_ret _ _ _ _ pe_bl)) pss_nil) (@pss_cons _ _ _ _ _ (@ps_for _ _ _ _ _ _ _ _ PassesOwn.never rfl (pi_range1 rfl T.n_range (@pa_cons _ _ _ _ _ pe_int pa_nil (by rfl))) (pg_name (i := 10) nd rfl (Or.inl rfl)) (@pss_cons _ _ _ _ _ (@ps_set _ _ 11 _ _ _ _ nd rfl (Or.inl rfl) (pe_call GD hr1 rfl T.m_law_at T.k_law_at T.b_law_at .nil pass0 (@pa_cons _ _ _ _ _ (pv 2) (@pa_cons _ _ _ _ _ (pv 10) pa_nil (by rfl)) (by rfl))) (by rfl) (by first | exact .inl rfl | exact .inr rfl | assumption)) (@pss_cons _ _ _ _ _ (@ps_set _ _ 12 _ _ _ _ nd rfl (Or.inl rfl) (pe_call GD hr1 rfl T.m_law_at T.k_law_at T.b_law_at .nil pass0 (@pa_cons _ _ _ _ _ (pv 3) (@pa_cons _ _ _ _ _ (pv 10) pa_nil (by rfl)) (by rfl))) (by rfl) (by first | exact .inl rfl | exact .inr rfl | assumption)) (@pss_cons _ _ _ _ _ (@ps_if _ _ _ _ _ _ _ _ (@pt_cmpR _ _ _ _ _ _ _ _ (op_neD (K := K) rfl hu) (pe_call GD hr1 rfl T.m_law_at T.k_law_at T.b_law_at .nil pass0 (@pa_cons _ _ _ _ _ (pv 8) (@pa_cons _ _ _ _ _ (pv 10) pa_nil (by rfl)) (by rfl))) (pe_comp (defScope st_law) N_law ["_law_one_here"] [5] rfl (by exact ⟨rfl, rfl, by decide +kernel, rfl, by decide +kernel, by decide +kernel, by decide +kernel, rfl, by decide +kernel⟩) rfl rfl (pi_list (pv 11)) (fun _ _ _ _ => pif_nil) (fun _ _ _ _ => (@pe_callV _ P w K mg base 2 ["_law_value"] _ _ _ _ _ _ _ rfl rfl rfl rfl rfl hr2 (pv 1) (@pa_cons _ _ _ _ _ (pv 0) pa_nil (by rfl)) (by rfl) (by rfl)))) (nomark _)) (@pss_one _ _ _ (@ps_ret _ _ _ _ pe_bl)) pss_nil) (@pss_cons _ _ _ _ _ (@ps_set _ _ 13 _ _ _ _ nd rfl (Or.inl rfl) (@pe_lst _ _ _ _ pa_nil) (by rfl) (by first | exact .inl rfl | exact .inr rfl | assumption)) (@pss_cons _ _ _ _ _ (@ps_if _ _ _ _ _ _ _ _ (PW.pt (pw_and (@pt_cmpR _ _ _ _ _ _ _ _ (op_neD (K := K) rfl hu) (pv 11) (@pe_lst _ _ _ _ pa_nil) (nomark _)) (pw_and1 (@pt_cmpR _ _ _ _ _ _ _ _ (op_neD (K := K) rfl hu) (pv 12) (@pe_lst _ _ _ _ pa_nil) (nomark _))))) (@pss_one _ _ _ (@ps_set _ _ 13 _ _ _ _ nd rfl (Or.inl rfl) (@pe_lst _ _ _ _ (@pa_cons _ _ _ _ _ (@pe_callV _ P w K mg base 2 ["_law_left", "_law_right"] _ _ _ _ _ _ _ rfl rfl rfl rfl rfl hr2 (pv 6) (@pa_cons _ _ _ _ _ (@pe_ix _ _ _ _ _ _ _ (ix_listK (K := K) rfl) (pv 11) pe_int (fun _ _ => rfl)) (@pa_cons _ _ _ _ _ (@pe_ix _ _ _ _ _ _ _ (ix_listK (K := K) rfl) (pv 12) pe_int (fun _ _ => rfl)) pa_nil (by rfl)) (by rfl)) (by rfl) (by rfl)) pa_nil (by rfl))) (by rfl) (by first | exact .inl rfl | exact .inr rfl | assumption))) pss_nil) (@pss_one _ _ _ (@ps_if _ _ _ _ _ _ _ _ (@pt_cmpR _ _ _ _ _ _ _ _ (op_neD (K := K) rfl hu) (pe_call GD hr1 rfl T.m_law_at T.k_law_at T.b_law_at .nil pass0 (@pa_cons _ _ _ _ _ (pv 9) (@pa_cons _ _ _ _ _ (pv 10) pa_nil (by rfl)) (by rfl))) (pv 13) (nomark _)) (@pss_one _ _ _ (@ps_ret _ _ _ _ pe_bl)) pss_nil))))))) (by intro _; rfl)) (@pss_one _ _ _ (@ps_ret _ _ _ _ pe_bl)))))))))))))), ?_⟩
    refine ⟨_, rfl, a, ns, 0, rfl, hS, fun c0 => ⟨_, _, rfl, rfl, (by show (0 : Int) < 12; decide), _, _, rfl, rfl, ?_⟩⟩
    dsimp only [gName]
    obtain ⟨j, ej, hj⟩ := modN (a := c0) (n := 12) (by decide)
    have ej : c0 % 12 = ((j : Nat) : Int) := ej
    rw [ej, show (2 : Int) + ((j : Nat) : Int) = ((2 + j : Nat) : Int) by omega]
    obtain ⟨cs1, ec1, hc1⟩ := cut_le ns 2 (2 + j)
    obtain ⟨cs2, ec2, hc2⟩ := cut_le ns (2 + j) 16
    refine ⟨_, rfl, _, rfl, _, rfl, _, rfl, a, _, rfl, hS, fun pc hpc => ?_⟩
    have ec1 : cutV (ns.map V.int) (some 2) (some ((2 + j : Nat) : Int)) = cs1.map V.int := ec1
    rw [ec1]
    refine ⟨pc, cs1, rfl, upd_same, by omega, fun pf H1 R1 hpf s1 hR1 hF1 hA1 hl1 => ?_⟩
    dsimp only [gName]
    have s1 := (same_upd (o := .lst (cs1.map V.int)) hpc).trans s1
    have hS1 := s1.seq hS
    have hT1 := s1 _ _ hT1
    have hT2 := s1 _ _ hT2
    clear s1 hS hpc hpf
    refine ⟨_, rfl, _, rfl, _, rfl, _, rfl, a, _, rfl, hS1, fun pc2 hpc2 => ?_⟩
    have ec2 : cutV (ns.map V.int) (some ((2 + j : Nat) : Int)) (some 16) = cs2.map V.int := ec2
    rw [ec2]
    refine ⟨pc2, cs2, rfl, upd_same, by omega, fun pg H2 R2 hpg s2 hR2 hF2 hA2 hl2 => ?_⟩
    dsimp only [gName]
    have s2 := (same_upd (o := .lst (cs2.map V.int)) hpc2).trans s2
    have hS2 := s2.seq hS1
    have hR1 := hR1.same s2
    have hT1 := s2 _ _ hT1
    have hT2 := s2 _ _ hT2
    clear s2 hS1 hpc2 hpg
    refine ⟨_, rfl, a, ns, 1, rfl, hS2, fun c1 => ⟨_, _, rfl, rfl, (by show (0 : Int) < 12; decide), ?_⟩⟩
    dsimp only [gName]
    obtain ⟨m, em, hm⟩ := modN (a := c1) (n := 12) (by decide)
    have em : c1 % 12 = ((m : Nat) : Int) := em
    rw [em]
    refine ⟨_, rfl, _, _, rfl, rfl, (by show (0 : Int) < 3; decide), _, rfl, a, ns, 1, rfl, hS2, fun c2 => ⟨_, _, rfl, rfl, ⟨by decide, by decide⟩, _, _, rfl, rfl, ⟨by decide, by decide, by decide⟩, _, _, rfl, rfl, (by show (0 : Int) < 10 ^ (19 : Int).toNat; decide), ?_⟩⟩
    generalize hnum : c2 / 12 % 10 ^ Int.toNat 19 = num
    refine ⟨m % 3, num, ?_, Nat.mod_lt _ (by decide), hT1, fun f1 H3 s3 st3 hV1 => ?_⟩
    · show [V.int (((m : Nat) : Int) % 3), V.int (c2 / 12 % 10 ^ Int.toNat 19)] = _
      rw [hnum, show ((m : Nat) : Int) % 3 = ((m % 3 : Nat) : Int) by omega]
    dsimp only [gName]
    have hT2 := st3 P2 L.ne.symm _ hT2
    have hR1 := hR1.sameT s3
    have hR2 := hR2.sameT s3
    clear s3 st3 hS2 hT1
    refine ⟨_, rfl, _, _, rfl, rfl, ⟨by decide, by decide⟩, m / 3, ?_, by omega, hT2, fun f2 H4 s4 hV2 => ?_⟩
    · show [V.int (((m : Nat) : Int) / 3)] = _
      rw [show ((m : Nat) : Int) / 3 = ((m / 3 : Nat) : Int) by omega]
    dsimp only [gName]
    have hR1 := hR1.sameT s4
    have hR2 := hR2.sameT s4
    have hV1 := hV1.sameT s4
    clear s4 hT2
    obtain ⟨ts1, ht1, htl1, hat1⟩ := hR1.ex
    obtain ⟨ts2, ht2, htl2, hat2⟩ := hR2.ex
    refine ⟨_, rfl, pf, _, rfl, .inl (SqL.of ht1), fun h1 hh1 => ?_⟩
    have sa := same_upd (o := .lst (ts1.map V.ref)) hh1
    refine ⟨_, rfl, pg, _, rfl, .inl (SqL.of (sa _ _ ht2)), fun h2 hh2 => ⟨(by show 2 ≤ sizeLine; decide), fun ph hph => ?_⟩⟩
    have sb := same_upd (o := .lst (ts2.map V.ref)) hh2
    have sc := same_upd (o := .tup [V.ref h1, V.ref h2]) hph
    have sab := (sa.trans sb).trans sc
    have hA : PAt _ h1 R1 := ⟨ts1, sc _ _ (sb _ _ upd_same), htl1, fun i t p a b => by obtain ⟨y, u, v⟩ := hat1 i t p a b; exact ⟨y, sab _ _ u, mv_same v sab⟩⟩
    have hB : PAt _ h2 R2 := ⟨ts2, sc _ _ upd_same, htl2, fun i t p a b => by obtain ⟨y, u, v⟩ := hat2 i t p a b; exact ⟨y, sab _ _ u, mv_same v sab⟩⟩
    have hT : upd (upd (upd H4 h1 (.lst (ts1.map V.ref))) h2 (.lst (ts2.map V.ref))) ph (.tup [V.ref h1, V.ref h2]) ph = some (.tup [V.ref h1, V.ref h2]) := upd_same
    have hR1 := hR1.same sab
    have hR2 := hR2.same sab
    have hV1 := hV1.sameT (Same.t sab)
    have hV2 := hV2.sameT (Same.t sab)
    dsimp only [gName]
    generalize upd (upd (upd H4 h1 (.lst (ts1.map V.ref))) h2 (.lst (ts2.map V.ref))) ph (.tup [V.ref h1, V.ref h2]) = H5 at hA hB hT hR1 hR2 hV1 hV2 ⊢
    clear hat1 hat2 ht1 ht2 sa sb sc sab
    have hl12 : R1.length * R2.length < 64 := by
      have q1 : R1.length ≤ j := by omega
      have q2 : R2.length ≤ 14 - j := by omega
      have q3 := Nat.mul_le_mul q1 q2
      have q4 : j * (14 - j) < 64 := by
        rcases (show j = 0 ∨ j = 1 ∨ j = 2 ∨ j = 3 ∨ j = 4 ∨ j = 5 ∨ j = 6 ∨ j = 7 ∨ j = 8 ∨ j = 9 ∨ j = 10 ∨ j = 11 by omega) with rfl | rfl | rfl | rfl | rfl | rfl | rfl | rfl | rfl | rfl | rfl | rfl <;> decide
      omega
    refine ⟨_, rfl, ph, _, _, _, rfl, rfl, SqT.of hT, rfl, _, rfl, h1, f1, R1, _, rfl, hA, hA1, hF1, by omega, hV1, fun pk H6 R3 hpk s6 hR3 hF3 hH3 hl3 => ?_⟩
    dsimp only [gName]
    have hA := hA.same s6
    have hB := hB.same s6
    have hT := s6 _ _ hT
    have hR1 := hR1.same s6
    have hR2 := hR2.same s6
    have hV1 := hV1.sameT (Same.t s6)
    have hV2 := hV2.sameT (Same.t s6)
    clear s6 hpk
    refine ⟨_, rfl, ph, _, _, _, rfl, rfl, SqT.of hT, rfl, _, rfl, ph, _, _, _, rfl, rfl, SqT.of hT, rfl, _, rfl, h1, h2, f2, R1, R2, _, rfl, hA, hB, hA1, hA2, hF1, hF2, by omega, by omega, hl12, hV2, fun po H7 R4 hpo s7 hR4 hF4 hH4 hl4 => ?_⟩
    dsimp only [gName]
    have hA := hA.same s7
    have hB := hB.same s7
    have hT := s7 _ _ hT
    have hR1 := hR1.same s7
    have hR2 := hR2.same s7
    have hR3 := hR3.same s7
    have hV1 := hV1.sameT (Same.t s7)
    have hV2 := hV2.sameT (Same.t s7)
    clear s7 hpo
    refine ⟨_, rfl, _, rfl, _, rfl, (by show 2 ≤ sizeLine; decide), fun q hq => ?_⟩
    have sq := same_upd (o := .tup [V.ref pf, V.ref pg]) hq
    have shT : Shd 4 (.tuple [.list (R1.map pD), .list (R2.map pD)]) := Shd.tuple fun d hd => by
      rcases (show d = _ ∨ d = _ by simpa using hd) with z | z <;> subst z
      · exact hA.shd
      · exact hB.shd
    refine ⟨.tuple [.list (R1.map pD), .list (R2.map pD)], .tuple [.list (R1.map pD), .list (R2.map pD)], .tup (SqT.of (sq _ _ hT)) (.cons (hA.same sq).rdv (.cons (hB.same sq).rdv .nil)), .tup (SqT.of upd_same) (.cons (hR1.same sq).rdv (.cons (hR2.same sq).rdv .nil)), shT.ok (by decide), shT.ok (by decide), _, rfl, ?_⟩
    rw [shT.refl]
    refine iteF ?_
    obtain ⟨ts3, ht3, _⟩ := hR3.ex
    obtain ⟨ts4, ht4, _⟩ := hR4.ex
    refine ⟨_, rfl, _, _, true, rfl, .lst (sq _ _ ht3), kit_ll _, _, rfl, iteF ?_⟩
    refine ⟨_, rfl, _, _, true, rfl, .lst (sq _ _ ht4), kit_ll _, _, rfl, iteF ?_⟩
    dsimp only [tNext, gName]
    have hR1 := hR1.same sq
    have hR2 := hR2.same sq
    have hR3 := hR3.same sq
    have hR4 := hR4.same sq
    have hV1 := hV1.sameT (Same.t sq)
    have hV2 := hV2.sameT (Same.t sq)
    clear hA hB hT ht3 ht4
    generalize upd H7 q _ = H8 at hR1 hR2 hR3 hR4 hV1 hV2 ⊢
    refine ⟨_, rfl, _, rfl, pk, R3, rfl, hR3, by omega, hF3.fn, hF3.lt, fun p9 H9 R9 hp9 s9 hR9 hF9 hH9 hl9 => ?_⟩
    have e9 : R9 = R3 := form_one hF9 hF3 hH9
    subst e9
    have sh9 := hR9.shd
    refine ⟨_, _, (hR3.same s9).rdv, hR9.rdv, sh9.ok (by decide), sh9.ok (by decide), _, rfl, ?_⟩
    rw [sh9.refl]
    refine iteF ?_
    have hR1 := hR1.same s9
    have hR2 := hR2.same s9
    have hR3 := hR3.same s9
    have hR4 := hR4.same s9
    have hV1 := hV1.sameT (Same.t s9)
    have hV2 := hV2.sameT (Same.t s9)
    clear s9 hp9
    refine ⟨_, rfl, _, rfl, po, R4, rfl, hR4, by omega, hF4.fn, hF4.lt, fun p10 H10 R10 hp10 s10 hR10 hF10 hH10 hl10 => ?_⟩
    have e10 : R10 = R4 := form_one hF10 hF4 hH10
    subst e10
    have sh10 := hR10.shd
    refine ⟨_, _, (hR4.same s10).rdv, hR10.rdv, sh10.ok (by decide), sh10.ok (by decide), _, rfl, ?_⟩
    rw [sh10.refl]
    refine iteF ?_
    dsimp only [tNext, gName]
    have hR1 := hR1.same s10
    have hR2 := hR2.same s10
    have hR3 := hR3.same s10
    have hR4 := hR4.same s10
    have hV1 := hV1.sameT (Same.t s10)
    have hV2 := hV2.sameT (Same.t s10)
    clear s10 hp10
    refine cut_for (fun σ' H' => True) (fun Rk hRR => ?_) (fun _ _ _ => k _)
    refine ⟨_, rfl, by decide, by decide, ?_⟩
    refine for_range (fun i σ' H' => Same H10 H' ∧ ∃ s10 s11 s12 s13 : Option V, σ' = [some (.ref a), some (.int ((2 + j : Nat) : Int)), some (.ref pf), some (.ref pg), some (.int ((m : Nat) : Int)), some (.ref f1), some (.ref f2), some (.ref ph), some (.ref pk), some (.ref po), s10, s11, s12, s13]) ⟨Same.refl _, none, none, none, none, rfl⟩ ?_ (fun σ' H' h => hRR _ _ trivial)
    rintro i σ' H11 hi ⟨s11, x10, x11, x12, x13, rfl⟩
    rw [Int.zero_add]
    have hR1 := hR1.same s11
    have hR2 := hR2.same s11
    have hR3 := hR3.same s11
    have hR4 := hR4.same s11
    have hV1 := hV1.sameT (Same.t s11)
    have hV2 := hV2.sameT (Same.t s11)
    dsimp only [gName]
    refine ⟨_, rfl, _, rfl, pf, R1, i, rfl, hR1, by omega, fun pl H12 hpl s12 hKl => ?_⟩
    dsimp only [gName]
    refine ⟨_, rfl, _, rfl, pg, R2, i, rfl, hR2.same s12, by omega, fun pr H13 hpr s13 hKr => ?_⟩
    dsimp only [gName]
    have hKl := hKl.same s13
    have s13 := s12.trans s13
    refine ⟨_, rfl, _, rfl, pk, R9, i, rfl, hR3.same s13, by omega, fun pe H14 hpe s14 hKe => ?_⟩
    have hKl := hKl.same s14
    have hKr := hKr.same s14
    have s14 := s13.trans s14
    have hV1 := hV1.sameT (Same.t s14)
    have hV2 := hV2.sameT (Same.t s14)
    have hR4 := hR4.same s14
    obtain ⟨ys, hys, hyl, hyk⟩ := hKl.ex
    have hll := atL_len R1 i
    obtain ⟨oc, od, fd1, sl, sp, v1, v2, v3, v4⟩ := hV1
    refine ⟨_, rfl, pl, rfl, ⟨_, SqL.of hys⟩, ?_⟩
    refine comp_list (K := K) (a := pl) (xs := ys) (fun i' zs H' => Same H14 H' ∧ i' ≤ 64 ∧ zs.length = i' ∧ ∀ (j : Nat) (y : V) (k : MKey), zs[j]? = some y → ((atL R1 i).map fun k => g1 (m % 3) num [iv k])[j]? = some k → MV H' k y)
      ⟨Same.refl _, Nat.zero_le _, rfl, fun j y k h => by simp at h⟩ (fun i' zs H' _ hsl58 => by obtain ⟨e, _⟩ := hsl58; exact SqL.of (e _ _ hys)) ?_ ?_
    · rintro i' x zs H' hx ⟨sm, _, hzl, hz⟩
      have hi' : i' < (atL R1 i).length := by rw [← hyl]; exact (List.getElem?_eq_some_iff.mp hx).1
      obtain ⟨n, hn⟩ := atL_int hA1 (List.getElem_mem hi')
      have hmv := hyk i' x _ hx (List.getElem?_eq_getElem hi')
      rw [hn] at hmv
      obtain ⟨_, rfl⟩ := hmv
      refine tYes_ok ?_
      rw [if_pos rfl]
      refine ⟨_, rfl, f1, oc, od, fd1, sl, rfl, sm _ _ v1, _, rfl, sm _ _ v1, sp, v2, v3, v4 H' [n] _ (Same.t sm) rfl fun y2 H'' s2 m2 => ?_⟩
      refine ⟨by rw [hzl]; exact small1000 (by omega), sm.trans s2, by omega, by simp [hzl], fun j' y' k' e1 e2 => ?_⟩
      by_cases hj' : j' < zs.length
      · rw [List.getElem?_append_left hj'] at e1
        exact mv_same (hz j' y' k' e1 e2) s2
      · have hjl := (List.getElem?_eq_some_iff.mp e1).1
        rw [List.length_append, List.length_singleton] at hjl
        have ej' : j' = zs.length := by omega
        subst ej'
        rw [List.getElem?_append_right (Nat.le_refl _), Nat.sub_self] at e1
        have q1 : y2 = y' := by simpa using e1
        rw [hzl, List.getElem?_map, List.getElem?_eq_getElem hi', hn] at e2
        have q2 : g1 (m % 3) num [n] = k' := Option.some.inj e2
        subst q1 q2
        exact m2
    rintro zs H15 ⟨s15, _, hzl, hz⟩ pz hpz
    have sz := same_upd (o := .lst zs) hpz
    have s16 := s15.trans sz
    have hKz : KAt (upd H15 pz (.lst zs)) pz ((atL R1 i).map fun k => g1 (m % 3) num [iv k]) := ⟨zs, upd_same, by rw [hzl, List.length_map]; exact hyl, fun j' y' k' e1 e2 => mv_same (hz j' y' k' e1 e2) sz⟩
    rw [← at_map hF1 hF9 hA1 hH3 i] at hKz
    have hKe := hKe.same s16
    have hKl := hKl.same s16
    have hKr := hKr.same s16
    have hV2 := hV2.sameT (Same.t s16)
    have hR4 := hR4.same s16
    have sAll := (s11.trans s14).trans s16
    generalize upd H15 pz (.lst zs) = H16 at hKz hKe hKl hKr hV2 hR4 sAll ⊢
    clear hz hyk hys v1 v2 v3 v4 s15 sz s16
    have she := hKe.shd
    refine ⟨_, _, hKe.rdv, hKz.rdv, she.ok (by decide), she.ok (by decide), _, rfl, ?_⟩
    rw [she.refl]
    refine iteF ?_
    dsimp only [tNext, gName]
    refine ⟨Nat.zero_le _, fun d0 hd0 => ?_⟩
    dsimp only [gName]
    have s17 := same_upd (o := .lst []) hd0
    have hd00 : upd H16 d0 (.lst []) d0 = some (.lst []) := upd_same
    have hKl := hKl.same s17
    have hKr := hKr.same s17
    have hV2 := hV2.sameT (Same.t s17)
    have hR4 := hR4.same s17
    have sAll := sAll.trans s17
    clear hKz hKe she
    generalize upd H16 d0 (.lst []) = H17 at hd00 hKl hKr hV2 hR4 sAll ⊢
    have shl := hKl.shd
    have shr := hKr.shd
    refine cut_if (fun σ' H' => Same H17 H' ∧ ∃ pd, KAt H' pd (atL R10 i) ∧ σ' = [some (.ref a), some (.int ((2 + j : Nat) : Int)), some (.ref pf), some (.ref pg), some (.int ((m : Nat) : Int)), some (.ref f1), some (.ref f2), some (.ref ph), some (.ref pk), some (.ref po), some (.int ((i : Nat) : Int)), some (.ref pl), some (.ref pr), some (.ref pd)]) (fun Rx hRx => ?_) ?_
    · rw [at_pair hF1 hF2 hF10 hA1 hA2 hH4 i] at hRx
      refine ⟨_, rfl, Nat.zero_le _, fun n0 hn0 => ?_⟩
      have sn := same_upd (o := .lst []) hn0
      refine ⟨_, _, (hKl.same sn).rdv, .lst (SqL.of upd_same) .nil, shl.ok (by decide), rfl, _, rfl, ?_⟩
      rw [eqv_nil]
      have hd01 := sn _ _ hd00
      have hKl := hKl.same sn
      have hKr := hKr.same sn
      have hV2 := hV2.sameT (Same.t sn)
      generalize upd H17 n0 (.lst []) = H18 at hd01 hKl hKr hV2 sn ⊢
      cases hLl : atL R1 i with
      | nil =>
        refine iteFb rfl ?_
        refine iteF ?_
        refine hRx _ _ ⟨sn, d0, ?_, rfl⟩
        rw [hLl]
        exact ⟨[], hd01, rfl, fun i y k h => by simp at h⟩
      | cons k1 l1 =>
        refine iteTb (by rw [decide_eq_false (by simp)]; rfl) ?_
        refine ⟨_, rfl, Nat.zero_le _, fun n1 hn1 => ?_⟩
        have sn1 := same_upd (o := .lst []) hn1
        refine ⟨_, _, (hKr.same sn1).rdv, .lst (SqL.of upd_same) .nil, shr.ok (by decide), rfl, _, rfl, ?_⟩
        rw [eqv_nil]
        have hd02 := sn1 _ _ hd01
        have hKl := hKl.same sn1
        have hKr := hKr.same sn1
        have hV2 := hV2.sameT (Same.t sn1)
        have sn := sn.trans sn1
        generalize upd H18 n1 (.lst []) = H19 at hd02 hKl hKr hV2 sn ⊢
        cases hLr : atL R2 i with
        | nil =>
          refine iteFb rfl ?_
          refine hRx _ _ ⟨sn, d0, ?_, rfl⟩
          rw [hLl, hLr]
          exact ⟨[], hd02, rfl, fun i y k h => by simp at h⟩
        | cons k2 l2 =>
          refine iteTb (by rw [decide_eq_false (by simp)]; rfl) ?_
          obtain ⟨n1', e1'⟩ := atL_int hA1 (show k1 ∈ atL R1 i by rw [hLl]; simp)
          obtain ⟨n2', e2'⟩ := atL_int hA2 (show k2 ∈ atL R2 i by rw [hLr]; simp)
          subst e1' e2'
          rw [hLl] at hKl
          rw [hLr] at hKr
          obtain ⟨ya, hya, hyal, hyak⟩ := hKl.ex
          obtain ⟨yb, hyb, hybl, hybk⟩ := hKr.ex
          match ya, yb, hyal, hybl, hyak, hybk, hya, hyb with
          | x1 :: ya, x2 :: yb, _, _, hyak, hybk, hya, hyb =>
            obtain ⟨_, e1⟩ := hyak 0 x1 _ rfl rfl
            obtain ⟨_, e2⟩ := hybk 0 x2 _ rfl rfl
            have e1 : x1 = V.int n1' := e1
            have e2 : x2 = V.int n2' := e2
            subst e1 e2
            obtain ⟨oc, od, fd1, sl, sp, v1, v2, v3, v4⟩ := hV2
            refine ⟨_, rfl, f2, oc, od, fd1, sl, rfl, v1, _, rfl, pl, _, _, _, rfl, rfl, SqL.of hya, atI_nat (j := 0) rfl, _, rfl, pr, _, _, _, rfl, rfl, SqL.of hyb, atI_nat (j := 0) rfl, v1, sp, v2, v3, v4 _ [n1', n2'] _ (fun b o e _ => e) rfl fun y2 H20 s20 m20 => ⟨(by show 1 ≤ sizeLine; decide), fun pd hpd => ?_⟩⟩
            have s21 := same_upd (o := .lst [y2]) hpd
            refine hRx _ _ ⟨(sn.trans s20).trans s21, pd, ?_, rfl⟩
            rw [hLl, hLr]
            refine ⟨[y2], upd_same, rfl, fun i' y k e1 e2 => ?_⟩
            match i', e1, e2 with
            | 0, e1, e2 =>
              cases e1; cases e2
              exact mv_same m20 s21
            | i' + 1, e1, _ => simp at e1
    rintro σ' H18 ⟨s18, pd3, hK5, rfl⟩
    refine ⟨_, rfl, _, rfl, po, R10, i, rfl, hR4.same s18, by omega, fun pv H19 hpv s19 hK4 => ?_⟩
    have sh4 := hK4.shd
    refine ⟨_, rfl, _, _, hK4.rdv, (hK5.same s19).rdv, sh4.ok (by decide), sh4.ok (by decide), _, rfl, ?_⟩
    rw [sh4.refl]
    refine iteF ?_
    exact ⟨(sAll.trans s18).trans s19, _, _, _, _, rfl⟩
end
theorem all_mk {l : PySem.W.OpenLaw} {w : World} {K : PySem.W.Frag} {h : Heap} {mg : Str → Option Value} {fa f_least f_kept_pairs f_add_to f_one_form f_least_of f_mapped f_paired f_law_cell_at f_law_stream f_law_parts f_law_one f_law_two f_law_at f_law : Addr} (X : K.In h) (G : h.Ns mainGlobals mg) (hfa : mg "law" = some (.ref fa))
    {od_least an_least od_kept_pairs an_kept_pairs od_add_to an_add_to od_one_form an_one_form od_least_of an_least_of od_mapped an_mapped od_paired an_paired od_law_cell_at an_law_cell_at od_law_stream an_law_stream od_law_parts an_law_parts od_law_one an_law_one od_law_two an_law_two od_law_at an_law_at od_law an_law : Option Addr} {sl_least sl_kept_pairs sl_add_to sl_one_form sl_least_of sl_mapped sl_paired sl_law_cell_at sl_law_stream sl_law_parts sl_law_one sl_law_two sl_law_at sl_law : Array (Option Value)} {oc_least kV_least dc_least pm_least cd_least ct_least oc_kept_pairs kV_kept_pairs dc_kept_pairs pm_kept_pairs cd_kept_pairs ct_kept_pairs oc_add_to kV_add_to dc_add_to pm_add_to cd_add_to ct_add_to oc_one_form kV_one_form dc_one_form pm_one_form cd_one_form ct_one_form oc_least_of kV_least_of dc_least_of pm_least_of cd_least_of ct_least_of oc_mapped kV_mapped dc_mapped pm_mapped cd_mapped ct_mapped oc_paired kV_paired dc_paired pm_paired cd_paired ct_paired oc_law_cell_at kV_law_cell_at dc_law_cell_at pm_law_cell_at cd_law_cell_at ct_law_cell_at oc_law_stream kV_law_stream dc_law_stream pm_law_stream cd_law_stream ct_law_stream oc_law_parts kV_law_parts dc_law_parts pm_law_parts cd_law_parts ct_law_parts oc_law_one kV_law_one dc_law_one pm_law_one cd_law_one ct_law_one oc_law_two kV_law_two dc_law_two pm_law_two cd_law_two ct_law_two oc_law_at kV_law_at dc_law_at pm_law_at cd_law_at ct_law_at oc_law kV_law dc_law pm_law cd_law ct_law : Value}
    (a_least : PySem.W.nsIn K mainGlobals "least" = some (some (.ref f_least)))
    (l_least : K.lookup f_least = some ⟨oc_least, od_least, .func (PySem.W.fnOf "least" "least" (defArgs st_least) (defBody st_least) (defScope st_least) .none kV_least dc_least pm_least an_least cd_least ct_least), sl_least⟩)
    (c_least' : PySem.W.codeIn K cd_least "least" = true)
    (k_least : PySem.W.keepIn K (.ref f_least) = true)
    (a_kept_pairs : PySem.W.nsIn K mainGlobals "kept_pairs" = some (some (.ref f_kept_pairs)))
    (l_kept_pairs : K.lookup f_kept_pairs = some ⟨oc_kept_pairs, od_kept_pairs, .func (PySem.W.fnOf "kept_pairs" "kept_pairs" (defArgs st_kept_pairs) (defBody st_kept_pairs) (defScope st_kept_pairs) .none kV_kept_pairs dc_kept_pairs pm_kept_pairs an_kept_pairs cd_kept_pairs ct_kept_pairs), sl_kept_pairs⟩)
    (c_kept_pairs' : PySem.W.codeIn K cd_kept_pairs "kept_pairs" = true)
    (k_kept_pairs : PySem.W.keepIn K (.ref f_kept_pairs) = true)
    (a_add_to : PySem.W.nsIn K mainGlobals "add_to" = some (some (.ref f_add_to)))
    (l_add_to : K.lookup f_add_to = some ⟨oc_add_to, od_add_to, .func (PySem.W.fnOf "add_to" "add_to" (defArgs st_add_to) (defBody st_add_to) (defScope st_add_to) .none kV_add_to dc_add_to pm_add_to an_add_to cd_add_to ct_add_to), sl_add_to⟩)
    (c_add_to' : PySem.W.codeIn K cd_add_to "add_to" = true)
    (k_add_to : PySem.W.keepIn K (.ref f_add_to) = true)
    (a_one_form : PySem.W.nsIn K mainGlobals "one_form" = some (some (.ref f_one_form)))
    (l_one_form : K.lookup f_one_form = some ⟨oc_one_form, od_one_form, .func (PySem.W.fnOf "one_form" "one_form" (defArgs st_one_form) (defBody st_one_form) (defScope st_one_form) .none kV_one_form dc_one_form pm_one_form an_one_form cd_one_form ct_one_form), sl_one_form⟩)
    (c_one_form' : PySem.W.codeIn K cd_one_form "one_form" = true)
    (k_one_form : PySem.W.keepIn K (.ref f_one_form) = true)
    (a_least_of : PySem.W.nsIn K mainGlobals "least_of" = some (some (.ref f_least_of)))
    (l_least_of : K.lookup f_least_of = some ⟨oc_least_of, od_least_of, .func (PySem.W.fnOf "least_of" "least_of" (defArgs st_least_of) (defBody st_least_of) (defScope st_least_of) .none kV_least_of dc_least_of pm_least_of an_least_of cd_least_of ct_least_of), sl_least_of⟩)
    (c_least_of' : PySem.W.codeIn K cd_least_of "least_of" = true)
    (k_least_of : PySem.W.keepIn K (.ref f_least_of) = true)
    (a_mapped : PySem.W.nsIn K mainGlobals "mapped" = some (some (.ref f_mapped)))
    (l_mapped : K.lookup f_mapped = some ⟨oc_mapped, od_mapped, .func (PySem.W.fnOf "mapped" "mapped" (defArgs st_mapped) (defBody st_mapped) (defScope st_mapped) .none kV_mapped dc_mapped pm_mapped an_mapped cd_mapped ct_mapped), sl_mapped⟩)
    (c_mapped' : PySem.W.codeIn K cd_mapped "mapped" = true)
    (k_mapped : PySem.W.keepIn K (.ref f_mapped) = true)
    (a_paired : PySem.W.nsIn K mainGlobals "paired" = some (some (.ref f_paired)))
    (l_paired : K.lookup f_paired = some ⟨oc_paired, od_paired, .func (PySem.W.fnOf "paired" "paired" (defArgs st_paired) (defBody st_paired) (defScope st_paired) .none kV_paired dc_paired pm_paired an_paired cd_paired ct_paired), sl_paired⟩)
    (c_paired' : PySem.W.codeIn K cd_paired "paired" = true)
    (k_paired : PySem.W.keepIn K (.ref f_paired) = true)
    (a_law_cell_at : PySem.W.nsIn K mainGlobals "_law_cell_at" = some (some (.ref f_law_cell_at)))
    (l_law_cell_at : K.lookup f_law_cell_at = some ⟨oc_law_cell_at, od_law_cell_at, .func (PySem.W.fnOf "_law_cell_at" "_law_cell_at" (defArgs st_law_cell_at) (defBody st_law_cell_at) (defScope st_law_cell_at) .none kV_law_cell_at dc_law_cell_at pm_law_cell_at an_law_cell_at cd_law_cell_at ct_law_cell_at), sl_law_cell_at⟩)
    (c_law_cell_at' : PySem.W.codeIn K cd_law_cell_at "_law_cell_at" = true)
    (k_law_cell_at : PySem.W.keepIn K (.ref f_law_cell_at) = true)
    (a_law_stream : PySem.W.nsIn K mainGlobals "_law_stream" = some (some (.ref f_law_stream)))
    (l_law_stream : K.lookup f_law_stream = some ⟨oc_law_stream, od_law_stream, .func (PySem.W.fnOf "_law_stream" "_law_stream" (defArgs st_law_stream) (defBody st_law_stream) (defScope st_law_stream) .none kV_law_stream dc_law_stream pm_law_stream an_law_stream cd_law_stream ct_law_stream), sl_law_stream⟩)
    (c_law_stream' : PySem.W.codeIn K cd_law_stream "_law_stream" = true)
    (k_law_stream : PySem.W.keepIn K (.ref f_law_stream) = true)
    (a_law_parts : PySem.W.nsIn K mainGlobals "_law_parts" = some (some (.ref f_law_parts)))
    (l_law_parts : K.lookup f_law_parts = some ⟨oc_law_parts, od_law_parts, .func (PySem.W.fnOf "_law_parts" "_law_parts" (defArgs st_law_parts) (defBody st_law_parts) (defScope st_law_parts) .none kV_law_parts dc_law_parts pm_law_parts an_law_parts cd_law_parts ct_law_parts), sl_law_parts⟩)
    (c_law_parts' : PySem.W.codeIn K cd_law_parts "_law_parts" = true)
    (k_law_parts : PySem.W.keepIn K (.ref f_law_parts) = true)
    (a_law_one : PySem.W.nsIn K mainGlobals "_law_one" = some (some (.ref f_law_one)))
    (l_law_one : K.lookup f_law_one = some ⟨oc_law_one, od_law_one, .func (PySem.W.fnOf "_law_one" "_law_one" (defArgs st_law_one) (defBody st_law_one) (defScope st_law_one) .none kV_law_one dc_law_one pm_law_one an_law_one cd_law_one ct_law_one), sl_law_one⟩)
    (c_law_one' : PySem.W.codeIn K cd_law_one "_law_one" = true)
    (k_law_one : PySem.W.keepIn K (.ref f_law_one) = true)
    (a_law_two : PySem.W.nsIn K mainGlobals "_law_two" = some (some (.ref f_law_two)))
    (l_law_two : K.lookup f_law_two = some ⟨oc_law_two, od_law_two, .func (PySem.W.fnOf "_law_two" "_law_two" (defArgs st_law_two) (defBody st_law_two) (defScope st_law_two) .none kV_law_two dc_law_two pm_law_two an_law_two cd_law_two ct_law_two), sl_law_two⟩)
    (c_law_two' : PySem.W.codeIn K cd_law_two "_law_two" = true)
    (k_law_two : PySem.W.keepIn K (.ref f_law_two) = true)
    (a_law_at : PySem.W.nsIn K mainGlobals "_law_at" = some (some (.ref f_law_at)))
    (l_law_at : K.lookup f_law_at = some ⟨oc_law_at, od_law_at, .func (PySem.W.fnOf "_law_at" "_law_at" (defArgs st_law_at) (defBody st_law_at) (defScope st_law_at) .none kV_law_at dc_law_at pm_law_at an_law_at cd_law_at ct_law_at), sl_law_at⟩)
    (c_law_at' : PySem.W.codeIn K cd_law_at "_law_at" = true)
    (k_law_at : PySem.W.keepIn K (.ref f_law_at) = true)
    (a_law : PySem.W.nsIn K mainGlobals "law" = some (some (.ref f_law)))
    (l_law : K.lookup f_law = some ⟨oc_law, od_law, .func (PySem.W.fnOf "law" "law" (defArgs st_law) (defBody st_law) (defScope st_law) .none kV_law dc_law pm_law an_law cd_law ct_law), sl_law⟩)
    (c_law' : PySem.W.codeIn K cd_law "law" = true)
    (k_law : PySem.W.keepIn K (.ref f_law) = true)
    (z_len : PySem.W.nsIn K mainGlobals "len" = some none)
    (z_range : PySem.W.nsIn K mainGlobals "range" = some none)
    (z_sorted : PySem.W.nsIn K mainGlobals "sorted" = some none)
    (z_isinstance : PySem.W.nsIn K mainGlobals "isinstance" = some none)
    (z_list : PySem.W.nsIn K mainGlobals "list" = some none)
    (z_max : PySem.W.nsIn K mainGlobals "max" = some none)
    (z_int : PySem.W.nsIn K mainGlobals "int" = some none)
    {c1 c2 P1 P2 : Addr} (e_1 : cd_law_one = .ref c1) (e_2 : cd_law_two = .ref c2) (d_1 : PySem.W.codeHdIn K c1 P1 = true) (d_2 : PySem.W.codeHdIn K c2 P2 = true) (n_1 : K.lookup P1 = none) (n_2 : K.lookup P2 = none) (ne_12 : P1 ≠ P2)
    :
    ∃ (fd : FuncData) (P1 P2 : Addr), (∀ (s : Shared) (v : Value), BindsTo s fd ⟨[v], []⟩ [("_law_script", v)]) ∧ K.lookup P1 = none ∧ K.lookup P2 = none ∧
      (∃ f c oc od fd sl, PySem.W.nsIn K mainGlobals "_law_one" = some (some (.ref f)) ∧ K.lookup f = some ⟨oc, od, .func fd, sl⟩ ∧ fd.code = .ref c ∧ PySem.W.codeHdIn K c P1 = true) ∧
      (∃ f c oc od fd sl, PySem.W.nsIn K mainGlobals "_law_two" = some (some (.ref f)) ∧ K.lookup f = some ⟨oc, od, .func fd, sl⟩ ∧ fd.code = .ref c ∧ PySem.W.codeHdIn K c P2 = true) ∧
      ∀ base : Heap, K.In base → base.Ns mainGlobals mg → BMain mg base → FnOk l.prog w K mg base CX0 9 fa fd ["_law_script"] (spLaw K P1 P2) := by
  subst e_1 e_2
  have e := hfa.symm.trans (PySem.W.mg_of X G a_law)
  cases e
  have F_least := fun_mk (st := st_least) l_least c_least' k_least
  have F_kept_pairs := fun_mk (st := st_kept_pairs) l_kept_pairs c_kept_pairs' k_kept_pairs
  have F_add_to := fun_mk (st := st_add_to) l_add_to c_add_to' k_add_to
  have F_one_form := fun_mk (st := st_one_form) l_one_form c_one_form' k_one_form
  have F_least_of := fun_mk (st := st_least_of) l_least_of c_least_of' k_least_of
  have F_mapped := fun_mk (st := st_mapped) l_mapped c_mapped' k_mapped
  have F_paired := fun_mk (st := st_paired) l_paired c_paired' k_paired
  have F_law_cell_at := fun_mk (st := st_law_cell_at) l_law_cell_at c_law_cell_at' k_law_cell_at
  have F_law_stream := fun_mk (st := st_law_stream) l_law_stream c_law_stream' k_law_stream
  have F_law_parts := fun_mk (st := st_law_parts) l_law_parts c_law_parts' k_law_parts
  have F_law_one := fun_mk (st := st_law_one) l_law_one c_law_one' k_law_one
  have F_law_two := fun_mk (st := st_law_two) l_law_two c_law_two' k_law_two
  have F_law_at := fun_mk (st := st_law_at) l_law_at c_law_at' k_law_at
  have F_law := fun_mk (st := st_law) l_law c_law' k_law
  have b_least := F_least.binds (ps := ["mask"]) fun _ _ _ _ _ _ us hl => by obtain ⟨_, rfl⟩ := len1 hl; rfl
  have b_kept_pairs := F_kept_pairs.binds (ps := ["pairs", "mask"]) fun _ _ _ _ _ _ us hl => by obtain ⟨_, _, rfl⟩ := len2 hl; rfl
  have b_add_to := F_add_to.binds (ps := ["found", "key", "mask"]) fun _ _ _ _ _ _ us hl => by obtain ⟨_, _, _, rfl⟩ := len3 hl; rfl
  have b_one_form := F_one_form.binds (ps := ["pairs"]) fun _ _ _ _ _ _ us hl => by obtain ⟨_, rfl⟩ := len1 hl; rfl
  have b_least_of := F_least_of.binds (ps := ["pair"]) fun _ _ _ _ _ _ us hl => by obtain ⟨_, rfl⟩ := len1 hl; rfl
  have b_mapped := F_mapped.binds (ps := ["parts", "f"]) fun _ _ _ _ _ _ us hl => by obtain ⟨_, _, rfl⟩ := len2 hl; rfl
  have b_paired := F_paired.binds (ps := ["left", "right", "f"]) fun _ _ _ _ _ _ us hl => by obtain ⟨_, _, _, rfl⟩ := len3 hl; rfl
  have b_law_cell_at := F_law_cell_at.binds (ps := ["_law_script", "_law_k"]) fun _ _ _ _ _ _ us hl => by obtain ⟨_, _, rfl⟩ := len2 hl; rfl
  have b_law_stream := F_law_stream.binds (ps := ["_law_cell", "_law_size"]) fun _ _ _ _ _ _ us hl => by obtain ⟨_, _, rfl⟩ := len2 hl; rfl
  have b_law_parts := F_law_parts.binds (ps := ["_law_cells"]) fun _ _ _ _ _ _ us hl => by obtain ⟨_, rfl⟩ := len1 hl; rfl
  have b_law_one := F_law_one.binds (ps := ["_law_kind", "_law_number"]) fun _ _ _ _ _ _ us hl => by obtain ⟨_, _, rfl⟩ := len2 hl; rfl
  have b_law_two := F_law_two.binds (ps := ["_law_kind"]) fun _ _ _ _ _ _ us hl => by obtain ⟨_, rfl⟩ := len1 hl; rfl
  have b_law_at := F_law_at.binds (ps := ["_law_parts_here", "_law_s"]) fun _ _ _ _ _ _ us hl => by obtain ⟨_, _, rfl⟩ := len2 hl; rfl
  have T : All l.prog w K mg ⟨f_least, f_kept_pairs, f_add_to, f_one_form, f_least_of, f_mapped, f_paired, f_law_cell_at, f_law_stream, f_law_parts, f_law_one, f_law_two, f_law_at⟩ ⟨_, _, _, _, _, _, _, _, _, _, _, _, _⟩ := {
    m_least := PySem.W.mg_of X G a_least
    k_least := k_least
    F_least := F_least
    b_least := b_least
    m_kept_pairs := PySem.W.mg_of X G a_kept_pairs
    k_kept_pairs := k_kept_pairs
    F_kept_pairs := F_kept_pairs
    b_kept_pairs := b_kept_pairs
    m_add_to := PySem.W.mg_of X G a_add_to
    k_add_to := k_add_to
    F_add_to := F_add_to
    b_add_to := b_add_to
    m_one_form := PySem.W.mg_of X G a_one_form
    k_one_form := k_one_form
    F_one_form := F_one_form
    b_one_form := b_one_form
    m_least_of := PySem.W.mg_of X G a_least_of
    k_least_of := k_least_of
    F_least_of := F_least_of
    b_least_of := b_least_of
    m_mapped := PySem.W.mg_of X G a_mapped
    k_mapped := k_mapped
    F_mapped := F_mapped
    b_mapped := b_mapped
    m_paired := PySem.W.mg_of X G a_paired
    k_paired := k_paired
    F_paired := F_paired
    b_paired := b_paired
    m_law_cell_at := PySem.W.mg_of X G a_law_cell_at
    k_law_cell_at := k_law_cell_at
    F_law_cell_at := F_law_cell_at
    b_law_cell_at := b_law_cell_at
    m_law_stream := PySem.W.mg_of X G a_law_stream
    k_law_stream := k_law_stream
    F_law_stream := F_law_stream
    b_law_stream := b_law_stream
    m_law_parts := PySem.W.mg_of X G a_law_parts
    k_law_parts := k_law_parts
    F_law_parts := F_law_parts
    b_law_parts := b_law_parts
    m_law_one := PySem.W.mg_of X G a_law_one
    k_law_one := k_law_one
    F_law_one := F_law_one
    b_law_one := b_law_one
    m_law_two := PySem.W.mg_of X G a_law_two
    k_law_two := k_law_two
    F_law_two := F_law_two
    b_law_two := b_law_two
    m_law_at := PySem.W.mg_of X G a_law_at
    k_law_at := k_law_at
    F_law_at := F_law_at
    b_law_at := b_law_at
    n_len := PySem.W.mg_none_of X G z_len
    n_range := PySem.W.mg_none_of X G z_range
    n_sorted := PySem.W.mg_none_of X G z_sorted
    n_isinstance := PySem.W.mg_none_of X G z_isinstance
    n_list := PySem.W.mg_none_of X G z_list
    n_max := PySem.W.mg_none_of X G z_max
    n_int := PySem.W.mg_none_of X G z_int
  }
  exact ⟨PySem.W.fnOf "law" "law" (defArgs st_law) (defBody st_law) (defScope st_law) .none kV_law dc_law pm_law an_law cd_law ct_law, P1, P2, fun s v => .of_eq rfl, n_1, n_2, ⟨_, c1, _, _, _, _, a_law_one, l_law_one, rfl, d_1⟩, ⟨_, c2, _, _, _, _, a_law_two, l_law_two, rfl, d_2⟩,
    fun base kb _ bm => ok_law T (P1 := P1) (P2 := P2) ⟨bm, ⟨c1, rfl, PySem.W.codeHd_of_K kb d_1⟩, ⟨c2, rfl, PySem.W.codeHd_of_K kb d_2⟩, ne_12⟩ F_law⟩
theorem walk {l : PySem.W.OpenLaw} {q : Program} {loose : List Str} {XP : (Str → Option Value) → Heap → Prop} {YP : World → Heap → Prop} {d : DefRec} {K : Params → PySem.W.Frag} (hn : l.most = some 63) (hdf : d.params.defaults = [])
    (hx1 : (PyProof.Rows.recsOf q).any (fun d => d.name == ("_law_one" : Str)) = true) (hx2 : (PyProof.Rows.recsOf q).any (fun d => d.name == ("_law_two" : Str)) = true)
    (hY : ∀ (w : World) (h : Heap), YP w h → (K w.params).In h)
    (F : ∀ (w : World) (mg : Str → Option Value) (fa : Addr) (h : Heap), (K w.params).In h → h.Ns mainGlobals mg → mg d.name = some (.ref fa) →
      ∃ (fd : FuncData) (P1 P2 : Addr), (∀ (s : Shared) (u : Value), BindsTo s fd ⟨[u], []⟩ [("_law_script", u)]) ∧ (K w.params).lookup P1 = none ∧ (K w.params).lookup P2 = none ∧
      (∃ f c oc od fd sl, PySem.W.nsIn (K w.params) mainGlobals "_law_one" = some (some (.ref f)) ∧ (K w.params).lookup f = some ⟨oc, od, .func fd, sl⟩ ∧ fd.code = .ref c ∧ PySem.W.codeHdIn (K w.params) c P1 = true) ∧
      (∃ f c oc od fd sl, PySem.W.nsIn (K w.params) mainGlobals "_law_two" = some (some (.ref f)) ∧ (K w.params).lookup f = some ⟨oc, od, .func fd, sl⟩ ∧ fd.code = .ref c ∧ PySem.W.codeHdIn (K w.params) c P2 = true) ∧
      ∀ base : Heap, (K w.params).In base → base.Ns mainGlobals mg → BMain mg base → FnOk l.prog w (K w.params) mg base CX0 9 fa fd ["_law_script"] (spLaw (K w.params) P1 P2)) :
    PySem.W.WalkO q loose XP YP l.row.toRowW d [] (fun f vs => PySem.call f vs) :=
  L2.walk_T (n := 63) (k := 9) (x := "_law_script") (CX := CX0) (sp := spLaw) "_law_one" "_law_two" hn (by decide) hdf ⟨rfl, by decide, by decide⟩ hx1 hx2 hY F (fun _ _ _ _ a ns hl hS h1 h2 => ⟨a, ns, rfl, hS, hl, h1, h2, fun _ => rfl⟩) fun _ _ _ _ z => z
end K53
open PySem PySem.W PyProof.Rows
set_option maxRecDepth 100000 in
set_option maxHeartbeats 0 in
theorem PySem.Challenge.cw_manymakes_k53_mapped_and_paired_holds : PySem.Challenge.rw_manymakes_k53_mapped_and_paired.Holds := by
  w_on; o_law
  refine PySem.W.holds_open (r := OpenLaw.row PySem.Challenge.rw_manymakes_k53_mapped_and_paired) (q := K53.vw) (loose := []) (Xt := K53.xt) (XP := XL K53.vw [])
    (Yf := (kHook K53.pre.heap_1 K53.as K53.ase).obs) (Ya := (kHook K53.pre.heap_1 K53.as K53.ase).val) (YP := (kHook K53.pre.heap_1 K53.as K53.ase).says)
    (N := 1006) K53.left
    ((kHook K53.pre.heap_1 K53.as K53.ase).of) ((kHook K53.pre.heap_1 K53.as K53.ase).keeps) (fun s e => xl_of s (Mm.both_true e).1)
    (XL.keeps) (by rfl) (by rfl) (by rfl) (fun s e => recFacts_of (Mm.both_true e).2)
    (by rfl) (by assumption) (by decide +kernel)
    ⟨rfl, rfl, rfl, rfl, rfl, by decide +kernel⟩ ?hw ?hc
  (case hw => w_witness2)
  k_fill
  refine K53.walk (l := PySem.Challenge.rw_manymakes_k53_mapped_and_paired) rfl rfl (by kernel_rfl) (by kernel_rfl) (fun w h Y => PySem.W.kIn_of Y) ?F
  case F =>
    intro w mg fa h KX G hmg
    refine' K53.all_mk KX G hmg ?a_least ?l_least ?c_least' ?k_least ?a_kept_pairs ?l_kept_pairs ?c_kept_pairs' ?k_kept_pairs ?a_add_to ?l_add_to ?c_add_to' ?k_add_to ?a_one_form ?l_one_form ?c_one_form' ?k_one_form ?a_least_of ?l_least_of ?c_least_of' ?k_least_of ?a_mapped ?l_mapped ?c_mapped' ?k_mapped ?a_paired ?l_paired ?c_paired' ?k_paired ?a_law_cell_at ?l_law_cell_at ?c_law_cell_at' ?k_law_cell_at ?a_law_stream ?l_law_stream ?c_law_stream' ?k_law_stream ?a_law_parts ?l_law_parts ?c_law_parts' ?k_law_parts ?a_law_one ?l_law_one ?c_law_one' ?k_law_one ?a_law_two ?l_law_two ?c_law_two' ?k_law_two ?a_law_at ?l_law_at ?c_law_at' ?k_law_at ?a_law ?l_law ?c_law' ?k_law ?z_len ?z_range ?z_sorted ?z_isinstance ?z_list ?z_max ?z_int (c1 := 84) (c2 := 91) (P1 := 80) (P2 := 87) ?ea ?eb ?da ?db ?na ?nb (by decide)
    (case a_least => k_is)
    (case l_least => k_is)
    (case c_least' => k_is)
    (case k_least => k_is)
    (case a_kept_pairs => k_is)
    (case l_kept_pairs => k_is)
    (case c_kept_pairs' => k_is)
    (case k_kept_pairs => k_is)
    (case a_add_to => k_is)
    (case l_add_to => k_is)
    (case c_add_to' => k_is)
    (case k_add_to => k_is)
    (case a_one_form => k_is)
    (case l_one_form => k_is)
    (case c_one_form' => k_is)
    (case k_one_form => k_is)
    (case a_least_of => k_is)
    (case l_least_of => k_is)
    (case c_least_of' => k_is)
    (case k_least_of => k_is)
    (case a_mapped => k_is)
    (case l_mapped => k_is)
    (case c_mapped' => k_is)
    (case k_mapped => k_is)
    (case a_paired => k_is)
    (case l_paired => k_is)
    (case c_paired' => k_is)
    (case k_paired => k_is)
    (case a_law_cell_at => k_is)
    (case l_law_cell_at => k_is)
    (case c_law_cell_at' => k_is)
    (case k_law_cell_at => k_is)
    (case a_law_stream => k_is)
    (case l_law_stream => k_is)
    (case c_law_stream' => k_is)
    (case k_law_stream => k_is)
    (case a_law_parts => k_is)
    (case l_law_parts => k_is)
    (case c_law_parts' => k_is)
    (case k_law_parts => k_is)
    (case a_law_one => k_is)
    (case l_law_one => k_is)
    (case c_law_one' => k_is)
    (case k_law_one => k_is)
    (case a_law_two => k_is)
    (case l_law_two => k_is)
    (case c_law_two' => k_is)
    (case k_law_two => k_is)
    (case a_law_at => k_is)
    (case l_law_at => k_is)
    (case c_law_at' => k_is)
    (case k_law_at => k_is)
    (case a_law => k_is)
    (case l_law => k_is)
    (case c_law' => k_is)
    (case k_law => k_is)
    (case z_len => k_is)
    (case z_range => k_is)
    (case z_sorted => k_is)
    (case z_isinstance => k_is)
    (case z_list => k_is)
    (case z_max => k_is)
    (case z_int => k_is)
    (case ea => rfl)
    (case eb => rfl)
    (case da => kernel_rfl)
    (case db => kernel_rfl)
    (case na => kernel_rfl)
    (case nb => kernel_rfl)

