import PyProof.Rows.All
import Wide.All
import OpenK.AllK
import Wide.FinOn
import Lean
import PyProof.EqAt
import PyProof.EqKinds
import PyProof.TupleCall
import PyProof.Rows.BitMore
import KE.IntBitsLaws
import KE.KRevIter
import KE.KTryMore
import PyProof.StrLawsRepr
import KE.KIsAll
import KE.RegKIsAll
import KE.RegKTryMore
import PyProof.StrCalls2
import PyProof.StrLawsTight
import PyProof.StrLawsChain
import PyProof.Rows.StrItems
import PyProof.Rows.StrWeight2
import PyProof.EnumMake
import PyProof.EnumStmt
import PyProof.Rows.EnumRows
import PyProof.Rows.EqDataRows
import PyProof.P3Eq
import KE.KRevSl
import PyProof.StrBlock2
import PyProof.Rows.SetFrom
import PyProof.StrWalks
import KE.KIntText
import KE.IntTextLaws
import PyProof.CallStr
import PyProof.StrCalls
import PyProof.Rows.StrCountLaw
import PyProof.SumWalk
import PyProof.Rows.InDataRows
import PySem.Challenge.RW_manymakes_k21_expressions_read
/-! the text's own head: read at once -/
set_option Elab.async false
set_option maxRecDepth 100000
def K21.tq (i : Nat) : PySem.Stmt := PySem.Challenge.pw_manymakes_k21_expressions_read.main.body.getD i (PySem.Stmt.Pass ⟨0, 0, 0, 0⟩)
noncomputable def K21.vw : PySem.Program := { PySem.Challenge.pw_manymakes_k21_expressions_read with main := { PySem.Challenge.pw_manymakes_k21_expressions_read.main with body := [K21.tq 1, K21.tq 2, K21.tq 4, K21.tq 5, K21.tq 6, K21.tq 7, K21.tq 8, K21.tq 9, K21.tq 10, K21.tq 11, K21.tq 12, K21.tq 13, K21.tq 14, K21.tq 15, K21.tq 16, K21.tq 17, K21.tq 19, K21.tq 20, K21.tq 21, K21.tq 22, K21.tq 23, K21.tq 24, K21.tq 25, K21.tq 26, K21.tq 28, K21.tq 29, K21.tq 30, K21.tq 31, K21.tq 32, K21.tq 33, K21.tq 34, K21.tq 35, K21.tq 36, K21.tq 37, K21.tq 38, K21.tq 39] } }
section
open PySem PySem.W PyProof.Rows
theorem Mm.keepIt (_ : Hook) {p : Prop} (h : p) : p := h
section
local macro_rules | `(tactic| o_head $H) => `(tactic| exact Mm.keepIt $H (by assumption))
set_option maxHeartbeats 0 in
theorem K21.pre (h : (OpenLaw.row PySem.Challenge.rw_manymakes_k21_expressions_read).Holds) : (OpenLaw.row PySem.Challenge.rw_manymakes_k21_expressions_read).Holds := by k_head
end
def K21.as : List Addr := [2, 3, 15, 22, 23, 24, 25, 28, 35, 37, 38, 40, 41, 42, 43, 44, 47, 48, 49, 50, 53, 54, 55, 57, 58, 60, 61, 62, 64, 65, 67, 68, 76, 78, 79, 81, 82, 83, 85, 86, 88, 89, 90, 92, 93, 95, 96, 97, 99, 100, 102, 103, 104, 106, 107, 109, 110, 111, 113, 114, 116, 117, 118, 120, 121, 123, 124, 125, 127, 128, 130, 131, 132, 135, 136, 137, 139, 140, 142, 143, 144, 146, 147, 149, 150, 151, 153, 154, 156, 157, 158, 159, 160, 161, 162, 165, 167, 168, 170, 171, 172, 174, 175, 177, 178, 186, 188, 189, 191, 192, 193, 194, 195, 196, 197, 200, 203, 204, 205, 207, 208, 210, 211, 212, 214, 215, 217, 218, 219, 221, 222, 224, 225, 226, 228, 229, 231, 232, 233, 235, 236, 238, 239, 240, 242, 243, 245, 246, 247, 249, 250, 252, 253, 254, 256, 257, 259, 260, 261, 263, 264, 266, 267, 268, 270, 271, 273, 274, 275, 277, 278, 280, 281, 282, 285, 286, 287, 289, 290, 292, 293, 294, 296, 297, 299, 300, 301, 303, 304, 306, 307, 308, 311, 312, 313, 315, 316, 318, 319]
theorem K21.ase (P : Params) : K21.as = (K21.pre.heap_1 P).map (·.1) := by kernel_rfl
theorem Mm.both_true {a b : Bool} (h : (a && b) = true) : a = true ∧ b = true := by cases a <;> cases b <;> simp_all
noncomputable abbrev K21.xt : Shared → Bool := fun s => (xlAt K21.vw [] s) && (recOk (RowW.records (OpenRow.toRowW (OpenLaw.row PySem.Challenge.rw_manymakes_k21_expressions_read))) s)
abbrev Mm.LAt (p q : Program) (loose : List Str) (Xt : Shared → Bool) {α : Type} (Yf : Shared → α) (Ya : World → α) (N : Nat) (w : World) : Prop :=
  Option.map (fun s => (openSeen q loose (importedModules p.main.body) Xt true s, Yf s)) (openEnds treeTable p w N) = some (openGood q loose, Ya w)
set_option maxRecDepth 100000 in
theorem K21.left : LeftO PySem.Challenge.pw_manymakes_k21_expressions_read K21.vw [] K21.xt (kHook K21.pre.heap_1 K21.as K21.ase).obs (kHook K21.pre.heap_1 K21.as K21.ase).val 4336 := fun w => by kernel_rfl
end
-- CHANGE: your row's module here, as the last of these rows
set_option Elab.async false
set_option linter.all false
set_option maxRecDepth 100000
/-! THE HAND LAYER, for ints, bools, texts, own classes, LISTS and tuples (index, slices, in, append, pop ..), calls, loops. Paste it whole ahead of your own text; what your proof does not reach may be deleted. -/
namespace L2
open PySem PySem.Spec PyProof.Rows

/-- a key: an int or a str -/
noncomputable abbrev Key := Sum Int Str
noncomputable def keyIs : Key → Value → Bool
  | .inl k, v => Value.isInt k v
  | .inr x, v => Value.isStrOf x v
noncomputable def keyH (w : World) : Key → Int
  | .inl k => hashInt k
  | .inr x => hashStr w x
theorem keyIs_shape : ∀ {k : Key} {v : Value}, keyIs k v = true → (∃ i t, k = Sum.inl i ∧ v = Value.int i t) ∨ (∃ x t, k = Sum.inr x ∧ v = Value.str x t)
  | .inl i, v, h => by
    obtain ⟨t, e⟩ := Value.isInt_shape (k := i) (v := v) h
    exact .inl ⟨i, t, rfl, e⟩
  | .inr x, v, h => by
    obtain ⟨t, e⟩ := Value.isStrOf_shape (x := x) (v := v) h
    exact .inr ⟨x, t, rfl, e⟩
theorem key_ll (a b : Int) : decide ((Sum.inl a : Key) = Sum.inl b) = (a == b) := by
  by_cases e : a = b
  · subst e; simp
  · have h : ¬ (Sum.inl a : Key) = Sum.inl b := fun q => e (Sum.inl.inj q)
    rw [decide_eq_false h]
    exact (beq_eq_false_iff_ne.mpr e).symm
theorem key_rr (a b : Str) : decide ((Sum.inr a : Key) = Sum.inr b) = decide (a = b) := by
  by_cases e : a = b
  · subst e; simp
  · have h : ¬ (Sum.inr a : Key) = Sum.inr b := fun q => e (Sum.inr.inj q)
    rw [decide_eq_false h, decide_eq_false e]
theorem key_lr (a : Int) (b : Str) : decide ((Sum.inl a : Key) = Sum.inr b) = false := decide_eq_false (fun q => nomatch q)
theorem key_rl (a : Str) (b : Int) : decide ((Sum.inr a : Key) = Sum.inl b) = false := decide_eq_false (fun q => nomatch q)

noncomputable def mixKind (prog : Program) (w : World) : PySem.KeyKind prog w Key where
  is := keyIs
  hash := keyH w
  inj := fun v a b ha hb => by
    rcases keyIs_shape ha with ⟨i, t, rfl, rfl⟩ | ⟨x, t, rfl, rfl⟩
    · rcases keyIs_shape hb with ⟨j, u, rfl, e⟩ | ⟨y, u, rfl, e⟩
      · injection e with e1 _; rw [e1]
      · exact nomatch e
    · rcases keyIs_shape hb with ⟨j, u, rfl, e⟩ | ⟨y, u, rfl, e⟩
      · exact nomatch e
      · injection e with e1 _; rw [e1]
  byValue := fun k v h => by
    rcases keyIs_shape h with ⟨i, t, rfl, rfl⟩ | ⟨x, t, rfl, rfl⟩ <;> rfl
  pyHash := fun hv h => by
    rcases keyIs_shape hv with ⟨i, t, rfl, rfl⟩ | ⟨x, t, rfl, rfl⟩
    · exact wpAny_pyHash_int h
    · exact wpAny_pyHash_str h
  eqBool := fun hu hv h => by
    rcases keyIs_shape hu with ⟨i, t, rfl, rfl⟩ | ⟨x, t, rfl, rfl⟩
    · rcases keyIs_shape hv with ⟨j, u, rfl, rfl⟩ | ⟨y, u, rfl, rfl⟩
      · rw [key_ll] at h; exact wpAny_eqBool_int h
      · rw [key_lr] at h; exact SeqAt.EqAt.int_str i t y u _ _ _ _ h
    · rcases keyIs_shape hv with ⟨j, u, rfl, rfl⟩ | ⟨y, u, rfl, rfl⟩
      · rw [key_rl] at h; exact SeqAt.EqAt.str_int x t j u _ _ _ _ h
      · rw [key_rr] at h; exact wpAny_eqBool_str h
  «strs» := fun k x t v h => by
    rcases keyIs_shape h with ⟨i, u, rfl, e⟩ | ⟨y, u, rfl, e⟩
    · exact nomatch e
    · injection e with e1 _
      subst e1
      cases v <;> rfl

end L2

namespace L2
open PySem PySem.Spec PyProof.Rows

/-- a value, without the heap -/
inductive V where
  | non | bl (b : Bool) | int (i : Int) | str (x : Str) | byt (b : Array UInt8) | flt (b : UInt64) | ref (a : Addr) | ty (n : String)
  deriving DecidableEq

noncomputable def RelV : V → Value → Prop
  | .non, u => u = Value.none
  | .bl b, u => u = Value.bool b
  | .int i, u => ∃ t, u = Value.int i t
  | .str x, u => ∃ t, u = Value.str x t
  | .byt b, u => ∃ t, u = Value.bytes b t
  | .flt b, u => ∃ t, u = Value.float b t
  | .ref a, u => u = Value.ref a
  | .ty n, u => u = Value.type n

noncomputable abbrev Vals : List V → List Value → Prop := Paired RelV
theorem Vals.length {xs : List V} {us : List Value} (r : Vals xs us) : xs.length = us.length := Paired.length r
theorem Vals.get : ∀ {xs : List V} {us : List Value} {i : Nat} {x : V}, Vals xs us → xs[i]? = some x → ∃ u, us[i]? = some u ∧ RelV x u
  | _, _, _, _, .nil, e => by simp at e
  | _, _, 0, _, .cons r _, e => by simp at e; subst e; exact ⟨_, rfl, r⟩
  | _, _, i + 1, x, .cons _ t, e => by
    obtain ⟨u, h1, h2⟩ := Vals.get (i := i) (x := x) t (by simpa using e)
    exact ⟨u, by simpa using h1, h2⟩
theorem Vals.set {x : V} {u : Value} (r : RelV x u) : ∀ {xs : List V} {us : List Value} (i : Nat), Vals xs us → Vals (xs.set i x) (us.set i u)
  | _, _, _, .nil => .nil
  | _, _, 0, .cons _ t => .cons r t
  | _, _, i + 1, .cons q t => .cons q (Vals.set r i t)
theorem Vals.append : ∀ {xs ys : List V} {us ws : List Value}, Vals xs us → Vals ys ws → Vals (xs ++ ys) (us ++ ws)
  | _, _, _, _, .nil, s => s
  | _, _, _, _, .cons r t, s => .cons r (Vals.append t s)
theorem Vals.take : ∀ {xs : List V} {us : List Value} (n : Nat), Vals xs us → Vals (xs.take n) (us.take n)
  | _, _, 0, _ => .nil
  | _, _, _ + 1, .nil => .nil
  | _, _, n + 1, .cons r t => .cons r (Vals.take n t)
theorem Vals.drop : ∀ {xs : List V} {us : List Value} (n : Nat), Vals xs us → Vals (xs.drop n) (us.drop n)
  | _, _, 0, r => r
  | _, _, _ + 1, .nil => .nil
  | _, _, n + 1, .cons _ t => Vals.drop n t
theorem Vals.none_of : ∀ {xs : List V} {us : List Value} {i : Nat}, Vals xs us → xs[i]? = none → us[i]? = none := fun {xs us i} r e => by
  have h1 := r.length
  have h2 : xs.length ≤ i := List.getElem?_eq_none_iff.mp e
  exact List.getElem?_eq_none_iff.mpr (by omega)

noncomputable def RelO : Option V → Option Value → Prop
  | some v, some u => RelV v u
  | none, none => True
  | _, _ => False
noncomputable def KV {κ : Type} : List (κ × V) → List (κ × Value) → Prop := Paired fun (p : κ × V) (q : κ × Value) => p.1 = q.1 ∧ RelV p.2 q.2

/-- a key of a dict (00_mix): an int or a text -/
noncomputable def kV : Key → V
  | .inl i => .int i
  | .inr x => .str x

/-- what stands at a tracked address -/
inductive HO where
  /-- a list -/
  | lst (xs : List V)
  /-- a tuple (never changes) -/
  | tup (xs : List V)
  /-- a dict whose keys are ints and texts; one whose keys are tuples of ints and texts (the empty one is both) -/
  | dK (kvs : List (Key × V)) | dT (kvs : List (List Key × V))
  /-- a set of ints: its members, its size -/
  | set (S : Int → Bool) (n : Nat)
  /-- an instance of the class at C, its dict at dx, its attributes -/
  | ins (C dx : Addr) (fs : List (Str × V))
  /-- the dict of the instance at x -/
  | own (x : Addr)
  /-- the dict of an exception -/
  | xd (fs : List (Str × V))
  /-- a bound method, f of x -/
  | met (f x : Addr)
  /-- a range object lo, lo + 1, .. below hi -/
  | rng (lo hi : Int)
  /-- a thing that is known to the object (the script; a dict while a loop walks it): read, never written while it is so -/
  | frz (o : Obj) (u : HO)
  /-- a code object's table -/
  | tbl (ps : Array Value)
  /-- any other thing, by what is true of its one object (a def of one's own: SetO a S n := HO.ext fun h => ..) -/
  | ext (φ : Heap → Prop)

noncomputable abbrev Hp := Addr → Option HO
noncomputable def upd (H : Hp) (a : Addr) (o : HO) : Hp := fun b => if b = a then some o else H b
theorem upd_same {H : Hp} {a : Addr} {o : HO} : upd H a o a = some o := by unfold upd; rw [if_pos rfl]
theorem upd_ne {H : Hp} {a b : Addr} {o : HO} (h : b ≠ a) : upd H a o b = H b := by unfold upd; rw [if_neg h]
theorem upd_upd {H : Hp} {a : Addr} {o u : HO} : upd (upd H a o) a u = upd H a u := by
  funext b; unfold upd; split <;> rfl
/-- two objects of different content stand apart -/
theorem ne_of {H : Hp} {a b : Addr} {o u : HO} (h : H a = some o) (h' : H b = some u) (d : o ≠ u) : a ≠ b := by
  intro e; subst e; rw [h] at h'; exact d (Option.some.inj h')
theorem ne_of_none {H : Hp} {a b : Addr} {o : HO} (h : H a = some o) (h' : H b = none) : a ≠ b := by
  intro e; subst e; rw [h] at h'; cases h'

section
variable (P : Program) (w : World)
noncomputable def ObjOk (H : Hp) (h : Heap) (a : Addr) : HO → Prop
  | .lst xs => xs.length ≤ sizeLine ∧ ∃ (its : List Value) (n : Nat), Vals xs its ∧ h.get? a = some { cls := .type "list", data := .seq its.toArray n }
  | .tup xs => xs.length ≤ sizeLine ∧ ∃ its : List Value, Vals xs its ∧ IsTup h a its.toArray
  | .dK kvs => kvs.length ≤ sizeLine ∧ (a == sysModules) = false ∧ ∃ vs, KV kvs vs ∧ h.DictOf (mixKind P w) a vs
  | .dT kvs => kvs.length ≤ sizeLine ∧ (a == sysModules) = false ∧ ∃ xs : List (List Key × Addr × Value),
      Paired (fun (p : List Key × V) (q : List Key × Addr × Value) => p.1 = q.1 ∧ H q.2.1 = some (.tup (p.1.map kV)) ∧ RelV p.2 q.2.2) kvs xs ∧
      ∃ o es ep, h.get? a = some o ∧ o.ExactDict ∧ o.data = .dict es ep ∧ es.toList = xs.map (entryOfKey (tupleKind (mixKind P w))) ∧ (xs.map (·.1)).Nodup
  | .set S n => h.SetOf (intKind P w) a S n
  | .ins C dx fs => H dx = some (.own a) ∧ fs.length ≤ 1000 ∧ dx ≠ a ∧ h.get? a = some (PySem.W.instObj C dx) ∧
      ∃ mA, h.Ns1 dx mA ∧ (∀ f, RelO (fs.lookup f) (mA f)) ∧ PySem.Within mA (fs.map (·.1))
  | .own _ => ∃ o, h.get? a = some o
  | .xd fs => ∃ mA, h.Ns1 a mA ∧ ∀ f, RelO (fs.lookup f) (mA f)
  | .rng lo hi => ∃ t u v, h.get? a = some { cls := .type "range", data := .fields #[.int lo t, .int hi u, .int 1 v] }
  | .frz o u => h.get? a = some o ∧ ObjOk H h a u
  | .tbl ps => h.get? a = some { cls := .none, data := .fields ps }
  | .met f x => h.get? a = some (PySem.W.methodObj (.ref f) (.ref x))
  | .ext φ => φ h ∧ (∃ o, h.get? a = some o) ∧ ∀ h1 h2 : Heap, φ h1 → (∀ o, h1.get? a = some o → h2.get? a = some o) → φ h2
/-- the abstract heap is held -/
noncomputable def HOk (H : Hp) (h : Heap) : Prop := ∀ a o, H a = some o → ObjOk P w H h a o
end

section
variable {P : Program} {w : World} {H H' : Hp} {h h' : Heap} {a : Addr} {o : HO}
theorem ObjOk.lt (x : ObjOk P w H h a o) : a < h.objs.size := by
  cases o with
  | lst xs => obtain ⟨_, _, _, _, e⟩ := x; exact Heap.lt_size e
  | tup xs => obtain ⟨_, _, _, p⟩ := x; exact p.lt
  | dK kvs => obtain ⟨_, _, _, _, o, _, _, e, _⟩ := x; exact Heap.lt_size e
  | dT kvs => obtain ⟨_, _, _, _, o, _, _, e, _⟩ := x; exact Heap.lt_size e
  | set S n => obtain ⟨o, _, _, _, e, _⟩ := x; exact Heap.lt_size e
  | ins C dx fs => obtain ⟨_, _, _, e, _⟩ := x; exact Heap.lt_size e
  | own y => obtain ⟨_, e⟩ := x; exact Heap.lt_size e
  | xd fs => obtain ⟨_, ⟨_, _, _, e, _⟩, _⟩ := x; exact Heap.lt_size e
  | rng lo hi => obtain ⟨_, _, _, e⟩ := x; exact Heap.lt_size e
  | frz ob u => obtain ⟨e, _⟩ := x; exact Heap.lt_size e
  | tbl ps => exact Heap.lt_size (show h.get? a = some _ from x)
  | met f y => exact Heap.lt_size (show h.get? a = some _ from x)
  | ext φ => obtain ⟨_, ⟨_, e⟩, _⟩ := x; exact Heap.lt_size e
theorem Paired.mapP {α β : Type} {F G : α → β → Prop} : ∀ {l₁ : List α} {l₂ : List β}, Paired F l₁ l₂ → (∀ a b, F a b → G a b) → Paired G l₁ l₂
  | _, _, .nil, _ => .nil
  | _, _, .cons r t, f => .cons (f _ _ r) (Paired.mapP t f)
/-- what an object's description leans on: its own object, its own dict, the tuples -/
theorem ObjOk.stay (x : ObjOk P w H h a o) (k : ∀ b u, (b = a ∨ H b = some (.own a)) → h.get? b = some u → h'.get? b = some u)
    (ho : ∀ b, H b = some (.own a) → H' b = some (.own a)) (ht : ∀ b xs, H b = some (.tup xs) → H' b = some (.tup xs)) : ObjOk P w H' h' a o := by
  induction o with
  | lst xs => obtain ⟨z, its, n, r, e⟩ := x; exact ⟨z, its, n, r, k _ _ (.inl rfl) e⟩
  | tup xs => obtain ⟨z, its, r, ob, e, c⟩ := x; exact ⟨z, its, r, ob, k _ _ (.inl rfl) e, c⟩
  | dK kvs => obtain ⟨z, y, vs, r, ob, es, ep, e, c⟩ := x; exact ⟨z, y, vs, r, ob, es, ep, k _ _ (.inl rfl) e, c⟩
  | dT kvs =>
    obtain ⟨z, y, xs, r, ob, es, ep, e, c⟩ := x
    exact ⟨z, y, xs, Paired.mapP r fun p q z => ⟨z.1, ht _ _ z.2.1, z.2.2⟩, ob, es, ep, k _ _ (.inl rfl) e, c⟩
  | set S n => obtain ⟨ob, es, ep, t, e, c⟩ := x; exact ⟨ob, es, ep, t, k _ _ (.inl rfl) e, c⟩
  | ins C dx fs =>
    obtain ⟨d, z, ne, e, mA, ⟨od, es, ep, e2, c⟩, r⟩ := x
    exact ⟨ho _ d, z, ne, k _ _ (.inl rfl) e, mA, ⟨od, es, ep, k _ _ (.inr d) e2, c⟩, r⟩
  | own y => obtain ⟨ob, e⟩ := x; exact ⟨ob, k _ _ (.inl rfl) e⟩
  | xd fs => obtain ⟨mA, ⟨od, es, ep, e, c⟩, r⟩ := x; exact ⟨mA, ⟨od, es, ep, k _ _ (.inl rfl) e, c⟩, r⟩
  | rng lo hi => obtain ⟨t, u, v, e⟩ := x; exact ⟨t, u, v, k _ _ (.inl rfl) e⟩
  | frz ob u ih => obtain ⟨e, q⟩ := x; exact ⟨k _ _ (.inl rfl) e, ih q⟩
  | tbl ps =>
    have e : h.get? a = some { cls := .none, data := .fields ps } := x
    show h'.get? a = some { cls := .none, data := .fields ps }
    exact k a _ (.inl rfl) e
  | met f y =>
    have e : h.get? a = some (PySem.W.methodObj (.ref f) (.ref y)) := x
    show h'.get? a = some (PySem.W.methodObj (.ref f) (.ref y))
    exact k a _ (.inl rfl) e
  | ext φ => obtain ⟨p, ⟨o, e⟩, st⟩ := x; exact ⟨st _ _ p fun o q => k _ _ (.inl rfl) q, ⟨o, k _ _ (.inl rfl) e⟩, st⟩
theorem HOk.lt (x : HOk P w H h) (e : H a = some o) : a < h.objs.size := (x a o e).lt
theorem HOk.fresh (x : HOk P w H h) (e : h.objs.size ≤ a) : H a = none := by
  cases q : H a with
  | none => rfl
  | some u => exact absurd (Nat.lt_of_lt_of_le (x.lt q) e) (Nat.lt_irrefl _)
/-- every object of the heap is kept -/
theorem HOk.kept (x : HOk P w H h) (k : ∀ b u, h.get? b = some u → h'.get? b = some u) : HOk P w H h' := fun a o e =>
  (x a o e).stay (fun b u _ q => k b u q) (fun _ q => q) fun _ _ q => q
/-- a new object is laid and tracked -/
theorem HOk.laid (x : HOk P w H h) (k : ∀ b u, h.get? b = some u → h'.get? b = some u) (hp : h.objs.size ≤ a) (new : ObjOk P w (upd H a o) h' a o) : HOk P w (upd H a o) h' := fun b u e => by
  have hn := x.fresh hp
  by_cases hb : b = a
  · subst hb; rw [upd_same] at e; cases e; exact new
  · rw [upd_ne hb] at e
    exact (x b u e).stay (fun c v _ q => k c v q) (fun c q => by rw [upd_ne (ne_of_none q hn)]; exact q) fun c xs q => by rw [upd_ne (ne_of_none q hn)]; exact q
end

/-- what may be read as u: it is u, or a known u -/
noncomputable def Rd (H : Hp) (a : Addr) (u : HO) : Prop := H a = some u ∨ ∃ o, H a = some (.frz o u)
theorem Rd.of {H : Hp} {a : Addr} {u : HO} (h : H a = some u) : Rd H a u := .inl h
theorem Rd.ok {P : Program} {w : World} {H : Hp} {h : Heap} {a : Addr} {u : HO} (r : Rd H a u) (x : HOk P w H h) : ObjOk P w H h a u := by
  rcases r with r | ⟨o, r⟩
  · exact x a u r
  · obtain ⟨_, q⟩ := x a _ r
    exact q
/-- what may be written -/
noncomputable def Mut : Option HO → Prop
  | some (.lst _) => True
  | some (.dK _) => True
  | some (.dT _) => True
  | some (.set _ _) => True
  | some (.ins _ _ _) => True
  | some (.ext _) => True
  | _ => False
section
variable {P : Program} {w : World} {H : Hp} {h h' : Heap} {x e : Addr} {o' : HO}
/-- the object at e is changed: x itself, or the dict of the instance x -/
theorem HOk.write (ok : HOk P w H h) (mu : Mut (H x)) (he : e = x ∨ H e = some (.own x)) (k : ∀ b u, b ≠ e → h.get? b = some u → h'.get? b = some u) (heo : ∃ u, h'.get? e = some u)
    (new : ObjOk P w (upd H x o') h' x o') : HOk P w (upd H x o') h' := fun b u q => by
  have nown : ∀ c y, H c = some (.own y) → c ≠ x := fun c y r z => by subst z; rw [r] at mu; exact mu
  have ntup : ∀ c xs, H c = some (.tup xs) → c ≠ x := fun c xs r z => by subst z; rw [r] at mu; exact mu
  by_cases hb : b = x
  · subst hb; rw [upd_same] at q; cases q; exact new
  · rw [upd_ne hb] at q
    by_cases hbe : b = e
    · have q' : H b = some (.own x) := by
        rcases he with z | z
        · exact absurd (hbe.trans z) hb
        · rw [hbe]; exact z
      rw [q] at q'; cases q'
      obtain ⟨v, hv⟩ := heo
      exact ⟨v, by rw [hbe]; exact hv⟩
    · refine (ok b u q).stay (fun c v hc r => k c v ?_ r) (fun c r => by rw [upd_ne (nown c b r)]; exact r) fun c xs r => by rw [upd_ne (ntup c xs r)]; exact r
      rcases hc with rfl | hc
      · exact hbe
      · rintro rfl
        rcases he with z | z
        · exact nown c b hc z
        · rw [hc] at z; cases z; exact hb rfl
end

/-! ### kept unless tracked; of the frames at fs (the callers') the slots may change (an exception that passes writes there); of the records at ex (iterators) nothing is said -/
structure Un (fs ex : List Addr) (H H' : Hp) (h h' : Heap) : Prop where
  keep : ∀ b o, h.get? b = some o → H b = none → b ∉ fs → b ∉ ex → h'.get? b = some o
  slot : ∀ b o, h.get? b = some o → H b = none → b ∈ fs → b ∉ ex → ∃ sl, h'.get? b = some { o with slots := sl }
  free : ∀ b o, h.get? b = some o → H b = none → b ∉ ex → H' b = none
  there : ∀ b o, h.get? b = some o → b ∉ ex → ∃ o', h'.get? b = some o'
  tups : ∀ b xs, H b = some (.tup xs) → H' b = some (.tup xs)
  frzs : ∀ b o u, H b = some (.frz o u) → H' b = some (.frz o u)
  tbls : ∀ b ps, H b = some (.tbl ps) → ∃ more, H' b = some (.tbl (ps ++ more))
section
variable {fs fs' ex ex' : List Addr} {H H1 H2 : Hp} {h h1 h2 h' : Heap} {a x e : Addr} {o : HO}
theorem Un.any (u : Un fs ex H H1 h h1) {b : Addr} {ob : Obj} (q : h.get? b = some ob) (n : H b = none) (hx : b ∉ ex) : ∃ sl, h1.get? b = some { ob with slots := sl } := by
  by_cases hb : b ∈ fs
  · exact u.slot b ob q n hb hx
  · exact ⟨ob.slots, u.keep b ob q n hb hx⟩
theorem Un.trans (a : Un fs ex H H1 h h1) (b : Un fs ex H1 H2 h1 h2) : Un fs ex H H2 h h2 where
  keep := fun c ob q n hc hx => b.keep c ob (a.keep c ob q n hc hx) (a.free c ob q n hx) hc hx
  slot := fun c ob q n hc hx => by
    obtain ⟨sl, e1⟩ := a.slot c ob q n hc hx
    obtain ⟨sl', e2⟩ := b.slot c _ e1 (a.free c ob q n hx) hc hx
    exact ⟨sl', e2⟩
  free := fun c ob q n hx => by
    obtain ⟨o', e1⟩ := a.there c ob q hx
    exact b.free c o' e1 (a.free c ob q n hx) hx
  there := fun c ob q hx => by
    obtain ⟨o', e1⟩ := a.there c ob q hx
    exact b.there c o' e1 hx
  tups := fun c xs q => b.tups c xs (a.tups c xs q)
  frzs := fun c ob xs q => b.frzs c ob xs (a.frzs c ob xs q)
  tbls := fun c ps q => by
    obtain ⟨m1, e1⟩ := a.tbls c ps q
    obtain ⟨m2, e2⟩ := b.tbls c _ e1
    exact ⟨m1 ++ m2, by rw [e2, Array.append_assoc]⟩
theorem Un.kept (k : ∀ b u, h.get? b = some u → h'.get? b = some u) : Un fs ex H H h h' :=
  ⟨fun b ob q _ _ _ => k b ob q, fun b ob q _ _ _ => ⟨ob.slots, k b ob q⟩, fun _ _ _ n _ => n, fun b ob q _ => ⟨ob, k b ob q⟩, fun _ _ q => q, fun _ _ _ q => q, fun _ ps q => ⟨#[], by rw [q]; simp⟩⟩
theorem Un.refl : Un fs ex H H h h := Un.kept fun _ _ q => q
theorem Un.laid (k : ∀ b u, h.get? b = some u → h'.get? b = some u) (hp : h.objs.size ≤ a) (hn : H a = none) : Un fs ex H (upd H a o) h h' where
  keep := fun b u q _ _ _ => k b u q
  slot := fun b u q _ _ _ => ⟨u.slots, k b u q⟩
  free := fun b u q n _ => by rw [upd_ne (Nat.ne_of_lt (Nat.lt_of_lt_of_le (Heap.lt_size q) hp))]; exact n
  there := fun b u q _ => ⟨u, k b u q⟩
  tups := fun b xs q => by rw [upd_ne (ne_of_none q hn)]; exact q
  frzs := fun b u xs q => by rw [upd_ne (ne_of_none q hn)]; exact q
  tbls := fun b ps q => ⟨#[], by rw [upd_ne (ne_of_none q hn), q]; simp⟩
theorem Un.write (mu : Mut (H x)) (he : e = x ∨ H e = some (.own x)) (k : ∀ b u, b ≠ e → h.get? b = some u → h'.get? b = some u) (heo : ∃ u, h'.get? e = some u) : Un fs ex H (upd H x o) h h' := by
  have hx : ∀ b, H b = none → b ≠ x := fun b n z => by subst z; rw [n] at mu; exact mu
  have hb : ∀ b, H b = none → b ≠ e := fun b n z => by
    subst z
    rcases he with r | r
    · exact hx b n r
    · rw [n] at r; cases r
  have hm : ∀ b u, H b = some u → ¬ Mut (some u) → b ≠ x := fun b u q nm z => by subst z; rw [q] at mu; exact nm mu
  refine ⟨fun b u q n _ _ => k b u (hb b n) q, fun b u q n _ _ => ⟨u.slots, k b u (hb b n) q⟩, fun b u q n _ => by rw [upd_ne (hx b n)]; exact n, fun b u q _ => ?_,
    fun b xs q => by rw [upd_ne (hm b _ q fun z => z)]; exact q, fun b u xs q => by rw [upd_ne (hm b _ q fun z => z)]; exact q, fun b ps q => ⟨#[], by rw [upd_ne (hm b _ q fun z => z), q]; simp⟩⟩
  by_cases hbe : b = e
  · subst hbe; exact heo
  · exact ⟨u, k b u hbe q⟩
theorem Un.mono (u : Un fs ex H H1 h h1) (hs : ∀ b ∈ fs, b ∈ fs') (hx : ∀ b ∈ ex, b ∈ ex') : Un fs' ex' H H1 h h1 :=
  ⟨fun b ob q n hb he => u.keep b ob q n (fun z => hb (hs b z)) fun z => he (hx b z), fun _ _ q n _ he => u.any q n fun z => he (hx _ z), fun b ob q n he => u.free b ob q n fun z => he (hx b z), fun b ob q he => u.there b ob q fun z => he (hx b z), u.tups, u.frzs, u.tbls⟩
end

/-! ### the heap without what is tracked -/
noncomputable def trk (h : Heap) (H : Hp) : List Addr := (List.range h.objs.size).filter fun a => (H a).isSome
noncomputable def hidT (h : Heap) (H : Hp) : Heap := PySem.W.hideAll h (trk h H)
theorem hidT_size (h : Heap) (H : Hp) : (hidT h H).objs.size = h.objs.size := PySem.W.hideAll_size _ _
theorem hidT_get {h : Heap} {H : Hp} {b : Addr} {o : Obj} (e : h.get? b = some o) (n : H b = none) : (hidT h H).get? b = some o :=
  PySem.W.hideAll_get _ e fun hm => by
    have q : (H b).isSome = true := (List.mem_filter.mp hm).2
    rw [n] at q; simp at q
theorem of_hidT {h : Heap} {H : Hp} {b : Addr} {o : Obj} (e : (hidT h H).get? b = some o) : h.get? b = some o ∧ H b = none := by
  have e' : h.get? b = some o := PySem.W.of_hideAll (trk h H) e
  refine ⟨e', ?_⟩
  cases q : H b with
  | none => rfl
  | some x =>
    have hm : b ∈ trk h H := List.mem_filter.mpr ⟨List.mem_range.mpr (Heap.lt_size e'), by simp [q]⟩
    have z : (hidT h H).get? b = none := PySem.W.hideAll_none (trk h H) hm
    rw [z] at e; cases e

/-! ### OpenK's ledger, filled with every new object but one -/
noncomputable def allNews (g h : Heap) (L : Addr) : List (Addr × Obj) := (List.range h.objs.size).filterMap fun a => if a = L ∨ (g.get? a).isSome = true then none else (h.get? a).map fun o => (a, o)
noncomputable def rest (g h : Heap) (L d : Addr) : List (Addr × Obj) := (allNews g h L).filter fun p => decide (p.1 ≠ d)
end L2

namespace L2
open PySem PySem.Spec PyProof.Rows

/-- the module's facts, over the base: the heap at the law's entry without what is tracked there -/
structure Mod (K : PySem.W.Frag) (mg : Str → Option Value) (base : Heap) : Prop where
  kin : K.In base
  glob : base.Ns mainGlobals mg
  blt : ∃ mb, base.Ns builtinsNs mb ∧ ∀ x : Str, x ≠ "__name__" → mb x = bootBuiltins x
  nolimit : base.NoLimit

/-- the context: a def's body (or a comprehension's block) running. base: fixed through the whole law; s₀, H₀: the entry; outer: the frames whose slots others may change (a def's callers); stack: all frames that run;
   ex: iterators that were made ahead of the entry and are walked here (a comprehension's); fn: the names whose cells were made at the entry (a def: all; a comprehension's block: its own); calm: not within an except suite; pn: pins that every state bears; xe: what is wanted of an exception that leaves the code -/
structure Cx where
  prog : Program
  w : World
  K : PySem.W.Frag
  mg : Str → Option Value
  base : Heap
  A : Around
  N : List Str
  s₀ : Shared
  H₀ : Hp
  env : Env
  outer : List Env
  stack : List Env
  ex : List Addr
  fn : Str → Bool
  calm : Bool
  pn : List (Addr × Obj)
  xe : Value → Shared → Prop
/-- the callers' frames -/
noncomputable def frs (l : List Env) : List Addr := l.filterMap (·.frame)
noncomputable abbrev Cx.fs (X : Cx) : List Addr := frs X.outer

noncomputable def Vis (sc : Scope) (x : Str) : Prop := sc.names.lookup x = some .local ∨ sc.names.lookup x = some .cell ∨ sc.names.lookup x = some .free
noncomputable def Loc (sc : Scope) (x : Str) : Prop := sc.names.lookup x = some .local ∨ sc.names.lookup x = some .cell
noncomputable def Look (env : Env) (h : Heap) (m : Str → Option Value) (x : Str) (u : Value) : Prop :=
  (env.kindOf x = some .local ∧ m x = some u) ∨ ((env.kindOf x = some .cell ∨ env.kindOf x = some .free) ∧ ∃ c, env.cells.lookup x = some c ∧ h.IsCell c (some u))

structure Cx.Ok (X : Cx) : Prop where
  mod : Mod X.K X.mg X.base
  kind : X.env.scope.kind = .function
  glob : X.env.globals = mainGlobals
  blt : X.env.builtins = builtinsNs
  above : X.s₀.heap.objs.size ≤ X.env.locals
  inj : ∀ x y c, X.env.cells.lookup x = some c → X.env.cells.lookup y = some c → x = y
  has : ∀ x, (X.env.kindOf x = some .cell ∨ X.env.kindOf x = some .free) → ∃ c, X.env.cells.lookup x = some c
  cab : ∀ x c, X.fn x = true → X.env.cells.lookup x = some c → X.s₀.heap.objs.size ≤ c
  hd : X.calm = true → X.A.handled = none
  frames : X.A.frames = some X.stack
  stk : X.stack = X.outer ∨ (X.stack = X.env :: X.outer ∧ X.env.frame = some X.env.locals)
  exf : ∀ b ∈ X.ex, b ≠ X.env.locals ∧ ∀ x c, X.env.cells.lookup x = some c → c ≠ b
  bs : ∀ b o, X.base.get? b = some o → X.s₀.heap.get? b = some o ∧ X.H₀ b = none
  bsz : X.base.objs.size ≤ X.s₀.heap.objs.size
  noex : ∀ b o, X.base.get? b = some o → b ∉ X.ex
  exfs : ∀ b ∈ X.ex, b ∉ X.fs
  funs : X.s₀.heap.FunFrames X.base X.outer
  frf : ∀ b ∈ X.fs, X.H₀ b = none

structure Inv (X : Cx) (pins : List (Addr × Obj)) (σ : List (Option V)) (H : Hp) (s : Shared) : Prop where
  ok : X.Ok
  os : s.os = X.s₀.os
  bare : AllBare s.gens
  base : Un X.fs X.ex X.H₀ H X.s₀.heap s.heap
  loc : ∃ m, s.heap.Ns X.env.locals m ∧ ∀ (i : Nat) (x : Str) (v : V), X.N[i]? = some x → σ[i]? = some (some v) → Vis X.env.scope x → ∃ u, RelV v u ∧ Look X.env s.heap m x u
  cell : ∀ x c, X.env.cells.lookup x = some c → ∃ v, s.heap.IsCell c v
  free : H X.env.locals = none
  freeC : ∀ x c, X.env.cells.lookup x = some c → H c = none
  pin : ∀ p ∈ X.pn ++ pins, s.heap.get? p.1 = some p.2 ∧ H p.1 = none ∧ p.1 ≠ X.env.locals ∧ p.1 ∉ X.fs ∧ ∀ v, p.2.data ≠ .cell v
  hok : HOk X.prog X.w H s.heap
  len : σ.length = X.N.length

section
variable {X : Cx} {pins : List (Addr × Obj)} {σ : List (Option V)} {H H' : Hp} {s : Shared} {h' : Heap}

theorem Cx.Ok.nofr (ok : X.Ok) {b : Addr} {o : Obj} (e : X.base.get? b = some o) : b ∉ X.fs := fun hb => by
  have := (ok.funs.mem hb).1
  rw [e] at this; cases this
theorem Inv.bs (I : Inv X pins σ H s) : ∀ b o, X.base.get? b = some o → s.heap.get? b = some o ∧ H b = none := fun b o e =>
  ⟨I.base.keep b o (I.ok.bs b o e).1 (I.ok.bs b o e).2 (I.ok.nofr e) (I.ok.noex b o e), I.base.free b o (I.ok.bs b o e).1 (I.ok.bs b o e).2 (I.ok.noex b o e)⟩
theorem Inv.bk (I : Inv X pins σ H s) : ∀ b o, X.base.get? b = some o → s.heap.get? b = some o := fun b o e => (I.bs b o e).1
theorem Inv.mod (I : Inv X pins σ H s) : Mod X.K X.mg X.base := I.ok.mod
theorem Inv.kIn (I : Inv X pins σ H s) : X.K.In s.heap := I.ok.mod.kin.keeps I.bk
theorem Inv.nolimit (I : Inv X pins σ H s) : s.heap.NoLimit := I.ok.mod.nolimit.keeps I.bk
/-- the frame over the base: for OpenK's rules (K.In X.base is I.mod.kin) -/
theorem Inv.fr (I : Inv X pins σ H s) : ∃ m, Fr X.base X.env.locals s.heap m :=
  let ⟨m, hn, _⟩ := I.loc
  ⟨m, hn, I.bk, Nat.le_trans I.ok.bsz I.ok.above⟩
theorem Inv.lt (I : Inv X pins σ H s) : X.env.locals < s.heap.objs.size := by obtain ⟨_, hn, _⟩ := I.loc; exact hn.lt
theorem Inv.sz (I : Inv X pins σ H s) : X.s₀.heap.objs.size ≤ s.heap.objs.size := Nat.le_trans I.ok.above (Nat.le_of_lt I.lt)
theorem Inv.nofs (I : Inv X pins σ H s) {a : Addr} (h : s.heap.objs.size ≤ a) : a ∉ X.fs := fun hb => by
  obtain ⟨_, o, ho, _⟩ := I.ok.funs.mem hb
  exact absurd (Nat.lt_of_lt_of_le (Heap.lt_size ho) (Nat.le_trans I.sz h)) (Nat.lt_irrefl _)
theorem Inv.cne (I : Inv X pins σ H s) : ∀ x c, X.env.cells.lookup x = some c → c ≠ X.env.locals := fun x c e z => by
  obtain ⟨v, o, ho, hd⟩ := I.cell x c e
  obtain ⟨m, ⟨o', es, ep, ho', hd', _⟩, _⟩ := I.loc
  rw [z, ho'] at ho; cases ho; rw [hd'] at hd; cases hd
theorem Inv.funs (I : Inv X pins σ H s) : s.heap.FunFrames X.base X.outer := by
  have all : ∀ (l : List Env), (∀ b ∈ frs l, b ∈ X.fs) → X.s₀.heap.FunFrames X.base l → s.heap.FunFrames X.base l := by
    intro l
    induction l with
    | nil => intro _ _; trivial
    | cons env r ih =>
      intro hs hl
      obtain ⟨hk, ⟨L, o, hf, hn, ho, hd⟩, hr⟩ := hl
      have hL : L ∈ X.fs := hs L (by unfold frs; rw [List.filterMap_cons, hf]; exact List.mem_cons_self)
      obtain ⟨sl, e⟩ := I.base.slot L o ho (I.ok.frf L hL) hL fun z => I.ok.exfs L z hL
      exact ⟨hk, ⟨L, _, hf, hn, e, hd⟩, ih (fun b hb => hs b (by unfold frs; rw [List.filterMap_cons, hf]; exact List.mem_cons_of_mem _ hb)) hr⟩
  exact all X.outer (fun _ hb => hb) I.ok.funs

/-- the frames that run, for a call -/
theorem Inv.stack (I : Inv X pins σ H s) : s.heap.FunFrames X.base X.stack := by
  rcases I.ok.stk with e | ⟨e, hf⟩
  · rw [e]; exact I.funs
  · rw [e]
    obtain ⟨m, hn, _⟩ := I.loc
    refine .cons (by rw [I.ok.kind]; decide) hf hn ?_ I.funs
    exact Heap.get?_none_of_le (Nat.le_trans I.ok.bsz I.ok.above)
theorem Inv.stkSub (I : Inv X pins σ H s) : ∀ b ∈ frs X.stack, b ∈ X.env.locals :: X.fs := fun b hb => by
  rcases I.ok.stk with e | ⟨e, hf⟩
  · rw [e] at hb; exact List.mem_cons_of_mem _ hb
  · rw [e] at hb
    unfold frs at hb
    rw [List.filterMap_cons, hf] at hb
    exact hb
theorem Inv.stkFree (I : Inv X pins σ H s) : ∀ b ∈ frs X.stack, H b = none := fun b hb => by
  rcases List.mem_cons.mp (I.stkSub b hb) with e | hb
  · rw [e]; exact I.free
  · obtain ⟨_, o, ho, _⟩ := I.ok.funs.mem hb
    exact I.base.free b o ho (I.ok.frf b hb) fun z => I.ok.exfs b z hb

/-- THE STEP: the untracked objects but the frame and the records at ch are kept (the callers' frames up to slots), the frame's map is kept, the new abstract heap is held -/
theorem Inv.step {g' : Array GenState} {t' : Nat} {d' : Drawn} {ch : List Addr} (I : Inv X pins σ H s)
    (hch : ∀ b ∈ ch, (b ∈ X.ex ∨ X.s₀.heap.objs.size ≤ b) ∧ b ≠ X.env.locals ∧ (∀ x c, X.env.cells.lookup x = some c → c ≠ b) ∧ ∀ p ∈ X.pn ++ pins, p.1 ≠ b)
    (keep : ∀ b o, b ≠ X.env.locals → b ∉ X.fs → b ∉ ch → s.heap.get? b = some o → H b = none → h'.get? b = some o)
    (slot : ∀ b o, b ≠ X.env.locals → b ∈ X.fs → b ∉ ch → s.heap.get? b = some o → H b = none → ∃ sl, h'.get? b = some { o with slots := sl }) (free : ∀ b o, b ∉ ch → s.heap.get? b = some o → H b = none → H' b = none)
    (there : ∀ b o, b ∉ ch → s.heap.get? b = some o → ∃ o', h'.get? b = some o')
    (tups : ∀ b xs, H b = some (.tup xs) → H' b = some (.tup xs)) (frzs : ∀ b o u, H b = some (.frz o u) → H' b = some (.frz o u)) (tbls : ∀ b ps, H b = some (.tbl ps) → ∃ more, H' b = some (.tbl (ps ++ more)))
    (ns : ∀ m, s.heap.Ns X.env.locals m → h'.Ns X.env.locals m) (hok : HOk X.prog X.w H' h') (hg : AllBare g') :
    Inv X pins σ H' { s with heap := h', gens := g', drawn := d', toks := t' } := by
  have neL : ∀ b o, X.s₀.heap.get? b = some o → b ≠ X.env.locals := fun b o e => Nat.ne_of_lt (Nat.lt_of_lt_of_le (Heap.lt_size e) I.ok.above)
  have neC : ∀ b o, X.s₀.heap.get? b = some o → b ∉ X.ex → b ∉ ch := fun b o e hx hb => by
    rcases (hch b hb).1 with z | z
    · exact hx z
    · exact absurd (Nat.lt_of_lt_of_le (Heap.lt_size e) z) (Nat.lt_irrefl _)
  have cellK : ∀ x c, X.env.cells.lookup x = some c → ∀ v, s.heap.IsCell c v → h'.IsCell c v := fun x c e v ⟨o, ho, hd⟩ => by
    have nch : c ∉ ch := fun z => (hch c z).2.2.1 x c e rfl
    by_cases hc : c ∈ X.fs
    · obtain ⟨sl, q⟩ := slot c o (I.cne x c e) hc nch ho (I.freeC x c e)
      exact ⟨_, q, hd⟩
    · exact ⟨o, keep c o (I.cne x c e) hc nch ho (I.freeC x c e), hd⟩
  refine ⟨I.ok, I.os, hg, ⟨fun b o e n hb hx => ?_, fun b o e n hb hx => ?_, fun b o e n hx => ?_, fun b o e hx => ?_, fun b xs e => tups b xs (I.base.tups b xs e), fun b o xs e => frzs b o xs (I.base.frzs b o xs e), fun b ps e => ?_⟩, ?_, fun x c e => ?_, ?_, fun x c e => ?_, fun p hp => ?_, hok, I.len⟩
  · exact keep b o (neL b o e) hb (neC b o e hx) (I.base.keep b o e n hb hx) (I.base.free b o e n hx)
  · obtain ⟨sl, e1⟩ := I.base.slot b o e n hb hx
    obtain ⟨sl', e2⟩ := slot b _ (neL b o e) hb (neC b o e hx) e1 (I.base.free b o e n hx)
    exact ⟨sl', e2⟩
  · obtain ⟨o', e1⟩ := I.base.there b o e hx
    exact free b o' (neC b o e hx) e1 (I.base.free b o e n hx)
  · obtain ⟨o', e1⟩ := I.base.there b o e hx
    exact there b o' (neC b o e hx) e1
  · obtain ⟨m1, e1⟩ := I.base.tbls b ps e
    obtain ⟨m2, e2⟩ := tbls b _ e1
    exact ⟨m1 ++ m2, by rw [e2, Array.append_assoc]⟩
  · obtain ⟨m, hn, hl⟩ := I.loc
    refine ⟨m, ns m hn, fun i x v e1 e2 e3 => ?_⟩
    obtain ⟨u, r, l⟩ := hl i x v e1 e2 e3
    refine ⟨u, r, ?_⟩
    rcases l with l | ⟨k, c, e, z⟩
    · exact .inl l
    · exact .inr ⟨k, c, e, cellK x c e _ z⟩
  · obtain ⟨v, z⟩ := I.cell x c e
    exact ⟨v, cellK x c e v z⟩
  · obtain ⟨m, ⟨o, _, _, ho, _⟩, _⟩ := I.loc
    exact free _ o (fun z => (hch _ z).2.1 rfl) ho I.free
  · obtain ⟨v, o, ho, hd⟩ := I.cell x c e
    exact free c o (fun z => (hch c z).2.2.1 x c e rfl) ho (I.freeC x c e)
  · obtain ⟨e, n, ne, nf, d⟩ := I.pin p hp
    have nch : p.1 ∉ ch := fun z => (hch p.1 z).2.2.2 p hp rfl
    exact ⟨keep p.1 p.2 ne nf nch e n, free p.1 p.2 nch e n, ne, nf, d⟩
/-- .. where the frame's own object is kept too -/
theorem Inv.un {t' : Nat} (I : Inv X pins σ H s) (u : Un X.fs [] H H' s.heap h') (hok : HOk X.prog X.w H' h') : Inv X pins σ H' { s with heap := h', toks := t' } := by
  obtain ⟨m, ⟨o, es, ep, ho, r⟩, _⟩ := id I.loc
  obtain ⟨sl, hL⟩ := u.any ho I.free (by simp)
  exact I.step (g' := s.gens) (d' := s.drawn) (ch := []) (fun _ z => nomatch z) (fun b o _ hb _ e n => u.keep b o e n hb (by simp)) (fun b o _ hb _ e n => u.slot b o e n hb (by simp)) (fun b o _ e n => u.free b o e n (by simp)) (fun b o _ e => u.there b o e (by simp)) u.tups u.frzs u.tbls (fun m' hm => by
    obtain ⟨o', es', ep', ho', r'⟩ := hm
    rw [ho] at ho'; cases ho'
    exact ⟨_, es', ep', hL, r'⟩) hok I.bare
/-- behind a call (or a comprehension's block): the slots of this frame may have changed too, the records at ch may have turned -/
theorem Inv.call {g' : Array GenState} {t' : Nat} {d' : Drawn} {ch : List Addr} (I : Inv X pins σ H s) (u : Un (frs X.stack) ch H H' s.heap h') (hok : HOk X.prog X.w H' h') (hg : AllBare g')
    (hch : ∀ b ∈ ch, (b ∈ X.ex ∨ X.s₀.heap.objs.size ≤ b) ∧ b ≠ X.env.locals ∧ (∀ x c, X.env.cells.lookup x = some c → c ≠ b) ∧ ∀ p ∈ X.pn ++ pins, p.1 ≠ b) :
    Inv X pins σ H' { s with heap := h', gens := g', drawn := d', toks := t' } := by
  obtain ⟨m, ⟨o, es, ep, ho, r⟩, _⟩ := id I.loc
  obtain ⟨sl, hL⟩ := u.any ho I.free fun z => (hch _ z).2.1 rfl
  exact I.step (ch := ch) hch (fun b o hL hb hc e n => u.keep b o e n (fun z => (List.mem_cons.mp (I.stkSub b z)).elim hL hb) hc) (fun b o _ _ hc e n => u.any e n hc) (fun b o hc e n => u.free b o e n hc) (fun b o hc e => u.there b o e hc) u.tups u.frzs u.tbls (fun m' hm => by
    obtain ⟨o', es', ep', ho', r'⟩ := hm
    rw [ho] at ho'; cases ho'
    exact ⟨_, es', ep', hL, r'⟩) hok hg
/-- an untracked record of ours (an iterator) has turned -/
theorem Inv.turned {t' : Nat} {it : Addr} (I : Inv X pins σ H s) (k : ∀ b o, b ≠ it → s.heap.get? b = some o → h'.get? b = some o) (hn : H it = none) (hL : it ≠ X.env.locals)
    (h1 : it ∈ X.ex ∨ X.s₀.heap.objs.size ≤ it) (h2 : ∀ x c, X.env.cells.lookup x = some c → c ≠ it) (h3 : ∀ p ∈ X.pn ++ pins, p.1 ≠ it) : Inv X pins σ H { s with heap := h', toks := t' } := by
  have nit : ∀ b u, H b = some u → b ≠ it := fun b u e z => by rw [z, hn] at e; cases e
  refine I.step (g' := s.gens) (d' := s.drawn) (ch := [it]) (fun b hb => ?_) (fun b o _ _ hc e _ => k b o (fun z => hc (by simp [z])) e) (fun b o _ _ hc e _ => ⟨o.slots, k b o (fun z => hc (by simp [z])) e⟩) (fun _ _ _ _ n => n)
    (fun b o hc e => ⟨o, k b o (fun z => hc (by simp [z])) e⟩) (fun _ _ e => e) (fun _ _ _ e => e) (fun b ps e => ⟨#[], by rw [e]; simp⟩) (fun m hm => ?_) (fun b u e => ?_) I.bare
  · have e : b = it := by simpa using hb
    subst e
    exact ⟨h1, hL, h2, h3⟩
  · obtain ⟨o, es, ep, ho, r⟩ := hm
    exact ⟨o, es, ep, k _ o (Ne.symm hL) ho, r⟩
  · refine (I.hok b u e).stay (fun c v hc q => k c v ?_ q) (fun _ q => q) fun _ _ q => q
    rcases hc with z | z
    · rw [z]; exact nit b u e
    · exact nit c _ z
theorem Inv.tok (I : Inv X pins σ H s) (t : Nat) : Inv X pins σ H { s with toks := t } := I.un (h' := s.heap) (t' := t) Un.refl I.hok
/-- all objects kept -/
theorem Inv.kept {t' : Nat} (I : Inv X pins σ H s) (k : ∀ b u, s.heap.get? b = some u → h'.get? b = some u) : Inv X pins σ H { s with heap := h', toks := t' } := I.un (Un.kept k) (I.hok.kept k)
/-- a new object laid and tracked -/
theorem Inv.laid {a : Addr} {o : HO} {t' : Nat} (I : Inv X pins σ H s) (k : ∀ b u, s.heap.get? b = some u → h'.get? b = some u) (hp : s.heap.objs.size ≤ a) (new : ObjOk X.prog X.w (upd H a o) h' a o) :
    Inv X pins σ (upd H a o) { s with heap := h', toks := t' } := I.un (Un.laid k hp (I.hok.fresh hp)) (I.hok.laid k hp new)
/-- an object written -/
theorem Inv.write {x e : Addr} {o : HO} {t' : Nat} (I : Inv X pins σ H s) (mu : Mut (H x)) (he : e = x ∨ H e = some (.own x)) (k : ∀ b u, b ≠ e → s.heap.get? b = some u → h'.get? b = some u) (heo : ∃ u, h'.get? e = some u)
    (new : ObjOk X.prog X.w (upd H x o) h' x o) : Inv X pins σ (upd H x o) { s with heap := h', toks := t' } := I.un (Un.write mu he k heo) (I.hok.write mu he k heo new)
theorem Inv.pins_of {pins' : List (Addr × Obj)} (I : Inv X pins σ H s) (h : ∀ p ∈ pins', s.heap.get? p.1 = some p.2 ∧ H p.1 = none ∧ p.1 ≠ X.env.locals ∧ p.1 ∉ X.fs ∧ ∀ v, p.2.data ≠ .cell v) : Inv X pins' σ H s :=
  ⟨I.ok, I.os, I.bare, I.base, I.loc, I.cell, I.free, I.freeC, fun p hp => (List.mem_append.mp hp).elim (fun z => I.pin p (List.mem_append_left _ z)) (h p), I.hok, I.len⟩

theorem nodup_ix {N : List Str} (hN : N.Nodup) {i j : Nat} {x : Str} (a : N[i]? = some x) (b : N[j]? = some x) : i = j := by
  obtain ⟨h1, e1⟩ := List.getElem?_eq_some_iff.mp a
  obtain ⟨h2, e2⟩ := List.getElem?_eq_some_iff.mp b
  exact (List.getElem_inj hN).mp (e1.trans e2.symm)

/-- a name is stored; what changed -/
theorem store_ok2 {M : Model} {A : Around} {E : Value → Shared → Prop} {i : Nat} {x : Str} {v : V} {u : Value} {Q : Unit → Shared → Prop} (I : Inv X pins σ H s) (hN : X.N.Nodup) (hi : X.N[i]? = some x) (hx : Loc X.env.scope x) (r : RelV v u)
    (h : ∀ s', Inv X pins (σ.set i (some v)) H s' → (∃ a, Heap.SameBut a s.heap s'.heap ∧ (a = X.env.locals ∨ X.env.cells.lookup x = some a)) → Q () s') (hf : X.fn x = true ∨ X.env.scope.names.lookup x = some .local := by first | exact .inl rfl | exact .inr rfl | assumption) : wpAny M A (storeName X.env x u) Q E s := by
  obtain ⟨m, hn, hl⟩ := id I.loc
  have hcls : (X.env.scope.kind == .class || (X.env.scope.kind == .module && X.env.locals != X.env.globals)) = false := by rw [I.ok.kind]; rfl
  have hiσ : i < σ.length := by rw [I.len]; exact (List.getElem?_eq_some_iff.mp hi).1
  have cne := I.cne
  have tracked : ∀ {a : Addr} {h' : Heap}, (∃ o, s.heap.get? a = some o ∧ H a = none) → Heap.SameBut a s.heap h' → HOk X.prog X.w H h' := fun {a h'} ha hs b ob e => by
    obtain ⟨_, _, hfree⟩ := ha
    refine (I.hok b ob e).stay (fun c w' hc q => (hs.2 c ?_).trans q) (fun _ q => q) fun _ _ q => q
    rintro rfl
    rcases hc with rfl | hc
    · rw [hfree] at e; cases e
    · rw [hfree] at hc; cases hc
  rcases hx with hk | hk
  · refine wpAny_storeName_local hk hn (fun h' hn' hs => ?_) hcls
    obtain ⟨oL, _, _, hoL, _⟩ := id hn
    refine h _ ⟨I.ok, I.os, I.bare, ⟨fun b o e n hb hx => ?_, fun b o e n hb hx => ?_, I.base.free, fun b o e hx => ?_, I.base.tups, I.base.frzs, I.base.tbls⟩, ⟨_, hn', fun j y v' e1 e2 e3 => ?_⟩, fun y c e => ?_, I.free, I.freeC, fun p hp => ?_, tracked ⟨oL, hoL, I.free⟩ hs, by simpa using I.len⟩ ⟨_, hs, .inl rfl⟩
    · exact (hs.2 b (Nat.ne_of_lt (Nat.lt_of_lt_of_le (Heap.lt_size e) I.ok.above))).trans (I.base.keep b o e n hb hx)
    · obtain ⟨sl, e1⟩ := I.base.slot b o e n hb hx
      exact ⟨sl, (hs.2 b (Nat.ne_of_lt (Nat.lt_of_lt_of_le (Heap.lt_size e) I.ok.above))).trans e1⟩
    · obtain ⟨o', e1⟩ := I.base.there b o e hx
      exact ⟨o', (hs.2 b (Nat.ne_of_lt (Nat.lt_of_lt_of_le (Heap.lt_size e) I.ok.above))).trans e1⟩
    · by_cases hj : j = i
      · subst hj
        rw [hi] at e1; cases e1
        rw [List.getElem?_set_self hiσ] at e2
        cases e2
        exact ⟨u, r, .inl ⟨hk, by simp⟩⟩
      · rw [List.getElem?_set_ne (Ne.symm hj)] at e2
        obtain ⟨u', r', q⟩ := hl j y v' e1 e2 e3
        refine ⟨u', r', ?_⟩
        rcases q with ⟨k, e⟩ | ⟨k, c, e, z⟩
        · refine .inl ⟨k, ?_⟩
          have : y ≠ x := fun e => hj (nodup_ix hN e1 (e ▸ hi))
          simp [this, e]
        · exact .inr ⟨k, c, e, z.sameBut hs (cne y c e)⟩
    · obtain ⟨w', z⟩ := I.cell y c e
      exact ⟨w', z.sameBut hs (cne y c e)⟩
    · obtain ⟨e, n, ne, nf, d⟩ := I.pin p hp
      exact ⟨(hs.2 p.1 ne).trans e, n, ne, nf, d⟩
  · have hfn : X.fn x = true := by
      rcases hf with z | z
      · exact z
      · rw [z] at hk; cases hk
    obtain ⟨c, hc⟩ := I.ok.has x (.inl hk)
    obtain ⟨w', z⟩ := I.cell x c hc
    refine wpAny_storeName_cell I.ok.kind hk hc z (fun h' hc' hs => ?_)
    obtain ⟨oc, hoc, hocd⟩ := id z
    refine h { s with heap := h' } ⟨I.ok, I.os, I.bare, ⟨fun b o e n hb hx => ?_, fun b o e n hb hx => ?_, I.base.free, fun b o e hx => ?_, I.base.tups, I.base.frzs, I.base.tbls⟩, ⟨m, hn.sameBut hs (Ne.symm (cne x c hc)), fun j y v' e1 e2 e3 => ?_⟩, fun y c' e => ?_, I.free, I.freeC, fun p hp => ?_, tracked ⟨oc, hoc, I.freeC x c hc⟩ hs, by simpa using I.len⟩ ⟨c, hs, .inr hc⟩
    · exact (hs.2 b (Nat.ne_of_lt (Nat.lt_of_lt_of_le (Heap.lt_size e) (I.ok.cab x c hfn hc)))).trans (I.base.keep b o e n hb hx)
    · obtain ⟨sl, e1⟩ := I.base.slot b o e n hb hx
      exact ⟨sl, (hs.2 b (Nat.ne_of_lt (Nat.lt_of_lt_of_le (Heap.lt_size e) (I.ok.cab x c hfn hc)))).trans e1⟩
    · obtain ⟨o', e1⟩ := I.base.there b o e hx
      exact ⟨o', (hs.2 b (Nat.ne_of_lt (Nat.lt_of_lt_of_le (Heap.lt_size e) (I.ok.cab x c hfn hc)))).trans e1⟩
    · by_cases hj : j = i
      · subst hj
        rw [hi] at e1; cases e1
        rw [List.getElem?_set_self hiσ] at e2
        cases e2
        exact ⟨u, r, .inr ⟨.inl hk, c, hc, hc'⟩⟩
      · rw [List.getElem?_set_ne (Ne.symm hj)] at e2
        obtain ⟨u', r', q⟩ := hl j y v' e1 e2 e3
        refine ⟨u', r', ?_⟩
        rcases q with q | ⟨k, c', e, z'⟩
        · exact .inl q
        · refine .inr ⟨k, c', e, z'.sameBut hs ?_⟩
          rintro rfl
          exact hj (nodup_ix hN e1 (I.ok.inj _ _ _ e hc ▸ hi))
    · by_cases hcc : c' = c
      · subst hcc; exact ⟨_, hc'⟩
      · obtain ⟨w2, z2⟩ := I.cell y c' e
        exact ⟨w2, z2.sameBut hs hcc⟩
    · obtain ⟨e, n, ne, nf, d⟩ := I.pin p hp
      refine ⟨(hs.2 p.1 ?_).trans e, n, ne, nf, d⟩
      intro q
      rw [q, hoc] at e
      have q' : oc = p.2 := Option.some.inj e
      exact d w' (by rw [← q']; exact hocd)
theorem store_ok {M : Model} {A : Around} {E : Value → Shared → Prop} {i : Nat} {x : Str} {v : V} {u : Value} {Q : Unit → Shared → Prop} (I : Inv X pins σ H s) (hN : X.N.Nodup) (hi : X.N[i]? = some x) (hx : Loc X.env.scope x) (r : RelV v u)
    (h : ∀ s', Inv X pins (σ.set i (some v)) H s' → Q () s') (hf : X.fn x = true ∨ X.env.scope.names.lookup x = some .local := by first | exact .inl rfl | exact .inr rfl | assumption) : wpAny M A (storeName X.env x u) Q E s :=
  store_ok2 I hN hi hx r (fun s' I' _ => h s' I') hf
/-- behind a call or a block, the state as it is -/
theorem Inv.call' {s' : Shared} {ch : List Addr} (I : Inv X pins σ H s) (ho : s'.os = s.os) (u : Un (frs X.stack) ch H H' s.heap s'.heap) (hok : HOk X.prog X.w H' s'.heap) (hg : AllBare s'.gens)
    (hch : ∀ b ∈ ch, (b ∈ X.ex ∨ X.s₀.heap.objs.size ≤ b) ∧ b ≠ X.env.locals ∧ (∀ x c, X.env.cells.lookup x = some c → c ≠ b) ∧ ∀ p ∈ X.pn ++ pins, p.1 ≠ b) : Inv X pins σ H' s' := by
  obtain ⟨h', g', d', t', o'⟩ := s'
  have e : o' = s.os := ho
  subst e
  exact I.call (g' := g') (t' := t') (d' := d') u hok hg hch
end

/-! ### the judgements -/
/-- an exception: its class, its own dict's address (where it has one), the abstract heap behind it -/
noncomputable abbrev XK := Value → Option Addr → Hp → Prop
noncomputable abbrev St := List (Option V)
noncomputable abbrev VK := V → Hp → Prop
/-- an expression's reading; a test's; an argument list's -/
noncomputable abbrev TE := St → Hp → VK → Prop
noncomputable abbrev TT := St → Hp → (Bool → Hp → Prop) → Prop
noncomputable abbrev TA := St → Hp → (List V → Hp → Prop) → Prop
/-- what is wanted behind a statement -/
structure Ends where
  nx : St → Hp → Prop
  rt : VK
  bk : St → Hp → Prop := fun _ _ => False
  ct : St → Hp → Prop := fun _ _ => False
noncomputable abbrev TS := Ends → St → Hp → Prop

noncomputable def EP (X : Cx) (pins : List (Addr × Obj)) (σ : St) (Q : VK) (u : Value) (s' : Shared) : Prop := ∃ v H', Inv X pins σ H' s' ∧ RelV v u ∧ Q v H'
noncomputable def TP (X : Cx) (pins : List (Addr × Obj)) (σ : St) (Q : Bool → Hp → Prop) (b : Bool) (s' : Shared) : Prop := ∃ H', Inv X pins σ H' s' ∧ Q b H'
noncomputable def AP (X : Cx) (pins : List (Addr × Obj)) (σ : St) (Q : List V → Hp → Prop) (us : List Value) (s' : Shared) : Prop := ∃ vs H', Inv X pins σ H' s' ∧ Vals vs us ∧ Q vs H'
noncomputable def SP (X : Cx) (pins : List (Addr × Obj)) (D : Ends) (f : Flow) (s' : Shared) : Prop :=
  match f with
  | .next => ∃ σ' H', Inv X pins σ' H' s' ∧ D.nx σ' H'
  | .brk => ∃ σ' H', Inv X pins σ' H' s' ∧ D.bk σ' H'
  | .cont => ∃ σ' H', Inv X pins σ' H' s' ∧ D.ct σ' H'
  | .ret u => ∃ v σ' H', Inv X pins σ' H' s' ∧ RelV v u ∧ D.rt v H'

noncomputable def PE (X : Cx) (e : Expr) (t : TE) : Prop :=
  ∀ (pins : List (Addr × Obj)) (s : Shared) (σ : St) (H : Hp) (Q : VK), Inv X pins σ H s → t σ H Q → wpAny (model X.prog X.w) X.A (eval e X.env) (EP X pins σ Q) X.xe s
noncomputable def PT (X : Cx) (e : Expr) (t : TT) : Prop :=
  ∀ (pins : List (Addr × Obj)) (s : Shared) (σ : St) (H : Hp) (Q : Bool → Hp → Prop), Inv X pins σ H s → t σ H Q → wpAny (model X.prog X.w) X.A (isTrue e X.env (eval e X.env)) (TP X pins σ Q) X.xe s
/-- a test whatever its 'whole' is (and, or) -/
noncomputable def PW (X : Cx) (e : Expr) (t : TT) : Prop :=
  ∀ (whole : Sem Value) (pins : List (Addr × Obj)) (s : Shared) (σ : St) (H : Hp) (Q : Bool → Hp → Prop), Inv X pins σ H s → t σ H Q → wpAny (model X.prog X.w) X.A (isTrue e X.env whole) (TP X pins σ Q) X.xe s
theorem PW.pt {X : Cx} {e : Expr} {t : TT} (h : PW X e t) : PT X e t := h _
/-- an argument list (no star), from the left -/
noncomputable def PA (X : Cx) (es : List Expr) (t : TA) : Prop :=
  ∀ (pos : Pos) (pins : List (Addr × Obj)) (s : Shared) (σ : St) (H : Hp) (Q : List V → Hp → Prop), Inv X pins σ H s → t σ H Q → wpAny (model X.prog X.w) X.A (spliced (backTo pos (starEach es X.env))) (AP X pins σ Q) X.xe s
noncomputable def PS (X : Cx) (st : Stmt) (t : TS) : Prop :=
  ∀ (pins : List (Addr × Obj)) (s : Shared) (σ : St) (H : Hp) (D : Ends), Inv X pins σ H s → t D σ H → wpAny (model X.prog X.w) X.A (exec st X.env) (SP X pins D) X.xe s
noncomputable def PSs (X : Cx) (st : List Stmt) (t : TS) : Prop :=
  ∀ (pins : List (Addr × Obj)) (s : Shared) (σ : St) (H : Hp) (D : Ends), Inv X pins σ H s → t D σ H → wpAny (model X.prog X.w) X.A (execs st X.env) (SP X pins D) X.xe s
/-- weaken the end -/
theorem thn {α : Type} {t : Sem α} {Q Q' : α → Shared → Prop} {M : Model} {A : Around} {E : Value → Shared → Prop} {s : Shared} (h : wpAny M A t Q E s) (hQ : ∀ a s, Q a s → Q' a s) : wpAny M A t Q' E s := wpAny_mono h hQ fun _ _ x => x
end L2

namespace L2
open PySem PySem.Spec PyProof.Rows
section
variable {X : Cx}

/-! ### names and constants -/
noncomputable def tVar (i : Nat) : TE := fun σ H Q => ∃ v, σ[i]? = some (some v) ∧ Q v H
noncomputable def tC (v : V) : TE := fun _ H Q => Q v H
theorem pe_var {i : Nat} {x : Str} {pos : Pos} (hN : X.N[i]? = some x) (hv : Vis X.env.scope x) (hd : (x == ("__debug__" : Str)) = false := by decide) (hcd : (x == ("__classdict__" : Str)) = false := by decide) : PE X (.Name x pos) (tVar i) := by
  intro pins s σ H Q I h
  obtain ⟨v, e, h⟩ := h
  obtain ⟨m, hn, hl⟩ := I.loc
  obtain ⟨u, r, l⟩ := hl i x v hN e hv
  have fin : EP X pins σ Q u s := ⟨v, H, I, r, h⟩
  rcases l with ⟨hk, hm⟩ | ⟨hk, c, hc, hcell⟩
  · exact wpAny_Name (wpAny_loadName_local I.ok.kind hk hn hm fin) hd
  · rcases hk with hk | hk
    · exact wpAny_Name (wpAny_loadName_cell I.ok.kind hk hc hcell fin) hd
    · exact wpAny_Name (wpAny_loadName_free I.ok.kind hk hc hcell fin hcd) hd
theorem pe_int {i j pos} : PE X (.Constant (.int i) j pos) (tC (.int i)) := fun _ _ _ H _ I h => wpAny_Constant_int ⟨.int i, H, I.tok _, ⟨_, rfl⟩, h⟩
theorem pe_bl {b j pos} : PE X (.Constant (.bool b) j pos) (tC (.bl b)) := fun _ _ _ H _ I h => Constant_bool ⟨.bl b, H, I, rfl, h⟩
theorem pe_non {j pos} : PE X (.Constant .none j pos) (tC .non) := fun _ _ _ H _ I h => Constant_none ⟨.non, H, I, rfl, h⟩
theorem pe_str {x j pos} : PE X (.Constant (.str x) j pos) (tC (.str x)) := fun _ _ _ H _ I h => Calls.Constant_str ⟨.str x, H, I.tok _, ⟨_, rfl⟩, h⟩

/-- a global name of the def -/
noncomputable def Gl (X : Cx) (x : Str) : Prop := X.env.kindOf x = some .globalImplicit
theorem ld_glob {E : Value → Shared → Prop} {pins : List (Addr × Obj)} {s : Shared} {σ : St} {H : Hp} {x : Str} {u : Value} {pos : Pos} {Q : Value → Shared → Prop} (I : Inv X pins σ H s) (hg : Gl X x) (hm : X.mg x = some u) (h : Q u s)
    (hd : (x == ("__debug__" : Str)) = false := by decide) : wpAny (model X.prog X.w) X.A (eval (.Name x pos) X.env) Q E s :=
  Calls.Name_function_global I.ok.kind hg (Calls.loadGlobal_global (by rw [I.ok.glob]; exact I.mod.glob.keeps I.bk) hm h) hd
theorem ld_blt {E : Value → Shared → Prop} {pins : List (Addr × Obj)} {s : Shared} {σ : St} {H : Hp} {x : Str} {u : Value} {pos : Pos} {Q : Value → Shared → Prop} (I : Inv X pins σ H s) (hg : Gl X x) (hm : X.mg x = none) (hv : bootBuiltins x = some u) (h : Q u s)
    (hn : x ≠ "__name__" := by decide) (hd : (x == ("__debug__" : Str)) = false := by decide) : wpAny (model X.prog X.w) X.A (eval (.Name x pos) X.env) Q E s := by
  obtain ⟨mb, h1, h2⟩ := I.mod.blt
  exact Calls.Name_function_global I.ok.kind hg (Calls.loadGlobal_builtin (by rw [I.ok.glob]; exact I.mod.glob.keeps I.bk) hm (by rw [I.ok.blt]; exact h1.keeps I.bk) ((h2 x hn).trans hv) h) hd
/-- a module's constant, a class, a function, as a value -/
theorem pe_glob {x : Str} {v : V} {u : Value} {pos : Pos} (hg : Gl X x) (hm : X.mg x = some u) (r : RelV v u) (hd : (x == ("__debug__" : Str)) = false := by decide) : PE X (.Name x pos) (tC v) :=
  fun _ _ _ H _ I h => ld_glob I hg hm ⟨v, H, I, r, h⟩ hd
/-! ### arithmetic -/
variable {a b : Expr} {ta tb : TE} {pos : Pos}
/-! ### comparisons -/
noncomputable def PC (X : Cx) (op : CmpOp) (a b : Expr) (t : TE) : Prop :=
  ∀ (pins : List (Addr × Obj)) (s : Shared) (σ : St) (H : Hp) (Q : VK), Inv X pins σ H s → t σ H Q →
    wpAny (model X.prog X.w) X.A (eval a X.env) (fun v s₁ => wpAny (model X.prog X.w) X.A (eval b X.env) (fun u s₂ => wpAny (model X.prog X.w) X.A (compareOp op v u) (EP X pins σ Q) X.xe s₂) X.xe s₁) X.xe s
theorem nobehind (b : Expr) {op : CmpOp} (h : op ≠ .In) (h2 : op ≠ .NotIn) : behindInMarks op b = false := by
  have e1 : (op == CmpOp.In) = false := by cases op <;> first | rfl | exact absurd rfl h
  have e2 : (op == CmpOp.NotIn) = false := by cases op <;> first | rfl | exact absurd rfl h2
  cases b <;> simp [behindInMarks, e1, e2]
/-- is None -/
noncomputable def tIsN (ta : TE) : TE := fun σ H Q => ta σ H fun x H1 => Q (.bl (decide (x = .non))) H1
noncomputable def tNotN (ta : TE) : TE := fun σ H Q => ta σ H fun x H1 => Q (.bl (!decide (x = .non))) H1
theorem RelV.none_iff {x : V} {v : Value} (r : RelV x v) : (v == Value.none) = decide (x = .non) := by
  cases x with
  | non => cases r; rfl
  | bl _ => cases r; rfl
  | int _ => obtain ⟨t, rfl⟩ := r; rfl
  | str _ => obtain ⟨t, rfl⟩ := r; rfl
  | byt _ => obtain ⟨t, rfl⟩ := r; rfl
  | flt _ => obtain ⟨t, rfl⟩ := r; rfl
  | ref _ => cases r; rfl
  | ty _ => cases r; rfl
theorem pc_isN {j pos'} (ha : PE X a ta) : PC X .Is a (.Constant .none j pos') (tIsN ta) := by
  intro pins s σ H Q I h
  refine thn (ha pins s σ H _ I h) fun v s1 hsl1 => ?_
  obtain ⟨x, H1, I1, r1, q1⟩ := hsl1
  exact Constant_none (is_none_gen ⟨.bl _, H1, I1, by rw [r1.none_iff]; rfl, q1⟩)
theorem pc_notN {j pos'} (ha : PE X a ta) : PC X .IsNot a (.Constant .none j pos') (tNotN ta) := by
  intro pins s σ H Q I h
  refine thn (ha pins s σ H _ I h) fun v s1 hsl2 => ?_
  obtain ⟨x, H1, I1, r1, q1⟩ := hsl2
  exact Constant_none (isnot_none_gen ⟨.bl _, H1, I1, by rw [r1.none_iff]; rfl, q1⟩)
/-- a comparison as a value, as a test -/
noncomputable def tB (t : TE) : TT := fun σ H Q => t σ H fun x H1 => ∃ c, x = .bl c ∧ Q c H1
theorem pt_cmp {op : CmpOp} {t : TE} (h : PC X op a b t) (h1 : behindInMarks op b = false := by first | exact nobehind _ (by decide) (by decide) | rfl) : PT X (.Compare a [op] [b] pos) (tB t) := by
  intro pins s σ H Q I hw
  refine wpAny_isTrue_Compare1 (thn (h pins s σ H _ I hw) fun v s1 h1 => thn h1 fun u s2 h2 => thn h2 fun c s3 hsl3 => ?_) h1
  obtain ⟨x, H1, I1, r1, q1⟩ := hsl3
  obtain ⟨d, rfl, q⟩ := q1
  cases r1
  exact wpAny_truthy_bool ⟨H1, I1, q⟩
/-- an expression whose value is a bool, as a test -/
theorem pt_val {e : Expr} {t : TE} (h : PE X e t) (he : ∀ whole, isTrue e X.env whole = (do let v ← whole; standAt e.pos; holding [v] (truthy v)) := by intro _; rfl) : PT X e (tB t) := by
  intro pins s σ H Q I hw
  refine isTrue_plain (thn (h pins s σ H _ I hw) fun v s1 hsl4 => ?_) (he _)
  obtain ⟨x, H1, I1, r1, q1⟩ := hsl4
  obtain ⟨d, rfl, q⟩ := q1
  cases r1
  exact wpAny_truthy_bool ⟨H1, I1, q⟩

/-! ### and, or, not -/
variable {tA tB' : TT} {rest : List Expr}
noncomputable def tAnd (t u : TT) : TT := fun σ H Q => t σ H fun c H1 => if c = true then u σ H1 Q else Q false H1
noncomputable def tOr (t u : TT) : TT := fun σ H Q => t σ H fun c H1 => if c = true then Q true H1 else u σ H1 Q
noncomputable def tNot (t : TT) : TT := fun σ H Q => t σ H fun c H1 => Q (!c) H1
theorem pw_and1 (ha : PT X a tA) : PW X (.BoolOp .And [a] pos) tA := by
  intro wh pins s σ H Q I h
  refine isTrue_and (thn (ha pins s σ H Q I h) fun c s1 e => ?_)
  cases c with
  | true => exact isTrue_and_nil e
  | false => exact e
theorem pw_or1 (ha : PT X a tA) : PW X (.BoolOp .Or [a] pos) tA := by
  intro wh pins s σ H Q I h
  refine isTrue_or (thn (ha pins s σ H Q I h) fun c s1 e => ?_)
  cases c with
  | false => exact isTrue_or_nil e
  | true => exact e
theorem pw_and (ha : PT X a tA) (hb : PW X (.BoolOp .And (b :: rest) pos) tB') : PW X (.BoolOp .And (a :: b :: rest) pos) (tAnd tA tB') := by
  intro wh pins s σ H Q I h
  refine isTrue_and (thn (ha pins s σ H _ I h) fun c s1 hsl5 => ?_)
  obtain ⟨H1, I1, q1⟩ := hsl5
  cases c with
  | true => exact hb wh pins s1 σ H1 Q I1 q1
  | false => exact ⟨H1, I1, q1⟩
theorem pw_or (ha : PT X a tA) (hb : PW X (.BoolOp .Or (b :: rest) pos) tB') : PW X (.BoolOp .Or (a :: b :: rest) pos) (tOr tA tB') := by
  intro wh pins s σ H Q I h
  refine isTrue_or (thn (ha pins s σ H _ I h) fun c s1 hsl6 => ?_)
  obtain ⟨H1, I1, q1⟩ := hsl6
  cases c with
  | true => exact ⟨H1, I1, q1⟩
  | false => exact hb wh pins s1 σ H1 Q I1 q1
theorem pt_not (ha : PT X a tA) : PT X (.UnaryOp .Not a pos) (tNot tA) := by
  intro pins s σ H Q I h
  exact isTrue_not (ha pins s σ H (fun c H1 => Q (!c) H1) I h)
/-- .. as values (bools) -/
noncomputable def tAndV (ta tb : TE) : TE := fun σ H Q => ta σ H fun x H1 => ∃ c, x = .bl c ∧ if c = true then tb σ H1 Q else Q (.bl false) H1
noncomputable def tOrV (ta tb : TE) : TE := fun σ H Q => ta σ H fun x H1 => ∃ c, x = .bl c ∧ if c = true then Q (.bl true) H1 else tb σ H1 Q
theorem pe_one {op} {t : TE} (h : PE X a t) : PE X (.BoolOp op [a] pos) t := fun pins s σ H Q I hw => BoolOp_one (h pins s σ H Q I hw)
theorem pe_and (ha : PE X a ta) (hb : PE X (.BoolOp .And (b :: rest) pos) tb) : PE X (.BoolOp .And (a :: b :: rest) pos) (tAndV ta tb) := by
  intro pins s σ H Q I h
  refine BoolOp_and (thn (ha pins s σ H _ I h) fun v s1 hsl7 => ?_)
  obtain ⟨x, H1, I1, r1, q1⟩ := hsl7
  obtain ⟨c, rfl, q1⟩ := q1
  cases r1
  refine wpAny_truthy_bool ?_
  cases c with
  | true => exact hb pins s1 σ H1 Q I1 q1
  | false => exact ⟨.bl false, H1, I1, rfl, q1⟩
theorem pe_or (ha : PE X a ta) (hb : PE X (.BoolOp .Or (b :: rest) pos) tb) : PE X (.BoolOp .Or (a :: b :: rest) pos) (tOrV ta tb) := by
  intro pins s σ H Q I h
  refine BoolOp_or (thn (ha pins s σ H _ I h) fun v s1 hsl8 => ?_)
  obtain ⟨x, H1, I1, r1, q1⟩ := hsl8
  obtain ⟨c, rfl, q1⟩ := q1
  cases r1
  refine wpAny_truthy_bool ?_
  cases c with
  | false => exact hb pins s1 σ H1 Q I1 q1
  | true => exact ⟨.bl true, H1, I1, rfl, q1⟩
/-- a if t else b -/
noncomputable def tIf (t : TT) (ta tb : TE) : TE := fun σ H Q => t σ H fun c H1 => if c = true then ta σ H1 Q else tb σ H1 Q
theorem pe_ifExp {c : Expr} (hc : PT X c tA) (ha : PE X a ta) (hb : PE X b tb) : PE X (.IfExp c a b pos) (tIf tA ta tb) := by
  intro pins s σ H Q I h
  refine wpAny_IfExp (thn (hc pins s σ H _ I h) fun d s1 hsl9 => ?_)
  obtain ⟨H1, I1, q1⟩ := hsl9
  cases d with
  | true => exact ha pins s1 σ H1 Q I1 q1
  | false => exact hb pins s1 σ H1 Q I1 q1
end
end L2

namespace L2
open PySem PySem.Spec PyProof.Rows

/-! ### a list, a tuple that is read: tracked, frozen, or an object of the module -/
noncomputable def SqL (K : PySem.W.Frag) (H : Hp) (a : Addr) (xs : List V) : Prop :=
  Rd H a (.lst xs) ∨
    ∃ (o : Obj) (its : Array Value) (n : Nat), K.lookup a = some o ∧ o.cls = .type "list" ∧ o.dict = none ∧ o.data = .seq its n ∧ its.size ≤ sizeLine ∧ Vals xs its.toList
noncomputable def SqT (K : PySem.W.Frag) (H : Hp) (a : Addr) (xs : List V) : Prop :=
  Rd H a (.tup xs) ∨
    ∃ (o : Obj) (its : Array Value) (n : Nat), K.lookup a = some o ∧ o.cls = .type "tuple" ∧ o.data = .seq its n ∧ its.size ≤ sizeLine ∧ Vals xs its.toList
noncomputable def absV : Value → Option V
  | .none => some .non
  | .bool b => some (.bl b)
  | .int i _ => some (.int i)
  | .str x _ => some (.str x)
  | .bytes b _ => some (.byt b)
  | .float b _ => some (.flt b)
  | .ref a => some (.ref a)
  | .type n => some (.ty n)
  | _ => none
theorem RelV.abs {x : V} {u : Value} (r : RelV x u) : absV u = some x := by
  cases x with
  | non => cases r; rfl
  | bl _ => cases r; rfl
  | int _ => obtain ⟨t, rfl⟩ := r; rfl
  | str _ => obtain ⟨t, rfl⟩ := r; rfl
  | byt _ => obtain ⟨t, rfl⟩ := r; rfl
  | flt _ => obtain ⟨t, rfl⟩ := r; rfl
  | ref _ => cases r; rfl
  | ty _ => cases r; rfl
theorem RelV.inj {x y : V} {u : Value} (r : RelV x u) (q : RelV y u) : x = y := Option.some.inj (r.abs.symm.trans q.abs)
theorem Vals.inj : ∀ {xs ys : List V} {us : List Value}, Vals xs us → Vals ys us → xs = ys
  | _, _, _, .nil, .nil => rfl
  | _, _, _, .cons r t, .cons r' t' => by rw [r.inj r', Vals.inj t t']
section
variable {X : Cx} {pins : List (Addr × Obj)} {σ : St} {H : Hp} {s : Shared} {a : Addr} {xs ys : List V}
theorem SqL.of {K : PySem.W.Frag} (h : H a = some (.lst xs)) : SqL K H a xs := .inl (.inl h)
theorem SqT.of {K : PySem.W.Frag} (h : H a = some (.tup xs)) : SqT K H a xs := .inl (.inl h)
theorem Inv.list (I : Inv X pins σ H s) (h : SqL X.K H a xs) : ∃ its : List Value, Vals xs its ∧ PlainL s.heap a its.toArray ∧ xs.length ≤ sizeLine := by
  rcases h with h | ⟨o, its, n, hk, hc, hd, hs, hz, r⟩
  · obtain ⟨z, its, n, r, e⟩ := h.ok I.hok
    exact ⟨its, r, ⟨_, n, e, rfl, rfl, rfl⟩, z⟩
  · refine ⟨its.toList, r, ⟨o, n, I.kIn a o hk, hc, hd, by simpa using hs⟩, ?_⟩
    have e := r.length
    simp only [Array.length_toList] at e
    omega
theorem Inv.tuple (I : Inv X pins σ H s) (h : SqT X.K H a xs) : ∃ its : List Value, Vals xs its ∧ IsTup s.heap a its.toArray ∧ xs.length ≤ sizeLine := by
  rcases h with h | ⟨o, its, n, hk, hc, hs, hz, r⟩
  · obtain ⟨z, its, r, p⟩ := h.ok I.hok
    exact ⟨its, r, p, z⟩
  · refine ⟨its.toList, r, ⟨o, I.kIn a o hk, hc, n, by simpa using hs⟩, ?_⟩
    have e := r.length
    simp only [Array.length_toList] at e
    omega
theorem Inv.list_inj (I : Inv X pins σ H s) (h : SqL X.K H a xs) (h' : SqL X.K H a ys) : xs = ys := by
  obtain ⟨its, r, ⟨o, n, e, _, _, d⟩, _⟩ := I.list h
  obtain ⟨its', r', ⟨o', n', e', _, _, d'⟩, _⟩ := I.list h'
  rw [e] at e'; cases e'
  rw [d] at d'
  injection d' with d1 _
  have : its = its' := by simpa using congrArg Array.toList d1
  subst this
  exact r.inj r'
theorem Inv.tuple_inj (I : Inv X pins σ H s) (h : SqT X.K H a xs) (h' : SqT X.K H a ys) : xs = ys := by
  obtain ⟨its, r, ⟨o, e, _, n, d⟩, _⟩ := I.tuple h
  obtain ⟨its', r', ⟨o', e', _, n', d'⟩, _⟩ := I.tuple h'
  rw [e] at e'; cases e'
  rw [d] at d'
  injection d' with d1 _
  have : its = its' := by simpa using congrArg Array.toList d1
  subst this
  exact r.inj r'
end

/-! ### another wish about exceptions -/
noncomputable abbrev Cx.wish (X : Cx) (E : Value → Shared → Prop) : Cx := { X with xe := E }
/-- no exception leaves -/
noncomputable abbrev Cx.nox (X : Cx) : Cx := X.wish fun _ _ => False
theorem Cx.Ok.wish {X : Cx} (ok : X.Ok) (E : Value → Shared → Prop) : (X.wish E).Ok :=
  ⟨ok.mod, ok.kind, ok.glob, ok.blt, ok.above, ok.inj, ok.has, ok.cab, ok.hd, ok.frames, ok.stk, ok.exf, ok.bs, ok.bsz, ok.noex, ok.exfs, ok.funs, ok.frf⟩
theorem Cx.Ok.unwish {X : Cx} {E : Value → Shared → Prop} (ok : (X.wish E).Ok) : X.Ok :=
  ⟨ok.mod, ok.kind, ok.glob, ok.blt, ok.above, ok.inj, ok.has, ok.cab, ok.hd, ok.frames, ok.stk, ok.exf, ok.bs, ok.bsz, ok.noex, ok.exfs, ok.funs, ok.frf⟩
section
variable {X : Cx} {pins : List (Addr × Obj)} {σ : St} {H : Hp} {s : Shared} {E : Value → Shared → Prop}
theorem Inv.wish (I : Inv X pins σ H s) (E : Value → Shared → Prop) : Inv (X.wish E) pins σ H s := ⟨I.ok.wish E, I.os, I.bare, I.base, I.loc, I.cell, I.free, I.freeC, I.pin, I.hok, I.len⟩
theorem Inv.unwish (I : Inv (X.wish E) pins σ H s) : Inv X pins σ H s := ⟨I.ok.unwish, I.os, I.bare, I.base, I.loc, I.cell, I.free, I.freeC, I.pin, I.hok, I.len⟩
theorem SP.unwish {D : Ends} {f : Flow} {s' : Shared} (h : SP (X.wish E) pins D f s') : SP X pins D f s' := by
  cases f with
  | next => obtain ⟨σ', H', I, q⟩ := h; exact ⟨σ', H', I.unwish, q⟩
  | brk => obtain ⟨σ', H', I, q⟩ := h; exact ⟨σ', H', I.unwish, q⟩
  | cont => obtain ⟨σ', H', I, q⟩ := h; exact ⟨σ', H', I.unwish, q⟩
  | ret u => obtain ⟨v, σ', H', I, r, q⟩ := h; exact ⟨v, σ', H', I.unwish, r, q⟩
theorem PE.nox {e : Expr} {t : TE} (h : PE X.nox e t) : PE X e t := fun pins s σ H Q I hw =>
  wpAny_mono (h pins s σ H Q (I.wish _) hw) (fun _ _ hsl10 => by obtain ⟨v, H', I', r, q⟩ := hsl10; exact ⟨v, H', I'.unwish, r, q⟩) fun _ _ z => False.elim z
theorem PT.nox {e : Expr} {t : TT} (h : PT X.nox e t) : PT X e t := fun pins s σ H Q I hw =>
  wpAny_mono (h pins s σ H Q (I.wish _) hw) (fun _ _ hsl11 => by obtain ⟨H', I', q⟩ := hsl11; exact ⟨H', I'.unwish, q⟩) fun _ _ z => False.elim z
theorem PSs.nox {st : List Stmt} {t : TS} (h : PSs X.nox st t) : PSs X st t := fun pins s σ H D I hw =>
  wpAny_mono (h pins s σ H D (I.wish _) hw) (fun _ _ q => q.unwish) fun _ _ z => False.elim z
end

/-! ### blocks and small statements -/
section
variable {X : Cx} {st : Stmt} {rest : List Stmt} {t u : TS} {e : Expr} {te : TE} {pos : Pos}
noncomputable def tNext : TS := fun D σ H => D.nx σ H
noncomputable def tSeq (t u : TS) : TS := fun D σ H => t { D with nx := u D } σ H
theorem pss_nil : PSs X [] tNext := fun _ _ σ H _ I h => wpAny_execs_nil ⟨σ, H, I, h⟩
theorem pss_cons (h1 : PS X st t) (h2 : PSs X rest u) : PSs X (st :: rest) (tSeq t u) := by
  intro pins s σ H D I h
  refine wpAny_execs_cons (thn (h1 pins s σ H { D with nx := u D } I h) fun f s1 q => ?_)
  cases f with
  | next =>
    obtain ⟨σ', H', I', q⟩ := q
    exact h2 pins s1 σ' H' D I' q
  | ret v => exact q
  | brk => exact q
  | cont => exact q
theorem pss_one (h1 : PS X st t) : PSs X [st] t := by
  intro pins s σ H D I h
  refine wpAny_execs_cons (thn (h1 pins s σ H D I h) fun f s1 q => ?_)
  cases f with
  | next => exact wpAny_execs_nil q
  | ret v => exact q
  | brk => exact q
  | cont => exact q
/-- in a def's body nothing is shown -/
theorem Inv.quiet {pins : List (Addr × Obj)} {σ : St} {H : Hp} {s : Shared} (I : Inv X pins σ H s) : interactive X.env = false := by simp [interactive, I.ok.kind]
/-- an expression whose value is dropped -/
noncomputable def tDrop (te : TE) : TS := fun D σ H => te σ H fun _ H1 => D.nx σ H1
theorem ps_expr (he : PE X e te) (hs : swapsWith e none pos.line X.env = pure false := by rfl) : PS X (.Expr e pos) (tDrop te) := by
  intro pins s σ H D I h
  exact wpAny_Expr_any (thn (he pins s σ H _ I h) fun v s1 hsl12 => by obtain ⟨x, H1, I1, r1, q1⟩ := hsl12; exact ⟨σ, H1, I1, q1⟩) I.quiet hs
noncomputable def tRet (te : TE) : TS := fun D σ H => te σ H D.rt
theorem ps_ret (he : PE X e te) : PS X (.Return (some e) pos) (tRet te) := by
  intro pins s σ H D I h
  exact wpAny_Return_some (thn (he pins s σ H _ I h) fun v s1 hsl13 => by obtain ⟨x, H1, I1, r1, q1⟩ := hsl13; exact ⟨x, σ, H1, I1, r1, q1⟩)
noncomputable def tIfS (c : TT) (t u : TS) : TS := fun D σ H => c σ H fun b H1 => if b = true then t D σ H1 else u D σ H1
theorem ps_if {c : Expr} {a b : List Stmt} {tc : TT} (hc : PT X c tc) (ha : PSs X a t) (hb : PSs X b u) : PS X (.If c a b pos) (tIfS tc t u) := by
  intro pins s σ H D I h
  refine wpAny_If (thn (hc pins s σ H _ I h) fun d s1 hsl14 => ?_)
  obtain ⟨H1, I1, q1⟩ := hsl14
  cases d with
  | true => exact ha pins s1 σ H1 D I1 q1
  | false => exact hb pins s1 σ H1 D I1 q1
/-- code that the proof never comes to -/
noncomputable def tNever : TS := fun _ _ _ => False
theorem pss_never {sts : List Stmt} : PSs X sts tNever := fun _ _ _ _ _ _ h => h.elim
end

/-! ### targets -/
noncomputable abbrev TG := V → St → Hp → (St → Hp → Prop) → Prop
noncomputable abbrev TGs := List V → St → Hp → (St → Hp → Prop) → Prop
noncomputable def PG (X : Cx) (target : Expr) (t : TG) : Prop :=
  ∀ (pins : List (Addr × Obj)) (s : Shared) (σ : St) (H : Hp) (v : V) (u : Value) (Q : St → Hp → Prop), Inv X pins σ H s → RelV v u → t v σ H Q →
    wpAny (model X.prog X.w) X.A (assign target X.env u) (fun _ s' => ∃ σ' H', Inv X pins σ' H' s' ∧ Q σ' H') X.xe s
/-- several targets, one after another -/
noncomputable def PGs (X : Cx) (ts : List Expr) (t : TGs) : Prop :=
  ∀ (pins : List (Addr × Obj)) (s : Shared) (σ : St) (H : Hp) (vs : List V) (us : List Value) (Q : St → Hp → Prop), Inv X pins σ H s → Vals vs us → t vs σ H Q →
    wpAny (model X.prog X.w) X.A (assignInOrder ((assignEach ts X.env).map (·.2)) us) (fun _ s' => ∃ σ' H', Inv X pins σ' H' s' ∧ Q σ' H') X.xe s
section
variable {X : Cx} {pos : Pos}
noncomputable def gName (i : Nat) : TG := fun v σ H Q => Q (σ.set i (some v)) H
theorem pg_name {i : Nat} {x : Str} (hN : X.N.Nodup) (hi : X.N[i]? = some x) (hx : Loc X.env.scope x) (hf : X.fn x = true ∨ X.env.scope.names.lookup x = some .local := by first | exact .inl rfl | exact .inr rfl | assumption) : PG X (.Name x pos) (gName i) := by
  intro pins s σ H v u Q I r h
  exact wpAny_assign_Name (store_ok I hN hi hx r (fun s' I' => ⟨_, H, I', h⟩) hf)
noncomputable def gNil : TGs := fun vs σ H Q => vs = [] ∧ Q σ H
noncomputable def gCons (t : TG) (u : TGs) : TGs := fun vs σ H Q => ∃ v r, vs = v :: r ∧ t v σ H fun σ' H' => u r σ' H' Q
theorem pgs_nil : PGs X [] gNil := by
  intro pins s σ H vs us Q I r h
  obtain ⟨e, h⟩ := h
  subst e
  cases r
  exact assignInOrder_nil ⟨σ, H, I, h⟩
theorem pgs_cons {e : Expr} {es : List Expr} {t : TG} {u : TGs} (h1 : PG X e t) (h2 : PGs X es u)
    (hs : (assignEach (e :: es) X.env).map (·.2) = assign e X.env :: (assignEach es X.env).map (·.2) := by rfl) : PGs X (e :: es) (gCons t u) := by
  intro pins s σ H vs us Q I r h
  obtain ⟨v, vr, e1, h⟩ := h
  subst e1
  cases r with
  | cons r rr =>
    rw [hs]
    refine assignInOrder_cons (thn (h1 pins s σ H _ _ _ I r h) fun _ s1 hsl15 => ?_)
    obtain ⟨σ1, H1, I1, q1⟩ := hsl15
    exact h2 pins s1 σ1 H1 _ _ Q I1 rr q1
/-- (a, b, ..) = a tuple of that length -/
noncomputable def gTup (K : PySem.W.Frag) (n : Nat) (t : TGs) : TG := fun v σ H Q => ∃ a xs, v = .ref a ∧ SqT K H a xs ∧ xs.length = n ∧ t xs σ H Q
theorem pg_tup {es : List Expr} {k : Nat} {t : TGs} {n : Nat} (hc : X.calm = true) (h : PGs X es t)
    (hn : (assignEach es X.env).length = n := by rfl) (hst : (assignEach es X.env).findIdx? (·.1) = none := by rfl) : PG X (.Tuple es k pos) (gTup X.K n t) := by
  intro pins s σ H v u Q I r hw
  obtain ⟨a, xs, e1, hq, hl, hw⟩ := hw
  subst e1
  cases r
  obtain ⟨its, rv, ht, hz⟩ := I.tuple hq
  refine assign_Tuple_tuple (I.ok.hd hc) ht (by simp [hn, ← hl, rv.length]) hst fun h' hx => ?_
  have I1 : Inv X pins σ H { s with heap := h' } := I.kept (t' := s.toks) fun b o e => hx b o (Nat.ne_of_lt (Heap.lt_size e)) e
  exact h pins _ σ H xs _ Q I1 (by simpa using rv) hw
/-- target = value -/
noncomputable def tAsg (te : TE) (g : TG) : TS := fun D σ H => te σ H fun x H1 => g x σ H1 D.nx
theorem ps_asg {tg e : Expr} {te : TE} {g : TG} (he : PE X e te) (hg : PG X tg g) (hs : swapsWithSole [tg] e pos.line X.env = pure false := by rfl) (hw : swappedStores [tg] e X.env = pure none := by rfl)
    (h1 : (assignEach [tg] X.env).map (·.2) = [assign tg X.env] := by rfl) : PS X (.Assign [tg] e pos) (tAsg te g) := by
  intro pins s σ H D I h
  refine wpAny_Assign_stores (thn (he pins s σ H _ I h) fun v s1 hsl16 => ?_) hs hw
  obtain ⟨x, H1, I1, r1, q1⟩ := hsl16
  rw [h1]
  exact thn (hg pins s1 σ H1 x v _ I1 r1 q1) fun _ s2 q => q
/-- name = value -/
theorem ps_set {i : Nat} {x : Str} {e : Expr} {te : TE} {pos' : Pos} (hN : X.N.Nodup) (hi : X.N[i]? = some x) (hx : Loc X.env.scope x) (he : PE X e te) (hs : swapsWith e (some (.Name x pos')) pos.line X.env = pure false := by rfl) (hf : X.fn x = true ∨ X.env.scope.names.lookup x = some .local := by first | exact .inl rfl | exact .inr rfl | assumption) :
    PS X (.Assign [.Name x pos'] e pos) (tAsg te (gName i)) := by
  intro pins s σ H D I h
  refine wpAny_Assign_Name (thn (he pins s σ H _ I h) fun v s1 hsl17 => ?_) hs
  obtain ⟨y, H1, I1, r1, q1⟩ := hsl17
  exact store_ok I1 hN hi hx r1 (fun s2 I2 => ⟨_, H1, I2, q1⟩) hf
end

/-! ### while -/
section
variable {X : Cx} {pos : Pos}
/-- the invariant W with its measure -/
noncomputable def tWhile (c : TT) (tb : TS) : TS := fun D σ H => ∃ W : Nat → St → Hp → Prop, (∃ m, W m σ H) ∧ ∀ m σ H, W m σ H →
  c σ H fun b H1 => if b = true then ∃ N : St → Hp → Prop, (∀ σ' H', N σ' H' → ∃ m', m' < m ∧ W m' σ' H') ∧ tb { D with nx := N, ct := N, bk := D.nx } σ H1 else D.nx σ H1
theorem ps_while {c : Expr} {body : List Stmt} {tc : TT} {tb : TS} (hp : PassesOwn (model X.prog X.w) X.A X.env X.xe) (hc : PT X c tc) (hb : PSs X body tb) : PS X (.While c body [] pos) (tWhile tc tb) := by
  intro pins s σ H D I h
  obtain ⟨W, ⟨m0, w0⟩, turn⟩ := h
  refine wpAny_While (codeAny_whileLoop (fun n s' => ∃ σ' H', Inv X pins σ' H' s' ∧ W n σ' H') ?_ m0 ⟨σ, H, I, w0⟩)
  rintro n s1 ⟨σ1, H1, I1, w1⟩
  refine wpAny_passesOwn hp (thn (hc pins s1 σ1 H1 _ I1 (turn n σ1 H1 w1)) fun b s2 hsl18 => ?_)
  obtain ⟨H2, I2, q2⟩ := hsl18
  cases b with
  | true =>
    obtain ⟨N, hN, q2⟩ := q2
    rw [if_pos rfl]
    refine wpAny_passesOwn hp (thn (hb pins s2 σ1 H2 _ I2 q2) fun f s3 q3 => ?_)
    cases f with
    | next =>
      obtain ⟨σ3, H3, I3, n3⟩ := q3
      obtain ⟨m', hm, w3⟩ := hN σ3 H3 n3
      exact ⟨m', hm, σ3, H3, I3, w3⟩
    | cont =>
      obtain ⟨σ3, H3, I3, n3⟩ := q3
      obtain ⟨m', hm, w3⟩ := hN σ3 H3 n3
      exact ⟨m', hm, σ3, H3, I3, w3⟩
    | brk => exact q3
    | ret v => exact q3
  | false =>
    rw [if_neg Bool.false_ne_true]
    exact wpAny_execs_nil ⟨σ1, H2, I2, q2⟩
end

/-! ### what a loop or a comprehension walks -/
/-- at turn i: it yields x (the heap may grow), or it stops -/
structure It where
  go : Nat → Hp → Prop
  yld : Nat → Hp → V → Hp → Prop
  stop : Nat → Hp → Prop
/-- the iterator's own objects may turn: they are not the frame's, not pinned, younger than the entry (or a comprehension's own) -/
noncomputable def FpOk (X : Cx) (pins : List (Addr × Obj)) (H : Hp) (b : Addr) : Prop :=
  H b = none ∧ b ≠ X.env.locals ∧ b ∉ X.fs ∧ (b ∈ X.ex ∨ X.s₀.heap.objs.size ≤ b) ∧ (∀ x c, X.env.cells.lookup x = some c → c ≠ b) ∧ ∀ p ∈ X.pn ++ pins, p.1 ≠ b
theorem Inv.fpOk {X : Cx} {pins : List (Addr × Obj)} {σ : St} {H H' : Hp} {s : Shared} {b : Addr} (I : Inv X pins σ H s) (hb : s.heap.objs.size ≤ b) (hn : H' b = none) : FpOk X pins H' b := by
  refine ⟨hn, Nat.ne_of_gt (Nat.lt_of_lt_of_le I.lt hb), I.nofs hb, .inr (Nat.le_trans I.sz hb), fun x c e z => ?_, fun p hp z => ?_⟩
  · obtain ⟨v, q⟩ := I.cell x c e
    exact absurd (Nat.lt_of_lt_of_le q.lt (by rw [z]; exact hb)) (Nat.lt_irrefl _)
  · exact absurd (Nat.lt_of_lt_of_le (Heap.lt_size (I.pin p hp).1) (by rw [z]; exact hb)) (Nat.lt_irrefl _)
structure Turn (P : Program) (w : World) (K : PySem.W.Frag) (tg : Expr) (J : It) (fp : List Addr) (it : Addr) (tn : Nat → Heap → Prop) : Prop where
  mem : it ∈ fp
  obj : ∀ i h, tn i h → ∀ b ∈ fp, ∃ o, h.get? b = some o ∧ ∀ v, o.data ≠ .cell v
  keep : ∀ i h h', tn i h → (∀ b ∈ fp, ∀ o, h.get? b = some o → h'.get? b = some o) → tn i h'
  item : ∀ (X : Cx), X.prog = P → X.w = w → X.K = K → X.calm = true → ∀ (i : Nat) (pins : List (Addr × Obj)) (s : Shared) (σ : St) (H : Hp) (E : Value → Shared → Prop), Inv X pins σ H s → (∀ b ∈ fp, FpOk X pins H b) → tn i s.heap → J.go i H →
    wpAny (model P w) X.A (pyNext (.ref it)) (fun r s1 => ∃ u, r = some u ∧
      wpAny (model P w) X.A (letOwnedTupleGo tg (.ref it) u) (fun _ s2 => ∃ x H', Inv X pins σ H' s2 ∧ RelV x u ∧ J.yld i H x H' ∧ tn (i + 1) s2.heap ∧ ∀ b ∈ fp, H' b = none) E s1) E s
  done : ∀ (X : Cx), X.prog = P → X.w = w → X.K = K → X.calm = true → ∀ (i : Nat) (pins : List (Addr × Obj)) (s : Shared) (σ : St) (H : Hp) (E : Value → Shared → Prop), Inv X pins σ H s → (∀ b ∈ fp, FpOk X pins H b) → tn i s.heap → J.stop i H →
    wpAny (model P w) X.A (pyNext (.ref it)) (fun r s1 => r = none ∧ Inv X pins σ H s1) E s
  self : ∀ (A : Around) (i : Nat) (s : Shared) (Q : Value → Shared → Prop) (E : Value → Shared → Prop), tn i s.heap → Q (.ref it) s → wpAny (model P w) A (pyIter (.ref it)) Q E s
noncomputable abbrev TI := St → Hp → (It → Hp → Prop) → Prop
/-- an iterator has come -/
noncomputable def PIE (X : Cx) (pins : List (Addr × Obj)) (σ : St) (tg : Expr) (R : It → Hp → Prop) (itv : Value) (s2 : Shared) : Prop :=
  ∃ (it : Addr) (fp : List Addr) (tn : Nat → Heap → Prop) (J : It) (H' : Hp), itv = .ref it ∧ Inv X pins σ H' s2 ∧ Turn X.prog X.w X.K tg J fp it tn ∧ tn 0 s2.heap ∧ (∀ b ∈ fp, FpOk X pins H' b) ∧ R J H'
noncomputable def PI (X : Cx) (tg iter : Expr) (wi : TI) : Prop :=
  ∀ (pins : List (Addr × Obj)) (s : Shared) (σ : St) (H : Hp) (R : It → Hp → Prop), Inv X pins σ H s → wi σ H R →
    wpAny (model X.prog X.w) X.A (eval iter X.env) (fun v s1 => wpAny (model X.prog X.w) X.A (pyIter v) (PIE X pins σ tg R) X.xe s1) X.xe s

/-- the step ahead of the store is nothing for an iterator that keeps no tuple -/
theorem go_of {M : Model} {A : Around} {E : Value → Shared → Prop} {s : Shared} {tg : Expr} {it : Addr} {u : Value} {o : Obj} {n : String} {vs : Array Value} {Q : Unit → Shared → Prop} (ho : s.heap.get? it = some o) (hc : o.cls = .type n) (hd : o.data = .fields vs)
    (hn : ["enumerate", "zip", "dict_itemiterator", "dict_reverseitemiterator", "odict_iterator", "itertools.zip_longest", "itertools.pairwise"].contains n = false) (hQ : Q () s) : wpAny M A (letOwnedTupleGo tg (.ref it) u) Q E s := by
  unfold letOwnedTupleGo
  cases tg <;> first
    | exact wpAny_pure hQ
    | (cases u <;> first
        | exact wpAny_pure hQ
        | (refine wpAny_bind (wpAny_load ho ?_)
           rw [hc, hd]
           show wpAny M A (if (["enumerate", "zip", "dict_itemiterator", "dict_reverseitemiterator", "odict_iterator", "itertools.zip_longest", "itertools.pairwise"].contains n && vs[0]? == some (rawInt _)) = true then _ else _) Q E s
           rw [if_neg (by intro h; rw [hn, Bool.false_and] at h; cases h)]
           exact wpAny_pure hQ))

/-- the list at a, as it stands at each turn (a loop may append to it) -/
noncomputable def Itl (K : PySem.W.Frag) (a : Addr) : It :=
  ⟨fun i H => ∃ xs x, SqL K H a xs ∧ xs[i]? = some x, fun i H x H' => H' = H ∧ ∀ xs, SqL K H a xs → xs[i]? = some x, fun i H => ∃ xs, SqL K H a xs ∧ xs.length ≤ i⟩
noncomputable def Itt (K : PySem.W.Frag) (a : Addr) : It :=
  ⟨fun i H => ∃ xs x, SqT K H a xs ∧ xs[i]? = some x, fun i H x H' => H' = H ∧ ∀ xs, SqT K H a xs → xs[i]? = some x, fun i H => ∃ xs, SqT K H a xs ∧ xs.length ≤ i⟩
/-- lo, lo + 1, .. (n of them) -/
noncomputable def Itr (lo : Int) (n : Nat) : It := ⟨fun i _ => i < n, fun i H x H' => H' = H ∧ x = .int (lo + i), fun i _ => n ≤ i⟩
theorem turn_list {P : Program} {w : World} {K : PySem.W.Frag} {tg : Expr} (a it : Addr) : Turn P w K tg (Itl K a) [it] it (fun i h => h.IsListIter it a i) where
  mem := by simp
  obj := fun i h st b hb => by
    have e : b = it := by simpa using hb
    subst e
    obtain ⟨o, e, c, d⟩ := st
    exact ⟨o, e, fun v z => by rw [d] at z; cases z⟩
  keep := fun i h h' st k => st.at fun o e => k it (by simp) o e
  item := by
    intro X hP hw hK hc i pins s σ H E I hf st hg
    subst hP hw hK
    obtain ⟨xs, x, hq, hx⟩ := hg
    obtain ⟨its, rv, p, hz⟩ := I.list hq
    obtain ⟨u, hu, ru⟩ := rv.get hx
    obtain ⟨f0, f1, f2, f3, f4, f5⟩ := hf it (by simp)
    refine wpAny_pyNext_list_item st p.isList (x := u) (by simpa using hu) fun h' st' sb => ?_
    have I1 : Inv X pins σ H { s with heap := h' } := I.turned (t' := s.toks) (fun b o hb e => (sb.2 b hb).trans e) f0 f1 f3 f4 f5
    obtain ⟨o, e, c, d⟩ := id st'
    exact ⟨u, rfl, go_of (s := { s with heap := h' }) e c d (by decide) ⟨x, H, I1, ru, ⟨rfl, fun ys hy => by rw [I.list_inj hy hq]; exact hx⟩, st', fun b hb => (hf b hb).1⟩⟩
  done := by
    intro X hP hw hK hc i pins s σ H E I hf st hg
    subst hP hw hK
    obtain ⟨xs, hq, hx⟩ := hg
    obtain ⟨its, rv, p, hz⟩ := I.list hq
    obtain ⟨f0, f1, f2, f3, f4, f5⟩ := hf it (by simp)
    have hl := rv.length
    exact wpAny_pyNext_list_end (I.ok.hd hc) st p.isList (by simp; omega) fun h' eb => ⟨rfl, I.turned (t' := s.toks) (fun b o hb e => eb b o hb e) f0 f1 f3 f4 f5⟩
  self := fun _ _ _ _ _ st h => wpAny_pyIter_listiter st h
theorem turn_tuple {P : Program} {w : World} {K : PySem.W.Frag} {tg : Expr} (a it : Addr) : Turn P w K tg (Itt K a) [it] it (fun i h => h.IsTupleIter it a i) where
  mem := by simp
  obj := fun i h st b hb => by
    have e : b = it := by simpa using hb
    subst e
    obtain ⟨o, e, c, d⟩ := st
    exact ⟨o, e, fun v z => by rw [d] at z; cases z⟩
  keep := fun i h h' st k => st.at fun o e => k it (by simp) o e
  item := by
    intro X hP hw hK hc i pins s σ H E I hf st hg
    subst hP hw hK
    obtain ⟨xs, x, hq, hx⟩ := hg
    obtain ⟨its, rv, p, hz⟩ := I.tuple hq
    obtain ⟨u, hu, ru⟩ := rv.get hx
    obtain ⟨f0, f1, f2, f3, f4, f5⟩ := hf it (by simp)
    refine wpAny_pyNext_tuple_item st (show s.heap.IsTuple a its.toArray from p) (x := u) (by simpa using hu) fun h' st' sb => ?_
    have I1 : Inv X pins σ H { s with heap := h' } := I.turned (t' := s.toks) (fun b o hb e => (sb.2 b hb).trans e) f0 f1 f3 f4 f5
    obtain ⟨o, e, c, d⟩ := id st'
    exact ⟨u, rfl, go_of (s := { s with heap := h' }) e c d (by decide) ⟨x, H, I1, ru, ⟨rfl, fun ys hy => by rw [I.tuple_inj hy hq]; exact hx⟩, st', fun b hb => (hf b hb).1⟩⟩
  done := by
    intro X hP hw hK hc i pins s σ H E I hf st hg
    subst hP hw hK
    obtain ⟨xs, hq, hx⟩ := hg
    obtain ⟨its, rv, p, hz⟩ := I.tuple hq
    obtain ⟨f0, f1, f2, f3, f4, f5⟩ := hf it (by simp)
    have hl := rv.length
    exact wpAny_pyNext_tuple_end (I.ok.hd hc) st (show s.heap.IsTuple a its.toArray from p) (by simp; omega) fun h' eb => ⟨rfl, I.turned (t' := s.toks) (fun b o hb e => eb b o hb e) f0 f1 f3 f4 f5⟩
  self := fun _ _ _ _ _ st h => wpAny_pyIter_tupleiter st h
theorem turn_range {P : Program} {w : World} {K : PySem.W.Frag} {tg : Expr} (it : Addr) (lo : Int) (n : Nat) : Turn P w K tg (Itr lo n) [it] it (fun i h => IsRangeIter h it (lo + (i : Nat) * 1) ((n : Int) - (i : Nat)) 1) where
  mem := by simp
  obj := fun i h st b hb => by
    have e : b = it := by simpa using hb
    subst e
    exact ⟨_, st, fun v z => by
      have z' : Data.fields _ = Data.cell v := z
      cases z'⟩
  keep := fun i h h' st k => k it (by simp) _ st
  item := by
    intro X hP hw hK hc i pins s σ H E I hf st hg
    subst hP hw hK
    obtain ⟨f0, f1, f2, f3, f4, f5⟩ := hf it (by simp)
    have W := Walks.range (prog := X.prog) (w := X.w) (I.ok.hd hc) it lo 1 n
    refine W.item i s _ _ hg st fun v h' tk hv st' kk => ?_
    obtain ⟨t, rfl⟩ := hv
    have I1 : Inv X pins σ H { s with heap := h', toks := tk } := I.turned (fun b o hb e => kk b o (by simpa using hb) e) f0 f1 f3 f4 f5
    refine ⟨_, rfl, go_of (s := { s with heap := h', toks := tk }) (n := "range_iterator") st' rfl rfl (by decide) ⟨.int (lo + i), H, I1, ⟨t, ?_⟩, ⟨rfl, rfl⟩, st', fun b hb => (hf b hb).1⟩⟩
    rw [Int.mul_one]
  done := by
    intro X hP hw hK hc i pins s σ H E I hf st hg
    subst hP hw hK
    obtain ⟨f0, f1, f2, f3, f4, f5⟩ := hf it (by simp)
    exact wpAny_pyNext_range_end (I.ok.hd hc) st (by have : n ≤ i := hg; omega) fun h' eb => ⟨rfl, I.turned (t' := s.toks) (fun b o hb e => eb b o hb e) f0 f1 f3 f4 f5⟩
  self := fun _ _ _ _ _ st h => wpAny_pyIter_rangeiter st h
end L2

namespace L2
open PySem PySem.Spec PyProof.Rows
section
variable {X : Cx} {tg : Expr}
noncomputable def iList (K : PySem.W.Frag) (tl : TE) : TI := fun σ H R => tl σ H fun x H1 => ∃ a, x = .ref a ∧ (∃ xs, SqL K H1 a xs) ∧ R (Itl K a) H1
noncomputable def iTup (K : PySem.W.Frag) (tl : TE) : TI := fun σ H R => tl σ H fun x H1 => ∃ a, x = .ref a ∧ (∃ xs, SqT K H1 a xs) ∧ R (Itt K a) H1
theorem pi_list {l : Expr} {tl : TE} (hl : PE X l tl) : PI X tg l (iList X.K tl) := by
  intro pins s σ H R I h
  refine thn (hl pins s σ H _ I h) fun v s1 hsl19 => ?_
  obtain ⟨x, H1, I1, r1, q1⟩ := hsl19
  obtain ⟨a, e, ⟨xs, hq⟩, q⟩ := q1
  subst e
  cases r1
  obtain ⟨its, rv, p, hz⟩ := I1.list hq
  refine wpAny_pyIter_list p.isList ?_
  refine ⟨s1.heap.objs.size, [s1.heap.objs.size], _, _, H1, rfl, I1.kept (t' := s1.toks) fun b o e => Heap.get?_push_of_some _ e, turn_list a _, ⟨_, Heap.get?_push_size _ rfl, rfl, rfl⟩, fun b hb => ?_, q⟩
  have e : b = s1.heap.objs.size := by simpa using hb
  subst e
  exact I1.fpOk (Nat.le_refl _) (I1.hok.fresh (Nat.le_refl _))
theorem pi_tup {l : Expr} {tl : TE} (hl : PE X l tl) : PI X tg l (iTup X.K tl) := by
  intro pins s σ H R I h
  refine thn (hl pins s σ H _ I h) fun v s1 hsl20 => ?_
  obtain ⟨x, H1, I1, r1, q1⟩ := hsl20
  obtain ⟨a, e, ⟨xs, hq⟩, q⟩ := q1
  subst e
  cases r1
  obtain ⟨its, rv, p, hz⟩ := I1.tuple hq
  refine wpAny_pyIter_tuple (show s1.heap.IsTuple a its.toArray from p) ?_
  refine ⟨s1.heap.objs.size, [s1.heap.objs.size], _, _, H1, rfl, I1.kept (t' := s1.toks) fun b o e => Heap.get?_push_of_some _ e, turn_tuple a _, ⟨_, Heap.get?_push_size _ rfl, rfl, rfl⟩, fun b hb => ?_, q⟩
  have e : b = s1.heap.objs.size := by simpa using hb
  subst e
  exact I1.fpOk (Nat.le_refl _) (I1.hok.fresh (Nat.le_refl _))
/-- a range object just made, walked -/
theorem range_it {pins : List (Addr × Obj)} {σ : St} {H : Hp} {s : Shared} {R : It → Hp → Prop} {E : Value → Shared → Prop} {lo hi : Int} {t u v : Tok} {tk : Nat} (I : Inv X pins σ H s) (h1 : -(2 ^ 62) ≤ lo) (h2 : lo < 2 ^ 62) (h3 : -(2 ^ 62) ≤ hi) (h4 : hi < 2 ^ 62)
    (q : R (Itr lo (hi - lo).toNat) H) : wpAny (model X.prog X.w) X.A (pyIter (.ref s.heap.objs.size)) (PIE X pins σ tg R) E { s with heap := s.heap.push { cls := .type "range", data := .fields #[.int lo t, .int hi u, .int 1 v] }, toks := tk } := by
  refine wpAny_pyIter_range (IsRange.new ..) (small_one h1 h2 h3 h4) ?_
  have I1 : Inv X pins σ H { s with heap := s.heap.push { cls := .type "range", data := .fields #[.int lo t, .int hi u, .int 1 v] }, toks := tk } := I.kept fun b o e => Heap.get?_push_of_some _ e
  refine ⟨(s.heap.push { cls := .type "range", data := .fields #[.int lo t, .int hi u, .int 1 v] }).objs.size, [(s.heap.push { cls := .type "range", data := .fields #[.int lo t, .int hi u, .int 1 v] }).objs.size], _, _, H, rfl,
    I1.kept (t' := tk) fun b o e => Heap.get?_push_of_some _ e, turn_range _ lo (hi - lo).toNat, ?_, fun b hb => ?_, q⟩
  · have e1 : lo + ((0 : Nat) : Int) * 1 = lo := by simp
    have e2 : (((hi - lo).toNat : Nat) : Int) - ((0 : Nat) : Int) = Builtin.Range.rangeSize lo hi 1 := by rw [rangeSize_one]; split <;> omega
    show IsRangeIter _ _ (lo + ((0 : Nat) : Int) * 1) ((((hi - lo).toNat : Nat) : Int) - ((0 : Nat) : Int)) 1
    rw [e1, e2]
    exact Heap.get?_push_size _ rfl
  · have e : b = (s.heap.push { cls := .type "range", data := .fields #[.int lo t, .int hi u, .int 1 v] }).objs.size := by simpa using hb
    subst e
    exact I1.fpOk (Nat.le_refl _) (I1.hok.fresh (Nat.le_refl _))
noncomputable def iRng1 (ta : TA) : TI := fun σ H R => ta σ H fun vs H1 => ∃ j : Int, vs = [.int j] ∧ -(2 ^ 62) ≤ j ∧ j < 2 ^ 62 ∧ R (Itr 0 j.toNat) H1
theorem pi_range1 {a : Expr} {ta : TA} {p pos : Pos} (hg : Gl X "range") (hm : X.mg "range" = none) (ha : PA X [a] ta) (hs : starEach [a] X.env = [(false, eval a X.env)] := by rfl) : PI X tg (.Call (.Name "range" p) [a] [] pos) (iRng1 ta) := by
  intro pins s σ H R I h
  refine Call_ (ld_blt I hg hm boot_range (PyProof.Rows.callWith_type1 (thn (ha pos pins s σ H _ I h) fun us s1 hsl21 => ?_) hs rfl))
  obtain ⟨vs, H1, I1, r1, q1⟩ := hsl21
  obtain ⟨j, e, q1, q2, q⟩ := q1
  subst e
  cases r1 with
  | cons r rr =>
    cases rr
    obtain ⟨t, rfl⟩ := r
    exact call_range_1 (range_it I1 (by omega) (by omega) q1 q2 (by simpa using q))
/-! ### for -/
/-- W: the invariant by the turn and a measure; N: what the body is to reach -/
noncomputable def tFor (wi : TI) (g : TG) (tb : TS) : TS := fun D σ H => wi σ H fun J H1 => ∃ W : Nat → Nat → St → Hp → Prop, (∃ m, W 0 m σ H1) ∧ ∀ i m σ H, W i m σ H →
  (J.stop i H ∧ D.nx σ H) ∨ (J.go i H ∧ ∃ N : St → Hp → Prop, (∀ σ' H', N σ' H' → ∃ m', m' < m ∧ W (i + 1) m' σ' H') ∧ ∀ x H', J.yld i H x H' → g x σ H' fun σ2 H2 => tb { D with nx := N, ct := N, bk := D.nx } σ2 H2)
/-- the records at fp as they stand -/
noncomputable def pinsAt (fp : List Addr) (h : Heap) : List (Addr × Obj) := fp.filterMap fun b => (h.get? b).map fun o => (b, o)
theorem mem_pinsAt {fp : List Addr} {h : Heap} {b : Addr} {o : Obj} (hb : b ∈ fp) (e : h.get? b = some o) : (b, o) ∈ pinsAt fp h := List.mem_filterMap.mpr ⟨b, hb, by rw [e]; rfl⟩
theorem of_pinsAt {fp : List Addr} {h : Heap} {p : Addr × Obj} (hp : p ∈ pinsAt fp h) : p.1 ∈ fp ∧ h.get? p.1 = some p.2 := by
  obtain ⟨b, hb, e⟩ := List.mem_filterMap.mp hp
  cases q : h.get? b with
  | none => rw [q] at e; cases e
  | some o =>
    rw [q] at e
    have e' : (b, o) = p := Option.some.inj e
    subst e'
    exact ⟨hb, q⟩
theorem Inv.pinned {pins : List (Addr × Obj)} {σ : St} {H : Hp} {s : Shared} {fp : List Addr} (I : Inv X pins σ H s) (hf : ∀ b ∈ fp, FpOk X pins H b) (ho : ∀ b ∈ fp, ∃ o, s.heap.get? b = some o ∧ ∀ v, o.data ≠ .cell v) : Inv X (pins ++ pinsAt fp s.heap) σ H s :=
  I.pins_of fun p hp => (List.mem_append.mp hp).elim (fun z => I.pin p (List.mem_append_right _ z)) fun z => by
    obtain ⟨hb, e⟩ := of_pinsAt z
    obtain ⟨f0, f1, f2, _⟩ := hf p.1 hb
    obtain ⟨o, e', d⟩ := ho p.1 hb
    rw [e] at e'; cases e'
    exact ⟨e, f0, f1, f2, d⟩
theorem Inv.unpinned {pins pl : List (Addr × Obj)} {σ : St} {H : Hp} {s : Shared} (I : Inv X (pins ++ pl) σ H s) : Inv X pins σ H s := I.pins_of fun p hp => I.pin p (List.mem_append_right _ (List.mem_append_left _ hp))
theorem ps_for {iter : Expr} {body : List Stmt} {wi : TI} {g : TG} {tb : TS} {pos : Pos} (hp : PassesOwn (model X.prog X.w) X.A X.env X.xe) (hc : X.calm = true) (hi : PI X tg iter wi) (hg : PG X tg g) (hb : PSs X body tb)
    (hs : ∀ x, foldedSetIterable iter X.env x = pure x := by intro _; rfl) : PS X (.For tg iter body [] pos) (tFor wi g tb) := by
  intro pins s σ H D I h
  refine wpAny_For (thn (hi pins s σ H _ I h) fun v s1 h1 => thn h1 fun itv s2 h2 => ?_) hs
  obtain ⟨it, fp, tn, J, H2, e, I2, T, st2, f2, W, ⟨m0, w0⟩, turn⟩ := h2
  subst e
  -- what stays true of the iterator's objects through the loop
  have stat : ∀ {H' : Hp}, (∀ b ∈ fp, H' b = none) → ∀ b ∈ fp, FpOk X pins H' b := fun hn b hb => ⟨hn b hb, (f2 b hb).2⟩
  refine codeAny_forLoop_any (fun n s' => ∃ i σ' H', Inv X pins σ' H' s' ∧ tn i s'.heap ∧ (∀ b ∈ fp, H' b = none) ∧ W i n σ' H') ?_ m0 ⟨0, σ, H2, I2, st2, fun b hb => (f2 b hb).1, w0⟩
  rintro n s3 ⟨i, σ3, H3, I3, st3, fr3, w3⟩
  rcases turn i n σ3 H3 w3 with ⟨stop, qn⟩ | ⟨go, N, hN, step⟩
  · refine wpAny_passesOwn hp (thn (T.done X rfl rfl rfl hc i pins s3 σ3 H3 X.xe I3 (stat fr3) st3 stop) fun r s4 hsl22 => ?_)
    obtain ⟨hr, I4⟩ := hsl22
    subst hr
    exact wpAny_execs_nil ⟨σ3, H3, I4, qn⟩
  · refine wpAny_passesOwn hp (thn (T.item X rfl rfl rfl hc i pins s3 σ3 H3 X.xe I3 (stat fr3) st3 go) fun r s4 hsl23 => ?_)
    obtain ⟨u, hr, h4⟩ := hsl23
    subst hr
    refine wpAny_passesOwn hp (thn h4 fun _ s5 hsl24 => ?_)
    obtain ⟨x, H5, I5, r5, y5, st5, fr5⟩ := hsl24
    have I5' := I5.pinned (stat fr5) (T.obj _ _ st5)
    refine wpAny_passesOwn hp (thn (hg _ s5 σ3 H5 x u _ I5' r5 (step x H5 y5)) fun _ s6 hsl25 => ?_)
    obtain ⟨σ6, H6, I6, q6⟩ := hsl25
    refine wpAny_passesOwn hp (thn (hb _ s6 σ6 H6 _ I6 q6) fun f s7 q7 => ?_)
    have again : ∀ {σ7 : St} {H7 : Hp}, Inv X (pins ++ pinsAt fp s5.heap) σ7 H7 s7 → N σ7 H7 → ∃ m, m < n ∧ ∃ i σ' H', Inv X pins σ' H' s7 ∧ tn i s7.heap ∧ (∀ b ∈ fp, H' b = none) ∧ W i m σ' H' := fun {σ7 H7} I7 n7 => by
      obtain ⟨m', hm, w7⟩ := hN σ7 H7 n7
      refine ⟨m', hm, i + 1, σ7, H7, I7.unpinned, T.keep _ _ _ st5 fun b hb o e => (I7.pin (b, o) (List.mem_append_right _ (List.mem_append_right _ (mem_pinsAt hb e)))).1, fun b hb => ?_, w7⟩
      obtain ⟨o, e, d⟩ := T.obj _ _ st5 b hb
      exact (I7.pin (b, o) (List.mem_append_right _ (List.mem_append_right _ (mem_pinsAt hb e)))).2.1
    cases f with
    | next => obtain ⟨σ7, H7, I7, n7⟩ := q7; exact again I7 n7
    | cont => obtain ⟨σ7, H7, I7, n7⟩ := q7; exact again I7 n7
    | brk => obtain ⟨σ7, H7, I7, q7⟩ := q7; exact ⟨σ7, H7, I7.unpinned, q7⟩
    | ret v => obtain ⟨x7, σ7, H7, I7, r7, q7⟩ := q7; exact ⟨x7, σ7, H7, I7.unpinned, r7, q7⟩
end

/-! ### the forms one uses -/
/-- over a list that the body leaves as it is -/
theorem for_list {K : PySem.W.Frag} {a : Addr} {xs : List V} {g : TG} {tb : TS} {D : Ends} {σ : St} {H : Hp} (Pv : Nat → St → Hp → Prop) (h0 : Pv 0 σ H) (hl : ∀ i σ H, i ≤ xs.length → Pv i σ H → SqL K H a xs)
    (hs : ∀ i x σ H, xs[i]? = some x → Pv i σ H → g x σ H fun σ2 H2 => tb { D with nx := Pv (i + 1), ct := Pv (i + 1), bk := D.nx } σ2 H2) (hd : ∀ σ H, Pv xs.length σ H → D.nx σ H) :
    ∃ W : Nat → Nat → St → Hp → Prop, (∃ m, W 0 m σ H) ∧ ∀ i m σ H, W i m σ H →
      ((Itl K a).stop i H ∧ D.nx σ H) ∨ ((Itl K a).go i H ∧ ∃ N : St → Hp → Prop, (∀ σ' H', N σ' H' → ∃ m', m' < m ∧ W (i + 1) m' σ' H') ∧ ∀ x H', (Itl K a).yld i H x H' → g x σ H' fun σ2 H2 => tb { D with nx := N, ct := N, bk := D.nx } σ2 H2) := by
  refine ⟨fun i m σ H => m = xs.length - i ∧ i ≤ xs.length ∧ Pv i σ H, ⟨xs.length, by simp, Nat.zero_le _, h0⟩, ?_⟩
  rintro i m σ H ⟨rfl, hi, p⟩
  have q := hl i σ H hi p
  by_cases hlt : i < xs.length
  · refine .inr ⟨⟨xs, xs[i], q, by simp [hlt]⟩, Pv (i + 1), fun σ' H' p' => ⟨xs.length - (i + 1), by omega, rfl, hlt, p'⟩, fun x H' y => ?_⟩
    obtain ⟨e, y⟩ := y
    subst e
    exact hs i x σ _ (y xs q) p
  · have e : i = xs.length := by omega
    subst e
    exact .inl ⟨⟨xs, q, Nat.le_refl _⟩, hd σ H p⟩
theorem for_tup {K : PySem.W.Frag} {a : Addr} {xs : List V} {g : TG} {tb : TS} {D : Ends} {σ : St} {H : Hp} (Pv : Nat → St → Hp → Prop) (h0 : Pv 0 σ H) (hl : ∀ i σ H, i ≤ xs.length → Pv i σ H → SqT K H a xs)
    (hs : ∀ i x σ H, xs[i]? = some x → Pv i σ H → g x σ H fun σ2 H2 => tb { D with nx := Pv (i + 1), ct := Pv (i + 1), bk := D.nx } σ2 H2) (hd : ∀ σ H, Pv xs.length σ H → D.nx σ H) :
    ∃ W : Nat → Nat → St → Hp → Prop, (∃ m, W 0 m σ H) ∧ ∀ i m σ H, W i m σ H →
      ((Itt K a).stop i H ∧ D.nx σ H) ∨ ((Itt K a).go i H ∧ ∃ N : St → Hp → Prop, (∀ σ' H', N σ' H' → ∃ m', m' < m ∧ W (i + 1) m' σ' H') ∧ ∀ x H', (Itt K a).yld i H x H' → g x σ H' fun σ2 H2 => tb { D with nx := N, ct := N, bk := D.nx } σ2 H2) := by
  refine ⟨fun i m σ H => m = xs.length - i ∧ i ≤ xs.length ∧ Pv i σ H, ⟨xs.length, by simp, Nat.zero_le _, h0⟩, ?_⟩
  rintro i m σ H ⟨rfl, hi, p⟩
  have q := hl i σ H hi p
  by_cases hlt : i < xs.length
  · refine .inr ⟨⟨xs, xs[i], q, by simp [hlt]⟩, Pv (i + 1), fun σ' H' p' => ⟨xs.length - (i + 1), by omega, rfl, hlt, p'⟩, fun x H' y => ?_⟩
    obtain ⟨e, y⟩ := y
    subst e
    exact hs i x σ _ (y xs q) p
  · have e : i = xs.length := by omega
    subst e
    exact .inl ⟨⟨xs, q, Nat.le_refl _⟩, hd σ H p⟩
theorem for_range {lo : Int} {n : Nat} {g : TG} {tb : TS} {D : Ends} {σ : St} {H : Hp} (Pv : Nat → St → Hp → Prop) (h0 : Pv 0 σ H)
    (hs : ∀ i σ H, i < n → Pv i σ H → g (.int (lo + i)) σ H fun σ2 H2 => tb { D with nx := Pv (i + 1), ct := Pv (i + 1), bk := D.nx } σ2 H2) (hd : ∀ σ H, Pv n σ H → D.nx σ H) :
    ∃ W : Nat → Nat → St → Hp → Prop, (∃ m, W 0 m σ H) ∧ ∀ i m σ H, W i m σ H →
      ((Itr lo n).stop i H ∧ D.nx σ H) ∨ ((Itr lo n).go i H ∧ ∃ N : St → Hp → Prop, (∀ σ' H', N σ' H' → ∃ m', m' < m ∧ W (i + 1) m' σ' H') ∧ ∀ x H', (Itr lo n).yld i H x H' → g x σ H' fun σ2 H2 => tb { D with nx := N, ct := N, bk := D.nx } σ2 H2) := by
  refine ⟨fun i m σ H => m = n - i ∧ i ≤ n ∧ Pv i σ H, ⟨n, by simp, Nat.zero_le _, h0⟩, ?_⟩
  rintro i m σ H ⟨rfl, hi, p⟩
  by_cases hlt : i < n
  · refine .inr ⟨hlt, Pv (i + 1), fun σ' H' p' => ⟨n - (i + 1), by omega, rfl, hlt, p'⟩, fun x H' y => ?_⟩
    obtain ⟨e, y⟩ := y
    subst e y
    exact hs i σ _ hlt p
  · have e : i = n := by omega
    subst e
    exact .inl ⟨Nat.le_refl _, hd σ H p⟩
end L2

namespace L2
open PySem PySem.Spec PyProof.Rows

noncomputable abbrev R2 := V → V → Hp → VK → Prop
/-- a two-place operation on values: f is binaryOp op, inplaceOp op or compareOp op -/
noncomputable def OpR (X : Cx) (f : Value → Value → Sem Value) (r : R2) : Prop :=
  ∀ (pins : List (Addr × Obj)) (s : Shared) (σ : St) (H : Hp) (x y : V) (v u : Value) (Q : VK), Inv X pins σ H s → RelV x v → RelV y u → r x y H Q →
    wpAny (model X.prog X.w) X.A (f v u) (EP X pins σ Q) X.xe s
/-- a one-place operation -/
noncomputable def UnR (X : Cx) (f : Value → Sem Value) (r : V → Hp → VK → Prop) : Prop :=
  ∀ (pins : List (Addr × Obj)) (s : Shared) (σ : St) (H : Hp) (x : V) (v : Value) (Q : VK), Inv X pins σ H s → RelV x v → r x H Q →
    wpAny (model X.prog X.w) X.A (f v) (EP X pins σ Q) X.xe s
/-- a call of a value that is known (a builtin, a type) with values -/
noncomputable def CallR (X : Cx) (f : Value) (r : List V → Hp → VK → Prop) : Prop :=
  ∀ (pins : List (Addr × Obj)) (s : Shared) (σ : St) (H : Hp) (xs : List V) (us : List Value) (Q : VK), Inv X pins σ H s → Vals xs us → r xs H Q →
    wpAny (model X.prog X.w) X.A (call f us) (EP X pins σ Q) X.xe s
noncomputable def tOp (r : R2) (ta tb : TE) : TE := fun σ H Q => ta σ H fun x H1 => tb σ H1 fun y H2 => r x y H2 Q
noncomputable def tUn (r : V → Hp → VK → Prop) (ta : TE) : TE := fun σ H Q => ta σ H fun x H1 => r x H1 Q
/-- ints in, under C, and a value out -/
noncomputable def rI (C : Int → Int → Prop) (g : Int → Int → V) : R2 := fun x y H Q => ∃ i j, x = .int i ∧ y = .int j ∧ C i j ∧ Q (g i j) H
noncomputable def rI0 (g : Int → Int → V) : R2 := fun x y H Q => ∃ i j, x = .int i ∧ y = .int j ∧ Q (g i j) H
noncomputable def rU (g : Int → V) : V → Hp → VK → Prop := fun x H Q => ∃ i, x = .int i ∧ Q (g i) H

section
variable {X : Cx} {a b c : Expr} {ta tb tc : TE} {pos : Pos}

theorem binT (ha : PE X a ta) (hb : PE X b tb) {pins : List (Addr × Obj)} {s : Shared} {σ : St} {H : Hp} {R : V → V → Hp → Prop} (I : Inv X pins σ H s)
    (h : ta σ H fun x H1 => tb σ H1 fun y H2 => R x y H2) {Q : Value → Shared → Prop} {f : Value → Value → Sem Value}
    (hf : ∀ v u s2 x y H2, Inv X pins σ H2 s2 → RelV x v → RelV y u → R x y H2 → wpAny (model X.prog X.w) X.A (f v u) Q X.xe s2) :
    wpAny (model X.prog X.w) X.A (eval a X.env) (fun v s₁ => wpAny (model X.prog X.w) X.A (eval b X.env) (fun u s₂ => wpAny (model X.prog X.w) X.A (f v u) Q X.xe s₂) X.xe s₁) X.xe s := by
  refine thn (ha pins s σ H _ I h) fun v s1 hsl26 => ?_
  obtain ⟨x, H1, I1, r1, q1⟩ := hsl26
  refine thn (hb pins s1 σ H1 _ I1 q1) fun u s2 hsl27 => ?_
  obtain ⟨y, H2, I2, r2, q2⟩ := hsl27
  exact hf v u s2 x y H2 I2 r1 r2 q2

theorem pe_op {op : Operator} {r : R2} (ho : OpR X (binaryOp op) r) (ha : PE X a ta) (hb : PE X b tb) : PE X (.BinOp a op b pos) (tOp r ta tb) := by
  intro pins s σ H Q I h
  exact wpAny_BinOp (binT ha hb I h fun v u s2 x y H2 I2 rx ry q => ho pins s2 σ H2 x y v u Q I2 rx ry q)
theorem pe_un {op : UnaryOp} {r : V → Hp → VK → Prop} (ho : UnR X (unaryOp op) r) (ha : PE X a ta) : PE X (.UnaryOp op a pos) (tUn r ta) := by
  intro pins s σ H Q I h
  exact UnaryOp_ (thn (ha pins s σ H _ I h) fun v s1 hsl28 => by obtain ⟨x, H1, I1, r1, q1⟩ := hsl28; exact ho pins s1 σ H1 x v Q I1 r1 q1)
/-! ### ints -/
theorem opI {f : Value → Value → Sem Value} {C : Int → Int → Prop} {g : Int → Int → Int}
    (rule : ∀ (i j : Int) (t u : Tok) (s : Shared) (Q : Value → Shared → Prop) (E : Value → Shared → Prop), C i j → Q (.int (g i j) s.toks) { s with toks := s.toks + 1 } → wpAny (model X.prog X.w) X.A (f (.int i t) (.int j u)) Q E s) :
    OpR X f (rI C fun i j => .int (g i j)) := by
  intro pins s σ H x y v u Q I rx ry h
  obtain ⟨i, j, rfl, rfl, hc, q⟩ := h
  obtain ⟨t, rfl⟩ := rx
  obtain ⟨t', rfl⟩ := ry
  exact rule i j t t' s _ _ hc ⟨.int (g i j), H, I.tok _, ⟨_, rfl⟩, q⟩
theorem opI0 {f : Value → Value → Sem Value} {g : Int → Int → Int}
    (rule : ∀ (i j : Int) (t u : Tok) (s : Shared) (Q : Value → Shared → Prop) (E : Value → Shared → Prop), Q (.int (g i j) s.toks) { s with toks := s.toks + 1 } → wpAny (model X.prog X.w) X.A (f (.int i t) (.int j u)) Q E s) :
    OpR X f (rI0 fun i j => .int (g i j)) := by
  intro pins s σ H x y v u Q I rx ry h
  obtain ⟨i, j, rfl, rfl, q⟩ := h
  obtain ⟨t, rfl⟩ := rx
  obtain ⟨t', rfl⟩ := ry
  exact rule i j t t' s _ _ ⟨.int (g i j), H, I.tok _, ⟨_, rfl⟩, q⟩
theorem opB0 {f : Value → Value → Sem Value} {g : Int → Int → Bool}
    (rule : ∀ (i j : Int) (t u : Tok) (s : Shared) (Q : Value → Shared → Prop) (E : Value → Shared → Prop), Q (.bool (g i j)) s → wpAny (model X.prog X.w) X.A (f (.int i t) (.int j u)) Q E s) :
    OpR X f (rI0 fun i j => .bl (g i j)) := by
  intro pins s σ H x y v u Q I rx ry h
  obtain ⟨i, j, rfl, rfl, q⟩ := h
  obtain ⟨t, rfl⟩ := rx
  obtain ⟨t', rfl⟩ := ry
  exact rule i j t t' s _ _ ⟨.bl (g i j), H, I, rfl, q⟩

noncomputable def CDiv (i j : Int) : Prop := 0 < j ∧ j < 1073741824
noncomputable def CPow (i j : Int) : Prop := 0 ≤ j ∧ j ≤ 1000000 ∧ i.natAbs < 2 ^ 64
noncomputable def CMul (i j : Int) : Prop := (-(2 ^ 64) < i ∧ i < 2 ^ 64) ∨ (-(2 ^ 64) < j ∧ j < 2 ^ 64)
theorem CMul.ok {i j : Int} (h : CMul i j) : IntMulOk i j := by
  rcases h with ⟨h1, h2⟩ | ⟨h1, h2⟩
  · exact .of_left (intBits_le_64 h1 h2)
  · exact .of_right (intBits_le_64 h1 h2)
theorem op_add : OpR X (binaryOp .Add) (rI0 fun i j => .int (i + j)) := opI0 fun _ _ _ _ _ _ _ q => add_int q
theorem op_sub : OpR X (binaryOp .Sub) (rI0 fun i j => .int (i - j)) := opI0 fun _ _ _ _ _ _ _ q => sub_int q
theorem op_mul : OpR X (binaryOp .Mult) (rI CMul fun i j => .int (i * j)) := opI fun _ _ _ _ _ _ _ hc q => mul_int q hc.ok
/-- // by a positive divisor -/
theorem op_fdiv : OpR X (binaryOp .FloorDiv) (rI CDiv fun i j => .int (i / j)) := opI fun i j _ _ _ _ _ hc q => by
  have h1 : (0 : Int) < j := hc.1
  have h2 : j < 1073741824 := hc.2
  exact floordiv_int (by omega) (by rw [Int.fdiv_eq_ediv_of_nonneg i (by omega)]; exact q) (.inl (PyProof.noPylong_small (by omega)))
/-- % by a positive divisor of any size -/
theorem op_mod : OpR X (binaryOp .Mod) (rI (fun _ j => 0 < j) fun i j => .int (i % j)) := opI fun i j _ _ _ _ _ hc q => by
  have h1 : (0 : Int) < j := hc
  exact mod_int' (by omega) (by rw [Int.fmod_eq_emod_of_nonneg i (by omega)]; exact q)
theorem op_pow : OpR X (binaryOp .Pow) (rI CPow fun i j => .int (i ^ j.toNat)) := opI fun _ _ _ _ _ _ _ hc q => pow_int_small hc.1 hc.2.1 hc.2.2 q
theorem unI {f : Value → Sem Value} {g : Int → Int}
    (rule : ∀ (i : Int) (t : Tok) (s : Shared) (Q : Value → Shared → Prop) (E : Value → Shared → Prop), Q (.int (g i) s.toks) { s with toks := s.toks + 1 } → wpAny (model X.prog X.w) X.A (f (.int i t)) Q E s) :
    UnR X f (rU fun i => .int (g i)) := by
  intro pins s σ H x v Q I rx h
  obtain ⟨i, rfl, q⟩ := h
  obtain ⟨t, rfl⟩ := rx
  exact rule i t s _ _ ⟨.int (g i), H, I.tok _, ⟨_, rfl⟩, q⟩
theorem un_neg : UnR X (unaryOp .USub) (rU fun i => .int (-i)) := unI fun _ _ _ _ _ q => neg_int q
/-! ### bools among ints: n += (a < b) -/
end

/-! ### comparisons -/
/-- the scalars that == tells apart as data does -/
noncomputable def scal : V → V → Bool
  | .non, .non => true | .non, .int _ => true | .int _, .non => true | .non, .bl _ => true | .bl _, .non => true | .non, .str _ => true | .str _, .non => true
  | .int _, .int _ => true | .bl _, .bl _ => true | .str _, .str _ => true | .byt _, .byt _ => true
  | .int _, .str _ => true | .str _, .int _ => true | .bl _, .str _ => true | .str _, .bl _ => true
  | _, _ => false
noncomputable def rEq : R2 := fun x y H Q => scal x y = true ∧ Q (.bl (decide (x = y))) H
noncomputable def rNe : R2 := fun x y H Q => scal x y = true ∧ Q (.bl (!decide (x = y))) H

theorem dec_int {i j : Int} : decide (V.int i = V.int j) = (i == j) := by
  rw [Bool.eq_iff_iff]
  simp
theorem dec_bl {i j : Bool} : decide (V.bl i = V.bl j) = (i == j) := by
  rw [Bool.eq_iff_iff]
  simp
theorem dec_str {i j : Str} : decide (V.str i = V.str j) = (i == j) := by
  rw [Bool.eq_iff_iff]
  simp
theorem dec_byt {i j : Array UInt8} : decide (V.byt i = V.byt j) = (i.toList == j.toList) := by
  rw [Bool.eq_iff_iff]
  cases i
  cases j
  simp

section
variable {X : Cx} {a b c : Expr} {ta tb tc : TE} {pos : Pos}
theorem fin_bl {pins : List (Addr × Obj)} {σ : St} {H : Hp} {s : Shared} {Q : VK} {k k' : Bool} (I : Inv X pins σ H s) (q : Q (.bl k) H) (e : k = k') : EP X pins σ Q (.bool k') s := by
  subst e
  exact ⟨.bl k, H, I, rfl, q⟩
theorem op_eq : OpR X (compareOp .Eq) rEq := by
  intro pins s σ H x y v u Q I rx ry h
  obtain ⟨hs, q⟩ := h
  cases x with
  | non =>
    cases rx
    cases y with
    | non => cases ry; exact PySem.EqNone.eq_none_none (fin_bl I q (by simp))
    | bl j => cases ry; exact PySem.EqNone.eq_none_bool (fin_bl I q (by simp))
    | int j => obtain ⟨t', rfl⟩ := ry; exact PySem.EqNone.eq_none_int (fin_bl I q (by simp))
    | str j => obtain ⟨t', rfl⟩ := ry; exact PySem.EqNone.eq_none_str (fin_bl I q (by simp))
    | _ => exact absurd (show false = true from hs) Bool.false_ne_true
  | bl i =>
    cases rx
    cases y with
    | non => cases ry; exact PySem.EqNone.eq_bool_none (fin_bl I q (by simp))
    | bl j => cases ry; exact eq_bool (fin_bl I q dec_bl)
    | str j => obtain ⟨t', rfl⟩ := ry; exact PySem.EqMixed.eq_bool_str (fin_bl I q (by simp))
    | _ => exact absurd (show false = true from hs) Bool.false_ne_true
  | int i =>
    obtain ⟨t, rfl⟩ := rx
    cases y with
    | non => cases ry; exact PySem.EqNone.eq_int_none (fin_bl I q (by simp))
    | int j => obtain ⟨t', rfl⟩ := ry; exact eq_int (fin_bl I q dec_int)
    | str j => obtain ⟨t', rfl⟩ := ry; exact PySem.EqMixed.eq_int_str (fin_bl I q (by simp))
    | _ => exact absurd (show false = true from hs) Bool.false_ne_true
  | str i =>
    obtain ⟨t, rfl⟩ := rx
    cases y with
    | non => cases ry; exact PySem.EqNone.eq_str_none (fin_bl I q (by simp))
    | bl j => cases ry; exact PySem.EqMixed.eq_str_bool (fin_bl I q (by simp))
    | int j => obtain ⟨t', rfl⟩ := ry; exact PySem.EqMixed.eq_str_int (fin_bl I q (by simp))
    | str j => obtain ⟨t', rfl⟩ := ry; exact eq_str (fin_bl I q dec_str)
    | _ => exact absurd (show false = true from hs) Bool.false_ne_true
  | byt i =>
    obtain ⟨t, rfl⟩ := rx
    cases y with
    | byt j => obtain ⟨t', rfl⟩ := ry; exact PySem.W.eq_bytes (fin_bl I q dec_byt)
    | _ => exact absurd (show false = true from hs) Bool.false_ne_true
  | _ => cases y <;> exact absurd (show false = true from hs) Bool.false_ne_true
theorem op_ne : OpR X (compareOp .NotEq) rNe := by
  intro pins s σ H x y v u Q I rx ry h
  obtain ⟨hs, q⟩ := h
  cases x with
  | non =>
    cases rx
    cases y with
    | non => cases ry; exact PySem.EqNone.ne_none_none (fin_bl I q (by simp))
    | bl j => cases ry; exact PySem.EqNone.ne_none_bool (fin_bl I q (by simp))
    | int j => obtain ⟨t', rfl⟩ := ry; exact PySem.EqNone.ne_none_int (fin_bl I q (by simp))
    | str j => obtain ⟨t', rfl⟩ := ry; exact PySem.EqNone.ne_none_str (fin_bl I q (by simp))
    | _ => exact absurd (show false = true from hs) Bool.false_ne_true
  | bl i =>
    cases rx
    cases y with
    | non => cases ry; exact PySem.EqNone.ne_bool_none (fin_bl I q (by simp))
    | bl j => cases ry; exact ne_bool (fin_bl I q (congrArg not dec_bl))
    | str j => obtain ⟨t', rfl⟩ := ry; exact PySem.EqMixed.ne_bool_str (fin_bl I q (by simp))
    | _ => exact absurd (show false = true from hs) Bool.false_ne_true
  | int i =>
    obtain ⟨t, rfl⟩ := rx
    cases y with
    | non => cases ry; exact PySem.EqNone.ne_int_none (fin_bl I q (by simp))
    | int j => obtain ⟨t', rfl⟩ := ry; exact ne_int (fin_bl I q (congrArg not dec_int))
    | str j => obtain ⟨t', rfl⟩ := ry; exact PySem.EqMixed.ne_int_str (fin_bl I q (by simp))
    | _ => exact absurd (show false = true from hs) Bool.false_ne_true
  | str i =>
    obtain ⟨t, rfl⟩ := rx
    cases y with
    | non => cases ry; exact PySem.EqNone.ne_str_none (fin_bl I q (by simp))
    | bl j => cases ry; exact PySem.EqMixed.ne_str_bool (fin_bl I q (by simp))
    | int j => obtain ⟨t', rfl⟩ := ry; exact PySem.EqMixed.ne_str_int (fin_bl I q (by simp))
    | str j => obtain ⟨t', rfl⟩ := ry; exact ne_str (fin_bl I q (congrArg not dec_str))
    | _ => exact absurd (show false = true from hs) Bool.false_ne_true
  | byt i =>
    obtain ⟨t, rfl⟩ := rx
    cases y with
    | byt j => obtain ⟨t', rfl⟩ := ry; exact PySem.W.ne_bytes (fin_bl I q (congrArg not dec_byt))
    | _ => exact absurd (show false = true from hs) Bool.false_ne_true
  | _ => cases y <;> exact absurd (show false = true from hs) Bool.false_ne_true

theorem op_lt : OpR X (compareOp .Lt) (rI0 fun i j => .bl (decide (i < j))) := opB0 fun _ _ _ _ _ _ _ q => lt_int q
theorem op_le : OpR X (compareOp .LtE) (rI0 fun i j => .bl (decide (i ≤ j))) := opB0 fun _ _ _ _ _ _ _ q => le_int q
theorem op_gt : OpR X (compareOp .Gt) (rI0 fun i j => .bl (decide (j < i))) := opB0 fun _ _ _ _ _ _ _ q => gt_int q
theorem op_ge : OpR X (compareOp .GtE) (rI0 fun i j => .bl (decide (j ≤ i))) := opB0 fun _ _ _ _ _ _ _ q => ge_int q
/-- the one string within the other -/
theorem op_in_str : OpR X (compareOp .In) (fun x y H Q => ∃ i j, x = .str i ∧ y = .str j ∧ Q (.bl (!(Builtin.Str.occurrences j i 0 j.length 1).isEmpty)) H) := by
  intro pins s σ H x y v u Q I rx ry h
  obtain ⟨i, j, rfl, rfl, q⟩ := h
  obtain ⟨t, rfl⟩ := rx
  obtain ⟨t', rfl⟩ := ry
  exact in_str (fin_bl I q rfl)

/-- is, is not of two objects that are tracked lists or instances -/
noncomputable def isObj : HO → Bool
  | .lst _ => true
  | .ins _ _ _ => true
  | _ => false
/-- two rules for one operation: by cases -/
theorem OpR.or {f : Value → Value → Sem Value} {r r' : R2} (h : OpR X f r) (h' : OpR X f r') : OpR X f (fun x y H Q => r x y H Q ∨ r' x y H Q) := by
  intro pins s σ H x y v u Q I rx ry q
  rcases q with q | q
  · exact h pins s σ H x y v u Q I rx ry q
  · exact h' pins s σ H x y v u Q I rx ry q

theorem nomark (b : Expr) {op : CmpOp} (h : op ≠ .In := by decide) (h2 : op ≠ .NotIn := by decide) : behindInMarks op b = false := by
  have e1 : (op == CmpOp.In) = false := by cases op <;> first | rfl | exact absurd rfl h
  have e2 : (op == CmpOp.NotIn) = false := by cases op <;> first | rfl | exact absurd rfl h2
  cases b <;> simp [behindInMarks, e1, e2]
/-- a comparison as a value; hm: nomark b, or (for in, not in) by with_unfolding_all rfl -/
theorem pe_cmpR {op : CmpOp} {r : R2} (ho : OpR X (compareOp op) r) (ha : PE X a ta) (hb : PE X b tb) (hm : behindInMarks op b = false) : PE X (.Compare a [op] [b] pos) (tOp r ta tb) := by
  intro pins s σ H Q I h
  exact wpAny_Compare1 (binT ha hb I h fun v u s2 x y H2 I2 rx ry q => ho pins s2 σ H2 x y v u Q I2 rx ry q) hm
/-- a reading of a value as a test -/
noncomputable def tTest (t : TE) : TT := fun σ H Q => t σ H fun x H' => ∃ k, x = .bl k ∧ Q k H'
theorem pt_cmpR {op : CmpOp} {r : R2} (ho : OpR X (compareOp op) r) (ha : PE X a ta) (hb : PE X b tb) (hm : behindInMarks op b = false) : PT X (.Compare a [op] [b] pos) (tTest (tOp r ta tb)) := by
  intro pins s σ H Q I h
  refine wpAny_isTrue_Compare1 (thn (ha pins s σ H _ I h) fun v s1 ⟨x, H1, I1, r1, q1⟩ => thn (hb pins s1 σ H1 _ I1 q1) fun u s2 ⟨y, H2, I2, r2, q2⟩ =>
    thn (ho pins s2 σ H2 x y v u _ I2 r1 r2 q2) fun c s3 ⟨z, H3, I3, r3, k, e, q3⟩ => ?_) hm
  subst e
  cases r3
  exact wpAny_truthy_bool ⟨H3, I3, q3⟩
/-! ### truth -/
theorem line63 : (sizeLine : Nat) < 2 ^ 63 := by rw [sizeLine_eq]; decide
/-! ### strs and bytes -/
theorem op_add_str : OpR X (binaryOp .Add) (fun x y H Q => ∃ i j, x = .str i ∧ y = .str j ∧ i.length + j.length ≤ sizeLine ∧ Q (.str (i ++ j)) H) := by
  intro pins s σ H x y v u Q I rx ry h
  obtain ⟨i, j, rfl, rfl, hz, q⟩ := h
  obtain ⟨t, rfl⟩ := rx
  obtain ⟨t', rfl⟩ := ry
  exact add_str (fun t' tk => ⟨.str (i ++ j), H, I.tok _, ⟨_, rfl⟩, q⟩) hz
/-! ### scalar builtins, by CallR -/
theorem vals1 {x : V} {us : List Value} (r : Vals [x] us) : ∃ u, us = [u] ∧ RelV x u := by
  cases r with
  | cons r1 r2 => cases r2; exact ⟨_, rfl, r1⟩
theorem vals2 {x y : V} {us : List Value} (r : Vals [x, y] us) : ∃ u w', us = [u, w'] ∧ RelV x u ∧ RelV y w' := by
  cases r with
  | cons r1 r2 =>
    cases r2 with
    | cons r3 r4 => cases r4; exact ⟨_, _, rfl, r1, r3⟩
theorem call_max2 (hc : X.calm = true) : CallR X (.builtin "max") (fun xs H Q => ∃ i j, xs = [.int i, .int j] ∧ Q (.int (if j > i then j else i)) H) := by
  intro pins s σ H xs us Q I r h
  obtain ⟨i, j, rfl, q⟩ := h
  obtain ⟨u, w', rfl, ⟨t, rfl⟩, ⟨t', rfl⟩⟩ := vals2 r
  refine max_two_ints (I.ok.hd hc) fun h' tk k => ⟨_, H, I.kept k, ?_, q⟩
  by_cases hj : j > i
  · rw [if_pos hj, if_pos hj]; exact ⟨_, rfl⟩
  · rw [if_neg hj, if_neg hj]; exact ⟨_, rfl⟩
end
end L2

namespace L2
open PySem PySem.Spec PyProof.Rows

/-! ### an instance, its attributes a map -/
structure ObjM (h : Heap) (x dx C : Addr) (mA : Str → Option Value) : Prop where
  obj : h.get? x = some (PySem.W.instObj C dx)
  ns : h.Ns1 dx mA
  ne : dx ≠ x

theorem lookIn_ns {h : Heap} {dx : Addr} {mA : Str → Option Value} (n : h.Ns1 dx mA) : ∃ od, h.get? dx = some od ∧ ∀ name, PySem.W.lookIn name od = some (mA name) := by
  obtain ⟨o, es, ep, ho, hd, hk, _, hm⟩ := n
  refine ⟨o, ho, fun name => ?_⟩
  have e := hm name
  unfold nsFind findBy at e
  rw [← Array.find?_toList] at e
  unfold PySem.W.lookIn
  rw [hd]
  dsimp only
  split
  · rename_i y q
    rw [q] at e
    exact congrArg some e
  · rename_i q
    rw [q] at e
    have a : es.toList.any (·.refKey) = false := by
      rw [List.any_eq_false]
      intro y hy
      obtain ⟨z, t, hkey⟩ := hk y (Array.mem_toList_iff.mp hy)
      simp [DictEntry.refKey, hkey]
    have a' : ¬ es.toList.any (·.refKey) = true := by rw [a]; exact Bool.false_ne_true
    rw [if_neg a']
    exact congrArg some e

theorem ObjM.look {h : Heap} {x dx C : Addr} {mA : Str → Option Value} (I : ObjM h x dx C mA) : ∃ od, PySem.W.InstAt h x (PySem.W.instObj C dx) C (some od) ∧ ∀ name, PySem.W.lookIn name od = some (mA name) :=
  let ⟨od, ho, hl⟩ := lookIn_ns I.ns
  ⟨od, ⟨I.obj, rfl, rfl, ho⟩, hl⟩

section
variable {prog : Program} {w : World} {A : Around} {E : Value → Shared → Prop} {s : Shared} {K : PySem.W.Frag} {x dx C f : Addr} {mA : Str → Option Value} {name : Str} {v : Value}

theorem get_map {expr : Bool} {Q : Value → Shared → Prop} (X : K.In s.heap) (I : ObjM s.heap x dx C mA) (hg : PySem.W.plainGet K C name = true) (hh : PySem.W.hasDictIn K C = true)
    (ha : PySem.W.findIn K (.ref C) name = some none) (hv : mA name = some v) (hv' : PySem.W.handedIn v = true) (h : Q v { s with toks := s.toks + 1 }) :
    wpAny (model prog w) A (getAttr (.ref x) name expr) Q E s := by
  obtain ⟨od, J, hl⟩ := I.look
  exact PySem.W.get_value X J (PySem.W.plainGet_of hg).1 (PySem.W.findObj_own hh ha rfl (by rw [hl, hv])) hv' h

theorem get_meth {pl : Sem Bool} {Q : Value × List Value → Shared → Prop} (X : K.In s.heap) (I : ObjM s.heap x dx C mA) (hg : PySem.W.plainGet K C name = true)
    (hf : PySem.W.findIn K (.ref C) name = some (some (.ref f))) (ht : PySem.W.isFn K (.ref f) = true) (hv : mA name = none) (h : Q (.ref f, [.ref x]) s) :
    wpAny (model prog w) A (getMethod (.ref x) name pl) Q E s := by
  obtain ⟨od, J, hl⟩ := I.look
  exact PySem.W.method_fn X J (PySem.W.plainGet_of hg).1 (PySem.W.plainGet_of hg).2 hf (beq_iff_eq.mp ht) (by show (PySem.W.lookIn name od).map (·.isSome) = some false; rw [hl, hv]; rfl) h

theorem set_map {ns : List Str} {Q : Unit → Shared → Prop} (X : K.In s.heap) (I : ObjM s.heap x dx C mA)
    (hs : PySem.W.findIn K (.ref C) "__setattr__" = some (some (.builtin "object.__setattr__"))) (hp : PySem.W.plainOver K C = true) (ht : PySem.W.takerIn K C name = some none) (hh : PySem.W.hasDictIn K C = true)
    (hw : PySem.Within mA ns) (hsz : ns.length ≤ sizeLine)
    (h : ∀ h', ObjM h' x dx C (fun y => if y = name then some v else mA y) → Heap.SameBut dx s.heap h' → Q () { s with heap := h', toks := s.toks + 2 }) :
    wpAny (model prog w) A (setAttr (.ref x) name v) Q E s := by
  obtain ⟨od, J, hl⟩ := I.look
  refine PySem.W.set_plain X J hs (PySem.W.osa_open (s := { s with toks := s.toks + 1 }) (r := none) X J hp ht fun b => ?_)
  obtain ⟨cd, hc, hd'⟩ := PySem.W.any_some hh
  have hx : s.heap.get? x = some ⟨.ref C, some dx, .plain, #[]⟩ := I.obj
  refine wpAny_bind (wpAny_pure (wpAny_bind (wpAny_bind (wpAny_loadPart hx (wpAny_bind (PySem.W.Looks.here (s := { s with toks := s.toks + 1 }) (PySem.W.looks_clsIn X hc) ?_))))))
  rw [hd']
  refine wpAny_pure (a := some dx) (wpAny_bind (wpAny_pure (wpAny_bind ?_)))
  refine wpAny_nsSet1 (s := { s with toks := s.toks + 1 }) I.ns fun h' hn2 hs2 => ?_
  obtain ⟨oD, esD, epD, hoD, hdD, hcD⟩ := hn2.count (PySem.Within.cons name v hw)
  refine wpAny_bind (wpAny_lookBehind hoD (by rw [hdD]; exact pastItsLine_dict (Nat.le_trans hcD (by rw [List.length_cons]; omega))) ?_)
  exact wpAny_pure (h _ ⟨(hs2.2 _ (Ne.symm I.ne)).trans I.obj, hn2, I.ne⟩ hs2)

/-- C(..): the dict at the heap's end, the instance behind it; then its __init__ -/
theorem make_map {R : Result → Shared → Prop} {vs : List Value} {kw : List (Str × Value)} (X : K.In s.heap) (hm : PySem.W.makesIn K C = true)
    (hi : PySem.W.findIn K (.ref C) "__init__" = some (some (.ref f))) (hf : PySem.W.typeIn K (.ref f) = some (.type "function"))
    (h : codeAny (model prog w) (A.under (.builtin "type.__call__" ⟨.ref C :: vs, kw⟩)) (.call (.ref f) ⟨.ref (s.heap.objs.size + 1) :: vs, kw⟩) (PySem.W.InitBack (s.heap.objs.size + 1) R)
      { s with heap := (s.heap.push PySem.W.emptyDict).push (PySem.W.instObj C s.heap.objs.size) }) :
    codeAny (model prog w) A (.call (.ref C) ⟨vs, kw⟩) R s := by
  obtain ⟨hh, g, d, t, os⟩ := s
  exact PySem.W.make_core (PySem.W.makes_of X hm) (PySem.W.looks_findIn X hi) (fun self => PySem.W.bind_fn X self hf) (.inl rfl) h
end

/-! ### the attributes as a list of pairs -/
noncomputable def putF (f : Str) (v : V) : List (Str × V) → List (Str × V)
  | [] => [(f, v)]
  | (g, x) :: r => if g = f then (g, v) :: r else (g, x) :: putF f v r
theorem lookup_putF (f g : Str) (v : V) : ∀ fs : List (Str × V), (putF f v fs).lookup g = if g = f then some v else fs.lookup g
  | [] => by
    show List.lookup g [(f, v)] = _
    by_cases h : g = f
    · have hb : (g == f) = true := beq_iff_eq.mpr h
      simp only [List.lookup, hb, if_pos h]
    · have hb : (g == f) = false := beq_eq_false_iff_ne.mpr h
      simp only [List.lookup, hb, if_neg h]
  | (k, x) :: r => by
    have ih := lookup_putF f g v r
    rw [show putF f v ((k, x) :: r) = (if k = f then (k, v) :: r else (k, x) :: putF f v r) from rfl]
    by_cases hk : k = f
    · rw [if_pos hk]
      by_cases h : g = k
      · have hb : (g == k) = true := beq_iff_eq.mpr h
        simp only [List.lookup, hb, if_pos (h.trans hk)]
      · have hb : (g == k) = false := beq_eq_false_iff_ne.mpr h
        simp only [List.lookup, hb, if_neg (fun e : g = f => h (e.trans hk.symm))]
    · rw [if_neg hk]
      by_cases h : g = k
      · have hb : (g == k) = true := beq_iff_eq.mpr h
        simp only [List.lookup, hb, if_neg (fun e : g = f => hk (h.symm.trans e))]
      · have hb : (g == k) = false := beq_eq_false_iff_ne.mpr h
        simp only [List.lookup, hb]
        exact ih
theorem keys_putF (f : Str) (v : V) : ∀ fs : List (Str × V), f ∈ (putF f v fs).map (·.1) ∧ ∀ g, g ∈ fs.map (·.1) → g ∈ (putF f v fs).map (·.1)
  | [] => ⟨by simp [putF], fun g h => by simp at h⟩
  | (k, x) :: r => by
    obtain ⟨i1, i2⟩ := keys_putF f v r
    rw [show putF f v ((k, x) :: r) = (if k = f then (k, v) :: r else (k, x) :: putF f v r) from rfl]
    by_cases hk : k = f
    · rw [if_pos hk]
      subst hk
      exact ⟨by simp, fun g h => by simpa using h⟩
    · rw [if_neg hk]
      refine ⟨?_, fun g h => ?_⟩
      · rw [List.map_cons]
        exact List.mem_cons_of_mem _ i1
      · rw [List.map_cons] at h ⊢
        rcases List.mem_cons.mp h with e | e
        · exact List.mem_cons.mpr (.inl e)
        · exact List.mem_cons_of_mem _ (i2 g e)
theorem length_putF (f : Str) (v : V) : ∀ fs : List (Str × V), (putF f v fs).length ≤ fs.length + 1
  | [] => by simp [putF]
  | (k, x) :: r => by
    have ih := length_putF f v r
    rw [show putF f v ((k, x) :: r) = (if k = f then (k, v) :: r else (k, x) :: putF f v r) from rfl]
    by_cases hk : k = f
    · rw [if_pos hk, List.length_cons, List.length_cons]; omega
    · rw [if_neg hk, List.length_cons, List.length_cons]; omega

theorem RelO.some_of {v : V} {o : Option Value} (r : RelO (some v) o) : ∃ u, o = some u ∧ RelV v u := by
  cases o with
  | none => exact (show False from r).elim
  | some u => exact ⟨u, rfl, r⟩
theorem RelO.none_of {o : Option Value} (r : RelO none o) : o = none := by
  cases o with
  | none => rfl
  | some u => exact (show False from r).elim
theorem handed_of {v : V} {u : Value} (r : RelV v u) : PySem.W.handedIn u = true := by
  cases v with
  | non => cases (show u = Value.none from r); rfl
  | bl b => cases (show u = Value.bool b from r); rfl
  | int i => obtain ⟨t, e⟩ := (show ∃ t, u = Value.int i t from r); cases e; rfl
  | str x => obtain ⟨t, e⟩ := (show ∃ t, u = Value.str x t from r); cases e; rfl
  | byt b => obtain ⟨t, e⟩ := (show ∃ t, u = Value.bytes b t from r); cases e; rfl
  | flt b => obtain ⟨t, e⟩ := (show ∃ t, u = Value.float b t from r); cases e; rfl
  | ref a => cases (show u = Value.ref a from r); rfl
  | ty n => cases (show u = Value.type n from r); rfl

section
variable {P : Program} {w : World} {H H' : Hp} {h h' : Heap} {a C dx : Addr} {fs fs' : List (Str × V)}
theorem ins_get (hok : HOk P w H h) (e : H a = some (.ins C dx fs)) : ∃ mA, ObjM h a dx C mA ∧ (∀ f, RelO (fs.lookup f) (mA f)) ∧ PySem.Within mA (fs.map (·.1)) ∧ fs.length ≤ 1000 ∧ H dx = some (.own a) := by
  obtain ⟨d, z, ne, ob, mA, n, r, q⟩ := (show ObjOk P w H h a (.ins C dx fs) from hok a _ e)
  exact ⟨mA, ⟨ob, n, ne⟩, r, q, z, d⟩
end

/-! ### what of the text a class must have -/
structure Cls (K : PySem.W.Frag) (C : Addr) : Prop where
  pg : PySem.W.plainGet K C Str.empty = true
  hd : PySem.W.hasDictIn K C = true
  po : PySem.W.plainOver K C = true
  sa : PySem.W.findIn K (.ref C) "__setattr__" = some (some (.builtin "object.__setattr__"))
theorem Cls.get {K : PySem.W.Frag} {C : Addr} (c : Cls K C) (f : Str) : PySem.W.plainGet K C f = true := c.pg
/-- no class of it has the name -/
noncomputable def NoAttr (K : PySem.W.Frag) (C : Addr) (f : Str) : Prop := PySem.W.findIn K (.ref C) f = some none
theorem NoAttr.taker {K : PySem.W.Frag} {C : Addr} {f : Str} (n : NoAttr K C f) : PySem.W.takerIn K C f = some none := by
  unfold PySem.W.takerIn
  rw [show PySem.W.findIn K (.ref C) f = some none from n]
  rfl
/-- a constant of the class -/
structure Con (K : PySem.W.Frag) (C : Addr) (f : Str) (v : V) (u : Value) : Prop where
  at_ : PySem.W.findIn K (.ref C) f = some (some u)
  rel : RelV v u
  get : PySem.W.specialIn K u "__get__" = some none
  cp : PySem.W.copiedNames.contains f = false
/-- a method: a plain def of the class or of one above it -/
structure Meth (K : PySem.W.Frag) (C : Addr) (m : Str) (f : Addr) : Prop where
  at_ : PySem.W.findIn K (.ref C) m = some (some (.ref f))
  fn : PySem.W.isFn K (.ref f) = true
  kp : PySem.W.keepIn K (.ref f) = true

section
variable {X : Cx} {pins : List (Addr × Obj)} {σ : St} {H : Hp} {s : Shared} {a C dx : Addr} {fs : List (Str × V)} {f : Str} {v : V} {A : Around} {E : Value → Shared → Prop}

theorem getattr_ok {b : Bool} {Q : Value → Shared → Prop} (I : Inv X pins σ H s) (e : H a = some (.ins C dx fs)) (c : Cls X.K C) (n : NoAttr X.K C f) (l : fs.lookup f = some v)
    (h : ∀ u s', Inv X pins σ H s' → RelV v u → Q u s') : wpAny (model X.prog X.w) A (getAttr (.ref a) f b) Q E s := by
  obtain ⟨mA, O, r, _, _, _⟩ := ins_get I.hok e
  obtain ⟨u, hu, ru⟩ := RelO.some_of (v := v) (o := mA f) (by rw [← l]; exact r f)
  exact get_map I.kIn O (c.get f) c.hd n hu (handed_of ru) (h u _ (I.tok _) ru)

theorem getmeth_ok {m : Str} {g : Addr} {pl : Sem Bool} {Q : Value × List Value → Shared → Prop} (I : Inv X pins σ H s) (e : H a = some (.ins C dx fs)) (c : Cls X.K C) (k : Meth X.K C m g) (l : fs.lookup m = none)
    (h : Q (.ref g, [.ref a]) s) : wpAny (model X.prog X.w) A (getMethod (.ref a) m pl) Q E s := by
  obtain ⟨mA, O, r, _, _, _⟩ := ins_get I.hok e
  have hn : mA m = none := RelO.none_of (by rw [← l]; exact r m)
  exact get_meth I.kIn O (c.get m) k.at_ k.fn hn h

theorem setattr_ok {y : V} {u : Value} {Q : Unit → Shared → Prop} (I : Inv X pins σ H s) (e : H a = some (.ins C dx fs)) (c : Cls X.K C) (n : NoAttr X.K C f) (hl : fs.length < 1000) (ry : RelV y u)
    (h : ∀ s', Inv X pins σ (upd H a (.ins C dx (putF f y fs))) s' → Q () s') : wpAny (model X.prog X.w) A (setAttr (.ref a) f u) Q E s := by
  obtain ⟨mA, O, r, wi, _, ho⟩ := ins_get I.hok e
  have hz : (fs.map (·.1)).length ≤ sizeLine := by rw [List.length_map, sizeLine_eq]; omega
  refine set_map I.kIn O c.sa c.po n.taker c.hd wi hz fun h' O' sb => h _ ?_
  have hd : ∃ o, h'.get? dx = some o := by obtain ⟨o, _, _, e', _⟩ := O'.ns; exact ⟨o, e'⟩
  refine I.write (x := a) (e := dx) (by rw [e]; exact True.intro) (.inr ho) (fun b q hb z => (sb.2 b hb).trans z) hd ?_
  refine ⟨by rw [upd_ne O.ne]; exact ho, ?_, O.ne, O'.obj, _, O'.ns, fun g => ?_, fun g hg => ?_⟩
  · have := length_putF f y fs; omega
  · show RelO ((putF f y fs).lookup g) (if g = f then some u else mA g)
    rw [lookup_putF]
    by_cases q : g = f
    · rw [if_pos q, if_pos q]; exact ry
    · rw [if_neg q, if_neg q]; exact r g
  · by_cases q : g = f
    · rw [q]; exact (keys_putF f y fs).1
    · refine (keys_putF f y fs).2 g (wi g fun z => hg ?_)
      show (if g = f then some u else mA g) = none
      rw [if_neg q]; exact z

/-- a new instance, tracked, without attributes -/
theorem Inv.made (I : Inv X pins σ H s) : Inv X pins σ (upd (upd H s.heap.objs.size (.own (s.heap.objs.size + 1))) (s.heap.objs.size + 1) (.ins C s.heap.objs.size []))
    { s with heap := (s.heap.push PySem.W.emptyDict).push (PySem.W.instObj C s.heap.objs.size) } := by
  have e1 : (s.heap.push PySem.W.emptyDict).get? s.heap.objs.size = some PySem.W.emptyDict := Heap.get?_push_size s.heap rfl
  have e2 : ((s.heap.push PySem.W.emptyDict).push (PySem.W.instObj C s.heap.objs.size)).get? (s.heap.objs.size + 1) = some (PySem.W.instObj C s.heap.objs.size) := by
    have := Heap.get?_push_size (s.heap.push PySem.W.emptyDict) (o := PySem.W.instObj C s.heap.objs.size) rfl
    rwa [Heap.size_push] at this
  have e3 : (s.heap.push PySem.W.emptyDict).Ns s.heap.objs.size (fun _ => none) := ⟨PySem.W.emptyDict, #[], _, e1, rfl, (fun e he => absurd he (by simp)), fun _ => rfl⟩
  have I1 := I.laid (a := s.heap.objs.size) (o := .own (s.heap.objs.size + 1)) (h' := s.heap.push PySem.W.emptyDict) (t' := s.toks) (fun b u q => Heap.get?_push_of_some _ q) (Nat.le_refl _) ⟨_, e1⟩
  refine I1.laid (a := s.heap.objs.size + 1) (o := .ins C s.heap.objs.size []) (t' := s.toks) (fun b u q => Heap.get?_push_of_some _ q) (Nat.le_of_eq (Heap.size_push _ _)) ?_
  have ne : s.heap.objs.size ≠ s.heap.objs.size + 1 := Nat.ne_of_lt (Nat.lt_succ_self _)
  refine ⟨by rw [upd_ne ne, upd_same], Nat.zero_le _, ne, e2, fun _ => none, (Heap.Ns1.of_empty e3).at fun o q => Heap.get?_push_of_some _ q, fun _ => True.intro, fun y hy => absurd rfl hy⟩

/-- e.f where nothing but the object is asked: through attributeBase (super) and the last hold -/
theorem attr_of {prog : Program} {w : World} {env : Env} {e : Expr} {f : Str} {pos : Pos} {s : Shared} {Q : Value → Shared → Prop} (hb : attributeBase e f env (eval e env) = eval e env)
    (h : wpAny (model prog w) A (eval e env) (fun o s₁ => wpAny (model prog w) A (getAttr o f true) Q E s₁) E s) : wpAny (model prog w) A (eval (.Attribute e f pos) env) Q E s :=
  Attribute_any_ h (by rw [arm_eval_Attribute, hb])
end

/-! ### readings and rules -/
/-- e.f, an attribute of the instance -/
noncomputable def tFld (K : PySem.W.Frag) (ta : TE) (f : Str) : TE := fun σ H Q => ta σ H fun x H1 => ∃ a C dx fs v, x = .ref a ∧ H1 a = some (.ins C dx fs) ∧ Cls K C ∧ NoAttr K C f ∧ fs.lookup f = some v ∧ Q v H1
/-- e.f = value -/
noncomputable def sFld (K : PySem.W.Frag) (ta tv : TE) (f : Str) : TS := fun D σ H => tv σ H fun y H1 => ta σ H1 fun x H2 => ∃ a C dx fs, x = .ref a ∧ H2 a = some (.ins C dx fs) ∧ Cls K C ∧ NoAttr K C f ∧ fs.length < 1000 ∧
  D.nx σ (upd H2 a (.ins C dx (putF f y fs)))
section
variable {X : Cx} {o e value : Expr} {f : Str} {pos pos' tpos : Pos} {ta tv : TE}
theorem pe_fld (he : PE X e ta) (hb : attributeBase e f X.env (eval e X.env) = eval e X.env) : PE X (.Attribute e f pos) (tFld X.K ta f) := by
  intro pins s σ H Q I h
  refine attr_of hb (thn (he pins s σ H _ I h) fun u s1 hsl29 => ?_)
  obtain ⟨x, H1, I1, rx, a, C, dx, fs, v, ex, ea, c, n, l, q⟩ := hsl29
  subst ex
  obtain rfl : u = Value.ref a := rx
  exact getattr_ok I1 ea c n l fun u' s2 I2 ru => ⟨v, H1, I2, ru, q⟩
theorem ps_fld (ha : PE X o ta) (hv : PE X value tv) (hs : swapsWith value (some (.Attribute o f pos')) pos.line X.env = pure false) : PS X (.Assign [.Attribute o f pos'] value pos) (sFld X.K ta tv f) := by
  intro pins s σ H D I h
  refine plainObj_wpAny_Assign_Attribute (thn (hv pins s σ H _ I h) fun u s1 ⟨y, H1, I1, ry, q⟩ => thn (ha pins s1 σ H1 _ I1 q) fun ov s2 hsl30 => ?_) hs
  obtain ⟨x, H2, I2, rx, a, C, dx, fs, ex, ea, c, n, l, q2⟩ := hsl30
  subst ex
  obtain rfl : ov = Value.ref a := rx
  exact setattr_ok I2 ea c n l ry fun s3 I3 => ⟨σ, _, I3, q2⟩
/-- what is between an instance and its method: the tree of a method call -/
theorem methcall_of {pl : Sem Bool} {m : Str} {apos : Pos} {args : List Expr} {pins : List (Addr × Obj)} {s : Shared} {σ : St} {H : Hp} {Q : Value → Shared → Prop} {te : TE} (he : PE X e te) (I : Inv X pins σ H s)
    (h : te σ H fun x H1 => ∃ a C dx fs g, x = .ref a ∧ H1 a = some (.ins C dx fs) ∧ Cls X.K C ∧ Meth X.K C m g ∧ fs.lookup m = none ∧
      ∀ s1, Inv X pins σ H1 s1 → wpAny (model X.prog X.w) X.A (callWith pos (.ref g) [.ref a] (backTo pos (starEach args X.env)) (backToKw pos (keywordEach [] X.env))) Q X.xe s1)
    (ht : eval (.Call (.Attribute e m apos) args [] pos) X.env = (do
      let ov ← eval e X.env
      standAt apos.atName
      let (f, first) ← holding [ov] (getMethod ov m pl)
      callWith pos f first (backTo pos (starEach args X.env)) (backToKw pos (keywordEach [] X.env)))) :
    wpAny (model X.prog X.w) X.A (eval (.Call (.Attribute e m apos) args [] pos) X.env) Q X.xe s := by
  refine PySem.W.methodCall_KW (pl := pl) (thn (he pins s σ H _ I h) fun u s1 hsl31 => ?_) ht
  obtain ⟨x, H1, I1, rx, a, C, dx, fs, g, ex, ea, c, k, l, q⟩ := hsl31
  subst ex
  obtain rfl : u = Value.ref a := rx
  exact getmeth_ok I1 ea c k l (q s1 I1)
end

/-! ### isinstance -/
section
variable {X : Cx} {pins : List (Addr × Obj)} {σ : St} {H : Hp} {s : Shared} {A : Around} {E : Value → Shared → Prop} {Q : Value → Shared → Prop} {c : Value} {b : Bool}
/-- the type of a value, as the fragment's deciders take it; for an instance its class -/
inductive TyOf (K : PySem.W.Frag) (H : Hp) : V → Value → Prop where
  | non : TyOf K H .non (.type "NoneType")
  | bl (x : Bool) : TyOf K H (.bl x) (.type "bool")
  | int (i : Int) : TyOf K H (.int i) (.type "int")
  | str (x : Str) : TyOf K H (.str x) (.type "str")
  | flt (x : UInt64) : TyOf K H (.flt x) (.type "float")
  | lst {a : Addr} {xs : List V} (e : H a = some (.lst xs)) : TyOf K H (.ref a) (.type "list")
  | frz {a : Addr} {o : Obj} {xs : List V} (e : H a = some (.frz o (.lst xs))) : TyOf K H (.ref a) (.type "list")
  | tup {a : Addr} {xs : List V} (e : H a = some (.tup xs)) : TyOf K H (.ref a) (.type "tuple")
  | dK {a : Addr} {kvs : List (Key × V)} (e : H a = some (.dK kvs)) : TyOf K H (.ref a) (.type "dict")
  | dT {a : Addr} {kvs : List (List Key × V)} (e : H a = some (.dT kvs)) : TyOf K H (.ref a) (.type "dict")
  | ins {a C dx : Addr} {fs : List (Str × V)} (e : H a = some (.ins C dx fs)) (cl : Cls K C) (ha : PySem.W.findIn K (.ref C) "__class__" = some (some (.builtin "object.__class__")))
      (hn : PySem.W.specialIn K (.builtin "object.__class__") "__get__" = some (some (.builtin "getset_descriptor.__get__"))) (htk : PySem.W.takesIn K (.builtin "object.__class__") = some true)
      (hm : PySem.W.mroIn K C (.type "object") = some true) : TyOf K H (.ref a) (.ref C)
/-- isinstance(x, c) for one class c, a built-in or an own one: kitOne's answer -/
theorem isinst_ok {x : V} {u t : Value} (I : Inv X pins σ H s) (rx : RelV x u) (ty : TyOf X.K H x t) (e : PySem.W.kitOne X.K t c = some b) (h : ∀ tk, Q (.bool b) { s with toks := tk }) :
    wpAny (model X.prog X.w) A (call (.builtin "isinstance") [u, c]) Q E s := by
  cases ty with
  | non => cases (show u = Value.none from rx); exact PySem.W.kia_one PySem.W.kitx_none I.kIn True.intro e (fun z => nomatch z) h
  | bl y => cases (show u = Value.bool y from rx); exact PySem.W.kia_one PySem.W.kitx_bool I.kIn True.intro e (fun z => nomatch z) h
  | int i => obtain ⟨t, q⟩ := (show ∃ t, u = Value.int i t from rx); cases q; exact PySem.W.kia_one PySem.W.kitx_int I.kIn True.intro e (fun z => nomatch z) h
  | str y => obtain ⟨t, q⟩ := (show ∃ t, u = Value.str y t from rx); cases q; exact PySem.W.kia_one PySem.W.kitx_str I.kIn True.intro e (fun z => nomatch z) h
  | flt y => obtain ⟨t, q⟩ := (show ∃ t, u = Value.float y t from rx); cases q; exact PySem.W.kia_one PySem.W.kitx_float I.kIn True.intro e (fun z => nomatch z) h
  | @lst a xs ea =>
    cases (show u = Value.ref a from rx)
    obtain ⟨_, _, n, _, h1⟩ := (show ObjOk X.prog X.w H s.heap a (.lst xs) from I.hok a _ ea)
    exact PySem.W.kia_one PySem.W.kitx_list I.kIn ⟨_, h1, rfl⟩ e (fun z => nomatch z) h
  | @frz a ob xs ea =>
    cases (show u = Value.ref a from rx)
    obtain ⟨_, _, _, n, _, h1⟩ := (show ObjOk X.prog X.w H s.heap a (.frz ob (.lst xs)) from I.hok a _ ea)
    exact PySem.W.kia_one PySem.W.kitx_list I.kIn ⟨_, h1, rfl⟩ e (fun z => nomatch z) h
  | @tup a xs ea =>
    cases (show u = Value.ref a from rx)
    obtain ⟨_, _, _, p⟩ := (show ObjOk X.prog X.w H s.heap a (.tup xs) from I.hok a _ ea)
    obtain ⟨o, h1, h2, _⟩ := p
    exact PySem.W.kia_one PySem.W.kitx_tuple I.kIn ⟨o, h1, h2⟩ e (fun z => nomatch z) h
  | @dK a kvs ea =>
    cases (show u = Value.ref a from rx)
    obtain ⟨_, _, vs, _, p⟩ := (show ObjOk X.prog X.w H s.heap a (.dK kvs) from I.hok a _ ea)
    obtain ⟨o, es, ep, h1, h2, _⟩ := p
    exact PySem.W.kia_one PySem.W.kitx_dict I.kIn ⟨o, h1, h2.1⟩ e (fun z => nomatch z) h
  | @dT a kvs ea =>
    cases (show u = Value.ref a from rx)
    obtain ⟨_, _, xs, _, o, es, ep, h1, h2, _⟩ := (show ObjOk X.prog X.w H s.heap a (.dT kvs) from I.hok a _ ea)
    exact PySem.W.kia_one PySem.W.kitx_dict I.kIn ⟨o, h1, h2.1⟩ e (fun z => nomatch z) h
  | @ins a C dx fs ea cl ha hn htk hm =>
    cases (show u = Value.ref a from rx)
    obtain ⟨mA, O, _⟩ := ins_get I.hok ea
    obtain ⟨od, J, _⟩ := O.look
    exact PySem.W.kia_one (PySem.W.kitx_own (cl.get _) cl.hd ha hn htk hm) I.kIn J e (fun z => nomatch z) h
end
end L2

namespace L2
open PySem PySem.Spec PyProof.Rows

/-! ### room -/
structure Room (k : Nat) (A : Around) : Prop where
  hd : A.handled = none
  dp : A.depth + 3 * k + 5 < recursionLimit
  un : A.units + 16 * k + 200 < cLine
theorem Room.mono {j k : Nat} {A : Around} (r : Room k A) (h : j ≤ k) : Room j A := ⟨r.hd, by have := r.dp; omega, by have := r.un; omega⟩
theorem Room.deeper {k : Nat} {A : Around} (r : Room (k + 1) A) (env : Env) : Room k (A.deeper env) :=
  ⟨r.hd, by have := r.dp; show A.depth + 1 + 3 * k + 5 < _; omega, by have := r.un; show A.units + 3 + 16 * k + 200 < _; omega⟩
theorem Room.in1 {k : Nat} {A : Around} (r : Room (k + 1) A) : Room k A.in1 :=
  ⟨r.hd, by have := r.dp; show A.depth + 3 * k + 5 < _; omega, by have := r.un; show A.units + 1 + 16 * k + 200 < _; omega⟩
theorem make_depth {A : Around} {C : Addr} {us : List Value} {kw : List (Str × Value)} : (A.under (.builtin "type.__call__" ⟨.ref C :: us, kw⟩)).depth = A.depth + 1 := by
  first | rfl | simp [Around.under, Code.weight, Code.isCreation, Code.isGuard, Code.isCaller, Code.frames, Code.isFrame, guardIds]
theorem make_units {A : Around} {C : Addr} {us : List Value} {kw : List (Str × Value)} : (A.under (.builtin "type.__call__" ⟨.ref C :: us, kw⟩)).units = A.units + 1 := by
  first | rfl | simp [Around.under, Code.cUnits, Code.frames, Code.isFrame]
theorem Room.make {k : Nat} {A : Around} (r : Room (k + 1) A) (C : Addr) (us : List Value) (kw : List (Str × Value)) : Room k (A.under (.builtin "type.__call__" ⟨.ref C :: us, kw⟩)) :=
  ⟨r.hd, by have := r.dp; rw [make_depth]; omega, by have := r.un; rw [make_units]; omega⟩
theorem Room.depth {k : Nat} {A : Around} (r : Room k A) : A.depth < recursionLimit := by have := r.dp; omega
theorem Room.units {k : Nat} {A : Around} (r : Room k A) : A.units + 64 < cLine := by have := r.un; omega
/-! ### argument lists and displays -/
noncomputable def tNil : TA := fun _ H Q => Q [] H
noncomputable def tCons (ta : TE) (tr : TA) : TA := fun σ H Q => ta σ H fun x H1 => tr σ H1 fun xs H2 => Q (x :: xs) H2
section
variable {X : Cx} {e : Expr} {es : List Expr} {te : TE} {t : TA} {pos : Pos}
theorem pa_nil : PA X [] tNil := fun _ _ _ _ H Q I h => Calls.spliced_nil ⟨[], H, I, .nil, h⟩
theorem pa_cons (ha : PE X e te) (hr : PA X es t) (hs : starEach (e :: es) X.env = (false, eval e X.env) :: starEach es X.env := by rfl) : PA X (e :: es) (tCons te t) := by
  intro pos pins s σ H Q I h
  rw [hs]
  show wpAny _ _ (spliced ((false, eval e X.env) :: backTo pos (starEach es X.env))) _ _ s
  refine Calls.spliced_cons (thn (ha pins s σ H _ I h) fun u s1 hsl32 => ?_)
  obtain ⟨x, H1, I1, r1, q1⟩ := hsl32
  exact thn (hr pos pins s1 σ H1 _ I1 q1) fun us s2 hsl33 => by obtain ⟨xs, H2, I2, r2, q2⟩ := hsl33; exact ⟨x :: xs, H2, I2, .cons r1 r2, q2⟩

/-- a tuple, a list of written items -/
noncomputable def tTup (t : TA) : TE := fun σ H Q => t σ H fun xs H1 => xs.length ≤ sizeLine ∧ ∀ p, H1 p = none → Q (.ref p) (upd H1 p (.tup xs))
noncomputable def tLst (t : TA) : TE := fun σ H Q => t σ H fun xs H1 => xs.length ≤ sizeLine ∧ ∀ p, H1 p = none → Q (.ref p) (upd H1 p (.lst xs))
theorem pe_tup {x1} (h : PA X es t) : PE X (.Tuple es x1 pos) (tTup t) := by
  intro pins s σ H Q I hq
  refine wpAny_Tuple_spliced (thn (h pos pins s σ H _ I hq) fun us s1 ⟨xs, H1, I1, r, z, q⟩ => ⟨by rw [← r.length]; exact z, ?_⟩)
  have hf : H1 s1.heap.objs.size = none := I1.hok.fresh (Nat.le_refl _)
  refine ⟨.ref s1.heap.objs.size, upd H1 s1.heap.objs.size (.tup xs), I1.laid (t' := s1.toks) (fun b u e => Heap.get?_push_of_some _ e) (Nat.le_refl _) ?_, rfl, q _ hf⟩
  exact ⟨z, us, r, ⟨_, Heap.get?_push_size _ rfl, rfl, _, rfl⟩⟩
theorem pe_lst (h : PA X es t) : PE X (.List es pos) (tLst t) := by
  intro pins s σ H Q I hq
  refine wpAny_List_spliced (thn (h pos pins s σ H _ I hq) fun us s1 ⟨xs, H1, I1, r, z, q⟩ => ⟨by rw [← r.length]; exact z, ?_⟩)
  have hf : H1 s1.heap.objs.size = none := I1.hok.fresh (Nat.le_refl _)
  refine ⟨.ref s1.heap.objs.size, upd H1 s1.heap.objs.size (.lst xs), I1.laid (t' := s1.toks) (fun b u e => Heap.get?_push_of_some _ e) (Nat.le_refl _) ?_, rfl, q _ hf⟩
  exact ⟨z, us, 0, r, Heap.get?_push_size _ rfl⟩
end

/-! ### what a def promises -/
/-- a def's promise: the bound arguments in the parameters' order, the heap, the wanted end, the wanted exception -/
noncomputable abbrev Sp := List V → Hp → VK → XK → Prop
/-- how an exception lies behind a call (file 08 gives it): the callers' frames, abstract heap and state ahead of the call, the wish, the exception, the state -/
noncomputable abbrev CXT := List Env → Hp → Shared → XK → Value → Shared → Prop

/-- the state at a call -/
structure Env0 (P : Program) (w : World) (K : PySem.W.Frag) (mg : Str → Option Value) (base : Heap) (A : Around) (outer : List Env) (s : Shared) (H : Hp) : Prop where
  frames : A.frames = some outer
  mod : Mod K mg base
  bs : ∀ b o, base.get? b = some o → s.heap.get? b = some o ∧ H b = none
  bsz : base.objs.size ≤ s.heap.objs.size
  funs : s.heap.FunFrames base outer
  frf : ∀ b ∈ frs outer, H b = none
  hok : HOk P w H s.heap
  bare : AllBare s.gens
/-- a call's end -/
noncomputable def CE (outer : List Env) (P : Program) (w : World) (H : Hp) (s : Shared) (Q : VK) (u : Value) (s' : Shared) : Prop :=
  ∃ v H', s'.os = s.os ∧ AllBare s'.gens ∧ Un (frs outer) [] H H' s.heap s'.heap ∧ HOk P w H' s'.heap ∧ RelV v u ∧ Q v H'
noncomputable def CR (CX : CXT) (outer : List Env) (P : Program) (w : World) (H : Hp) (s : Shared) (Q : VK) (E : XK) (r : Result) (s' : Shared) : Prop :=
  match r with
  | .ok (.ret u) => CE outer P w H s Q u s'
  | .ok _ => False
  | .error e => CX outer H s E e s'
structure FnOk (P : Program) (w : World) (K : PySem.W.Frag) (mg : Str → Option Value) (base : Heap) (CX : CXT) (k : Nat) (f : Addr) (fd : FuncData) (ps : List Str) (sp : Sp) : Prop where
  len : ∀ vs H Q E, sp vs H Q E → vs.length = ps.length
  run : ∀ (A : Around) (outer : List Env) (s : Shared) (H : Hp) (args : Args) (us : List Value) (vs : List V) (Q : VK) (E : XK), Room k A → Env0 P w K mg base A outer s H → BindsTo s fd args (ps.zip us) → Vals vs us → sp vs H Q E →
    codeAny (model P w) A (.call (.ref f) args) (CR CX outer P w H s Q E) s
theorem FnOk.mono {P : Program} {w : World} {K : PySem.W.Frag} {mg : Str → Option Value} {base : Heap} {CX : CXT} {j k : Nat} {f : Addr} {fd : FuncData} {ps : List Str} {sp : Sp} (F : FnOk P w K mg base CX j f fd ps sp) (h : j ≤ k) :
    FnOk P w K mg base CX k f fd ps sp := ⟨F.len, fun A outer s H args us vs Q E hr => F.run A outer s H args us vs Q E (hr.mono h)⟩
theorem Env0.make {P : Program} {w : World} {K : PySem.W.Frag} {mg : Str → Option Value} {base : Heap} {A : Around} {outer : List Env} {s : Shared} {H : Hp} (e : Env0 P w K mg base A outer s H) (C : Addr) (us : List Value) (kw : List (Str × Value)) :
    Env0 P w K mg base (A.under (.builtin "type.__call__" ⟨.ref C :: us, kw⟩)) outer s H := ⟨by first | exact e.frames | (simpa [Around.under, Code.envs, Code.isFrame, pushEnvs] using e.frames), e.mod, e.bs, e.bsz, e.funs, e.frf, e.hok, e.bare⟩
theorem Env0.in1 {P : Program} {w : World} {K : PySem.W.Frag} {mg : Str → Option Value} {base : Heap} {A : Around} {outer : List Env} {s : Shared} {H : Hp} (e : Env0 P w K mg base A outer s H) :
    Env0 P w K mg base A.in1 outer s H := ⟨e.frames, e.mod, e.bs, e.bsz, e.funs, e.frf, e.hok, e.bare⟩

section
variable {X : Cx} {pins : List (Addr × Obj)} {σ : St} {H : Hp} {s s' : Shared}
/-- from a body: what a callee wants -/
theorem Inv.env0 (I : Inv X pins σ H s) : Env0 X.prog X.w X.K X.mg X.base X.A X.stack s H :=
  ⟨I.ok.frames, I.ok.mod, I.bs, Nat.le_trans I.ok.bsz I.sz, I.stack, I.stkFree, I.hok, I.bare⟩
/-- behind a call -/
theorem Inv.after {Q : VK} {u : Value} (I : Inv X pins σ H s) (h : CE X.stack X.prog X.w H s Q u s') : EP X pins σ Q u s' := by
  obtain ⟨v, H', os, bare, un, hok, r, q⟩ := h
  obtain ⟨hh, g, d, t, os'⟩ := s'
  obtain rfl : os' = s.os := os
  exact ⟨v, H', I.call (h' := hh) (g' := g) (d' := d) (t' := t) (ch := []) un hok bare (fun b z => absurd z (by simp)), r, q⟩
end

/-! ### calls -/
/-- f(..): the written arguments, then the defaults dvs; E: what is wanted of an exception -/
noncomputable def tCall (sp : Sp) (dvs : List V) (E : XK) (t : TA) : TE := fun σ H Q => t σ H fun vs H1 => sp (vs ++ dvs) H1 Q E
/-- o.m(..) of an instance of the class at C -/
noncomputable def tMeth (C : Addr) (m : Str) (sp : Sp) (dvs : List V) (E : XK) (ta : TE) (t : TA) : TE := fun σ H Q => ta σ H fun x H1 => ∃ a dx fs, x = .ref a ∧ H1 a = some (.ins C dx fs) ∧ fs.lookup m = none ∧
  t σ H1 fun vs H2 => sp (x :: (vs ++ dvs)) H2 Q E
/-- C(..): a new instance and its dict, then __init__ -/
noncomputable def tMake (C : Addr) (sp : Sp) (dvs : List V) (E : XK) (t : TA) : TE := fun σ H Q => t σ H fun vs H1 => ∀ x dx, H1 x = none → H1 dx = none → dx ≠ x →
  sp (.ref x :: (vs ++ dvs)) (upd (upd H1 dx (.own x)) x (.ins C dx [])) (fun v H2 => v = .non ∧ Q (.ref x) H2) E

/-- how the parameters are bound: us the positional arguments, kw the keywords' values by name, ds the defaults that fill up -/
noncomputable def Binds (K : PySem.W.Frag) (fd : FuncData) (ps : List Str) (ds : List Value) : Prop :=
  ∀ (s : Shared) (us : List Value), K.In s.heap → (us ++ ds).length = ps.length → BindsTo s fd ⟨us, []⟩ (ps.zip (us ++ ds))
/-- every parameter is given -/
theorem Binds.all {K : PySem.W.Frag} {fd : FuncData} {ps : List Str} (h : ∀ us : List Value, us.length = ps.length → bindArgs fd ⟨us, []⟩ = pure (ps.zip us)) : Binds K fd ps [] := fun s us _ hl => by
  rw [List.append_nil] at hl ⊢
  exact .of_eq (h us hl)

/-- an exception of a callee reaches what this body wants of exceptions -/
noncomputable def Passes (CX : CXT) (X : Cx) (E : XK) : Prop := ∀ (pins : List (Addr × Obj)) (σ : St) (H : Hp) (s : Shared) (e : Value) (s' : Shared), Inv X pins σ H s → CX X.stack H s E e s' → X.xe e s'

section
variable {X : Cx} {CX : CXT} {k : Nat} {f C : Addr} {fd : FuncData} {ps : List Str} {sp : Sp} {dvs : List V} {ds : List Value} {E : XK} {x m : Str} {p pos apos : Pos} {e o : Expr} {es : List Expr} {ta : TE} {t : TA}

/-- the callee runs -/
theorem run_fn {pins : List (Addr × Obj)} {σ : St} {H : Hp} {s : Shared} {Q : VK} {us : List Value} {vs : List V} (F : FnOk X.prog X.w X.K X.mg X.base CX k f fd ps sp) (hr : Room k X.A) (hb : Binds X.K fd ps ds) (hd : Vals dvs ds) (hx : Passes CX X E)
    (I : Inv X pins σ H s) (r : Vals vs us) (h : sp (vs ++ dvs) H Q E) : wpAny (model X.prog X.w) X.A (call (.ref f) us) (EP X pins σ Q) X.xe s := by
  have r2 : Vals (vs ++ dvs) (us ++ ds) := r.append hd
  have hl : (us ++ ds).length = ps.length := by rw [← r2.length]; exact F.len _ _ _ _ h
  refine wpAny_call (codeAny_mono (F.run X.A X.stack s H ⟨us, []⟩ (us ++ ds) (vs ++ dvs) Q E hr I.env0 (hb s us I.kIn hl) r2 h) fun r s' hq => ?_)
  cases r with
  | error e => exact hx pins σ H s e s' I hq
  | ok fl =>
    cases fl with
    | ret u => exact I.after hq
    | next => exact False.elim hq
    | brk => exact False.elim hq
    | cont => exact False.elim hq

theorem pe_call (F : FnOk X.prog X.w X.K X.mg X.base CX k f fd ps sp) (hr : Room k X.A) (hg : Gl X x) (hm : X.mg x = some (.ref f)) (hk : PySem.W.keepIn X.K (.ref f) = true) (hb : Binds X.K fd ps ds) (hd : Vals dvs ds) (hx : Passes CX X E)
    (ha : PA X (e :: es) t) (hdb : (x == ("__debug__" : Str)) = false := by decide) (he : starEach (e :: es) X.env = (false, eval e X.env) :: starEach es X.env := by rfl) (hpl : (backTo pos (starEach es X.env)).any (·.1) = false := by rfl) :
    PE X (.Call (.Name x p) (e :: es) [] pos) (tCall sp dvs E t) := by
  intro pins s σ H Q I h
  refine wpAny_Call_Name_kw (ld_glob I hg hm ?_ hdb)
  refine PySem.W.callWith_K (h₀ := X.base) I.ok.mod.kin hk (thn (ha pos pins s σ H _ I h) fun us s1 ⟨vs, H1, I1, r, q⟩ => ⟨I1.kIn, ?_⟩) he hpl
  exact run_fn F hr hb hd hx I1 r q
theorem pe_call0 (F : FnOk X.prog X.w X.K X.mg X.base CX k f fd ps sp) (hr : Room k X.A) (hg : Gl X x) (hm : X.mg x = some (.ref f)) (hk : PySem.W.keepIn X.K (.ref f) = true) (hb : Binds X.K fd ps ds) (hd : Vals dvs ds) (hx : Passes CX X E)
    (hdb : (x == ("__debug__" : Str)) = false := by decide) : PE X (.Call (.Name x p) [] [] pos) (tCall sp dvs E tNil) := by
  intro pins s σ H Q I h
  refine wpAny_Call_Name_kw (ld_glob I hg hm ?_ hdb)
  exact PySem.W.callWith_K0 I.kIn hk (run_fn (us := []) F hr hb hd hx I .nil h)

/-- o.m(e, ..) -/
theorem pe_meth {pl : Sem Bool} (he : PE X o ta) (c : Cls X.K C) (hm : Meth X.K C m f) (F : FnOk X.prog X.w X.K X.mg X.base CX k f fd ps sp) (hr : Room k X.A) (hb : Binds X.K fd ps ds) (hd : Vals dvs ds) (hx : Passes CX X E) (ha : PA X (e :: es) t)
    (hst : starEach (e :: es) X.env = (false, eval e X.env) :: starEach es X.env := by rfl) (hpl : (backTo pos (starEach es X.env)).any (·.1) = false := by rfl)
    (ht : eval (.Call (.Attribute o m apos) (e :: es) [] pos) X.env = (do
      let ov ← eval o X.env
      standAt apos.atName
      let (f, first) ← holding [ov] (getMethod ov m pl)
      callWith pos f first (backTo pos (starEach (e :: es) X.env)) (backToKw pos (keywordEach [] X.env))) := by rfl) :
    PE X (.Call (.Attribute o m apos) (e :: es) [] pos) (tMeth C m sp dvs E ta t) := by
  intro pins s σ H Q I h
  refine PySem.W.methodCall_KW (pl := pl) (thn (he pins s σ H _ I h) fun u s1 hsl34 => ?_) ht
  obtain ⟨x, H1, I1, rx, a, dx, fs, ex, ea, l, q⟩ := hsl34
  subst ex
  obtain rfl : u = Value.ref a := rx
  refine getmeth_ok I1 ea c hm l ?_
  refine PySem.W.callWith_K (first := [.ref a]) (h₀ := X.base) I.ok.mod.kin hm.kp (thn (ha pos pins s1 σ H1 _ I1 q) fun us s2 ⟨vs, H2, I2, r, q2⟩ => ⟨I2.kIn, ?_⟩) hst hpl
  exact run_fn (us := .ref a :: us) (vs := .ref a :: vs) F hr hb hd hx I2 (.cons rfl r) q2
/-- o.m() -/
theorem pe_meth0 {pl : Sem Bool} (he : PE X o ta) (c : Cls X.K C) (hm : Meth X.K C m f) (F : FnOk X.prog X.w X.K X.mg X.base CX k f fd ps sp) (hr : Room k X.A) (hb : Binds X.K fd ps ds) (hd : Vals dvs ds) (hx : Passes CX X E)
    (ht : eval (.Call (.Attribute o m apos) [] [] pos) X.env = (do
      let ov ← eval o X.env
      standAt apos.atName
      let (f, first) ← holding [ov] (getMethod ov m pl)
      callWith pos f first (backTo pos (starEach [] X.env)) (backToKw pos (keywordEach [] X.env))) := by rfl) :
    PE X (.Call (.Attribute o m apos) [] [] pos) (tMeth C m sp dvs E ta tNil) := by
  intro pins s σ H Q I h
  refine PySem.W.methodCall_KW (pl := pl) (thn (he pins s σ H _ I h) fun u s1 hsl35 => ?_) ht
  obtain ⟨x, H1, I1, rx, a, dx, fs, ex, ea, l, q⟩ := hsl35
  subst ex
  obtain rfl : u = Value.ref a := rx
  refine getmeth_ok I1 ea c hm l ?_
  exact PySem.W.callWith_K0 (first := [.ref a]) I1.kIn hm.kp (run_fn (us := [.ref a]) (vs := [.ref a]) F hr hb hd hx I1 (.cons rfl .nil) q)

/-- what a class must have to be made -/
structure Mk (K : PySem.W.Frag) (C f : Addr) : Prop where
  makes : PySem.W.makesIn K C = true
  init : PySem.W.findIn K (.ref C) "__init__" = some (some (.ref f))
  fn : PySem.W.isFn K (.ref f) = true
  kp : PySem.W.keepIn K (.ref C) = true

theorem run_make {pins : List (Addr × Obj)} {σ : St} {H : Hp} {s : Shared} {Q : VK} {us : List Value} {vs : List V} (M : Mk X.K C f) (F : FnOk X.prog X.w X.K X.mg X.base CX k f fd ps sp) (hr : Room (k + 1) X.A) (hb : Binds X.K fd ps ds) (hd : Vals dvs ds)
    (hx : Passes CX X E) (I : Inv X pins σ H s) (r : Vals vs us)
    (h : ∀ x dx, H x = none → H dx = none → dx ≠ x → sp (.ref x :: (vs ++ dvs)) (upd (upd H dx (.own x)) x (.ins C dx [])) (fun v H2 => v = .non ∧ Q (.ref x) H2) E) :
    wpAny (model X.prog X.w) X.A (call (.ref C) us) (EP X pins σ Q) X.xe s := by
  have hq := h (s.heap.objs.size + 1) s.heap.objs.size (I.hok.fresh (Nat.le_succ _)) (I.hok.fresh (Nat.le_refl _)) (Nat.ne_of_lt (Nat.lt_succ_self _))
  have I2 := Inv.made (C := C) I
  have r2 : Vals (V.ref (s.heap.objs.size + 1) :: (vs ++ dvs)) (Value.ref (s.heap.objs.size + 1) :: (us ++ ds)) := .cons rfl (r.append hd)
  have hl : (Value.ref (s.heap.objs.size + 1) :: us ++ ds).length = ps.length := by
    have e := r2.length
    rw [F.len _ _ _ _ hq] at e
    exact e.symm
  refine wpAny_call (make_map (f := f) I.kIn M.makes M.init (beq_iff_eq.mp M.fn) (codeAny_mono (F.run _ X.stack _ _ ⟨Value.ref (s.heap.objs.size + 1) :: us, []⟩ (Value.ref (s.heap.objs.size + 1) :: (us ++ ds)) _ _ E (hr.make C us [])
    (I2.env0.make C us []) (hb _ (Value.ref (s.heap.objs.size + 1) :: us) I2.kIn hl) r2 hq) fun r s' hq' => ?_))
  cases r with
  | error e => exact hx pins σ _ _ e s' I2 hq'
  | ok fl =>
    cases fl with
    | ret u =>
      obtain ⟨v, H', I3, rv, ev, q3⟩ := I2.after hq'
      subst ev
      exact ⟨rv, ⟨V.ref (s.heap.objs.size + 1), H', I3, rfl, q3⟩⟩
    | next => exact False.elim hq'
    | brk => exact False.elim hq'
    | cont => exact False.elim hq'
theorem pe_make (M : Mk X.K C f) (F : FnOk X.prog X.w X.K X.mg X.base CX k f fd ps sp) (hr : Room (k + 1) X.A) (hg : Gl X x) (hm : X.mg x = some (.ref C)) (hb : Binds X.K fd ps ds) (hd : Vals dvs ds) (hx : Passes CX X E)
    (ha : PA X (e :: es) t) (hdb : (x == ("__debug__" : Str)) = false := by decide) (he : starEach (e :: es) X.env = (false, eval e X.env) :: starEach es X.env := by rfl) (hpl : (backTo pos (starEach es X.env)).any (·.1) = false := by rfl) :
    PE X (.Call (.Name x p) (e :: es) [] pos) (tMake C sp dvs E t) := by
  intro pins s σ H Q I h
  refine wpAny_Call_Name_kw (ld_glob I hg hm ?_ hdb)
  refine PySem.W.callWith_K (h₀ := X.base) I.ok.mod.kin M.kp (thn (ha pos pins s σ H _ I h) fun us s1 ⟨vs, H1, I1, r, q⟩ => ⟨I1.kIn, ?_⟩) he hpl
  exact run_make M F hr hb hd hx I1 r q
end

/-! ### keywords -/
section
variable {X : Cx} {CX : CXT} {k : Nat} {f C : Addr} {fd : FuncData} {ps ks : List Str} {sp : Sp} {E : XK} {x m : Str} {p pos apos kpos : Pos} {e o : Expr} {es : List Expr} {kws : List Keyword} {te ta : TE} {t tk : TA} {nm : Option Str}
/-- how a call with keywords binds: g puts the positional values us and the keywords' values ws (names ks) in the parameters' order, defaults among them -/
structure KBinds (K : PySem.W.Frag) (fd : FuncData) (ps ks : List Str) (g : List Value → List Value → List Value) (gV : List V → List V → List V) : Prop where
  to : ∀ (s : Shared) (us ws : List Value), K.In s.heap → (g us ws).length = ps.length → BindsTo s fd ⟨us, ks.zip ws⟩ (ps.zip (g us ws))
  rel : ∀ {vs : List V} {us : List Value} {zs : List V} {ws : List Value}, Vals vs us → Vals zs ws → Vals (gV vs zs) (g us ws)
variable {g : List Value → List Value → List Value} {gV : List V → List V → List V}
end

/-! ### a def's body keeps its promise -/
/-- names: the parameters first -/
structure FnScope (N P : List Str) (sc : Scope) : Prop where
  kind : sc.kind = .function
  co : sc.isCoroutine = false
  gen : sc.isGenerator = false
  nd : N.Nodup
  pre : N.take P.length = P
  par : ∀ x ∈ P, sc.names.lookup x = some .local ∨ sc.names.lookup x = some .cell
  nofree : ∀ y ∈ sc.names, y.2 ≠ .free

theorem bindL_out {kindOf : Str → Option NameKind} {x : Str} : ∀ {binds : List (Str × Value)} {m : Str → Option Value}, (∀ v, (x, v) ∉ binds) → bindL kindOf binds m x = m x
  | [], _, _ => rfl
  | (n, v) :: r, m, h => by
    unfold bindL
    rw [bindL_out fun w hw => h w (List.mem_cons_of_mem _ hw)]
    split
    · have : x ≠ n := by rintro rfl; exact h v List.mem_cons_self
      simp [this]
    · rfl
theorem bindC_out {kindOf : Str → Option NameKind} {x : Str} : ∀ {binds : List (Str × Value)} {m : Str → Option Value}, (∀ v, (x, v) ∉ binds) → bindC kindOf binds m x = m x
  | [], _, _ => rfl
  | (n, v) :: r, m, h => by
    unfold bindC
    rw [bindC_out fun w hw => h w (List.mem_cons_of_mem _ hw)]
    split
    · rfl
    · have : x ≠ n := by rintro rfl; exact h v List.mem_cons_self
      simp [this]
theorem bindL_get {kindOf : Str → Option NameKind} {x : Str} {v : Value} : ∀ {P : List Str} {vs : List Value} {i : Nat} {m : Str → Option Value}, P.Nodup → P[i]? = some x → vs[i]? = some v → kindOf x = some .local →
    bindL kindOf (P.zip vs) m x = some v
  | [], _, _, _, _, h, _, _ => by simp at h
  | _ :: _, [], _, _, _, _, h, _ => by simp at h
  | p :: P, w :: vs, 0, m, nd, h1, h2, hk => by
    simp at h1 h2; subst h1; subst h2
    show bindL kindOf ((p, w) :: P.zip vs) m p = _
    unfold bindL
    rw [bindL_out fun v hv => (List.nodup_cons.mp nd).1 (List.of_mem_zip hv).1, if_pos hk]
    simp
  | p :: P, w :: vs, i + 1, m, nd, h1, h2, hk => by
    show bindL kindOf ((p, w) :: P.zip vs) m x = _
    unfold bindL
    exact bindL_get (i := i) (List.nodup_cons.mp nd).2 (by simpa using h1) (by simpa using h2) hk
theorem bindC_get {kindOf : Str → Option NameKind} {x : Str} {v : Value} : ∀ {P : List Str} {vs : List Value} {i : Nat} {m : Str → Option Value}, P.Nodup → P[i]? = some x → vs[i]? = some v → kindOf x ≠ some .local →
    bindC kindOf (P.zip vs) m x = some v
  | [], _, _, _, _, h, _, _ => by simp at h
  | _ :: _, [], _, _, _, _, h, _ => by simp at h
  | p :: P, w :: vs, 0, m, nd, h1, h2, hk => by
    simp at h1 h2; subst h1; subst h2
    show bindC kindOf ((p, w) :: P.zip vs) m p = _
    unfold bindC
    rw [bindC_out fun v hv => (List.nodup_cons.mp nd).1 (List.of_mem_zip hv).1, if_neg hk]
    simp
  | p :: P, w :: vs, i + 1, m, nd, h1, h2, hk => by
    show bindC kindOf ((p, w) :: P.zip vs) m x = _
    unfold bindC
    exact bindC_get (i := i) (List.nodup_cons.mp nd).2 (by simpa using h1) (by simpa using h2) hk

/-- the names' values at the entry -/
noncomputable def start (N : List Str) (vs : List V) : St := vs.map some ++ List.replicate (N.length - vs.length) none

/-- the context of a def's body, at its entry; an exception leaves the frame, then lies as CX says -/
noncomputable def cxOf (CX : CXT) (P : Program) (w : World) (K : PySem.W.Frag) (mg : Str → Option Value) (base : Heap) (N : List Str) (qual : Str) (scope : Scope) (f : Addr) (cd : Value) (A : Around) (outer : List Env) (s : Shared) (H : Hp) (E : XK) : Cx where
  prog := P
  w := w
  K := K
  mg := mg
  base := base
  A := A.deeper (envOfC qual scope s.heap.objs.size f cd)
  N := N
  s₀ := s
  H₀ := H
  env := envOfC qual scope s.heap.objs.size f cd
  outer := outer
  stack := envOfC qual scope s.heap.objs.size f cd :: outer
  ex := []
  calm := true
  fn := fun _ => true
  pn := []
  xe := fun e s' => wpAny (model P w) (A.deeper (envOfC qual scope s.heap.objs.size f cd)) (leaving (envOfC qual scope s.heap.objs.size f cd) e) (fun _ s'' => CX outer H s E e s'') (fun e' s'' => CX outer H s E e' s'') s'

theorem cell_has {sc : Scope} {n : Nat} {x : Str} (h : sc.names.lookup x = some .cell) : ∃ c, (cellsFrom n sc.names []).lookup x = some c := by
  have q := PySem.W.cellsFrom_some sc.names n [] (.inl h)
  exact Option.isSome_iff_exists.mp q

theorem inv_start {CX : CXT} {P : Program} {w : World} {K : PySem.W.Frag} {mg : Str → Option Value} {base : Heap} {N ps : List Str} {qual : Str} {scope : Scope} {f : Addr} {cd : Value} {A : Around} {outer : List Env} {s s1 : Shared} {H : Hp} {E : XK} {us : List Value} {vs : List V}
    (S : FnScope N ps scope) (hd : A.handled = none) (e0 : Env0 P w K mg base A outer s H) (hl : vs.length = ps.length) (r : Vals vs us)
    (x : InCallC s s.heap.objs.size (bindL (envOfC qual scope s.heap.objs.size f cd).kindOf (ps.zip us) fun _ => none) (cellsFrom (s.heap.objs.size + 1) scope.names []) (bindC (envOfC qual scope s.heap.objs.size f cd).kindOf (ps.zip us) fun _ => none) s1) :
    Inv (cxOf CX P w K mg base N qual scope f cd A outer s H E) [] (start N vs) H s1 := by
  have hpl : ps.length ≤ N.length := by have := congrArg List.length S.pre; rw [List.length_take] at this; omega
  obtain ⟨h1, tk, rfl, hk⟩ := x.done
  have noA : ∀ b : Addr, b ∉ (cxOf CX P w K mg base N qual scope f cd A outer s H E).ex := fun b z => absurd (show b ∈ ([] : List Addr) from z) (by simp)
  refine ⟨⟨e0.mod, S.kind, rfl, rfl, Nat.le_refl _, fun y z c h1 h2 => ?_, fun y hy => ?_, fun y c _ h => ?_, fun _ => hd, Around.frames_deeper e0.frames, .inr ⟨rfl, rfl⟩, fun b z => absurd z (noA b), e0.bs, e0.bsz, fun b _ _ => noA b, fun b z => absurd z (noA b), e0.funs, e0.frf⟩,
    rfl, e0.bare, Un.kept hk, ⟨_, x.toInCall.ns, fun i y v h1 h2 h3 => ?_⟩, fun y c h => ⟨_, x.cell y c h⟩, e0.hok.fresh (Nat.le_refl _), fun y c h => ?_, fun p hp => absurd (show p ∈ ([] : List (Addr × Obj)) from hp) (by simp), e0.hok.kept hk, ?_⟩
  · exact name_of_addr x.apart (PySem.mem_of_lookup h1) (PySem.mem_of_lookup h2)
  · have hy : scope.names.lookup y = some .cell ∨ scope.names.lookup y = some .free := hy
    rcases hy with hy | hy
    · exact cell_has hy
    · exact absurd rfl (S.nofree _ (PySem.mem_of_lookup hy))
  · exact Nat.le_of_lt (x.above y c (PySem.mem_of_lookup h))
  · have hi : i < vs.length := by
      unfold start at h2
      by_cases hi : i < vs.length
      · exact hi
      · rw [List.getElem?_append_right (by simpa using hi)] at h2
        rw [List.getElem?_replicate] at h2
        split at h2 <;> cases h2
    have ha : vs[i]? = some v := by
      unfold start at h2
      rw [List.getElem?_append_left (by simpa using hi), List.getElem?_map] at h2
      cases e : vs[i]? with
      | none => rw [e] at h2; cases h2
      | some a => rw [e] at h2; cases h2; rfl
    obtain ⟨u, hu, rv⟩ := r.get ha
    have hp : ps[i]? = some y := by
      rw [← S.pre, List.getElem?_take_of_lt (by omega)]; exact h1
    have ndP : ps.Nodup := by rw [← S.pre]; exact S.nd.sublist (List.take_sublist _ _)
    refine ⟨u, rv, ?_⟩
    rcases S.par y (List.mem_of_getElem? hp) with k | k
    · exact .inl ⟨k, bindL_get ndP hp hu k⟩
    · obtain ⟨c, e⟩ := cell_has (n := s.heap.objs.size + 1) k
      refine .inr ⟨.inl k, c, e, ?_⟩
      have q := x.cell y c e
      rw [bindC_get ndP hp hu (by show scope.names.lookup y ≠ _; rw [k]; decide)] at q
      exact q
  · exact e0.hok.fresh (Nat.le_of_lt (x.above y c (PySem.mem_of_lookup h)))
  · unfold start
    show _ = N.length
    rw [List.length_append, List.length_map, List.length_replicate]
    omega

/-- THE RULE: a def (or a method) of the text, by its body. The body's reading t is chosen for each entry; it is run at the parameters' values -/
theorem fn_of {CX : CXT} {P : Program} {w : World} {K : PySem.W.Frag} {mg : Str → Option Value} {base : Heap} {k : Nat} {f : Addr} {name qual : Str} {params : Arguments} {body : List Stmt} {scope : Scope} {dV kV doc pm cdv ct oc : Value} {an od : Option Addr}
    {osl : Array (Option Value)} {N ps : List Str} {sp : Sp} (lk : K.lookup f = some ⟨oc, od, .func (PySem.W.fnOf name qual params body scope dV kV doc pm an cdv ct), osl⟩) (hcd : PySem.W.codeIn K cdv qual = true) (S : FnScope N ps scope)
    (len : ∀ vs H Q E, sp vs H Q E → vs.length = ps.length)
    (hbody : ∀ (A : Around) (outer : List Env) (s : Shared) (H : Hp) (vs : List V) (Q : VK) (E : XK), Room k (A.deeper (envOfC qual scope s.heap.objs.size f cdv)) → sp vs H Q E →
      ∃ t, PSs (cxOf CX P w K mg base N qual scope f cdv A outer s H E) body t ∧ t { nx := fun _ H' => Q .non H', rt := Q } (start N vs) H) :
    FnOk P w K mg base CX (k + 1) f (PySem.W.fnOf name qual params body scope dV kV doc pm an cdv ct) ps sp := by
  refine ⟨len, fun A outer s H args us vs Q E hr e0 hb r hsp => ?_⟩
  have hl := len _ _ _ _ hsp
  have KX : K.In s.heap := e0.mod.kin.keeps fun b o e => (e0.bs b o e).1
  have lim : s.heap.NoLimit := e0.mod.nolimit.keeps fun b o e => (e0.bs b o e).1
  have hkind : ∀ y ∈ ps.zip us, scope.names.lookup y.1 = some .local ∨ (scope.names.lookup y.1 = some .cell ∧ ((cellsFrom (s.heap.objs.size + 1) scope.names []).lookup y.1).isSome = true) := fun ⟨n, v⟩ hy => by
    rcases S.par n (List.of_mem_zip hy).1 with q | q
    · exact .inl q
    · exact .inr ⟨q, PySem.W.cellsFrom_some _ _ _ (.inl q)⟩
  refine codeAny_call_function hr.depth (KX _ _ lk) rfl S.co S.gen rfl (PySem.W.codeRec_of KX hcd) (hb _ _ _ _ ?_)
  refine wpAny_newFunctionEnv_cells S.kind hkind fun env he s1 x => ?_
  subst he
  refine ⟨lim.keeps x.toInCall.keep, codeAny_func ?_⟩
  obtain ⟨t, ht, hq⟩ := hbody A outer s H vs Q E (hr.deeper _) hsp
  have I : Inv (cxOf CX P w K mg base N qual scope f cdv A outer s H E) [] (start N vs) H s1 := inv_start S hr.hd e0 hl r x
  refine wpAny_mono (ht [] s1 (start N vs) H _ I hq) (fun fl s' hs => ?_) fun e s' hs => hs
  have fin : ∀ {σ' : St} {H' : Hp} {v : V} {u : Value}, Inv (cxOf CX P w K mg base N qual scope f cdv A outer s H E) [] σ' H' s' → RelV v u → Q v H' → CE outer P w H s Q u s' :=
    fun {σ' H' v u} J rv q => ⟨v, H', J.os, J.bare, J.base, J.hok, rv, q⟩
  cases fl with
  | ret u =>
    obtain ⟨v, σ', H', J, rv, q⟩ := hs
    exact fin J rv q
  | next =>
    obtain ⟨σ', H', J, q⟩ := hs
    exact fin (v := V.non) (u := Value.none) J rfl q
  | brk =>
    obtain ⟨_, _, _, q⟩ := hs
    exact False.elim q
  | cont =>
    obtain ⟨_, _, _, q⟩ := hs
    exact False.elim q
end L2

namespace L2
open PySem PySem.Spec PyProof.Rows
section
variable {X : Cx} {x : Str} {p pos : Pos} {e : Expr} {es : List Expr} {t : TA} {id T : String} {r : List V → Hp → VK → Prop}

noncomputable def tCB (r : List V → Hp → VK → Prop) (t : TA) : TE := fun σ H Q => t σ H fun vs H1 => r vs H1 Q
/-- f(e, ..), f a built-in function -/
theorem pe_callB (hc : CallR X (.builtin id) r) (hg : Gl X x) (hm : X.mg x = none) (hv : bootBuiltins x = some (.builtin id)) (ha : PA X (e :: es) t) (hn : x ≠ "__name__" := by decide) (hdb : (x == ("__debug__" : Str)) = false := by decide)
    (he : starEach (e :: es) X.env = (false, eval e X.env) :: starEach es X.env := by rfl) (hpl : (backTo pos (starEach es X.env)).any (·.1) = false := by rfl) : PE X (.Call (.Name x p) (e :: es) [] pos) (tCB r t) := by
  intro pins s σ H Q I h
  refine wpAny_Call_Name_kw (ld_blt I hg hm hv ?_ hn hdb)
  exact PyProof.Rows.callWith_builtin1 (thn (ha pos pins s σ H _ I h) fun us s1 hsl36 => by obtain ⟨vs, H1, I1, r1, q1⟩ := hsl36; exact hc pins s1 σ H1 vs us Q I1 r1 q1) he hpl
/-- T(e, ..), T a built-in type -/
theorem pe_callTy (hc : CallR X (.type T) r) (hg : Gl X x) (hm : X.mg x = none) (hv : bootBuiltins x = some (.type T)) (ha : PA X (e :: es) t) (hn : x ≠ "__name__" := by decide) (hdb : (x == ("__debug__" : Str)) = false := by decide)
    (he : starEach (e :: es) X.env = (false, eval e X.env) :: starEach es X.env := by rfl) (hpl : (backTo pos (starEach es X.env)).any (·.1) = false := by rfl) : PE X (.Call (.Name x p) (e :: es) [] pos) (tCB r t) := by
  intro pins s σ H Q I h
  refine wpAny_Call_Name_kw (ld_blt I hg hm hv ?_ hn hdb)
  exact PyProof.Rows.callWith_type1 (thn (ha pos pins s σ H _ I h) fun us s1 hsl37 => by obtain ⟨vs, H1, I1, r1, q1⟩ := hsl37; exact hc pins s1 σ H1 vs us Q I1 r1 q1) he hpl
end
end L2

namespace HT
open PySem PyProof.Rows

section
open PySem.SeqAt
open PySem.AutoSeq1 (wpAny_loadPart')
open PySem.MeetsSeq PySem.MeetsSeq2 PySem.MeetsSeq3

end

section
variable {prog : Program} {w : World} {A : Around} {E : Value → Shared → Prop} {s : Shared}

/-- t + u, t not empty -/
theorem cat_tup {t b : Addr} {vs ws : List Value} {Q : Value → Shared → Prop} (ht : IsTup s.heap t vs.toArray) (hb : IsTup s.heap b ws.toArray) (hv : vs ≠ [])
    (h1 : ws = [] → Q (.ref t) s) (h2 : ws ≠ [] → Q (.ref s.heap.objs.size) { s with heap := s.heap.push { cls := .type "tuple", data := .seq (vs ++ ws).toArray } })
    (hsz : vs.length + ws.length ≤ sizeLine) : wpAny (model prog w) A (binaryOp .Add (.ref t) (.ref b)) Q E s := by
  obtain ⟨⟨cls, dd, data, sl⟩, ho, hc, n, hd⟩ := id ht
  obtain ⟨⟨cls2, dd2, data2, sl2⟩, ho2, hc2, n2, hd2⟩ := id hb
  simp only at hc hd hc2 hd2
  subst hc hd hc2 hd2
  have e : vs.toArray ++ ws.toArray = (vs ++ ws).toArray := by simp
  by_cases hw : ws = []
  · exact concat_meets ⟨_, ho, rfl⟩ ⟨_, ho2, rfl⟩ noFill_tuple_add seq_tuple_add PySem.F.slot_tuple_add PySem.F.entry_tuple_add (PySem.F.args_tuple_add_2 _ _)
      (tuple_addW1 t b vs.toArray ws.toArray n n2 dd dd2 sl sl2 (by simpa using hv) (by simp [hw])) ⟨ho, ho2, h1 hw⟩
  · refine concat_meets ⟨_, ho, rfl⟩ ⟨_, ho2, rfl⟩ noFill_tuple_add seq_tuple_add PySem.F.slot_tuple_add PySem.F.entry_tuple_add (PySem.F.args_tuple_add_2 _ _)
      (tuple_addW2 t b vs.toArray ws.toArray n n2 dd dd2 sl sl2 (by simpa using hv) (by simpa using hw) (by rw [List.size_toArray, List.size_toArray]; exact hsz)) ⟨ho, ho2, ?_⟩
    rw [e]
    exact h2 hw

/-! ### t[a:b], not the whole -/
/-- a slice's bound as a place among n (d where it is left out) -/
noncomputable def sIx (n d : Nat) : Option Int → Nat
  | none => d
  | some v => if v < 0 then (v + (n : Int)).toNat else min v.toNat n
theorem sIx_none (n d : Nat) : sIx n d none = d := rfl
end
end HT

namespace L2
open PySem PySem.Spec PyProof.Rows

/-! ### the parts of a slice -/
noncomputable abbrev TO := St → Hp → (Option Int → Hp → Prop) → Prop
/-- a slice's part (left out, or an int) -/
noncomputable def PO (X : Cx) (e : Option Expr) (t : TO) : Prop :=
  ∀ (pins : List (Addr × Obj)) (s : Shared) (σ : St) (H : Hp) (Q : Option Int → Hp → Prop), Inv X pins σ H s → t σ H Q →
    wpAny (model X.prog X.w) X.A (evalPart e X.env) (fun u s' => ∃ o H', Inv X pins σ H' s' ∧ IsPart u o ∧ Q o H') X.xe s
noncomputable def tNoPart : TO := fun _ H Q => Q none H
noncomputable def tPart (t : TE) : TO := fun σ H Q => t σ H fun x H1 => ∃ i, x = .int i ∧ Q (some i) H1

section
variable {X : Cx} {e : Expr} {te : TE} {lo hi : Option Expr} {tl th : TO} {pos p2 : Pos}

theorem po_none : PO X none tNoPart := by
  intro pins s σ H Q I h
  rw [evalPart_none]
  exact wpAny_pure ⟨none, H, I, .none, h⟩
theorem po_some (h : PE X e te) : PO X (some e) (tPart te) := by
  intro pins s σ H Q I hw
  rw [evalPart_some]
  refine thn (h pins s σ H _ I hw) fun u s1 hsl38 => ?_
  obtain ⟨x, H1, I1, r1, q1⟩ := hsl38
  obtain ⟨i, rfl, q⟩ := q1
  obtain ⟨t, rfl⟩ := r1
  exact ⟨some i, H1, I1, .int i t, q⟩

/-- what a slice of a value is, by values: the slice object stands at sl -/
noncomputable def SlR (X : Cx) (r : V → Option Int → Option Int → Hp → VK → Prop) : Prop :=
  ∀ (pins : List (Addr × Obj)) (s : Shared) (σ : St) (H : Hp) (x : V) (v vl vu : Value) (lo hi : Option Int) (sl : Addr) (Q : VK), Inv X pins σ H s → RelV x v → s.heap.IsSliceOf sl vl vu .none → IsPart vl lo → IsPart vu hi → r x lo hi H Q →
    ∃ T id, typeLookup (.type T) "__getitem__" = pure (some (.builtin id)) ∧ s.TypeIs v T ∧ wpAny (model X.prog X.w) X.A (getItem v (.ref sl)) (EP X pins σ Q) X.xe s
theorem SlR.or {r r' : V → Option Int → Option Int → Hp → VK → Prop} (h : SlR X r) (h' : SlR X r') : SlR X (fun x lo hi H Q => r x lo hi H Q ∨ r' x lo hi H Q) := by
  intro pins s σ H x v vl vu lo hi sl Q I rx hs pl pu q
  rcases q with q | q
  · exact h pins s σ H x v vl vu lo hi sl Q I rx hs pl pu q
  · exact h' pins s σ H x v vl vu lo hi sl Q I rx hs pl pu q
noncomputable def tSl (r : V → Option Int → Option Int → Hp → VK → Prop) (te : TE) (tl th : TO) : TE := fun σ H Q => te σ H fun x H1 => tl σ H1 fun l H2 => th σ H2 fun u H3 => r x l u H3 Q
/-- a[lo:hi], any a -/
theorem pe_slice {r : V → Option Int → Option Int → Hp → VK → Prop} (hr : SlR X r) (he : PE X e te) (hl : PO X lo tl) (hu : PO X hi th) : PE X (.Subscript e (.Slice lo hi none p2) pos) (tSl r te tl th) := by
  intro pins s σ H Q I h
  refine Subscript_ (thn (he pins s σ H _ I h) fun v s1 hsl39 => ?_)
  obtain ⟨x, H1, I1, r1, q1⟩ := hsl39
  refine wpAny_Slice (thn (hl pins s1 σ H1 _ I1 q1) fun vl s2 ⟨l, H2, I2, pl, q2⟩ => thn (hu pins s2 σ H2 _ I2 q2) fun vu s3 hsl40 => ?_)
  obtain ⟨u, H3, I3, pu, q3⟩ := hsl40
  rw [evalPart_none]
  refine wpAny_pure ?_
  have I4 : Inv X pins σ H3 { s3 with heap := s3.heap.push { cls := .type "slice", data := .fields #[vl, vu, .none] } } := I3.kept (t' := s3.toks) fun b ob q => Heap.get?_push_of_some _ q
  obtain ⟨T, id, hT, ht, hg⟩ := hr pins { s3 with heap := s3.heap.push { cls := .type "slice", data := .fields #[vl, vu, .none] } } σ H3 x v vl vu l u s3.heap.objs.size Q I4 r1 (Heap.IsSliceOf.new ..) pl pu q3
  show wpAny (model X.prog X.w) X.A (subscriptTail e (.Slice lo hi none p2) v (.ref s3.heap.objs.size)) (EP X pins σ Q) X.xe { s3 with heap := s3.heap.push { cls := .type "slice", data := .fields #[vl, vu, .none] } }
  exact tail_any (ops := [.ref s3.heap.objs.size, v]) ht hT hg (by with_unfolding_all rfl)

/-- the items of xs[lo:hi] -/
noncomputable def cutV (xs : List V) (lo hi : Option Int) : List V := (xs.drop (HT.sIx xs.length 0 lo)).take (HT.sIx xs.length xs.length hi - HT.sIx xs.length 0 lo)
theorem cutV_length (xs : List V) (lo hi : Option Int) : (cutV xs lo hi).length ≤ xs.length := by
  unfold cutV
  rw [List.length_take, List.length_drop]
  omega
/-! ### t < u, t + u -/
/-- t + u, t not empty: u empty gives t itself -/
noncomputable def rCatT (K : PySem.W.Frag) : R2 := fun x y H Q => ∃ a b xs ys, x = .ref a ∧ y = .ref b ∧ SqT K H a xs ∧ SqT K H b ys ∧ xs ≠ [] ∧ xs.length + ys.length ≤ sizeLine ∧
  (ys = [] → Q (.ref a) H) ∧ (ys ≠ [] → ∀ p, H p = none → Q (.ref p) (upd H p (.tup (xs ++ ys))))
theorem Vals.nil_iff {xs : List V} {us : List Value} (r : Vals xs us) : us = [] ↔ xs = [] := by
  cases r with
  | nil => simp
  | cons _ _ => simp
theorem op_catT : OpR X (binaryOp .Add) (rCatT X.K) := by
  intro pins s σ H x y v u Q I rx ry h
  obtain ⟨a, b, xs, ys, rfl, rfl, ha, hb, hx, hz, q1, q2⟩ := h
  cases rx
  cases ry
  obtain ⟨its, r1, p1, _⟩ := I.tuple ha
  obtain ⟨its2, r2, p2, _⟩ := I.tuple hb
  refine HT.cat_tup p1 p2 (fun z => hx (r1.nil_iff.mp z)) (fun z => ⟨.ref a, H, I, rfl, q1 (r2.nil_iff.mp z)⟩) (fun z => ?_) (by rw [← r1.length, ← r2.length]; exact hz)
  refine ⟨.ref s.heap.objs.size, _, I.laid (t' := s.toks) (o := .tup (xs ++ ys)) (fun b ob q => Heap.get?_push_of_some _ q) (Nat.le_refl _) ?_, rfl, q2 (fun w => z (r2.nil_iff.mpr w)) _ (I.hok.fresh (Nat.le_refl _))⟩
  exact ⟨by rw [List.length_append]; exact hz, _, r1.append r2, IsTup.new _ _⟩
end
end L2

namespace L2
open PySem PySem.Spec PyProof.Rows

/-! ### places -/
/-- the place that an index of any sign means -/
noncomputable def ixN (n : Nat) (i : Int) : Option Nat := if 0 ≤ i then (if i < n then some i.toNat else none) else if -(n : Int) ≤ i then some (i + n).toNat else none
noncomputable def atI {α : Type} (xs : List α) (i : Int) : Option α := (ixN xs.length i).bind fun j => xs[j]?
theorem ixN_seq {n : Nat} {i : Int} {j : Nat} (h : ixN n i = some j) : seqIndex? i n = some j ∧ j < n ∧ -(n : Int) ≤ i ∧ i < n := by
  unfold ixN at h
  by_cases h0 : 0 ≤ i
  · rw [if_pos h0] at h
    by_cases h1 : i < n
    · rw [if_pos h1] at h
      have e : i.toNat = j := Option.some.inj h
      exact ⟨by rw [seqIndex_of h0 h1, e], by omega, by omega, h1⟩
    · rw [if_neg h1] at h; cases h
  · rw [if_neg h0] at h
    by_cases h1 : -(n : Int) ≤ i
    · rw [if_pos h1] at h
      have e : (i + n).toNat = j := Option.some.inj h
      exact ⟨by rw [seqIndex_neg (by omega) h1, e], by omega, h1, by omega⟩
    · rw [if_neg h1] at h; cases h
theorem atI_get {α : Type} {xs : List α} {i : Int} {v : α} (h : atI xs i = some v) : ∃ j, seqIndex? i xs.length = some j ∧ xs[j]? = some v ∧ j < xs.length ∧ -(xs.length : Int) ≤ i ∧ i < xs.length := by
  unfold atI at h
  cases e : ixN xs.length i with
  | none => rw [e] at h; cases h
  | some j =>
    rw [e] at h
    obtain ⟨h1, h2, h3, h4⟩ := ixN_seq e
    exact ⟨j, h1, h, h2, h3, h4⟩
theorem atI_nat {α : Type} {xs : List α} {j : Nat} {v : α} (h : xs[j]? = some v) : atI xs (j : Int) = some v := by
  have hj : j < xs.length := (List.getElem?_eq_some_iff.mp h).1
  have e : ixN xs.length (j : Int) = some j := by
    unfold ixN
    rw [if_pos (by omega), if_pos (by omega)]; simp
  unfold atI; rw [e]; exact h
theorem atI_last {α : Type} (xs : List α) (v : α) : atI (xs ++ [v]) (-1) = some v := by
  have hl : (xs ++ [v]).length = xs.length + 1 := by simp
  have e : ixN (xs ++ [v]).length (-1) = some xs.length := by
    unfold ixN
    rw [hl, if_neg (by decide), if_pos (by omega)]
    congr 1
    omega
  unfold atI
  rw [e]
  show (xs ++ [v])[xs.length]? = some v
  simp

/-! ### what may be subscripted -/
/-- what stands as an index of a plain subscript -/
noncomputable def PlainIx (b : Expr) : Prop := ∀ o i, subscripted b false o i = operate [o, i] (getItem o i)
/-- a subscript by values -/
noncomputable def IxR (X : Cx) (r : R2) : Prop :=
  ∀ (value slice : Expr) (pins : List (Addr × Obj)) (s : Shared) (σ : St) (H : Hp) (x y : V) (v u : Value) (Q : VK), Inv X pins σ H s → RelV x v → RelV y u → r x y H Q →
    subscripted slice false v u = operate [v, u] (getItem v u) → wpAny (model X.prog X.w) X.A (subscriptTail value slice v u) (EP X pins σ Q) X.xe s
/-- a call of a builtin's method by values: the receiver, the arguments -/
noncomputable def MtR (X : Cx) (id : String) (r : V → List V → Hp → VK → Prop) : Prop :=
  ∀ (pins : List (Addr × Obj)) (s : Shared) (σ : St) (H : Hp) (x : V) (xs : List V) (v : Value) (us : List Value) (Q : VK), Inv X pins σ H s → RelV x v → Vals xs us → r x xs H Q →
    wpAny (model X.prog X.w) X.A (call (.builtin id) (v :: us)) (EP X pins σ Q) X.xe s
section
variable {X : Cx} {a b : Expr} {ta tb : TE} {pos : Pos}
theorem IxR.or {r r' : R2} (h : IxR X r) (h' : IxR X r') : IxR X (fun x y H Q => r x y H Q ∨ r' x y H Q) := by
  intro value slice pins s σ H x y v u Q I rx ry q hs
  rcases q with q | q
  · exact h value slice pins s σ H x y v u Q I rx ry q hs
  · exact h' value slice pins s σ H x y v u Q I rx ry q hs
theorem MtR.or {id : String} {r r' : V → List V → Hp → VK → Prop} (h : MtR X id r) (h' : MtR X id r') : MtR X id (fun x xs H Q => r x xs H Q ∨ r' x xs H Q) := by
  intro pins s σ H x xs v us Q I rx rs q
  rcases q with q | q
  · exact h pins s σ H x xs v us Q I rx rs q
  · exact h' pins s σ H x xs v us Q I rx rs q
/-- a[b] -/
theorem pe_ix {r : R2} (hr : IxR X r) (ha : PE X a ta) (hb : PE X b tb) (hs : PlainIx b) : PE X (.Subscript a b pos) (tOp r ta tb) := by
  intro pins s σ H Q I h
  exact Subscript_ (binT ha hb I h fun v u s2 x y H2 I2 rx ry q => hr a b pins s2 σ H2 x y v u Q I2 rx ry q (hs _ _))

noncomputable def rIxL (K : PySem.W.Frag) : R2 := fun x y H Q => ∃ p xs i v, x = .ref p ∧ y = .int i ∧ SqL K H p xs ∧ atI xs i = some v ∧ Q v H
noncomputable def rIxT (K : PySem.W.Frag) : R2 := fun x y H Q => ∃ p xs i v, x = .ref p ∧ y = .int i ∧ SqT K H p xs ∧ atI xs i = some v ∧ Q v H
noncomputable def rIxS : R2 := fun x y H Q => ∃ z i c, x = .str z ∧ y = .int i ∧ z.length ≤ sizeLine ∧ atI z.cps.toList i = some c ∧ Q (.str ⟨#[c]⟩) H
theorem ix_list : IxR X (rIxL X.K) := by
  intro value slice pins s σ H x y v u Q I rx ry h hs
  obtain ⟨p, xs, i, z, rfl, rfl, hq, he, q⟩ := h
  cases rx
  obtain ⟨t, rfl⟩ := ry
  obtain ⟨its, r, pl, hz⟩ := I.list hq
  obtain ⟨j, h1, h2, h3, h4, h5⟩ := atI_get he
  obtain ⟨w, ew, rw'⟩ := r.get h2
  have hl := r.length
  have hn := line63
  have fin : EP X pins σ Q w s := ⟨z, H, I, rw', q⟩
  by_cases h0 : 0 ≤ i
  · have hj : i.toNat = j := by
      rw [seqIndex_of h0 h5] at h1
      exact Option.some.inj h1
    exact item_listR pl.isList h0 (by omega) (by rw [hj]; simpa using ew) fin hs
  · have hj : (i + (its.toArray.size : Int)).toNat = j := by
      rw [seqIndex_neg (by omega) h4] at h1
      rw [List.size_toArray, ← hl]
      exact Option.some.inj h1
    exact subscriptTail_builtinR (x := w) pl.isList.typeIs slot_list_getitem.lookup
      (wpAny_getItem_list_neg (Q := fun r s' => r = w ∧ EP X pins σ Q r s') pl.isList (by omega) (by rw [List.size_toArray] <;> omega) (by omega) (by rw [hj]; simpa using ew) ⟨rfl, fin⟩) hs
theorem ix_tup : IxR X (rIxT X.K) := by
  intro value slice pins s σ H x y v u Q I rx ry h hs
  obtain ⟨p, xs, i, z, rfl, rfl, hq, he, q⟩ := h
  cases rx
  obtain ⟨t, rfl⟩ := ry
  obtain ⟨its, r, pl, hz⟩ := I.tuple hq
  obtain ⟨j, h1, h2, h3, h4, h5⟩ := atI_get he
  obtain ⟨w, ew, rw'⟩ := r.get h2
  have hl := r.length
  have hn := line63
  have fin : EP X pins σ Q w s := ⟨z, H, I, rw', q⟩
  exact subscriptTail_builtinR (x := w) pl.typeIs slot_tuple_getitem.lookup
    (getItem_tuple (j := j) (Q := fun r s' => r = w ∧ EP X pins σ Q r s') pl (by omega) (by omega) (by rw [List.size_toArray, ← hl]; exact h1) (by simpa using ew) ⟨rfl, fin⟩) hs
theorem ix_str : IxR X rIxS := by
  intro value slice pins s σ H x y v u Q I rx ry h hs
  obtain ⟨z, i, c, rfl, rfl, hz, he, q⟩ := h
  obtain ⟨t, rfl⟩ := rx
  obtain ⟨t', rfl⟩ := ry
  obtain ⟨j, h1, h2, h3, h4, h5⟩ := atI_get he
  have hl : z.cps.toList.length = z.length := by simp [Str.length]
  rw [hl] at h1 h4 h5
  have hn := line63
  exact tail_any (typeIs_str s z t) slot_str_getitem.lookup (getItem_str (c := c) (by
    have e1 : decide (i < -(2 ^ 63 : Int)) = false := decide_eq_false (by omega)
    have e2 : decide (i ≥ 2 ^ 63) = false := decide_eq_false (by omega)
    rw [e1, e2, Bool.or_false]) (by rw [h1]; simpa using h2) ⟨.str ⟨#[c]⟩, H, I.tok _, ⟨_, rfl⟩, q⟩) hs
/-! ### xs[i] = v, any sign -/
theorem Inv.lst {pins : List (Addr × Obj)} {σ : St} {H : Hp} {s : Shared} {p : Addr} {xs : List V} (I : Inv X pins σ H s) (h : H p = some (.lst xs)) :
    ∃ (its : List Value) (n : Nat), Vals xs its ∧ s.heap.get? p = some { cls := .type "list", data := .seq its.toArray n } ∧ xs.length ≤ sizeLine := by
  obtain ⟨z, its, n, r, e⟩ := I.hok p _ h
  exact ⟨its, n, r, e, z⟩
/-! ### slices -/
theorem slice_bounds (lo hi : Option Int) (n : Nat) : (sliceBounds lo hi none n).1 = ((HT.sIx n 0 lo : Nat) : Int) ∧ (sliceBounds lo hi none n).2.1 = ((HT.sIx n n hi : Nat) : Int) ∧ (sliceBounds lo hi none n).2.2 = 1 := by
  refine ⟨?_, ?_, rfl⟩
  · cases lo with
    | none => simp [sliceBounds, HT.sIx]
    | some i =>
      simp only [sliceBounds, HT.sIx, Option.getD_none, show (1 : Int) > 0 by decide, if_true]
      by_cases h : i < 0
      · simp only [h, if_true] <;> omega
      · simp only [h, if_false] <;> omega
  · cases hi with
    | none => simp [sliceBounds, HT.sIx]
    | some i =>
      simp only [sliceBounds, HT.sIx, Option.getD_none, show (1 : Int) > 0 by decide, if_true]
      by_cases h : i < 0
      · simp only [h, if_true] <;> omega
      · simp only [h, if_false] <;> omega
theorem slicePick_cut (its : List Value) (lo hi : Option Int) : slicePick its.toArray lo hi none = ((its.drop (HT.sIx its.length 0 lo)).take (HT.sIx its.length its.length hi - HT.sIx its.length 0 lo)).toArray := by
  obtain ⟨h1, h2, h3⟩ := slice_bounds lo hi its.toArray.size
  unfold slicePick
  rw [h1, h2, h3]
  simp only [sliceRange_one, pick_run, List.size_toArray] <;> rfl
/-- xs[lo:hi] of a list: a new list -/
noncomputable def rSlL (K : PySem.W.Frag) : V → Option Int → Option Int → Hp → VK → Prop := fun x lo hi H Q => ∃ a xs, x = .ref a ∧ SqL K H a xs ∧ ∀ p, H p = none → Q (.ref p) (upd H p (.lst (cutV xs lo hi)))
theorem sl_list : SlR X (rSlL X.K) := by
  intro pins s σ H x v vl vu lo hi sl Q I rx hs pl pu h
  obtain ⟨a, xs, rfl, hx, q⟩ := h
  cases rx
  obtain ⟨its, r, ht, hz⟩ := I.list hx
  have hlen := r.length
  refine ⟨"list", _, slot_list_getitem.lookup, ht.isList.typeIs, ?_⟩
  refine wpAny_getItem_list_slice ht.isList hs pl pu .none (by simp) ?_ (by rw [List.size_toArray] <;> omega)
  rw [slicePick_cut, ← hlen]
  refine ⟨.ref s.heap.objs.size, _, I.laid (t' := s.toks) (o := .lst (cutV xs lo hi)) (fun b ob q => Heap.get?_push_of_some _ q) (Nat.le_refl _) ?_, rfl, q _ (I.hok.fresh (Nat.le_refl _))⟩
  exact ⟨Nat.le_trans (cutV_length xs lo hi) hz, _, 0, (r.drop (HT.sIx xs.length 0 lo)).take (HT.sIx xs.length xs.length hi - HT.sIx xs.length 0 lo), Heap.get?_push_size _ rfl⟩

/-! ### in, not in: flat items -/
noncomputable def flatV : V → Bool
  | .non => true
  | .bl _ => true
  | .int _ => true
  | .str _ => true
  | _ => false
/-- == of flat values -/
noncomputable def eqV : V → V → Bool
  | .non, .non => true
  | .bl a, .bl b => a == b
  | .bl a, .int b => (if a then 1 else 0) == b
  | .int a, .bl b => a == (if b then 1 else 0)
  | .int a, .int b => a == b
  | .str a, .str b => a == b
  | _, _ => false
theorem eqAt_V {A : Around} {s : Shared} {y x : V} {u v : Value} (ry : RelV y u) (rx : RelV x v) (fy : flatV y = true) (fx : flatV x = true) : SeqAt.EqAt A s u v (eqV y x) := by
  cases y with
  | non =>
    cases ry
    cases x with
    | non => cases rx; exact SeqAt.EqAt.same _
    | bl b => cases rx; exact SeqAt.EqAt.none_bool b
    | int b => obtain ⟨t, rfl⟩ := rx; exact SeqAt.EqAt.none_int b t
    | str b => obtain ⟨t, rfl⟩ := rx; exact SeqAt.EqAt.none_str b t
    | _ => exact absurd (show false = true from fx) Bool.false_ne_true
  | bl a =>
    cases ry
    cases x with
    | non => cases rx; exact SeqAt.EqAt.bool_none a
    | bl b => cases rx; exact SeqAt.EqAt.bool_bool a b
    | int b => obtain ⟨t, rfl⟩ := rx; exact SeqAt.EqAt.bool_int a b t
    | str b => obtain ⟨t, rfl⟩ := rx; exact SeqAt.EqAt.bool_str a b t
    | _ => exact absurd (show false = true from fx) Bool.false_ne_true
  | int a =>
    obtain ⟨t', rfl⟩ := ry
    cases x with
    | non => cases rx; exact SeqAt.EqAt.int_none a t'
    | bl b => cases rx; exact SeqAt.EqAt.int_bool a t' b
    | int b => obtain ⟨t, rfl⟩ := rx; exact SeqAt.EqAt.int_int a t' b t
    | str b => obtain ⟨t, rfl⟩ := rx; exact SeqAt.EqAt.int_str a t' b t
    | _ => exact absurd (show false = true from fx) Bool.false_ne_true
  | str a =>
    obtain ⟨t', rfl⟩ := ry
    cases x with
    | non => cases rx; exact SeqAt.EqAt.str_none a t'
    | bl b => cases rx; exact SeqAt.EqAt.str_bool a t' b
    | int b => obtain ⟨t, rfl⟩ := rx; exact SeqAt.EqAt.str_int a t' b t
    | str b => obtain ⟨t, rfl⟩ := rx; exact SeqAt.EqAt.str_str a t' b t
    | _ => exact absurd (show false = true from fx) Bool.false_ne_true
  | _ => exact absurd (show false = true from fy) Bool.false_ne_true
/-- the items' answers, read off the values (a value's own answer does not lean on its token) -/
noncomputable def eqU (x : V) (u : Value) : Bool := match u with
  | .none => eqV .non x
  | .bool b => eqV (.bl b) x
  | .int i _ => eqV (.int i) x
  | .str z _ => eqV (.str z) x
  | _ => false
theorem eqU_of {x y : V} {u : Value} (r : RelV y u) (f : flatV y = true) : eqU x u = eqV y x := by
  cases y with
  | non => cases r; rfl
  | bl b => cases r; rfl
  | int i => obtain ⟨t, rfl⟩ := r; rfl
  | str z => obtain ⟨t, rfl⟩ := r; rfl
  | _ => exact absurd (show false = true from f) Bool.false_ne_true
theorem any_eqU {x : V} : ∀ {xs : List V} {us : List Value}, Vals xs us → xs.all flatV = true → us.any (eqU x) = xs.any fun y => eqV y x
  | _, _, .nil, _ => rfl
  | y :: xs, u :: us, .cons r t, f => by
    rw [List.all_cons, Bool.and_eq_true] at f
    rw [List.any_cons, List.any_cons, eqU_of r f.1, any_eqU t f.2]
theorem mem_eqAt {A : Around} {s : Shared} {x : V} {v : Value} (rx : RelV x v) (fx : flatV x = true) : ∀ {xs : List V} {us : List Value}, Vals xs us → xs.all flatV = true → ∀ u ∈ us, SeqAt.EqAt A s u v (eqU x u)
  | _, _, .nil, _ => fun u hu => by cases hu
  | y :: xs, u :: us, .cons r t, f => fun u' hu => by
    rw [List.all_cons, Bool.and_eq_true] at f
    rcases List.mem_cons.mp hu with rfl | hu
    · rw [eqU_of r f.1]; exact eqAt_V r rx f.1 fx
    · exact mem_eqAt rx fx t f.2 u' hu
noncomputable def inV (x : V) (xs : List V) : Bool := xs.any fun y => eqV y x
/-- x in a list or tuple of flat items -/
noncomputable def rIn (K : PySem.W.Frag) (neg : Bool) : R2 := fun x y H Q => ∃ p xs, y = .ref p ∧ (SqL K H p xs ∨ SqT K H p xs) ∧ flatV x = true ∧ xs.all flatV = true ∧ Q (.bl (if neg then !inV x xs else inV x xs)) H
theorem op_in_seq : OpR X (compareOp .In) (rIn X.K false) := by
  intro pins s σ H x y v u Q I rx ry h
  obtain ⟨p, xs, rfl, hq, fx, fs, q⟩ := h
  cases ry
  rcases hq with hq | hq
  · obtain ⟨its, r, pl, hz⟩ := I.list hq
    refine SeqAt.in_listAt (eqU x) pl.isList (fun w hw => mem_eqAt rx fx r fs w (by simpa using hw)) ⟨.bl _, H, I, rfl, ?_⟩
    rw [show its.toArray.any (eqU x) = its.any (eqU x) by simp, any_eqU r fs]
    exact q
  · obtain ⟨its, r, pl, hz⟩ := I.tuple hq
    refine SeqAt.in_tupleAt (eqU x) pl (fun w hw => mem_eqAt rx fx r fs w (by simpa using hw)) ⟨.bl _, H, I, rfl, ?_⟩
    rw [show its.toArray.any (eqU x) = its.any (eqU x) by simp, any_eqU r fs]
    exact q
theorem op_notIn_seq : OpR X (compareOp .NotIn) (rIn X.K true) := by
  intro pins s σ H x y v u Q I rx ry h
  obtain ⟨p, xs, rfl, hq, fx, fs, q⟩ := h
  cases ry
  rcases hq with hq | hq
  · obtain ⟨its, r, pl, hz⟩ := I.list hq
    refine SeqAt.notIn_listAt (eqU x) pl.isList (fun w hw => mem_eqAt rx fx r fs w (by simpa using hw)) ⟨.bl _, H, I, rfl, ?_⟩
    rw [show its.toArray.any (eqU x) = its.any (eqU x) by simp, any_eqU r fs]
    exact q
  · obtain ⟨its, r, pl, hz⟩ := I.tuple hq
    refine SeqAt.notIn_tupleAt (eqU x) pl (fun w hw => mem_eqAt rx fx r fs w (by simpa using hw)) ⟨.bl _, H, I, rfl, ?_⟩
    rw [show its.toArray.any (eqU x) = its.any (eqU x) by simp, any_eqU r fs]
    exact q
/-! ### len, list(x), tuple(x) of any list or tuple that is read -/
theorem call_len_seq : CallR X (.builtin "len") (fun xs H Q => ∃ p ys, xs = [.ref p] ∧ (SqL X.K H p ys ∨ SqT X.K H p ys) ∧ Q (.int ys.length) H) := by
  intro pins s σ H xs us Q I r h
  obtain ⟨p, ys, rfl, hq, q⟩ := h
  obtain ⟨u, rfl, rx⟩ := vals1 r
  cases rx
  have hn := line63
  rcases hq with hq | hq
  · obtain ⟨its, r', pl, hz⟩ := I.list hq
    have hlen := r'.length
    exact Calls.call_len_list pl.isList (by simp only [List.size_toArray] <;> omega) ⟨.int ys.length, H, I.tok _, ⟨s.toks + 1, by rw [List.size_toArray, hlen]⟩, q⟩
  · obtain ⟨its, r', pl, hz⟩ := I.tuple hq
    have hlen := r'.length
    exact len_tuple pl (by simp only [List.size_toArray] <;> omega) ⟨.int ys.length, H, I.tok _, ⟨s.toks + 1, by rw [List.size_toArray, hlen]⟩, q⟩
theorem call_len_str : CallR X (.builtin "len") (fun xs H Q => ∃ z, xs = [.str z] ∧ z.length ≤ sizeLine ∧ Q (.int z.length) H) := by
  intro pins s σ H xs us Q I r h
  obtain ⟨z, rfl, hz, q⟩ := h
  obtain ⟨u, rfl, t, rfl⟩ := vals1 r
  have hn := line63
  exact len_str (by omega) ⟨.int z.length, H, I.tok _, ⟨_, rfl⟩, q⟩
theorem CallR.or {f : Value} {r r' : List V → Hp → VK → Prop} (h : CallR X f r) (h' : CallR X f r') : CallR X f (fun xs H Q => r xs H Q ∨ r' xs H Q) := by
  intro pins s σ H xs us Q I rs q
  rcases q with q | q
  · exact h pins s σ H xs us Q I rs q
  · exact h' pins s σ H xs us Q I rs q
theorem call_list_of : CallR X (.type "list") (fun xs H Q => ∃ p ys, xs = [.ref p] ∧ (SqL X.K H p ys ∨ SqT X.K H p ys) ∧ ∀ l, H l = none → Q (.ref l) (upd H l (.lst ys))) := by
  intro pins s σ H xs us Q I r h
  obtain ⟨p, ys, rfl, hq, q⟩ := h
  obtain ⟨u, rfl, rx⟩ := vals1 r
  cases rx
  have fin : ∀ (its : List Value), Vals ys its → ys.length ≤ sizeLine → ∀ (h' : Heap) (c' : Nat), (∀ b o', s.heap.get? b = some o' → h'.get? b = some o') →
      h'.get? s.heap.objs.size = some { cls := .type "list", dict := none, data := .seq its.toArray c', slots := #[] } → EP X pins σ Q (.ref s.heap.objs.size) { s with heap := h' } := fun its r' hz h' c' kp e =>
    ⟨.ref s.heap.objs.size, _, I.laid (t' := s.toks) kp (Nat.le_refl _) (show ObjOk X.prog X.w _ h' _ (.lst ys) from ⟨hz, its, c', r', e⟩), rfl, q _ (I.hok.fresh (Nat.le_refl _))⟩
  rcases hq with hq | hq
  · obtain ⟨its, r', pl, hz⟩ := I.list hq
    have hlen := r'.length
    obtain ⟨o, ho, hc, n, hd⟩ := pl.isList
    exact call_list_seq p (.inl rfl) ho hc hd (fun h' c' kp e => fin its r' hz h' c' kp e) (by simp only [List.size_toArray] <;> omega)
  · obtain ⟨its, r', pl, hz⟩ := I.tuple hq
    have hlen := r'.length
    obtain ⟨o, ho, hc, n, hd⟩ := pl
    exact call_list_seq p (.inr rfl) ho hc hd (fun h' c' kp e => fin its r' hz h' c' kp e) (by simp only [List.size_toArray] <;> omega)
theorem call_tuple_of : CallR X (.type "tuple") (fun xs H Q => ∃ p ys, xs = [.ref p] ∧ ((SqL X.K H p ys ∧ ∀ l, H l = none → Q (.ref l) (upd H l (.tup ys))) ∨ (SqT X.K H p ys ∧ Q (.ref p) H))) := by
  intro pins s σ H xs us Q I r h
  obtain ⟨p, ys, rfl, h⟩ := h
  obtain ⟨u, rfl, rx⟩ := vals1 r
  cases rx
  rcases h with ⟨hq, q⟩ | ⟨hq, q⟩
  · obtain ⟨its, r', pl, hz⟩ := I.list hq
    have hlen := r'.length
    refine call_tuple_list pl.isList (fun h' kp => ?_) (by simp only [List.size_toArray] <;> omega)
    have I1 : Inv X pins σ H { s with heap := h' } := I.kept (t' := s.toks) kp
    have I2 : Inv X pins σ (upd H h'.objs.size (.tup ys)) { s with heap := h'.push { cls := .type "tuple", data := .seq its.toArray } } :=
      I1.laid (t' := s.toks) (fun b o e => Heap.get?_push_of_some _ e) (Nat.le_refl _) (show ObjOk X.prog X.w _ _ _ (.tup ys) from ⟨hz, its, r', IsTup.new _ _⟩)
    exact ⟨.ref h'.objs.size, _, I2, rfl, q _ (I1.hok.fresh (Nat.le_refl _))⟩
  · obtain ⟨its, r', pl, hz⟩ := I.tuple hq
    exact call_tuple_same pl ⟨.ref p, H, I, rfl, q⟩

/-! ### the call of a builtin's method: o.m(..) -/
/-- the value is of that builtin type -/
noncomputable def tyV (K : PySem.W.Frag) (T : String) (x : V) (H : Hp) : Prop := match x with
  | .str _ => T = "str"
  | .int _ => T = "int"
  | .ref p => (T = "list" ∧ ∃ xs, SqL K H p xs) ∨ (T = "tuple" ∧ ∃ o, K.lookup p = some o ∧ o.cls = .type "tuple" ∧ o.dict = none) ∨
      (T = "dict" ∧ ((∃ kvs, H p = some (.dK kvs)) ∨ ∃ kvs, H p = some (.dT kvs))) ∨ (T = "set" ∧ ∃ S n, H p = some (.set S n))
  | _ => False
theorem tyV_is {pins : List (Addr × Obj)} {σ : St} {H : Hp} {s : Shared} {T : String} {x : V} {v : Value} (I : Inv X pins σ H s) (r : RelV x v) (ty : tyV X.K T x H) :
    s.TypeIs v T ∧ ∀ a, v = .ref a → ∃ ob, s.heap.get? a = some ob ∧ ob.dict = none := by
  cases x with
  | str z =>
    obtain ⟨t, rfl⟩ := r
    cases (show T = "str" from ty)
    exact ⟨typeIs_str s z t, fun _ e => nomatch e⟩
  | int i =>
    obtain ⟨t, rfl⟩ := r
    cases (show T = "int" from ty)
    exact ⟨typeIs_int s i t, fun _ e => nomatch e⟩
  | ref p =>
    cases r
    rcases ty with ⟨rfl, xs, hq⟩ | ⟨rfl, o, hk, hc, hd⟩ | ⟨rfl, hk⟩ | ⟨rfl, S, n, hk⟩
    · obtain ⟨its, _, pl, _⟩ := I.list hq
      refine ⟨pl.isList.typeIs, fun a e => ?_⟩
      cases e
      obtain ⟨o, n, e, c, hd, _⟩ := pl
      exact ⟨o, e, hd⟩
    · refine ⟨⟨o, I.kIn p o hk, hc⟩, fun a e => ?_⟩
      cases e
      exact ⟨o, I.kIn _ o hk, hd⟩
    · have z : ∃ o, s.heap.get? p = some o ∧ o.ExactDict := by
        rcases hk with ⟨kvs, hk⟩ | ⟨kvs, hk⟩
        · obtain ⟨_, _, _, _, o, _, _, e, ex, _⟩ := I.hok p _ hk
          exact ⟨o, e, ex⟩
        · obtain ⟨_, _, _, _, o, _, _, e, ex, _⟩ := I.hok p _ hk
          exact ⟨o, e, ex⟩
      obtain ⟨o, e, ex⟩ := z
      refine ⟨⟨o, e, ex.1⟩, fun a e2 => ?_⟩
      cases e2
      exact ⟨o, e, ex.2.1⟩
    · obtain ⟨o, _, _, _, e, ex, _⟩ := I.hok p _ hk
      refine ⟨⟨o, e, ex.1⟩, fun a e2 => ?_⟩
      cases e2
      exact ⟨o, e, ex.2.1⟩
  | _ => exact False.elim ty
noncomputable def tBM0 (K : PySem.W.Frag) (T : String) (r : V → List V → Hp → VK → Prop) (to : TE) : TE := fun σ H Q => to σ H fun x H1 => tyV K T x H1 ∧ r x [] H1 Q
noncomputable def tBM (K : PySem.W.Frag) (T : String) (r : V → List V → Hp → VK → Prop) (to : TE) (t : TA) : TE := fun σ H Q => to σ H fun x H1 => tyV K T x H1 ∧ t σ H1 fun xs H2 => r x xs H2 Q
variable {o e : Expr} {es : List Expr} {to : TE} {t : TA} {name : Str} {apos cpos : Pos} {T id : String} {r : V → List V → Hp → VK → Prop}
theorem pe_bm0 (pa : PlainAttrs T) (slot : Slot T name id) (hty : typeOf (.builtin id) = pure (.type "method_descriptor")) (hm : MtR X id r) (ho : PE X o to)
    (hbase : attributeBase o name X.env (eval o X.env) = eval o X.env := by rfl) (hline : (apos.endLine == cpos.line) = true := by rfl) : PE X (.Call (.Attribute o name apos) [] [] cpos) (tBM0 X.K T r to) := by
  intro pins s σ H Q I h
  refine wpAny_Call_method0_late hbase hline (thn (ho pins s σ H _ I h) fun v s1 hsl41 => ?_)
  obtain ⟨x, H1, I1, r1, ty, q1⟩ := hsl41
  obtain ⟨h1, h2⟩ := tyV_is I1 r1 ty
  exact ⟨T, id, pa, slot, hty, h1, h2, Calls.callWith_builtin rfl (PySem.evalArgs_none (hm pins s1 σ H1 x [] v [] Q I1 r1 .nil q1))⟩
theorem pe_bm (pa : PlainAttrs T) (slot : Slot T name id) (hty : typeOf (.builtin id) = pure (.type "method_descriptor")) (hm : MtR X id r) (ho : PE X o to) (ha : PA X (e :: es) t)
    (hbase : attributeBase o name X.env (eval o X.env) = eval o X.env := by rfl)
    (hfew : ((backTo cpos (starEach (e :: es) X.env)).all (fun x => !x.1) && (backToKw cpos (keywordEach [] X.env)).all (fun x => x.1.isSome)
      && decide ((e :: es).length + ([] : List Keyword).length + (if ([] : List Keyword).isEmpty then 0 else 1) < 30)) = true := by rfl)
    (hline : (apos.endLine == cpos.line) = true := by rfl) (hs : starEach (e :: es) X.env = (false, eval e X.env) :: starEach es X.env := by rfl) (hplain : (backTo cpos (starEach es X.env)).any (·.1) = false := by rfl) :
    PE X (.Call (.Attribute o name apos) (e :: es) [] cpos) (tBM X.K T r to t) := by
  intro pins s σ H Q I h
  refine wpAny_Call_method_late hbase hfew hline rfl (thn (ho pins s σ H _ I h) fun v s1 hsl42 => ?_)
  obtain ⟨x, H1, I1, r1, ty, q1⟩ := hsl42
  obtain ⟨h1, h2⟩ := tyV_is I1 r1 ty
  refine ⟨T, id, pa, slot, hty, h1, h2, ?_⟩
  have hA := ha cpos pins s1 σ H1 _ I1 q1
  rw [hs] at hA ⊢
  refine Calls.callWith_builtin (by show (false || (backTo cpos (starEach es X.env)).any (·.1)) = false; rw [hplain] <;> rfl) (Calls.evalArgs_plain ?_)
  exact thn hA fun us s2 hsl43 => by obtain ⟨vs, H2, I2, r2, q2⟩ := hsl43; exact hm pins s2 σ H2 x vs v us Q I2 r1 r2 q2
/- xs.append(e), list.index on a module's tuple .. are MtR facts of 06m -/
end
end L2

namespace L2
open PySem PySem.Spec PyProof.Rows

noncomputable def MtM (X : Cx) (id : String) (r : V → List V → Hp → VK → Prop) : Prop :=
  ∀ (pins : List (Addr × Obj)) (s : Shared) (σ : St) (H : Hp) (x : V) (xs : List V) (v : Value) (us : List Value) (Q : VK), Inv X pins σ H s → RelV x v → Vals xs us → r x xs H Q →
    wpAny (model X.prog X.w) X.A (call (.builtin id) (v :: us)) (EP X pins σ Q) X.xe s

/-! ### lists of values -/
theorem Vals.one : ∀ {x : V} {us : List Value}, Vals [x] us → ∃ u, us = [u] ∧ RelV x u
  | _, _, .cons r .nil => ⟨_, rfl, r⟩
theorem Vals.two : ∀ {x y : V} {us : List Value}, Vals [x, y] us → ∃ u v, us = [u, v] ∧ RelV x u ∧ RelV y v
  | _, _, _, .cons r (.cons q .nil) => ⟨_, _, rfl, r, q⟩
theorem Vals.zero : ∀ {us : List Value}, Vals [] us → us = []
  | _, .nil => rfl
theorem Vals.dropLast {xs : List V} {us : List Value} (h : Vals xs us) : Vals xs.dropLast us.dropLast := by
  induction h with
  | nil => exact .nil
  | cons r t ih =>
    cases t with
    | nil => exact .nil
    | cons q t' => exact .cons r ih
theorem Vals.eraseIdx : ∀ {xs : List V} {us : List Value} (i : Nat), Vals xs us → Vals (xs.eraseIdx i) (us.eraseIdx i)
  | _, _, _, .nil => .nil
  | _, _, 0, .cons _ t => t
  | _, _, i + 1, .cons r t => .cons r (Vals.eraseIdx i t)
theorem Vals.rep {xs : List V} {us : List Value} (h : Vals xs us) : ∀ k : Nat, Vals (List.replicate k xs).flatten (List.replicate k us).flatten
  | 0 => .nil
  | k + 1 => by
    rw [List.replicate_succ, List.replicate_succ, List.flatten_cons, List.flatten_cons]
    exact Vals.append h (Vals.rep h k)
theorem erase_last {α : Type} (l : List α) : l.eraseIdx (l.length - 1) = l.dropLast := by
  induction l with
  | nil => rfl
  | cons a r ih =>
    cases r with
    | nil => rfl
    | cons b r =>
      have e : (a :: b :: r).length - 1 = ((b :: r).length - 1) + 1 := by
        have h1 : (a :: b :: r).length = r.length + 2 := rfl
        have h2 : (b :: r).length = r.length + 1 := rfl
        omega
      rw [e, List.eraseIdx_cons_succ, ih]
      all_goals rfl
theorem foldl_rep (its : List Value) : ∀ (k : Nat) (acc : List Value),
    List.foldl (fun x1 x2 => x1 ++ x2) acc.toArray (List.replicate k its.toArray) = (acc ++ (List.replicate k its).flatten).toArray
  | 0, acc => by simp
  | k + 1, acc => by
    have e : acc.toArray ++ its.toArray = (acc ++ its).toArray := by simp
    have e2 : (acc ++ its) ++ (List.replicate k its).flatten = acc ++ (List.replicate (k + 1) its).flatten := by
      rw [List.replicate_succ, List.flatten_cons, List.append_assoc]
    rw [← e2, ← foldl_rep its k (acc ++ its), ← e, List.replicate_succ, List.foldl_cons]

section
variable {X : Cx} {pins : List (Addr × Obj)} {σ : St} {H : Hp} {s : Shared} {l b : Addr} {xs ys zs : List V}

/-! ### the two steps: a tracked list is rewritten, a new list is laid -/
theorem Inv.lset {its its' : List Value} {n : Nat} {f : Array Value → Array Value} {t' : Nat} (I : Inv X pins σ H s) (hH : H l = some (.lst xs))
    (e : s.heap.get? l = some { cls := .type "list", data := .seq its.toArray n }) (hf : f its.toArray = its'.toArray) (hv : Vals ys its') (hz : ys.length ≤ sizeLine) :
    Inv X pins σ (upd H l (.lst ys)) { s with heap := s.heap.update l (Obj.mapSeq f), toks := t' } := by
  have q := PySem.IsL.update e f
  rw [hf] at q
  refine I.write (x := l) (e := l) (by rw [hH]; exact trivial) (.inl rfl) (fun b' u hb hu => (Heap.get?_update_other s.heap (Obj.mapSeq f) (Ne.symm hb)).trans hu) ⟨_, q⟩ ?_
  exact ⟨hz, its', _, hv, q⟩
theorem Inv.lnew {its : List Value} {t' : Nat} (I : Inv X pins σ H s) (hv : Vals ys its) (hz : ys.length ≤ sizeLine) :
    Inv X pins σ (upd H s.heap.objs.size (.lst ys)) { s with heap := s.heap.push { cls := .type "list", data := .seq its.toArray }, toks := t' } :=
  I.laid (fun _ _ q => Heap.get?_push_of_some _ q) (Nat.le_refl _) ⟨hz, its, 0, hv, Heap.get?_push_size _ rfl⟩
theorem Inv.fresh (I : Inv X pins σ H s) : H s.heap.objs.size = none := I.hok.fresh (Nat.le_refl _)
theorem Inv.lstM (I : Inv X pins σ H s) (hH : H l = some (.lst xs)) : xs.length ≤ sizeLine ∧ ∃ (its : List Value) (n : Nat), Vals xs its ∧ xs.length = its.length ∧ s.heap.get? l = some { cls := .type "list", data := .seq its.toArray n } := by
  obtain ⟨z, its, n, r, e⟩ := I.hok l _ hH
  exact ⟨z, its, n, r, r.length, e⟩

theorem notLongL {n : Nat} (h : n ≤ sizeLine) : Builtin.List.listTooLong n = false := by
  unfold Builtin.List.listTooLong
  exact decide_eq_false (by omega)
end

section
variable {X : Cx}

/-! ### methods -/
noncomputable def rAppend : V → List V → Hp → VK → Prop := fun x vs H Q => ∃ l xs y, x = .ref l ∧ vs = [y] ∧ H l = some (.lst xs) ∧ xs.length < sizeLine ∧ Q .non (upd H l (.lst (xs ++ [y])))
theorem mt_append : MtM X "list.append" rAppend := by
  intro pins s σ H x vs v us Q I rx rv h
  obtain ⟨l, xs, y, rfl, rfl, hH, hz, q⟩ := h
  cases rx
  obtain ⟨u, rfl, ru⟩ := rv.one
  obtain ⟨z, its, n, r, hl, e⟩ := I.lstM hH
  refine call_meets F.slot_list_append ⟨_, e, rfl⟩ F.entry_list_append (F.args_list_append_2 _ _) (PySem.list_append l its.toArray n u (by rw [List.size_toArray]; omega)) ⟨e, ?_⟩
  refine ⟨.non, _, I.lset (its' := its ++ [u]) hH e (by simp) (r.append (.cons ru .nil)) ?_, rfl, q⟩
  rw [List.length_append, List.length_singleton]
  omega

noncomputable def rPop : V → List V → Hp → VK → Prop := fun x vs H Q => ∃ l xs y, x = .ref l ∧ vs = [] ∧ H l = some (.lst xs) ∧ xs[xs.length - 1]? = some y ∧ Q y (upd H l (.lst xs.dropLast))
theorem mt_pop : MtM X "list.pop" rPop := by
  intro pins s σ H x vs v us Q I rx rv h
  obtain ⟨l, xs, y, rfl, rfl, hH, hy, q⟩ := h
  cases rx
  have hus := rv.zero
  subst hus
  obtain ⟨z, its, n, r, hl, e⟩ := I.lstM hH
  obtain ⟨u, hu, ru⟩ := r.get hy
  have hy' : its.toArray[its.toArray.size - 1]? = some u := by
    show its.toArray[its.length - 1]? = some u
    rw [← Array.getElem?_toList, ← hl]
    exact hu
  refine call_meets F.slot_list_pop ⟨_, e, rfl⟩ F.entry_list_pop (F.args_list_pop_1 _) (MeetsSeq.list_pop_last l its.toArray n u hy' (by rw [List.size_toArray]; omega)) ⟨e, ?_⟩
  refine ⟨y, _, I.lset (its' := its.dropLast) hH e ?_ r.dropLast ?_, ru, q⟩
  · show its.toArray.eraseIdxIfInBounds (its.toArray.size - 1) = its.dropLast.toArray
    rw [List.size_toArray, List.eraseIdxIfInBounds_toArray, erase_last]
  · rw [List.length_dropLast]
    omega

/-! ### list + list, list += list, list * int -/
noncomputable def rCat : R2 := fun x y H Q => ∃ l b xs zs, x = .ref l ∧ y = .ref b ∧ H l = some (.lst xs) ∧ H b = some (.lst zs) ∧ xs.length + zs.length ≤ sizeLine ∧ ∀ p, H p = none → Q (.ref p) (upd H p (.lst (xs ++ zs)))
theorem op_cat : OpR X (binaryOp .Add) rCat := by
  intro pins s σ H x y v u Q I rx ry h
  obtain ⟨l, b, xs, zs, rfl, rfl, hH, hB, hz, q⟩ := h
  cases rx
  cases ry
  obtain ⟨z, its, n, r, hl, e⟩ := I.lstM hH
  obtain ⟨z2, its2, n2, r2, hl2, e2⟩ := I.lstM hB
  refine PySem.P.add_list e e2 ?_ (by rw [List.size_toArray, List.size_toArray]; omega)
  have ea : its.toArray ++ its2.toArray = (its ++ its2).toArray := by simp
  rw [ea]
  exact ⟨.ref _, _, I.lnew (t' := s.toks) (r.append r2) (by rw [List.length_append]; omega), rfl, q _ I.fresh⟩
/-- a list times an int (a negative one is nothing) -/
noncomputable def rRep : R2 := fun x y H Q => ∃ l k xs, x = .ref l ∧ y = .int k ∧ H l = some (.lst xs) ∧ -(2 ^ 63) ≤ k ∧ k < 2 ^ 63 ∧ xs.length * k.toNat ≤ sizeLine ∧
  ∀ p, H p = none → Q (.ref p) (upd H p (.lst (List.replicate k.toNat xs).flatten))
theorem len_rep {α : Type} (xs : List α) (k : Nat) : (List.replicate k xs).flatten.length = k * xs.length := by
  induction k with
  | zero => simp
  | succ k ih => rw [List.replicate_succ, List.flatten_cons, List.length_append, ih, Nat.succ_mul, Nat.add_comm]
theorem op_rep : OpR X (binaryOp .Mult) rRep := by
  intro pins s σ H x y v u Q I rx ry h
  obtain ⟨l, k, xs, rfl, rfl, hH, h1, h2, hz, q⟩ := h
  cases rx
  obtain ⟨t, rfl⟩ := ry
  obtain ⟨z, its, n, r, hl, e⟩ := I.lstM hH
  have hlen : its.toArray.size * k.toNat ≤ sizeLine := by rw [List.size_toArray, ← hl]; exact hz
  have hcap : ¬ its.toArray.size * k.toNat > (2 ^ 63 - 1) / 8 := by
    have : (sizeLine : Nat) ≤ (2 ^ 63 - 1) / 8 := by decide
    omega
  have hfit : ¬ (!Builtin.List.listFitsIndex k) = true := by
    rw [fitsIndex_both h1 h2]
    exact Bool.false_ne_true
  have hlong : ¬ Builtin.List.listTooLong (its.toArray.size * k.toNat) = true := by
    rw [notLongL hlen]
    exact Bool.false_ne_true
  have hnew : List.foldl (fun x1 x2 => x1 ++ x2) #[] (List.replicate (if its.toArray.isEmpty = true then 0 else k.toNat) its.toArray) = (List.replicate k.toNat its).flatten.toArray := by
    have f0 : ∀ m : Nat, List.foldl (fun x1 x2 => x1 ++ x2) #[] (List.replicate m its.toArray) = (List.replicate m its).flatten.toArray := fun m => by
      have := foldl_rep its m []
      rw [List.nil_append] at this
      exact this
    rw [f0]
    cases its with
    | nil => simp
    | cons a r' => rw [if_neg (by simp)]
  refine wpAny_binaryOp_repeat_ref (T := "list") (U := "int") (by decide) ⟨_, e, rfl⟩ (fun s' => typeIs_int s' k t) noFill_list_mul F.fills_int_mul F.slot_int_rmul repeat_list F.slot_int_index.lookup
    (call_meets F.slot_int_rmul (typeIs_int s k t) F.entry_int_rmul (F.args_int_rmul_2 _ _) (int___rmul___int_list k t l its.toArray n)
      ⟨e, rfl, ⟨_, e, rfl⟩, call_meets F.slot_list_mul ⟨_, e, rfl⟩ F.entry_list_mul (F.args_list_mul_2 _ _) (AutoListH.list___mul___list_int_3 l its.toArray n k t hfit hcap hlong) ⟨e, ?_⟩⟩)
  rw [hnew]
  exact ⟨.ref _, _, I.lnew (t' := s.toks) (r.rep k.toNat) (by rw [len_rep, Nat.mul_comm]; exact hz), rfl, q _ I.fresh⟩

/-! ### del xs[i] -/
end

/-! ### xs[a:b] = ys -/
section
variable {prog : Program} {w : World} {A : Around} {E : Value → Shared → Prop} {s : Shared}
end

section
variable {X : Cx}
end
end L2

namespace Att
open PySem PySem.W PySem.Calls PyProof.Rows

/-! ### the script -/
theorem ints_of_wellAll {P : Params} {h : Heap} : ∀ (ns : List Int) (vs : List Value), WellAll P h vs (ns.map WData.int) → IntsAre vs ns := by
  intro ns
  induction ns with
  | nil =>
    intro vs w
    rw [List.map_nil] at w
    cases w
    exact .nil
  | cons n ns ih =>
    intro vs w
    rw [List.map_cons] at w
    cases w with
    | cons a b =>
      cases a
      exact .cons _ _ (ih _ b)

theorem script_of {l : OpenLaw} {n : Nat} (hn : l.most = some n) {P : Params} {h : Heap} {args : List WData} {vals : List Value}
    (hpre : l.row.toRowW.claim.pre args = true) (hwl : WellAll P h vals args) :
    ∃ a vs ns, vals = [Value.ref a] ∧ args = [WData.list (ns.map WData.int)] ∧ h.get? a = some { cls := .type "list", data := .seq vs.toArray } ∧ IntsAre vs ns ∧ ns.length ≤ n := by
  have hsh : WShape.hasAll [] args [.list .int] = true := (pre_splitW hpre).1
  have hc : l.pre.holds [] { args := args } = true := (pre_splitW hpre).2
  obtain ⟨d, r, rfl, h1, h2⟩ := hasAllW_cons hsh
  obtain rfl := hasAllW_nil h2
  obtain ⟨xs, rfl, h3⟩ := hasW_list h1
  obtain ⟨ns, rfl⟩ := items_int h3
  have hlen : ns.length ≤ n := by
    unfold OpenLaw.pre at hc
    have h4 : (WTm.not (.lt (.lit (.int (n : Int))) (.len (.arg 0)))).holds [] { args := [.list (ns.map .int)] } = true := by
      have h4 := (holds_andW hc).1
      rw [hn] at h4
      exact h4
    have h5 := condW_of h4 (w_not (w_lt w_lit (w_len_list (w_arg rfl))))
    rw [List.length_map] at h5
    refine Nat.le_of_not_lt fun q => ?_
    have q' : (n : Int) < ((ns.length : Nat) : Int) := by omega
    first
      | (rw [decide_eq_true q'] at h5; exact absurd h5 (by decide))
      | (simp at h5; omega)
  cases hwl with
  | cons w1 w2 =>
    cases w2
    cases w1 with
    | list ho hall => exact ⟨_, _, ns, rfl, rfl, ho, ints_of_wellAll ns _ hall, hlen⟩

theorem post_true (l : OpenLaw) (args : List WData) : l.row.toRowW.claim.post args (.bool true) args = true :=
  postW_of (r := l.row.toRowW) (X := (true == true))
    (show WShape.has [] (.bool true) .bool = true by first | rfl | decide | simp [WShape.has, WShape.arms, WShape.armsAll])
    (show (WTm.eq .res (.lit (.bool true))).value [] { args := args, res := some (.bool true), after := args } = some (.bool (true == true)) from w_eq_bool (w_res rfl) w_lit) rfl

/-! ### the attachment: holds_open's last premise (the goal 'hc' behind k_head) from a wpAny of the law's body -/
/-- the same from a codeAny of the CALL (for a layer whose function contracts speak of calls) -/
theorem attach_call {l : OpenLaw} {n : Nat} {q : Program} {loose : List Str} {XP : (Str → Option Value) → Heap → Prop} {YP : World → Heap → Prop} {d : DefRec}
    (hn : l.most = some n) (hdf : d.params.defaults = [])
    (call : ∀ (w : World) (s₀ s₁ : Shared) (mg mb : Str → Option Value) (fa : Addr) (o : Obj) (pm cd doc : Value) (a : Addr) (vs : List Value) (ns : List Int),
      Ground q loose [] XP w s₀ mg mb s₁.heap → YP w s₁.heap →
      s₁.heap.get? fa = some o → o.data = .func (docDef d.name d.params d.body d.scope pm cd doc) → s₁.heap.CodeRec cd d.name → mg d.name = some (.ref fa) →
      s₁.heap.get? a = some { cls := .type "list", data := .seq vs.toArray } → IntsAre vs ns → ns.length ≤ n → s₁.gens = #[] →
      codeAny (model l.prog w) callerA (.call (.ref fa) ⟨[.ref a], []⟩) (fun r s' => r = .ok (.ret (.bool true)) ∧ OldK s₁.heap s'.heap ∧ s'.os = s₁.os ∧ AllBare s'.gens) s₁) :
    WalkO q loose XP YP l.row.toRowW d [] (fun f vs => PySem.call f vs) := by
  intro w s₀ s₁ mg mb G Y fa o pm cd doc dV kV ho hd hcd hD hmg hg args vals as hpre hlay hrd hwl hlo
  obtain rfl : dV = .none := Dflts.none hD hdf
  obtain rfl : kV = .none := Dflts.noKw hD
  obtain ⟨a, vs, ns, rfl, rfl, hobj, hints, hlen⟩ := script_of hn hpre hwl
  refine enter_call (codeAny_mono (call w s₀ s₁ mg mb fa o pm cd doc a vs ns G Y ho (fd_plain hd) hcd hmg hobj hints hlen hg) fun r s' hq => ?_)
  obtain ⟨rfl, h2, h3, h4⟩ := hq
  exact ⟨.inl ⟨.bool true, .bool true, [], rfl, fun _ => rfl, .bool true, post_true l _, fun _ => ⟨List.Pairwise.nil, fun _ hm => (nomatch hm)⟩⟩, h2, h3, h4⟩

/-! ### rules over ANY heap (no ledger) from facts about the written part K: the library's own take a ledger (News) for what they write -/
section
variable {prog : Program} {w : World} {A : Around} {E : Value → Shared → Prop} {s : Shared} {K : Frag}

/-- C(..): dict at size, instance at size + 1, then __init__ -/
theorem make_obj {R : Result → Shared → Prop} {C fI : Addr} {rest : List Value} {kw : List (Str × Value)}
    (X : K.In s.heap) (hm : makesIn K C = true) (hi : findIn K (.ref C) "__init__" = some (some (.ref fI))) (hf : isFn K (.ref fI) = true)
    (h : codeAny (model prog w) (A.under (.builtin "type.__call__" ⟨.ref C :: rest, kw⟩)) (.call (.ref fI) ⟨.ref (s.heap.objs.size + 1) :: rest, kw⟩) (InitBack (s.heap.objs.size + 1) R)
      { s with heap := (s.heap.push emptyDict).push (instObj C s.heap.objs.size) }) : codeAny (model prog w) A (.call (.ref C) ⟨rest, kw⟩) R s := by
  obtain ⟨hh, g, d, t, os⟩ := s
  exact make_core (makes_of X hm) (looks_findIn X hi) (fun self => bind_fn X self (beq_iff_eq.mp hf)) (.inl rfl) h

/-- x.name where the instance's dict holds the name and the class does not -/
theorem get_field {x C : Addr} {ox : Obj} {es : List DictEntry} {n : Nat} {name : Str} {expr : Bool} {v : Value} {Q : Value → Shared → Prop}
    (X : K.In s.heap) (I : PySem.W.InstAt s.heap x ox C (some (dictOf es n))) (hg : plainGet K C name = true) (hh : hasDictIn K C = true) (ha : findIn K (.ref C) name = some none)
    (hl : getL name es = some (some v)) (hv : handedIn v = true) (h : Q v { s with toks := s.toks + 1 }) : wpAny (model prog w) A (getAttr (.ref x) name expr) Q E s :=
  get_value X I (plainGet_of hg).1 (findObj_own hh ha rfl hl) hv h

/-! the whole heap as the ledger: makes every rule that writes through a ledger a rule over any heap -/
noncomputable def ledger (h : Heap) (L d : Addr) : List (Addr × Obj) := (List.range h.objs.size).filterMap fun a => if a = L ∨ a = d then none else (h.get? a).map fun o => (a, o)
end
end Att

namespace L2
open PySem PySem.Spec PyProof.Rows

theorem vals_ints : ∀ {vs : List Value} {ns : List Int}, IntsAre vs ns → Vals (ns.map V.int) vs
  | _, _, .nil => .nil
  | _, _, .cons n t h => .cons ⟨t, rfl⟩ (vals_ints h)

/-- nothing is tracked but the script, known to the object (or it is an object of the module) -/
noncomputable def Only (H : Hp) : Prop := ∀ b, H b = none ∨ ∃ o xs, H b = some (.frz o (.lst xs))

/-- THE HEAD: the law's promise, at the heap behind the top. F, the promise of the law's def, may use that base is part of the heap (so K.In base, base.Ns mainGlobals mg stand in Mod) -/
theorem law_call {P : Program} {w : World} {K : PySem.W.Frag} {mg mb : Str → Option Value} {CX : CXT} {k : Nat} {fa a : Addr} {fd : FuncData} {x : Str} {sp : Sp} {s₁ : Shared} {vs : List Value} {ns : List Int}
    (KX : K.In s₁.heap) (hns : s₁.heap.Ns mainGlobals mg) (hb : s₁.heap.Ns builtinsNs mb) (hbb : ∀ x : Str, x ≠ "__name__" → mb x = bootBuiltins x) (hlim : s₁.heap.NoLimit) (hg : s₁.gens = #[])
    (ha : s₁.heap.get? a = some { cls := .type "list", data := .seq vs.toArray }) (hi : IntsAre vs ns) (hl : ns.length ≤ sizeLine) (hr : Room k callerA)
    (F : ∀ base : Heap, K.In base → base.Ns mainGlobals mg → FnOk P w K mg base CX k fa fd [x] sp) (hbind : ∀ (s : Shared) (u : Value), BindsTo s fd ⟨[u], []⟩ [(x, u)])
    (hsp : ∀ H : Hp, Only H → SqL K H a (ns.map V.int) → sp [.ref a] H (fun v _ => v = .bl true) fun _ _ _ => False)
    (hCX : ∀ H e s', CX [] H s₁ (fun _ _ _ => False) e s' → False) :
    codeAny (model P w) callerA (.call (.ref fa) ⟨[.ref a], []⟩) (fun r s' => r = .ok (.ret (.bool true)) ∧ OldK s₁.heap s'.heap ∧ s'.os = s₁.os ∧ AllBare s'.gens) s₁ := by
  have rv := vals_ints hi
  have lenV := hi.length
  -- from an abstract heap in which nothing but the script may be tracked
  have core : ∀ H : Hp, Only H → SqL K H a (ns.map V.int) → HOk P w H s₁.heap → (∀ b, H b ≠ none → b = a) → (H a ≠ none → K.lookup a = none) →
      codeAny (model P w) callerA (.call (.ref fa) ⟨[.ref a], []⟩) (fun r s' => r = .ok (.ret (.bool true)) ∧ OldK s₁.heap s'.heap ∧ s'.os = s₁.os ∧ AllBare s'.gens) s₁ := by
    intro H hO hS hok hA hK
    have base_of : ∀ {b : Addr} {o : Obj}, s₁.heap.get? b = some o → H b = none → (hidT s₁.heap H).get? b = some o := fun e n => hidT_get e n
    have noA : ∀ {b : Addr} {o : Obj} {es : Array DictEntry} {ep : Nat}, s₁.heap.get? b = some o → o.data = .dict es ep → H b = none := fun {b o es ep} e d => by
      cases q : H b with
      | none => rfl
      | some u =>
        have e' : b = a := hA b (by rw [q]; simp)
        subst e'
        rw [ha] at e; cases e
        have d' : Data.seq vs.toArray _ = Data.dict es ep := d
        cases d'
    have nsK : ∀ {b : Addr} {m : Str → Option Value}, s₁.heap.Ns b m → (hidT s₁.heap H).Ns b m := fun {b m} ⟨o, es, ep, e, d, r⟩ => ⟨o, es, ep, base_of e (noA e d), d, r⟩
    have hKb : K.In (hidT s₁.heap H) := fun b o e => base_of (KX b o e) (by
      cases q : H b with
      | none => rfl
      | some u =>
        have e' : b = a := hA b (by rw [q]; simp)
        subst e'
        rw [hK (by rw [q]; simp)] at e; cases e)
    have hM : Mod K mg (hidT s₁.heap H) := ⟨hKb, nsK hns, ⟨mb, nsK hb, hbb⟩, by obtain ⟨mc, h1, h2⟩ := hlim; exact ⟨mc, nsK h1, h2⟩⟩
    have e0 : Env0 P w K mg (hidT s₁.heap H) callerA [] s₁ H := ⟨rfl, hM, fun b o e => of_hidT e, Nat.le_of_eq (hidT_size _ _), trivial, fun b hb => absurd (show b ∈ ([] : List Addr) from hb) (by simp), hok, .of_eq hg⟩
    refine codeAny_mono ((F _ hKb (nsK hns)).run callerA [] s₁ H ⟨[.ref a], []⟩ [.ref a] [.ref a] _ _ hr e0 (hbind s₁ (.ref a)) (.cons rfl .nil) (hsp H hO hS)) fun r s' h => ?_
    cases r with
    | error e => exact (hCX H e s' h).elim
    | ok fl =>
      cases fl with
      | next => exact False.elim h
      | brk => exact False.elim h
      | cont => exact False.elim h
      | ret u =>
        obtain ⟨v, H', os, bare, un, hok', r', q⟩ := h
        have q' : v = .bl true := q
        subst q'
        obtain rfl : u = Value.bool true := r'
        refine ⟨rfl, OldK.of_keep fun b o e => ?_, os, bare⟩
        cases q : H b with
        | none => exact un.keep b o e q (by intro z; exact absurd (show b ∈ ([] : List Addr) from z) (by simp)) (by simp)
        | some u =>
          rcases hO b with z | ⟨ob, xs, z⟩
          · rw [q] at z; cases z
          · have z2 := un.frzs b ob _ z
            obtain ⟨e1, _⟩ := hok b _ z
            obtain ⟨e2, _⟩ := hok' b _ z2
            rw [e] at e1; cases e1
            exact e2
  cases hk : K.lookup a with
  | some o =>
    -- the script is one of the module's own objects
    have e := KX a o hk
    rw [ha] at e
    cases e
    refine core (fun _ => none) (fun _ => .inl rfl) (.inr ⟨_, vs.toArray, _, hk, rfl, rfl, rfl, by rw [List.size_toArray, lenV]; exact hl, by simpa using rv⟩) (fun b u z => by have z' : (none : Option HO) = some u := z; cases z') (fun b z => absurd rfl z) fun z => absurd rfl z
  | none =>
    refine core (fun b => if b = a then some (.frz { cls := .type "list", data := .seq vs.toArray } (.lst (ns.map V.int))) else none) (fun b => ?_) (.inl (.inr ⟨{ cls := .type "list", data := .seq vs.toArray }, if_pos rfl⟩)) (fun b u z => ?_) (fun b z => ?_) fun _ => hk
    · by_cases hb : b = a
      · exact .inr ⟨_, _, if_pos hb⟩
      · exact .inl (if_neg hb)
    · by_cases hb : b = a
      · have z' := (if_pos hb).symm.trans z
        cases z'
        subst hb
        exact ⟨ha, by rw [List.length_map]; exact hl, vs, _, rv, ha⟩
      · have z' := (if_neg hb).symm.trans z
        cases z'
    · by_cases hb : b = a
      · exact hb
      · exact absurd (if_neg hb) z
end L2

namespace L2
open PySem PySem.Spec PyProof.Rows

noncomputable abbrev KOf {K : PySem.W.Frag} {h : Heap} (_ : K.In h) : PySem.W.Frag := K

/-- the goal that k_head leaves (case hc), from the law's promise. F gives the function object fd (K's own) once, then the promise over every base -/
theorem walk_of {l : PySem.W.OpenLaw} {n k : Nat} {q : Program} {loose : List Str} {XP : (Str → Option Value) → Heap → Prop} {YP : World → Heap → Prop} {d : DefRec} {K : Params → PySem.W.Frag} {CX : World → CXT} {sp : World → Sp} {x : Str}
    (hn : l.most = some n) (hn2 : n ≤ sizeLine) (hdf : d.params.defaults = []) (hr : Room k callerA)
    (hY : ∀ (w : World) (h : Heap), YP w h → (K w.params).In h)
    (F : ∀ (w : World) (mg : Str → Option Value) (fa : Addr) (h : Heap), (K w.params).In h → h.Ns mainGlobals mg → mg d.name = some (.ref fa) →
      ∃ fd : FuncData, (∀ (s : Shared) (u : Value), BindsTo s fd ⟨[u], []⟩ [(x, u)]) ∧
        ∀ base : Heap, (K w.params).In base → base.Ns mainGlobals mg → FnOk l.prog w (K w.params) mg base (CX w) k fa fd [x] (sp w))
    (hsp : ∀ (w : World) (H : Hp) (a : Addr) (ns : List Int), ns.length ≤ n → Only H → SqL (K w.params) H a (ns.map V.int) → sp w [.ref a] H (fun v _ => v = .bl true) fun _ _ _ => False)
    (hCX : ∀ (w : World) (H : Hp) (s : Shared) (e : Value) (s' : Shared), CX w [] H s (fun _ _ _ => False) e s' → False) :
    PySem.W.WalkO q loose XP YP l.row.toRowW d [] (fun f vs => PySem.call f vs) := by
  refine Att.attach_call hn hdf fun w s₀ s₁ mg mb fa o pm cd doc a vs ns G Y ho hd hcd hmg hobj hints hlen hg => ?_
  have KX := hY w _ Y
  obtain ⟨fd, hb, hF⟩ := F w mg fa _ KX G.T.g hmg
  exact law_call KX G.T.g G.T.b G.T.builtins G.T.nolimit hg hobj hints (Nat.le_trans hlen hn2) hr hF hb (fun H hO hS => hsp w H a ns hlen hO hS) fun H e s' => hCX w H s₁ e s'
end L2

/- THE LAST THEOREM (shape; LID, My.* are yours):
   My.Adr: a structure of the addresses that your layer names (classes, functions); My.Txt K t: a structure (Prop) of the equations over K;
   My.txt_mk : {K} {implicit addresses ..} (e1 : nsIn K mainGlobals "law" = some (some (.ref f))) (e2 : K.lookup f = some ⟨oc, od, .func (fnOf "law" "law" params body scope dV kV doc pm an cdv ct), sl⟩) (e3 : codeIn K cdv "law" = true) .. : ∃ t, My.Txt K t

set_option maxRecDepth 100000 in
set_option maxHeartbeats 0 in
theorem PySem.Challenge.cw_LID_holds : PySem.Challenge.rw_LID.Holds := by
  w_on; o_law; k_head; (case hw => w_witness2)
  k_fill
  refine L2.walk_of (l := PySem.Challenge.rw_LID) (n := 63) (k := 40) (x := "script") (CX := fun w => ..) (sp := fun _ => My.sp_law) rfl (by decide) rfl ⟨rfl, by decide, by decide⟩ (fun w h Y => PySem.W.kIn_of Y) ?F ?S ?C
  case F =>
    intro w mg fa h KX G hmg
    have T : ∃ t, My.Txt (L2.KOf KX) t := by
      dsimp only [L2.KOf]                          -- K must stand as «<heap const> w.params» for k_is
      refine' My.txt_mk ?e1 ?e2 ?e3 ..
      (case e1 => PySem.W.k_is)                    -- in the order: a name -> its address -> its object -> its parts
      (case e2 => PySem.W.k_is)
      ..
    obtain ⟨t, T⟩ := T
    have e0 := hmg.symm.trans (PySem.W.mg_of KX G T.law)
    cases e0                                       -- fa is the law's own address
    exact ⟨_, fun s u => .of_eq rfl, fun base kb nb => My.law_fn T kb nb⟩     -- if «.of_eq rfl» comes too early: refine' ⟨_, ?b, fun base kb nb => My.law_fn T kb nb⟩; exact fun s u => .of_eq rfl
  case S => exact fun w H a ns hl hO hS => ..
  case C => exact ..
(the tactic k_is has no namespace: write k_is) -/

/-! SHORT WORDS over the layer: a def of the text, its body, what a loop and a test want. -/
namespace L2
open PySem PySem.Spec PyProof.Rows

/-! ### the text by places -/
/-- the j-th statement of a class's body -/
noncomputable def inClass (s : Stmt) (j : Nat) : Stmt := match s with
  | .ClassDef _ _ _ body _ _ _ _ _ _ _ => body.getD j (.Pass ⟨0, 0, 0, 0⟩)
  | _ => .Pass ⟨0, 0, 0, 0⟩
noncomputable def defArgs (s : Stmt) : Arguments := match s with
  | .FunctionDef _ a _ _ _ _ _ _ _ _ => a
  | _ => { posonlyargs := [], args := [], vararg := none, kwonlyargs := [], kw_defaults := [], kwarg := none, defaults := [] }
noncomputable def defBody (s : Stmt) : List Stmt := match s with
  | .FunctionDef _ _ b _ _ _ _ _ _ _ => b
  | _ => []
noncomputable def defScope (s : Stmt) : Scope := match s with
  | .FunctionDef _ _ _ _ _ _ sc _ _ _ => sc
  | _ => { kind := .function, names := [], isGenerator := false, isCoroutine := false }

/-! ### no exception leaves a def -/
noncomputable abbrev CX0 : CXT := fun _ _ _ _ _ _ => False
noncomputable abbrev E0 : XK := fun _ _ _ => False
theorem pass0 {X : Cx} : Passes CX0 X E0 := fun _ _ _ _ _ _ _ h => h.elim

/-! ### a def (or method) of the text as it stands behind the top -/
structure Fun (K : PySem.W.Frag) (x qual : Str) (st : Stmt) (f : Addr) (fd : FuncData) : Prop where
  ex : ∃ (oc : Value) (od : Option Addr) (kV doc pm : Value) (an : Option Addr) (cdv ct : Value) (osl : Array (Option Value)),
    fd = PySem.W.fnOf x qual (defArgs st) (defBody st) (defScope st) .none kV doc pm an cdv ct ∧ K.lookup f = some ⟨oc, od, .func fd, osl⟩ ∧ PySem.W.codeIn K cdv qual = true
  kp : PySem.W.keepIn K (.ref f) = true
section
variable {P : Program} {w : World} {K : PySem.W.Frag} {mg : Str → Option Value} {base : Heap}
/-- THE RULE for a def: its body as a term of rules, and the reading of that term -/
theorem Fun.ok {x qual : Str} {st : Stmt} {f : Addr} {fd : FuncData} {N ps : List Str} {k : Nat} {sp : Sp} (F : Fun K x qual st f fd) (S : FnScope N ps (defScope st)) (len : ∀ vs H Q E, sp vs H Q E → vs.length = ps.length)
    (hbody : ∀ (cdv : Value) (A : Around) (outer : List Env) (s : Shared) (H : Hp) (vs : List V) (Q : VK) (E : XK), Room k (A.deeper (envOfC qual (defScope st) s.heap.objs.size f cdv)) → sp vs H Q E →
      ∃ t, PSs (cxOf CX0 P w K mg base N qual (defScope st) f cdv A outer s H E).nox (defBody st) t ∧ t { nx := fun _ H' => Q .non H', rt := Q } (start N vs) H) : FnOk P w K mg base CX0 (k + 1) f fd ps sp := by
  obtain ⟨oc, od, kV, doc, pm, an, cdv, ct, osl, rfl, lk, hcd⟩ := F.ex
  refine fn_of lk hcd S len fun A outer s H vs Q E hr hsp => ?_
  obtain ⟨t, h, q⟩ := hbody cdv A outer s H vs Q E hr hsp
  exact ⟨t, h.nox, q⟩
/-- how its arguments bind (no defaults): h is «fun _ _ _ _ _ _ us hl => match us, hl with | [_, _], _ => rfl», one _ a parameter -/
theorem Fun.binds {x qual : Str} {st : Stmt} {f : Addr} {fd : FuncData} {ps : List Str} (F : Fun K x qual st f fd)
    (h : ∀ (kV doc pm : Value) (an : Option Addr) (cdv ct : Value) (us : List Value), us.length = ps.length → bindArgs (PySem.W.fnOf x qual (defArgs st) (defBody st) (defScope st) .none kV doc pm an cdv ct) ⟨us, []⟩ = pure (ps.zip us)) : Binds K fd ps [] := by
  obtain ⟨oc, od, kV, doc, pm, an, cdv, ct, osl, rfl, lk, hcd⟩ := F.ex
  exact .all (h kV doc pm an cdv ct)
theorem fun_mk {x qual : Str} {st : Stmt} {f : Addr} {oc : Value} {od an : Option Addr} {osl : Array (Option Value)} {kV doc pm cdv ct : Value} (l : K.lookup f = some ⟨oc, od, .func (PySem.W.fnOf x qual (defArgs st) (defBody st) (defScope st) .none kV doc pm an cdv ct), osl⟩)
    (c : PySem.W.codeIn K cdv qual = true) (k : PySem.W.keepIn K (.ref f) = true) : Fun K x qual st f (PySem.W.fnOf x qual (defArgs st) (defBody st) (defScope st) .none kV doc pm an cdv ct) := ⟨⟨oc, od, kV, doc, pm, an, cdv, ct, osl, rfl, l, c⟩, k⟩
end
theorem small1000 {n : Nat} (h : n ≤ 1000) : n < sizeLine := Nat.lt_of_le_of_lt h (by decide)

/-! ### expressions in short: the name that stands in the i-th slot -/
section
variable {X : Cx}
theorem pv (i : Nat) {x : Str} {pos : Pos} (hN : X.N[i]? = some x := by rfl) (hv : Vis X.env.scope x := by first | exact Or.inl rfl | exact Or.inr (Or.inl rfl) | exact Or.inr (Or.inr rfl)) (hd : (x == ("__debug__" : Str)) = false := by decide)
    (hcd : (x == ("__classdict__" : Str)) = false := by decide) : PE X (.Name x pos) (tVar i) := pe_var hN hv hd hcd
end

/-! ### tests -/
theorem iteF {A B : Prop} (h : B) : if false = true then A else B := by
  rw [if_neg Bool.false_ne_true]
  exact h
theorem iteT {A B : Prop} (h : A) : if true = true then A else B := by
  rw [if_pos rfl]
  exact h
theorem ite2 {c A B : Prop} [Decidable c] (h1 : c → A) (h2 : ¬ c → B) : if c then A else B := by
  by_cases h : c
  · rw [if_pos h]
    exact h1 h
  · rw [if_neg h]
    exact h2 h
/-! ### heaps -/
/-- all that was tracked is as it was -/
noncomputable def Same (H H' : Hp) : Prop := ∀ b o, H b = some o → H' b = some o
theorem Same.refl (H : Hp) : Same H H := fun _ _ h => h
theorem Same.trans {H H1 H2 : Hp} (a : Same H H1) (b : Same H1 H2) : Same H H2 := fun c o h => b c o (a c o h)
theorem Same.free {H H' : Hp} (e : Same H H') {l : Addr} (h : H' l = Option.none) : H l = Option.none := by
  cases q : H l with
  | none => rfl
  | some o =>
    rw [e l o q] at h
    cases h
theorem Same.seq {K : PySem.W.Frag} {H H' : Hp} {a : Addr} {xs : List V} (e : Same H H') (h : SqL K H a xs) : SqL K H' a xs := by
  rcases h with (h | ⟨o, h⟩) | h
  · exact .inl (.inl (e _ _ h))
  · exact .inl (.inr ⟨o, e _ _ h⟩)
  · exact .inr h

end L2

set_option Elab.async false
set_option linter.all false
set_option maxRecDepth 100000
set_option maxHeartbeats 4000000
namespace L2
open PySem PySem.Spec PyProof.Rows

/-! ### comprehensions: [elt for x in iter if c] over the layer -/
noncomputable abbrev cmpTests (ifs : List Expr) (env : Env) : Sem Bool :=
  forIn ifs true fun c r => if r = true then do let ok ← isTrue c env (eval c env); pure (ForInStep.yield ok) else pure (ForInStep.yield r)

noncomputable def clOf (cells : List (Str × Addr)) : List (Str × NameKind) → List (Str × Addr) → List (Str × Addr)
  | [], acc => acc
  | (n, k) :: r, acc => clOf cells r (if k == .free then (n, (cells.lookup n).getD 0) :: acc else acc)
theorem clOf_eq {env : Env} : ∀ (ns : List (Str × NameKind)) (acc : List (Str × Addr)), (∀ y ∈ ns, y.2 = .free → ∃ c, env.cells.lookup y.1 = some c) →
    (forIn ns acc fun (p : Str × NameKind) (cs : List (Str × Addr)) => (if p.2 == .free then (do let c ← cellOf env p.1; pure (ForInStep.yield ((p.1, c) :: cs))) else pure (ForInStep.yield cs) : Sem (ForInStep (List (Str × Addr))))) = (pure (clOf env.cells ns acc) : Sem (List (Str × Addr)))
  | [], acc, _ => rfl
  | (n, k) :: r, acc, h => by
    rw [List.forIn_cons]
    by_cases hk : k = .free
    · subst hk
      obtain ⟨c, hc⟩ := h (n, .free) List.mem_cons_self rfl
      have e1 : cellOf env n = pure c := by unfold cellOf; rw [show env.cells.lookup n = some c from hc]
      simp only [beq_self_eq_true, if_true, e1, clOf, hc, Option.getD_some]
      exact clOf_eq r ((n, c) :: acc) fun y hy => h y (List.mem_cons_of_mem _ hy)
    · have hb : (k == NameKind.free) = false := by simpa using hk
      simp only [hb, Bool.false_eq_true, if_false, clOf]
      exact clOf_eq r acc fun y hy => h y (List.mem_cons_of_mem _ hy)
theorem closure_eq {env : Env} {sc : Scope} (h : ∀ y ∈ sc.names, y.2 = .free → ∃ c, env.cells.lookup y.1 = some c) : closureFor sc env = pure (clOf env.cells sc.names []) := by
  unfold closureFor
  have q := clOf_eq (env := env) sc.names [] h
  have e : (forIn sc.names [] fun (p : Str × NameKind) (cs : List (Str × Addr)) => (match p with | (name, kind) => if kind == .free then (do let c ← cellOf env name; pure (ForInStep.yield ((name, c) :: cs))) else pure (ForInStep.yield cs) : Sem (ForInStep (List (Str × Addr))))) = (pure (clOf env.cells sc.names []) : Sem (List (Str × Addr))) := q
  simp only [e]
  rfl
theorem clOf_look {cells : List (Str × Addr)} : ∀ (ns : List (Str × NameKind)) (acc : List (Str × Addr)), (∀ y ∈ ns, y.2 = .free → ∃ c, cells.lookup y.1 = some c) → (∀ y c, acc.lookup y = some c → cells.lookup y = some c) →
    (∀ y c, (clOf cells ns acc).lookup y = some c → cells.lookup y = some c) ∧ (∀ y, (acc.lookup y).isSome = true → ((clOf cells ns acc).lookup y).isSome = true) ∧ (∀ y, (y, NameKind.free) ∈ ns → ((clOf cells ns acc).lookup y).isSome = true)
  | [], acc, _, h2 => ⟨h2, fun _ h => h, fun _ h => nomatch h⟩
  | (n, k) :: r, acc, h1, h2 => by
    have h1' : ∀ y ∈ r, y.2 = .free → ∃ c, cells.lookup y.1 = some c := fun y hy => h1 y (List.mem_cons_of_mem _ hy)
    by_cases hk : k = .free
    · subst hk
      obtain ⟨c, hc⟩ := h1 (n, .free) List.mem_cons_self rfl
      have hc' : cells.lookup n = some c := hc
      have e : clOf cells ((n, .free) :: r) acc = clOf cells r ((n, c) :: acc) := by simp only [clOf, beq_self_eq_true, if_true, hc', Option.getD_some]
      have ih := clOf_look (cells := cells) r ((n, c) :: acc) h1' (fun y d hy => by
        rw [List.lookup_cons] at hy
        cases q : y == n with
        | true => rw [q] at hy; cases hy; rw [eq_of_beq q]; exact hc'
        | false => rw [q] at hy; exact h2 y d hy)
      rw [e]
      refine ⟨ih.1, fun y hy => ih.2.1 y ?_, fun y hy => ?_⟩
      · rw [List.lookup_cons]; split
        · rfl
        · exact hy
      · rcases List.mem_cons.mp hy with z | z
        · cases z; exact ih.2.1 n (by rw [List.lookup_cons]; simp)
        · exact ih.2.2 y z
    · have hb : (k == NameKind.free) = false := by simpa using hk
      have e : clOf cells ((n, k) :: r) acc = clOf cells r acc := by simp only [clOf, hb, Bool.false_eq_true, if_false]
      have ih := clOf_look (cells := cells) r acc h1' h2
      rw [e]
      refine ⟨ih.1, ih.2.1, fun y hy => ?_⟩
      rcases List.mem_cons.mp hy with z | z
      · cases z; exact absurd rfl hk
      · exact ih.2.2 y z

/-! names of the block -/
structure CompSc (scX sc : Scope) (NX : List Str) (x : Str) (fv : List Str) (js : List Nat) : Prop where
  kind : sc.kind = .function
  kindX : scX.kind = .function
  cell : ∀ y ∈ sc.names, y.2 ≠ .cell
  own : sc.names.lookup x = some .local
  names : ∀ y ∈ sc.names, y.2 = .local → sc.names.lookup y.1 = some .local
  free : ∀ y ∈ sc.names, y.2 = .free → scX.names.lookup y.1 = some .cell
  nd : (x :: fv).Nodup
  at' : js.map (fun j => NX[j]?) = fv.map some
  fr : ∀ y ∈ fv, sc.names.lookup y = some .free

theorem relabel_free {env : Env} (hk : env.scope.kind = .function) : ∀ {ns : List (Str × NameKind)} {y : Str}, ns.lookup y = some .free → env.kindOf y = some .cell →
    (ns.map fun (n, k) => if (k == NameKind.free && env.scope.kind == .function && env.kindOf n == some .cell) then (n, NameKind.cell) else (n, k)).lookup y = some .cell
  | [], _, h, _ => by simp at h
  | (n, k) :: r, y, h, hc => by
    have ih := @relabel_free env hk r y
    show List.lookup y ((if (k == NameKind.free && env.scope.kind == .function && env.kindOf n == some .cell) = true then (n, NameKind.cell) else (n, k)) :: _) = _
    cases hx : y == n with
    | true =>
      simp only [List.lookup_cons, hx] at h
      cases h
      have e : y = n := eq_of_beq hx
      subst e
      simp [List.lookup_cons, hc, hk]
    | false =>
      simp only [List.lookup_cons, hx] at h
      split <;> (simp only [List.lookup_cons, hx]; exact ih h hc)
theorem relabel_back {env : Env} : ∀ {ns : List (Str × NameKind)} {y : Str}, (∀ z ∈ ns, z.2 ≠ .cell) →
    ((ns.map fun (n, k) => if (k == NameKind.free && env.scope.kind == .function && env.kindOf n == some .cell) then (n, NameKind.cell) else (n, k)).lookup y = some .cell ∨
     (ns.map fun (n, k) => if (k == NameKind.free && env.scope.kind == .function && env.kindOf n == some .cell) then (n, NameKind.cell) else (n, k)).lookup y = some .free) → (y, NameKind.free) ∈ ns
  | [], _, _, h => by simp at h
  | (n, k) :: r, y, hz, h => by
    have ih := @relabel_back env r y fun z hm => hz z (List.mem_cons_of_mem _ hm)
    have hk : k ≠ .cell := hz (n, k) List.mem_cons_self
    rw [List.map_cons] at h
    by_cases hc : (k == NameKind.free && env.scope.kind == .function && env.kindOf n == some .cell) = true
    · have hf : k = .free := by
        rw [Bool.and_eq_true, Bool.and_eq_true] at hc
        exact eq_of_beq hc.1.1
      simp only [hc, if_true, List.lookup_cons] at h
      cases hx : y == n with
      | true => rw [eq_of_beq hx, hf]; exact List.mem_cons_self
      | false => rw [hx] at h; exact List.mem_cons_of_mem _ (ih h)
    · rw [Bool.not_eq_true] at hc
      simp only [hc, Bool.false_eq_true, if_false, List.lookup_cons] at h
      cases hx : y == n with
      | true =>
        rw [hx] at h
        rcases h with h | h
        · exact absurd (Option.some.inj h) hk
        · have : k = .free := Option.some.inj h
          rw [eq_of_beq hx, this]; exact List.mem_cons_self
      | false => rw [hx] at h; exact List.mem_cons_of_mem _ (ih h)

/-- the slots of the free names -/
noncomputable def pick (js : List Nat) (σ : St) : St := js.map fun j => (σ[j]?).getD none

/-- the block's context -/
noncomputable abbrev xc (X : Cx) (sc : Scope) (x : Str) (fv : List Str) (C : Addr) (s0 : Shared) (H0 : Hp) (ex : List Addr) : Cx :=
  { X with N := x :: fv, s₀ := s0, H₀ := H0, env := compEnvC sc (clOf X.env.cells sc.names []) C X.env, outer := X.stack, ex := ex, fn := fun _ => false, pn := [], xe := fun _ _ => False }

/-- the clause's tests -/
noncomputable def PIf (X : Cx) (ifs : List Expr) (t : TT) : Prop :=
  ∀ (pins : List (Addr × Obj)) (s : Shared) (σ : St) (H : Hp) (Q : Bool → Hp → Prop), Inv X pins σ H s → t σ H Q → wpAny (model X.prog X.w) X.A (cmpTests ifs X.env) (TP X pins σ Q) X.xe s
noncomputable def tYes : TT := fun _ H Q => Q true H
theorem tYes_ok {σ : St} {H : Hp} {Q : Bool → Hp → Prop} (h : Q true H) : tYes σ H Q := h
theorem pif_nil {X : Cx} : PIf X [] tYes := fun _ _ _ H _ I h => wpAny_tests_nil ⟨H, I, h⟩
/-- the reading of a comprehension -/
noncomputable def tCompB (J : It) (js : List Nat) (tt : TT) (te : TE) : TE := fun σ H1 Q => ∃ W : Nat → Nat → List V → Hp → Prop, (∃ m, W 0 m [] H1) ∧ ∀ i m ys H, W i m ys H →
  (J.stop i H ∧ ∀ p, H p = none → Q (.ref p) (upd H p (.lst ys))) ∨
  (J.go i H ∧ ∃ N : List V → Hp → Prop, (∀ ys' H', N ys' H' → ∃ m', m' < m ∧ W (i + 1) m' ys' H') ∧
    ∀ x H', J.yld i H x H' → tt (some x :: pick js σ) H' fun b H2 => if b = true then te (some x :: pick js σ) H2 fun y H3 => ys.length < sizeLine ∧ N (ys ++ [y]) H3 else N ys H2)
noncomputable def tComp (wi : TI) (js : List Nat) (tt : TT) (te : TE) : TE := fun σ H Q => wi σ H fun J H1 => tCompB J js tt te σ H1 Q

section
variable {X : Cx} {pins : List (Addr × Obj)} {σ : St} {H2 : Hp} {s2 : Shared} {elt iter : Expr} {x : Str} {px : Pos} {ifs : List Expr} {sc scX : Scope} {pos : Pos} {fv : List Str} {js : List Nat} {tt : TT} {te : TE}

/-! the forms one uses -/
theorem comp_list {K : PySem.W.Frag} {a : Addr} {xs : List V} {σ : St} {H : Hp} {Q : VK} (Pv : Nat → List V → Hp → Prop) (h0 : Pv 0 [] H) (hl : ∀ i ys H, i ≤ xs.length → Pv i ys H → SqL K H a xs)
    (hs : ∀ i x ys H, xs[i]? = some x → Pv i ys H → tt (some x :: pick js σ) H fun b H2 => if b = true then te (some x :: pick js σ) H2 fun y H3 => ys.length < sizeLine ∧ Pv (i + 1) (ys ++ [y]) H3 else Pv (i + 1) ys H2)
    (hd : ∀ ys H, Pv xs.length ys H → ∀ p, H p = none → Q (.ref p) (upd H p (.lst ys))) :
    tCompB (Itl K a) js tt te σ H Q := by
  refine ⟨fun i m ys H => m = xs.length - i ∧ i ≤ xs.length ∧ Pv i ys H, ⟨xs.length, by simp, Nat.zero_le _, h0⟩, ?_⟩
  rintro i m ys H ⟨rfl, hi, p⟩
  have q := hl i ys H hi p
  by_cases hlt : i < xs.length
  · refine .inr ⟨⟨xs, xs[i], q, by simp [hlt]⟩, Pv (i + 1), fun ys' H' p' => ⟨xs.length - (i + 1), by omega, rfl, hlt, p'⟩, fun x H' y => ?_⟩
    obtain ⟨e, y⟩ := y
    subst e
    exact hs i x ys _ (y xs q) p
  · have e : i = xs.length := by omega
    subst e
    exact .inl ⟨⟨xs, q, Nat.le_refl _⟩, hd ys H p⟩
end
end L2

set_option linter.all false
namespace Mm
open PySem

/-! bits of natural numbers -/
/-! the number whose bits below N are p's -/
noncomputable def mk (p : Nat → Bool) : Nat → Nat
  | 0 => 0
  | N + 1 => mk p N + (if p N then 2 ^ N else 0)
/-! the mask of a switch -/
noncomputable def sw (k n : Nat) : Nat := mk (fun s => s.testBit k) (2 ^ n)
end Mm

set_option Elab.async false
set_option linter.all false
set_option maxRecDepth 100000
set_option maxHeartbeats 4000000
namespace L2
open PySem PySem.Spec PyProof.Rows
section
variable {X : Cx}
/-! ### shifts of great numbers -/
/-! ### isinstance(x, T), T a built-in type -/
theorem call_isinst {n : String} : CallR X (.builtin "isinstance") (fun xs H Q => ∃ x t b, xs = [x, .ty n] ∧ TyOf X.K H x t ∧ PySem.W.kitOne X.K t (.type n) = some b ∧ Q (.bl b) H) := by
  intro pins s σ H xs us Q I r h
  obtain ⟨x, t, b, rfl, ty, e, q⟩ := h
  obtain ⟨u, w', rfl, rx, rw'⟩ := vals2 r
  cases (show w' = Value.type n from rw')
  exact isinst_ok I rx ty e fun tk => ⟨.bl b, H, I.tok _, rfl, q⟩
end
theorem bt_len : bootBuiltins "len" = some (.builtin "len") := by decide +kernel
theorem bt_isi : bootBuiltins "isinstance" = some (.builtin "isinstance") := by decide +kernel
theorem bt_int : bootBuiltins "int" = some (.type "int") := by decide +kernel
theorem ix_listK {X : Cx} {K : PySem.W.Frag} (h : X.K = K) : IxR X (rIxL K) := by subst h; exact ix_list
end L2

set_option Elab.async false
set_option linter.all false
set_option maxRecDepth 100000
set_option maxHeartbeats 4000000
namespace L2
open PySem PySem.Spec PyProof.Rows
section
variable {X : Cx}
/-! ### n.bit_length() -/
/-! ### two lists of ints, compared -/
/-! ### all([..]) of truths -/
theorem all_getD (bs : List Bool) : ((List.range bs.length).all fun i => bs.getD i false) = bs.all id := by
  have : (List.range bs.length).map (fun i => bs.getD i false) = bs := by
    apply List.ext_getElem
    · simp
    · intro i h1 h2
      simp at h1
      simp [h1]
  calc ((List.range bs.length).all fun i => bs.getD i false) = ((List.range bs.length).map fun i => bs.getD i false).all id := by rw [List.all_map]; rfl
    _ = bs.all id := by rw [this]
theorem bl_at {bs : List Bool} {its : List Value} (r : Vals (bs.map V.bl) its) {i : Nat} {v : Value} (e : its[i]? = some v) : v = .bool (bs.getD i false) := by
  have hl := r.length
  have hi : i < its.length := (List.getElem?_eq_some_iff.mp e).1
  rw [List.length_map] at hl
  have hb : (bs.map V.bl)[i]? = some (V.bl (bs.getD i false)) := by
    rw [List.getElem?_map, List.getElem?_eq_getElem (by omega)]
    simp [List.getD_eq_getElem?_getD, List.getElem?_eq_getElem (show i < bs.length by omega)]
  obtain ⟨u, hu, ru⟩ := r.get hb
  rw [e] at hu
  cases hu
  exact ru
theorem call_allB (hc : X.calm = true) : CallR X (.builtin "all") (fun xs H Q => ∃ (p : Addr) (bs : List Bool), xs = [.ref p] ∧ SqL X.K H p (bs.map V.bl) ∧ Q (.bl (bs.all id)) H) := by
  intro pins s σ H xs us Q I r h
  obtain ⟨p, bs, rfl, hq, q⟩ := h
  obtain ⟨u, rfl, ru⟩ := vals1 r
  cases (show u = Value.ref p from ru)
  obtain ⟨its, rv, pl, hz⟩ := I.list hq
  have hlen : its.length = bs.length := by rw [← rv.length, List.length_map]
  have hlt : p < s.heap.objs.size := by obtain ⟨o, n, e, _⟩ := pl; exact Heap.lt_size e
  refine call_all_walk (wpAny_pyIter_list pl.isList ?_)
  refine ⟨s.heap.objs.size, _, _, _, _, _, fun i => bs.getD i false, rfl, Walks.list (A := X.A.in1) (show X.A.in1.handled = none from I.ok.hd hc) _ p (Nat.ne_of_lt hlt) its.toArray, ⟨⟨_, Heap.get?_push_size _ rfl, rfl, rfl⟩, Heap.IsList.at pl.isList fun o e => Heap.get?_push_of_some _ e⟩, ?_, fun h' tk hk => ?_⟩
  · intro i v s' Q' E' hv hq'
    have e : its[i]? = some v := by simpa using hv
    rw [bl_at rv e]
    exact wpAny_truthy_bool hq'
  · refine ⟨.bl _, H, I.kept fun b o e => hk b o ?_ (Heap.get?_push_of_some _ e), rfl, ?_⟩
    · intro z
      have z' : b = s.heap.objs.size := by simpa using z
      exact Nat.lt_irrefl _ (z' ▸ Heap.lt_size e)
    · have e : its.toArray.size = bs.length := by rw [List.size_toArray]; exact hlen
      rw [e, all_getD]
      exact q
/-! ### range(lo, hi, step) -/
end
theorem bt_all : bootBuiltins "all" = some (.builtin "all") := by decide +kernel
theorem bt_list : bootBuiltins "list" = some (.type "list") := by decide +kernel
end L2

set_option Elab.async false
set_option linter.all false
set_option maxRecDepth 100000
set_option maxHeartbeats 4000000
namespace L2
open PySem PySem.Spec PyProof.Rows
section
variable {X : Cx}
/-! ### text[lo:hi] -/
/-! ### find, index -/
/-! ### for-loops over n things that hang on nothing -/
noncomputable def ItN (n : Nat) (y : Nat → V) : It := ⟨fun i _ => i < n, fun i H x H' => H' = H ∧ x = y i, fun i _ => n ≤ i⟩
end
end L2

namespace PySem.F
end PySem.F

set_option Elab.async false
set_option linter.all false
set_option maxRecDepth 100000
set_option maxHeartbeats 4000000
namespace PySem
section
variable {prog : Program} {w : World} {A : Around} {E : Value → Shared → Prop} {s : Shared}
noncomputable def Heap.IsRevS (h : Heap) (a : Addr) (x : Str) (t : Tok) (i : Int) : Prop := ∃ o, h.get? a = some o ∧ o.cls = .type "reversed" ∧ o.data = .fields #[.str x t, rawInt i]
theorem Heap.IsRevS.typeIs {a : Addr} {x : Str} {t : Tok} {i : Int} (y : s.heap.IsRevS a x t i) : s.TypeIs (.ref a) "reversed" := by obtain ⟨o, ho, hc, _⟩ := y; exact ⟨o, ho, hc⟩
theorem Heap.IsRevS.at {h h' : Heap} {a : Addr} {x : Str} {t : Tok} {i : Int} (y : h.IsRevS a x t i) (e : ∀ o, h.get? a = some o → h'.get? a = some o) : h'.IsRevS a x t i := by obtain ⟨o, ho, r⟩ := y; exact ⟨o, e _ ho, r⟩
end
end PySem

namespace L2
open PySem PySem.Spec PyProof.Rows
/-! ### for c in reversed(text) -/
section
variable {X : Cx} {tg : Expr}
end
end L2

set_option Elab.async false
set_option linter.all false
set_option maxRecDepth 100000
set_option maxHeartbeats 4000000
namespace L2
open PySem PySem.Spec PyProof.Rows
/-! ### a dict of the module: texts to ints; read alone -/
structure KDict (P : Program) (w : World) (K : PySem.W.Frag) (a : Addr) (kvs : List (Str × Int)) : Prop where
  ns : (a == sysModules) = false
  ob : ∃ (o : Obj) (vs : List (Key × Value)), K.lookup a = some o ∧ o.cls = .type "dict" ∧ o.dict = none ∧ (∀ h : Heap, h.get? a = some o → h.DictOf (mixKind P w) a vs) ∧
    ∀ k : Str, (∀ i, kvs.lookup k = some i → ∃ t, valueAt vs (Sum.inr k : Key) = some (.int i t)) ∧ (kvs.lookup k = none → valueAt vs (Sum.inr k : Key) = none)
section
variable {X : Cx} {a : Addr} {kvs : List (Str × Int)} {x : Str} {p pos apos cpos : Pos} {e f : Expr} {ty tx : TE}
theorem KDict.here {pins : List (Addr × Obj)} {σ : St} {H : Hp} {s : Shared} (D : KDict X.prog X.w X.K a kvs) (I : Inv X pins σ H s) :
    ∃ vs : List (Key × Value), s.heap.DictOf (mixKind X.prog X.w) a vs ∧ (∀ b, Value.ref a = .ref b → ∃ ob, s.heap.get? b = some ob ∧ ob.dict = none) ∧
      ∀ k : Str, (∀ i, kvs.lookup k = some i → ∃ t, valueAt vs (Sum.inr k : Key) = some (.int i t)) ∧ (kvs.lookup k = none → valueAt vs (Sum.inr k : Key) = none) := by
  obtain ⟨o, vs, hk, hc, hd, hh, hv⟩ := D.ob
  have e := I.kIn a o hk
  exact ⟨vs, hh _ e, fun b q => by cases q; exact ⟨o, e, hd⟩, hv⟩
end
end L2

set_option Elab.async false
set_option linter.all false
set_option maxRecDepth 100000
set_option maxHeartbeats 4000000
namespace L2
open PySem PySem.Spec PyProof.Rows
section
variable {X : Cx}
/-! ### range(n) as a thing, list(range(n)) -/
/-! ### isinstance(x, C), C an own class -/
theorem call_isinstC : CallR X (.builtin "isinstance") (fun xs H Q => ∃ x t C b, xs = [x, .ref C] ∧ TyOf X.K H x t ∧ PySem.W.kitOne X.K t (.ref C) = some b ∧ Q (.bl b) H) := by
  intro pins s σ H xs us Q I r h
  obtain ⟨x, t, C, b, rfl, ty, e, q⟩ := h
  obtain ⟨u, w', rfl, rx, rw'⟩ := vals2 r
  cases (show w' = Value.ref C from rw')
  exact isinst_ok I rx ty e fun tk => ⟨.bl b, H, I.tok _, rfl, q⟩
end
theorem kit_same (K : PySem.W.Frag) (C : Addr) : PySem.W.kitOne K (.ref C) (.ref C) = some true := by
  unfold PySem.W.kitOne
  rw [if_pos (by simp)]
theorem bt_str : bootBuiltins "str" = some (.type "str") := by decide +kernel
end L2

set_option Elab.async false
set_option linter.all false
set_option maxRecDepth 100000
set_option maxHeartbeats 4000000
namespace L2
open PySem PySem.Spec PyProof.Rows
/-! ### f'{e!r}..': some text -/
section
variable {X : Cx}
end
/-! ### an exception that leaves a def -/
/-- a def's body, not a comprehension's block -/
structure Body (X : Cx) : Prop where
  ex : X.ex = []
  stk : X.stack = X.env :: X.outer
  frm : X.env.frame = some X.env.locals
  fn : ∀ x, X.fn x = true
theorem Body.wish {X : Cx} (b : Body X) (E : Value → Shared → Prop) : Body (X.wish E) := ⟨b.ex, b.stk, b.frm, b.fn⟩
section
variable {X : Cx} {pins : List (Addr × Obj)} {σ : St} {H H' : Hp} {s s' : Shared} {B h'' : Heap}
theorem Body.frs (b : Body X) : frs X.stack = X.env.locals :: X.fs := by
  show List.filterMap _ _ = _
  rw [b.stk]
  simp [b.frm, Cx.fs, L2.frs]
theorem Body.old (b : Body X) (I : Inv X pins σ H s) {c : Addr} {o : Obj} (e : X.s₀.heap.get? c = some o) (hc : c ∉ X.fs) : c ∉ L2.frs X.stack := by
  rw [b.frs]
  intro hm
  rcases List.mem_cons.mp hm with z | z
  · exact absurd (Nat.lt_of_lt_of_le (Heap.lt_size e) I.ok.above) (by rw [z]; exact Nat.lt_irrefl _)
  · exact hc z
theorem Body.cell (b : Body X) (I : Inv X pins σ H s) {x : Str} {c : Addr} (e : X.env.cells.lookup x = some c) : c ∉ L2.frs X.stack := by
  rw [b.frs]
  intro hm
  rcases List.mem_cons.mp hm with z | z
  · exact I.cne x c e z
  · obtain ⟨o, ho, _⟩ := (I.ok.funs.mem (show c ∈ X.outer.filterMap (·.frame) from z)).2
    exact absurd (Nat.lt_of_lt_of_le (Heap.lt_size ho) (I.ok.cab x c (b.fn x) e)) (Nat.lt_irrefl _)
/-- the state behind a call that raised, whatever was noted in the frames -/
theorem lands (b : Body X) (I : Inv X pins σ H s) (un : Un (L2.frs X.stack) [] H H' s.heap s'.heap) (hok : HOk X.prog X.w H' s'.heap) (os : s'.os = s.os) (bare : AllBare s'.gens)
    (hB1 : B.StaysIn s'.heap) (hB2 : B.StaysIn h'') (up : s'.heap.UpToSlots h'') (fr : ∀ c ∈ L2.frs X.stack, ∃ o, s'.heap.get? c = some o ∧ ∀ vs, o.data ≠ .fields vs)
    (pres : ∀ c o, s.heap.get? c = some o → c ∉ L2.frs X.stack → ∃ o', B.get? c = some o') (trk : ∀ a o, H' a = some o → ∃ ob, B.get? a = some ob) : Inv X pins σ H' { s' with heap := h'' } := by
  have I' : Inv X pins σ H' s' := I.call' os un hok bare fun c hc => absurd hc (by simp)
  have same : ∀ c o, s'.heap.get? c = some o → (∃ o', B.get? c = some o') → h''.get? c = some o := fun c o e ⟨o', eb⟩ => by
    have := hB1 c o' eb
    rw [e] at this
    cases this
    exact hB2 c _ eb
  have inB : ∀ c o, X.s₀.heap.get? c = some o → c ∉ X.fs → ∃ o', B.get? c = some o' := fun c o e hc => by
    obtain ⟨o1, e1⟩ := I.base.there c o e (by rw [b.ex]; simp)
    exact pres c o1 e1 (b.old I e hc)
  have fsub : ∀ c ∈ X.fs, c ∈ L2.frs X.stack := fun c hc => by rw [b.frs]; exact List.mem_cons_of_mem _ hc
  refine ⟨I'.ok, I'.os, I'.bare, ⟨fun c o q n hb hx => same c o (I'.base.keep c o q n hb hx) (inB c o q hb), fun c o q n hb hx => ?_, I'.base.free, fun c o q hx => ?_, I'.base.tups, I'.base.frzs, I'.base.tbls⟩, ?_, fun x c e => ?_, I'.free, I'.freeC, fun p hp => ?_, fun a o e => ?_, I'.len⟩
  · obtain ⟨sl, e1⟩ := I'.base.slot c o q n hb hx
    obtain ⟨o1, e2, nd⟩ := fr c (fsub c hb)
    rw [e1] at e2
    cases e2
    obtain ⟨sl', e3⟩ := up c _ e1 nd
    exact ⟨sl', e3⟩
  · by_cases hb : c ∈ X.fs
    · obtain ⟨o1, e2, nd⟩ := fr c (fsub c hb)
      obtain ⟨sl', e3⟩ := up c _ e2 nd
      exact ⟨_, e3⟩
    · obtain ⟨o', eb⟩ := inB c o q hb
      exact ⟨o', hB2 c o' eb⟩
  · obtain ⟨m, hn, hl⟩ := I'.loc
    refine ⟨m, up.ns hn, fun i x v e1 e2 e3 => ?_⟩
    obtain ⟨u, r, lk⟩ := hl i x v e1 e2 e3
    refine ⟨u, r, ?_⟩
    rcases lk with z | ⟨k, c, ec, oc, hc, hd⟩
    · exact .inl z
    · obtain ⟨v0, o0, ho0, _⟩ := I.cell x c ec
      exact .inr ⟨k, c, ec, oc, same c oc hc (pres c o0 ho0 (b.cell I ec)), hd⟩
  · obtain ⟨v1, o1, ho1, hd1⟩ := I'.cell x c e
    obtain ⟨v0, o0, ho0, _⟩ := I.cell x c e
    exact ⟨v1, o1, same c o1 ho1 (pres c o0 ho0 (b.cell I e)), hd1⟩
  · obtain ⟨e, n, ne, nf, d⟩ := I'.pin p hp
    obtain ⟨e0, _⟩ := I.pin p hp
    refine ⟨same p.1 p.2 e (pres p.1 p.2 e0 ?_), n, ne, nf, d⟩
    rw [b.frs]
    intro hm
    rcases List.mem_cons.mp hm with z | z
    · exact ne z
    · exact nf z
  · refine (I'.hok a o e).stay (fun c u hc q => same c u q ?_) (fun _ q => q) fun _ _ q => q
    rcases hc with rfl | hc
    · exact trk _ _ e
    · exact trk _ _ hc
theorem frames_of {l : List Env} {h : Heap} (f : h.FunFrames B l) : ∀ c ∈ L2.frs l, ∃ o, h.get? c = some o ∧ ∀ vs, o.data ≠ .fields vs := fun c hc => (f.mem hc).2
end
section
variable {P : Program} {w : World} {K : PySem.W.Frag} {mg : Str → Option Value} {base : Heap} {N : List Str} {qual : Str} {scope : Scope} {f : Addr} {cd : Value} {A : Around} {outer : List Env} {s₀ : Shared} {H₀ : Hp} {E : XK}
theorem body_cx {CX : CXT} : Body (cxOf CX P w K mg base N qual scope f cd A outer s₀ H₀ E) := ⟨rfl, rfl, rfl, fun _ => rfl⟩
theorem obj_is {X : Cx} {pins : List (Addr × Obj)} {σ : St} {H : Hp} {s : Shared} {a : Addr} {o : HO} (I : Inv X pins σ H s) (e : H a = some o) : ∃ ob, s.heap.get? a = some ob := by
  have x := I.hok a o e
  cases o with
  | lst xs => obtain ⟨_, _, _, _, e⟩ := x; exact ⟨_, e⟩
  | tup xs => obtain ⟨_, _, _, o, e, _⟩ := x; exact ⟨_, e⟩
  | dK kvs => obtain ⟨_, _, _, _, o, _, _, e, _⟩ := x; exact ⟨_, e⟩
  | dT kvs => obtain ⟨_, _, _, _, o, _, _, e, _⟩ := x; exact ⟨_, e⟩
  | set S n => obtain ⟨o, _, _, _, e, _⟩ := x; exact ⟨_, e⟩
  | ins C dx fs => obtain ⟨_, _, _, e, _⟩ := x; exact ⟨_, e⟩
  | own y => exact x
  | xd fs => obtain ⟨_, ⟨_, _, _, e, _⟩, _⟩ := x; exact ⟨_, e⟩
  | rng lo hi => obtain ⟨_, _, _, e⟩ := x; exact ⟨_, e⟩
  | frz ob u => exact ⟨_, x.1⟩
  | tbl ps => exact ⟨_, show s.heap.get? a = some _ from x⟩
  | met f y => exact ⟨_, show s.heap.get? a = some _ from x⟩
  | ext φ => exact x.2.1
/-! ### a def that may raise -/
end
/-! ### raise C(..), C an own class of exceptions without an __init__ of its own -/
section
variable {X : Cx}
end
end L2

set_option Elab.async false
set_option linter.all false
set_option maxRecDepth 100000
set_option maxHeartbeats 4000000
namespace L2
open PySem PySem.Spec PyProof.Rows
/-! ### isinstance of an exception: only its class is known -/
section
variable {prog : Program} {w : World} {A : Around} {E : Value → Shared → Prop} {s : Shared} {K : PySem.W.Frag} {x D : Addr} {name : Str}
structure XCls (K : PySem.W.Frag) (D : Addr) : Prop where
  hg : PySem.W.findIn K (.ref D) "__getattribute__" = some (some (.builtin "BaseException.__getattribute__"))
  hk : PySem.W.findIn K (.ref D) "__getattr__" = some none
  hb : PySem.W.mroIn K D (.type "BaseException") = some true
  ha : PySem.W.findIn K (.ref D) "__class__" = some (some (.builtin "object.__class__"))
  hn : PySem.W.specialIn K (.builtin "object.__class__") "__get__" = some (some (.builtin "getset_descriptor.__get__"))
  ht : PySem.W.takesIn K (.builtin "object.__class__") = some true
  hm : PySem.W.mroIn K D (.type "object") = some true
theorem XCls.hc (c : XCls K D) : (PySem.W.clsIn K D).isSome = true := by
  have q := c.hm
  unfold PySem.W.mroIn at q
  cases h : PySem.W.clsIn K D with
  | none => rw [h] at q; cases q
  | some _ => rfl
noncomputable def HasCls (a : Addr) (cls : Value) (h : Heap) : Prop := ∃ o, h.get? a = some o ∧ o.cls = cls
open PySem.W in
theorem HasCls.type {M : Model} {h : Heap} {cls : Value} (p : HasCls x cls h) : Looks M h (typeOf (.ref x)) cls := by
  obtain ⟨o, h1, h2⟩ := p
  exact h2 ▸ (Looks.ld h1).andThen .now
open PySem.W PySem.Calls Builtin Builtin.ObjectAttr Builtin.Getset_descriptor in
theorem xc_get {R : Result → Shared → Prop} {tp : Value} (X : K.In s.heap) (I : HasCls x (.ref D) s.heap) (hm : mroIn K D (.type "object") = some true)
    (h : R (.ok (.ret (.ref D))) s) : codeAny (model prog w) A (.call (.builtin "getset_descriptor.__get__") ⟨[.builtin "object.__class__", .ref x, tp], []⟩) R s := by
  obtain ⟨hh, g, dr, t, os⟩ := s
  have L0 := I.type (M := model prog w)
  have L1 := looks_mroIn (M := model prog w) X hm
  refine codeAny_call_builtin KF.slot_gs.plain KF.entry_gs (KF.slot_gs.check _ _ _ _ _ _ _ _ KF.type_class (KF.args_gs _ _ _) ?_)
  unfold Builtin.«getset_descriptor.__get__» descrGet
  rw [dga_obj]
  refine wpAny_bind (wpAny_pure ?_)
  unfold descrGetter descrCheckInstance descrNameAndClass isInstance
  simp only [KF.owner_class]
  repeat lk
  refine ⟨Code.quiet_builtin _ (by decide +kernel), codeAny_builtin KF.entry_class ?_⟩
  unfold Builtin.«object.__class__» shownTypeOf
  repeat lk
  exact h
open PySem.W PySem.Calls Builtin Builtin.ObjectAttr in
theorem xc_entry {tk : Tok} {Q : Fin → Shared → Prop} (c : XCls K D) (X : K.In s.heap) (I : HasCls x (.ref D) s.heap) (hq : Q (.done (.ret (.ref D))) s) :
    wpAny (model prog w) A (Builtin.«object.__getattribute__» ⟨[.ref x, .str "__class__" tk], []⟩) Q E s := by
  obtain ⟨hh, gg, d, t, os⟩ := s
  have L0 := I.type (M := model prog w)
  have L1 : Looks (model prog w) hh (find (.ref x) (.ref D) "__class__") (.bind (.builtin "getset_descriptor.__get__") (.builtin "object.__class__")) := by
    have L3 := looks_takesIn (M := model prog w) X c.ht
    exact (looks_findIn X c.ha).andThen ((show Looks (model prog w) hh (getOf (some (.builtin "object.__class__"))) (some (.builtin "getset_descriptor.__get__")) from looks_specialIn X c.hn).andThen ((show Looks (model prog w) hh (dataDescriptor? (some (.builtin "object.__class__")) (some (.builtin "getset_descriptor.__get__"))) (some (.builtin "getset_descriptor.__get__", .builtin "object.__class__")) from L3.andThen .now).andThen (Looks.tag .now)))
  refine wpAny_bind (wpAny_pure (wpAny_bind (wpAny_pure (wpAny_bind (L0.at (wpAny_bind (L1.at ?_)))))))
  show wpAny _ _ (holding [Value.builtin "object.__class__"] (call (.builtin "getset_descriptor.__get__") [.builtin "object.__class__", .ref x, .ref D]) >>= ret) _ _ _
  exact wpAny_bind (wpAny_holding (wpAny_call (xc_get (s := ⟨hh, gg, d, t, os⟩) X I c.hm (wpAny_pure hq))))
open PySem.W PySem.Calls in
theorem xc_check {M : Model} {nameV : Value} {Q : Unit → Shared → Prop} (c : XCls K D) (X : K.In s.heap) (I : HasCls x (.ref D) s.heap) (hq : Q () s) : wpAny M A (checkBuiltinCall "BaseException.__getattribute__" ⟨[.ref x, nameV], []⟩) Q E s := by
  have hk : builtinKind "BaseException.__getattribute__" = some .slot := by decide +kernel
  have hsplit : splitId "BaseException.__getattribute__" = some ("BaseException", "__getattribute__") := by decide +kernel
  have ha := F.args_bexc_ga (.ref x) nameV
  obtain ⟨hh, gg, d, t, os⟩ := s
  have L0 := I.type (M := M)
  have L1 := looks_mroIn (M := M) X c.hb
  have L2 : Looks M hh (isInstance (.ref x) (.type "BaseException")) true := L0.andThen L1
  simp only [checkBuiltinCall, hk, hsplit]
  refine wpAny_bind (L2.at ?_)
  repeat (first | exact hq | wp_step)
open PySem.W PySem.Calls in
theorem xc_class {Q : Option Value → Shared → Prop} (c : XCls K D) (X : K.In s.heap) (I : HasCls x (.ref D) s.heap) (h : Q (some (.ref D)) { s with toks := s.toks + 1 }) : wpAny (model prog w) A (getAttr? (.ref x) "__class__") Q E s := by
  obtain ⟨hh, g, d, t, os⟩ := s
  have L0 := I.type (M := model prog w)
  have L1 := looks_findIn (M := model prog w) X c.hg
  have L2 := looks_findIn (M := model prog w) X c.hk
  unfold getAttr? getAttrBy? getAttrBy
  refine wpAny_bind (wpAny_mkText (wpAny_bind (wpAny_attempt (wpAny_holding (wpAny_bind (L0.at (wpAny_bind (L1.at ?_))))))))
  show wpAny _ _ (getAttrByItsOwn _ _ _ _ _ _) _ _ _
  unfold getAttrByItsOwn
  refine wpAny_bind ((show Looks (model prog w) hh (hookBefore (.ref D)) none from L2).at ?_)
  refine wpAny_bind (wpAny_attempt (wpAny_holding ?_))
  show wpAny _ _ (boundAndCalled _ _ _) _ _ _
  unfold boundAndCalled
  rw [F.excAttr_ValueError.ga.bind]
  refine wpAny_bind (wpAny_pure ?_)
  refine wpAny_call (codeAny_call_builtin F.excAttr_ValueError.ga.plain F.entry_bexc_ga (xc_check (s := ⟨hh, g, d, t + 1, os⟩) c X I (xc_entry (s := ⟨hh, g, d, t + 1, os⟩) c X I ?_)))
  refine handed_on rfl ?_
  exact wpAny_pure h
open PySem.W in
theorem kitx_exc (c : XCls K D) : KitX K (.ref x) (.ref D) (HasCls x (.ref D)) where
  ty := fun _ _ _ I => I.type
  it := fun _ _ X _ => by
    have hcD := c.hc
    unfold clsIn at hcD
    split at hcD
    · rename_i c' d' cd' sl' ho
      intro A' Q' E' s' k q
      unfold isType loadHead
      exact wpAny_bind (wpAny_loadPart (k _ _ (X _ _ ho)) (wpAny_pure q))
    · cases hcD
  ne := fun h tp dd its n sl X htp => by
    have hcD := c.hc
    refine Bool.eq_false_iff.mpr fun q => ?_
    have e : D = tp := Value.ref.inj (beq_iff_eq.mp q)
    subst e
    unfold clsIn at hcD
    split at hcD
    · rename_i c' d' cd' sl' ho
      have z := (X _ _ ho).symm.trans htp
      cases z
    · cases hcD
  ca := fun X I k => xc_class c X I k
end
/-- a caught exception, of which the class is known -/
noncomputable def excO (a : Addr) (cls : Value) : HO := .ext (HasCls a cls)
section
variable {X : Cx}
theorem exc_has {pins : List (Addr × Obj)} {σ : St} {H : Hp} {s : Shared} {a : Addr} {cls : Value} (I : Inv X pins σ H s) (e : H a = some (excO a cls)) : HasCls a cls s.heap := (show ObjOk X.prog X.w H s.heap a (.ext (HasCls a cls)) from I.hok a _ e).1
/-- isinstance(e, C): C an own class -/
theorem call_isexcC {K : PySem.W.Frag} (hK : X.K = K) : CallR X (.builtin "isinstance") (fun xs H Q => ∃ a D C b, xs = [.ref a, .ref C] ∧ H a = some (excO a (.ref D)) ∧ XCls K D ∧ PySem.W.kitOne K (.ref D) (.ref C) = some b ∧ Q (.bl b) H) := by
  subst hK
  intro pins s σ H xs us Q I r h
  obtain ⟨a, D, C, b, rfl, ha, c, e, q⟩ := h
  obtain ⟨u, w', rfl, rx, rw'⟩ := vals2 r
  cases (show w' = Value.ref C from rw')
  cases (show u = Value.ref a from rx)
  exact PySem.W.kia_one (kitx_exc c) I.kIn (exc_has I ha) e (fun z => nomatch z) fun tk => ⟨.bl b, H, I.tok _, rfl, q⟩
/-- isinstance(e, T): T a built-in type -/
theorem call_isexcT {n : String} {K : PySem.W.Frag} (hK : X.K = K) : CallR X (.builtin "isinstance") (fun xs H Q => ∃ a D b, xs = [.ref a, .ty n] ∧ H a = some (excO a (.ref D)) ∧ XCls K D ∧ PySem.W.kitOne K (.ref D) (.type n) = some b ∧ Q (.bl b) H) := by
  subst hK
  intro pins s σ H xs us Q I r h
  obtain ⟨a, D, b, rfl, ha, c, e, q⟩ := h
  obtain ⟨u, w', rfl, rx, rw'⟩ := vals2 r
  cases (show w' = Value.type n from rw')
  cases (show u = Value.ref a from rx)
  exact PySem.W.kia_one (kitx_exc c) I.kIn (exc_has I ha) e (fun z => nomatch z) fun tk => ⟨.bl b, H, I.tok _, rfl, q⟩
end
/-! ### an expression that may raise, at known local names -/
noncomputable def PEX (CX : CXT) (X : Cx) (e : Expr) (t : XK → TE) : Prop :=
  ∀ (E : XK) (xe' : Value → Shared → Prop) (pins : List (Addr × Obj)) (s : Shared) (σ : St) (H : Hp) (Q : VK), (∀ H s e s', Inv X pins σ H s → CX X.stack H s E e s' → xe' e s') → Inv X pins σ H s → t E σ H Q →
    wpAny (model X.prog X.w) X.A (eval e X.env) (EP X pins σ Q) xe' s
section
variable {X : Cx} {CX : CXT} {k : Nat} {f C : Addr} {fd : FuncData} {ps : List Str} {sp : Sp} {dvs : List V} {ds : List Value} {x m : Str} {p pos apos : Pos} {e o : Expr} {es : List Expr} {ta : TE} {t : TA}
theorem run_fnX {xe' : Value → Shared → Prop} {E : XK} {pins : List (Addr × Obj)} {σ : St} {H : Hp} {s : Shared} {Q : VK} {us : List Value} {vs : List V} (F : FnOk X.prog X.w X.K X.mg X.base CX k f fd ps sp) (hr : Room k X.A) (hb : Binds X.K fd ps ds) (hd : Vals dvs ds)
    (hx : ∀ H s e s', Inv X pins σ H s → CX X.stack H s E e s' → xe' e s')
    (I : Inv X pins σ H s) (r : Vals vs us) (h : sp (vs ++ dvs) H Q E) : wpAny (model X.prog X.w) X.A (call (.ref f) us) (EP X pins σ Q) xe' s := by
  have r2 : Vals (vs ++ dvs) (us ++ ds) := r.append hd
  have hl : (us ++ ds).length = ps.length := by rw [← r2.length]; exact F.len _ _ _ _ h
  refine wpAny_call (codeAny_mono (F.run X.A X.stack s H ⟨us, []⟩ (us ++ ds) (vs ++ dvs) Q E hr I.env0 (hb s us I.kIn hl) r2 h) fun r s' hq => ?_)
  cases r with
  | error e => exact hx H s e s' I hq
  | ok fl =>
    cases fl with
    | ret u => exact I.after hq
    | next => exact False.elim hq
    | brk => exact False.elim hq
    | cont => exact False.elim hq
theorem pex_call (F : FnOk X.prog X.w X.K X.mg X.base CX k f fd ps sp) (hr : Room k X.A) (hg : Gl X x) (hm : X.mg x = some (.ref f)) (hk : PySem.W.keepIn X.K (.ref f) = true) (hb : Binds X.K fd ps ds) (hd : Vals dvs ds)
    (ha : PA X.nox (e :: es) t) (hdb : (x == ("__debug__" : Str)) = false := by decide) (he : starEach (e :: es) X.env = (false, eval e X.env) :: starEach es X.env := by rfl) (hpl : (backTo pos (starEach es X.env)).any (·.1) = false := by rfl) :
    PEX CX X (.Call (.Name x p) (e :: es) [] pos) (fun E => tCall sp dvs E t) := by
  intro E xe' pins s σ H Q hx I h
  refine wpAny_Call_Name_kw (ld_glob I hg hm ?_ hdb)
  refine PySem.W.callWith_K (h₀ := X.base) I.ok.mod.kin hk (wpAny_mono (ha pos pins s σ H _ (I.wish _) h) (fun us s1 ⟨vs, H1, I1, r, q⟩ => ⟨I1.unwish.kIn, ?_⟩) fun _ _ z => False.elim z) he hpl
  exact run_fnX F hr hb hd hx I1.unwish r q
end
/-! ### try: e except C as n: suite -/
/-- the suite of an except clause: an exception is at hand, none leaves -/
noncomputable abbrev Cx.hnd (X : Cx) (ea : Addr) : Cx := { X with A := X.A.mark (some (.ref ea)), calm := false, xe := fun _ _ => False }
section
variable {X : Cx} {pins : List (Addr × Obj)} {σ : St} {H : Hp} {s : Shared}
theorem Cx.Ok.hnd (ok : X.Ok) (ea : Addr) : (X.hnd ea).Ok :=
  ⟨ok.mod, ok.kind, ok.glob, ok.blt, ok.above, ok.inj, ok.has, ok.cab, (fun z => nomatch z), ok.frames, ok.stk, ok.exf, ok.bs, ok.bsz, ok.noex, ok.exfs, ok.funs, ok.frf⟩
theorem Inv.hnd (I : Inv X pins σ H s) (ea : Addr) : Inv (X.hnd ea) pins σ H s := ⟨I.ok.hnd ea, I.os, I.bare, I.base, I.loc, I.cell, I.free, I.freeC, I.pin, I.hok, I.len⟩
theorem Inv.unhnd {ea : Addr} (ok : X.Ok) (I : Inv (X.hnd ea) pins σ H s) : Inv X pins σ H s := ⟨ok, I.os, I.bare, I.base, I.loc, I.cell, I.free, I.freeC, I.pin, I.hok, I.len⟩
/-- an object that was there all along is tracked from here on -/
theorem Inv.track (I : Inv X pins σ H s) {a : Addr} {o : HO} (hn : H a = none) (hs : X.s₀.heap.get? a = none) (hl : a ≠ X.env.locals) (hc : ∀ x c, X.env.cells.lookup x = some c → c ≠ a) (hp : ∀ p ∈ X.pn ++ pins, p.1 ≠ a)
    (new : ObjOk X.prog X.w (upd H a o) s.heap a o) : Inv X pins σ (upd H a o) s := by
  have st : ∀ b u, H b = some u → upd H a o b = some u := fun b u e => by rw [upd_ne (ne_of_none e hn)]; exact e
  refine ⟨I.ok, I.os, I.bare, ⟨I.base.keep, I.base.slot, fun b ob e n hx => ?_, I.base.there, fun b xs e => st _ _ (I.base.tups b xs e), fun b ob u e => st _ _ (I.base.frzs b ob u e), fun b ps e => ?_⟩, I.loc, I.cell, ?_, fun x c e => ?_, fun p h => ?_, fun b u e => ?_, I.len⟩
  · rw [upd_ne (fun z => by rw [z, hs] at e; cases e)]; exact I.base.free b ob e n hx
  · obtain ⟨m, e1⟩ := I.base.tbls b ps e
    exact ⟨m, st _ _ e1⟩
  · rw [upd_ne (Ne.symm hl)]; exact I.free
  · rw [upd_ne (hc x c e)]; exact I.freeC x c e
  · obtain ⟨e, n, ne, nf, d⟩ := I.pin p h
    exact ⟨e, by rw [upd_ne (hp p h)]; exact n, ne, nf, d⟩
  · by_cases hb : b = a
    · subst hb
      rw [upd_same] at e
      cases e
      exact new
    · rw [upd_ne hb] at e
      exact (I.hok b u e).stay (fun _ _ _ q => q) (fun c q => st _ _ q) fun c xs q => st _ _ q
/-- the name of an except clause goes -/
theorem goes_ok {M : Model} {A : Around} {E : Value → Shared → Prop} {i : Nat} {n : Str} {pos : Pos} {Q : Unit → Shared → Prop} (I : Inv X pins σ H s) (hN : X.N.Nodup) (hi : X.N[i]? = some n) (hk : X.env.scope.names.lookup n = some .local)
    (h : ∀ s', Inv X pins (σ.set i none) H s' → Q () s') : wpAny M A (do bindName X.env n .none; unbindBehindTheSuite X.env n pos) Q E s := by
  refine wpAny_bind (wpAny_bindName (store_ok (v := .non) I hN hi (.inl hk) rfl (fun s1 I1 => ?_) (.inr hk)))
  unfold unbindBehindTheSuite
  have hcls : (X.env.scope.kind == .class || (X.env.scope.kind == .module && X.env.locals != X.env.globals)) = false := by rw [I.ok.kind]; rfl
  have hiσ : i < σ.length := by rw [I.len]; exact (List.getElem?_eq_some_iff.mp hi).1
  obtain ⟨m, hn, hl⟩ := id I1.loc
  obtain ⟨u, _, lk⟩ := hl i n .non hi (List.getElem?_set_self hiσ) (.inl hk)
  have hm : m n = some u := by
    rcases lk with z | ⟨z | z, _⟩
    · exact z.2
    · rw [show X.env.kindOf n = X.env.scope.names.lookup n from rfl, hk] at z; cases z
    · rw [show X.env.kindOf n = X.env.scope.names.lookup n from rfl, hk] at z; cases z
  obtain ⟨oL, _, _, hoL, _⟩ := id hn
  refine wpAny_onRaise (wpAny_unbindName_local hk hn hm hcls fun h' u' hn' hs => ?_)
  have cne := I1.cne
  refine h _ ⟨I1.ok, I1.os, I1.bare, ⟨fun b o e n hb hx => ?_, fun b o e n hb hx => ?_, I1.base.free, fun b o e hx => ?_, I1.base.tups, I1.base.frzs, I1.base.tbls⟩, ⟨_, hn', fun j y v' e1 e2 e3 => ?_⟩, fun y c e => ?_, I1.free, I1.freeC, fun p hp => ?_, fun b ob e => ?_, by simpa using I.len⟩
  · exact (hs.2 b (Nat.ne_of_lt (Nat.lt_of_lt_of_le (Heap.lt_size e) I.ok.above))).trans (I1.base.keep b o e n hb hx)
  · obtain ⟨sl, e1⟩ := I1.base.slot b o e n hb hx
    exact ⟨sl, (hs.2 b (Nat.ne_of_lt (Nat.lt_of_lt_of_le (Heap.lt_size e) I.ok.above))).trans e1⟩
  · obtain ⟨o', e1⟩ := I1.base.there b o e hx
    exact ⟨o', (hs.2 b (Nat.ne_of_lt (Nat.lt_of_lt_of_le (Heap.lt_size e) I.ok.above))).trans e1⟩
  · by_cases hj : j = i
    · subst hj
      rw [List.getElem?_set_self hiσ] at e2
      cases e2
    · rw [List.getElem?_set_ne (Ne.symm hj)] at e2
      obtain ⟨u', r', q⟩ := hl j y v' e1 (by rw [List.getElem?_set_ne (Ne.symm hj)]; exact e2) e3
      refine ⟨u', r', ?_⟩
      rcases q with ⟨k, e⟩ | ⟨k, c, e, z⟩
      · refine .inl ⟨k, ?_⟩
        have : y ≠ n := fun e => hj (nodup_ix hN e1 (e ▸ hi))
        simp [this, e]
      · exact .inr ⟨k, c, e, z.sameBut hs (cne y c e)⟩
  · obtain ⟨w', z⟩ := I1.cell y c e
    exact ⟨w', z.sameBut hs (cne y c e)⟩
  · obtain ⟨e, n, ne, nf, d⟩ := I1.pin p hp
    exact ⟨(hs.2 p.1 ne).trans e, n, ne, nf, d⟩
  · refine (I1.hok b ob e).stay (fun c w' hc q => (hs.2 c ?_).trans q) (fun _ q => q) fun _ _ q => q
    rintro rfl
    rcases hc with rfl | hc
    · rw [I1.free] at e; cases e
    · rw [I1.free] at hc; cases hc
end
noncomputable def Ends.unset (D : Ends) (i : Nat) : Ends := { nx := fun σ H => D.nx (σ.set i none) H, rt := D.rt, bk := fun σ H => D.bk (σ.set i none) H, ct := fun σ H => D.ct (σ.set i none) H }
section
variable {X : Cx}
end
end L2

set_option Elab.async false
set_option linter.all false
set_option maxRecDepth 100000
set_option maxHeartbeats 4000000
namespace L2
open PySem PySem.Spec PyProof.Rows
/-! ### a body that may raise while the local names stand as at its start -/
noncomputable def PSX (CX : CXT) (X : Cx) (sts : List Stmt) (t : XK → TS) : Prop :=
  ∀ (E : XK) (xe' : Value → Shared → Prop) (pins : List (Addr × Obj)) (s : Shared) (σ : St) (H : Hp) (D : Ends), (∀ H s e s', Inv X pins σ H s → CX X.stack H s E e s' → xe' e s') → Inv X pins σ H s → t E D σ H →
    wpAny (model X.prog X.w) X.A (execs sts X.env) (SP X pins D) xe' s
section
variable {X : Cx} {CX : CXT} {e : Expr} {te : XK → TE} {pos : Pos}
theorem psx_ret (he : PEX CX X e te) : PSX CX X [.Return (some e) pos] (fun E => tRet (te E)) := by
  intro E xe' pins s σ H D hx I h
  exact wpAny_execs_cons (wpAny_Return_some (thn (he E xe' pins s σ H _ hx I h) fun v s1 hsl44 => by obtain ⟨x, H1, I1, r1, q1⟩ := hsl44; exact ⟨x, σ, H1, I1, r1, q1⟩))
end
/-! ### o.m(..) that may raise -/
section
variable {X : Cx} {CX : CXT} {k : Nat} {f C : Addr} {fd : FuncData} {ps : List Str} {sp : Sp} {dvs : List V} {ds : List Value} {x m : Str} {p pos apos : Pos} {e o : Expr} {es : List Expr} {ta : TE} {t : TA}
end
/-! ### try: body except C as n: suite -/
section
variable {X : Cx}
end
end L2

set_option Elab.async false
set_option linter.all false
set_option maxRecDepth 100000
set_option maxHeartbeats 4000000
namespace L2
open PySem PySem.Spec PyProof.Rows
/-! ### comprehensions whose target is any one (a tuple of names) -/
theorem cmp_loop2 {prog : Program} {w : World} {A : Around} {R : Result → Shared → Prop} {s : Shared} {elt iter : Expr} {tg : Expr} {ifs : List Expr} {sc : Scope} {pos : Pos} {it acc : Value} {env : Env} (J : Nat → Shared → Prop)
    (one : ∀ k st, J k st → wpAny (model prog w) A (pyNext it) (fun r s₁ => match r with
      | none => R (.ok .next) s₁
      | some v => wpAny (model prog w) A (letOwnedTupleGo tg it v) (fun _ sg => wpAny (model prog w) A (assign tg env v) (fun _ s₂ =>
          wpAny (model prog w) A (cmpTests ifs env) (fun ok s₃ =>
            if ok = true then wpAny (model prog w) A (eval elt env) (fun y s₄ => wpAny (model prog w) A (call (.builtin "list.append") [acc, y]) (fun _ s₅ => ∃ m, m < k ∧ J m s₅) (fun _ _ => False) s₄) (fun _ _ => False) s₃
            else ∃ m, m < k ∧ J m s₃) (fun _ _ => False) s₂) (fun _ _ => False) sg) (fun _ _ => False) s₁) (fun _ _ => False) st)
    (k0 : Nat) (h0 : J k0 s) : codeAny (model prog w) A (.compLoop (.ListComp elt [⟨tg, iter, ifs, 0⟩] sc pos) 0 it acc env) R s := by
  refine codeAny_loop rfl J (fun k st hk => ?_) k0 h0
  show wpAny _ A ((compTurn (.ListComp elt [⟨tg, iter, ifs, 0⟩] sc pos) 0 it acc env).onRaise (fun y => do noteFrame y env; theTreesLotGoes y)) _ _ st
  refine wpAny_noted ?_
  rw [compTurn_list]
  refine wpAny_bind (wpAny_standAt (wpAny_bind (wpAny_mono (one k st hk) (fun r s₁ h₁ => ?_) fun _ _ z => z.elim)))
  cases r with
  | none => exact wpAny_pure h₁
  | some v =>
    refine wpAny_bind (wpAny_mono h₁ (fun _ sg hg => ?_) fun _ _ z => z.elim)
    refine wpAny_bind (wpAny_mono hg (fun _ s₂ h₂ => ?_) fun _ _ z => z.elim)
    refine wpAny_bind (wpAny_mono h₂ (fun ok s₃ h₃ => ?_) fun _ _ z => z.elim)
    cases ok with
    | false => exact wpAny_pure ⟨rfl, h₃⟩
    | true =>
      refine wpAny_bind (wpAny_bind (wpAny_mono h₃ (fun y s₄ h₄ => ?_) fun _ _ z => z.elim))
      exact wpAny_bind (wpAny_mono h₄ (fun _ s₅ h₅ => wpAny_pure (wpAny_pure ⟨rfl, h₅⟩)) fun _ _ z => z.elim)


structure CompSc2 (scX sc : Scope) (NX : List Str) (xs : List Str) (fv : List Str) (js : List Nat) : Prop where
  kind : sc.kind = .function
  kindX : scX.kind = .function
  cell : ∀ y ∈ sc.names, y.2 ≠ .cell
  own : ∀ x ∈ xs, sc.names.lookup x = some .local
  names : ∀ y ∈ sc.names, y.2 = .local → sc.names.lookup y.1 = some .local
  free : ∀ y ∈ sc.names, y.2 = .free → scX.names.lookup y.1 = some .cell
  nd : (xs ++ fv).Nodup
  at' : js.map (fun j => NX[j]?) = fv.map some
  fr : ∀ y ∈ fv, sc.names.lookup y = some .free
noncomputable abbrev xc2 (X : Cx) (sc : Scope) (xs : List Str) (fv : List Str) (C : Addr) (s0 : Shared) (H0 : Hp) (ex : List Addr) : Cx :=
  { X with N := xs ++ fv, s₀ := s0, H₀ := H0, env := compEnvC sc (clOf X.env.cells sc.names []) C X.env, outer := X.stack, ex := ex, fn := fun _ => false, pn := [], xe := fun _ _ => False }
noncomputable def tStep2 (k : Nat) (js : List Nat) (g : TG) (tt : TT) (te : TE) (σ : St) (ys : List V) (N : List V → Hp → Prop) (x : V) (H' : Hp) : Prop :=
  ∀ os : List (Option V), os.length = k → g x (os ++ pick js σ) H' fun σ6 H6 => (∃ os' : List (Option V), os'.length = k ∧ σ6 = os' ++ pick js σ) ∧
    tt σ6 H6 fun b H2 => if b = true then te σ6 H2 fun y H3 => ys.length < sizeLine ∧ N (ys ++ [y]) H3 else N ys H2
noncomputable def tCompB2 (J : It) (k : Nat) (js : List Nat) (g : TG) (tt : TT) (te : TE) : TE := fun σ H1 Q => ∃ W : Nat → Nat → List V → Hp → Prop, (∃ m, W 0 m [] H1) ∧ ∀ i m ys H, W i m ys H →
  (J.stop i H ∧ ∀ p, H p = none → Q (.ref p) (upd H p (.lst ys))) ∨
  (J.go i H ∧ ∃ N : List V → Hp → Prop, (∀ ys' H', N ys' H' → ∃ m', m' < m ∧ W (i + 1) m' ys' H') ∧ ∀ x H', J.yld i H x H' → tStep2 k js g tt te σ ys N x H')
noncomputable def tComp2 (wi : TI) (k : Nat) (js : List Nat) (g : TG) (tt : TT) (te : TE) : TE := fun σ H Q => wi σ H fun J H1 => tCompB2 J k js g tt te σ H1 Q
section
variable {X : Cx} {pins : List (Addr × Obj)} {σ : St} {H2 : Hp} {s2 : Shared} {elt iter tg : Expr} {xs : List Str} {ifs : List Expr} {sc scX : Scope} {pos : Pos} {fv : List Str} {js : List Nat} {g : TG} {tt : TT} {te : TE}

theorem comp_core2 (S : CompSc2 scX sc X.N xs fv js) (hsx : X.env.scope = scX) (hcalm : X.calm = true) (hgg : ∀ C s0 H0 ex, PG (xc2 X sc xs fv C s0 H0 ex) tg g)
    (ht : ∀ C s0 H0 ex, PIf (xc2 X sc xs fv C s0 H0 ex) ifs tt) (he : ∀ C s0 H0 ex, PE (xc2 X sc xs fv C s0 H0 ex) elt te)
    {it : Addr} {fp : List Addr} {tn : Nat → Heap → Prop} {J : It} (I2 : Inv X pins σ H2 s2) (T : Turn X.prog X.w X.K tg J fp it tn) (st2 : tn 0 s2.heap) (f2 : ∀ b ∈ fp, FpOk X pins H2 b)
    {Q : VK} {W : Nat → Nat → List V → Hp → Prop} (w0 : ∃ m, W 0 m [] H2)
    (step : ∀ i m ys H, W i m ys H → (J.stop i H ∧ ∀ p, H p = none → Q (.ref p) (upd H p (.lst ys))) ∨
      (J.go i H ∧ ∃ N : List V → Hp → Prop, (∀ ys' H', N ys' H' → ∃ m', m' < m ∧ W (i + 1) m' ys' H') ∧
        ∀ x H', J.yld i H x H' → tStep2 xs.length js g tt te σ ys N x H'))
    {RR : Value → Addr → Result → Shared → Prop} {E : Value → Shared → Prop}
    (fin : ∀ (D C : Addr) (s' : Shared) (H' : Hp), Inv X pins σ H' s' → Q (.ref D) H' → (∃ m, s'.heap.Ns C m) → FpOk X pins H' C → RR (.ref D) C (.ok .next) s') :
    wpAny (model X.prog X.w) X.A (newList []) (fun acc s₃ => wpAny (model X.prog X.w) X.A (newFunctionEnv sc X.env.globals (clOf X.env.cells sc.names []) [] X.env.qual none .none (some X.env)) (fun cenv s₄ =>
      codeAny (model X.prog X.w) X.A (.compStart (.ListComp elt [⟨tg, iter, ifs, 0⟩] sc pos) 0 (.ref it) acc { cenv with scope := relabel sc X.env }) (RR acc cenv.locals) s₄) E s₃) E s2 := by
  have hfree : ∀ y ∈ sc.names, y.2 = .free → ∃ c, X.env.cells.lookup y.1 = some c := fun y hy hf => I2.ok.has y.1 (.inl (by show X.env.scope.names.lookup y.1 = _; rw [hsx]; exact S.free y hy hf))
  obtain ⟨cl1, _, cl3⟩ := clOf_look (cells := X.env.cells) sc.names [] hfree (fun y c h => by simp at h)
  refine wpAny_newObj_type (wpAny_newFunctionEnv S.cell (by intro y hy; simp at hy) (fun h₁ hns₁ hsb₁ => ?_) S.kind)
  dsimp only at hns₁ hsb₁ ⊢
  generalize hG : s2.heap.push { cls := .type "list", dict := none, data := .seq ([] : List Value).toArray } = G at hns₁ hsb₁ ⊢
  have hGz : G.objs.size = s2.heap.objs.size + 1 := by rw [← hG, Heap.size_push]
  have upG : ∀ b o, s2.heap.get? b = some o → G.get? b = some o := fun b o e => hG ▸ Heap.get?_push_of_some _ e
  have upH : ∀ b o, G.get? b = some o → h₁.get? b = some o := fun b o e => hsb₁.extBut b o (Nat.ne_of_lt (Heap.lt_size e)) (Heap.get?_push_of_some _ e)
  have ltD : ∀ b o, s2.heap.get? b = some o → b ≠ s2.heap.objs.size := fun b o e => Nat.ne_of_lt (Heap.lt_size e)
  have fpo : ∀ b ∈ fp, ∃ o, s2.heap.get? b = some o := fun b hb => by obtain ⟨o, e, _⟩ := T.obj 0 _ st2 b hb; exact ⟨o, e⟩
  have fpD : ∀ b ∈ fp, b ≠ s2.heap.objs.size := fun b hb => by obtain ⟨o, e⟩ := fpo b hb; exact ltD b o e
  have fpC : ∀ b ∈ fp, b ≠ G.objs.size := fun b hb => by obtain ⟨o, e⟩ := fpo b hb; exact Nat.ne_of_lt (Heap.lt_size (upG b o e))
  have cellO : ∀ y c, (clOf X.env.cells sc.names []).lookup y = some c → ∃ v, s2.heap.IsCell c v := fun y c e => I2.cell y c (cl1 y c e)
  have cellD : ∀ y c, (clOf X.env.cells sc.names []).lookup y = some c → c ≠ s2.heap.objs.size := fun y c e => by obtain ⟨v, q⟩ := cellO y c e; exact Nat.ne_of_lt q.lt
  have Dfs : s2.heap.objs.size ∉ frs X.stack := fun hb => by
    rcases List.mem_cons.mp (I2.stkSub _ hb) with z | z
    · exact absurd I2.lt (by rw [← z]; exact Nat.lt_irrefl _)
    · exact I2.nofs (Nat.le_refl _) z
  have fpfs : ∀ b ∈ fp, b ∉ frs X.stack := fun b hb hz => by
    obtain ⟨_, f1, f2', _⟩ := f2 b hb
    rcases List.mem_cons.mp (I2.stkSub _ hz) with z | z
    · exact f1 z
    · exact f2' z
  have HD : H2 s2.heap.objs.size = none := I2.hok.fresh (Nat.le_refl _)
  have HC : H2 G.objs.size = none := I2.hok.fresh (by rw [hGz]; exact Nat.le_succ _)
  have DC : s2.heap.objs.size ≠ G.objs.size := by rw [hGz]; exact Nat.ne_of_lt (Nat.lt_succ_self _)
  -- the block's context is right
  have okC : Cx.Ok (xc2 X sc xs fv G.objs.size { s2 with heap := G } H2 (s2.heap.objs.size :: fp)) := by
    refine ⟨I2.ok.mod, S.kind, I2.ok.glob, I2.ok.blt, Nat.le_refl _, fun y z c h1 h2 => I2.ok.inj y z c (cl1 _ _ h1) (cl1 _ _ h2), fun y hy => ?_, fun y c hfn _ => (by cases hfn), I2.ok.hd, I2.ok.frames, .inl rfl, fun b hb => ?_, fun b o e => ?_, ?_, fun b o e hb => ?_, fun b hb => ?_, ?_, I2.stkFree⟩
    · exact Option.isSome_iff_exists.mp (cl3 y (relabel_back S.cell hy))
    · rcases List.mem_cons.mp hb with z | z
      · subst z; exact ⟨DC, cellD⟩
      · refine ⟨fpC b z, fun y c e => ?_⟩
        obtain ⟨_, _, _, _, f4, _⟩ := f2 b z
        exact f4 y c (cl1 y c e)
    · exact ⟨upG b o (I2.bs b o e).1, (I2.bs b o e).2⟩
    · show X.base.objs.size ≤ G.objs.size
      rw [hGz]; exact Nat.le_succ_of_le (Nat.le_trans I2.ok.bsz I2.sz)
    · rcases List.mem_cons.mp hb with z | z
      · exact ltD b o (I2.bk b o e) z
      · obtain ⟨_, _, _, f3, _⟩ := f2 b z
        rcases f3 with q | q
        · exact I2.ok.noex b o e q
        · exact absurd (Nat.lt_of_lt_of_le (Heap.lt_size e) (Nat.le_trans I2.ok.bsz q)) (Nat.lt_irrefl _)
    · rcases List.mem_cons.mp hb with z | z
      · subst z; exact Dfs
      · exact fpfs b z
    · exact (I2.stack).of_keeps fun b o e _ => ⟨o, upG b o e, rfl⟩
  have lenC : ∀ os : List (Option V), os.length = xs.length → (os ++ pick js σ).length = (xs ++ fv).length := fun os ho => by
    have := congrArg List.length S.at'
    simp only [List.length_map] at this
    simp [pick, this, ho]
  have hacc : h₁.get? s2.heap.objs.size = some { cls := .type "list", dict := none, data := .seq ([] : List Value).toArray } := upH _ _ (hG ▸ Heap.get?_push_size _ rfl)
  have I4 : Inv (xc2 X sc xs fv G.objs.size { s2 with heap := G } H2 (s2.heap.objs.size :: fp)) [(s2.heap.objs.size, { cls := .type "list", dict := none, data := .seq ([] : List Value).toArray })] (xs.map (fun _ => none) ++ pick js σ) H2 { s2 with heap := h₁, toks := s2.toks + ([] : List (Str × Value)).length } := by
    refine ⟨okC, rfl, I2.bare, Un.kept upH, ⟨_, hns₁, fun i y v e1 e2 e3 => ?_⟩, fun y c e => ?_, HC, fun y c e => I2.freeC y c (cl1 y c e), fun p hp => ?_, I2.hok.kept fun b u e => upH b u (upG b u e), lenC _ (by simp)⟩
    · by_cases hix : i < xs.length
      · have : (xs.map (fun _ => (none : Option V)) ++ pick js σ)[i]? = some none := by
          rw [List.getElem?_append_left (by simpa using hix), List.getElem?_map, List.getElem?_eq_getElem hix]; rfl
        rw [this] at e2
        cases e2
      · obtain ⟨i', rfl⟩ : ∃ i', i = xs.length + i' := ⟨i - xs.length, by omega⟩
        have e1' : fv[i']? = some y := by
          have e1a : (xs ++ fv)[xs.length + i']? = some y := e1
          rw [List.getElem?_append_right (by omega), Nat.add_sub_cancel_left] at e1a
          exact e1a
        have e2' : (pick js σ)[i']? = some (some v) := by
          have e2a := e2
          rw [List.getElem?_append_right (by simp), List.length_map, Nat.add_sub_cancel_left] at e2a
          exact e2a
        have q := congrArg (fun l => l[i']?) S.at'
        simp only [List.getElem?_map, e1', Option.map_some] at q
        cases hj : js[i']? with
        | none => rw [hj] at q; cases q
        | some j =>
          rw [hj] at q
          have hj' : X.N[j]? = some y := Option.some.inj q
          unfold pick at e2'
          rw [List.getElem?_map, hj] at e2'
          have e2'' : (σ[j]?).getD none = some v := Option.some.inj e2'
          have e2b : σ[j]? = some (some v) := by
            cases hh : σ[j]? with
            | none => rw [hh] at e2''; cases e2''
            | some o => rw [hh] at e2''; exact congrArg some e2''
          have hm : y ∈ fv := List.mem_of_getElem? e1'
          have hcX : scX.names.lookup y = some .cell := S.free (y, .free) (PySem.mem_of_lookup (S.fr y hm)) rfl
          have kX : X.env.kindOf y = some .cell := by show X.env.scope.names.lookup y = _; rw [hsx]; exact hcX
          obtain ⟨m, hn, hl⟩ := I2.loc
          obtain ⟨u, r, lk⟩ := hl j y v hj' e2b (.inr (.inl kX))
          refine ⟨u, r, ?_⟩
          rcases lk with ⟨k, _⟩ | ⟨_, c, ec, z⟩
          · rw [kX] at k; cases k
          · refine .inr ⟨.inl (relabel_free (by rw [hsx]; exact S.kindX) (S.fr y hm) kX), c, ?_, ?_⟩
            · obtain ⟨c', ec'⟩ := Option.isSome_iff_exists.mp (cl3 y (PySem.mem_of_lookup (S.fr y hm)))
              have := cl1 y c' ec'
              rw [ec] at this; cases this
              exact ec'
            · obtain ⟨o, ho, hd⟩ := z
              exact ⟨o, upH c o (upG c o ho), hd⟩
    · obtain ⟨v, o, ho, hd⟩ := cellO y c e
      exact ⟨v, o, upH c o (upG c o ho), hd⟩
    · have hp' : p = (s2.heap.objs.size, { cls := .type "list", dict := none, data := .seq ([] : List Value).toArray }) := by simpa using hp
      subst hp'
      exact ⟨hacc, HD, DC, Dfs, fun v z => by cases z⟩
  have loop : codeAny (model X.prog X.w) X.A (.compLoop (.ListComp elt [⟨tg, iter, ifs, 0⟩] sc pos) 0 (.ref it) (.ref s2.heap.objs.size) (compEnvC sc (clOf X.env.cells sc.names []) G.objs.size X.env)) (RR (.ref s2.heap.objs.size) G.objs.size) { s2 with heap := h₁, toks := s2.toks + ([] : List (Str × Value)).length } := by
    obtain ⟨m0, w0⟩ := w0
    have fok : ∀ {H' : Hp} {o : Obj}, (∀ b ∈ fp, H' b = none) → ∀ b ∈ fp, FpOk (xc2 X sc xs fv G.objs.size { s2 with heap := G } H2 (s2.heap.objs.size :: fp)) [(s2.heap.objs.size, o)] H' b := fun {H' o} hn b hb => by
      refine ⟨hn b hb, fpC b hb, fpfs b hb, .inl (List.mem_cons_of_mem _ hb), fun y c e => ?_, fun p hp => ?_⟩
      · obtain ⟨_, _, _, _, f4, _⟩ := f2 b hb
        exact f4 y c (cl1 y c e)
      · have hp' : p = (s2.heap.objs.size, o) := by simpa using hp
        subst hp'
        exact (fpD b hb).symm
    refine cmp_loop2 (fun k st => ∃ (i : Nat) (ys : List V) (its : List Value) (n : Nat) (os : List (Option V)) (H' : Hp), os.length = xs.length ∧ Inv (xc2 X sc xs fv G.objs.size { s2 with heap := G } H2 (s2.heap.objs.size :: fp)) [(s2.heap.objs.size, { cls := .type "list", data := .seq its.toArray n })] (os ++ pick js σ) H' st ∧
      Vals ys its ∧ ys.length ≤ sizeLine ∧ tn i st.heap ∧ (∀ b ∈ fp, H' b = none) ∧ W i k ys H') ?_ m0
      ⟨0, [], [], _, xs.map (fun _ => none), H2, by simp, I4, .nil, Nat.zero_le _, T.keep _ _ _ st2 fun b _ o e => upH b o (upG b o e), fun b hb => (f2 b hb).1, w0⟩
    rintro k s3 ⟨i, ys, its, n, os, H3, hos, I3, rv, hz, st3, fr3, w3⟩
    rcases step i k ys H3 w3 with ⟨stop, q⟩ | ⟨go, N, hN, hgo⟩
    · refine thn (T.done (xc2 X sc xs fv G.objs.size { s2 with heap := G } H2 (s2.heap.objs.size :: fp)) rfl rfl rfl hcalm i _ s3 _ H3 _ I3 (fok fr3) st3 stop) fun r s4 hsl45 => ?_
      obtain ⟨hr, I4⟩ := hsl45
      subst hr
      obtain ⟨pD, pn, _, _, _⟩ := I4.pin _ (List.mem_append_right _ List.mem_cons_self)
      have B := I4.base
      have nD : ∀ b o, s2.heap.get? b = some o → b ∉ fp → b ∉ s2.heap.objs.size :: fp := fun b o e hx hm => (List.mem_cons.mp hm).elim (ltD b o e) hx
      have neH : ∀ b u, H2 b = some u → b ≠ s2.heap.objs.size := fun b u e z => by rw [z, HD] at e; cases e
      have JX : Inv X pins σ (upd H3 s2.heap.objs.size (.lst ys)) s4 := by
        refine I2.call' (ch := fp) I4.os ⟨fun b o e hn hb hx => B.keep b o (upG b o e) hn hb (nD b o e hx), fun b o e hn hb hx => B.slot b o (upG b o e) hn hb (nD b o e hx), fun b o e hn hx => ?_, fun b o e hx => B.there b o (upG b o e) (nD b o e hx), fun b xs e => ?_, fun b o u e => ?_, fun b ps e => ?_⟩ (fun b u e => ?_) I4.bare fun b hb => ?_
        · rw [upd_ne (ltD b o e)]; exact B.free b o (upG b o e) hn (nD b o e hx)
        · rw [upd_ne (neH b _ e)]; exact B.tups b xs e
        · rw [upd_ne (neH b _ e)]; exact B.frzs b o u e
        · rw [upd_ne (neH b _ e)]; exact B.tbls b ps e
        · by_cases hb : b = s2.heap.objs.size
          · subst hb
            rw [upd_same] at e; cases e
            exact ⟨hz, its, n, rv, pD⟩
          · rw [upd_ne hb] at e
            exact (I4.hok b u e).stay (fun _ _ _ z => z) (fun c z => by rw [upd_ne (ne_of_none z pn)]; exact z) fun c xs z => by rw [upd_ne (ne_of_none z pn)]; exact z
        · obtain ⟨_, f1, _, f3, f4, f5⟩ := f2 b hb
          exact ⟨f3, f1, f4, f5⟩
      refine fin _ _ s4 _ JX (q _ pn) (by obtain ⟨m, hm, _⟩ := I4.loc; exact ⟨m, hm⟩) (I2.fpOk (by rw [hGz]; exact Nat.le_succ _) ?_)
      rw [upd_ne DC.symm]; exact I4.free
    · refine thn (T.item (xc2 X sc xs fv G.objs.size { s2 with heap := G } H2 (s2.heap.objs.size :: fp)) rfl rfl rfl hcalm i _ s3 _ H3 _ I3 (fok fr3) st3 go) fun r s4 hsl46 => ?_
      obtain ⟨u, hr, h4⟩ := hsl46
      subst hr
      refine thn h4 fun _ s5 hsl47 => ?_
      obtain ⟨y, H5, I5, r5, y5, st5, fr5⟩ := hsl47
      have I5' := I5.pinned (fok fr5) (T.obj _ _ st5)
      refine thn (hgg _ _ _ _ _ s5 _ H5 y u _ I5' r5 (hgo y _ y5 os hos)) fun _ s6 hsl48 => ?_
      obtain ⟨σ6, H6, I6, ⟨os', hos', eσ⟩, q6⟩ := hsl48
      subst eσ
      refine thn (ht _ _ _ _ _ s6 _ _ _ I6 q6) fun b s7 hsl49 => ?_
      obtain ⟨H7, I7, q7⟩ := hsl49
      cases b with
      | false =>
        rw [if_neg Bool.false_ne_true] at q7 ⊢
        obtain ⟨m', hm, w7⟩ := hN ys H7 q7
        exact ⟨m', hm, i + 1, ys, its, n, os', H7, hos', I7.unpinned, rv, hz, T.keep _ _ _ st5 fun b hb o e => (I7.pin (b, o) (List.mem_append_right _ (List.mem_append_right _ (mem_pinsAt hb e)))).1, fun b hb => by
          obtain ⟨o, e, d⟩ := T.obj _ _ st5 b hb
          exact (I7.pin (b, o) (List.mem_append_right _ (List.mem_append_right _ (mem_pinsAt hb e)))).2.1, w7⟩
      | true =>
        rw [if_pos rfl] at q7 ⊢
        refine thn (he _ _ _ _ _ s7 _ H7 _ I7 q7) fun u8 s8 hsl50 => ?_
        obtain ⟨y8, H8, I8, r8, hl8, q8⟩ := hsl50
        obtain ⟨m', hm, w8⟩ := hN _ H8 q8
        obtain ⟨pD, pn, pC, pf, _⟩ := I8.pin _ (List.mem_append_right _ (List.mem_append_left _ List.mem_cons_self))
        refine wpAny_list_append_plain (items := its.toArray) ⟨n, pD⟩ (fun h9 hl9 sb9 => ?_) (by rw [List.size_toArray, ← rv.length]; exact Nat.le_of_lt hl8)
        have pinF : ∀ p ∈ pinsAt fp s5.heap, p ∈ [(s2.heap.objs.size, ({ cls := .type "list", data := .seq its.toArray n } : Obj))] ++ pinsAt fp s5.heap := fun p hp => List.mem_append_right _ hp
        have I8a := I8.pins_of (pins' := pinsAt fp s5.heap) fun p hp => I8.pin p (List.mem_append_right _ (pinF p hp))
        have I9 := I8a.turned (it := s2.heap.objs.size) (h' := h9) (t' := s8.toks) (fun b o hb e => (sb9.2 b hb).trans e) pn DC (.inl List.mem_cons_self) (fun y c e => cellD y c e) fun p hp => fpD p.1 (of_pinsAt (by simpa using hp)).1
        obtain ⟨n9, e9⟩ := hl9
        have e9' : h9.get? s2.heap.objs.size = some { cls := .type "list", data := .seq (its ++ [u8]).toArray n9 } := by
          rw [e9, show (its ++ [u8]).toArray = its.toArray.push u8 by simp]
        refine ⟨m', hm, i + 1, ys ++ [y8], its ++ [u8], n9, os', H8, hos', I9.pins_of fun p hp => ?_, rv.append (.cons r8 .nil), by rw [List.length_append]; exact hl8, T.keep _ _ _ st5 fun b hb o e => (I9.pin (b, o) (List.mem_append_right _ (mem_pinsAt hb e))).1, fun b hb => ?_, w8⟩
        · have hp' : p = (s2.heap.objs.size, { cls := .type "list", data := .seq (its ++ [u8]).toArray n9 }) := by simpa using hp
          subst hp'
          exact ⟨e9', pn, DC, pf, fun v z => by cases z⟩
        · obtain ⟨o, e, d⟩ := T.obj _ _ st5 b hb
          exact (I9.pin (b, o) (List.mem_append_right _ (mem_pinsAt hb e))).2.1
  exact codeAny_compStart_list loop (T.self _ 0 _ _ _ (T.keep _ _ _ st2 fun b _ o e => upH b o (upG b o e)) loop)

theorem pe_comp2 {wi : TI} (scX : Scope) (NX fv : List Str) (js : List Nat) (hNX : X.N = NX) (S : CompSc2 scX sc NX xs fv js) (hsx : X.env.scope = scX) (hcalm : X.calm = true) (hi : PI X tg iter wi) (hgg : ∀ C s0 H0 ex, PG (xc2 X sc xs fv C s0 H0 ex) tg g)
    (ht : ∀ C s0 H0 ex, PIf (xc2 X sc xs fv C s0 H0 ex) ifs tt) (he : ∀ C s0 H0 ex, PE (xc2 X sc xs fv C s0 H0 ex) elt te)
    (hs : ∀ v, foldedSetIterable iter X.env v = pure v := by intro _; rfl) : PE X (.ListComp elt [⟨tg, iter, ifs, 0⟩] sc pos) (tComp2 wi xs.length js g tt te) := by
  intro pins s σ H Q I h
  rw [← hNX] at S
  have hfree : ∀ y ∈ sc.names, y.2 = .free → ∃ c, X.env.cells.lookup y.1 = some c := fun y hy hf => I.ok.has y.1 (.inl (by show X.env.scope.names.lookup y.1 = _; rw [hsx]; exact S.free y hy hf))
  rw [eval_ListComp]
  refine wpAny_comprehension_free (use := none) rfl hs (closure_eq hfree) S.kind S.names (thn (hi pins s σ H _ I h) fun v s1 h1 => thn h1 fun itv s2 h2 => ?_)
  obtain ⟨it, fp, tn, J, H2, e, I2, T, st2, f2, W, w0, step⟩ := h2
  subst e
  refine comp_core2 (RR := fun acc C => compPost (model X.prog X.w) X.A X.xe none (EP X pins σ Q) acc C) S hsx hcalm hgg ht he I2 T st2 f2 w0 step fun D C s' H' I' q hsl51 hC => ?_
  obtain ⟨m, hm⟩ := hsl51
  obtain ⟨f0, f1, _, f3, f4, f5⟩ := hC
  exact ⟨m, hm, fun h' sb => ⟨.ref D, H', I'.turned (t' := s'.toks) (fun b o hb e => (sb.2 b hb).trans e) f0 f1 f3 f4 f5, rfl, q⟩⟩

end
theorem CompSc.two {scX sc : Scope} {NX : List Str} {x : Str} {fv : List Str} {js : List Nat} (S : CompSc scX sc NX x fv js) : CompSc2 scX sc NX [x] fv js :=
  ⟨S.kind, S.kindX, S.cell, fun y hy => by rw [List.mem_singleton.mp hy]; exact S.own, S.names, S.free, S.nd, S.at', S.fr⟩
section
variable {X : Cx} {pins : List (Addr × Obj)} {σ : St} {H2 : Hp} {s2 : Shared} {elt iter : Expr} {x : Str} {px : Pos} {ifs : List Expr} {sc scX : Scope} {pos : Pos} {fv : List Str} {js : List Nat} {tt : TT} {te : TE}
theorem comp_core (S : CompSc scX sc X.N x fv js) (hsx : X.env.scope = scX) (hcalm : X.calm = true)
    (ht : ∀ C s0 H0 ex, PIf (xc X sc x fv C s0 H0 ex) ifs tt) (he : ∀ C s0 H0 ex, PE (xc X sc x fv C s0 H0 ex) elt te)
    {it : Addr} {fp : List Addr} {tn : Nat → Heap → Prop} {J : It} (I2 : Inv X pins σ H2 s2) (T : Turn X.prog X.w X.K (.Name x px) J fp it tn) (st2 : tn 0 s2.heap) (f2 : ∀ b ∈ fp, FpOk X pins H2 b)
    {Q : VK} {W : Nat → Nat → List V → Hp → Prop} (w0 : ∃ m, W 0 m [] H2)
    (step : ∀ i m ys H, W i m ys H → (J.stop i H ∧ ∀ p, H p = none → Q (.ref p) (upd H p (.lst ys))) ∨
      (J.go i H ∧ ∃ N : List V → Hp → Prop, (∀ ys' H', N ys' H' → ∃ m', m' < m ∧ W (i + 1) m' ys' H') ∧
        ∀ x H', J.yld i H x H' → tt (some x :: pick js σ) H' fun b H2 => if b = true then te (some x :: pick js σ) H2 fun y H3 => ys.length < sizeLine ∧ N (ys ++ [y]) H3 else N ys H2))
    {RR : Value → Addr → Result → Shared → Prop} {E : Value → Shared → Prop}
    (fin : ∀ (D C : Addr) (s' : Shared) (H' : Hp), Inv X pins σ H' s' → Q (.ref D) H' → (∃ m, s'.heap.Ns C m) → FpOk X pins H' C → RR (.ref D) C (.ok .next) s') :
    wpAny (model X.prog X.w) X.A (newList []) (fun acc s₃ => wpAny (model X.prog X.w) X.A (newFunctionEnv sc X.env.globals (clOf X.env.cells sc.names []) [] X.env.qual none .none (some X.env)) (fun cenv s₄ =>
      codeAny (model X.prog X.w) X.A (.compStart (.ListComp elt [⟨.Name x px, iter, ifs, 0⟩] sc pos) 0 (.ref it) acc { cenv with scope := relabel sc X.env }) (RR acc cenv.locals) s₄) E s₃) E s2 := by
  refine comp_core2 (xs := [x]) (g := gName 0) (RR := RR) S.two hsx hcalm (fun C s0 H0 ex => pg_name S.nd rfl (.inl (lookup_relabel_local S.own)) (.inr (lookup_relabel_local S.own))) ht he I2 T st2 f2 w0 (fun i m ys H w => ?_) fin
  rcases step i m ys H w with h | ⟨go, N, hN, st⟩
  · exact .inl h
  · refine .inr ⟨go, N, hN, fun y H' hy os hos => ?_⟩
    obtain ⟨o, rfl⟩ := List.length_eq_one_iff.mp hos
    exact ⟨⟨[some y], rfl, rfl⟩, st y H' hy⟩
theorem pe_comp {wi : TI} (scX : Scope) (NX fv : List Str) (js : List Nat) (hNX : X.N = NX) (S : CompSc scX sc NX x fv js) (hsx : X.env.scope = scX) (hcalm : X.calm = true) (hi : PI X (.Name x px) iter wi)
    (ht : ∀ C s0 H0 ex, PIf (xc X sc x fv C s0 H0 ex) ifs tt) (he : ∀ C s0 H0 ex, PE (xc X sc x fv C s0 H0 ex) elt te)
    (hs : ∀ v, foldedSetIterable iter X.env v = pure v := by intro _; rfl) : PE X (.ListComp elt [⟨.Name x px, iter, ifs, 0⟩] sc pos) (tComp wi js tt te) := by
  intro pins s σ H Q I h
  rw [← hNX] at S
  have hfree : ∀ y ∈ sc.names, y.2 = .free → ∃ c, X.env.cells.lookup y.1 = some c := fun y hy hf => I.ok.has y.1 (.inl (by show X.env.scope.names.lookup y.1 = _; rw [hsx]; exact S.free y hy hf))
  rw [eval_ListComp]
  refine wpAny_comprehension_free (use := none) rfl hs (closure_eq hfree) S.kind S.names (thn (hi pins s σ H _ I h) fun v s1 h1 => thn h1 fun itv s2 h2 => ?_)
  obtain ⟨it, fp, tn, J, H2, e, I2, T, st2, f2, W, w0, step⟩ := h2
  subst e
  refine comp_core (RR := fun acc C => compPost (model X.prog X.w) X.A X.xe none (EP X pins σ Q) acc C) S hsx hcalm ht he I2 T st2 f2 w0 step fun D C s' H' I' q hsl52 hC => ?_
  obtain ⟨m, hm⟩ := hsl52
  obtain ⟨f0, f1, _, f3, f4, f5⟩ := hC
  exact ⟨m, hm, fun h' sb => ⟨.ref D, H', I'.turned (t' := s'.toks) (fun b o hb e => (sb.2 b hb).trans e) f0 f1 f3 f4 f5, rfl, q⟩⟩

end
end L2

set_option Elab.async false
set_option linter.all false
set_option maxRecDepth 100000
namespace L2
open PySem PySem.Spec PyProof.Rows
/-! ### lists of pairs as tables -/
section
variable {κ : Type} [DecidableEq κ]
noncomputable def valV (kvs : List (κ × V)) (k : κ) : Option V := (kvs.find? fun kv => decide (kv.1 = k)).map (·.2)
/-- in its place, or at the end -/
noncomputable def putK (kvs : List (κ × V)) (k : κ) (v : V) : List (κ × V) :=
  if (kvs.any fun kv => decide (kv.1 = k)) = true then kvs.map (fun kv => if kv.1 = k then (kv.1, v) else kv) else kvs ++ [(k, v)]
noncomputable def dropK (kvs : List (κ × V)) (k : κ) : List (κ × V) := kvs.filter fun kv => decide (kv.1 ≠ k)

theorem valV_pos {p : κ × V} {r : List (κ × V)} {k : κ} (e : p.1 = k) : valV (p :: r) k = some p.2 := by simp [valV, List.find?_cons, e]
theorem valV_neg {p : κ × V} {r : List (κ × V)} {k : κ} (e : ¬ p.1 = k) : valV (p :: r) k = valV r k := by simp [valV, List.find?_cons, e]
theorem valV_any (k : κ) : ∀ kvs : List (κ × V), (kvs.any fun kv => decide (kv.1 = k)) = (valV kvs k).isSome
  | [] => rfl
  | p :: r => by
    rw [List.any_cons]
    by_cases e : p.1 = k
    · simp only [valV_pos e, decide_eq_true e, Bool.true_or, Option.isSome_some]
    · rw [valV_neg e, decide_eq_false e, Bool.false_or]; exact valV_any k r
theorem RelO.isSome_eq {o : Option V} {u : Option Value} (r : RelO o u) : o.isSome = u.isSome := by
  cases o with
  | none => cases u with
    | none => rfl
    | some _ => exact (show False from r).elim
  | some _ => cases u with
    | none => exact (show False from r).elim
    | some _ => rfl
theorem RelO.getD {o : Option V} {u : Option Value} {d : V} {d' : Value} (r : RelO o u) (rd : RelV d d') : RelV (o.getD d) (u.getD d') := by
  cases o with
  | none => cases u with
    | none => exact rd
    | some _ => exact (show False from r).elim
  | some _ => cases u with
    | none => exact (show False from r).elim
    | some _ => exact r

/-- raw tables of the same keys -/
theorem KV.val {kvs : List (κ × V)} {vs : List (κ × Value)} (r : KV kvs vs) (k : κ) : RelO (valV kvs k) (valueAt vs k) := by
  unfold KV at r
  induction r with
  | nil => exact True.intro
  | @cons p q ps qs h t ih =>
    obtain ⟨h1, h2⟩ := h
    by_cases e : p.1 = k
    · have e' : q.1 = k := h1.symm.trans e
      have b : valueAt (q :: qs) k = some q.2 := by simp [valueAt, List.find?_cons, e']
      rw [valV_pos e, b]; exact h2
    · have e' : ¬ q.1 = k := fun z => e (h1.trans z)
      have b : valueAt (q :: qs) k = valueAt qs k := by simp [valueAt, List.find?_cons, e']
      rw [valV_neg e, b]; exact ih
theorem KV.any {kvs : List (κ × V)} {vs : List (κ × Value)} (r : KV kvs vs) (k : κ) : (kvs.any fun kv => decide (kv.1 = k)) = vs.any fun kv => decide (kv.1 = k) := by
  unfold KV at r
  induction r with
  | nil => rfl
  | cons h t ih => rw [List.any_cons, List.any_cons, ih, h.1]
theorem KV.repl {kvs : List (κ × V)} {vs : List (κ × Value)} (r : KV kvs vs) (k : κ) {y : V} {u : Value} (ry : RelV y u) :
    KV (kvs.map fun kv => if kv.1 = k then (kv.1, y) else kv) (vs.map fun kv => if kv.1 = k then (kv.1, u) else kv) := by
  unfold KV at r ⊢
  induction r with
  | nil => exact .nil
  | @cons p q ps qs h t ih =>
    rw [List.map_cons, List.map_cons]
    refine .cons ?_ ih
    obtain ⟨h1, h2⟩ := h
    by_cases e : p.1 = k
    · rw [if_pos e, if_pos (h1.symm.trans e)]; exact ⟨h1, ry⟩
    · rw [if_neg e, if_neg (fun z => e (h1.trans z))]; exact ⟨h1, h2⟩
theorem KV.put {kvs : List (κ × V)} {vs : List (κ × Value)} (r : KV kvs vs) (k : κ) {y : V} {u : Value} (ry : RelV y u) : KV (putK kvs k y) (stored vs k u) := by
  unfold putK stored
  rw [r.any k]
  by_cases e : (vs.any fun kv => decide (kv.1 = k)) = true
  · rw [if_pos e, if_pos e]; exact r.repl k ry
  · rw [if_neg e, if_neg e]; exact Paired.snoc r ⟨rfl, ry⟩
theorem KV.drop {kvs : List (κ × V)} {vs : List (κ × Value)} (r : KV kvs vs) (k : κ) : KV (dropK kvs k) (without vs k) := by
  unfold KV at r ⊢
  unfold dropK without
  induction r with
  | nil => exact .nil
  | @cons p q ps qs h t ih =>
    obtain ⟨h1, h2⟩ := h
    rw [List.filter_cons, List.filter_cons]
    by_cases e : p.1 = k
    · have a : ¬ decide (p.1 ≠ k) = true := by simp [e]
      have b : ¬ decide (q.1 ≠ k) = true := by simp [h1.symm.trans e]
      rw [if_neg a, if_neg b]; exact ih
    · have e' : ¬ q.1 = k := fun z => e (h1.trans z)
      have a : decide (p.1 ≠ k) = true := by simp [e]
      have b : decide (q.1 ≠ k) = true := by simp [e']
      rw [if_pos a, if_pos b]; exact .cons ⟨h1, h2⟩ ih
theorem KV.keys {kvs : List (κ × V)} {vs : List (κ × Value)} (r : KV kvs vs) : kvs.map (·.1) = vs.map (·.1) := by
  unfold KV at r
  induction r with
  | nil => rfl
  | cons h t ih => rw [List.map_cons, List.map_cons, ih, h.1]
theorem KV.length {kvs : List (κ × V)} {vs : List (κ × Value)} (r : KV kvs vs) : kvs.length = vs.length := Paired.length r
end


/-! ### a tracked dict, its keys ints and texts or tuples of these -/
/-- raw entries of a dict with tuple keys -/
noncomputable abbrev KT (H : Hp) : List (List Key × V) → List (List Key × Addr × Value) → Prop := Paired fun p q => p.1 = q.1 ∧ H q.2.1 = some (.tup (p.1.map kV)) ∧ RelV p.2 q.2.2
theorem KT.val {H : Hp} {kvs : List (List Key × V)} {xs : List (List Key × Addr × Value)} (r : KT H kvs xs) (k : List Key) : RelO (valV kvs k) ((atKey xs k).map (·.2)) := by
  induction r with
  | nil => exact True.intro
  | @cons p q ps qs h t ih =>
    obtain ⟨h1, _, h2⟩ := h
    by_cases e : p.1 = k
    · have e' : q.1 = k := h1.symm.trans e
      have b : atKey (q :: qs) k = some q.2 := by simp [atKey, List.find?_cons, e']
      rw [valV_pos e, b]; exact h2
    · have e' : ¬ q.1 = k := fun z => e (h1.trans z)
      have b : atKey (q :: qs) k = atKey qs k := by simp [atKey, List.find?_cons, e']
      rw [valV_neg e, b]; exact ih
theorem KT.repl {H : Hp} {kvs : List (List Key × V)} {xs : List (List Key × Addr × Value)} (r : KT H kvs xs) (k : List Key) {y : V} {u : Value} (ry : RelV y u) :
    KT H (kvs.map fun kv => if kv.1 = k then (kv.1, y) else kv) (xs.map (putAt k u)) := by
  induction r with
  | nil => exact .nil
  | @cons p q ps qs h t ih =>
    rw [List.map_cons, List.map_cons]
    refine .cons ?_ ih
    obtain ⟨h1, h2, h3⟩ := h
    unfold putAt
    by_cases e : p.1 = k
    · rw [if_pos e, if_pos (h1.symm.trans e)]; exact ⟨h1, h2, ry⟩
    · rw [if_neg e, if_neg (fun z => e (h1.trans z))]; exact ⟨h1, h2, h3⟩
theorem KT.put {H : Hp} {kvs : List (List Key × V)} {xs : List (List Key × Addr × Value)} (r : KT H kvs xs) (k : List Key) {b : Addr} {y : V} {u : Value} (hb : H b = some (.tup (k.map kV))) (ry : RelV y u) :
    KT H (putK kvs k y) (storedH xs k b u) := by
  have e : (kvs.any fun kv => decide (kv.1 = k)) = (atKey xs k).isSome := by
    rw [valV_any, (r.val k).isSome_eq, Option.isSome_map]
  unfold putK storedH
  rw [e]
  by_cases q : (atKey xs k).isSome = true
  · rw [if_pos q, if_pos q]; exact r.repl k ry
  · rw [if_neg q, if_neg q]; exact Paired.snoc r ⟨rfl, hb, ry⟩
theorem KT.keeps {H H' : Hp} {kvs : List (List Key × V)} {xs : List (List Key × Addr × Value)} (r : KT H kvs xs) (ht : ∀ b ys, H b = some (.tup ys) → H' b = some (.tup ys)) : KT H' kvs xs :=
  Paired.mapP r fun _ _ z => ⟨z.1, ht _ _ z.2.1, z.2.2⟩

section
variable {P : Program} {w : World} {H : Hp} {h : Heap} {a : Addr}
end

/-- what the dict at a holds at the key y -/
noncomputable def DGet (H : Hp) (a : Addr) (y : V) (r : Option V) : Prop :=
  (∃ kvs k, Rd H a (.dK kvs) ∧ y = kV k ∧ r = valV kvs k) ∨ ∃ kvs k b, Rd H a (.dT kvs) ∧ y = .ref b ∧ H b = some (.tup (k.map kV)) ∧ r = valV kvs k
/-- the heap behind a[y] = v -/
noncomputable def DPut (H : Hp) (a : Addr) (y v : V) (H' : Hp) : Prop :=
  (∃ kvs k, H a = some (.dK kvs) ∧ y = kV k ∧ kvs.length < sizeLine ∧ H' = upd H a (.dK (putK kvs k v))) ∨
  ∃ kvs k b, H a = some (.dT kvs) ∧ y = .ref b ∧ H b = some (.tup (k.map kV)) ∧ kvs.length < sizeLine ∧ H' = upd H a (.dT (putK kvs k v))
theorem DGet.k {H : Hp} {a : Addr} {kvs : List (Key × V)} {k : Key} (e : H a = some (.dK kvs)) : DGet H a (kV k) (valV kvs k) := .inl ⟨kvs, k, .inl e, rfl, rfl⟩
theorem DGet.t {H : Hp} {a b : Addr} {kvs : List (List Key × V)} {k : List Key} (e : H a = some (.dT kvs)) (eb : H b = some (.tup (k.map kV))) : DGet H a (.ref b) (valV kvs k) := .inr ⟨kvs, k, b, .inl e, rfl, eb, rfl⟩
theorem DPut.k {H : Hp} {a : Addr} {kvs : List (Key × V)} {k : Key} {v : V} (e : H a = some (.dK kvs)) (hl : kvs.length < sizeLine) : DPut H a (kV k) v (upd H a (.dK (putK kvs k v))) := .inl ⟨kvs, k, e, rfl, hl, rfl⟩
theorem DPut.t {H : Hp} {a b : Addr} {kvs : List (List Key × V)} {k : List Key} {v : V} (e : H a = some (.dT kvs)) (eb : H b = some (.tup (k.map kV))) (hl : kvs.length < sizeLine) :
    DPut H a (.ref b) v (upd H a (.dT (putK kvs k v))) := .inr ⟨kvs, k, b, e, rfl, eb, hl, rfl⟩


section
variable {X : Cx} {pins : List (Addr × Obj)} {σ : St} {H : Hp} {s : Shared} {a : Addr} {y v : V} {u r : Value} {o : Option V} {A : Around} {E : Value → Shared → Prop}

end

section
variable {X : Cx} {pins : List (Addr × Obj)} {σ : St} {H : Hp} {s : Shared} {a : Addr} {kvs : List (Key × V)} {k : Key} {u : Value} {A : Around} {E : Value → Shared → Prop}
end


/-! ### readings and rules -/
section
variable {X : Cx} {o i e value : Expr} {pos pos' tpos : Pos} {td ty tv : TE}
end


/-! ### displays -/
section
variable {X : Cx} {pos : Pos}
end

/-! ### methods -/
/-- a method call o.m(e) of a built-in, with one argument: what must be seen of the text -/
structure M1 (X : Cx) (o : Expr) (m : Str) (apos : Pos) (e : Expr) (cpos : Pos) : Prop where
  base : attributeBase o m X.env (eval o X.env) = eval o X.env
  few : ((backTo cpos (starEach [e] X.env)).all (fun x => !x.1) && (backToKw cpos (keywordEach [] X.env)).all (fun x => x.1.isSome)
    && decide (([e] : List Expr).length + ([] : List Keyword).length + (if ([] : List Keyword).isEmpty then 0 else 1) < 30)) = true
  line : (apos.endLine == cpos.line) = true
  trees : backTo cpos (starEach [e] X.env) = [(false, eval e X.env)]
structure M2 (X : Cx) (o : Expr) (m : Str) (apos : Pos) (e f : Expr) (cpos : Pos) : Prop where
  base : attributeBase o m X.env (eval o X.env) = eval o X.env
  few : ((backTo cpos (starEach [e, f] X.env)).all (fun x => !x.1) && (backToKw cpos (keywordEach [] X.env)).all (fun x => x.1.isSome)
    && decide (([e, f] : List Expr).length + ([] : List Keyword).length + (if ([] : List Keyword).isEmpty then 0 else 1) < 30)) = true
  line : (apos.endLine == cpos.line) = true
  trees : backTo cpos (starEach [e, f] X.env) = [(false, eval e X.env), (false, eval f X.env)]

section
variable {X : Cx} {pins : List (Addr × Obj)} {σ : St} {H : Hp} {s : Shared} {a : Addr} {y d : V} {u r : Value} {o : Option V} {A : Around} {E : Value → Shared → Prop}
end

section
variable {X : Cx} {o e f : Expr} {apos cpos : Pos} {td ty tx : TE}
end

/-! ### dict(d): a copy -/
section
variable {X : Cx} {pins : List (Addr × Obj)} {σ : St} {H : Hp} {s : Shared} {a : Addr} {kvs : List (Key × V)} {A : Around} {E : Value → Shared → Prop}
end


section
variable {X : Cx} {pins : List (Addr × Obj)} {σ : St} {H : Hp} {s : Shared} {a : Addr} {y : V} {u : Value} {A : Around} {E : Value → Shared → Prop}
end
end L2
namespace L2
open PySem PySem.Spec PyProof.Rows
section
variable {X : Cx}
end
/-! ### a dict's pairs: keys that differ -/
section
variable {κ : Type} [DecidableEq κ]
end
end L2

set_option linter.all false
namespace Mm
open PySem
/-! the settings of a mask -/
end Mm

set_option Elab.async false
set_option linter.all false
set_option maxRecDepth 100000
namespace Mm
open PySem L2
/-! a wood's masks and numbers -/
noncomputable def insM (M : List Nat) (m : Nat) : List Nat := if m ∈ M then M else M ++ [m]
noncomputable def wkf (M : List Nat) (k : Nat) : List (Key × V) := (M.zipIdx k).map fun p => (Sum.inl (p.1 : Int), V.int ((p.2 : Nat) : Int))
noncomputable def wkv (M : List Nat) : List (Key × V) := wkf M 0
theorem insM_mem {M : List Nat} {m : Nat} (h : m ∈ M) : insM M m = M := if_pos h
theorem insM_new {M : List Nat} {m : Nat} (h : m ∉ M) : insM M m = M ++ [m] := if_neg h
theorem insM_nd {M : List Nat} {m : Nat} (nd : M.Nodup) : (insM M m).Nodup := by
  by_cases h : m ∈ M
  · rw [insM_mem h]; exact nd
  · rw [insM_new h]
    exact List.nodup_append.mpr ⟨nd, by simp, fun a ha b hb => by
      have : b = m := by simpa using hb
      subst this
      exact fun e => h (e ▸ ha)⟩
theorem insM_keep {M : List Nat} {m i k : Nat} (h : M[i]? = some k) : (insM M m)[i]? = some k := by
  unfold insM
  split
  · exact h
  · rw [List.getElem?_append_left (List.getElem?_eq_some_iff.mp h).1]; exact h
theorem insM_all {M : List Nat} {m : Nat} {p : Nat → Prop} (h : ∀ x ∈ M, p x) (hm : p m) : ∀ x ∈ insM M m, p x := fun x hx => by
  unfold insM at hx
  split at hx
  · exact h x hx
  · rcases List.mem_append.mp hx with e | e
    · exact h x e
    · have : x = m := by simpa using e
      rw [this]; exact hm
/-- what a wood's masks are -/
structure Gd (n : Nat) (M : List Nat) : Prop where
  nd : M.Nodup
  lt : ∀ m ∈ M, m < 2 ^ 2 ^ n
  z : M[0]? = some 0
  f : M[1]? = some (2 ^ 2 ^ n - 1)
theorem Gd.ins {n : Nat} {M : List Nat} {m : Nat} (g : Gd n M) (h : m < 2 ^ 2 ^ n) : Gd n (insM M m) := ⟨insM_nd g.nd, insM_all g.lt h, insM_keep g.z, insM_keep g.f⟩
theorem full_pos (n : Nat) : 0 < 2 ^ 2 ^ n - 1 := by
  have h1 : 0 < 2 ^ n := Nat.two_pow_pos n
  have h2 : 2 ^ 1 ≤ 2 ^ 2 ^ n := Nat.pow_le_pow_right (by decide) h1
  omega
theorem Gd.new (n : Nat) : Gd n [0, 2 ^ 2 ^ n - 1] := ⟨by
  have := full_pos n
  rw [List.nodup_cons]
  exact ⟨fun h => by
    have : 0 = 2 ^ 2 ^ n - 1 := by simpa using h
    omega, by simp⟩, fun m hm => by
  have := full_pos n
  have : m = 0 ∨ m = 2 ^ 2 ^ n - 1 := by simpa using hm
  omega, rfl, rfl⟩
theorem Gd.get {n : Nat} {M : List Nat} {m i : Nat} (g : Gd n M) (h : M[i]? = some m) : m < 2 ^ 2 ^ n := g.lt m (List.mem_of_getElem? h)
noncomputable def wfl (n : Nat) (l d : Addr) : List (Str × V) := [("n", .int (n : Nat)), ("masks", .ref l), ("numbers", .ref d)]
/-- the wood at o -/
structure Wd (C : Addr) (H : Hp) (o dx l d : Addr) (n : Nat) (M : List Nat) : Prop where
  ins : H o = some (.ins C dx (wfl n l d))
  lst : H l = some (.lst (M.map fun x => V.int ((x : Nat) : Int)))
  dic : H d = some (.dK (wkv M))
  gd : Gd n M
theorem Wd.od {C : Addr} {H : Hp} {o dx l d : Addr} {n : Nat} {M : List Nat} (W : Wd C H o dx l d n M) : o ≠ l ∧ o ≠ d ∧ l ≠ d := ⟨ne_of W.ins W.lst (by intro z; cases z), ne_of W.ins W.dic (by intro z; cases z), ne_of W.lst W.dic (by intro z; cases z)⟩
/-- all but two addresses stay -/
noncomputable def But (l d : Addr) (H H' : Hp) : Prop := ∀ b u, H b = some u → b ≠ l → b ≠ d → H' b = some u
theorem But.refl (l d : Addr) (H : Hp) : But l d H H := fun _ _ h _ _ => h
theorem But.of {l d : Addr} {H H' : Hp} (h : Same H H') : But l d H H' := fun b u e _ _ => h b u e
theorem But.trans {l d : Addr} {H H1 H2 : Hp} (a : But l d H H1) (b : But l d H1 H2) : But l d H H2 := fun c u h h1 h2 => b c u (a c u h h1 h2) h1 h2
theorem Wd.stay {C : Addr} {H H' : Hp} {o dx l d : Addr} {n : Nat} {M : List Nat} (W : Wd C H o dx l d n M) (h : Same H H') : Wd C H' o dx l d n M := ⟨h _ _ W.ins, h _ _ W.lst, h _ _ W.dic, W.gd⟩
theorem Wd.but {C : Addr} {H H' : Hp} {o dx l d l2 d2 : Addr} {n : Nat} {M : List Nat} (W : Wd C H o dx l d n M) (h : But l2 d2 H H') (h1 : o ≠ l2 ∧ o ≠ d2) (h2 : l ≠ l2 ∧ l ≠ d2) (h3 : d ≠ l2 ∧ d ≠ d2) : Wd C H' o dx l d n M :=
  ⟨h _ _ W.ins h1.1 h1.2, h _ _ W.lst h2.1 h2.2, h _ _ W.dic h3.1 h3.2, W.gd⟩
/-! counting -/
theorem ix_tupK {X : Cx} {K : PySem.W.Frag} (h : X.K = K) : IxR X (rIxT K) := by subst h; exact ix_tup
theorem bt_tuple : bootBuiltins "tuple" = some (.type "tuple") := by decide +kernel
theorem bt_max : bootBuiltins "max" = some (.builtin "max") := by decide +kernel
theorem comp_tup {js : List Nat} {tt : TT} {te : TE} {K : PySem.W.Frag} {a : Addr} {xs : List V} {σ : St} {H : Hp} {Q : VK} (Pv : Nat → List V → Hp → Prop) (h0 : Pv 0 [] H) (hl : ∀ i ys H, i ≤ xs.length → Pv i ys H → SqT K H a xs)
    (hs : ∀ i x ys H, xs[i]? = some x → Pv i ys H → tt (some x :: pick js σ) H fun b H2 => if b = true then te (some x :: pick js σ) H2 fun y H3 => ys.length < sizeLine ∧ Pv (i + 1) (ys ++ [y]) H3 else Pv (i + 1) ys H2)
    (hd : ∀ ys H, Pv xs.length ys H → ∀ p, H p = none → Q (.ref p) (upd H p (.lst ys))) :
    tCompB (Itt K a) js tt te σ H Q := by
  refine ⟨fun i m ys H => m = xs.length - i ∧ i ≤ xs.length ∧ Pv i ys H, ⟨xs.length, by simp, Nat.zero_le _, h0⟩, ?_⟩
  rintro i m ys H ⟨rfl, hi, p⟩
  have q := hl i ys H hi p
  by_cases hlt : i < xs.length
  · refine .inr ⟨⟨xs, xs[i], q, by simp [hlt]⟩, Pv (i + 1), fun ys' H' p' => ⟨xs.length - (i + 1), by omega, rfl, hlt, p'⟩, fun x H' y => ?_⟩
    obtain ⟨e, y⟩ := y
    subst e
    exact hs i x ys _ (y xs q) p
  · have e : i = xs.length := by omega
    subst e
    exact .inl ⟨⟨xs, q, Nat.le_refl _⟩, hd ys H p⟩
theorem call_list_ofK {X : Cx} {K : PySem.W.Frag} (hK : X.K = K) : CallR X (.type "list") (fun xs H Q => ∃ p ys, xs = [.ref p] ∧ (SqL K H p ys ∨ SqT K H p ys) ∧ ∀ l, H l = none → Q (.ref l) (upd H l (.lst ys))) := by subst hK; exact call_list_of
/-! one statement, then the rest: what stands between -/
theorem seq_c {v : V} {i : Nat} {b : TS} {D : Ends} {σ : St} {H : Hp} (h : b D (σ.set i (some v)) H) : tSeq (tAsg (tC v) (gName i)) b D σ H := h
theorem cut_for {wi : TI} {g : TG} {tb b : TS} {D : Ends} {σ : St} {H : Hp} (P : St → Hp → Prop) (h1 : ∀ R : St → Hp → Prop, (∀ σ' H', P σ' H' → R σ' H') → tFor wi g tb { D with nx := R } σ H) (h2 : ∀ σ' H', P σ' H' → b D σ' H') : tSeq (tFor wi g tb) b D σ H := h1 (b D) h2
theorem cut_while {c : TT} {tb b : TS} {D : Ends} {σ : St} {H : Hp} (P : St → Hp → Prop) (h1 : ∀ R : St → Hp → Prop, (∀ σ' H', P σ' H' → R σ' H') → tWhile c tb { D with nx := R } σ H) (h2 : ∀ σ' H', P σ' H' → b D σ' H') : tSeq (tWhile c tb) b D σ H := h1 (b D) h2
end Mm

set_option Elab.async false
set_option linter.all false
set_option maxRecDepth 100000
set_option maxHeartbeats 4000000
namespace L2
open PySem PySem.Spec PyProof.Rows
section
variable {X : Cx}
end
end L2

set_option Elab.async false
set_option linter.all false
set_option maxRecDepth 100000
set_option maxHeartbeats 4000000
namespace L2
open PySem PySem.Spec PyProof.Rows
/-- enumerate(list at a) -/
noncomputable def Ite (K : PySem.W.Frag) (a : Addr) : It := ⟨fun i H => ∃ xs x, SqL K H a xs ∧ xs[i]? = some x, fun i H x H' => ∃ (t : Addr) (y : V), (∀ xs, SqL K H a xs → xs[i]? = some y) ∧ H t = none ∧ x = .ref t ∧ H' = upd H t (.tup [.int ((i : Nat) : Int), y]), fun i H => ∃ xs, SqL K H a xs ∧ xs.length ≤ i⟩
theorem turn_enum {P : Program} {w : World} {K : PySem.W.Frag} {elts : List Expr} {k : Nat} {tpos : Pos} (a e it : Addr) (hei : e ≠ it) :
    Turn P w K (.Tuple elts k tpos) (Ite K a) [e, it] e (fun i h => (∃ old, IsEnum h e it i old) ∧ h.IsListIter it a i) where
  mem := by simp
  obj := fun i h st b hb => by
    rcases (show b = e ∨ b = it by simpa using hb) with z | z
    · subst z
      obtain ⟨⟨old, he⟩, _⟩ := st
      exact ⟨_, he, fun v z => by cases z⟩
    · subst z
      obtain ⟨_, o, e, c, d⟩ := st
      exact ⟨o, e, fun v z => by rw [d] at z; cases z⟩
  keep := fun i h h' st kk => ⟨by obtain ⟨old, he⟩ := st.1; exact ⟨old, kk e (by simp) _ he⟩, st.2.at fun o q => kk it (by simp) o q⟩
  item := by
    intro X hP hw hK hc i pins s σ H E I hf st hg
    subst hP hw hK
    obtain ⟨xs, x, hq, hx⟩ := hg
    obtain ⟨its, rv, p, hz⟩ := I.list hq
    obtain ⟨u, hu, ru⟩ := rv.get hx
    obtain ⟨⟨old, he⟩, hit⟩ := st
    obtain ⟨e0, e1, e2, e3, e4, e5⟩ := hf e (by simp)
    obtain ⟨f0, f1, f2, f3, f4, f5⟩ := hf it (by simp)
    refine wpAny_pyNext_enum_item he hit p.isList (x := u) (by simpa using hu) hei fun h1 ho hit1 ht hsz kk => ?_
    refine ⟨_, rfl, ?_⟩
    have hel : e < s.heap.objs.size := Heap.lt_size he
    have hil : it < s.heap.objs.size := by obtain ⟨_, q, _⟩ := hit; exact Heap.lt_size q
    refine wpAny_letOwnedTupleGo_enum (s := { s with heap := h1, toks := s.toks + 1 }) ho fun h2 he2 hs2 => ?_
    have hs2 : Heap.SameBut e h1 h2 := hs2
    have kk2 : ∀ b o, b ≠ e → b ≠ it → s.heap.get? b = some o → h2.get? b = some o := fun b o q1 q2 q => (hs2.2 b q1).trans (kk b o q1 q2 q)
    have ht2 : h2.get? s.heap.objs.size = some { cls := .type "tuple", data := .seq #[.int i s.toks, u] } := (hs2.2 _ (Nat.ne_of_gt hel)).trans ht
    have hT : H s.heap.objs.size = none := I.fresh
    have I2 : Inv X pins σ (upd H s.heap.objs.size (.tup [.int ((i : Nat) : Int), x])) { s with heap := h2, toks := s.toks + 1 } := by
      refine I.call' (ch := [e, it]) rfl ⟨fun b o q hn hb hx => ?_, fun b o q hn hb hx => ?_, fun b o q hn hx => ?_, fun b o q hx => ?_, fun b ys q => ?_, fun b o v q => ?_, fun b ps q => ?_⟩ (fun b v q => ?_) I.bare fun b hb => ?_
      · exact kk2 b o (fun z => hx (by simp [z])) (fun z => hx (by simp [z])) q
      · exact ⟨o.slots, kk2 b o (fun z => hx (by simp [z])) (fun z => hx (by simp [z])) q⟩
      · rw [upd_ne (Nat.ne_of_lt (Heap.lt_size q))]; exact hn
      · exact ⟨o, kk2 b o (fun z => hx (by simp [z])) (fun z => hx (by simp [z])) q⟩
      · rw [upd_ne (ne_of_none q hT)]; exact q
      · rw [upd_ne (ne_of_none q hT)]; exact q
      · exact ⟨#[], by rw [upd_ne (ne_of_none q hT)]; simpa using q⟩
      · by_cases hb : b = s.heap.objs.size
        · subst hb
          rw [upd_same] at q
          cases q
          exact ⟨(by show 2 ≤ sizeLine; decide), [.int i s.toks, u], .cons ⟨_, rfl⟩ (.cons ru .nil), _, ht2, rfl, _, rfl⟩
        · rw [upd_ne hb] at q
          have hne : b ≠ e := fun z => by rw [z, e0] at q; cases q
          have hni : b ≠ it := fun z => by rw [z, f0] at q; cases q
          refine (I.hok b v q).stay (fun c o hcb z => kk2 c o (fun y => ?_) (fun y => ?_) z) (fun c z => by rw [upd_ne (ne_of_none z hT)]; exact z) fun c ys z => by rw [upd_ne (ne_of_none z hT)]; exact z
          · rcases hcb with r | r
            · exact hne (r ▸ y)
            · rw [y, e0] at r; cases r
          · rcases hcb with r | r
            · exact hni (r ▸ y)
            · rw [y, f0] at r; cases r
      · rcases (show b = e ∨ b = it by simpa using hb) with z | z
        · subst z; exact ⟨e3, e1, e4, e5⟩
        · subst z; exact ⟨f3, f1, f4, f5⟩
    refine ⟨.ref s.heap.objs.size, _, I2, rfl, ⟨_, x, fun ys hy => by rw [I.list_inj hy hq]; exact hx, hT, rfl, rfl⟩, ⟨⟨u, by simpa using he2⟩, hit1.at fun o q => (hs2.2 it hei.symm).trans q⟩, fun b hb => ?_⟩
    rcases (show b = e ∨ b = it by simpa using hb) with z | z
    · subst z; rw [upd_ne (Nat.ne_of_lt hel)]; exact e0
    · subst z; rw [upd_ne (Nat.ne_of_lt hil)]; exact f0
  done := by
    intro X hP hw hK hc i pins s σ H E I hf st hg
    subst hP hw hK
    obtain ⟨xs, hq, hx⟩ := hg
    obtain ⟨its, rv, p, hz⟩ := I.list hq
    obtain ⟨f0, f1, f2, f3, f4, f5⟩ := hf it (by simp)
    obtain ⟨⟨old, he⟩, hit⟩ := st
    have hl := rv.length
    exact wpAny_pyNext_enum_end (I.ok.hd hc) he hit p.isList (by simp; omega) fun h' eb => ⟨rfl, I.turned (t' := s.toks) (fun b o hb q => eb b o hb q) f0 f1 f3 f4 f5⟩
  self := fun _ _ _ _ _ st h => by obtain ⟨⟨old, he⟩, _⟩ := st; exact wpAny_pyIter_enum he h
section
variable {X : Cx}
noncomputable def iEnum (K : PySem.W.Frag) (ta : TA) : TI := fun σ H R => ta σ H fun vs H1 => ∃ a xs, vs = [.ref a] ∧ SqL K H1 a xs ∧ R (Ite K a) H1
theorem pi_enum {a : Expr} {ta : TA} {p pos tpos : Pos} {elts : List Expr} {k : Nat} (hg : Gl X "enumerate") (hm : X.mg "enumerate" = none) (ha : PA X [a] ta) (hs : starEach [a] X.env = [(false, eval a X.env)] := by rfl) :
    PI X (.Tuple elts k tpos) (.Call (.Name "enumerate" p) [a] [] pos) (iEnum X.K ta) := by
  intro pins s σ H R I h
  refine Call_ (ld_blt I hg hm boot_enumerate (PyProof.Rows.callWith_type1 (thn (ha pos pins s σ H _ I h) fun us s1 hsl53 => ?_) hs rfl))
  obtain ⟨vs, H1, I1, r1, q1⟩ := hsl53
  obtain ⟨l, xs, e, hq, q⟩ := q1
  subst e
  obtain ⟨u, rfl, ru⟩ := vals1 r1
  cases ru
  obtain ⟨its, rv, pp, hz⟩ := I1.list hq
  refine call_enumerate_list pp.isList fun h' he hit hsz kk => ?_
  refine wpAny_pyIter_enum (s := { s1 with heap := h' }) he ?_
  refine ⟨s1.heap.objs.size + 1, [s1.heap.objs.size + 1, s1.heap.objs.size], _, _, H1, rfl, I1.kept (t' := s1.toks) kk, turn_enum l _ _ (Nat.succ_ne_self _), ⟨⟨_, he⟩, hit⟩, fun b hb => ?_, q⟩
  rcases (show b = s1.heap.objs.size + 1 ∨ b = s1.heap.objs.size by simpa using hb) with z | z
  · subst z; exact I1.fpOk (Nat.le_succ _) (I1.hok.fresh (Nat.le_succ _))
  · subst z; exact I1.fpOk (Nat.le_refl _) (I1.hok.fresh (Nat.le_refl _))
end
theorem pg_tupK {X : Cx} {K : PySem.W.Frag} {es : List Expr} {k : Nat} {pos : Pos} {t : TGs} {n : Nat} (hK : X.K = K) (hc : X.calm = true) (h : PGs X es t)
    (hn : (assignEach es X.env).length = n := by rfl) (hst : (assignEach es X.env).findIdx? (·.1) = none := by rfl) : PG X (.Tuple es k pos) (gTup K n t) := by
  subst hK
  exact pg_tup hc h hn hst
/-! the forms one uses -/
section
variable {k : Nat} {js : List Nat} {g : TG} {tt : TT} {te : TE}
theorem comp2_list {K : PySem.W.Frag} {a : Addr} {xs : List V} {σ : St} {H : Hp} {Q : VK} (Pv : Nat → List V → Hp → Prop) (h0 : Pv 0 [] H) (hl : ∀ i ys H, i ≤ xs.length → Pv i ys H → SqL K H a xs)
    (hs : ∀ i x ys H, xs[i]? = some x → Pv i ys H → tStep2 k js g tt te σ ys (Pv (i + 1)) x H)
    (hd : ∀ ys H, Pv xs.length ys H → ∀ p, H p = none → Q (.ref p) (upd H p (.lst ys))) : tCompB2 (Itl K a) k js g tt te σ H Q := by
  refine ⟨fun i m ys H => m = xs.length - i ∧ i ≤ xs.length ∧ Pv i ys H, ⟨xs.length, by simp, Nat.zero_le _, h0⟩, ?_⟩
  rintro i m ys H ⟨rfl, hi, p⟩
  have q := hl i ys H hi p
  by_cases hlt : i < xs.length
  · refine .inr ⟨⟨xs, xs[i], q, by simp [hlt]⟩, Pv (i + 1), fun ys' H' p' => ⟨xs.length - (i + 1), by omega, rfl, hlt, p'⟩, fun x H' y => ?_⟩
    obtain ⟨e, y⟩ := y
    subst e
    exact hs i x ys _ (y xs q) p
  · have e : i = xs.length := by omega
    subst e
    exact .inl ⟨⟨xs, q, Nat.le_refl _⟩, hd ys H p⟩
end
end L2

set_option Elab.async false
set_option linter.all false
set_option maxRecDepth 100000
namespace L2
open PySem PySem.Spec PyProof.Rows
theorem for_enum {K : PySem.W.Frag} {a : Addr} {xs : List V} {g : TG} {tb : TS} {D : Ends} {σ : St} {H : Hp} (Pv : Nat → St → Hp → Prop) (h0 : Pv 0 σ H) (hl : ∀ i σ H, i ≤ xs.length → Pv i σ H → SqL K H a xs)
    (hs : ∀ i x σ H t, xs[i]? = some x → Pv i σ H → H t = none → g (.ref t) σ (upd H t (.tup [.int ((i : Nat) : Int), x])) fun σ2 H2 => tb { D with nx := Pv (i + 1), ct := Pv (i + 1), bk := D.nx } σ2 H2) (hd : ∀ σ H, Pv xs.length σ H → D.nx σ H) :
    ∃ W : Nat → Nat → St → Hp → Prop, (∃ m, W 0 m σ H) ∧ ∀ i m σ H, W i m σ H →
      ((Ite K a).stop i H ∧ D.nx σ H) ∨ ((Ite K a).go i H ∧ ∃ N : St → Hp → Prop, (∀ σ' H', N σ' H' → ∃ m', m' < m ∧ W (i + 1) m' σ' H') ∧ ∀ x H', (Ite K a).yld i H x H' → g x σ H' fun σ2 H2 => tb { D with nx := N, ct := N, bk := D.nx } σ2 H2) := by
  refine ⟨fun i m σ H => m = xs.length - i ∧ i ≤ xs.length ∧ Pv i σ H, ⟨xs.length, by simp, Nat.zero_le _, h0⟩, ?_⟩
  rintro i m σ H ⟨rfl, hi, p⟩
  have q := hl i σ H hi p
  by_cases hlt : i < xs.length
  · refine .inr ⟨⟨xs, xs[i], q, by simp [hlt]⟩, Pv (i + 1), fun σ' H' p' => ⟨xs.length - (i + 1), by omega, rfl, hlt, p'⟩, fun x H' y => ?_⟩
    obtain ⟨t, y, hy, hn, rfl, rfl⟩ := y
    exact hs i y σ _ t (hy xs q) p hn
  · have e : i = xs.length := by omega
    subst e
    exact .inl ⟨⟨xs, q, Nat.le_refl _⟩, hd σ H p⟩
end L2

set_option Elab.async false
set_option linter.all false
set_option maxRecDepth 100000
set_option maxHeartbeats 4000000
namespace L2
open PySem PySem.Spec PyProof.Rows
/-! ### an exception on its way, of which the class and the own dict are known -/
theorem dict_mapFields (o : Obj) (f : Array Value → Array Value) : (o.mapFields f).dict = o.dict := by
  obtain ⟨a, b, c, d⟩ := o
  cases c <;> rfl
noncomputable def TrD (h base : Heap) (e : Addr) (cls fl : Value) (dd : Option Addr) (cx : Option Value) : Prop :=
  ∃ oe vs T oT ts, h.get? e = some oe ∧ (oe.cls = cls ∧ oe.dict = dd ∧ vs[2]? = cx) ∧ oe.data = .fields vs ∧ vs[1]? = some (.ref T) ∧ base.get? T = none ∧ T ≠ e ∧ h.get? T = some oT ∧ oT.data = .fields ts ∧ ts[3]? = some fl
noncomputable def FlyD (base : Heap) (l : List Env) (e : Addr) (cls : Value) (dd : Option Addr) (cx : Option Value) (h : Heap) : Prop := base.StaysIn h ∧ base.get? e = none ∧ h.FunFrames base l ∧ TrD h base e cls .none dd cx
noncomputable def HeldD (base : Heap) (l : List Env) (e : Addr) (cls : Value) (dd : Option Addr) (cx : Option Value) (L : Addr) (h : Heap) : Prop := base.StaysIn h ∧ base.get? e = none ∧ h.FunFrames base l ∧ TrD h base e cls (rawInt L) dd cx
theorem FlyD.there {base h : Heap} {l : List Env} {e : Addr} {cls : Value} {dd : Option Addr} {cx : Option Value} (x : FlyD base l e cls dd cx h) : ∃ ob, h.get? e = some ob ∧ ob.cls = cls ∧ ob.dict = dd := by
  obtain ⟨_, _, _, oe, _, _, _, _, he, hc, _⟩ := x
  exact ⟨oe, he, hc.1, hc.2.1⟩
section
variable {M : Model} {A : Around} {E : Value → Shared → Prop} {s : Shared}
theorem noteEntry {base : Heap} {env : Env} {outer : List Env} {L e : Addr} {oe : Obj} {vs : Array Value} {head : Value} {hadNext : Bool} {Q : Unit → Shared → Prop}
    (hfr : A.frames = some (env :: outer)) (hl : s.heap.FunFrames base (env :: outer)) (hf : env.frame = some L)
    (he : s.heap.get? e = some oe) (hkb : base.StaysIn s.heap) (hen : base.get? e = none) (hd : oe.data = .fields vs) (hsz : 1 < vs.size)
    (h : ∀ h', base.StaysIn h' → h'.FunFrames base (env :: outer) → TrD h' base e oe.cls (rawInt L) oe.dict vs[2]? → s.heap.UpToSlots h' → Q () { s with heap := h' }) :
    wpAny M A (do let a ← frameOf env; let pl ← entryPlaceOf L hadNext; let b ← EntryCells.newEntry head a .none (rawInt L) .none pl; setField (.ref e) 1 b) Q E s := by
  have hene : e ∉ (env :: outer).filterMap (·.frame) := fun hm => by
    obtain ⟨_, o, ho, hnf⟩ := hl.mem hm
    rw [he] at ho; injection ho with ho; subst ho; exact hnf vs hd
  refine wpAny_bind (wpAny_frameOf_fun hfr hl hf fun h₁ hs₁ => wpAny_bind (wpAny_entryPlaceOf fun pl hpl => ?_))
  unfold EntryCells.newEntry newFields
  refine wpAny_bind (wpAny_newObj_type ?_ (hpl.sizeOk5 _ _ _ _ _))
  have he₁ : h₁.get? e = some oe := (hs₁.2.1 e hene).trans he
  have kb₁ : base.StaysIn h₁ := fun b o hbo => (hs₁.2.1 b fun hm => by rw [(hl.mem hm).1] at hbo; cases hbo).trans (hkb b o hbo)
  have hTe : h₁.objs.size ≠ e := Nat.ne_of_gt (Heap.lt_size he₁)
  generalize hot : ({ cls := .type "traceback", dict := none, data := .fields ([head, .ref L, .none, rawInt L, .none] ++ (if pl.isEmpty then List.replicate 6 Value.none else pl)).toArray } : Obj) = ot
  have hotd : ∃ ts, ot.data = .fields ts ∧ ts[3]? = some (rawInt L) := by
    subst hot
    exact ⟨_, rfl, by first | (simp; done) | (rcases hpl with rfl | ⟨_, _, _, _, _, _, _, rfl⟩ <;> simp)⟩
  have hofr : ot.isFreed = false := by subst hot; rfl
  have he₂ := Heap.get?_push_of_some (h := h₁) ot he₁
  refine wpAny_setField he₂ hd hsz ?_
  have hd₃ := Obj.data_mapFields hd (·.setIfInBounds 1 (Value.ref h₁.objs.size))
  have he₃ := Heap.get?_update_self (Obj.mapFields (·.setIfInBounds 1 (Value.ref h₁.objs.size))) he₂ (Obj.isFreed_of_fields hd₃)
  have hT₃ := (Heap.get?_update_other (h₁.push ot) (Obj.mapFields (·.setIfInBounds 1 (Value.ref h₁.objs.size))) (Ne.symm hTe)).trans (Heap.get?_push_size h₁ hofr)
  have keep : ∀ b o, b ≠ e → h₁.get? b = some o → ((h₁.push ot).update e (Obj.mapFields (·.setIfInBounds 1 (Value.ref h₁.objs.size)))).get? b = some o :=
    fun b o hbe hb => by rw [Heap.get?_update_other _ _ (Ne.symm hbe)]; exact Heap.get?_push_of_some _ hb
  have rec' : ∀ b o, s.heap.get? b = some o → (∀ vs, o.data ≠ .fields vs) → b ≠ e := fun b o hb hnf q => by
    rw [q, he] at hb; injection hb with hb; subst hb; exact hnf vs hd
  obtain ⟨ts, ht1, ht2⟩ := hotd
  refine h _ (fun b o hbo => keep b o (fun q => by rw [q, hen] at hbo; cases hbo) (kb₁ b o hbo)) (hl.of_keeps fun b o hb hnf => ?_) ?_ fun b o hb hnf => ?_
  · obtain ⟨sl, hs⟩ := hs₁.2.2 b o hb
    exact ⟨_, keep b _ (rec' b o hb hnf) hs, rfl⟩
  · exact ⟨_, _, h₁.objs.size, _, ts, he₃, ⟨Obj.cls_mapFields _ _, dict_mapFields _ _, by rw [Array.getElem?_setIfInBounds_ne (by decide)]⟩, hd₃, by simp [hsz], kb₁.fresh, hTe, hT₃, ht1, ht2⟩
  · obtain ⟨sl, hs⟩ := hs₁.2.2 b o hb
    exact ⟨sl, keep b _ (rec' b o hb hnf) hs⟩
theorem note_first {base : Heap} {env : Env} {outer : List Env} {L e : Addr} {oe : Obj} {vs : Array Value} {Q : Unit → Shared → Prop}
    (hfr : A.frames = some (env :: outer)) (hl : s.heap.FunFrames base (env :: outer)) (hf : env.frame = some L)
    (he : s.heap.get? e = some oe) (hkb : base.StaysIn s.heap) (hen : base.get? e = none) (hd : oe.data = .fields vs) (h1 : vs[1]? = some .none)
    (h : ∀ h', HeldD base (env :: outer) e oe.cls oe.dict vs[2]? L h' → s.heap.UpToSlots h' → Q () { s with heap := h' }) : wpAny M A (noteFrame (.ref e) env) Q E s := by
  unfold noteFrame
  simp only [hf]
  refine wpAny_bind (wpAny_field he hd h1 ?_)
  rw [if_neg (by decide)]
  exact noteEntry hfr hl hf he hkb hen hd (Array.getElem?_eq_some_iff.mp h1).1 fun h' k1 k2 k3 k4 => h h' ⟨k1, hen, k2, k3⟩ k4
theorem note_on {base : Heap} {env : Env} {outer : List Env} {L e : Addr} {cls : Value} {dd : Option Addr} {cx : Option Value} {Q : Unit → Shared → Prop}
    (hfr : A.frames = some (env :: outer)) (hf : env.frame = some L) (hfl : FlyD base (env :: outer) e cls dd cx s.heap)
    (h : ∀ h', HeldD base (env :: outer) e cls dd cx L h' → s.heap.UpToSlots h' → Q () { s with heap := h' }) : wpAny M A (noteFrame (.ref e) env) Q E s := by
  obtain ⟨hkb, hen, hl, oe, vs, T, oT, ts, he, ⟨rfl, rfl, rfl⟩, hd, h1, hnT, hTe, hT, hdT, h3⟩ := hfl
  unfold noteFrame
  simp only [hf]
  refine wpAny_bind (wpAny_field he hd h1 ?_)
  rw [if_pos (show (Value.ref T != Value.none) = true from by simp)]
  refine wpAny_bind (wpAny_field hT hdT h3 ?_)
  rw [if_neg (show ¬ ((Value.none == rawInt L) = true) from by simp [rawInt])]
  refine wpAny_bind (wpAny_setField hT hdT (Array.getElem?_eq_some_iff.mp h3).1 ?_)
  have other : ∀ b, b ≠ T → (s.heap.update T (Obj.mapFields (·.setIfInBounds 3 Value.none))).get? b = s.heap.get? b := fun b hb => Heap.get?_update_other _ _ (Ne.symm hb)
  have rec' : ∀ b o, s.heap.get? b = some o → (∀ vs, o.data ≠ .fields vs) → b ≠ T := fun b o hb hnf q => by
    rw [q, hT] at hb; injection hb with hb; subst hb; exact hnf ts hdT
  refine noteEntry (s := { s with heap := s.heap.update T (Obj.mapFields (·.setIfInBounds 3 Value.none)) }) hfr (hl.of_keeps fun b o hb hnf => ⟨o, (other b (rec' b o hb hnf)).trans hb, rfl⟩) hf ((other e (Ne.symm hTe)).trans he)
    (fun b o hbo => (other b fun q => by rw [q, hnT] at hbo; cases hbo).trans (hkb b o hbo)) hen hd (Array.getElem?_eq_some_iff.mp h1).1
    fun h' x1 x2 x3 x4 => h h' ⟨x1, hen, x2, x3⟩ fun b o hb hnf => x4 b o ((other b (rec' b o hb hnf)).trans hb) hnf
theorem set_down {base : Heap} {l : List Env} {e : Addr} {cls fl : Value} {dd : Option Addr} {cx : Option Value} {Q : Unit → Shared → Prop}
    (hkb : base.StaysIn s.heap) (hen : base.get? e = none) (hl : s.heap.FunFrames base l) (ht : TrD s.heap base e cls fl dd cx)
    (h : ∀ h', FlyD base l e cls dd cx h' → s.heap.UpToSlots h' → Q () { s with heap := h' }) : wpAny M A (setFlight (.ref e) none) Q E s := by
  obtain ⟨oe, vs, T, oT, ts, he, hcls, hd, h1, hnT, hTe, hT, hdT, h3⟩ := ht
  have hsz3 : 3 < ts.size := (Array.getElem?_eq_some_iff.mp h3).1
  have other : ∀ b, b ≠ T → (s.heap.update T (Obj.mapFields (·.setIfInBounds 3 ((none : Option Addr).elim Value.none fun f => rawInt f)))).get? b = s.heap.get? b :=
    fun b hb => Heap.get?_update_other _ _ (Ne.symm hb)
  have rec' : ∀ b o, s.heap.get? b = some o → (∀ vs, o.data ≠ .fields vs) → b ≠ T := fun b o hb hnf q => by
    rw [q, hT] at hb; injection hb with hb; subst hb; exact hnf ts hdT
  unfold setFlight
  refine wpAny_bind (wpAny_field he hd h1 ?_)
  rw [if_pos (show (Value.ref T != Value.none) = true from by simp)]
  refine wpAny_setField hT hdT hsz3 (h _ ⟨fun b o hbo => (other b fun q => by rw [q, hnT] at hbo; cases hbo).trans (hkb b o hbo), hen,
    hl.of_keeps fun b o hb hnf => ⟨o, (other b (rec' b o hb hnf)).trans hb, rfl⟩, ?_⟩ fun b o hb hnf => ⟨o.slots, (other b (rec' b o hb hnf)).trans hb⟩)
  exact ⟨oe, vs, T, _, _, (other e (Ne.symm hTe)).trans he, hcls, hd, h1, hnT, hTe, Heap.get?_update_self _ hT (Obj.isFreed_of_fields (Obj.data_mapFields hdT _)), Obj.data_mapFields hdT _, by simp [hsz3]⟩
theorem landsD {base : Heap} {l : List Env} {e L : Addr} {cls : Value} {dd : Option Addr} {cx : Option Value} {Q : Unit → Shared → Prop} (hh : HeldD base l e cls dd cx L s.heap)
    (h : ∀ h', FlyD base l e cls dd cx h' → s.heap.UpToSlots h' → Q () { s with heap := h' }) : wpAny M A (setFlight (.ref e) none) Q E s := set_down hh.1 hh.2.1 hh.2.2.1 hh.2.2.2 h
theorem lands_againD {base : Heap} {l : List Env} {e : Addr} {cls : Value} {dd : Option Addr} {cx : Option Value} {Q : Unit → Shared → Prop} (hh : FlyD base l e cls dd cx s.heap)
    (h : ∀ h', FlyD base l e cls dd cx h' → s.heap.UpToSlots h' → Q () { s with heap := h' }) : wpAny M A (setFlight (.ref e) none) Q E s := set_down hh.1 hh.2.1 hh.2.2.1 hh.2.2.2 h
theorem FlyD.out {base h : Heap} {env : Env} {outer : List Env} {e : Addr} {cls : Value} {dd : Option Addr} {cx : Option Value} (x : FlyD base (env :: outer) e cls dd cx h) : FlyD base outer e cls dd cx h := by
  obtain ⟨k1, k2, ⟨_, _, k3⟩, k4⟩ := x
  exact ⟨k1, k2, k3, k4⟩
theorem leaves_onD {base : Heap} {env : Env} {outer : List Env} {L e : Addr} {cls : Value} {dd : Option Addr} {cx : Option Value} {Q : Unit → Shared → Prop}
    (hfr : A.frames = some (env :: outer)) (hf : env.frame = some L) (hfl : FlyD base (env :: outer) e cls dd cx s.heap)
    (h : ∀ h', FlyD base outer e cls dd cx h' → s.heap.UpToSlots h' → Q () { s with heap := h' }) : wpAny M A (leaving env (.ref e)) Q E s := by
  unfold leaving
  refine wpAny_bind (note_on hfr hf hfl fun h1 hh up => ?_)
  exact landsD (s := { s with heap := h1 }) hh fun h2 f2 up2 => h h2 f2.out (up.trans up2)
theorem leaves_firstD {base : Heap} {env : Env} {outer : List Env} {L e : Addr} {oe : Obj} {vs : Array Value} {Q : Unit → Shared → Prop}
    (hfr : A.frames = some (env :: outer)) (hl : s.heap.FunFrames base (env :: outer)) (hf : env.frame = some L)
    (he : s.heap.get? e = some oe) (hkb : base.StaysIn s.heap) (hen : base.get? e = none) (hd : oe.data = .fields vs) (h1 : vs[1]? = some .none)
    (h : ∀ h', FlyD base outer e oe.cls oe.dict vs[2]? h' → s.heap.UpToSlots h' → Q () { s with heap := h' }) : wpAny M A (leaving env (.ref e)) Q E s := by
  unfold leaving
  refine wpAny_bind (note_first hfr hl hf he hkb hen hd h1 fun h1 hh up => ?_)
  exact landsD (s := { s with heap := h1 }) hh fun h2 f2 up2 => h h2 f2.out (up.trans up2)
end
end L2

set_option Elab.async false
set_option linter.all false
set_option maxRecDepth 100000
set_option maxHeartbeats 4000000
namespace L2
open PySem PySem.Spec PyProof.Rows
/-! ### self.f = v where self is a new exception of an own class -/
noncomputable abbrev bmVE : List Value := [.type "ValueError", .type "Exception", .type "BaseException", .type "object"]
noncomputable def refsThen : Nat → List Value → Bool
  | 0, l => l == bmVE
  | n + 1, .ref _ :: r => refsThen n r
  | _ + 1, _ => false
theorem refuse_exc (self : Value) : ∀ (n : Nat) (l : List Value), refsThen n l = true → refuseLoop self "__setattr__" l = pure ()
  | 0, l, e => by rw [show l = bmVE from beq_iff_eq.mp e]; exact PySem.F.store_ValueError.passes self
  | n + 1, [], e => by cases e
  | n + 1, v :: r, e => by cases v <;> first | (rw [refuseLoop_ref]; exact refuse_exc self n r e) | cases e
theorem exc_obj : ∀ (n : Nat) (l : List Value), refsThen n l = true → l.contains (.type "object") = true
  | 0, l, e => by rw [show l = bmVE from beq_iff_eq.mp e]; rfl
  | n + 1, [], e => by cases e
  | n + 1, v :: r, e => by cases v <;> first | (rw [List.contains_cons, exc_obj n r e, Bool.or_true]) | cases e
/-- what of the text an own class of exceptions must have whose __init__ sets attributes -/
structure ICls (K : PySem.W.Frag) (C : Addr) : Prop where
  po : (PySem.W.clsIn K C).any (fun cd => refsThen 2 cd.mro) = true
  sa : PySem.W.findIn K (.ref C) "__setattr__" = some (some (.builtin "object.__setattr__"))
  hd : PySem.W.hasDictIn K C = true
section
variable {prog : Program} {w : World} {A : Around} {E : Value → Shared → Prop} {s : Shared} {K : PySem.W.Frag} {x C : Addr} {name : Str} {v : Value}
open PySem.W PySem.Calls Builtin Builtin.ObjectAttr in
theorem osa_exc {R : Result → Shared → Prop} {ox : Obj} {od : Option Obj} {tk : Tok} (X : K.In s.heap) (I : PySem.W.InstAt s.heap x ox C od) (c : ICls K C) (ht : takerIn K C name = some none)
    (h : ∀ b, wpAny (model prog w) A.in1 (storeInOwnDict (.ref x) (.ref C) (.str name tk) name v b)
      (fun fin s' => match fin with | .done f => R (.ok f) s' | .again c' => c'.quiet = true ∧ codeAny (model prog w) A c' R s') (fun e s' => R (.error e) s') s) :
    codeAny (model prog w) A (.call (.builtin "object.__setattr__") ⟨[.ref x, .str name tk, v], []⟩) R s := by
  have SF := PySem.F.store_object
  obtain ⟨cd, hc, ho⟩ := any_some c.po
  have ne : cd.mro.isEmpty = false := by cases q : cd.mro with | nil => rw [q] at ho; cases ho | cons _ _ => rfl
  have sub : Looks (model prog w) s.heap (isInstance (.ref x) (.type "object")) true := I.type.andThen (looks_mroIn X (by unfold mroIn; rw [hc, Option.bind_some, if_neg (by rw [ne]; decide), exc_obj _ _ ho]))
  refine codeAny_call_builtin SF.slot.plain SF.entry (@check_slot (model prog w) _ _ s "object.__setattr__" "object" "__setattr__" (.ref x) [.str name tk, v] [] _ SF.kind SF.split sub (SF.args (.ref x) (.str name tk) v) ?_)
  obtain ⟨attr, ha, hr⟩ := Option.bind_eq_some_iff.mp ht
  have hm : Looks (model prog w) s.heap (mroOf (.ref C)) cd.mro := (looks_clsIn X hc).andThen .now
  have L3 : Looks (model prog w) s.heap (storeTaker? attr) none := by
    cases attr with
    | none => exact .now
    | some a =>
      obtain ⟨b, hb, e⟩ := Option.map_eq_some_iff.mp hr
      refine (looks_takesIn X hb).andThen ?_
      cases b
      · exact .now
      · cases e
  rw [osa_eq, refuse_eq]
  refine wpAny_bind (wpAny_bind (I.type.here (wpAny_bind (hm.here ?_))))
  rw [refuse_exc _ _ _ ho]
  refine wpAny_pure (wpAny_bind (I.type.here (wpAny_bind ((looks_findIn X ha).here (wpAny_bind (L3.here ?_))))))
  exact h _
/-- a new exception: its class, its arguments' tuple, its own dict -/
noncomputable def ExcN (e C t : Addr) (dd : Option Addr) (h : Heap) : Prop := h.get? e = some { cls := .ref C, dict := dd, data := .fields #[.ref t, .none, .none, .none, .bool false, .none] }
open PySem.W PySem.Calls Builtin Builtin.ObjectAttr in
theorem set_exc1 {t : Addr} {Q : Unit → Shared → Prop} (X : K.In s.heap) (I : ExcN x C t none s.heap) (c : ICls K C) (ht : takerIn K C name = some none)
    (h : ∀ h', h'.Ns1 s.heap.objs.size (fun y => if y = name then some v else none) → ExcN x C t (some s.heap.objs.size) h' → (∀ b o, b ≠ x → s.heap.get? b = some o → h'.get? b = some o) → Q () { s with heap := h', toks := s.toks + 2 }) :
    wpAny (model prog w) A (setAttr (.ref x) name v) Q E s := by
  have J : PySem.W.InstAt s.heap x { cls := .ref C, dict := none, data := .fields #[.ref t, .none, .none, .none, .bool false, .none] } C none := ⟨I, rfl, rfl, True.intro⟩
  refine set_plain X J c.sa (osa_exc (s := { s with toks := s.toks + 1 }) X J c ht fun b => ?_)
  obtain ⟨cd, hc, hd'⟩ := any_some c.hd
  refine wpAny_bind (wpAny_pure (wpAny_bind (wpAny_bind (wpAny_loadPart (s := { s with toks := s.toks + 1 }) I (wpAny_bind (Looks.here (s := { s with toks := s.toks + 1 }) (looks_clsIn X hc) ?_))))))
  rw [hd']
  rw [if_neg (by decide)]
  dsimp only
  refine wpAny_bind (wpAny_alloc ?_)
  have hx : ({ s with toks := s.toks + 1 } : Shared).heap.get? x = some { cls := .ref C, dict := none, data := .fields #[.ref t, .none, .none, .none, .bool false, .none] } := I
  have hx₁ := Heap.get?_push_of_some { cls := .type "dict", data := .dict #[] } hx
  refine wpAny_bind (wpAny_update hx₁ (wpAny_pure ?_))
  have hxs : x ≠ s.heap.objs.size := Nat.ne_of_lt (Heap.lt_size hx)
  refine wpAny_bind (wpAny_pure (wpAny_bind ?_))
  generalize hfo : (fun o : Obj => { cls := o.cls, dict := some s.heap.objs.size, data := o.data, slots := o.slots : Obj }) = fo
  have hgd : ((s.heap.push { cls := .type "dict", data := .dict #[] }).update x fo).get? s.heap.objs.size = some { cls := .type "dict", data := .dict #[] } :=
    (Heap.get?_update_ne _ _ _ _ hxs.symm).trans (Heap.get?_push_at rfl rfl)
  have hnd : ((s.heap.push { cls := .type "dict", data := .dict #[] }).update x fo).Ns s.heap.objs.size (fun _ => none) := ⟨_, #[], _, hgd, rfl, fun e he => absurd he (by simp), fun _ => rfl⟩
  refine wpAny_nsSet1 (s := { s with heap := (s.heap.push { cls := .type "dict", data := .dict #[] }).update x fo, toks := s.toks + 1 }) (Heap.Ns1.of_empty hnd) fun h' hn' hs => ?_
  obtain ⟨oD, esD, epD, hoD, hdD, hcD⟩ := hn'.count (Within.cons name v Within.nil)
  refine wpAny_bind (wpAny_lookBehind hoD (by rw [hdD]; exact pastItsLine_dict (Nat.le_trans hcD (by rw [List.length_cons, List.length_nil, sizeLine_eq]; omega))) ?_)
  refine wpAny_pure (h h' hn' ?_ fun b o hb q => ?_)
  · refine (hs.2 x hxs).trans ((Heap.get?_update_self _ hx₁ ?_).trans ?_)
    · subst hfo; rfl
    · subst hfo; rfl
  · exact (hs.2 b (Nat.ne_of_lt (Heap.lt_size q))).trans ((Heap.get?_update_ne _ _ _ _ hb).trans (Heap.get?_push_of_some _ q))
open PySem.W PySem.Calls Builtin Builtin.ObjectAttr in
theorem set_exc2 {t dx : Addr} {mA : Str → Option Value} {ns : List Str} {Q : Unit → Shared → Prop} (X : K.In s.heap) (I : ExcN x C t (some dx) s.heap) (N : s.heap.Ns1 dx mA) (ne : dx ≠ x) (hw : PySem.Within mA ns) (hsz : ns.length ≤ 1000) (c : ICls K C) (ht : takerIn K C name = some none)
    (h : ∀ h', h'.Ns1 dx (fun y => if y = name then some v else mA y) → Heap.SameBut dx s.heap h' → Q () { s with heap := h', toks := s.toks + 2 }) :
    wpAny (model prog w) A (setAttr (.ref x) name v) Q E s := by
  obtain ⟨od, ho, _⟩ := lookIn_ns N
  have J : PySem.W.InstAt s.heap x { cls := .ref C, dict := some dx, data := .fields #[.ref t, .none, .none, .none, .bool false, .none] } C (some od) := ⟨I, rfl, rfl, ho⟩
  refine set_plain X J c.sa (osa_exc (s := { s with toks := s.toks + 1 }) X J c ht fun b => ?_)
  obtain ⟨cd, hc, hd'⟩ := any_some c.hd
  refine wpAny_bind (wpAny_pure (wpAny_bind (wpAny_bind (wpAny_loadPart (s := { s with toks := s.toks + 1 }) I (wpAny_bind (Looks.here (s := { s with toks := s.toks + 1 }) (looks_clsIn X hc) ?_))))))
  rw [hd']
  refine wpAny_pure (a := some dx) (wpAny_bind (wpAny_pure (wpAny_bind ?_)))
  refine wpAny_nsSet1 (s := { s with toks := s.toks + 1 }) N fun h' hn2 hs2 => ?_
  obtain ⟨oD, esD, epD, hoD, hdD, hcD⟩ := hn2.count (PySem.Within.cons name v hw)
  refine wpAny_bind (wpAny_lookBehind hoD (by rw [hdD]; exact pastItsLine_dict (Nat.le_trans hcD (by rw [List.length_cons, sizeLine_eq]; omega))) ?_)
  exact wpAny_pure (h _ hn2 hs2)
end

/-! ### C(..), C an own class of exceptions with an __init__ of its own -/
theorem ns_some_of {K : PySem.W.Frag} {h : Heap} {N : Addr} {mg : Str → Option Value} {n : Str} {v : Value} (X : K.In h) (G : h.Ns N mg) (e : PySem.W.nsIn K N n = some (some v)) : mg n = some v := by
  obtain ⟨o, es, ep, ho, hd, _, hf⟩ := G
  unfold PySem.W.nsIn at e
  split at e
  case h_2 => cases e
  case h_1 c d es' n' sl q =>
    have := X _ _ q
    rw [ho] at this
    cases this
    cases hd
    split at e
    case h_1 en he =>
      cases e
      rw [← hf]
      unfold nsFind findBy
      rw [← Array.find?_toList, he]
      rfl
    case h_2 => split at e <;> cases e
noncomputable def excInI (K : PySem.W.Frag) (C : Addr) (bmB : List Value) (newId : String) (f : Addr) : Bool := match K.lookup C with
  | some ⟨.type "type", _, .cls cd, sl⟩ => (match cd.mro, sl.toList with
    | .ref C' :: bm, [_, _, _, _, some (.builtin n), _] => C' == C && n == newId && !cd.hasDel && PySem.W.tailIn K bmB bm && PySem.W.nsOkIn K cd.ns && PySem.W.nsIn K cd.ns "__init__" == some (some (.ref f))
    | _, _ => false)
  | _ => false
theorem own_of_KI {K : PySem.W.Frag} {h : Heap} {C f : Addr} {bmB : List Value} {newId : String} (X : K.In h) (q : excInI K C bmB newId f = true) :
    ∃ bm N nm q bs hdct sn sub ab col dd k0 k1 k2 k3 k5 mN, h.get? C = some (excClassObj nm q C N bs bm hdct sn sub ab col dd k0 k1 k2 k3 k5 newId) ∧ h.Ns N mN ∧ mN "__init__" = some (.ref f) ∧ OwnTail h bmB bm := by
  unfold excInI at q
  split at q
  case h_2 => cases q
  case h_1 dd cd sl ho =>
    split at q
    case h_2 => cases q
    case h_1 C' bm k0 k1 k2 k3 n k5 hm hs =>
      simp only [Bool.and_eq_true, beq_iff_eq, Bool.not_eq_true'] at q
      obtain ⟨⟨⟨⟨⟨e1, e2⟩, e3⟩, e4⟩, e5⟩, e6⟩ := q
      cases cd
      cases sl
      simp only at hm hs e3 e5 e6
      subst e1 e2 e3 hm hs
      have G := Heap.Ns.of_isNs (PySem.W.isNs_of_in X e5)
      exact ⟨_, _, _, _, _, _, _, _, _, _, _, _, _, _, _, _, _, X _ _ ho, G, ns_some_of X G e6, PySem.W.tail_of_in X e4⟩
section
variable {prog : Program} {w : World} {A : Around} {E : Value → Shared → Prop} {h : Heap} {g : Array GenState} {d : Drawn} {t : Nat} {os : OsState}
variable {nm q : Str} {C N : Addr} {bs bm bmB : List Value} {hdct : Bool} {sn : List Str} {sub : List Value} {ab : Bool} {col : Option Bool} {dd : Option Addr} {k0 k1 k2 k3 k5 : Option Value} {B newId initId : String}
theorem made_init (F : ExcBaseFacts B newId initId bmB) (T : OwnTail h bmB bm) {mN : Str → Option Value} {rest : List Value} {fI : Addr} {oI : Obj} {Q : Fin → Shared → Prop}
    (hC : h.get? C = some (excClassObj nm q C N bs bm hdct sn sub ab col dd k0 k1 k2 k3 k5 newId)) (hn : h.Ns N mN) (hi : mN "__init__" = some (.ref fI)) (hfI : h.get? fI = some oI) (hfc : oI.cls = .type "function")
    (hq : ∀ h' e, Heap.MadeExcOf h h' e (.ref C) rest →
      wpAny (model prog w) A (call (.ref fI) (.ref e :: rest)) (fun r s' => r = .none ∧ Q (.done (.ret (.ref e))) s') E ⟨h', g, d, t, os⟩) (hrest : rest.length ≤ sizeLine) :
    wpAny (model prog w) A (Builtin.«type.__call__» ⟨.ref C :: rest, []⟩) Q E ⟨h, g, d, t, os⟩ := by
  repeat (first | with_reducible refine wpAny_loadPart_at hC ?_ | with_reducible refine wpAny_madeBy_exc hC ?_ | wp_step)
  refine codeAny_call_builtin_code (Code.quiet_builtin _ F.quiet) (wpAny_check_new_subT F T hC ?_)
  refine codeAny_exc_new_subT F T hC ?_ hrest
  show wpAny _ _ _ _ _ _
  have kp : ∀ b o, h.get? b = some o → ((h.push { cls := .type "tuple", data := .seq rest.toArray }).push { cls := .ref C, data := .fields #[.ref h.objs.size, .none, .none, .none, .bool false, .none] }).get? b = some o :=
    fun b o e => Heap.get?_push_of_some _ (Heap.get?_push_of_some _ e)
  have hC₁ := kp _ _ hC
  have hfI₁ := kp _ _ hfI
  have hn₁ := hn.keeps kp
  have hget : ((h.push { cls := .type "tuple", data := .seq rest.toArray }).push
      { cls := .ref C, data := .fields #[.ref h.objs.size, .none, .none, .none, .bool false, .none] }).get? (h.objs.size + 1) = some
      { cls := .ref C, data := .fields #[.ref h.objs.size, .none, .none, .none, .bool false, .none] } := by heap_get
  have hcC : (Value.ref C :: bm).contains (.ref C) = true := by simp
  have T₁ := T.keeps kp
  unfold isInstance
  repeat (first | with_reducible refine wpAny_loadPart_at hget ?_ | (with_reducible refine wpAny_isSubtype_exc hC₁ ?_; rw [hcC]) | wp_step)
  show wpAny _ _ (typeLookup (.ref C) _) _ _ _
  refine wpAny_typeLookup_tail hC₁ hn₁ T₁ F.mroIs F.init.lookup ?_
  rw [hi]
  refine wpAny_holding (wpAny_bind ?_)
  unfold bindSpecial
  refine wpAny_bind (wpAny_typeOf (T := "function") ⟨_, hfI₁, hfc⟩ ?_)
  rw [if_pos (by decide)]
  refine wpAny_pure (wpAny_bind (wpAny_mono (hq _ (h.objs.size + 1) ⟨kp, Heap.get?_none_of_le (Nat.le_succ _), h.objs.size, hget, Heap.get?_none_of_le (Nat.le_refl _), ?_⟩) (fun r s' hr => ?_) fun _ _ x => x))
  · exact Heap.get?_push_of_some _ (Heap.get?_push_at rfl rfl)
  · obtain ⟨rfl, hQ⟩ := hr
    wp_walk
    exact hQ
theorem call_init (F : ExcBaseFacts B newId initId bmB) (T : OwnTail h bmB bm) {mN : Str → Option Value} {rest : List Value} {fI : Addr} {oI : Obj} {Q : Value → Shared → Prop}
    (hC : h.get? C = some (excClassObj nm q C N bs bm hdct sn sub ab col dd k0 k1 k2 k3 k5 newId)) (hn : h.Ns N mN) (hi : mN "__init__" = some (.ref fI)) (hfI : h.get? fI = some oI) (hfc : oI.cls = .type "function")
    (hq : ∀ h' e, Heap.MadeExcOf h h' e (.ref C) rest →
      wpAny (model prog w) (A.under (.builtin "type.__call__" ⟨.ref C :: rest, []⟩)) (call (.ref fI) (.ref e :: rest)) (fun r s' => r = .none ∧ Q (.ref e) s') E ⟨h', g, d, t, os⟩) (hrest : rest.length ≤ sizeLine) :
    wpAny (model prog w) A (call (.ref C) rest) Q E ⟨h, g, d, t, os⟩ := by
  have f1 := tc_lookup
  have f2 := tc_bind (.ref C)
  have hT : (⟨h, g, d, t, os⟩ : Shared).TypeIs (.ref C) "type" := ⟨_, hC, rfl⟩
  refine wpAny_call (codeAny_of_tree ?_)
  show wpAny _ _ (callAny (.ref C) _) _ _ _
  repeat (any_goals (first | assumption | with_reducible refine wpAny_loadPart_at hC ?_ | wp_step))
  refine ⟨rfl, ?_⟩
  refine codeAny_call_builtin_at (Code.quiet_builtin _ (by decide +kernel)) entry_typeCall (wpAny_check_type_call_sub hC (made_init (hrest := hrest) F T hC hn hi hfI hfc fun h' e hm => ?_))
  exact hq h' e hm
end
section
variable {M : Model} {A : Around} {E : Value → Shared → Prop} {env : Env}
variable {nm q : Str} {C N : Addr} {bs bm : List Value} {hdct : Bool} {sn : List Str} {sub : List Value} {ab : Bool} {col : Option Bool} {dd : Option Addr} {k0 k1 k2 k3 k5 : Option Value} {newId : String}
theorem raised_made {s : Shared} {x : Sem Value} {Q : Flow → Shared → Prop} (hbase : bm.contains (.type "BaseException") = true) (hh : A.handled = none)
    (h : wpAny M A x (fun v s₁ => ∃ e t ed, v = .ref e ∧ s₁.heap.get? C = some (excClassObj nm q C N bs bm hdct sn sub ab col dd k0 k1 k2 k3 k5 newId) ∧ ExcN e C t ed s₁.heap ∧ E (.ref e) s₁) E s) :
    wpAny M A (raiseStmt env (some x) none) Q E s := by
  have hcB : (Value.ref C :: bm).contains (.type "BaseException") = true := by rw [List.contains_cons, hbase, Bool.or_true]
  unfold raiseStmt
  refine wpAny_bind (wpAny_mono h (fun v s₁ h₁ => ?_) fun _ _ x => x)
  obtain ⟨e, t, ed, rfl, hC, he, hE⟩ := h₁
  obtain ⟨hp, g, d, tk, os⟩ := s₁
  unfold ExcN at he
  repeat (first | with_reducible refine wpAny_loadPart_at he ?_ | with_reducible refine wpAny_loadPart_at hC ?_ | (with_reducible refine wpAny_isSubtype_exc hC ?_; rw [hcB]) | wp_step)
  exact wpAny_raiseNew_none hh hE
end
end L2

set_option Elab.async false
set_option linter.all false
set_option maxRecDepth 100000
set_option maxHeartbeats 4000000
namespace L2
open PySem PySem.Spec PyProof.Rows
section
variable {prog : Program} {w : World} {A : Around} {E : Value → Shared → Prop} {s : Shared} {env : Env}
variable {nm q : Str} {C N : Addr} {bs bm bmB : List Value} {hdct : Bool} {sn : List Str} {sub : List Value} {ab : Bool} {col : Option Bool} {dd : Option Addr} {k0 k1 k2 k3 k5 : Option Value} {B newId initId : String}
theorem raise_init (F : ExcBaseFacts B newId initId bmB) {mN : Str → Option Value} {fI : Addr} {x : Str} {np cpos pos : Pos} {args : List Expr} {Q : Flow → Shared → Prop}
    (hbase : bm.contains (.type "BaseException") = true) (hh : A.handled = none) (hplain : (backTo cpos (starEach args env)).any (·.1) = false) (hi : mN "__init__" = some (.ref fI))
    (h : wpAny (model prog w) A (eval (.Name x np) env) (fun f s₁ => f = .ref C ∧ wpAny (model prog w) A (evalArgs (.ref C) true (backTo cpos (starEach args env)) [])
      (fun a s₂ => a.kw = [] ∧ a.pos.length ≤ sizeLine ∧ s₂.heap.get? C = some (excClassObj nm q C N bs bm hdct sn sub ab col dd k0 k1 k2 k3 k5 newId) ∧ s₂.heap.Ns N mN ∧ OwnTail s₂.heap bmB bm ∧ (∃ oI, s₂.heap.get? fI = some oI ∧ oI.cls = .type "function") ∧
        ∀ h' e, Heap.MadeExcOf s₂.heap h' e (.ref C) a.pos → wpAny (model prog w) (A.under (.builtin "type.__call__" ⟨.ref C :: a.pos, []⟩)) (call (.ref fI) (.ref e :: a.pos))
          (fun r s' => r = .none ∧ (∃ t ed, s'.heap.get? C = some (excClassObj nm q C N bs bm hdct sn sub ab col dd k0 k1 k2 k3 k5 newId) ∧ ExcN e C t ed s'.heap) ∧ E (.ref e) s') E { s₂ with heap := h' }) E s₁) E s) :
    wpAny (model prog w) A (exec (.Raise (some (.Call (.Name x np) args [] cpos)) none pos) env) Q E s := by
  rw [arm_exec_Raise]
  refine wpAny_bind (wpAny_standAt (raised_made (C := C) (nm := nm) (q := q) (N := N) (bs := bs) (bm := bm) (hdct := hdct) (sn := sn) (sub := sub) (ab := ab) (col := col) (dd := dd) (k0 := k0) (k1 := k1) (k2 := k2) (k3 := k3) (k5 := k5) (newId := newId) hbase hh (wpAny_bind (wpAny_mono (wpAny_Call_ofName (wpAny_mono h (fun f s₁ h₁ => ?_) fun _ _ x => x)) (fun v s₃ h₃ => wpAny_bind (wpAny_standAt (wpAny_pure h₃))) fun _ _ x => x))))
  obtain ⟨rfl, h₁⟩ := h₁
  unfold callWith
  refine wpAny_bind (wpAny_holding (wpAny_mono h₁ (fun a s₂ h₂ => wpAny_bind (wpAny_standAt ?_)) fun _ _ x => x))
  obtain ⟨apos, akw⟩ := a
  obtain ⟨hkw, hlen, hC, hn, T, ⟨oI, ho, hoc⟩, h₂⟩ := h₂
  obtain rfl : akw = [] := hkw
  obtain ⟨hp, g, d, tk, os⟩ := s₂
  simp only [hplain]
  refine wpAny_bind (wpAny_keeperOf_exc hC ?_)
  refine wpAny_bind (call_init (hrest := hlen) F T hC hn hi ho hoc fun h' e hm => wpAny_mono (h₂ h' e hm) (fun r s' ⟨hr, ⟨t, ed, hC', hx⟩, hE⟩ => ⟨hr, wpAny_bind (wpAny_holding (wpAny_point (wpAny_pure ?_)))⟩) fun _ _ x => x)
  exact ⟨e, t, ed, rfl, hC', hx, hE⟩
end
/-! ### how an exception leaves a def: its class, its own dict -/
noncomputable def CX2 (κ : Option Value → Prop) (P : Program) (w : World) : CXT := fun outer H s E e s' => ∃ (ea : Addr) (cls : Value) (dd : Option Addr) (cx : Option Value) (B : Heap) (H' : Hp), e = .ref ea ∧ κ cx ∧ FlyD B outer ea cls dd cx s'.heap ∧
  (∀ b o, s.heap.get? b = some o → b ∉ frs outer → ∃ o', B.get? b = some o') ∧ (∀ a o, H' a = some o → ∃ ob, B.get? a = some ob) ∧ s'.os = s.os ∧ AllBare s'.gens ∧ Un (frs outer) [] H H' s.heap s'.heap ∧ HOk P w H' s'.heap ∧ E cls dd H'
section
variable {X : Cx} {pins : List (Addr × Obj)} {σ : St} {H H' : Hp} {s s' : Shared} {B h'' : Heap}
theorem lands2 (b : Body X) (I : Inv X pins σ H s) (un : Un (L2.frs X.stack) [] H H' s.heap s'.heap) (hok : HOk X.prog X.w H' s'.heap) (os : s'.os = s.os) (bare : AllBare s'.gens)
    (hB1 : B.StaysIn s'.heap) (hB2 : B.StaysIn h'') (up : s'.heap.UpToSlots h'') (fr : ∀ c ∈ L2.frs X.stack, ∃ o, s'.heap.get? c = some o ∧ ∀ vs, o.data ≠ .fields vs)
    (inB : ∀ c o, X.s₀.heap.get? c = some o → c ∉ X.fs → ∃ o', B.get? c = some o') (pres : ∀ c o, s.heap.get? c = some o → H c = none → c ∉ L2.frs X.stack → ∃ o', B.get? c = some o') (trk : ∀ a o, H' a = some o → ∃ ob, B.get? a = some ob) : Inv X pins σ H' { s' with heap := h'' } := by
  have I' : Inv X pins σ H' s' := I.call' os un hok bare fun c hc => absurd hc (by simp)
  have same : ∀ c o, s'.heap.get? c = some o → (∃ o', B.get? c = some o') → h''.get? c = some o := fun c o e ⟨o', eb⟩ => by
    have := hB1 c o' eb
    rw [e] at this
    cases this
    exact hB2 c _ eb
  have fsub : ∀ c ∈ X.fs, c ∈ L2.frs X.stack := fun c hc => by rw [b.frs]; exact List.mem_cons_of_mem _ hc
  refine ⟨I'.ok, I'.os, I'.bare, ⟨fun c o q n hb hx => same c o (I'.base.keep c o q n hb hx) (inB c o q hb), fun c o q n hb hx => ?_, I'.base.free, fun c o q hx => ?_, I'.base.tups, I'.base.frzs, I'.base.tbls⟩, ?_, fun x c e => ?_, I'.free, I'.freeC, fun p hp => ?_, fun a o e => ?_, I'.len⟩
  · obtain ⟨sl, e1⟩ := I'.base.slot c o q n hb hx
    obtain ⟨o1, e2, nd⟩ := fr c (fsub c hb)
    rw [e1] at e2
    cases e2
    obtain ⟨sl', e3⟩ := up c _ e1 nd
    exact ⟨sl', e3⟩
  · by_cases hb : c ∈ X.fs
    · obtain ⟨o1, e2, nd⟩ := fr c (fsub c hb)
      obtain ⟨sl', e3⟩ := up c _ e2 nd
      exact ⟨_, e3⟩
    · obtain ⟨o', eb⟩ := inB c o q hb
      exact ⟨o', hB2 c o' eb⟩
  · obtain ⟨m, hn, hl⟩ := I'.loc
    refine ⟨m, up.ns hn, fun i x v e1 e2 e3 => ?_⟩
    obtain ⟨u, r, lk⟩ := hl i x v e1 e2 e3
    refine ⟨u, r, ?_⟩
    rcases lk with z | ⟨k, c, ec, oc, hc, hd⟩
    · exact .inl z
    · obtain ⟨v0, o0, ho0, _⟩ := I.cell x c ec
      exact .inr ⟨k, c, ec, oc, same c oc hc (pres c o0 ho0 (I.freeC x c ec) (b.cell I ec)), hd⟩
  · obtain ⟨v1, o1, ho1, hd1⟩ := I'.cell x c e
    obtain ⟨v0, o0, ho0, _⟩ := I.cell x c e
    exact ⟨v1, o1, same c o1 ho1 (pres c o0 ho0 (I.freeC x c e) (b.cell I e)), hd1⟩
  · obtain ⟨e, n, ne, nf, d⟩ := I'.pin p hp
    obtain ⟨e0, n0, _⟩ := I.pin p hp
    refine ⟨same p.1 p.2 e (pres p.1 p.2 e0 n0 ?_), n, ne, nf, d⟩
    rw [b.frs]
    intro hm
    rcases List.mem_cons.mp hm with z | z
    · exact ne z
    · exact nf z
  · refine (I'.hok a o e).stay (fun c u hc q => same c u q ?_) (fun _ q => q) fun _ _ q => q
    rcases hc with rfl | hc
    · exact trk _ _ e
    · exact trk _ _ hc
end
noncomputable def del (H : Hp) (a : Addr) : Hp := fun b => if b = a then none else H b
theorem del_ne {H : Hp} {a b : Addr} (h : b ≠ a) : del H a b = H b := if_neg h
theorem del_same {H : Hp} {a : Addr} : del H a a = none := if_pos rfl
noncomputable def excN (e C t : Addr) (dd : Option Addr) : HO := .ext (ExcN e C t dd)
theorem excN_ok {P : Program} {w : World} {H : Hp} {h : Heap} {e C t : Addr} {dd : Option Addr} (p : ExcN e C t dd h) : ObjOk P w H h e (excN e C t dd) := ⟨p, ⟨_, p⟩, fun _ _ q k => k _ q⟩
noncomputable def XdAt (dx : Addr) (fs : List (Str × V)) (h : Heap) : Prop := ∃ mA, h.Ns1 dx mA ∧ ∀ f, RelO (fs.lookup f) (mA f)
noncomputable def xdO (dx : Addr) (fs : List (Str × V)) : HO := .ext (XdAt dx fs)
theorem XdAt.obj {dx : Addr} {fs : List (Str × V)} {h : Heap} (p : XdAt dx fs h) : ∃ o, h.get? dx = some o := by obtain ⟨_, ⟨o, _, _, e, _⟩, _⟩ := p; exact ⟨o, e⟩
theorem xd_ok {P : Program} {w : World} {H : Hp} {h : Heap} {dx : Addr} {fs : List (Str × V)} (p : XdAt dx fs h) : ObjOk P w H h dx (xdO dx fs) := ⟨p, p.obj, fun _ _ hsl54 k => by obtain ⟨mA, n, r⟩ := hsl54; exact ⟨mA, n.at k, r⟩⟩
section
variable {P : Program} {w : World} {K : PySem.W.Frag} {mg : Str → Option Value} {base : Heap} {N : List Str} {qual : Str} {scope : Scope} {f : Addr} {cd : Value} {A : Around} {outer : List Env} {s₀ : Shared} {H₀ : Hp} {E : XK}
/-- an exception of a callee goes on out of the def -/
theorem pass2 {κ κ' : Option Value → Prop} (hκ : ∀ cx, κ' cx → κ cx) : Passes (CX2 κ' P w) (cxOf (CX2 κ P w) P w K mg base N qual scope f cd A outer s₀ H₀ E) E := by
  intro pins σ H s e s' I h
  obtain ⟨ea, cls, dd, cx, B, H', rfl, hc, fl, pres, trk, os, bare, un, hok, q⟩ := h
  have bd := body_cx (CX := CX2 κ P w) (P := P) (w := w) (K := K) (mg := mg) (base := base) (N := N) (qual := qual) (scope := scope) (f := f) (cd := cd) (A := A) (outer := outer) (s₀ := s₀) (H₀ := H₀) (E := E)
  refine leaves_onD I.ok.frames rfl fl fun h'' fl'' up => ?_
  have J := lands bd I un hok os bare fl.1 fl''.1 up (frames_of fl.2.2.1) pres trk
  refine ⟨ea, cls, dd, cx, B, H', rfl, hκ _ hc, fl'', fun b o e hb => ?_, trk, J.os, J.bare, J.base, J.hok, q⟩
  obtain ⟨o1, e1⟩ := I.base.there b o e (by rw [bd.ex]; simp)
  exact pres b o1 e1 (bd.old I e hb)
/-- an exception that was made here, tracked, goes on out of the def -/
noncomputable def RaiseOk2 (X : Cx) (E : XK) : Prop := ∀ (pins : List (Addr × Obj)) (σ : St) (H : Hp) (s : Shared) (ea C t : Addr) (dd : Option Addr), Inv X pins σ H s → H ea = some (excN ea C t dd) → X.s₀.heap.get? ea = none → E (.ref C) dd (del H ea) → X.xe (.ref ea) s
theorem raise2 {κ : Option Value → Prop} (h0 : κ (some .none)) : RaiseOk2 (cxOf (CX2 κ P w) P w K mg base N qual scope f cd A outer s₀ H₀ E) E := by
  intro pins σ H s ea C t dd I ha hnew q
  have bd := body_cx (CX := CX2 κ P w) (P := P) (w := w) (K := K) (mg := mg) (base := base) (N := N) (qual := qual) (scope := scope) (f := f) (cd := cd) (A := A) (outer := outer) (s₀ := s₀) (H₀ := H₀) (E := E)
  generalize hX : cxOf (CX2 κ P w) P w K mg base N qual scope f cd A outer s₀ H₀ E = X at I bd hnew
  have px : ExcN ea C t dd s.heap := (show ObjOk X.prog X.w H s.heap ea (.ext (ExcN ea C t dd)) from I.hok ea _ ha).1
  have nst : ea ∉ L2.frs X.stack := fun hm => by rw [I.stkFree ea hm] at ha; cases ha
  have hin : ∀ b o, s.heap.get? b = some o → b ≠ ea → b ∉ L2.frs X.stack → (PySem.W.hideAll s.heap (ea :: L2.frs X.stack)).get? b = some o := fun b o e n1 n2 => PySem.W.hideAll_get _ e (by intro z; rcases List.mem_cons.mp z with z | z; exact n1 z; exact n2 z)
  have hst : (PySem.W.hideAll s.heap (ea :: L2.frs X.stack)).StaysIn s.heap := fun b o e => PySem.W.of_hideAll _ e
  have ff : s.heap.FunFrames (PySem.W.hideAll s.heap (ea :: L2.frs X.stack)) X.stack := PySem.W.funFrames_hide I.stack fun env he a hf => List.mem_cons_of_mem _ (List.mem_filterMap.mpr ⟨env, he, hf⟩)
  have hno : (PySem.W.hideAll s.heap (ea :: L2.frs X.stack)).get? ea = none := PySem.W.hideAll_none _ List.mem_cons_self
  have dl : ∀ b o, H b = some o → (∀ φ, o ≠ .ext φ) → del H ea b = some o := fun b o e n => by rw [del_ne (fun z => n (ExcN ea C t dd) (by rw [z, ha] at e; exact (Option.some.inj e).symm))]; exact e
  have un : Un (L2.frs X.stack) [] H (del H ea) s.heap s.heap := by
    refine ⟨fun b o e _ _ _ => e, fun b o e _ _ _ => ⟨o.slots, e⟩, fun b o e n _ => ?_, fun b o e _ => ⟨o, e⟩, fun b xs e => dl _ _ e (fun _ z => nomatch z), fun b o u e => dl _ _ e (fun _ z => nomatch z), fun b ps e => ⟨#[], by rw [Array.append_empty]; exact dl _ _ e (fun _ z => nomatch z)⟩⟩
    unfold del
    split
    · rfl
    · exact n
  have hok : HOk X.prog X.w (del H ea) s.heap := fun b o e => by
    have hb : b ≠ ea := fun z => by rw [z, del_same] at e; cases e
    rw [del_ne hb] at e
    exact (I.hok b o e).stay (fun _ _ _ z => z) (fun c z => dl _ _ z (fun _ z => nomatch z)) fun c xs z => dl _ _ z (fun _ z => nomatch z)
  have trk : ∀ a o, del H ea a = some o → ∃ ob, (PySem.W.hideAll s.heap (ea :: L2.frs X.stack)).get? a = some ob := fun a o e => by
    have hb : a ≠ ea := fun z => by rw [z, del_same] at e; cases e
    rw [del_ne hb] at e
    obtain ⟨ob, hob⟩ := obj_is I e
    exact ⟨ob, hin a ob hob hb fun hm => by rw [I.stkFree a hm] at e; cases e⟩
  have pres : ∀ b o, X.s₀.heap.get? b = some o → b ∉ X.fs → ∃ o', (PySem.W.hideAll s.heap (ea :: L2.frs X.stack)).get? b = some o' := fun b o e hb => by
    obtain ⟨o1, e1⟩ := I.base.there b o e (by rw [bd.ex]; simp)
    exact ⟨o1, hin b o1 e1 (fun z => by rw [z, hnew] at e; cases e) (bd.old I e hb)⟩
  subst hX
  refine leaves_firstD I.ok.frames ff rfl px hst hno rfl rfl fun h'' fl up => ?_
  have J := lands2 bd I un hok rfl I.bare hst fl.1 up (frames_of ff) pres (fun b o e n hb => ⟨o, hin b o e (fun z => by rw [z, ha] at n; cases n) hb⟩) trk
  exact ⟨ea, .ref C, dd, some .none, _, del H ea, rfl, h0, fl, pres, trk, J.os, J.bare, J.base, J.hok, q⟩
end

/-! ### self.f = v in the __init__ of an exception -/
section
variable {X : Cx} {pins : List (Addr × Obj)} {σ : St} {H : Hp} {s : Shared} {a C t dx : Addr} {fs : List (Str × V)} {f : Str} {A : Around} {E : Value → Shared → Prop}
theorem setx1_ok {y : V} {u : Value} {Q : Unit → Shared → Prop} (bd : Body X) (I : Inv X pins σ H s) (e : H a = some (excN a C t none)) (c : ICls X.K C) (n : NoAttr X.K C f) (ry : RelV y u)
    (h : ∀ dx s', H dx = none → dx ≠ a → Inv X pins σ (upd (upd H a (excN a C t (some dx))) dx (xdO dx [(f, y)])) s' → Q () s') : wpAny (model X.prog X.w) A (setAttr (.ref a) f u) Q E s := by
  have p : ExcN a C t none s.heap := (show ObjOk X.prog X.w H s.heap a (.ext (ExcN a C t none)) from I.hok a _ e).1
  refine set_exc1 I.kIn p c n.taker fun h' N p' kp => ?_
  have hn : H s.heap.objs.size = none := I.hok.fresh (Nat.le_refl _)
  have lt : ∀ {b : Addr} {o : Obj}, s.heap.get? b = some o → b ≠ s.heap.objs.size := fun q => Nat.ne_of_lt (Heap.lt_size q)
  refine h s.heap.objs.size _ hn (lt p).symm ?_
  have I1 : Inv X pins σ (upd H a (excN a C t (some s.heap.objs.size))) { s with heap := h', toks := s.toks + 2 } :=
    I.write (x := a) (e := a) (by rw [e]; exact True.intro) (.inl rfl) (fun b q hb z => kp b q hb z) ⟨_, p'⟩ (excN_ok p')
  refine I1.track (by rw [upd_ne (lt p).symm]; exact hn) ?_ ?_ (fun x c ec z => ?_) (fun p hp z => ?_) (xd_ok ⟨_, N, fun g => ?_⟩)
  · cases z : X.s₀.heap.get? s.heap.objs.size with
    | none => rfl
    | some o =>
      obtain ⟨o1, e1⟩ := I.base.there _ o z (by rw [bd.ex]; simp)
      exact absurd rfl (lt e1)
  · obtain ⟨m, ⟨o, _, _, eo, _⟩, _⟩ := I.loc
    exact (lt eo).symm
  · obtain ⟨_, o0, ho0, _⟩ := I.cell x c ec
    exact lt ho0 z
  · obtain ⟨e0, _⟩ := I.pin p hp
    exact lt e0 z
  · show RelO (List.lookup g [(f, y)]) (if g = f then some u else none)
    by_cases q : g = f
    · rw [if_pos q]
      simp only [List.lookup, beq_iff_eq.mpr q]
      exact ry
    · rw [if_neg q]
      simp only [List.lookup, beq_eq_false_iff_ne.mpr q]
      exact True.intro
theorem within_of {fs : List (Str × V)} {mA : Str → Option Value} (r : ∀ f, RelO (fs.lookup f) (mA f)) : PySem.Within mA (fs.map (·.1)) := fun g hg => by
  cases q : fs.lookup g with
  | none => exact absurd (RelO.none_of (by rw [← q]; exact r g)) hg
  | some v =>
    clear r hg
    induction fs with
    | nil => cases q
    | cons p fs ih =>
      simp only [List.lookup] at q
      split at q
      · rename_i z
        rw [beq_iff_eq.mp z]; exact List.mem_cons_self
      · exact List.mem_cons_of_mem _ (ih q)
theorem setx2_ok {y : V} {u : Value} {Q : Unit → Shared → Prop} (I : Inv X pins σ H s) (e : H a = some (excN a C t (some dx))) (ed : H dx = some (xdO dx fs)) (ne : dx ≠ a) (hl : fs.length ≤ 1000) (c : ICls X.K C) (n : NoAttr X.K C f) (ry : RelV y u)
    (h : ∀ s', Inv X pins σ (upd H dx (xdO dx (putF f y fs))) s' → Q () s') : wpAny (model X.prog X.w) A (setAttr (.ref a) f u) Q E s := by
  have p : ExcN a C t (some dx) s.heap := (show ObjOk X.prog X.w H s.heap a (.ext (ExcN a C t (some dx))) from I.hok a _ e).1
  obtain ⟨mA, N, r⟩ : XdAt dx fs s.heap := (show ObjOk X.prog X.w H s.heap dx (.ext (XdAt dx fs)) from I.hok dx _ ed).1
  refine set_exc2 I.kIn p N ne (within_of r) (by rw [List.length_map]; exact hl) c n.taker fun h' N' sb => h _ ?_
  have xd' : XdAt dx (putF f y fs) h' := ⟨_, N', fun g => by
    show RelO ((putF f y fs).lookup g) (if g = f then some u else mA g)
    rw [lookup_putF]
    by_cases q : g = f
    · rw [if_pos q, if_pos q]; exact ry
    · rw [if_neg q, if_neg q]; exact r g⟩
  exact I.write (x := dx) (e := dx) (by rw [ed]; exact True.intro) (.inl rfl) (fun b q hb z => (sb.2 b hb).trans z) xd'.obj (xd_ok xd')
end
/-- self.f = v -/
noncomputable def sXfld (K : PySem.W.Frag) (ta tv : TE) (f : Str) : TS := fun D σ H => tv σ H fun y H1 => ta σ H1 fun x H2 => ∃ (a C t : Addr), x = .ref a ∧ ICls K C ∧ NoAttr K C f ∧
  ((H2 a = some (excN a C t none) ∧ ∀ dx, H2 dx = none → dx ≠ a → D.nx σ (upd (upd H2 a (excN a C t (some dx))) dx (xdO dx [(f, y)]))) ∨
   ∃ (dx : Addr) (fs : List (Str × V)), H2 a = some (excN a C t (some dx)) ∧ H2 dx = some (xdO dx fs) ∧ dx ≠ a ∧ fs.length ≤ 1000 ∧ D.nx σ (upd H2 dx (xdO dx (putF f y fs))))
section
variable {X : Cx} {o e value : Expr} {f : Str} {pos pos' tpos : Pos} {ta tv : TE}
theorem ps_xfld (bd : Body X) (ha : PE X o ta) (hv : PE X value tv) (hs : swapsWith value (some (.Attribute o f pos')) pos.line X.env = pure false := by rfl) : PS X (.Assign [.Attribute o f pos'] value pos) (sXfld X.K ta tv f) := by
  intro pins s σ H D I h
  refine plainObj_wpAny_Assign_Attribute (thn (hv pins s σ H _ I h) fun u s1 ⟨y, H1, I1, ry, q⟩ => thn (ha pins s1 σ H1 _ I1 q) fun ov s2 hsl55 => ?_) hs
  obtain ⟨x, H2, I2, rx, a, C, t, ex, c, n, q2⟩ := hsl55
  subst ex
  obtain rfl : ov = Value.ref a := rx
  rcases q2 with ⟨ea, q2⟩ | ⟨dx, fs, ea, ed, ne, hl, q2⟩
  · exact setx1_ok bd I2 ea c n ry fun dx s3 hn ne I3 => ⟨σ, _, I3, q2 dx hn ne⟩
  · exact setx2_ok I2 ea ed ne hl c n ry fun s3 I3 => ⟨σ, _, I3, q2⟩
end
/-! ### raise C(..) -/
/-- C(..) is made, its __init__ run, and it is raised -/
noncomputable def tRaiseI (E : XK) (C : Addr) (sp : Sp) (t : TA) : TS := fun _ σ H => t σ H fun vs H1 => vs.length ≤ sizeLine ∧ ∀ e tt, H1 e = none → H1 tt = none → e ≠ tt →
  sp (.ref e :: vs) (upd H1 e (excN e C tt none)) (fun v H2 => v = .non ∧ ∃ dd, H2 e = some (excN e C tt dd) ∧ E (.ref C) dd (del H2 e)) E0
structure MkI (K : PySem.W.Frag) (C f : Addr) (bm : List Value) (newId : String) : Prop where
  exc : excInI K C bm newId f = true
  fn : PySem.W.isFn K (.ref f) = true
section
variable {X : Cx}
theorem ps_raiseI {E : XK} {x : Str} {C f : Addr} {fd : FuncData} {ps : List Str} {k : Nat} {sp : Sp} {bm : List Value} {newId initId B : String} {e : Expr} {es : List Expr} {t : TA} {np cpos pos : Pos} (bd : Body X) (hR : RaiseOk2 X E) (hc : X.calm = true) (hg : Gl X x) (hm : X.mg x = some (.ref C))
    (M : MkI X.K C f bm newId) (FB : ExcBaseFacts B newId initId bm) (F : FnOk X.prog X.w X.K X.mg X.base CX0 k f fd ps sp) (hr : Room (k + 1) X.A) (hb : Binds X.K fd ps []) (ha : PA X (e :: es) t) (hdb : (x == ("__debug__" : Str)) = false := by decide)
    (he : starEach (e :: es) X.env = (false, eval e X.env) :: starEach es X.env := by rfl) (hpl : (backTo cpos (starEach es X.env)).any (·.1) = false := by rfl) : PS X (.Raise (some (.Call (.Name x np) (e :: es) [] cpos)) none pos) (tRaiseI E C sp t) := by
  intro pins s σ H D I h
  obtain ⟨tl, N, nm, qn, bs, hdct, sn, sub, ab, col, dd, k0, k1, k2, k3, k5, mN, hC, hN, hni, T⟩ := own_of_KI I.ok.mod.kin M.exc
  refine raise_init (C := C) (nm := nm) (q := qn) (N := N) (bs := bs) (bm := tl) (hdct := hdct) (sn := sn) (sub := sub) (ab := ab) (col := col) (dd := dd) (k0 := k0) (k1 := k1) (k2 := k2) (k3 := k3) (k5 := k5)
    FB (mN := mN) (T.hasType FB.hasBase) (I.ok.hd hc) (by rw [he]; show (false || (backTo cpos (starEach es X.env)).any (·.1)) = false; rw [hpl]; rfl) hni (ld_glob I hg hm ⟨rfl, ?_⟩ hdb)
  have hA := ha cpos pins s σ H _ I h
  rw [he] at hA ⊢
  refine Calls.evalArgs_plain (thn hA fun us s1 ⟨vs, H1, I1, r1, hl, q1⟩ => ⟨rfl, by rw [← r1.length]; exact hl, I1.bk _ _ hC, hN.keeps I1.bk, T.keeps I1.bk, ?_, fun h' ea mx => ?_⟩)
  · have q := beq_iff_eq.mp M.fn
    obtain ⟨o, ho, hoc⟩ := Option.map_eq_some_iff.mp (show (X.K.lookup f).map (·.cls) = some (.type "function") from q)
    exact ⟨o, I1.kIn _ _ ho, hoc⟩
  · obtain ⟨tt, ht, htn, htt⟩ := mx.there
    have lt : ∀ {b : Addr} {o : Obj}, s1.heap.get? b = some o → b ≠ ea := fun q z => by rw [z, mx.new] at q; cases q
    have none_of : ∀ b, s1.heap.get? b = none → H1 b = none := fun b hb => by
      cases z : H1 b with
      | none => rfl
      | some o =>
        obtain ⟨ob, hob⟩ := obj_is I1 z
        rw [hb] at hob
        cases hob
    have net : ea ≠ tt := fun z => by
      rw [z, htt] at ht
      cases ht
    have hs0 : X.s₀.heap.get? ea = none := by
      cases z : X.s₀.heap.get? ea with
      | none => rfl
      | some o =>
        obtain ⟨o1, e1⟩ := I1.base.there _ o z (by rw [bd.ex]; simp)
        exact absurd rfl (lt e1)
    have I1' : Inv X pins σ H1 { s1 with heap := h', toks := s1.toks } := I1.kept mx.keeps
    have I2 : Inv X pins σ (upd H1 ea (excN ea C tt none)) { s1 with heap := h', toks := s1.toks } := by
      refine I1'.track (none_of _ mx.new) hs0 ?_ (fun x c ec z => ?_) (fun p hp z => ?_) (excN_ok ht)
      · obtain ⟨m, ⟨o, _, _, eo, _⟩, _⟩ := I1.loc
        exact (lt eo).symm
      · obtain ⟨_, o0, ho0, _⟩ := I1.cell x c ec
        exact lt ho0 z
      · obtain ⟨e0, _⟩ := I1.pin p hp
        exact lt e0 z
    have hq := q1 ea tt (none_of _ mx.new) (none_of _ htn) net
    have r2 : Vals (V.ref ea :: vs) (Value.ref ea :: us) := .cons rfl r1
    have hl2 : ((Value.ref ea :: us) ++ ([] : List Value)).length = ps.length := by
      rw [List.append_nil, ← r2.length]
      exact F.len _ _ _ _ hq
    have hbb := hb { s1 with heap := h', toks := s1.toks } (Value.ref ea :: us) I2.kIn hl2
    rw [List.append_nil] at hbb
    refine wpAny_call (codeAny_mono (F.run _ X.stack _ _ ⟨Value.ref ea :: us, []⟩ (Value.ref ea :: us) _ _ E0 (hr.make C us []) (I2.env0.make C us []) hbb r2 hq) fun r s' hq' => ?_)
    cases r with
    | error e => exact False.elim hq'
    | ok fl =>
      cases fl with
      | ret u =>
        obtain ⟨v, H', I3, rv, ev, dd', hx, hE⟩ := I2.after hq'
        subst ev
        have px : ExcN ea C tt dd' s'.heap := (show ObjOk X.prog X.w H' s'.heap ea (.ext (ExcN ea C tt dd')) from I3.hok ea _ hx).1
        exact ⟨rv, ⟨tt, dd', I3.bk _ _ hC, px⟩, hR pins σ H' s' ea C tt dd' I3 hx hs0 hE⟩
      | next => exact False.elim hq'
      | brk => exact False.elim hq'
      | cont => exact False.elim hq'
end
end L2

set_option Elab.async false
set_option linter.all false
set_option maxRecDepth 100000
set_option maxHeartbeats 4000000
namespace L2
open PySem PySem.Spec PyProof.Rows
section
variable {P : Program} {w : World} {K : PySem.W.Frag} {mg : Str → Option Value} {base : Heap} {N : List Str} {qual : Str} {scope : Scope} {f : Addr} {cd : Value} {A : Around} {outer : List Env} {s₀ : Shared} {H₀ : Hp} {E : XK}
theorem Fun.ok2 {κ : Option Value → Prop} {x qual : Str} {st : Stmt} {f : Addr} {fd : FuncData} {N ps : List Str} {k : Nat} {sp : Sp} (F : Fun K x qual st f fd) (S : FnScope N ps (defScope st)) (len : ∀ vs H Q E, sp vs H Q E → vs.length = ps.length)
    (hbody : ∀ (cdv : Value) (A : Around) (outer : List Env) (s : Shared) (H : Hp) (vs : List V) (Q : VK) (E : XK), Room k (A.deeper (envOfC qual (defScope st) s.heap.objs.size f cdv)) → sp vs H Q E →
      ∃ t, PSs (cxOf (CX2 κ P w) P w K mg base N qual (defScope st) f cdv A outer s H E) (defBody st) t ∧ t { nx := fun _ H' => Q .non H', rt := Q } (start N vs) H) : FnOk P w K mg base (CX2 κ P w) (k + 1) f fd ps sp := by
  obtain ⟨oc, od, kV, doc, pm, an, cdv, ct, osl, rfl, lk, hcd⟩ := F.ex
  exact fn_of lk hcd S len fun A outer s H vs Q E hr hsp => hbody cdv A outer s H vs Q E hr hsp
end
/-! ### a caught exception: its class, its own dict -/
noncomputable def HasD (a : Addr) (cls : Value) (dd : Option Addr) (cx : Option Value) (h : Heap) : Prop := ∃ o vs, h.get? a = some o ∧ o.cls = cls ∧ o.dict = dd ∧ o.data = .fields vs ∧ vs[2]? = cx
noncomputable def excD (a : Addr) (cls : Value) (dd : Option Addr) (cx : Option Value) : HO := .ext (HasD a cls dd cx)
theorem excD_ok {P : Program} {w : World} {H : Hp} {h : Heap} {e : Addr} {cls : Value} {dd : Option Addr} {cx : Option Value} (p : HasD e cls dd cx h) : ObjOk P w H h e (excD e cls dd cx) :=
  ⟨p, by obtain ⟨o, _, q, _⟩ := p; exact ⟨o, q⟩, fun _ _ hsl56 k => by obtain ⟨o, vs, q, r⟩ := hsl56; exact ⟨o, vs, k _ q, r⟩⟩
theorem HasD.cls {a : Addr} {cls : Value} {dd : Option Addr} {cx : Option Value} {h : Heap} (p : HasD a cls dd cx h) : HasCls a cls h := by obtain ⟨o, _, q, r, _⟩ := p; exact ⟨o, q, r⟩
theorem FlyD.has {base h : Heap} {l : List Env} {e : Addr} {cls : Value} {dd : Option Addr} {cx : Option Value} (x : FlyD base l e cls dd cx h) : HasD e cls dd cx h := by
  obtain ⟨_, _, _, oe, vs, _, _, _, he, hc, hd, _⟩ := x
  exact ⟨oe, vs, he, hc.1, hc.2.1, hd, hc.2.2⟩
theorem FlyD.cls {base h : Heap} {l : List Env} {e : Addr} {cls : Value} {dd : Option Addr} {cx : Option Value} (x : FlyD base l e cls dd cx h) : HasCls e cls h := x.has.cls
/-- try: body; except C as n: suite -- C takes whatever may be raised -/
noncomputable def tTryD (κ : Option Value → Prop) (K : PySem.W.Frag) (C : Addr) (i : Nat) (tb : XK → TS) (ts : TS) : TS := fun D σ H =>
  tb (fun cls dd H1 => PySem.W.exmOne K cls (.ref C) = some true ∧ ∀ ea cx, κ cx → H1 ea = none → ts (D.unset i) (σ.set i (some (.ref ea))) (upd H1 ea (excD ea cls dd cx))) D σ H
section
variable {X : Cx}
theorem ps_tryD {κ : Option Value → Prop} {body : List Stmt} {tb : XK → TS} {x n : Str} {C : Addr} {i : Nat} {b₀ : Stmt} {suite : List Stmt} {ts : TS} {np hpos pos : Pos} (bd : Body X) (hx : PSX (CX2 κ X.prog X.w) X body tb) (hg : Gl X x) (hm : X.mg x = some (.ref C))
    (hN : X.N.Nodup) (hi : X.N[i]? = some n) (hk : X.env.scope.names.lookup n = some .local) (hsu : ∀ ea, PSs (X.hnd ea) (b₀ :: suite) ts) (hdb : (x == ("__debug__" : Str)) = false := by decide) :
    PS X (.Try body [.ExceptHandler (some (.Name x np)) (some n) (b₀ :: suite) hpos] [] [] pos) (tTryD κ X.K C i tb ts) := by
  intro pins s σ H D I h
  refine wpAny_Try_except (thn (hx _ _ pins s σ H D ?_ I h) fun f s1 q => ?_)
  case refine_2 =>
    cases f with
    | next => exact wpAny_execs_nil q
    | ret v => exact q
    | brk => exact q
    | cont => exact q
  intro H0 s0 ev s' I0 hc
  obtain ⟨ea, cls, dd, cx, B, H', rfl, hc0, fl, pres, trk, os, bare, un, hok, hit, q⟩ := hc
  have fr : X.A.frames = some (X.env :: X.outer) := by rw [← bd.stk]; exact I0.ok.frames
  have fl0 : FlyD B (X.env :: X.outer) ea cls dd cx s'.heap := by rw [← bd.stk]; exact fl
  refine note_on fr bd.frm fl0 fun h1 held up1 => ?_
  refine landsD (s := { s' with heap := h1 }) held fun h2 fl2 up2 => ?_
  have J2 : Inv X pins σ H' { s' with heap := h2 } := lands bd I0 un hok os bare fl.1 fl2.1 (up1.trans up2) (frames_of fl.2.2.1) pres trk
  refine wpAny_handleBy_cons (codeAny_handlers_test (ld_glob (J2.hnd ea) hg hm ?_ hdb)) (by intro q; cases q)
  have LT : PySem.W.Looks (model X.prog X.w) h2 (typeOf (.ref ea)) cls := HasCls.type fl2.cls
  refine (PySem.W.exm_one (M := model X.prog X.w) J2.kIn LT hit).here ?_
  refine codeAny_handlers_suite_as ?_
  refine lands_againD (s := { s' with heap := h2 }) fl2 fun h3 fl3 up3 => ?_
  have J3 : Inv X pins σ H' { s' with heap := h3 } := lands bd I0 un hok os bare fl.1 fl3.1 ((up1.trans up2).trans up3) (frames_of fl.2.2.1) pres trk
  have hBn : B.get? ea = none := fl.2.1
  have nst : ea ∉ L2.frs X.stack := fun hm => by
    obtain ⟨o, ho, nd⟩ := frames_of fl.2.2.1 ea hm
    obtain ⟨oe, vs, _, _, _, he, _, hd, _⟩ := fl.2.2.2
    rw [ho] at he
    cases he
    exact nd _ hd
  have hn : H' ea = none := by
    cases z : H' ea with
    | none => rfl
    | some o =>
      obtain ⟨ob, hb⟩ := trk ea o z
      rw [hBn] at hb
      cases hb
  have hs0 : s0.heap.get? ea = none := by
    cases z : s0.heap.get? ea with
    | none => rfl
    | some o =>
      obtain ⟨ob, hb⟩ := pres ea o z nst
      rw [hBn] at hb
      cases hb
  have hsX : X.s₀.heap.get? ea = none := by
    cases z : X.s₀.heap.get? ea with
    | none => rfl
    | some o =>
      obtain ⟨o1, e1⟩ := I0.base.there ea o z (by rw [bd.ex]; simp)
      rw [hs0] at e1
      cases e1
  have J4 : Inv X pins σ (upd H' ea (excD ea cls dd cx)) { s' with heap := h3 } := by
    refine J3.track hn hsX (fun z => nst ?_) (fun y c e z => ?_) (fun p hp z => ?_) (excD_ok fl3.has)
    · rw [bd.frs, z]; exact List.mem_cons_self
    · obtain ⟨_, o0, ho0, _⟩ := I0.cell y c e
      rw [z, hs0] at ho0
      cases ho0
    · obtain ⟨e, _⟩ := I0.pin p hp
      rw [z, hs0] at e
      cases e
  refine store_ok (X := X.hnd ea) (v := .ref ea) (J4.hnd ea) hN hi (.inl hk) rfl (fun s5 J5 => ?_) (.inr hk)
  refine wpAny_mono (hsu ea pins s5 _ _ (D.unset i) J5 (q ea cx hc0 hn)) (fun f s6 z => ?_) fun _ _ z => False.elim z
  cases f with
  | next => obtain ⟨σ6, H6, J6, q6⟩ := z; exact goes_ok (J6.unhnd I.ok) hN hi hk fun s7 J7 => ⟨_, _, J7, q6⟩
  | brk => obtain ⟨σ6, H6, J6, q6⟩ := z; exact goes_ok (J6.unhnd I.ok) hN hi hk fun s7 J7 => ⟨_, _, J7, q6⟩
  | cont => obtain ⟨σ6, H6, J6, q6⟩ := z; exact goes_ok (J6.unhnd I.ok) hN hi hk fun s7 J7 => ⟨_, _, J7, q6⟩
  | ret u => obtain ⟨v6, σ6, H6, J6, r6, q6⟩ := z; exact goes_ok (J6.unhnd I.ok) hN hi hk fun s7 J7 => ⟨_, _, _, J7, r6, q6⟩
theorem excD_has {pins : List (Addr × Obj)} {σ : St} {H : Hp} {s : Shared} {a : Addr} {cls : Value} {dd : Option Addr} {cx : Option Value} (I : Inv X pins σ H s) (e : H a = some (excD a cls dd cx)) : HasD a cls dd cx s.heap := (show ObjOk X.prog X.w H s.heap a (.ext (HasD a cls dd cx)) from I.hok a _ e).1
/-- isinstance(e, C): C an own class -/
theorem call_isexD {K : PySem.W.Frag} (hK : X.K = K) : CallR X (.builtin "isinstance") (fun xs H Q => ∃ a D C dd cx b, xs = [.ref a, .ref C] ∧ H a = some (excD a (.ref D) dd cx) ∧ XCls K D ∧ PySem.W.kitOne K (.ref D) (.ref C) = some b ∧ Q (.bl b) H) := by
  subst hK
  intro pins s σ H xs us Q I r h
  obtain ⟨a, D, C, dd, cx, b, rfl, ha, c, e, q⟩ := h
  obtain ⟨u, w', rfl, rx, rw'⟩ := vals2 r
  cases (show w' = Value.ref C from rw')
  cases (show u = Value.ref a from rx)
  exact PySem.W.kia_one (kitx_exc c) I.kIn (excD_has I ha).cls e (fun z => nomatch z) fun tk => ⟨.bl b, H, I.tok _, rfl, q⟩
end
end L2

set_option Elab.async false
set_option linter.all false
set_option maxRecDepth 100000
namespace L2
open PySem PySem.Spec PyProof.Rows
section
variable {X : Cx}
/-- isinstance(e, T): T a built-in type -/
theorem call_isexDTy {n : String} {K : PySem.W.Frag} (hK : X.K = K) : CallR X (.builtin "isinstance") (fun xs H Q => ∃ a D dd cx b, xs = [.ref a, .ty n] ∧ H a = some (excD a (.ref D) dd cx) ∧ XCls K D ∧ PySem.W.kitOne K (.ref D) (.type n) = some b ∧ Q (.bl b) H) := by
  subst hK
  intro pins s σ H xs us Q I r h
  obtain ⟨a, D, dd, cx, b, rfl, ha, c, e, q⟩ := h
  obtain ⟨u, w', rfl, rx, rw'⟩ := vals2 r
  cases (show w' = Value.type n from rw')
  cases (show u = Value.ref a from rx)
  exact PySem.W.kia_one (kitx_exc c) I.kIn (excD_has I ha).cls e (fun z => nomatch z) fun tk => ⟨.bl b, H, I.tok _, rfl, q⟩
/-- what may leave the body of a try -/
theorem try_cut {κ : Option Value → Prop} {K : PySem.W.Frag} {C : Addr} {i : Nat} {tb : XK → TS} {ts : TS} {D : Ends} {σ : St} {H : Hp} (B : Value → Option Addr → Hp → Prop) (h1 : ∀ E : XK, (∀ c dd H1, B c dd H1 → E c dd H1) → tb E D σ H)
    (h2 : ∀ c dd H1, B c dd H1 → PySem.W.exmOne K c (.ref C) = some true ∧ ∀ ea cx, κ cx → H1 ea = none → ts (D.unset i) (σ.set i (some (.ref ea))) (upd H1 ea (excD ea c dd cx))) : tTryD κ K C i tb ts D σ H := h1 _ h2
end
end L2

set_option Elab.async false
set_option linter.all false
set_option maxRecDepth 100000
set_option maxHeartbeats 4000000
namespace L2
open PySem PySem.Spec PyProof.Rows
/-! ### values as data, for == of lists and tuples -/
mutual
inductive Rdv (K : PySem.W.Frag) (H : Hp) : V → PyData → Prop
  | non : Rdv K H .non .none
  | bl (b : Bool) : Rdv K H (.bl b) (.bool b)
  | int (i : Int) : Rdv K H (.int i) (.int i)
  | str (x : Str) : Rdv K H (.str x) (.str x)
  | lst {a : Addr} {xs : List V} {ds : List PyData} : SqL K H a xs → RdvA K H xs ds → Rdv K H (.ref a) (.list ds)
  | tup {a : Addr} {xs : List V} {ds : List PyData} : SqT K H a xs → RdvA K H xs ds → Rdv K H (.ref a) (.tuple ds)
inductive RdvA (K : PySem.W.Frag) (H : Hp) : List V → List PyData → Prop
  | nil : RdvA K H [] []
  | cons {x : V} {d : PyData} {xs : List V} {ds : List PyData} : Rdv K H x d → RdvA K H xs ds → RdvA K H (x :: xs) (d :: ds)
end
section
variable {X : Cx} {pins : List (Addr × Obj)} {σ : St} {H : Hp} {s : Shared}
mutual
theorem Rdv.reads (I : Inv X pins σ H s) : ∀ {x : V} {d : PyData} {u : Value}, Rdv X.K H x d → RelV x u → ∃ as, Reads s.heap u d as
  | _, _, _, .non, r => by cases r; exact ⟨_, .none⟩
  | _, _, _, .bl b, r => by cases r; exact ⟨_, .bool b⟩
  | _, _, _, .int i, r => by obtain ⟨t, rfl⟩ := r; exact ⟨_, .int i t⟩
  | _, _, _, .str x, r => by obtain ⟨t, rfl⟩ := r; exact ⟨_, .str x t⟩
  | _, _, _, .lst hq ha, r => by
    cases r
    obtain ⟨its, rv, p, _⟩ := I.list hq
    obtain ⟨as, ra⟩ := RdvA.reads I ha rv
    obtain ⟨o, ho, hc, n, hd⟩ := p.isList
    exact ⟨_, .list ho hc hd (by simpa using ra)⟩
  | _, _, _, .tup hq ha, r => by
    cases r
    obtain ⟨its, rv, p, _⟩ := I.tuple hq
    obtain ⟨as, ra⟩ := RdvA.reads I ha rv
    obtain ⟨o, ho, hc, n, hd⟩ := p
    exact ⟨_, .tuple ho hc hd (by simpa using ra)⟩
theorem RdvA.reads (I : Inv X pins σ H s) : ∀ {xs : List V} {ds : List PyData} {us : List Value}, RdvA X.K H xs ds → Vals xs us → ∃ as, ReadsAll s.heap us ds as
  | _, _, _, .nil, r => by cases r; exact ⟨_, .nil⟩
  | _, _, _, .cons h t, r => by
    cases r with
    | cons r1 r2 =>
      obtain ⟨as, ra⟩ := Rdv.reads I h r1
      obtain ⟨bs, rb⟩ := RdvA.reads I t r2
      exact ⟨_, .cons ra rb⟩
end
end
section
variable {X : Cx}
theorem op_eqD {K : PySem.W.Frag} (hK : X.K = K) (hu : X.A.units + 64 < cLine) : OpR X (compareOp .Eq) (fun x y H Q => ∃ d e, Rdv K H x d ∧ Rdv K H y e ∧ SeqAt.shaped d = true ∧ SeqAt.shaped e = true ∧ Q (.bl (PyData.eqv d e)) H) := by
  intro pins s σ H x y v u Q I rx ry h
  subst hK
  obtain ⟨d, e, h1, h2, s1, s2, q⟩ := h
  obtain ⟨as, ra⟩ := h1.reads I rx
  obtain ⟨bs, rb⟩ := h2.reads I ry
  exact eq_dataH ra rb s1 s2 hu ⟨.bl _, H, I, rfl, q⟩
theorem op_neD {K : PySem.W.Frag} (hK : X.K = K) (hu : X.A.units + 64 < cLine) : OpR X (compareOp .NotEq) (fun x y H Q => ∃ d e, Rdv K H x d ∧ Rdv K H y e ∧ SeqAt.shaped d = true ∧ SeqAt.shaped e = true ∧ Q (.bl (!PyData.eqv d e)) H) := by
  intro pins s σ H x y v u Q I rx ry h
  subst hK
  obtain ⟨d, e, h1, h2, s1, s2, q⟩ := h
  obtain ⟨as, ra⟩ := h1.reads I rx
  obtain ⟨bs, rb⟩ := h2.reads I ry
  exact ne_dataH ra rb s1 s2 hu ⟨.bl _, H, I, rfl, q⟩
end
section
variable {X : Cx}
end
/-! shapes -/
noncomputable def Shd (n : Nat) (d : PyData) : Prop := d.canLay0 = true ∧ d.depth ≤ n
theorem Shd.int (i : Int) : Shd 0 (.int i) := ⟨rfl, Nat.le_refl _⟩
theorem Shd.bl (i : Bool) : Shd 0 (.bool i) := ⟨rfl, Nat.le_refl _⟩
theorem Shd.str {z : Str} (h : ∀ c ∈ z.cps.toList, c < 128) : Shd 0 (.str z) := ⟨by
  show PyData.strOk z = true
  unfold PyData.strOk
  rw [Array.all_eq_true]
  intro i hi
  have := h z.cps[i] (by simp)
  simp only [decide_eq_true_eq]
  omega, Nat.le_refl _⟩
theorem shd_all {n : Nat} : ∀ {ds : List PyData}, (∀ d ∈ ds, Shd n d) → PyData.canLayAll0 ds = true ∧ PyData.depthAll ds ≤ n
  | [], _ => ⟨rfl, Nat.zero_le _⟩
  | d :: r, h => by
    obtain ⟨a, b⟩ := h d List.mem_cons_self
    obtain ⟨c, e⟩ := shd_all (ds := r) fun x hx => h x (List.mem_cons_of_mem _ hx)
    exact ⟨by simp only [PyData.canLayAll0]; rw [a, c]; rfl, by simp only [PyData.depthAll]; omega⟩
theorem Shd.list {n : Nat} {ds : List PyData} (h : ∀ d ∈ ds, Shd n d) : Shd (n + 1) (.list ds) := ⟨by simp only [PyData.canLay0]; exact (shd_all h).1, by simp only [PyData.depth]; have := (shd_all h).2; omega⟩
theorem Shd.tuple {n : Nat} {ds : List PyData} (h : ∀ d ∈ ds, Shd n d) : Shd (n + 1) (.tuple ds) := ⟨by simp only [PyData.canLay0]; exact (shd_all h).1, by simp only [PyData.depth]; have := (shd_all h).2; omega⟩
theorem Shd.up {n m : Nat} {d : PyData} (h : Shd n d) (hm : n ≤ m) : Shd m d := ⟨h.1, Nat.le_trans h.2 hm⟩
theorem Shd.ok {n : Nat} {d : PyData} (h : Shd n d) (hn : n ≤ 64) : SeqAt.shaped d = true := by
  show (d.canLay0 && decide (d.depth ≤ 64)) = true
  rw [h.1, decide_eq_true (Nat.le_trans h.2 hn)]; rfl
theorem Shd.refl {n : Nat} {d : PyData} (h : Shd n d) : PyData.eqv d d = true := SeqAt.eqv_refl d h.1
theorem RdvA.map {α : Type} {K : PySem.W.Frag} {H : Hp} {f : α → V} {g : α → PyData} : ∀ {l : List α}, (∀ x ∈ l, Rdv K H (f x) (g x)) → RdvA K H (l.map f) (l.map g)
  | [], _ => .nil
  | x :: r, h => .cons (h x List.mem_cons_self) (RdvA.map fun y hy => h y (List.mem_cons_of_mem _ hy))
theorem Rdv.strs {K : PySem.W.Frag} {H : Hp} {a : Addr} {zs : List Str} (h : SqL K H a (zs.map V.str)) : Rdv K H (.ref a) (.list (zs.map PyData.str)) := .lst h (RdvA.map fun x _ => .str x)
end L2

set_option Elab.async false
set_option linter.all false
set_option maxRecDepth 100000
set_option maxHeartbeats 4000000
namespace L2
open PySem PySem.Spec PyProof.Rows
section
variable {X : Cx}
theorem ints_of : ∀ {ns : List Int} {us : List Value}, Vals (ns.map V.int) us → IntsAre us ns
  | [], _, r => by cases r; exact .nil
  | n :: ns, _, r => by
    cases r with
    | cons r1 r2 =>
      obtain ⟨t, rfl⟩ := (show ∃ t, _ = Value.int n t from r1)
      exact .cons n t (ints_of r2)
end
end L2

set_option Elab.async false
set_option linter.all false
set_option maxRecDepth 100000
set_option maxHeartbeats 4000000
namespace L2
open PySem PySem.Spec PyProof.Rows
section
variable {X : Cx}
/-- max of a list of whole numbers -/
theorem call_maxL {K : PySem.W.Frag} (hK : X.K = K) (hc : X.calm = true) : CallR X (.builtin "max") (fun xs H Q => ∃ (p : Addr) (ns : List Int), xs = [.ref p] ∧ SqL K H p (ns.map V.int) ∧ ns ≠ [] ∧ ∀ M, M ∈ ns → (∀ a ∈ ns, a ≤ M) → Q (.int M) H) := by
  intro pins s σ H xs us Q I r h
  subst hK
  obtain ⟨p, ns, rfl, hq, hne, q⟩ := h
  obtain ⟨u, rfl, ru⟩ := vals1 r
  cases (show u = Value.ref p from ru)
  obtain ⟨its, rv, pl, hz⟩ := I.list hq
  have hi := ints_of rv
  obtain ⟨xs, e⟩ := hi.allInts.items
  have hns : ns = xs.toList.map (·.1) := by rw [← hi.numsOf, ← nums_intItems, ← e]
  have hsz : 0 < xs.size := by
    have h3 : 0 < ns.length := List.length_pos_iff.mpr hne
    rw [hns, List.length_map, Array.length_toList] at h3; exact h3
  have hl := pl.isList
  rw [e] at hl
  refine max_intList (I.ok.hd hc) hl hsz fun v h' tk hv hk => ?_
  obtain ⟨t, rfl⟩ := intItems_at hv
  obtain ⟨h1, h2⟩ := argBest_gt (numAt xs) (xs.size - 1)
  refine ⟨.int _, H, I.kept (t' := tk) hk, ⟨t, rfl⟩, q _ ?_ fun a ha => ?_⟩
  · rw [hns, numAt_eq]; exact getD_mem (by rw [List.length_map, Array.length_toList]; omega)
  · rw [hns] at ha
    obtain ⟨j, hj, rfl⟩ := mem_getD ha
    rw [List.length_map, Array.length_toList] at hj
    rw [← numAt_eq]; exact h2 j (by omega)
/-- a text times a number -/
theorem op_repS : OpR X (binaryOp .Mult) (fun x y H Q => ∃ z n, x = .str z ∧ y = .int n ∧ MulOk z n ∧ Q (.str (Txt.mul z n)) H) := by
  intro pins s σ H x y v u Q I rx ry h
  obtain ⟨z, n, rfl, rfl, hz, q⟩ := h
  obtain ⟨t, rfl⟩ := rx
  obtain ⟨t', rfl⟩ := ry
  exact SB.mul hz (fun t' tk => ⟨.str (Txt.mul z n), H, I.tok _, ⟨_, rfl⟩, q⟩)
end
end L2

set_option Elab.async false
set_option linter.all false
set_option maxRecDepth 100000
set_option maxHeartbeats 4000000
namespace L2
open PySem PySem.Spec PyProof.Rows
/-! ### set(list of texts) and its len -/
noncomputable def dstep (σ : List Str) (v : Str) : List Str := if σ.any (· == v) then σ else σ ++ [v]
noncomputable def metS (val : Nat → Str) (i : Nat) : List Str := ((List.range i).map val).foldl dstep []
theorem metS_succ (val : Nat → Str) (i : Nat) : metS val (i + 1) = dstep (metS val i) (val i) := by
  unfold metS; rw [List.range_succ, List.map_append, List.foldl_append]; rfl
theorem dstep_any (σ : List Str) (v k : Str) : (dstep σ v).any (· == k) = (σ.any (· == k) || decide (k = v)) := by
  unfold dstep
  by_cases h : σ.any (· == v) = true
  · rw [if_pos h]
    by_cases e : k = v
    · subst e; rw [h]; simp
    · simp [e]
  · rw [if_neg h, List.any_append]
    by_cases e : k = v
    · subst e; simp
    · have hb : (v == k) = false := by simpa [beq_iff_eq] using (fun h' : v = k => e h'.symm)
      simp [hb, e]
theorem dstep_length (σ : List Str) (v : Str) : (dstep σ v).length = if σ.any (· == v) then σ.length else σ.length + 1 := by
  unfold dstep; split <;> simp
theorem metS_le (val : Nat → Str) : ∀ i, (metS val i).length ≤ i
  | 0 => Nat.le_refl _
  | i + 1 => by
    have ih := metS_le val i
    rw [metS_succ, dstep_length]
    split <;> omega
theorem strs_at : ∀ {vs : List Value} {zs : List Str}, StrsAre vs zs → ∀ (i : Nat) (v : Value), vs[i]? = some v → ∃ t, v = .str (zs.getD i ⟨#[]⟩) t
  | _, _, .nil, i, v, h => by simp at h
  | _, _, .cons n t hr, 0, v, h => by simp at h; exact ⟨t, by rw [← h]; rfl⟩
  | _, _, .cons n t hr, i + 1, v, h => by
    obtain ⟨t', e⟩ := strs_at hr i v (by simpa using h)
    exact ⟨t', by rw [e]; rfl⟩
section
variable {prog : Program} {w : World} {A : Around} {R : Result → Shared → Prop} {I : Addr} {fp wr : List Addr} {G : Array GenState → Array GenState → Prop} {n : Nat} {P : Nat → Value → Prop} {St : Nat → Shared → Prop}
theorem set_loopT (W : WalksS prog w A.in1 I fp wr G n P St) (S : Addr) (hSf : S ∉ fp) (val : Nat → Str) (hval : ∀ i v, P i v → ∃ t, v = .str (val i) t) (hb : n + 1 < scanBound) :
    ∀ (k i : Nat) (s : Shared), n - i = k → i ≤ n → St i s → s.heap.SetOf (strKind prog w) S (fun k' => (metS val i).any (· == k')) (metS val i).length →
      (∀ s', Moved (S :: wr) G s s' → s'.heap.SetOf (strKind prog w) S (fun k' => (metS val n).any (· == k')) (metS val n).length → R (.ok (.ret .none)) s') →
      codeAny (model prog w) A (.builtin "set.update.loop" ⟨[.ref S, .ref I], []⟩) R s := by
  have hSw : S ∉ wr := fun h => hSf (W.sub _ h)
  have hsub : ∀ b ∈ wr, b ∈ S :: wr := fun b hb => List.mem_cons_of_mem _ hb
  intro k
  induction k with
  | zero =>
    intro i s hk hi hst hS hR
    have hin : i = n := by omega
    subst hin
    refine codeAny_builtin F.entry_set_update_loop ?_
    rw [Around.under_plainId F.plain_set_update_loop _]
    show wpAny _ A.in1 (pyNext (.ref I) >>= _) _ _ s
    refine wpAny_bind (W.done s _ _ hst fun s' hm => ?_)
    refine wpAny_pure (hR s' (hm.mono hsub) ?_)
    obtain ⟨o, es, ep, t, ho, rest⟩ := hS
    exact ⟨o, es, ep, t, hm.heap S _ hSw ho, rest⟩
  | succ k ih =>
    intro i s hk hi hst hS hR
    have hlt : i < n := by omega
    refine codeAny_builtin F.entry_set_update_loop ?_
    rw [Around.under_plainId F.plain_set_update_loop _]
    show wpAny _ A.in1 (pyNext (.ref I) >>= _) _ _ s
    refine wpAny_bind (W.item i s _ _ hlt hst fun v s' hP hst' hm => ?_)
    obtain ⟨t, rfl⟩ := hval i v hP
    have hS1 : s'.heap.SetOf (strKind prog w) S (fun k' => (metS val i).any (· == k')) (metS val i).length := by
      obtain ⟨o, es, ep, tb, ho, rest⟩ := hS
      exact ⟨o, es, ep, tb, hm.heap S _ hSw ho, rest⟩
    show wpAny _ A.in1 (holding [Value.str (val i) t] (setAdd S (.str (val i) t)) >>= _) _ _ s'
    refine wpAny_bind (wpAny_holding ?_)
    unfold setAdd
    refine wpAny_holding ?_
    refine wpAny_bind ((strKind prog w).pyHash (k := val i) (strKind_is _ _ _ _) ?_)
    have hroom : (metS val i).length + 1 < scanBound := by have := metS_le val i; omega
    refine wpAny_setAddHashed_of (knd := strKind prog w) (s := { s' with toks := s'.toks + 1 }) (strKind_is _ _ _ _) rfl hS1 hroom fun h' hsb hS2 => ?_
    have hSi : h'.SetOf (strKind prog w) S (fun k' => (metS val (i + 1)).any (· == k')) (metS val (i + 1)).length :=
      SetOf_congr hS2 (fun k' => by rw [metS_succ, dstep_any]) (by rw [metS_succ, dstep_length])
    refine wpAny_pure ⟨plainId_quiet F.plain_set_update_loop _, ih (i + 1) _ (by omega) hlt (W.frame _ s' _ _ hst' (Nat.le_succ _) fun b hb o e => ?_) hSi fun s2 hm2 hS3 => ?_⟩
    · rw [hsb.2 b (fun h : b = S => hSf (by rw [← h]; exact hb))]; exact e
    · refine hR s2 (Moved.trans W.gtrans ((hm.mono hsub).then_heap (Nat.le_succ _) fun b o hb e => ?_) hm2) hS3
      rw [hsb.2 b (fun h : b = S => hb (by rw [h]; exact List.mem_cons_self))]; exact e
end
noncomputable abbrev newSet (led : Bool) : Obj := { cls := .type "set", dict := none, data := .set #[] 0 (.fresh 0 0 led) }
section
variable {prog : Program} {w : World} {A : Around} {E : Value → Shared → Prop} {s : Shared}
open PySem in
theorem set_listT {l : Addr} {items : Array Value} {zs : List Str} {Q : Value → Shared → Prop} (hh : A.handled = none) (hl : s.heap.IsList l items) (hi : StrsAre items.toList zs) (hb : items.size + 1 < scanBound)
    (h : ∀ (h' : Heap) (tk : Nat), h'.SetOf (strKind prog w) s.heap.objs.size (fun k' => (metS (fun i => zs.getD i ⟨#[]⟩) items.size).any (· == k')) (metS (fun i => zs.getD i ⟨#[]⟩) items.size).length →
      (∀ b o, b < s.heap.objs.size → s.heap.get? b = some o → h'.get? b = some o) → Q (.ref s.heap.objs.size) { s with heap := h', toks := tk }) : wpAny (model prog w) A (call (.type "set") [.ref l]) Q E s := by
  obtain ⟨c, tl, hmro⟩ := F.called_set.mro
  have hmade := F.called_set.made
  have hsub := F.called_set.sub
  refine wpAny_call (codeAny_of_tree ?_)
  show wpAny _ _ (callAny (.type "set") _) _ _ _
  refine wpAny_pure ⟨Code.quiet_builtin _ (by decide +kernel), codeAny_builtin F.entry_type_call ?_⟩
  rw [Around.under_plain (weight_type_call_type "set" [.ref l] []) rfl]
  have h1 := F.called_set.notType
  have h2 := F.called_set.canCreate
  have hct := F.typeCall_set_1 (.ref l)
  repeat (any_goals (first | assumption | wp_step))
  refine codeAny_mono (code_set_new_1 (.ref l) (E := E) (Q₁ := fun obj s1 => ∃ led : Bool, obj = .ref s.heap.objs.size ∧ s1 = { s with heap := s.heap.push (newSet led) }) fun led => ⟨led, rfl, rfl⟩) fun r s1 hr => ?_
  cases r with
  | error e => exact hr
  | ok fl =>
    cases fl with
    | ret obj =>
      obtain ⟨led, rfl, rfl⟩ := hr
      have hS : (s.heap.push (newSet led)).get? s.heap.objs.size = some (newSet led) := Heap.get?_push_size _ rfl
      have hT : Shared.TypeIs { s with heap := s.heap.push (newSet led) } (.ref s.heap.objs.size) "set" := ⟨_, hS, rfl⟩
      have hli := F.called_set.init.lookup
      have hbi := F.called_set.init.bind (.ref s.heap.objs.size)
      repeat (any_goals (first | assumption | wp_step))
      refine codeAny_mono (codeAny_call_builtin (R := wants (fun r s2 => r = .none ∧ ∃ h' tk, s2 = { s with heap := h', toks := tk } ∧ h'.SetOf (strKind prog w) s.heap.objs.size (fun k' => (metS (fun i => zs.getD i ⟨#[]⟩) items.size).any (· == k')) (metS (fun i => zs.getD i ⟨#[]⟩) items.size).length ∧
          (∀ b o, b < s.heap.objs.size → s.heap.get? b = some o → h'.get? b = some o)) E) F.called_set.init.plain F.entry_set_init (check_set_init_1 hT ?_)) fun r2 s2 hr2 => ?_
      · obtain ⟨ol, hol, hcl, nl, hdl⟩ := hl
        obtain ⟨ocls, odict, odata, oslots⟩ := ol
        simp only at hcl hdl
        subst hcl; subst hdl
        have hol' : (s.heap.push (newSet led)).get? l = some { cls := .type "list", dict := odict, data := .seq items nl, slots := oslots } := Heap.get?_push_of_some _ hol
        have hsls := F.sub_list_set
        have hslf := F.sub_list_frozenset
        have hne : (Value.type "list" == Value.type "dict") = false := by decide
        have hl1 : (s.heap.push (newSet led)).IsList l items := ⟨_, hol', rfl, nl, rfl⟩
        unfold Builtin.«set.__init__» noKeywords Builtin.Frozenset.updateFrom
        generalize hPI : pyIter = PI
        wp_walk
        subst hPI
        refine wpAny_pyIter_list hl1 (wpAny_bind (wpAny_runValue ?_))
        have hlS : l < s.heap.objs.size := Heap.lt_size hol
        have hh3 : A.in1.in1.in1.handled = none := by simp [hh]
        have hneI : l ≠ (s.heap.push (newSet led)).objs.size := by
          rw [Heap.size_push]; exact Nat.ne_of_lt (Nat.lt_succ_of_lt hlS)
        have hSf : s.heap.objs.size ∉ [(s.heap.push (newSet led)).objs.size, l] := by
          rw [Heap.size_push]; simp only [List.mem_cons, List.mem_singleton, List.not_mem_nil, or_false, not_or]
          exact ⟨Nat.ne_of_lt (Nat.lt_succ_self _), Nat.ne_of_gt hlS⟩
        have hval : ∀ (i : Nat) (v : Value), items[i]? = some v → ∃ t, v = .str ((fun i => zs.getD i ⟨#[]⟩) i) t := fun i v hv => strs_at hi i v (by rw [Array.getElem?_toList]; exact hv)
        refine set_loopT ((Walks.list hh3 _ l hneI items).toS) s.heap.objs.size hSf (fun i => zs.getD i ⟨#[]⟩) hval hb (items.size - 0) 0 _ (by omega) (Nat.zero_le _) ⟨⟨_, Heap.get?_push_size _ rfl, rfl, rfl⟩, (hl1.push _)⟩ ?hS0 ?hR
        case hS0 =>
          have hget := Heap.get?_push_of_some { cls := .type "list_iterator", data := .fields #[.ref l, .int 0 0] } hS
          exact SetOf_congr ((setObjOf_fresh (knd := strKind prog w) led).setOf hget (by unfold scanBound; omega)) (fun _ => rfl) rfl
        case hR =>
          intro s' hm hS'
          obtain ⟨h', g', d', tk', os'⟩ := s'
          have eg : g' = s.gens := hm.gens
          have ed : d' = s.drawn := hm.drawn
          have eo : os' = s.os := hm.os
          subst eg; subst ed; subst eo
          refine wpAny_pure (wpAny_pure ⟨rfl, h', tk', rfl, hS', fun b o hb e => ?_⟩)
          have hb1 : b ≠ s.heap.objs.size := Nat.ne_of_lt hb
          have hb2 : b ≠ (s.heap.push (newSet led)).objs.size := by
            rw [Heap.size_push]; exact Nat.ne_of_lt (Nat.lt_succ_of_lt hb)
          exact hm.heap b o (by simp only [List.mem_cons, List.mem_singleton, List.not_mem_nil, or_false, not_or]; exact ⟨hb1, hb2⟩) (Heap.get?_push_of_some _ (Heap.get?_push_of_some _ e))
      · cases r2 with
        | error e => exact hr2
        | ok fl2 =>
          cases fl2 with
          | ret r =>
            obtain ⟨rfl, h', tk, rfl, hS', hk'⟩ := hr2
            repeat (any_goals (first | assumption | wp_step))
            exact h _ _ hS' hk'
          | _ => exact hr2.elim
    | _ => exact hr.elim
end
/-- a set, of which the number of things is known -/
noncomputable def SetN (q : Addr) (n : Nat) : HO := .ext fun h => ∃ o es ep t, h.get? q = some o ∧ o.ExactSet ∧ o.data = .set es ep t ∧ t.fits es.size = true ∧ es.size = n
noncomputable def unl (zs : List Str) : Nat := (metS (fun i => zs.getD i ⟨#[]⟩) zs.length).length
theorem strsT_of : ∀ {zs : List Str} {us : List Value}, Vals (zs.map V.str) us → StrsAre us zs
  | [], _, r => by cases r; exact .nil
  | z :: zs, _, r => by
    cases r with
    | cons r1 r2 =>
      obtain ⟨t, rfl⟩ := (show ∃ t, _ = Value.str z t from r1)
      exact .cons z t (strsT_of r2)
section
variable {X : Cx}
theorem call_setT {K : PySem.W.Frag} (hK : X.K = K) (hc : X.calm = true) : CallR X (.type "set") (fun xs H Q => ∃ (p : Addr) (zs : List Str), xs = [.ref p] ∧ SqL K H p (zs.map V.str) ∧ zs.length ≤ 1000 ∧ ∀ q, H q = none → Q (.ref q) (upd H q (SetN q (unl zs)))) := by
  intro pins s σ H xs us Q I r h
  subst hK
  obtain ⟨p, zs, rfl, hq, hl, q⟩ := h
  obtain ⟨u, rfl, ru⟩ := vals1 r
  cases (show u = Value.ref p from ru)
  obtain ⟨its, rv, pl, hz⟩ := I.list hq
  have hlen : its.toArray.size = zs.length := by rw [List.size_toArray, ← rv.length, List.length_map]
  refine set_listT (I.ok.hd hc) pl.isList (by simpa using strsT_of rv) (by rw [hlen]; unfold scanBound; omega) fun h' tk hS hk => ?_
  rw [hlen] at hS
  obtain ⟨o, es, ep, t, ho, hex, hd, _, _, _, hf, hn⟩ := hS
  have k2 : ∀ b u, s.heap.get? b = some u → h'.get? b = some u := fun b u e => hk b u (Heap.lt_size e) e
  refine ⟨.ref s.heap.objs.size, _, I.laid (t' := tk) (o := SetN s.heap.objs.size (unl zs)) k2 (Nat.le_refl _) ⟨⟨o, es, ep, t, ho, hex, hd, hf, hn⟩, ⟨o, ho⟩, fun h1 h2 hsl57 kk => by obtain ⟨o, es, ep, t, e, r⟩ := hsl57; exact ⟨o, es, ep, t, kk o e, r⟩⟩, rfl, q _ I.fresh⟩
theorem call_lenS : CallR X (.builtin "len") (fun xs H Q => ∃ (p : Addr) (n : Nat), xs = [.ref p] ∧ H p = some (SetN p n) ∧ n ≤ 1000 ∧ Q (.int (n : Nat)) H) := by
  intro pins s σ H xs us Q I r h
  obtain ⟨p, n, rfl, hp, hn, q⟩ := h
  obtain ⟨u, rfl, ru⟩ := vals1 r
  cases (show u = Value.ref p from ru)
  obtain ⟨⟨o, es, ep, t, ho, hex, hd, hf, e⟩, _⟩ := (show ObjOk X.prog X.w H s.heap p (SetN p n) from I.hok p _ hp)
  subst e
  exact call_len_set ho hex hd hf (by omega) ⟨.int (es.size : Nat), H, I.tok _, ⟨_, rfl⟩, q⟩
end
end L2

namespace L2
theorem len0 {α : Type} : ∀ {us : List α}, us.length = 0 → us = []
  | [], _ => rfl
theorem len1 {α : Type} : ∀ {us : List α}, us.length = 1 → ∃ a, us = [a]
  | [a], _ => ⟨a, rfl⟩
theorem lenS {α : Type} {n : Nat} : ∀ {us : List α}, us.length = n + 1 → ∃ a r, us = a :: r ∧ r.length = n
  | a :: r, h => ⟨a, r, rfl, Nat.succ.inj h⟩
theorem len2 {α : Type} {us : List α} (h : us.length = 2) : ∃ a b, us = [a, b] := by
  obtain ⟨a, r, rfl, k⟩ := lenS h
  obtain ⟨b, rfl⟩ := len1 k
  exact ⟨a, b, rfl⟩
theorem len3 {α : Type} {us : List α} (h : us.length = 3) : ∃ a b c, us = [a, b, c] := by
  obtain ⟨a, r, rfl, k⟩ := lenS h
  obtain ⟨b, c, rfl⟩ := len2 k
  exact ⟨a, b, c, rfl⟩
theorem len4 {α : Type} {us : List α} (h : us.length = 4) : ∃ a b c d, us = [a, b, c, d] := by
  obtain ⟨a, r, rfl, k⟩ := lenS h
  obtain ⟨b, c, d, rfl⟩ := len3 k
  exact ⟨a, b, c, d, rfl⟩
end L2

set_option linter.all false
namespace Mm
/-! wishes, and how they are read from behind -/
inductive W where
  | c0 | c1 | sw (k : Nat) | no (a : W) | an (a b : W) | orr (a b : W) | xo (a b : W) | ch (k : Nat) (a b : W)
noncomputable def W.signs : W → List Nat
  | .c0 => [48]
  | .c1 => [49]
  | .sw k => [97 + k]
  | .no a => 33 :: a.signs
  | .an a b => 38 :: (a.signs ++ b.signs)
  | .orr a b => 124 :: (a.signs ++ b.signs)
  | .xo a b => 94 :: (a.signs ++ b.signs)
  | .ch k a b => 63 :: (97 + k) :: (a.signs ++ b.signs)
noncomputable def W.ok (n : Nat) : W → Prop
  | .c0 => True
  | .c1 => True
  | .sw k => k < n
  | .no a => a.ok n
  | .an a b => a.ok n ∧ b.ok n
  | .orr a b => a.ok n ∧ b.ok n
  | .xo a b => a.ok n ∧ b.ok n
  | .ch k a b => k < n ∧ a.ok n ∧ b.ok n
noncomputable def flat : List W → List Nat
  | [] => []
  | w :: r => w.signs ++ flat r
noncomputable def Oks (n : Nat) (ws : List W) : Prop := ∀ w ∈ ws, w.ok n
theorem Oks.cons {n : Nat} {w : W} {ws : List W} (h : w.ok n) (hs : Oks n ws) : Oks n (w :: ws) := fun x hx => by
  rcases List.mem_cons.mp hx with e | e
  · subst e; exact h
  · exact hs x e
theorem Oks.hd {n : Nat} {w : W} {ws : List W} (h : Oks n (w :: ws)) : w.ok n := h w List.mem_cons_self
theorem Oks.tl {n : Nat} {w : W} {ws : List W} (h : Oks n (w :: ws)) : Oks n ws := fun x hx => h x (List.mem_cons_of_mem _ hx)
theorem Oks.nil {n : Nat} : Oks n [] := fun x hx => nomatch hx
/-- what stands there is some wishes, one behind the other -/
noncomputable def Fl (n : Nat) (l : List Nat) : Prop := ∃ ws, Oks n ws ∧ l = flat ws
theorem Fl.tail {n c : Nat} {l : List Nat} (h : Fl n (c :: l)) : Fl n l := by
  obtain ⟨ws, ho, e⟩ := h
  cases ws with
  | nil => cases e
  | cons w r =>
    have hw := ho.hd
    have hr := ho.tl
    cases w with
    | c0 => exact ⟨r, hr, (List.cons.inj e).2⟩
    | c1 => exact ⟨r, hr, (List.cons.inj e).2⟩
    | sw k => exact ⟨r, hr, (List.cons.inj e).2⟩
    | no a => exact ⟨a :: r, hr.cons hw, (List.cons.inj e).2⟩
    | an a b => exact ⟨a :: b :: r, (hr.cons hw.2).cons hw.1, by rw [(List.cons.inj e).2]; simp [flat, List.append_assoc]⟩
    | orr a b => exact ⟨a :: b :: r, (hr.cons hw.2).cons hw.1, by rw [(List.cons.inj e).2]; simp [flat, List.append_assoc]⟩
    | xo a b => exact ⟨a :: b :: r, (hr.cons hw.2).cons hw.1, by rw [(List.cons.inj e).2]; simp [flat, List.append_assoc]⟩
    | ch k a b => exact ⟨.sw k :: a :: b :: r, ((hr.cons hw.2.2).cons hw.2.1).cons hw.1, by rw [(List.cons.inj e).2]; simp [flat, W.signs, List.append_assoc]⟩
theorem Fl.drop {n : Nat} : ∀ (i : Nat) {l : List Nat}, Fl n l → Fl n (l.drop i)
  | 0, _, h => h
  | i + 1, [], h => h
  | i + 1, c :: l, h => Fl.drop i h.tail
/-! the program's way: a sign, what it needs, what it makes -/
noncomputable def needs (c : Nat) : Nat := if c = 33 then 1 else if c = 38 then 2 else if c = 124 then 2 else if c = 94 then 2 else if c = 63 then 3 else 0
noncomputable def W.val (sws : List Nat) (full : Nat) : W → Nat
  | .c0 => 0
  | .c1 => full
  | .sw k => sws.getD k 0
  | .no a => full ^^^ a.val sws full
  | .an a b => a.val sws full &&& b.val sws full
  | .orr a b => a.val sws full ||| b.val sws full
  | .xo a b => a.val sws full ^^^ b.val sws full
  | .ch k a b => (sws.getD k 0 &&& a.val sws full) ||| ((full ^^^ sws.getD k 0) &&& b.val sws full)
/-! where it holds -/
noncomputable def W.ev (s : Nat) : W → Bool
  | .c0 => false
  | .c1 => true
  | .sw k => s.testBit k
  | .no a => !a.ev s
  | .an a b => a.ev s && b.ev s
  | .orr a b => a.ev s || b.ev s
  | .xo a b => a.ev s != b.ev s
  | .ch k a b => if s.testBit k then a.ev s else b.ev s
/-! the values stay small on the way, too -/
/-! the law's way: from behind, a chooser at once -/
/-! a text with open parts: whatever wishes follow, it is a wish -/
noncomputable def Op (n : Nat) (t : List Nat) (k : Nat) : Prop := ∀ ws : List W, ws.length = k → Oks n ws → ∃ w : W, w.ok n ∧ w.signs = t ++ flat ws
theorem Op.start {n : Nat} : Op n [] 1 := fun ws hl ho => by
  match ws, hl with
  | [w], _ => exact ⟨w, ho.hd, by simp [flat]⟩
theorem Op.no {n k : Nat} {t : List Nat} (h : Op n t (k + 1)) : Op n (t ++ [33]) (k + 1) := fun ws hl ho => by
  match ws, hl with
  | a :: r, hl =>
    obtain ⟨w, hw, e⟩ := h (.no a :: r) (by simpa using hl) (ho.tl.cons ho.hd)
    exact ⟨w, hw, by rw [e]; simp [flat, W.signs]⟩
theorem Op.two {n k c : Nat} {t : List Nat} (hc : c = 38 ∨ c = 124 ∨ c = 94) (h : Op n t (k + 1)) : Op n (t ++ [c]) (k + 2) := fun ws hl ho => by
  match ws, hl with
  | a :: b :: r, hl =>
    have hl' : r.length = k := by simpa using hl
    have oa := ho.hd
    have ob := ho.tl.hd
    have hr := ho.tl.tl
    rcases hc with rfl | rfl | rfl
    · obtain ⟨w, hw, e⟩ := h (.an a b :: r) (by simp [hl']) (hr.cons ⟨oa, ob⟩)
      exact ⟨w, hw, by rw [e]; simp [flat, W.signs]⟩
    · obtain ⟨w, hw, e⟩ := h (.orr a b :: r) (by simp [hl']) (hr.cons ⟨oa, ob⟩)
      exact ⟨w, hw, by rw [e]; simp [flat, W.signs]⟩
    · obtain ⟨w, hw, e⟩ := h (.xo a b :: r) (by simp [hl']) (hr.cons ⟨oa, ob⟩)
      exact ⟨w, hw, by rw [e]; simp [flat, W.signs]⟩
theorem Op.ch {n k j : Nat} {t : List Nat} (h : Op n t (k + 1)) (hj : j < n) : Op n (t ++ [63] ++ [97 + j]) (k + 2) := fun ws hl ho => by
  match ws, hl with
  | a :: b :: r, hl =>
    have hl' : r.length = k := by simpa using hl
    obtain ⟨w, hw, e⟩ := h (.ch j a b :: r) (by simp [hl']) (ho.tl.tl.cons ⟨hj, ho.hd, ho.tl.hd⟩)
    exact ⟨w, hw, by rw [e]; simp [flat, W.signs]⟩
theorem Op.done {n : Nat} {t : List Nat} (h : Op n t 0) : ∃ w : W, w.ok n ∧ w.signs = t := by
  obtain ⟨w, hw, e⟩ := h [] rfl Oks.nil
  exact ⟨w, hw, by rw [e]; simp [flat]⟩
end Mm

set_option Elab.async false
set_option linter.all false
set_option maxRecDepth 100000
namespace Mm
open PySem L2 PyProof.Rows
theorem str_ext {a b : Str} (h : a.cps.toList = b.cps.toList) : a = b := by
  cases a; cases b
  congr 1
  exact Array.toList_inj.mp h
theorem str_len (z : Str) : z.length = z.cps.toList.length := by simp [Str.length]
theorem str_app (a b : Str) : (a ++ b).cps.toList = a.cps.toList ++ b.cps.toList := Array.toList_append ..
/-! joined lists of signs -/
/-! a row's words, one by one -/
inductive Ev where
  | op (v : W) | cl | pl (z : Str)
structure Pl (z : Str) : Prop where
  sg : ∀ c ∈ z.cps.toList, 33 ≤ c ∧ c ≤ 126
  hd : ∃ c r, z.cps.toList = c :: r ∧ c ≠ 60
  gt : z ≠ ⟨#[62]⟩
noncomputable def wd : Ev → Str
  | .op v => ⟨(60 :: v.signs).toArray⟩
  | .cl => ⟨#[62]⟩
  | .pl z => z
noncomputable abbrev RSt := List (Str × List W) × List W
noncomputable def stp (st : RSt) : Ev → RSt
  | .op v => (st.1, st.2 ++ [v])
  | .cl => (st.1, st.2.dropLast)
  | .pl z => (st.1 ++ [(z, st.2)], st.2)
noncomputable def rn (evs : List Ev) : RSt := evs.foldl stp ([], [])
noncomputable def evok (n : Nat) (ar : List W) : Ev → Prop
  | .op v => v.ok n ∧ v.signs.length ≤ 9 ∧ ar.length < 5
  | .cl => ar ≠ []
  | .pl z => Pl z ∧ z.length ≤ 5
noncomputable def Gev (n : Nat) (evs : List Ev) : Prop := ∀ i e, evs[i]? = some e → evok n (rn (evs.take i)).2 e
theorem Gev.nil (n : Nat) : Gev n [] := fun i e h => by simp at h
theorem Gev.snoc {n : Nat} {evs : List Ev} {e : Ev} (g : Gev n evs) (h : evok n (rn evs).2 e) : Gev n (evs ++ [e]) := fun i e' hi => by
  by_cases hl : i < evs.length
  · rw [List.getElem?_append_left hl] at hi
    rw [List.take_append_of_le_length (by omega)]
    exact g i e' hi
  · rw [List.getElem?_append_right (by omega)] at hi
    have h0 : i - evs.length = 0 := by
      cases hh : i - evs.length with
      | zero => rfl
      | succ m => rw [hh] at hi; simp at hi
    rw [h0] at hi
    have e1 : e = e' := by simpa using hi
    have e2 : i = evs.length := by omega
    subst e1 e2
    rw [List.take_append_of_le_length (Nat.le_refl _), List.take_length]
    exact h
theorem signs_range {n : Nat} (hn : n ≤ 10) : ∀ v : W, v.ok n → ∀ c ∈ v.signs, 33 ≤ c ∧ c ≤ 126 := by
  intro v
  induction v with
  | c0 => intro _ c h; simp [W.signs] at h; omega
  | c1 => intro _ c h; simp [W.signs] at h; omega
  | sw k => intro hk c h; have hk' : k < n := hk; simp [W.signs] at h; omega
  | no a ih =>
    intro hk c h
    rcases List.mem_cons.mp h with e | e
    · omega
    · exact ih hk c e
  | an a b iha ihb =>
    intro hk c h
    rcases List.mem_cons.mp h with e | e
    · omega
    · rcases List.mem_append.mp e with e | e
      · exact iha hk.1 c e
      · exact ihb hk.2 c e
  | orr a b iha ihb =>
    intro hk c h
    rcases List.mem_cons.mp h with e | e
    · omega
    · rcases List.mem_append.mp e with e | e
      · exact iha hk.1 c e
      · exact ihb hk.2 c e
  | xo a b iha ihb =>
    intro hk c h
    rcases List.mem_cons.mp h with e | e
    · omega
    · rcases List.mem_append.mp e with e | e
      · exact iha hk.1 c e
      · exact ihb hk.2 c e
  | ch k a b iha ihb =>
    intro hk c h
    have hk' : k < n := hk.1
    rcases List.mem_cons.mp h with e | e
    · omega
    · rcases List.mem_cons.mp e with e | e
      · omega
      · rcases List.mem_append.mp e with e | e
        · exact iha hk.2.1 c e
        · exact ihb hk.2.2 c e
theorem evok_wd {n : Nat} (hn : n ≤ 10) {ar : List W} {e : Ev} (h : evok n ar e) : (∀ c ∈ (wd e).cps.toList, 33 ≤ c ∧ c ≤ 126) ∧ (wd e).cps.toList ≠ [] ∧ (wd e).length ≤ 10 := by
  cases e with
  | op v =>
    obtain ⟨h1, h2, _⟩ := h
    refine ⟨fun c hc => ?_, by simp [wd], by simp [wd, Str.length]; omega⟩
    rcases List.mem_cons.mp (show c ∈ 60 :: v.signs by simpa [wd] using hc) with z | z
    · omega
    · exact signs_range hn v h1 c z
  | cl => exact ⟨fun c hc => by have : c = 62 := by simpa [wd] using hc
                                omega, by simp [wd], by decide⟩
  | pl z =>
    obtain ⟨h1, h2⟩ := h
    obtain ⟨c, r, e, _⟩ := h1.hd
    exact ⟨h1.sg, by show z.cps.toList ≠ []; rw [e]; simp, by show z.length ≤ 10; omega⟩
theorem Gev.wd {n : Nat} (hn : n ≤ 10) {evs : List Ev} (g : Gev n evs) : ∀ z ∈ evs.map wd, (∀ c ∈ z.cps.toList, 33 ≤ c ∧ c ≤ 126) ∧ z.cps.toList ≠ [] ∧ z.length ≤ 10 := fun z hz => by
  obtain ⟨e, he, rfl⟩ := List.mem_map.mp hz
  obtain ⟨i, hi⟩ := List.mem_iff_getElem?.mp he
  exact evok_wd hn (g i e hi)
end Mm

set_option Elab.async false
set_option linter.all false
set_option maxRecDepth 100000
set_option maxHeartbeats 4000000
namespace L2
open PySem PySem.Spec PyProof.Rows
/-! ### for c in text (all signs below 128) -/
noncomputable def chAt (z : Str) (i : Nat) : V := .str ⟨#[z.cps.toList.getD i 0]⟩
theorem turn_str {P : Program} {w : World} {K : PySem.W.Frag} {tg : Expr} (it : Addr) (z : Str) (t : Tok) :
    Turn P w K tg (ItN z.length (chAt z)) [it] it (fun i h => i ≤ z.length ∧ h.IsStrIter it "str_ascii_iterator" z t i) where
  mem := by simp
  obj := fun i h st b hb => by
    have e : b = it := by simpa using hb
    subst e
    obtain ⟨_, o, e, c, d⟩ := st
    exact ⟨o, e, fun v z => by rw [d] at z; cases z⟩
  keep := fun i h h' st k => ⟨st.1, by obtain ⟨o, e, r⟩ := st.2; exact ⟨o, k it (by simp) o e, r⟩⟩
  item := by
    intro X hP hw hK hc i pins s σ H E I hf st hg
    subst hP hw hK
    have hg : i < z.length := hg
    obtain ⟨f0, f1, f2, f3, f4, f5⟩ := hf it (by simp)
    have hl : z.cps.toList.length = z.length := by simp [Str.length]
    have hcc : z.cps[i]? = some (z.cps.toList.getD i 0) := by
      rw [List.getD_eq_getElem?_getD, List.getElem?_eq_getElem (by omega), ← Array.getElem?_toList, List.getElem?_eq_getElem (by omega)]; rfl
    refine wpAny_pyNext_ascii_item st.2 hcc fun h' st' sb => ?_
    have I1 : Inv X pins σ H { s with heap := h', toks := s.toks + 1 } := I.turned (fun b o hb e => (sb.2 b hb).trans e) f0 f1 f3 f4 f5
    obtain ⟨o, e, c, d⟩ := id st'
    exact ⟨_, rfl, go_of (s := { s with heap := h', toks := s.toks + 1 }) e c d (by decide) ⟨chAt z i, H, I1, ⟨s.toks, rfl⟩, ⟨rfl, rfl⟩, ⟨hg, st'⟩, fun b hb => (hf b hb).1⟩⟩
  done := by
    intro X hP hw hK hc i pins s σ H E I hf st hg
    subst hP hw hK
    have hg : z.length ≤ i := hg
    obtain ⟨f0, f1, f2, f3, f4, f5⟩ := hf it (by simp)
    exact wpAny_pyNext_ascii_end (I.ok.hd hc) st.2 (Array.getElem?_eq_none (by show z.length ≤ i; exact hg)) fun h' eb => ⟨rfl, I.turned (t' := s.toks) (fun b o hb e => eb b o hb e) f0 f1 f3 f4 f5⟩
  self := fun _ _ _ _ _ st h => wpAny_pyIter_striter_ascii st.2 h
section
variable {X : Cx} {tg : Expr}
noncomputable def iStr (te : TE) : TI := fun σ H R => te σ H fun x H1 => ∃ z : Str, x = .str z ∧ z.cps.all (· < 128) = true ∧ R (ItN z.length (chAt z)) H1
theorem pi_str {e : Expr} {te : TE} (he : PE X e te) : PI X tg e (iStr te) := by
  intro pins s σ H R I h
  refine thn (he pins s σ H _ I h) fun v s1 hsl58 => ?_
  obtain ⟨x, H1, I1, r1, q1⟩ := hsl58
  obtain ⟨z, e, ha, q⟩ := q1
  subst e
  obtain ⟨t, rfl⟩ := r1
  refine wpAny_pyIter_ascii ha ?_
  refine ⟨s1.heap.objs.size, [s1.heap.objs.size], _, _, H1, rfl, I1.kept (t' := s1.toks) fun b o e => Heap.get?_push_of_some _ e, turn_str _ z t, ⟨Nat.zero_le _, _, Heap.get?_push_size _ rfl, rfl, rfl⟩, fun b hb => ?_, q⟩
  have e : b = s1.heap.objs.size := by simpa using hb
  subst e
  exact I1.fpOk (Nat.le_refl _) (I1.hok.fresh (Nat.le_refl _))
end
end L2

set_option Elab.async false
set_option linter.all false
set_option maxRecDepth 100000
set_option maxHeartbeats 4000000
namespace L2
open PySem PySem.Spec PyProof.Rows
section
variable {X : Cx}
/-- int(text) -/
theorem call_intS : CallR X (.type "int") (fun xs H Q => ∃ z n, xs = [.str z] ∧ PySem.intText? z = some n ∧ z.length ≤ 640 ∧ Q (.int n) H) := by
  intro pins s σ H xs us Q I r h
  obtain ⟨z, n, rfl, hn, hl, q⟩ := h
  obtain ⟨u, rfl, t, rfl⟩ := vals1 r
  exact PySem.W.KIN.call_text hn hl ⟨.int n, H, I.tok _, ⟨_, rfl⟩, q⟩
/-- str(number) -/
theorem call_strI : CallR X (.type "str") (fun xs H Q => ∃ i : Int, xs = [.int i] ∧ i.natAbs.log2 < 1920 ∧ Q (.str (toString i)) H) := by
  intro pins s σ H xs us Q I r h
  obtain ⟨i, rfl, hl, q⟩ := h
  obtain ⟨u, rfl, t, rfl⟩ := vals1 r
  exact PySem.P.str_of_int hl ⟨.str _, H, I.tok _, ⟨_, rfl⟩, q⟩
theorem op_in_seqK {K : PySem.W.Frag} (hK : X.K = K) : OpR X (compareOp .In) (rIn K false) := by subst hK; exact op_in_seq
theorem op_notIn_seqK {K : PySem.W.Frag} (hK : X.K = K) : OpR X (compareOp .NotIn) (rIn K true) := by subst hK; exact op_notIn_seq
end
section
variable {js : List Nat} {tt : TT} {te : TE}
/-- a comprehension over the signs of a text -/
theorem comp_N {n : Nat} {y : Nat → V} {σ : St} {H : Hp} {Q : VK} (Pv : Nat → List V → Hp → Prop) (h0 : Pv 0 [] H)
    (hs : ∀ i ys H, i < n → Pv i ys H → tt (some (y i) :: pick js σ) H fun b H2 => if b = true then te (some (y i) :: pick js σ) H2 fun z H3 => ys.length < sizeLine ∧ Pv (i + 1) (ys ++ [z]) H3 else Pv (i + 1) ys H2)
    (hd : ∀ ys H, Pv n ys H → ∀ p, H p = none → Q (.ref p) (upd H p (.lst ys))) : tCompB (ItN n y) js tt te σ H Q := by
  refine ⟨fun i m ys H => i + m = n ∧ Pv i ys H, ⟨n, by simp, h0⟩, ?_⟩
  rintro i m ys H1 ⟨e, q⟩
  rcases Nat.lt_or_ge i n with hlt | hge
  · refine .inr ⟨hlt, fun ys' H' => Pv (i + 1) ys' H', fun ys' H' q' => ⟨m - 1, by omega, by omega, q'⟩, ?_⟩
    rintro x H' ⟨rfl, rfl⟩
    exact hs i ys _ hlt q
  · have : i = n := by omega
    subst this
    exact .inl ⟨hge, hd ys H1 q⟩
end
end L2
namespace Mm
open PySem L2 PyProof.Rows
/-! words of a phrase -/
noncomputable def lws : List Str := ["kind", "def", "set", "tell", "give", "if", "else", "while", "end", "num", "truth", "yes", "no", "less", "same", "and", "or", "not", "do", "new", "of", "+", "-", "*", "."]
noncomputable def ops7 : List Str := ["+", "-", "*", "less", "same", "and", "or"]
noncomputable def isLo (c : Nat) : Bool := decide (97 ≤ c ∧ c ≤ 122)
noncomputable def isFig (c : Nat) : Bool := decide (48 ≤ c ∧ c ≤ 57)
theorem occLo : ∀ c : Nat, c < 128 → (Builtin.Str.occurrences ("abcdefghijklmnopqrstuvwxyz" : Str) ⟨#[c]⟩ 0 ("abcdefghijklmnopqrstuvwxyz" : Str).length 1).isEmpty = !(isLo c) := by decide +kernel
theorem occFig : ∀ c : Nat, c < 128 → (Builtin.Str.occurrences ("0123456789" : Str) ⟨#[c]⟩ 0 ("0123456789" : Str).length 1).isEmpty = !(isFig c) := by decide +kernel
noncomputable def madeOf (f : Nat → Bool) (z : Str) (m : Nat) : Bool := !decide (z = "") && (decide (z.length ≤ m) && z.cps.toList.all f)
noncomputable def isName (z : Str) : Bool := madeOf isLo z 8 && !decide (z ∈ lws)
noncomputable def isNum (z : Str) : Bool := decide (z = "0") || (madeOf isFig z 18 && !decide (z.cps.toList.getD 0 0 = 48))
inductive Ex where
  | num (n : Int)
  | truth (z : Str)
  | name (z : Str)
  | not (e : Ex)
  | op (w : Str) (a b : Ex)
  | of (n : Str) (e : Ex)
  | many (w n : Str) (es : List Ex)
/-- parts up to a point -/
noncomputable def pM (p : Nat → Option (Ex × Nat)) (ws : List Str) : Nat → Nat → Option (List Ex × Nat)
  | 0, _ => none
  | f + 1, i => if ws[i]? = some "." then some ([], i + 1) else match p i with
    | none => none
    | some (e, j) => match pM p ws f j with
      | none => none
      | some (es, l) => some (e :: es, l)
/-- a word of a kind at i -/
noncomputable def pWd (f : Str → Bool) (ws : List Str) (i : Nat) : Option Str := match ws[i]? with | some z => if f z then some z else none | none => none
noncomputable def isMany (z : Str) : Bool := decide (z ∈ (["do", "new", "of"] : List Str))
/-- do, new, of: behind the word -/
noncomputable def pD (p : Nat → Option (Ex × Nat)) (ws : List Str) (z : Str) (i : Nat) : Option (Ex × Nat) :=
  if isMany z then (match pWd isName ws i with
    | none => none
    | some n => if z = "of" then (match p (i + 1) with | none => none | some (e, j) => some (.of n e, j))
      else match pM p ws (ws.length + 1) (i + 1) with | none => none | some (es, j) => some (.many z n es, j))
  else none
noncomputable def numV (z : Str) : Int := (PySem.intText? z).getD 0
/-- an expression at i -/
noncomputable def pE (ws : List Str) : Nat → Nat → Option (Ex × Nat)
  | 0, _ => none
  | k + 1, i => match ws[i]? with
    | none => none
    | some z =>
      if isNum z then some (.num (numV z), i + 1)
      else if z ∈ (["yes", "no"] : List Str) then some (.truth z, i + 1)
      else if isName z then some (.name z, i + 1)
      else if z = "not" then (match pE ws k (i + 1) with | none => none | some (e, j) => some (.not e, j))
      else if z ∈ ops7 then (match pE ws k (i + 1) with
        | none => none
        | some (a, j) => match pE ws k j with | none => none | some (b, l) => some (.op z a b, l))
      else pD (pE ws k) ws z (i + 1)
theorem pM_le {p : Nat → Option (Ex × Nat)} {ws : List Str} (hp : ∀ i e j, p i = some (e, j) → i < j ∧ j ≤ ws.length) : ∀ f i es j, pM p ws f i = some (es, j) → i < j ∧ j ≤ ws.length
  | 0, i, es, j, h => by simp [pM] at h
  | f + 1, i, es, j, h => by
    unfold pM at h
    split at h
    · rename_i hd
      have := (List.getElem?_eq_some_iff.mp hd).1
      cases h
      omega
    · split at h
      · cases h
      · rename_i e j' he
        split at h
        · cases h
        · rename_i es' l hm
          cases h
          have h1 := hp _ _ _ he
          have h2 := pM_le hp f _ _ _ hm
          omega
theorem pD_le {p : Nat → Option (Ex × Nat)} {ws : List Str} (hp : ∀ i e j, p i = some (e, j) → i < j ∧ j ≤ ws.length) {z : Str} {i j : Nat} {e : Ex} (h : pD p ws z i = some (e, j)) : i < j ∧ j ≤ ws.length := by
  unfold pD at h
  split at h
  · split at h
    · cases h
    · split at h
      · split at h
        · cases h
        · rename_i he; cases h; have := hp _ _ _ he; omega
      · split at h
        · cases h
        · rename_i he; cases h; have := pM_le hp _ _ _ _ he; omega
  · cases h
theorem pE_le (ws : List Str) : ∀ k i e j, pE ws k i = some (e, j) → i < j ∧ j ≤ ws.length
  | 0, i, e, j, h => by simp [pE] at h
  | k + 1, i, e, j, h => by
    unfold pE at h
    split at h
    · cases h
    · rename_i z hz
      have hi := (List.getElem?_eq_some_iff.mp hz).1
      have ih := pE_le ws k
      split at h
      · cases h; omega
      split at h
      · cases h; omega
      split at h
      · cases h; omega
      split at h
      · split at h
        · cases h
        · rename_i he; cases h; have := ih _ _ _ he; omega
      split at h
      · split at h
        · cases h
        · rename_i he
          split at h
          · cases h
          · rename_i hf; cases h; have := ih _ _ _ he; have := ih _ _ _ hf; omega
      have := pD_le ih h
      omega
/-- one turn of the loop over parts -/
theorem pM_turn {p : Nat → Option (Ex × Nat)} {ws : List Str} {f i : Nat} (hd : ws[i]? ≠ some ".") : (p i = none → pM p ws (f + 1) i = none) ∧ ∀ e j, p i = some (e, j) → pM p ws (f + 1) i = (pM p ws f j).map fun q => (e :: q.1, q.2) := by
  refine ⟨fun h => ?_, fun e j h => ?_⟩
  · unfold pM
    rw [if_neg hd, h]
  · rw [pM, if_neg hd, h]
    dsimp only
    cases hq : pM p ws f j with
    | none => rfl
    | some q => rfl
theorem pM_stop {p : Nat → Option (Ex × Nat)} {ws : List Str} {f i : Nat} (hd : ws[i]? = some ".") : pM p ws (f + 1) i = some ([], i + 1) := by
  unfold pM
  rw [if_pos hd]
/-! an expression in the heap -/
mutual
inductive ExAt (H : Hp) : V → Ex → Prop where
  | num {t : Addr} {n : Int} : H t = some (.tup [.str "num", .int n]) → ExAt H (.ref t) (.num n)
  | truth {t : Addr} {z : Str} : H t = some (.tup [.str "truth", .str z]) → ExAt H (.ref t) (.truth z)
  | name {t : Addr} {z : Str} : H t = some (.tup [.str "name", .str z]) → ExAt H (.ref t) (.name z)
  | not {t : Addr} {v : V} {e : Ex} : H t = some (.tup [.str "not", v]) → ExAt H v e → ExAt H (.ref t) (.not e)
  | op {t : Addr} {z : Str} {v u : V} {a b : Ex} : H t = some (.tup [.str z, v, u]) → ExAt H v a → ExAt H u b → ExAt H (.ref t) (.op z a b)
  | of {t : Addr} {n : Str} {v : V} {e : Ex} : H t = some (.tup [.str "of", .str n, v]) → ExAt H v e → ExAt H (.ref t) (.of n e)
  | many {t l : Addr} {z n : Str} {vs : List V} {es : List Ex} : H t = some (.tup [.str z, .str n, .ref l]) → H l = some (.tup vs) → ExsAt H vs es → ExAt H (.ref t) (.many z n es)
inductive ExsAt (H : Hp) : List V → List Ex → Prop where
  | nil : ExsAt H [] []
  | cons {v : V} {vs : List V} {e : Ex} {es : List Ex} : ExAt H v e → ExsAt H vs es → ExsAt H (v :: vs) (e :: es)
end
/-- tuples stay -/
noncomputable def TupS (H H' : Hp) : Prop := ∀ b xs, H b = some (.tup xs) → H' b = some (.tup xs)
mutual
theorem ExAt.kept {H H' : Hp} (s : TupS H H') : ∀ {v : V} {e : Ex}, ExAt H v e → ExAt H' v e
  | _, _, .num h => .num (s _ _ h)
  | _, _, .truth h => .truth (s _ _ h)
  | _, _, .name h => .name (s _ _ h)
  | _, _, .not h a => .not (s _ _ h) (a.kept s)
  | _, _, .op h a b => .op (s _ _ h) (a.kept s) (b.kept s)
  | _, _, .of h a => .of (s _ _ h) (a.kept s)
  | _, _, .many h l a => .many (s _ _ h) (s _ _ l) (a.kept s)
theorem ExsAt.kept {H H' : Hp} (s : TupS H H') : ∀ {vs : List V} {es : List Ex}, ExsAt H vs es → ExsAt H' vs es
  | _, _, .nil => .nil
  | _, _, .cons a b => .cons (a.kept s) (b.kept s)
end
theorem ExsAt.snoc {H : Hp} : ∀ {vs : List V} {es : List Ex} {v : V} {e : Ex}, ExsAt H vs es → ExAt H v e → ExsAt H (vs ++ [v]) (es ++ [e])
  | _, _, _, _, .nil, h => .cons h .nil
  | _, _, _, _, .cons a b, h => .cons a (b.snoc h)
theorem _root_.L2.Same.tups {H H' : Hp} (s : Same H H') : TupS H H' := fun _ _ h => s _ _ h
theorem TupS.trans {H H1 H2 : Hp} (a : TupS H H1) (b : TupS H1 H2) : TupS H H2 := fun _ _ h => b _ _ (a _ _ h)
/-! what may change: the phrase alone -/
noncomputable def ButO (o : Addr) (H H' : Hp) : Prop := ∀ b u, H b = some u → b ≠ o → H' b = some u
theorem ButO.refl (o : Addr) (H : Hp) : ButO o H H := fun _ _ h _ => h
theorem ButO.trans {o : Addr} {H H1 H2 : Hp} (a : ButO o H H1) (b : ButO o H1 H2) : ButO o H H2 := fun _ _ h n => b _ _ (a _ _ h n) n
theorem _root_.L2.Same.but {o : Addr} {H H' : Hp} (s : Same H H') : ButO o H H' := fun _ _ h _ => s _ _ h
theorem ButO.upd (o : Addr) (H : Hp) (x : HO) : ButO o H (upd H o x) := fun b u h n => by rw [upd_ne n]; exact h
theorem ButO.tups {o C dx : Addr} {fs : List (Str × V)} {H H' : Hp} (s : ButO o H H') (h : H o = some (.ins C dx fs)) : TupS H H' := fun b xs e => s _ _ e fun z => by rw [z, h] at e; cases e
noncomputable def WsOk (ws : List Str) : Prop := ∀ z ∈ ws, z.length ≤ 100 ∧ ∀ c ∈ z.cps.toList, c < 128
end Mm

set_option Elab.async false
set_option linter.all false
set_option maxRecDepth 100000
set_option maxHeartbeats 4000000
namespace L2
open PySem PySem.Spec PyProof.Rows
section
variable {X : Cx}
end
end L2
namespace Mm
open PySem L2 PyProof.Rows
end Mm

set_option Elab.async false
set_option linter.all false
set_option maxRecDepth 100000
set_option maxHeartbeats 4000000
namespace L2
open PySem PySem.Spec PyProof.Rows
/-! ### e.f of a caught exception -/
section
variable {prog : Program} {w : World} {A : Around} {E : Value → Shared → Prop} {s : Shared} {K : PySem.W.Frag} {x D dx : Addr} {name : Str} {v : Value} {mA : Str → Option Value}
theorem HasD.inst {dx : Addr} {cx : Option Value} {h : Heap} (p : HasD x (.ref D) (some dx) cx h) {od : Obj} (ho : h.get? dx = some od) : ∃ ox, PySem.W.InstAt h x ox D (some od) := by
  obtain ⟨o, vs, q, hc, hd, hv, _⟩ := p
  refine ⟨o, q, hc, ?_, ?_⟩
  · obtain ⟨a, b, c, d⟩ := o
    cases hv
    rfl
  · rw [hd]; exact ho
open PySem.W PySem.Calls Builtin Builtin.ObjectAttr in
theorem xc_at {expr : Bool} {cx : Option Value} {Q : Value → Shared → Prop} (c : XCls K D) (hh : PySem.W.hasDictIn K D = true) (na : NoAttr K D name) (X : K.In s.heap) (p : HasD x (.ref D) (some dx) cx s.heap) (N : s.heap.Ns1 dx mA) (hv : mA name = some v) (hv' : PySem.W.handedIn v = true)
    (h : Q v { s with toks := s.toks + 1 }) : wpAny (model prog w) A (getAttr (.ref x) name expr) Q E s := by
  obtain ⟨od, ho, hl⟩ := lookIn_ns N
  obtain ⟨ox, J⟩ := p.inst ho
  have LF := looks_find (M := model prog w) X J (findObj_own hh na rfl (by rw [hl, hv]))
  obtain ⟨hp, g, d, t, os⟩ := s
  have L0 := p.cls.type (M := model prog w)
  have L1 := looks_findIn (M := model prog w) X c.hg
  have L2 := looks_findIn (M := model prog w) X c.hk
  unfold getAttr getAttrBy
  refine wpAny_bind (wpAny_mkText (wpAny_holding (wpAny_bind (L0.at (wpAny_bind (L1.at ?_))))))
  show wpAny _ _ (getAttrByItsOwn _ _ _ _ _ _) _ _ _
  unfold getAttrByItsOwn
  refine wpAny_bind ((show Looks (model prog w) hp (hookBefore (.ref D)) none from L2).at ?_)
  refine wpAny_bind (wpAny_attempt (wpAny_holding ?_))
  unfold callGetattribute
  rw [show (expr && onTheHeap (.builtin "BaseException.__getattribute__")) = false from by cases expr <;> rfl]
  rw [if_neg (by decide)]
  unfold boundAndCalled
  rw [F.excAttr_ValueError.ga.bind]
  refine wpAny_bind (wpAny_pure ?_)
  refine wpAny_call (codeAny_call_builtin F.excAttr_ValueError.ga.plain F.entry_bexc_ga (xc_check (s := ⟨hp, g, d, t + 1, os⟩) c X p.cls ?_))
  refine wpAny_bind (wpAny_pure (wpAny_bind (wpAny_pure (wpAny_bind (L0.at (wpAny_bind (LF.at ?_)))))))
  refine wpAny_pure ?_
  show wpAny _ _ (handedOut v) _ _ _
  rw [handedOut_of hv']
  exact wpAny_pure h
end
section
variable {X : Cx}
/-- e.f -/
noncomputable def tXfld (K : PySem.W.Frag) (ta : TE) (f : Str) : TE := fun σ H Q => ta σ H fun x H1 => ∃ (a D dx : Addr) (cx : Option Value) (fs : List (Str × V)) (v : V), x = .ref a ∧ H1 a = some (excD a (.ref D) (some dx) cx) ∧ H1 dx = some (xdO dx fs) ∧ XCls K D ∧ PySem.W.hasDictIn K D = true ∧ NoAttr K D f ∧ fs.lookup f = some v ∧ Q v H1
theorem pe_xfld {e : Expr} {f : Str} {pos : Pos} {ta : TE} (he : PE X e ta) (hb : attributeBase e f X.env (eval e X.env) = eval e X.env) : PE X (.Attribute e f pos) (tXfld X.K ta f) := by
  intro pins s σ H Q I h
  refine attr_of hb (thn (he pins s σ H _ I h) fun u s1 hsl59 => ?_)
  obtain ⟨x, H1, I1, rx, a, D, dx, cx, fs, v, ex, ea, ed, c, hh, n, l, q⟩ := hsl59
  subst ex
  obtain rfl : u = Value.ref a := rx
  obtain ⟨mA, N, r⟩ : XdAt dx fs s1.heap := (show ObjOk X.prog X.w H1 s1.heap dx (.ext (XdAt dx fs)) from I1.hok dx _ ed).1
  obtain ⟨u, hu, ru⟩ := RelO.some_of (v := v) (o := mA f) (by rw [← l]; exact r f)
  exact xc_at c hh n I1.kIn (excD_has I1 ea) N hu (handed_of ru) ⟨v, H1, I1.tok _, ru, q⟩
end
end L2

set_option Elab.async false
set_option linter.all false
set_option maxRecDepth 100000
set_option maxHeartbeats 4000000
namespace L2
open PySem PySem.Spec PyProof.Rows
/-! ### a def that may be called within an except suite too (it raises nothing, and makes no use of calm) -/
structure RoomH (k : Nat) (A : Around) : Prop where
  dp : A.depth + 3 * k + 5 < recursionLimit
  un : A.units + 16 * k + 200 < cLine
theorem RoomH.make {k : Nat} {A : Around} (r : RoomH (k + 1) A) (C : Addr) (us : List Value) (kw : List (Str × Value)) : RoomH k (A.under (.builtin "type.__call__" ⟨.ref C :: us, kw⟩)) :=
  ⟨by have := r.dp; rw [make_depth]; omega, by have := r.un; rw [make_units]; omega⟩
theorem Room.mark {k : Nat} {A : Around} (r : Room k A) (v : Option Value) : RoomH k (A.mark v) := ⟨r.dp, r.un⟩
structure FnOkH (P : Program) (w : World) (K : PySem.W.Frag) (mg : Str → Option Value) (base : Heap) (k : Nat) (f : Addr) (fd : FuncData) (ps : List Str) (sp : Sp) : Prop where
  len : ∀ vs H Q E, sp vs H Q E → vs.length = ps.length
  run : ∀ (A : Around) (outer : List Env) (s : Shared) (H : Hp) (args : Args) (us : List Value) (vs : List V) (Q : VK) (E : XK), RoomH k A → Env0 P w K mg base A outer s H → BindsTo s fd args (ps.zip us) → Vals vs us → sp vs H Q E →
    codeAny (model P w) A (.call (.ref f) args) (CR CX0 outer P w H s Q E) s
section
variable {P : Program} {w : World} {K : PySem.W.Frag} {mg : Str → Option Value} {base : Heap}
end
end L2

set_option Elab.async false
set_option linter.all false
set_option maxRecDepth 100000
set_option maxHeartbeats 4000000
namespace L2
open PySem PySem.Spec PyProof.Rows
/-! ### a raise in the suite of an except clause: the caught exception, which has no context, becomes the new one's context -/
section
variable {prog : Program} {w : World} {A : Around} {E : Value → Shared → Prop} {s : Shared}
end

section
variable {M : Model} {A : Around} {E : Value → Shared → Prop} {s : Shared} {base : Heap} {l outer : List Env} {env : Env} {L e : Addr} {cls : Value} {dd : Option Addr} {cx : Option Value} {Q : Unit → Shared → Prop}
end
/-- the suite of an except clause that may raise -/
noncomputable abbrev Cx.hndR (X : Cx) (ea : Addr) : Cx := { X with A := X.A.mark (some (.ref ea)), calm := false, xe := notedBy (model X.prog X.w) (X.A.mark (some (.ref ea))) X.env (cameBackBy (model X.prog X.w) X.A X.env X.xe) }
section
variable {X : Cx} {pins : List (Addr × Obj)} {σ : St} {H : Hp} {s : Shared}
theorem Cx.Ok.hndR (ok : X.Ok) (ea : Addr) : (X.hndR ea).Ok :=
  ⟨ok.mod, ok.kind, ok.glob, ok.blt, ok.above, ok.inj, ok.has, ok.cab, (fun z => nomatch z), ok.frames, ok.stk, ok.exf, ok.bs, ok.bsz, ok.noex, ok.exfs, ok.funs, ok.frf⟩
theorem Inv.hndR (I : Inv X pins σ H s) (ea : Addr) : Inv (X.hndR ea) pins σ H s := ⟨I.ok.hndR ea, I.os, I.bare, I.base, I.loc, I.cell, I.free, I.freeC, I.pin, I.hok, I.len⟩
end
section
variable {P : Program} {w : World} {K : PySem.W.Frag} {mg : Str → Option Value} {base : Heap} {N : List Str} {qual : Str} {scope : Scope} {f : Addr} {cd : Value} {A : Around} {outer : List Env} {s₀ : Shared} {H₀ : Hp} {E : XK}
end

section
variable {prog : Program} {w : World} {A : Around} {E : Value → Shared → Prop} {env : Env}
variable {nm q : Str} {C N : Addr} {bs bm bmB : List Value} {hdct : Bool} {sn : List Str} {sub : List Value} {ab : Bool} {col : Option Bool} {dd : Option Addr} {k0 k1 k2 k3 k5 : Option Value} {B newId initId : String}
end
section
variable {X : Cx}
end
end L2

set_option Elab.async false
set_option linter.all false
set_option maxRecDepth 100000
set_option maxHeartbeats 4000000
namespace L2
open PySem PySem.Spec PyProof.Rows
/-! ### an exception that leaves a comprehension -/
section
variable {M : Model} {A : Around} {E : Value → Shared → Prop} {s : Shared}
end
section
variable {X : Cx} {pins : List (Addr × Obj)} {σ : St} {H H' : Hp} {s s' : Shared} {B h'' : Heap}
end
section
variable {P : Program} {w : World} {K : PySem.W.Frag} {mg : Str → Option Value} {base : Heap} {N : List Str} {qual : Str} {scope : Scope} {f : Addr} {cd : Value} {A : Around} {outer : List Env} {s₀ : Shared} {H₀ : Hp} {E : XK}
end
/-! ### the loop of a comprehension whose element may raise -/
section
variable {X : Cx} {pins : List (Addr × Obj)} {σ : St} {H2 : Hp} {s2 : Shared} {elt iter tg : Expr} {xs : List Str} {ifs : List Expr} {sc scX : Scope} {pos : Pos} {fv : List Str} {js : List Nat} {g : TG} {tt : TT}
end
end L2

set_option Elab.async false
set_option linter.all false
set_option maxRecDepth 100000
set_option maxHeartbeats 4000000
namespace L2
open PySem PySem.Spec PyProof.Rows
theorem vals_refs : ∀ {Cs : List Addr} {us : List Value}, Vals (Cs.map V.ref) us → us = Cs.map Value.ref
  | [], _, r => by cases r; rfl
  | c :: cs, _, r => by
    cases r with
    | cons r1 r2 =>
      cases (show _ = Value.ref c from r1)
      rw [vals_refs r2]
      rfl
section
variable {X : Cx}
/-- isinstance(e, (C1, C2, ..)) -/
theorem call_isexDT {K : PySem.W.Frag} (hK : X.K = K) : CallR X (.builtin "isinstance") (fun xs H Q => ∃ (a t D : Addr) (Cs : List Addr) (dd : Option Addr) (cx : Option Value) (b : Bool), xs = [.ref a, .ref t] ∧ H t = some (.tup (Cs.map V.ref)) ∧ H a = some (excD a (.ref D) dd cx) ∧ XCls K D ∧ PySem.W.kitAny K (.ref D) (Cs.map Value.ref) = some b ∧ Q (.bl b) H) := by
  subst hK
  intro pins s σ H xs us Q I r h
  obtain ⟨a, t, D, Cs, dd, cx, b, rfl, ht, ha, c, e, q⟩ := h
  obtain ⟨u, w', rfl, rx, rw'⟩ := vals2 r
  cases (show w' = Value.ref t from rw')
  cases (show u = Value.ref a from rx)
  obtain ⟨_, its, rv, ⟨oc, od, oda, osl⟩, ho, hc, n, hd⟩ := I.hok t _ ht
  have hc : oc = .type "tuple" := hc
  have hd : oda = .seq its.toArray n := hd
  subst hc hd
  rw [← vals_refs rv] at e
  exact PySem.W.kia_tup (kitx_exc c) I.kIn (excD_has I ha).cls ho e (fun z => nomatch z) fun tk => ⟨.bl b, H, I.tok _, rfl, q⟩
end
theorem pe_xfldK {X : Cx} {K : PySem.W.Frag} {e : Expr} {f : Str} {pos : Pos} {ta : TE} (hK : X.K = K) (he : PE X e ta) (hb : attributeBase e f X.env (eval e X.env) = eval e X.env) : PE X (.Attribute e f pos) (tXfld K ta f) := by
  subst hK
  exact pe_xfld he hb
/-- an exception with the field at -/
noncomputable def ErrAt (E : XK) (C : Addr) (x : V) (H : Hp) : Prop := ∀ dx H', Same H H' → H' dx = some (xdO dx [("at", x)]) → E (.ref C) (some dx) H'
theorem ErrAt.same {E : XK} {C : Addr} {x : V} {H H1 : Hp} (h : ErrAt E C x H) (s : Same H H1) : ErrAt E C x H1 := fun dx H' s' e => h dx H' (s.trans s') e
end L2

set_option Elab.async false
set_option linter.all false
set_option maxRecDepth 100000
set_option maxHeartbeats 4000000
namespace L2
open PySem PySem.Spec PyProof.Rows
/-! ### a def with defaults -/
structure FunD (K : PySem.W.Frag) (x qual : Str) (st : Stmt) (f T : Addr) (items : List Value) (fd : FuncData) : Prop where
  ex : ∃ (oc : Value) (od : Option Addr) (kV doc pm : Value) (an : Option Addr) (cdv ct : Value) (osl : Array (Option Value)),
    fd = PySem.W.fnOf x qual (defArgs st) (defBody st) (defScope st) (.ref T) kV doc pm an cdv ct ∧ K.lookup f = some ⟨oc, od, .func fd, osl⟩ ∧ PySem.W.codeIn K cdv qual = true
  df : ∃ (o : Obj) (n : Nat), K.lookup T = some o ∧ o.data = .seq items.toArray n
section
variable {P : Program} {w : World} {K : PySem.W.Frag} {mg : Str → Option Value} {base : Heap}
theorem FunD.ok2 {κ : Option Value → Prop} {x qual : Str} {st : Stmt} {f T : Addr} {items : List Value} {fd : FuncData} {N ps : List Str} {k : Nat} {sp : Sp} (F : FunD K x qual st f T items fd) (S : FnScope N ps (defScope st)) (len : ∀ vs H Q E, sp vs H Q E → vs.length = ps.length)
    (hbody : ∀ (cdv : Value) (A : Around) (outer : List Env) (s : Shared) (H : Hp) (vs : List V) (Q : VK) (E : XK), Room k (A.deeper (envOfC qual (defScope st) s.heap.objs.size f cdv)) → sp vs H Q E →
      ∃ t, PSs (cxOf (CX2 κ P w) P w K mg base N qual (defScope st) f cdv A outer s H E) (defBody st) t ∧ t { nx := fun _ H' => Q .non H', rt := Q } (start N vs) H) : FnOk P w K mg base (CX2 κ P w) (k + 1) f fd ps sp := by
  obtain ⟨oc, od, kV, doc, pm, an, cdv, ct, osl, rfl, lk, hcd⟩ := F.ex
  exact fn_of lk hcd S len fun A outer s H vs Q E hr hsp => hbody cdv A outer s H vs Q E hr hsp
theorem FunD.binds {x qual : Str} {st : Stmt} {f T : Addr} {items ds : List Value} {fd : FuncData} {ps : List Str} (F : FunD K x qual st f T items fd)
    (h : ∀ (kV doc pm : Value) (an : Option Addr) (cdv ct : Value) (us : List Value), (us ++ ds).length = ps.length →
      ∃ k, bindArgs (PySem.W.fnOf x qual (defArgs st) (defBody st) (defScope st) (.ref T) kV doc pm an cdv ct) ⟨us, []⟩ = seqItems? (.ref T) >>= k ∧ k (some items.toArray) = pure (ps.zip (us ++ ds))) : Binds K fd ps ds := by
  obtain ⟨oc, od, kV, doc, pm, an, cdv, ct, osl, rfl, lk, hcd⟩ := F.ex
  obtain ⟨o, n, hT, hd⟩ := F.df
  intro s us KX hl
  obtain ⟨k, h1, h2⟩ := h kV doc pm an cdv ct us hl
  exact .of_defaults (T := T) rfl (KX _ _ hT) hd h1 h2
end
/-! ### x in a list of data -/
section
variable {X : Cx}
end
/-! ### sum of a list of ints -/
section
variable {X : Cx}
end
end L2

set_option Elab.async false
set_option linter.all false
set_option maxRecDepth 100000
set_option maxHeartbeats 4000000
namespace K21
open PySem L2 Mm
/-! the text by places -/
noncomputable def top (i : Nat) : Stmt := PySem.Challenge.pw_manymakes_k21_expressions_read.main.body.getD i (.Pass ⟨0, 0, 0, 0⟩)
noncomputable abbrev st_made_of : Stmt := top 12
noncomputable abbrev st_is_name : Stmt := top 13
noncomputable abbrev st_is_number : Stmt := top 14
noncomputable abbrev st_read_row : Stmt := top 16
noncomputable abbrev st_read_head : Stmt := top 17
noncomputable abbrev st_read_plain : Stmt := top 21
noncomputable abbrev st_place_fault : Stmt := top 22
noncomputable abbrev st_is_misplaced : Stmt := top 23
noncomputable abbrev st_is_stray : Stmt := top 24
noncomputable abbrev st_put_in : Stmt := top 25
noncomputable abbrev st_begun : Stmt := top 26
noncomputable abbrev st_law_cell_at : Stmt := top 28
noncomputable abbrev st_law_stream : Stmt := top 29
noncomputable abbrev st_law_name : Stmt := top 30
noncomputable abbrev st_law_leaf : Stmt := top 31
noncomputable abbrev st_law_many : Stmt := top 32
noncomputable abbrev st_law_expr : Stmt := top 33
noncomputable abbrev st_law_deep : Stmt := top 34
noncomputable abbrev st_law_words : Stmt := top 35
noncomputable abbrev st_law_found : Stmt := top 36
noncomputable abbrev st_law_spoiled : Stmt := top 37
noncomputable abbrev st_law_edges : Stmt := top 38
noncomputable abbrev st_Phrase_init : Stmt := inClass (top 15) 0
noncomputable abbrev st_Phrase_ended : Stmt := inClass (top 15) 1
noncomputable abbrev st_Phrase_take : Stmt := inClass (top 15) 2
noncomputable abbrev st_Phrase_take_name : Stmt := inClass (top 15) 3
noncomputable abbrev st_Phrase_take_plain_kind : Stmt := inClass (top 15) 4
noncomputable abbrev st_Phrase_take_kind : Stmt := inClass (top 15) 5
noncomputable abbrev st_Phrase_take_fields : Stmt := inClass (top 15) 6
noncomputable abbrev st_Phrase_take_params : Stmt := inClass (top 15) 7
noncomputable abbrev st_Phrase_unlike_names : Stmt := inClass (top 15) 8
noncomputable abbrev st_Phrase_take_expr : Stmt := inClass (top 15) 9
noncomputable abbrev st_Phrase_take_named : Stmt := inClass (top 15) 10
noncomputable abbrev st_Phrase_take_exprs : Stmt := inClass (top 15) 11
noncomputable abbrev st_Block_init : Stmt := inClass (top 20) 0
noncomputable abbrev st_NoForm_init : Stmt := inClass (top 2) 0
noncomputable abbrev st_law : Stmt := top 39
structure Adr where
  made_of : Addr
  is_name : Addr
  is_number : Addr
  read_row : Addr
  read_head : Addr
  read_plain : Addr
  place_fault : Addr
  is_misplaced : Addr
  is_stray : Addr
  put_in : Addr
  begun : Addr
  law_cell_at : Addr
  law_stream : Addr
  law_name : Addr
  law_leaf : Addr
  law_many : Addr
  law_expr : Addr
  law_deep : Addr
  law_words : Addr
  law_found : Addr
  law_spoiled : Addr
  law_edges : Addr
  Phrase_init : Addr
  Phrase_ended : Addr
  Phrase_take : Addr
  Phrase_take_name : Addr
  Phrase_take_plain_kind : Addr
  Phrase_take_kind : Addr
  Phrase_take_fields : Addr
  Phrase_take_params : Addr
  Phrase_unlike_names : Addr
  Phrase_take_expr : Addr
  Phrase_take_named : Addr
  Phrase_take_exprs : Addr
  Block_init : Addr
  NoForm_init : Addr
  c_Phrase : Addr
  c_Block : Addr
  x_MakesError : Addr
  x_NoForm : Addr
  q_LANGUAGE_WORDS : Addr
  q_OPERATORS : Addr
  q_PLAIN_KINDS : Addr
structure Fds where
  made_of : FuncData
  is_name : FuncData
  is_number : FuncData
  read_row : FuncData
  read_head : FuncData
  read_plain : FuncData
  place_fault : FuncData
  is_misplaced : FuncData
  is_stray : FuncData
  put_in : FuncData
  begun : FuncData
  law_cell_at : FuncData
  law_stream : FuncData
  law_name : FuncData
  law_leaf : FuncData
  law_many : FuncData
  law_expr : FuncData
  law_deep : FuncData
  law_words : FuncData
  law_found : FuncData
  law_spoiled : FuncData
  law_edges : FuncData
  Phrase_init : FuncData
  Phrase_ended : FuncData
  Phrase_take : FuncData
  Phrase_take_name : FuncData
  Phrase_take_plain_kind : FuncData
  Phrase_take_kind : FuncData
  Phrase_take_fields : FuncData
  Phrase_take_params : FuncData
  Phrase_unlike_names : FuncData
  Phrase_take_expr : FuncData
  Phrase_take_named : FuncData
  Phrase_take_exprs : FuncData
  Block_init : FuncData
  NoForm_init : FuncData
structure All (P : Program) (w : World) (K : PySem.W.Frag) (mg : Str → Option Value) (A : Adr) (D : Fds) : Prop where
  m_made_of : mg "made_of" = some (.ref A.made_of)
  k_made_of : PySem.W.keepIn K (.ref A.made_of) = true
  F_made_of : Fun K "made_of" "made_of" st_made_of A.made_of D.made_of
  b_made_of : Binds K D.made_of ["word", "signs", "most"] []
  m_is_name : mg "is_name" = some (.ref A.is_name)
  k_is_name : PySem.W.keepIn K (.ref A.is_name) = true
  F_is_name : Fun K "is_name" "is_name" st_is_name A.is_name D.is_name
  b_is_name : Binds K D.is_name ["word"] []
  m_is_number : mg "is_number" = some (.ref A.is_number)
  k_is_number : PySem.W.keepIn K (.ref A.is_number) = true
  F_is_number : Fun K "is_number" "is_number" st_is_number A.is_number D.is_number
  b_is_number : Binds K D.is_number ["word"] []
  m_read_row : mg "read_row" = some (.ref A.read_row)
  k_read_row : PySem.W.keepIn K (.ref A.read_row) = true
  F_read_row : Fun K "read_row" "read_row" st_read_row A.read_row D.read_row
  b_read_row : Binds K D.read_row ["words", "at"] []
  m_read_head : mg "read_head" = some (.ref A.read_head)
  k_read_head : PySem.W.keepIn K (.ref A.read_head) = true
  F_read_head : Fun K "read_head" "read_head" st_read_head A.read_head D.read_head
  b_read_head : Binds K D.read_head ["phrase", "word"] []
  m_read_plain : mg "read_plain" = some (.ref A.read_plain)
  k_read_plain : PySem.W.keepIn K (.ref A.read_plain) = true
  F_read_plain : Fun K "read_plain" "read_plain" st_read_plain A.read_plain D.read_plain
  b_read_plain : Binds K D.read_plain ["rows"] []
  m_place_fault : mg "place_fault" = some (.ref A.place_fault)
  k_place_fault : PySem.W.keepIn K (.ref A.place_fault) = true
  F_place_fault : Fun K "place_fault" "place_fault" st_place_fault A.place_fault D.place_fault
  b_place_fault : Binds K D.place_fault ["word", "within"] []
  m_is_misplaced : mg "is_misplaced" = some (.ref A.is_misplaced)
  k_is_misplaced : PySem.W.keepIn K (.ref A.is_misplaced) = true
  F_is_misplaced : Fun K "is_misplaced" "is_misplaced" st_is_misplaced A.is_misplaced D.is_misplaced
  b_is_misplaced : Binds K D.is_misplaced ["word", "within"] []
  m_is_stray : mg "is_stray" = some (.ref A.is_stray)
  k_is_stray : PySem.W.keepIn K (.ref A.is_stray) = true
  F_is_stray : Fun K "is_stray" "is_stray" st_is_stray A.is_stray D.is_stray
  b_is_stray : Binds K D.is_stray ["word", "within"] []
  m_put_in : mg "put_in" = some (.ref A.put_in)
  k_put_in : PySem.W.keepIn K (.ref A.put_in) = true
  F_put_in : Fun K "put_in" "put_in" st_put_in A.put_in D.put_in
  b_put_in : Binds K D.put_in ["head", "tree", "blocks"] []
  m_begun : mg "begun" = some (.ref A.begun)
  k_begun : PySem.W.keepIn K (.ref A.begun) = true
  F_begun : Fun K "begun" "begun" st_begun A.begun D.begun
  b_begun : Binds K D.begun ["head", "blocks"] []
  m_law_cell_at : mg "_law_cell_at" = some (.ref A.law_cell_at)
  k_law_cell_at : PySem.W.keepIn K (.ref A.law_cell_at) = true
  F_law_cell_at : Fun K "_law_cell_at" "_law_cell_at" st_law_cell_at A.law_cell_at D.law_cell_at
  b_law_cell_at : Binds K D.law_cell_at ["_law_script", "_law_k"] []
  m_law_stream : mg "_law_stream" = some (.ref A.law_stream)
  k_law_stream : PySem.W.keepIn K (.ref A.law_stream) = true
  F_law_stream : Fun K "_law_stream" "_law_stream" st_law_stream A.law_stream D.law_stream
  b_law_stream : Binds K D.law_stream ["_law_cell", "_law_size"] []
  m_law_name : mg "_law_name" = some (.ref A.law_name)
  k_law_name : PySem.W.keepIn K (.ref A.law_name) = true
  F_law_name : Fun K "_law_name" "_law_name" st_law_name A.law_name D.law_name
  b_law_name : Binds K D.law_name ["_law_number"] []
  m_law_leaf : mg "_law_leaf" = some (.ref A.law_leaf)
  k_law_leaf : PySem.W.keepIn K (.ref A.law_leaf) = true
  F_law_leaf : Fun K "_law_leaf" "_law_leaf" st_law_leaf A.law_leaf D.law_leaf
  b_law_leaf : Binds K D.law_leaf ["_law_number"] []
  m_law_many : mg "_law_many" = some (.ref A.law_many)
  k_law_many : PySem.W.keepIn K (.ref A.law_many) = true
  F_law_many : Fun K "_law_many" "_law_many" st_law_many A.law_many D.law_many
  b_law_many : Binds K D.law_many ["_law_word", "_law_xs", "_law_deep_here"] []
  m_law_expr : mg "_law_expr" = some (.ref A.law_expr)
  k_law_expr : PySem.W.keepIn K (.ref A.law_expr) = true
  F_law_expr : Fun K "_law_expr" "_law_expr" st_law_expr A.law_expr D.law_expr
  b_law_expr : Binds K D.law_expr ["_law_xs", "_law_deep_here"] []
  m_law_deep : mg "_law_deep" = some (.ref A.law_deep)
  k_law_deep : PySem.W.keepIn K (.ref A.law_deep) = true
  F_law_deep : Fun K "_law_deep" "_law_deep" st_law_deep A.law_deep D.law_deep
  b_law_deep : Binds K D.law_deep ["_law_e"] []
  m_law_words : mg "_law_words" = some (.ref A.law_words)
  k_law_words : PySem.W.keepIn K (.ref A.law_words) = true
  F_law_words : Fun K "_law_words" "_law_words" st_law_words A.law_words D.law_words
  b_law_words : Binds K D.law_words ["_law_e"] []
  m_law_found : mg "_law_found" = some (.ref A.law_found)
  k_law_found : PySem.W.keepIn K (.ref A.law_found) = true
  F_law_found : Fun K "_law_found" "_law_found" st_law_found A.law_found D.law_found
  b_law_found : Binds K D.law_found ["_law_words_here"] []
  m_law_spoiled : mg "_law_spoiled" = some (.ref A.law_spoiled)
  k_law_spoiled : PySem.W.keepIn K (.ref A.law_spoiled) = true
  F_law_spoiled : Fun K "_law_spoiled" "_law_spoiled" st_law_spoiled A.law_spoiled D.law_spoiled
  b_law_spoiled : Binds K D.law_spoiled ["_law_words_here", "_law_cell"] []
  m_law_edges : mg "_law_edges" = some (.ref A.law_edges)
  k_law_edges : PySem.W.keepIn K (.ref A.law_edges) = true
  F_law_edges : Fun K "_law_edges" "_law_edges" st_law_edges A.law_edges D.law_edges
  b_law_edges : Binds K D.law_edges [] []
  M_Phrase : Mk K A.c_Phrase A.Phrase_init
  k_Phrase_init : PySem.W.keepIn K (.ref A.Phrase_init) = true
  F_Phrase_init : Fun K "__init__" "Phrase.__init__" st_Phrase_init A.Phrase_init D.Phrase_init
  b_Phrase_init : Binds K D.Phrase_init ["self", "words", "at"] []
  M_Phrase_ended : Meth K A.c_Phrase "ended" A.Phrase_ended
  k_Phrase_ended : PySem.W.keepIn K (.ref A.Phrase_ended) = true
  F_Phrase_ended : Fun K "ended" "Phrase.ended" st_Phrase_ended A.Phrase_ended D.Phrase_ended
  b_Phrase_ended : Binds K D.Phrase_ended ["self"] []
  M_Phrase_take : Meth K A.c_Phrase "take" A.Phrase_take
  k_Phrase_take : PySem.W.keepIn K (.ref A.Phrase_take) = true
  F_Phrase_take : Fun K "take" "Phrase.take" st_Phrase_take A.Phrase_take D.Phrase_take
  b_Phrase_take : Binds K D.Phrase_take ["self"] []
  M_Phrase_take_name : Meth K A.c_Phrase "take_name" A.Phrase_take_name
  k_Phrase_take_name : PySem.W.keepIn K (.ref A.Phrase_take_name) = true
  F_Phrase_take_name : Fun K "take_name" "Phrase.take_name" st_Phrase_take_name A.Phrase_take_name D.Phrase_take_name
  b_Phrase_take_name : Binds K D.Phrase_take_name ["self"] []
  M_Phrase_take_plain_kind : Meth K A.c_Phrase "take_plain_kind" A.Phrase_take_plain_kind
  k_Phrase_take_plain_kind : PySem.W.keepIn K (.ref A.Phrase_take_plain_kind) = true
  F_Phrase_take_plain_kind : Fun K "take_plain_kind" "Phrase.take_plain_kind" st_Phrase_take_plain_kind A.Phrase_take_plain_kind D.Phrase_take_plain_kind
  b_Phrase_take_plain_kind : Binds K D.Phrase_take_plain_kind ["self"] []
  M_Phrase_take_kind : Meth K A.c_Phrase "take_kind" A.Phrase_take_kind
  k_Phrase_take_kind : PySem.W.keepIn K (.ref A.Phrase_take_kind) = true
  F_Phrase_take_kind : Fun K "take_kind" "Phrase.take_kind" st_Phrase_take_kind A.Phrase_take_kind D.Phrase_take_kind
  b_Phrase_take_kind : Binds K D.Phrase_take_kind ["self"] []
  M_Phrase_take_fields : Meth K A.c_Phrase "take_fields" A.Phrase_take_fields
  k_Phrase_take_fields : PySem.W.keepIn K (.ref A.Phrase_take_fields) = true
  F_Phrase_take_fields : Fun K "take_fields" "Phrase.take_fields" st_Phrase_take_fields A.Phrase_take_fields D.Phrase_take_fields
  b_Phrase_take_fields : Binds K D.Phrase_take_fields ["self"] []
  M_Phrase_take_params : Meth K A.c_Phrase "take_params" A.Phrase_take_params
  k_Phrase_take_params : PySem.W.keepIn K (.ref A.Phrase_take_params) = true
  F_Phrase_take_params : Fun K "take_params" "Phrase.take_params" st_Phrase_take_params A.Phrase_take_params D.Phrase_take_params
  b_Phrase_take_params : Binds K D.Phrase_take_params ["self"] []
  M_Phrase_unlike_names : Meth K A.c_Phrase "unlike_names" A.Phrase_unlike_names
  k_Phrase_unlike_names : PySem.W.keepIn K (.ref A.Phrase_unlike_names) = true
  F_Phrase_unlike_names : Fun K "unlike_names" "Phrase.unlike_names" st_Phrase_unlike_names A.Phrase_unlike_names D.Phrase_unlike_names
  b_Phrase_unlike_names : Binds K D.Phrase_unlike_names ["self", "pairs"] []
  M_Phrase_take_expr : Meth K A.c_Phrase "take_expr" A.Phrase_take_expr
  k_Phrase_take_expr : PySem.W.keepIn K (.ref A.Phrase_take_expr) = true
  F_Phrase_take_expr : Fun K "take_expr" "Phrase.take_expr" st_Phrase_take_expr A.Phrase_take_expr D.Phrase_take_expr
  b_Phrase_take_expr : Binds K D.Phrase_take_expr ["self", "deep"] []
  M_Phrase_take_named : Meth K A.c_Phrase "take_named" A.Phrase_take_named
  k_Phrase_take_named : PySem.W.keepIn K (.ref A.Phrase_take_named) = true
  F_Phrase_take_named : Fun K "take_named" "Phrase.take_named" st_Phrase_take_named A.Phrase_take_named D.Phrase_take_named
  b_Phrase_take_named : Binds K D.Phrase_take_named ["self", "word", "deep"] []
  M_Phrase_take_exprs : Meth K A.c_Phrase "take_exprs" A.Phrase_take_exprs
  k_Phrase_take_exprs : PySem.W.keepIn K (.ref A.Phrase_take_exprs) = true
  F_Phrase_take_exprs : Fun K "take_exprs" "Phrase.take_exprs" st_Phrase_take_exprs A.Phrase_take_exprs D.Phrase_take_exprs
  b_Phrase_take_exprs : Binds K D.Phrase_take_exprs ["self", "deep"] []
  M_Block : Mk K A.c_Block A.Block_init
  k_Block_init : PySem.W.keepIn K (.ref A.Block_init) = true
  F_Block_init : Fun K "__init__" "Block.__init__" st_Block_init A.Block_init D.Block_init
  b_Block_init : Binds K D.Block_init ["self", "word", "body", "other"] []
  M_NoForm : MkI K A.x_NoForm A.NoForm_init bmVE "ValueError.__new__"
  ic_NoForm : ICls K A.x_NoForm
  na_NoForm_at : NoAttr K A.x_NoForm "at"
  na_NoForm_what : NoAttr K A.x_NoForm "what"
  k_NoForm_init : PySem.W.keepIn K (.ref A.NoForm_init) = true
  F_NoForm_init : Fun K "__init__" "NoForm.__init__" st_NoForm_init A.NoForm_init D.NoForm_init
  b_NoForm_init : Binds K D.NoForm_init ["self", "at", "what"] []
  m_Phrase : mg "Phrase" = some (.ref A.c_Phrase)
  cl_Phrase : Cls K A.c_Phrase
  na_Phrase_words : NoAttr K A.c_Phrase "words"
  na_Phrase_at : NoAttr K A.c_Phrase "at"
  na_Phrase_place : NoAttr K A.c_Phrase "place"
  ty_Phrase : ∀ (H : Hp) (a dx : Addr) (fs : List (Str × V)), H a = some (.ins A.c_Phrase dx fs) → TyOf K H (.ref a) (.ref A.c_Phrase)
  is_Phrase : PySem.W.kitOne K (.ref A.c_Phrase) (.ref A.c_Phrase) = some true
  m_Block : mg "Block" = some (.ref A.c_Block)
  cl_Block : Cls K A.c_Block
  na_Block_word : NoAttr K A.c_Block "word"
  na_Block_body : NoAttr K A.c_Block "body"
  na_Block_other : NoAttr K A.c_Block "other"
  ty_Block : ∀ (H : Hp) (a dx : Addr) (fs : List (Str × V)), H a = some (.ins A.c_Block dx fs) → TyOf K H (.ref a) (.ref A.c_Block)
  is_Block : PySem.W.kitOne K (.ref A.c_Block) (.ref A.c_Block) = some true
  v_SMALL_LETTERS : ∃ t, mg "SMALL_LETTERS" = some (.str "abcdefghijklmnopqrstuvwxyz" t)
  v_FIGURES : ∃ t, mg "FIGURES" = some (.str "0123456789" t)
  v_LONGEST_NAME : ∃ t, mg "LONGEST_NAME" = some (.int 8 t)
  v_LONGEST_NUMBER : ∃ t, mg "LONGEST_NUMBER" = some (.int 18 t)
  v_DEEPEST_EXPR : ∃ t, mg "DEEPEST_EXPR" = some (.int 6 t)
  v_MOST_BLOCKS : ∃ t, mg "MOST_BLOCKS" = some (.int 4 t)
  m_LANGUAGE_WORDS : mg "LANGUAGE_WORDS" = some (.ref A.q_LANGUAGE_WORDS)
  Q_LANGUAGE_WORDS : ∀ H, SqT K H A.q_LANGUAGE_WORDS [.str "kind", .str "def", .str "set", .str "tell", .str "give", .str "if", .str "else", .str "while", .str "end", .str "num", .str "truth", .str "yes", .str "no", .str "less", .str "same", .str "and", .str "or", .str "not", .str "do", .str "new", .str "of", .str "+", .str "-", .str "*", .str "."]
  m_OPERATORS : mg "OPERATORS" = some (.ref A.q_OPERATORS)
  Q_OPERATORS : ∀ H, SqT K H A.q_OPERATORS [.str "+", .str "-", .str "*", .str "less", .str "same", .str "and", .str "or"]
  m_PLAIN_KINDS : mg "PLAIN_KINDS" = some (.ref A.q_PLAIN_KINDS)
  Q_PLAIN_KINDS : ∀ H, SqT K H A.q_PLAIN_KINDS [.str "num", .str "truth"]
  m_MakesError : mg "MakesError" = some (.ref A.x_MakesError)
  xc_MakesError : XCls K A.x_MakesError
  m_NoForm : mg "NoForm" = some (.ref A.x_NoForm)
  xc_NoForm : XCls K A.x_NoForm
  em_NoForm_NoForm : PySem.W.exmOne K (.ref A.x_NoForm) (.ref A.x_NoForm) = some true
  ki_NoForm_MakesError : PySem.W.kitOne K (.ref A.x_NoForm) (.ref A.x_MakesError) = some true
  n_len : mg "len" = none
  n_range : mg "range" = none
  n_int : mg "int" = none
  n_bool : mg "bool" = none
  n_all : mg "all" = none
  n_min : mg "min" = none
  n_list : mg "list" = none
  n_enumerate : mg "enumerate" = none
  n_isinstance : mg "isinstance" = none
  n_tuple : mg "tuple" = none
  n_set : mg "set" = none
  n_str : mg "str" = none
  n_max : mg "max" = none
section
variable {P : Program} {w : World} {K : PySem.W.Frag} {mg : Str → Option Value} {base : Heap} {AA : Adr} {DD : Fds}
/-! NoForm.__init__ -/
noncomputable def spXInit (C : Addr) : Sp := fun vs H Q _ => ∃ (e tt : Addr) (v u : V), vs = [.ref e, v, u] ∧ H e = some (excN e C tt none) ∧
  ∀ dx H', dx ≠ e → (∀ b x, H b = some x → b ≠ e → H' b = some x) → H' e = some (excN e C tt (some dx)) → H' dx = some (xdO dx [("at", v), ("what", u)]) → Q .non H'
noncomputable abbrev N_NoForm_init : List Str := ["self", "at", "what"]
theorem sc_NoForm_init : FnScope N_NoForm_init ["self", "at", "what"] (defScope st_NoForm_init) := ⟨rfl, rfl, rfl, by decide +kernel, rfl, by decide +kernel, by decide +kernel⟩
theorem ok_xinit (T : All P w K mg AA DD) : FnOk P w K mg base CX0 1 AA.NoForm_init DD.NoForm_init ["self", "at", "what"] (spXInit AA.x_NoForm) := by
  refine T.F_NoForm_init.ok sc_NoForm_init (fun vs H Q E h => ?_) (fun cdv A outer s H vs Q E hr h => ?_)
  · obtain ⟨e, tt, v, u, rfl, _⟩ := h
    rfl
  · obtain ⟨e, tt, v, u, rfl, he, k⟩ := h
    refine ⟨_, (@pss_cons _ _ _ _ _ (ps_xfld (body_cx.wish _) (pv 0) (pv 1)) (@pss_one _ _ _ (ps_xfld (body_cx.wish _) (pv 0) (pv 2)))), ?_⟩
    refine ⟨v, rfl, _, rfl, e, AA.x_NoForm, tt, rfl, T.ic_NoForm, T.na_NoForm_at, .inl ⟨he, fun dx hd ne => ?_⟩⟩
    have e1 : upd (upd H e (excN e AA.x_NoForm tt (some dx))) dx (xdO dx [("at", v)]) e = some (excN e AA.x_NoForm tt (some dx)) := by rw [upd_ne ne.symm, upd_same]
    refine ⟨u, rfl, _, rfl, e, AA.x_NoForm, tt, rfl, T.ic_NoForm, T.na_NoForm_what, .inr ⟨dx, _, e1, upd_same, ne, (by show 1 ≤ 1000; decide), ?_⟩⟩
    refine k dx _ ne (fun b x hb hbe => ?_) (by rw [upd_ne ne.symm]; exact e1) upd_same
    have hbd : b ≠ dx := ne_of_none hb hd
    rw [upd_ne hbd, upd_ne hbd, upd_ne hbe]
    exact hb
/-- an error at x, with its word -/
noncomputable def ErrW (E : XK) (C : Addr) (x : V) (wd : Str) (H : Hp) : Prop := ∀ dx H', Same H H' → H' dx = some (xdO dx [("at", x), ("what", .str wd)]) → E (.ref C) (some dx) H'
theorem raise_NoForm {C : Addr} {E : XK} {H : Hp} {v : V} {wd : Str} (h : ErrW E C v wd H) (e tt : Addr) (he : H e = none) :
    spXInit C [.ref e, v, .str wd] (upd H e (excN e C tt none)) (fun x H2 => x = .non ∧ ∃ dd, H2 e = some (excN e C tt dd) ∧ E (.ref C) dd (del H2 e)) E0 := by
  refine ⟨e, tt, v, .str wd, rfl, upd_same, fun dx H' ne s h1 h2 => ⟨rfl, some dx, h1, h dx _ (fun b u q => ?_) (by rw [del_ne ne]; exact h2)⟩⟩
  have hb : b ≠ e := ne_of_none q he
  rw [del_ne hb]
  exact s b u (by rw [upd_ne hb]; exact q) hb
/-! words -/
theorem same_upd {H : Hp} {p : Addr} {o : HO} (h : H p = none) : Same H (upd H p o) := fun b u e => by rw [upd_ne (ne_of_none e h)]; exact e
theorem dec_str (a b : Str) : decide (V.str a = V.str b) = decide (a = b) := decide_eq_decide.mpr ⟨fun h => by injection h, fun h => by rw [h]⟩
noncomputable def spMade : Sp := fun vs H Q _ => ∃ (z s : Str) (m : Nat) (f : Nat → Bool), vs = [.str z, .str s, .int m] ∧ (∀ c : Nat, c < 128 → (Builtin.Str.occurrences s ⟨#[c]⟩ 0 s.length 1).isEmpty = !(f c)) ∧ z.length ≤ 100 ∧ (∀ c ∈ z.cps.toList, c < 128) ∧ ∀ H', Same H H' → Q (.bl (madeOf f z m)) H'
noncomputable abbrev N_made_of : List Str := ["word", "signs", "most"]
theorem sc_made_of : FnScope N_made_of ["word", "signs", "most"] (defScope st_made_of) := ⟨rfl, rfl, rfl, by decide +kernel, rfl, by decide +kernel, by decide +kernel⟩
theorem ok_madeof (T : All P w K mg AA DD) : FnOk P w K mg base CX0 1 AA.made_of DD.made_of ["word", "signs", "most"] spMade := by
  refine T.F_made_of.ok sc_made_of (fun vs H Q E h => ?_) (fun cdv A outer s H vs Q E hr h => ?_)
  · obtain ⟨z, s, m, f, rfl, _⟩ := h
    rfl
  · obtain ⟨z, s, m, f, rfl, hf, hl, hc, k⟩ := h
    refine ⟨_, (@pss_one _ _ _ (@ps_ret _ _ _ _ (pe_and (@pe_cmpR _ _ _ _ _ _ _ _ op_ne (pv 0) pe_str (nomark _)) (pe_and (@pe_cmpR _ _ _ _ _ _ _ _ op_le (pe_callB call_len_str rfl T.n_len bt_len (@pa_cons _ _ _ _ _ (pv 0) pa_nil (by rfl))) (pv 2) (nomark _)) (pe_one (pe_callB (call_allB rfl) rfl T.n_all bt_all (@pa_cons _ _ _ _ _ (pe_comp (defScope st_made_of) N_made_of ["signs"] [1] rfl (by exact ⟨rfl, rfl, by decide +kernel, rfl, by decide +kernel, by decide +kernel, by decide +kernel, rfl, by decide +kernel⟩) rfl rfl (pi_str (pv 0)) (fun _ _ _ _ => pif_nil) (fun _ _ _ _ => (@pe_cmpR _ _ _ _ _ _ _ _ op_in_str (pv 0) (pv 1) rfl))) pa_nil (by rfl)))))))), ?_⟩
    refine ⟨_, rfl, rfl, _, rfl, ?_⟩
    unfold madeOf at k
    by_cases h0 : z = ""
    · rw [decide_eq_true (show V.str z = V.str "" by rw [h0])]
      refine iteF ?_
      have := k H (Same.refl _)
      rw [decide_eq_true h0] at this
      exact this
    rw [decide_eq_false (fun e => h0 (by injection e)), show (!false) = true from rfl]
    refine iteT ?_
    refine ⟨_, rfl, z, rfl, Nat.le_trans hl (by decide), _, rfl, _, _, rfl, rfl, _, rfl, ?_⟩
    by_cases h1 : z.length ≤ m
    · rw [decide_eq_true (by omega)]
      refine iteT ?_
      have hca : z.cps.all (· < 128) = true := by
        rw [← Array.all_toList, List.all_eq_true]
        exact fun c h => decide_eq_true (hc c h)
      refine ⟨_, rfl, z, rfl, hca, ?_⟩
      refine comp_N (fun i ys H' => H' = H ∧ i ≤ z.length ∧ ys = ((z.cps.toList.take i).map f).map V.bl) ⟨rfl, Nat.zero_le _, rfl⟩ ?_ ?_
      · rintro i ys H1 hi ⟨rfl, _, rfl⟩
        refine tYes_ok ?_
        rw [if_pos rfl]
        have hil : i < z.cps.toList.length := by rw [← str_len]; exact hi
        have hci := hc z.cps.toList[i] (List.getElem_mem hil)
        have ech : chAt z i = V.str ⟨#[z.cps.toList[i]]⟩ := by unfold chAt; rw [List.getD_eq_getElem?_getD, List.getElem?_eq_getElem hil]; rfl
        rw [ech]
        refine ⟨_, rfl, _, rfl, _, _, rfl, rfl, by simp; exact small1000 (by omega), rfl, by omega, ?_⟩
        rw [hf _ hci, Bool.not_not, List.take_succ_eq_append_getElem hil, List.map_append, List.map_append]
        rfl
      · rintro ys H1 ⟨rfl, _, rfl⟩ p hp
        refine ⟨p, _, rfl, SqL.of upd_same, ?_⟩
        rw [str_len, List.take_length]
        have := k _ (same_upd (o := .lst ((z.cps.toList.map f).map V.bl)) hp)
        rw [decide_eq_false h0, decide_eq_true h1, show (!false && (true && z.cps.toList.all f)) = z.cps.toList.all f from rfl] at this
        rw [List.all_map]
        exact this
    · rw [decide_eq_false (by omega)]
      refine iteF ?_
      have := k H (Same.refl _)
      rw [decide_eq_false h0, decide_eq_false h1] at this
      exact this
noncomputable def spIsName : Sp := fun vs H Q _ => ∃ z : Str, vs = [.str z] ∧ z.length ≤ 100 ∧ (∀ c ∈ z.cps.toList, c < 128) ∧ ∀ H', Same H H' → Q (.bl (isName z)) H'
theorem inV_strs (z : Str) (l : List Str) : inV (.str z) (l.map V.str) = decide (z ∈ l) := by
  induction l with
  | nil => rfl
  | cons a r ih =>
    show ((a == z) || inV (.str z) (r.map V.str)) = _
    rw [ih]
    by_cases h : a = z
    · subst h; simp
    · have : ¬ z = a := fun e => h e.symm
      simp [h, this]
noncomputable abbrev N_is_name : List Str := ["word"]
theorem sc_is_name : FnScope N_is_name ["word"] (defScope st_is_name) := ⟨rfl, rfl, rfl, by decide +kernel, rfl, by decide +kernel, by decide +kernel⟩
theorem ok_isname (T : All P w K mg AA DD) : FnOk P w K mg base CX0 2 AA.is_name DD.is_name ["word"] spIsName := by
  have GM := ok_madeof (base := base) T
  refine T.F_is_name.ok sc_is_name (fun vs H Q E h => ?_) (fun cdv A outer s H vs Q E hr h => ?_)
  · obtain ⟨z, rfl, _⟩ := h
    rfl
  · obtain ⟨z, rfl, hl, hc, k⟩ := h
    have hr1 : Room 1 _ := hr
    obtain ⟨t1, hSMALL_LETTERS⟩ := T.v_SMALL_LETTERS
    obtain ⟨t2, hLONGEST_NAME⟩ := T.v_LONGEST_NAME
    refine ⟨_, (@pss_one _ _ _ (@ps_ret _ _ _ _ (pe_and (pe_call GM hr1 rfl T.m_made_of T.k_made_of T.b_made_of .nil pass0 (@pa_cons _ _ _ _ _ (pv 0) (@pa_cons _ _ _ _ _ (pe_glob (v := .str "abcdefghijklmnopqrstuvwxyz") rfl hSMALL_LETTERS ⟨_, rfl⟩) (@pa_cons _ _ _ _ _ (pe_glob (v := .int 8) rfl hLONGEST_NAME ⟨_, rfl⟩) pa_nil (by rfl)) (by rfl)) (by rfl))) (pe_one (@pe_cmpR _ _ _ _ _ _ _ _ (op_notIn_seqK (K := K) rfl) (pv 0) (pe_glob (v := .ref AA.q_LANGUAGE_WORDS) rfl T.m_LANGUAGE_WORDS rfl) rfl))))), ?_⟩
    refine ⟨_, rfl, z, _, 8, isLo, rfl, occLo, hl, hc, fun H1 s1 => ?_⟩
    refine ⟨_, rfl, ?_⟩
    have k := k H1 s1
    unfold isName at k
    cases hm : madeOf isLo z 8 with
    | false => rw [hm] at k; exact iteF k
    | true =>
      rw [hm] at k
      refine iteT ?_
      refine ⟨_, rfl, AA.q_LANGUAGE_WORDS, lws.map V.str, rfl, .inr (T.Q_LANGUAGE_WORDS H1), rfl, rfl, ?_⟩
      rw [inV_strs]
      exact k
noncomputable def spIsNum : Sp := fun vs H Q _ => ∃ z : Str, vs = [.str z] ∧ z.length ≤ 100 ∧ (∀ c ∈ z.cps.toList, c < 128) ∧ ∀ H', Same H H' → Q (.bl (isNum z)) H'
noncomputable abbrev N_is_number : List Str := ["word"]
theorem sc_is_number : FnScope N_is_number ["word"] (defScope st_is_number) := ⟨rfl, rfl, rfl, by decide +kernel, rfl, by decide +kernel, by decide +kernel⟩
theorem ok_isnum (T : All P w K mg AA DD) : FnOk P w K mg base CX0 2 AA.is_number DD.is_number ["word"] spIsNum := by
  have GM := ok_madeof (base := base) T
  refine T.F_is_number.ok sc_is_number (fun vs H Q E h => ?_) (fun cdv A outer s H vs Q E hr h => ?_)
  · obtain ⟨z, rfl, _⟩ := h
    rfl
  · obtain ⟨z, rfl, hl, hc, k⟩ := h
    have hr1 : Room 1 _ := hr
    obtain ⟨t1, hFIGURES⟩ := T.v_FIGURES
    obtain ⟨t2, hLONGEST_NUMBER⟩ := T.v_LONGEST_NUMBER
    refine ⟨_, (@pss_one _ _ _ (@ps_ret _ _ _ _ (pe_or (@pe_cmpR _ _ _ _ _ _ _ _ op_eq (pv 0) pe_str (nomark _)) (pe_one (pe_and (pe_call GM hr1 rfl T.m_made_of T.k_made_of T.b_made_of .nil pass0 (@pa_cons _ _ _ _ _ (pv 0) (@pa_cons _ _ _ _ _ (pe_glob (v := .str "0123456789") rfl hFIGURES ⟨_, rfl⟩) (@pa_cons _ _ _ _ _ (pe_glob (v := .int 18) rfl hLONGEST_NUMBER ⟨_, rfl⟩) pa_nil (by rfl)) (by rfl)) (by rfl))) (pe_one (@pe_cmpR _ _ _ _ _ _ _ _ op_ne (@pe_ix _ _ _ _ _ _ _ ix_str (pv 0) pe_int (fun _ _ => rfl)) pe_str (nomark _)))))))), ?_⟩
    unfold isNum at k
    refine ⟨_, rfl, rfl, _, rfl, ?_⟩
    by_cases h0 : z = "0"
    · rw [decide_eq_true (show V.str z = V.str "0" by rw [h0])]
      refine iteT ?_
      have := k H (Same.refl _)
      rw [decide_eq_true h0] at this
      exact this
    rw [decide_eq_false (fun e => h0 (by injection e))]
    refine iteF ?_
    refine ⟨_, rfl, z, _, 18, isFig, rfl, occFig, hl, hc, fun H1 s1 => ?_⟩
    refine ⟨_, rfl, ?_⟩
    have k := k H1 s1
    rw [decide_eq_false h0, Bool.false_or] at k
    cases hm : madeOf isFig z 18 with
    | false => rw [hm] at k; exact iteF k
    | true =>
      rw [hm] at k
      refine iteT ?_
      have hz : 0 < z.cps.toList.length := by
        rw [← str_len]
        unfold madeOf at hm
        refine Nat.pos_of_ne_zero fun e => ?_
        have hz0 : z = "" := by
          have e1 : z.cps.toList = [] := List.eq_nil_of_length_eq_zero (by rw [← str_len]; exact e)
          obtain ⟨a⟩ := z
          have : a = #[] := Array.toList_eq_nil_iff.mp e1
          rw [this]
          decide +kernel
        rw [decide_eq_true hz0] at hm
        cases hm
      refine ⟨_, rfl, z, _, z.cps.toList[0], rfl, rfl, Nat.le_trans hl (by decide), atI_nat (j := 0) (List.getElem?_eq_getElem hz), rfl, ?_⟩
      rw [List.getD_eq_getElem?_getD, List.getElem?_eq_getElem hz] at k
      have e1 : decide (V.str ⟨#[z.cps.toList[0]]⟩ = V.str "0") = decide (z.cps.toList[0] = 48) := by
        rw [dec_str]
        refine decide_eq_decide.mpr ⟨fun h => ?_, fun h => by rw [h]; decide +kernel⟩
        have := congrArg (fun s : Str => s.cps.toList) h
        have e2 : ("0" : Str).cps.toList = [48] := by decide +kernel
        rw [e2] at this
        simpa using this
      rw [e1]
      exact k
/-! the phrase -/
noncomputable def phF (wa : Addr) (x : V) (i : Nat) : List (Str × V) := [("words", .ref wa), ("at", x), ("place", .int ((i : Nat) : Int))]
structure Ph (C : Addr) (H : Hp) (o dx wa : Addr) (ws : List Str) (x : V) (i : Nat) : Prop where
  ins : H o = some (.ins C dx (phF wa x i))
  wds : H wa = some (.lst (ws.map V.str))
  ok : WsOk ws
  le : i ≤ ws.length
  few : ws.length ≤ 900
theorem Ph.ne {C : Addr} {H : Hp} {o dx wa : Addr} {ws : List Str} {x : V} {i : Nat} (h : Ph C H o dx wa ws x i) : wa ≠ o := fun e => by
  have a := h.wds
  rw [e, h.ins] at a
  cases a
theorem Ph.step {C : Addr} {H : Hp} {o dx wa : Addr} {ws : List Str} {x : V} {i : Nat} (h : Ph C H o dx wa ws x i) {j : Nat} (hj : j ≤ ws.length) : Ph C (upd H o (.ins C dx (phF wa x j))) o dx wa ws x j :=
  ⟨upd_same, by rw [upd_ne h.ne]; exact h.wds, h.ok, hj, h.few⟩
theorem Ph.same {C : Addr} {H H' : Hp} {o dx wa : Addr} {ws : List Str} {x : V} {i : Nat} (h : Ph C H o dx wa ws x i) (s : Same H H') : Ph C H' o dx wa ws x i :=
  ⟨s _ _ h.ins, s _ _ h.wds, h.ok, h.le, h.few⟩
/-- an error of form, the phrase apart -/
noncomputable def ErrF (E : XK) (C : Addr) (x : V) (o : Addr) (H : Hp) : Prop := ∀ dx H', ButO o H H' → H' dx = some (xdO dx [("at", x), ("what", .str "form")]) → E (.ref C) (some dx) H'
theorem ErrF.word {E : XK} {C : Addr} {x : V} {o : Addr} {H H1 : Hp} (h : ErrF E C x o H) (b : ButO o H H1) : ErrW E C x "form" H1 := fun dx H' s e => h dx H' (b.trans s.but) e
theorem ErrF.but {E : XK} {C : Addr} {x : V} {o : Addr} {H H1 : Hp} (h : ErrF E C x o H) (b : ButO o H H1) : ErrF E C x o H1 := fun dx H' s e => h dx H' (b.trans s) e
noncomputable def spPInit (C : Addr) : Sp := fun vs H Q _ => ∃ (o dx wa : Addr) (x : V), vs = [.ref o, .ref wa, x] ∧ H o = some (.ins C dx []) ∧ Q .non (upd (upd (upd H o (.ins C dx [("words", .ref wa)])) o (.ins C dx [("words", .ref wa), ("at", x)])) o (.ins C dx (phF wa x 0)))
noncomputable abbrev N_Phrase_init : List Str := ["self", "words", "at"]
theorem sc_Phrase_init : FnScope N_Phrase_init ["self", "words", "at"] (defScope st_Phrase_init) := ⟨rfl, rfl, rfl, by decide +kernel, rfl, by decide +kernel, by decide +kernel⟩
theorem ok_pinit (T : All P w K mg AA DD) : FnOk P w K mg base CX0 1 AA.Phrase_init DD.Phrase_init ["self", "words", "at"] (spPInit AA.c_Phrase) := by
  refine T.F_Phrase_init.ok sc_Phrase_init (fun vs H Q E h => ?_) (fun cdv A outer s H vs Q E hr h => ?_)
  · obtain ⟨o, dx, wa, x, rfl, _⟩ := h
    rfl
  · obtain ⟨o, dx, wa, x, rfl, ho, k⟩ := h
    refine ⟨_, (@pss_cons _ _ _ _ _ (ps_fld (pv 0) (pv 1) rfl) (@pss_cons _ _ _ _ _ (ps_fld (pv 0) (pv 2) rfl) (@pss_one _ _ _ (ps_fld (pv 0) pe_int rfl)))), ?_⟩
    refine ⟨_, rfl, _, rfl, o, AA.c_Phrase, dx, _, rfl, ho, T.cl_Phrase, T.na_Phrase_words, (by show 0 < 1000; decide), ?_⟩
    refine ⟨_, rfl, _, rfl, o, AA.c_Phrase, dx, _, rfl, upd_same, T.cl_Phrase, T.na_Phrase_at, (by show 1 < 1000; decide), ?_⟩
    exact ⟨_, rfl, o, AA.c_Phrase, dx, _, rfl, upd_same, T.cl_Phrase, T.na_Phrase_place, (by show 2 < 1000; decide), k⟩
noncomputable def spEnded (C : Addr) : Sp := fun vs H Q _ => ∃ (o dx wa : Addr) (ws : List Str) (x : V) (i : Nat), vs = [.ref o] ∧ Ph C H o dx wa ws x i ∧ Q (.bl (decide (i = ws.length))) H
theorem dec_nat (a b : Nat) : decide (V.int (a : Int) = V.int (b : Int)) = decide (a = b) := decide_eq_decide.mpr ⟨fun h => by injection h with h; omega, fun h => by rw [h]⟩
noncomputable abbrev N_Phrase_ended : List Str := ["self"]
theorem sc_Phrase_ended : FnScope N_Phrase_ended ["self"] (defScope st_Phrase_ended) := ⟨rfl, rfl, rfl, by decide +kernel, rfl, by decide +kernel, by decide +kernel⟩
theorem ok_ended (T : All P w K mg AA DD) : FnOk P w K mg base CX0 1 AA.Phrase_ended DD.Phrase_ended ["self"] (spEnded AA.c_Phrase) := by
  refine T.F_Phrase_ended.ok sc_Phrase_ended (fun vs H Q E h => ?_) (fun cdv A outer s H vs Q E hr h => ?_)
  · obtain ⟨o, dx, wa, ws, x, i, rfl, _⟩ := h
    rfl
  · obtain ⟨o, dx, wa, ws, x, i, rfl, h, k⟩ := h
    refine ⟨_, (@pss_one _ _ _ (@ps_ret _ _ _ _ (@pe_cmpR _ _ _ _ _ _ _ _ op_eq (pe_fld (pv 0) rfl) (pe_callB call_len_seq rfl T.n_len bt_len (@pa_cons _ _ _ _ _ (pe_fld (pv 0) rfl) pa_nil (by rfl))) (nomark _)))), ?_⟩
    refine ⟨_, rfl, o, AA.c_Phrase, dx, _, _, rfl, h.ins, T.cl_Phrase, T.na_Phrase_place, rfl, _, rfl, o, AA.c_Phrase, dx, _, _, rfl, h.ins, T.cl_Phrase, T.na_Phrase_words, rfl, wa, _, rfl, .inl (SqL.of h.wds), rfl, ?_⟩
    rw [List.length_map, dec_nat]
    exact k
end
section
variable {P : Program} {w : World} {K : PySem.W.Frag} {mg : Str → Option Value} {base : Heap} {AA : Adr} {DD : Fds}
noncomputable def spTake (C X : Addr) : Sp := fun vs H Q E => ∃ (o dx wa : Addr) (ws : List Str) (x : V) (i : Nat), vs = [.ref o] ∧ Ph C H o dx wa ws x i ∧ (∀ z, ws[i]? = some z → Q (.str z) (upd H o (.ins C dx (phF wa x (i + 1))))) ∧ (ws[i]? = none → ErrF E X x o H)
noncomputable abbrev N_Phrase_take : List Str := ["self", "word"]
theorem sc_Phrase_take : FnScope N_Phrase_take ["self"] (defScope st_Phrase_take) := ⟨rfl, rfl, rfl, by decide +kernel, rfl, by decide +kernel, by decide +kernel⟩
theorem ok_take (T : All P w K mg AA DD) : FnOk P w K mg base (CX2 (fun _ => True) P w) 3 AA.Phrase_take DD.Phrase_take ["self"] (spTake AA.c_Phrase AA.x_NoForm) := by
  have GE := ok_ended (base := base) T
  have GI := ok_xinit (base := base) T
  refine T.F_Phrase_take.ok2 sc_Phrase_take (fun vs H Q E h => ?_) (fun cdv A outer s H vs Q E hr h => ?_)
  · obtain ⟨o, dx, wa, ws, x, i, rfl, _⟩ := h
    rfl
  · obtain ⟨o, dx, wa, ws, x, i, rfl, h, kq, kx⟩ := h
    have nd := sc_Phrase_take.nd
    have hr1 : Room 1 _ := hr.mono (by decide)
    have hr2 : Room 2 _ := hr
    refine ⟨_, (@pss_cons _ _ _ _ _ (@ps_if _ _ _ _ _ _ _ _ (pt_val (pe_meth0 (pv 0) T.cl_Phrase T.M_Phrase_ended GE hr1 T.b_Phrase_ended .nil pass0)) (@pss_one _ _ _ (ps_raiseI body_cx (raise2 trivial) rfl rfl T.m_NoForm T.M_NoForm PySem.F.excBase_ValueError GI hr2 T.b_NoForm_init (@pa_cons _ _ _ _ _ (pe_fld (pv 0) rfl) (@pa_cons _ _ _ _ _ pe_str pa_nil (by rfl)) (by rfl)))) pss_nil) (@pss_cons _ _ _ _ _ (@ps_set _ _ 1 _ _ _ _ nd rfl (Or.inl rfl) (@pe_ix _ _ _ _ _ _ _ (ix_listK (K := K) rfl) (pe_fld (pv 0) rfl) (pe_fld (pv 0) rfl) (fun _ _ => rfl)) (by rfl) (by first | exact .inl rfl | exact .inr rfl | assumption)) (@pss_cons _ _ _ _ _ (ps_fld (pv 0) (@pe_op _ _ _ _ _ _ _ _ op_add (pe_fld (pv 0) rfl) pe_int) rfl) (@pss_one _ _ _ (@ps_ret _ _ _ _ (pv 1)))))), ?_⟩
    refine ⟨_, rfl, o, dx, _, rfl, h.ins, rfl, o, dx, wa, ws, x, i, rfl, h, _, rfl, ?_⟩
    by_cases he : i = ws.length
    · rw [decide_eq_true he]
      refine iteT ?_
      have kx := kx (by rw [he]; exact List.getElem?_eq_none (Nat.le_refl _))
      exact ⟨_, rfl, o, AA.c_Phrase, dx, _, _, rfl, h.ins, T.cl_Phrase, T.na_Phrase_at, rfl, (by show 2 ≤ sizeLine; decide), fun e tt he _ _ => raise_NoForm (kx.word (ButO.refl _ _)) e tt he⟩
    · rw [decide_eq_false he]
      refine iteF ?_
      have hi : i < ws.length := by have := h.le; omega
      have kq := kq ws[i] (List.getElem?_eq_getElem hi)
      refine ⟨_, rfl, o, AA.c_Phrase, dx, _, _, rfl, h.ins, T.cl_Phrase, T.na_Phrase_words, rfl, _, rfl, o, AA.c_Phrase, dx, _, _, rfl, h.ins, T.cl_Phrase, T.na_Phrase_place, rfl, wa, _, _, _, rfl, rfl, SqL.of h.wds, atI_nat (by rw [List.getElem?_map, List.getElem?_eq_getElem hi]; rfl), ?_⟩
      refine ⟨_, rfl, o, AA.c_Phrase, dx, _, _, rfl, h.ins, T.cl_Phrase, T.na_Phrase_place, rfl, _, _, rfl, rfl, _, rfl, o, AA.c_Phrase, dx, _, rfl, h.ins, T.cl_Phrase, T.na_Phrase_place, (by show 3 < 1000; decide), ?_⟩
      refine ⟨_, rfl, ?_⟩
      exact kq
noncomputable def spWd (f : Str → Bool) (C X : Addr) : Sp := fun vs H Q E => ∃ (o dx wa : Addr) (ws : List Str) (x : V) (i : Nat), vs = [.ref o] ∧ Ph C H o dx wa ws x i ∧
  (∀ z H', pWd f ws i = some z → ButO o H H' → Ph C H' o dx wa ws x (i + 1) → Q (.str z) H') ∧ (pWd f ws i = none → ErrF E X x o H)
noncomputable def isPk (z : Str) : Bool := decide (z ∈ (["num", "truth"] : List Str))
noncomputable def isKd (z : Str) : Bool := isPk z || isName z
noncomputable abbrev N_Phrase_take_name : List Str := ["self", "word"]
theorem sc_Phrase_take_name : FnScope N_Phrase_take_name ["self"] (defScope st_Phrase_take_name) := ⟨rfl, rfl, rfl, by decide +kernel, rfl, by decide +kernel, by decide +kernel⟩
theorem ok_takename (T : All P w K mg AA DD) : FnOk P w K mg base (CX2 (fun _ => True) P w) 4 AA.Phrase_take_name DD.Phrase_take_name ["self"] (spWd isName AA.c_Phrase AA.x_NoForm) := by
  have GT := ok_take (base := base) T
  have GN := ok_isname (base := base) T
  have GI := ok_xinit (base := base) T
  refine T.F_Phrase_take_name.ok2 sc_Phrase_take_name (fun vs H Q E h => ?_) (fun cdv A outer s H vs Q E hr h => ?_)
  · obtain ⟨o, dx, wa, ws, x, i, rfl, _⟩ := h
    rfl
  · obtain ⟨o, dx, wa, ws, x, i, rfl, h, kq, kx⟩ := h
    have nd := sc_Phrase_take_name.nd
    have hr2 : Room 2 _ := hr.mono (by decide)
    have hr3 : Room 3 _ := hr
    refine ⟨_, (@pss_cons _ _ _ _ _ (@ps_set _ _ 1 _ _ _ _ nd rfl (Or.inl rfl) (pe_meth0 (pv 0) T.cl_Phrase T.M_Phrase_take GT hr3 T.b_Phrase_take .nil (pass2 fun _ z => z)) (by rfl) (by first | exact .inl rfl | exact .inr rfl | assumption)) (@pss_cons _ _ _ _ _ (@ps_if _ _ _ _ _ _ _ _ (pt_not (pt_val (pe_call GN hr2 rfl T.m_is_name T.k_is_name T.b_is_name .nil pass0 (@pa_cons _ _ _ _ _ (pv 1) pa_nil (by rfl))))) (@pss_one _ _ _ (ps_raiseI body_cx (raise2 trivial) rfl rfl T.m_NoForm T.M_NoForm PySem.F.excBase_ValueError GI hr2 T.b_NoForm_init (@pa_cons _ _ _ _ _ (pe_fld (pv 0) rfl) (@pa_cons _ _ _ _ _ pe_str pa_nil (by rfl)) (by rfl)))) pss_nil) (@pss_one _ _ _ (@ps_ret _ _ _ _ (pv 1))))), ?_⟩
    refine ⟨_, rfl, o, dx, _, rfl, h.ins, rfl, o, dx, wa, ws, x, i, rfl, h, fun z hz => ?_, fun hz => kx (by unfold pWd; rw [hz])⟩
    have hi := (List.getElem?_eq_some_iff.mp hz).1
    have hs := h.step (j := i + 1) hi
    obtain ⟨h100, h128⟩ := h.ok z (List.mem_of_getElem? hz)
    have hb := ButO.upd o H (.ins AA.c_Phrase dx (phF wa x (i + 1)))
    dsimp only [gName]
    refine ⟨_, rfl, z, rfl, h100, h128, fun H1 s1 => ⟨_, rfl, ?_⟩⟩
    have hs1 := hs.same s1
    have hb1 := hb.trans s1.but
    cases hm : isName z with
    | true =>
      refine iteF ?_
      exact ⟨_, rfl, kq z _ (by unfold pWd; rw [hz]; exact if_pos hm) hb1 hs1⟩
    | false =>
      refine iteT ?_
      have kx := kx (by unfold pWd; rw [hz]; exact if_neg (by rw [hm]; decide))
      exact ⟨_, rfl, o, AA.c_Phrase, dx, _, _, rfl, hs1.ins, T.cl_Phrase, T.na_Phrase_at, rfl, (by show 2 ≤ sizeLine; decide), fun e tt he _ _ => raise_NoForm (kx.word hb1) e tt he⟩
noncomputable abbrev N_Phrase_take_plain_kind : List Str := ["self", "word"]
theorem sc_Phrase_take_plain_kind : FnScope N_Phrase_take_plain_kind ["self"] (defScope st_Phrase_take_plain_kind) := ⟨rfl, rfl, rfl, by decide +kernel, rfl, by decide +kernel, by decide +kernel⟩
theorem ok_takepk (T : All P w K mg AA DD) : FnOk P w K mg base (CX2 (fun _ => True) P w) 4 AA.Phrase_take_plain_kind DD.Phrase_take_plain_kind ["self"] (spWd isPk AA.c_Phrase AA.x_NoForm) := by
  have GT := ok_take (base := base) T
  have GI := ok_xinit (base := base) T
  refine T.F_Phrase_take_plain_kind.ok2 sc_Phrase_take_plain_kind (fun vs H Q E h => ?_) (fun cdv A outer s H vs Q E hr h => ?_)
  · obtain ⟨o, dx, wa, ws, x, i, rfl, _⟩ := h
    rfl
  · obtain ⟨o, dx, wa, ws, x, i, rfl, h, kq, kx⟩ := h
    have nd := sc_Phrase_take_plain_kind.nd
    have hr2 : Room 2 _ := hr.mono (by decide)
    have hr3 : Room 3 _ := hr
    refine ⟨_, (@pss_cons _ _ _ _ _ (@ps_set _ _ 1 _ _ _ _ nd rfl (Or.inl rfl) (pe_meth0 (pv 0) T.cl_Phrase T.M_Phrase_take GT hr3 T.b_Phrase_take .nil (pass2 fun _ z => z)) (by rfl) (by first | exact .inl rfl | exact .inr rfl | assumption)) (@pss_cons _ _ _ _ _ (@ps_if _ _ _ _ _ _ _ _ (@pt_cmpR _ _ _ _ _ _ _ _ (op_notIn_seqK (K := K) rfl) (pv 1) (pe_glob (v := .ref AA.q_PLAIN_KINDS) rfl T.m_PLAIN_KINDS rfl) rfl) (@pss_one _ _ _ (ps_raiseI body_cx (raise2 trivial) rfl rfl T.m_NoForm T.M_NoForm PySem.F.excBase_ValueError GI hr2 T.b_NoForm_init (@pa_cons _ _ _ _ _ (pe_fld (pv 0) rfl) (@pa_cons _ _ _ _ _ pe_str pa_nil (by rfl)) (by rfl)))) pss_nil) (@pss_one _ _ _ (@ps_ret _ _ _ _ (pv 1))))), ?_⟩
    refine ⟨_, rfl, o, dx, _, rfl, h.ins, rfl, o, dx, wa, ws, x, i, rfl, h, fun z hz => ?_, fun hz => kx (by unfold pWd; rw [hz])⟩
    have hi := (List.getElem?_eq_some_iff.mp hz).1
    have hs := h.step (j := i + 1) hi
    have hb := ButO.upd o H (.ins AA.c_Phrase dx (phF wa x (i + 1)))
    dsimp only [gName]
    refine ⟨_, rfl, AA.q_PLAIN_KINDS, (["num", "truth"] : List Str).map V.str, rfl, .inr (T.Q_PLAIN_KINDS _), rfl, rfl, _, rfl, ?_⟩
    rw [inV_strs]
    cases hm : isPk z with
    | true =>
      rw [show decide (z ∈ (["num", "truth"] : List Str)) = true from hm]
      refine iteF ?_
      exact ⟨_, rfl, kq z _ (by unfold pWd; rw [hz]; exact if_pos hm) hb hs⟩
    | false =>
      rw [show decide (z ∈ (["num", "truth"] : List Str)) = false from hm]
      refine iteT ?_
      have kx := kx (by unfold pWd; rw [hz]; exact if_neg (by rw [hm]; decide))
      exact ⟨_, rfl, o, AA.c_Phrase, dx, _, _, rfl, hs.ins, T.cl_Phrase, T.na_Phrase_at, rfl, (by show 2 ≤ sizeLine; decide), fun e tt he _ _ => raise_NoForm (kx.word hb) e tt he⟩
noncomputable abbrev N_Phrase_take_kind : List Str := ["self", "word"]
theorem sc_Phrase_take_kind : FnScope N_Phrase_take_kind ["self"] (defScope st_Phrase_take_kind) := ⟨rfl, rfl, rfl, by decide +kernel, rfl, by decide +kernel, by decide +kernel⟩
theorem ok_takekd (T : All P w K mg AA DD) : FnOk P w K mg base (CX2 (fun _ => True) P w) 4 AA.Phrase_take_kind DD.Phrase_take_kind ["self"] (spWd isKd AA.c_Phrase AA.x_NoForm) := by
  have GT := ok_take (base := base) T
  have GN := ok_isname (base := base) T
  have GI := ok_xinit (base := base) T
  refine T.F_Phrase_take_kind.ok2 sc_Phrase_take_kind (fun vs H Q E h => ?_) (fun cdv A outer s H vs Q E hr h => ?_)
  · obtain ⟨o, dx, wa, ws, x, i, rfl, _⟩ := h
    rfl
  · obtain ⟨o, dx, wa, ws, x, i, rfl, h, kq, kx⟩ := h
    have nd := sc_Phrase_take_kind.nd
    have hr2 : Room 2 _ := hr.mono (by decide)
    have hr3 : Room 3 _ := hr
    refine ⟨_, (@pss_cons _ _ _ _ _ (@ps_set _ _ 1 _ _ _ _ nd rfl (Or.inl rfl) (pe_meth0 (pv 0) T.cl_Phrase T.M_Phrase_take GT hr3 T.b_Phrase_take .nil (pass2 fun _ z => z)) (by rfl) (by first | exact .inl rfl | exact .inr rfl | assumption)) (@pss_cons _ _ _ _ _ (@ps_if _ _ _ _ _ _ _ _ (PW.pt (pw_and (@pt_cmpR _ _ _ _ _ _ _ _ (op_notIn_seqK (K := K) rfl) (pv 1) (pe_glob (v := .ref AA.q_PLAIN_KINDS) rfl T.m_PLAIN_KINDS rfl) rfl) (pw_and1 (pt_not (pt_val (pe_call GN hr2 rfl T.m_is_name T.k_is_name T.b_is_name .nil pass0 (@pa_cons _ _ _ _ _ (pv 1) pa_nil (by rfl)))))))) (@pss_one _ _ _ (ps_raiseI body_cx (raise2 trivial) rfl rfl T.m_NoForm T.M_NoForm PySem.F.excBase_ValueError GI hr2 T.b_NoForm_init (@pa_cons _ _ _ _ _ (pe_fld (pv 0) rfl) (@pa_cons _ _ _ _ _ pe_str pa_nil (by rfl)) (by rfl)))) pss_nil) (@pss_one _ _ _ (@ps_ret _ _ _ _ (pv 1))))), ?_⟩
    refine ⟨_, rfl, o, dx, _, rfl, h.ins, rfl, o, dx, wa, ws, x, i, rfl, h, fun z hz => ?_, fun hz => kx (by unfold pWd; rw [hz])⟩
    have hi := (List.getElem?_eq_some_iff.mp hz).1
    have hs := h.step (j := i + 1) hi
    obtain ⟨h100, h128⟩ := h.ok z (List.mem_of_getElem? hz)
    have hb := ButO.upd o H (.ins AA.c_Phrase dx (phF wa x (i + 1)))
    dsimp only [gName]
    refine ⟨_, rfl, AA.q_PLAIN_KINDS, (["num", "truth"] : List Str).map V.str, rfl, .inr (T.Q_PLAIN_KINDS _), rfl, rfl, _, rfl, ?_⟩
    rw [inV_strs]
    cases hm : isPk z with
    | true =>
      rw [show decide (z ∈ (["num", "truth"] : List Str)) = true from hm]
      refine iteF ?_
      exact iteF ⟨_, rfl, kq z _ (by unfold pWd; rw [hz]; exact if_pos (by unfold isKd; rw [hm]; rfl)) hb hs⟩
    | false =>
      rw [show decide (z ∈ (["num", "truth"] : List Str)) = false from hm]
      refine iteT ?_
      refine ⟨_, rfl, z, rfl, h100, h128, fun H1 s1 => ⟨_, rfl, ?_⟩⟩
      have hs1 := hs.same s1
      have hb1 := hb.trans s1.but
      cases hn : isName z with
      | true =>
        refine iteF ?_
        exact ⟨_, rfl, kq z _ (by unfold pWd; rw [hz]; exact if_pos (by unfold isKd; rw [hn, Bool.or_true])) hb1 hs1⟩
      | false =>
        refine iteT ?_
        have kx := kx (by unfold pWd; rw [hz]; exact if_neg (by unfold isKd; rw [hm, hn]; decide))
        exact ⟨_, rfl, o, AA.c_Phrase, dx, _, _, rfl, hs1.ins, T.cl_Phrase, T.na_Phrase_at, rfl, (by show 2 ≤ sizeLine; decide), fun e tt he _ _ => raise_NoForm (kx.word hb1) e tt he⟩
end
section
variable {P : Program} {w : World} {K : PySem.W.Frag} {mg : Str → Option Value} {base : Heap} {AA : Adr} {DD : Fds}
noncomputable def spEx (k : Nat) (C X : Addr) : Sp := fun vs H Q E => ∃ (o dx wa : Addr) (ws : List Str) (x : V) (i : Nat), vs = [.ref o, .int ((k : Nat) : Int)] ∧ Ph C H o dx wa ws x i ∧
  (∀ e j v H', pE ws k i = some (e, j) → ButO o H H' → Ph C H' o dx wa ws x j → ExAt H' v e → Q v H') ∧ (pE ws k i = none → ErrF E X x o H)
theorem spEx_mono {k : Nat} {C X : Addr} {vs : List V} {H : Hp} {Q Q' : VK} {E : XK} (h : spEx k C X vs H Q E) (m : ∀ v H', Q v H' → Q' v H') : spEx k C X vs H Q' E := by
  obtain ⟨o, dx, wa, ws, x, i, rfl, h, kq, kx⟩ := h
  exact ⟨o, dx, wa, ws, x, i, rfl, h, fun e j v H' a b c d => m _ _ (kq e j v H' a b c d), kx⟩
noncomputable def spMn (k : Nat) (C X : Addr) : Sp := fun vs H Q E => ∃ (o dx wa : Addr) (ws : List Str) (x : V) (i : Nat), vs = [.ref o, .int ((k : Nat) : Int)] ∧ Ph C H o dx wa ws x i ∧
  (∀ es j p vs H', pM (pE ws k) ws (ws.length + 1) i = some (es, j) → ButO o H H' → Ph C H' o dx wa ws x j → H' p = some (.tup vs) → ExsAt H' vs es → Q (.ref p) H') ∧ (pM (pE ws k) ws (ws.length + 1) i = none → ErrF E X x o H)
noncomputable abbrev N_Phrase_take_exprs : List Str := ["self", "deep", "found"]
theorem sc_Phrase_take_exprs : FnScope N_Phrase_take_exprs ["self", "deep"] (defScope st_Phrase_take_exprs) := ⟨rfl, rfl, rfl, by decide +kernel, rfl, by decide +kernel, by decide +kernel⟩
theorem ok_exprs (T : All P w K mg AA DD) (k : Nat) (GX : FnOk P w K mg base (CX2 (fun _ => True) P w) (3 * k + 4) AA.Phrase_take_expr DD.Phrase_take_expr ["self", "deep"] (spEx k AA.c_Phrase AA.x_NoForm)) :
    FnOk P w K mg base (CX2 (fun _ => True) P w) (3 * k + 5) AA.Phrase_take_exprs DD.Phrase_take_exprs ["self", "deep"] (spMn k AA.c_Phrase AA.x_NoForm) := by
  have GT := ok_take (base := base) T
  have GE := ok_ended (base := base) T
  refine T.F_Phrase_take_exprs.ok2 sc_Phrase_take_exprs (fun vs H Q E h => ?_) (fun cdv A outer s H vs Q E hr h => ?_)
  · obtain ⟨o, dx, wa, ws, x, i, rfl, _⟩ := h
    rfl
  · obtain ⟨o, dx, wa, ws, x, i, rfl, h, kq, kx⟩ := h
    have nd := sc_Phrase_take_exprs.nd
    have hr1 : Room 1 _ := hr.mono (by omega)
    have hr3 : Room 3 _ := hr.mono (by omega)
    have hrE : Room (3 * k + 4) _ := hr
    refine ⟨_, (@pss_cons _ _ _ _ _ (@ps_set _ _ 2 _ _ _ _ nd rfl (Or.inl rfl) (@pe_lst _ _ _ _ pa_nil) (by rfl) (by first | exact .inl rfl | exact .inr rfl | assumption)) (@pss_cons _ _ _ _ _ (@ps_while _ _ _ _ _ _ PassesOwn.leaving (PW.pt (pw_or (pt_val (pe_meth0 (pv 0) T.cl_Phrase T.M_Phrase_ended GE hr1 T.b_Phrase_ended .nil pass0)) (pw_or1 (@pt_cmpR _ _ _ _ _ _ _ _ op_ne (@pe_ix _ _ _ _ _ _ _ (ix_listK (K := K) rfl) (pe_fld (pv 0) rfl) (pe_fld (pv 0) rfl) (fun _ _ => rfl)) pe_str (nomark _))))) (@pss_one _ _ _ (@ps_expr _ _ _ _ (pe_bm PySem.F.plainAttrs_list PySem.F.slot_list_append PySem.F.type_list_append mt_append (pv 2) (@pa_cons _ _ _ _ _ (pe_meth (pv 0) T.cl_Phrase T.M_Phrase_take_expr GX hrE T.b_Phrase_take_expr .nil (pass2 fun _ z => z) (@pa_cons _ _ _ _ _ (pv 1) pa_nil (by rfl))) pa_nil (by rfl))) (by rfl)))) (@pss_cons _ _ _ _ _ (@ps_expr _ _ _ _ (pe_meth0 (pv 0) T.cl_Phrase T.M_Phrase_take GT hr3 T.b_Phrase_take .nil (pass2 fun _ z => z)) (by rfl)) (@pss_one _ _ _ (@ps_ret _ _ _ _ (pe_callTy call_tuple_of rfl T.n_tuple bt_tuple (@pa_cons _ _ _ _ _ (pv 2) pa_nil (by rfl)))))))), ?_⟩
    refine ⟨Nat.zero_le _, fun pf hpf => ?_⟩
    have npo : pf ≠ o := fun e => by rw [e, h.ins] at hpf; cases hpf
    have npw : pf ≠ wa := fun e => by rw [e, h.wds] at hpf; cases hpf
    dsimp only [gName]
    refine cut_while (fun σ' H' => ∃ (j : Nat) (vs : List V) (es : List Ex), σ' = [some (.ref o), some (.int ((k : Nat) : Int)), some (.ref pf)] ∧ ButO o H H' ∧ Ph AA.c_Phrase H' o dx wa ws x j ∧ H' pf = some (.lst vs) ∧ ExsAt H' vs es ∧ vs.length ≤ 900 ∧ ws[j]? = some "." ∧ pM (pE ws k) ws (ws.length + 1) i = some (es, j + 1)) (fun R hRR => ?_) ?_
    · refine ⟨fun m σ' H' => ∃ (j f : Nat) (vs : List V) (es : List Ex), m = ws.length - j ∧ ws.length - j < f ∧ σ' = [some (.ref o), some (.int ((k : Nat) : Int)), some (.ref pf)] ∧ ButO o H H' ∧ Ph AA.c_Phrase H' o dx wa ws x j ∧ H' pf = some (.lst vs) ∧ ExsAt H' vs es ∧ vs.length ≤ j ∧
          pM (pE ws k) ws (ws.length + 1) i = (pM (pE ws k) ws f j).map fun q => (es ++ q.1, q.2), ⟨_, i, ws.length + 1, [], [], rfl, by omega, rfl, (same_upd hpf).but, h.same (same_upd hpf), upd_same, .nil, Nat.zero_le _, ?_⟩, ?_⟩
      · cases pM (pE ws k) ws (ws.length + 1) i with
        | none => rfl
        | some q => rfl
      · rintro m σ' H1 ⟨j, f, vs, es, rfl, hf, rfl, hb, h1, hp1, hE, hvl, eM⟩
        have hj := h1.le
        have h900 := h1.few
        obtain ⟨f, rfl⟩ : ∃ g, f = g + 1 := ⟨f - 1, by omega⟩
        -- a turn
        refine ⟨_, rfl, o, dx, _, rfl, h1.ins, rfl, o, dx, wa, ws, x, j, rfl, h1, _, rfl, ?_⟩
        have body : ws[j]? ≠ some "." → ∃ N : St → Hp → Prop, (∀ σ' H', N σ' H' → ∃ m', m' < ws.length - j ∧ ∃ (j f : Nat) (vs : List V) (es : List Ex), m' = ws.length - j ∧ ws.length - j < f ∧ σ' = [some (.ref o), some (.int ((k : Nat) : Int)), some (.ref pf)] ∧ ButO o H H' ∧ Ph AA.c_Phrase H' o dx wa ws x j ∧ H' pf = some (.lst vs) ∧ ExsAt H' vs es ∧ vs.length ≤ j ∧
            pM (pE ws k) ws (ws.length + 1) i = (pM (pE ws k) ws f j).map fun q => (es ++ q.1, q.2)) ∧
          (spEx k AA.c_Phrase AA.x_NoForm [.ref o, .int ((k : Nat) : Int)] H1 (fun v H2 => H2 pf = some (.lst vs) ∧ vs.length ≤ 900 ∧ N [some (.ref o), some (.int ((k : Nat) : Int)), some (.ref pf)] (upd H2 pf (.lst (vs ++ [v])))) E) := by
          intro hd
          refine ⟨_, fun _ _ h => h, o, dx, wa, ws, x, j, rfl, h1, fun e j' v H2 he hb2 h2 hv => ?_, fun hn => ?_⟩
          · have hle := pE_le ws k j e j' he
            have hp2 := hb2 _ _ hp1 npo
            refine ⟨hp2, by omega, ws.length - j', by omega, j', f, vs ++ [v], es ++ [e], rfl, by omega, rfl, fun b u eb nb => ?_, ⟨?_, ?_, h2.ok, h2.le, h2.few⟩, upd_same, ?_, by simp; omega, ?_⟩
            · rw [upd_ne (fun z => by rw [z, hpf] at eb; cases eb)]
              exact hb2 _ _ (hb _ _ eb nb) nb
            · rw [upd_ne (Ne.symm npo)]; exact h2.ins
            · rw [upd_ne (Ne.symm npw)]; exact h2.wds
            · have t1 : TupS H2 (upd H2 pf (.lst (vs ++ [v]))) := fun b xs eb => by rw [upd_ne (fun z => by rw [z, hp2] at eb; cases eb)]; exact eb
              exact ((hE.kept (hb2.tups h1.ins)).kept t1).snoc (hv.kept t1)
            · rw [eM, (pM_turn hd).2 e j' he, Option.map_map]
              congr 1
              funext q
              simp
          · refine (kx ?_).but hb
            rw [eM, (pM_turn hd).1 hn]
            rfl
        by_cases he : j = ws.length
        · rw [decide_eq_true he]
          refine iteT (iteT ?_)
          obtain ⟨N, hN, sp⟩ := body (by rw [he, List.getElem?_eq_none (Nat.le_refl _)]; exact fun z => by cases z)
          refine ⟨N, hN, ?_⟩
          refine ⟨_, rfl, .inl ⟨rfl, _, SqL.of hp1⟩, _, rfl, o, dx, _, rfl, h1.ins, rfl, _, rfl, spEx_mono sp fun v H2 hsl60 => ?_⟩
          obtain ⟨a, b, c⟩ := hsl60
          exact ⟨pf, _, _, rfl, rfl, a, small1000 (by omega), c⟩
        · rw [decide_eq_false he]
          refine iteF ?_
          have hjl : j < ws.length := by omega
          refine ⟨_, rfl, o, AA.c_Phrase, dx, _, _, rfl, h1.ins, T.cl_Phrase, T.na_Phrase_words, rfl, _, rfl, o, AA.c_Phrase, dx, _, _, rfl, h1.ins, T.cl_Phrase, T.na_Phrase_place, rfl, wa, _, _, _, rfl, rfl, SqL.of h1.wds, atI_nat (by rw [List.getElem?_map, List.getElem?_eq_getElem hjl]; rfl), rfl, _, rfl, ?_⟩
          rw [dec_str]
          by_cases hd : ws[j] = "."
          · rw [decide_eq_true hd]
            refine iteF ?_
            have hd' : ws[j]? = some ("." : Str) := by rw [List.getElem?_eq_getElem hjl, hd]
            refine hRR _ _ ⟨j, vs, es, rfl, hb, h1, hp1, hE, by omega, hd', ?_⟩
            rw [eM, pM_stop hd']
            simp
          · rw [decide_eq_false hd]
            refine iteT ?_
            obtain ⟨N, hN, sp⟩ := body (by rw [List.getElem?_eq_getElem hjl]; exact fun z => hd (Option.some.inj z))
            refine ⟨N, hN, ?_⟩
            refine ⟨_, rfl, .inl ⟨rfl, _, SqL.of hp1⟩, _, rfl, o, dx, _, rfl, h1.ins, rfl, _, rfl, spEx_mono sp fun v H2 hsl61 => ?_⟩
            obtain ⟨a, b, c⟩ := hsl61
            exact ⟨pf, _, _, rfl, rfl, a, small1000 (by omega), c⟩
    rintro σ' H1 ⟨j, vs, es, rfl, hb, h1, hp1, hE, hvl, hd, eM⟩
    have hj := (List.getElem?_eq_some_iff.mp hd).1
    have nd1 : ButO o H1 (upd H1 o (.ins AA.c_Phrase dx (phF wa x (j + 1)))) := ButO.upd _ _ _
    refine ⟨_, rfl, o, dx, _, rfl, h1.ins, rfl, o, dx, wa, ws, x, j, rfl, h1, fun z hz => ?_, fun hz => by rw [hd] at hz; cases hz⟩
    have h2 := h1.step (j := j + 1) hj
    have hp2 := nd1 _ _ hp1 npo
    refine ⟨_, rfl, pf, _, rfl, .inl ⟨SqL.of hp2, fun pt hpt => ?_⟩⟩
    have s3 := same_upd (o := .tup vs) hpt
    exact kq es (j + 1) pt vs _ eM ((hb.trans nd1).trans s3.but) (h2.same s3) upd_same ((hE.kept (nd1.tups h1.ins)).kept s3.tups)
noncomputable def spNd (k : Nat) (C X : Addr) : Sp := fun vs H Q E => ∃ (o dx wa : Addr) (ws : List Str) (x : V) (i : Nat) (z : Str), vs = [.ref o, .str z, .int (((k + 1 : Nat)) : Int)] ∧ Ph C H o dx wa ws x i ∧
  (∀ e j v H', pD (pE ws k) ws z i = some (e, j) → ButO o H H' → Ph C H' o dx wa ws x j → ExAt H' v e → Q v H') ∧ (pD (pE ws k) ws z i = none → ErrF E X x o H)
theorem less1 (k : Nat) (o : Addr) : [V.ref o, V.int ((((k + 1 : Nat)) : Int) - 1)] = [V.ref o, V.int ((k : Nat) : Int)] := by rw [show ((((k + 1 : Nat)) : Int) - 1) = ((k : Nat) : Int) by omega]
noncomputable abbrev N_Phrase_take_named : List Str := ["self", "word", "deep", "name"]
theorem sc_Phrase_take_named : FnScope N_Phrase_take_named ["self", "word", "deep"] (defScope st_Phrase_take_named) := ⟨rfl, rfl, rfl, by decide +kernel, rfl, by decide +kernel, by decide +kernel⟩
theorem ok_named (T : All P w K mg AA DD) (k : Nat) (GX : FnOk P w K mg base (CX2 (fun _ => True) P w) (3 * k + 4) AA.Phrase_take_expr DD.Phrase_take_expr ["self", "deep"] (spEx k AA.c_Phrase AA.x_NoForm)) :
    FnOk P w K mg base (CX2 (fun _ => True) P w) (3 * k + 6) AA.Phrase_take_named DD.Phrase_take_named ["self", "word", "deep"] (spNd k AA.c_Phrase AA.x_NoForm) := by
  have GA := ok_takename (base := base) T
  have GS := ok_exprs (base := base) T k GX
  have GI := ok_xinit (base := base) T
  refine T.F_Phrase_take_named.ok2 sc_Phrase_take_named (fun vs H Q E h => ?_) (fun cdv A outer s H vs Q E hr h => ?_)
  · obtain ⟨o, dx, wa, ws, x, i, z, rfl, _⟩ := h
    rfl
  · obtain ⟨o, dx, wa, ws, x, i, z, rfl, h, kq, kx⟩ := h
    have nd := sc_Phrase_take_named.nd
    have hr2 : Room 2 _ := hr.mono (by omega)
    have hr4 : Room 4 _ := hr.mono (by omega)
    have hrE : Room (3 * k + 4) _ := hr.mono (by omega)
    have hrX : Room (3 * k + 5) _ := hr
    refine ⟨_, (@pss_cons _ _ _ _ _ (@ps_if _ _ _ _ _ _ _ _ (@pt_cmpR _ _ _ _ _ _ _ _ (op_notIn_seqK (K := K) rfl) (pv 1) (@pe_tup _ _ _ _ _ (@pa_cons _ _ _ _ _ pe_str (@pa_cons _ _ _ _ _ pe_str (@pa_cons _ _ _ _ _ pe_str pa_nil (by rfl)) (by rfl)) (by rfl))) rfl) (@pss_one _ _ _ (ps_raiseI body_cx (raise2 trivial) rfl rfl T.m_NoForm T.M_NoForm PySem.F.excBase_ValueError GI hr2 T.b_NoForm_init (@pa_cons _ _ _ _ _ (pe_fld (pv 0) rfl) (@pa_cons _ _ _ _ _ pe_str pa_nil (by rfl)) (by rfl)))) pss_nil) (@pss_cons _ _ _ _ _ (@ps_set _ _ 3 _ _ _ _ nd rfl (Or.inl rfl) (pe_meth0 (pv 0) T.cl_Phrase T.M_Phrase_take_name GA hr4 T.b_Phrase_take_name .nil (pass2 fun _ z => z)) (by rfl) (by first | exact .inl rfl | exact .inr rfl | assumption)) (@pss_cons _ _ _ _ _ (@ps_if _ _ _ _ _ _ _ _ (@pt_cmpR _ _ _ _ _ _ _ _ op_eq (pv 1) pe_str (nomark _)) (@pss_one _ _ _ (@ps_ret _ _ _ _ (@pe_tup _ _ _ _ _ (@pa_cons _ _ _ _ _ (pv 1) (@pa_cons _ _ _ _ _ (pv 3) (@pa_cons _ _ _ _ _ (pe_meth (pv 0) T.cl_Phrase T.M_Phrase_take_expr GX hrE T.b_Phrase_take_expr .nil (pass2 fun _ z => z) (@pa_cons _ _ _ _ _ (@pe_op _ _ _ _ _ _ _ _ op_sub (pv 2) pe_int) pa_nil (by rfl))) pa_nil (by rfl)) (by rfl)) (by rfl))))) pss_nil) (@pss_one _ _ _ (@ps_ret _ _ _ _ (@pe_tup _ _ _ _ _ (@pa_cons _ _ _ _ _ (pv 1) (@pa_cons _ _ _ _ _ (pv 3) (@pa_cons _ _ _ _ _ (pe_meth (pv 0) T.cl_Phrase T.M_Phrase_take_exprs GS hrX T.b_Phrase_take_exprs .nil (pass2 fun _ z => z) (@pa_cons _ _ _ _ _ (@pe_op _ _ _ _ _ _ _ _ op_sub (pv 2) pe_int) pa_nil (by rfl))) pa_nil (by rfl)) (by rfl)) (by rfl)))))))), ?_⟩
    refine ⟨_, rfl, (by show 3 ≤ sizeLine; decide), fun pt hpt => ⟨pt, (["do", "new", "of"] : List Str).map V.str, rfl, .inr (SqT.of upd_same), rfl, rfl, _, rfl, ?_⟩⟩
    rw [inV_strs]
    have s0 := same_upd (o := .tup ((["do", "new", "of"] : List Str).map V.str)) hpt
    unfold pD at kq kx
    cases hm : isMany z with
    | false =>
      rw [hm] at kx
      rw [show decide (z ∈ (["do", "new", "of"] : List Str)) = false from hm]
      refine iteT ?_
      exact ⟨_, rfl, o, AA.c_Phrase, dx, _, _, rfl, s0 _ _ h.ins, T.cl_Phrase, T.na_Phrase_at, rfl, (by show 2 ≤ sizeLine; decide), fun e tt he _ _ => raise_NoForm ((kx rfl).word s0.but) e tt he⟩
    | true =>
      rw [hm] at kx kq
      simp only [if_true] at kx kq
      rw [show decide (z ∈ (["do", "new", "of"] : List Str)) = true from hm]
      refine iteF ?_
      have h0 := h.same s0
      refine ⟨_, rfl, o, dx, _, rfl, h0.ins, rfl, o, dx, wa, ws, x, i, rfl, h0, fun n H1 hn hb1 h1 => ?_, fun hn => (kx (by rw [hn])).but s0.but⟩
      rw [hn] at kx kq
      dsimp only at kx kq
      have b1 := s0.but.trans hb1
      dsimp only [gName]
      refine ⟨_, rfl, rfl, _, rfl, ?_⟩
      rw [dec_str]
      by_cases ho : z = "of"
      · rw [decide_eq_true ho]
        rw [if_pos ho] at kx kq
        refine iteT ?_
        refine ⟨_, rfl, _, rfl, _, rfl, o, dx, _, rfl, h1.ins, rfl, _, rfl, _, _, rfl, rfl, ?_⟩
        refine ⟨o, dx, wa, ws, x, i + 1, less1 k o, h1, fun e j v H2 he hb2 h2 hv => ⟨(by show 3 ≤ sizeLine; decide), fun pr hpr => ?_⟩, fun hn => (kx (by rw [hn])).but b1⟩
        have s3 := same_upd (o := .tup [.str z, .str n, v]) hpr
        refine kq (.of n e) j (.ref pr) _ (by rw [he]) ((b1.trans hb2).trans s3.but) (h2.same s3) (.of ?_ (hv.kept s3.tups))
        rw [← ho]
        exact upd_same
      · rw [decide_eq_false ho]
        rw [if_neg ho] at kx kq
        refine iteF ?_
        refine ⟨_, rfl, _, rfl, _, rfl, o, dx, _, rfl, h1.ins, rfl, _, rfl, _, _, rfl, rfl, ?_⟩
        refine ⟨o, dx, wa, ws, x, i + 1, less1 k o, h1, fun es j p vs H2 he hb2 h2 hp hv => ⟨(by show 3 ≤ sizeLine; decide), fun pr hpr => ?_⟩, fun hn => (kx (by rw [hn])).but b1⟩
        have s3 := same_upd (o := .tup [.str z, .str n, .ref p]) hpr
        exact kq (.many z n es) j (.ref pr) _ (by rw [he]) ((b1.trans hb2).trans s3.but) (h2.same s3) (.many upd_same (s3 _ _ hp) (hv.kept s3.tups))
end
section
variable {P : Program} {w : World} {K : PySem.W.Frag} {mg : Str → Option Value} {base : Heap} {AA : Adr} {DD : Fds}
theorem num_val {z : Str} (h : isNum z = true) : PySem.intText? z = some (numV z) := by
  have hd : PySem.NumText.AllDigits z.cps.toList ∧ z.cps.toList ≠ [] ∧ z.length ≤ 18 := by
    unfold isNum at h
    by_cases h0 : z = "0"
    · subst h0
      have e : ("0" : Str).cps.toList = [48] := by decide +kernel
      refine ⟨fun c hc => ?_, by rw [e]; simp, by decide +kernel⟩
      rw [e] at hc
      have : c = 48 := by simpa using hc
      omega
    · rw [decide_eq_false h0, Bool.false_or, Bool.and_eq_true] at h
      have h := h.1
      unfold madeOf at h
      rw [Bool.and_eq_true, Bool.and_eq_true, List.all_eq_true] at h
      obtain ⟨a, b, c⟩ := h
      refine ⟨fun d hd => of_decide_eq_true (c d hd), fun e => ?_, of_decide_eq_true b⟩
      obtain ⟨arr⟩ := z
      have : arr = #[] := Array.toList_eq_nil_iff.mp e
      subst this
      revert a
      decide +kernel
  have e := PySem.intText_digits hd.1 hd.2.1 (Nat.le_trans hd.2.2 (by decide))
  rw [numV, e]
  rfl
noncomputable abbrev N_Phrase_take_expr : List Str := ["self", "deep", "word", "left"]
theorem sc_Phrase_take_expr : FnScope N_Phrase_take_expr ["self", "deep"] (defScope st_Phrase_take_expr) := ⟨rfl, rfl, rfl, by decide +kernel, rfl, by decide +kernel, by decide +kernel⟩
theorem ok_expr0 (T : All P w K mg AA DD) : FnOk P w K mg base (CX2 (fun _ => True) P w) 4 AA.Phrase_take_expr DD.Phrase_take_expr ["self", "deep"] (spEx 0 AA.c_Phrase AA.x_NoForm) := by
  have GT := ok_take (base := base) T
  have GB := ok_isnum (base := base) T
  have GN := ok_isname (base := base) T
  have GI := ok_xinit (base := base) T
  refine T.F_Phrase_take_expr.ok2 sc_Phrase_take_expr (fun vs H Q E h => ?_) (fun cdv A outer s H vs Q E hr h => ?_)
  · obtain ⟨o, dx, wa, ws, x, i, rfl, _⟩ := h
    rfl
  · obtain ⟨o, dx, wa, ws, x, i, rfl, h, kq, kx⟩ := h
    have nd := sc_Phrase_take_expr.nd
    have hr2 : Room 2 _ := hr.mono (by omega)
    refine ⟨_, pss_cons (ps_if (pt_cmpR op_eq (pv 1) pe_int (nomark _)) (@pss_one _ _ _ (ps_raiseI body_cx (raise2 trivial) rfl rfl T.m_NoForm T.M_NoForm PySem.F.excBase_ValueError GI hr2 T.b_NoForm_init (@pa_cons _ _ _ _ _ (pe_fld (pv 0) rfl) (@pa_cons _ _ _ _ _ pe_str pa_nil (by rfl)) (by rfl)))) pss_nil) pss_never, ?_⟩
    refine ⟨_, rfl, rfl, _, rfl, ?_⟩
    refine iteT ?_
    have kx := kx rfl
    exact ⟨_, rfl, o, AA.c_Phrase, dx, _, _, rfl, h.ins, T.cl_Phrase, T.na_Phrase_at, rfl, (by show 2 ≤ sizeLine; decide), fun e tt he _ _ => raise_NoForm (kx.word (ButO.refl _ _)) e tt he⟩
theorem ok_exprS (T : All P w K mg AA DD) (k : Nat) (GX : FnOk P w K mg base (CX2 (fun _ => True) P w) (3 * k + 4) AA.Phrase_take_expr DD.Phrase_take_expr ["self", "deep"] (spEx k AA.c_Phrase AA.x_NoForm)) :
    FnOk P w K mg base (CX2 (fun _ => True) P w) (3 * k + 7) AA.Phrase_take_expr DD.Phrase_take_expr ["self", "deep"] (spEx (k + 1) AA.c_Phrase AA.x_NoForm) := by
  have GT := ok_take (base := base) T
  have GB := ok_isnum (base := base) T
  have GN := ok_isname (base := base) T
  have GD := ok_named (base := base) T k GX
  have GI := ok_xinit (base := base) T
  refine T.F_Phrase_take_expr.ok2 sc_Phrase_take_expr (fun vs H Q E h => ?_) (fun cdv A outer s H vs Q E hr h => ?_)
  · obtain ⟨o, dx, wa, ws, x, i, rfl, _⟩ := h
    rfl
  · obtain ⟨o, dx, wa, ws, x, i, rfl, h, kq, kx⟩ := h
    have nd := sc_Phrase_take_expr.nd
    have hr2 : Room 2 _ := hr.mono (by omega)
    have hr3 : Room 3 _ := hr.mono (by omega)
    have hrE : Room (3 * k + 4) _ := hr.mono (by omega)
    have hrN : Room (3 * k + 6) _ := hr
    refine ⟨_, (@pss_cons _ _ _ _ _ (@ps_if _ _ _ _ _ _ _ _ (@pt_cmpR _ _ _ _ _ _ _ _ op_eq (pv 1) pe_int (nomark _)) (@pss_one _ _ _ (ps_raiseI body_cx (raise2 trivial) rfl rfl T.m_NoForm T.M_NoForm PySem.F.excBase_ValueError GI hr2 T.b_NoForm_init (@pa_cons _ _ _ _ _ (pe_fld (pv 0) rfl) (@pa_cons _ _ _ _ _ pe_str pa_nil (by rfl)) (by rfl)))) pss_nil) (@pss_cons _ _ _ _ _ (@ps_set _ _ 2 _ _ _ _ nd rfl (Or.inl rfl) (pe_meth0 (pv 0) T.cl_Phrase T.M_Phrase_take GT hr3 T.b_Phrase_take .nil (pass2 fun _ z => z)) (by rfl) (by first | exact .inl rfl | exact .inr rfl | assumption)) (@pss_cons _ _ _ _ _ (@ps_if _ _ _ _ _ _ _ _ (pt_val (pe_call GB hr2 rfl T.m_is_number T.k_is_number T.b_is_number .nil pass0 (@pa_cons _ _ _ _ _ (pv 2) pa_nil (by rfl)))) (@pss_one _ _ _ (@ps_ret _ _ _ _ (@pe_tup _ _ _ _ _ (@pa_cons _ _ _ _ _ pe_str (@pa_cons _ _ _ _ _ (pe_callTy call_intS rfl T.n_int bt_int (@pa_cons _ _ _ _ _ (pv 2) pa_nil (by rfl))) pa_nil (by rfl)) (by rfl))))) pss_nil) (@pss_cons _ _ _ _ _ (@ps_if _ _ _ _ _ _ _ _ (@pt_cmpR _ _ _ _ _ _ _ _ (op_in_seqK (K := K) rfl) (pv 2) (@pe_tup _ _ _ _ _ (@pa_cons _ _ _ _ _ pe_str (@pa_cons _ _ _ _ _ pe_str pa_nil (by rfl)) (by rfl))) rfl) (@pss_one _ _ _ (@ps_ret _ _ _ _ (@pe_tup _ _ _ _ _ (@pa_cons _ _ _ _ _ pe_str (@pa_cons _ _ _ _ _ (pv 2) pa_nil (by rfl)) (by rfl))))) pss_nil) (@pss_cons _ _ _ _ _ (@ps_if _ _ _ _ _ _ _ _ (pt_val (pe_call GN hr2 rfl T.m_is_name T.k_is_name T.b_is_name .nil pass0 (@pa_cons _ _ _ _ _ (pv 2) pa_nil (by rfl)))) (@pss_one _ _ _ (@ps_ret _ _ _ _ (@pe_tup _ _ _ _ _ (@pa_cons _ _ _ _ _ pe_str (@pa_cons _ _ _ _ _ (pv 2) pa_nil (by rfl)) (by rfl))))) pss_nil) (@pss_cons _ _ _ _ _ (@ps_if _ _ _ _ _ _ _ _ (@pt_cmpR _ _ _ _ _ _ _ _ op_eq (pv 2) pe_str (nomark _)) (@pss_one _ _ _ (@ps_ret _ _ _ _ (@pe_tup _ _ _ _ _ (@pa_cons _ _ _ _ _ (pv 2) (@pa_cons _ _ _ _ _ (pe_meth (pv 0) T.cl_Phrase T.M_Phrase_take_expr GX hrE T.b_Phrase_take_expr .nil (pass2 fun _ z => z) (@pa_cons _ _ _ _ _ (@pe_op _ _ _ _ _ _ _ _ op_sub (pv 1) pe_int) pa_nil (by rfl))) pa_nil (by rfl)) (by rfl))))) pss_nil) (@pss_cons _ _ _ _ _ (@ps_if _ _ _ _ _ _ _ _ (@pt_cmpR _ _ _ _ _ _ _ _ (op_in_seqK (K := K) rfl) (pv 2) (pe_glob (v := .ref AA.q_OPERATORS) rfl T.m_OPERATORS rfl) rfl) (@pss_cons _ _ _ _ _ (@ps_set _ _ 3 _ _ _ _ nd rfl (Or.inl rfl) (pe_meth (pv 0) T.cl_Phrase T.M_Phrase_take_expr GX hrE T.b_Phrase_take_expr .nil (pass2 fun _ z => z) (@pa_cons _ _ _ _ _ (@pe_op _ _ _ _ _ _ _ _ op_sub (pv 1) pe_int) pa_nil (by rfl))) (by rfl) (by first | exact .inl rfl | exact .inr rfl | assumption)) (@pss_one _ _ _ (@ps_ret _ _ _ _ (@pe_tup _ _ _ _ _ (@pa_cons _ _ _ _ _ (pv 2) (@pa_cons _ _ _ _ _ (pv 3) (@pa_cons _ _ _ _ _ (pe_meth (pv 0) T.cl_Phrase T.M_Phrase_take_expr GX hrE T.b_Phrase_take_expr .nil (pass2 fun _ z => z) (@pa_cons _ _ _ _ _ (@pe_op _ _ _ _ _ _ _ _ op_sub (pv 1) pe_int) pa_nil (by rfl))) pa_nil (by rfl)) (by rfl)) (by rfl)))))) pss_nil) (@pss_one _ _ _ (@ps_ret _ _ _ _ (pe_meth (pv 0) T.cl_Phrase T.M_Phrase_take_named GD hrN T.b_Phrase_take_named .nil (pass2 fun _ z => z) (@pa_cons _ _ _ _ _ (pv 2) (@pa_cons _ _ _ _ _ (pv 1) pa_nil (by rfl)) (by rfl)))))))))))), ?_⟩
    refine ⟨_, rfl, rfl, _, rfl, ?_⟩
    rw [decide_eq_false (fun e => by injection e with e; omega)]
    refine iteF ?_
    unfold pE at kq kx
    refine ⟨_, rfl, o, dx, _, rfl, h.ins, rfl, o, dx, wa, ws, x, i, rfl, h, fun z hz => ?_, fun hz => kx (by rw [hz])⟩
    rw [hz] at kq kx
    dsimp only at kq kx
    have hi := (List.getElem?_eq_some_iff.mp hz).1
    have h1 := h.step (j := i + 1) hi
    obtain ⟨h100, h128⟩ := h.ok z (List.mem_of_getElem? hz)
    have b1 := ButO.upd o H (.ins AA.c_Phrase dx (phF wa x (i + 1)))
    dsimp only [gName]
    generalize upd H o (.ins AA.c_Phrase dx (phF wa x (i + 1))) = H1 at h1 b1 ⊢
    refine ⟨_, rfl, z, rfl, h100, h128, fun H2 s2 => ⟨_, rfl, ?_⟩⟩
    have h2 := h1.same s2
    have b2 := b1.trans s2.but
    cases hm : isNum z with
    | true =>
      rw [hm, if_pos rfl] at kq
      refine iteT ?_
      refine ⟨_, rfl, z, _, rfl, num_val hm, by omega, (by show 2 ≤ sizeLine; decide), fun pr hpr => ?_⟩
      have s3 := same_upd (o := .tup [.str "num", .int (numV z)]) hpr
      exact kq _ _ _ _ rfl (b2.trans s3.but) (h2.same s3) (.num upd_same)
    | false =>
    rw [hm, if_neg (by decide)] at kq kx
    refine iteF ?_
    refine ⟨_, rfl, (by show 2 ≤ sizeLine; decide), fun pt hpt => ⟨pt, (["yes", "no"] : List Str).map V.str, rfl, .inr (SqT.of upd_same), rfl, rfl, _, rfl, ?_⟩⟩
    have s3 := same_upd (o := .tup [.str "yes", .str "no"]) hpt
    have h3 := h2.same s3
    have b3 := b2.trans s3.but
    generalize upd H2 pt (.tup [.str "yes", .str "no"]) = H3 at s3 h3 b3 ⊢
    rw [show (if false = true then !inV (V.str z) ((["yes", "no"] : List Str).map V.str) else inV (V.str z) ((["yes", "no"] : List Str).map V.str)) = decide (z ∈ (["yes", "no"] : List Str)) from inV_strs _ _]
    by_cases hy : z ∈ (["yes", "no"] : List Str)
    · rw [if_pos hy] at kq
      rw [decide_eq_true hy]
      refine iteT ?_
      refine ⟨_, rfl, (by show 2 ≤ sizeLine; decide), fun pr hpr => ?_⟩
      have s4 := same_upd (o := .tup [.str "truth", .str z]) hpr
      exact kq _ _ _ _ rfl (b3.trans s4.but) (h3.same s4) (.truth upd_same)
    rw [if_neg hy] at kq kx
    rw [decide_eq_false hy]
    refine iteF ?_
    refine ⟨_, rfl, z, rfl, h100, h128, fun H4 s4 => ⟨_, rfl, ?_⟩⟩
    have h4 := h3.same s4
    have b4 := b3.trans s4.but
    cases hn : isName z with
    | true =>
      rw [hn, if_pos rfl] at kq
      refine iteT ?_
      refine ⟨_, rfl, (by show 2 ≤ sizeLine; decide), fun pr hpr => ?_⟩
      have s5 := same_upd (o := .tup [.str "name", .str z]) hpr
      exact kq _ _ _ _ rfl (b4.trans s5.but) (h4.same s5) (.name upd_same)
    | false =>
    rw [hn, if_neg (by decide)] at kq kx
    refine iteF ?_
    refine ⟨_, rfl, rfl, _, rfl, ?_⟩
    rw [dec_str]
    by_cases ht : z = "not"
    · rw [if_pos ht] at kq kx
      rw [decide_eq_true ht]
      refine iteT ?_
      refine ⟨_, rfl, _, rfl, o, dx, _, rfl, h4.ins, rfl, _, rfl, _, _, rfl, rfl, ?_⟩
      refine ⟨o, dx, wa, ws, x, i + 1, less1 k o, h4, fun e j v H5 he hb5 h5 hv => ⟨(by show 2 ≤ sizeLine; decide), fun pr hpr => ?_⟩, fun hn => (kx (by rw [hn])).but b4⟩
      have s6 := same_upd (o := .tup [.str z, v]) hpr
      refine kq (.not e) j (.ref pr) _ (by rw [he]) ((b4.trans hb5).trans s6.but) (h5.same s6) (.not ?_ (hv.kept s6.tups))
      rw [← ht]
      exact upd_same
    rw [if_neg ht] at kq kx
    rw [decide_eq_false ht]
    refine iteF ?_
    refine ⟨_, rfl, AA.q_OPERATORS, ops7.map V.str, rfl, .inr (T.Q_OPERATORS H4), rfl, rfl, _, rfl, ?_⟩
    rw [show (if false = true then !inV (V.str z) (ops7.map V.str) else inV (V.str z) (ops7.map V.str)) = decide (z ∈ ops7) from inV_strs _ _]
    by_cases h7 : z ∈ ops7
    · rw [if_pos h7] at kq kx
      rw [decide_eq_true h7]
      refine iteT ?_
      refine ⟨_, rfl, o, dx, _, rfl, h4.ins, rfl, _, rfl, _, _, rfl, rfl, ?_⟩
      refine ⟨o, dx, wa, ws, x, i + 1, less1 k o, h4, fun e j v H5 he hb5 h5 hv => ?_, fun hn => (kx (by rw [hn])).but b4⟩
      rw [he] at kq kx
      dsimp only at kq kx
      have b5 := b4.trans hb5
      dsimp only [gName]
      refine ⟨_, rfl, _, rfl, _, rfl, o, dx, _, rfl, h5.ins, rfl, _, rfl, _, _, rfl, rfl, ?_⟩
      refine ⟨o, dx, wa, ws, x, j, less1 k o, h5, fun e2 j2 u H6 he6 hb6 h6 hu => ⟨(by show 3 ≤ sizeLine; decide), fun pr hpr => ?_⟩, fun hn => (kx (by rw [hn])).but b5⟩
      have s7 := same_upd (o := .tup [.str z, v, u]) hpr
      exact kq (.op z e e2) j2 (.ref pr) _ (by rw [he6]) ((b5.trans hb6).trans s7.but) (h6.same s7) (.op upd_same ((hv.kept (hb6.tups h5.ins)).kept s7.tups) (hu.kept s7.tups))
    rw [if_neg h7] at kq kx
    rw [decide_eq_false h7]
    refine iteF ?_
    refine ⟨_, rfl, o, dx, _, rfl, h4.ins, rfl, _, rfl, _, rfl, ?_⟩
    exact ⟨o, dx, wa, ws, x, i + 1, z, rfl, h4, fun e j v H5 he hb5 h5 hv => kq e j v H5 he (b4.trans hb5) h5 hv, fun hn => (kx hn).but b4⟩
theorem ok_expr (T : All P w K mg AA DD) : ∀ k : Nat, FnOk P w K mg base (CX2 (fun _ => True) P w) (3 * k + 4) AA.Phrase_take_expr DD.Phrase_take_expr ["self", "deep"] (spEx k AA.c_Phrase AA.x_NoForm)
  | 0 => ok_expr0 T
  | k + 1 => ok_exprS T k (ok_expr T k)
end
section
variable {P : Program} {w : World} {K : PySem.W.Frag} {mg : Str → Option Value} {base : Heap} {AA : Adr} {DD : Fds}
/-! where a row may stand -/
noncomputable def misP (z : Str) (ws : List Str) : Bool := if z ∈ (["kind", "def"] : List Str) then decide (0 < ws.length) else if z ∈ (["if", "while"] : List Str) then decide (4 ≤ ws.length) else decide (z = "give") && !decide (("def" : Str) ∈ ws)
noncomputable def strP (z : Str) (ws : List Str) : Bool := if z = "else" then decide (ws.length = 0) || !decide (ws.getLast? = some ("if" : Str)) else decide (z = "end") && decide (ws.length = 0)
noncomputable def spWithin (f : Str → List Str → Bool) : Sp := fun vs H Q _ => ∃ (z : Str) (p : Addr) (ws : List Str), vs = [.str z, .ref p] ∧ H p = some (.lst (ws.map V.str)) ∧ ws.length ≤ 10 ∧ ∀ H', Same H H' → Q (.bl (f z ws)) H'
theorem in_strs (z : Str) (l : List Str) : (if false = true then !inV (V.str z) (l.map V.str) else inV (V.str z) (l.map V.str)) = decide (z ∈ l) := inV_strs z l
theorem flat_strs (l : List Str) : (l.map V.str).all flatV = true := by
  rw [List.all_map, List.all_eq_true]
  exact fun _ _ => rfl
noncomputable abbrev N_is_misplaced : List Str := ["word", "within"]
theorem sc_is_misplaced : FnScope N_is_misplaced ["word", "within"] (defScope st_is_misplaced) := ⟨rfl, rfl, rfl, by decide +kernel, rfl, by decide +kernel, by decide +kernel⟩
theorem ok_mis (T : All P w K mg AA DD) : FnOk P w K mg base CX0 1 AA.is_misplaced DD.is_misplaced ["word", "within"] (spWithin misP) := by
  refine T.F_is_misplaced.ok sc_is_misplaced (fun vs H Q E h => ?_) (fun cdv A outer s H vs Q E hr h => ?_)
  · obtain ⟨z, p, ws, rfl, _⟩ := h
    rfl
  · obtain ⟨z, p, ws, rfl, hp, hl, k⟩ := h
    obtain ⟨t2, hMOST_BLOCKS⟩ := T.v_MOST_BLOCKS
    refine ⟨_, (@pss_cons _ _ _ _ _ (@ps_if _ _ _ _ _ _ _ _ (@pt_cmpR _ _ _ _ _ _ _ _ (op_in_seqK (K := K) rfl) (pv 0) (@pe_tup _ _ _ _ _ (@pa_cons _ _ _ _ _ pe_str (@pa_cons _ _ _ _ _ pe_str pa_nil (by rfl)) (by rfl))) rfl) (@pss_one _ _ _ (@ps_ret _ _ _ _ (@pe_cmpR _ _ _ _ _ _ _ _ op_gt (pe_callB call_len_seq rfl T.n_len bt_len (@pa_cons _ _ _ _ _ (pv 1) pa_nil (by rfl))) pe_int (nomark _)))) pss_nil) (@pss_cons _ _ _ _ _ (@ps_if _ _ _ _ _ _ _ _ (@pt_cmpR _ _ _ _ _ _ _ _ (op_in_seqK (K := K) rfl) (pv 0) (@pe_tup _ _ _ _ _ (@pa_cons _ _ _ _ _ pe_str (@pa_cons _ _ _ _ _ pe_str pa_nil (by rfl)) (by rfl))) rfl) (@pss_one _ _ _ (@ps_ret _ _ _ _ (@pe_cmpR _ _ _ _ _ _ _ _ op_ge (pe_callB call_len_seq rfl T.n_len bt_len (@pa_cons _ _ _ _ _ (pv 1) pa_nil (by rfl))) (pe_glob (v := .int 4) rfl hMOST_BLOCKS ⟨_, rfl⟩) (nomark _)))) pss_nil) (@pss_one _ _ _ (@ps_ret _ _ _ _ (pe_and (@pe_cmpR _ _ _ _ _ _ _ _ op_eq (pv 0) pe_str (nomark _)) (pe_one (@pe_cmpR _ _ _ _ _ _ _ _ (op_notIn_seqK (K := K) rfl) pe_str (pv 1) rfl))))))), ?_⟩
    unfold misP at k
    refine ⟨_, rfl, (by show 2 ≤ sizeLine; decide), fun pt hpt => ⟨pt, (["kind", "def"] : List Str).map V.str, rfl, .inr (SqT.of upd_same), rfl, rfl, _, rfl, ?_⟩⟩
    have s1 := same_upd (o := .tup [.str "kind", .str "def"]) hpt
    have hp1 := s1 _ _ hp
    rw [in_strs]
    by_cases h1 : z ∈ (["kind", "def"] : List Str)
    · rw [decide_eq_true h1]
      refine iteT ?_
      refine ⟨_, rfl, p, _, rfl, .inl (SqL.of hp1), _, _, rfl, rfl, ?_⟩
      have k := k _ s1
      rw [if_pos h1] at k
      dsimp only
      rw [List.length_map, show decide ((0 : Int) < (ws.length : Int)) = decide (0 < ws.length) from decide_eq_decide.mpr (by omega)]
      exact k
    rw [decide_eq_false h1]
    refine iteF ?_
    refine ⟨_, rfl, (by show 2 ≤ sizeLine; decide), fun pu hpu => ⟨pu, (["if", "while"] : List Str).map V.str, rfl, .inr (SqT.of upd_same), rfl, rfl, _, rfl, ?_⟩⟩
    have s2 := s1.trans (same_upd (o := .tup [.str "if", .str "while"]) hpu)
    have hp2 := s2 _ _ hp
    rw [in_strs]
    have k := k _ s2
    rw [if_neg h1] at k
    by_cases h2 : z ∈ (["if", "while"] : List Str)
    · rw [decide_eq_true h2]
      refine iteT ?_
      refine ⟨_, rfl, p, _, rfl, .inl (SqL.of hp2), _, _, rfl, rfl, ?_⟩
      rw [if_pos h2] at k
      dsimp only
      rw [List.length_map, show decide ((4 : Int) ≤ (ws.length : Int)) = decide (4 ≤ ws.length) from decide_eq_decide.mpr (by omega)]
      exact k
    rw [decide_eq_false h2]
    refine iteF ?_
    rw [if_neg h2] at k
    refine ⟨_, rfl, rfl, _, rfl, ?_⟩
    rw [dec_str]
    by_cases h3 : z = "give"
    · rw [decide_eq_true h3] at k ⊢
      refine iteT ?_
      refine ⟨_, rfl, p, _, rfl, .inl (SqL.of hp2), rfl, flat_strs ws, ?_⟩
      rw [inV_strs]
      exact k
    · rw [decide_eq_false h3] at k ⊢
      exact iteF k
noncomputable abbrev N_is_stray : List Str := ["word", "within"]
theorem sc_is_stray : FnScope N_is_stray ["word", "within"] (defScope st_is_stray) := ⟨rfl, rfl, rfl, by decide +kernel, rfl, by decide +kernel, by decide +kernel⟩
theorem ok_stray (T : All P w K mg AA DD) : FnOk P w K mg base CX0 1 AA.is_stray DD.is_stray ["word", "within"] (spWithin strP) := by
  refine T.F_is_stray.ok sc_is_stray (fun vs H Q E h => ?_) (fun cdv A outer s H vs Q E hr h => ?_)
  · obtain ⟨z, p, ws, rfl, _⟩ := h
    rfl
  · obtain ⟨z, p, ws, rfl, hp, hl, k⟩ := h
    refine ⟨_, (@pss_cons _ _ _ _ _ (@ps_if _ _ _ _ _ _ _ _ (@pt_cmpR _ _ _ _ _ _ _ _ op_eq (pv 0) pe_str (nomark _)) (@pss_one _ _ _ (@ps_ret _ _ _ _ (pe_or (@pe_cmpR _ _ _ _ _ _ _ _ op_eq (pe_callB call_len_seq rfl T.n_len bt_len (@pa_cons _ _ _ _ _ (pv 1) pa_nil (by rfl))) pe_int (nomark _)) (pe_one (@pe_cmpR _ _ _ _ _ _ _ _ op_ne (@pe_ix _ _ _ _ _ _ _ (ix_listK (K := K) rfl) (pv 1) (pe_un un_neg pe_int) (fun _ _ => rfl)) pe_str (nomark _)))))) pss_nil) (@pss_one _ _ _ (@ps_ret _ _ _ _ (pe_and (@pe_cmpR _ _ _ _ _ _ _ _ op_eq (pv 0) pe_str (nomark _)) (pe_one (@pe_cmpR _ _ _ _ _ _ _ _ op_eq (pe_callB call_len_seq rfl T.n_len bt_len (@pa_cons _ _ _ _ _ (pv 1) pa_nil (by rfl))) pe_int (nomark _))))))), ?_⟩
    have k := k H (Same.refl _)
    unfold strP at k
    refine ⟨_, rfl, rfl, _, rfl, ?_⟩
    rw [dec_str]
    by_cases h1 : z = "else"
    · rw [if_pos h1] at k
      rw [decide_eq_true h1]
      refine iteT ?_
      refine ⟨_, rfl, p, _, rfl, .inl (SqL.of hp), rfl, _, rfl, ?_⟩
      rw [List.length_map]
      by_cases h0 : ws.length = 0
      · rw [decide_eq_true h0] at k
        rw [decide_eq_true (show V.int ((ws.length : Nat) : Int) = V.int 0 by rw [h0]; rfl)]
        exact iteT k
      · rw [decide_eq_false h0] at k
        rw [decide_eq_false (fun e => h0 (by injection e with e; omega))]
        refine iteF ?_
        obtain ⟨l, y, rfl⟩ : ∃ l y, ws = l ++ [y] := ⟨ws.dropLast, ws.getLast (List.length_pos_iff.mp (by omega)), (List.dropLast_concat_getLast _).symm⟩
        refine ⟨_, rfl, 1, rfl, p, _, _, _, rfl, rfl, SqL.of hp, (by rw [List.map_append]; exact atI_last _ _), rfl, ?_⟩
        rw [dec_str]
        have e : ((l ++ [y]).getLast? = some ("if" : Str)) = (y = "if") := by simp
        simp only [e, Bool.false_or] at k
        exact k
    · rw [if_neg h1] at k
      rw [decide_eq_false h1]
      refine iteF ?_
      refine ⟨_, rfl, rfl, _, rfl, ?_⟩
      rw [dec_str]
      by_cases h2 : z = "end"
      · rw [decide_eq_true h2] at k ⊢
        refine iteT ?_
        refine ⟨_, rfl, p, _, rfl, .inl (SqL.of hp), rfl, ?_⟩
        rw [List.length_map, show decide (V.int ((ws.length : Nat) : Int) = V.int 0) = decide (ws.length = 0) from dec_nat ws.length 0]
        exact k
      · rw [decide_eq_false h2] at k ⊢
        exact iteF k
noncomputable def pfP (z : Str) (ws : List Str) : V := if misP z ws then .str "place" else if strP z ws then .str "stray" else .non
noncomputable def spFault : Sp := fun vs H Q _ => ∃ (z : Str) (p : Addr) (ws : List Str), vs = [.str z, .ref p] ∧ H p = some (.lst (ws.map V.str)) ∧ ws.length ≤ 10 ∧ ∀ H', Same H H' → Q (pfP z ws) H'
noncomputable abbrev N_place_fault : List Str := ["word", "within"]
theorem sc_place_fault : FnScope N_place_fault ["word", "within"] (defScope st_place_fault) := ⟨rfl, rfl, rfl, by decide +kernel, rfl, by decide +kernel, by decide +kernel⟩
theorem ok_fault (T : All P w K mg AA DD) : FnOk P w K mg base CX0 2 AA.place_fault DD.place_fault ["word", "within"] spFault := by
  have GL := ok_mis (base := base) T
  have GR := ok_stray (base := base) T
  refine T.F_place_fault.ok sc_place_fault (fun vs H Q E h => ?_) (fun cdv A outer s H vs Q E hr h => ?_)
  · obtain ⟨z, p, ws, rfl, _⟩ := h
    rfl
  · obtain ⟨z, p, ws, rfl, hp, hl, k⟩ := h
    have hr1 : Room 1 _ := hr
    refine ⟨_, (@pss_cons _ _ _ _ _ (@ps_if _ _ _ _ _ _ _ _ (pt_val (pe_call GL hr1 rfl T.m_is_misplaced T.k_is_misplaced T.b_is_misplaced .nil pass0 (@pa_cons _ _ _ _ _ (pv 0) (@pa_cons _ _ _ _ _ (pv 1) pa_nil (by rfl)) (by rfl)))) (@pss_one _ _ _ (@ps_ret _ _ _ _ pe_str)) pss_nil) (@pss_cons _ _ _ _ _ (@ps_if _ _ _ _ _ _ _ _ (pt_val (pe_call GR hr1 rfl T.m_is_stray T.k_is_stray T.b_is_stray .nil pass0 (@pa_cons _ _ _ _ _ (pv 0) (@pa_cons _ _ _ _ _ (pv 1) pa_nil (by rfl)) (by rfl)))) (@pss_one _ _ _ (@ps_ret _ _ _ _ pe_str)) pss_nil) (@pss_one _ _ _ (@ps_ret _ _ _ _ pe_non)))), ?_⟩
    unfold pfP at k
    refine ⟨_, rfl, _, rfl, z, p, ws, rfl, hp, hl, fun H1 s1 => ⟨_, rfl, ?_⟩⟩
    cases hm : misP z ws with
    | true =>
      rw [hm] at k
      exact iteT (k H1 s1)
    | false =>
      rw [hm] at k
      refine iteF ?_
      refine ⟨_, rfl, _, rfl, z, p, ws, rfl, s1 _ _ hp, hl, fun H2 s2 => ⟨_, rfl, ?_⟩⟩
      have k := k H2 (s1.trans s2)
      cases hs : strP z ws with
      | true =>
        rw [hs] at k
        exact iteT k
      | false =>
        rw [hs] at k
        exact iteF k
/-! blocks that are open -/
noncomputable def blF (z : Str) (b c : V) : List (Str × V) := [("word", .str z), ("body", b), ("other", c)]
noncomputable def spBInit (C : Addr) : Sp := fun vs H Q _ => ∃ (o dx : Addr) (z : Str) (b c : V), vs = [.ref o, .str z, b, c] ∧ H o = some (.ins C dx []) ∧ ∀ H', ButO o H H' → H' o = some (.ins C dx (blF z b c)) → Q .non H'
noncomputable abbrev N_Block_init : List Str := ["self", "word", "body", "other"]
theorem sc_Block_init : FnScope N_Block_init ["self", "word", "body", "other"] (defScope st_Block_init) := ⟨rfl, rfl, rfl, by decide +kernel, rfl, by decide +kernel, by decide +kernel⟩
theorem ok_binit (T : All P w K mg AA DD) : FnOk P w K mg base CX0 1 AA.Block_init DD.Block_init ["self", "word", "body", "other"] (spBInit AA.c_Block) := by
  refine T.F_Block_init.ok sc_Block_init (fun vs H Q E h => ?_) (fun cdv A outer s H vs Q E hr h => ?_)
  · obtain ⟨o, dx, z, b, c, rfl, _⟩ := h
    rfl
  · obtain ⟨o, dx, z, b, c, rfl, ho, k⟩ := h
    refine ⟨_, (@pss_cons _ _ _ _ _ (ps_fld (pv 0) (pv 1) rfl) (@pss_cons _ _ _ _ _ (ps_fld (pv 0) (pv 2) rfl) (@pss_one _ _ _ (ps_fld (pv 0) (pv 3) rfl)))), ?_⟩
    refine ⟨_, rfl, _, rfl, o, AA.c_Block, dx, _, rfl, ho, T.cl_Block, T.na_Block_word, (by show 0 < 1000; decide), ?_⟩
    refine ⟨_, rfl, _, rfl, o, AA.c_Block, dx, _, rfl, upd_same, T.cl_Block, T.na_Block_body, (by show 1 < 1000; decide), ?_⟩
    refine ⟨_, rfl, _, rfl, o, AA.c_Block, dx, _, rfl, upd_same, T.cl_Block, T.na_Block_other, (by show 2 < 1000; decide), ?_⟩
    exact k _ (((ButO.upd _ _ _).trans (ButO.upd _ _ _)).trans (ButO.upd _ _ _)) upd_same
end
section
variable {P : Program} {w : World} {K : PySem.W.Frag} {mg : Str → Option Value} {base : Heap} {AA : Adr} {DD : Fds}
theorem new_of {H : Hp} {p q : Addr} {u : HO} (h : upd H p u q = none) : H q = none ∧ q ≠ p := by
  have n : q ≠ p := fun e => by rw [e, upd_same] at h; cases h
  rw [upd_ne n] at h
  exact ⟨h, n⟩
noncomputable def spBegun (C : Addr) : Sp := fun vs H Q _ => ∃ (h pB : Addr) (z : Str) (xs : List V) (bs : List Addr), vs = [.ref h, .ref pB] ∧ H h = some (.tup (.str z :: xs)) ∧ xs.length ≤ 10 ∧ H pB = some (.lst (bs.map V.ref)) ∧ bs.length ≤ 10 ∧
  (z = "if" → ∀ a b o dx t H', H a = none → H b = none → H o = none → H t = none → a ≠ b → ButO pB H H' → H' a = some (.lst []) → H' b = some (.lst []) → H' o = some (.ins C dx (blF z (.ref a) (.ref b))) → H' pB = some (.lst ((bs ++ [o]).map V.ref)) → H' t = some (.tup ((.str z :: xs) ++ [.ref a, .ref b])) → Q (.ref t) H') ∧
  (z ≠ "if" → z ∈ (["def", "while"] : List Str) → ∀ a o dx t H', H a = none → H o = none → H t = none → ButO pB H H' → H' a = some (.lst []) → H' o = some (.ins C dx (blF z (.ref a) .non)) → H' pB = some (.lst ((bs ++ [o]).map V.ref)) → H' t = some (.tup ((.str z :: xs) ++ [.ref a])) → Q (.ref t) H') ∧
  (z ≠ "if" → z ∉ (["def", "while"] : List Str) → ∀ H', Same H H' → Q (.ref h) H')
noncomputable abbrev N_begun : List Str := ["head", "blocks", "word", "then", "other", "body"]
theorem sc_begun : FnScope N_begun ["head", "blocks"] (defScope st_begun) := ⟨rfl, rfl, rfl, by decide +kernel, rfl, by decide +kernel, by decide +kernel⟩
theorem ok_begun (T : All P w K mg AA DD) : FnOk P w K mg base CX0 3 AA.begun DD.begun ["head", "blocks"] (spBegun AA.c_Block) := by
  have GB := ok_binit (base := base) T
  refine T.F_begun.ok sc_begun (fun vs H Q E h => ?_) (fun cdv A outer s H vs Q E hr h => ?_)
  · obtain ⟨h, pB, z, xs, bs, rfl, _⟩ := h
    rfl
  · obtain ⟨h, pB, z, xs, bs, rfl, hh, hxl, hB, hbl, k1, k2, k3⟩ := h
    have nd := sc_begun.nd
    have hr2 : Room 2 _ := hr
    refine ⟨_, (@pss_cons _ _ _ _ _ (@ps_set _ _ 2 _ _ _ _ nd rfl (Or.inl rfl) (@pe_ix _ _ _ _ _ _ _ (ix_tupK (K := K) rfl) (pv 0) pe_int (fun _ _ => rfl)) (by rfl) (by first | exact .inl rfl | exact .inr rfl | assumption)) (@pss_cons _ _ _ _ _ (@ps_if _ _ _ _ _ _ _ _ (@pt_cmpR _ _ _ _ _ _ _ _ op_eq (pv 2) pe_str (nomark _)) (@pss_cons _ _ _ _ _ (@ps_set _ _ 3 _ _ _ _ nd rfl (Or.inl rfl) (@pe_lst _ _ _ _ pa_nil) (by rfl) (by first | exact .inl rfl | exact .inr rfl | assumption)) (@pss_cons _ _ _ _ _ (@ps_set _ _ 4 _ _ _ _ nd rfl (Or.inl rfl) (@pe_lst _ _ _ _ pa_nil) (by rfl) (by first | exact .inl rfl | exact .inr rfl | assumption)) (@pss_cons _ _ _ _ _ (@ps_expr _ _ _ _ (pe_bm PySem.F.plainAttrs_list PySem.F.slot_list_append PySem.F.type_list_append mt_append (pv 1) (@pa_cons _ _ _ _ _ (pe_make T.M_Block GB hr2 rfl T.m_Block T.b_Block_init .nil pass0 (@pa_cons _ _ _ _ _ (pv 2) (@pa_cons _ _ _ _ _ (pv 3) (@pa_cons _ _ _ _ _ (pv 4) pa_nil (by rfl)) (by rfl)) (by rfl))) pa_nil (by rfl))) (by rfl)) (@pss_one _ _ _ (@ps_ret _ _ _ _ (@pe_op _ _ _ _ _ _ _ _ op_catT (pv 0) (@pe_tup _ _ _ _ _ (@pa_cons _ _ _ _ _ (pv 3) (@pa_cons _ _ _ _ _ (pv 4) pa_nil (by rfl)) (by rfl))))))))) pss_nil) (@pss_cons _ _ _ _ _ (@ps_if _ _ _ _ _ _ _ _ (@pt_cmpR _ _ _ _ _ _ _ _ (op_in_seqK (K := K) rfl) (pv 2) (@pe_tup _ _ _ _ _ (@pa_cons _ _ _ _ _ pe_str (@pa_cons _ _ _ _ _ pe_str pa_nil (by rfl)) (by rfl))) rfl) (@pss_cons _ _ _ _ _ (@ps_set _ _ 5 _ _ _ _ nd rfl (Or.inl rfl) (@pe_lst _ _ _ _ pa_nil) (by rfl) (by first | exact .inl rfl | exact .inr rfl | assumption)) (@pss_cons _ _ _ _ _ (@ps_expr _ _ _ _ (pe_bm PySem.F.plainAttrs_list PySem.F.slot_list_append PySem.F.type_list_append mt_append (pv 1) (@pa_cons _ _ _ _ _ (pe_make T.M_Block GB hr2 rfl T.m_Block T.b_Block_init .nil pass0 (@pa_cons _ _ _ _ _ (pv 2) (@pa_cons _ _ _ _ _ (pv 5) (@pa_cons _ _ _ _ _ pe_non pa_nil (by rfl)) (by rfl)) (by rfl))) pa_nil (by rfl))) (by rfl)) (@pss_one _ _ _ (@ps_ret _ _ _ _ (@pe_op _ _ _ _ _ _ _ _ op_catT (pv 0) (@pe_tup _ _ _ _ _ (@pa_cons _ _ _ _ _ (pv 5) pa_nil (by rfl)))))))) pss_nil) (@pss_one _ _ _ (@ps_ret _ _ _ _ (pv 0)))))), ?_⟩
    have at0 : atI (V.str z :: xs) (0 : Int) = some (V.str z) := atI_nat (j := 0) rfl
    refine ⟨_, rfl, h, _, _, _, rfl, rfl, SqT.of hh, at0, ?_⟩
    dsimp only [gName]
    refine ⟨_, rfl, rfl, _, rfl, ?_⟩
    rw [dec_str]
    by_cases hi : z = "if"
    · rw [decide_eq_true hi]
      refine iteT ?_
      refine ⟨Nat.zero_le _, fun a ha => ?_⟩
      dsimp only [gName]
      refine ⟨Nat.zero_le _, fun b hb => ?_⟩
      dsimp only [gName]
      obtain ⟨hb0, nba⟩ := new_of hb
      have sab := (same_upd (o := .lst []) ha).trans (same_upd (o := .lst []) hb)
      have ha2 : upd (upd H a (.lst [])) b (.lst []) a = some (.lst []) := by rw [upd_ne (Ne.symm nba), upd_same]
      have hb2 : upd (upd H a (.lst [])) b (.lst []) b = some (.lst []) := upd_same
      generalize upd (upd H a (.lst [])) b (.lst []) = H2 at sab ha2 hb2 ⊢
      have hB2 := sab _ _ hB
      refine ⟨_, rfl, .inl ⟨rfl, _, SqL.of hB2⟩, _, rfl, _, rfl, _, rfl, fun o dx ho hdx ne => ?_⟩
      have s3 : ButO o H2 (upd (upd H2 dx (.own o)) o (.ins AA.c_Block dx [])) := ((same_upd (o := .own o) hdx).but).trans (ButO.upd _ _ _)
      refine ⟨o, dx, z, .ref a, .ref b, rfl, upd_same, fun H3 b3 h3 => ⟨rfl, ?_⟩⟩
      have b23 := s3.trans b3
      have nO : ∀ x u, H2 x = some u → x ≠ o := fun x u e => ne_of_none e ho
      have hB3 := b23 _ _ hB2 (nO _ _ hB2)
      have ha3 := b23 _ _ ha2 (nO _ _ ha2)
      have hb3 := b23 _ _ hb2 (nO _ _ hb2)
      have hh3 := b23 _ _ (sab _ _ hh) (nO _ _ (sab _ _ hh))
      have nhB : h ≠ pB := fun e => by rw [e, hB] at hh; cases hh
      have naB : a ≠ pB := fun e => by rw [e, hB] at ha; cases ha
      have nbB : b ≠ pB := fun e => by rw [e, hB] at hb0; cases hb0
      have noB : o ≠ pB := fun e => nO _ _ hB2 e.symm
      have ho0 : H o = none := by
        cases e : H o with
        | none => rfl
        | some u => rw [sab _ _ e] at ho; cases ho
      refine ⟨pB, _, _, rfl, rfl, hB3, (by rw [List.length_map]; exact small1000 (by omega)), ?_⟩
      refine ⟨_, rfl, _, rfl, _, rfl, (by show 2 ≤ sizeLine; decide), fun pt hpt => ?_⟩
      obtain ⟨hpt3, nptB⟩ := new_of hpt
      have s5 := same_upd (o := .tup [.ref a, .ref b]) hpt
      have e4 : ∀ x u, H3 x = some u → x ≠ pB → upd (upd H3 pB (.lst (bs.map V.ref ++ [.ref o]))) pt (.tup [.ref a, .ref b]) x = some u := fun x u e n => s5 _ _ (by rw [upd_ne n]; exact e)
      refine ⟨h, pt, _, _, rfl, rfl, SqT.of (e4 _ _ hh3 nhB), SqT.of upd_same, by simp, Nat.le_of_lt (small1000 (by simp; omega)), (fun e => by cases e), fun _ t ht => ?_⟩
      obtain ⟨ht4, ntp⟩ := new_of ht
      obtain ⟨ht3, ntB⟩ := new_of ht4
      have s6 := same_upd (o := .tup ((.str z :: xs) ++ [.ref a, .ref b])) ht
      have nto : t ≠ o := fun e => by rw [e, h3] at ht3; cases ht3
      have ht0 : H t = none := by
        cases e : H t with
        | none => rfl
        | some u => rw [b23 _ _ (sab _ _ e) nto] at ht3; cases ht3
      refine k1 hi a b o dx t _ ha hb0 ho0 ht0 (Ne.symm nba) (fun x u e n => s6 _ _ (e4 _ _ (b23 _ _ (sab _ _ e) (nO _ _ (sab _ _ e))) n)) (s6 _ _ (e4 _ _ ha3 naB)) (s6 _ _ (e4 _ _ hb3 nbB)) (s6 _ _ (e4 _ _ h3 noB)) ?_ upd_same
      refine s6 _ _ (s5 _ _ ?_)
      rw [upd_same, List.map_append]
      rfl
    rw [decide_eq_false hi]
    refine iteF ?_
    refine ⟨_, rfl, (by show 2 ≤ sizeLine; decide), fun pt hpt => ⟨pt, (["def", "while"] : List Str).map V.str, rfl, .inr (SqT.of upd_same), rfl, rfl, _, rfl, ?_⟩⟩
    have s1 := same_upd (o := .tup [.str "def", .str "while"]) hpt
    rw [in_strs]
    by_cases hd : z ∈ (["def", "while"] : List Str)
    · rw [decide_eq_true hd]
      refine iteT ?_
      have hh1 := s1 _ _ hh
      have hB1 := s1 _ _ hB
      have n1 : ∀ x, upd H pt (.tup [.str "def", .str "while"]) x = none → H x = none := fun x e => (new_of e).1
      generalize upd H pt (.tup [.str "def", .str "while"]) = H1 at s1 hh1 hB1 n1 ⊢
      refine ⟨Nat.zero_le _, fun a ha => ?_⟩
      dsimp only [gName]
      have sab := s1.trans (same_upd (o := .lst []) ha)
      have ha2 : upd H1 a (.lst []) a = some (.lst []) := upd_same
      generalize upd H1 a (.lst []) = H2 at sab ha2 ⊢
      have hB2 := sab _ _ hB
      have ha0 := n1 a ha
      refine ⟨_, rfl, .inl ⟨rfl, _, SqL.of hB2⟩, _, rfl, _, rfl, fun o dx ho hdx ne => ?_⟩
      have s3 : ButO o H2 (upd (upd H2 dx (.own o)) o (.ins AA.c_Block dx [])) := ((same_upd (o := .own o) hdx).but).trans (ButO.upd _ _ _)
      refine ⟨o, dx, z, .ref a, .non, rfl, upd_same, fun H3 b3 h3 => ⟨rfl, ?_⟩⟩
      have b23 := s3.trans b3
      have nO : ∀ x u, H2 x = some u → x ≠ o := fun x u e => ne_of_none e ho
      have hB3 := b23 _ _ hB2 (nO _ _ hB2)
      have ha3 := b23 _ _ ha2 (nO _ _ ha2)
      have hh3 := b23 _ _ (sab _ _ hh) (nO _ _ (sab _ _ hh))
      have nhB : h ≠ pB := fun e => by rw [e, hB] at hh; cases hh
      have naB : a ≠ pB := fun e => by rw [e, hB] at ha0; cases ha0
      have noB : o ≠ pB := fun e => nO _ _ hB2 e.symm
      have ho0 : H o = none := by
        cases e : H o with
        | none => rfl
        | some u => rw [sab _ _ e] at ho; cases ho
      refine ⟨pB, _, _, rfl, rfl, hB3, (by rw [List.length_map]; exact small1000 (by omega)), ?_⟩
      refine ⟨_, rfl, _, rfl, (by show 1 ≤ sizeLine; decide), fun pt hpt => ?_⟩
      have s5 := same_upd (o := .tup [.ref a]) hpt
      have e4 : ∀ x u, H3 x = some u → x ≠ pB → upd (upd H3 pB (.lst (bs.map V.ref ++ [.ref o]))) pt (.tup [.ref a]) x = some u := fun x u e n => s5 _ _ (by rw [upd_ne n]; exact e)
      refine ⟨h, pt, _, _, rfl, rfl, SqT.of (e4 _ _ hh3 nhB), SqT.of upd_same, by simp, Nat.le_of_lt (small1000 (by simp; omega)), (fun e => by cases e), fun _ t ht => ?_⟩
      obtain ⟨ht4, ntp⟩ := new_of ht
      obtain ⟨ht3, ntB⟩ := new_of ht4
      have s6 := same_upd (o := .tup ((.str z :: xs) ++ [.ref a])) ht
      have nto : t ≠ o := fun e => by rw [e, h3] at ht3; cases ht3
      have ht0 : H t = none := by
        cases e : H t with
        | none => rfl
        | some u => rw [b23 _ _ (sab _ _ e) nto] at ht3; cases ht3
      refine k2 hi hd a o dx t _ ha0 ho0 ht0 (fun x u e n => s6 _ _ (e4 _ _ (b23 _ _ (sab _ _ e) (nO _ _ (sab _ _ e))) n)) (s6 _ _ (e4 _ _ ha3 naB)) (s6 _ _ (e4 _ _ h3 noB)) ?_ upd_same
      refine s6 _ _ (s5 _ _ ?_)
      rw [upd_same, List.map_append]
      rfl
    · rw [decide_eq_false hd]
      refine iteF ?_
      exact ⟨_, rfl, k3 hi hd _ s1⟩
end
section
variable {P : Program} {w : World} {K : PySem.W.Frag} {mg : Str → Option Value} {base : Heap} {AA : Adr} {DD : Fds}
/-! pairs of names and kinds -/
theorem bt_set : bootBuiltins "set" = some (.type "set") := by decide +kernel
noncomputable def PrT (H : Hp) (ts : List Addr) (prs : List (Str × Str)) : Prop := ts.length = prs.length ∧ ∀ (i : Nat) (t : Addr) (p : Str × Str), ts[i]? = some t → prs[i]? = some p → H t = some (.tup [.str p.1, .str p.2])
theorem PrT.kept {H H' : Hp} {ts : List Addr} {prs : List (Str × Str)} (h : PrT H ts prs) (s : TupS H H') : PrT H' ts prs := ⟨h.1, fun i t p a b => s _ _ (h.2 i t p a b)⟩
noncomputable def Unl (prs : List (Str × Str)) : Prop := ¬ unl (prs.map (·.1)) < prs.length
noncomputable instance (prs : List (Str × Str)) : Decidable (Unl prs) := by unfold Unl; infer_instance
noncomputable def spUnl (C X : Addr) : Sp := fun vs H Q E => ∃ (o dx wa l : Addr) (ws : List Str) (x : V) (i : Nat) (ts : List Addr) (prs : List (Str × Str)), vs = [.ref o, .ref l] ∧ Ph C H o dx wa ws x i ∧ H l = some (.lst (ts.map V.ref)) ∧ PrT H ts prs ∧ prs.length ≤ 900 ∧
  (Unl prs → ∀ q H', Same H H' → H q = none → H' q = some (.tup (ts.map V.ref)) → Q (.ref q) H') ∧ (¬ Unl prs → ErrF E X x o H)
noncomputable abbrev N_Phrase_unlike_names : List Str := ["self", "pairs"]
theorem sc_Phrase_unlike_names : FnScope N_Phrase_unlike_names ["self", "pairs"] (defScope st_Phrase_unlike_names) := ⟨rfl, rfl, rfl, by decide +kernel, rfl, by decide +kernel, by decide +kernel⟩
theorem ok_unlike (T : All P w K mg AA DD) : FnOk P w K mg base (CX2 (fun _ => True) P w) 3 AA.Phrase_unlike_names DD.Phrase_unlike_names ["self", "pairs"] (spUnl AA.c_Phrase AA.x_NoForm) := by
  have GI := ok_xinit (base := base) T
  refine T.F_Phrase_unlike_names.ok2 sc_Phrase_unlike_names (fun vs H Q E h => ?_) (fun cdv A outer s H vs Q E hr h => ?_)
  · obtain ⟨o, dx, wa, l, ws, x, i, ts, prs, rfl, _⟩ := h
    rfl
  · obtain ⟨o, dx, wa, l, ws, x, i, ts, prs, rfl, h, hl, hP, hn, kq, kx⟩ := h
    have nd := sc_Phrase_unlike_names.nd
    have hr2 : Room 2 _ := hr
    refine ⟨_, (@pss_cons _ _ _ _ _ (@ps_if _ _ _ _ _ _ _ _ (@pt_cmpR _ _ _ _ _ _ _ _ op_lt (pe_callB call_lenS rfl T.n_len bt_len (@pa_cons _ _ _ _ _ (pe_callTy (call_setT (K := K) rfl rfl) rfl T.n_set bt_set (@pa_cons _ _ _ _ _ (pe_comp2 (xs := ["name", "kind"]) (defScope st_Phrase_unlike_names) N_Phrase_unlike_names [] [] rfl (by exact ⟨rfl, rfl, by decide +kernel, by decide +kernel, by decide +kernel, by decide +kernel, by decide +kernel, rfl, by decide +kernel⟩) rfl rfl (pi_list (pv 1)) (fun _ _ _ _ => (pg_tupK (K := K) (n := 2) rfl rfl (pgs_cons (pg_name (i := 0) (show (["name", "kind"] : List Str).Nodup by decide +kernel) rfl (Or.inl rfl)) (pgs_cons (pg_name (i := 1) (show (["name", "kind"] : List Str).Nodup by decide +kernel) rfl (Or.inl rfl)) pgs_nil)))) (fun _ _ _ _ => pif_nil) (fun _ _ _ _ => (pv 0))) pa_nil (by rfl))) pa_nil (by rfl))) (pe_callB call_len_seq rfl T.n_len bt_len (@pa_cons _ _ _ _ _ (pv 1) pa_nil (by rfl))) (nomark _)) (@pss_one _ _ _ (ps_raiseI body_cx (raise2 trivial) rfl rfl T.m_NoForm T.M_NoForm PySem.F.excBase_ValueError GI hr2 T.b_NoForm_init (@pa_cons _ _ _ _ _ (pe_fld (pv 0) rfl) (@pa_cons _ _ _ _ _ pe_str pa_nil (by rfl)) (by rfl)))) pss_nil) (@pss_one _ _ _ (@ps_ret _ _ _ _ (pe_callTy call_tuple_of rfl T.n_tuple bt_tuple (@pa_cons _ _ _ _ _ (pv 1) pa_nil (by rfl)))))), ?_⟩
    obtain ⟨htl, hat⟩ := hP
    refine ⟨_, rfl, l, rfl, ⟨_, SqL.of hl⟩, ?_⟩
    refine comp2_list (K := K) (a := l) (xs := ts.map V.ref) (fun i ys H' => H' = H ∧ i ≤ 900 ∧ ys = ((prs.take i).map (·.1)).map V.str) ⟨rfl, Nat.zero_le _, rfl⟩ (fun i ys H' _ hsl62 => by obtain ⟨e, _⟩ := hsl62; rw [e]; exact SqL.of hl) ?_ ?_
    · rintro j y ys H1 hx ⟨rfl, _, rfl⟩
      have hj : j < ts.length := by
        have := (List.getElem?_eq_some_iff.mp hx).1
        rw [List.length_map] at this; exact this
      have hjp : j < prs.length := by omega
      have ex : y = V.ref ts[j] := by rw [List.getElem?_map, List.getElem?_eq_getElem hj] at hx; exact (Option.some.inj hx).symm
      subst ex
      have htu := hat j ts[j] prs[j] (List.getElem?_eq_getElem hj) (List.getElem?_eq_getElem hjp)
      intro os hos
      obtain ⟨a, b, rfl⟩ : ∃ a b, os = [a, b] := by
        match os, hos with
        | [a, b], _ => exact ⟨a, b, rfl⟩
      refine ⟨ts[j], _, rfl, SqT.of htu, rfl, _, _, rfl, _, _, rfl, rfl, ⟨[_, _], rfl, rfl⟩, ?_⟩
      refine tYes_ok ?_
      rw [if_pos rfl]
      refine ⟨_, rfl, ?_, rfl, by omega, ?_⟩
      · rw [List.length_map, List.length_map, List.length_take]; exact small1000 (by omega)
      · rw [List.take_succ_eq_append_getElem hjp, List.map_append, List.map_append]; rfl
    · rintro ys H1 ⟨rfl, _, rfl⟩ p hp
      rw [List.length_map, htl, List.take_length]
      have s1 := same_upd (o := .lst ((prs.map (·.1)).map V.str)) hp
      refine ⟨p, prs.map (·.1), rfl, SqL.of upd_same, by rw [List.length_map]; omega, fun q hq => ?_⟩
      have s2 := same_upd (o := SetN q (unl (prs.map (·.1)))) hq
      have s12 := s1.trans s2
      have hul : unl (prs.map (·.1)) ≤ prs.length := by
        have := metS_le (fun i => (prs.map (·.1)).getD i ⟨#[]⟩) (prs.map (·.1)).length
        rw [List.length_map] at this
        unfold unl
        rw [List.length_map]
        exact this
      refine ⟨q, _, rfl, upd_same, by omega, _, rfl, l, _, rfl, .inl (SqL.of (s12 _ _ hl)), _, _, rfl, rfl, _, rfl, ?_⟩
      rw [List.length_map, htl]
      by_cases hU : Unl prs
      · rw [decide_eq_false (show ¬ ((unl (prs.map (·.1)) : Nat) : Int) < ((prs.length : Nat) : Int) by unfold Unl at hU; omega)]
        refine iteF ?_
        refine ⟨_, rfl, l, _, rfl, .inl ⟨SqL.of (s12 _ _ hl), fun t ht => ?_⟩⟩
        refine kq hU t _ (s12.trans (same_upd ht)) ?_ upd_same
        cases e : H1 t with
        | none => rfl
        | some o => rw [s12 _ _ e] at ht; cases ht
      · rw [decide_eq_true (show ((unl (prs.map (·.1)) : Nat) : Int) < ((prs.length : Nat) : Int) by unfold Unl at hU; omega)]
        refine iteT ?_
        exact ⟨_, rfl, o, AA.c_Phrase, dx, _, _, rfl, (h.same s12).ins, T.cl_Phrase, T.na_Phrase_at, rfl, (by show 2 ≤ sizeLine; decide), fun e tt he _ _ => raise_NoForm ((kx hU).word s12.but) e tt he⟩
noncomputable def pPr (f : Str → Bool) (ws : List Str) : Nat → Nat → Option (List (Str × Str))
  | 0, _ => none
  | n + 1, i => if i = ws.length then some [] else match pWd isName ws i with
    | none => none
    | some z => match pWd f ws (i + 1) with
      | none => none
      | some k => (pPr f ws n (i + 2)).map ((z, k) :: ·)
theorem pWd_lt {f : Str → Bool} {ws : List Str} {i : Nat} {z : Str} (h : pWd f ws i = some z) : i < ws.length := by
  unfold pWd at h
  cases q : ws[i]? with
  | none => rw [q] at h; cases h
  | some y => exact (List.getElem?_eq_some_iff.mp q).1
noncomputable def spPr (f : Str → Bool) (C X : Addr) : Sp := fun vs H Q E => ∃ (o dx wa : Addr) (ws : List Str) (x : V) (i : Nat), vs = [.ref o] ∧ Ph C H o dx wa ws x i ∧
  (∀ prs p ts H', pPr f ws (ws.length + 1) i = some prs → Unl prs → ButO o H H' → Ph C H' o dx wa ws x ws.length → H' p = some (.tup (ts.map V.ref)) → PrT H' ts prs → Q (.ref p) H') ∧ ((∀ prs, pPr f ws (ws.length + 1) i = some prs → ¬ Unl prs) → ErrF E X x o H)
noncomputable abbrev N_Phrase_take_fields : List Str := ["self", "pairs", "name"]
theorem sc_Phrase_take_fields : FnScope N_Phrase_take_fields ["self"] (defScope st_Phrase_take_fields) := ⟨rfl, rfl, rfl, by decide +kernel, rfl, by decide +kernel, by decide +kernel⟩
theorem ok_take_fields (T : All P w K mg AA DD) : FnOk P w K mg base (CX2 (fun _ => True) P w) 5 AA.Phrase_take_fields DD.Phrase_take_fields ["self"] (spPr isPk AA.c_Phrase AA.x_NoForm) := by
  have GE := ok_ended (base := base) T
  have GA := ok_takename (base := base) T
  have GK := ok_takepk (base := base) T
  have GU := ok_unlike (base := base) T
  refine T.F_Phrase_take_fields.ok2 sc_Phrase_take_fields (fun vs H Q E h => ?_) (fun cdv A outer s H vs Q E hr h => ?_)
  · obtain ⟨o, dx, wa, ws, x, i, rfl, _⟩ := h
    rfl
  · obtain ⟨o, dx, wa, ws, x, i, rfl, h, kq, kx⟩ := h
    have nd := sc_Phrase_take_fields.nd
    have hr1 : Room 1 _ := hr.mono (by decide)
    have hr3 : Room 3 _ := hr.mono (by decide)
    have hr4 : Room 4 _ := hr
    refine ⟨_, (@pss_cons _ _ _ _ _ (@ps_set _ _ 1 _ _ _ _ nd rfl (Or.inl rfl) (@pe_lst _ _ _ _ pa_nil) (by rfl) (by first | exact .inl rfl | exact .inr rfl | assumption)) (@pss_cons _ _ _ _ _ (@ps_while _ _ _ _ _ _ PassesOwn.leaving (pt_not (pt_val (pe_meth0 (pv 0) T.cl_Phrase T.M_Phrase_ended GE hr1 T.b_Phrase_ended .nil pass0))) (@pss_cons _ _ _ _ _ (@ps_set _ _ 2 _ _ _ _ nd rfl (Or.inl rfl) (pe_meth0 (pv 0) T.cl_Phrase T.M_Phrase_take_name GA hr4 T.b_Phrase_take_name .nil (pass2 fun _ z => z)) (by rfl) (by first | exact .inl rfl | exact .inr rfl | assumption)) (@pss_one _ _ _ (@ps_expr _ _ _ _ (pe_bm PySem.F.plainAttrs_list PySem.F.slot_list_append PySem.F.type_list_append mt_append (pv 1) (@pa_cons _ _ _ _ _ (@pe_tup _ _ _ _ _ (@pa_cons _ _ _ _ _ (pv 2) (@pa_cons _ _ _ _ _ (pe_meth0 (pv 0) T.cl_Phrase T.M_Phrase_take_plain_kind GK hr4 T.b_Phrase_take_plain_kind .nil (pass2 fun _ z => z)) pa_nil (by rfl)) (by rfl))) pa_nil (by rfl))) (by rfl))))) (@pss_one _ _ _ (@ps_ret _ _ _ _ (pe_meth (pv 0) T.cl_Phrase T.M_Phrase_unlike_names GU hr3 T.b_Phrase_unlike_names .nil (pass2 fun _ z => z) (@pa_cons _ _ _ _ _ (pv 1) pa_nil (by rfl))))))), ?_⟩
    refine ⟨Nat.zero_le _, fun pf hpf => ?_⟩
    have npo : pf ≠ o := fun e => by rw [e, h.ins] at hpf; cases hpf
    have npw : pf ≠ wa := fun e => by rw [e, h.wds] at hpf; cases hpf
    dsimp only [gName]
    refine cut_while (fun σ' H' => ∃ (s2 : Option V) (ts : List Addr) (prs : List (Str × Str)), σ' = [some (.ref o), some (.ref pf), s2] ∧ ButO o H H' ∧ Ph AA.c_Phrase H' o dx wa ws x ws.length ∧ H' pf = some (.lst (ts.map V.ref)) ∧ PrT H' ts prs ∧ prs.length ≤ 900 ∧ pPr isPk ws (ws.length + 1) i = some prs) (fun R hRR => ?_) ?_
    · refine ⟨fun m σ' H' => ∃ (j f : Nat) (s2 : Option V) (ts : List Addr) (prs : List (Str × Str)), m = ws.length - j ∧ ws.length - j < f ∧ σ' = [some (.ref o), some (.ref pf), s2] ∧ ButO o H H' ∧ Ph AA.c_Phrase H' o dx wa ws x j ∧ H' pf = some (.lst (ts.map V.ref)) ∧ PrT H' ts prs ∧ prs.length ≤ j ∧
          pPr isPk ws (ws.length + 1) i = (pPr isPk ws f j).map (prs ++ ·), ⟨_, i, ws.length + 1, none, [], [], rfl, by omega, rfl, (same_upd hpf).but, h.same (same_upd hpf), upd_same, ⟨rfl, fun i t p h => by simp at h⟩, Nat.zero_le _, ?_⟩, ?_⟩
      · cases pPr isPk ws (ws.length + 1) i with
        | none => rfl
        | some q => rfl
      · rintro m σ' H1 ⟨j, f, s2, ts, prs, rfl, hf, rfl, hb, h1, hp1, hP, hvl, eM⟩
        have hj := h1.le
        have h900 := h1.few
        obtain ⟨f, rfl⟩ : ∃ g, f = g + 1 := ⟨f - 1, by omega⟩
        refine ⟨_, rfl, o, dx, _, rfl, h1.ins, rfl, o, dx, wa, ws, x, j, rfl, h1, _, rfl, ?_⟩
        by_cases he : j = ws.length
        · rw [decide_eq_true he]
          refine iteF ?_
          refine hRR _ _ ⟨s2, ts, prs, rfl, hb, by rw [← he]; exact h1, hp1, hP, by omega, ?_⟩
          rw [eM]
          unfold pPr
          rw [if_pos he]
          simp
        · rw [decide_eq_false he]
          refine iteT ?_
          have hun : pPr isPk ws (f + 1) j = (match pWd isName ws j with
            | none => none
            | some z => match pWd isPk ws (j + 1) with
              | none => none
              | some k => (pPr isPk ws f (j + 2)).map ((z, k) :: ·)) := by
            rw [pPr, if_neg he]
          refine ⟨_, fun _ _ h => h, ?_⟩
          refine ⟨_, rfl, o, dx, _, rfl, h1.ins, rfl, o, dx, wa, ws, x, j, rfl, h1, fun z H2 hz hb2 h2 => ?_, fun hn => ?_⟩
          · dsimp only [gName]
            have hp2 := hb2 _ _ hp1 npo
            refine ⟨_, rfl, .inl ⟨rfl, _, SqL.of hp2⟩, _, rfl, _, rfl, o, dx, _, rfl, h2.ins, rfl, o, dx, wa, ws, x, j + 1, rfl, h2, fun kk H3 hk hb3 h3 => ⟨(by show 2 ≤ sizeLine; decide), fun t ht => ?_⟩, fun hn => ?_⟩
            · have st := same_upd (o := .tup [V.str z, V.str kk]) ht
              have hp3 := hb3 _ _ hp2 npo
              have htl := hP.1
              have hjl := pWd_lt hk
              refine ⟨pf, _, _, rfl, rfl, st _ _ hp3, (by rw [List.length_map, htl]; exact small1000 (by omega)), ?_⟩
              have tS : TupS H1 H3 := fun b xs e => (hb3.tups h2.ins) _ _ ((hb2.tups h1.ins) _ _ e)
              have tU : TupS (upd H3 t (.tup [V.str z, V.str kk])) (upd (upd H3 t (.tup [V.str z, V.str kk])) pf (.lst (ts.map V.ref ++ [V.ref t]))) := fun b xs eb => by rw [upd_ne (fun y => by rw [y, st _ _ hp3] at eb; cases eb)]; exact eb
              refine ⟨ws.length - (j + 1 + 1), by omega, j + 1 + 1, f, some (.str z), ts ++ [t], prs ++ [(z, kk)], rfl, by omega, rfl, fun b u eb nb => ?_, ⟨?_, ?_, h3.ok, h3.le, h3.few⟩, by rw [upd_same, List.map_append]; rfl, ⟨by simp [htl], fun i' t' p' e1 e2 => ?_⟩, by simp; omega, ?_⟩
              · rw [upd_ne (fun y => by rw [y, hpf] at eb; cases eb)]
                exact st _ _ (hb3 _ _ (hb2 _ _ (hb _ _ eb nb) nb) nb)
              · rw [upd_ne (Ne.symm npo)]; exact st _ _ h3.ins
              · rw [upd_ne (Ne.symm npw)]; exact st _ _ h3.wds
              · by_cases hi' : i' < ts.length
                · rw [List.getElem?_append_left hi'] at e1
                  rw [List.getElem?_append_left (by omega)] at e2
                  exact tU _ _ (st _ _ (tS _ _ (hP.2 i' t' p' e1 e2)))
                · have hil := (List.getElem?_eq_some_iff.mp e1).1
                  rw [List.length_append, List.length_singleton] at hil
                  have ei : i' = ts.length := by omega
                  subst ei
                  rw [List.getElem?_append_right (Nat.le_refl _), Nat.sub_self] at e1
                  rw [htl, List.getElem?_append_right (Nat.le_refl _), Nat.sub_self] at e2
                  have q1 : t = t' := by simpa using e1
                  have q2 : (z, kk) = p' := by simpa using e2
                  subst q1 q2
                  exact tU _ _ upd_same
              · rw [eM, hun, hz]
                dsimp only
                rw [hk]
                dsimp only
                rw [Option.map_map]
                congr 1
                funext q
                simp
            · refine (kx fun prs' hp' => ?_).but (hb.trans hb2)
              rw [eM, hun, hz] at hp'
              dsimp only at hp'
              rw [hn] at hp'
              cases hp'
          · refine (kx fun prs' hp' => ?_).but hb
            rw [eM, hun, hn] at hp'
            cases hp'
    · rintro σ' H1 ⟨s2, ts, prs, rfl, hb, h1, hp1, hP, hl9, eP⟩
      refine ⟨_, rfl, o, dx, _, rfl, h1.ins, rfl, _, rfl, o, dx, wa, pf, ws, x, ws.length, ts, prs, rfl, h1, hp1, hP, hl9, fun hU q H' s1 hq hq' => ?_, fun hU => ?_⟩
      · exact kq prs q ts H' eP hU (hb.trans s1.but) (h1.same s1) hq' (hP.kept fun b xs e => s1 _ _ e)
      · exact (kx fun prs' hp' => by rw [eP] at hp'; cases hp'; exact hU).but hb
noncomputable abbrev N_Phrase_take_params : List Str := ["self", "pairs", "name"]
theorem sc_Phrase_take_params : FnScope N_Phrase_take_params ["self"] (defScope st_Phrase_take_params) := ⟨rfl, rfl, rfl, by decide +kernel, rfl, by decide +kernel, by decide +kernel⟩
theorem ok_take_params (T : All P w K mg AA DD) : FnOk P w K mg base (CX2 (fun _ => True) P w) 5 AA.Phrase_take_params DD.Phrase_take_params ["self"] (spPr isKd AA.c_Phrase AA.x_NoForm) := by
  have GE := ok_ended (base := base) T
  have GA := ok_takename (base := base) T
  have GQ := ok_takekd (base := base) T
  have GU := ok_unlike (base := base) T
  refine T.F_Phrase_take_params.ok2 sc_Phrase_take_params (fun vs H Q E h => ?_) (fun cdv A outer s H vs Q E hr h => ?_)
  · obtain ⟨o, dx, wa, ws, x, i, rfl, _⟩ := h
    rfl
  · obtain ⟨o, dx, wa, ws, x, i, rfl, h, kq, kx⟩ := h
    have nd := sc_Phrase_take_params.nd
    have hr1 : Room 1 _ := hr.mono (by decide)
    have hr3 : Room 3 _ := hr.mono (by decide)
    have hr4 : Room 4 _ := hr
    refine ⟨_, (@pss_cons _ _ _ _ _ (@ps_set _ _ 1 _ _ _ _ nd rfl (Or.inl rfl) (@pe_lst _ _ _ _ pa_nil) (by rfl) (by first | exact .inl rfl | exact .inr rfl | assumption)) (@pss_cons _ _ _ _ _ (@ps_while _ _ _ _ _ _ PassesOwn.leaving (pt_not (pt_val (pe_meth0 (pv 0) T.cl_Phrase T.M_Phrase_ended GE hr1 T.b_Phrase_ended .nil pass0))) (@pss_cons _ _ _ _ _ (@ps_set _ _ 2 _ _ _ _ nd rfl (Or.inl rfl) (pe_meth0 (pv 0) T.cl_Phrase T.M_Phrase_take_name GA hr4 T.b_Phrase_take_name .nil (pass2 fun _ z => z)) (by rfl) (by first | exact .inl rfl | exact .inr rfl | assumption)) (@pss_one _ _ _ (@ps_expr _ _ _ _ (pe_bm PySem.F.plainAttrs_list PySem.F.slot_list_append PySem.F.type_list_append mt_append (pv 1) (@pa_cons _ _ _ _ _ (@pe_tup _ _ _ _ _ (@pa_cons _ _ _ _ _ (pv 2) (@pa_cons _ _ _ _ _ (pe_meth0 (pv 0) T.cl_Phrase T.M_Phrase_take_kind GQ hr4 T.b_Phrase_take_kind .nil (pass2 fun _ z => z)) pa_nil (by rfl)) (by rfl))) pa_nil (by rfl))) (by rfl))))) (@pss_one _ _ _ (@ps_ret _ _ _ _ (pe_meth (pv 0) T.cl_Phrase T.M_Phrase_unlike_names GU hr3 T.b_Phrase_unlike_names .nil (pass2 fun _ z => z) (@pa_cons _ _ _ _ _ (pv 1) pa_nil (by rfl))))))), ?_⟩
    refine ⟨Nat.zero_le _, fun pf hpf => ?_⟩
    have npo : pf ≠ o := fun e => by rw [e, h.ins] at hpf; cases hpf
    have npw : pf ≠ wa := fun e => by rw [e, h.wds] at hpf; cases hpf
    dsimp only [gName]
    refine cut_while (fun σ' H' => ∃ (s2 : Option V) (ts : List Addr) (prs : List (Str × Str)), σ' = [some (.ref o), some (.ref pf), s2] ∧ ButO o H H' ∧ Ph AA.c_Phrase H' o dx wa ws x ws.length ∧ H' pf = some (.lst (ts.map V.ref)) ∧ PrT H' ts prs ∧ prs.length ≤ 900 ∧ pPr isKd ws (ws.length + 1) i = some prs) (fun R hRR => ?_) ?_
    · refine ⟨fun m σ' H' => ∃ (j f : Nat) (s2 : Option V) (ts : List Addr) (prs : List (Str × Str)), m = ws.length - j ∧ ws.length - j < f ∧ σ' = [some (.ref o), some (.ref pf), s2] ∧ ButO o H H' ∧ Ph AA.c_Phrase H' o dx wa ws x j ∧ H' pf = some (.lst (ts.map V.ref)) ∧ PrT H' ts prs ∧ prs.length ≤ j ∧
          pPr isKd ws (ws.length + 1) i = (pPr isKd ws f j).map (prs ++ ·), ⟨_, i, ws.length + 1, none, [], [], rfl, by omega, rfl, (same_upd hpf).but, h.same (same_upd hpf), upd_same, ⟨rfl, fun i t p h => by simp at h⟩, Nat.zero_le _, ?_⟩, ?_⟩
      · cases pPr isKd ws (ws.length + 1) i with
        | none => rfl
        | some q => rfl
      · rintro m σ' H1 ⟨j, f, s2, ts, prs, rfl, hf, rfl, hb, h1, hp1, hP, hvl, eM⟩
        have hj := h1.le
        have h900 := h1.few
        obtain ⟨f, rfl⟩ : ∃ g, f = g + 1 := ⟨f - 1, by omega⟩
        refine ⟨_, rfl, o, dx, _, rfl, h1.ins, rfl, o, dx, wa, ws, x, j, rfl, h1, _, rfl, ?_⟩
        by_cases he : j = ws.length
        · rw [decide_eq_true he]
          refine iteF ?_
          refine hRR _ _ ⟨s2, ts, prs, rfl, hb, by rw [← he]; exact h1, hp1, hP, by omega, ?_⟩
          rw [eM]
          unfold pPr
          rw [if_pos he]
          simp
        · rw [decide_eq_false he]
          refine iteT ?_
          have hun : pPr isKd ws (f + 1) j = (match pWd isName ws j with
            | none => none
            | some z => match pWd isKd ws (j + 1) with
              | none => none
              | some k => (pPr isKd ws f (j + 2)).map ((z, k) :: ·)) := by
            rw [pPr, if_neg he]
          refine ⟨_, fun _ _ h => h, ?_⟩
          refine ⟨_, rfl, o, dx, _, rfl, h1.ins, rfl, o, dx, wa, ws, x, j, rfl, h1, fun z H2 hz hb2 h2 => ?_, fun hn => ?_⟩
          · dsimp only [gName]
            have hp2 := hb2 _ _ hp1 npo
            refine ⟨_, rfl, .inl ⟨rfl, _, SqL.of hp2⟩, _, rfl, _, rfl, o, dx, _, rfl, h2.ins, rfl, o, dx, wa, ws, x, j + 1, rfl, h2, fun kk H3 hk hb3 h3 => ⟨(by show 2 ≤ sizeLine; decide), fun t ht => ?_⟩, fun hn => ?_⟩
            · have st := same_upd (o := .tup [V.str z, V.str kk]) ht
              have hp3 := hb3 _ _ hp2 npo
              have htl := hP.1
              have hjl := pWd_lt hk
              refine ⟨pf, _, _, rfl, rfl, st _ _ hp3, (by rw [List.length_map, htl]; exact small1000 (by omega)), ?_⟩
              have tS : TupS H1 H3 := fun b xs e => (hb3.tups h2.ins) _ _ ((hb2.tups h1.ins) _ _ e)
              have tU : TupS (upd H3 t (.tup [V.str z, V.str kk])) (upd (upd H3 t (.tup [V.str z, V.str kk])) pf (.lst (ts.map V.ref ++ [V.ref t]))) := fun b xs eb => by rw [upd_ne (fun y => by rw [y, st _ _ hp3] at eb; cases eb)]; exact eb
              refine ⟨ws.length - (j + 1 + 1), by omega, j + 1 + 1, f, some (.str z), ts ++ [t], prs ++ [(z, kk)], rfl, by omega, rfl, fun b u eb nb => ?_, ⟨?_, ?_, h3.ok, h3.le, h3.few⟩, by rw [upd_same, List.map_append]; rfl, ⟨by simp [htl], fun i' t' p' e1 e2 => ?_⟩, by simp; omega, ?_⟩
              · rw [upd_ne (fun y => by rw [y, hpf] at eb; cases eb)]
                exact st _ _ (hb3 _ _ (hb2 _ _ (hb _ _ eb nb) nb) nb)
              · rw [upd_ne (Ne.symm npo)]; exact st _ _ h3.ins
              · rw [upd_ne (Ne.symm npw)]; exact st _ _ h3.wds
              · by_cases hi' : i' < ts.length
                · rw [List.getElem?_append_left hi'] at e1
                  rw [List.getElem?_append_left (by omega)] at e2
                  exact tU _ _ (st _ _ (tS _ _ (hP.2 i' t' p' e1 e2)))
                · have hil := (List.getElem?_eq_some_iff.mp e1).1
                  rw [List.length_append, List.length_singleton] at hil
                  have ei : i' = ts.length := by omega
                  subst ei
                  rw [List.getElem?_append_right (Nat.le_refl _), Nat.sub_self] at e1
                  rw [htl, List.getElem?_append_right (Nat.le_refl _), Nat.sub_self] at e2
                  have q1 : t = t' := by simpa using e1
                  have q2 : (z, kk) = p' := by simpa using e2
                  subst q1 q2
                  exact tU _ _ upd_same
              · rw [eM, hun, hz]
                dsimp only
                rw [hk]
                dsimp only
                rw [Option.map_map]
                congr 1
                funext q
                simp
            · refine (kx fun prs' hp' => ?_).but (hb.trans hb2)
              rw [eM, hun, hz] at hp'
              dsimp only at hp'
              rw [hn] at hp'
              cases hp'
          · refine (kx fun prs' hp' => ?_).but hb
            rw [eM, hun, hn] at hp'
            cases hp'
    · rintro σ' H1 ⟨s2, ts, prs, rfl, hb, h1, hp1, hP, hl9, eP⟩
      refine ⟨_, rfl, o, dx, _, rfl, h1.ins, rfl, _, rfl, o, dx, wa, pf, ws, x, ws.length, ts, prs, rfl, h1, hp1, hP, hl9, fun hU q H' s1 hq hq' => ?_, fun hU => ?_⟩
      · exact kq prs q ts H' eP hU (hb.trans s1.but) (h1.same s1) hq' (hP.kept fun b xs e => s1 _ _ e)
      · exact (kx fun prs' hp' => by rw [eP] at hp'; cases hp'; exact hU).but hb
end
section
variable {P : Program} {w : World} {K : PySem.W.Frag} {mg : Str → Option Value} {base : Heap} {AA : Adr} {DD : Fds}
/-! the head of a row -/
inductive Hd where
  | end_ (z : Str)
  | ex (z : Str) (e : Ex)
  | kd (n : Str) (fs : List (Str × Str))
  | st (n : Str) (e : Ex)
  | df (n k : Str) (ps : List (Str × Str))
noncomputable def Hd.word : Hd → Str
  | .end_ z => z
  | .ex z _ => z
  | .kd _ _ => "kind"
  | .st _ _ => "set"
  | .df _ _ _ => "def"
inductive HdAt (H : Hp) (x : V) : Addr → Hd → Prop where
  | end_ {t : Addr} {z : Str} : H t = some (.tup [.str z, x]) → HdAt H x t (.end_ z)
  | ex {t : Addr} {z : Str} {u : V} {e : Ex} : H t = some (.tup [.str z, x, u]) → ExAt H u e → HdAt H x t (.ex z e)
  | kd {t p : Addr} {n : Str} {ts : List Addr} {fs : List (Str × Str)} : H t = some (.tup [.str "kind", x, .str n, .ref p]) → H p = some (.tup (ts.map V.ref)) → PrT H ts fs → HdAt H x t (.kd n fs)
  | st {t : Addr} {n : Str} {u : V} {e : Ex} : H t = some (.tup [.str "set", x, .str n, u]) → ExAt H u e → HdAt H x t (.st n e)
  | df {t p : Addr} {n k : Str} {ts : List Addr} {ps : List (Str × Str)} : H t = some (.tup [.str "def", x, .str n, .str k, .ref p]) → H p = some (.tup (ts.map V.ref)) → PrT H ts ps → HdAt H x t (.df n k ps)
noncomputable def unlO (o : Option (List (Str × Str))) : Option (List (Str × Str)) := match o with
  | none => none
  | some prs => if Unl prs then some prs else none
theorem unlO_some {o : Option (List (Str × Str))} {prs : List (Str × Str)} (h : o = some prs) (hU : Unl prs) : unlO o = some prs := by
  subst h
  exact if_pos hU
theorem unlO_of {o : Option (List (Str × Str))} (h : ∀ prs, o = some prs → ¬ Unl prs) : unlO o = none := by
  cases o with
  | none => rfl
  | some prs => exact if_neg (h prs rfl)
noncomputable def pHd (ws : List Str) (z : Str) (i : Nat) : Option (Hd × Nat) :=
  if z ∈ (["else", "end"] : List Str) then some (.end_ z, i)
  else if z ∈ (["tell", "give", "if", "while"] : List Str) then (pE ws 6 i).map fun q => (.ex z q.1, q.2)
  else if z ∈ (["kind", "def", "set"] : List Str) then (match pWd isName ws i with
    | none => none
    | some n => if z = "kind" then (unlO (pPr isPk ws (ws.length + 1) (i + 1))).map fun prs => (.kd n prs, ws.length)
      else if z = "set" then (pE ws 6 (i + 1)).map fun q => (.st n q.1, q.2)
      else match pWd isKd ws (i + 1) with
        | none => none
        | some k => (unlO (pPr isKd ws (ws.length + 1) (i + 1 + 1))).map fun prs => (.df n k prs, ws.length))
  else none
noncomputable def spHd (C X : Addr) : Sp := fun vs H Q E => ∃ (o dx wa : Addr) (ws : List Str) (x : V) (i : Nat) (z : Str), vs = [.ref o, .str z] ∧ Ph C H o dx wa ws x i ∧
  (∀ h j t H', pHd ws z i = some (h, j) → ButO o H H' → Ph C H' o dx wa ws x j → HdAt H' x t h → Q (.ref t) H') ∧ (pHd ws z i = none → ErrF E X x o H)
noncomputable abbrev N_read_head : List Str := ["phrase", "word", "at", "name", "kind"]
theorem sc_read_head : FnScope N_read_head ["phrase", "word"] (defScope st_read_head) := ⟨rfl, rfl, rfl, by decide +kernel, rfl, by decide +kernel, by decide +kernel⟩
theorem ok_head (T : All P w K mg AA DD) : FnOk P w K mg base (CX2 (fun _ => True) P w) 23 AA.read_head DD.read_head ["phrase", "word"] (spHd AA.c_Phrase AA.x_NoForm) := by
  have GX := ok_expr (base := base) T 6
  have GA := ok_takename (base := base) T
  have GQ := ok_takekd (base := base) T
  have GF := ok_take_fields (base := base) T
  have GV := ok_take_params (base := base) T
  have GI := ok_xinit (base := base) T
  obtain ⟨tD, hDEEPEST_EXPR⟩ := T.v_DEEPEST_EXPR
  refine T.F_read_head.ok2 sc_read_head (fun vs H Q E h => ?_) (fun cdv A outer s H vs Q E hr h => ?_)
  · obtain ⟨o, dx, wa, ws, x, i, z, rfl, _⟩ := h
    rfl
  · obtain ⟨o, dx, wa, ws, x, i, z, rfl, h, kq, kx⟩ := h
    have nd := sc_read_head.nd
    have hrE : Room 22 _ := hr
    have hr2 : Room 2 _ := hr.mono (by decide)
    have hr4 : Room 4 _ := hr.mono (by decide)
    have hr5 : Room 5 _ := hr.mono (by decide)
    refine ⟨_, (@pss_cons _ _ _ _ _ (@ps_set _ _ 2 _ _ _ _ nd rfl (Or.inl rfl) (pe_fld (pv 0) rfl) (by rfl) (by first | exact .inl rfl | exact .inr rfl | assumption)) (@pss_cons _ _ _ _ _ (@ps_if _ _ _ _ _ _ _ _ (@pt_cmpR _ _ _ _ _ _ _ _ (op_in_seqK (K := K) rfl) (pv 1) (@pe_tup _ _ _ _ _ (@pa_cons _ _ _ _ _ pe_str (@pa_cons _ _ _ _ _ pe_str pa_nil (by rfl)) (by rfl))) rfl) (@pss_one _ _ _ (@ps_ret _ _ _ _ (@pe_tup _ _ _ _ _ (@pa_cons _ _ _ _ _ (pv 1) (@pa_cons _ _ _ _ _ (pv 2) pa_nil (by rfl)) (by rfl))))) pss_nil) (@pss_cons _ _ _ _ _ (@ps_if _ _ _ _ _ _ _ _ (@pt_cmpR _ _ _ _ _ _ _ _ (op_in_seqK (K := K) rfl) (pv 1) (@pe_tup _ _ _ _ _ (@pa_cons _ _ _ _ _ pe_str (@pa_cons _ _ _ _ _ pe_str (@pa_cons _ _ _ _ _ pe_str (@pa_cons _ _ _ _ _ pe_str pa_nil (by rfl)) (by rfl)) (by rfl)) (by rfl))) rfl) (@pss_one _ _ _ (@ps_ret _ _ _ _ (@pe_tup _ _ _ _ _ (@pa_cons _ _ _ _ _ (pv 1) (@pa_cons _ _ _ _ _ (pv 2) (@pa_cons _ _ _ _ _ (pe_meth (pv 0) T.cl_Phrase T.M_Phrase_take_expr GX hrE T.b_Phrase_take_expr .nil (pass2 fun _ z => z) (@pa_cons _ _ _ _ _ (pe_glob (v := .int 6) rfl hDEEPEST_EXPR ⟨_, rfl⟩) pa_nil (by rfl))) pa_nil (by rfl)) (by rfl)) (by rfl))))) pss_nil) (@pss_cons _ _ _ _ _ (@ps_if _ _ _ _ _ _ _ _ (@pt_cmpR _ _ _ _ _ _ _ _ (op_notIn_seqK (K := K) rfl) (pv 1) (@pe_tup _ _ _ _ _ (@pa_cons _ _ _ _ _ pe_str (@pa_cons _ _ _ _ _ pe_str (@pa_cons _ _ _ _ _ pe_str pa_nil (by rfl)) (by rfl)) (by rfl))) rfl) (@pss_one _ _ _ (ps_raiseI body_cx (raise2 trivial) rfl rfl T.m_NoForm T.M_NoForm PySem.F.excBase_ValueError GI hr2 T.b_NoForm_init (@pa_cons _ _ _ _ _ (pv 2) (@pa_cons _ _ _ _ _ pe_str pa_nil (by rfl)) (by rfl)))) pss_nil) (@pss_cons _ _ _ _ _ (@ps_set _ _ 3 _ _ _ _ nd rfl (Or.inl rfl) (pe_meth0 (pv 0) T.cl_Phrase T.M_Phrase_take_name GA hr4 T.b_Phrase_take_name .nil (pass2 fun _ z => z)) (by rfl) (by first | exact .inl rfl | exact .inr rfl | assumption)) (@pss_cons _ _ _ _ _ (@ps_if _ _ _ _ _ _ _ _ (@pt_cmpR _ _ _ _ _ _ _ _ op_eq (pv 1) pe_str (nomark _)) (@pss_one _ _ _ (@ps_ret _ _ _ _ (@pe_tup _ _ _ _ _ (@pa_cons _ _ _ _ _ (pv 1) (@pa_cons _ _ _ _ _ (pv 2) (@pa_cons _ _ _ _ _ (pv 3) (@pa_cons _ _ _ _ _ (pe_meth0 (pv 0) T.cl_Phrase T.M_Phrase_take_fields GF hr5 T.b_Phrase_take_fields .nil (pass2 fun _ z => z)) pa_nil (by rfl)) (by rfl)) (by rfl)) (by rfl))))) pss_nil) (@pss_cons _ _ _ _ _ (@ps_if _ _ _ _ _ _ _ _ (@pt_cmpR _ _ _ _ _ _ _ _ op_eq (pv 1) pe_str (nomark _)) (@pss_one _ _ _ (@ps_ret _ _ _ _ (@pe_tup _ _ _ _ _ (@pa_cons _ _ _ _ _ (pv 1) (@pa_cons _ _ _ _ _ (pv 2) (@pa_cons _ _ _ _ _ (pv 3) (@pa_cons _ _ _ _ _ (pe_meth (pv 0) T.cl_Phrase T.M_Phrase_take_expr GX hrE T.b_Phrase_take_expr .nil (pass2 fun _ z => z) (@pa_cons _ _ _ _ _ (pe_glob (v := .int 6) rfl hDEEPEST_EXPR ⟨_, rfl⟩) pa_nil (by rfl))) pa_nil (by rfl)) (by rfl)) (by rfl)) (by rfl))))) pss_nil) (@pss_cons _ _ _ _ _ (@ps_set _ _ 4 _ _ _ _ nd rfl (Or.inl rfl) (pe_meth0 (pv 0) T.cl_Phrase T.M_Phrase_take_kind GQ hr4 T.b_Phrase_take_kind .nil (pass2 fun _ z => z)) (by rfl) (by first | exact .inl rfl | exact .inr rfl | assumption)) (@pss_one _ _ _ (@ps_ret _ _ _ _ (@pe_tup _ _ _ _ _ (@pa_cons _ _ _ _ _ (pv 1) (@pa_cons _ _ _ _ _ (pv 2) (@pa_cons _ _ _ _ _ (pv 3) (@pa_cons _ _ _ _ _ (pv 4) (@pa_cons _ _ _ _ _ (pe_meth0 (pv 0) T.cl_Phrase T.M_Phrase_take_params GV hr5 T.b_Phrase_take_params .nil (pass2 fun _ z => z)) pa_nil (by rfl)) (by rfl)) (by rfl)) (by rfl)) (by rfl))))))))))))), ?_⟩
    refine ⟨_, rfl, o, AA.c_Phrase, dx, _, _, rfl, h.ins, T.cl_Phrase, T.na_Phrase_at, rfl, ?_⟩
    dsimp only [gName]
    unfold pHd at kq kx
    refine ⟨_, rfl, (by show 2 ≤ sizeLine; decide), fun pt hpt => ⟨pt, (["else", "end"] : List Str).map V.str, rfl, .inr (SqT.of upd_same), rfl, rfl, _, rfl, ?_⟩⟩
    have s1 := same_upd (o := .tup [.str "else", .str "end"]) hpt
    have h1 := h.same s1
    have b1 := s1.but (o := o)
    generalize upd H pt (.tup [.str "else", .str "end"]) = H1 at s1 h1 b1 ⊢
    rw [show (if false = true then !inV (V.str z) ((["else", "end"] : List Str).map V.str) else inV (V.str z) ((["else", "end"] : List Str).map V.str)) = decide (z ∈ (["else", "end"] : List Str)) from inV_strs _ _]
    by_cases hy : z ∈ (["else", "end"] : List Str)
    · rw [if_pos hy] at kq
      rw [decide_eq_true hy]
      refine iteT ?_
      refine ⟨_, rfl, _, rfl, (by show 2 ≤ sizeLine; decide), fun pr hpr => ?_⟩
      have s4 := same_upd (o := .tup [.str z, x]) hpr
      exact kq _ _ _ _ rfl (b1.trans s4.but) (h1.same s4) (.end_ upd_same)
    rw [if_neg hy] at kq kx
    rw [decide_eq_false hy]
    refine iteF ?_
    refine ⟨_, rfl, (by show 4 ≤ sizeLine; decide), fun pt2 hpt2 => ⟨pt2, (["tell", "give", "if", "while"] : List Str).map V.str, rfl, .inr (SqT.of upd_same), rfl, rfl, _, rfl, ?_⟩⟩
    have s2 := same_upd (o := .tup [.str "tell", .str "give", .str "if", .str "while"]) hpt2
    have h2 := h1.same s2
    have b2 := b1.trans s2.but
    generalize upd H1 pt2 (.tup [.str "tell", .str "give", .str "if", .str "while"]) = H2 at s2 h2 b2 ⊢
    rw [show (if false = true then !inV (V.str z) ((["tell", "give", "if", "while"] : List Str).map V.str) else inV (V.str z) ((["tell", "give", "if", "while"] : List Str).map V.str)) = decide (z ∈ (["tell", "give", "if", "while"] : List Str)) from inV_strs _ _]
    by_cases hy2 : z ∈ (["tell", "give", "if", "while"] : List Str)
    · rw [if_pos hy2] at kq kx
      rw [decide_eq_true hy2]
      refine iteT ?_
      refine ⟨_, rfl, _, rfl, _, rfl, o, dx, _, rfl, h2.ins, rfl, o, dx, wa, ws, x, i, rfl, h2, fun e j v H5 he hb5 h5 hv => ⟨(by show 3 ≤ sizeLine; decide), fun pr hpr => ?_⟩, fun hn => (kx (by rw [hn]; rfl)).but b2⟩
      have s6 := same_upd (o := .tup [.str z, x, v]) hpr
      exact kq _ _ _ _ (by rw [he]; rfl) ((b2.trans hb5).trans s6.but) (h5.same s6) (.ex upd_same (hv.kept s6.tups))
    rw [if_neg hy2] at kq kx
    rw [decide_eq_false hy2]
    refine iteF ?_
    refine ⟨_, rfl, (by show 3 ≤ sizeLine; decide), fun pt3 hpt3 => ⟨pt3, (["kind", "def", "set"] : List Str).map V.str, rfl, .inr (SqT.of upd_same), rfl, rfl, _, rfl, ?_⟩⟩
    have s3 := same_upd (o := .tup [.str "kind", .str "def", .str "set"]) hpt3
    have h3 := h2.same s3
    have b3 := b2.trans s3.but
    generalize upd H2 pt3 (.tup [.str "kind", .str "def", .str "set"]) = H3 at s3 h3 b3 ⊢
    rw [show (if true = true then !inV (V.str z) ((["kind", "def", "set"] : List Str).map V.str) else inV (V.str z) ((["kind", "def", "set"] : List Str).map V.str)) = !decide (z ∈ (["kind", "def", "set"] : List Str)) from by rw [if_pos rfl, inV_strs]]
    by_cases hy3 : z ∈ (["kind", "def", "set"] : List Str)
    · rw [if_pos hy3] at kq kx
      rw [decide_eq_true hy3]
      refine iteF ?_
      refine ⟨_, rfl, o, dx, _, rfl, h3.ins, rfl, o, dx, wa, ws, x, i, rfl, h3, fun n H4 hn b4 h4 => ?_, fun hn => (kx (by rw [hn])).but b3⟩
      rw [hn] at kq kx
      dsimp only at kq kx
      dsimp only [gName]
      have b34 := b3.trans b4
      refine ⟨_, rfl, rfl, _, rfl, ?_⟩
      rw [dec_str]
      by_cases hk : z = "kind"
      · rw [if_pos hk] at kq kx
        rw [decide_eq_true hk]
        refine iteT ?_
        refine ⟨_, rfl, _, rfl, _, rfl, _, rfl, o, dx, _, rfl, h4.ins, rfl, o, dx, wa, ws, x, i + 1, rfl, h4, fun prs p ts H5 hp hU b5 h5 hpt hPT => ⟨(by show 4 ≤ sizeLine; decide), fun pr hpr => ?_⟩, fun hno => (kx (by rw [unlO_of hno]; rfl)).but b34⟩
        have s6 := same_upd (o := .tup [.str z, x, .str n, .ref p]) hpr
        exact kq _ _ _ _ (by rw [unlO_some hp hU]; rfl) ((b34.trans b5).trans s6.but) (h5.same s6) (.kd (by rw [← hk]; exact upd_same) (s6.tups _ _ hpt) (hPT.kept s6.tups))
      rw [if_neg hk] at kq kx
      rw [decide_eq_false hk]
      refine iteF ?_
      refine ⟨_, rfl, rfl, _, rfl, ?_⟩
      rw [dec_str]
      by_cases hs : z = "set"
      · rw [if_pos hs] at kq kx
        rw [decide_eq_true hs]
        refine iteT ?_
        refine ⟨_, rfl, _, rfl, _, rfl, _, rfl, o, dx, _, rfl, h4.ins, rfl, o, dx, wa, ws, x, i + 1, rfl, h4, fun e j v H5 he b5 h5 hv => ⟨(by show 4 ≤ sizeLine; decide), fun pr hpr => ?_⟩, fun hno => (kx (by rw [hno]; rfl)).but b34⟩
        have s6 := same_upd (o := .tup [.str z, x, .str n, v]) hpr
        exact kq _ _ _ _ (by rw [he]; rfl) ((b34.trans b5).trans s6.but) (h5.same s6) (.st (by rw [← hs]; exact upd_same) (hv.kept s6.tups))
      rw [if_neg hs] at kq kx
      rw [decide_eq_false hs]
      refine iteF ?_
      have hz : z = "def" := by
        rcases List.mem_cons.mp hy3 with y | y
        · exact absurd y hk
        · rcases List.mem_cons.mp y with y | y
          · exact y
          · exact absurd (by simpa using y) hs
      refine ⟨_, rfl, o, dx, _, rfl, h4.ins, rfl, o, dx, wa, ws, x, i + 1, rfl, h4, fun kk H5 hkk b5 h5 => ?_, fun hno => (kx (by rw [hno])).but b34⟩
      rw [hkk] at kq kx
      dsimp only at kq kx
      dsimp only [gName]
      have b35 := b34.trans b5
      refine ⟨_, rfl, _, rfl, _, rfl, _, rfl, _, rfl, o, dx, _, rfl, h5.ins, rfl, o, dx, wa, ws, x, i + 1 + 1, rfl, h5, fun prs p ts H6 hp hU b6 h6 hpt hPT => ⟨(by show 5 ≤ sizeLine; decide), fun pr hpr => ?_⟩, fun hno => (kx (by rw [unlO_of hno]; rfl)).but b35⟩
      have s6 := same_upd (o := .tup [.str z, x, .str n, .str kk, .ref p]) hpr
      exact kq _ _ _ _ (by rw [unlO_some hp hU]; rfl) ((b35.trans b6).trans s6.but) (h6.same s6) (.df (by rw [← hz]; exact upd_same) (s6.tups _ _ hpt) (hPT.kept s6.tups))
    · rw [if_neg hy3] at kx
      rw [decide_eq_false hy3]
      refine iteT ?_
      have kx := kx rfl
      exact ⟨_, rfl, (by show 2 ≤ sizeLine; decide), fun e tt he _ _ => raise_NoForm (kx.word b3) e tt he⟩
/-! a row -/
noncomputable def pRow (ws : List Str) : Option Hd := match ws[0]? with
  | none => none
  | some z => match pHd ws z 1 with
    | none => none
    | some (h, j) => if j = ws.length then some h else none
noncomputable def spRow (X : Addr) : Sp := fun vs H Q E => ∃ (wa : Addr) (ws : List Str) (x : V), vs = [.ref wa, x] ∧ H wa = some (.lst (ws.map V.str)) ∧ WsOk ws ∧ ws.length ≤ 900 ∧ (ws = [] → Q .non H) ∧ (ws ≠ [] → (∀ h t H', pRow ws = some h → Same H H' → HdAt H' x t h → Q (.ref t) H') ∧ (pRow ws = none → ErrW E X x "form" H))
noncomputable abbrev N_read_row : List Str := ["words", "at", "phrase", "head"]
theorem sc_read_row : FnScope N_read_row ["words", "at"] (defScope st_read_row) := ⟨rfl, rfl, rfl, by decide +kernel, rfl, by decide +kernel, by decide +kernel⟩
theorem ok_row (T : All P w K mg AA DD) : FnOk P w K mg base (CX2 (fun _ => True) P w) 24 AA.read_row DD.read_row ["words", "at"] (spRow AA.x_NoForm) := by
  have GP := ok_pinit (base := base) T
  have GH := ok_head (base := base) T
  have GT := ok_take (base := base) T
  have GE := ok_ended (base := base) T
  have GI := ok_xinit (base := base) T
  refine T.F_read_row.ok2 sc_read_row (fun vs H Q E h => ?_) (fun cdv A outer s H vs Q E hr h => ?_)
  · obtain ⟨wa, ws, x, rfl, _⟩ := h
    rfl
  · obtain ⟨wa, ws, x, rfl, hw, hok, h9, k0, k1⟩ := h
    have nd := sc_read_row.nd
    have hrH : Room 23 _ := hr
    have hr1 : Room 1 _ := hr.mono (by decide)
    have hr2 : Room 2 _ := hr.mono (by decide)
    have hr3 : Room 3 _ := hr.mono (by decide)
    refine ⟨_, (@pss_cons _ _ _ _ _ (@ps_if _ _ _ _ _ _ _ _ (@pt_cmpR _ _ _ _ _ _ _ _ op_eq (pe_callB call_len_seq rfl T.n_len bt_len (@pa_cons _ _ _ _ _ (pv 0) pa_nil (by rfl))) pe_int (nomark _)) (@pss_one _ _ _ (@ps_ret _ _ _ _ pe_non)) pss_nil) (@pss_cons _ _ _ _ _ (@ps_set _ _ 2 _ _ _ _ nd rfl (Or.inl rfl) (pe_make T.M_Phrase GP hr2 rfl T.m_Phrase T.b_Phrase_init .nil pass0 (@pa_cons _ _ _ _ _ (pv 0) (@pa_cons _ _ _ _ _ (pv 1) pa_nil (by rfl)) (by rfl))) (by rfl) (by first | exact .inl rfl | exact .inr rfl | assumption)) (@pss_cons _ _ _ _ _ (@ps_set _ _ 3 _ _ _ _ nd rfl (Or.inl rfl) (pe_call GH hrH rfl T.m_read_head T.k_read_head T.b_read_head .nil (pass2 fun _ z => z) (@pa_cons _ _ _ _ _ (pv 2) (@pa_cons _ _ _ _ _ (pe_meth0 (pv 2) T.cl_Phrase T.M_Phrase_take GT hr3 T.b_Phrase_take .nil (pass2 fun _ z => z)) pa_nil (by rfl)) (by rfl))) (by rfl) (by first | exact .inl rfl | exact .inr rfl | assumption)) (@pss_cons _ _ _ _ _ (@ps_if _ _ _ _ _ _ _ _ (pt_not (pt_val (pe_meth0 (pv 2) T.cl_Phrase T.M_Phrase_ended GE hr1 T.b_Phrase_ended .nil pass0))) (@pss_one _ _ _ (ps_raiseI body_cx (raise2 trivial) rfl rfl T.m_NoForm T.M_NoForm PySem.F.excBase_ValueError GI hr2 T.b_NoForm_init (@pa_cons _ _ _ _ _ (pv 1) (@pa_cons _ _ _ _ _ pe_str pa_nil (by rfl)) (by rfl)))) pss_nil) (@pss_one _ _ _ (@ps_ret _ _ _ _ (pv 3))))))), ?_⟩
    refine ⟨_, rfl, wa, _, rfl, .inl (SqL.of hw), rfl, _, rfl, ?_⟩
    rw [List.length_map]
    by_cases h0 : ws = []
    · subst h0
      refine iteT ?_
      exact k0 rfl
    rw [decide_eq_false (fun e => h0 (List.eq_nil_of_length_eq_zero (by injection e with e; omega)))]
    refine iteF ?_
    obtain ⟨kq, kx⟩ := k1 h0
    refine ⟨_, rfl, _, rfl, fun o dx ho hdx hne => ?_⟩
    refine ⟨o, dx, wa, x, rfl, upd_same, rfl, ?_⟩
    dsimp only [gName]
    rw [upd_upd, upd_upd, upd_upd]
    have nwo : wa ≠ o := ne_of_none hw ho
    have nwd : wa ≠ dx := ne_of_none hw hdx
    have ho2 : upd H dx (.own o) o = none := by rw [upd_ne (Ne.symm hne)]; exact ho
    have s1 := (same_upd (o := .own o) hdx).trans (same_upd (o := .ins AA.c_Phrase dx (phF wa x 0)) ho2)
    have hP : Ph AA.c_Phrase (upd (upd H dx (.own o)) o (.ins AA.c_Phrase dx (phF wa x 0))) o dx wa ws x 0 := ⟨upd_same, s1 _ _ hw, hok, Nat.zero_le _, h9⟩
    generalize upd (upd H dx (.own o)) o (.ins AA.c_Phrase dx (phF wa x 0)) = H1 at s1 hP ⊢
    have sB : ∀ {H' : Hp}, ButO o H1 H' → Same H H' := fun b u a e => b _ _ (s1 _ _ e) (ne_of_none e ho)
    have hwl : 0 < ws.length := List.length_pos_iff.mpr h0
    refine ⟨_, rfl, _, rfl, o, dx, _, rfl, hP.ins, rfl, o, dx, wa, ws, x, 0, rfl, hP, fun z hz => ?_, fun hz => absurd hwl (by rw [List.getElem?_eq_none_iff] at hz; omega)⟩
    have hP2 := hP.step (j := 0 + 1) hwl
    have b12 := ButO.upd o H1 (.ins AA.c_Phrase dx (phF wa x (0 + 1)))
    generalize upd H1 o (.ins AA.c_Phrase dx (phF wa x (0 + 1))) = H2 at hP2 b12 ⊢
    have hR : pRow ws = (match pHd ws z 1 with
      | none => none
      | some (h, j) => if j = ws.length then some h else none) := by unfold pRow; rw [hz]
    refine ⟨o, dx, wa, ws, x, 1, z, rfl, hP2, fun h j t H3 hh b3 h3 hA => ?_, fun hn d H' b e => kx (by rw [hR, hn]) d H' (sB (b12.trans b)) e⟩
    dsimp only [gName]
    rw [hh] at hR
    dsimp only at hR
    refine ⟨_, rfl, o, dx, _, rfl, h3.ins, rfl, o, dx, wa, ws, x, j, rfl, h3, _, rfl, ?_⟩
    by_cases hj : j = ws.length
    · rw [if_pos hj] at hR
      rw [decide_eq_true hj]
      refine iteF ?_
      exact ⟨_, rfl, kq h t H3 hR (sB (b12.trans b3)) hA⟩
    · rw [if_neg hj] at hR
      rw [decide_eq_false hj]
      refine iteT ?_
      have ke := kx hR
      exact ⟨_, rfl, (by show 2 ≤ sizeLine; decide), fun e tt he _ _ => raise_NoForm (fun d H' s e => ke d H' ((sB (b12.trans b3)).trans s) e) e tt he⟩
end
section
variable {P : Program} {w : World} {K : PySem.W.Frag} {mg : Str → Option Value} {base : Heap} {AA : Adr} {DD : Fds}
/-! one row that tells: put into the tree, read -/
theorem cut_sq {a b : TS} {D : Ends} {σ : St} {H : Hp} (P : St → Hp → Prop) (h1 : ∀ R : St → Hp → Prop, (∀ σ' H', P σ' H' → R σ' H') → a { D with nx := R } σ H) (h2 : ∀ σ' H', P σ' H' → b D σ' H') : tSeq a b D σ H := h1 _ fun σ' H' h => h2 σ' H' h
noncomputable def spPut1 : Sp := fun vs H Q _ => ∃ (h pt pB : Addr) (xs : List V), vs = [.ref h, .ref pt, .ref pB] ∧ H h = some (.tup (.str "tell" :: xs)) ∧ xs.length ≤ 10 ∧ H pt = some (.lst []) ∧ H pB = some (.lst []) ∧ ∀ H1, Same H H1 → Q .non (upd H1 pt (.lst [.ref h]))
noncomputable abbrev N_put_in : List Str := ["head", "tree", "blocks", "word", "block", "body"]
theorem sc_put_in : FnScope N_put_in ["head", "tree", "blocks"] (defScope st_put_in) := ⟨rfl, rfl, rfl, by decide +kernel, rfl, by decide +kernel, by decide +kernel⟩
theorem ok_put1 (T : All P w K mg AA DD) : FnOk P w K mg base CX0 4 AA.put_in DD.put_in ["head", "tree", "blocks"] spPut1 := by
  have GG := ok_begun (base := base) T
  refine T.F_put_in.ok sc_put_in (fun vs H Q E h => ?_) (fun cdv A outer s H vs Q E hr h => ?_)
  · obtain ⟨h, pt, pB, xs, rfl, _⟩ := h
    rfl
  · obtain ⟨h, pt, pB, xs, rfl, hh, hxl, ht, hB, k⟩ := h
    have nd := sc_put_in.nd
    have hr3 : Room 3 _ := hr
    refine ⟨_, (@pss_cons _ _ _ _ _ (@ps_set _ _ 3 _ _ _ _ nd rfl (Or.inl rfl) (@pe_ix _ _ _ _ _ _ _ (ix_tupK (K := K) rfl) (pv 0) pe_int (fun _ _ => rfl)) (by rfl) (by first | exact .inl rfl | exact .inr rfl | assumption)) (@pss_one _ _ _ (@ps_if _ _ _ _ _ _ _ _ (@pt_cmpR _ _ _ _ _ _ _ _ op_eq (pv 3) pe_str (nomark _)) (@pss_one _ _ _ (@ps_expr _ _ _ _ (pe_bm0 PySem.F.plainAttrs_list PySem.F.slot_list_pop PySem.F.type_list_pop mt_pop (pv 2)) (by rfl))) (@pss_one _ _ _ (@ps_if _ _ _ _ _ _ _ _ (@pt_cmpR _ _ _ _ _ _ _ _ op_eq (pv 3) pe_str (nomark _)) (@pss_cons _ _ _ _ _ (@ps_set _ _ 4 _ _ _ _ nd rfl (Or.inl rfl) (@pe_ix _ _ _ _ _ _ _ (ix_listK (K := K) rfl) (pv 2) (pe_un un_neg pe_int) (fun _ _ => rfl)) (by rfl) (by first | exact .inl rfl | exact .inr rfl | assumption)) (@pss_cons _ _ _ _ _ (ps_fld (pv 4) (pv 3) rfl) (@pss_one _ _ _ (ps_fld (pv 4) (pe_fld (pv 4) rfl) rfl)))) (@pss_cons _ _ _ _ _ (@ps_set _ _ 5 _ _ _ _ nd rfl (Or.inl rfl) (pe_ifExp (@pt_cmpR _ _ _ _ _ _ _ _ op_gt (pe_callB call_len_seq rfl T.n_len bt_len (@pa_cons _ _ _ _ _ (pv 2) pa_nil (by rfl))) pe_int (nomark _)) (pe_fld (@pe_ix _ _ _ _ _ _ _ (ix_listK (K := K) rfl) (pv 2) (pe_un un_neg pe_int) (fun _ _ => rfl)) rfl) (pv 1)) (by rfl) (by first | exact .inl rfl | exact .inr rfl | assumption)) (@pss_one _ _ _ (@ps_expr _ _ _ _ (pe_bm PySem.F.plainAttrs_list PySem.F.slot_list_append PySem.F.type_list_append mt_append (pv 5) (@pa_cons _ _ _ _ _ (pe_call GG hr3 rfl T.m_begun T.k_begun T.b_begun .nil pass0 (@pa_cons _ _ _ _ _ (pv 0) (@pa_cons _ _ _ _ _ (pv 2) pa_nil (by rfl)) (by rfl))) pa_nil (by rfl))) (by rfl))))))))), ?_⟩
    have at0 : atI (V.str "tell" :: xs) (0 : Int) = some (V.str "tell") := atI_nat (j := 0) rfl
    refine ⟨_, rfl, h, _, _, _, rfl, rfl, SqT.of hh, at0, ?_⟩
    dsimp only [gName]
    refine ⟨_, rfl, rfl, _, rfl, ?_⟩
    rw [dec_str, decide_eq_false (by decide +kernel)]
    refine iteF ?_
    refine ⟨_, rfl, rfl, _, rfl, ?_⟩
    rw [dec_str, decide_eq_false (by decide +kernel)]
    refine iteF ?_
    refine ⟨_, rfl, pB, _, rfl, .inl (SqL.of hB), _, _, rfl, rfl, _, rfl, ?_⟩
    refine iteF ⟨_, rfl, ?_⟩
    try dsimp only [gName]
    refine ⟨_, rfl, .inl ⟨rfl, _, SqL.of ht⟩, _, rfl, _, rfl, h, pB, "tell", xs, [], rfl, hh, hxl, hB, by simp, fun z => absurd z (by decide +kernel), fun _ z => absurd z (by decide +kernel), fun _ _ H1 s1 => ?_⟩
    exact ⟨pt, _, _, rfl, rfl, s1 _ _ ht, (by show 0 < sizeLine; decide), k _ s1⟩
theorem pe_fldK {X : Cx} {K : PySem.W.Frag} {e : Expr} {f : Str} {pos : Pos} {ta : TE} (hK : X.K = K) (he : PE X e ta) (hb : attributeBase e f X.env (eval e X.env) = eval e X.env) : PE X (.Attribute e f pos) (tFld K ta f) := by
  subst hK; exact pe_fld he hb
theorem ErrW.same' {E : XK} {C : Addr} {x : V} {wd : Str} {H H1 : Hp} (h : ErrW E C x wd H) (s : Same H H1) : ErrW E C x wd H1 := fun dx H' s' e => h dx H' (s.trans s') e
noncomputable def spPlain1 (X : Addr) : Sp := fun vs H Q E => ∃ (p l : Addr) (ws : List Str), vs = [.ref p] ∧ H p = some (.lst [.ref l]) ∧ H l = some (.lst ((("tell" : Str) :: ws).map V.str)) ∧ WsOk ("tell" :: ws) ∧ ws.length ≤ 800 ∧
  (∀ e pt t v H', pE ("tell" :: ws) 6 1 = some (e, ws.length + 1) → Same H H' → H' pt = some (.lst [.ref t]) → H' t = some (.tup [.str "tell", .int 0, v]) → ExAt H' v e → Q (.ref pt) H') ∧ ((∀ e, pE ("tell" :: ws) 6 1 ≠ some (e, ws.length + 1)) → ErrW E X (.int 0) "form" H)
theorem row_tell (ws : List Str) : pRow ("tell" :: ws) = (match pE ("tell" :: ws) 6 1 with | some (e, j) => if j = ws.length + 1 then some (.ex "tell" e) else none | none => none) := by
  unfold pRow pHd
  dsimp only [List.getElem?_cons_zero]
  rw [if_neg (by decide +kernel), if_pos (by decide +kernel)]
  cases pE ("tell" :: ws) 6 1 with
  | none => rfl
  | some q => obtain ⟨e, j⟩ := q; rfl
noncomputable abbrev N_read_plain : List Str := ["rows", "tree", "blocks", "at", "words", "head", "what"]
theorem sc_read_plain : FnScope N_read_plain ["rows"] (defScope st_read_plain) := ⟨rfl, rfl, rfl, by decide +kernel, rfl, by decide +kernel, by decide +kernel⟩
theorem ok_plain1 (T : All P w K mg AA DD) : FnOk P w K mg base (CX2 (fun _ => True) P w) 25 AA.read_plain DD.read_plain ["rows"] (spPlain1 AA.x_NoForm) := by
  have GW := ok_row (base := base) T
  have GZ := ok_fault (base := base) T
  have GU2 := ok_put1 (base := base) T
  have GI := ok_xinit (base := base) T
  refine T.F_read_plain.ok2 sc_read_plain (fun vs H Q E h => ?_) (fun cdv A outer s H vs Q E hr h => ?_)
  · obtain ⟨p, l, ws, rfl, _⟩ := h
    rfl
  · obtain ⟨p, l, ws, rfl, hp, hl, hok, h8, k1, k2⟩ := h
    have nd := sc_read_plain.nd
    have hrW : Room 24 _ := hr
    have hr2 : Room 2 _ := hr.mono (by decide)
    have hr4 : Room 4 _ := hr.mono (by decide)
    refine ⟨_, (@pss_cons _ _ _ _ _ (@ps_set _ _ 1 _ _ _ _ nd rfl (Or.inl rfl) (@pe_lst _ _ _ _ pa_nil) (by rfl) (by first | exact .inl rfl | exact .inr rfl | assumption)) (@pss_cons _ _ _ _ _ (@ps_set _ _ 2 _ _ _ _ nd rfl (Or.inl rfl) (@pe_lst _ _ _ _ pa_nil) (by rfl) (by first | exact .inl rfl | exact .inr rfl | assumption)) (@pss_cons _ _ _ _ _ (@ps_for _ _ _ _ _ _ _ _ PassesOwn.leaving rfl (pi_enum rfl T.n_enumerate (@pa_cons _ _ _ _ _ (pv 0) pa_nil (by rfl))) (pg_tup rfl (pgs_cons (pg_name (i := 3) nd rfl (Or.inl rfl)) (pgs_cons (pg_name (i := 4) nd rfl (Or.inl rfl)) pgs_nil))) (@pss_cons _ _ _ _ _ (@ps_set _ _ 5 _ _ _ _ nd rfl (Or.inl rfl) (pe_call GW hrW rfl T.m_read_row T.k_read_row T.b_read_row .nil (pass2 fun _ z => z) (@pa_cons _ _ _ _ _ (pv 4) (@pa_cons _ _ _ _ _ (pv 3) pa_nil (by rfl)) (by rfl))) (by rfl) (by first | exact .inl rfl | exact .inr rfl | assumption)) (@pss_one _ _ _ (@ps_if _ _ _ _ _ _ _ _ (pt_cmp (pc_notN (pv 5))) (@pss_cons _ _ _ _ _ (@ps_set _ _ 6 _ _ _ _ nd rfl (Or.inl rfl) (pe_call GZ hr2 rfl T.m_place_fault T.k_place_fault T.b_place_fault .nil pass0 (@pa_cons _ _ _ _ _ (@pe_ix _ _ _ _ _ _ _ (ix_tupK (K := K) rfl) (pv 5) pe_int (fun _ _ => rfl)) (@pa_cons _ _ _ _ _ (pe_comp (defScope st_read_plain) N_read_plain [] [] rfl (by exact ⟨rfl, rfl, by decide +kernel, rfl, by decide +kernel, by decide +kernel, by decide +kernel, rfl, by decide +kernel⟩) rfl rfl (pi_list (pv 2)) (fun _ _ _ _ => pif_nil) (fun _ _ _ _ => (pe_fldK (K := K) rfl (pv 0) rfl))) pa_nil (by rfl)) (by rfl))) (by rfl) (by first | exact .inl rfl | exact .inr rfl | assumption)) (@pss_cons _ _ _ _ _ (@ps_if _ _ _ _ _ _ _ _ (pt_cmp (pc_notN (pv 6))) (@pss_one _ _ _ (ps_raiseI body_cx (raise2 trivial) rfl rfl T.m_NoForm T.M_NoForm PySem.F.excBase_ValueError GI hr2 T.b_NoForm_init (@pa_cons _ _ _ _ _ (pv 3) (@pa_cons _ _ _ _ _ (pv 6) pa_nil (by rfl)) (by rfl)))) pss_nil) (@pss_one _ _ _ (@ps_expr _ _ _ _ (pe_call GU2 hr4 rfl T.m_put_in T.k_put_in T.b_put_in .nil pass0 (@pa_cons _ _ _ _ _ (pv 5) (@pa_cons _ _ _ _ _ (pv 1) (@pa_cons _ _ _ _ _ (pv 2) pa_nil (by rfl)) (by rfl)) (by rfl))) (by rfl))))) pss_nil))) (by intro _; rfl)) (@pss_cons _ _ _ _ _ (@ps_if _ _ _ _ _ _ _ _ (@pt_cmpR _ _ _ _ _ _ _ _ op_gt (pe_callB call_len_seq rfl T.n_len bt_len (@pa_cons _ _ _ _ _ (pv 2) pa_nil (by rfl))) pe_int (nomark _)) (@pss_one _ _ _ (ps_raiseI body_cx (raise2 trivial) rfl rfl T.m_NoForm T.M_NoForm PySem.F.excBase_ValueError GI hr2 T.b_NoForm_init (@pa_cons _ _ _ _ _ (pe_callB call_len_seq rfl T.n_len bt_len (@pa_cons _ _ _ _ _ (pv 0) pa_nil (by rfl))) (@pa_cons _ _ _ _ _ pe_str pa_nil (by rfl)) (by rfl)))) pss_nil) (@pss_one _ _ _ (@ps_ret _ _ _ _ (pv 1))))))), ?_⟩
    refine ⟨Nat.zero_le _, fun pt hpt => ?_⟩
    dsimp only [gName]
    refine ⟨Nat.zero_le _, fun pB hpB => ?_⟩
    dsimp only [gName]
    obtain ⟨hpB0, hne⟩ := new_of hpB
    have s0 : Same H (upd (upd H pt (.lst [])) pB (.lst [])) := (same_upd hpt).trans (same_upd hpB)
    have hT0 : upd (upd H pt (.lst [])) pB (.lst []) pt = some (.lst []) := by rw [upd_ne (Ne.symm hne)]; exact upd_same
    have hB0 : upd (upd H pt (.lst [])) pB (.lst []) pB = some (.lst []) := upd_same
    generalize upd (upd H pt (.lst [])) pB (.lst []) = H0 at s0 hT0 hB0 ⊢
    refine cut_for (fun σ' H' => Same H H' ∧ H' pB = some (.lst []) ∧ ∃ (e : Ex) (t : Addr) (v : V) (x3 x4 x5 x6 : Option V), pE ("tell" :: ws) 6 1 = some (e, ws.length + 1) ∧ H' pt = some (.lst [.ref t]) ∧ H' t = some (.tup [.str "tell", .int 0, v]) ∧ ExAt H' v e ∧ σ' = [some (.ref p), some (.ref pt), some (.ref pB), x3, x4, x5, x6]) (fun R hR => ?_) ?_
    · refine ⟨_, rfl, p, _, rfl, SqL.of (s0 _ _ hp), ?_⟩
      refine for_enum (K := K) (a := p) (xs := [.ref l]) (D := ⟨R, _, R, R⟩) (fun i σ' H' => Same H H' ∧ H' pB = some (.lst []) ∧ ∃ x3 x4 x5 x6 : Option V, σ' = [some (.ref p), some (.ref pt), some (.ref pB), x3, x4, x5, x6] ∧ ((i = 0 ∧ H' pt = some (.lst [])) ∨ (i = 1 ∧ ∃ (e : Ex) (t : Addr) (v : V), pE ("tell" :: ws) 6 1 = some (e, ws.length + 1) ∧ H' pt = some (.lst [.ref t]) ∧ H' t = some (.tup [.str "tell", .int 0, v]) ∧ ExAt H' v e)))
        ⟨s0, hB0, none, none, none, none, rfl, .inl ⟨rfl, hT0⟩⟩ (fun i σ' H' _ z => SqL.of (z.1 _ _ hp)) ?_ ?_
      · rintro i x σ' H1 t hx ⟨sm, hB, x3, x4, x5, x6, rfl, ⟨rfl, hT⟩ | ⟨rfl, _⟩⟩ ht
        rotate_left
        · simp at hx
        have ex : x = V.ref l := by simpa using hx.symm
        subst ex
        have st := same_upd (o := .tup [V.int ((0 : Nat) : Int), V.ref l]) ht
        have sm := sm.trans st
        have hB := st _ _ hB
        have hT := st _ _ hT
        refine ⟨t, _, rfl, SqT.of upd_same, rfl, _, _, rfl, _, _, rfl, rfl, ?_⟩
        try dsimp only [gName]
        generalize upd H1 t (.tup [V.int ((0 : Nat) : Int), V.ref l]) = H2 at sm hB hT ⊢
        refine ⟨_, rfl, _, rfl, l, "tell" :: ws, .int 0, rfl, sm _ _ hl, hok, by simp; omega, fun h0 => (by cases h0), fun h0 => ⟨fun h t1 H3 hpr s3 hH => ?_, fun hn => ?_⟩⟩
        · dsimp only [gName]
          rw [row_tell] at hpr
          obtain ⟨e, he, rfl⟩ : ∃ e, pE ("tell" :: ws) 6 1 = some (e, ws.length + 1) ∧ h = .ex "tell" e := by
            cases hq : pE ("tell" :: ws) 6 1 with
            | none => rw [hq] at hpr; cases hpr
            | some q =>
              obtain ⟨e, j⟩ := q
              rw [hq] at hpr
              dsimp only at hpr
              split at hpr
              · rename_i ej
                exact ⟨e, by rw [ej], (Option.some.inj hpr).symm⟩
              · cases hpr
          cases hH with
          | ex hht hE =>
            rename_i v
            refine ⟨_, rfl, _, rfl, iteT ?_⟩
            have hB := s3 _ _ hB
            have hT := s3 _ _ hT
            have sm := sm.trans s3
            refine ⟨_, rfl, t1, _, _, _, rfl, rfl, SqT.of hht, atI_nat (j := 0) rfl, _, rfl, pB, rfl, ⟨_, SqL.of hB⟩, ?_⟩
            refine comp_list (K := K) (a := pB) (xs := []) (fun j ys H' => H' = H3 ∧ ys = []) ⟨rfl, rfl⟩ (fun j ys H' _ z => by rw [z.1]; exact SqL.of hB) (fun j y ys H' hy => by simp at hy) ?_
            rintro ys H4 ⟨rfl, rfl⟩ pw hpw
            have s4 := same_upd (o := .lst []) hpw
            refine ⟨"tell", pw, [], rfl, upd_same, by simp, fun H5 s5 => ?_⟩
            rw [show pfP "tell" [] = V.non by decide +kernel]
            dsimp only [gName]
            refine ⟨_, rfl, _, rfl, iteF ?_⟩
            have s45 := s4.trans s5
            refine ⟨_, rfl, _, rfl, _, rfl, t1, pt, pB, _, rfl, s45 _ _ hht, by simp, s45 _ _ hT, s45 _ _ hB, fun H6 s6 => ?_⟩
            have s46 := s45.trans s6
            have ntp : t1 ≠ pt := by rintro rfl; rw [hT] at hht; cases hht
            have hEk : ExAt (upd H6 pt (.lst [.ref t1])) v e := hE.kept fun b xs hb => by
              rw [upd_ne (by rintro rfl; rw [hT] at hb; cases hb)]; exact s46 _ _ hb
            refine ⟨fun b u q => ?_, ?_, _, _, _, _, rfl, .inr ⟨rfl, e, t1, v, he, upd_same, ?_, hEk⟩⟩
            · rw [upd_ne (ne_of_none q hpt)]; exact s46 _ _ (sm _ _ q)
            · rw [upd_ne hne]; exact s46 _ _ hB
            · rw [upd_ne ntp]; exact s46 _ _ hht
        · refine (k2 fun e he => ?_).same' sm
          rw [row_tell, he] at hn
          simp at hn
      · rintro σ' H1 ⟨sm, hB, x3, x4, x5, x6, rfl, ⟨h0, _⟩ | ⟨_, e, t, v, he, h1, h2, h3⟩⟩
        · cases h0
        · exact hR _ _ ⟨sm, hB, e, t, v, x3, x4, x5, x6, he, h1, h2, h3, rfl⟩
    rintro σ' H1 ⟨sm, hB, e, t, v, x3, x4, x5, x6, he, h1, h2, h3, rfl⟩
    refine ⟨_, rfl, pB, _, rfl, .inl (SqL.of hB), _, _, rfl, rfl, _, rfl, ?_⟩
    refine iteF ?_
    exact ⟨_, rfl, k1 e pt t v _ he sm h1 h2 h3⟩
end
/-! numbers as words -/
open PySem.NumText PySem.W.KIN
theorem digs_back : ∀ (n : Nat) (cs : List Nat), cs.length = n → AllDigits cs → cs ≠ [] → cs.getD 0 0 ≠ 48 → (Nat.toDigits 10 (digitsVal cs)).map Char.toNat = cs ∧ 0 < digitsVal cs
  | 0, cs, hn, _, h0, _ => absurd (List.eq_nil_of_length_eq_zero hn) h0
  | n + 1, cs, hn, hd, h0, h48 => by
    obtain ⟨l, c, rfl⟩ : ∃ l c, cs = l ++ [c] := ⟨cs.dropLast, cs.getLast h0, (List.dropLast_concat_getLast _).symm⟩
    have hc := hd c (by simp)
    have hcd : (Nat.digitChar (c - 48)).toNat = c := by
      have := digit_back (c - 48) (by omega)
      have h2 : ∀ d : Nat, d < 10 → 48 ≤ (Nat.digitChar d).toNat := by decide
      have := h2 (c - 48) (by omega)
      omega
    have hv : digitsVal (l ++ [c]) = digitsVal l * 10 + (c - 48) := by unfold digitsVal; rw [List.foldl_append]; rfl
    by_cases hl : l = []
    · subst hl
      have e1 : digitsVal [] = 0 := rfl
      rw [List.nil_append] at hv h48 ⊢
      have hc48 : c ≠ 48 := by simpa using h48
      have e2 : digitsVal [c] = c - 48 := by rw [hv, e1]; omega
      rw [e2, Nat.toDigits_of_lt_base (by omega), List.map_cons, List.map_nil, hcd]
      exact ⟨rfl, by omega⟩
    · have hl0 : l.getD 0 0 = (l ++ [c]).getD 0 0 := by
        cases l with
        | nil => exact absurd rfl hl
        | cons _ _ => rfl
      obtain ⟨ih1, ih2⟩ := digs_back n l (by simpa using hn) (fun x hx => hd x (by simp [hx])) hl (by rw [hl0]; exact h48)
      have t := Nat.toDigits_append_toDigits (b := 10) (n := digitsVal l) (d := c - 48) (by decide) ih2 (by omega)
      rw [hv, show digitsVal l * 10 + (c - 48) = 10 * digitsVal l + (c - 48) by omega, ← t, List.map_append, ih1, Nat.toDigits_of_lt_base (by omega), List.map_cons, List.map_nil, hcd]
      exact ⟨rfl, by omega⟩
theorem first_dig (m : Nat) : 0 < m → ((Nat.toDigits 10 m).map Char.toNat).getD 0 0 ≠ 48 := by
  induction m using Nat.strongRecOn with
  | _ m ih =>
    intro h0
    by_cases h : m < 10
    · rw [Nat.toDigits_of_lt_base h]
      have : ∀ d : Nat, d < 10 → 0 < d → (Nat.digitChar d).toNat ≠ 48 := by decide
      exact this m h h0
    · have hm : m % 10 < 10 := Nat.mod_lt m (by decide)
      have t : Nat.toDigits 10 (m / 10) ++ Nat.toDigits 10 (m % 10) = Nat.toDigits 10 (10 * (m / 10) + m % 10) := Nat.toDigits_append_toDigits (by decide) (by omega) hm
      rw [Nat.div_add_mod] at t
      have := ih (m / 10) (by omega) (by omega)
      have hp : 0 < (Nat.toDigits 10 (m / 10)).length := Nat.length_toDigits_pos
      rw [← t, List.map_append]
      cases e : Nat.toDigits 10 (m / 10) with
      | nil => rw [e] at hp; exact absurd hp (by decide)
      | cons _ _ => rw [e] at this; exact this
noncomputable abbrev nW (n : Int) : Str := Str.ofString (toString n)
theorem num_back {z : Str} (h : isNum z = true) : nW (numV z) = z ∧ 0 ≤ numV z ∧ numV z < 1000000000000000000 := by
  by_cases h0 : z = "0"
  · subst h0
    decide +kernel
  · unfold isNum at h
    rw [decide_eq_false h0, Bool.false_or] at h
    simp only [madeOf, Bool.and_eq_true, Bool.not_eq_true', decide_eq_false_iff_not, decide_eq_true_eq, List.all_eq_true] at h
    obtain ⟨⟨hne, hl, hf⟩, h48⟩ := h
    have hd : AllDigits z.cps.toList := fun c hc => by
      have := hf c hc
      simpa [isFig] using this
    have hcn : z.cps.toList ≠ [] := fun e => hne (str_ext (e.trans (by decide +kernel)))
    have e1 := intText_digits hd hcn (Nat.le_trans hl (by decide))
    obtain ⟨b1, b2⟩ := digs_back _ _ rfl hd hcn h48
    have ev : numV z = ((digitsVal z.cps.toList : Nat) : Int) := by unfold numV; rw [e1]; rfl
    rw [ev]
    refine ⟨str_ext ?_, Int.natCast_nonneg _, ?_⟩
    · show (PySem.Str.ofString (toString (((digitsVal z.cps.toList : Nat)) : Int))).cps.toList = _
      rw [PySem.W.KIN.signs_num, b1]
    · have hl2 : (Nat.toDigits 10 (digitsVal z.cps.toList)).length ≤ 18 := by
        have := congrArg List.length b1
        rw [List.length_map] at this
        rw [this, ← str_len]; exact hl
      have := (Nat.length_toDigits_le_iff (by decide) (by decide)).mp hl2
      omega
theorem num_word {n : Nat} (h : n < 1000000000000000000) : isNum (nW ((n : Nat) : Int)) = true ∧ numV (nW ((n : Nat) : Int)) = ((n : Nat) : Int) := by
  have es := PySem.W.KIN.signs_num n
  have hl : (Nat.toDigits 10 n).length ≤ 18 := (Nat.length_toDigits_le_iff (by decide) (by decide)).mpr (by omega)
  have hd : AllDigits (nW ((n : Nat) : Int)).cps.toList := fun c hc => by
    rw [es] at hc
    obtain ⟨ch, hch, e⟩ := List.mem_map.mp hc
    rw [← e]
    exact PyProof.Rows.digit_range (Nat.isDigit_of_mem_toDigits (by decide) (by decide) hch)
  have hpos : 0 < (Nat.toDigits 10 n).length := Nat.length_toDigits_pos
  have hne : (nW ((n : Nat) : Int)).cps.toList ≠ [] := fun e => by
    rw [es] at e
    rw [List.map_eq_nil_iff.mp e] at hpos
    exact absurd hpos (by decide)
  have hlen : (nW ((n : Nat) : Int)).length ≤ 18 := by rw [str_len, es, List.length_map]; exact hl
  have e1 := intText_digits hd hne (Nat.le_trans hlen (by decide))
  rw [es, PySem.W.KIN.val_back] at e1
  refine ⟨?_, by unfold numV; rw [e1]; rfl⟩
  by_cases h0 : n = 0
  · subst h0; decide +kernel
  unfold isNum
  rw [Bool.or_eq_true]
  refine .inr ?_
  simp only [madeOf, Bool.and_eq_true, Bool.not_eq_true', decide_eq_false_iff_not, decide_eq_true_eq, List.all_eq_true]
  refine ⟨⟨fun e => hne (by rw [e]; decide +kernel), hlen, fun c hc => by simpa [isFig] using hd c hc⟩, fun e => ?_⟩
  -- no nought ahead
  rw [es] at e
  exact first_dig n (by omega) e
/-! expressions as words -/
mutual
noncomputable def wdsE : Ex → List Str
  | .num n => [nW n]
  | .truth z => [z]
  | .name z => [z]
  | .not e => "not" :: wdsE e
  | .op w a b => w :: (wdsE a ++ wdsE b)
  | .of n e => "of" :: n :: wdsE e
  | .many w n es => w :: n :: (wdsL es ++ [("." : Str)])
noncomputable def wdsL : List Ex → List Str
  | [] => []
  | e :: es => wdsE e ++ wdsL es
end
mutual
noncomputable def depE : Ex → Nat
  | .num _ => 1
  | .truth _ => 1
  | .name _ => 1
  | .not e => depE e + 1
  | .op _ a b => max (depE a) (depE b) + 1
  | .of _ e => depE e + 1
  | .many _ _ es => depL es + 1
noncomputable def depL : List Ex → Nat
  | [] => 0
  | e :: es => max (depE e) (depL es)
end
mutual
noncomputable def GoodE : Ex → Prop
  | .num n => 0 ≤ n ∧ n < 1000000000000000000
  | .truth z => z ∈ (["yes", "no"] : List Str)
  | .name z => isName z = true
  | .not e => GoodE e
  | .op w a b => w ∈ ops7 ∧ GoodE a ∧ GoodE b
  | .of n e => isName n = true ∧ GoodE e
  | .many w n es => w ∈ (["do", "new"] : List Str) ∧ isName n = true ∧ GoodL es
noncomputable def GoodL : List Ex → Prop
  | [] => True
  | e :: es => GoodE e ∧ GoodL es
end
mutual
theorem wdsE_pos : ∀ e : Ex, 0 < (wdsE e).length
  | .num _ => by simp [wdsE]
  | .truth _ => by simp [wdsE]
  | .name _ => by simp [wdsE]
  | .not _ => by simp [wdsE]
  | .op _ _ _ => by simp [wdsE]
  | .of _ _ => by simp [wdsE]
  | .many _ _ _ => by simp [wdsE]
end
/-- ws has vs at i -/
noncomputable def AtW (ws : List Str) (i : Nat) (vs : List Str) : Prop := ∀ k, k < vs.length → ws[i + k]? = vs[k]?
theorem AtW.hd {ws : List Str} {i : Nat} {z : Str} {vs : List Str} (h : AtW ws i (z :: vs)) : ws[i]? = some z ∧ AtW ws (i + 1) vs :=
  ⟨by have := h 0 (by simp); simpa using this, fun k hk => by have := h (k + 1) (by simp; omega); rw [show i + 1 + k = i + (k + 1) by omega, this]; rfl⟩
theorem AtW.app {ws : List Str} {i : Nat} {a b : List Str} (h : AtW ws i (a ++ b)) : AtW ws i a ∧ AtW ws (i + a.length) b :=
  ⟨fun k hk => by have := h k (by simp; omega); rw [this, List.getElem?_append_left hk], fun k hk => by
    have := h (a.length + k) (by simp; omega)
    rw [show i + a.length + k = i + (a.length + k) by omega, this, List.getElem?_append_right (by omega), show a.length + k - a.length = k by omega]⟩
theorem AtW.cons {ws : List Str} {i : Nat} {z : Str} {vs : List Str} (h1 : ws[i]? = some z) (h2 : AtW ws (i + 1) vs) : AtW ws i (z :: vs) := fun k hk => by
  cases k with
  | zero => simpa using h1
  | succ k => have := h2 k (by simpa using hk); rw [show i + (k + 1) = i + 1 + k by omega, this]; rfl
theorem AtW.cat {ws : List Str} {i : Nat} {a b : List Str} (h1 : AtW ws i a) (h2 : AtW ws (i + a.length) b) : AtW ws i (a ++ b) := fun k hk => by
  by_cases h : k < a.length
  · rw [List.getElem?_append_left h]; exact h1 k h
  · rw [List.getElem?_append_right (by omega)]
    have := h2 (k - a.length) (by simp at hk; omega)
    rw [← this]; congr 1; omega
theorem AtW.len {ws : List Str} {i : Nat} {vs : List Str} (h : AtW ws i vs) (h0 : 0 < vs.length) : i + vs.length ≤ ws.length := by
  have := h (vs.length - 1) (by omega)
  rw [List.getElem?_eq_getElem (show vs.length - 1 < vs.length by omega)] at this
  have := (List.getElem?_eq_some_iff.mp this).1
  omega
/-! words of each sort -/
theorem nm_num {z : Str} (h : isName z = true) : isNum z = false := by
  cases e : isNum z with
  | false => rfl
  | true =>
    unfold isName at h
    simp only [madeOf, Bool.and_eq_true, Bool.not_eq_true', decide_eq_false_iff_not, decide_eq_true_eq, List.all_eq_true] at h
    obtain ⟨⟨hne, _, hlo⟩, _⟩ := h
    have hcn : z.cps.toList ≠ [] := fun e => hne (str_ext (e.trans (by decide +kernel)))
    obtain ⟨c, cs, ec⟩ : ∃ c cs, z.cps.toList = c :: cs := ⟨_, _, (List.cons_head_tail hcn).symm⟩
    have h1 := hlo c (by rw [ec]; simp)
    unfold isNum at e
    rw [Bool.or_eq_true] at e
    rcases e with e | e
    · have := of_decide_eq_true e
      rw [this] at ec
      have : c = 48 := by
        have q : ("0" : Str).cps.toList = [48] := by decide +kernel
        rw [q] at ec; injection ec with a b; exact a.symm
      rw [this] at h1; revert h1; decide
    · simp only [madeOf, Bool.and_eq_true, List.all_eq_true] at e
      have h2 := e.1.2.2 c (by rw [ec]; simp)
      unfold isLo at h1
      unfold isFig at h2
      have := of_decide_eq_true h1
      have := of_decide_eq_true h2
      omega
theorem ops_ok : ∀ w ∈ ops7, isNum w = false ∧ w ∉ (["yes", "no"] : List Str) ∧ isName w = false ∧ w ≠ "not" ∧ w ≠ "." := by decide +kernel
theorem mny_ok : ∀ w ∈ (["do", "new", "of"] : List Str), isNum w = false ∧ w ∉ (["yes", "no"] : List Str) ∧ isName w = false ∧ w ≠ "not" ∧ w ∉ ops7 ∧ isMany w = true ∧ w ≠ "." := by decide +kernel
theorem yn_ok : ∀ w ∈ (["yes", "no"] : List Str), isNum w = false ∧ w ≠ "." := by decide +kernel
theorem not_ok : isNum "not" = false ∧ ("not" : Str) ∉ (["yes", "no"] : List Str) ∧ isName "not" = false := by decide +kernel
theorem nm_yn {z : Str} (h : isName z = true) : z ∉ (["yes", "no"] : List Str) := fun q => by
  rcases List.mem_cons.mp q with e | e
  · rw [e] at h; revert h; decide +kernel
  · have : z = "no" := by simpa using e
    rw [this] at h; revert h; decide +kernel
theorem nm_dot {z : Str} (h : isName z = true) : z ≠ "." := by rintro rfl; revert h; decide +kernel
theorem num_dot {n : Int} (h0 : 0 ≤ n) (h : n < 1000000000000000000) : nW n ≠ "." := fun e => by
  obtain ⟨m, rfl⟩ := Int.eq_ofNat_of_zero_le h0
  have := (num_word (n := m) (by omega)).1
  rw [e] at this; revert this; decide +kernel
theorem hd_dot : ∀ {e : Ex}, GoodE e → (wdsE e).head? ≠ some ("." : Str)
  | .num n, h => by simp only [wdsE, List.head?_cons]; exact fun e => num_dot h.1 h.2 (Option.some.inj e)
  | .truth z, h => by simp only [wdsE, List.head?_cons]; exact fun e => (yn_ok z h).2 (Option.some.inj e)
  | .name z, h => by simp only [wdsE, List.head?_cons]; exact fun e => nm_dot h (Option.some.inj e)
  | .not _, _ => by simp only [wdsE, List.head?_cons]; decide +kernel
  | .op w _ _, h => by simp only [wdsE, List.head?_cons]; exact fun e => (ops_ok w h.1).2.2.2.2 (Option.some.inj e)
  | .of _ _, _ => by simp only [wdsE, List.head?_cons]; decide +kernel
  | .many w _ _, h => by
    simp only [wdsE, List.head?_cons]
    intro e
    have e := Option.some.inj e
    rw [e] at h
    exact absurd h.1 (by decide +kernel)
theorem AtW.first {ws : List Str} {i : Nat} {e : Ex} (h : AtW ws i (wdsE e)) (g : GoodE e) : ws[i]? ≠ some ("." : Str) := by
  have h0 := h 0 (wdsE_pos e)
  rw [Nat.add_zero] at h0
  rw [h0, ← List.head?_eq_getElem?]
  exact hd_dot g
theorem wdsL_len : ∀ es : List Ex, es.length ≤ (wdsL es).length
  | [] => by simp [wdsL]
  | e :: es => by have := wdsE_pos e; have := wdsL_len es; simp [wdsL]; omega
theorem pM_own {k : Nat} {ws : List Str} (ih : ∀ (e : Ex) (i : Nat), GoodE e → AtW ws i (wdsE e) → (depE e ≤ k → pE ws k i = some (e, i + (wdsE e).length)) ∧ (k < depE e → pE ws k i = none)) :
    ∀ (es : List Ex) (f i : Nat), GoodL es → AtW ws i (wdsL es ++ [("." : Str)]) → es.length < f → (depL es ≤ k → pM (pE ws k) ws f i = some (es, i + (wdsL es).length + 1)) ∧ (k < depL es → pM (pE ws k) ws f i = none)
  | [], f + 1, i, _, h, _ => by
    have h0 : ws[i]? = some "." := h.hd.1
    unfold pM
    rw [if_pos h0]
    exact ⟨fun _ => rfl, fun q => absurd q (by simp [depL])⟩
  | e :: es, f + 1, i, g, h, hf => by
    have h : AtW ws i (wdsE e ++ (wdsL es ++ [("." : Str)])) := by rw [← List.append_assoc]; exact h
    obtain ⟨h1, h2⟩ := h.app
    have q1 := ih e i g.1 h1
    have q2 := pM_own ih es f (i + (wdsE e).length) g.2 h2 (by simpa using hf)
    have tn := pM_turn (p := pE ws k) (ws := ws) (f := f) (i := i) (h1.first g.1)
    refine ⟨fun hd => ?_, fun hd => ?_⟩
    · simp only [depL] at hd
      rw [tn.2 _ _ (q1.1 (by omega)), q2.1 (by omega)]
      simp only [wdsL, List.length_append, Option.map_some]
      rw [Nat.add_assoc i]
    · simp only [depL] at hd
      by_cases c : k < depE e
      · exact tn.1 (q1.2 c)
      · rw [tn.2 _ _ (q1.1 (by omega)), q2.2 (by omega)]
        rfl
theorem pE_own : ∀ (k : Nat) (ws : List Str) (e : Ex) (i : Nat), GoodE e → AtW ws i (wdsE e) → (depE e ≤ k → pE ws k i = some (e, i + (wdsE e).length)) ∧ (k < depE e → pE ws k i = none)
  | 0, ws, e, i, g, h => ⟨fun q => by have : 0 < depE e := by cases e <;> simp [depE]
                                      omega, fun _ => rfl⟩
  | k + 1, ws, .num n, i, g, h => by
    obtain ⟨h0, _⟩ := h.hd
    obtain ⟨m, rfl⟩ := Int.eq_ofNat_of_zero_le g.1
    have hw := num_word (n := m) (by have := g.2; omega)
    unfold pE
    rw [h0]
    dsimp only
    rw [if_pos hw.1, hw.2]
    exact ⟨fun _ => rfl, fun q => absurd q (by simp [depE])⟩
  | k + 1, ws, .truth z, i, g, h => by
    obtain ⟨h0, _⟩ := h.hd
    unfold pE
    rw [h0]
    dsimp only
    have g : z ∈ (["yes", "no"] : List Str) := g
    rw [if_neg (by rw [(yn_ok z g).1]; decide), if_pos g]
    exact ⟨fun _ => rfl, fun q => absurd q (by simp [depE])⟩
  | k + 1, ws, .name z, i, g, h => by
    obtain ⟨h0, _⟩ := h.hd
    have g : isName z = true := g
    unfold pE
    rw [h0]
    dsimp only
    rw [if_neg (by rw [nm_num g]; decide), if_neg (nm_yn g), if_pos g]
    exact ⟨fun _ => rfl, fun q => absurd q (by simp [depE])⟩
  | k + 1, ws, .not e, i, g, h => by
    obtain ⟨h0, h1⟩ := h.hd
    have q := pE_own k ws e (i + 1) g h1
    unfold pE
    rw [h0]
    dsimp only
    rw [if_neg (by rw [not_ok.1]; decide), if_neg not_ok.2.1, if_neg (by rw [not_ok.2.2]; decide), if_pos rfl]
    simp only [depE]
    refine ⟨fun hd => ?_, fun hd => ?_⟩
    · rw [q.1 (by omega)]
      simp [wdsE]; omega
    · rw [q.2 (by omega)]
  | k + 1, ws, .op w a b, i, g, h => by
    obtain ⟨h0, h1⟩ := h.hd
    obtain ⟨h2, h3⟩ := h1.app
    have q1 := pE_own k ws a (i + 1) g.2.1 h2
    have q2 := pE_own k ws b (i + 1 + (wdsE a).length) g.2.2 h3
    obtain ⟨o1, o2, o3, o4, _⟩ := ops_ok w g.1
    unfold pE
    rw [h0]
    dsimp only
    rw [if_neg (by rw [o1]; decide), if_neg o2, if_neg (by rw [o3]; decide), if_neg o4, if_pos g.1]
    simp only [depE]
    refine ⟨fun hd => ?_, fun hd => ?_⟩
    · rw [q1.1 (by omega)]
      dsimp only
      rw [q2.1 (by omega)]
      simp [wdsE]; omega
    · by_cases c : k < depE a
      · rw [q1.2 c]
      · rw [q1.1 (by omega)]
        dsimp only
        rw [q2.2 (by omega)]
  | k + 1, ws, .of n e, i, g, h => by
    obtain ⟨h0, h1⟩ := h.hd
    obtain ⟨h2, h3⟩ := h1.hd
    have q := pE_own k ws e (i + 1 + 1) g.2 h3
    obtain ⟨o1, o2, o3, o4, o5, o6, _⟩ := mny_ok "of" (by decide +kernel)
    unfold pE
    rw [h0]
    dsimp only
    rw [if_neg (by rw [o1]; decide), if_neg o2, if_neg (by rw [o3]; decide), if_neg o4, if_neg o5]
    unfold pD pWd
    rw [if_pos o6, h2]
    dsimp only
    rw [if_pos g.1]
    dsimp only
    rw [if_pos rfl]
    simp only [depE]
    refine ⟨fun hd => ?_, fun hd => ?_⟩
    · rw [q.1 (by omega)]
      simp [wdsE]; omega
    · rw [q.2 (by omega)]
  | k + 1, ws, .many w n es, i, g, h => by
    obtain ⟨h0, h1⟩ := h.hd
    obtain ⟨h2, h3⟩ := h1.hd
    have hl := h3.len (by simp)
    have hle := wdsL_len es
    have q := pM_own (k := k) (ws := ws) (fun e i => pE_own k ws e i) es (ws.length + 1) (i + 1 + 1) g.2.2 h3 (by simp at hl; omega)
    have hw : w ∈ (["do", "new", "of"] : List Str) := by
      rcases List.mem_cons.mp g.1 with e | e
      · rw [e]; decide +kernel
      · have : w = "new" := by simpa using e
        rw [this]; decide +kernel
    have hof : w ≠ "of" := by
      rcases List.mem_cons.mp g.1 with e | e
      · rw [e]; decide +kernel
      · have : w = "new" := by simpa using e
        rw [this]; decide +kernel
    obtain ⟨o1, o2, o3, o4, o5, o6, _⟩ := mny_ok w hw
    unfold pE
    rw [h0]
    dsimp only
    rw [if_neg (by rw [o1]; decide), if_neg o2, if_neg (by rw [o3]; decide), if_neg o4, if_neg o5]
    unfold pD pWd
    rw [if_pos o6, h2]
    dsimp only
    rw [if_pos g.2.1]
    dsimp only
    rw [if_neg hof]
    simp only [depE]
    refine ⟨fun hd => ?_, fun hd => ?_⟩
    · rw [q.1 (by omega)]
      simp [wdsE]; omega
    · rw [q.2 (by omega)]
theorem pM_back {k : Nat} {ws : List Str} (ih : ∀ (i : Nat) (e : Ex) (j : Nat), pE ws k i = some (e, j) → GoodE e ∧ depE e ≤ k ∧ AtW ws i (wdsE e) ∧ j = i + (wdsE e).length) :
    ∀ (f i : Nat) (es : List Ex) (j : Nat), pM (pE ws k) ws f i = some (es, j) → GoodL es ∧ depL es ≤ k ∧ AtW ws i (wdsL es ++ [("." : Str)]) ∧ j = i + (wdsL es).length + 1
  | 0, _, _, _, h => by cases h
  | f + 1, i, es, j, h => by
    by_cases hd : ws[i]? = some ("." : Str)
    · rw [pM_stop hd] at h
      cases h
      exact ⟨trivial, by simp [depL], AtW.cons hd (fun q hq => by simp at hq), by simp [wdsL]⟩
    · have tn := pM_turn (p := pE ws k) (ws := ws) (f := f) (i := i) hd
      cases hp : pE ws k i with
      | none => rw [tn.1 hp] at h; cases h
      | some q =>
        obtain ⟨e, l⟩ := q
        rw [tn.2 e l hp] at h
        cases hm : pM (pE ws k) ws f l with
        | none => rw [hm] at h; cases h
        | some r =>
          obtain ⟨es', l'⟩ := r
          rw [hm] at h
          cases h
          obtain ⟨a1, a2, a3, rfl⟩ := ih i e l hp
          obtain ⟨b1, b2, b3, rfl⟩ := pM_back ih f _ _ _ hm
          refine ⟨⟨a1, b1⟩, by simp only [depL]; omega, ?_, by simp [wdsL]; omega⟩
          simp only [wdsL]
          rw [List.append_assoc]
          exact a3.cat b3
theorem pE_back : ∀ (k : Nat) (ws : List Str) (i : Nat) (e : Ex) (j : Nat), pE ws k i = some (e, j) → GoodE e ∧ depE e ≤ k ∧ AtW ws i (wdsE e) ∧ j = i + (wdsE e).length
  | 0, _, _, _, _, h => by cases h
  | k + 1, ws, i, e, j, h => by
    have ih := fun i e j => pE_back k ws i e j
    have one : ∀ {z : Str}, ws[i]? = some z → AtW ws i [z] := fun hz => AtW.cons hz (fun q hq => by simp at hq)
    unfold pE at h
    cases hz : ws[i]? with
    | none => rw [hz] at h; cases h
    | some z =>
      rw [hz] at h
      dsimp only at h
      split at h
      · rename_i hn
        cases h
        have nb := num_back hn
        refine ⟨nb.2, by simp [depE], ?_, rfl⟩
        simp only [wdsE]
        rw [nb.1]; exact one hz
      · split at h
        · rename_i _ hy
          cases h
          exact ⟨hy, by simp [depE], one hz, rfl⟩
        · split at h
          · rename_i _ _ hy
            cases h
            exact ⟨hy, by simp [depE], one hz, rfl⟩
          · split at h
            · rename_i _ _ _ hy
              subst hy
              cases hp : pE ws k (i + 1) with
              | none => rw [hp] at h; cases h
              | some q =>
                obtain ⟨a, l⟩ := q
                rw [hp] at h
                cases h
                obtain ⟨a1, a2, a3, rfl⟩ := ih _ _ _ hp
                exact ⟨a1, by simp only [depE]; omega, AtW.cons hz a3, by simp [wdsE]; omega⟩
            · split at h
              · rename_i _ _ _ _ hy
                cases hp : pE ws k (i + 1) with
                | none => rw [hp] at h; cases h
                | some q =>
                  obtain ⟨a, l⟩ := q
                  rw [hp] at h
                  dsimp only at h
                  cases hq : pE ws k l with
                  | none => rw [hq] at h; cases h
                  | some r =>
                    obtain ⟨b, m⟩ := r
                    rw [hq] at h
                    cases h
                    obtain ⟨a1, a2, a3, rfl⟩ := ih _ _ _ hp
                    obtain ⟨b1, b2, b3, rfl⟩ := ih _ _ _ hq
                    exact ⟨⟨hy, a1, b1⟩, by simp only [depE]; omega, AtW.cons hz (a3.cat b3), by simp [wdsE]; omega⟩
              · unfold pD pWd at h
                split at h
                · rename_i hm
                  cases hz2 : ws[i + 1]? with
                  | none => rw [hz2] at h; cases h
                  | some n =>
                    rw [hz2] at h
                    dsimp only at h
                    split at h
                    · cases h
                    · rename_i n' hn'
                      split at hn'
                      · rename_i hnm
                        cases hn'
                        split at h
                        · rename_i hof
                          subst hof
                          cases hp : pE ws k (i + 1 + 1) with
                          | none => rw [hp] at h; cases h
                          | some q =>
                            obtain ⟨a, l⟩ := q
                            rw [hp] at h
                            cases h
                            obtain ⟨a1, a2, a3, rfl⟩ := ih _ _ _ hp
                            exact ⟨⟨hnm, a1⟩, by simp only [depE]; omega, AtW.cons hz (AtW.cons hz2 a3), by simp [wdsE]; omega⟩
                        · rename_i hof
                          cases hp : pM (pE ws k) ws (ws.length + 1) (i + 1 + 1) with
                          | none => rw [hp] at h; cases h
                          | some q =>
                            obtain ⟨es, l⟩ := q
                            rw [hp] at h
                            cases h
                            obtain ⟨a1, a2, a3, rfl⟩ := pM_back ih _ _ _ _ hp
                            refine ⟨⟨?_, hnm, a1⟩, by simp only [depE]; omega, AtW.cons hz (AtW.cons hz2 a3), by simp [wdsE]; omega⟩
                            have := of_decide_eq_true hm
                            simp at this ⊢
                            rcases this with q | q | q
                            · exact .inl q
                            · exact .inr q
                            · exact absurd q hof
                      · cases hn'
                · cases h
section
variable {P : Program} {w : World} {K : PySem.W.Frag} {mg : Str → Option Value} {base : Heap} {AA : Adr} {DD : Fds}
/-! the law's own: cells, numbers, names, leaves -/
theorem modN {a : Int} {n : Nat} (h : 0 < n) : ∃ m : Nat, a % ((n : Nat) : Int) = ((m : Nat) : Int) ∧ m < n :=
  ⟨(a % ((n : Nat) : Int)).toNat, (Int.toNat_of_nonneg (Int.emod_nonneg _ (by omega))).symm, by
    have h1 := Int.emod_nonneg a (show ((n : Nat) : Int) ≠ 0 by omega)
    have h2 := Int.emod_lt_of_pos a (show (0 : Int) < ((n : Nat) : Int) by omega)
    omega⟩
noncomputable def spCellAt (K : PySem.W.Frag) : Sp := fun vs H Q _ => ∃ (a : Addr) (ns : List Int) (k : Nat), vs = [.ref a, .int k] ∧ SqL K H a (ns.map V.int) ∧ Q (.int (ns.getD k 0)) H
noncomputable abbrev N_law_cell_at : List Str := ["_law_script", "_law_k"]
theorem sc_law_cell_at : FnScope N_law_cell_at ["_law_script", "_law_k"] (defScope st_law_cell_at) := ⟨rfl, rfl, rfl, by decide +kernel, rfl, by decide +kernel, by decide +kernel⟩
theorem ok_cellat (T : All P w K mg AA DD) : FnOk P w K mg base CX0 1 AA.law_cell_at DD.law_cell_at ["_law_script", "_law_k"] (spCellAt K) := by
  refine T.F_law_cell_at.ok sc_law_cell_at (fun vs H Q E h => ?_) (fun cdv A outer s H vs Q E hr h => ?_)
  · obtain ⟨a, ns, k, rfl, _⟩ := h
    rfl
  · obtain ⟨a, ns, j, rfl, hS, k⟩ := h
    have nd := sc_law_cell_at.nd
    refine ⟨_, (@pss_cons _ _ _ _ _ (@ps_if _ _ _ _ _ _ _ _ (@pt_cmpR _ _ _ _ _ _ _ _ op_lt (pv 1) (pe_callB call_len_seq rfl T.n_len bt_len (@pa_cons _ _ _ _ _ (pv 0) pa_nil (by rfl))) (nomark _)) (@pss_one _ _ _ (@ps_ret _ _ _ _ (@pe_ix _ _ _ _ _ _ _ (ix_listK (K := K) rfl) (pv 0) (pv 1) (fun _ _ => rfl)))) pss_nil) (@pss_one _ _ _ (@ps_ret _ _ _ _ pe_int))), ?_⟩
    refine ⟨_, rfl, _, rfl, a, _, rfl, .inl hS, _, _, rfl, rfl, _, rfl, ?_⟩
    rw [List.length_map]
    refine ite2 (fun h1 => ?_) (fun h1 => ?_)
    · have h1 : ((j : Nat) : Int) < (ns.length : Int) := of_decide_eq_true h1
      exact ⟨_, rfl, _, rfl, a, _, _, .int (ns.getD j 0), rfl, rfl, hS, atI_nat (j := j) (by rw [List.getElem?_map, List.getElem?_eq_getElem (by omega), List.getD_eq_getElem?_getD, List.getElem?_eq_getElem (by omega)]; rfl), k⟩
    · have h1 : ¬ ((j : Nat) : Int) < (ns.length : Int) := fun q => h1 (decide_eq_true q)
      rw [List.getD_eq_getElem?_getD, List.getElem?_eq_none (by omega)] at k
      exact k
noncomputable def spStream : Sp := fun vs H Q _ => ∃ (c : Int), vs = [.int c, .int 96] ∧ ∀ p (zs : List Int), H p = none → zs.length = 96 → (∀ z ∈ zs, 0 ≤ z ∧ z < 2 ^ 32) → Q (.ref p) (upd H p (.lst (zs.map V.int)))
noncomputable abbrev N_law_stream : List Str := ["_law_cell", "_law_size", "_law_found_here", "_law_number", "_law_k"]
theorem sc_law_stream : FnScope N_law_stream ["_law_cell", "_law_size"] (defScope st_law_stream) := ⟨rfl, rfl, rfl, by decide +kernel, rfl, by decide +kernel, by decide +kernel⟩
theorem ok_stream (T : All P w K mg AA DD) : FnOk P w K mg base CX0 1 AA.law_stream DD.law_stream ["_law_cell", "_law_size"] spStream := by
  refine T.F_law_stream.ok sc_law_stream (fun vs H Q E h => ?_) (fun cdv A outer s H vs Q E hr h => ?_)
  · obtain ⟨c, rfl, _⟩ := h
    rfl
  · obtain ⟨c, rfl, k⟩ := h
    have nd := sc_law_stream.nd
    refine ⟨_, (@pss_cons _ _ _ _ _ (@ps_set _ _ 2 _ _ _ _ nd rfl (Or.inl rfl) (@pe_lst _ _ _ _ pa_nil) (by rfl) (by first | exact .inl rfl | exact .inr rfl | assumption)) (@pss_cons _ _ _ _ _ (@ps_set _ _ 3 _ _ _ _ nd rfl (Or.inl rfl) (@pe_op _ _ _ _ _ _ _ _ op_mod (@pe_op _ _ _ _ _ _ _ _ op_mul (@pe_op _ _ _ _ _ _ _ _ op_add (@pe_op _ _ _ _ _ _ _ _ op_mod (pv 0) pe_int) pe_int) pe_int) pe_int) (by rfl) (by first | exact .inl rfl | exact .inr rfl | assumption)) (@pss_cons _ _ _ _ _ (@ps_for _ _ _ _ _ _ _ _ PassesOwn.never rfl (pi_range1 rfl T.n_range (@pa_cons _ _ _ _ _ (pv 1) pa_nil (by rfl))) (pg_name (i := 4) nd rfl (Or.inl rfl)) (@pss_cons _ _ _ _ _ (@ps_set _ _ 3 _ _ _ _ nd rfl (Or.inl rfl) (@pe_op _ _ _ _ _ _ _ _ op_add (@pe_op _ _ _ _ _ _ _ _ op_add (@pe_op _ _ _ _ _ _ _ _ op_mod (@pe_op _ _ _ _ _ _ _ _ op_mul (pv 3) (@pe_op _ _ _ _ _ _ _ _ op_add (@pe_op _ _ _ _ _ _ _ _ op_fdiv (pv 3) pe_int) pe_int)) pe_int) (pv 4)) pe_int) (by rfl) (by first | exact .inl rfl | exact .inr rfl | assumption)) (@pss_one _ _ _ (@ps_expr _ _ _ _ (pe_bm PySem.F.plainAttrs_list PySem.F.slot_list_append PySem.F.type_list_append mt_append (pv 2) (@pa_cons _ _ _ _ _ (pv 3) pa_nil (by rfl))) (by rfl)))) (by intro _; rfl)) (@pss_one _ _ _ (@ps_ret _ _ _ _ (pv 2)))))), ?_⟩
    refine ⟨Nat.zero_le _, fun p hp => ?_⟩
    have b0 := Int.emod_nonneg c (show (2147483647 : Int) ≠ 0 by decide)
    have b1 := Int.emod_lt_of_pos c (show (0 : Int) < 2147483647 by decide)
    refine ⟨_, rfl, _, _, rfl, rfl, (by show (0 : Int) < 2147483647; decide), _, _, rfl, rfl, _, _, rfl, rfl, .inl ⟨by omega, by omega⟩, _, _, rfl, rfl, (by show (0 : Int) < 2147483647; decide), ?_⟩
    dsimp only
    generalize hy : (c % 2147483647 + 1) * 48271 % 2147483647 = y
    have y0 : 0 ≤ y := by rw [← hy]; exact Int.emod_nonneg _ (by decide)
    have y1 : y < 2147483647 := by rw [← hy]; exact Int.emod_lt_of_pos _ (by decide)
    refine ⟨_, rfl, _, rfl, by decide, by decide, ?_⟩
    refine for_range (fun i σ H' => ∃ (x : Int) (zs : List Int) (s4 : Option V), 0 ≤ x ∧ x < 2147483760 ∧ zs.length = i ∧ (∀ z ∈ zs, 0 ≤ z ∧ z < 2 ^ 32) ∧ H' = upd H p (.lst (zs.map V.int)) ∧ σ = [some (.int c), some (.int 96), some (.ref p), some (.int x), s4])
      ⟨_, [], none, y0, by omega, rfl, by simp, rfl, rfl⟩ ?_ ?_
    · rintro i σ H' hi ⟨x, zs, s4, h0, h1, hl, hz, rfl, rfl⟩
      have hi : i < 96 := hi
      have d0 : 0 ≤ x / 1009 := Int.ediv_nonneg h0 (by decide)
      have d1 : x / 1009 ≤ x := by omega
      refine ⟨_, rfl, _, rfl, _, _, rfl, rfl, ⟨by decide, by decide⟩, _, _, rfl, rfl, _, _, rfl, rfl, .inl ⟨by omega, by omega⟩, _, _, rfl, rfl, (by show (0 : Int) < 2147483647; decide), _, rfl, _, _, rfl, rfl, _, _, rfl, rfl, ?_⟩
      dsimp only
      generalize hw : (x * (x / 1009 + 69621)) % 2147483647 = u
      have u0 : 0 ≤ u := by rw [← hw]; exact Int.emod_nonneg _ (by decide)
      have u1 : u < 2147483647 := by rw [← hw]; exact Int.emod_lt_of_pos _ (by decide)
      refine ⟨_, rfl, .inl ⟨rfl, _, SqL.of upd_same⟩, _, rfl, p, _, _, rfl, rfl, upd_same, ?_, ?_⟩
      · rw [List.length_map]; exact small1000 (by omega)
      · refine ⟨u + (0 + (i : Int)) + 1, zs ++ [u + (0 + (i : Int)) + 1], _, by omega, by omega, by simp [hl], fun z hz' => ?_, ?_, rfl⟩
        · rcases List.mem_append.mp hz' with q | q
          · exact hz z q
          · have : z = u + (0 + (i : Int)) + 1 := by simpa using q
            subst this
            omega
        · rw [upd_upd, List.map_append]; rfl
    · rintro σ H' ⟨x, zs, s4, h0, h1, hl, hz, rfl, rfl⟩
      refine ⟨_, rfl, ?_⟩
      exact k p zs hp hl hz
noncomputable def inN (c : Nat) : Bool := decide (c ∈ ([120, 122, 113, 107, 118, 98, 112, 119] : List Nat))
theorem lws_out : ∀ z ∈ lws, z.cps.toList.all inN = false := by decide +kernel
theorem in_lo : ∀ c : Nat, inN c = true → isLo c = true := fun c h => by
  have := of_decide_eq_true h
  simp at this
  unfold isLo
  refine decide_eq_true ?_
  omega
theorem name_ok {z : Str} (h0 : z.cps.toList ≠ []) (h8 : z.length ≤ 8) (h : z.cps.toList.all inN = true) : isName z = true := by
  unfold isName madeOf
  simp only [Bool.and_eq_true, Bool.not_eq_true', decide_eq_false_iff_not, decide_eq_true_eq, List.all_eq_true]
  refine ⟨⟨fun e => h0 (by rw [e]; decide +kernel), h8, fun c hc => in_lo c (List.all_eq_true.mp h c hc)⟩, fun hm => ?_⟩
  have := lws_out z hm
  rw [h] at this; cases this
theorem nms_at : ∀ j, j < 8 → ∃ h : j < ("xzqkvbpw" : Str).cps.toList.length, inN (("xzqkvbpw" : Str).cps.toList[j]) = true := by decide +kernel
noncomputable def nmC (x : Int) (i : Nat) : Nat := ("xzqkvbpw" : Str).cps.toList.getD (x / (8 + 61 * ((i : Nat) : Int)) % 8).toNat 0
noncomputable def nmL (x : Int) : Nat → List Nat
  | 0 => []
  | i + 1 => nmL x i ++ [nmC x i]
noncomputable def nameF (x : Int) : Str := ⟨(nmL x (1 + (x % 8).toNat)).toArray⟩
theorem nmL_len (x : Int) : ∀ i, (nmL x i).length = i
  | 0 => rfl
  | i + 1 => by rw [nmL, List.length_append, nmL_len x i]; rfl
theorem nmC_in (x : Int) (i : Nat) : inN (nmC x i) = true := by
  obtain ⟨q, eq, hq⟩ := modN (a := x / (8 + 61 * ((i : Nat) : Int))) (n := 8) (by decide)
  have eq : x / (8 + 61 * ((i : Nat) : Int)) % 8 = ((q : Nat) : Int) := eq
  obtain ⟨hql, hqi⟩ := nms_at q hq
  unfold nmC
  rw [eq, Int.toNat_natCast, List.getD_eq_getElem?_getD, List.getElem?_eq_getElem hql]
  exact hqi
theorem nmL_in (x : Int) : ∀ i, (nmL x i).all inN = true
  | 0 => rfl
  | i + 1 => by rw [nmL, List.all_append, nmL_in x i]; simp only [List.all_cons, List.all_nil, nmC_in, Bool.and_true]
theorem nameF_ok (x : Int) : isName (nameF x) = true := by
  obtain ⟨m, em, hm⟩ := modN (a := x) (n := 8) (by decide)
  have em : x % 8 = ((m : Nat) : Int) := em
  have hl : (nameF x).cps.toList = nmL x (1 + m) := by unfold nameF; rw [em, Int.toNat_natCast]
  refine name_ok (fun e => ?_) ?_ (by rw [hl]; exact nmL_in _ _)
  · have := nmL_len x (1 + m)
    rw [← hl, e] at this
    have : (0 : Nat) = 1 + m := this
    omega
  · rw [str_len, hl, nmL_len]; omega
noncomputable def spName : Sp := fun vs H Q _ => ∃ x : Int, vs = [.int x] ∧ 0 ≤ x ∧ Q (.str (nameF x)) H
noncomputable abbrev N_law_name : List Str := ["_law_number", "_law_word", "_law_k"]
theorem sc_law_name : FnScope N_law_name ["_law_number"] (defScope st_law_name) := ⟨rfl, rfl, rfl, by decide +kernel, rfl, by decide +kernel, by decide +kernel⟩
theorem ok_name (T : All P w K mg AA DD) : FnOk P w K mg base CX0 1 AA.law_name DD.law_name ["_law_number"] spName := by
  refine T.F_law_name.ok sc_law_name (fun vs H Q E h => ?_) (fun cdv A outer s H vs Q E hr h => ?_)
  · obtain ⟨x, rfl, _⟩ := h
    rfl
  · obtain ⟨x, rfl, hx, k⟩ := h
    have nd := sc_law_name.nd
    refine ⟨_, (@pss_cons _ _ _ _ _ (@ps_set _ _ 1 _ _ _ _ nd rfl (Or.inl rfl) pe_str (by rfl) (by first | exact .inl rfl | exact .inr rfl | assumption)) (@pss_cons _ _ _ _ _ (@ps_for _ _ _ _ _ _ _ _ PassesOwn.never rfl (pi_range1 rfl T.n_range (@pa_cons _ _ _ _ _ (@pe_op _ _ _ _ _ _ _ _ op_add pe_int (@pe_op _ _ _ _ _ _ _ _ op_mod (pv 0) pe_int)) pa_nil (by rfl))) (pg_name (i := 2) nd rfl (Or.inl rfl)) (@pss_one _ _ _ (@ps_set _ _ 1 _ _ _ _ nd rfl (Or.inl rfl) (@pe_op _ _ _ _ _ _ _ _ op_add_str (pv 1) (@pe_ix _ _ _ _ _ _ _ ix_str pe_str (@pe_op _ _ _ _ _ _ _ _ op_mod (@pe_op _ _ _ _ _ _ _ _ op_fdiv (pv 0) (@pe_op _ _ _ _ _ _ _ _ op_add pe_int (@pe_op _ _ _ _ _ _ _ _ op_mul pe_int (pv 2)))) pe_int) (fun _ _ => rfl))) (by rfl) (by first | exact .inl rfl | exact .inr rfl | assumption))) (by intro _; rfl)) (@pss_one _ _ _ (@ps_ret _ _ _ _ (pv 1))))), ?_⟩
    refine seq_c ?_
    try dsimp only [gName]
    have hsz : ("xzqkvbpw" : Str).length ≤ sizeLine := by decide +kernel
    obtain ⟨m, em, hm⟩ := modN (a := x) (n := 8) (by decide)
    have em : x % 8 = ((m : Nat) : Int) := em
    refine cut_for (fun σ' H' => H' = H ∧ ∃ (x2 : Option V), σ' = [some (.int x), some (.str (nameF x)), x2]) (fun R hR => ?_) ?_
    · refine ⟨_, rfl, _, _, rfl, rfl, (by show (0 : Int) < 8; decide), _, _, rfl, rfl, _, rfl, ?_, ?_, ?_⟩
      · rw [em]; omega
      · rw [em]; omega
      rw [em, show ((1 : Int) + ((m : Nat) : Int)).toNat = 1 + m by omega]
      refine for_range (D := ⟨R, _, R, R⟩) (fun i σ' H' => H' = H ∧ ∃ (z : Str) (x2 : Option V), z.cps.toList = nmL x i ∧ σ' = [some (.int x), some (.str z), x2]) ⟨rfl, "", none, rfl, rfl⟩ ?_ ?_
      · rintro i σ' H' hi ⟨rfl, z, x2, hzl, rfl⟩
        rw [Int.zero_add]
        obtain ⟨q, eq, hq⟩ := modN (a := x / (8 + 61 * ((i : Nat) : Int))) (n := 8) (by decide)
        have eq : x / (8 + 61 * ((i : Nat) : Int)) % 8 = ((q : Nat) : Int) := eq
        obtain ⟨hql, hqi⟩ := nms_at q hq
        refine ⟨_, rfl, _, rfl, _, rfl, _, _, rfl, rfl, .inl ⟨by decide, by decide⟩, _, _, rfl, rfl, _, _, rfl, rfl, ⟨?_, ?_⟩, _, _, rfl, rfl, (by show (0 : Int) < 8; decide), "xzqkvbpw", _, ("xzqkvbpw" : Str).cps.toList[q], rfl, rfl, hsz, ?_, _, _, rfl, rfl, ?_, ?_⟩
        · show (0 : Int) < 8 + 61 * ((i : Nat) : Int); omega
        · show 8 + 61 * ((i : Nat) : Int) < _; omega
        · rw [eq]; exact atI_nat (List.getElem?_eq_getElem hql)
        · show z.length + 1 ≤ sizeLine
          rw [str_len, hzl, nmL_len]; exact Nat.le_of_lt (small1000 (by omega))
        · refine ⟨rfl, z ++ ⟨#[("xzqkvbpw" : Str).cps.toList[q]]⟩, _, ?_, rfl⟩
          rw [str_app, hzl, nmL]
          unfold nmC
          rw [eq, Int.toNat_natCast, List.getD_eq_getElem?_getD, List.getElem?_eq_getElem hql]
          rfl
      · rintro σ' H' ⟨rfl, z, x2, hzl, rfl⟩
        refine hR _ _ ⟨rfl, x2, ?_⟩
        have : z = nameF x := by
          unfold nameF
          rw [em, Int.toNat_natCast, ← hzl]
        rw [this]
    rintro σ' H' ⟨rfl, x2, rfl⟩
    exact ⟨_, rfl, k⟩
/-- what a law's expression is handed back as: words and the expression -/
noncomputable def WE (H : Hp) (t : Addr) (e : Ex) : Prop := ∃ (pw : Addr) (v : V), H t = some (.tup [.ref pw, v]) ∧ H pw = some (.lst ((wdsE e).map V.str)) ∧ ExAt H v e
theorem WE.same {H H' : Hp} {t : Addr} {e : Ex} (h : WE H t e) (s : Same H H') : WE H' t e := by
  obtain ⟨pw, v, h1, h2, h3⟩ := h
  exact ⟨pw, v, s _ _ h1, s _ _ h2, h3.kept s.tups⟩
theorem we_of {H : Hp} {p1 p2 p3 : Addr} {zs : List Str} {xs : List V} {e : Ex} (h1 : H p1 = none) (h2 : (upd H p1 (.lst (zs.map V.str))) p2 = none) (h3 : (upd (upd H p1 (.lst (zs.map V.str))) p2 (.tup xs)) p3 = none) (hz : zs = wdsE e)
    (he : ∀ H', H' p2 = some (.tup xs) → ExAt H' (.ref p2) e) : Same H (upd (upd (upd H p1 (.lst (zs.map V.str))) p2 (.tup xs)) p3 (.tup [.ref p1, .ref p2])) ∧ WE (upd (upd (upd H p1 (.lst (zs.map V.str))) p2 (.tup xs)) p3 (.tup [.ref p1, .ref p2])) p3 e := by
  have n12 : p1 ≠ p2 := fun e => by rw [e, upd_same] at h2; cases h2
  have n13 : p1 ≠ p3 := fun e => by rw [← e, upd_ne n12, upd_same] at h3; cases h3
  have n23 : p2 ≠ p3 := fun e => by rw [← e, upd_same] at h3; cases h3
  refine ⟨((same_upd h1).trans (same_upd h2)).trans (same_upd h3), p1, .ref p2, upd_same, ?_, he _ ?_⟩
  · rw [upd_ne n13, upd_ne n12, upd_same, hz]
  · rw [upd_ne n23, upd_same]
noncomputable def spLeaf : Sp := fun vs H Q _ => ∃ x : Int, vs = [.int x] ∧ 0 ≤ x ∧ x < 2 ^ 32 ∧ ∀ t e H', Same H H' → WE H' t e → GoodE e → (wdsE e).length = 1 → depE e = 1 → Q (.ref t) H'
noncomputable abbrev N_law_leaf : List Str := ["_law_number", "_law_value"]
theorem sc_law_leaf : FnScope N_law_leaf ["_law_number"] (defScope st_law_leaf) := ⟨rfl, rfl, rfl, by decide +kernel, rfl, by decide +kernel, by decide +kernel⟩
theorem ok_leaf (T : All P w K mg AA DD) : FnOk P w K mg base CX0 2 AA.law_leaf DD.law_leaf ["_law_number"] spLeaf := by
  have GNM := ok_name (base := base) T
  refine T.F_law_leaf.ok sc_law_leaf (fun vs H Q E h => ?_) (fun cdv A outer s H vs Q E hr h => ?_)
  · obtain ⟨x, rfl, _⟩ := h
    rfl
  · obtain ⟨x, rfl, hx, hx2, k⟩ := h
    have nd := sc_law_leaf.nd
    have hr1 : Room 1 _ := hr
    refine ⟨_, (@pss_cons _ _ _ _ _ (@ps_if _ _ _ _ _ _ _ _ (@pt_cmpR _ _ _ _ _ _ _ _ op_eq (@pe_op _ _ _ _ _ _ _ _ op_mod (pv 0) pe_int) pe_int (nomark _)) (@pss_one _ _ _ (@ps_ret _ _ _ _ (@pe_tup _ _ _ _ _ (@pa_cons _ _ _ _ _ (@pe_lst _ _ _ _ (@pa_cons _ _ _ _ _ pe_str pa_nil (by rfl))) (@pa_cons _ _ _ _ _ (@pe_tup _ _ _ _ _ (@pa_cons _ _ _ _ _ pe_str (@pa_cons _ _ _ _ _ pe_str pa_nil (by rfl)) (by rfl))) pa_nil (by rfl)) (by rfl))))) pss_nil) (@pss_cons _ _ _ _ _ (@ps_if _ _ _ _ _ _ _ _ (@pt_cmpR _ _ _ _ _ _ _ _ op_eq (@pe_op _ _ _ _ _ _ _ _ op_mod (pv 0) pe_int) pe_int (nomark _)) (@pss_one _ _ _ (@ps_ret _ _ _ _ (@pe_tup _ _ _ _ _ (@pa_cons _ _ _ _ _ (@pe_lst _ _ _ _ (@pa_cons _ _ _ _ _ pe_str pa_nil (by rfl))) (@pa_cons _ _ _ _ _ (@pe_tup _ _ _ _ _ (@pa_cons _ _ _ _ _ pe_str (@pa_cons _ _ _ _ _ pe_str pa_nil (by rfl)) (by rfl))) pa_nil (by rfl)) (by rfl))))) pss_nil) (@pss_cons _ _ _ _ _ (@ps_if _ _ _ _ _ _ _ _ (@pt_cmpR _ _ _ _ _ _ _ _ op_eq (@pe_op _ _ _ _ _ _ _ _ op_mod (pv 0) pe_int) pe_int (nomark _)) (@pss_cons _ _ _ _ _ (@ps_set _ _ 1 _ _ _ _ nd rfl (Or.inl rfl) (@pe_ix _ _ _ _ _ _ _ (ix_listK (K := K) rfl) (@pe_lst _ _ _ _ (@pa_cons _ _ _ _ _ (@pe_op _ _ _ _ _ _ _ _ op_mod (@pe_op _ _ _ _ _ _ _ _ op_fdiv (pv 0) pe_int) pe_int) (@pa_cons _ _ _ _ _ (@pe_op _ _ _ _ _ _ _ _ op_mod (@pe_op _ _ _ _ _ _ _ _ op_mul (pv 0) (pv 0)) (@pe_op _ _ _ _ _ _ _ _ op_pow pe_int pe_int)) pa_nil (by rfl)) (by rfl))) (@pe_op _ _ _ _ _ _ _ _ op_mod (@pe_op _ _ _ _ _ _ _ _ op_fdiv (pv 0) pe_int) pe_int) (fun _ _ => rfl)) (by rfl) (by first | exact .inl rfl | exact .inr rfl | assumption)) (@pss_one _ _ _ (@ps_ret _ _ _ _ (@pe_tup _ _ _ _ _ (@pa_cons _ _ _ _ _ (@pe_lst _ _ _ _ (@pa_cons _ _ _ _ _ (pe_callTy call_strI rfl T.n_str bt_str (@pa_cons _ _ _ _ _ (pv 1) pa_nil (by rfl))) pa_nil (by rfl))) (@pa_cons _ _ _ _ _ (@pe_tup _ _ _ _ _ (@pa_cons _ _ _ _ _ pe_str (@pa_cons _ _ _ _ _ (pv 1) pa_nil (by rfl)) (by rfl))) pa_nil (by rfl)) (by rfl)))))) pss_nil) (@pss_one _ _ _ (@ps_ret _ _ _ _ (@pe_tup _ _ _ _ _ (@pa_cons _ _ _ _ _ (@pe_lst _ _ _ _ (@pa_cons _ _ _ _ _ (pe_call GNM hr1 rfl T.m_law_name T.k_law_name T.b_law_name .nil pass0 (@pa_cons _ _ _ _ _ (@pe_op _ _ _ _ _ _ _ _ op_fdiv (pv 0) pe_int) pa_nil (by rfl))) pa_nil (by rfl))) (@pa_cons _ _ _ _ _ (@pe_tup _ _ _ _ _ (@pa_cons _ _ _ _ _ pe_str (@pa_cons _ _ _ _ _ (pe_call GNM hr1 rfl T.m_law_name T.k_law_name T.b_law_name .nil pass0 (@pa_cons _ _ _ _ _ (@pe_op _ _ _ _ _ _ _ _ op_fdiv (pv 0) pe_int) pa_nil (by rfl))) pa_nil (by rfl)) (by rfl))) pa_nil (by rfl)) (by rfl)))))))), ?_⟩
    clear GNM T hr hr1
    refine ⟨_, rfl, _, _, rfl, rfl, (by show (0 : Int) < 4; decide), rfl, _, rfl, ?_⟩
    refine ite2 (fun _ => ?_) (fun q1 => ?_)
    · refine ⟨small1000 (Nat.le_of_ble_eq_true rfl), fun p1 h1 => ⟨small1000 (Nat.le_of_ble_eq_true rfl), fun p2 h2 => ⟨small1000 (Nat.le_of_ble_eq_true rfl), fun p3 h3 => ?_⟩⟩⟩
      obtain ⟨c1, c2⟩ := we_of (zs := ["yes"]) (e := .truth "yes") h1 h2 h3 rfl (fun _ h => .truth h)
      exact k _ _ _ c1 c2 (by simp [GoodE]) rfl rfl
    refine ⟨_, rfl, _, _, rfl, rfl, (by show (0 : Int) < 4; decide), rfl, _, rfl, ?_⟩
    refine ite2 (fun _ => ?_) (fun q2 => ?_)
    · refine ⟨small1000 (Nat.le_of_ble_eq_true rfl), fun p1 h1 => ⟨small1000 (Nat.le_of_ble_eq_true rfl), fun p2 h2 => ⟨small1000 (Nat.le_of_ble_eq_true rfl), fun p3 h3 => ?_⟩⟩⟩
      obtain ⟨c1, c2⟩ := we_of (zs := ["no"]) (e := .truth "no") h1 h2 h3 rfl (fun _ h => .truth h)
      exact k _ _ _ c1 c2 (by simp [GoodE]) rfl rfl
    refine ⟨_, rfl, _, _, rfl, rfl, (by show (0 : Int) < 4; decide), rfl, _, rfl, ?_⟩
    refine ite2 (fun _ => ?_) (fun q3 => ?_)
    · have d0 : 0 ≤ x / 4 := Int.ediv_nonneg hx (by decide)
      have hm : CMul x x := .inl ⟨by omega, by omega⟩
      refine ⟨_, rfl, _, _, rfl, rfl, ⟨by decide, by decide⟩, _, _, rfl, rfl, (by show (0 : Int) < 10; decide), _, rfl, _, rfl, _, _, rfl, rfl, hm, _, _, rfl, rfl, ⟨by decide, by decide, by decide⟩, _, _, rfl, rfl, (by show (0 : Int) < 10 ^ 18; decide), ?_⟩
      refine ⟨small1000 (Nat.le_of_ble_eq_true rfl), fun p0 h0 => ?_⟩
      obtain ⟨m, em, hm2⟩ := modN (a := x / 4) (n := 2) (by decide)
      have em : x / 4 % 2 = ((m : Nat) : Int) := em
      obtain ⟨y, ey, y0, y1⟩ : ∃ y : Int, atI [V.int (x / 4 % 10), V.int (x * x % 1000000000000000000)] ((m : Nat) : Int) = some (V.int y) ∧ 0 ≤ y ∧ y < 1000000000000000000 := by
        rcases (by omega : m = 0 ∨ m = 1) with rfl | rfl
        · exact ⟨_, rfl, Int.emod_nonneg _ (by decide), by have := Int.emod_lt_of_pos (x / 4) (show (0 : Int) < 10 by decide); omega⟩
        · exact ⟨_, rfl, Int.emod_nonneg _ (by decide), Int.emod_lt_of_pos _ (by decide)⟩
      refine ⟨_, rfl, _, _, rfl, rfl, ⟨by decide, by decide⟩, _, _, rfl, rfl, (by show (0 : Int) < 2; decide), p0, _, _, _, rfl, rfl, SqL.of upd_same, (by rw [em]; exact ey), ?_⟩
      refine ⟨_, rfl, y, rfl, ?_, ?_⟩
      · by_cases e : y.natAbs = 0
        · rw [e]; decide
        · exact (Nat.log2_lt e).mpr (Nat.lt_of_lt_of_le (show y.natAbs < 2 ^ 64 by omega) (Nat.pow_le_pow_right (by decide) (by decide)))
      refine ⟨small1000 (Nat.le_of_ble_eq_true rfl), fun p1 h1 => ⟨_, rfl, small1000 (Nat.le_of_ble_eq_true rfl), fun p2 h2 => ⟨small1000 (Nat.le_of_ble_eq_true rfl), fun p3 h3 => ?_⟩⟩⟩
      obtain ⟨c1, c2⟩ := we_of (zs := [nW y]) (e := .num y) h1 h2 h3 rfl (fun _ h => .num h)
      exact k _ _ _ ((same_upd h0).trans c1) c2 ⟨y0, y1⟩ rfl rfl
    · have d0 : 0 ≤ x / 4 := Int.ediv_nonneg hx (by decide)
      refine ⟨_, rfl, _, _, rfl, rfl, ⟨by decide, by decide⟩, x / 4, rfl, d0, ?_⟩
      refine ⟨small1000 (Nat.le_of_ble_eq_true rfl), fun p1 h1 => ?_⟩
      refine ⟨_, rfl, _, _, rfl, rfl, ⟨by decide, by decide⟩, x / 4, rfl, d0, ?_⟩
      refine ⟨small1000 (Nat.le_of_ble_eq_true rfl), fun p2 h2 => ⟨small1000 (Nat.le_of_ble_eq_true rfl), fun p3 h3 => ?_⟩⟩
      obtain ⟨c1, c2⟩ := we_of (zs := [nameF (x / 4)]) (e := .name (nameF (x / 4))) h1 h2 h3 rfl (fun _ h => .name h)
      exact k _ _ _ c1 c2 (nameF_ok _) rfl rfl
end
section
variable {P : Program} {w : World} {K : PySem.W.Frag} {mg : Str → Option Value} {base : Heap} {AA : Adr} {DD : Fds}
/-! the law's own expressions: their words and their tuples -/
noncomputable def GN (ns : List Int) : Prop := ∀ z ∈ ns, 0 ≤ z ∧ z < 2 ^ 32
theorem GN.left {ns ms : List Int} (h : GN (ns ++ ms)) : GN ns := fun z hz => h z (List.mem_append_left _ hz)
theorem pop_at {ns : List Int} (h : 0 < ns.length) (g : GN ns) : ∃ (z : Int) (ns' : List Int), ns'.length + 1 = ns.length ∧ (ns.map V.int)[(ns.map V.int).length - 1]? = some (.int z) ∧ (ns.map V.int).dropLast = ns'.map V.int ∧ GN ns' ∧ 0 ≤ z ∧ z < 2 ^ 32 := by
  rcases List.eq_nil_or_concat ns with rfl | ⟨ns', z, rfl⟩
  · exact absurd h (by decide)
  · refine ⟨z, ns', by simp, ?_, ?_, (by simpa using g : GN (ns' ++ [z])).left, g z (by simp)⟩
    · simp
    · simp
theorem but_tups {px : Addr} {H H' : Hp} {xs : List V} (b : ButO px H H') (h : H px = some (.lst xs)) : TupS H H' := fun a ys e => b _ _ e fun z => by rw [z, h] at e; cases e
theorem WE.but {px : Addr} {H H' : Hp} {ns : List Int} {t : Addr} {e : Ex} (w : WE H t e) (b : ButO px H H') (h : H px = some (.lst (ns.map V.int))) : WE H' t e := by
  obtain ⟨pw, v, h1, h2, h3⟩ := w
  refine ⟨pw, v, but_tups b h _ _ h1, b _ _ h2 (fun z => ?_), h3.kept (but_tups b h)⟩
  rw [z, h] at h2
  have hp := wdsE_pos e
  cases he : wdsE e with
  | nil => rw [he] at hp; exact absurd hp (by decide)
  | cons y ys =>
    rw [he] at h2
    cases ns with
    | nil => cases h2
    | cons n ns => simp at h2
theorem ne_px {H : Hp} {px pw : Addr} {ns : List Int} {y : Str} {ys : List V} (h : H px = some (.lst (ns.map V.int))) (h' : H pw = some (.lst (V.str y :: ys))) : pw ≠ px := fun z => by
  rw [z, h] at h'
  cases ns with
  | nil => cases h'
  | cons n ns => simp at h'
theorem tups_upd {H : Hp} {p : Addr} {o : HO} (h : ∀ xs, H p ≠ some (.tup xs)) : TupS H (upd H p o) := fun b xs e => by
  rw [upd_ne (fun z => h xs (by rw [← z]; exact e))]; exact e
theorem dsub {px : Addr} {d : Nat} (h : 1 ≤ d) : [V.ref px, V.int (((d : Nat) : Int) - 1)] = [V.ref px, V.int (((d - 1 : Nat)) : Int)] := by rw [show ((d : Nat) : Int) - 1 = ((d - 1 : Nat) : Int) by omega]
noncomputable def spLE (L : Nat) : Sp := fun vs H Q _ => ∃ (px : Addr) (ns : List Int) (d : Nat), vs = [.ref px, .int ((d : Nat) : Int)] ∧ H px = some (.lst (ns.map V.int)) ∧ GN ns ∧ 0 < ns.length ∧ ns.length < L ∧ ns.length ≤ 96 ∧ 1 ≤ d ∧ d ≤ 8 ∧
  ∀ t e ns' H', ButO px H H' → H' px = some (.lst (ns'.map V.int)) → GN ns' → WE H' t e → GoodE e → (wdsE e).length + ns'.length ≤ ns.length → (ns.length < 40 → ns'.length + 1 = ns.length) → (40 ≤ ns.length → 36 ≤ ns'.length + 2 * d) → Q (.ref t) H'
noncomputable def spLM (L : Nat) : Sp := fun vs H Q _ => ∃ (z : Str) (px : Addr) (ns : List Int) (d : Nat), vs = [.str z, .ref px, .int ((d : Nat) : Int)] ∧ z ∈ (["do", "new"] : List Str) ∧ H px = some (.lst (ns.map V.int)) ∧ GN ns ∧ 39 ≤ ns.length ∧ ns.length < L ∧ ns.length ≤ 96 ∧ 2 ≤ d ∧ d ≤ 8 ∧
  ∀ t e ns' H', ButO px H H' → H' px = some (.lst (ns'.map V.int)) → GN ns' → WE H' t e → GoodE e → (wdsE e).length + ns'.length ≤ ns.length + 1 → 36 ≤ ns'.length + 2 * d → Q (.ref t) H'
theorem wdsL_app : ∀ (es : List Ex) (e : Ex), wdsL (es ++ [e]) = wdsL es ++ wdsE e
  | [], e => by simp [wdsL]
  | x :: es, e => by rw [List.cons_append, wdsL, wdsL_app es e, wdsL, List.append_assoc]
theorem GoodL.app : ∀ {es : List Ex} {e : Ex}, GoodL es → GoodE e → GoodL (es ++ [e])
  | [], e, _, h => ⟨h, trivial⟩
  | x :: es, e, h, g => ⟨h.1, GoodL.app h.2 g⟩
noncomputable abbrev N_law_many : List Str := ["_law_word", "_law_xs", "_law_deep_here", "_law_name_here", "_law_words_here", "_law_parts", "_law_k", "_law_some", "_law_e"]
theorem sc_law_many : FnScope N_law_many ["_law_word", "_law_xs", "_law_deep_here"] (defScope st_law_many) := ⟨rfl, rfl, rfl, by decide +kernel, rfl, by decide +kernel, by decide +kernel⟩
theorem ok_lmS (T : All P w K mg AA DD) (L : Nat) (GXP : FnOk P w K mg base CX0 (2 * L + 4) AA.law_expr DD.law_expr ["_law_xs", "_law_deep_here"] (spLE L)) : FnOk P w K mg base CX0 (2 * L + 5) AA.law_many DD.law_many ["_law_word", "_law_xs", "_law_deep_here"] (spLM L) := by
  have GNM := ok_name (base := base) T
  refine T.F_law_many.ok sc_law_many (fun vs H Q E h => ?_) (fun cdv A outer s H vs Q E hr h => ?_)
  · obtain ⟨z, px, ns, d, rfl, _⟩ := h
    rfl
  · obtain ⟨z, px, ns, d, rfl, hz, hH, hg, hl, hL, h96, hd, hd8, k⟩ := h
    have nd := sc_law_many.nd
    have hrX : Room (2 * L + 4) _ := hr
    have hr1 := hrX.mono (show 1 ≤ 2 * L + 4 by omega)
    refine ⟨_, (@pss_cons _ _ _ _ _ (@ps_set _ _ 3 _ _ _ _ nd rfl (Or.inl rfl) (pe_call GNM hr1 rfl T.m_law_name T.k_law_name T.b_law_name .nil pass0 (@pa_cons _ _ _ _ _ (pe_bm0 PySem.F.plainAttrs_list PySem.F.slot_list_pop PySem.F.type_list_pop mt_pop (pv 1)) pa_nil (by rfl))) (by rfl) (by first | exact .inl rfl | exact .inr rfl | assumption)) (@pss_cons _ _ _ _ _ (@ps_set _ _ 4 _ _ _ _ nd rfl (Or.inl rfl) (@pe_lst _ _ _ _ (@pa_cons _ _ _ _ _ (pv 0) (@pa_cons _ _ _ _ _ (pv 3) pa_nil (by rfl)) (by rfl))) (by rfl) (by first | exact .inl rfl | exact .inr rfl | assumption)) (@pss_cons _ _ _ _ _ (@ps_set _ _ 5 _ _ _ _ nd rfl (Or.inl rfl) (@pe_lst _ _ _ _ pa_nil) (by rfl) (by first | exact .inl rfl | exact .inr rfl | assumption)) (@pss_cons _ _ _ _ _ (@ps_for _ _ _ _ _ _ _ _ PassesOwn.never rfl (pi_range1 rfl T.n_range (@pa_cons _ _ _ _ _ (@pe_op _ _ _ _ _ _ _ _ op_mod (pe_bm0 PySem.F.plainAttrs_list PySem.F.slot_list_pop PySem.F.type_list_pop mt_pop (pv 1)) pe_int) pa_nil (by rfl))) (pg_name (i := 6) nd rfl (Or.inl rfl)) (@pss_cons _ _ _ _ _ (ps_asg (pe_call GXP hrX rfl T.m_law_expr T.k_law_expr T.b_law_expr .nil pass0 (@pa_cons _ _ _ _ _ (pv 1) (@pa_cons _ _ _ _ _ (@pe_op _ _ _ _ _ _ _ _ op_sub (pv 2) pe_int) pa_nil (by rfl)) (by rfl))) (pg_tup rfl (pgs_cons (pg_name (i := 7) nd rfl (Or.inl rfl)) (pgs_cons (pg_name (i := 8) nd rfl (Or.inl rfl)) pgs_nil)))) (@pss_cons _ _ _ _ _ (@ps_set _ _ 4 _ _ _ _ nd rfl (Or.inl rfl) (@pe_op _ _ _ _ _ _ _ _ op_cat (pv 4) (pv 7)) (by rfl) (by first | exact .inl rfl | exact .inr rfl | assumption)) (@pss_one _ _ _ (@ps_expr _ _ _ _ (pe_bm PySem.F.plainAttrs_list PySem.F.slot_list_append PySem.F.type_list_append mt_append (pv 5) (@pa_cons _ _ _ _ _ (pv 8) pa_nil (by rfl))) (by rfl))))) (by intro _; rfl)) (@pss_one _ _ _ (@ps_ret _ _ _ _ (@pe_tup _ _ _ _ _ (@pa_cons _ _ _ _ _ (@pe_op _ _ _ _ _ _ _ _ op_cat (pv 4) (@pe_lst _ _ _ _ (@pa_cons _ _ _ _ _ pe_str pa_nil (by rfl)))) (@pa_cons _ _ _ _ _ (@pe_tup _ _ _ _ _ (@pa_cons _ _ _ _ _ (pv 0) (@pa_cons _ _ _ _ _ (pv 3) (@pa_cons _ _ _ _ _ (pe_callTy call_tuple_of rfl T.n_tuple bt_tuple (@pa_cons _ _ _ _ _ (pv 5) pa_nil (by rfl))) pa_nil (by rfl)) (by rfl)) (by rfl))) pa_nil (by rfl)) (by rfl))))))))), ?_⟩
    clear GNM GXP T hr hr1 hrX
    obtain ⟨x1, n1, l1, a1, b1, g1, q1, _⟩ := pop_at (by omega) hg
    refine ⟨_, rfl, .inl ⟨rfl, _, SqL.of hH⟩, px, _, _, rfl, rfl, hH, a1, x1, rfl, q1, ?_⟩
    rw [b1]
    refine ⟨_, rfl, _, rfl, small1000 (Nat.le_of_ble_eq_true rfl), fun p1 h1 => ?_⟩
    refine ⟨Nat.zero_le _, fun p2 h2 => ?_⟩
    have n12 : p2 ≠ p1 := fun e => by rw [e, upd_same] at h2; cases h2
    have h2' : upd H px (.lst (n1.map V.int)) p2 = none := by rw [upd_ne n12] at h2; exact h2
    have n2x : p2 ≠ px := fun e => by rw [e, upd_same] at h2'; cases h2'
    have hp2 : H p2 = none := by rw [upd_ne n2x] at h2'; exact h2'
    have n1x : p1 ≠ px := fun e => by rw [e, upd_same] at h1; cases h1
    have hp1 : H p1 = none := by rw [upd_ne n1x] at h1; exact h1
    obtain ⟨H0, hH0⟩ : ∃ H0, H0 = upd (upd (upd H px (.lst (n1.map V.int))) p1 (.lst [V.str z, V.str (nameF x1)])) p2 (.lst []) := ⟨_, rfl⟩
    rw [← hH0]
    have hpx0 : H0 px = some (.lst (n1.map V.int)) := by rw [hH0, upd_ne n2x.symm, upd_ne n1x.symm, upd_same]
    have hpw0 : H0 p1 = some (.lst [V.str z, V.str (nameF x1)]) := by rw [hH0, upd_ne n12.symm, upd_same]
    have hpp0 : H0 p2 = some (.lst []) := by rw [hH0, upd_same]
    have hb0 : ButO px H H0 := by
      rw [hH0]
      exact (ButO.upd px H _).trans ((same_upd h1).trans (same_upd h2)).but
    clear hH0
    dsimp only [gName]
    refine cut_for (fun σ' H' => ∃ (ns' : List Int) (es : List Ex) (vs : List V) (pw : Addr) (x6 x7 x8 : Option V), ButO px H H' ∧ H' px = some (.lst (ns'.map V.int)) ∧ GN ns' ∧ H' pw = some (.lst ((z :: nameF x1 :: wdsL es).map V.str)) ∧ H' p2 = some (.lst vs) ∧ ExsAt H' vs es ∧ GoodL es ∧ vs.length ≤ 3 ∧ (wdsL es).length + ns'.length + 2 ≤ ns.length ∧ 34 ≤ ns'.length + 2 * (d - 1) ∧
        σ' = [some (.str z), some (.ref px), some (.int ((d : Nat) : Int)), some (.str (nameF x1)), some (.ref pw), some (.ref p2), x6, x7, x8]) (fun R hR => ?_) ?_
    · obtain ⟨x2, n2, l2, a2, b2, g2, q2, _⟩ := pop_at (by omega) g1
      obtain ⟨m, em, hm⟩ := modN (a := x2) (n := 4) (by decide)
      have em : x2 % 4 = ((m : Nat) : Int) := em
      refine ⟨_, rfl, .inl ⟨rfl, _, SqL.of hpx0⟩, px, _, _, rfl, rfl, hpx0, a2, _, _, rfl, rfl, (by show (0 : Int) < 4; decide), _, rfl, ?_, ?_, ?_⟩
      · rw [em]; omega
      · rw [em]; omega
      rw [em, Int.toNat_natCast, b2]
      refine for_range (D := ⟨R, _, R, R⟩) (fun i σ' H' => ∃ (ns' : List Int) (es : List Ex) (vs : List V) (pw : Addr) (x6 x7 x8 : Option V), ButO px H H' ∧ H' px = some (.lst (ns'.map V.int)) ∧ GN ns' ∧ H' pw = some (.lst ((z :: nameF x1 :: wdsL es).map V.str)) ∧ H' p2 = some (.lst vs) ∧ ExsAt H' vs es ∧ GoodL es ∧ vs.length = i ∧ (wdsL es).length + ns'.length + 2 ≤ ns.length ∧ 37 ≤ ns'.length + 2 * (d - 1) + i ∧
        σ' = [some (.str z), some (.ref px), some (.int ((d : Nat) : Int)), some (.str (nameF x1)), some (.ref pw), some (.ref p2), x6, x7, x8])
        ⟨n2, [], [], p1, none, none, none, hb0.trans (ButO.upd px H0 _), upd_same, g2, (by rw [upd_ne n1x]; exact hpw0), (by rw [upd_ne n2x]; exact hpp0), .nil, trivial, rfl, by simp [wdsL]; omega, by omega, rfl⟩ ?_ ?_
      · rintro i σ' H' hi ⟨n3, es, vs, pw, x6, x7, x8, hb, hpx, g3, hpw, hpp, hex, hgl, hvl, hwl, h37, rfl⟩
        refine ⟨_, rfl, _, rfl, _, _, rfl, rfl, ?_⟩
        refine ⟨px, n3, d - 1, (dsub (by omega)), hpx, g3, by omega, by omega, by omega, by omega, by omega, fun t e n4 H2 b2 hpx2 g4 we ge lw l40 g40 => ?_⟩
        obtain ⟨pe, ve, w1, w2, w3⟩ := we
        have npx : pw ≠ px := ne_px hpx hpw
        have hpw2 := b2 _ _ hpw npx
        have hpp2 := b2 _ _ hpp n2x
        have hvs : vs.length ≤ 3 := by omega
        have hsz : ((z :: nameF x1 :: wdsL es).map V.str).length + ((wdsE e).map V.str).length ≤ 1000 := by
          rw [List.length_map, List.length_map, List.length_cons, List.length_cons]; omega
        refine ⟨t, _, rfl, SqT.of w1, rfl, _, _, rfl, _, _, rfl, rfl, _, rfl, _, rfl, pw, pe, _, _, rfl, rfl, hpw2, w2, Nat.le_of_lt (small1000 hsz), fun p3 h3 => ?_⟩
        have n32 : p2 ≠ p3 := ne_of_none hpp2 h3
        have n3x : px ≠ p3 := ne_of_none hpx2 h3
        have hpp3 : upd H2 p3 (.lst ((z :: nameF x1 :: wdsL es).map V.str ++ (wdsE e).map V.str)) p2 = some (.lst vs) := by rw [upd_ne n32]; exact hpp2
        refine ⟨_, rfl, .inl ⟨rfl, _, SqL.of hpp3⟩, _, rfl, p2, _, _, rfl, rfl, hpp3, small1000 (by omega), ?_⟩
        have tp : TupS H2 (upd (upd H2 p3 (.lst ((z :: nameF x1 :: wdsL es).map V.str ++ (wdsE e).map V.str))) p2 (.lst (vs ++ [ve]))) := by
          intro b xs hbx
          exact tups_upd (fun ys q => by rw [hpp3] at q; cases q) _ _ (same_upd h3 _ _ hbx)
        refine ⟨n4, es ++ [e], vs ++ [ve], p3, _, _, _, ?_, ?_, g4, ?_, upd_same, ?_, GoodL.app hgl ge, ?_, ?_, ?_, rfl⟩
        · intro b u hbu hne
          have hn2 : b ≠ p2 := ne_of_none hbu hp2
          rw [upd_ne hn2]
          exact same_upd h3 _ _ (b2 _ _ (hb _ _ hbu hne) hne)
        · rw [upd_ne n2x.symm, upd_ne n3x]; exact hpx2
        · rw [upd_ne n32.symm, upd_same, wdsL_app, ← List.map_append]; rfl
        · exact ((hex.kept (but_tups b2 hpx)).kept tp).snoc (w3.kept tp)
        · rw [List.length_append, hvl]; rfl
        · rw [wdsL_app, List.length_append]; omega
        · by_cases h4 : n3.length < 40
          · have := l40 h4; omega
          · have := g40 (by omega); omega
      · rintro σ' H' ⟨n3, es, vs, pw, x6, x7, x8, hb, hpx, g3, hpw, hpp, hex, hgl, hvl, hwl, h37, rfl⟩
        exact hR _ _ ⟨n3, es, vs, pw, x6, x7, x8, hb, hpx, g3, hpw, hpp, hex, hgl, by omega, hwl, by omega, rfl⟩
    rintro σ' H' ⟨n3, es, vs, pw, x6, x7, x8, hb, hpx, g3, hpw, hpp, hex, hgl, hvl, hwl, h37, rfl⟩
    refine ⟨_, rfl, small1000 (Nat.le_of_ble_eq_true rfl), fun q1 hq1 => ?_⟩
    have s1 := same_upd (o := .lst [V.str "."]) hq1
    refine ⟨pw, q1, _, _, rfl, rfl, s1 _ _ hpw, upd_same, Nat.le_of_lt (small1000 ?_), fun q2 hq2 => ?_⟩
    · rw [List.length_map, List.length_cons, List.length_cons]; show _ + 1 ≤ _; omega
    have s2 := s1.trans (same_upd (o := .lst ((z :: nameF x1 :: wdsL es).map V.str ++ [V.str "."])) hq2)
    refine ⟨_, rfl, _, rfl, _, rfl, p2, vs, rfl, .inl ⟨SqL.of (s2 _ _ hpp), fun q3 hq3 => ?_⟩⟩
    have s3 := same_upd (o := .tup vs) hq3
    refine ⟨small1000 (Nat.le_of_ble_eq_true rfl), fun q4 hq4 => ?_⟩
    have s4 := same_upd (o := .tup [V.str z, V.str (nameF x1), .ref q3]) hq4
    refine ⟨small1000 (Nat.le_of_ble_eq_true rfl), fun q5 hq5 => ?_⟩
    have s5 := same_upd (o := .tup [V.ref q2, .ref q4]) hq5
    have st := ((s2.trans s3).trans s4).trans s5
    refine k q5 (.many z (nameF x1) es) n3 _ (hb.trans st.but) (st _ _ hpx) g3 ⟨q2, .ref q4, upd_same, ?_, .many (s5 _ _ upd_same) ((s4.trans s5) _ _ upd_same) (hex.kept st.tups)⟩ ⟨hz, nameF_ok _, hgl⟩ ?_ ?_
    · rw [((s3.trans s4).trans s5) _ _ upd_same]
      simp [wdsE]
    · simp [wdsE]; omega
    · omega
noncomputable abbrev N_law_expr : List Str := ["_law_xs", "_law_deep_here", "_law_form", "_law_word", "_law_left", "_law_one", "_law_right", "_law_other", "_law_words_here", "_law_e", "_law_name_here"]
theorem sc_law_expr : FnScope N_law_expr ["_law_xs", "_law_deep_here"] (defScope st_law_expr) := ⟨rfl, rfl, rfl, by decide +kernel, rfl, by decide +kernel, by decide +kernel⟩
theorem ok_leS (T : All P w K mg AA DD) (L : Nat) (GXP : FnOk P w K mg base CX0 (2 * L + 4) AA.law_expr DD.law_expr ["_law_xs", "_law_deep_here"] (spLE L)) (GMN : FnOk P w K mg base CX0 (2 * L + 5) AA.law_many DD.law_many ["_law_word", "_law_xs", "_law_deep_here"] (spLM L)) :
    FnOk P w K mg base CX0 (2 * L + 6) AA.law_expr DD.law_expr ["_law_xs", "_law_deep_here"] (spLE (L + 1)) := by
  have GNM := ok_name (base := base) T
  have GLF := ok_leaf (base := base) T
  refine T.F_law_expr.ok sc_law_expr (fun vs H Q E h => ?_) (fun cdv A outer s H vs Q E hr h => ?_)
  · obtain ⟨px, ns, d, rfl, _⟩ := h
    rfl
  · obtain ⟨px, ns, d, rfl, hH, hg, hl, hL, h96, hd, hd8, k⟩ := h
    have nd := sc_law_expr.nd
    have hrM : Room (2 * L + 5) _ := hr
    have hrX := hrM.mono (show 2 * L + 4 ≤ 2 * L + 5 by omega)
    have hr1 := hrM.mono (show 1 ≤ 2 * L + 5 by omega)
    have hr2 := hrM.mono (show 2 ≤ 2 * L + 5 by omega)
    refine ⟨_, (@pss_cons _ _ _ _ _ (@ps_if _ _ _ _ _ _ _ _ (PW.pt (pw_or (@pt_cmpR _ _ _ _ _ _ _ _ op_le (pv 1) pe_int (nomark _)) (pw_or1 (@pt_cmpR _ _ _ _ _ _ _ _ op_lt (pe_callB call_len_seq rfl T.n_len bt_len (@pa_cons _ _ _ _ _ (pv 0) pa_nil (by rfl))) pe_int (nomark _))))) (@pss_one _ _ _ (@ps_ret _ _ _ _ (pe_call GLF hr2 rfl T.m_law_leaf T.k_law_leaf T.b_law_leaf .nil pass0 (@pa_cons _ _ _ _ _ (pe_bm0 PySem.F.plainAttrs_list PySem.F.slot_list_pop PySem.F.type_list_pop mt_pop (pv 0)) pa_nil (by rfl))))) pss_nil) (@pss_cons _ _ _ _ _ (@ps_set _ _ 2 _ _ _ _ nd rfl (Or.inl rfl) (@pe_op _ _ _ _ _ _ _ _ op_mod (@pe_op _ _ _ _ _ _ _ _ op_fdiv (pe_bm0 PySem.F.plainAttrs_list PySem.F.slot_list_pop PySem.F.type_list_pop mt_pop (pv 0)) pe_int) pe_int) (by rfl) (by first | exact .inl rfl | exact .inr rfl | assumption)) (@pss_cons _ _ _ _ _ (@ps_if _ _ _ _ _ _ _ _ (@pt_cmpR _ _ _ _ _ _ _ _ op_lt (pv 2) pe_int (nomark _)) (@pss_cons _ _ _ _ _ (@ps_set _ _ 3 _ _ _ _ nd rfl (Or.inl rfl) (@pe_ix _ _ _ _ _ _ _ (ix_listK (K := K) rfl) (@pe_lst _ _ _ _ (@pa_cons _ _ _ _ _ pe_str (@pa_cons _ _ _ _ _ pe_str (@pa_cons _ _ _ _ _ pe_str (@pa_cons _ _ _ _ _ pe_str (@pa_cons _ _ _ _ _ pe_str (@pa_cons _ _ _ _ _ pe_str (@pa_cons _ _ _ _ _ pe_str pa_nil (by rfl)) (by rfl)) (by rfl)) (by rfl)) (by rfl)) (by rfl)) (by rfl))) (pv 2) (fun _ _ => rfl)) (by rfl) (by first | exact .inl rfl | exact .inr rfl | assumption)) (@pss_cons _ _ _ _ _ (ps_asg (pe_call GXP hrX rfl T.m_law_expr T.k_law_expr T.b_law_expr .nil pass0 (@pa_cons _ _ _ _ _ (pv 0) (@pa_cons _ _ _ _ _ (@pe_op _ _ _ _ _ _ _ _ op_sub (pv 1) pe_int) pa_nil (by rfl)) (by rfl))) (pg_tup rfl (pgs_cons (pg_name (i := 4) nd rfl (Or.inl rfl)) (pgs_cons (pg_name (i := 5) nd rfl (Or.inl rfl)) pgs_nil)))) (@pss_cons _ _ _ _ _ (ps_asg (pe_call GXP hrX rfl T.m_law_expr T.k_law_expr T.b_law_expr .nil pass0 (@pa_cons _ _ _ _ _ (pv 0) (@pa_cons _ _ _ _ _ (@pe_op _ _ _ _ _ _ _ _ op_add pe_int (@pe_op _ _ _ _ _ _ _ _ op_mul (@pe_op _ _ _ _ _ _ _ _ op_sub (pv 1) pe_int) (@pe_op _ _ _ _ _ _ _ _ op_mod (@pe_op _ _ _ _ _ _ _ _ op_fdiv (pe_bm0 PySem.F.plainAttrs_list PySem.F.slot_list_pop PySem.F.type_list_pop mt_pop (pv 0)) pe_int) pe_int))) pa_nil (by rfl)) (by rfl))) (pg_tup rfl (pgs_cons (pg_name (i := 6) nd rfl (Or.inl rfl)) (pgs_cons (pg_name (i := 7) nd rfl (Or.inl rfl)) pgs_nil)))) (@pss_one _ _ _ (@ps_ret _ _ _ _ (@pe_tup _ _ _ _ _ (@pa_cons _ _ _ _ _ (@pe_op _ _ _ _ _ _ _ _ op_cat (@pe_op _ _ _ _ _ _ _ _ op_cat (@pe_lst _ _ _ _ (@pa_cons _ _ _ _ _ (pv 3) pa_nil (by rfl))) (pv 4)) (pv 6)) (@pa_cons _ _ _ _ _ (@pe_tup _ _ _ _ _ (@pa_cons _ _ _ _ _ (pv 3) (@pa_cons _ _ _ _ _ (pv 5) (@pa_cons _ _ _ _ _ (pv 7) pa_nil (by rfl)) (by rfl)) (by rfl))) pa_nil (by rfl)) (by rfl)))))))) pss_nil) (@pss_cons _ _ _ _ _ (@ps_if _ _ _ _ _ _ _ _ (@pt_cmpR _ _ _ _ _ _ _ _ op_eq (pv 2) pe_int (nomark _)) (@pss_cons _ _ _ _ _ (ps_asg (pe_call GXP hrX rfl T.m_law_expr T.k_law_expr T.b_law_expr .nil pass0 (@pa_cons _ _ _ _ _ (pv 0) (@pa_cons _ _ _ _ _ (@pe_op _ _ _ _ _ _ _ _ op_sub (pv 1) pe_int) pa_nil (by rfl)) (by rfl))) (pg_tup rfl (pgs_cons (pg_name (i := 8) nd rfl (Or.inl rfl)) (pgs_cons (pg_name (i := 9) nd rfl (Or.inl rfl)) pgs_nil)))) (@pss_one _ _ _ (@ps_ret _ _ _ _ (@pe_tup _ _ _ _ _ (@pa_cons _ _ _ _ _ (@pe_op _ _ _ _ _ _ _ _ op_cat (@pe_lst _ _ _ _ (@pa_cons _ _ _ _ _ pe_str pa_nil (by rfl))) (pv 8)) (@pa_cons _ _ _ _ _ (@pe_tup _ _ _ _ _ (@pa_cons _ _ _ _ _ pe_str (@pa_cons _ _ _ _ _ (pv 9) pa_nil (by rfl)) (by rfl))) pa_nil (by rfl)) (by rfl)))))) pss_nil) (@pss_cons _ _ _ _ _ (@ps_if _ _ _ _ _ _ _ _ (@pt_cmpR _ _ _ _ _ _ _ _ op_eq (pv 2) pe_int (nomark _)) (@pss_cons _ _ _ _ _ (@ps_set _ _ 10 _ _ _ _ nd rfl (Or.inl rfl) (pe_call GNM hr1 rfl T.m_law_name T.k_law_name T.b_law_name .nil pass0 (@pa_cons _ _ _ _ _ (pe_bm0 PySem.F.plainAttrs_list PySem.F.slot_list_pop PySem.F.type_list_pop mt_pop (pv 0)) pa_nil (by rfl))) (by rfl) (by first | exact .inl rfl | exact .inr rfl | assumption)) (@pss_cons _ _ _ _ _ (ps_asg (pe_call GXP hrX rfl T.m_law_expr T.k_law_expr T.b_law_expr .nil pass0 (@pa_cons _ _ _ _ _ (pv 0) (@pa_cons _ _ _ _ _ (@pe_op _ _ _ _ _ _ _ _ op_sub (pv 1) pe_int) pa_nil (by rfl)) (by rfl))) (pg_tup rfl (pgs_cons (pg_name (i := 8) nd rfl (Or.inl rfl)) (pgs_cons (pg_name (i := 9) nd rfl (Or.inl rfl)) pgs_nil)))) (@pss_one _ _ _ (@ps_ret _ _ _ _ (@pe_tup _ _ _ _ _ (@pa_cons _ _ _ _ _ (@pe_op _ _ _ _ _ _ _ _ op_cat (@pe_lst _ _ _ _ (@pa_cons _ _ _ _ _ pe_str (@pa_cons _ _ _ _ _ (pv 10) pa_nil (by rfl)) (by rfl))) (pv 8)) (@pa_cons _ _ _ _ _ (@pe_tup _ _ _ _ _ (@pa_cons _ _ _ _ _ pe_str (@pa_cons _ _ _ _ _ (pv 10) (@pa_cons _ _ _ _ _ (pv 9) pa_nil (by rfl)) (by rfl)) (by rfl))) pa_nil (by rfl)) (by rfl))))))) pss_nil) (@pss_one _ _ _ (@ps_ret _ _ _ _ (pe_call GMN hrM rfl T.m_law_many T.k_law_many T.b_law_many .nil pass0 (@pa_cons _ _ _ _ _ (@pe_ix _ _ _ _ _ _ _ (ix_listK (K := K) rfl) (@pe_lst _ _ _ _ (@pa_cons _ _ _ _ _ pe_str (@pa_cons _ _ _ _ _ pe_str pa_nil (by rfl)) (by rfl))) (@pe_op _ _ _ _ _ _ _ _ op_sub (pv 2) pe_int) (fun _ _ => rfl)) (@pa_cons _ _ _ _ _ (pv 0) (@pa_cons _ _ _ _ _ (pv 1) pa_nil (by rfl)) (by rfl)) (by rfl)))))))))), ?_⟩
    clear GNM GXP GMN GLF T hr hr1 hr2 hrX hrM
    obtain ⟨x1, n1, l1, a1, b1, g1, q1, r1⟩ := pop_at hl hg
    refine ⟨_, rfl, _, _, rfl, rfl, _, rfl, ?_⟩
    refine ite2 (fun _ => ?_) (fun c1 => ?_)
    · refine ⟨_, rfl, .inl ⟨rfl, _, SqL.of hH⟩, px, _, _, rfl, rfl, hH, a1, x1, rfl, q1, r1, fun t e H' sm we ge lw de => ?_⟩
      rw [b1] at sm
      exact k t e n1 H' ((ButO.upd px H _).trans sm.but) (sm _ _ upd_same) g1 we ge (by omega) (fun _ => l1) (fun _ => by omega)
    have c1 : ¬ (((d : Nat) : Int) ≤ 1) := fun q => c1 (decide_eq_true q)
    refine ⟨_, rfl, px, _, rfl, .inl (SqL.of hH), _, _, rfl, rfl, _, rfl, ?_⟩
    rw [List.length_map]
    refine ite2 (fun _ => ?_) (fun c2 => ?_)
    · refine ⟨_, rfl, .inl ⟨rfl, _, SqL.of hH⟩, px, _, _, rfl, rfl, hH, a1, x1, rfl, q1, r1, fun t e H' sm we ge lw de => ?_⟩
      rw [b1] at sm
      exact k t e n1 H' ((ButO.upd px H _).trans sm.but) (sm _ _ upd_same) g1 we ge (by omega) (fun _ => l1) (fun _ => by omega)
    have c2 : ¬ (((ns.length : Nat) : Int) < 40) := fun q => c2 (decide_eq_true q)
    obtain ⟨m, em, hm⟩ := modN (a := x1 / 7) (n := 11) (by decide)
    have em : x1 / 7 % 11 = ((m : Nat) : Int) := em
    refine ⟨_, rfl, .inl ⟨rfl, _, SqL.of hH⟩, px, _, _, rfl, rfl, hH, a1, _, _, rfl, rfl, ⟨by decide, by decide⟩, _, _, rfl, rfl, (by show (0 : Int) < 11; decide), ?_⟩
    rw [b1]
    dsimp only [gName]
    rw [em]
    have hb1 := ButO.upd px H (.lst (n1.map V.int))
    have hpx1 : upd H px (.lst (n1.map V.int)) px = some (.lst (n1.map V.int)) := upd_same
    generalize upd H px (.lst (n1.map V.int)) = H1 at hb1 hpx1 ⊢
    refine ⟨_, rfl, _, _, rfl, rfl, _, rfl, ?_⟩
    refine ite2 (fun c3 => ?_) (fun c3 => ?_)
    · have c3 : ((m : Nat) : Int) < 7 := of_decide_eq_true c3
      refine ⟨small1000 (Nat.le_of_ble_eq_true rfl), fun p0 h0 => ?_⟩
      have hm7 : m < ops7.length := by show m < 7; omega
      refine ⟨_, rfl, p0, ops7.map V.str, _, .str ops7[m], rfl, rfl, SqL.of upd_same, atI_nat (j := m) (by rw [List.getElem?_map, List.getElem?_eq_getElem hm7]; rfl), ?_⟩
      have hwd : ops7[m] ∈ ops7 := List.getElem_mem hm7
      generalize ops7[m] = wd at hwd ⊢
      have s0 := same_upd (o := .lst (ops7.map V.str)) h0
      have hb2 : ButO px H _ := hb1.trans s0.but
      have hpx2 := s0 _ _ hpx1
      change gName 3 _ _ (upd H1 p0 (.lst (ops7.map V.str))) _
      generalize upd H1 p0 (.lst (ops7.map V.str)) = H2 at hb2 hpx2 ⊢
      refine ⟨_, rfl, _, rfl, _, _, rfl, rfl, px, n1, d - 1, dsub (by omega), hpx2, g1, by omega, by omega, by omega, by omega, by omega, fun t1 e1 n2 H3 b3 hpx3 g2 we1 ge1 lw1 l401 g401 => ?_⟩
      have hn2 : 36 ≤ n2.length + 2 * (d - 1) := by
        by_cases h4 : n1.length < 40
        · have := l401 h4; omega
        · exact g401 (by omega)
      obtain ⟨pe1, v1, w1, w2, w3⟩ := we1
      refine ⟨t1, _, rfl, SqT.of w1, rfl, _, _, rfl, _, _, rfl, rfl, ?_⟩
      obtain ⟨x2, n3, l2, a2, b2, g3, q2, _⟩ := pop_at (by omega) g2
      obtain ⟨m2, em2, hm2⟩ := modN (a := x2 / 3) (n := 2) (by decide)
      have em2 : x2 / 3 % 2 = ((m2 : Nat) : Int) := em2
      refine ⟨_, rfl, _, rfl, _, _, rfl, rfl, _, rfl, .inl ⟨rfl, _, SqL.of hpx3⟩, px, _, _, rfl, rfl, hpx3, a2, _, _, rfl, rfl, ⟨by decide, by decide⟩, _, _, rfl, rfl, (by show (0 : Int) < 2; decide), _, _, rfl, rfl, .inl ⟨by omega, by omega⟩, _, _, rfl, rfl, ?_⟩
      rw [b2]
      obtain ⟨dd, hdd, hd1, hd2⟩ : ∃ dd : Nat, 1 + (((d : Nat) : Int) - 1) * (x2 / 3 % 2) = ((dd : Nat) : Int) ∧ 1 ≤ dd ∧ dd ≤ d := by
        rw [em2]
        rcases (by omega : m2 = 0 ∨ m2 = 1) with rfl | rfl
        · exact ⟨1, by simp, by omega, by omega⟩
        · exact ⟨d, by simp; omega, by omega, by omega⟩
      refine ⟨px, n3, dd, (by show [V.ref px, V.int (1 + (((d : Nat) : Int) - 1) * (x2 / 3 % 2))] = _; rw [hdd]), upd_same, g3, by omega, by omega, by omega, by omega, by omega, fun t2 e2 n4 H5 b5 hpx5 g4 we2 ge2 lw2 l402 g402 => ?_⟩
      have bw := (ButO.upd px H3 (.lst (n3.map V.int))).trans b5
      have hpe1 : H5 pe1 = _ := bw _ _ w2 (fun z => by
        have hp := wdsE_pos e1
        cases he : wdsE e1 with
        | nil => rw [he] at hp; exact absurd hp (by decide)
        | cons y ys => rw [he] at w2; exact ne_px hpx3 w2 z)
      have w3' : ExAt H5 v1 e1 := w3.kept (but_tups bw hpx3)
      obtain ⟨pe2, v2, y1, y2, y3⟩ := we2
      refine ⟨t2, _, rfl, SqT.of y1, rfl, _, _, rfl, _, _, rfl, rfl, ?_⟩
      refine ⟨_, rfl, small1000 (Nat.le_of_ble_eq_true rfl), fun u1 hu1 => ?_⟩
      have s1 := same_upd (o := .lst [V.str wd]) hu1
      refine ⟨_, rfl, u1, pe1, _, _, rfl, rfl, upd_same, s1 _ _ hpe1, Nat.le_of_lt (small1000 (by rw [List.length_map]; show 1 + _ ≤ _; omega)), fun u2 hu2 => ?_⟩
      have s2 := same_upd (o := .lst ([V.str wd] ++ (wdsE e1).map V.str)) hu2
      refine ⟨_, rfl, u2, pe2, _, _, rfl, rfl, upd_same, (s1.trans s2) _ _ y2, Nat.le_of_lt (small1000 (by simp; omega)), fun u3 hu3 => ?_⟩
      have s3 := same_upd (o := .lst ([V.str wd] ++ (wdsE e1).map V.str ++ (wdsE e2).map V.str)) hu3
      refine ⟨_, rfl, _, rfl, _, rfl, small1000 (Nat.le_of_ble_eq_true rfl), fun u4 hu4 => ?_⟩
      have s4 := same_upd (o := .tup [V.str wd, v1, v2]) hu4
      refine ⟨small1000 (Nat.le_of_ble_eq_true rfl), fun u5 hu5 => ?_⟩
      have s5 := same_upd (o := .tup [V.ref u3, .ref u4]) hu5
      have st := (((s1.trans s2).trans s3).trans s4).trans s5
      refine k u5 (.op wd e1 e2) n4 _ (((hb2.trans b3).trans bw).trans st.but) (st _ _ hpx5) g4 ⟨u3, .ref u4, upd_same, ?_, .op (s5 _ _ upd_same) (w3'.kept st.tups) (y3.kept st.tups)⟩ ⟨hwd, ge1, ge2⟩ ?_ (fun _ => by omega) (fun _ => ?_)
      · rw [(s4.trans s5) _ _ upd_same]
        simp [wdsE]
      · simp [wdsE]; omega
      · by_cases h4 : n3.length < 40
        · have := l402 h4; omega
        · have := g402 (by omega); omega
    have c3 : ¬ (((m : Nat) : Int) < 7) := fun q => c3 (decide_eq_true q)
    refine ⟨_, rfl, rfl, _, rfl, ?_⟩
    refine ite2 (fun c4 => ?_) (fun c4 => ?_)
    · refine ⟨_, rfl, _, rfl, _, _, rfl, rfl, px, n1, d - 1, dsub (by omega), hpx1, g1, by omega, by omega, by omega, by omega, by omega, fun t1 e1 n2 H3 b3 hpx3 g2 we1 ge1 lw1 l401 g401 => ?_⟩
      obtain ⟨pe1, v1, w1, w2, w3⟩ := we1
      refine ⟨t1, _, rfl, SqT.of w1, rfl, _, _, rfl, _, _, rfl, rfl, ?_⟩
      refine ⟨small1000 (Nat.le_of_ble_eq_true rfl), fun u1 hu1 => ?_⟩
      have s1 := same_upd (o := .lst [V.str "not"]) hu1
      refine ⟨_, rfl, u1, pe1, _, _, rfl, rfl, upd_same, s1 _ _ w2, Nat.le_of_lt (small1000 (by rw [List.length_map]; show 1 + _ ≤ _; omega)), fun u2 hu2 => ?_⟩
      have s2 := same_upd (o := .lst ([V.str "not"] ++ (wdsE e1).map V.str)) hu2
      refine ⟨_, rfl, small1000 (Nat.le_of_ble_eq_true rfl), fun u4 hu4 => ?_⟩
      have s4 := same_upd (o := .tup [V.str "not", v1]) hu4
      refine ⟨small1000 (Nat.le_of_ble_eq_true rfl), fun u5 hu5 => ?_⟩
      have s5 := same_upd (o := .tup [V.ref u2, .ref u4]) hu5
      have st := ((s1.trans s2).trans s4).trans s5
      refine k u5 (.not e1) n2 _ ((hb1.trans b3).trans st.but) (st _ _ hpx3) g2 ⟨u2, .ref u4, upd_same, ?_, .not (s5 _ _ upd_same) (w3.kept st.tups)⟩ ge1 ?_ (fun _ => by omega) (fun _ => ?_)
      · rw [(s4.trans s5) _ _ upd_same]
        simp [wdsE]
      · simp [wdsE]; omega
      · by_cases h4 : n1.length < 40
        · have := l401 h4; omega
        · have := g401 (by omega); omega
    refine ⟨_, rfl, rfl, _, rfl, ?_⟩
    refine ite2 (fun c5 => ?_) (fun c5 => ?_)
    · obtain ⟨x2, n2, l2, a2, b2, g2, q2, _⟩ := pop_at (by omega) g1
      refine ⟨_, rfl, .inl ⟨rfl, _, SqL.of hpx1⟩, px, _, _, rfl, rfl, hpx1, a2, x2, rfl, q2, ?_⟩
      rw [b2]
      have hb2 := hb1.trans (ButO.upd px H1 (.lst (n2.map V.int)))
      refine ⟨_, rfl, _, rfl, _, _, rfl, rfl, px, n2, d - 1, dsub (by omega), upd_same, g2, by omega, by omega, by omega, by omega, by omega, fun t1 e1 n3 H3 b3 hpx3 g3 we1 ge1 lw1 l401 g401 => ?_⟩
      obtain ⟨pe1, v1, w1, w2, w3⟩ := we1
      refine ⟨t1, _, rfl, SqT.of w1, rfl, _, _, rfl, _, _, rfl, rfl, ?_⟩
      refine ⟨_, rfl, small1000 (Nat.le_of_ble_eq_true rfl), fun u1 hu1 => ?_⟩
      have s1 := same_upd (o := .lst [V.str "of", V.str (nameF x2)]) hu1
      refine ⟨_, rfl, u1, pe1, _, _, rfl, rfl, upd_same, s1 _ _ w2, Nat.le_of_lt (small1000 (by rw [List.length_map]; show 2 + _ ≤ _; omega)), fun u2 hu2 => ?_⟩
      have s2 := same_upd (o := .lst ([V.str "of", V.str (nameF x2)] ++ (wdsE e1).map V.str)) hu2
      refine ⟨_, rfl, _, rfl, small1000 (Nat.le_of_ble_eq_true rfl), fun u4 hu4 => ?_⟩
      have s4 := same_upd (o := .tup [V.str "of", V.str (nameF x2), v1]) hu4
      refine ⟨small1000 (Nat.le_of_ble_eq_true rfl), fun u5 hu5 => ?_⟩
      have s5 := same_upd (o := .tup [V.ref u2, .ref u4]) hu5
      have st := ((s1.trans s2).trans s4).trans s5
      refine k u5 (.of (nameF x2) e1) n3 _ ((hb2.trans b3).trans st.but) (st _ _ hpx3) g3 ⟨u2, .ref u4, upd_same, ?_, .of (s5 _ _ upd_same) (w3.kept st.tups)⟩ ⟨nameF_ok _, ge1⟩ ?_ (fun _ => by omega) (fun _ => ?_)
      · rw [(s4.trans s5) _ _ upd_same]
        simp [wdsE]
      · simp [wdsE]; omega
      · by_cases h4 : n2.length < 40
        · have := l401 h4; omega
        · have := g401 (by omega); omega
    have hm9 : m = 9 ∨ m = 10 := by
      have c4 : ¬ V.int ((m : Nat) : Int) = V.int 7 := fun q => c4 (decide_eq_true q)
      have c5 : ¬ V.int ((m : Nat) : Int) = V.int 8 := fun q => c5 (decide_eq_true q)
      have d4 : m ≠ 7 := fun q => c4 (by rw [q]; rfl)
      have d5 : m ≠ 8 := fun q => c5 (by rw [q]; rfl)
      omega
    refine ⟨small1000 (Nat.le_of_ble_eq_true rfl), fun p0 h0 => ?_⟩
    have s0 := same_upd (o := .lst [V.str "do", V.str "new"]) h0
    obtain ⟨zz, hzz, ezz⟩ : ∃ zz : Str, zz ∈ (["do", "new"] : List Str) ∧ atI [V.str "do", V.str "new"] (((m : Nat) : Int) - 9) = some (.str zz) := by
      rcases hm9 with rfl | rfl
      · exact ⟨_, by simp, rfl⟩
      · exact ⟨"new", by simp, rfl⟩
    refine ⟨_, rfl, _, _, rfl, rfl, p0, _, _, _, rfl, rfl, SqL.of upd_same, ezz, ?_⟩
    refine ⟨_, rfl, _, rfl, zz, px, n1, d, rfl, hzz, s0 _ _ hpx1, g1, by omega, by omega, by omega, by omega, by omega, fun t e n2 H3 b3 hpx3 g2 we ge lw l36 => ?_⟩
    exact k t e n2 H3 ((hb1.trans s0.but).trans b3) hpx3 g2 we ge (by omega) (fun _ => by omega) (fun _ => l36)
theorem ok_le0 (T : All P w K mg AA DD) : FnOk P w K mg base CX0 4 AA.law_expr DD.law_expr ["_law_xs", "_law_deep_here"] (spLE 0) := by
  have no : ∀ vs H Q E, ¬ spLE 0 vs H Q E := fun vs H Q E h => by
    obtain ⟨px, ns, d, _, _, _, _, z, _⟩ := h
    omega
  exact T.F_law_expr.ok sc_law_expr (fun vs H Q E h => (no _ _ _ _ h).elim) (fun cdv A outer s H vs Q E hr h => (no _ _ _ _ h).elim)
theorem ok_le (T : All P w K mg AA DD) : ∀ L : Nat, FnOk P w K mg base CX0 (2 * L + 4) AA.law_expr DD.law_expr ["_law_xs", "_law_deep_here"] (spLE L)
  | 0 => ok_le0 T
  | L + 1 => ok_leS T L (ok_le T L) (ok_lmS T L (ok_le T L))
end
section
variable {P : Program} {w : World} {K : PySem.W.Frag} {mg : Str → Option Value} {base : Heap} {AA : Adr} {DD : Fds}
/-! depth and words of an expression, as the law asks them -/
mutual
theorem dep_le : ∀ e : Ex, depE e ≤ (wdsE e).length
  | .num _ => by simp [wdsE, depE]
  | .truth _ => by simp [wdsE, depE]
  | .name _ => by simp [wdsE, depE]
  | .not e => by have := dep_le e; simp [wdsE, depE]; omega
  | .op _ a b => by have := dep_le a; have := dep_le b; simp [wdsE, depE]; omega
  | .of _ e => by have := dep_le e; simp [wdsE, depE]; omega
  | .many _ _ es => by have := depL_le es; simp [wdsE, depE]; omega
theorem depL_le : ∀ es : List Ex, depL es ≤ (wdsL es).length
  | [] => by simp [wdsL, depL]
  | e :: es => by have := dep_le e; have := depL_le es; simp [wdsL, depL]; omega
end
theorem depL_mem : ∀ {es : List Ex} {e : Ex}, e ∈ es → depE e ≤ depL es ∧ (wdsE e).length ≤ (wdsL es).length
  | x :: es, e, h => by
    rcases List.mem_cons.mp h with rfl | h
    · exact ⟨by simp [depL]; omega, by simp [wdsL]⟩
    · have := depL_mem h
      exact ⟨by simp [depL]; omega, by simp [wdsL]; omega⟩
theorem depL_max : ∀ {es : List Ex} {M : Int}, M ∈ (0 : Int) :: es.map (fun e => ((depE e : Nat) : Int)) → (∀ a ∈ (0 : Int) :: es.map (fun e => ((depE e : Nat) : Int)), a ≤ M) → M = ((depL es : Nat) : Int) := by
  intro es M h1 h2
  have hle : M ≤ ((depL es : Nat) : Int) := by
    rcases List.mem_cons.mp h1 with rfl | h
    · omega
    · obtain ⟨e, he, rfl⟩ := List.mem_map.mp h
      have := (depL_mem he).1
      omega
  have hge : ∀ (fs : List Ex), (∀ a ∈ fs.map (fun e => ((depE e : Nat) : Int)), a ≤ M) → ((depL fs : Nat) : Int) ≤ M := by
    intro fs
    induction fs with
    | nil => intro _; exact h2 0 (by simp)
    | cons f fs ih =>
      intro hf
      have a1 := hf _ (List.mem_map.mpr ⟨f, by simp, rfl⟩)
      have a2 := ih fun a ha => hf a (by simp only [List.map_cons, List.mem_cons]; exact .inr ha)
      simp [depL]
      omega
  have := hge es fun a ha => h2 a (List.mem_cons_of_mem _ ha)
  omega
theorem exs_at : ∀ {H : Hp} {vs : List V} {es : List Ex} {i : Nat} {v : V}, ExsAt H vs es → vs[i]? = some v → ∃ e, es[i]? = some e ∧ ExAt H v e
  | _, _, _, 0, _, .cons a b, h => ⟨_, rfl, by cases (show some _ = some _ from h); exact a⟩
  | _, _, _, i + 1, _, .cons a b, h => by
    obtain ⟨e, h1, h2⟩ := exs_at (i := i) b h
    exact ⟨e, h1, h2⟩
theorem exs_len : ∀ {H : Hp} {vs : List V} {es : List Ex}, ExsAt H vs es → vs.length = es.length
  | _, _, _, .nil => rfl
  | _, _, _, .cons _ b => by rw [List.length_cons, List.length_cons, exs_len b]
theorem good_mem : ∀ {es : List Ex} {e : Ex}, GoodL es → e ∈ es → GoodE e
  | x :: es, e, h, m => by
    rcases List.mem_cons.mp m with rfl | m
    · exact h.1
    · exact good_mem h.2 m
/-- the head word of an expression's tuple -/
theorem hd_of : ∀ z ∈ ops7, z ∉ (["num", "truth", "name"] : List Str) ∧ z ≠ "do" ∧ z ≠ "new" ∧ z ≠ "not" ∧ z ≠ "of" := by decide +kernel
theorem ex_tup {H : Hp} {v : V} {e : Ex} (h : ExAt H v e) : ∃ (t : Addr) (z : Str) (ys : List V), v = .ref t ∧ H t = some (.tup (.str z :: ys)) := by
  cases h with
  | num h => exact ⟨_, _, _, rfl, h⟩
  | truth h => exact ⟨_, _, _, rfl, h⟩
  | name h => exact ⟨_, _, _, rfl, h⟩
  | not h a => exact ⟨_, _, _, rfl, h⟩
  | op h a b => exact ⟨_, _, _, rfl, h⟩
  | of h a => exact ⟨_, _, _, rfl, h⟩
  | many h l a => exact ⟨_, _, _, rfl, h⟩
theorem vne {a b : Str} (h : a ≠ b) : ¬ (decide (V.str a = V.str b) = true) := fun c => h (by cases of_decide_eq_true c; rfl)
theorem leaf_of {H : Hp} {t : Addr} {z : Str} {ys : List V} {e : Ex} (h : ExAt H (.ref t) e) (g : GoodE e) (ht : H t = some (.tup (.str z :: ys))) (hz : z ∈ (["num", "truth", "name"] : List Str)) : depE e = 1 := by
  cases h with
  | num h => rfl
  | truth h => rfl
  | name h => rfl
  | not h a => rw [h] at ht; cases ht; exact absurd hz (by decide +kernel)
  | op h a b => rw [h] at ht; cases ht; exact absurd hz (hd_of _ g.1).1
  | of h a => rw [h] at ht; cases ht; exact absurd hz (by decide +kernel)
  | many h l a =>
    rw [h] at ht
    cases ht
    rcases List.mem_cons.mp g.1 with rfl | q
    · exact absurd hz (by decide +kernel)
    · have : z = "new" := by simpa using q
      subst this
      exact absurd hz (by decide +kernel)
noncomputable def spDp (k : Nat) : Sp := fun vs H Q _ => ∃ (v : V) (e : Ex), vs = [v] ∧ ExAt H v e ∧ GoodE e ∧ depE e < k ∧ (wdsE e).length ≤ 100 ∧ ∀ H', Same H H' → Q (.int ((depE e : Nat) : Int)) H'
noncomputable abbrev N_law_deep : List Str := ["_law_e"]
theorem sc_law_deep : FnScope N_law_deep ["_law_e"] (defScope st_law_deep) := ⟨rfl, rfl, rfl, by decide +kernel, rfl, by decide +kernel, by decide +kernel⟩
theorem ok_dpS (T : All P w K mg AA DD) (k : Nat) (GDP : FnOk P w K mg base CX0 (k + 1) AA.law_deep DD.law_deep ["_law_e"] (spDp k)) : FnOk P w K mg base CX0 (k + 2) AA.law_deep DD.law_deep ["_law_e"] (spDp (k + 1)) := by
  refine T.F_law_deep.ok sc_law_deep (fun vs H Q E h => ?_) (fun cdv A outer s H vs Q E hr h => ?_)
  · obtain ⟨v, e, rfl, _⟩ := h
    rfl
  · obtain ⟨v, e, rfl, hE, hG, hd, hw, kq⟩ := h
    have nd := sc_law_deep.nd
    have hrD : Room (k + 1) _ := hr
    refine ⟨_, (@pss_cons _ _ _ _ _ (@ps_if _ _ _ _ _ _ _ _ (@pt_cmpR _ _ _ _ _ _ _ _ (op_in_seqK (K := K) rfl) (@pe_ix _ _ _ _ _ _ _ (ix_tupK (K := K) rfl) (pv 0) pe_int (fun _ _ => rfl)) (@pe_tup _ _ _ _ _ (@pa_cons _ _ _ _ _ pe_str (@pa_cons _ _ _ _ _ pe_str (@pa_cons _ _ _ _ _ pe_str pa_nil (by rfl)) (by rfl)) (by rfl))) rfl) (@pss_one _ _ _ (@ps_ret _ _ _ _ pe_int)) pss_nil) (@pss_cons _ _ _ _ _ (@ps_if _ _ _ _ _ _ _ _ (PW.pt (pw_or (@pt_cmpR _ _ _ _ _ _ _ _ op_eq (@pe_ix _ _ _ _ _ _ _ (ix_tupK (K := K) rfl) (pv 0) pe_int (fun _ _ => rfl)) pe_str (nomark _)) (pw_or1 (@pt_cmpR _ _ _ _ _ _ _ _ op_eq (@pe_ix _ _ _ _ _ _ _ (ix_tupK (K := K) rfl) (pv 0) pe_int (fun _ _ => rfl)) pe_str (nomark _))))) (@pss_one _ _ _ (@ps_ret _ _ _ _ (@pe_op _ _ _ _ _ _ _ _ op_add pe_int (pe_callB (call_maxL (K := K) rfl rfl) rfl T.n_max bt_max (@pa_cons _ _ _ _ _ (@pe_op _ _ _ _ _ _ _ _ op_cat (@pe_lst _ _ _ _ (@pa_cons _ _ _ _ _ pe_int pa_nil (by rfl))) (pe_comp (defScope st_law_deep) N_law_deep [] [] rfl (by exact ⟨rfl, rfl, by decide +kernel, rfl, by decide +kernel, by decide +kernel, by decide +kernel, rfl, by decide +kernel⟩) rfl rfl (pi_tup (@pe_ix _ _ _ _ _ _ _ (ix_tupK (K := K) rfl) (pv 0) pe_int (fun _ _ => rfl))) (fun _ _ _ _ => pif_nil) (fun _ _ _ _ => (pe_call GDP hrD rfl T.m_law_deep T.k_law_deep T.b_law_deep .nil pass0 (@pa_cons _ _ _ _ _ (pv 0) pa_nil (by rfl)))))) pa_nil (by rfl)))))) pss_nil) (@pss_cons _ _ _ _ _ (@ps_if _ _ _ _ _ _ _ _ (@pt_cmpR _ _ _ _ _ _ _ _ op_eq (@pe_ix _ _ _ _ _ _ _ (ix_tupK (K := K) rfl) (pv 0) pe_int (fun _ _ => rfl)) pe_str (nomark _)) (@pss_one _ _ _ (@ps_ret _ _ _ _ (@pe_op _ _ _ _ _ _ _ _ op_add pe_int (pe_call GDP hrD rfl T.m_law_deep T.k_law_deep T.b_law_deep .nil pass0 (@pa_cons _ _ _ _ _ (@pe_ix _ _ _ _ _ _ _ (ix_tupK (K := K) rfl) (pv 0) pe_int (fun _ _ => rfl)) pa_nil (by rfl)))))) pss_nil) (@pss_cons _ _ _ _ _ (@ps_if _ _ _ _ _ _ _ _ (@pt_cmpR _ _ _ _ _ _ _ _ op_eq (@pe_ix _ _ _ _ _ _ _ (ix_tupK (K := K) rfl) (pv 0) pe_int (fun _ _ => rfl)) pe_str (nomark _)) (@pss_one _ _ _ (@ps_ret _ _ _ _ (@pe_op _ _ _ _ _ _ _ _ op_add pe_int (pe_call GDP hrD rfl T.m_law_deep T.k_law_deep T.b_law_deep .nil pass0 (@pa_cons _ _ _ _ _ (@pe_ix _ _ _ _ _ _ _ (ix_tupK (K := K) rfl) (pv 0) pe_int (fun _ _ => rfl)) pa_nil (by rfl)))))) pss_nil) (@pss_one _ _ _ (@ps_ret _ _ _ _ (@pe_op _ _ _ _ _ _ _ _ op_add pe_int (pe_callB (call_max2 rfl) rfl T.n_max bt_max (@pa_cons _ _ _ _ _ (pe_call GDP hrD rfl T.m_law_deep T.k_law_deep T.b_law_deep .nil pass0 (@pa_cons _ _ _ _ _ (@pe_ix _ _ _ _ _ _ _ (ix_tupK (K := K) rfl) (pv 0) pe_int (fun _ _ => rfl)) pa_nil (by rfl))) (@pa_cons _ _ _ _ _ (pe_call GDP hrD rfl T.m_law_deep T.k_law_deep T.b_law_deep .nil pass0 (@pa_cons _ _ _ _ _ (@pe_ix _ _ _ _ _ _ _ (ix_tupK (K := K) rfl) (pv 0) pe_int (fun _ _ => rfl)) pa_nil (by rfl))) pa_nil (by rfl)) (by rfl)))))))))), ?_⟩
    clear GDP T hr hrD
    obtain ⟨t, z, ys, rfl, ht⟩ := ex_tup hE
    refine ⟨_, rfl, t, _, _, .str z, rfl, rfl, SqT.of ht, atI_nat (j := 0) rfl, (by show 3 ≤ sizeLine; decide), fun pt hpt => ⟨pt, (["num", "truth", "name"] : List Str).map V.str, rfl, .inr (SqT.of upd_same), rfl, rfl, _, rfl, ?_⟩⟩
    rw [show (if false = true then !inV (V.str z) ((["num", "truth", "name"] : List Str).map V.str) else inV (V.str z) ((["num", "truth", "name"] : List Str).map V.str)) = decide (z ∈ (["num", "truth", "name"] : List Str)) from inV_strs _ _]
    have s1 := same_upd (o := .tup [.str "num", .str "truth", .str "name"]) hpt
    generalize upd H pt (.tup [.str "num", .str "truth", .str "name"]) = H1 at s1 ⊢
    have hE := hE.kept s1.tups
    have ht := s1 _ _ ht
    refine ite2 (fun c => ?_) (fun c => ?_)
    · have := kq H1 s1
      rw [leaf_of hE hG ht (of_decide_eq_true c)] at this
      exact this
    have c : z ∉ (["num", "truth", "name"] : List Str) := fun q => c (decide_eq_true q)
    cases hE with
    | num h => rw [h] at ht; cases ht; exact absurd (by decide +kernel) c
    | truth h => rw [h] at ht; cases ht; exact absurd (by decide +kernel) c
    | name h => rw [h] at ht; cases ht; exact absurd (by decide +kernel) c
    | @many _ l _ n vs es h hl hx =>
      rw [h] at ht
      cases ht
      refine ⟨_, rfl, t, _, _, _, rfl, rfl, SqT.of h, rfl, rfl, _, rfl, ?_⟩
      refine ite2 (fun _ => ?_) (fun c1 => ?_)
      rotate_left
      · refine ⟨_, rfl, t, _, _, _, rfl, rfl, SqT.of h, rfl, rfl, _, rfl, ?_⟩
        refine ite2 (fun _ => ?_) (fun c2 => ?_)
        rotate_left
        · rcases List.mem_cons.mp hG.1 with q | q
          · exact absurd (decide_eq_true (by rw [q])) c1
          · exact absurd (decide_eq_true (by rw [show z = "new" by simpa using q])) c2
        · refine ⟨small1000 (Nat.le_of_ble_eq_true rfl), fun p1 h1 => ?_⟩
          have s2 := same_upd (o := .lst [V.int 0]) h1
          have h' := s2 _ _ h
          have hl' := s2 _ _ hl
          have hxl := exs_len hx
          have hwl : (wdsL es).length ≤ 97 := by simp [wdsE] at hw; omega
          have hel := wdsL_len es
          have hdl : depL es < k := by simp [depE] at hd; omega
          refine ⟨_, rfl, t, _, _, .ref l, rfl, rfl, SqT.of h', rfl, l, rfl, ⟨_, SqT.of hl'⟩, ?_⟩
          refine comp_tup (K := K) (a := l) (xs := vs) (fun i ys H' => Same (upd H1 p1 (.lst [V.int 0])) H' ∧ i ≤ vs.length ∧ ys = ((es.take i).map fun e => V.int ((depE e : Nat) : Int))) ⟨Same.refl _, Nat.zero_le _, rfl⟩ (fun i ys H' _ g => SqT.of (g.1 _ _ hl')) ?_ ?_
          · rintro i x ys H2 hx2 ⟨sm, hi, rfl⟩
            obtain ⟨e, he, hv⟩ := exs_at hx hx2
            have hlt : i < vs.length := (List.getElem?_eq_some_iff.mp hx2).1
            have hm := List.mem_of_getElem? he
            have hdm := depL_mem hm
            refine ⟨_, rfl, x, e, rfl, hv.kept (s2.trans sm).tups, good_mem hG.2.2 hm, by omega, by omega, fun H3 s3 => ⟨small1000 (by simp; omega), sm.trans s3, hlt, ?_⟩⟩
            rw [List.take_add_one, he, List.map_append]
            rfl
          · rintro ys H2 ⟨sm, hi, rfl⟩ p2 hp2
            have s3 := same_upd (o := .lst ((es.take vs.length).map fun e => V.int ((depE e : Nat) : Int))) hp2
            refine ⟨p1, p2, _, _, rfl, rfl, (sm.trans s3) _ _ upd_same, upd_same, Nat.le_of_lt (small1000 (by simp; omega)), fun p3 hp3 => ?_⟩
            refine ⟨p3, 0 :: es.map (fun e => ((depE e : Nat) : Int)), rfl, SqL.of (by rw [upd_same, List.take_of_length_le (by omega)]; simp [Function.comp_def]), by simp, fun M hM hle => ⟨_, _, rfl, rfl, ?_⟩⟩
            have eM := depL_max hM hle
            have s4 := same_upd (o := .lst ([V.int 0] ++ (es.take vs.length).map fun e => V.int ((depE e : Nat) : Int))) hp3
            have := kq _ ((((s1.trans s2).trans sm).trans s3).trans s4)
            rw [show ((depE (.many z n es) : Nat) : Int) = 1 + M by rw [eM]; simp [depE]; omega] at this
            exact this
      · refine ⟨small1000 (Nat.le_of_ble_eq_true rfl), fun p1 h1 => ?_⟩
        have s2 := same_upd (o := .lst [V.int 0]) h1
        have h' := s2 _ _ h
        have hl' := s2 _ _ hl
        have hxl := exs_len hx
        have hwl : (wdsL es).length ≤ 97 := by simp [wdsE] at hw; omega
        have hel := wdsL_len es
        have hdl : depL es < k := by simp [depE] at hd; omega
        refine ⟨_, rfl, t, _, _, .ref l, rfl, rfl, SqT.of h', rfl, l, rfl, ⟨_, SqT.of hl'⟩, ?_⟩
        refine comp_tup (K := K) (a := l) (xs := vs) (fun i ys H' => Same (upd H1 p1 (.lst [V.int 0])) H' ∧ i ≤ vs.length ∧ ys = ((es.take i).map fun e => V.int ((depE e : Nat) : Int))) ⟨Same.refl _, Nat.zero_le _, rfl⟩ (fun i ys H' _ g => SqT.of (g.1 _ _ hl')) ?_ ?_
        · rintro i x ys H2 hx2 ⟨sm, hi, rfl⟩
          obtain ⟨e, he, hv⟩ := exs_at hx hx2
          have hlt : i < vs.length := (List.getElem?_eq_some_iff.mp hx2).1
          have hm := List.mem_of_getElem? he
          have hdm := depL_mem hm
          refine ⟨_, rfl, x, e, rfl, hv.kept (s2.trans sm).tups, good_mem hG.2.2 hm, by omega, by omega, fun H3 s3 => ⟨small1000 (by simp; omega), sm.trans s3, hlt, ?_⟩⟩
          rw [List.take_add_one, he, List.map_append]
          rfl
        · rintro ys H2 ⟨sm, hi, rfl⟩ p2 hp2
          have s3 := same_upd (o := .lst ((es.take vs.length).map fun e => V.int ((depE e : Nat) : Int))) hp2
          refine ⟨p1, p2, _, _, rfl, rfl, (sm.trans s3) _ _ upd_same, upd_same, Nat.le_of_lt (small1000 (by simp; omega)), fun p3 hp3 => ?_⟩
          refine ⟨p3, 0 :: es.map (fun e => ((depE e : Nat) : Int)), rfl, SqL.of (by rw [upd_same, List.take_of_length_le (by omega)]; simp [Function.comp_def]), by simp, fun M hM hle => ⟨_, _, rfl, rfl, ?_⟩⟩
          have eM := depL_max hM hle
          have s4 := same_upd (o := .lst ([V.int 0] ++ (es.take vs.length).map fun e => V.int ((depE e : Nat) : Int))) hp3
          have := kq _ ((((s1.trans s2).trans sm).trans s3).trans s4)
          rw [show ((depE (.many z n es) : Nat) : Int) = 1 + M by rw [eM]; simp [depE]; omega] at this
          exact this
    | @not _ v1 e1 h a =>
      rw [h] at ht
      cases ht
      refine ⟨_, rfl, t, _, _, _, rfl, rfl, SqT.of h, rfl, rfl, _, rfl, ite2 (fun c => absurd c (vne (by decide +kernel))) (fun _ => ?_)⟩
      refine ⟨_, rfl, t, _, _, _, rfl, rfl, SqT.of h, rfl, rfl, _, rfl, ite2 (fun c => absurd c (vne (by decide +kernel))) (fun _ => ?_)⟩
      refine ⟨_, rfl, t, _, _, _, rfl, rfl, SqT.of h, rfl, rfl, _, rfl, ite2 (fun _ => ?_) (fun c => absurd (decide_eq_true rfl) c)⟩
      refine ⟨_, rfl, t, _, _, _, rfl, rfl, SqT.of h, rfl, v1, e1, rfl, a, hG, by simp [depE] at hd; omega, by simp [wdsE] at hw; omega, fun H2 s2 => ⟨_, _, rfl, rfl, ?_⟩⟩
      have := kq _ (s1.trans s2)
      rw [show ((depE (.not e1) : Nat) : Int) = 1 + ((depE e1 : Nat) : Int) by simp [depE]; omega] at this
      exact this
    | @op _ _ v1 v2 e1 e2 h a b =>
      rw [h] at ht
      cases ht
      obtain ⟨_, f1, f2, f3, f4⟩ := hd_of _ hG.1
      refine ⟨_, rfl, t, _, _, _, rfl, rfl, SqT.of h, rfl, rfl, _, rfl, ite2 (fun c => absurd c (vne f1)) (fun _ => ?_)⟩
      refine ⟨_, rfl, t, _, _, _, rfl, rfl, SqT.of h, rfl, rfl, _, rfl, ite2 (fun c => absurd c (vne f2)) (fun _ => ?_)⟩
      refine ⟨_, rfl, t, _, _, _, rfl, rfl, SqT.of h, rfl, rfl, _, rfl, ite2 (fun c => absurd c (vne f3)) (fun _ => ?_)⟩
      refine ⟨_, rfl, t, _, _, _, rfl, rfl, SqT.of h, rfl, rfl, _, rfl, ite2 (fun c => absurd c (vne f4)) (fun _ => ?_)⟩
      refine ⟨_, rfl, t, _, _, _, rfl, rfl, SqT.of h, rfl, v1, e1, rfl, a, hG.2.1, by simp [depE] at hd; omega, by simp [wdsE] at hw; omega, fun H2 s2 => ?_⟩
      refine ⟨_, rfl, t, _, _, _, rfl, rfl, SqT.of (s2 _ _ h), rfl, v2, e2, rfl, b.kept s2.tups, hG.2.2, by simp [depE] at hd; omega, by simp [wdsE] at hw; omega, fun H3 s3 => ?_⟩
      refine ⟨_, _, rfl, _, _, rfl, rfl, ?_⟩
      have := kq _ ((s1.trans s2).trans s3)
      rw [show ((depE (.op z e1 e2) : Nat) : Int) = 1 + (if ((depE e2 : Nat) : Int) > ((depE e1 : Nat) : Int) then ((depE e2 : Nat) : Int) else ((depE e1 : Nat) : Int)) by simp [depE]; split <;> omega] at this
      exact this
    | @of _ n v1 e1 h a =>
      rw [h] at ht
      cases ht
      refine ⟨_, rfl, t, _, _, _, rfl, rfl, SqT.of h, rfl, rfl, _, rfl, ite2 (fun c => absurd c (vne (by decide +kernel))) (fun _ => ?_)⟩
      refine ⟨_, rfl, t, _, _, _, rfl, rfl, SqT.of h, rfl, rfl, _, rfl, ite2 (fun c => absurd c (vne (by decide +kernel))) (fun _ => ?_)⟩
      refine ⟨_, rfl, t, _, _, _, rfl, rfl, SqT.of h, rfl, rfl, _, rfl, ite2 (fun c => absurd c (vne (by decide +kernel))) (fun _ => ?_)⟩
      refine ⟨_, rfl, t, _, _, _, rfl, rfl, SqT.of h, rfl, rfl, _, rfl, ite2 (fun _ => ?_) (fun c => absurd (decide_eq_true rfl) c)⟩
      refine ⟨_, rfl, t, _, _, _, rfl, rfl, SqT.of h, rfl, v1, e1, rfl, a, hG.2, by simp [depE] at hd; omega, by simp [wdsE] at hw; omega, fun H2 s2 => ⟨_, _, rfl, rfl, ?_⟩⟩
      have := kq _ (s1.trans s2)
      rw [show ((depE (.of n e1) : Nat) : Int) = 1 + ((depE e1 : Nat) : Int) by simp [depE]; omega] at this
      exact this
theorem ok_dp0 (T : All P w K mg AA DD) : FnOk P w K mg base CX0 1 AA.law_deep DD.law_deep ["_law_e"] (spDp 0) := by
  have no : ∀ vs H Q E, ¬ spDp 0 vs H Q E := fun vs H Q E h => by
    obtain ⟨v, e, _, _, _, z, _⟩ := h
    omega
  exact T.F_law_deep.ok sc_law_deep (fun vs H Q E h => (no _ _ _ _ h).elim) (fun cdv A outer s H vs Q E hr h => (no _ _ _ _ h).elim)
theorem ok_dp (T : All P w K mg AA DD) : ∀ k : Nat, FnOk P w K mg base CX0 (k + 1) AA.law_deep DD.law_deep ["_law_e"] (spDp k)
  | 0 => ok_dp0 T
  | k + 1 => ok_dpS T k (ok_dp T k)
end
section
variable {P : Program} {w : World} {K : PySem.W.Frag} {mg : Str → Option Value} {base : Heap} {AA : Adr} {DD : Fds}
/-! the words of an expression -/
theorem log_ok {y : Int} (y0 : 0 ≤ y) (y1 : y < 1000000000000000000) : y.natAbs.log2 < 1920 := by
  by_cases e : y.natAbs = 0
  · rw [e]; decide
  · exact (Nat.log2_lt e).mpr (Nat.lt_of_lt_of_le (show y.natAbs < 2 ^ 64 by omega) (Nat.pow_le_pow_right (by decide) (by decide)))
theorem hd_of2 : ∀ z ∈ ops7, z ≠ "num" ∧ z ≠ "truth" ∧ z ≠ "name" := by decide +kernel
theorem hd_of3 : ∀ z ∈ (["do", "new"] : List Str), z ≠ "num" ∧ z ≠ "truth" ∧ z ≠ "name" := by decide +kernel
theorem wdsL_take : ∀ (es : List Ex) (i : Nat), (wdsL (es.take i)).length ≤ (wdsL es).length
  | [], i => by simp
  | e :: es, 0 => by simp [wdsL]
  | e :: es, i + 1 => by have := wdsL_take es i; simp [wdsL]; omega
noncomputable def spLW (k : Nat) : Sp := fun vs H Q _ => ∃ (v : V) (e : Ex), vs = [v] ∧ ExAt H v e ∧ GoodE e ∧ depE e < k ∧ (wdsE e).length ≤ 200 ∧ ∀ p H', Same H H' → H' p = some (.lst ((wdsE e).map V.str)) → Q (.ref p) H'
noncomputable abbrev N_law_words : List Str := ["_law_e", "_law_words_here", "_law_one"]
theorem sc_law_words : FnScope N_law_words ["_law_e"] (defScope st_law_words) := ⟨rfl, rfl, rfl, by decide +kernel, rfl, by decide +kernel, by decide +kernel⟩
theorem ok_lwS (T : All P w K mg AA DD) (k : Nat) (GWD : FnOk P w K mg base CX0 (k + 1) AA.law_words DD.law_words ["_law_e"] (spLW k)) : FnOk P w K mg base CX0 (k + 2) AA.law_words DD.law_words ["_law_e"] (spLW (k + 1)) := by
  refine T.F_law_words.ok sc_law_words (fun vs H Q E h => ?_) (fun cdv A outer s H vs Q E hr h => ?_)
  · obtain ⟨v, e, rfl, _⟩ := h
    rfl
  · obtain ⟨v, e, rfl, hE, hG, hd, hw, kq⟩ := h
    have nd := sc_law_words.nd
    have hrW2 : Room (k + 1) _ := hr
    refine ⟨_, (@pss_cons _ _ _ _ _ (@ps_if _ _ _ _ _ _ _ _ (@pt_cmpR _ _ _ _ _ _ _ _ op_eq (@pe_ix _ _ _ _ _ _ _ (ix_tupK (K := K) rfl) (pv 0) pe_int (fun _ _ => rfl)) pe_str (nomark _)) (@pss_one _ _ _ (@ps_ret _ _ _ _ (@pe_lst _ _ _ _ (@pa_cons _ _ _ _ _ (pe_callTy call_strI rfl T.n_str bt_str (@pa_cons _ _ _ _ _ (@pe_ix _ _ _ _ _ _ _ (ix_tupK (K := K) rfl) (pv 0) pe_int (fun _ _ => rfl)) pa_nil (by rfl))) pa_nil (by rfl))))) pss_nil) (@pss_cons _ _ _ _ _ (@ps_if _ _ _ _ _ _ _ _ (PW.pt (pw_or (@pt_cmpR _ _ _ _ _ _ _ _ op_eq (@pe_ix _ _ _ _ _ _ _ (ix_tupK (K := K) rfl) (pv 0) pe_int (fun _ _ => rfl)) pe_str (nomark _)) (pw_or1 (@pt_cmpR _ _ _ _ _ _ _ _ op_eq (@pe_ix _ _ _ _ _ _ _ (ix_tupK (K := K) rfl) (pv 0) pe_int (fun _ _ => rfl)) pe_str (nomark _))))) (@pss_one _ _ _ (@ps_ret _ _ _ _ (@pe_lst _ _ _ _ (@pa_cons _ _ _ _ _ (@pe_ix _ _ _ _ _ _ _ (ix_tupK (K := K) rfl) (pv 0) pe_int (fun _ _ => rfl)) pa_nil (by rfl))))) pss_nil) (@pss_cons _ _ _ _ _ (@ps_if _ _ _ _ _ _ _ _ (PW.pt (pw_or (@pt_cmpR _ _ _ _ _ _ _ _ op_eq (@pe_ix _ _ _ _ _ _ _ (ix_tupK (K := K) rfl) (pv 0) pe_int (fun _ _ => rfl)) pe_str (nomark _)) (pw_or1 (@pt_cmpR _ _ _ _ _ _ _ _ op_eq (@pe_ix _ _ _ _ _ _ _ (ix_tupK (K := K) rfl) (pv 0) pe_int (fun _ _ => rfl)) pe_str (nomark _))))) (@pss_cons _ _ _ _ _ (@ps_set _ _ 1 _ _ _ _ nd rfl (Or.inl rfl) (@pe_lst _ _ _ _ (@pa_cons _ _ _ _ _ (@pe_ix _ _ _ _ _ _ _ (ix_tupK (K := K) rfl) (pv 0) pe_int (fun _ _ => rfl)) (@pa_cons _ _ _ _ _ (@pe_ix _ _ _ _ _ _ _ (ix_tupK (K := K) rfl) (pv 0) pe_int (fun _ _ => rfl)) pa_nil (by rfl)) (by rfl))) (by rfl) (by first | exact .inl rfl | exact .inr rfl | assumption)) (@pss_cons _ _ _ _ _ (@ps_for _ _ _ _ _ _ _ _ PassesOwn.never rfl (pi_tup (@pe_ix _ _ _ _ _ _ _ (ix_tupK (K := K) rfl) (pv 0) pe_int (fun _ _ => rfl))) (pg_name (i := 2) nd rfl (Or.inl rfl)) (@pss_one _ _ _ (@ps_set _ _ 1 _ _ _ _ nd rfl (Or.inl rfl) (@pe_op _ _ _ _ _ _ _ _ op_cat (pv 1) (pe_call GWD hrW2 rfl T.m_law_words T.k_law_words T.b_law_words .nil pass0 (@pa_cons _ _ _ _ _ (pv 2) pa_nil (by rfl)))) (by rfl) (by first | exact .inl rfl | exact .inr rfl | assumption))) (by intro _; rfl)) (@pss_one _ _ _ (@ps_ret _ _ _ _ (@pe_op _ _ _ _ _ _ _ _ op_cat (pv 1) (@pe_lst _ _ _ _ (@pa_cons _ _ _ _ _ pe_str pa_nil (by rfl)))))))) pss_nil) (@pss_cons _ _ _ _ _ (@ps_if _ _ _ _ _ _ _ _ (@pt_cmpR _ _ _ _ _ _ _ _ op_eq (@pe_ix _ _ _ _ _ _ _ (ix_tupK (K := K) rfl) (pv 0) pe_int (fun _ _ => rfl)) pe_str (nomark _)) (@pss_one _ _ _ (@ps_ret _ _ _ _ (@pe_op _ _ _ _ _ _ _ _ op_cat (@pe_lst _ _ _ _ (@pa_cons _ _ _ _ _ pe_str pa_nil (by rfl))) (pe_call GWD hrW2 rfl T.m_law_words T.k_law_words T.b_law_words .nil pass0 (@pa_cons _ _ _ _ _ (@pe_ix _ _ _ _ _ _ _ (ix_tupK (K := K) rfl) (pv 0) pe_int (fun _ _ => rfl)) pa_nil (by rfl)))))) pss_nil) (@pss_cons _ _ _ _ _ (@ps_if _ _ _ _ _ _ _ _ (@pt_cmpR _ _ _ _ _ _ _ _ op_eq (@pe_ix _ _ _ _ _ _ _ (ix_tupK (K := K) rfl) (pv 0) pe_int (fun _ _ => rfl)) pe_str (nomark _)) (@pss_one _ _ _ (@ps_ret _ _ _ _ (@pe_op _ _ _ _ _ _ _ _ op_cat (@pe_lst _ _ _ _ (@pa_cons _ _ _ _ _ pe_str (@pa_cons _ _ _ _ _ (@pe_ix _ _ _ _ _ _ _ (ix_tupK (K := K) rfl) (pv 0) pe_int (fun _ _ => rfl)) pa_nil (by rfl)) (by rfl))) (pe_call GWD hrW2 rfl T.m_law_words T.k_law_words T.b_law_words .nil pass0 (@pa_cons _ _ _ _ _ (@pe_ix _ _ _ _ _ _ _ (ix_tupK (K := K) rfl) (pv 0) pe_int (fun _ _ => rfl)) pa_nil (by rfl)))))) pss_nil) (@pss_one _ _ _ (@ps_ret _ _ _ _ (@pe_op _ _ _ _ _ _ _ _ op_cat (@pe_op _ _ _ _ _ _ _ _ op_cat (@pe_lst _ _ _ _ (@pa_cons _ _ _ _ _ (@pe_ix _ _ _ _ _ _ _ (ix_tupK (K := K) rfl) (pv 0) pe_int (fun _ _ => rfl)) pa_nil (by rfl))) (pe_call GWD hrW2 rfl T.m_law_words T.k_law_words T.b_law_words .nil pass0 (@pa_cons _ _ _ _ _ (@pe_ix _ _ _ _ _ _ _ (ix_tupK (K := K) rfl) (pv 0) pe_int (fun _ _ => rfl)) pa_nil (by rfl)))) (pe_call GWD hrW2 rfl T.m_law_words T.k_law_words T.b_law_words .nil pass0 (@pa_cons _ _ _ _ _ (@pe_ix _ _ _ _ _ _ _ (ix_tupK (K := K) rfl) (pv 0) pe_int (fun _ _ => rfl)) pa_nil (by rfl))))))))))), ?_⟩
    clear GWD T hr hrW2
    cases hE with
    | @num t y h =>
      refine ⟨_, rfl, t, _, _, _, rfl, rfl, SqT.of h, rfl, rfl, _, rfl, ite2 (fun _ => ?_) (fun c => absurd (decide_eq_true rfl) c)⟩
      refine ⟨_, rfl, t, _, _, .int y, rfl, rfl, SqT.of h, rfl, y, rfl, log_ok hG.1 hG.2, small1000 (Nat.le_of_ble_eq_true rfl), fun p1 h1 => ?_⟩
      exact kq p1 _ (same_upd h1) upd_same
    | @truth t y h =>
      refine ⟨_, rfl, t, _, _, _, rfl, rfl, SqT.of h, rfl, rfl, _, rfl, ite2 (fun c => absurd c (vne (by decide +kernel))) (fun _ => ?_)⟩
      refine ⟨_, rfl, t, _, _, _, rfl, rfl, SqT.of h, rfl, rfl, _, rfl, ite2 (fun _ => ?_) (fun c => absurd (decide_eq_true rfl) c)⟩
      refine ⟨_, rfl, t, _, _, .str y, rfl, rfl, SqT.of h, rfl, small1000 (Nat.le_of_ble_eq_true rfl), fun p1 h1 => ?_⟩
      exact kq p1 _ (same_upd h1) upd_same
    | @name t y h =>
      refine ⟨_, rfl, t, _, _, _, rfl, rfl, SqT.of h, rfl, rfl, _, rfl, ite2 (fun c => absurd c (vne (by decide +kernel))) (fun _ => ?_)⟩
      refine ⟨_, rfl, t, _, _, _, rfl, rfl, SqT.of h, rfl, rfl, _, rfl, ite2 (fun c => absurd c (vne (by decide +kernel))) (fun _ => ?_)⟩
      refine ⟨_, rfl, t, _, _, _, rfl, rfl, SqT.of h, rfl, rfl, _, rfl, ite2 (fun _ => ?_) (fun c => absurd (decide_eq_true rfl) c)⟩
      refine ⟨_, rfl, t, _, _, .str y, rfl, rfl, SqT.of h, rfl, small1000 (Nat.le_of_ble_eq_true rfl), fun p1 h1 => ?_⟩
      exact kq p1 _ (same_upd h1) upd_same
    | @many t l z n vs es h hl hx =>
      obtain ⟨f1, f2, f3⟩ := hd_of3 _ hG.1
      have hxl := exs_len hx
      have hwl : (wdsL es).length ≤ 197 := by simp [wdsE] at hw; omega
      have hel := wdsL_len es
      have hdl : depL es < k := by simp [depE] at hd; omega
      refine ⟨_, rfl, t, _, _, _, rfl, rfl, SqT.of h, rfl, rfl, _, rfl, ite2 (fun c => absurd c (vne (f1))) (fun _ => ?_)⟩
      refine ⟨_, rfl, t, _, _, _, rfl, rfl, SqT.of h, rfl, rfl, _, rfl, ite2 (fun c => absurd c (vne (f2))) (fun _ => ?_)⟩
      refine ⟨_, rfl, t, _, _, _, rfl, rfl, SqT.of h, rfl, rfl, _, rfl, ite2 (fun c => absurd c (vne (f3))) (fun _ => ?_)⟩
      refine ⟨_, rfl, t, _, _, _, rfl, rfl, SqT.of h, rfl, rfl, _, rfl, ?_⟩
      refine ite2 (fun _ => ?_) (fun c1 => ?_)
      rotate_left
      · refine ⟨_, rfl, t, _, _, _, rfl, rfl, SqT.of h, rfl, rfl, _, rfl, ?_⟩
        refine ite2 (fun _ => ?_) (fun c2 => ?_)
        rotate_left
        · rcases List.mem_cons.mp hG.1 with q | q
          · exact absurd (decide_eq_true (by rw [q])) c1
          · exact absurd (decide_eq_true (by rw [show z = "new" by simpa using q])) c2
        · refine ⟨_, rfl, t, _, _, _, rfl, rfl, SqT.of h, rfl, _, rfl, t, _, _, _, rfl, rfl, SqT.of h, rfl, small1000 (Nat.le_of_ble_eq_true rfl), fun p1 h1 => ?_⟩
          have s2 := same_upd (o := .lst [V.str z, V.str n]) h1
          have h' := s2 _ _ h
          have hl' := s2 _ _ hl
          dsimp only [gName]
          refine cut_for (fun σ' H' => ∃ (pw : Addr) (x2 : Option V), Same (upd H p1 (.lst [V.str z, V.str n])) H' ∧ H' pw = some (.lst ((z :: n :: wdsL es).map V.str)) ∧ σ' = [some (.ref t), some (.ref pw), x2]) (fun R hR => ?_) ?_
          · refine ⟨_, rfl, t, _, _, .ref l, rfl, rfl, SqT.of h', rfl, l, rfl, ⟨_, SqT.of hl'⟩, ?_⟩
            refine for_tup (K := K) (a := l) (xs := vs) (D := ⟨R, _, R, R⟩) (fun i σ' H' => ∃ (pw : Addr) (x2 : Option V), Same (upd H p1 (.lst [V.str z, V.str n])) H' ∧ i ≤ vs.length ∧ H' pw = some (.lst ((z :: n :: wdsL (es.take i)).map V.str)) ∧ σ' = [some (.ref t), some (.ref pw), x2])
              ⟨p1, none, Same.refl _, Nat.zero_le _, upd_same, rfl⟩ (fun i σ' H' _ hsl63 => by obtain ⟨_, _, g, _⟩ := hsl63; exact SqT.of (g _ _ hl')) ?_ ?_
            · rintro i x σ' H2 hx2 ⟨pw, x2, sm, hi, hpw, rfl⟩
              obtain ⟨e, he, hv⟩ := exs_at hx hx2
              have hlt : i < vs.length := (List.getElem?_eq_some_iff.mp hx2).1
              have hm := List.mem_of_getElem? he
              have hdm := depL_mem hm
              have hti := wdsL_take es i
              refine ⟨_, rfl, _, rfl, x, e, rfl, hv.kept (s2.trans sm).tups, good_mem hG.2.2 hm, by omega, by omega, fun p H3 s3 hp => ?_⟩
              refine ⟨pw, p, _, _, rfl, rfl, s3 _ _ hpw, hp, Nat.le_of_lt (small1000 (by simp; omega)), fun p3 hp3 => ?_⟩
              refine ⟨p3, _, (sm.trans s3).trans (same_upd hp3), hlt, ?_, rfl⟩
              rw [upd_same, List.take_add_one, he, ← List.map_append]
              show some (HO.lst ((z :: n :: (wdsL (es.take i) ++ wdsE e)).map V.str)) = some (HO.lst ((z :: n :: wdsL (es.take i ++ [e])).map V.str))
              rw [wdsL_app]
            · rintro σ' H2 ⟨pw, x2, sm, hi, hpw, rfl⟩
              rw [List.take_of_length_le (by omega)] at hpw
              exact hR _ _ ⟨pw, x2, sm, hpw, rfl⟩
          rintro σ' H2 ⟨pw, x2, sm, hpw, rfl⟩
          refine ⟨_, rfl, small1000 (Nat.le_of_ble_eq_true rfl), fun q1 hq1 => ?_⟩
          have s3 := same_upd (o := .lst [V.str "."]) hq1
          refine ⟨pw, q1, _, _, rfl, rfl, s3 _ _ hpw, upd_same, Nat.le_of_lt (small1000 (by simp; omega)), fun q2 hq2 => ?_⟩
          refine kq q2 _ (((s2.trans sm).trans s3).trans (same_upd hq2)) ?_
          rw [upd_same]
          simp [wdsE]
      · refine ⟨_, rfl, t, _, _, _, rfl, rfl, SqT.of h, rfl, _, rfl, t, _, _, _, rfl, rfl, SqT.of h, rfl, small1000 (Nat.le_of_ble_eq_true rfl), fun p1 h1 => ?_⟩
        have s2 := same_upd (o := .lst [V.str z, V.str n]) h1
        have h' := s2 _ _ h
        have hl' := s2 _ _ hl
        dsimp only [gName]
        refine cut_for (fun σ' H' => ∃ (pw : Addr) (x2 : Option V), Same (upd H p1 (.lst [V.str z, V.str n])) H' ∧ H' pw = some (.lst ((z :: n :: wdsL es).map V.str)) ∧ σ' = [some (.ref t), some (.ref pw), x2]) (fun R hR => ?_) ?_
        · refine ⟨_, rfl, t, _, _, .ref l, rfl, rfl, SqT.of h', rfl, l, rfl, ⟨_, SqT.of hl'⟩, ?_⟩
          refine for_tup (K := K) (a := l) (xs := vs) (D := ⟨R, _, R, R⟩) (fun i σ' H' => ∃ (pw : Addr) (x2 : Option V), Same (upd H p1 (.lst [V.str z, V.str n])) H' ∧ i ≤ vs.length ∧ H' pw = some (.lst ((z :: n :: wdsL (es.take i)).map V.str)) ∧ σ' = [some (.ref t), some (.ref pw), x2])
            ⟨p1, none, Same.refl _, Nat.zero_le _, upd_same, rfl⟩ (fun i σ' H' _ hsl64 => by obtain ⟨_, _, g, _⟩ := hsl64; exact SqT.of (g _ _ hl')) ?_ ?_
          · rintro i x σ' H2 hx2 ⟨pw, x2, sm, hi, hpw, rfl⟩
            obtain ⟨e, he, hv⟩ := exs_at hx hx2
            have hlt : i < vs.length := (List.getElem?_eq_some_iff.mp hx2).1
            have hm := List.mem_of_getElem? he
            have hdm := depL_mem hm
            have hti := wdsL_take es i
            refine ⟨_, rfl, _, rfl, x, e, rfl, hv.kept (s2.trans sm).tups, good_mem hG.2.2 hm, by omega, by omega, fun p H3 s3 hp => ?_⟩
            refine ⟨pw, p, _, _, rfl, rfl, s3 _ _ hpw, hp, Nat.le_of_lt (small1000 (by simp; omega)), fun p3 hp3 => ?_⟩
            refine ⟨p3, _, (sm.trans s3).trans (same_upd hp3), hlt, ?_, rfl⟩
            rw [upd_same, List.take_add_one, he, ← List.map_append]
            show some (HO.lst ((z :: n :: (wdsL (es.take i) ++ wdsE e)).map V.str)) = some (HO.lst ((z :: n :: wdsL (es.take i ++ [e])).map V.str))
            rw [wdsL_app]
          · rintro σ' H2 ⟨pw, x2, sm, hi, hpw, rfl⟩
            rw [List.take_of_length_le (by omega)] at hpw
            exact hR _ _ ⟨pw, x2, sm, hpw, rfl⟩
        rintro σ' H2 ⟨pw, x2, sm, hpw, rfl⟩
        refine ⟨_, rfl, small1000 (Nat.le_of_ble_eq_true rfl), fun q1 hq1 => ?_⟩
        have s3 := same_upd (o := .lst [V.str "."]) hq1
        refine ⟨pw, q1, _, _, rfl, rfl, s3 _ _ hpw, upd_same, Nat.le_of_lt (small1000 (by simp; omega)), fun q2 hq2 => ?_⟩
        refine kq q2 _ (((s2.trans sm).trans s3).trans (same_upd hq2)) ?_
        rw [upd_same]
        simp [wdsE]
    | @not t v1 e1 h a =>
      refine ⟨_, rfl, t, _, _, _, rfl, rfl, SqT.of h, rfl, rfl, _, rfl, ite2 (fun c => absurd c (vne (by decide +kernel))) (fun _ => ?_)⟩
      refine ⟨_, rfl, t, _, _, _, rfl, rfl, SqT.of h, rfl, rfl, _, rfl, ite2 (fun c => absurd c (vne (by decide +kernel))) (fun _ => ?_)⟩
      refine ⟨_, rfl, t, _, _, _, rfl, rfl, SqT.of h, rfl, rfl, _, rfl, ite2 (fun c => absurd c (vne (by decide +kernel))) (fun _ => ?_)⟩
      refine ⟨_, rfl, t, _, _, _, rfl, rfl, SqT.of h, rfl, rfl, _, rfl, ite2 (fun c => absurd c (vne (by decide +kernel))) (fun _ => ?_)⟩
      refine ⟨_, rfl, t, _, _, _, rfl, rfl, SqT.of h, rfl, rfl, _, rfl, ite2 (fun c => absurd c (vne (by decide +kernel))) (fun _ => ?_)⟩
      refine ⟨_, rfl, t, _, _, _, rfl, rfl, SqT.of h, rfl, rfl, _, rfl, ite2 (fun _ => ?_) (fun c => absurd (decide_eq_true rfl) c)⟩
      refine ⟨small1000 (Nat.le_of_ble_eq_true rfl), fun p1 h1 => ?_⟩
      have s1 := same_upd (o := .lst [V.str "not"]) h1
      refine ⟨_, rfl, t, _, _, v1, rfl, rfl, SqT.of (s1 _ _ h), rfl, v1, e1, rfl, a.kept s1.tups, hG, by simp [depE] at hd; omega, by simp [wdsE] at hw; omega, fun p H2 s2 hp => ?_⟩
      refine ⟨p1, p, _, _, rfl, rfl, s2 _ _ upd_same, hp, Nat.le_of_lt (small1000 (by simp [wdsE] at hw ⊢; omega)), fun q2 hq2 => ?_⟩
      refine kq q2 _ ((s1.trans s2).trans (same_upd hq2)) ?_
      rw [upd_same]
      simp [wdsE]
    | @op t z v1 v2 e1 e2 h a b =>
      obtain ⟨g1, g2, g3⟩ := hd_of2 _ hG.1
      obtain ⟨_, f1, f2, f3, f4⟩ := hd_of _ hG.1
      refine ⟨_, rfl, t, _, _, _, rfl, rfl, SqT.of h, rfl, rfl, _, rfl, ite2 (fun c => absurd c (vne (g1))) (fun _ => ?_)⟩
      refine ⟨_, rfl, t, _, _, _, rfl, rfl, SqT.of h, rfl, rfl, _, rfl, ite2 (fun c => absurd c (vne (g2))) (fun _ => ?_)⟩
      refine ⟨_, rfl, t, _, _, _, rfl, rfl, SqT.of h, rfl, rfl, _, rfl, ite2 (fun c => absurd c (vne (g3))) (fun _ => ?_)⟩
      refine ⟨_, rfl, t, _, _, _, rfl, rfl, SqT.of h, rfl, rfl, _, rfl, ite2 (fun c => absurd c (vne (f1))) (fun _ => ?_)⟩
      refine ⟨_, rfl, t, _, _, _, rfl, rfl, SqT.of h, rfl, rfl, _, rfl, ite2 (fun c => absurd c (vne (f2))) (fun _ => ?_)⟩
      refine ⟨_, rfl, t, _, _, _, rfl, rfl, SqT.of h, rfl, rfl, _, rfl, ite2 (fun c => absurd c (vne (f3))) (fun _ => ?_)⟩
      refine ⟨_, rfl, t, _, _, _, rfl, rfl, SqT.of h, rfl, rfl, _, rfl, ite2 (fun c => absurd c (vne (f4))) (fun _ => ?_)⟩
      refine ⟨_, rfl, t, _, _, .str z, rfl, rfl, SqT.of h, rfl, small1000 (Nat.le_of_ble_eq_true rfl), fun p1 h1 => ?_⟩
      have s1 := same_upd (o := .lst [V.str z]) h1
      have hw1 : (wdsE e1).length + (wdsE e2).length + 1 ≤ 200 := by simp [wdsE] at hw; omega
      refine ⟨_, rfl, t, _, _, v1, rfl, rfl, SqT.of (s1 _ _ h), rfl, v1, e1, rfl, a.kept s1.tups, hG.2.1, by simp [depE] at hd; omega, by omega, fun p H2 s2 hp => ?_⟩
      refine ⟨p1, p, _, _, rfl, rfl, s2 _ _ upd_same, hp, Nat.le_of_lt (small1000 (by simp; omega)), fun q2 hq2 => ?_⟩
      have s3 := (s1.trans s2).trans (same_upd (o := .lst ([V.str z] ++ (wdsE e1).map V.str)) hq2)
      refine ⟨_, rfl, t, _, _, v2, rfl, rfl, SqT.of (s3 _ _ h), rfl, v2, e2, rfl, b.kept s3.tups, hG.2.2, by simp [depE] at hd; omega, by omega, fun p4 H4 s4 hp4 => ?_⟩
      refine ⟨q2, p4, _, _, rfl, rfl, s4 _ _ upd_same, hp4, Nat.le_of_lt (small1000 (by simp; omega)), fun q5 hq5 => ?_⟩
      refine kq q5 _ ((s3.trans s4).trans (same_upd hq5)) ?_
      rw [upd_same]
      simp [wdsE]
    | @of t n v1 e1 h a =>
      refine ⟨_, rfl, t, _, _, _, rfl, rfl, SqT.of h, rfl, rfl, _, rfl, ite2 (fun c => absurd c (vne (by decide +kernel))) (fun _ => ?_)⟩
      refine ⟨_, rfl, t, _, _, _, rfl, rfl, SqT.of h, rfl, rfl, _, rfl, ite2 (fun c => absurd c (vne (by decide +kernel))) (fun _ => ?_)⟩
      refine ⟨_, rfl, t, _, _, _, rfl, rfl, SqT.of h, rfl, rfl, _, rfl, ite2 (fun c => absurd c (vne (by decide +kernel))) (fun _ => ?_)⟩
      refine ⟨_, rfl, t, _, _, _, rfl, rfl, SqT.of h, rfl, rfl, _, rfl, ite2 (fun c => absurd c (vne (by decide +kernel))) (fun _ => ?_)⟩
      refine ⟨_, rfl, t, _, _, _, rfl, rfl, SqT.of h, rfl, rfl, _, rfl, ite2 (fun c => absurd c (vne (by decide +kernel))) (fun _ => ?_)⟩
      refine ⟨_, rfl, t, _, _, _, rfl, rfl, SqT.of h, rfl, rfl, _, rfl, ite2 (fun c => absurd c (vne (by decide +kernel))) (fun _ => ?_)⟩
      refine ⟨_, rfl, t, _, _, _, rfl, rfl, SqT.of h, rfl, rfl, _, rfl, ite2 (fun _ => ?_) (fun c => absurd (decide_eq_true rfl) c)⟩
      refine ⟨_, rfl, t, _, _, .str n, rfl, rfl, SqT.of h, rfl, small1000 (Nat.le_of_ble_eq_true rfl), fun p1 h1 => ?_⟩
      have s1 := same_upd (o := .lst [V.str "of", V.str n]) h1
      refine ⟨_, rfl, t, _, _, v1, rfl, rfl, SqT.of (s1 _ _ h), rfl, v1, e1, rfl, a.kept s1.tups, hG.2, by simp [depE] at hd; omega, by simp [wdsE] at hw; omega, fun p H2 s2 hp => ?_⟩
      refine ⟨p1, p, _, _, rfl, rfl, s2 _ _ upd_same, hp, Nat.le_of_lt (small1000 (by simp [wdsE] at hw ⊢; omega)), fun q2 hq2 => ?_⟩
      refine kq q2 _ ((s1.trans s2).trans (same_upd hq2)) ?_
      rw [upd_same]
      simp [wdsE]
theorem ok_lw0 (T : All P w K mg AA DD) : FnOk P w K mg base CX0 1 AA.law_words DD.law_words ["_law_e"] (spLW 0) := by
  have no : ∀ vs H Q E, ¬ spLW 0 vs H Q E := fun vs H Q E h => by
    obtain ⟨v, e, _, _, _, z, _⟩ := h
    omega
  exact T.F_law_words.ok sc_law_words (fun vs H Q E h => (no _ _ _ _ h).elim) (fun cdv A outer s H vs Q E hr h => (no _ _ _ _ h).elim)
theorem ok_lw (T : All P w K mg AA DD) : ∀ k : Nat, FnOk P w K mg base CX0 (k + 1) AA.law_words DD.law_words ["_law_e"] (spLW k)
  | 0 => ok_lw0 T
  | k + 1 => ok_lwS T k (ok_lw T k)
end
section
variable {P : Program} {w : World} {K : PySem.W.Frag} {mg : Str → Option Value} {base : Heap} {AA : Adr} {DD : Fds}
/-! what the program tells of the words -/
noncomputable def Whole (ws : List Str) (e : Ex) : Prop := pE ("tell" :: ws) 6 1 = some (e, ws.length + 1)
noncomputable def spFd : Sp := fun vs H Q _ => ∃ (pw : Addr) (ws : List Str), vs = [.ref pw] ∧ H pw = some (.lst (ws.map V.str)) ∧ WsOk ("tell" :: ws) ∧ ws.length ≤ 400 ∧
  (∀ e pt t v H', Whole ws e → Same H H' → H' pt = some (.lst [.ref t]) → H' t = some (.tup [.str "tell", .int 0, v]) → ExAt H' v e → Q (.ref pt) H') ∧ ((∀ e, ¬ Whole ws e) → ∀ q H', Same H H' → H' q = some (.tup []) → Q (.ref q) H')
noncomputable abbrev N_law_found : List Str := ["_law_words_here", "_law_e"]
theorem sc_law_found : FnScope N_law_found ["_law_words_here"] (defScope st_law_found) := ⟨rfl, rfl, rfl, by decide +kernel, rfl, by decide +kernel, by decide +kernel⟩
theorem ok_fd (T : All P w K mg AA DD) : FnOk P w K mg base CX0 26 AA.law_found DD.law_found ["_law_words_here"] spFd := by
  have GPL := ok_plain1 (base := base) T
  refine T.F_law_found.ok sc_law_found (fun vs H Q E h => ?_) (fun cdv A outer s H vs Q E hr h => ?_)
  · obtain ⟨pw, ws, rfl, _⟩ := h
    rfl
  · obtain ⟨pw, ws, rfl, hpw, hok, h4, k1, k2⟩ := h
    have nd := sc_law_found.nd
    have hrP : Room 25 _ := hr
    refine ⟨_, (@pss_cons _ _ _ _ _ (ps_tryD (κ := fun _ => True) (i := 1) (Body.wish body_cx _) (psx_ret (pex_call GPL hrP rfl T.m_read_plain T.k_read_plain T.b_read_plain .nil (@pa_cons _ _ _ _ _ (@pe_lst _ _ _ _ (@pa_cons _ _ _ _ _ (@pe_op _ _ _ _ _ _ _ _ op_cat (@pe_lst _ _ _ _ (@pa_cons _ _ _ _ _ pe_str pa_nil (by rfl))) (pv 0)) pa_nil (by rfl))) pa_nil (by rfl)))) rfl T.m_NoForm nd rfl rfl (fun ea => (@pss_one _ _ _ (@ps_if _ _ _ _ _ _ _ _ (PW.pt (pw_and (pt_val (pe_callB (call_isexD (K := K) rfl) rfl T.n_isinstance bt_isi (@pa_cons _ _ _ _ _ (pv 1) (@pa_cons _ _ _ _ _ (pe_glob (v := .ref AA.x_MakesError) rfl T.m_MakesError rfl) pa_nil (by rfl)) (by rfl)))) (pw_and (@pt_cmpR _ _ _ _ _ _ _ _ op_eq (pe_xfldK (K := K) rfl (pv 1) (by rfl)) pe_int (nomark _)) (pw_and1 (@pt_cmpR _ _ _ _ _ _ _ _ op_eq (pe_xfldK (K := K) rfl (pv 1) (by rfl)) pe_str (nomark _)))))) (@pss_one _ _ _ (@ps_ret _ _ _ _ (@pe_tup _ _ _ _ _ pa_nil))) pss_nil)))) (@pss_one _ _ _ (@ps_ret _ _ _ _ pe_non))), ?_⟩
    refine cut_sq (fun σ' H' => False) (fun R hR => ?_) (fun _ _ h => h.elim)
    refine try_cut (fun c dd H1 => Same H H1 ∧ c = .ref AA.x_NoForm ∧ (∀ e, ¬ Whole ws e) ∧ ∃ (dx : Addr), dd = some dx ∧ H1 dx = some (xdO dx [("at", .int 0), ("what", .str "form")])) (fun E1 hE => ?_) ?_
    · refine ⟨small1000 (Nat.le_of_ble_eq_true rfl), fun p1 h1 => ?_⟩
      have s1 := same_upd (o := .lst [V.str "tell"]) h1
      refine ⟨_, rfl, p1, pw, _, _, rfl, rfl, upd_same, s1 _ _ hpw, Nat.le_of_lt (small1000 (by simp; omega)), fun p2 h2 => ?_⟩
      have s2 := same_upd (o := .lst ([V.str "tell"] ++ ws.map V.str)) h2
      refine ⟨small1000 (Nat.le_of_ble_eq_true rfl), fun p3 h3 => ?_⟩
      have s3 := same_upd (o := .lst [V.ref p2]) h3
      have st := (s1.trans s2).trans s3
      refine ⟨p3, p2, ws, rfl, upd_same, s3 _ _ upd_same, hok, by omega, fun e pt t v H' hp sm a b c => ?_, fun hn dx H' sm hd => ?_⟩
      · exact k1 e pt t v H' hp (st.trans sm) a b c
      · exact hE _ _ _ ⟨st.trans sm, rfl, hn, dx, rfl, hd⟩
    · rintro c dd H1 ⟨s1, rfl, hn, dx, rfl, hdx⟩
      refine ⟨T.em_NoForm_NoForm, fun ea cx _ hea => ?_⟩
      have s2 := same_upd (o := excD ea (.ref AA.x_NoForm) (some dx) cx) hea
      have hE2 : upd H1 ea (excD ea (.ref AA.x_NoForm) (some dx) cx) ea = some (excD ea (.ref AA.x_NoForm) (some dx) cx) := upd_same
      generalize upd H1 ea (excD ea (.ref AA.x_NoForm) (some dx) cx) = H2 at s2 hE2 ⊢
      refine ⟨_, rfl, ea, AA.x_NoForm, AA.x_MakesError, _, _, _, rfl, hE2, T.xc_NoForm, T.ki_NoForm_MakesError, _, rfl, ?_⟩
      refine iteT ?_
      refine ⟨_, rfl, ea, AA.x_NoForm, dx, cx, _, _, rfl, hE2, s2 _ _ hdx, T.xc_NoForm, T.ic_NoForm.hd, T.na_NoForm_at, rfl, rfl, _, rfl, ?_⟩
      refine iteT ?_
      refine ⟨_, rfl, ea, AA.x_NoForm, dx, cx, _, _, rfl, hE2, s2 _ _ hdx, T.xc_NoForm, T.ic_NoForm.hd, T.na_NoForm_what, rfl, rfl, _, rfl, ?_⟩
      refine ite2 (fun _ => ?_) (fun c => absurd (decide_eq_true rfl) c)
      exact ⟨Nat.zero_le _, fun q hq => k2 hn q _ ((s1.trans s2).trans (same_upd hq)) upd_same⟩
theorem cut_ws (ws : List Str) (a b : Option Int) : ∃ cs : List Str, cutV (ws.map V.str) a b = cs.map V.str ∧ cs.length ≤ ws.length ∧ ∀ z ∈ cs, z ∈ ws := by
  unfold cutV
  refine ⟨_, by rw [← List.map_drop, ← List.map_take], ?_, fun z hz => List.mem_of_mem_drop (List.mem_of_mem_take hz)⟩
  rw [List.length_take, List.length_drop]
  omega
theorem cut_dl (ws : List Str) (h : 0 < ws.length) : cutV (ws.map V.str) none (some (-1)) = ws.dropLast.map V.str := by
  unfold cutV
  rw [List.length_map, HT.sIx_none, List.drop_zero, ← List.map_take]
  have : HT.sIx ws.length ws.length (some (-1)) = ws.length - 1 := by
    show (if (-1 : Int) < 0 then ((-1 : Int) + (ws.length : Int)).toNat else min (-1 : Int).toNat ws.length) = _
    rw [if_pos (by decide)]
    omega
  rw [this, List.dropLast_eq_take, Nat.sub_zero]
noncomputable def odd14 : List Str := ["tell", ".", "+", "not", "do", "of", "x", "yes", "abcdefghi", "07", "1234567890123456789", "X", "-1", "5."]
noncomputable def spSp : Sp := fun vs H Q _ => ∃ (pw : Addr) (ws : List Str) (c : Int), vs = [.ref pw, .int c] ∧ H pw = some (.lst (ws.map V.str)) ∧ 0 < ws.length ∧ ws.length ≤ 200 ∧
  ∀ p ws' H', Same H H' → H' p = some (.lst (ws'.map V.str)) → ws'.length ≤ 2 * ws.length + 1 → (∀ z ∈ ws', z ∈ ws ∨ z ∈ odd14) → (c % 5 = 0 → ws' = ws.dropLast) → Q (.ref p) H'
noncomputable abbrev N_law_spoiled : List Str := ["_law_words_here", "_law_cell", "_law_at", "_law_odd"]
theorem sc_law_spoiled : FnScope N_law_spoiled ["_law_words_here", "_law_cell"] (defScope st_law_spoiled) := ⟨rfl, rfl, rfl, by decide +kernel, rfl, by decide +kernel, by decide +kernel⟩
theorem ok_sp (T : All P w K mg AA DD) : FnOk P w K mg base CX0 1 AA.law_spoiled DD.law_spoiled ["_law_words_here", "_law_cell"] spSp := by
  refine T.F_law_spoiled.ok sc_law_spoiled (fun vs H Q E h => ?_) (fun cdv A outer s H vs Q E hr h => ?_)
  · obtain ⟨pw, ws, c, rfl, _⟩ := h
    rfl
  · obtain ⟨pw, ws, c, rfl, hpw, h0, h2, k⟩ := h
    have nd := sc_law_spoiled.nd
    refine ⟨_, (@pss_cons _ _ _ _ _ (@ps_set _ _ 2 _ _ _ _ nd rfl (Or.inl rfl) (@pe_op _ _ _ _ _ _ _ _ op_mod (@pe_op _ _ _ _ _ _ _ _ op_fdiv (pv 1) pe_int) (pe_callB call_len_seq rfl T.n_len bt_len (@pa_cons _ _ _ _ _ (pv 0) pa_nil (by rfl)))) (by rfl) (by first | exact .inl rfl | exact .inr rfl | assumption)) (@pss_cons _ _ _ _ _ (@ps_set _ _ 3 _ _ _ _ nd rfl (Or.inl rfl) (@pe_lst _ _ _ _ (@pa_cons _ _ _ _ _ pe_str (@pa_cons _ _ _ _ _ pe_str (@pa_cons _ _ _ _ _ pe_str (@pa_cons _ _ _ _ _ pe_str (@pa_cons _ _ _ _ _ pe_str (@pa_cons _ _ _ _ _ pe_str (@pa_cons _ _ _ _ _ pe_str (@pa_cons _ _ _ _ _ pe_str (@pa_cons _ _ _ _ _ pe_str (@pa_cons _ _ _ _ _ pe_str (@pa_cons _ _ _ _ _ pe_str (@pa_cons _ _ _ _ _ pe_str (@pa_cons _ _ _ _ _ pe_str (@pa_cons _ _ _ _ _ pe_str pa_nil (by rfl)) (by rfl)) (by rfl)) (by rfl)) (by rfl)) (by rfl)) (by rfl)) (by rfl)) (by rfl)) (by rfl)) (by rfl)) (by rfl)) (by rfl)) (by rfl))) (by rfl) (by first | exact .inl rfl | exact .inr rfl | assumption)) (@pss_cons _ _ _ _ _ (@ps_if _ _ _ _ _ _ _ _ (@pt_cmpR _ _ _ _ _ _ _ _ op_eq (@pe_op _ _ _ _ _ _ _ _ op_mod (pv 1) pe_int) pe_int (nomark _)) (@pss_one _ _ _ (@ps_ret _ _ _ _ (pe_slice sl_list (pv 0) po_none (po_some (pe_un un_neg pe_int))))) pss_nil) (@pss_cons _ _ _ _ _ (@ps_if _ _ _ _ _ _ _ _ (@pt_cmpR _ _ _ _ _ _ _ _ op_eq (@pe_op _ _ _ _ _ _ _ _ op_mod (pv 1) pe_int) pe_int (nomark _)) (@pss_one _ _ _ (@ps_ret _ _ _ _ (@pe_op _ _ _ _ _ _ _ _ op_cat (pe_slice sl_list (pv 0) po_none (po_some (pv 2))) (pe_slice sl_list (pv 0) (po_some (@pe_op _ _ _ _ _ _ _ _ op_add (pv 2) pe_int)) po_none)))) pss_nil) (@pss_cons _ _ _ _ _ (@ps_if _ _ _ _ _ _ _ _ (@pt_cmpR _ _ _ _ _ _ _ _ op_eq (@pe_op _ _ _ _ _ _ _ _ op_mod (pv 1) pe_int) pe_int (nomark _)) (@pss_one _ _ _ (@ps_ret _ _ _ _ (@pe_op _ _ _ _ _ _ _ _ op_cat (@pe_op _ _ _ _ _ _ _ _ op_cat (pe_slice sl_list (pv 0) po_none (po_some (pv 2))) (@pe_lst _ _ _ _ (@pa_cons _ _ _ _ _ (@pe_ix _ _ _ _ _ _ _ (ix_listK (K := K) rfl) (pv 3) (@pe_op _ _ _ _ _ _ _ _ op_mod (@pe_op _ _ _ _ _ _ _ _ op_fdiv (pv 1) pe_int) pe_int) (fun _ _ => rfl)) pa_nil (by rfl)))) (pe_slice sl_list (pv 0) (po_some (pv 2)) po_none)))) pss_nil) (@pss_one _ _ _ (@ps_ret _ _ _ _ (@pe_op _ _ _ _ _ _ _ _ op_cat (@pe_op _ _ _ _ _ _ _ _ op_cat (pe_slice sl_list (pv 0) po_none (po_some (pv 2))) (@pe_lst _ _ _ _ (@pa_cons _ _ _ _ _ (@pe_ix _ _ _ _ _ _ _ (ix_listK (K := K) rfl) (pv 3) (@pe_op _ _ _ _ _ _ _ _ op_mod (@pe_op _ _ _ _ _ _ _ _ op_fdiv (pv 1) pe_int) pe_int) (fun _ _ => rfl)) pa_nil (by rfl)))) (pe_slice sl_list (pv 0) (po_some (@pe_op _ _ _ _ _ _ _ _ op_add (pv 2) pe_int)) po_none))))))))), ?_⟩
    clear T
    refine ⟨_, rfl, _, _, rfl, rfl, ⟨by decide, by decide⟩, _, rfl, pw, _, rfl, .inl (SqL.of hpw), _, _, rfl, rfl, (by rw [List.length_map]; omega), ?_⟩
    rw [List.length_map]
    obtain ⟨m, em, hm⟩ := modN (a := c / 5) (n := ws.length) h0
    dsimp only [gName]
    rw [em]
    refine ⟨small1000 (Nat.le_of_ble_eq_true rfl), fun p1 h1 => ?_⟩
    have s1 := same_upd (o := .lst (odd14.map V.str)) h1
    have hpo : upd H p1 (.lst (odd14.map V.str)) p1 = some (.lst (odd14.map V.str)) := upd_same
    have hpw1 := s1 _ _ hpw
    change gName 3 _ _ (upd H p1 (.lst (odd14.map V.str))) _
    generalize upd H p1 (.lst (odd14.map V.str)) = H1 at s1 hpo hpw1 ⊢
    refine ⟨_, rfl, _, _, rfl, rfl, (by show (0 : Int) < 5; decide), rfl, _, rfl, ?_⟩
    refine ite2 (fun q0 => ?_) (fun q0 => ?_)
    · refine ⟨_, rfl, _, rfl, _, rfl, pw, _, rfl, SqL.of hpw1, fun p2 h2' => ?_⟩
      refine k p2 ws.dropLast _ (s1.trans (same_upd h2')) (by rw [upd_same]; exact congrArg (fun x => some (HO.lst x)) (cut_dl ws h0)) (by simp; omega) (fun z hz => .inl (List.dropLast_subset _ hz)) (fun _ => rfl)
    refine ⟨_, rfl, _, _, rfl, rfl, (by show (0 : Int) < 5; decide), rfl, _, rfl, ?_⟩
    refine ite2 (fun _ => ?_) (fun _ => ?_)
    · refine ⟨_, rfl, _, rfl, _, rfl, pw, _, rfl, SqL.of hpw1, fun p2 h2' => ?_⟩
      obtain ⟨cs, ec, lc, mc⟩ := cut_ws ws none (some ((m : Nat) : Int))
      rw [ec]
      have s2 := same_upd (o := .lst (cs.map V.str)) h2'
      refine ⟨_, rfl, _, rfl, _, _, rfl, rfl, _, rfl, pw, _, rfl, SqL.of (s2 _ _ hpw1), fun p3 h3 => ?_⟩
      obtain ⟨c2, ec2, l2, m2⟩ := cut_ws ws (some (((m : Nat) : Int) + 1)) none
      rw [ec2]
      have s3 := same_upd (o := .lst (c2.map V.str)) h3
      refine ⟨p2, p3, _, _, rfl, rfl, s3 _ _ upd_same, upd_same, Nat.le_of_lt (small1000 (by simp; omega)), fun p4 h4 => ?_⟩
      refine k p4 (cs ++ c2) _ (((s1.trans s2).trans s3).trans (same_upd h4)) (by rw [upd_same, List.map_append]) (by simp; omega) (fun z hz => ?_) (fun q => absurd (decide_eq_true (by show V.int (c % 5) = _; rw [q])) q0)
      rcases List.mem_append.mp hz with hz | hz
      · exact .inl (mc z hz)
      · exact .inl (m2 z hz)
    refine ⟨_, rfl, _, _, rfl, rfl, (by show (0 : Int) < 5; decide), rfl, _, rfl, ?_⟩
    refine ite2 (fun _ => ?_) (fun _ => ?_)
    · refine ⟨_, rfl, _, rfl, _, rfl, pw, _, rfl, SqL.of hpw1, fun p2 h2' => ?_⟩
      obtain ⟨cs, ec, lc, mc⟩ := cut_ws ws none (some ((m : Nat) : Int))
      rw [ec]
      have s2 := same_upd (o := .lst (cs.map V.str)) h2'
      obtain ⟨j, ej, hj⟩ := modN (a := c / 5) (n := 14) (by decide)
      have ej : c / 5 % 14 = ((j : Nat) : Int) := ej
      have hj14 : j < odd14.length := hj
      refine ⟨_, rfl, _, rfl, _, _, rfl, rfl, ⟨by decide, by decide⟩, _, _, rfl, rfl, (by show (0 : Int) < 14; decide), p1, _, _, .str odd14[j], rfl, rfl, SqL.of (s2 _ _ hpo), (by show atI _ (c / 5 % 14) = _; rw [ej]; exact atI_nat (by rw [List.getElem?_map, List.getElem?_eq_getElem hj14]; rfl)), small1000 (Nat.le_of_ble_eq_true rfl), fun p3 h3 => ?_⟩
      have hod : odd14[j] ∈ odd14 := List.getElem_mem hj14
      generalize odd14[j] = od at hod ⊢
      have s3 := same_upd (o := .lst [V.str od]) h3
      refine ⟨p2, p3, _, _, rfl, rfl, s3 _ _ upd_same, upd_same, Nat.le_of_lt (small1000 (by simp; omega)), fun p4 h4 => ?_⟩
      have s4 := same_upd (o := .lst (cs.map V.str ++ [V.str od])) h4
      have st := (s2.trans s3).trans s4
      refine ⟨_, rfl, _, rfl, _, rfl, pw, _, rfl, SqL.of (st _ _ hpw1), fun p5 h5 => ?_⟩
      obtain ⟨c2, ec2, l2, m2⟩ := cut_ws ws (some ((m : Nat) : Int)) none
      rw [ec2]
      have s5 := same_upd (o := .lst (c2.map V.str)) h5
      refine ⟨p4, p5, _, _, rfl, rfl, s5 _ _ upd_same, upd_same, Nat.le_of_lt (small1000 (by simp; omega)), fun p6 h6 => ?_⟩
      refine k p6 (cs ++ [od] ++ c2) _ (((s1.trans st).trans s5).trans (same_upd h6)) (by rw [upd_same]; simp) (by simp; omega) (fun z hz => ?_) (fun q => absurd (decide_eq_true (by show V.int (c % 5) = _; rw [q])) q0)
      simp only [List.mem_append, List.mem_singleton] at hz
      rcases hz with (hz | rfl) | hz
      · exact .inl (mc z hz)
      · exact .inr hod
      · exact .inl (m2 z hz)
    · refine ⟨_, rfl, _, rfl, _, rfl, pw, _, rfl, SqL.of hpw1, fun p2 h2' => ?_⟩
      obtain ⟨cs, ec, lc, mc⟩ := cut_ws ws none (some ((m : Nat) : Int))
      rw [ec]
      have s2 := same_upd (o := .lst (cs.map V.str)) h2'
      obtain ⟨j, ej, hj⟩ := modN (a := c / 7) (n := 14) (by decide)
      have ej : c / 7 % 14 = ((j : Nat) : Int) := ej
      have hj14 : j < odd14.length := hj
      refine ⟨_, rfl, _, rfl, _, _, rfl, rfl, ⟨by decide, by decide⟩, _, _, rfl, rfl, (by show (0 : Int) < 14; decide), p1, _, _, .str odd14[j], rfl, rfl, SqL.of (s2 _ _ hpo), (by show atI _ (c / 7 % 14) = _; rw [ej]; exact atI_nat (by rw [List.getElem?_map, List.getElem?_eq_getElem hj14]; rfl)), small1000 (Nat.le_of_ble_eq_true rfl), fun p3 h3 => ?_⟩
      have hod : odd14[j] ∈ odd14 := List.getElem_mem hj14
      generalize odd14[j] = od at hod ⊢
      have s3 := same_upd (o := .lst [V.str od]) h3
      refine ⟨p2, p3, _, _, rfl, rfl, s3 _ _ upd_same, upd_same, Nat.le_of_lt (small1000 (by simp; omega)), fun p4 h4 => ?_⟩
      have s4 := same_upd (o := .lst (cs.map V.str ++ [V.str od])) h4
      have st := (s2.trans s3).trans s4
      refine ⟨_, rfl, _, rfl, _, _, rfl, rfl, _, rfl, pw, _, rfl, SqL.of (st _ _ hpw1), fun p5 h5 => ?_⟩
      obtain ⟨c2, ec2, l2, m2⟩ := cut_ws ws (some (((m : Nat) : Int) + 1)) none
      rw [ec2]
      have s5 := same_upd (o := .lst (c2.map V.str)) h5
      refine ⟨p4, p5, _, _, rfl, rfl, s5 _ _ upd_same, upd_same, Nat.le_of_lt (small1000 (by simp; omega)), fun p6 h6 => ?_⟩
      refine k p6 (cs ++ [od] ++ c2) _ (((s1.trans st).trans s5).trans (same_upd h6)) (by rw [upd_same]; simp) (by simp; omega) (fun z hz => ?_) (fun q => absurd (decide_eq_true (by show V.int (c % 5) = _; rw [q])) q0)
      simp only [List.mem_append, List.mem_singleton] at hz
      rcases hz with (hz | rfl) | hz
      · exact .inl (mc z hz)
      · exact .inr hod
      · exact .inl (m2 z hz)
end
/-! expressions as data; what is read as a whole -/
mutual
noncomputable def exD : Ex → PyData
  | .num n => .tuple [.str "num", .int n]
  | .truth z => .tuple [.str "truth", .str z]
  | .name z => .tuple [.str "name", .str z]
  | .not e => .tuple [.str "not", exD e]
  | .op w a b => .tuple [.str w, exD a, exD b]
  | .of n e => .tuple [.str "of", .str n, exD e]
  | .many w n es => .tuple [.str w, .str n, .tuple (exsD es)]
noncomputable def exsD : List Ex → List PyData
  | [] => []
  | e :: es => exD e :: exsD es
end
mutual
theorem ex_rdv {K : PySem.W.Frag} {H : Hp} : ∀ {v : V} {e : Ex}, ExAt H v e → Rdv K H v (exD e)
  | _, _, .num h => .tup (SqT.of h) (.cons (.str _) (.cons (.int _) .nil))
  | _, _, .truth h => .tup (SqT.of h) (.cons (.str _) (.cons (.str _) .nil))
  | _, _, .name h => .tup (SqT.of h) (.cons (.str _) (.cons (.str _) .nil))
  | _, _, .not h a => .tup (SqT.of h) (.cons (.str _) (.cons (ex_rdv a) .nil))
  | _, _, .op h x y => .tup (SqT.of h) (.cons (.str _) (.cons (ex_rdv x) (.cons (ex_rdv y) .nil)))
  | _, _, .of h x => .tup (SqT.of h) (.cons (.str _) (.cons (.str _) (.cons (ex_rdv x) .nil)))
  | _, _, .many h l x => .tup (SqT.of h) (.cons (.str _) (.cons (.str _) (.cons (.tup (SqT.of l) (exs_rdv x)) .nil)))
theorem exs_rdv {K : PySem.W.Frag} {H : Hp} : ∀ {vs : List V} {es : List Ex}, ExsAt H vs es → RdvA K H vs (exsD es)
  | _, _, .nil => .nil
  | _, _, .cons a b => .cons (ex_rdv a) (exs_rdv b)
end
noncomputable def W1 (z : Str) : Prop := z.length ≤ 100 ∧ ∀ c ∈ z.cps.toList, c < 128
noncomputable instance (z : Str) : Decidable (W1 z) := inferInstanceAs (Decidable (_ ∧ _))
theorem name_ws {z : Str} (h : isName z = true) : W1 z := by
  unfold isName madeOf at h
  simp only [Bool.and_eq_true, Bool.not_eq_true', decide_eq_false_iff_not, decide_eq_true_eq, List.all_eq_true] at h
  refine ⟨by omega, fun c hc => ?_⟩
  have := h.1.2.2 c hc
  unfold isLo at this
  have := of_decide_eq_true this
  omega
theorem num_ws {z : Str} (h : isNum z = true) : W1 z := by
  unfold isNum madeOf at h
  simp only [Bool.or_eq_true, Bool.and_eq_true, Bool.not_eq_true', decide_eq_false_iff_not, decide_eq_true_eq, List.all_eq_true] at h
  rcases h with rfl | h
  · decide +kernel
  · refine ⟨by omega, fun c hc => ?_⟩
    have := h.1.2.2 c hc
    unfold isFig at this
    have := of_decide_eq_true this
    omega
theorem ops_ws : ∀ z ∈ ops7, W1 z := by decide +kernel
theorem mny_ws : ∀ z ∈ (["do", "new"] : List Str), W1 z := by decide +kernel
theorem yn_ws : ∀ z ∈ (["yes", "no"] : List Str), W1 z := by decide +kernel
theorem odd_ws : ∀ z ∈ odd14, W1 z := by decide +kernel
theorem lit_ws : W1 "not" ∧ W1 "of" ∧ W1 "." ∧ W1 "tell" ∧ W1 "num" ∧ W1 "truth" ∧ W1 "name" := by decide +kernel
mutual
theorem good_ws : ∀ (e : Ex), GoodE e → ∀ z ∈ wdsE e, W1 z
  | .num n, g, z, h => by
    have e : z = nW n := by simpa [wdsE] using h
    obtain ⟨m, rfl⟩ := Int.eq_ofNat_of_zero_le g.1
    rw [e]
    exact num_ws (num_word (by have := g.2; omega)).1
  | .truth y, g, z, h => by
    have e : z = y := by simpa [wdsE] using h
    rw [e]; exact yn_ws _ g
  | .name y, g, z, h => by
    have e : z = y := by simpa [wdsE] using h
    rw [e]; exact name_ws g
  | .not e, g, z, h => by
    rcases List.mem_cons.mp h with rfl | h
    · exact lit_ws.1
    · exact good_ws e g z h
  | .op w a b, g, z, h => by
    rcases List.mem_cons.mp h with rfl | h
    · exact ops_ws _ g.1
    · rcases List.mem_append.mp h with h | h
      · exact good_ws a g.2.1 z h
      · exact good_ws b g.2.2 z h
  | .of n e, g, z, h => by
    rcases List.mem_cons.mp h with rfl | h
    · exact lit_ws.2.1
    · rcases List.mem_cons.mp h with rfl | h
      · exact name_ws g.1
      · exact good_ws e g.2 z h
  | .many w n es, g, z, h => by
    rcases List.mem_cons.mp h with rfl | h
    · exact mny_ws _ g.1
    · rcases List.mem_cons.mp h with rfl | h
      · exact name_ws g.2.1
      · rcases List.mem_append.mp h with h | h
        · exact goodL_ws es g.2.2 z h
        · rw [show z = "." by simpa using h]; exact lit_ws.2.2.1
theorem goodL_ws : ∀ (es : List Ex), GoodL es → ∀ z ∈ wdsL es, W1 z
  | [], _, z, h => by cases h
  | e :: es, g, z, h => by
    rcases List.mem_append.mp h with h | h
    · exact good_ws e g.1 z h
    · exact goodL_ws es g.2 z h
end
mutual
theorem ex_shd : ∀ (e : Ex), GoodE e → Shd (2 * depE e) (exD e)
  | .num n, _ => Shd.tuple (n := 1) fun d hd => by
    simp only [List.mem_cons, List.not_mem_nil, or_false] at hd
    rcases hd with rfl | rfl
    · exact (Shd.str (by decide +kernel)).up (Nat.zero_le _)
    · exact (Shd.int _).up (Nat.zero_le _)
  | .truth z, h => Shd.tuple (n := 1) fun d hd => by
    simp only [List.mem_cons, List.not_mem_nil, or_false] at hd
    rcases hd with rfl | rfl
    · exact (Shd.str (by decide +kernel)).up (Nat.zero_le _)
    · exact (Shd.str (yn_ws _ h).2).up (Nat.zero_le _)
  | .name z, h => Shd.tuple (n := 1) fun d hd => by
    simp only [List.mem_cons, List.not_mem_nil, or_false] at hd
    rcases hd with rfl | rfl
    · exact (Shd.str (by decide +kernel)).up (Nat.zero_le _)
    · exact (Shd.str (name_ws h).2).up (Nat.zero_le _)
  | .not e, h => Shd.tuple (n := 2 * depE e + 1) fun d hd => by
    simp only [List.mem_cons, List.not_mem_nil, or_false] at hd
    rcases hd with rfl | rfl
    · exact (Shd.str (by decide +kernel)).up (Nat.zero_le _)
    · exact (ex_shd e h).up (by omega)
  | .op w a b, h => Shd.tuple (n := 2 * max (depE a) (depE b) + 1) fun d hd => by
    simp only [List.mem_cons, List.not_mem_nil, or_false] at hd
    rcases hd with rfl | rfl | rfl
    · exact (Shd.str (ops_ws _ h.1).2).up (Nat.zero_le _)
    · exact (ex_shd a h.2.1).up (by omega)
    · exact (ex_shd b h.2.2).up (by omega)
  | .of n e, h => Shd.tuple (n := 2 * depE e + 1) fun d hd => by
    simp only [List.mem_cons, List.not_mem_nil, or_false] at hd
    rcases hd with rfl | rfl | rfl
    · exact (Shd.str (by decide +kernel)).up (Nat.zero_le _)
    · exact (Shd.str (name_ws h.1).2).up (Nat.zero_le _)
    · exact (ex_shd e h.2).up (by omega)
  | .many w n es, h => Shd.tuple (n := 2 * depL es + 1) fun d hd => by
    simp only [List.mem_cons, List.not_mem_nil, or_false] at hd
    rcases hd with rfl | rfl | rfl
    · exact (Shd.str (mny_ws _ h.1).2).up (Nat.zero_le _)
    · exact (Shd.str (name_ws h.2.1).2).up (Nat.zero_le _)
    · exact Shd.tuple (exs_shd es h.2.2)
theorem exs_shd : ∀ (es : List Ex), GoodL es → ∀ d ∈ exsD es, Shd (2 * depL es) d
  | [], _, d, h => by cases h
  | e :: es, g, d, h => by
    rcases List.mem_cons.mp h with rfl | h
    · exact (ex_shd e g.1).up (by simp [depL]; omega)
    · exact (exs_shd es g.2 d h).up (by simp [depL]; omega)
end
noncomputable def toldD (e : Ex) : PyData := .list [.tuple [.str "tell", .int 0, exD e]]
theorem told_rdv {K : PySem.W.Frag} {H : Hp} {pt t : Addr} {v : V} {e : Ex} (h1 : H pt = some (.lst [.ref t])) (h2 : H t = some (.tup [.str "tell", .int 0, v])) (h3 : ExAt H v e) : Rdv K H (.ref pt) (toldD e) :=
  .lst (SqL.of h1) (.cons (.tup (SqT.of h2) (.cons (.str _) (.cons (.int _) (.cons (ex_rdv h3) .nil)))) .nil)
theorem told_shd {e : Ex} (g : GoodE e) (h : depE e ≤ 6) : Shd 14 (toldD e) := Shd.list (n := 13) fun d hd => by
  simp only [List.mem_cons, List.not_mem_nil, or_false] at hd
  subst hd
  refine Shd.tuple (n := 12) fun d hd => ?_
  simp only [List.mem_cons, List.not_mem_nil, or_false] at hd
  rcases hd with rfl | rfl | rfl
  · exact (Shd.str (by decide +kernel)).up (Nat.zero_le _)
  · exact (Shd.int _).up (Nat.zero_le _)
  · exact (ex_shd e g).up (by omega)
theorem whole_back {ws : List Str} {e : Ex} (h : Whole ws e) : GoodE e ∧ depE e ≤ 6 ∧ wdsE e = ws := by
  obtain ⟨g, d, a, j⟩ := pE_back 6 _ _ _ _ h
  refine ⟨g, d, ?_⟩
  have hl : (wdsE e).length = ws.length := by omega
  refine List.ext_getElem? fun i => ?_
  by_cases hi : i < (wdsE e).length
  · have := a i hi
    rw [← this, Nat.add_comm, List.getElem?_cons_succ]
  · rw [List.getElem?_eq_none (by omega), List.getElem?_eq_none (by omega)]
theorem whole_own {e : Ex} (g : GoodE e) : (depE e ≤ 6 → Whole (wdsE e) e) ∧ (6 < depE e → ∀ f, ¬ Whole (wdsE e) f) := by
  have ha : AtW ("tell" :: wdsE e) 1 (wdsE e) := fun k hk => by rw [Nat.add_comm, List.getElem?_cons_succ]
  obtain ⟨p, q⟩ := pE_own 6 _ e 1 g ha
  refine ⟨fun h => ?_, fun h f hf => ?_⟩
  · have := p h
    rw [Nat.add_comm] at this
    exact this
  · have := q h
    unfold Whole at hf
    rw [this] at hf
    cases hf
noncomputable def wholeB (ws : List Str) : Bool := match pE ("tell" :: ws) 6 1 with
  | some (_, j) => decide (j = ws.length + 1)
  | none => false
theorem whole_y {ws : List Str} (h : wholeB ws = true) : ∃ e, Whole ws e := by
  unfold wholeB at h
  cases hp : pE ("tell" :: ws) 6 1 with
  | none => rw [hp] at h; cases h
  | some q =>
    obtain ⟨e, j⟩ := q
    rw [hp] at h
    have := of_decide_eq_true h
    exact ⟨e, by unfold Whole; rw [hp, this]⟩
theorem whole_n {ws : List Str} (h : wholeB ws = false) : ∀ e, ¬ Whole ws e := fun e he => by
  unfold wholeB at h
  rw [he] at h
  exact absurd rfl (of_decide_eq_false h)
/-- what lacks its last word is never read -/
theorem drop_bad {e : Ex} (g : GoodE e) : ∀ f, ¬ Whole (wdsE e).dropLast f := fun f hf => by
  obtain ⟨gf, df, ef⟩ := whole_back hf
  -- read f's words where e's words stand: both parses agree, the lengths do not
  have hp := wdsE_pos e
  let K := depE e + depE f
  have ae : AtW ("tell" :: wdsE e) 1 (wdsE e) := fun k hk => by rw [Nat.add_comm, List.getElem?_cons_succ]
  have af : AtW ("tell" :: wdsE e) 1 (wdsE f) := fun k hk => by
    rw [Nat.add_comm, List.getElem?_cons_succ, ef, List.getElem?_dropLast]
    rw [ef, List.length_dropLast] at hk
    rw [if_pos (by omega)]
  have pe := (pE_own (depE e + depE f) _ e 1 g ae).1 (by omega)
  have pf := (pE_own (depE e + depE f) _ f 1 gf af).1 (by omega)
  rw [pe] at pf
  have h2 : 1 + (wdsE e).length = 1 + (wdsE f).length := by
    have := congrArg (fun x => x.map (·.2)) pf
    simpa using this
  rw [ef, List.length_dropLast] at h2
  omega
section
variable {P : Program} {w : World} {K : PySem.W.Frag} {mg : Str → Option Value} {base : Heap} {AA : Adr} {DD : Fds}
/-! the edges -/
theorem nwS {H H1 : Hp} {p : Addr} {o : HO} (h : H p = none) (hq : upd H p o = H1) : Same H H1 ∧ H1 p = some o := by subst hq; exact ⟨same_upd h, upd_same⟩
inductive RwsAt (H : Hp) : List V → List (List Str) → Prop
  | nil : RwsAt H [] []
  | cons {l : Addr} {r : List Str} {vs : List V} {rs : List (List Str)} : H l = some (.lst (r.map V.str)) → RwsAt H vs rs → RwsAt H (.ref l :: vs) (r :: rs)
theorem RwsAt.kept {H H' : Hp} (s : Same H H') : ∀ {vs : List V} {rs : List (List Str)}, RwsAt H vs rs → RwsAt H' vs rs
  | _, _, .nil => .nil
  | _, _, .cons h t => .cons (s _ _ h) (RwsAt.kept s t)
theorem RwsAt.app {H : Hp} : ∀ {vs us : List V} {rs qs : List (List Str)}, RwsAt H vs rs → RwsAt H us qs → RwsAt H (vs ++ us) (rs ++ qs)
  | _, _, _, _, .nil, b => b
  | _, _, _, _, .cons h t, b => .cons h (RwsAt.app t b)
theorem RwsAt.get {H : Hp} : ∀ {vs : List V} {rs : List (List Str)} {i : Nat} {v : V}, RwsAt H vs rs → vs[i]? = some v → ∃ l r, v = .ref l ∧ r ∈ rs ∧ H l = some (.lst (r.map V.str))
  | _, _, 0, _, .cons h t, e => by cases (show some _ = some _ from e); exact ⟨_, _, rfl, by simp, h⟩
  | _, _, i + 1, _, .cons h t, e => by
    obtain ⟨l, r, h1, h2, h3⟩ := RwsAt.get (i := i) t e
    exact ⟨l, r, h1, List.mem_cons_of_mem _ h2, h3⟩
noncomputable def strD (ws : List Str) : PyData := .list (ws.map PyData.str)
theorem str_rdv {K : PySem.W.Frag} {H : Hp} {p : Addr} {ws : List Str} (h : H p = some (.lst (ws.map V.str))) : Rdv K H (.ref p) (strD ws) := .lst (SqL.of h) (RdvA.map fun z _ => .str z)
theorem str_shd {ws : List Str} (h : ∀ z ∈ ws, W1 z) : Shd 1 (strD ws) := Shd.list fun d hd => by
  obtain ⟨z, hz, rfl⟩ := List.mem_map.mp hd
  exact Shd.str (h z hz).2
noncomputable def gd6 : List (List Str) := [[Txt.mul "1" 18], ["abcdefgh"], ["not", "not", "not", "not", "not", "x"], ["0"], ["do", "f", "."], ["of", "x", "new", "y", "."]]
noncomputable def bd9 : List (List Str) := [[Txt.mul "1" 19], ["abcdefghi"], ["not", "not", "not", "not", "not", "not", "x"], ["00"], ["01"], ["do", "f"], ["new", "."], ["of", "x"], []]
noncomputable def bd7 : List (List Str) := [["x", "x"], ["+", "1"], ["+", "1", "2", "3"], ["do", "if", "."], ["not"], ["."], ["end"]]
theorem gd_ok : ∀ r ∈ gd6, wholeB r = true ∧ r.length ≤ 10 ∧ ∀ z ∈ r, W1 z := by decide +kernel
theorem bd_ok : ∀ r ∈ bd9 ++ bd7, wholeB r = false ∧ r.length ≤ 10 ∧ ∀ z ∈ r, W1 z := by decide +kernel
theorem mul_ok18 : MulOk "1" 18 := ⟨by decide, fun _ _ => by decide +kernel, fun _ _ => by decide +kernel⟩
theorem mul_ok19 : MulOk "1" 19 := ⟨by decide, fun _ _ => by decide +kernel, fun _ _ => by decide +kernel⟩
theorem tell_ws {r : List Str} (h : ∀ z ∈ r, W1 z) : WsOk ("tell" :: r) := fun z hz => by
  rcases List.mem_cons.mp hz with rfl | hz
  · exact lit_ws.2.2.2.1
  · exact h z hz
noncomputable def spEd : Sp := fun vs H Q _ => vs = [] ∧ ∀ H', Same H H' → Q (.bl true) H'
noncomputable abbrev N_law_edges : List Str := ["_law_deep_here", "_law_good", "_law_bad", "_law_words_here", "_law_found_here"]
theorem sc_law_edges : FnScope N_law_edges [] (defScope st_law_edges) := ⟨rfl, rfl, rfl, by decide +kernel, rfl, by decide +kernel, by decide +kernel⟩
theorem ok_ed (T : All P w K mg AA DD) : FnOk P w K mg base CX0 27 AA.law_edges DD.law_edges [] spEd := by
  have GFD := ok_fd (base := base) T
  have GWD := ok_lw (base := base) T 8
  refine T.F_law_edges.ok sc_law_edges (fun vs H Q E h => ?_) (fun cdv A outer s H vs Q E hr h => ?_)
  · obtain ⟨rfl, _⟩ := h
    rfl
  · obtain ⟨rfl, k⟩ := h
    have nd := sc_law_edges.nd
    have hu := hr.units
    have hrF : Room 26 _ := hr
    have hrW2 := hrF.mono (show 9 ≤ 26 by decide)
    refine ⟨_, (@pss_cons _ _ _ _ _ (@ps_set _ _ 0 _ _ _ _ nd rfl (Or.inl rfl) (@pe_op _ _ _ _ _ _ _ _ op_cat (@pe_op _ _ _ _ _ _ _ _ op_rep (@pe_lst _ _ _ _ (@pa_cons _ _ _ _ _ pe_str pa_nil (by rfl))) pe_int) (@pe_lst _ _ _ _ (@pa_cons _ _ _ _ _ pe_str pa_nil (by rfl)))) (by rfl) (by first | exact .inl rfl | exact .inr rfl | assumption)) (@pss_cons _ _ _ _ _ (@ps_set _ _ 1 _ _ _ _ nd rfl (Or.inl rfl) (@pe_lst _ _ _ _ (@pa_cons _ _ _ _ _ (@pe_lst _ _ _ _ (@pa_cons _ _ _ _ _ (@pe_op _ _ _ _ _ _ _ _ op_repS pe_str pe_int) pa_nil (by rfl))) (@pa_cons _ _ _ _ _ (@pe_lst _ _ _ _ (@pa_cons _ _ _ _ _ pe_str pa_nil (by rfl))) (@pa_cons _ _ _ _ _ (pv 0) (@pa_cons _ _ _ _ _ (@pe_lst _ _ _ _ (@pa_cons _ _ _ _ _ pe_str pa_nil (by rfl))) (@pa_cons _ _ _ _ _ (@pe_lst _ _ _ _ (@pa_cons _ _ _ _ _ pe_str (@pa_cons _ _ _ _ _ pe_str (@pa_cons _ _ _ _ _ pe_str pa_nil (by rfl)) (by rfl)) (by rfl))) (@pa_cons _ _ _ _ _ (@pe_lst _ _ _ _ (@pa_cons _ _ _ _ _ pe_str (@pa_cons _ _ _ _ _ pe_str (@pa_cons _ _ _ _ _ pe_str (@pa_cons _ _ _ _ _ pe_str (@pa_cons _ _ _ _ _ pe_str pa_nil (by rfl)) (by rfl)) (by rfl)) (by rfl)) (by rfl))) pa_nil (by rfl)) (by rfl)) (by rfl)) (by rfl)) (by rfl)) (by rfl))) (by rfl) (by first | exact .inl rfl | exact .inr rfl | assumption)) (@pss_cons _ _ _ _ _ (@ps_set _ _ 2 _ _ _ _ nd rfl (Or.inl rfl) (@pe_lst _ _ _ _ (@pa_cons _ _ _ _ _ (@pe_lst _ _ _ _ (@pa_cons _ _ _ _ _ (@pe_op _ _ _ _ _ _ _ _ op_repS pe_str pe_int) pa_nil (by rfl))) (@pa_cons _ _ _ _ _ (@pe_lst _ _ _ _ (@pa_cons _ _ _ _ _ pe_str pa_nil (by rfl))) (@pa_cons _ _ _ _ _ (@pe_op _ _ _ _ _ _ _ _ op_cat (@pe_lst _ _ _ _ (@pa_cons _ _ _ _ _ pe_str pa_nil (by rfl))) (pv 0)) (@pa_cons _ _ _ _ _ (@pe_lst _ _ _ _ (@pa_cons _ _ _ _ _ pe_str pa_nil (by rfl))) (@pa_cons _ _ _ _ _ (@pe_lst _ _ _ _ (@pa_cons _ _ _ _ _ pe_str pa_nil (by rfl))) (@pa_cons _ _ _ _ _ (@pe_lst _ _ _ _ (@pa_cons _ _ _ _ _ pe_str (@pa_cons _ _ _ _ _ pe_str pa_nil (by rfl)) (by rfl))) (@pa_cons _ _ _ _ _ (@pe_lst _ _ _ _ (@pa_cons _ _ _ _ _ pe_str (@pa_cons _ _ _ _ _ pe_str pa_nil (by rfl)) (by rfl))) (@pa_cons _ _ _ _ _ (@pe_lst _ _ _ _ (@pa_cons _ _ _ _ _ pe_str (@pa_cons _ _ _ _ _ pe_str pa_nil (by rfl)) (by rfl))) (@pa_cons _ _ _ _ _ (@pe_lst _ _ _ _ pa_nil) pa_nil (by rfl)) (by rfl)) (by rfl)) (by rfl)) (by rfl)) (by rfl)) (by rfl)) (by rfl)) (by rfl))) (by rfl) (by first | exact .inl rfl | exact .inr rfl | assumption)) (@pss_cons _ _ _ _ _ (@ps_set _ _ 2 _ _ _ _ nd rfl (Or.inl rfl) (@pe_op _ _ _ _ _ _ _ _ op_cat (pv 2) (@pe_lst _ _ _ _ (@pa_cons _ _ _ _ _ (@pe_lst _ _ _ _ (@pa_cons _ _ _ _ _ pe_str (@pa_cons _ _ _ _ _ pe_str pa_nil (by rfl)) (by rfl))) (@pa_cons _ _ _ _ _ (@pe_lst _ _ _ _ (@pa_cons _ _ _ _ _ pe_str (@pa_cons _ _ _ _ _ pe_str pa_nil (by rfl)) (by rfl))) (@pa_cons _ _ _ _ _ (@pe_lst _ _ _ _ (@pa_cons _ _ _ _ _ pe_str (@pa_cons _ _ _ _ _ pe_str (@pa_cons _ _ _ _ _ pe_str (@pa_cons _ _ _ _ _ pe_str pa_nil (by rfl)) (by rfl)) (by rfl)) (by rfl))) (@pa_cons _ _ _ _ _ (@pe_lst _ _ _ _ (@pa_cons _ _ _ _ _ pe_str (@pa_cons _ _ _ _ _ pe_str (@pa_cons _ _ _ _ _ pe_str pa_nil (by rfl)) (by rfl)) (by rfl))) (@pa_cons _ _ _ _ _ (@pe_lst _ _ _ _ (@pa_cons _ _ _ _ _ pe_str pa_nil (by rfl))) (@pa_cons _ _ _ _ _ (@pe_lst _ _ _ _ (@pa_cons _ _ _ _ _ pe_str pa_nil (by rfl))) (@pa_cons _ _ _ _ _ (@pe_lst _ _ _ _ (@pa_cons _ _ _ _ _ pe_str pa_nil (by rfl))) pa_nil (by rfl)) (by rfl)) (by rfl)) (by rfl)) (by rfl)) (by rfl)) (by rfl)))) (by rfl) (by first | exact .inl rfl | exact .inr rfl | assumption)) (@pss_cons _ _ _ _ _ (@ps_for _ _ _ _ _ _ _ _ PassesOwn.never rfl (pi_list (pv 1)) (pg_name (i := 3) nd rfl (Or.inl rfl)) (@pss_cons _ _ _ _ _ (@ps_set _ _ 4 _ _ _ _ nd rfl (Or.inl rfl) (pe_call GFD hrF rfl T.m_law_found T.k_law_found T.b_law_found .nil pass0 (@pa_cons _ _ _ _ _ (pe_callTy (call_list_ofK (K := K) rfl) rfl T.n_list bt_list (@pa_cons _ _ _ _ _ (pv 3) pa_nil (by rfl))) pa_nil (by rfl))) (by rfl) (by first | exact .inl rfl | exact .inr rfl | assumption)) (@pss_one _ _ _ (@ps_if _ _ _ _ _ _ _ _ (PW.pt (pw_or (pt_cmp (pc_isN (pv 4))) (pw_or (@pt_cmpR _ _ _ _ _ _ _ _ (op_eqD (K := K) rfl hu) (pv 4) (@pe_tup _ _ _ _ _ pa_nil) (nomark _)) (pw_or1 (@pt_cmpR _ _ _ _ _ _ _ _ (op_neD (K := K) rfl hu) (pe_call GWD hrW2 rfl T.m_law_words T.k_law_words T.b_law_words .nil pass0 (@pa_cons _ _ _ _ _ (@pe_ix _ _ _ _ _ _ _ (ix_tupK (K := K) rfl) (@pe_ix _ _ _ _ _ _ _ (ix_listK (K := K) rfl) (pv 4) pe_int (fun _ _ => rfl)) pe_int (fun _ _ => rfl)) pa_nil (by rfl))) (pv 3) (nomark _)))))) (@pss_one _ _ _ (@ps_ret _ _ _ _ pe_bl)) pss_nil))) (by intro _; rfl)) (@pss_one _ _ _ (@ps_ret _ _ _ _ (pe_callB (call_allB rfl) rfl T.n_all bt_all (@pa_cons _ _ _ _ _ (pe_comp (defScope st_law_edges) N_law_edges [] [] rfl (by exact ⟨rfl, rfl, by decide +kernel, rfl, by decide +kernel, by decide +kernel, by decide +kernel, rfl, by decide +kernel⟩) rfl rfl (pi_list (pv 2)) (fun _ _ _ _ => pif_nil) (fun _ _ _ _ => (@pe_cmpR _ _ _ _ _ _ _ _ (op_eqD (K := K) rfl hu) (pe_call GFD hrF rfl T.m_law_found T.k_law_found T.b_law_found .nil pass0 (@pa_cons _ _ _ _ _ (pe_callTy (call_list_ofK (K := K) rfl) rfl T.n_list bt_list (@pa_cons _ _ _ _ _ (pv 0) pa_nil (by rfl))) pa_nil (by rfl))) (@pe_tup _ _ _ _ _ pa_nil) (nomark _)))) pa_nil (by rfl)))))))))), ?_⟩
    clear GFD GWD
    refine ⟨small1000 (Nat.le_of_ble_eq_true rfl), fun n0 hh => ?_⟩
    generalize hq : upd _ n0 _ = N0
    obtain ⟨t0, f0⟩ := nwS hh hq
    clear hh hq
    refine ⟨n0, _, _, rfl, rfl, f0, by decide, by decide, small1000 (Nat.le_of_ble_eq_true rfl), fun n1 hh => ?_⟩
    generalize hq : upd _ n1 _ = N1
    obtain ⟨t1, f1⟩ := nwS hh hq
    clear hh hq
    refine ⟨small1000 (Nat.le_of_ble_eq_true rfl), fun n2 hh => ?_⟩
    generalize hq : upd _ n2 _ = N2
    obtain ⟨t2, f2⟩ := nwS hh hq
    clear hh hq
    refine ⟨n1, n2, _, _, rfl, rfl, t2 _ _ f1, f2, small1000 (Nat.le_of_ble_eq_true rfl), fun dp hh => ?_⟩
    generalize hq : upd _ dp _ = D0
    obtain ⟨t3, fD⟩ := nwS hh hq
    clear hh hq
    have fD : D0 dp = some (.lst ((["not", "not", "not", "not", "not", "x"] : List Str).map V.str)) := fD
    have hs0 := (((t0.trans t1).trans t2).trans t3)
    refine ⟨_, _, rfl, rfl, mul_ok18, small1000 (Nat.le_of_ble_eq_true rfl), fun a1 hh => ?_⟩
    generalize hq : upd _ a1 _ = H1
    obtain ⟨s1, e1⟩ := nwS hh hq
    clear hh hq
    refine ⟨small1000 (Nat.le_of_ble_eq_true rfl), fun a2 hh => ?_⟩
    generalize hq : upd _ a2 _ = H2
    obtain ⟨s2, e2⟩ := nwS hh hq
    clear hh hq
    refine ⟨_, rfl, small1000 (Nat.le_of_ble_eq_true rfl), fun a4 hh => ?_⟩
    generalize hq : upd _ a4 _ = H4
    obtain ⟨s4, e4⟩ := nwS hh hq
    clear hh hq
    refine ⟨small1000 (Nat.le_of_ble_eq_true rfl), fun a5 hh => ?_⟩
    generalize hq : upd _ a5 _ = H5
    obtain ⟨s5, e5⟩ := nwS hh hq
    clear hh hq
    refine ⟨small1000 (Nat.le_of_ble_eq_true rfl), fun a6 hh => ?_⟩
    generalize hq : upd _ a6 _ = H6
    obtain ⟨s6, e6⟩ := nwS hh hq
    clear hh hq
    refine ⟨small1000 (Nat.le_of_ble_eq_true rfl), fun pg hh => ?_⟩
    generalize hq : upd _ pg _ = H7
    obtain ⟨s7, e7⟩ := nwS hh hq
    clear hh hq
    have w6 := s7
    have w5 := s6.trans w6
    have w4 := s5.trans w5
    have w2 := s4.trans w4
    have w1 := s2.trans w2
    have w0 := s1.trans w1
    have hg : RwsAt H7 [.ref a1, .ref a2, .ref dp, .ref a4, .ref a5, .ref a6] gd6 := .cons (w1 _ _ e1) (.cons (w2 _ _ e2) (.cons (w0 _ _ fD) (.cons (w4 _ _ e4) (.cons (w5 _ _ e5) (.cons (w6 _ _ e6) .nil)))))
    have fD := w0 _ _ fD
    have hs1 := hs0.trans w0
    clear e1 e2 e4 e5 e6 w0 w1 w2 w4 w5 w6
    dsimp only [gName]
    refine ⟨_, _, rfl, rfl, mul_ok19, small1000 (Nat.le_of_ble_eq_true rfl), fun b1 hh => ?_⟩
    generalize hq : upd _ b1 _ = B1
    obtain ⟨u1, v1⟩ := nwS hh hq
    clear hh hq
    refine ⟨small1000 (Nat.le_of_ble_eq_true rfl), fun b2 hh => ?_⟩
    generalize hq : upd _ b2 _ = B2
    obtain ⟨u2, v2⟩ := nwS hh hq
    clear hh hq
    refine ⟨small1000 (Nat.le_of_ble_eq_true rfl), fun x0 hh => ?_⟩
    generalize hq : upd _ x0 _ = B0
    obtain ⟨u0, v0⟩ := nwS hh hq
    clear hh hq
    have hdp : B0 dp = some (.lst ((["not", "not", "not", "not", "not", "x"] : List Str).map V.str)) := ((u1.trans u2).trans u0) _ _ fD
    refine ⟨_, rfl, x0, dp, _, _, rfl, rfl, v0, hdp, small1000 (Nat.le_of_ble_eq_true rfl), fun b3 hh => ?_⟩
    generalize hq : upd _ b3 _ = B3
    obtain ⟨u3, v3⟩ := nwS hh hq
    clear hh hq
    refine ⟨small1000 (Nat.le_of_ble_eq_true rfl), fun b4 hh => ?_⟩
    generalize hq : upd _ b4 _ = B4
    obtain ⟨u4, v4⟩ := nwS hh hq
    clear hh hq
    refine ⟨small1000 (Nat.le_of_ble_eq_true rfl), fun b5 hh => ?_⟩
    generalize hq : upd _ b5 _ = B5
    obtain ⟨u5, v5⟩ := nwS hh hq
    clear hh hq
    refine ⟨small1000 (Nat.le_of_ble_eq_true rfl), fun b6 hh => ?_⟩
    generalize hq : upd _ b6 _ = B6
    obtain ⟨u6, v6⟩ := nwS hh hq
    clear hh hq
    refine ⟨small1000 (Nat.le_of_ble_eq_true rfl), fun b7 hh => ?_⟩
    generalize hq : upd _ b7 _ = B7
    obtain ⟨u7, v7⟩ := nwS hh hq
    clear hh hq
    refine ⟨small1000 (Nat.le_of_ble_eq_true rfl), fun b8 hh => ?_⟩
    generalize hq : upd _ b8 _ = B8
    obtain ⟨u8, v8⟩ := nwS hh hq
    clear hh hq
    refine ⟨Nat.zero_le _, fun b9 hh => ?_⟩
    generalize hq : upd _ b9 _ = B9
    obtain ⟨u9, v9⟩ := nwS hh hq
    clear hh hq
    refine ⟨small1000 (Nat.le_of_ble_eq_true rfl), fun pb hh => ?_⟩
    generalize hq : upd _ pb _ = Bp
    obtain ⟨up, vp⟩ := nwS hh hq
    clear hh hq
    have z9 := up
    have z8 := u9.trans z9
    have z7 := u8.trans z8
    have z6 := u7.trans z7
    have z5 := u6.trans z6
    have z4 := u5.trans z5
    have z3 := u4.trans z4
    have z0 := u3.trans z3
    have z2 := u0.trans z0
    have z1 := u2.trans z2
    have zz := u1.trans z1
    have hb9 : RwsAt Bp [.ref b1, .ref b2, .ref b3, .ref b4, .ref b5, .ref b6, .ref b7, .ref b8, .ref b9] bd9 := .cons (z1 _ _ v1) (.cons (z2 _ _ v2) (.cons (z3 _ _ v3) (.cons (z4 _ _ v4) (.cons (z5 _ _ v5) (.cons (z6 _ _ v6) (.cons (z7 _ _ v7) (.cons (z8 _ _ v8) (.cons (z9 _ _ v9) .nil))))))))
    have hg := hg.kept zz
    have e7 := zz _ _ e7
    have hs2 := hs1.trans zz
    clear v0 v1 v2 v3 v4 v5 v6 v7 v8 v9 z0 z1 z2 z3 z4 z5 z6 z7 z8 z9 zz hdp fD hs0 hs1
    dsimp only [gName]
    refine ⟨_, rfl, small1000 (Nat.le_of_ble_eq_true rfl), fun c1 hh => ?_⟩
    generalize hq : upd _ c1 _ = C1
    obtain ⟨y1, k1⟩ := nwS hh hq
    clear hh hq
    refine ⟨small1000 (Nat.le_of_ble_eq_true rfl), fun c2 hh => ?_⟩
    generalize hq : upd _ c2 _ = C2
    obtain ⟨y2, k2⟩ := nwS hh hq
    clear hh hq
    refine ⟨small1000 (Nat.le_of_ble_eq_true rfl), fun c3 hh => ?_⟩
    generalize hq : upd _ c3 _ = C3
    obtain ⟨y3, k3⟩ := nwS hh hq
    clear hh hq
    refine ⟨small1000 (Nat.le_of_ble_eq_true rfl), fun c4 hh => ?_⟩
    generalize hq : upd _ c4 _ = C4
    obtain ⟨y4, k4⟩ := nwS hh hq
    clear hh hq
    refine ⟨small1000 (Nat.le_of_ble_eq_true rfl), fun c5 hh => ?_⟩
    generalize hq : upd _ c5 _ = C5
    obtain ⟨y5, k5⟩ := nwS hh hq
    clear hh hq
    refine ⟨small1000 (Nat.le_of_ble_eq_true rfl), fun c6 hh => ?_⟩
    generalize hq : upd _ c6 _ = C6
    obtain ⟨y6, k6⟩ := nwS hh hq
    clear hh hq
    refine ⟨small1000 (Nat.le_of_ble_eq_true rfl), fun c7 hh => ?_⟩
    generalize hq : upd _ c7 _ = C7
    obtain ⟨y7, k7⟩ := nwS hh hq
    clear hh hq
    refine ⟨small1000 (Nat.le_of_ble_eq_true rfl), fun pc hh => ?_⟩
    generalize hq : upd _ pc _ = Cp
    obtain ⟨yp, kp⟩ := nwS hh hq
    clear hh hq
    have z7 := yp
    have z6 := y7.trans z7
    have z5 := y6.trans z6
    have z4 := y5.trans z5
    have z3 := y4.trans z4
    have z2 := y3.trans z3
    have z1 := y2.trans z2
    have zz := y1.trans z1
    have hb7 : RwsAt Cp [.ref c1, .ref c2, .ref c3, .ref c4, .ref c5, .ref c6, .ref c7] bd7 := .cons (z1 _ _ k1) (.cons (z2 _ _ k2) (.cons (z3 _ _ k3) (.cons (z4 _ _ k4) (.cons (z5 _ _ k5) (.cons (z6 _ _ k6) (.cons (z7 _ _ k7) .nil))))))
    have hb := (hb9.kept zz).app hb7
    have vp := zz _ _ vp
    have e7 := zz _ _ e7
    have hg := hg.kept zz
    have hs3 := hs2.trans zz
    clear hb9 hb7 hs2 zz z1 z2 z3 z4 z5 z6 z7 k1 k2 k3 k4 k5 k6 k7
    refine ⟨pb, pc, _, _, rfl, rfl, vp, kp, small1000 (Nat.le_of_ble_eq_true rfl), fun pl hh => ?_⟩
    generalize hq : upd _ pl _ = M0
    obtain ⟨ym, km⟩ := nwS hh hq
    clear hh hq
    have hb := hb.kept ym
    have e7 := ym _ _ e7
    have hg := hg.kept ym
    have hs := hs3.trans ym
    dsimp only [gName]
    clear hs3 vp kp
    generalize hxb : [V.ref b1, V.ref b2, V.ref b3, V.ref b4, V.ref b5, V.ref b6, V.ref b7, V.ref b8, V.ref b9] ++ [V.ref c1, V.ref c2, V.ref c3, V.ref c4, V.ref c5, V.ref c6, V.ref c7] = xb at hb km
    generalize hxg : [V.ref a1, V.ref a2, V.ref dp, V.ref a4, V.ref a5, V.ref a6] = xg at hg e7
    refine cut_for (fun σ' H' => Same M0 H' ∧ ∃ x3 x4, σ' = [some (.ref dp), some (.ref pg), some (.ref pl), x3, x4]) (fun R hR => ?_) ?_
    · refine ⟨_, rfl, pg, rfl, ⟨_, SqL.of e7⟩, ?_⟩
      refine for_list (K := K) (a := pg) (xs := xg) (D := ⟨R, _, R, R⟩) (fun i σ' H' => Same M0 H' ∧ ∃ x3 x4, σ' = [some (.ref dp), some (.ref pg), some (.ref pl), x3, x4]) ⟨Same.refl _, none, none, rfl⟩ (fun i σ' H' _ g => SqL.of (g.1 _ _ e7)) ?_ (fun σ' H' g => hR _ _ g)
      rintro i x σ' H' hx ⟨sm, x3, x4, rfl⟩
      obtain ⟨l, r, rfl, hr', hl⟩ := hg.get hx
      obtain ⟨r1, r2, r3⟩ := gd_ok r hr'
      refine ⟨_, rfl, l, _, rfl, .inl (SqL.of (sm _ _ hl)), fun q hh => ?_⟩
      generalize hq : upd _ q _ = Hq
      obtain ⟨sq, eq⟩ := nwS hh hq
      clear hh hq
      refine ⟨q, r, rfl, eq, tell_ws r3, by omega, fun e pt t v H2 hw s2 a b c => ?_, fun hn => absurd (whole_y r1).choose_spec (hn _)⟩
      obtain ⟨g, d6, ew⟩ := whole_back hw
      refine ⟨_, rfl, _, rfl, iteF ?_⟩
      refine ⟨_, rfl, Nat.zero_le _, fun q2 hh => ?_⟩
      generalize hq : upd _ q2 _ = H3
      obtain ⟨s3, e3⟩ := nwS hh hq
      clear hh hq
      refine ⟨toldD e, .tuple [], told_rdv (s3 _ _ a) (s3 _ _ b) (c.kept s3.tups), .tup (SqT.of e3) .nil, (told_shd g d6).ok (by decide), rfl, _, rfl, iteF ?_⟩
      refine ⟨_, rfl, pt, _, _, .ref t, rfl, rfl, SqL.of (s3 _ _ a), rfl, t, _, _, v, rfl, rfl, SqT.of (s3 _ _ b), rfl, v, e, rfl, c.kept s3.tups, g, by omega, by rw [ew]; omega, fun p4 H4 s4 h4 => ?_⟩
      have st := (sm.trans sq).trans ((s2.trans s3).trans s4)
      refine ⟨_, rfl, strD (wdsE e), strD r, str_rdv h4, str_rdv (st _ _ hl), (str_shd (by rw [ew]; exact r3)).ok (by decide), (str_shd r3).ok (by decide), _, rfl, ?_⟩
      rw [ew, (str_shd r3).refl]
      exact iteF ⟨st, _, _, rfl⟩
    rintro σ' H' ⟨sm, x3, x4, rfl⟩
    have hxl : xb.length = 16 := by rw [← hxb]; rfl
    refine ⟨_, rfl, pl, rfl, ⟨_, SqL.of (sm _ _ km)⟩, ?_⟩
    refine comp_list (K := K) (a := pl) (xs := xb) (fun i ys H2 => Same M0 H2 ∧ i ≤ xb.length ∧ ys = (List.replicate i true).map V.bl) ⟨sm, Nat.zero_le _, rfl⟩ (fun i ys H2 _ g => SqL.of (g.1 _ _ km)) ?_ ?_
    · rintro i x ys H2 hx ⟨s2, hi, rfl⟩
      obtain ⟨l, r, rfl, hr', hl⟩ := hb.get hx
      obtain ⟨r1, r2, r3⟩ := bd_ok r hr'
      have hlt : i < xb.length := (List.getElem?_eq_some_iff.mp hx).1
      refine ⟨_, rfl, l, _, rfl, .inl (SqL.of (s2 _ _ hl)), fun q hh => ?_⟩
      generalize hq : upd _ q _ = Hq
      obtain ⟨sq, eq⟩ := nwS hh hq
      clear hh hq
      refine ⟨q, r, rfl, eq, tell_ws r3, by omega, fun e pt t v H3 hw => absurd hw (whole_n r1 e), fun _ q2 H3 s3 h3 => ?_⟩
      refine ⟨Nat.zero_le _, fun q4 hh => ?_⟩
      generalize hq : upd _ q4 _ = H4
      obtain ⟨s4, e4⟩ := nwS hh hq
      clear hh hq
      refine ⟨.tuple [], .tuple [], .tup (SqT.of (s4 _ _ h3)) .nil, .tup (SqT.of e4) .nil, rfl, rfl, ?_⟩
      refine ⟨small1000 (by simp; omega), ((s2.trans sq).trans s3).trans s4, hlt, ?_⟩
      rw [List.replicate_succ', List.map_append]
      rfl
    · rintro ys H2 ⟨s2, hi, rfl⟩ p hh
      generalize hq : upd _ p _ = H3
      obtain ⟨s3, e3⟩ := nwS hh hq
      clear hh hq
      refine ⟨p, List.replicate xb.length true, rfl, SqL.of e3, ?_⟩
      rw [show (List.replicate xb.length true).all id = true by simp]
      exact k _ ((hs.trans s2).trans s3)
end
section
variable {P : Program} {w : World} {K : PySem.W.Frag} {mg : Str → Option Value} {base : Heap} {AA : Adr} {DD : Fds}
noncomputable def spLaw (K : PySem.W.Frag) : Sp := fun vs H Q _ => ∃ (a : Addr) (ns : List Int), vs = [.ref a] ∧ SqL K H a (ns.map V.int) ∧ ns.length ≤ 63 ∧ ∀ H', Q (.bl true) H'
noncomputable def deeps12 : List Nat := [1, 2, 3, 4, 5, 6, 6, 6, 3, 6, 7, 8]
theorem deeps_ok : ∀ d ∈ deeps12, 1 ≤ d ∧ d ≤ 8 := by decide
noncomputable def FndAt (H : Hp) (ws : List Str) (fo : V) : Prop := (∃ e pt t v, Whole ws e ∧ fo = .ref pt ∧ H pt = some (.lst [.ref t]) ∧ H t = some (.tup [.str "tell", .int 0, v]) ∧ ExAt H v e) ∨ ((∀ e, ¬ Whole ws e) ∧ ∃ q, fo = .ref q ∧ H q = some (.tup []))
theorem FndAt.kept {H H' : Hp} {ws : List Str} {fo : V} (h : FndAt H ws fo) (s : Same H H') : FndAt H' ws fo := by
  rcases h with ⟨e, pt, t, v, h1, h2, h3, h4, h5⟩ | ⟨h1, q, h2, h3⟩
  · exact .inl ⟨e, pt, t, v, h1, h2, s _ _ h3, s _ _ h4, h5.kept s.tups⟩
  · exact .inr ⟨h1, q, h2, s _ _ h3⟩
theorem FndAt.data {K : PySem.W.Frag} {H : Hp} {ws : List Str} {fo : V} (h : FndAt H ws fo) : ∃ d, Rdv K H fo d ∧ Shd 14 d ∧ ((∃ e, Whole ws e ∧ d = toldD e) ∨ ((∀ e, ¬ Whole ws e) ∧ d = .tuple [])) := by
  rcases h with ⟨e, pt, t, v, h1, rfl, h3, h4, h5⟩ | ⟨h1, q, rfl, h3⟩
  · obtain ⟨g, d, _⟩ := whole_back h1
    exact ⟨_, told_rdv h3 h4 h5, told_shd g d, .inl ⟨e, h1, rfl⟩⟩
  · exact ⟨.tuple [], .tup (SqT.of h3) .nil, ⟨rfl, Nat.le_of_ble_eq_true rfl⟩, .inr ⟨h1, rfl⟩⟩
theorem FndAt.ref {H : Hp} {ws : List Str} {fo : V} (h : FndAt H ws fo) : ∃ q, fo = .ref q := by
  rcases h with ⟨_, pt, _, _, _, rfl, _⟩ | ⟨_, q, rfl, _⟩
  · exact ⟨_, rfl⟩
  · exact ⟨_, rfl⟩
noncomputable abbrev N_law : List Str := ["_law_script", "_law_deep_here", "_law_words_here", "_law_e", "_law_due", "_law_found_here", "_law_spoiled_here"]
theorem sc_law : FnScope N_law ["_law_script"] (defScope st_law) := ⟨rfl, rfl, rfl, by decide +kernel, rfl, by decide +kernel, by decide +kernel⟩
theorem ok_law (T : All P w K mg AA DD) {f : Addr} {fd : FuncData} (F : Fun K "law" "law" st_law f fd) : FnOk P w K mg base CX0 199 f fd ["_law_script"] (spLaw K) := by
  have GED := ok_ed (base := base) T
  have GFD := ok_fd (base := base) T
  have GWD := ok_lw (base := base) T 98
  have GDP := ok_dp (base := base) T 98
  have GXP := ok_le (base := base) T 97
  have GST := ok_stream (base := base) T
  have GCA := ok_cellat (base := base) T
  have GSP := ok_sp (base := base) T
  refine F.ok sc_law (fun vs H Q E h => ?_) (fun cdv A outer s H vs Q E hr h => ?_)
  · obtain ⟨a, ns, rfl, _⟩ := h
    rfl
  · obtain ⟨a, ns, rfl, hS, hlen, k⟩ := h
    have nd := sc_law.nd
    have hu := hr.units
    have hrX : Room 198 _ := hr
    have hrD := hrX.mono (show 99 ≤ 198 by decide)
    have hrW2 := hrX.mono (show 99 ≤ 198 by decide)
    have hrE := hrX.mono (show 27 ≤ 198 by decide)
    have hrF := hrX.mono (show 26 ≤ 198 by decide)
    have hr1 := hrX.mono (show 1 ≤ 198 by decide)
    refine ⟨_, (@pss_cons _ _ _ _ _ (@ps_set _ _ 1 _ _ _ _ nd rfl (Or.inl rfl) (@pe_ix _ _ _ _ _ _ _ (ix_listK (K := K) rfl) (@pe_lst _ _ _ _ (@pa_cons _ _ _ _ _ pe_int (@pa_cons _ _ _ _ _ pe_int (@pa_cons _ _ _ _ _ pe_int (@pa_cons _ _ _ _ _ pe_int (@pa_cons _ _ _ _ _ pe_int (@pa_cons _ _ _ _ _ pe_int (@pa_cons _ _ _ _ _ pe_int (@pa_cons _ _ _ _ _ pe_int (@pa_cons _ _ _ _ _ pe_int (@pa_cons _ _ _ _ _ pe_int (@pa_cons _ _ _ _ _ pe_int (@pa_cons _ _ _ _ _ pe_int pa_nil (by rfl)) (by rfl)) (by rfl)) (by rfl)) (by rfl)) (by rfl)) (by rfl)) (by rfl)) (by rfl)) (by rfl)) (by rfl)) (by rfl))) (@pe_op _ _ _ _ _ _ _ _ op_mod (pe_call GCA hr1 rfl T.m_law_cell_at T.k_law_cell_at T.b_law_cell_at .nil pass0 (@pa_cons _ _ _ _ _ (pv 0) (@pa_cons _ _ _ _ _ pe_int pa_nil (by rfl)) (by rfl))) pe_int) (fun _ _ => rfl)) (by rfl) (by first | exact .inl rfl | exact .inr rfl | assumption)) (@pss_cons _ _ _ _ _ (ps_asg (pe_call GXP hrX rfl T.m_law_expr T.k_law_expr T.b_law_expr .nil pass0 (@pa_cons _ _ _ _ _ (pe_call GST hr1 rfl T.m_law_stream T.k_law_stream T.b_law_stream .nil pass0 (@pa_cons _ _ _ _ _ (pe_call GCA hr1 rfl T.m_law_cell_at T.k_law_cell_at T.b_law_cell_at .nil pass0 (@pa_cons _ _ _ _ _ (pv 0) (@pa_cons _ _ _ _ _ pe_int pa_nil (by rfl)) (by rfl))) (@pa_cons _ _ _ _ _ pe_int pa_nil (by rfl)) (by rfl))) (@pa_cons _ _ _ _ _ (pv 1) pa_nil (by rfl)) (by rfl))) (pg_tup rfl (pgs_cons (pg_name (i := 2) nd rfl (Or.inl rfl)) (pgs_cons (pg_name (i := 3) nd rfl (Or.inl rfl)) pgs_nil)))) (@pss_cons _ _ _ _ _ (@ps_set _ _ 4 _ _ _ _ nd rfl (Or.inl rfl) (@pe_lst _ _ _ _ (@pa_cons _ _ _ _ _ (@pe_tup _ _ _ _ _ (@pa_cons _ _ _ _ _ pe_str (@pa_cons _ _ _ _ _ pe_int (@pa_cons _ _ _ _ _ (pv 3) pa_nil (by rfl)) (by rfl)) (by rfl))) pa_nil (by rfl))) (by rfl) (by first | exact .inl rfl | exact .inr rfl | assumption)) (@pss_cons _ _ _ _ _ (@ps_if _ _ _ _ _ _ _ _ (@pt_cmpR _ _ _ _ _ _ _ _ op_gt (pe_call GDP hrD rfl T.m_law_deep T.k_law_deep T.b_law_deep .nil pass0 (@pa_cons _ _ _ _ _ (pv 3) pa_nil (by rfl))) pe_int (nomark _)) (@pss_one _ _ _ (@ps_set _ _ 4 _ _ _ _ nd rfl (Or.inl rfl) (@pe_tup _ _ _ _ _ pa_nil) (by rfl) (by first | exact .inl rfl | exact .inr rfl | assumption))) pss_nil) (@pss_cons _ _ _ _ _ (@ps_set _ _ 5 _ _ _ _ nd rfl (Or.inl rfl) (pe_call GFD hrF rfl T.m_law_found T.k_law_found T.b_law_found .nil pass0 (@pa_cons _ _ _ _ _ (pe_callTy (call_list_ofK (K := K) rfl) rfl T.n_list bt_list (@pa_cons _ _ _ _ _ (pv 2) pa_nil (by rfl))) pa_nil (by rfl))) (by rfl) (by first | exact .inl rfl | exact .inr rfl | assumption)) (@pss_cons _ _ _ _ _ (@ps_if _ _ _ _ _ _ _ _ (PW.pt (pw_or (@pt_cmpR _ _ _ _ _ _ _ _ (op_neD (K := K) rfl hu) (pv 5) (pv 4) (nomark _)) (pw_or (@pt_cmpR _ _ _ _ _ _ _ _ (op_neD (K := K) rfl hu) (pe_call GWD hrW2 rfl T.m_law_words T.k_law_words T.b_law_words .nil pass0 (@pa_cons _ _ _ _ _ (pv 3) pa_nil (by rfl))) (pv 2) (nomark _)) (pw_or1 (pt_not (pt_val (pe_call0 GED hrE rfl T.m_law_edges T.k_law_edges T.b_law_edges .nil pass0))))))) (@pss_one _ _ _ (@ps_ret _ _ _ _ pe_bl)) pss_nil) (@pss_cons _ _ _ _ _ (@ps_if _ _ _ _ _ _ _ _ (@pt_cmpR _ _ _ _ _ _ _ _ op_ne (@pe_op _ _ _ _ _ _ _ _ op_mod (pe_call GCA hr1 rfl T.m_law_cell_at T.k_law_cell_at T.b_law_cell_at .nil pass0 (@pa_cons _ _ _ _ _ (pv 0) (@pa_cons _ _ _ _ _ pe_int pa_nil (by rfl)) (by rfl))) pe_int) pe_int (nomark _)) (@pss_one _ _ _ (@ps_ret _ _ _ _ pe_bl)) pss_nil) (@pss_cons _ _ _ _ _ (@ps_set _ _ 6 _ _ _ _ nd rfl (Or.inl rfl) (pe_call GSP hr1 rfl T.m_law_spoiled T.k_law_spoiled T.b_law_spoiled .nil pass0 (@pa_cons _ _ _ _ _ (pv 2) (@pa_cons _ _ _ _ _ (@pe_op _ _ _ _ _ _ _ _ op_fdiv (pe_call GCA hr1 rfl T.m_law_cell_at T.k_law_cell_at T.b_law_cell_at .nil pass0 (@pa_cons _ _ _ _ _ (pv 0) (@pa_cons _ _ _ _ _ pe_int pa_nil (by rfl)) (by rfl))) pe_int) pa_nil (by rfl)) (by rfl))) (by rfl) (by first | exact .inl rfl | exact .inr rfl | assumption)) (@pss_cons _ _ _ _ _ (@ps_set _ _ 5 _ _ _ _ nd rfl (Or.inl rfl) (pe_call GFD hrF rfl T.m_law_found T.k_law_found T.b_law_found .nil pass0 (@pa_cons _ _ _ _ _ (pe_callTy (call_list_ofK (K := K) rfl) rfl T.n_list bt_list (@pa_cons _ _ _ _ _ (pv 6) pa_nil (by rfl))) pa_nil (by rfl))) (by rfl) (by first | exact .inl rfl | exact .inr rfl | assumption)) (@pss_cons _ _ _ _ _ (@ps_if _ _ _ _ _ _ _ _ (PW.pt (pw_or (pt_cmp (pc_isN (pv 5))) (pw_or1 (PW.pt (pw_and (@pt_cmpR _ _ _ _ _ _ _ _ op_eq (@pe_op _ _ _ _ _ _ _ _ op_mod (@pe_op _ _ _ _ _ _ _ _ op_fdiv (pe_call GCA hr1 rfl T.m_law_cell_at T.k_law_cell_at T.b_law_cell_at .nil pass0 (@pa_cons _ _ _ _ _ (pv 0) (@pa_cons _ _ _ _ _ pe_int pa_nil (by rfl)) (by rfl))) pe_int) pe_int) pe_int (nomark _)) (pw_and1 (@pt_cmpR _ _ _ _ _ _ _ _ (op_neD (K := K) rfl hu) (pv 5) (@pe_tup _ _ _ _ _ pa_nil) (nomark _)))))))) (@pss_one _ _ _ (@ps_ret _ _ _ _ pe_bl)) pss_nil) (@pss_one _ _ _ (@ps_ret _ _ _ _ (pe_or (@pe_cmpR _ _ _ _ _ _ _ _ (op_eqD (K := K) rfl hu) (pv 5) (@pe_tup _ _ _ _ _ pa_nil) (nomark _)) (pe_one (pe_and (@pe_cmpR _ _ _ _ _ _ _ _ op_eq (pe_callB call_len_seq rfl T.n_len bt_len (@pa_cons _ _ _ _ _ (pv 5) pa_nil (by rfl))) pe_int (nomark _)) (pe_one (@pe_cmpR _ _ _ _ _ _ _ _ (op_eqD (K := K) rfl hu) (pe_call GWD hrW2 rfl T.m_law_words T.k_law_words T.b_law_words .nil pass0 (@pa_cons _ _ _ _ _ (@pe_ix _ _ _ _ _ _ _ (ix_tupK (K := K) rfl) (@pe_ix _ _ _ _ _ _ _ (ix_listK (K := K) rfl) (pv 5) pe_int (fun _ _ => rfl)) pe_int (fun _ _ => rfl)) pa_nil (by rfl))) (pv 6) (nomark _)))))))))))))))))), ?_⟩
    clear GED GFD GWD GDP GXP GST GCA GSP
    refine ⟨small1000 (Nat.le_of_ble_eq_true rfl), fun p0 hh => ?_⟩
    generalize hq : upd _ p0 _ = H0
    obtain ⟨s0, e0⟩ := nwS hh hq
    clear hh hq
    have e0 : H0 p0 = some (.lst (deeps12.map fun d => V.int ((d : Nat) : Int))) := e0
    obtain ⟨m, em, hm⟩ := modN (a := ns.getD 0 0) (n := 12) (by decide)
    have em : ns.getD 0 0 % 12 = ((m : Nat) : Int) := em
    have hm12 : m < deeps12.length := hm
    refine ⟨_, rfl, a, ns, 0, rfl, s0.seq hS, _, _, rfl, rfl, (by show (0 : Int) < 12; decide), p0, _, _, .int ((deeps12[m] : Nat) : Int), rfl, rfl, SqL.of e0, (by show atI _ (ns.getD 0 0 % 12) = _; rw [em]; exact atI_nat (by rw [List.getElem?_map, List.getElem?_eq_getElem hm12]; rfl)), ?_⟩
    obtain ⟨d1, d8⟩ := deeps_ok _ (List.getElem_mem hm12)
    generalize deeps12[m] = d at d1 d8 ⊢
    refine ⟨_, rfl, a, ns, 1, rfl, s0.seq hS, ns.getD 1 0, rfl, fun px zs hh hzl hz => ?_⟩
    have hpx := hh
    generalize hq : upd _ px _ = H1
    obtain ⟨s1, e1⟩ := nwS hh hq
    clear hh hq
    refine ⟨_, rfl, px, zs, d, rfl, e1, hz, by omega, by omega, by omega, d1, d8, fun t e ns' H2 b2 _ _ we ge lw _ _ => ?_⟩
    have s2 : Same H0 H2 := fun b u hb => b2 _ _ (s1 _ _ hb) (ne_of_none hb hpx)
    obtain ⟨pw, v, w1, w2, w3⟩ := we
    have hwl : (wdsE e).length ≤ 96 := by omega
    have hwp := wdsE_pos e
    have hde := dep_le e
    have hws := good_ws e ge
    refine ⟨t, _, rfl, SqT.of w1, rfl, _, _, rfl, _, _, rfl, rfl, ?_⟩
    have hS := (s0.trans s2).seq hS
    clear s2 b2 e1 s1 hpx s0 e0 w1
    refine ⟨_, rfl, small1000 (Nat.le_of_ble_eq_true rfl), fun q1 hh => ?_⟩
    generalize hq : upd _ q1 _ = H3
    obtain ⟨s3, e3⟩ := nwS hh hq
    clear hh hq
    refine ⟨small1000 (Nat.le_of_ble_eq_true rfl), fun q2 hh => ?_⟩
    generalize hq : upd _ q2 _ = H4
    obtain ⟨s4, e4⟩ := nwS hh hq
    clear hh hq
    have s34 := s3.trans s4
    have hS := s34.seq hS
    have w2 := s34 _ _ w2
    have w3 := w3.kept s34.tups
    have e3 := s4 _ _ e3
    clear s34 s3 s4
    try dsimp only [gName]
    refine cut_sq (fun σ' H' => Same H4 H' ∧ ∃ du, σ' = [some (.ref a), some (.int ((d : Nat) : Int)), some (.ref pw), some v, some du, none, none] ∧ ((depE e ≤ 6 ∧ du = .ref q2) ∨ (6 < depE e ∧ ∃ q3, du = .ref q3 ∧ H' q3 = some (.tup [])))) (fun R hR => ?_) ?_
    · refine ⟨_, rfl, v, e, rfl, w3, ge, by omega, by omega, fun H5 s5 => ⟨_, _, rfl, rfl, _, rfl, ?_⟩⟩
      refine ite2 (fun c => ?_) (fun c => ?_)
      · have c : (6 : Int) < ((depE e : Nat) : Int) := of_decide_eq_true c
        refine ⟨Nat.zero_le _, fun q3 hh => ?_⟩
        generalize hq : upd _ q3 _ = H6
        obtain ⟨s6, e6⟩ := nwS hh hq
        clear hh hq
        exact hR _ _ ⟨s5.trans s6, _, rfl, .inr ⟨by omega, q3, rfl, e6⟩⟩
      · have c : ¬ (6 : Int) < ((depE e : Nat) : Int) := fun q => c (decide_eq_true q)
        exact hR _ _ ⟨s5, _, rfl, .inl ⟨by omega, rfl⟩⟩
    rintro σ' H5 ⟨s5, du, rfl, hdu⟩
    have hS := s5.seq hS
    have w2 := s5 _ _ w2
    have w3 := w3.kept s5.tups
    have e3 := s5 _ _ e3
    have e4 := s5 _ _ e4
    refine cut_sq (fun σ' H' => Same H5 H' ∧ ∃ fo, σ' = [some (.ref a), some (.int ((d : Nat) : Int)), some (.ref pw), some v, some du, some fo, none] ∧ FndAt H' (wdsE e) fo) (fun R hR => ?_) ?_
    · refine ⟨_, rfl, pw, _, rfl, .inl (SqL.of w2), fun q hh => ?_⟩
      generalize hq : upd _ q _ = H6
      obtain ⟨s6, e6⟩ := nwS hh hq
      clear hh hq
      refine ⟨q, wdsE e, rfl, e6, tell_ws hws, by omega, fun f pt t' v' H7 hw s7 a7 b7 c7 => hR _ _ ⟨s6.trans s7, _, rfl, .inl ⟨f, pt, t', v', hw, rfl, a7, b7, c7⟩⟩, fun hn q7 H7 s7 h7 => hR _ _ ⟨s6.trans s7, _, rfl, .inr ⟨hn, q7, rfl, h7⟩⟩⟩
    rintro σ' H6 ⟨s6, fo, rfl, hfo⟩
    have hS := s6.seq hS
    have w2 := s6 _ _ w2
    have w3 := w3.kept s6.tups
    obtain ⟨dd, r1, r2, r3⟩ := FndAt.data (K := K) hfo
    have hdue : Rdv K H6 du dd := by
      rcases hdu with ⟨h6, rfl⟩ | ⟨h6, q3, rfl, e5⟩
      · have ho := (whole_own ge).1 h6
        rcases r3 with ⟨f, hf, rfl⟩ | ⟨hn, _⟩
        · have : f = e := by
            unfold Whole at hf ho
            rw [ho] at hf
            exact (Prod.mk.inj (Option.some.inj hf)).1.symm
          subst this
          exact told_rdv (s6 _ _ e4) (s6 _ _ e3) w3
        · exact absurd ho (hn e)
      · have hn := (whole_own ge).2 h6
        rcases r3 with ⟨f, hf, rfl⟩ | ⟨_, rfl⟩
        · exact absurd hf (hn f)
        · exact .tup (SqT.of (s6 _ _ e5)) .nil
    refine cut_sq (fun σ' H' => Same H6 H' ∧ σ' = [some (.ref a), some (.int ((d : Nat) : Int)), some (.ref pw), some v, some du, some fo, none]) (fun R hR => ?_) ?_
    · refine ⟨_, rfl, _, rfl, dd, dd, r1, hdue, r2.ok (by decide), r2.ok (by decide), _, rfl, ?_⟩
      rw [r2.refl]
      refine iteF ?_
      refine ⟨_, rfl, v, e, rfl, w3, ge, by omega, by omega, fun p7 H7 s7 h7 => ?_⟩
      refine ⟨_, rfl, _, _, str_rdv h7, str_rdv (s7 _ _ w2), (str_shd hws).ok (by decide), (str_shd hws).ok (by decide), _, rfl, ?_⟩
      rw [(str_shd hws).refl]
      refine iteF ?_
      refine ⟨rfl, fun H8 s8 => ⟨_, rfl, iteF ?_⟩⟩
      exact hR _ _ ⟨s7.trans s8, rfl⟩
    rintro σ' H7 ⟨s7, rfl⟩
    have hS := s7.seq hS
    have w2 := s7 _ _ w2
    refine ⟨_, rfl, a, ns, 2, rfl, hS, _, _, rfl, rfl, (by show (0 : Int) < 4; decide), rfl, _, rfl, ite2 (fun _ => k _) (fun _ => ?_)⟩
    refine ⟨_, rfl, _, rfl, a, ns, 2, rfl, hS, _, _, rfl, rfl, ⟨by decide, by decide⟩, pw, wdsE e, ns.getD 2 0 / 4, rfl, w2, hwp, by omega, fun p8 ws' H8 s8 e8 l8 m8 d8' => ?_⟩
    have hS := s8.seq hS
    have hws' : ∀ z ∈ ws', W1 z := fun z hz => by
      rcases m8 z hz with q | q
      · exact hws z q
      · exact odd_ws z q
    try dsimp only [gName]
    refine cut_sq (fun σ' H' => Same H8 H' ∧ ∃ fo, σ' = [some (.ref a), some (.int ((d : Nat) : Int)), some (.ref pw), some v, some du, some fo, some (.ref p8)] ∧ FndAt H' ws' fo) (fun R hR => ?_) ?_
    · refine ⟨_, rfl, p8, _, rfl, .inl (SqL.of e8), fun q hh => ?_⟩
      generalize hq : upd _ q _ = H9
      obtain ⟨s9, e9⟩ := nwS hh hq
      clear hh hq
      refine ⟨q, ws', rfl, e9, tell_ws hws', by omega, fun f pt t' v' H7 hw s7 a7 b7 c7 => hR _ _ ⟨s9.trans s7, _, rfl, .inl ⟨f, pt, t', v', hw, rfl, a7, b7, c7⟩⟩, fun hn q7 H7 s7 h7 => hR _ _ ⟨s9.trans s7, _, rfl, .inr ⟨hn, q7, rfl, h7⟩⟩⟩
    rintro σ' H9 ⟨s9, fo, rfl, hfo⟩
    have hS := s9.seq hS
    have e8 := s9 _ _ e8
    obtain ⟨dd, r1, r2, r3⟩ := FndAt.data (K := K) hfo
    refine cut_sq (fun σ' H' => Same H9 H' ∧ σ' = [some (.ref a), some (.int ((d : Nat) : Int)), some (.ref pw), some v, some du, some fo, some (.ref p8)]) (fun R hR => ?_) ?_
    · refine ⟨_, rfl, _, rfl, ?_⟩
      obtain ⟨qf, hqf⟩ := hfo.ref
      rw [show decide (fo = V.non) = false by rw [hqf]; rfl]
      refine iteF ?_
      refine ⟨_, rfl, a, ns, 2, rfl, hS, _, _, rfl, rfl, ⟨by decide, by decide⟩, _, _, rfl, rfl, (by show (0 : Int) < 5; decide), rfl, _, rfl, ?_⟩
      refine ite2 (fun c => ?_) (fun _ => iteF (hR _ _ ⟨Same.refl _, rfl⟩))
      have c : V.int (ns.getD 2 0 / 4 % 5) = V.int 0 := of_decide_eq_true c
      have hn : ∀ f, ¬ Whole ws' f := by rw [d8' (V.int.inj c)]; exact drop_bad ge
      rcases hfo with ⟨f, _, _, _, hf, _⟩ | ⟨_, q, rfl, hq9⟩
      · exact absurd hf (hn f)
      refine ⟨_, rfl, Nat.zero_le _, fun q2 hh => ?_⟩
      generalize hq : upd _ q2 _ = Hb
      obtain ⟨sb, eb⟩ := nwS hh hq
      clear hh hq
      refine ⟨.tuple [], .tuple [], .tup (SqT.of (sb _ _ hq9)) .nil, .tup (SqT.of eb) .nil, rfl, rfl, _, rfl, ?_⟩
      refine iteF ?_
      exact hR _ _ ⟨sb, rfl⟩
    rintro σ' Ha ⟨sa, rfl⟩
    have hfo := hfo.kept sa
    have e8 := sa _ _ e8
    rcases hfo with ⟨f, pt, t', v', hf, rfl, a7, b7, c7⟩ | ⟨_, q, rfl, hq9⟩
    · obtain ⟨g, d6, ew⟩ := whole_back hf
      refine ⟨_, rfl, Nat.zero_le _, fun q2 hh => ?_⟩
      generalize hq : upd _ q2 _ = Hb
      obtain ⟨sb, eb⟩ := nwS hh hq
      clear hh hq
      refine ⟨toldD f, .tuple [], told_rdv (sb _ _ a7) (sb _ _ b7) (c7.kept sb.tups), .tup (SqT.of eb) .nil, (told_shd g d6).ok (by decide), rfl, _, rfl, iteF ?_⟩
      refine ⟨_, rfl, pt, _, rfl, .inl (SqL.of (sb _ _ a7)), rfl, _, rfl, iteT ?_⟩
      refine ⟨_, rfl, pt, _, _, .ref t', rfl, rfl, SqL.of (sb _ _ a7), rfl, t', _, _, v', rfl, rfl, SqT.of (sb _ _ b7), rfl, v', f, rfl, c7.kept sb.tups, g, by omega, by rw [ew]; omega, fun p4 H4 s4 h4 => ?_⟩
      refine ⟨_, rfl, strD (wdsE f), strD ws', str_rdv h4, str_rdv ((sb.trans s4) _ _ e8), (str_shd (by rw [ew]; exact hws')).ok (by decide), (str_shd hws').ok (by decide), ?_⟩
      rw [ew, (str_shd hws').refl]
      exact k _
    · refine ⟨_, rfl, Nat.zero_le _, fun q2 hh => ?_⟩
      generalize hq : upd _ q2 _ = Hb
      obtain ⟨sb, eb⟩ := nwS hh hq
      clear hh hq
      refine ⟨.tuple [], .tuple [], .tup (SqT.of (sb _ _ hq9)) .nil, .tup (SqT.of eb) .nil, rfl, rfl, _, rfl, iteT ?_⟩
      exact k _
end
theorem all_mk {l : PySem.W.OpenLaw} {w : World} {K : PySem.W.Frag} {h : Heap} {mg : Str → Option Value} {fa f_made_of f_is_name f_is_number f_read_row f_read_head f_read_plain f_place_fault f_is_misplaced f_is_stray f_put_in f_begun f_law_cell_at f_law_stream f_law_name f_law_leaf f_law_many f_law_expr f_law_deep f_law_words f_law_found f_law_spoiled f_law_edges f_Phrase_init f_Phrase_ended f_Phrase_take f_Phrase_take_name f_Phrase_take_plain_kind f_Phrase_take_kind f_Phrase_take_fields f_Phrase_take_params f_Phrase_unlike_names f_Phrase_take_expr f_Phrase_take_named f_Phrase_take_exprs f_Block_init f_NoForm_init f_law c_Phrase c_Block x_MakesError x_NoForm q_LANGUAGE_WORDS q_OPERATORS q_PLAIN_KINDS : Addr} (X : K.In h) (G : h.Ns mainGlobals mg) (hfa : mg "law" = some (.ref fa))
    {od_made_of an_made_of od_is_name an_is_name od_is_number an_is_number od_read_row an_read_row od_read_head an_read_head od_read_plain an_read_plain od_place_fault an_place_fault od_is_misplaced an_is_misplaced od_is_stray an_is_stray od_put_in an_put_in od_begun an_begun od_law_cell_at an_law_cell_at od_law_stream an_law_stream od_law_name an_law_name od_law_leaf an_law_leaf od_law_many an_law_many od_law_expr an_law_expr od_law_deep an_law_deep od_law_words an_law_words od_law_found an_law_found od_law_spoiled an_law_spoiled od_law_edges an_law_edges od_Phrase_init an_Phrase_init od_Phrase_ended an_Phrase_ended od_Phrase_take an_Phrase_take od_Phrase_take_name an_Phrase_take_name od_Phrase_take_plain_kind an_Phrase_take_plain_kind od_Phrase_take_kind an_Phrase_take_kind od_Phrase_take_fields an_Phrase_take_fields od_Phrase_take_params an_Phrase_take_params od_Phrase_unlike_names an_Phrase_unlike_names od_Phrase_take_expr an_Phrase_take_expr od_Phrase_take_named an_Phrase_take_named od_Phrase_take_exprs an_Phrase_take_exprs od_Block_init an_Block_init od_NoForm_init an_NoForm_init od_law an_law : Option Addr} {sl_made_of sl_is_name sl_is_number sl_read_row sl_read_head sl_read_plain sl_place_fault sl_is_misplaced sl_is_stray sl_put_in sl_begun sl_law_cell_at sl_law_stream sl_law_name sl_law_leaf sl_law_many sl_law_expr sl_law_deep sl_law_words sl_law_found sl_law_spoiled sl_law_edges sl_Phrase_init sl_Phrase_ended sl_Phrase_take sl_Phrase_take_name sl_Phrase_take_plain_kind sl_Phrase_take_kind sl_Phrase_take_fields sl_Phrase_take_params sl_Phrase_unlike_names sl_Phrase_take_expr sl_Phrase_take_named sl_Phrase_take_exprs sl_Block_init sl_NoForm_init sl_law : Array (Option Value)} {oc_made_of kV_made_of dc_made_of pm_made_of cd_made_of ct_made_of oc_is_name kV_is_name dc_is_name pm_is_name cd_is_name ct_is_name oc_is_number kV_is_number dc_is_number pm_is_number cd_is_number ct_is_number oc_read_row kV_read_row dc_read_row pm_read_row cd_read_row ct_read_row oc_read_head kV_read_head dc_read_head pm_read_head cd_read_head ct_read_head oc_read_plain kV_read_plain dc_read_plain pm_read_plain cd_read_plain ct_read_plain oc_place_fault kV_place_fault dc_place_fault pm_place_fault cd_place_fault ct_place_fault oc_is_misplaced kV_is_misplaced dc_is_misplaced pm_is_misplaced cd_is_misplaced ct_is_misplaced oc_is_stray kV_is_stray dc_is_stray pm_is_stray cd_is_stray ct_is_stray oc_put_in kV_put_in dc_put_in pm_put_in cd_put_in ct_put_in oc_begun kV_begun dc_begun pm_begun cd_begun ct_begun oc_law_cell_at kV_law_cell_at dc_law_cell_at pm_law_cell_at cd_law_cell_at ct_law_cell_at oc_law_stream kV_law_stream dc_law_stream pm_law_stream cd_law_stream ct_law_stream oc_law_name kV_law_name dc_law_name pm_law_name cd_law_name ct_law_name oc_law_leaf kV_law_leaf dc_law_leaf pm_law_leaf cd_law_leaf ct_law_leaf oc_law_many kV_law_many dc_law_many pm_law_many cd_law_many ct_law_many oc_law_expr kV_law_expr dc_law_expr pm_law_expr cd_law_expr ct_law_expr oc_law_deep kV_law_deep dc_law_deep pm_law_deep cd_law_deep ct_law_deep oc_law_words kV_law_words dc_law_words pm_law_words cd_law_words ct_law_words oc_law_found kV_law_found dc_law_found pm_law_found cd_law_found ct_law_found oc_law_spoiled kV_law_spoiled dc_law_spoiled pm_law_spoiled cd_law_spoiled ct_law_spoiled oc_law_edges kV_law_edges dc_law_edges pm_law_edges cd_law_edges ct_law_edges oc_Phrase_init kV_Phrase_init dc_Phrase_init pm_Phrase_init cd_Phrase_init ct_Phrase_init oc_Phrase_ended kV_Phrase_ended dc_Phrase_ended pm_Phrase_ended cd_Phrase_ended ct_Phrase_ended oc_Phrase_take kV_Phrase_take dc_Phrase_take pm_Phrase_take cd_Phrase_take ct_Phrase_take oc_Phrase_take_name kV_Phrase_take_name dc_Phrase_take_name pm_Phrase_take_name cd_Phrase_take_name ct_Phrase_take_name oc_Phrase_take_plain_kind kV_Phrase_take_plain_kind dc_Phrase_take_plain_kind pm_Phrase_take_plain_kind cd_Phrase_take_plain_kind ct_Phrase_take_plain_kind oc_Phrase_take_kind kV_Phrase_take_kind dc_Phrase_take_kind pm_Phrase_take_kind cd_Phrase_take_kind ct_Phrase_take_kind oc_Phrase_take_fields kV_Phrase_take_fields dc_Phrase_take_fields pm_Phrase_take_fields cd_Phrase_take_fields ct_Phrase_take_fields oc_Phrase_take_params kV_Phrase_take_params dc_Phrase_take_params pm_Phrase_take_params cd_Phrase_take_params ct_Phrase_take_params oc_Phrase_unlike_names kV_Phrase_unlike_names dc_Phrase_unlike_names pm_Phrase_unlike_names cd_Phrase_unlike_names ct_Phrase_unlike_names oc_Phrase_take_expr kV_Phrase_take_expr dc_Phrase_take_expr pm_Phrase_take_expr cd_Phrase_take_expr ct_Phrase_take_expr oc_Phrase_take_named kV_Phrase_take_named dc_Phrase_take_named pm_Phrase_take_named cd_Phrase_take_named ct_Phrase_take_named oc_Phrase_take_exprs kV_Phrase_take_exprs dc_Phrase_take_exprs pm_Phrase_take_exprs cd_Phrase_take_exprs ct_Phrase_take_exprs oc_Block_init kV_Block_init dc_Block_init pm_Block_init cd_Block_init ct_Block_init oc_NoForm_init kV_NoForm_init dc_NoForm_init pm_NoForm_init cd_NoForm_init ct_NoForm_init oc_law kV_law dc_law pm_law cd_law ct_law : Value}
    {t_SMALL_LETTERS t_FIGURES t_LONGEST_NAME t_LONGEST_NUMBER t_DEEPEST_EXPR t_MOST_BLOCKS : Tok}
    {t_LANGUAGE_WORDS_0 t_LANGUAGE_WORDS_1 t_LANGUAGE_WORDS_2 t_LANGUAGE_WORDS_3 t_LANGUAGE_WORDS_4 t_LANGUAGE_WORDS_5 t_LANGUAGE_WORDS_6 t_LANGUAGE_WORDS_7 t_LANGUAGE_WORDS_8 t_LANGUAGE_WORDS_9 t_LANGUAGE_WORDS_10 t_LANGUAGE_WORDS_11 t_LANGUAGE_WORDS_12 t_LANGUAGE_WORDS_13 t_LANGUAGE_WORDS_14 t_LANGUAGE_WORDS_15 t_LANGUAGE_WORDS_16 t_LANGUAGE_WORDS_17 t_LANGUAGE_WORDS_18 t_LANGUAGE_WORDS_19 t_LANGUAGE_WORDS_20 t_LANGUAGE_WORDS_21 t_LANGUAGE_WORDS_22 t_LANGUAGE_WORDS_23 t_LANGUAGE_WORDS_24 : Tok} {od_LANGUAGE_WORDS : Option Addr} {n_LANGUAGE_WORDS : Nat} {sl_LANGUAGE_WORDS : Array (Option Value)}
    {t_OPERATORS_0 t_OPERATORS_1 t_OPERATORS_2 t_OPERATORS_3 t_OPERATORS_4 t_OPERATORS_5 t_OPERATORS_6 : Tok} {od_OPERATORS : Option Addr} {n_OPERATORS : Nat} {sl_OPERATORS : Array (Option Value)}
    {t_PLAIN_KINDS_0 t_PLAIN_KINDS_1 : Tok} {od_PLAIN_KINDS : Option Addr} {n_PLAIN_KINDS : Nat} {sl_PLAIN_KINDS : Array (Option Value)}
    (aC_Phrase : PySem.W.nsIn K mainGlobals "Phrase" = some (some (.ref c_Phrase)))
    (aC_Block : PySem.W.nsIn K mainGlobals "Block" = some (some (.ref c_Block)))
    (a_made_of : PySem.W.nsIn K mainGlobals "made_of" = some (some (.ref f_made_of)))
    (l_made_of : K.lookup f_made_of = some ⟨oc_made_of, od_made_of, .func (PySem.W.fnOf "made_of" "made_of" (defArgs st_made_of) (defBody st_made_of) (defScope st_made_of) .none kV_made_of dc_made_of pm_made_of an_made_of cd_made_of ct_made_of), sl_made_of⟩)
    (c_made_of' : PySem.W.codeIn K cd_made_of "made_of" = true)
    (k_made_of : PySem.W.keepIn K (.ref f_made_of) = true)
    (a_is_name : PySem.W.nsIn K mainGlobals "is_name" = some (some (.ref f_is_name)))
    (l_is_name : K.lookup f_is_name = some ⟨oc_is_name, od_is_name, .func (PySem.W.fnOf "is_name" "is_name" (defArgs st_is_name) (defBody st_is_name) (defScope st_is_name) .none kV_is_name dc_is_name pm_is_name an_is_name cd_is_name ct_is_name), sl_is_name⟩)
    (c_is_name' : PySem.W.codeIn K cd_is_name "is_name" = true)
    (k_is_name : PySem.W.keepIn K (.ref f_is_name) = true)
    (a_is_number : PySem.W.nsIn K mainGlobals "is_number" = some (some (.ref f_is_number)))
    (l_is_number : K.lookup f_is_number = some ⟨oc_is_number, od_is_number, .func (PySem.W.fnOf "is_number" "is_number" (defArgs st_is_number) (defBody st_is_number) (defScope st_is_number) .none kV_is_number dc_is_number pm_is_number an_is_number cd_is_number ct_is_number), sl_is_number⟩)
    (c_is_number' : PySem.W.codeIn K cd_is_number "is_number" = true)
    (k_is_number : PySem.W.keepIn K (.ref f_is_number) = true)
    (a_read_row : PySem.W.nsIn K mainGlobals "read_row" = some (some (.ref f_read_row)))
    (l_read_row : K.lookup f_read_row = some ⟨oc_read_row, od_read_row, .func (PySem.W.fnOf "read_row" "read_row" (defArgs st_read_row) (defBody st_read_row) (defScope st_read_row) .none kV_read_row dc_read_row pm_read_row an_read_row cd_read_row ct_read_row), sl_read_row⟩)
    (c_read_row' : PySem.W.codeIn K cd_read_row "read_row" = true)
    (k_read_row : PySem.W.keepIn K (.ref f_read_row) = true)
    (a_read_head : PySem.W.nsIn K mainGlobals "read_head" = some (some (.ref f_read_head)))
    (l_read_head : K.lookup f_read_head = some ⟨oc_read_head, od_read_head, .func (PySem.W.fnOf "read_head" "read_head" (defArgs st_read_head) (defBody st_read_head) (defScope st_read_head) .none kV_read_head dc_read_head pm_read_head an_read_head cd_read_head ct_read_head), sl_read_head⟩)
    (c_read_head' : PySem.W.codeIn K cd_read_head "read_head" = true)
    (k_read_head : PySem.W.keepIn K (.ref f_read_head) = true)
    (a_read_plain : PySem.W.nsIn K mainGlobals "read_plain" = some (some (.ref f_read_plain)))
    (l_read_plain : K.lookup f_read_plain = some ⟨oc_read_plain, od_read_plain, .func (PySem.W.fnOf "read_plain" "read_plain" (defArgs st_read_plain) (defBody st_read_plain) (defScope st_read_plain) .none kV_read_plain dc_read_plain pm_read_plain an_read_plain cd_read_plain ct_read_plain), sl_read_plain⟩)
    (c_read_plain' : PySem.W.codeIn K cd_read_plain "read_plain" = true)
    (k_read_plain : PySem.W.keepIn K (.ref f_read_plain) = true)
    (a_place_fault : PySem.W.nsIn K mainGlobals "place_fault" = some (some (.ref f_place_fault)))
    (l_place_fault : K.lookup f_place_fault = some ⟨oc_place_fault, od_place_fault, .func (PySem.W.fnOf "place_fault" "place_fault" (defArgs st_place_fault) (defBody st_place_fault) (defScope st_place_fault) .none kV_place_fault dc_place_fault pm_place_fault an_place_fault cd_place_fault ct_place_fault), sl_place_fault⟩)
    (c_place_fault' : PySem.W.codeIn K cd_place_fault "place_fault" = true)
    (k_place_fault : PySem.W.keepIn K (.ref f_place_fault) = true)
    (a_is_misplaced : PySem.W.nsIn K mainGlobals "is_misplaced" = some (some (.ref f_is_misplaced)))
    (l_is_misplaced : K.lookup f_is_misplaced = some ⟨oc_is_misplaced, od_is_misplaced, .func (PySem.W.fnOf "is_misplaced" "is_misplaced" (defArgs st_is_misplaced) (defBody st_is_misplaced) (defScope st_is_misplaced) .none kV_is_misplaced dc_is_misplaced pm_is_misplaced an_is_misplaced cd_is_misplaced ct_is_misplaced), sl_is_misplaced⟩)
    (c_is_misplaced' : PySem.W.codeIn K cd_is_misplaced "is_misplaced" = true)
    (k_is_misplaced : PySem.W.keepIn K (.ref f_is_misplaced) = true)
    (a_is_stray : PySem.W.nsIn K mainGlobals "is_stray" = some (some (.ref f_is_stray)))
    (l_is_stray : K.lookup f_is_stray = some ⟨oc_is_stray, od_is_stray, .func (PySem.W.fnOf "is_stray" "is_stray" (defArgs st_is_stray) (defBody st_is_stray) (defScope st_is_stray) .none kV_is_stray dc_is_stray pm_is_stray an_is_stray cd_is_stray ct_is_stray), sl_is_stray⟩)
    (c_is_stray' : PySem.W.codeIn K cd_is_stray "is_stray" = true)
    (k_is_stray : PySem.W.keepIn K (.ref f_is_stray) = true)
    (a_put_in : PySem.W.nsIn K mainGlobals "put_in" = some (some (.ref f_put_in)))
    (l_put_in : K.lookup f_put_in = some ⟨oc_put_in, od_put_in, .func (PySem.W.fnOf "put_in" "put_in" (defArgs st_put_in) (defBody st_put_in) (defScope st_put_in) .none kV_put_in dc_put_in pm_put_in an_put_in cd_put_in ct_put_in), sl_put_in⟩)
    (c_put_in' : PySem.W.codeIn K cd_put_in "put_in" = true)
    (k_put_in : PySem.W.keepIn K (.ref f_put_in) = true)
    (a_begun : PySem.W.nsIn K mainGlobals "begun" = some (some (.ref f_begun)))
    (l_begun : K.lookup f_begun = some ⟨oc_begun, od_begun, .func (PySem.W.fnOf "begun" "begun" (defArgs st_begun) (defBody st_begun) (defScope st_begun) .none kV_begun dc_begun pm_begun an_begun cd_begun ct_begun), sl_begun⟩)
    (c_begun' : PySem.W.codeIn K cd_begun "begun" = true)
    (k_begun : PySem.W.keepIn K (.ref f_begun) = true)
    (a_law_cell_at : PySem.W.nsIn K mainGlobals "_law_cell_at" = some (some (.ref f_law_cell_at)))
    (l_law_cell_at : K.lookup f_law_cell_at = some ⟨oc_law_cell_at, od_law_cell_at, .func (PySem.W.fnOf "_law_cell_at" "_law_cell_at" (defArgs st_law_cell_at) (defBody st_law_cell_at) (defScope st_law_cell_at) .none kV_law_cell_at dc_law_cell_at pm_law_cell_at an_law_cell_at cd_law_cell_at ct_law_cell_at), sl_law_cell_at⟩)
    (c_law_cell_at' : PySem.W.codeIn K cd_law_cell_at "_law_cell_at" = true)
    (k_law_cell_at : PySem.W.keepIn K (.ref f_law_cell_at) = true)
    (a_law_stream : PySem.W.nsIn K mainGlobals "_law_stream" = some (some (.ref f_law_stream)))
    (l_law_stream : K.lookup f_law_stream = some ⟨oc_law_stream, od_law_stream, .func (PySem.W.fnOf "_law_stream" "_law_stream" (defArgs st_law_stream) (defBody st_law_stream) (defScope st_law_stream) .none kV_law_stream dc_law_stream pm_law_stream an_law_stream cd_law_stream ct_law_stream), sl_law_stream⟩)
    (c_law_stream' : PySem.W.codeIn K cd_law_stream "_law_stream" = true)
    (k_law_stream : PySem.W.keepIn K (.ref f_law_stream) = true)
    (a_law_name : PySem.W.nsIn K mainGlobals "_law_name" = some (some (.ref f_law_name)))
    (l_law_name : K.lookup f_law_name = some ⟨oc_law_name, od_law_name, .func (PySem.W.fnOf "_law_name" "_law_name" (defArgs st_law_name) (defBody st_law_name) (defScope st_law_name) .none kV_law_name dc_law_name pm_law_name an_law_name cd_law_name ct_law_name), sl_law_name⟩)
    (c_law_name' : PySem.W.codeIn K cd_law_name "_law_name" = true)
    (k_law_name : PySem.W.keepIn K (.ref f_law_name) = true)
    (a_law_leaf : PySem.W.nsIn K mainGlobals "_law_leaf" = some (some (.ref f_law_leaf)))
    (l_law_leaf : K.lookup f_law_leaf = some ⟨oc_law_leaf, od_law_leaf, .func (PySem.W.fnOf "_law_leaf" "_law_leaf" (defArgs st_law_leaf) (defBody st_law_leaf) (defScope st_law_leaf) .none kV_law_leaf dc_law_leaf pm_law_leaf an_law_leaf cd_law_leaf ct_law_leaf), sl_law_leaf⟩)
    (c_law_leaf' : PySem.W.codeIn K cd_law_leaf "_law_leaf" = true)
    (k_law_leaf : PySem.W.keepIn K (.ref f_law_leaf) = true)
    (a_law_many : PySem.W.nsIn K mainGlobals "_law_many" = some (some (.ref f_law_many)))
    (l_law_many : K.lookup f_law_many = some ⟨oc_law_many, od_law_many, .func (PySem.W.fnOf "_law_many" "_law_many" (defArgs st_law_many) (defBody st_law_many) (defScope st_law_many) .none kV_law_many dc_law_many pm_law_many an_law_many cd_law_many ct_law_many), sl_law_many⟩)
    (c_law_many' : PySem.W.codeIn K cd_law_many "_law_many" = true)
    (k_law_many : PySem.W.keepIn K (.ref f_law_many) = true)
    (a_law_expr : PySem.W.nsIn K mainGlobals "_law_expr" = some (some (.ref f_law_expr)))
    (l_law_expr : K.lookup f_law_expr = some ⟨oc_law_expr, od_law_expr, .func (PySem.W.fnOf "_law_expr" "_law_expr" (defArgs st_law_expr) (defBody st_law_expr) (defScope st_law_expr) .none kV_law_expr dc_law_expr pm_law_expr an_law_expr cd_law_expr ct_law_expr), sl_law_expr⟩)
    (c_law_expr' : PySem.W.codeIn K cd_law_expr "_law_expr" = true)
    (k_law_expr : PySem.W.keepIn K (.ref f_law_expr) = true)
    (a_law_deep : PySem.W.nsIn K mainGlobals "_law_deep" = some (some (.ref f_law_deep)))
    (l_law_deep : K.lookup f_law_deep = some ⟨oc_law_deep, od_law_deep, .func (PySem.W.fnOf "_law_deep" "_law_deep" (defArgs st_law_deep) (defBody st_law_deep) (defScope st_law_deep) .none kV_law_deep dc_law_deep pm_law_deep an_law_deep cd_law_deep ct_law_deep), sl_law_deep⟩)
    (c_law_deep' : PySem.W.codeIn K cd_law_deep "_law_deep" = true)
    (k_law_deep : PySem.W.keepIn K (.ref f_law_deep) = true)
    (a_law_words : PySem.W.nsIn K mainGlobals "_law_words" = some (some (.ref f_law_words)))
    (l_law_words : K.lookup f_law_words = some ⟨oc_law_words, od_law_words, .func (PySem.W.fnOf "_law_words" "_law_words" (defArgs st_law_words) (defBody st_law_words) (defScope st_law_words) .none kV_law_words dc_law_words pm_law_words an_law_words cd_law_words ct_law_words), sl_law_words⟩)
    (c_law_words' : PySem.W.codeIn K cd_law_words "_law_words" = true)
    (k_law_words : PySem.W.keepIn K (.ref f_law_words) = true)
    (a_law_found : PySem.W.nsIn K mainGlobals "_law_found" = some (some (.ref f_law_found)))
    (l_law_found : K.lookup f_law_found = some ⟨oc_law_found, od_law_found, .func (PySem.W.fnOf "_law_found" "_law_found" (defArgs st_law_found) (defBody st_law_found) (defScope st_law_found) .none kV_law_found dc_law_found pm_law_found an_law_found cd_law_found ct_law_found), sl_law_found⟩)
    (c_law_found' : PySem.W.codeIn K cd_law_found "_law_found" = true)
    (k_law_found : PySem.W.keepIn K (.ref f_law_found) = true)
    (a_law_spoiled : PySem.W.nsIn K mainGlobals "_law_spoiled" = some (some (.ref f_law_spoiled)))
    (l_law_spoiled : K.lookup f_law_spoiled = some ⟨oc_law_spoiled, od_law_spoiled, .func (PySem.W.fnOf "_law_spoiled" "_law_spoiled" (defArgs st_law_spoiled) (defBody st_law_spoiled) (defScope st_law_spoiled) .none kV_law_spoiled dc_law_spoiled pm_law_spoiled an_law_spoiled cd_law_spoiled ct_law_spoiled), sl_law_spoiled⟩)
    (c_law_spoiled' : PySem.W.codeIn K cd_law_spoiled "_law_spoiled" = true)
    (k_law_spoiled : PySem.W.keepIn K (.ref f_law_spoiled) = true)
    (a_law_edges : PySem.W.nsIn K mainGlobals "_law_edges" = some (some (.ref f_law_edges)))
    (l_law_edges : K.lookup f_law_edges = some ⟨oc_law_edges, od_law_edges, .func (PySem.W.fnOf "_law_edges" "_law_edges" (defArgs st_law_edges) (defBody st_law_edges) (defScope st_law_edges) .none kV_law_edges dc_law_edges pm_law_edges an_law_edges cd_law_edges ct_law_edges), sl_law_edges⟩)
    (c_law_edges' : PySem.W.codeIn K cd_law_edges "_law_edges" = true)
    (k_law_edges : PySem.W.keepIn K (.ref f_law_edges) = true)
    (a_Phrase_init : PySem.W.findIn K (.ref c_Phrase) "__init__" = some (some (.ref f_Phrase_init)))
    (i_Phrase_init : PySem.W.isFn K (.ref f_Phrase_init) = true)
    (l_Phrase_init : K.lookup f_Phrase_init = some ⟨oc_Phrase_init, od_Phrase_init, .func (PySem.W.fnOf "__init__" "Phrase.__init__" (defArgs st_Phrase_init) (defBody st_Phrase_init) (defScope st_Phrase_init) .none kV_Phrase_init dc_Phrase_init pm_Phrase_init an_Phrase_init cd_Phrase_init ct_Phrase_init), sl_Phrase_init⟩)
    (c_Phrase_init' : PySem.W.codeIn K cd_Phrase_init "Phrase.__init__" = true)
    (k_Phrase_init : PySem.W.keepIn K (.ref f_Phrase_init) = true)
    (a_Phrase_ended : PySem.W.findIn K (.ref c_Phrase) "ended" = some (some (.ref f_Phrase_ended)))
    (i_Phrase_ended : PySem.W.isFn K (.ref f_Phrase_ended) = true)
    (l_Phrase_ended : K.lookup f_Phrase_ended = some ⟨oc_Phrase_ended, od_Phrase_ended, .func (PySem.W.fnOf "ended" "Phrase.ended" (defArgs st_Phrase_ended) (defBody st_Phrase_ended) (defScope st_Phrase_ended) .none kV_Phrase_ended dc_Phrase_ended pm_Phrase_ended an_Phrase_ended cd_Phrase_ended ct_Phrase_ended), sl_Phrase_ended⟩)
    (c_Phrase_ended' : PySem.W.codeIn K cd_Phrase_ended "Phrase.ended" = true)
    (k_Phrase_ended : PySem.W.keepIn K (.ref f_Phrase_ended) = true)
    (a_Phrase_take : PySem.W.findIn K (.ref c_Phrase) "take" = some (some (.ref f_Phrase_take)))
    (i_Phrase_take : PySem.W.isFn K (.ref f_Phrase_take) = true)
    (l_Phrase_take : K.lookup f_Phrase_take = some ⟨oc_Phrase_take, od_Phrase_take, .func (PySem.W.fnOf "take" "Phrase.take" (defArgs st_Phrase_take) (defBody st_Phrase_take) (defScope st_Phrase_take) .none kV_Phrase_take dc_Phrase_take pm_Phrase_take an_Phrase_take cd_Phrase_take ct_Phrase_take), sl_Phrase_take⟩)
    (c_Phrase_take' : PySem.W.codeIn K cd_Phrase_take "Phrase.take" = true)
    (k_Phrase_take : PySem.W.keepIn K (.ref f_Phrase_take) = true)
    (a_Phrase_take_name : PySem.W.findIn K (.ref c_Phrase) "take_name" = some (some (.ref f_Phrase_take_name)))
    (i_Phrase_take_name : PySem.W.isFn K (.ref f_Phrase_take_name) = true)
    (l_Phrase_take_name : K.lookup f_Phrase_take_name = some ⟨oc_Phrase_take_name, od_Phrase_take_name, .func (PySem.W.fnOf "take_name" "Phrase.take_name" (defArgs st_Phrase_take_name) (defBody st_Phrase_take_name) (defScope st_Phrase_take_name) .none kV_Phrase_take_name dc_Phrase_take_name pm_Phrase_take_name an_Phrase_take_name cd_Phrase_take_name ct_Phrase_take_name), sl_Phrase_take_name⟩)
    (c_Phrase_take_name' : PySem.W.codeIn K cd_Phrase_take_name "Phrase.take_name" = true)
    (k_Phrase_take_name : PySem.W.keepIn K (.ref f_Phrase_take_name) = true)
    (a_Phrase_take_plain_kind : PySem.W.findIn K (.ref c_Phrase) "take_plain_kind" = some (some (.ref f_Phrase_take_plain_kind)))
    (i_Phrase_take_plain_kind : PySem.W.isFn K (.ref f_Phrase_take_plain_kind) = true)
    (l_Phrase_take_plain_kind : K.lookup f_Phrase_take_plain_kind = some ⟨oc_Phrase_take_plain_kind, od_Phrase_take_plain_kind, .func (PySem.W.fnOf "take_plain_kind" "Phrase.take_plain_kind" (defArgs st_Phrase_take_plain_kind) (defBody st_Phrase_take_plain_kind) (defScope st_Phrase_take_plain_kind) .none kV_Phrase_take_plain_kind dc_Phrase_take_plain_kind pm_Phrase_take_plain_kind an_Phrase_take_plain_kind cd_Phrase_take_plain_kind ct_Phrase_take_plain_kind), sl_Phrase_take_plain_kind⟩)
    (c_Phrase_take_plain_kind' : PySem.W.codeIn K cd_Phrase_take_plain_kind "Phrase.take_plain_kind" = true)
    (k_Phrase_take_plain_kind : PySem.W.keepIn K (.ref f_Phrase_take_plain_kind) = true)
    (a_Phrase_take_kind : PySem.W.findIn K (.ref c_Phrase) "take_kind" = some (some (.ref f_Phrase_take_kind)))
    (i_Phrase_take_kind : PySem.W.isFn K (.ref f_Phrase_take_kind) = true)
    (l_Phrase_take_kind : K.lookup f_Phrase_take_kind = some ⟨oc_Phrase_take_kind, od_Phrase_take_kind, .func (PySem.W.fnOf "take_kind" "Phrase.take_kind" (defArgs st_Phrase_take_kind) (defBody st_Phrase_take_kind) (defScope st_Phrase_take_kind) .none kV_Phrase_take_kind dc_Phrase_take_kind pm_Phrase_take_kind an_Phrase_take_kind cd_Phrase_take_kind ct_Phrase_take_kind), sl_Phrase_take_kind⟩)
    (c_Phrase_take_kind' : PySem.W.codeIn K cd_Phrase_take_kind "Phrase.take_kind" = true)
    (k_Phrase_take_kind : PySem.W.keepIn K (.ref f_Phrase_take_kind) = true)
    (a_Phrase_take_fields : PySem.W.findIn K (.ref c_Phrase) "take_fields" = some (some (.ref f_Phrase_take_fields)))
    (i_Phrase_take_fields : PySem.W.isFn K (.ref f_Phrase_take_fields) = true)
    (l_Phrase_take_fields : K.lookup f_Phrase_take_fields = some ⟨oc_Phrase_take_fields, od_Phrase_take_fields, .func (PySem.W.fnOf "take_fields" "Phrase.take_fields" (defArgs st_Phrase_take_fields) (defBody st_Phrase_take_fields) (defScope st_Phrase_take_fields) .none kV_Phrase_take_fields dc_Phrase_take_fields pm_Phrase_take_fields an_Phrase_take_fields cd_Phrase_take_fields ct_Phrase_take_fields), sl_Phrase_take_fields⟩)
    (c_Phrase_take_fields' : PySem.W.codeIn K cd_Phrase_take_fields "Phrase.take_fields" = true)
    (k_Phrase_take_fields : PySem.W.keepIn K (.ref f_Phrase_take_fields) = true)
    (a_Phrase_take_params : PySem.W.findIn K (.ref c_Phrase) "take_params" = some (some (.ref f_Phrase_take_params)))
    (i_Phrase_take_params : PySem.W.isFn K (.ref f_Phrase_take_params) = true)
    (l_Phrase_take_params : K.lookup f_Phrase_take_params = some ⟨oc_Phrase_take_params, od_Phrase_take_params, .func (PySem.W.fnOf "take_params" "Phrase.take_params" (defArgs st_Phrase_take_params) (defBody st_Phrase_take_params) (defScope st_Phrase_take_params) .none kV_Phrase_take_params dc_Phrase_take_params pm_Phrase_take_params an_Phrase_take_params cd_Phrase_take_params ct_Phrase_take_params), sl_Phrase_take_params⟩)
    (c_Phrase_take_params' : PySem.W.codeIn K cd_Phrase_take_params "Phrase.take_params" = true)
    (k_Phrase_take_params : PySem.W.keepIn K (.ref f_Phrase_take_params) = true)
    (a_Phrase_unlike_names : PySem.W.findIn K (.ref c_Phrase) "unlike_names" = some (some (.ref f_Phrase_unlike_names)))
    (i_Phrase_unlike_names : PySem.W.isFn K (.ref f_Phrase_unlike_names) = true)
    (l_Phrase_unlike_names : K.lookup f_Phrase_unlike_names = some ⟨oc_Phrase_unlike_names, od_Phrase_unlike_names, .func (PySem.W.fnOf "unlike_names" "Phrase.unlike_names" (defArgs st_Phrase_unlike_names) (defBody st_Phrase_unlike_names) (defScope st_Phrase_unlike_names) .none kV_Phrase_unlike_names dc_Phrase_unlike_names pm_Phrase_unlike_names an_Phrase_unlike_names cd_Phrase_unlike_names ct_Phrase_unlike_names), sl_Phrase_unlike_names⟩)
    (c_Phrase_unlike_names' : PySem.W.codeIn K cd_Phrase_unlike_names "Phrase.unlike_names" = true)
    (k_Phrase_unlike_names : PySem.W.keepIn K (.ref f_Phrase_unlike_names) = true)
    (a_Phrase_take_expr : PySem.W.findIn K (.ref c_Phrase) "take_expr" = some (some (.ref f_Phrase_take_expr)))
    (i_Phrase_take_expr : PySem.W.isFn K (.ref f_Phrase_take_expr) = true)
    (l_Phrase_take_expr : K.lookup f_Phrase_take_expr = some ⟨oc_Phrase_take_expr, od_Phrase_take_expr, .func (PySem.W.fnOf "take_expr" "Phrase.take_expr" (defArgs st_Phrase_take_expr) (defBody st_Phrase_take_expr) (defScope st_Phrase_take_expr) .none kV_Phrase_take_expr dc_Phrase_take_expr pm_Phrase_take_expr an_Phrase_take_expr cd_Phrase_take_expr ct_Phrase_take_expr), sl_Phrase_take_expr⟩)
    (c_Phrase_take_expr' : PySem.W.codeIn K cd_Phrase_take_expr "Phrase.take_expr" = true)
    (k_Phrase_take_expr : PySem.W.keepIn K (.ref f_Phrase_take_expr) = true)
    (a_Phrase_take_named : PySem.W.findIn K (.ref c_Phrase) "take_named" = some (some (.ref f_Phrase_take_named)))
    (i_Phrase_take_named : PySem.W.isFn K (.ref f_Phrase_take_named) = true)
    (l_Phrase_take_named : K.lookup f_Phrase_take_named = some ⟨oc_Phrase_take_named, od_Phrase_take_named, .func (PySem.W.fnOf "take_named" "Phrase.take_named" (defArgs st_Phrase_take_named) (defBody st_Phrase_take_named) (defScope st_Phrase_take_named) .none kV_Phrase_take_named dc_Phrase_take_named pm_Phrase_take_named an_Phrase_take_named cd_Phrase_take_named ct_Phrase_take_named), sl_Phrase_take_named⟩)
    (c_Phrase_take_named' : PySem.W.codeIn K cd_Phrase_take_named "Phrase.take_named" = true)
    (k_Phrase_take_named : PySem.W.keepIn K (.ref f_Phrase_take_named) = true)
    (a_Phrase_take_exprs : PySem.W.findIn K (.ref c_Phrase) "take_exprs" = some (some (.ref f_Phrase_take_exprs)))
    (i_Phrase_take_exprs : PySem.W.isFn K (.ref f_Phrase_take_exprs) = true)
    (l_Phrase_take_exprs : K.lookup f_Phrase_take_exprs = some ⟨oc_Phrase_take_exprs, od_Phrase_take_exprs, .func (PySem.W.fnOf "take_exprs" "Phrase.take_exprs" (defArgs st_Phrase_take_exprs) (defBody st_Phrase_take_exprs) (defScope st_Phrase_take_exprs) .none kV_Phrase_take_exprs dc_Phrase_take_exprs pm_Phrase_take_exprs an_Phrase_take_exprs cd_Phrase_take_exprs ct_Phrase_take_exprs), sl_Phrase_take_exprs⟩)
    (c_Phrase_take_exprs' : PySem.W.codeIn K cd_Phrase_take_exprs "Phrase.take_exprs" = true)
    (k_Phrase_take_exprs : PySem.W.keepIn K (.ref f_Phrase_take_exprs) = true)
    (a_Block_init : PySem.W.findIn K (.ref c_Block) "__init__" = some (some (.ref f_Block_init)))
    (i_Block_init : PySem.W.isFn K (.ref f_Block_init) = true)
    (l_Block_init : K.lookup f_Block_init = some ⟨oc_Block_init, od_Block_init, .func (PySem.W.fnOf "__init__" "Block.__init__" (defArgs st_Block_init) (defBody st_Block_init) (defScope st_Block_init) .none kV_Block_init dc_Block_init pm_Block_init an_Block_init cd_Block_init ct_Block_init), sl_Block_init⟩)
    (c_Block_init' : PySem.W.codeIn K cd_Block_init "Block.__init__" = true)
    (k_Block_init : PySem.W.keepIn K (.ref f_Block_init) = true)
    (a_law : PySem.W.nsIn K mainGlobals "law" = some (some (.ref f_law)))
    (l_law : K.lookup f_law = some ⟨oc_law, od_law, .func (PySem.W.fnOf "law" "law" (defArgs st_law) (defBody st_law) (defScope st_law) .none kV_law dc_law pm_law an_law cd_law ct_law), sl_law⟩)
    (c_law' : PySem.W.codeIn K cd_law "law" = true)
    (k_law : PySem.W.keepIn K (.ref f_law) = true)
    (pg_Phrase : PySem.W.plainGet K c_Phrase Str.empty = true)
    (hd_Phrase : PySem.W.hasDictIn K c_Phrase = true)
    (po_Phrase : PySem.W.plainOver K c_Phrase = true)
    (sa_Phrase : PySem.W.findIn K (.ref c_Phrase) "__setattr__" = some (some (.builtin "object.__setattr__")))
    (mk_Phrase : PySem.W.makesIn K c_Phrase = true)
    (kc_Phrase : PySem.W.keepIn K (.ref c_Phrase) = true)
    (na_Phrase_words : PySem.W.findIn K (.ref c_Phrase) "words" = some none)
    (na_Phrase_at : PySem.W.findIn K (.ref c_Phrase) "at" = some none)
    (na_Phrase_place : PySem.W.findIn K (.ref c_Phrase) "place" = some none)
    (t1_Phrase : PySem.W.findIn K (.ref c_Phrase) "__class__" = some (some (.builtin "object.__class__")))
    (t2_Phrase : PySem.W.specialIn K (.builtin "object.__class__") "__get__" = some (some (.builtin "getset_descriptor.__get__")))
    (t3_Phrase : PySem.W.takesIn K (.builtin "object.__class__") = some true)
    (t4_Phrase : PySem.W.mroIn K c_Phrase (.type "object") = some true)
    (pg_Block : PySem.W.plainGet K c_Block Str.empty = true)
    (hd_Block : PySem.W.hasDictIn K c_Block = true)
    (po_Block : PySem.W.plainOver K c_Block = true)
    (sa_Block : PySem.W.findIn K (.ref c_Block) "__setattr__" = some (some (.builtin "object.__setattr__")))
    (mk_Block : PySem.W.makesIn K c_Block = true)
    (kc_Block : PySem.W.keepIn K (.ref c_Block) = true)
    (na_Block_word : PySem.W.findIn K (.ref c_Block) "word" = some none)
    (na_Block_body : PySem.W.findIn K (.ref c_Block) "body" = some none)
    (na_Block_other : PySem.W.findIn K (.ref c_Block) "other" = some none)
    (t1_Block : PySem.W.findIn K (.ref c_Block) "__class__" = some (some (.builtin "object.__class__")))
    (t2_Block : PySem.W.specialIn K (.builtin "object.__class__") "__get__" = some (some (.builtin "getset_descriptor.__get__")))
    (t3_Block : PySem.W.takesIn K (.builtin "object.__class__") = some true)
    (t4_Block : PySem.W.mroIn K c_Block (.type "object") = some true)
    (v_SMALL_LETTERS : PySem.W.nsIn K mainGlobals "SMALL_LETTERS" = some (some (.str "abcdefghijklmnopqrstuvwxyz" t_SMALL_LETTERS)))
    (v_FIGURES : PySem.W.nsIn K mainGlobals "FIGURES" = some (some (.str "0123456789" t_FIGURES)))
    (v_LONGEST_NAME : PySem.W.nsIn K mainGlobals "LONGEST_NAME" = some (some (.int 8 t_LONGEST_NAME)))
    (v_LONGEST_NUMBER : PySem.W.nsIn K mainGlobals "LONGEST_NUMBER" = some (some (.int 18 t_LONGEST_NUMBER)))
    (v_DEEPEST_EXPR : PySem.W.nsIn K mainGlobals "DEEPEST_EXPR" = some (some (.int 6 t_DEEPEST_EXPR)))
    (v_MOST_BLOCKS : PySem.W.nsIn K mainGlobals "MOST_BLOCKS" = some (some (.int 4 t_MOST_BLOCKS)))
    (a_LANGUAGE_WORDS : PySem.W.nsIn K mainGlobals "LANGUAGE_WORDS" = some (some (.ref q_LANGUAGE_WORDS)))
    (l_LANGUAGE_WORDS : K.lookup q_LANGUAGE_WORDS = some ⟨.type "tuple", od_LANGUAGE_WORDS, .seq #[.str "kind" t_LANGUAGE_WORDS_0, .str "def" t_LANGUAGE_WORDS_1, .str "set" t_LANGUAGE_WORDS_2, .str "tell" t_LANGUAGE_WORDS_3, .str "give" t_LANGUAGE_WORDS_4, .str "if" t_LANGUAGE_WORDS_5, .str "else" t_LANGUAGE_WORDS_6, .str "while" t_LANGUAGE_WORDS_7, .str "end" t_LANGUAGE_WORDS_8, .str "num" t_LANGUAGE_WORDS_9, .str "truth" t_LANGUAGE_WORDS_10, .str "yes" t_LANGUAGE_WORDS_11, .str "no" t_LANGUAGE_WORDS_12, .str "less" t_LANGUAGE_WORDS_13, .str "same" t_LANGUAGE_WORDS_14, .str "and" t_LANGUAGE_WORDS_15, .str "or" t_LANGUAGE_WORDS_16, .str "not" t_LANGUAGE_WORDS_17, .str "do" t_LANGUAGE_WORDS_18, .str "new" t_LANGUAGE_WORDS_19, .str "of" t_LANGUAGE_WORDS_20, .str "+" t_LANGUAGE_WORDS_21, .str "-" t_LANGUAGE_WORDS_22, .str "*" t_LANGUAGE_WORDS_23, .str "." t_LANGUAGE_WORDS_24] n_LANGUAGE_WORDS, sl_LANGUAGE_WORDS⟩)
    (a_OPERATORS : PySem.W.nsIn K mainGlobals "OPERATORS" = some (some (.ref q_OPERATORS)))
    (l_OPERATORS : K.lookup q_OPERATORS = some ⟨.type "tuple", od_OPERATORS, .seq #[.str "+" t_OPERATORS_0, .str "-" t_OPERATORS_1, .str "*" t_OPERATORS_2, .str "less" t_OPERATORS_3, .str "same" t_OPERATORS_4, .str "and" t_OPERATORS_5, .str "or" t_OPERATORS_6] n_OPERATORS, sl_OPERATORS⟩)
    (a_PLAIN_KINDS : PySem.W.nsIn K mainGlobals "PLAIN_KINDS" = some (some (.ref q_PLAIN_KINDS)))
    (l_PLAIN_KINDS : K.lookup q_PLAIN_KINDS = some ⟨.type "tuple", od_PLAIN_KINDS, .seq #[.str "num" t_PLAIN_KINDS_0, .str "truth" t_PLAIN_KINDS_1] n_PLAIN_KINDS, sl_PLAIN_KINDS⟩)
    (ax_MakesError : PySem.W.nsIn K mainGlobals "MakesError" = some (some (.ref x_MakesError)))
    (pg_MakesError : PySem.W.findIn K (.ref x_MakesError) "__getattribute__" = some (some (.builtin "BaseException.__getattribute__")))
    (pk_MakesError : PySem.W.findIn K (.ref x_MakesError) "__getattr__" = some none)
    (pb_MakesError : PySem.W.mroIn K x_MakesError (.type "BaseException") = some true)
    (t1_MakesError : PySem.W.findIn K (.ref x_MakesError) "__class__" = some (some (.builtin "object.__class__")))
    (t2_MakesError : PySem.W.specialIn K (.builtin "object.__class__") "__get__" = some (some (.builtin "getset_descriptor.__get__")))
    (t3_MakesError : PySem.W.takesIn K (.builtin "object.__class__") = some true)
    (t4_MakesError : PySem.W.mroIn K x_MakesError (.type "object") = some true)
    (ax_NoForm : PySem.W.nsIn K mainGlobals "NoForm" = some (some (.ref x_NoForm)))
    (pg_NoForm : PySem.W.findIn K (.ref x_NoForm) "__getattribute__" = some (some (.builtin "BaseException.__getattribute__")))
    (pk_NoForm : PySem.W.findIn K (.ref x_NoForm) "__getattr__" = some none)
    (pb_NoForm : PySem.W.mroIn K x_NoForm (.type "BaseException") = some true)
    (t1_NoForm : PySem.W.findIn K (.ref x_NoForm) "__class__" = some (some (.builtin "object.__class__")))
    (t2_NoForm : PySem.W.specialIn K (.builtin "object.__class__") "__get__" = some (some (.builtin "getset_descriptor.__get__")))
    (t3_NoForm : PySem.W.takesIn K (.builtin "object.__class__") = some true)
    (t4_NoForm : PySem.W.mroIn K x_NoForm (.type "object") = some true)
    (a_NoForm_init : PySem.W.findIn K (.ref x_NoForm) "__init__" = some (some (.ref f_NoForm_init)))
    (i_NoForm_init : PySem.W.isFn K (.ref f_NoForm_init) = true)
    (l_NoForm_init : K.lookup f_NoForm_init = some ⟨oc_NoForm_init, od_NoForm_init, .func (PySem.W.fnOf "__init__" "NoForm.__init__" (defArgs st_NoForm_init) (defBody st_NoForm_init) (defScope st_NoForm_init) .none kV_NoForm_init dc_NoForm_init pm_NoForm_init an_NoForm_init cd_NoForm_init ct_NoForm_init), sl_NoForm_init⟩)
    (c_NoForm_init' : PySem.W.codeIn K cd_NoForm_init "NoForm.__init__" = true)
    (k_NoForm_init : PySem.W.keepIn K (.ref f_NoForm_init) = true)
    (mi_NoForm : excInI K x_NoForm bmVE "ValueError.__new__" f_NoForm_init = true)
    (po_NoForm : (PySem.W.clsIn K x_NoForm).any (fun cd => refsThen 2 cd.mro) = true)
    (sa_NoForm : PySem.W.findIn K (.ref x_NoForm) "__setattr__" = some (some (.builtin "object.__setattr__")))
    (hd_NoForm : PySem.W.hasDictIn K x_NoForm = true)
    (na_NoForm_at : PySem.W.findIn K (.ref x_NoForm) "at" = some none)
    (na_NoForm_what : PySem.W.findIn K (.ref x_NoForm) "what" = some none)
    (em_NoForm_NoForm : PySem.W.exmOne K (.ref x_NoForm) (.ref x_NoForm) = some true)
    (ki_NoForm_MakesError : PySem.W.kitOne K (.ref x_NoForm) (.ref x_MakesError) = some true)
    (z_len : PySem.W.nsIn K mainGlobals "len" = some none)
    (z_range : PySem.W.nsIn K mainGlobals "range" = some none)
    (z_int : PySem.W.nsIn K mainGlobals "int" = some none)
    (z_bool : PySem.W.nsIn K mainGlobals "bool" = some none)
    (z_all : PySem.W.nsIn K mainGlobals "all" = some none)
    (z_min : PySem.W.nsIn K mainGlobals "min" = some none)
    (z_list : PySem.W.nsIn K mainGlobals "list" = some none)
    (z_enumerate : PySem.W.nsIn K mainGlobals "enumerate" = some none)
    (z_isinstance : PySem.W.nsIn K mainGlobals "isinstance" = some none)
    (z_tuple : PySem.W.nsIn K mainGlobals "tuple" = some none)
    (z_set : PySem.W.nsIn K mainGlobals "set" = some none)
    (z_str : PySem.W.nsIn K mainGlobals "str" = some none)
    (z_max : PySem.W.nsIn K mainGlobals "max" = some none)
    :
    ∃ fd : FuncData, (∀ (s : Shared) (v : Value), BindsTo s fd ⟨[v], []⟩ [("_law_script", v)]) ∧ ∀ base : Heap, K.In base → base.Ns mainGlobals mg → FnOk l.prog w K mg base CX0 199 fa fd ["_law_script"] (spLaw K) := by
  have e := hfa.symm.trans (PySem.W.mg_of X G a_law)
  cases e
  have F_made_of := fun_mk (st := st_made_of) l_made_of c_made_of' k_made_of
  have F_is_name := fun_mk (st := st_is_name) l_is_name c_is_name' k_is_name
  have F_is_number := fun_mk (st := st_is_number) l_is_number c_is_number' k_is_number
  have F_read_row := fun_mk (st := st_read_row) l_read_row c_read_row' k_read_row
  have F_read_head := fun_mk (st := st_read_head) l_read_head c_read_head' k_read_head
  have F_read_plain := fun_mk (st := st_read_plain) l_read_plain c_read_plain' k_read_plain
  have F_place_fault := fun_mk (st := st_place_fault) l_place_fault c_place_fault' k_place_fault
  have F_is_misplaced := fun_mk (st := st_is_misplaced) l_is_misplaced c_is_misplaced' k_is_misplaced
  have F_is_stray := fun_mk (st := st_is_stray) l_is_stray c_is_stray' k_is_stray
  have F_put_in := fun_mk (st := st_put_in) l_put_in c_put_in' k_put_in
  have F_begun := fun_mk (st := st_begun) l_begun c_begun' k_begun
  have F_law_cell_at := fun_mk (st := st_law_cell_at) l_law_cell_at c_law_cell_at' k_law_cell_at
  have F_law_stream := fun_mk (st := st_law_stream) l_law_stream c_law_stream' k_law_stream
  have F_law_name := fun_mk (st := st_law_name) l_law_name c_law_name' k_law_name
  have F_law_leaf := fun_mk (st := st_law_leaf) l_law_leaf c_law_leaf' k_law_leaf
  have F_law_many := fun_mk (st := st_law_many) l_law_many c_law_many' k_law_many
  have F_law_expr := fun_mk (st := st_law_expr) l_law_expr c_law_expr' k_law_expr
  have F_law_deep := fun_mk (st := st_law_deep) l_law_deep c_law_deep' k_law_deep
  have F_law_words := fun_mk (st := st_law_words) l_law_words c_law_words' k_law_words
  have F_law_found := fun_mk (st := st_law_found) l_law_found c_law_found' k_law_found
  have F_law_spoiled := fun_mk (st := st_law_spoiled) l_law_spoiled c_law_spoiled' k_law_spoiled
  have F_law_edges := fun_mk (st := st_law_edges) l_law_edges c_law_edges' k_law_edges
  have F_Phrase_init := fun_mk (st := st_Phrase_init) l_Phrase_init c_Phrase_init' k_Phrase_init
  have F_Phrase_ended := fun_mk (st := st_Phrase_ended) l_Phrase_ended c_Phrase_ended' k_Phrase_ended
  have F_Phrase_take := fun_mk (st := st_Phrase_take) l_Phrase_take c_Phrase_take' k_Phrase_take
  have F_Phrase_take_name := fun_mk (st := st_Phrase_take_name) l_Phrase_take_name c_Phrase_take_name' k_Phrase_take_name
  have F_Phrase_take_plain_kind := fun_mk (st := st_Phrase_take_plain_kind) l_Phrase_take_plain_kind c_Phrase_take_plain_kind' k_Phrase_take_plain_kind
  have F_Phrase_take_kind := fun_mk (st := st_Phrase_take_kind) l_Phrase_take_kind c_Phrase_take_kind' k_Phrase_take_kind
  have F_Phrase_take_fields := fun_mk (st := st_Phrase_take_fields) l_Phrase_take_fields c_Phrase_take_fields' k_Phrase_take_fields
  have F_Phrase_take_params := fun_mk (st := st_Phrase_take_params) l_Phrase_take_params c_Phrase_take_params' k_Phrase_take_params
  have F_Phrase_unlike_names := fun_mk (st := st_Phrase_unlike_names) l_Phrase_unlike_names c_Phrase_unlike_names' k_Phrase_unlike_names
  have F_Phrase_take_expr := fun_mk (st := st_Phrase_take_expr) l_Phrase_take_expr c_Phrase_take_expr' k_Phrase_take_expr
  have F_Phrase_take_named := fun_mk (st := st_Phrase_take_named) l_Phrase_take_named c_Phrase_take_named' k_Phrase_take_named
  have F_Phrase_take_exprs := fun_mk (st := st_Phrase_take_exprs) l_Phrase_take_exprs c_Phrase_take_exprs' k_Phrase_take_exprs
  have F_Block_init := fun_mk (st := st_Block_init) l_Block_init c_Block_init' k_Block_init
  have F_NoForm_init := fun_mk (st := st_NoForm_init) l_NoForm_init c_NoForm_init' k_NoForm_init
  have F_law := fun_mk (st := st_law) l_law c_law' k_law
  have b_made_of := F_made_of.binds (ps := ["word", "signs", "most"]) fun _ _ _ _ _ _ us hl => by obtain ⟨_, _, _, rfl⟩ := len3 hl; rfl
  have b_is_name := F_is_name.binds (ps := ["word"]) fun _ _ _ _ _ _ us hl => by obtain ⟨_, rfl⟩ := len1 hl; rfl
  have b_is_number := F_is_number.binds (ps := ["word"]) fun _ _ _ _ _ _ us hl => by obtain ⟨_, rfl⟩ := len1 hl; rfl
  have b_read_row := F_read_row.binds (ps := ["words", "at"]) fun _ _ _ _ _ _ us hl => by obtain ⟨_, _, rfl⟩ := len2 hl; rfl
  have b_read_head := F_read_head.binds (ps := ["phrase", "word"]) fun _ _ _ _ _ _ us hl => by obtain ⟨_, _, rfl⟩ := len2 hl; rfl
  have b_read_plain := F_read_plain.binds (ps := ["rows"]) fun _ _ _ _ _ _ us hl => by obtain ⟨_, rfl⟩ := len1 hl; rfl
  have b_place_fault := F_place_fault.binds (ps := ["word", "within"]) fun _ _ _ _ _ _ us hl => by obtain ⟨_, _, rfl⟩ := len2 hl; rfl
  have b_is_misplaced := F_is_misplaced.binds (ps := ["word", "within"]) fun _ _ _ _ _ _ us hl => by obtain ⟨_, _, rfl⟩ := len2 hl; rfl
  have b_is_stray := F_is_stray.binds (ps := ["word", "within"]) fun _ _ _ _ _ _ us hl => by obtain ⟨_, _, rfl⟩ := len2 hl; rfl
  have b_put_in := F_put_in.binds (ps := ["head", "tree", "blocks"]) fun _ _ _ _ _ _ us hl => by obtain ⟨_, _, _, rfl⟩ := len3 hl; rfl
  have b_begun := F_begun.binds (ps := ["head", "blocks"]) fun _ _ _ _ _ _ us hl => by obtain ⟨_, _, rfl⟩ := len2 hl; rfl
  have b_law_cell_at := F_law_cell_at.binds (ps := ["_law_script", "_law_k"]) fun _ _ _ _ _ _ us hl => by obtain ⟨_, _, rfl⟩ := len2 hl; rfl
  have b_law_stream := F_law_stream.binds (ps := ["_law_cell", "_law_size"]) fun _ _ _ _ _ _ us hl => by obtain ⟨_, _, rfl⟩ := len2 hl; rfl
  have b_law_name := F_law_name.binds (ps := ["_law_number"]) fun _ _ _ _ _ _ us hl => by obtain ⟨_, rfl⟩ := len1 hl; rfl
  have b_law_leaf := F_law_leaf.binds (ps := ["_law_number"]) fun _ _ _ _ _ _ us hl => by obtain ⟨_, rfl⟩ := len1 hl; rfl
  have b_law_many := F_law_many.binds (ps := ["_law_word", "_law_xs", "_law_deep_here"]) fun _ _ _ _ _ _ us hl => by obtain ⟨_, _, _, rfl⟩ := len3 hl; rfl
  have b_law_expr := F_law_expr.binds (ps := ["_law_xs", "_law_deep_here"]) fun _ _ _ _ _ _ us hl => by obtain ⟨_, _, rfl⟩ := len2 hl; rfl
  have b_law_deep := F_law_deep.binds (ps := ["_law_e"]) fun _ _ _ _ _ _ us hl => by obtain ⟨_, rfl⟩ := len1 hl; rfl
  have b_law_words := F_law_words.binds (ps := ["_law_e"]) fun _ _ _ _ _ _ us hl => by obtain ⟨_, rfl⟩ := len1 hl; rfl
  have b_law_found := F_law_found.binds (ps := ["_law_words_here"]) fun _ _ _ _ _ _ us hl => by obtain ⟨_, rfl⟩ := len1 hl; rfl
  have b_law_spoiled := F_law_spoiled.binds (ps := ["_law_words_here", "_law_cell"]) fun _ _ _ _ _ _ us hl => by obtain ⟨_, _, rfl⟩ := len2 hl; rfl
  have b_law_edges := F_law_edges.binds (ps := []) fun _ _ _ _ _ _ us hl => by obtain rfl := len0 hl; rfl
  have b_Phrase_init := F_Phrase_init.binds (ps := ["self", "words", "at"]) fun _ _ _ _ _ _ us hl => by obtain ⟨_, _, _, rfl⟩ := len3 hl; rfl
  have b_Phrase_ended := F_Phrase_ended.binds (ps := ["self"]) fun _ _ _ _ _ _ us hl => by obtain ⟨_, rfl⟩ := len1 hl; rfl
  have b_Phrase_take := F_Phrase_take.binds (ps := ["self"]) fun _ _ _ _ _ _ us hl => by obtain ⟨_, rfl⟩ := len1 hl; rfl
  have b_Phrase_take_name := F_Phrase_take_name.binds (ps := ["self"]) fun _ _ _ _ _ _ us hl => by obtain ⟨_, rfl⟩ := len1 hl; rfl
  have b_Phrase_take_plain_kind := F_Phrase_take_plain_kind.binds (ps := ["self"]) fun _ _ _ _ _ _ us hl => by obtain ⟨_, rfl⟩ := len1 hl; rfl
  have b_Phrase_take_kind := F_Phrase_take_kind.binds (ps := ["self"]) fun _ _ _ _ _ _ us hl => by obtain ⟨_, rfl⟩ := len1 hl; rfl
  have b_Phrase_take_fields := F_Phrase_take_fields.binds (ps := ["self"]) fun _ _ _ _ _ _ us hl => by obtain ⟨_, rfl⟩ := len1 hl; rfl
  have b_Phrase_take_params := F_Phrase_take_params.binds (ps := ["self"]) fun _ _ _ _ _ _ us hl => by obtain ⟨_, rfl⟩ := len1 hl; rfl
  have b_Phrase_unlike_names := F_Phrase_unlike_names.binds (ps := ["self", "pairs"]) fun _ _ _ _ _ _ us hl => by obtain ⟨_, _, rfl⟩ := len2 hl; rfl
  have b_Phrase_take_expr := F_Phrase_take_expr.binds (ps := ["self", "deep"]) fun _ _ _ _ _ _ us hl => by obtain ⟨_, _, rfl⟩ := len2 hl; rfl
  have b_Phrase_take_named := F_Phrase_take_named.binds (ps := ["self", "word", "deep"]) fun _ _ _ _ _ _ us hl => by obtain ⟨_, _, _, rfl⟩ := len3 hl; rfl
  have b_Phrase_take_exprs := F_Phrase_take_exprs.binds (ps := ["self", "deep"]) fun _ _ _ _ _ _ us hl => by obtain ⟨_, _, rfl⟩ := len2 hl; rfl
  have b_Block_init := F_Block_init.binds (ps := ["self", "word", "body", "other"]) fun _ _ _ _ _ _ us hl => by obtain ⟨_, _, _, _, rfl⟩ := len4 hl; rfl
  have b_NoForm_init := F_NoForm_init.binds (ps := ["self", "at", "what"]) fun _ _ _ _ _ _ us hl => by obtain ⟨_, _, _, rfl⟩ := len3 hl; rfl
  have T : All l.prog w K mg ⟨f_made_of, f_is_name, f_is_number, f_read_row, f_read_head, f_read_plain, f_place_fault, f_is_misplaced, f_is_stray, f_put_in, f_begun, f_law_cell_at, f_law_stream, f_law_name, f_law_leaf, f_law_many, f_law_expr, f_law_deep, f_law_words, f_law_found, f_law_spoiled, f_law_edges, f_Phrase_init, f_Phrase_ended, f_Phrase_take, f_Phrase_take_name, f_Phrase_take_plain_kind, f_Phrase_take_kind, f_Phrase_take_fields, f_Phrase_take_params, f_Phrase_unlike_names, f_Phrase_take_expr, f_Phrase_take_named, f_Phrase_take_exprs, f_Block_init, f_NoForm_init, c_Phrase, c_Block, x_MakesError, x_NoForm, q_LANGUAGE_WORDS, q_OPERATORS, q_PLAIN_KINDS⟩ ⟨_, _, _, _, _, _, _, _, _, _, _, _, _, _, _, _, _, _, _, _, _, _, _, _, _, _, _, _, _, _, _, _, _, _, _, _⟩ := {
    m_made_of := PySem.W.mg_of X G a_made_of
    k_made_of := k_made_of
    F_made_of := F_made_of
    b_made_of := b_made_of
    m_is_name := PySem.W.mg_of X G a_is_name
    k_is_name := k_is_name
    F_is_name := F_is_name
    b_is_name := b_is_name
    m_is_number := PySem.W.mg_of X G a_is_number
    k_is_number := k_is_number
    F_is_number := F_is_number
    b_is_number := b_is_number
    m_read_row := PySem.W.mg_of X G a_read_row
    k_read_row := k_read_row
    F_read_row := F_read_row
    b_read_row := b_read_row
    m_read_head := PySem.W.mg_of X G a_read_head
    k_read_head := k_read_head
    F_read_head := F_read_head
    b_read_head := b_read_head
    m_read_plain := PySem.W.mg_of X G a_read_plain
    k_read_plain := k_read_plain
    F_read_plain := F_read_plain
    b_read_plain := b_read_plain
    m_place_fault := PySem.W.mg_of X G a_place_fault
    k_place_fault := k_place_fault
    F_place_fault := F_place_fault
    b_place_fault := b_place_fault
    m_is_misplaced := PySem.W.mg_of X G a_is_misplaced
    k_is_misplaced := k_is_misplaced
    F_is_misplaced := F_is_misplaced
    b_is_misplaced := b_is_misplaced
    m_is_stray := PySem.W.mg_of X G a_is_stray
    k_is_stray := k_is_stray
    F_is_stray := F_is_stray
    b_is_stray := b_is_stray
    m_put_in := PySem.W.mg_of X G a_put_in
    k_put_in := k_put_in
    F_put_in := F_put_in
    b_put_in := b_put_in
    m_begun := PySem.W.mg_of X G a_begun
    k_begun := k_begun
    F_begun := F_begun
    b_begun := b_begun
    m_law_cell_at := PySem.W.mg_of X G a_law_cell_at
    k_law_cell_at := k_law_cell_at
    F_law_cell_at := F_law_cell_at
    b_law_cell_at := b_law_cell_at
    m_law_stream := PySem.W.mg_of X G a_law_stream
    k_law_stream := k_law_stream
    F_law_stream := F_law_stream
    b_law_stream := b_law_stream
    m_law_name := PySem.W.mg_of X G a_law_name
    k_law_name := k_law_name
    F_law_name := F_law_name
    b_law_name := b_law_name
    m_law_leaf := PySem.W.mg_of X G a_law_leaf
    k_law_leaf := k_law_leaf
    F_law_leaf := F_law_leaf
    b_law_leaf := b_law_leaf
    m_law_many := PySem.W.mg_of X G a_law_many
    k_law_many := k_law_many
    F_law_many := F_law_many
    b_law_many := b_law_many
    m_law_expr := PySem.W.mg_of X G a_law_expr
    k_law_expr := k_law_expr
    F_law_expr := F_law_expr
    b_law_expr := b_law_expr
    m_law_deep := PySem.W.mg_of X G a_law_deep
    k_law_deep := k_law_deep
    F_law_deep := F_law_deep
    b_law_deep := b_law_deep
    m_law_words := PySem.W.mg_of X G a_law_words
    k_law_words := k_law_words
    F_law_words := F_law_words
    b_law_words := b_law_words
    m_law_found := PySem.W.mg_of X G a_law_found
    k_law_found := k_law_found
    F_law_found := F_law_found
    b_law_found := b_law_found
    m_law_spoiled := PySem.W.mg_of X G a_law_spoiled
    k_law_spoiled := k_law_spoiled
    F_law_spoiled := F_law_spoiled
    b_law_spoiled := b_law_spoiled
    m_law_edges := PySem.W.mg_of X G a_law_edges
    k_law_edges := k_law_edges
    F_law_edges := F_law_edges
    b_law_edges := b_law_edges
    M_Phrase := ⟨mk_Phrase, a_Phrase_init, i_Phrase_init, kc_Phrase⟩
    k_Phrase_init := k_Phrase_init
    F_Phrase_init := F_Phrase_init
    b_Phrase_init := b_Phrase_init
    M_Phrase_ended := ⟨a_Phrase_ended, i_Phrase_ended, k_Phrase_ended⟩
    k_Phrase_ended := k_Phrase_ended
    F_Phrase_ended := F_Phrase_ended
    b_Phrase_ended := b_Phrase_ended
    M_Phrase_take := ⟨a_Phrase_take, i_Phrase_take, k_Phrase_take⟩
    k_Phrase_take := k_Phrase_take
    F_Phrase_take := F_Phrase_take
    b_Phrase_take := b_Phrase_take
    M_Phrase_take_name := ⟨a_Phrase_take_name, i_Phrase_take_name, k_Phrase_take_name⟩
    k_Phrase_take_name := k_Phrase_take_name
    F_Phrase_take_name := F_Phrase_take_name
    b_Phrase_take_name := b_Phrase_take_name
    M_Phrase_take_plain_kind := ⟨a_Phrase_take_plain_kind, i_Phrase_take_plain_kind, k_Phrase_take_plain_kind⟩
    k_Phrase_take_plain_kind := k_Phrase_take_plain_kind
    F_Phrase_take_plain_kind := F_Phrase_take_plain_kind
    b_Phrase_take_plain_kind := b_Phrase_take_plain_kind
    M_Phrase_take_kind := ⟨a_Phrase_take_kind, i_Phrase_take_kind, k_Phrase_take_kind⟩
    k_Phrase_take_kind := k_Phrase_take_kind
    F_Phrase_take_kind := F_Phrase_take_kind
    b_Phrase_take_kind := b_Phrase_take_kind
    M_Phrase_take_fields := ⟨a_Phrase_take_fields, i_Phrase_take_fields, k_Phrase_take_fields⟩
    k_Phrase_take_fields := k_Phrase_take_fields
    F_Phrase_take_fields := F_Phrase_take_fields
    b_Phrase_take_fields := b_Phrase_take_fields
    M_Phrase_take_params := ⟨a_Phrase_take_params, i_Phrase_take_params, k_Phrase_take_params⟩
    k_Phrase_take_params := k_Phrase_take_params
    F_Phrase_take_params := F_Phrase_take_params
    b_Phrase_take_params := b_Phrase_take_params
    M_Phrase_unlike_names := ⟨a_Phrase_unlike_names, i_Phrase_unlike_names, k_Phrase_unlike_names⟩
    k_Phrase_unlike_names := k_Phrase_unlike_names
    F_Phrase_unlike_names := F_Phrase_unlike_names
    b_Phrase_unlike_names := b_Phrase_unlike_names
    M_Phrase_take_expr := ⟨a_Phrase_take_expr, i_Phrase_take_expr, k_Phrase_take_expr⟩
    k_Phrase_take_expr := k_Phrase_take_expr
    F_Phrase_take_expr := F_Phrase_take_expr
    b_Phrase_take_expr := b_Phrase_take_expr
    M_Phrase_take_named := ⟨a_Phrase_take_named, i_Phrase_take_named, k_Phrase_take_named⟩
    k_Phrase_take_named := k_Phrase_take_named
    F_Phrase_take_named := F_Phrase_take_named
    b_Phrase_take_named := b_Phrase_take_named
    M_Phrase_take_exprs := ⟨a_Phrase_take_exprs, i_Phrase_take_exprs, k_Phrase_take_exprs⟩
    k_Phrase_take_exprs := k_Phrase_take_exprs
    F_Phrase_take_exprs := F_Phrase_take_exprs
    b_Phrase_take_exprs := b_Phrase_take_exprs
    M_Block := ⟨mk_Block, a_Block_init, i_Block_init, kc_Block⟩
    k_Block_init := k_Block_init
    F_Block_init := F_Block_init
    b_Block_init := b_Block_init
    M_NoForm := ⟨mi_NoForm, i_NoForm_init⟩
    ic_NoForm := ⟨po_NoForm, sa_NoForm, hd_NoForm⟩
    na_NoForm_at := na_NoForm_at
    na_NoForm_what := na_NoForm_what
    k_NoForm_init := k_NoForm_init
    F_NoForm_init := F_NoForm_init
    b_NoForm_init := b_NoForm_init
    m_Phrase := PySem.W.mg_of X G aC_Phrase
    cl_Phrase := ⟨pg_Phrase, hd_Phrase, po_Phrase, sa_Phrase⟩
    na_Phrase_words := na_Phrase_words
    na_Phrase_at := na_Phrase_at
    na_Phrase_place := na_Phrase_place
    ty_Phrase := fun H a dx fs e => .ins e ⟨pg_Phrase, hd_Phrase, po_Phrase, sa_Phrase⟩ t1_Phrase t2_Phrase t3_Phrase t4_Phrase
    is_Phrase := kit_same _ _
    m_Block := PySem.W.mg_of X G aC_Block
    cl_Block := ⟨pg_Block, hd_Block, po_Block, sa_Block⟩
    na_Block_word := na_Block_word
    na_Block_body := na_Block_body
    na_Block_other := na_Block_other
    ty_Block := fun H a dx fs e => .ins e ⟨pg_Block, hd_Block, po_Block, sa_Block⟩ t1_Block t2_Block t3_Block t4_Block
    is_Block := kit_same _ _
    v_SMALL_LETTERS := ⟨_, PySem.W.mg_of X G v_SMALL_LETTERS⟩
    v_FIGURES := ⟨_, PySem.W.mg_of X G v_FIGURES⟩
    v_LONGEST_NAME := ⟨_, PySem.W.mg_of X G v_LONGEST_NAME⟩
    v_LONGEST_NUMBER := ⟨_, PySem.W.mg_of X G v_LONGEST_NUMBER⟩
    v_DEEPEST_EXPR := ⟨_, PySem.W.mg_of X G v_DEEPEST_EXPR⟩
    v_MOST_BLOCKS := ⟨_, PySem.W.mg_of X G v_MOST_BLOCKS⟩
    m_LANGUAGE_WORDS := PySem.W.mg_of X G a_LANGUAGE_WORDS
    Q_LANGUAGE_WORDS := fun H => .inr ⟨_, _, _, l_LANGUAGE_WORDS, rfl, rfl, (by show 25 ≤ sizeLine; decide), .cons ⟨_, rfl⟩ (.cons ⟨_, rfl⟩ (.cons ⟨_, rfl⟩ (.cons ⟨_, rfl⟩ (.cons ⟨_, rfl⟩ (.cons ⟨_, rfl⟩ (.cons ⟨_, rfl⟩ (.cons ⟨_, rfl⟩ (.cons ⟨_, rfl⟩ (.cons ⟨_, rfl⟩ (.cons ⟨_, rfl⟩ (.cons ⟨_, rfl⟩ (.cons ⟨_, rfl⟩ (.cons ⟨_, rfl⟩ (.cons ⟨_, rfl⟩ (.cons ⟨_, rfl⟩ (.cons ⟨_, rfl⟩ (.cons ⟨_, rfl⟩ (.cons ⟨_, rfl⟩ (.cons ⟨_, rfl⟩ (.cons ⟨_, rfl⟩ (.cons ⟨_, rfl⟩ (.cons ⟨_, rfl⟩ (.cons ⟨_, rfl⟩ (.cons ⟨_, rfl⟩ (.nil)))))))))))))))))))))))))⟩
    m_OPERATORS := PySem.W.mg_of X G a_OPERATORS
    Q_OPERATORS := fun H => .inr ⟨_, _, _, l_OPERATORS, rfl, rfl, (by show 7 ≤ sizeLine; decide), .cons ⟨_, rfl⟩ (.cons ⟨_, rfl⟩ (.cons ⟨_, rfl⟩ (.cons ⟨_, rfl⟩ (.cons ⟨_, rfl⟩ (.cons ⟨_, rfl⟩ (.cons ⟨_, rfl⟩ (.nil)))))))⟩
    m_PLAIN_KINDS := PySem.W.mg_of X G a_PLAIN_KINDS
    Q_PLAIN_KINDS := fun H => .inr ⟨_, _, _, l_PLAIN_KINDS, rfl, rfl, (by show 2 ≤ sizeLine; decide), .cons ⟨_, rfl⟩ (.cons ⟨_, rfl⟩ (.nil))⟩
    m_MakesError := PySem.W.mg_of X G ax_MakesError
    xc_MakesError := ⟨pg_MakesError, pk_MakesError, pb_MakesError, t1_MakesError, t2_MakesError, t3_MakesError, t4_MakesError⟩
    m_NoForm := PySem.W.mg_of X G ax_NoForm
    xc_NoForm := ⟨pg_NoForm, pk_NoForm, pb_NoForm, t1_NoForm, t2_NoForm, t3_NoForm, t4_NoForm⟩
    em_NoForm_NoForm := em_NoForm_NoForm
    ki_NoForm_MakesError := ki_NoForm_MakesError
    n_len := PySem.W.mg_none_of X G z_len
    n_range := PySem.W.mg_none_of X G z_range
    n_int := PySem.W.mg_none_of X G z_int
    n_bool := PySem.W.mg_none_of X G z_bool
    n_all := PySem.W.mg_none_of X G z_all
    n_min := PySem.W.mg_none_of X G z_min
    n_list := PySem.W.mg_none_of X G z_list
    n_enumerate := PySem.W.mg_none_of X G z_enumerate
    n_isinstance := PySem.W.mg_none_of X G z_isinstance
    n_tuple := PySem.W.mg_none_of X G z_tuple
    n_set := PySem.W.mg_none_of X G z_set
    n_str := PySem.W.mg_none_of X G z_str
    n_max := PySem.W.mg_none_of X G z_max
  }
  exact ⟨PySem.W.fnOf "law" "law" (defArgs st_law) (defBody st_law) (defScope st_law) .none kV_law dc_law pm_law an_law cd_law ct_law, fun s v => .of_eq rfl, fun base _ _ => ok_law T F_law⟩
theorem walk {l : PySem.W.OpenLaw} {q : Program} {loose : List Str} {XP : (Str → Option Value) → Heap → Prop} {YP : World → Heap → Prop} {d : DefRec} {K : Params → PySem.W.Frag} (hn : l.most = some 63) (hdf : d.params.defaults = [])
    (hY : ∀ (w : World) (h : Heap), YP w h → (K w.params).In h)
    (F : ∀ (w : World) (mg : Str → Option Value) (fa : Addr) (h : Heap), (K w.params).In h → h.Ns mainGlobals mg → mg d.name = some (.ref fa) →
      ∃ fd : FuncData, (∀ (s : Shared) (u : Value), BindsTo s fd ⟨[u], []⟩ [("_law_script", u)]) ∧ ∀ base : Heap, (K w.params).In base → base.Ns mainGlobals mg → FnOk l.prog w (K w.params) mg base CX0 199 fa fd ["_law_script"] (spLaw (K w.params))) :
    PySem.W.WalkO q loose XP YP l.row.toRowW d [] (fun f vs => PySem.call f vs) :=
  L2.walk_of (n := 63) (k := 199) (x := "_law_script") (CX := fun _ => CX0) (sp := fun w => spLaw (K w.params)) hn (by decide) hdf ⟨rfl, by decide, by decide⟩ hY F (fun _ _ a ns hl _ hS => ⟨a, ns, rfl, hS, hl, fun _ => rfl⟩) fun _ _ _ _ _ z => z
end K21
open PySem PySem.W PyProof.Rows
set_option maxRecDepth 100000 in
set_option maxHeartbeats 0 in
theorem PySem.Challenge.cw_manymakes_k21_expressions_read_holds : PySem.Challenge.rw_manymakes_k21_expressions_read.Holds := by
  w_on; o_law
  refine PySem.W.holds_open (r := OpenLaw.row PySem.Challenge.rw_manymakes_k21_expressions_read) (q := K21.vw) (loose := []) (Xt := K21.xt) (XP := XL K21.vw [])
    (Yf := (kHook K21.pre.heap_1 K21.as K21.ase).obs) (Ya := (kHook K21.pre.heap_1 K21.as K21.ase).val) (YP := (kHook K21.pre.heap_1 K21.as K21.ase).says)
    (N := 4336) K21.left
    ((kHook K21.pre.heap_1 K21.as K21.ase).of) ((kHook K21.pre.heap_1 K21.as K21.ase).keeps) (fun s e => xl_of s (Mm.both_true e).1)
    (XL.keeps) (by rfl) (by rfl) (by rfl) (fun s e => recFacts_of (Mm.both_true e).2)
    (by rfl) (by assumption) (by decide +kernel)
    ⟨rfl, rfl, rfl, rfl, rfl, by decide +kernel⟩ ?hw ?hc
  (case hw => w_witness2)
  k_fill
  refine K21.walk (l := PySem.Challenge.rw_manymakes_k21_expressions_read) rfl rfl (fun w h Y => PySem.W.kIn_of Y) ?F
  case F =>
    intro w mg fa h KX G hmg
    refine' K21.all_mk KX G hmg ?aC_Phrase ?aC_Block ?a_made_of ?l_made_of ?c_made_of' ?k_made_of ?a_is_name ?l_is_name ?c_is_name' ?k_is_name ?a_is_number ?l_is_number ?c_is_number' ?k_is_number ?a_read_row ?l_read_row ?c_read_row' ?k_read_row ?a_read_head ?l_read_head ?c_read_head' ?k_read_head ?a_read_plain ?l_read_plain ?c_read_plain' ?k_read_plain ?a_place_fault ?l_place_fault ?c_place_fault' ?k_place_fault ?a_is_misplaced ?l_is_misplaced ?c_is_misplaced' ?k_is_misplaced ?a_is_stray ?l_is_stray ?c_is_stray' ?k_is_stray ?a_put_in ?l_put_in ?c_put_in' ?k_put_in ?a_begun ?l_begun ?c_begun' ?k_begun ?a_law_cell_at ?l_law_cell_at ?c_law_cell_at' ?k_law_cell_at ?a_law_stream ?l_law_stream ?c_law_stream' ?k_law_stream ?a_law_name ?l_law_name ?c_law_name' ?k_law_name ?a_law_leaf ?l_law_leaf ?c_law_leaf' ?k_law_leaf ?a_law_many ?l_law_many ?c_law_many' ?k_law_many ?a_law_expr ?l_law_expr ?c_law_expr' ?k_law_expr ?a_law_deep ?l_law_deep ?c_law_deep' ?k_law_deep ?a_law_words ?l_law_words ?c_law_words' ?k_law_words ?a_law_found ?l_law_found ?c_law_found' ?k_law_found ?a_law_spoiled ?l_law_spoiled ?c_law_spoiled' ?k_law_spoiled ?a_law_edges ?l_law_edges ?c_law_edges' ?k_law_edges ?a_Phrase_init ?i_Phrase_init ?l_Phrase_init ?c_Phrase_init' ?k_Phrase_init ?a_Phrase_ended ?i_Phrase_ended ?l_Phrase_ended ?c_Phrase_ended' ?k_Phrase_ended ?a_Phrase_take ?i_Phrase_take ?l_Phrase_take ?c_Phrase_take' ?k_Phrase_take ?a_Phrase_take_name ?i_Phrase_take_name ?l_Phrase_take_name ?c_Phrase_take_name' ?k_Phrase_take_name ?a_Phrase_take_plain_kind ?i_Phrase_take_plain_kind ?l_Phrase_take_plain_kind ?c_Phrase_take_plain_kind' ?k_Phrase_take_plain_kind ?a_Phrase_take_kind ?i_Phrase_take_kind ?l_Phrase_take_kind ?c_Phrase_take_kind' ?k_Phrase_take_kind ?a_Phrase_take_fields ?i_Phrase_take_fields ?l_Phrase_take_fields ?c_Phrase_take_fields' ?k_Phrase_take_fields ?a_Phrase_take_params ?i_Phrase_take_params ?l_Phrase_take_params ?c_Phrase_take_params' ?k_Phrase_take_params ?a_Phrase_unlike_names ?i_Phrase_unlike_names ?l_Phrase_unlike_names ?c_Phrase_unlike_names' ?k_Phrase_unlike_names ?a_Phrase_take_expr ?i_Phrase_take_expr ?l_Phrase_take_expr ?c_Phrase_take_expr' ?k_Phrase_take_expr ?a_Phrase_take_named ?i_Phrase_take_named ?l_Phrase_take_named ?c_Phrase_take_named' ?k_Phrase_take_named ?a_Phrase_take_exprs ?i_Phrase_take_exprs ?l_Phrase_take_exprs ?c_Phrase_take_exprs' ?k_Phrase_take_exprs ?a_Block_init ?i_Block_init ?l_Block_init ?c_Block_init' ?k_Block_init ?a_law ?l_law ?c_law' ?k_law ?pg_Phrase ?hd_Phrase ?po_Phrase ?sa_Phrase ?mk_Phrase ?kc_Phrase ?na_Phrase_words ?na_Phrase_at ?na_Phrase_place ?t1_Phrase ?t2_Phrase ?t3_Phrase ?t4_Phrase ?pg_Block ?hd_Block ?po_Block ?sa_Block ?mk_Block ?kc_Block ?na_Block_word ?na_Block_body ?na_Block_other ?t1_Block ?t2_Block ?t3_Block ?t4_Block ?v_SMALL_LETTERS ?v_FIGURES ?v_LONGEST_NAME ?v_LONGEST_NUMBER ?v_DEEPEST_EXPR ?v_MOST_BLOCKS ?a_LANGUAGE_WORDS ?l_LANGUAGE_WORDS ?a_OPERATORS ?l_OPERATORS ?a_PLAIN_KINDS ?l_PLAIN_KINDS ?ax_MakesError ?pg_MakesError ?pk_MakesError ?pb_MakesError ?t1_MakesError ?t2_MakesError ?t3_MakesError ?t4_MakesError ?ax_NoForm ?pg_NoForm ?pk_NoForm ?pb_NoForm ?t1_NoForm ?t2_NoForm ?t3_NoForm ?t4_NoForm ?a_NoForm_init ?i_NoForm_init ?l_NoForm_init ?c_NoForm_init' ?k_NoForm_init ?mi_NoForm ?po_NoForm ?sa_NoForm ?hd_NoForm ?na_NoForm_at ?na_NoForm_what ?em_NoForm_NoForm ?ki_NoForm_MakesError ?z_len ?z_range ?z_int ?z_bool ?z_all ?z_min ?z_list ?z_enumerate ?z_isinstance ?z_tuple ?z_set ?z_str ?z_max
    (case aC_Phrase => k_is)
    (case aC_Block => k_is)
    (case a_made_of => k_is)
    (case l_made_of => k_is)
    (case c_made_of' => k_is)
    (case k_made_of => k_is)
    (case a_is_name => k_is)
    (case l_is_name => k_is)
    (case c_is_name' => k_is)
    (case k_is_name => k_is)
    (case a_is_number => k_is)
    (case l_is_number => k_is)
    (case c_is_number' => k_is)
    (case k_is_number => k_is)
    (case a_read_row => k_is)
    (case l_read_row => k_is)
    (case c_read_row' => k_is)
    (case k_read_row => k_is)
    (case a_read_head => k_is)
    (case l_read_head => k_is)
    (case c_read_head' => k_is)
    (case k_read_head => k_is)
    (case a_read_plain => k_is)
    (case l_read_plain => k_is)
    (case c_read_plain' => k_is)
    (case k_read_plain => k_is)
    (case a_place_fault => k_is)
    (case l_place_fault => k_is)
    (case c_place_fault' => k_is)
    (case k_place_fault => k_is)
    (case a_is_misplaced => k_is)
    (case l_is_misplaced => k_is)
    (case c_is_misplaced' => k_is)
    (case k_is_misplaced => k_is)
    (case a_is_stray => k_is)
    (case l_is_stray => k_is)
    (case c_is_stray' => k_is)
    (case k_is_stray => k_is)
    (case a_put_in => k_is)
    (case l_put_in => k_is)
    (case c_put_in' => k_is)
    (case k_put_in => k_is)
    (case a_begun => k_is)
    (case l_begun => k_is)
    (case c_begun' => k_is)
    (case k_begun => k_is)
    (case a_law_cell_at => k_is)
    (case l_law_cell_at => k_is)
    (case c_law_cell_at' => k_is)
    (case k_law_cell_at => k_is)
    (case a_law_stream => k_is)
    (case l_law_stream => k_is)
    (case c_law_stream' => k_is)
    (case k_law_stream => k_is)
    (case a_law_name => k_is)
    (case l_law_name => k_is)
    (case c_law_name' => k_is)
    (case k_law_name => k_is)
    (case a_law_leaf => k_is)
    (case l_law_leaf => k_is)
    (case c_law_leaf' => k_is)
    (case k_law_leaf => k_is)
    (case a_law_many => k_is)
    (case l_law_many => k_is)
    (case c_law_many' => k_is)
    (case k_law_many => k_is)
    (case a_law_expr => k_is)
    (case l_law_expr => k_is)
    (case c_law_expr' => k_is)
    (case k_law_expr => k_is)
    (case a_law_deep => k_is)
    (case l_law_deep => k_is)
    (case c_law_deep' => k_is)
    (case k_law_deep => k_is)
    (case a_law_words => k_is)
    (case l_law_words => k_is)
    (case c_law_words' => k_is)
    (case k_law_words => k_is)
    (case a_law_found => k_is)
    (case l_law_found => k_is)
    (case c_law_found' => k_is)
    (case k_law_found => k_is)
    (case a_law_spoiled => k_is)
    (case l_law_spoiled => k_is)
    (case c_law_spoiled' => k_is)
    (case k_law_spoiled => k_is)
    (case a_law_edges => k_is)
    (case l_law_edges => k_is)
    (case c_law_edges' => k_is)
    (case k_law_edges => k_is)
    (case a_Phrase_init => k_is)
    (case i_Phrase_init => k_is)
    (case l_Phrase_init => k_is)
    (case c_Phrase_init' => k_is)
    (case k_Phrase_init => k_is)
    (case a_Phrase_ended => k_is)
    (case i_Phrase_ended => k_is)
    (case l_Phrase_ended => k_is)
    (case c_Phrase_ended' => k_is)
    (case k_Phrase_ended => k_is)
    (case a_Phrase_take => k_is)
    (case i_Phrase_take => k_is)
    (case l_Phrase_take => k_is)
    (case c_Phrase_take' => k_is)
    (case k_Phrase_take => k_is)
    (case a_Phrase_take_name => k_is)
    (case i_Phrase_take_name => k_is)
    (case l_Phrase_take_name => k_is)
    (case c_Phrase_take_name' => k_is)
    (case k_Phrase_take_name => k_is)
    (case a_Phrase_take_plain_kind => k_is)
    (case i_Phrase_take_plain_kind => k_is)
    (case l_Phrase_take_plain_kind => k_is)
    (case c_Phrase_take_plain_kind' => k_is)
    (case k_Phrase_take_plain_kind => k_is)
    (case a_Phrase_take_kind => k_is)
    (case i_Phrase_take_kind => k_is)
    (case l_Phrase_take_kind => k_is)
    (case c_Phrase_take_kind' => k_is)
    (case k_Phrase_take_kind => k_is)
    (case a_Phrase_take_fields => k_is)
    (case i_Phrase_take_fields => k_is)
    (case l_Phrase_take_fields => k_is)
    (case c_Phrase_take_fields' => k_is)
    (case k_Phrase_take_fields => k_is)
    (case a_Phrase_take_params => k_is)
    (case i_Phrase_take_params => k_is)
    (case l_Phrase_take_params => k_is)
    (case c_Phrase_take_params' => k_is)
    (case k_Phrase_take_params => k_is)
    (case a_Phrase_unlike_names => k_is)
    (case i_Phrase_unlike_names => k_is)
    (case l_Phrase_unlike_names => k_is)
    (case c_Phrase_unlike_names' => k_is)
    (case k_Phrase_unlike_names => k_is)
    (case a_Phrase_take_expr => k_is)
    (case i_Phrase_take_expr => k_is)
    (case l_Phrase_take_expr => k_is)
    (case c_Phrase_take_expr' => k_is)
    (case k_Phrase_take_expr => k_is)
    (case a_Phrase_take_named => k_is)
    (case i_Phrase_take_named => k_is)
    (case l_Phrase_take_named => k_is)
    (case c_Phrase_take_named' => k_is)
    (case k_Phrase_take_named => k_is)
    (case a_Phrase_take_exprs => k_is)
    (case i_Phrase_take_exprs => k_is)
    (case l_Phrase_take_exprs => k_is)
    (case c_Phrase_take_exprs' => k_is)
    (case k_Phrase_take_exprs => k_is)
    (case a_Block_init => k_is)
    (case i_Block_init => k_is)
    (case l_Block_init => k_is)
    (case c_Block_init' => k_is)
    (case k_Block_init => k_is)
    (case a_law => k_is)
    (case l_law => k_is)
    (case c_law' => k_is)
    (case k_law => k_is)
    (case pg_Phrase => k_is)
    (case hd_Phrase => k_is)
    (case po_Phrase => k_is)
    (case sa_Phrase => k_is)
    (case mk_Phrase => k_is)
    (case kc_Phrase => k_is)
    (case na_Phrase_words => k_is)
    (case na_Phrase_at => k_is)
    (case na_Phrase_place => k_is)
    (case t1_Phrase => k_is)
    (case t2_Phrase => k_is)
    (case t3_Phrase => k_is)
    (case t4_Phrase => k_is)
    (case pg_Block => k_is)
    (case hd_Block => k_is)
    (case po_Block => k_is)
    (case sa_Block => k_is)
    (case mk_Block => k_is)
    (case kc_Block => k_is)
    (case na_Block_word => k_is)
    (case na_Block_body => k_is)
    (case na_Block_other => k_is)
    (case t1_Block => k_is)
    (case t2_Block => k_is)
    (case t3_Block => k_is)
    (case t4_Block => k_is)
    (case v_SMALL_LETTERS => k_is)
    (case v_FIGURES => k_is)
    (case v_LONGEST_NAME => k_is)
    (case v_LONGEST_NUMBER => k_is)
    (case v_DEEPEST_EXPR => k_is)
    (case v_MOST_BLOCKS => k_is)
    (case a_LANGUAGE_WORDS => k_is)
    (case l_LANGUAGE_WORDS => k_is)
    (case a_OPERATORS => k_is)
    (case l_OPERATORS => k_is)
    (case a_PLAIN_KINDS => k_is)
    (case l_PLAIN_KINDS => k_is)
    (case ax_MakesError => k_is)
    (case pg_MakesError => k_is)
    (case pk_MakesError => k_is)
    (case pb_MakesError => k_is)
    (case t1_MakesError => k_is)
    (case t2_MakesError => k_is)
    (case t3_MakesError => k_is)
    (case t4_MakesError => k_is)
    (case ax_NoForm => k_is)
    (case pg_NoForm => k_is)
    (case pk_NoForm => k_is)
    (case pb_NoForm => k_is)
    (case t1_NoForm => k_is)
    (case t2_NoForm => k_is)
    (case t3_NoForm => k_is)
    (case t4_NoForm => k_is)
    (case a_NoForm_init => k_is)
    (case i_NoForm_init => k_is)
    (case l_NoForm_init => k_is)
    (case c_NoForm_init' => k_is)
    (case k_NoForm_init => k_is)
    (case mi_NoForm => kernel_rfl)
    (case po_NoForm => kernel_rfl)
    (case sa_NoForm => k_is)
    (case hd_NoForm => k_is)
    (case na_NoForm_at => k_is)
    (case na_NoForm_what => k_is)
    (case em_NoForm_NoForm => kts_exm)
    (case ki_NoForm_MakesError => kit_is)
    (case z_len => k_is)
    (case z_range => k_is)
    (case z_int => k_is)
    (case z_bool => k_is)
    (case z_all => k_is)
    (case z_min => k_is)
    (case z_list => k_is)
    (case z_enumerate => k_is)
    (case z_isinstance => k_is)
    (case z_tuple => k_is)
    (case z_set => k_is)
    (case z_str => k_is)
    (case z_max => k_is)

