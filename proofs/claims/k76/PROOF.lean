import PyProof.Rows.All
import Wide.All
import OpenK.AllK
import Wide.FinOn
import Lean
import PyProof.EqAt
import PyProof.EqKinds
import PyProof.TupleCall
import PyProof.Rows.BitMore
import KE.IntBitsLaws
import KE.KRevIter
import KE.KTryMore
import PyProof.StrLawsRepr
import KE.KIsAll
import KE.RegKIsAll
import KE.RegKTryMore
import PyProof.StrCalls2
import PyProof.StrLawsTight
import PyProof.StrLawsChain
import PyProof.Rows.StrItems
import PyProof.Rows.StrWeight2
import PyProof.EnumMake
import PyProof.EnumStmt
import PyProof.Rows.EnumRows
import PyProof.Rows.EqDataRows
import PyProof.P3Eq
import KE.KRevSl
import PyProof.ListRange
import PyProof.SumWalk
import PyProof.Rows.InDataRows
import PySem.Challenge.RW_manymakes_k76_whole_cut_joined_tidied
/-! the text's own head: read at once -/
set_option Elab.async false
set_option maxRecDepth 100000
def K76.tq (i : Nat) : PySem.Stmt := PySem.Challenge.pw_manymakes_k76_whole_cut_joined_tidied.main.body.getD i (PySem.Stmt.Pass ⟨0, 0, 0, 0⟩)
noncomputable def K76.vw : PySem.Program := { PySem.Challenge.pw_manymakes_k76_whole_cut_joined_tidied with main := { PySem.Challenge.pw_manymakes_k76_whole_cut_joined_tidied.main with body := [K76.tq 1, K76.tq 2, K76.tq 3, K76.tq 4, K76.tq 6, K76.tq 7, K76.tq 8, K76.tq 9, K76.tq 10, K76.tq 11, K76.tq 12, K76.tq 13, K76.tq 15, K76.tq 16, K76.tq 17, K76.tq 18, K76.tq 19, K76.tq 20, K76.tq 21, K76.tq 23, K76.tq 24, K76.tq 25, K76.tq 27, K76.tq 28, K76.tq 29, K76.tq 30, K76.tq 31, K76.tq 32, K76.tq 33, K76.tq 34, K76.tq 35, K76.tq 36, K76.tq 38, K76.tq 39, K76.tq 40, K76.tq 41, K76.tq 43, K76.tq 44, K76.tq 45, K76.tq 46, K76.tq 47, K76.tq 49, K76.tq 50, K76.tq 51, K76.tq 52, K76.tq 53, K76.tq 54, K76.tq 55, K76.tq 56, K76.tq 57] } }
section
open PySem PySem.W PyProof.Rows
theorem Mm.keepIt (_ : Hook) {p : Prop} (h : p) : p := h
section
local macro_rules | `(tactic| o_head $H) => `(tactic| exact Mm.keepIt $H (by assumption))
set_option maxHeartbeats 0 in
theorem K76.pre (h : (OpenLaw.row PySem.Challenge.rw_manymakes_k76_whole_cut_joined_tidied).Holds) : (OpenLaw.row PySem.Challenge.rw_manymakes_k76_whole_cut_joined_tidied).Holds := by k_head
end
def K76.as : List Addr := [2, 3, 15, 22, 23, 24, 25, 28, 35, 36, 37, 40, 47, 48, 49, 52, 59, 61, 62, 64, 65, 66, 67, 68, 71, 73, 74, 76, 77, 78, 80, 81, 83, 84, 85, 87, 88, 90, 91, 92, 94, 95, 97, 98, 99, 101, 102, 104, 105, 106, 109, 110, 111, 113, 114, 116, 117, 118, 120, 121, 123, 124, 125, 126, 128, 129, 131, 132, 133, 136, 137, 138, 140, 141, 143, 144, 145, 147, 148, 150, 151, 152, 154, 155, 157, 158, 159, 161, 162, 164, 165, 166, 168, 169, 171, 172, 173, 175, 176, 178, 179, 180, 183, 184, 185, 187, 188, 190, 191, 192, 194, 195, 197, 198, 199, 201, 202, 204, 205, 206, 208, 209, 211, 212, 213, 216, 217, 218, 221, 222, 223, 226, 227, 228, 230, 231, 233, 234, 235, 238, 239, 240, 243, 244, 245, 247, 248, 250, 251, 252, 255, 256, 257, 259, 260, 262, 263, 264, 266, 267, 269, 270, 271, 273, 274, 276, 277, 278, 280, 281, 283, 284, 285, 287, 288, 290, 291, 292, 294, 295, 297, 298, 299, 301, 302, 304, 305, 306, 308, 309, 311, 312, 313, 315, 316, 318, 319, 320, 322, 323, 325, 326, 327, 329, 330, 332, 333, 334, 337, 338, 339, 342, 343]
theorem K76.ase (P : Params) : K76.as = (K76.pre.heap_1 P).map (·.1) := by kernel_rfl
theorem Mm.both_true {a b : Bool} (h : (a && b) = true) : a = true ∧ b = true := by cases a <;> cases b <;> simp_all
noncomputable abbrev K76.xt : Shared → Bool := fun s => (xlAt K76.vw [] s) && (recOk (RowW.records (OpenRow.toRowW (OpenLaw.row PySem.Challenge.rw_manymakes_k76_whole_cut_joined_tidied))) s)
abbrev Mm.LAt (p q : Program) (loose : List Str) (Xt : Shared → Bool) {α : Type} (Yf : Shared → α) (Ya : World → α) (N : Nat) (w : World) : Prop :=
  Option.map (fun s => (openSeen q loose (importedModules p.main.body) Xt true s, Yf s)) (openEnds treeTable p w N) = some (openGood q loose, Ya w)
set_option maxRecDepth 100000 in
theorem K76.l0 : ∀ w : World, Mm.LAt PySem.Challenge.pw_manymakes_k76_whole_cut_joined_tidied K76.vw ["NEEDS", "put_together_wishes", "put_together_joining"] K76.xt (kHook K76.pre.heap_1 K76.as K76.ase).obs (kHook K76.pre.heap_1 K76.as K76.ase).val 4754 (w.withFollow "special-get-raises" false) := fun w => by kernel_rfl
set_option maxRecDepth 100000 in
theorem K76.l1 : ∀ w : World, Mm.LAt PySem.Challenge.pw_manymakes_k76_whole_cut_joined_tidied K76.vw ["NEEDS", "put_together_wishes", "put_together_joining"] K76.xt (kHook K76.pre.heap_1 K76.as K76.ase).obs (kHook K76.pre.heap_1 K76.as K76.ase).val 4754 (w.withFollow "special-get-raises" true) := fun w => by kernel_rfl
theorem K76.left : LeftO PySem.Challenge.pw_manymakes_k76_whole_cut_joined_tidied K76.vw ["NEEDS", "put_together_wishes", "put_together_joining"] K76.xt (kHook K76.pre.heap_1 K76.as K76.ase).obs (kHook K76.pre.heap_1 K76.as K76.ase).val 4754 := fun w => byRow2 "special-get-raises" (P := fun w => Mm.LAt PySem.Challenge.pw_manymakes_k76_whole_cut_joined_tidied K76.vw ["NEEDS", "put_together_wishes", "put_together_joining"] K76.xt (kHook K76.pre.heap_1 K76.as K76.ase).obs (kHook K76.pre.heap_1 K76.as K76.ase).val 4754 w) K76.l0 K76.l1 w
end
set_option linter.all false
namespace Mm
/-! joining: rows with masks -/
section
variable {α : Type}
noncomputable def selB (i : Nat) (rs : List (α × Nat)) : List α := (rs.filter fun p => p.2.testBit i).map (·.1)
theorem selB_append (i : Nat) (a b : List (α × Nat)) : selB i (a ++ b) = selB i a ++ selB i b := by simp [selB]
theorem selB_cons (i : Nat) (p : α × Nat) (b : List (α × Nat)) : selB i (p :: b) = if p.2.testBit i = true then p.1 :: selB i b else selB i b := by
  unfold selB
  rw [List.filter_cons]
  cases p.2.testBit i <;> simp
theorem selB_none {i : Nat} {rs : List (α × Nat)} (h : ∀ p ∈ rs, p.2.testBit i = false) : selB i rs = [] := by
  unfold selB
  rw [List.filter_eq_nil_iff.mpr (fun p hp => by rw [h p hp]; simp)]; rfl
theorem selB_new {i s : Nat} (own : List α) : selB i (own.map fun x => (x, 2 ^ s)) = if i = s then own else [] := by
  induction own with
  | nil => cases decide (i = s) <;> simp [selB]
  | cons x r ih =>
    rw [List.map_cons, selB_cons, ih, Nat.testBit_two_pow]
    by_cases h : i = s
    · subst h; simp
    · have h' : ¬ s = i := fun z => h z.symm
      simp [h, h']
/-- what is found from behind: places here and place on -/
structure JI (s : Nat) (rs : List (α × Nat)) (own : List α) (here place : Nat) (fr : List (α × Nat)) : Prop where
  hh : here ≤ rs.length
  hp : place ≤ own.length
  old : ∀ i, i < s → selB i fr = selB i (rs.drop here)
  new : selB s fr = own.drop place
  lt : ∀ p ∈ fr, p.2 < 2 ^ (s + 1)
  mem : ∀ p ∈ fr, p.1 ∈ own ∨ p.1 ∈ rs.map (·.1)
  alike : rs.map (·.1) = own → here = place ∧ fr = (rs.drop here).map fun p => (p.1, p.2 ||| 2 ^ s)
  emp : rs = [] → fr = [] ∧ place = own.length
theorem JI.start (s : Nat) (rs : List (α × Nat)) (own : List α) : JI s rs own rs.length own.length [] :=
  ⟨Nat.le_refl _, Nat.le_refl _, fun i _ => by simp [selB], by simp [selB], by simp, by simp, fun h => ⟨by rw [← h]; simp, by simp⟩, fun _ => ⟨rfl, rfl⟩⟩
theorem or_bit {m s i : Nat} (h : i < s) : (m ||| 2 ^ s).testBit i = m.testBit i := by
  rw [Nat.testBit_or, Nat.testBit_two_pow]
  have : ¬ s = i := by omega
  simp [this]
theorem lt_succ {m s : Nat} (h : m < 2 ^ s) : m < 2 ^ (s + 1) := Nat.lt_of_lt_of_le h (Nat.pow_le_pow_right (by decide) (Nat.le_succ _))
theorem JI.eq {s : Nat} {rs : List (α × Nat)} {own : List α} {here place : Nat} {fr : List (α × Nat)} (h : JI s rs own (here + 1) (place + 1) fr) (hl : ∀ p ∈ rs, p.2 < 2 ^ s) (e : (rs[here]'(h.hh)).1 = own[place]'(h.hp)) :
    JI s rs own here place ((own[place]'(h.hp), (rs[here]'(h.hh)).2 ||| 2 ^ s) :: fr) := by
  have h1 : here < rs.length := h.hh
  have h2 : place < own.length := h.hp
  have hm := hl _ (List.getElem_mem h1)
  refine ⟨Nat.le_of_lt h1, Nat.le_of_lt h2, fun i hi => ?_, ?_, fun p hp => ?_, fun p hp => ?_, fun ha => ?_, fun z => absurd h1 (by rw [z]; simp)⟩
  · rw [selB_cons, List.drop_eq_getElem_cons h1, selB_cons, h.old i hi, or_bit hi, ← e]
  · rw [selB_cons, h.new, List.drop_eq_getElem_cons h2, Nat.testBit_or, Nat.testBit_two_pow]
    simp
  · rcases List.mem_cons.mp hp with z | z
    · subst z
      exact Nat.or_lt_two_pow (lt_succ hm) (Nat.pow_lt_pow_right (by decide) (Nat.lt_succ_self _))
    · exact h.lt p z
  · rcases List.mem_cons.mp hp with z | z
    · subst z
      exact .inl (List.getElem_mem h2)
    · exact h.mem p z
  · obtain ⟨a, b⟩ := h.alike ha
    refine ⟨by omega, ?_⟩
    rw [List.drop_eq_getElem_cons h1, List.map_cons, ← b, e]
theorem JI.old1 {s : Nat} {rs : List (α × Nat)} {own : List α} {here place : Nat} {fr : List (α × Nat)} (h : JI s rs own (here + 1) (place + 1) fr) (hl : ∀ p ∈ rs, p.2 < 2 ^ s) (e : (rs[here]'(h.hh)).1 ≠ own[place]'(h.hp)) :
    JI s rs own here (place + 1) (rs[here]'(h.hh) :: fr) := by
  have h1 : here < rs.length := h.hh
  have h2 : place < own.length := h.hp
  have hm := hl _ (List.getElem_mem h1)
  refine ⟨Nat.le_of_lt h1, h.hp, fun i hi => ?_, ?_, fun p hp => ?_, fun p hp => ?_, fun ha => ?_, fun z => absurd h1 (by rw [z]; simp)⟩
  · rw [selB_cons, List.drop_eq_getElem_cons h1, selB_cons, h.old i hi]
  · rw [selB_cons, h.new, Nat.testBit_lt_two_pow hm]
    simp
  · rcases List.mem_cons.mp hp with z | z
    · subst z
      exact lt_succ hm
    · exact h.lt p z
  · rcases List.mem_cons.mp hp with z | z
    · subst z
      exact .inr (List.mem_map.mpr ⟨_, List.getElem_mem h1, rfl⟩)
    · exact h.mem p z
  · obtain ⟨a, b⟩ := h.alike ha
    have a : here = place := by omega
    subst a
    exact absurd (by subst ha; simp) e
theorem JI.new1 {s : Nat} {rs : List (α × Nat)} {own : List α} {here place : Nat} {fr : List (α × Nat)} (h : JI s rs own (here + 1) (place + 1) fr) (e : (rs[here]'(h.hh)).1 ≠ own[place]'(h.hp)) :
    JI s rs own (here + 1) place ((own[place]'(h.hp), 2 ^ s) :: fr) := by
  have h1 : here < rs.length := h.hh
  have h2 : place < own.length := h.hp
  refine ⟨h.hh, Nat.le_of_lt h2, fun i hi => ?_, ?_, fun p hp => ?_, fun p hp => ?_, fun ha => ?_, fun z => absurd h1 (by rw [z]; simp)⟩
  · rw [selB_cons, Nat.testBit_two_pow, h.old i hi]
    have : ¬ s = i := by omega
    simp [this]
  · rw [selB_cons, h.new, List.drop_eq_getElem_cons h2, Nat.testBit_two_pow]
    simp
  · rcases List.mem_cons.mp hp with z | z
    · subst z
      exact Nat.pow_lt_pow_right (by decide) (Nat.lt_succ_self _)
    · exact h.lt p z
  · rcases List.mem_cons.mp hp with z | z
    · subst z
      exact .inl (List.getElem_mem h2)
    · exact h.mem p z
  · obtain ⟨a, b⟩ := h.alike ha
    have a : here = place := by omega
    subst a
    exact absurd (by subst ha; simp) e
/-- the whole of one more text -/
structure JD (s : Nat) (rs : List (α × Nat)) (own : List α) (res : List (α × Nat)) : Prop where
  old : ∀ i, i < s → selB i res = selB i rs
  new : selB s res = own
  lt : ∀ p ∈ res, p.2 < 2 ^ (s + 1)
  mem : ∀ p ∈ res, p.1 ∈ own ∨ p.1 ∈ rs.map (·.1)
  alike : rs.map (·.1) = own → res = rs.map fun p => (p.1, p.2 ||| 2 ^ s)
  first : rs = [] → res = own.map fun x => (x, 2 ^ s)
  len : res.length ≤ rs.length + own.length
theorem JI.done {s : Nat} {rs : List (α × Nat)} {own : List α} {here place : Nat} {fr : List (α × Nat)} (h : JI s rs own here place fr) (hl : ∀ p ∈ rs, p.2 < 2 ^ s) (h0 : here = 0 ∨ place = 0) (hn : fr.length + here + place ≤ rs.length + own.length) :
    JD s rs own (rs.take here ++ (own.take place).map (fun x => (x, 2 ^ s)) ++ fr) := by
  refine ⟨fun i hi => ?_, ?_, fun p hp => ?_, fun p hp => ?_, fun ha => ?_, fun hr => ?_, ?_⟩
  · rw [selB_append, selB_append, selB_new, if_neg (by omega), List.append_nil, h.old i hi, ← selB_append, List.take_append_drop]
  · rw [selB_append, selB_append, selB_new, if_pos rfl, h.new, selB_none (fun p hp => Nat.testBit_lt_two_pow (hl p (List.mem_of_mem_take hp))), List.nil_append, List.take_append_drop]
  · rcases List.mem_append.mp hp with z | z
    · rcases List.mem_append.mp z with z | z
      · exact lt_succ (hl p (List.mem_of_mem_take z))
      · obtain ⟨x, _, rfl⟩ := List.mem_map.mp z
        exact Nat.pow_lt_pow_right (by decide) (Nat.lt_succ_self _)
    · exact h.lt p z
  · rcases List.mem_append.mp hp with z | z
    · rcases List.mem_append.mp z with z | z
      · exact .inr (List.mem_map.mpr ⟨p, List.mem_of_mem_take z, rfl⟩)
      · obtain ⟨x, hx, rfl⟩ := List.mem_map.mp z
        exact .inl (List.mem_of_mem_take hx)
    · exact h.mem p z
  · obtain ⟨a, b⟩ := h.alike ha
    have hz : here = 0 ∧ place = 0 := by omega
    obtain ⟨rfl, rfl⟩ := hz
    rw [b]; simp
  · subst hr
    obtain ⟨rfl, rfl⟩ := h.emp rfl
    simp
  · rw [List.length_append, List.length_append, List.length_map, List.length_take, List.length_take]
    have := h.hh; have := h.hp
    omega
/-- all texts so far -/
structure JF (xs : List (List α)) (rs : List (α × Nat)) : Prop where
  sel : ∀ i (h : i < xs.length), selB i rs = xs[i]
  lt : ∀ p ∈ rs, p.2 < 2 ^ xs.length
  mem : ∀ p ∈ rs, ∃ x ∈ xs, p.1 ∈ x
  alike : ∀ R, (∀ x ∈ xs, x = R) → xs ≠ [] → rs = R.map fun r => (r, 2 ^ xs.length - 1)
  len : rs.length ≤ (xs.map List.length).sum
theorem JF.nil : JF ([] : List (List α)) [] := ⟨fun i h => by simp at h, by simp, by simp, fun R _ h => absurd rfl h, by simp⟩
theorem full_or (k : Nat) : (2 ^ k - 1) ||| 2 ^ k = 2 ^ (k + 1) - 1 := by
  refine Nat.eq_of_testBit_eq fun i => ?_
  rw [Nat.testBit_or, Nat.testBit_two_pow_sub_one, Nat.testBit_two_pow_sub_one, Nat.testBit_two_pow]
  by_cases h : i < k
  · have : i < k + 1 := by omega
    simp [h, this]
  · by_cases h2 : k = i
    · subst h2; simp
    · have : ¬ i < k + 1 := by omega
      simp [h, h2, this]
theorem JF.step {xs : List (List α)} {rs res : List (α × Nat)} {x : List α} (h : JF xs rs) (d : JD xs.length rs x res) : JF (xs ++ [x]) res := by
  refine ⟨fun i hi => ?_, fun p hp => ?_, fun p hp => ?_, fun R hR _ => ?_, ?_⟩
  · by_cases hl : i < xs.length
    · rw [d.old i hl, h.sel i hl, List.getElem_append_left hl]
    · rw [List.length_append, List.length_singleton] at hi
      have e : i = xs.length := by omega
      subst e
      rw [d.new]; simp
  · rw [List.length_append, List.length_singleton]; exact d.lt p hp
  · rcases d.mem p hp with z | z
    · exact ⟨x, by simp, z⟩
    · obtain ⟨q, hq, e⟩ := List.mem_map.mp z
      obtain ⟨y, hy, hm⟩ := h.mem q hq
      exact ⟨y, List.mem_append_left _ hy, by rw [← e]; exact hm⟩
  · have hx : x = R := hR x (by simp)
    cases xs with
    | nil =>
      have hr : rs = [] := by
        have := h.len
        simpa using this
      rw [d.first hr, hx]; rfl
    | cons y ys =>
      have hrs := h.alike R (fun z hz => hR z (List.mem_append_left _ hz)) (by simp)
      have hm : rs.map (·.1) = x := by rw [hrs, hx]; simp [Function.comp_def]
      rw [d.alike hm]
      conv => lhs; rw [hrs]
      rw [List.map_map, List.length_append, List.length_singleton]
      refine List.map_congr_left fun r _ => ?_
      show (r, (2 ^ (y :: ys).length - 1) ||| 2 ^ (y :: ys).length) = _
      rw [full_or]
  · have := d.len
    have := h.len
    simp only [List.map_append, List.sum_append, List.map_cons, List.map_nil, List.sum_cons, List.sum_nil]
    omega
theorem len_le_sum {f : α → Nat} {l : List α} {x : α} (h : x ∈ l) : f x ≤ (l.map f).sum := by
  induction l with
  | nil => simp at h
  | cons y r ih =>
    rw [List.map_cons, List.sum_cons]
    rcases List.mem_cons.mp h with z | z
    · subst z; omega
    · have := ih z; omega
theorem sum_take_le {f : α → Nat} (l : List α) (i : Nat) : ((l.take i).map f).sum ≤ (l.map f).sum := by
  conv => rhs; rw [← List.take_append_drop i l]
  rw [List.map_append, List.sum_append]; omega
end
end Mm

set_option linter.all false
namespace Mm
section
variable {α : Type} [DecidableEq α]
noncomputable def pmax (i j : Int) : Int := if i < j then j else i
/-- one row of the table, its first j + 1 numbers -/
noncomputable def mrow (above : List Int) (a : α) (bs : List α) : Nat → List Int
  | 0 => [0]
  | j + 1 => mrow above a bs j ++ [if bs[j]? = some a then above.getD j 0 + 1 else pmax (above.getD (j + 1) 0) ((mrow above a bs j).getLastD 0)]
theorem mrow_len (above : List Int) (a : α) (bs : List α) : ∀ j, (mrow above a bs j).length = j + 1
  | 0 => rfl
  | j + 1 => by rw [mrow, List.length_append, mrow_len above a bs j]; rfl
noncomputable def mtab (as bs : List α) : Nat → List (List Int)
  | 0 => [List.replicate (bs.length + 1) 0]
  | i + 1 => mtab as bs i ++ [match as[i]? with | some a => mrow ((mtab as bs i).getLastD []) a bs bs.length | none => []]
theorem mtab_succ {as bs : List α} {i : Nat} (h : i < as.length) : mtab as bs (i + 1) = mtab as bs i ++ [mrow ((mtab as bs i).getLastD []) as[i] bs bs.length] := by
  rw [mtab, List.getElem?_eq_getElem h]
theorem mtab_len (as bs : List α) : ∀ i, (mtab as bs i).length = i + 1
  | 0 => rfl
  | i + 1 => by rw [mtab, List.length_append, mtab_len as bs i]; rfl
theorem mtab_row {as bs : List α} : ∀ i, i ≤ as.length → ∀ xs ∈ mtab as bs i, xs.length = bs.length + 1
  | 0, _ => fun xs h => by
    have : xs = List.replicate (bs.length + 1) 0 := by simpa [mtab] using h
    rw [this]; simp
  | i + 1, hi => fun xs h => by
    rw [mtab_succ hi] at h
    rcases List.mem_append.mp h with z | z
    · exact mtab_row i (by omega) xs z
    · rw [List.mem_singleton.mp z, mrow_len]
noncomputable def tabAt (tab : List (List Int)) (i j : Nat) : Int := (tab.getD i []).getD j 0
noncomputable def btk (s : Nat) (rs : List (α × Nat)) (os : List α) (tab : List (List Int)) (here place : Nat) (fr : List (α × Nat)) : List (α × Nat) :=
  if h : 0 < here ∧ 0 < place then
    match rs[here - 1]?, os[place - 1]? with
    | some p, some o =>
      if p.1 = o then btk s rs os tab (here - 1) (place - 1) ((o, p.2 ||| 2 ^ s) :: fr)
      else if tabAt tab here (place - 1) < tabAt tab (here - 1) place then btk s rs os tab (here - 1) place (p :: fr)
      else btk s rs os tab here (place - 1) ((o, 2 ^ s) :: fr)
    | _, _ => []
  else rs.take here ++ (os.take place).map (fun x => (x, 2 ^ s)) ++ fr
termination_by here + place
decreasing_by all_goals omega
theorem btk_end {s : Nat} {rs : List (α × Nat)} {os : List α} {tab : List (List Int)} {here place : Nat} {fr : List (α × Nat)} (h : here = 0 ∨ place = 0) : btk s rs os tab here place fr = rs.take here ++ (os.take place).map (fun x => (x, 2 ^ s)) ++ fr := by
  rw [btk, dif_neg (by omega)]
theorem btk_eq {s : Nat} {rs : List (α × Nat)} {os : List α} {tab : List (List Int)} {he pl : Nat} {fr : List (α × Nat)} (h1 : he < rs.length) (h2 : pl < os.length) (e : rs[he].1 = os[pl]) : btk s rs os tab (he + 1) (pl + 1) fr = btk s rs os tab he pl ((os[pl], rs[he].2 ||| 2 ^ s) :: fr) := by
  rw [btk, dif_pos (by omega)]
  simp only [Nat.add_sub_cancel, List.getElem?_eq_getElem h1, List.getElem?_eq_getElem h2]
  rw [if_pos e]
theorem btk_old {s : Nat} {rs : List (α × Nat)} {os : List α} {tab : List (List Int)} {he pl : Nat} {fr : List (α × Nat)} (h1 : he < rs.length) (h2 : pl < os.length) (e : rs[he].1 ≠ os[pl]) (ht : tabAt tab (he + 1) pl < tabAt tab he (pl + 1)) : btk s rs os tab (he + 1) (pl + 1) fr = btk s rs os tab he (pl + 1) (rs[he] :: fr) := by
  rw [btk, dif_pos (by omega)]
  simp only [Nat.add_sub_cancel, List.getElem?_eq_getElem h1, List.getElem?_eq_getElem h2]
  rw [if_neg e, if_pos ht]
theorem btk_new {s : Nat} {rs : List (α × Nat)} {os : List α} {tab : List (List Int)} {he pl : Nat} {fr : List (α × Nat)} (h1 : he < rs.length) (h2 : pl < os.length) (e : rs[he].1 ≠ os[pl]) (ht : ¬ tabAt tab (he + 1) pl < tabAt tab he (pl + 1)) : btk s rs os tab (he + 1) (pl + 1) fr = btk s rs os tab (he + 1) pl ((os[pl], 2 ^ s) :: fr) := by
  rw [btk, dif_pos (by omega)]
  simp only [Nat.add_sub_cancel, List.getElem?_eq_getElem h1, List.getElem?_eq_getElem h2]
  rw [if_neg e, if_neg ht]
/-- one more text put in -/
noncomputable def ptgR (s : Nat) (rs : List (α × Nat)) (os : List α) : List (α × Nat) := btk s rs os (mtab (rs.map (·.1)) os rs.length) rs.length os.length []
/-- all texts put together -/
noncomputable def jnR (xs : List (List α)) : Nat → List (α × Nat)
  | 0 => []
  | i + 1 => ptgR i (jnR xs i) (xs.getD i [])
end
end Mm

-- CHANGE: your row's module here, as the last of these rows
set_option Elab.async false
set_option linter.all false
set_option maxRecDepth 100000
/-! THE HAND LAYER, for ints, bools, texts, own classes, LISTS and tuples (index, slices, in, append, pop ..), calls, loops. Paste it whole ahead of your own text; what your proof does not reach may be deleted. -/
namespace L2
open PySem PySem.Spec PyProof.Rows

/-- a key: an int or a str -/
noncomputable abbrev Key := Sum Int Str
noncomputable def keyIs : Key → Value → Bool
  | .inl k, v => Value.isInt k v
  | .inr x, v => Value.isStrOf x v
noncomputable def keyH (w : World) : Key → Int
  | .inl k => hashInt k
  | .inr x => hashStr w x
theorem keyIs_shape : ∀ {k : Key} {v : Value}, keyIs k v = true → (∃ i t, k = Sum.inl i ∧ v = Value.int i t) ∨ (∃ x t, k = Sum.inr x ∧ v = Value.str x t)
  | .inl i, v, h => by
    obtain ⟨t, e⟩ := Value.isInt_shape (k := i) (v := v) h
    exact .inl ⟨i, t, rfl, e⟩
  | .inr x, v, h => by
    obtain ⟨t, e⟩ := Value.isStrOf_shape (x := x) (v := v) h
    exact .inr ⟨x, t, rfl, e⟩
theorem keyIs_int (i : Int) (t : Tok) : keyIs (.inl i) (.int i t) = true := by simp [keyIs, Value.isInt]
theorem keyIs_str (x : Str) (t : Tok) : keyIs (.inr x) (.str x t) = true := by simp [keyIs, Value.isStrOf]
theorem key_ll (a b : Int) : decide ((Sum.inl a : Key) = Sum.inl b) = (a == b) := by
  by_cases e : a = b
  · subst e; simp
  · have h : ¬ (Sum.inl a : Key) = Sum.inl b := fun q => e (Sum.inl.inj q)
    rw [decide_eq_false h]
    exact (beq_eq_false_iff_ne.mpr e).symm
theorem key_rr (a b : Str) : decide ((Sum.inr a : Key) = Sum.inr b) = decide (a = b) := by
  by_cases e : a = b
  · subst e; simp
  · have h : ¬ (Sum.inr a : Key) = Sum.inr b := fun q => e (Sum.inr.inj q)
    rw [decide_eq_false h, decide_eq_false e]
theorem key_lr (a : Int) (b : Str) : decide ((Sum.inl a : Key) = Sum.inr b) = false := decide_eq_false (fun q => nomatch q)
theorem key_rl (a : Str) (b : Int) : decide ((Sum.inr a : Key) = Sum.inl b) = false := decide_eq_false (fun q => nomatch q)

noncomputable def mixKind (prog : Program) (w : World) : PySem.KeyKind prog w Key where
  is := keyIs
  hash := keyH w
  inj := fun v a b ha hb => by
    rcases keyIs_shape ha with ⟨i, t, rfl, rfl⟩ | ⟨x, t, rfl, rfl⟩
    · rcases keyIs_shape hb with ⟨j, u, rfl, e⟩ | ⟨y, u, rfl, e⟩
      · injection e with e1 _; rw [e1]
      · exact nomatch e
    · rcases keyIs_shape hb with ⟨j, u, rfl, e⟩ | ⟨y, u, rfl, e⟩
      · exact nomatch e
      · injection e with e1 _; rw [e1]
  byValue := fun k v h => by
    rcases keyIs_shape h with ⟨i, t, rfl, rfl⟩ | ⟨x, t, rfl, rfl⟩ <;> rfl
  pyHash := fun hv h => by
    rcases keyIs_shape hv with ⟨i, t, rfl, rfl⟩ | ⟨x, t, rfl, rfl⟩
    · exact wpAny_pyHash_int h
    · exact wpAny_pyHash_str h
  eqBool := fun hu hv h => by
    rcases keyIs_shape hu with ⟨i, t, rfl, rfl⟩ | ⟨x, t, rfl, rfl⟩
    · rcases keyIs_shape hv with ⟨j, u, rfl, rfl⟩ | ⟨y, u, rfl, rfl⟩
      · rw [key_ll] at h; exact wpAny_eqBool_int h
      · rw [key_lr] at h; exact SeqAt.EqAt.int_str i t y u _ _ _ _ h
    · rcases keyIs_shape hv with ⟨j, u, rfl, rfl⟩ | ⟨y, u, rfl, rfl⟩
      · rw [key_rl] at h; exact SeqAt.EqAt.str_int x t j u _ _ _ _ h
      · rw [key_rr] at h; exact wpAny_eqBool_str h
  «strs» := fun k x t v h => by
    rcases keyIs_shape h with ⟨i, u, rfl, e⟩ | ⟨y, u, rfl, e⟩
    · exact nomatch e
    · injection e with e1 _
      subst e1
      cases v <;> rfl

theorem mixKind_int (prog : Program) (w : World) (i : Int) (t : Tok) : (mixKind prog w).is (.inl i) (.int i t) = true := keyIs_int i t
theorem mixKind_str (prog : Program) (w : World) (x : Str) (t : Tok) : (mixKind prog w).is (.inr x) (.str x t) = true := keyIs_str x t
end L2

namespace L2
open PySem PySem.Spec PyProof.Rows

/-- a value, without the heap -/
inductive V where
  | non | bl (b : Bool) | int (i : Int) | str (x : Str) | byt (b : Array UInt8) | flt (b : UInt64) | ref (a : Addr) | ty (n : String)
  deriving DecidableEq

noncomputable def RelV : V → Value → Prop
  | .non, u => u = Value.none
  | .bl b, u => u = Value.bool b
  | .int i, u => ∃ t, u = Value.int i t
  | .str x, u => ∃ t, u = Value.str x t
  | .byt b, u => ∃ t, u = Value.bytes b t
  | .flt b, u => ∃ t, u = Value.float b t
  | .ref a, u => u = Value.ref a
  | .ty n, u => u = Value.type n

noncomputable abbrev Vals : List V → List Value → Prop := Paired RelV
theorem Vals.length {xs : List V} {us : List Value} (r : Vals xs us) : xs.length = us.length := Paired.length r
theorem Vals.get : ∀ {xs : List V} {us : List Value} {i : Nat} {x : V}, Vals xs us → xs[i]? = some x → ∃ u, us[i]? = some u ∧ RelV x u
  | _, _, _, _, .nil, e => by simp at e
  | _, _, 0, _, .cons r _, e => by simp at e; subst e; exact ⟨_, rfl, r⟩
  | _, _, i + 1, x, .cons _ t, e => by
    obtain ⟨u, h1, h2⟩ := Vals.get (i := i) (x := x) t (by simpa using e)
    exact ⟨u, by simpa using h1, h2⟩
theorem Vals.set {x : V} {u : Value} (r : RelV x u) : ∀ {xs : List V} {us : List Value} (i : Nat), Vals xs us → Vals (xs.set i x) (us.set i u)
  | _, _, _, .nil => .nil
  | _, _, 0, .cons _ t => .cons r t
  | _, _, i + 1, .cons q t => .cons q (Vals.set r i t)
theorem Vals.append : ∀ {xs ys : List V} {us ws : List Value}, Vals xs us → Vals ys ws → Vals (xs ++ ys) (us ++ ws)
  | _, _, _, _, .nil, s => s
  | _, _, _, _, .cons r t, s => .cons r (Vals.append t s)
theorem Vals.take : ∀ {xs : List V} {us : List Value} (n : Nat), Vals xs us → Vals (xs.take n) (us.take n)
  | _, _, 0, _ => .nil
  | _, _, _ + 1, .nil => .nil
  | _, _, n + 1, .cons r t => .cons r (Vals.take n t)
theorem Vals.drop : ∀ {xs : List V} {us : List Value} (n : Nat), Vals xs us → Vals (xs.drop n) (us.drop n)
  | _, _, 0, r => r
  | _, _, _ + 1, .nil => .nil
  | _, _, n + 1, .cons _ t => Vals.drop n t
theorem Vals.none_of : ∀ {xs : List V} {us : List Value} {i : Nat}, Vals xs us → xs[i]? = none → us[i]? = none := fun {xs us i} r e => by
  have h1 := r.length
  have h2 : xs.length ≤ i := List.getElem?_eq_none_iff.mp e
  exact List.getElem?_eq_none_iff.mpr (by omega)

noncomputable def RelO : Option V → Option Value → Prop
  | some v, some u => RelV v u
  | none, none => True
  | _, _ => False
noncomputable def KV {κ : Type} : List (κ × V) → List (κ × Value) → Prop := Paired fun (p : κ × V) (q : κ × Value) => p.1 = q.1 ∧ RelV p.2 q.2

/-- a key of a dict (00_mix): an int or a text -/
noncomputable def kV : Key → V
  | .inl i => .int i
  | .inr x => .str x

/-- what stands at a tracked address -/
inductive HO where
  /-- a list -/
  | lst (xs : List V)
  /-- a tuple (never changes) -/
  | tup (xs : List V)
  /-- a dict whose keys are ints and texts; one whose keys are tuples of ints and texts (the empty one is both) -/
  | dK (kvs : List (Key × V)) | dT (kvs : List (List Key × V))
  /-- a set of ints: its members, its size -/
  | set (S : Int → Bool) (n : Nat)
  /-- an instance of the class at C, its dict at dx, its attributes -/
  | ins (C dx : Addr) (fs : List (Str × V))
  /-- the dict of the instance at x -/
  | own (x : Addr)
  /-- the dict of an exception -/
  | xd (fs : List (Str × V))
  /-- a bound method, f of x -/
  | met (f x : Addr)
  /-- a range object lo, lo + 1, .. below hi -/
  | rng (lo hi : Int)
  /-- a thing that is known to the object (the script; a dict while a loop walks it): read, never written while it is so -/
  | frz (o : Obj) (u : HO)
  /-- a code object's table -/
  | tbl (ps : Array Value)
  /-- any other thing, by what is true of its one object (a def of one's own: SetO a S n := HO.ext fun h => ..) -/
  | ext (φ : Heap → Prop)

noncomputable abbrev Hp := Addr → Option HO
noncomputable def upd (H : Hp) (a : Addr) (o : HO) : Hp := fun b => if b = a then some o else H b
theorem upd_same {H : Hp} {a : Addr} {o : HO} : upd H a o a = some o := by unfold upd; rw [if_pos rfl]
theorem upd_ne {H : Hp} {a b : Addr} {o : HO} (h : b ≠ a) : upd H a o b = H b := by unfold upd; rw [if_neg h]
theorem upd_upd {H : Hp} {a : Addr} {o u : HO} : upd (upd H a o) a u = upd H a u := by
  funext b; unfold upd; split <;> rfl
/-- two objects of different content stand apart -/
theorem ne_of {H : Hp} {a b : Addr} {o u : HO} (h : H a = some o) (h' : H b = some u) (d : o ≠ u) : a ≠ b := by
  intro e; subst e; rw [h] at h'; exact d (Option.some.inj h')
theorem ne_of_none {H : Hp} {a b : Addr} {o : HO} (h : H a = some o) (h' : H b = none) : a ≠ b := by
  intro e; subst e; rw [h] at h'; cases h'

section
variable (P : Program) (w : World)
noncomputable def ObjOk (H : Hp) (h : Heap) (a : Addr) : HO → Prop
  | .lst xs => xs.length ≤ sizeLine ∧ ∃ (its : List Value) (n : Nat), Vals xs its ∧ h.get? a = some { cls := .type "list", data := .seq its.toArray n }
  | .tup xs => xs.length ≤ sizeLine ∧ ∃ its : List Value, Vals xs its ∧ IsTup h a its.toArray
  | .dK kvs => kvs.length ≤ sizeLine ∧ (a == sysModules) = false ∧ ∃ vs, KV kvs vs ∧ h.DictOf (mixKind P w) a vs
  | .dT kvs => kvs.length ≤ sizeLine ∧ (a == sysModules) = false ∧ ∃ xs : List (List Key × Addr × Value),
      Paired (fun (p : List Key × V) (q : List Key × Addr × Value) => p.1 = q.1 ∧ H q.2.1 = some (.tup (p.1.map kV)) ∧ RelV p.2 q.2.2) kvs xs ∧
      ∃ o es ep, h.get? a = some o ∧ o.ExactDict ∧ o.data = .dict es ep ∧ es.toList = xs.map (entryOfKey (tupleKind (mixKind P w))) ∧ (xs.map (·.1)).Nodup
  | .set S n => h.SetOf (intKind P w) a S n
  | .ins C dx fs => H dx = some (.own a) ∧ fs.length ≤ 1000 ∧ dx ≠ a ∧ h.get? a = some (PySem.W.instObj C dx) ∧
      ∃ mA, h.Ns1 dx mA ∧ (∀ f, RelO (fs.lookup f) (mA f)) ∧ PySem.Within mA (fs.map (·.1))
  | .own _ => ∃ o, h.get? a = some o
  | .xd fs => ∃ mA, h.Ns1 a mA ∧ ∀ f, RelO (fs.lookup f) (mA f)
  | .rng lo hi => ∃ t u v, h.get? a = some { cls := .type "range", data := .fields #[.int lo t, .int hi u, .int 1 v] }
  | .frz o u => h.get? a = some o ∧ ObjOk H h a u
  | .tbl ps => h.get? a = some { cls := .none, data := .fields ps }
  | .met f x => h.get? a = some (PySem.W.methodObj (.ref f) (.ref x))
  | .ext φ => φ h ∧ (∃ o, h.get? a = some o) ∧ ∀ h1 h2 : Heap, φ h1 → (∀ o, h1.get? a = some o → h2.get? a = some o) → φ h2
/-- the abstract heap is held -/
noncomputable def HOk (H : Hp) (h : Heap) : Prop := ∀ a o, H a = some o → ObjOk P w H h a o
end

section
variable {P : Program} {w : World} {H H' : Hp} {h h' : Heap} {a : Addr} {o : HO}
theorem ObjOk.lt (x : ObjOk P w H h a o) : a < h.objs.size := by
  cases o with
  | lst xs => obtain ⟨_, _, _, _, e⟩ := x; exact Heap.lt_size e
  | tup xs => obtain ⟨_, _, _, p⟩ := x; exact p.lt
  | dK kvs => obtain ⟨_, _, _, _, o, _, _, e, _⟩ := x; exact Heap.lt_size e
  | dT kvs => obtain ⟨_, _, _, _, o, _, _, e, _⟩ := x; exact Heap.lt_size e
  | set S n => obtain ⟨o, _, _, _, e, _⟩ := x; exact Heap.lt_size e
  | ins C dx fs => obtain ⟨_, _, _, e, _⟩ := x; exact Heap.lt_size e
  | own y => obtain ⟨_, e⟩ := x; exact Heap.lt_size e
  | xd fs => obtain ⟨_, ⟨_, _, _, e, _⟩, _⟩ := x; exact Heap.lt_size e
  | rng lo hi => obtain ⟨_, _, _, e⟩ := x; exact Heap.lt_size e
  | frz ob u => obtain ⟨e, _⟩ := x; exact Heap.lt_size e
  | tbl ps => exact Heap.lt_size (show h.get? a = some _ from x)
  | met f y => exact Heap.lt_size (show h.get? a = some _ from x)
  | ext φ => obtain ⟨_, ⟨_, e⟩, _⟩ := x; exact Heap.lt_size e
theorem Paired.mapP {α β : Type} {F G : α → β → Prop} : ∀ {l₁ : List α} {l₂ : List β}, Paired F l₁ l₂ → (∀ a b, F a b → G a b) → Paired G l₁ l₂
  | _, _, .nil, _ => .nil
  | _, _, .cons r t, f => .cons (f _ _ r) (Paired.mapP t f)
/-- what an object's description leans on: its own object, its own dict, the tuples -/
theorem ObjOk.stay (x : ObjOk P w H h a o) (k : ∀ b u, (b = a ∨ H b = some (.own a)) → h.get? b = some u → h'.get? b = some u)
    (ho : ∀ b, H b = some (.own a) → H' b = some (.own a)) (ht : ∀ b xs, H b = some (.tup xs) → H' b = some (.tup xs)) : ObjOk P w H' h' a o := by
  induction o with
  | lst xs => obtain ⟨z, its, n, r, e⟩ := x; exact ⟨z, its, n, r, k _ _ (.inl rfl) e⟩
  | tup xs => obtain ⟨z, its, r, ob, e, c⟩ := x; exact ⟨z, its, r, ob, k _ _ (.inl rfl) e, c⟩
  | dK kvs => obtain ⟨z, y, vs, r, ob, es, ep, e, c⟩ := x; exact ⟨z, y, vs, r, ob, es, ep, k _ _ (.inl rfl) e, c⟩
  | dT kvs =>
    obtain ⟨z, y, xs, r, ob, es, ep, e, c⟩ := x
    exact ⟨z, y, xs, Paired.mapP r fun p q z => ⟨z.1, ht _ _ z.2.1, z.2.2⟩, ob, es, ep, k _ _ (.inl rfl) e, c⟩
  | set S n => obtain ⟨ob, es, ep, t, e, c⟩ := x; exact ⟨ob, es, ep, t, k _ _ (.inl rfl) e, c⟩
  | ins C dx fs =>
    obtain ⟨d, z, ne, e, mA, ⟨od, es, ep, e2, c⟩, r⟩ := x
    exact ⟨ho _ d, z, ne, k _ _ (.inl rfl) e, mA, ⟨od, es, ep, k _ _ (.inr d) e2, c⟩, r⟩
  | own y => obtain ⟨ob, e⟩ := x; exact ⟨ob, k _ _ (.inl rfl) e⟩
  | xd fs => obtain ⟨mA, ⟨od, es, ep, e, c⟩, r⟩ := x; exact ⟨mA, ⟨od, es, ep, k _ _ (.inl rfl) e, c⟩, r⟩
  | rng lo hi => obtain ⟨t, u, v, e⟩ := x; exact ⟨t, u, v, k _ _ (.inl rfl) e⟩
  | frz ob u ih => obtain ⟨e, q⟩ := x; exact ⟨k _ _ (.inl rfl) e, ih q⟩
  | tbl ps =>
    have e : h.get? a = some { cls := .none, data := .fields ps } := x
    show h'.get? a = some { cls := .none, data := .fields ps }
    exact k a _ (.inl rfl) e
  | met f y =>
    have e : h.get? a = some (PySem.W.methodObj (.ref f) (.ref y)) := x
    show h'.get? a = some (PySem.W.methodObj (.ref f) (.ref y))
    exact k a _ (.inl rfl) e
  | ext φ => obtain ⟨p, ⟨o, e⟩, st⟩ := x; exact ⟨st _ _ p fun o q => k _ _ (.inl rfl) q, ⟨o, k _ _ (.inl rfl) e⟩, st⟩
theorem HOk.lt (x : HOk P w H h) (e : H a = some o) : a < h.objs.size := (x a o e).lt
theorem HOk.fresh (x : HOk P w H h) (e : h.objs.size ≤ a) : H a = none := by
  cases q : H a with
  | none => rfl
  | some u => exact absurd (Nat.lt_of_lt_of_le (x.lt q) e) (Nat.lt_irrefl _)
/-- every object of the heap is kept -/
theorem HOk.kept (x : HOk P w H h) (k : ∀ b u, h.get? b = some u → h'.get? b = some u) : HOk P w H h' := fun a o e =>
  (x a o e).stay (fun b u _ q => k b u q) (fun _ q => q) fun _ _ q => q
/-- a new object is laid and tracked -/
theorem HOk.laid (x : HOk P w H h) (k : ∀ b u, h.get? b = some u → h'.get? b = some u) (hp : h.objs.size ≤ a) (new : ObjOk P w (upd H a o) h' a o) : HOk P w (upd H a o) h' := fun b u e => by
  have hn := x.fresh hp
  by_cases hb : b = a
  · subst hb; rw [upd_same] at e; cases e; exact new
  · rw [upd_ne hb] at e
    exact (x b u e).stay (fun c v _ q => k c v q) (fun c q => by rw [upd_ne (ne_of_none q hn)]; exact q) fun c xs q => by rw [upd_ne (ne_of_none q hn)]; exact q
end

/-- what may be read as u: it is u, or a known u -/
noncomputable def Rd (H : Hp) (a : Addr) (u : HO) : Prop := H a = some u ∨ ∃ o, H a = some (.frz o u)
theorem Rd.of {H : Hp} {a : Addr} {u : HO} (h : H a = some u) : Rd H a u := .inl h
theorem Rd.ok {P : Program} {w : World} {H : Hp} {h : Heap} {a : Addr} {u : HO} (r : Rd H a u) (x : HOk P w H h) : ObjOk P w H h a u := by
  rcases r with r | ⟨o, r⟩
  · exact x a u r
  · obtain ⟨_, q⟩ := x a _ r
    exact q
/-- what may be written -/
noncomputable def Mut : Option HO → Prop
  | some (.lst _) => True
  | some (.dK _) => True
  | some (.dT _) => True
  | some (.set _ _) => True
  | some (.ins _ _ _) => True
  | some (.ext _) => True
  | _ => False
section
variable {P : Program} {w : World} {H : Hp} {h h' : Heap} {x e : Addr} {o' : HO}
/-- the object at e is changed: x itself, or the dict of the instance x -/
theorem HOk.write (ok : HOk P w H h) (mu : Mut (H x)) (he : e = x ∨ H e = some (.own x)) (k : ∀ b u, b ≠ e → h.get? b = some u → h'.get? b = some u) (heo : ∃ u, h'.get? e = some u)
    (new : ObjOk P w (upd H x o') h' x o') : HOk P w (upd H x o') h' := fun b u q => by
  have nown : ∀ c y, H c = some (.own y) → c ≠ x := fun c y r z => by subst z; rw [r] at mu; exact mu
  have ntup : ∀ c xs, H c = some (.tup xs) → c ≠ x := fun c xs r z => by subst z; rw [r] at mu; exact mu
  by_cases hb : b = x
  · subst hb; rw [upd_same] at q; cases q; exact new
  · rw [upd_ne hb] at q
    by_cases hbe : b = e
    · have q' : H b = some (.own x) := by
        rcases he with z | z
        · exact absurd (hbe.trans z) hb
        · rw [hbe]; exact z
      rw [q] at q'; cases q'
      obtain ⟨v, hv⟩ := heo
      exact ⟨v, by rw [hbe]; exact hv⟩
    · refine (ok b u q).stay (fun c v hc r => k c v ?_ r) (fun c r => by rw [upd_ne (nown c b r)]; exact r) fun c xs r => by rw [upd_ne (ntup c xs r)]; exact r
      rcases hc with rfl | hc
      · exact hbe
      · rintro rfl
        rcases he with z | z
        · exact nown c b hc z
        · rw [hc] at z; cases z; exact hb rfl
end

/-! ### kept unless tracked; of the frames at fs (the callers') the slots may change (an exception that passes writes there); of the records at ex (iterators) nothing is said -/
structure Un (fs ex : List Addr) (H H' : Hp) (h h' : Heap) : Prop where
  keep : ∀ b o, h.get? b = some o → H b = none → b ∉ fs → b ∉ ex → h'.get? b = some o
  slot : ∀ b o, h.get? b = some o → H b = none → b ∈ fs → b ∉ ex → ∃ sl, h'.get? b = some { o with slots := sl }
  free : ∀ b o, h.get? b = some o → H b = none → b ∉ ex → H' b = none
  there : ∀ b o, h.get? b = some o → b ∉ ex → ∃ o', h'.get? b = some o'
  tups : ∀ b xs, H b = some (.tup xs) → H' b = some (.tup xs)
  frzs : ∀ b o u, H b = some (.frz o u) → H' b = some (.frz o u)
  tbls : ∀ b ps, H b = some (.tbl ps) → ∃ more, H' b = some (.tbl (ps ++ more))
section
variable {fs fs' ex ex' : List Addr} {H H1 H2 : Hp} {h h1 h2 h' : Heap} {a x e : Addr} {o : HO}
theorem Un.any (u : Un fs ex H H1 h h1) {b : Addr} {ob : Obj} (q : h.get? b = some ob) (n : H b = none) (hx : b ∉ ex) : ∃ sl, h1.get? b = some { ob with slots := sl } := by
  by_cases hb : b ∈ fs
  · exact u.slot b ob q n hb hx
  · exact ⟨ob.slots, u.keep b ob q n hb hx⟩
theorem Un.trans (a : Un fs ex H H1 h h1) (b : Un fs ex H1 H2 h1 h2) : Un fs ex H H2 h h2 where
  keep := fun c ob q n hc hx => b.keep c ob (a.keep c ob q n hc hx) (a.free c ob q n hx) hc hx
  slot := fun c ob q n hc hx => by
    obtain ⟨sl, e1⟩ := a.slot c ob q n hc hx
    obtain ⟨sl', e2⟩ := b.slot c _ e1 (a.free c ob q n hx) hc hx
    exact ⟨sl', e2⟩
  free := fun c ob q n hx => by
    obtain ⟨o', e1⟩ := a.there c ob q hx
    exact b.free c o' e1 (a.free c ob q n hx) hx
  there := fun c ob q hx => by
    obtain ⟨o', e1⟩ := a.there c ob q hx
    exact b.there c o' e1 hx
  tups := fun c xs q => b.tups c xs (a.tups c xs q)
  frzs := fun c ob xs q => b.frzs c ob xs (a.frzs c ob xs q)
  tbls := fun c ps q => by
    obtain ⟨m1, e1⟩ := a.tbls c ps q
    obtain ⟨m2, e2⟩ := b.tbls c _ e1
    exact ⟨m1 ++ m2, by rw [e2, Array.append_assoc]⟩
theorem Un.kept (k : ∀ b u, h.get? b = some u → h'.get? b = some u) : Un fs ex H H h h' :=
  ⟨fun b ob q _ _ _ => k b ob q, fun b ob q _ _ _ => ⟨ob.slots, k b ob q⟩, fun _ _ _ n _ => n, fun b ob q _ => ⟨ob, k b ob q⟩, fun _ _ q => q, fun _ _ _ q => q, fun _ ps q => ⟨#[], by rw [q]; simp⟩⟩
theorem Un.refl : Un fs ex H H h h := Un.kept fun _ _ q => q
theorem Un.laid (k : ∀ b u, h.get? b = some u → h'.get? b = some u) (hp : h.objs.size ≤ a) (hn : H a = none) : Un fs ex H (upd H a o) h h' where
  keep := fun b u q _ _ _ => k b u q
  slot := fun b u q _ _ _ => ⟨u.slots, k b u q⟩
  free := fun b u q n _ => by rw [upd_ne (Nat.ne_of_lt (Nat.lt_of_lt_of_le (Heap.lt_size q) hp))]; exact n
  there := fun b u q _ => ⟨u, k b u q⟩
  tups := fun b xs q => by rw [upd_ne (ne_of_none q hn)]; exact q
  frzs := fun b u xs q => by rw [upd_ne (ne_of_none q hn)]; exact q
  tbls := fun b ps q => ⟨#[], by rw [upd_ne (ne_of_none q hn), q]; simp⟩
theorem Un.write (mu : Mut (H x)) (he : e = x ∨ H e = some (.own x)) (k : ∀ b u, b ≠ e → h.get? b = some u → h'.get? b = some u) (heo : ∃ u, h'.get? e = some u) : Un fs ex H (upd H x o) h h' := by
  have hx : ∀ b, H b = none → b ≠ x := fun b n z => by subst z; rw [n] at mu; exact mu
  have hb : ∀ b, H b = none → b ≠ e := fun b n z => by
    subst z
    rcases he with r | r
    · exact hx b n r
    · rw [n] at r; cases r
  have hm : ∀ b u, H b = some u → ¬ Mut (some u) → b ≠ x := fun b u q nm z => by subst z; rw [q] at mu; exact nm mu
  refine ⟨fun b u q n _ _ => k b u (hb b n) q, fun b u q n _ _ => ⟨u.slots, k b u (hb b n) q⟩, fun b u q n _ => by rw [upd_ne (hx b n)]; exact n, fun b u q _ => ?_,
    fun b xs q => by rw [upd_ne (hm b _ q fun z => z)]; exact q, fun b u xs q => by rw [upd_ne (hm b _ q fun z => z)]; exact q, fun b ps q => ⟨#[], by rw [upd_ne (hm b _ q fun z => z), q]; simp⟩⟩
  by_cases hbe : b = e
  · subst hbe; exact heo
  · exact ⟨u, k b u hbe q⟩
theorem Un.mono (u : Un fs ex H H1 h h1) (hs : ∀ b ∈ fs, b ∈ fs') (hx : ∀ b ∈ ex, b ∈ ex') : Un fs' ex' H H1 h h1 :=
  ⟨fun b ob q n hb he => u.keep b ob q n (fun z => hb (hs b z)) fun z => he (hx b z), fun _ _ q n _ he => u.any q n fun z => he (hx _ z), fun b ob q n he => u.free b ob q n fun z => he (hx b z), fun b ob q he => u.there b ob q fun z => he (hx b z), u.tups, u.frzs, u.tbls⟩
end

/-! ### the heap without what is tracked -/
noncomputable def trk (h : Heap) (H : Hp) : List Addr := (List.range h.objs.size).filter fun a => (H a).isSome
noncomputable def hidT (h : Heap) (H : Hp) : Heap := PySem.W.hideAll h (trk h H)
theorem hidT_size (h : Heap) (H : Hp) : (hidT h H).objs.size = h.objs.size := PySem.W.hideAll_size _ _
theorem hidT_get {h : Heap} {H : Hp} {b : Addr} {o : Obj} (e : h.get? b = some o) (n : H b = none) : (hidT h H).get? b = some o :=
  PySem.W.hideAll_get _ e fun hm => by
    have q : (H b).isSome = true := (List.mem_filter.mp hm).2
    rw [n] at q; simp at q
theorem of_hidT {h : Heap} {H : Hp} {b : Addr} {o : Obj} (e : (hidT h H).get? b = some o) : h.get? b = some o ∧ H b = none := by
  have e' : h.get? b = some o := PySem.W.of_hideAll (trk h H) e
  refine ⟨e', ?_⟩
  cases q : H b with
  | none => rfl
  | some x =>
    have hm : b ∈ trk h H := List.mem_filter.mpr ⟨List.mem_range.mpr (Heap.lt_size e'), by simp [q]⟩
    have z : (hidT h H).get? b = none := PySem.W.hideAll_none (trk h H) hm
    rw [z] at e; cases e

/-! ### OpenK's ledger, filled with every new object but one -/
noncomputable def allNews (g h : Heap) (L : Addr) : List (Addr × Obj) := (List.range h.objs.size).filterMap fun a => if a = L ∨ (g.get? a).isSome = true then none else (h.get? a).map fun o => (a, o)
noncomputable def rest (g h : Heap) (L d : Addr) : List (Addr × Obj) := (allNews g h L).filter fun p => decide (p.1 ≠ d)
end L2

namespace L2
open PySem PySem.Spec PyProof.Rows

/-- the module's facts, over the base: the heap at the law's entry without what is tracked there -/
structure Mod (K : PySem.W.Frag) (mg : Str → Option Value) (base : Heap) : Prop where
  kin : K.In base
  glob : base.Ns mainGlobals mg
  blt : ∃ mb, base.Ns builtinsNs mb ∧ ∀ x : Str, x ≠ "__name__" → mb x = bootBuiltins x
  nolimit : base.NoLimit

/-- the context: a def's body (or a comprehension's block) running. base: fixed through the whole law; s₀, H₀: the entry; outer: the frames whose slots others may change (a def's callers); stack: all frames that run;
   ex: iterators that were made ahead of the entry and are walked here (a comprehension's); fn: the names whose cells were made at the entry (a def: all; a comprehension's block: its own); calm: not within an except suite; pn: pins that every state bears; xe: what is wanted of an exception that leaves the code -/
structure Cx where
  prog : Program
  w : World
  K : PySem.W.Frag
  mg : Str → Option Value
  base : Heap
  A : Around
  N : List Str
  s₀ : Shared
  H₀ : Hp
  env : Env
  outer : List Env
  stack : List Env
  ex : List Addr
  fn : Str → Bool
  calm : Bool
  pn : List (Addr × Obj)
  xe : Value → Shared → Prop
/-- the callers' frames -/
noncomputable def frs (l : List Env) : List Addr := l.filterMap (·.frame)
noncomputable abbrev Cx.fs (X : Cx) : List Addr := frs X.outer

noncomputable def Vis (sc : Scope) (x : Str) : Prop := sc.names.lookup x = some .local ∨ sc.names.lookup x = some .cell ∨ sc.names.lookup x = some .free
noncomputable def Loc (sc : Scope) (x : Str) : Prop := sc.names.lookup x = some .local ∨ sc.names.lookup x = some .cell
noncomputable def Look (env : Env) (h : Heap) (m : Str → Option Value) (x : Str) (u : Value) : Prop :=
  (env.kindOf x = some .local ∧ m x = some u) ∨ ((env.kindOf x = some .cell ∨ env.kindOf x = some .free) ∧ ∃ c, env.cells.lookup x = some c ∧ h.IsCell c (some u))

structure Cx.Ok (X : Cx) : Prop where
  mod : Mod X.K X.mg X.base
  kind : X.env.scope.kind = .function
  glob : X.env.globals = mainGlobals
  blt : X.env.builtins = builtinsNs
  above : X.s₀.heap.objs.size ≤ X.env.locals
  inj : ∀ x y c, X.env.cells.lookup x = some c → X.env.cells.lookup y = some c → x = y
  has : ∀ x, (X.env.kindOf x = some .cell ∨ X.env.kindOf x = some .free) → ∃ c, X.env.cells.lookup x = some c
  cab : ∀ x c, X.fn x = true → X.env.cells.lookup x = some c → X.s₀.heap.objs.size ≤ c
  hd : X.calm = true → X.A.handled = none
  frames : X.A.frames = some X.stack
  stk : X.stack = X.outer ∨ (X.stack = X.env :: X.outer ∧ X.env.frame = some X.env.locals)
  exf : ∀ b ∈ X.ex, b ≠ X.env.locals ∧ ∀ x c, X.env.cells.lookup x = some c → c ≠ b
  bs : ∀ b o, X.base.get? b = some o → X.s₀.heap.get? b = some o ∧ X.H₀ b = none
  bsz : X.base.objs.size ≤ X.s₀.heap.objs.size
  noex : ∀ b o, X.base.get? b = some o → b ∉ X.ex
  exfs : ∀ b ∈ X.ex, b ∉ X.fs
  funs : X.s₀.heap.FunFrames X.base X.outer
  frf : ∀ b ∈ X.fs, X.H₀ b = none

structure Inv (X : Cx) (pins : List (Addr × Obj)) (σ : List (Option V)) (H : Hp) (s : Shared) : Prop where
  ok : X.Ok
  os : s.os = X.s₀.os
  bare : AllBare s.gens
  base : Un X.fs X.ex X.H₀ H X.s₀.heap s.heap
  loc : ∃ m, s.heap.Ns X.env.locals m ∧ ∀ (i : Nat) (x : Str) (v : V), X.N[i]? = some x → σ[i]? = some (some v) → Vis X.env.scope x → ∃ u, RelV v u ∧ Look X.env s.heap m x u
  cell : ∀ x c, X.env.cells.lookup x = some c → ∃ v, s.heap.IsCell c v
  free : H X.env.locals = none
  freeC : ∀ x c, X.env.cells.lookup x = some c → H c = none
  pin : ∀ p ∈ X.pn ++ pins, s.heap.get? p.1 = some p.2 ∧ H p.1 = none ∧ p.1 ≠ X.env.locals ∧ p.1 ∉ X.fs ∧ ∀ v, p.2.data ≠ .cell v
  hok : HOk X.prog X.w H s.heap
  len : σ.length = X.N.length

section
variable {X : Cx} {pins : List (Addr × Obj)} {σ : List (Option V)} {H H' : Hp} {s : Shared} {h' : Heap}

theorem Cx.Ok.nofr (ok : X.Ok) {b : Addr} {o : Obj} (e : X.base.get? b = some o) : b ∉ X.fs := fun hb => by
  have := (ok.funs.mem hb).1
  rw [e] at this; cases this
theorem Inv.bs (I : Inv X pins σ H s) : ∀ b o, X.base.get? b = some o → s.heap.get? b = some o ∧ H b = none := fun b o e =>
  ⟨I.base.keep b o (I.ok.bs b o e).1 (I.ok.bs b o e).2 (I.ok.nofr e) (I.ok.noex b o e), I.base.free b o (I.ok.bs b o e).1 (I.ok.bs b o e).2 (I.ok.noex b o e)⟩
theorem Inv.bk (I : Inv X pins σ H s) : ∀ b o, X.base.get? b = some o → s.heap.get? b = some o := fun b o e => (I.bs b o e).1
theorem Inv.mod (I : Inv X pins σ H s) : Mod X.K X.mg X.base := I.ok.mod
theorem Inv.kIn (I : Inv X pins σ H s) : X.K.In s.heap := I.ok.mod.kin.keeps I.bk
theorem Inv.nolimit (I : Inv X pins σ H s) : s.heap.NoLimit := I.ok.mod.nolimit.keeps I.bk
/-- the frame over the base: for OpenK's rules (K.In X.base is I.mod.kin) -/
theorem Inv.fr (I : Inv X pins σ H s) : ∃ m, Fr X.base X.env.locals s.heap m :=
  let ⟨m, hn, _⟩ := I.loc
  ⟨m, hn, I.bk, Nat.le_trans I.ok.bsz I.ok.above⟩
theorem Inv.lt (I : Inv X pins σ H s) : X.env.locals < s.heap.objs.size := by obtain ⟨_, hn, _⟩ := I.loc; exact hn.lt
theorem Inv.sz (I : Inv X pins σ H s) : X.s₀.heap.objs.size ≤ s.heap.objs.size := Nat.le_trans I.ok.above (Nat.le_of_lt I.lt)
theorem Inv.nofs (I : Inv X pins σ H s) {a : Addr} (h : s.heap.objs.size ≤ a) : a ∉ X.fs := fun hb => by
  obtain ⟨_, o, ho, _⟩ := I.ok.funs.mem hb
  exact absurd (Nat.lt_of_lt_of_le (Heap.lt_size ho) (Nat.le_trans I.sz h)) (Nat.lt_irrefl _)
theorem Inv.cne (I : Inv X pins σ H s) : ∀ x c, X.env.cells.lookup x = some c → c ≠ X.env.locals := fun x c e z => by
  obtain ⟨v, o, ho, hd⟩ := I.cell x c e
  obtain ⟨m, ⟨o', es, ep, ho', hd', _⟩, _⟩ := I.loc
  rw [z, ho'] at ho; cases ho; rw [hd'] at hd; cases hd
theorem Inv.funs (I : Inv X pins σ H s) : s.heap.FunFrames X.base X.outer := by
  have all : ∀ (l : List Env), (∀ b ∈ frs l, b ∈ X.fs) → X.s₀.heap.FunFrames X.base l → s.heap.FunFrames X.base l := by
    intro l
    induction l with
    | nil => intro _ _; trivial
    | cons env r ih =>
      intro hs hl
      obtain ⟨hk, ⟨L, o, hf, hn, ho, hd⟩, hr⟩ := hl
      have hL : L ∈ X.fs := hs L (by unfold frs; rw [List.filterMap_cons, hf]; exact List.mem_cons_self)
      obtain ⟨sl, e⟩ := I.base.slot L o ho (I.ok.frf L hL) hL fun z => I.ok.exfs L z hL
      exact ⟨hk, ⟨L, _, hf, hn, e, hd⟩, ih (fun b hb => hs b (by unfold frs; rw [List.filterMap_cons, hf]; exact List.mem_cons_of_mem _ hb)) hr⟩
  exact all X.outer (fun _ hb => hb) I.ok.funs

/-- the frames that run, for a call -/
theorem Inv.stack (I : Inv X pins σ H s) : s.heap.FunFrames X.base X.stack := by
  rcases I.ok.stk with e | ⟨e, hf⟩
  · rw [e]; exact I.funs
  · rw [e]
    obtain ⟨m, hn, _⟩ := I.loc
    refine .cons (by rw [I.ok.kind]; decide) hf hn ?_ I.funs
    exact Heap.get?_none_of_le (Nat.le_trans I.ok.bsz I.ok.above)
theorem Inv.stkSub (I : Inv X pins σ H s) : ∀ b ∈ frs X.stack, b ∈ X.env.locals :: X.fs := fun b hb => by
  rcases I.ok.stk with e | ⟨e, hf⟩
  · rw [e] at hb; exact List.mem_cons_of_mem _ hb
  · rw [e] at hb
    unfold frs at hb
    rw [List.filterMap_cons, hf] at hb
    exact hb
theorem Inv.stkFree (I : Inv X pins σ H s) : ∀ b ∈ frs X.stack, H b = none := fun b hb => by
  rcases List.mem_cons.mp (I.stkSub b hb) with e | hb
  · rw [e]; exact I.free
  · obtain ⟨_, o, ho, _⟩ := I.ok.funs.mem hb
    exact I.base.free b o ho (I.ok.frf b hb) fun z => I.ok.exfs b z hb

/-- THE STEP: the untracked objects but the frame and the records at ch are kept (the callers' frames up to slots), the frame's map is kept, the new abstract heap is held -/
theorem Inv.step {g' : Array GenState} {t' : Nat} {d' : Drawn} {ch : List Addr} (I : Inv X pins σ H s)
    (hch : ∀ b ∈ ch, (b ∈ X.ex ∨ X.s₀.heap.objs.size ≤ b) ∧ b ≠ X.env.locals ∧ (∀ x c, X.env.cells.lookup x = some c → c ≠ b) ∧ ∀ p ∈ X.pn ++ pins, p.1 ≠ b)
    (keep : ∀ b o, b ≠ X.env.locals → b ∉ X.fs → b ∉ ch → s.heap.get? b = some o → H b = none → h'.get? b = some o)
    (slot : ∀ b o, b ≠ X.env.locals → b ∈ X.fs → b ∉ ch → s.heap.get? b = some o → H b = none → ∃ sl, h'.get? b = some { o with slots := sl }) (free : ∀ b o, b ∉ ch → s.heap.get? b = some o → H b = none → H' b = none)
    (there : ∀ b o, b ∉ ch → s.heap.get? b = some o → ∃ o', h'.get? b = some o')
    (tups : ∀ b xs, H b = some (.tup xs) → H' b = some (.tup xs)) (frzs : ∀ b o u, H b = some (.frz o u) → H' b = some (.frz o u)) (tbls : ∀ b ps, H b = some (.tbl ps) → ∃ more, H' b = some (.tbl (ps ++ more)))
    (ns : ∀ m, s.heap.Ns X.env.locals m → h'.Ns X.env.locals m) (hok : HOk X.prog X.w H' h') (hg : AllBare g') :
    Inv X pins σ H' { s with heap := h', gens := g', drawn := d', toks := t' } := by
  have neL : ∀ b o, X.s₀.heap.get? b = some o → b ≠ X.env.locals := fun b o e => Nat.ne_of_lt (Nat.lt_of_lt_of_le (Heap.lt_size e) I.ok.above)
  have neC : ∀ b o, X.s₀.heap.get? b = some o → b ∉ X.ex → b ∉ ch := fun b o e hx hb => by
    rcases (hch b hb).1 with z | z
    · exact hx z
    · exact absurd (Nat.lt_of_lt_of_le (Heap.lt_size e) z) (Nat.lt_irrefl _)
  have cellK : ∀ x c, X.env.cells.lookup x = some c → ∀ v, s.heap.IsCell c v → h'.IsCell c v := fun x c e v ⟨o, ho, hd⟩ => by
    have nch : c ∉ ch := fun z => (hch c z).2.2.1 x c e rfl
    by_cases hc : c ∈ X.fs
    · obtain ⟨sl, q⟩ := slot c o (I.cne x c e) hc nch ho (I.freeC x c e)
      exact ⟨_, q, hd⟩
    · exact ⟨o, keep c o (I.cne x c e) hc nch ho (I.freeC x c e), hd⟩
  refine ⟨I.ok, I.os, hg, ⟨fun b o e n hb hx => ?_, fun b o e n hb hx => ?_, fun b o e n hx => ?_, fun b o e hx => ?_, fun b xs e => tups b xs (I.base.tups b xs e), fun b o xs e => frzs b o xs (I.base.frzs b o xs e), fun b ps e => ?_⟩, ?_, fun x c e => ?_, ?_, fun x c e => ?_, fun p hp => ?_, hok, I.len⟩
  · exact keep b o (neL b o e) hb (neC b o e hx) (I.base.keep b o e n hb hx) (I.base.free b o e n hx)
  · obtain ⟨sl, e1⟩ := I.base.slot b o e n hb hx
    obtain ⟨sl', e2⟩ := slot b _ (neL b o e) hb (neC b o e hx) e1 (I.base.free b o e n hx)
    exact ⟨sl', e2⟩
  · obtain ⟨o', e1⟩ := I.base.there b o e hx
    exact free b o' (neC b o e hx) e1 (I.base.free b o e n hx)
  · obtain ⟨o', e1⟩ := I.base.there b o e hx
    exact there b o' (neC b o e hx) e1
  · obtain ⟨m1, e1⟩ := I.base.tbls b ps e
    obtain ⟨m2, e2⟩ := tbls b _ e1
    exact ⟨m1 ++ m2, by rw [e2, Array.append_assoc]⟩
  · obtain ⟨m, hn, hl⟩ := I.loc
    refine ⟨m, ns m hn, fun i x v e1 e2 e3 => ?_⟩
    obtain ⟨u, r, l⟩ := hl i x v e1 e2 e3
    refine ⟨u, r, ?_⟩
    rcases l with l | ⟨k, c, e, z⟩
    · exact .inl l
    · exact .inr ⟨k, c, e, cellK x c e _ z⟩
  · obtain ⟨v, z⟩ := I.cell x c e
    exact ⟨v, cellK x c e v z⟩
  · obtain ⟨m, ⟨o, _, _, ho, _⟩, _⟩ := I.loc
    exact free _ o (fun z => (hch _ z).2.1 rfl) ho I.free
  · obtain ⟨v, o, ho, hd⟩ := I.cell x c e
    exact free c o (fun z => (hch c z).2.2.1 x c e rfl) ho (I.freeC x c e)
  · obtain ⟨e, n, ne, nf, d⟩ := I.pin p hp
    have nch : p.1 ∉ ch := fun z => (hch p.1 z).2.2.2 p hp rfl
    exact ⟨keep p.1 p.2 ne nf nch e n, free p.1 p.2 nch e n, ne, nf, d⟩
/-- .. where the frame's own object is kept too -/
theorem Inv.un {t' : Nat} (I : Inv X pins σ H s) (u : Un X.fs [] H H' s.heap h') (hok : HOk X.prog X.w H' h') : Inv X pins σ H' { s with heap := h', toks := t' } := by
  obtain ⟨m, ⟨o, es, ep, ho, r⟩, _⟩ := id I.loc
  obtain ⟨sl, hL⟩ := u.any ho I.free (by simp)
  exact I.step (g' := s.gens) (d' := s.drawn) (ch := []) (fun _ z => nomatch z) (fun b o _ hb _ e n => u.keep b o e n hb (by simp)) (fun b o _ hb _ e n => u.slot b o e n hb (by simp)) (fun b o _ e n => u.free b o e n (by simp)) (fun b o _ e => u.there b o e (by simp)) u.tups u.frzs u.tbls (fun m' hm => by
    obtain ⟨o', es', ep', ho', r'⟩ := hm
    rw [ho] at ho'; cases ho'
    exact ⟨_, es', ep', hL, r'⟩) hok I.bare
/-- behind a call (or a comprehension's block): the slots of this frame may have changed too, the records at ch may have turned -/
theorem Inv.call {g' : Array GenState} {t' : Nat} {d' : Drawn} {ch : List Addr} (I : Inv X pins σ H s) (u : Un (frs X.stack) ch H H' s.heap h') (hok : HOk X.prog X.w H' h') (hg : AllBare g')
    (hch : ∀ b ∈ ch, (b ∈ X.ex ∨ X.s₀.heap.objs.size ≤ b) ∧ b ≠ X.env.locals ∧ (∀ x c, X.env.cells.lookup x = some c → c ≠ b) ∧ ∀ p ∈ X.pn ++ pins, p.1 ≠ b) :
    Inv X pins σ H' { s with heap := h', gens := g', drawn := d', toks := t' } := by
  obtain ⟨m, ⟨o, es, ep, ho, r⟩, _⟩ := id I.loc
  obtain ⟨sl, hL⟩ := u.any ho I.free fun z => (hch _ z).2.1 rfl
  exact I.step (ch := ch) hch (fun b o hL hb hc e n => u.keep b o e n (fun z => (List.mem_cons.mp (I.stkSub b z)).elim hL hb) hc) (fun b o _ _ hc e n => u.any e n hc) (fun b o hc e n => u.free b o e n hc) (fun b o hc e => u.there b o e hc) u.tups u.frzs u.tbls (fun m' hm => by
    obtain ⟨o', es', ep', ho', r'⟩ := hm
    rw [ho] at ho'; cases ho'
    exact ⟨_, es', ep', hL, r'⟩) hok hg
/-- an untracked record of ours (an iterator) has turned -/
theorem Inv.turned {t' : Nat} {it : Addr} (I : Inv X pins σ H s) (k : ∀ b o, b ≠ it → s.heap.get? b = some o → h'.get? b = some o) (hn : H it = none) (hL : it ≠ X.env.locals)
    (h1 : it ∈ X.ex ∨ X.s₀.heap.objs.size ≤ it) (h2 : ∀ x c, X.env.cells.lookup x = some c → c ≠ it) (h3 : ∀ p ∈ X.pn ++ pins, p.1 ≠ it) : Inv X pins σ H { s with heap := h', toks := t' } := by
  have nit : ∀ b u, H b = some u → b ≠ it := fun b u e z => by rw [z, hn] at e; cases e
  refine I.step (g' := s.gens) (d' := s.drawn) (ch := [it]) (fun b hb => ?_) (fun b o _ _ hc e _ => k b o (fun z => hc (by simp [z])) e) (fun b o _ _ hc e _ => ⟨o.slots, k b o (fun z => hc (by simp [z])) e⟩) (fun _ _ _ _ n => n)
    (fun b o hc e => ⟨o, k b o (fun z => hc (by simp [z])) e⟩) (fun _ _ e => e) (fun _ _ _ e => e) (fun b ps e => ⟨#[], by rw [e]; simp⟩) (fun m hm => ?_) (fun b u e => ?_) I.bare
  · have e : b = it := by simpa using hb
    subst e
    exact ⟨h1, hL, h2, h3⟩
  · obtain ⟨o, es, ep, ho, r⟩ := hm
    exact ⟨o, es, ep, k _ o (Ne.symm hL) ho, r⟩
  · refine (I.hok b u e).stay (fun c v hc q => k c v ?_ q) (fun _ q => q) fun _ _ q => q
    rcases hc with z | z
    · rw [z]; exact nit b u e
    · exact nit c _ z
theorem Inv.tok (I : Inv X pins σ H s) (t : Nat) : Inv X pins σ H { s with toks := t } := I.un (h' := s.heap) (t' := t) Un.refl I.hok
/-- all objects kept -/
theorem Inv.kept {t' : Nat} (I : Inv X pins σ H s) (k : ∀ b u, s.heap.get? b = some u → h'.get? b = some u) : Inv X pins σ H { s with heap := h', toks := t' } := I.un (Un.kept k) (I.hok.kept k)
/-- a new object laid and tracked -/
theorem Inv.laid {a : Addr} {o : HO} {t' : Nat} (I : Inv X pins σ H s) (k : ∀ b u, s.heap.get? b = some u → h'.get? b = some u) (hp : s.heap.objs.size ≤ a) (new : ObjOk X.prog X.w (upd H a o) h' a o) :
    Inv X pins σ (upd H a o) { s with heap := h', toks := t' } := I.un (Un.laid k hp (I.hok.fresh hp)) (I.hok.laid k hp new)
/-- an object written -/
theorem Inv.write {x e : Addr} {o : HO} {t' : Nat} (I : Inv X pins σ H s) (mu : Mut (H x)) (he : e = x ∨ H e = some (.own x)) (k : ∀ b u, b ≠ e → s.heap.get? b = some u → h'.get? b = some u) (heo : ∃ u, h'.get? e = some u)
    (new : ObjOk X.prog X.w (upd H x o) h' x o) : Inv X pins σ (upd H x o) { s with heap := h', toks := t' } := I.un (Un.write mu he k heo) (I.hok.write mu he k heo new)
theorem Inv.pins_of {pins' : List (Addr × Obj)} (I : Inv X pins σ H s) (h : ∀ p ∈ pins', s.heap.get? p.1 = some p.2 ∧ H p.1 = none ∧ p.1 ≠ X.env.locals ∧ p.1 ∉ X.fs ∧ ∀ v, p.2.data ≠ .cell v) : Inv X pins' σ H s :=
  ⟨I.ok, I.os, I.bare, I.base, I.loc, I.cell, I.free, I.freeC, fun p hp => (List.mem_append.mp hp).elim (fun z => I.pin p (List.mem_append_left _ z)) (h p), I.hok, I.len⟩

theorem nodup_ix {N : List Str} (hN : N.Nodup) {i j : Nat} {x : Str} (a : N[i]? = some x) (b : N[j]? = some x) : i = j := by
  obtain ⟨h1, e1⟩ := List.getElem?_eq_some_iff.mp a
  obtain ⟨h2, e2⟩ := List.getElem?_eq_some_iff.mp b
  exact (List.getElem_inj hN).mp (e1.trans e2.symm)

/-- a name is stored; what changed -/
theorem store_ok2 {M : Model} {A : Around} {E : Value → Shared → Prop} {i : Nat} {x : Str} {v : V} {u : Value} {Q : Unit → Shared → Prop} (I : Inv X pins σ H s) (hN : X.N.Nodup) (hi : X.N[i]? = some x) (hx : Loc X.env.scope x) (r : RelV v u)
    (h : ∀ s', Inv X pins (σ.set i (some v)) H s' → (∃ a, Heap.SameBut a s.heap s'.heap ∧ (a = X.env.locals ∨ X.env.cells.lookup x = some a)) → Q () s') (hf : X.fn x = true ∨ X.env.scope.names.lookup x = some .local := by first | exact .inl rfl | exact .inr rfl | assumption) : wpAny M A (storeName X.env x u) Q E s := by
  obtain ⟨m, hn, hl⟩ := id I.loc
  have hcls : (X.env.scope.kind == .class || (X.env.scope.kind == .module && X.env.locals != X.env.globals)) = false := by rw [I.ok.kind]; rfl
  have hiσ : i < σ.length := by rw [I.len]; exact (List.getElem?_eq_some_iff.mp hi).1
  have cne := I.cne
  have tracked : ∀ {a : Addr} {h' : Heap}, (∃ o, s.heap.get? a = some o ∧ H a = none) → Heap.SameBut a s.heap h' → HOk X.prog X.w H h' := fun {a h'} ha hs b ob e => by
    obtain ⟨_, _, hfree⟩ := ha
    refine (I.hok b ob e).stay (fun c w' hc q => (hs.2 c ?_).trans q) (fun _ q => q) fun _ _ q => q
    rintro rfl
    rcases hc with rfl | hc
    · rw [hfree] at e; cases e
    · rw [hfree] at hc; cases hc
  rcases hx with hk | hk
  · refine wpAny_storeName_local hk hn (fun h' hn' hs => ?_) hcls
    obtain ⟨oL, _, _, hoL, _⟩ := id hn
    refine h _ ⟨I.ok, I.os, I.bare, ⟨fun b o e n hb hx => ?_, fun b o e n hb hx => ?_, I.base.free, fun b o e hx => ?_, I.base.tups, I.base.frzs, I.base.tbls⟩, ⟨_, hn', fun j y v' e1 e2 e3 => ?_⟩, fun y c e => ?_, I.free, I.freeC, fun p hp => ?_, tracked ⟨oL, hoL, I.free⟩ hs, by simpa using I.len⟩ ⟨_, hs, .inl rfl⟩
    · exact (hs.2 b (Nat.ne_of_lt (Nat.lt_of_lt_of_le (Heap.lt_size e) I.ok.above))).trans (I.base.keep b o e n hb hx)
    · obtain ⟨sl, e1⟩ := I.base.slot b o e n hb hx
      exact ⟨sl, (hs.2 b (Nat.ne_of_lt (Nat.lt_of_lt_of_le (Heap.lt_size e) I.ok.above))).trans e1⟩
    · obtain ⟨o', e1⟩ := I.base.there b o e hx
      exact ⟨o', (hs.2 b (Nat.ne_of_lt (Nat.lt_of_lt_of_le (Heap.lt_size e) I.ok.above))).trans e1⟩
    · by_cases hj : j = i
      · subst hj
        rw [hi] at e1; cases e1
        rw [List.getElem?_set_self hiσ] at e2
        cases e2
        exact ⟨u, r, .inl ⟨hk, by simp⟩⟩
      · rw [List.getElem?_set_ne (Ne.symm hj)] at e2
        obtain ⟨u', r', q⟩ := hl j y v' e1 e2 e3
        refine ⟨u', r', ?_⟩
        rcases q with ⟨k, e⟩ | ⟨k, c, e, z⟩
        · refine .inl ⟨k, ?_⟩
          have : y ≠ x := fun e => hj (nodup_ix hN e1 (e ▸ hi))
          simp [this, e]
        · exact .inr ⟨k, c, e, z.sameBut hs (cne y c e)⟩
    · obtain ⟨w', z⟩ := I.cell y c e
      exact ⟨w', z.sameBut hs (cne y c e)⟩
    · obtain ⟨e, n, ne, nf, d⟩ := I.pin p hp
      exact ⟨(hs.2 p.1 ne).trans e, n, ne, nf, d⟩
  · have hfn : X.fn x = true := by
      rcases hf with z | z
      · exact z
      · rw [z] at hk; cases hk
    obtain ⟨c, hc⟩ := I.ok.has x (.inl hk)
    obtain ⟨w', z⟩ := I.cell x c hc
    refine wpAny_storeName_cell I.ok.kind hk hc z (fun h' hc' hs => ?_)
    obtain ⟨oc, hoc, hocd⟩ := id z
    refine h { s with heap := h' } ⟨I.ok, I.os, I.bare, ⟨fun b o e n hb hx => ?_, fun b o e n hb hx => ?_, I.base.free, fun b o e hx => ?_, I.base.tups, I.base.frzs, I.base.tbls⟩, ⟨m, hn.sameBut hs (Ne.symm (cne x c hc)), fun j y v' e1 e2 e3 => ?_⟩, fun y c' e => ?_, I.free, I.freeC, fun p hp => ?_, tracked ⟨oc, hoc, I.freeC x c hc⟩ hs, by simpa using I.len⟩ ⟨c, hs, .inr hc⟩
    · exact (hs.2 b (Nat.ne_of_lt (Nat.lt_of_lt_of_le (Heap.lt_size e) (I.ok.cab x c hfn hc)))).trans (I.base.keep b o e n hb hx)
    · obtain ⟨sl, e1⟩ := I.base.slot b o e n hb hx
      exact ⟨sl, (hs.2 b (Nat.ne_of_lt (Nat.lt_of_lt_of_le (Heap.lt_size e) (I.ok.cab x c hfn hc)))).trans e1⟩
    · obtain ⟨o', e1⟩ := I.base.there b o e hx
      exact ⟨o', (hs.2 b (Nat.ne_of_lt (Nat.lt_of_lt_of_le (Heap.lt_size e) (I.ok.cab x c hfn hc)))).trans e1⟩
    · by_cases hj : j = i
      · subst hj
        rw [hi] at e1; cases e1
        rw [List.getElem?_set_self hiσ] at e2
        cases e2
        exact ⟨u, r, .inr ⟨.inl hk, c, hc, hc'⟩⟩
      · rw [List.getElem?_set_ne (Ne.symm hj)] at e2
        obtain ⟨u', r', q⟩ := hl j y v' e1 e2 e3
        refine ⟨u', r', ?_⟩
        rcases q with q | ⟨k, c', e, z'⟩
        · exact .inl q
        · refine .inr ⟨k, c', e, z'.sameBut hs ?_⟩
          rintro rfl
          exact hj (nodup_ix hN e1 (I.ok.inj _ _ _ e hc ▸ hi))
    · by_cases hcc : c' = c
      · subst hcc; exact ⟨_, hc'⟩
      · obtain ⟨w2, z2⟩ := I.cell y c' e
        exact ⟨w2, z2.sameBut hs hcc⟩
    · obtain ⟨e, n, ne, nf, d⟩ := I.pin p hp
      refine ⟨(hs.2 p.1 ?_).trans e, n, ne, nf, d⟩
      intro q
      rw [q, hoc] at e
      have q' : oc = p.2 := Option.some.inj e
      exact d w' (by rw [← q']; exact hocd)
theorem store_ok {M : Model} {A : Around} {E : Value → Shared → Prop} {i : Nat} {x : Str} {v : V} {u : Value} {Q : Unit → Shared → Prop} (I : Inv X pins σ H s) (hN : X.N.Nodup) (hi : X.N[i]? = some x) (hx : Loc X.env.scope x) (r : RelV v u)
    (h : ∀ s', Inv X pins (σ.set i (some v)) H s' → Q () s') (hf : X.fn x = true ∨ X.env.scope.names.lookup x = some .local := by first | exact .inl rfl | exact .inr rfl | assumption) : wpAny M A (storeName X.env x u) Q E s :=
  store_ok2 I hN hi hx r (fun s' I' _ => h s' I') hf
/-- behind a call or a block, the state as it is -/
theorem Inv.call' {s' : Shared} {ch : List Addr} (I : Inv X pins σ H s) (ho : s'.os = s.os) (u : Un (frs X.stack) ch H H' s.heap s'.heap) (hok : HOk X.prog X.w H' s'.heap) (hg : AllBare s'.gens)
    (hch : ∀ b ∈ ch, (b ∈ X.ex ∨ X.s₀.heap.objs.size ≤ b) ∧ b ≠ X.env.locals ∧ (∀ x c, X.env.cells.lookup x = some c → c ≠ b) ∧ ∀ p ∈ X.pn ++ pins, p.1 ≠ b) : Inv X pins σ H' s' := by
  obtain ⟨h', g', d', t', o'⟩ := s'
  have e : o' = s.os := ho
  subst e
  exact I.call (g' := g') (t' := t') (d' := d') u hok hg hch
end

/-! ### the judgements -/
/-- an exception: its class, its own dict's address (where it has one), the abstract heap behind it -/
noncomputable abbrev XK := Value → Option Addr → Hp → Prop
noncomputable abbrev St := List (Option V)
noncomputable abbrev VK := V → Hp → Prop
/-- an expression's reading; a test's; an argument list's -/
noncomputable abbrev TE := St → Hp → VK → Prop
noncomputable abbrev TT := St → Hp → (Bool → Hp → Prop) → Prop
noncomputable abbrev TA := St → Hp → (List V → Hp → Prop) → Prop
/-- what is wanted behind a statement -/
structure Ends where
  nx : St → Hp → Prop
  rt : VK
  bk : St → Hp → Prop := fun _ _ => False
  ct : St → Hp → Prop := fun _ _ => False
noncomputable abbrev TS := Ends → St → Hp → Prop

noncomputable def EP (X : Cx) (pins : List (Addr × Obj)) (σ : St) (Q : VK) (u : Value) (s' : Shared) : Prop := ∃ v H', Inv X pins σ H' s' ∧ RelV v u ∧ Q v H'
noncomputable def TP (X : Cx) (pins : List (Addr × Obj)) (σ : St) (Q : Bool → Hp → Prop) (b : Bool) (s' : Shared) : Prop := ∃ H', Inv X pins σ H' s' ∧ Q b H'
noncomputable def AP (X : Cx) (pins : List (Addr × Obj)) (σ : St) (Q : List V → Hp → Prop) (us : List Value) (s' : Shared) : Prop := ∃ vs H', Inv X pins σ H' s' ∧ Vals vs us ∧ Q vs H'
noncomputable def SP (X : Cx) (pins : List (Addr × Obj)) (D : Ends) (f : Flow) (s' : Shared) : Prop :=
  match f with
  | .next => ∃ σ' H', Inv X pins σ' H' s' ∧ D.nx σ' H'
  | .brk => ∃ σ' H', Inv X pins σ' H' s' ∧ D.bk σ' H'
  | .cont => ∃ σ' H', Inv X pins σ' H' s' ∧ D.ct σ' H'
  | .ret u => ∃ v σ' H', Inv X pins σ' H' s' ∧ RelV v u ∧ D.rt v H'

noncomputable def PE (X : Cx) (e : Expr) (t : TE) : Prop :=
  ∀ (pins : List (Addr × Obj)) (s : Shared) (σ : St) (H : Hp) (Q : VK), Inv X pins σ H s → t σ H Q → wpAny (model X.prog X.w) X.A (eval e X.env) (EP X pins σ Q) X.xe s
noncomputable def PT (X : Cx) (e : Expr) (t : TT) : Prop :=
  ∀ (pins : List (Addr × Obj)) (s : Shared) (σ : St) (H : Hp) (Q : Bool → Hp → Prop), Inv X pins σ H s → t σ H Q → wpAny (model X.prog X.w) X.A (isTrue e X.env (eval e X.env)) (TP X pins σ Q) X.xe s
/-- a test whatever its 'whole' is (and, or) -/
noncomputable def PW (X : Cx) (e : Expr) (t : TT) : Prop :=
  ∀ (whole : Sem Value) (pins : List (Addr × Obj)) (s : Shared) (σ : St) (H : Hp) (Q : Bool → Hp → Prop), Inv X pins σ H s → t σ H Q → wpAny (model X.prog X.w) X.A (isTrue e X.env whole) (TP X pins σ Q) X.xe s
theorem PW.pt {X : Cx} {e : Expr} {t : TT} (h : PW X e t) : PT X e t := h _
/-- an argument list (no star), from the left -/
noncomputable def PA (X : Cx) (es : List Expr) (t : TA) : Prop :=
  ∀ (pos : Pos) (pins : List (Addr × Obj)) (s : Shared) (σ : St) (H : Hp) (Q : List V → Hp → Prop), Inv X pins σ H s → t σ H Q → wpAny (model X.prog X.w) X.A (spliced (backTo pos (starEach es X.env))) (AP X pins σ Q) X.xe s
noncomputable def PS (X : Cx) (st : Stmt) (t : TS) : Prop :=
  ∀ (pins : List (Addr × Obj)) (s : Shared) (σ : St) (H : Hp) (D : Ends), Inv X pins σ H s → t D σ H → wpAny (model X.prog X.w) X.A (exec st X.env) (SP X pins D) X.xe s
noncomputable def PSs (X : Cx) (st : List Stmt) (t : TS) : Prop :=
  ∀ (pins : List (Addr × Obj)) (s : Shared) (σ : St) (H : Hp) (D : Ends), Inv X pins σ H s → t D σ H → wpAny (model X.prog X.w) X.A (execs st X.env) (SP X pins D) X.xe s
/-- weaken the end -/
theorem thn {α : Type} {t : Sem α} {Q Q' : α → Shared → Prop} {M : Model} {A : Around} {E : Value → Shared → Prop} {s : Shared} (h : wpAny M A t Q E s) (hQ : ∀ a s, Q a s → Q' a s) : wpAny M A t Q' E s := wpAny_mono h hQ fun _ _ x => x
end L2

namespace L2
open PySem PySem.Spec PyProof.Rows
section
variable {X : Cx}

/-! ### names and constants -/
noncomputable def tVar (i : Nat) : TE := fun σ H Q => ∃ v, σ[i]? = some (some v) ∧ Q v H
noncomputable def tC (v : V) : TE := fun _ H Q => Q v H
theorem pe_var {i : Nat} {x : Str} {pos : Pos} (hN : X.N[i]? = some x) (hv : Vis X.env.scope x) (hd : (x == ("__debug__" : Str)) = false := by decide) (hcd : (x == ("__classdict__" : Str)) = false := by decide) : PE X (.Name x pos) (tVar i) := by
  intro pins s σ H Q I h
  obtain ⟨v, e, h⟩ := h
  obtain ⟨m, hn, hl⟩ := I.loc
  obtain ⟨u, r, l⟩ := hl i x v hN e hv
  have fin : EP X pins σ Q u s := ⟨v, H, I, r, h⟩
  rcases l with ⟨hk, hm⟩ | ⟨hk, c, hc, hcell⟩
  · exact wpAny_Name (wpAny_loadName_local I.ok.kind hk hn hm fin) hd
  · rcases hk with hk | hk
    · exact wpAny_Name (wpAny_loadName_cell I.ok.kind hk hc hcell fin) hd
    · exact wpAny_Name (wpAny_loadName_free I.ok.kind hk hc hcell fin hcd) hd
theorem pe_int {i j pos} : PE X (.Constant (.int i) j pos) (tC (.int i)) := fun _ _ _ H _ I h => wpAny_Constant_int ⟨.int i, H, I.tok _, ⟨_, rfl⟩, h⟩
theorem pe_bl {b j pos} : PE X (.Constant (.bool b) j pos) (tC (.bl b)) := fun _ _ _ H _ I h => Constant_bool ⟨.bl b, H, I, rfl, h⟩
theorem pe_non {j pos} : PE X (.Constant .none j pos) (tC .non) := fun _ _ _ H _ I h => Constant_none ⟨.non, H, I, rfl, h⟩
theorem pe_str {x j pos} : PE X (.Constant (.str x) j pos) (tC (.str x)) := fun _ _ _ H _ I h => Calls.Constant_str ⟨.str x, H, I.tok _, ⟨_, rfl⟩, h⟩

/-- a global name of the def -/
noncomputable def Gl (X : Cx) (x : Str) : Prop := X.env.kindOf x = some .globalImplicit
theorem ld_glob {E : Value → Shared → Prop} {pins : List (Addr × Obj)} {s : Shared} {σ : St} {H : Hp} {x : Str} {u : Value} {pos : Pos} {Q : Value → Shared → Prop} (I : Inv X pins σ H s) (hg : Gl X x) (hm : X.mg x = some u) (h : Q u s)
    (hd : (x == ("__debug__" : Str)) = false := by decide) : wpAny (model X.prog X.w) X.A (eval (.Name x pos) X.env) Q E s :=
  Calls.Name_function_global I.ok.kind hg (Calls.loadGlobal_global (by rw [I.ok.glob]; exact I.mod.glob.keeps I.bk) hm h) hd
theorem ld_blt {E : Value → Shared → Prop} {pins : List (Addr × Obj)} {s : Shared} {σ : St} {H : Hp} {x : Str} {u : Value} {pos : Pos} {Q : Value → Shared → Prop} (I : Inv X pins σ H s) (hg : Gl X x) (hm : X.mg x = none) (hv : bootBuiltins x = some u) (h : Q u s)
    (hn : x ≠ "__name__" := by decide) (hd : (x == ("__debug__" : Str)) = false := by decide) : wpAny (model X.prog X.w) X.A (eval (.Name x pos) X.env) Q E s := by
  obtain ⟨mb, h1, h2⟩ := I.mod.blt
  exact Calls.Name_function_global I.ok.kind hg (Calls.loadGlobal_builtin (by rw [I.ok.glob]; exact I.mod.glob.keeps I.bk) hm (by rw [I.ok.blt]; exact h1.keeps I.bk) ((h2 x hn).trans hv) h) hd
/-- a module's constant, a class, a function, as a value -/
theorem pe_glob {x : Str} {v : V} {u : Value} {pos : Pos} (hg : Gl X x) (hm : X.mg x = some u) (r : RelV v u) (hd : (x == ("__debug__" : Str)) = false := by decide) : PE X (.Name x pos) (tC v) :=
  fun _ _ _ H _ I h => ld_glob I hg hm ⟨v, H, I, r, h⟩ hd
theorem pe_bltn {x : Str} {v : V} {u : Value} {pos : Pos} (hg : Gl X x) (hm : X.mg x = none) (hv : bootBuiltins x = some u) (r : RelV v u) (hn : x ≠ "__name__" := by decide) (hd : (x == ("__debug__" : Str)) = false := by decide) : PE X (.Name x pos) (tC v) :=
  fun _ _ _ H _ I h => ld_blt I hg hm hv ⟨v, H, I, r, h⟩ hn hd

/-! ### arithmetic -/
variable {a b : Expr} {ta tb : TE} {pos : Pos}
/-! ### comparisons -/
noncomputable def PC (X : Cx) (op : CmpOp) (a b : Expr) (t : TE) : Prop :=
  ∀ (pins : List (Addr × Obj)) (s : Shared) (σ : St) (H : Hp) (Q : VK), Inv X pins σ H s → t σ H Q →
    wpAny (model X.prog X.w) X.A (eval a X.env) (fun v s₁ => wpAny (model X.prog X.w) X.A (eval b X.env) (fun u s₂ => wpAny (model X.prog X.w) X.A (compareOp op v u) (EP X pins σ Q) X.xe s₂) X.xe s₁) X.xe s
theorem nobehind (b : Expr) {op : CmpOp} (h : op ≠ .In) (h2 : op ≠ .NotIn) : behindInMarks op b = false := by
  have e1 : (op == CmpOp.In) = false := by cases op <;> first | rfl | exact absurd rfl h
  have e2 : (op == CmpOp.NotIn) = false := by cases op <;> first | rfl | exact absurd rfl h2
  cases b <;> simp [behindInMarks, e1, e2]
/-- is None -/
noncomputable def tIsN (ta : TE) : TE := fun σ H Q => ta σ H fun x H1 => Q (.bl (decide (x = .non))) H1
noncomputable def tNotN (ta : TE) : TE := fun σ H Q => ta σ H fun x H1 => Q (.bl (!decide (x = .non))) H1
theorem RelV.none_iff {x : V} {v : Value} (r : RelV x v) : (v == Value.none) = decide (x = .non) := by
  cases x with
  | non => cases r; rfl
  | bl _ => cases r; rfl
  | int _ => obtain ⟨t, rfl⟩ := r; rfl
  | str _ => obtain ⟨t, rfl⟩ := r; rfl
  | byt _ => obtain ⟨t, rfl⟩ := r; rfl
  | flt _ => obtain ⟨t, rfl⟩ := r; rfl
  | ref _ => cases r; rfl
  | ty _ => cases r; rfl
theorem pc_isN {j pos'} (ha : PE X a ta) : PC X .Is a (.Constant .none j pos') (tIsN ta) := by
  intro pins s σ H Q I h
  refine thn (ha pins s σ H _ I h) fun v s1 hsl1 => ?_
  obtain ⟨x, H1, I1, r1, q1⟩ := hsl1
  exact Constant_none (is_none_gen ⟨.bl _, H1, I1, by rw [r1.none_iff]; rfl, q1⟩)
theorem pc_notN {j pos'} (ha : PE X a ta) : PC X .IsNot a (.Constant .none j pos') (tNotN ta) := by
  intro pins s σ H Q I h
  refine thn (ha pins s σ H _ I h) fun v s1 hsl2 => ?_
  obtain ⟨x, H1, I1, r1, q1⟩ := hsl2
  exact Constant_none (isnot_none_gen ⟨.bl _, H1, I1, by rw [r1.none_iff]; rfl, q1⟩)
/-- a comparison as a value, as a test -/
noncomputable def tB (t : TE) : TT := fun σ H Q => t σ H fun x H1 => ∃ c, x = .bl c ∧ Q c H1
theorem pt_cmp {op : CmpOp} {t : TE} (h : PC X op a b t) (h1 : behindInMarks op b = false := by first | exact nobehind _ (by decide) (by decide) | rfl) : PT X (.Compare a [op] [b] pos) (tB t) := by
  intro pins s σ H Q I hw
  refine wpAny_isTrue_Compare1 (thn (h pins s σ H _ I hw) fun v s1 h1 => thn h1 fun u s2 h2 => thn h2 fun c s3 hsl3 => ?_) h1
  obtain ⟨x, H1, I1, r1, q1⟩ := hsl3
  obtain ⟨d, rfl, q⟩ := q1
  cases r1
  exact wpAny_truthy_bool ⟨H1, I1, q⟩
/-- an expression whose value is a bool, as a test -/
theorem pt_val {e : Expr} {t : TE} (h : PE X e t) (he : ∀ whole, isTrue e X.env whole = (do let v ← whole; standAt e.pos; holding [v] (truthy v)) := by intro _; rfl) : PT X e (tB t) := by
  intro pins s σ H Q I hw
  refine isTrue_plain (thn (h pins s σ H _ I hw) fun v s1 hsl4 => ?_) (he _)
  obtain ⟨x, H1, I1, r1, q1⟩ := hsl4
  obtain ⟨d, rfl, q⟩ := q1
  cases r1
  exact wpAny_truthy_bool ⟨H1, I1, q⟩

/-! ### and, or, not -/
variable {tA tB' : TT} {rest : List Expr}
noncomputable def tAnd (t u : TT) : TT := fun σ H Q => t σ H fun c H1 => if c = true then u σ H1 Q else Q false H1
noncomputable def tOr (t u : TT) : TT := fun σ H Q => t σ H fun c H1 => if c = true then Q true H1 else u σ H1 Q
noncomputable def tNot (t : TT) : TT := fun σ H Q => t σ H fun c H1 => Q (!c) H1
theorem pw_and1 (ha : PT X a tA) : PW X (.BoolOp .And [a] pos) tA := by
  intro wh pins s σ H Q I h
  refine isTrue_and (thn (ha pins s σ H Q I h) fun c s1 e => ?_)
  cases c with
  | true => exact isTrue_and_nil e
  | false => exact e
theorem pw_or1 (ha : PT X a tA) : PW X (.BoolOp .Or [a] pos) tA := by
  intro wh pins s σ H Q I h
  refine isTrue_or (thn (ha pins s σ H Q I h) fun c s1 e => ?_)
  cases c with
  | false => exact isTrue_or_nil e
  | true => exact e
theorem pw_and (ha : PT X a tA) (hb : PW X (.BoolOp .And (b :: rest) pos) tB') : PW X (.BoolOp .And (a :: b :: rest) pos) (tAnd tA tB') := by
  intro wh pins s σ H Q I h
  refine isTrue_and (thn (ha pins s σ H _ I h) fun c s1 hsl5 => ?_)
  obtain ⟨H1, I1, q1⟩ := hsl5
  cases c with
  | true => exact hb wh pins s1 σ H1 Q I1 q1
  | false => exact ⟨H1, I1, q1⟩
theorem pw_or (ha : PT X a tA) (hb : PW X (.BoolOp .Or (b :: rest) pos) tB') : PW X (.BoolOp .Or (a :: b :: rest) pos) (tOr tA tB') := by
  intro wh pins s σ H Q I h
  refine isTrue_or (thn (ha pins s σ H _ I h) fun c s1 hsl6 => ?_)
  obtain ⟨H1, I1, q1⟩ := hsl6
  cases c with
  | true => exact ⟨H1, I1, q1⟩
  | false => exact hb wh pins s1 σ H1 Q I1 q1
theorem pt_not (ha : PT X a tA) : PT X (.UnaryOp .Not a pos) (tNot tA) := by
  intro pins s σ H Q I h
  exact isTrue_not (ha pins s σ H (fun c H1 => Q (!c) H1) I h)
/-- .. as values (bools) -/
noncomputable def tAndV (ta tb : TE) : TE := fun σ H Q => ta σ H fun x H1 => ∃ c, x = .bl c ∧ if c = true then tb σ H1 Q else Q (.bl false) H1
noncomputable def tNotV (ta : TE) : TE := fun σ H Q => ta σ H fun x H1 => ∃ c, x = .bl c ∧ Q (.bl (!c)) H1
theorem pe_one {op} {t : TE} (h : PE X a t) : PE X (.BoolOp op [a] pos) t := fun pins s σ H Q I hw => BoolOp_one (h pins s σ H Q I hw)
theorem pe_and (ha : PE X a ta) (hb : PE X (.BoolOp .And (b :: rest) pos) tb) : PE X (.BoolOp .And (a :: b :: rest) pos) (tAndV ta tb) := by
  intro pins s σ H Q I h
  refine BoolOp_and (thn (ha pins s σ H _ I h) fun v s1 hsl7 => ?_)
  obtain ⟨x, H1, I1, r1, q1⟩ := hsl7
  obtain ⟨c, rfl, q1⟩ := q1
  cases r1
  refine wpAny_truthy_bool ?_
  cases c with
  | true => exact hb pins s1 σ H1 Q I1 q1
  | false => exact ⟨.bl false, H1, I1, rfl, q1⟩
theorem pe_not (ha : PE X a ta) : PE X (.UnaryOp .Not a pos) (tNotV ta) := by
  intro pins s σ H Q I h
  refine UnaryOp_ (thn (ha pins s σ H _ I h) fun v s1 hsl8 => ?_)
  obtain ⟨x, H1, I1, r1, q1⟩ := hsl8
  obtain ⟨c, rfl, q1⟩ := q1
  cases r1
  exact not_of (wpAny_truthy_bool ⟨.bl (!c), H1, I1, rfl, q1⟩)
/-- a if t else b -/
noncomputable def tIf (t : TT) (ta tb : TE) : TE := fun σ H Q => t σ H fun c H1 => if c = true then ta σ H1 Q else tb σ H1 Q
theorem pe_ifExp {c : Expr} (hc : PT X c tA) (ha : PE X a ta) (hb : PE X b tb) : PE X (.IfExp c a b pos) (tIf tA ta tb) := by
  intro pins s σ H Q I h
  refine wpAny_IfExp (thn (hc pins s σ H _ I h) fun d s1 hsl9 => ?_)
  obtain ⟨H1, I1, q1⟩ := hsl9
  cases d with
  | true => exact ha pins s1 σ H1 Q I1 q1
  | false => exact hb pins s1 σ H1 Q I1 q1
end
end L2

namespace L2
open PySem PySem.Spec PyProof.Rows

/-! ### a list, a tuple that is read: tracked, frozen, or an object of the module -/
noncomputable def SqL (K : PySem.W.Frag) (H : Hp) (a : Addr) (xs : List V) : Prop :=
  Rd H a (.lst xs) ∨
    ∃ (o : Obj) (its : Array Value) (n : Nat), K.lookup a = some o ∧ o.cls = .type "list" ∧ o.dict = none ∧ o.data = .seq its n ∧ its.size ≤ sizeLine ∧ Vals xs its.toList
noncomputable def SqT (K : PySem.W.Frag) (H : Hp) (a : Addr) (xs : List V) : Prop :=
  Rd H a (.tup xs) ∨
    ∃ (o : Obj) (its : Array Value) (n : Nat), K.lookup a = some o ∧ o.cls = .type "tuple" ∧ o.data = .seq its n ∧ its.size ≤ sizeLine ∧ Vals xs its.toList
noncomputable def absV : Value → Option V
  | .none => some .non
  | .bool b => some (.bl b)
  | .int i _ => some (.int i)
  | .str x _ => some (.str x)
  | .bytes b _ => some (.byt b)
  | .float b _ => some (.flt b)
  | .ref a => some (.ref a)
  | .type n => some (.ty n)
  | _ => none
theorem RelV.abs {x : V} {u : Value} (r : RelV x u) : absV u = some x := by
  cases x with
  | non => cases r; rfl
  | bl _ => cases r; rfl
  | int _ => obtain ⟨t, rfl⟩ := r; rfl
  | str _ => obtain ⟨t, rfl⟩ := r; rfl
  | byt _ => obtain ⟨t, rfl⟩ := r; rfl
  | flt _ => obtain ⟨t, rfl⟩ := r; rfl
  | ref _ => cases r; rfl
  | ty _ => cases r; rfl
theorem RelV.inj {x y : V} {u : Value} (r : RelV x u) (q : RelV y u) : x = y := Option.some.inj (r.abs.symm.trans q.abs)
theorem Vals.inj : ∀ {xs ys : List V} {us : List Value}, Vals xs us → Vals ys us → xs = ys
  | _, _, _, .nil, .nil => rfl
  | _, _, _, .cons r t, .cons r' t' => by rw [r.inj r', Vals.inj t t']
section
variable {X : Cx} {pins : List (Addr × Obj)} {σ : St} {H : Hp} {s : Shared} {a : Addr} {xs ys : List V}
theorem SqL.of {K : PySem.W.Frag} (h : H a = some (.lst xs)) : SqL K H a xs := .inl (.inl h)
theorem SqT.of {K : PySem.W.Frag} (h : H a = some (.tup xs)) : SqT K H a xs := .inl (.inl h)
theorem Inv.list (I : Inv X pins σ H s) (h : SqL X.K H a xs) : ∃ its : List Value, Vals xs its ∧ PlainL s.heap a its.toArray ∧ xs.length ≤ sizeLine := by
  rcases h with h | ⟨o, its, n, hk, hc, hd, hs, hz, r⟩
  · obtain ⟨z, its, n, r, e⟩ := h.ok I.hok
    exact ⟨its, r, ⟨_, n, e, rfl, rfl, rfl⟩, z⟩
  · refine ⟨its.toList, r, ⟨o, n, I.kIn a o hk, hc, hd, by simpa using hs⟩, ?_⟩
    have e := r.length
    simp only [Array.length_toList] at e
    omega
theorem Inv.tuple (I : Inv X pins σ H s) (h : SqT X.K H a xs) : ∃ its : List Value, Vals xs its ∧ IsTup s.heap a its.toArray ∧ xs.length ≤ sizeLine := by
  rcases h with h | ⟨o, its, n, hk, hc, hs, hz, r⟩
  · obtain ⟨z, its, r, p⟩ := h.ok I.hok
    exact ⟨its, r, p, z⟩
  · refine ⟨its.toList, r, ⟨o, I.kIn a o hk, hc, n, by simpa using hs⟩, ?_⟩
    have e := r.length
    simp only [Array.length_toList] at e
    omega
theorem Inv.list_inj (I : Inv X pins σ H s) (h : SqL X.K H a xs) (h' : SqL X.K H a ys) : xs = ys := by
  obtain ⟨its, r, ⟨o, n, e, _, _, d⟩, _⟩ := I.list h
  obtain ⟨its', r', ⟨o', n', e', _, _, d'⟩, _⟩ := I.list h'
  rw [e] at e'; cases e'
  rw [d] at d'
  injection d' with d1 _
  have : its = its' := by simpa using congrArg Array.toList d1
  subst this
  exact r.inj r'
end

/-! ### another wish about exceptions -/
noncomputable abbrev Cx.wish (X : Cx) (E : Value → Shared → Prop) : Cx := { X with xe := E }
/-- no exception leaves -/
noncomputable abbrev Cx.nox (X : Cx) : Cx := X.wish fun _ _ => False
theorem Cx.Ok.wish {X : Cx} (ok : X.Ok) (E : Value → Shared → Prop) : (X.wish E).Ok :=
  ⟨ok.mod, ok.kind, ok.glob, ok.blt, ok.above, ok.inj, ok.has, ok.cab, ok.hd, ok.frames, ok.stk, ok.exf, ok.bs, ok.bsz, ok.noex, ok.exfs, ok.funs, ok.frf⟩
theorem Cx.Ok.unwish {X : Cx} {E : Value → Shared → Prop} (ok : (X.wish E).Ok) : X.Ok :=
  ⟨ok.mod, ok.kind, ok.glob, ok.blt, ok.above, ok.inj, ok.has, ok.cab, ok.hd, ok.frames, ok.stk, ok.exf, ok.bs, ok.bsz, ok.noex, ok.exfs, ok.funs, ok.frf⟩
section
variable {X : Cx} {pins : List (Addr × Obj)} {σ : St} {H : Hp} {s : Shared} {E : Value → Shared → Prop}
theorem Inv.wish (I : Inv X pins σ H s) (E : Value → Shared → Prop) : Inv (X.wish E) pins σ H s := ⟨I.ok.wish E, I.os, I.bare, I.base, I.loc, I.cell, I.free, I.freeC, I.pin, I.hok, I.len⟩
theorem Inv.unwish (I : Inv (X.wish E) pins σ H s) : Inv X pins σ H s := ⟨I.ok.unwish, I.os, I.bare, I.base, I.loc, I.cell, I.free, I.freeC, I.pin, I.hok, I.len⟩
theorem SP.unwish {D : Ends} {f : Flow} {s' : Shared} (h : SP (X.wish E) pins D f s') : SP X pins D f s' := by
  cases f with
  | next => obtain ⟨σ', H', I, q⟩ := h; exact ⟨σ', H', I.unwish, q⟩
  | brk => obtain ⟨σ', H', I, q⟩ := h; exact ⟨σ', H', I.unwish, q⟩
  | cont => obtain ⟨σ', H', I, q⟩ := h; exact ⟨σ', H', I.unwish, q⟩
  | ret u => obtain ⟨v, σ', H', I, r, q⟩ := h; exact ⟨v, σ', H', I.unwish, r, q⟩
theorem PE.nox {e : Expr} {t : TE} (h : PE X.nox e t) : PE X e t := fun pins s σ H Q I hw =>
  wpAny_mono (h pins s σ H Q (I.wish _) hw) (fun _ _ hsl10 => by obtain ⟨v, H', I', r, q⟩ := hsl10; exact ⟨v, H', I'.unwish, r, q⟩) fun _ _ z => False.elim z
theorem PT.nox {e : Expr} {t : TT} (h : PT X.nox e t) : PT X e t := fun pins s σ H Q I hw =>
  wpAny_mono (h pins s σ H Q (I.wish _) hw) (fun _ _ hsl11 => by obtain ⟨H', I', q⟩ := hsl11; exact ⟨H', I'.unwish, q⟩) fun _ _ z => False.elim z
theorem PSs.nox {st : List Stmt} {t : TS} (h : PSs X.nox st t) : PSs X st t := fun pins s σ H D I hw =>
  wpAny_mono (h pins s σ H D (I.wish _) hw) (fun _ _ q => q.unwish) fun _ _ z => False.elim z
end

/-! ### blocks and small statements -/
section
variable {X : Cx} {st : Stmt} {rest : List Stmt} {t u : TS} {e : Expr} {te : TE} {pos : Pos}
noncomputable def tNext : TS := fun D σ H => D.nx σ H
noncomputable def tSeq (t u : TS) : TS := fun D σ H => t { D with nx := u D } σ H
theorem pss_nil : PSs X [] tNext := fun _ _ σ H _ I h => wpAny_execs_nil ⟨σ, H, I, h⟩
theorem pss_cons (h1 : PS X st t) (h2 : PSs X rest u) : PSs X (st :: rest) (tSeq t u) := by
  intro pins s σ H D I h
  refine wpAny_execs_cons (thn (h1 pins s σ H { D with nx := u D } I h) fun f s1 q => ?_)
  cases f with
  | next =>
    obtain ⟨σ', H', I', q⟩ := q
    exact h2 pins s1 σ' H' D I' q
  | ret v => exact q
  | brk => exact q
  | cont => exact q
theorem pss_one (h1 : PS X st t) : PSs X [st] t := by
  intro pins s σ H D I h
  refine wpAny_execs_cons (thn (h1 pins s σ H D I h) fun f s1 q => ?_)
  cases f with
  | next => exact wpAny_execs_nil q
  | ret v => exact q
  | brk => exact q
  | cont => exact q
/-- in a def's body nothing is shown -/
theorem Inv.quiet {pins : List (Addr × Obj)} {σ : St} {H : Hp} {s : Shared} (I : Inv X pins σ H s) : interactive X.env = false := by simp [interactive, I.ok.kind]
/-- an expression whose value is dropped -/
noncomputable def tDrop (te : TE) : TS := fun D σ H => te σ H fun _ H1 => D.nx σ H1
theorem ps_expr (he : PE X e te) (hs : swapsWith e none pos.line X.env = pure false := by rfl) : PS X (.Expr e pos) (tDrop te) := by
  intro pins s σ H D I h
  exact wpAny_Expr_any (thn (he pins s σ H _ I h) fun v s1 hsl12 => by obtain ⟨x, H1, I1, r1, q1⟩ := hsl12; exact ⟨σ, H1, I1, q1⟩) I.quiet hs
noncomputable def tRet (te : TE) : TS := fun D σ H => te σ H D.rt
theorem ps_ret (he : PE X e te) : PS X (.Return (some e) pos) (tRet te) := by
  intro pins s σ H D I h
  exact wpAny_Return_some (thn (he pins s σ H _ I h) fun v s1 hsl13 => by obtain ⟨x, H1, I1, r1, q1⟩ := hsl13; exact ⟨x, σ, H1, I1, r1, q1⟩)
noncomputable def tIfS (c : TT) (t u : TS) : TS := fun D σ H => c σ H fun b H1 => if b = true then t D σ H1 else u D σ H1
theorem ps_if {c : Expr} {a b : List Stmt} {tc : TT} (hc : PT X c tc) (ha : PSs X a t) (hb : PSs X b u) : PS X (.If c a b pos) (tIfS tc t u) := by
  intro pins s σ H D I h
  refine wpAny_If (thn (hc pins s σ H _ I h) fun d s1 hsl14 => ?_)
  obtain ⟨H1, I1, q1⟩ := hsl14
  cases d with
  | true => exact ha pins s1 σ H1 D I1 q1
  | false => exact hb pins s1 σ H1 D I1 q1
/-- code that the proof never comes to -/
noncomputable def tNever : TS := fun _ _ _ => False
theorem pss_never {sts : List Stmt} : PSs X sts tNever := fun _ _ _ _ _ _ h => h.elim
end

/-! ### targets -/
noncomputable abbrev TG := V → St → Hp → (St → Hp → Prop) → Prop
noncomputable abbrev TGs := List V → St → Hp → (St → Hp → Prop) → Prop
noncomputable def PG (X : Cx) (target : Expr) (t : TG) : Prop :=
  ∀ (pins : List (Addr × Obj)) (s : Shared) (σ : St) (H : Hp) (v : V) (u : Value) (Q : St → Hp → Prop), Inv X pins σ H s → RelV v u → t v σ H Q →
    wpAny (model X.prog X.w) X.A (assign target X.env u) (fun _ s' => ∃ σ' H', Inv X pins σ' H' s' ∧ Q σ' H') X.xe s
/-- several targets, one after another -/
noncomputable def PGs (X : Cx) (ts : List Expr) (t : TGs) : Prop :=
  ∀ (pins : List (Addr × Obj)) (s : Shared) (σ : St) (H : Hp) (vs : List V) (us : List Value) (Q : St → Hp → Prop), Inv X pins σ H s → Vals vs us → t vs σ H Q →
    wpAny (model X.prog X.w) X.A (assignInOrder ((assignEach ts X.env).map (·.2)) us) (fun _ s' => ∃ σ' H', Inv X pins σ' H' s' ∧ Q σ' H') X.xe s
section
variable {X : Cx} {pos : Pos}
noncomputable def gName (i : Nat) : TG := fun v σ H Q => Q (σ.set i (some v)) H
theorem pg_name {i : Nat} {x : Str} (hN : X.N.Nodup) (hi : X.N[i]? = some x) (hx : Loc X.env.scope x) (hf : X.fn x = true ∨ X.env.scope.names.lookup x = some .local := by first | exact .inl rfl | exact .inr rfl | assumption) : PG X (.Name x pos) (gName i) := by
  intro pins s σ H v u Q I r h
  exact wpAny_assign_Name (store_ok I hN hi hx r (fun s' I' => ⟨_, H, I', h⟩) hf)
noncomputable def gNil : TGs := fun vs σ H Q => vs = [] ∧ Q σ H
noncomputable def gCons (t : TG) (u : TGs) : TGs := fun vs σ H Q => ∃ v r, vs = v :: r ∧ t v σ H fun σ' H' => u r σ' H' Q
theorem pgs_nil : PGs X [] gNil := by
  intro pins s σ H vs us Q I r h
  obtain ⟨e, h⟩ := h
  subst e
  cases r
  exact assignInOrder_nil ⟨σ, H, I, h⟩
theorem pgs_cons {e : Expr} {es : List Expr} {t : TG} {u : TGs} (h1 : PG X e t) (h2 : PGs X es u)
    (hs : (assignEach (e :: es) X.env).map (·.2) = assign e X.env :: (assignEach es X.env).map (·.2) := by rfl) : PGs X (e :: es) (gCons t u) := by
  intro pins s σ H vs us Q I r h
  obtain ⟨v, vr, e1, h⟩ := h
  subst e1
  cases r with
  | cons r rr =>
    rw [hs]
    refine assignInOrder_cons (thn (h1 pins s σ H _ _ _ I r h) fun _ s1 hsl15 => ?_)
    obtain ⟨σ1, H1, I1, q1⟩ := hsl15
    exact h2 pins s1 σ1 H1 _ _ Q I1 rr q1
/-- (a, b, ..) = a tuple of that length -/
noncomputable def gTup (K : PySem.W.Frag) (n : Nat) (t : TGs) : TG := fun v σ H Q => ∃ a xs, v = .ref a ∧ SqT K H a xs ∧ xs.length = n ∧ t xs σ H Q
theorem pg_tup {es : List Expr} {k : Nat} {t : TGs} {n : Nat} (hc : X.calm = true) (h : PGs X es t)
    (hn : (assignEach es X.env).length = n := by rfl) (hst : (assignEach es X.env).findIdx? (·.1) = none := by rfl) : PG X (.Tuple es k pos) (gTup X.K n t) := by
  intro pins s σ H v u Q I r hw
  obtain ⟨a, xs, e1, hq, hl, hw⟩ := hw
  subst e1
  cases r
  obtain ⟨its, rv, ht, hz⟩ := I.tuple hq
  refine assign_Tuple_tuple (I.ok.hd hc) ht (by simp [hn, ← hl, rv.length]) hst fun h' hx => ?_
  have I1 : Inv X pins σ H { s with heap := h' } := I.kept (t' := s.toks) fun b o e => hx b o (Nat.ne_of_lt (Heap.lt_size e)) e
  exact h pins _ σ H xs _ Q I1 (by simpa using rv) hw
/-- target = value -/
noncomputable def tAsg (te : TE) (g : TG) : TS := fun D σ H => te σ H fun x H1 => g x σ H1 D.nx
/-- name = value -/
theorem ps_set {i : Nat} {x : Str} {e : Expr} {te : TE} {pos' : Pos} (hN : X.N.Nodup) (hi : X.N[i]? = some x) (hx : Loc X.env.scope x) (he : PE X e te) (hs : swapsWith e (some (.Name x pos')) pos.line X.env = pure false := by rfl) (hf : X.fn x = true ∨ X.env.scope.names.lookup x = some .local := by first | exact .inl rfl | exact .inr rfl | assumption) :
    PS X (.Assign [.Name x pos'] e pos) (tAsg te (gName i)) := by
  intro pins s σ H D I h
  refine wpAny_Assign_Name (thn (he pins s σ H _ I h) fun v s1 hsl16 => ?_) hs
  obtain ⟨y, H1, I1, r1, q1⟩ := hsl16
  exact store_ok I1 hN hi hx r1 (fun s2 I2 => ⟨_, H1, I2, q1⟩) hf
end

/-! ### while -/
section
variable {X : Cx} {pos : Pos}
/-- the invariant W with its measure -/
noncomputable def tWhile (c : TT) (tb : TS) : TS := fun D σ H => ∃ W : Nat → St → Hp → Prop, (∃ m, W m σ H) ∧ ∀ m σ H, W m σ H →
  c σ H fun b H1 => if b = true then ∃ N : St → Hp → Prop, (∀ σ' H', N σ' H' → ∃ m', m' < m ∧ W m' σ' H') ∧ tb { D with nx := N, ct := N, bk := D.nx } σ H1 else D.nx σ H1
theorem ps_while {c : Expr} {body : List Stmt} {tc : TT} {tb : TS} (hp : PassesOwn (model X.prog X.w) X.A X.env X.xe) (hc : PT X c tc) (hb : PSs X body tb) : PS X (.While c body [] pos) (tWhile tc tb) := by
  intro pins s σ H D I h
  obtain ⟨W, ⟨m0, w0⟩, turn⟩ := h
  refine wpAny_While (codeAny_whileLoop (fun n s' => ∃ σ' H', Inv X pins σ' H' s' ∧ W n σ' H') ?_ m0 ⟨σ, H, I, w0⟩)
  rintro n s1 ⟨σ1, H1, I1, w1⟩
  refine wpAny_passesOwn hp (thn (hc pins s1 σ1 H1 _ I1 (turn n σ1 H1 w1)) fun b s2 hsl17 => ?_)
  obtain ⟨H2, I2, q2⟩ := hsl17
  cases b with
  | true =>
    obtain ⟨N, hN, q2⟩ := q2
    rw [if_pos rfl]
    refine wpAny_passesOwn hp (thn (hb pins s2 σ1 H2 _ I2 q2) fun f s3 q3 => ?_)
    cases f with
    | next =>
      obtain ⟨σ3, H3, I3, n3⟩ := q3
      obtain ⟨m', hm, w3⟩ := hN σ3 H3 n3
      exact ⟨m', hm, σ3, H3, I3, w3⟩
    | cont =>
      obtain ⟨σ3, H3, I3, n3⟩ := q3
      obtain ⟨m', hm, w3⟩ := hN σ3 H3 n3
      exact ⟨m', hm, σ3, H3, I3, w3⟩
    | brk => exact q3
    | ret v => exact q3
  | false =>
    rw [if_neg Bool.false_ne_true]
    exact wpAny_execs_nil ⟨σ1, H2, I2, q2⟩
end

/-! ### what a loop or a comprehension walks -/
/-- at turn i: it yields x (the heap may grow), or it stops -/
structure It where
  go : Nat → Hp → Prop
  yld : Nat → Hp → V → Hp → Prop
  stop : Nat → Hp → Prop
/-- the iterator's own objects may turn: they are not the frame's, not pinned, younger than the entry (or a comprehension's own) -/
noncomputable def FpOk (X : Cx) (pins : List (Addr × Obj)) (H : Hp) (b : Addr) : Prop :=
  H b = none ∧ b ≠ X.env.locals ∧ b ∉ X.fs ∧ (b ∈ X.ex ∨ X.s₀.heap.objs.size ≤ b) ∧ (∀ x c, X.env.cells.lookup x = some c → c ≠ b) ∧ ∀ p ∈ X.pn ++ pins, p.1 ≠ b
theorem Inv.fpOk {X : Cx} {pins : List (Addr × Obj)} {σ : St} {H H' : Hp} {s : Shared} {b : Addr} (I : Inv X pins σ H s) (hb : s.heap.objs.size ≤ b) (hn : H' b = none) : FpOk X pins H' b := by
  refine ⟨hn, Nat.ne_of_gt (Nat.lt_of_lt_of_le I.lt hb), I.nofs hb, .inr (Nat.le_trans I.sz hb), fun x c e z => ?_, fun p hp z => ?_⟩
  · obtain ⟨v, q⟩ := I.cell x c e
    exact absurd (Nat.lt_of_lt_of_le q.lt (by rw [z]; exact hb)) (Nat.lt_irrefl _)
  · exact absurd (Nat.lt_of_lt_of_le (Heap.lt_size (I.pin p hp).1) (by rw [z]; exact hb)) (Nat.lt_irrefl _)
structure Turn (P : Program) (w : World) (K : PySem.W.Frag) (tg : Expr) (J : It) (fp : List Addr) (it : Addr) (tn : Nat → Heap → Prop) : Prop where
  mem : it ∈ fp
  obj : ∀ i h, tn i h → ∀ b ∈ fp, ∃ o, h.get? b = some o ∧ ∀ v, o.data ≠ .cell v
  keep : ∀ i h h', tn i h → (∀ b ∈ fp, ∀ o, h.get? b = some o → h'.get? b = some o) → tn i h'
  item : ∀ (X : Cx), X.prog = P → X.w = w → X.K = K → X.calm = true → ∀ (i : Nat) (pins : List (Addr × Obj)) (s : Shared) (σ : St) (H : Hp) (E : Value → Shared → Prop), Inv X pins σ H s → (∀ b ∈ fp, FpOk X pins H b) → tn i s.heap → J.go i H →
    wpAny (model P w) X.A (pyNext (.ref it)) (fun r s1 => ∃ u, r = some u ∧
      wpAny (model P w) X.A (letOwnedTupleGo tg (.ref it) u) (fun _ s2 => ∃ x H', Inv X pins σ H' s2 ∧ RelV x u ∧ J.yld i H x H' ∧ tn (i + 1) s2.heap ∧ ∀ b ∈ fp, H' b = none) E s1) E s
  done : ∀ (X : Cx), X.prog = P → X.w = w → X.K = K → X.calm = true → ∀ (i : Nat) (pins : List (Addr × Obj)) (s : Shared) (σ : St) (H : Hp) (E : Value → Shared → Prop), Inv X pins σ H s → (∀ b ∈ fp, FpOk X pins H b) → tn i s.heap → J.stop i H →
    wpAny (model P w) X.A (pyNext (.ref it)) (fun r s1 => r = none ∧ Inv X pins σ H s1) E s
  self : ∀ (A : Around) (i : Nat) (s : Shared) (Q : Value → Shared → Prop) (E : Value → Shared → Prop), tn i s.heap → Q (.ref it) s → wpAny (model P w) A (pyIter (.ref it)) Q E s
noncomputable abbrev TI := St → Hp → (It → Hp → Prop) → Prop
/-- an iterator has come -/
noncomputable def PIE (X : Cx) (pins : List (Addr × Obj)) (σ : St) (tg : Expr) (R : It → Hp → Prop) (itv : Value) (s2 : Shared) : Prop :=
  ∃ (it : Addr) (fp : List Addr) (tn : Nat → Heap → Prop) (J : It) (H' : Hp), itv = .ref it ∧ Inv X pins σ H' s2 ∧ Turn X.prog X.w X.K tg J fp it tn ∧ tn 0 s2.heap ∧ (∀ b ∈ fp, FpOk X pins H' b) ∧ R J H'
noncomputable def PI (X : Cx) (tg iter : Expr) (wi : TI) : Prop :=
  ∀ (pins : List (Addr × Obj)) (s : Shared) (σ : St) (H : Hp) (R : It → Hp → Prop), Inv X pins σ H s → wi σ H R →
    wpAny (model X.prog X.w) X.A (eval iter X.env) (fun v s1 => wpAny (model X.prog X.w) X.A (pyIter v) (PIE X pins σ tg R) X.xe s1) X.xe s

/-- the step ahead of the store is nothing for an iterator that keeps no tuple -/
theorem go_of {M : Model} {A : Around} {E : Value → Shared → Prop} {s : Shared} {tg : Expr} {it : Addr} {u : Value} {o : Obj} {n : String} {vs : Array Value} {Q : Unit → Shared → Prop} (ho : s.heap.get? it = some o) (hc : o.cls = .type n) (hd : o.data = .fields vs)
    (hn : ["enumerate", "zip", "dict_itemiterator", "dict_reverseitemiterator", "odict_iterator", "itertools.zip_longest", "itertools.pairwise"].contains n = false) (hQ : Q () s) : wpAny M A (letOwnedTupleGo tg (.ref it) u) Q E s := by
  unfold letOwnedTupleGo
  cases tg <;> first
    | exact wpAny_pure hQ
    | (cases u <;> first
        | exact wpAny_pure hQ
        | (refine wpAny_bind (wpAny_load ho ?_)
           rw [hc, hd]
           show wpAny M A (if (["enumerate", "zip", "dict_itemiterator", "dict_reverseitemiterator", "odict_iterator", "itertools.zip_longest", "itertools.pairwise"].contains n && vs[0]? == some (rawInt _)) = true then _ else _) Q E s
           rw [if_neg (by intro h; rw [hn, Bool.false_and] at h; cases h)]
           exact wpAny_pure hQ))

/-- the list at a, as it stands at each turn (a loop may append to it) -/
noncomputable def Itl (K : PySem.W.Frag) (a : Addr) : It :=
  ⟨fun i H => ∃ xs x, SqL K H a xs ∧ xs[i]? = some x, fun i H x H' => H' = H ∧ ∀ xs, SqL K H a xs → xs[i]? = some x, fun i H => ∃ xs, SqL K H a xs ∧ xs.length ≤ i⟩
/-- lo, lo + 1, .. (n of them) -/
noncomputable def Itr (lo : Int) (n : Nat) : It := ⟨fun i _ => i < n, fun i H x H' => H' = H ∧ x = .int (lo + i), fun i _ => n ≤ i⟩
theorem turn_list {P : Program} {w : World} {K : PySem.W.Frag} {tg : Expr} (a it : Addr) : Turn P w K tg (Itl K a) [it] it (fun i h => h.IsListIter it a i) where
  mem := by simp
  obj := fun i h st b hb => by
    have e : b = it := by simpa using hb
    subst e
    obtain ⟨o, e, c, d⟩ := st
    exact ⟨o, e, fun v z => by rw [d] at z; cases z⟩
  keep := fun i h h' st k => st.at fun o e => k it (by simp) o e
  item := by
    intro X hP hw hK hc i pins s σ H E I hf st hg
    subst hP hw hK
    obtain ⟨xs, x, hq, hx⟩ := hg
    obtain ⟨its, rv, p, hz⟩ := I.list hq
    obtain ⟨u, hu, ru⟩ := rv.get hx
    obtain ⟨f0, f1, f2, f3, f4, f5⟩ := hf it (by simp)
    refine wpAny_pyNext_list_item st p.isList (x := u) (by simpa using hu) fun h' st' sb => ?_
    have I1 : Inv X pins σ H { s with heap := h' } := I.turned (t' := s.toks) (fun b o hb e => (sb.2 b hb).trans e) f0 f1 f3 f4 f5
    obtain ⟨o, e, c, d⟩ := id st'
    exact ⟨u, rfl, go_of (s := { s with heap := h' }) e c d (by decide) ⟨x, H, I1, ru, ⟨rfl, fun ys hy => by rw [I.list_inj hy hq]; exact hx⟩, st', fun b hb => (hf b hb).1⟩⟩
  done := by
    intro X hP hw hK hc i pins s σ H E I hf st hg
    subst hP hw hK
    obtain ⟨xs, hq, hx⟩ := hg
    obtain ⟨its, rv, p, hz⟩ := I.list hq
    obtain ⟨f0, f1, f2, f3, f4, f5⟩ := hf it (by simp)
    have hl := rv.length
    exact wpAny_pyNext_list_end (I.ok.hd hc) st p.isList (by simp; omega) fun h' eb => ⟨rfl, I.turned (t' := s.toks) (fun b o hb e => eb b o hb e) f0 f1 f3 f4 f5⟩
  self := fun _ _ _ _ _ st h => wpAny_pyIter_listiter st h
theorem turn_range {P : Program} {w : World} {K : PySem.W.Frag} {tg : Expr} (it : Addr) (lo : Int) (n : Nat) : Turn P w K tg (Itr lo n) [it] it (fun i h => IsRangeIter h it (lo + (i : Nat) * 1) ((n : Int) - (i : Nat)) 1) where
  mem := by simp
  obj := fun i h st b hb => by
    have e : b = it := by simpa using hb
    subst e
    exact ⟨_, st, fun v z => by
      have z' : Data.fields _ = Data.cell v := z
      cases z'⟩
  keep := fun i h h' st k => k it (by simp) _ st
  item := by
    intro X hP hw hK hc i pins s σ H E I hf st hg
    subst hP hw hK
    obtain ⟨f0, f1, f2, f3, f4, f5⟩ := hf it (by simp)
    have W := Walks.range (prog := X.prog) (w := X.w) (I.ok.hd hc) it lo 1 n
    refine W.item i s _ _ hg st fun v h' tk hv st' kk => ?_
    obtain ⟨t, rfl⟩ := hv
    have I1 : Inv X pins σ H { s with heap := h', toks := tk } := I.turned (fun b o hb e => kk b o (by simpa using hb) e) f0 f1 f3 f4 f5
    refine ⟨_, rfl, go_of (s := { s with heap := h', toks := tk }) (n := "range_iterator") st' rfl rfl (by decide) ⟨.int (lo + i), H, I1, ⟨t, ?_⟩, ⟨rfl, rfl⟩, st', fun b hb => (hf b hb).1⟩⟩
    rw [Int.mul_one]
  done := by
    intro X hP hw hK hc i pins s σ H E I hf st hg
    subst hP hw hK
    obtain ⟨f0, f1, f2, f3, f4, f5⟩ := hf it (by simp)
    exact wpAny_pyNext_range_end (I.ok.hd hc) st (by have : n ≤ i := hg; omega) fun h' eb => ⟨rfl, I.turned (t' := s.toks) (fun b o hb e => eb b o hb e) f0 f1 f3 f4 f5⟩
  self := fun _ _ _ _ _ st h => wpAny_pyIter_rangeiter st h
end L2

namespace L2
open PySem PySem.Spec PyProof.Rows
section
variable {X : Cx} {tg : Expr}
noncomputable def iList (K : PySem.W.Frag) (tl : TE) : TI := fun σ H R => tl σ H fun x H1 => ∃ a, x = .ref a ∧ (∃ xs, SqL K H1 a xs) ∧ R (Itl K a) H1
theorem pi_list {l : Expr} {tl : TE} (hl : PE X l tl) : PI X tg l (iList X.K tl) := by
  intro pins s σ H R I h
  refine thn (hl pins s σ H _ I h) fun v s1 hsl18 => ?_
  obtain ⟨x, H1, I1, r1, q1⟩ := hsl18
  obtain ⟨a, e, ⟨xs, hq⟩, q⟩ := q1
  subst e
  cases r1
  obtain ⟨its, rv, p, hz⟩ := I1.list hq
  refine wpAny_pyIter_list p.isList ?_
  refine ⟨s1.heap.objs.size, [s1.heap.objs.size], _, _, H1, rfl, I1.kept (t' := s1.toks) fun b o e => Heap.get?_push_of_some _ e, turn_list a _, ⟨_, Heap.get?_push_size _ rfl, rfl, rfl⟩, fun b hb => ?_, q⟩
  have e : b = s1.heap.objs.size := by simpa using hb
  subst e
  exact I1.fpOk (Nat.le_refl _) (I1.hok.fresh (Nat.le_refl _))
/-- a range object just made, walked -/
theorem range_it {pins : List (Addr × Obj)} {σ : St} {H : Hp} {s : Shared} {R : It → Hp → Prop} {E : Value → Shared → Prop} {lo hi : Int} {t u v : Tok} {tk : Nat} (I : Inv X pins σ H s) (h1 : -(2 ^ 62) ≤ lo) (h2 : lo < 2 ^ 62) (h3 : -(2 ^ 62) ≤ hi) (h4 : hi < 2 ^ 62)
    (q : R (Itr lo (hi - lo).toNat) H) : wpAny (model X.prog X.w) X.A (pyIter (.ref s.heap.objs.size)) (PIE X pins σ tg R) E { s with heap := s.heap.push { cls := .type "range", data := .fields #[.int lo t, .int hi u, .int 1 v] }, toks := tk } := by
  refine wpAny_pyIter_range (IsRange.new ..) (small_one h1 h2 h3 h4) ?_
  have I1 : Inv X pins σ H { s with heap := s.heap.push { cls := .type "range", data := .fields #[.int lo t, .int hi u, .int 1 v] }, toks := tk } := I.kept fun b o e => Heap.get?_push_of_some _ e
  refine ⟨(s.heap.push { cls := .type "range", data := .fields #[.int lo t, .int hi u, .int 1 v] }).objs.size, [(s.heap.push { cls := .type "range", data := .fields #[.int lo t, .int hi u, .int 1 v] }).objs.size], _, _, H, rfl,
    I1.kept (t' := tk) fun b o e => Heap.get?_push_of_some _ e, turn_range _ lo (hi - lo).toNat, ?_, fun b hb => ?_, q⟩
  · have e1 : lo + ((0 : Nat) : Int) * 1 = lo := by simp
    have e2 : (((hi - lo).toNat : Nat) : Int) - ((0 : Nat) : Int) = Builtin.Range.rangeSize lo hi 1 := by rw [rangeSize_one]; split <;> omega
    show IsRangeIter _ _ (lo + ((0 : Nat) : Int) * 1) ((((hi - lo).toNat : Nat) : Int) - ((0 : Nat) : Int)) 1
    rw [e1, e2]
    exact Heap.get?_push_size _ rfl
  · have e : b = (s.heap.push { cls := .type "range", data := .fields #[.int lo t, .int hi u, .int 1 v] }).objs.size := by simpa using hb
    subst e
    exact I1.fpOk (Nat.le_refl _) (I1.hok.fresh (Nat.le_refl _))
noncomputable def iRng1 (ta : TA) : TI := fun σ H R => ta σ H fun vs H1 => ∃ j : Int, vs = [.int j] ∧ -(2 ^ 62) ≤ j ∧ j < 2 ^ 62 ∧ R (Itr 0 j.toNat) H1
theorem pi_range1 {a : Expr} {ta : TA} {p pos : Pos} (hg : Gl X "range") (hm : X.mg "range" = none) (ha : PA X [a] ta) (hs : starEach [a] X.env = [(false, eval a X.env)] := by rfl) : PI X tg (.Call (.Name "range" p) [a] [] pos) (iRng1 ta) := by
  intro pins s σ H R I h
  refine Call_ (ld_blt I hg hm boot_range (PyProof.Rows.callWith_type1 (thn (ha pos pins s σ H _ I h) fun us s1 hsl19 => ?_) hs rfl))
  obtain ⟨vs, H1, I1, r1, q1⟩ := hsl19
  obtain ⟨j, e, q1, q2, q⟩ := q1
  subst e
  cases r1 with
  | cons r rr =>
    cases rr
    obtain ⟨t, rfl⟩ := r
    exact call_range_1 (range_it I1 (by omega) (by omega) q1 q2 (by simpa using q))
/-! ### for -/
/-- W: the invariant by the turn and a measure; N: what the body is to reach -/
noncomputable def tFor (wi : TI) (g : TG) (tb : TS) : TS := fun D σ H => wi σ H fun J H1 => ∃ W : Nat → Nat → St → Hp → Prop, (∃ m, W 0 m σ H1) ∧ ∀ i m σ H, W i m σ H →
  (J.stop i H ∧ D.nx σ H) ∨ (J.go i H ∧ ∃ N : St → Hp → Prop, (∀ σ' H', N σ' H' → ∃ m', m' < m ∧ W (i + 1) m' σ' H') ∧ ∀ x H', J.yld i H x H' → g x σ H' fun σ2 H2 => tb { D with nx := N, ct := N, bk := D.nx } σ2 H2)
/-- the records at fp as they stand -/
noncomputable def pinsAt (fp : List Addr) (h : Heap) : List (Addr × Obj) := fp.filterMap fun b => (h.get? b).map fun o => (b, o)
theorem mem_pinsAt {fp : List Addr} {h : Heap} {b : Addr} {o : Obj} (hb : b ∈ fp) (e : h.get? b = some o) : (b, o) ∈ pinsAt fp h := List.mem_filterMap.mpr ⟨b, hb, by rw [e]; rfl⟩
theorem of_pinsAt {fp : List Addr} {h : Heap} {p : Addr × Obj} (hp : p ∈ pinsAt fp h) : p.1 ∈ fp ∧ h.get? p.1 = some p.2 := by
  obtain ⟨b, hb, e⟩ := List.mem_filterMap.mp hp
  cases q : h.get? b with
  | none => rw [q] at e; cases e
  | some o =>
    rw [q] at e
    have e' : (b, o) = p := Option.some.inj e
    subst e'
    exact ⟨hb, q⟩
theorem Inv.pinned {pins : List (Addr × Obj)} {σ : St} {H : Hp} {s : Shared} {fp : List Addr} (I : Inv X pins σ H s) (hf : ∀ b ∈ fp, FpOk X pins H b) (ho : ∀ b ∈ fp, ∃ o, s.heap.get? b = some o ∧ ∀ v, o.data ≠ .cell v) : Inv X (pins ++ pinsAt fp s.heap) σ H s :=
  I.pins_of fun p hp => (List.mem_append.mp hp).elim (fun z => I.pin p (List.mem_append_right _ z)) fun z => by
    obtain ⟨hb, e⟩ := of_pinsAt z
    obtain ⟨f0, f1, f2, _⟩ := hf p.1 hb
    obtain ⟨o, e', d⟩ := ho p.1 hb
    rw [e] at e'; cases e'
    exact ⟨e, f0, f1, f2, d⟩
theorem Inv.unpinned {pins pl : List (Addr × Obj)} {σ : St} {H : Hp} {s : Shared} (I : Inv X (pins ++ pl) σ H s) : Inv X pins σ H s := I.pins_of fun p hp => I.pin p (List.mem_append_right _ (List.mem_append_left _ hp))
theorem ps_for {iter : Expr} {body : List Stmt} {wi : TI} {g : TG} {tb : TS} {pos : Pos} (hp : PassesOwn (model X.prog X.w) X.A X.env X.xe) (hc : X.calm = true) (hi : PI X tg iter wi) (hg : PG X tg g) (hb : PSs X body tb)
    (hs : ∀ x, foldedSetIterable iter X.env x = pure x := by intro _; rfl) : PS X (.For tg iter body [] pos) (tFor wi g tb) := by
  intro pins s σ H D I h
  refine wpAny_For (thn (hi pins s σ H _ I h) fun v s1 h1 => thn h1 fun itv s2 h2 => ?_) hs
  obtain ⟨it, fp, tn, J, H2, e, I2, T, st2, f2, W, ⟨m0, w0⟩, turn⟩ := h2
  subst e
  -- what stays true of the iterator's objects through the loop
  have stat : ∀ {H' : Hp}, (∀ b ∈ fp, H' b = none) → ∀ b ∈ fp, FpOk X pins H' b := fun hn b hb => ⟨hn b hb, (f2 b hb).2⟩
  refine codeAny_forLoop_any (fun n s' => ∃ i σ' H', Inv X pins σ' H' s' ∧ tn i s'.heap ∧ (∀ b ∈ fp, H' b = none) ∧ W i n σ' H') ?_ m0 ⟨0, σ, H2, I2, st2, fun b hb => (f2 b hb).1, w0⟩
  rintro n s3 ⟨i, σ3, H3, I3, st3, fr3, w3⟩
  rcases turn i n σ3 H3 w3 with ⟨stop, qn⟩ | ⟨go, N, hN, step⟩
  · refine wpAny_passesOwn hp (thn (T.done X rfl rfl rfl hc i pins s3 σ3 H3 X.xe I3 (stat fr3) st3 stop) fun r s4 hsl20 => ?_)
    obtain ⟨hr, I4⟩ := hsl20
    subst hr
    exact wpAny_execs_nil ⟨σ3, H3, I4, qn⟩
  · refine wpAny_passesOwn hp (thn (T.item X rfl rfl rfl hc i pins s3 σ3 H3 X.xe I3 (stat fr3) st3 go) fun r s4 hsl21 => ?_)
    obtain ⟨u, hr, h4⟩ := hsl21
    subst hr
    refine wpAny_passesOwn hp (thn h4 fun _ s5 hsl22 => ?_)
    obtain ⟨x, H5, I5, r5, y5, st5, fr5⟩ := hsl22
    have I5' := I5.pinned (stat fr5) (T.obj _ _ st5)
    refine wpAny_passesOwn hp (thn (hg _ s5 σ3 H5 x u _ I5' r5 (step x H5 y5)) fun _ s6 hsl23 => ?_)
    obtain ⟨σ6, H6, I6, q6⟩ := hsl23
    refine wpAny_passesOwn hp (thn (hb _ s6 σ6 H6 _ I6 q6) fun f s7 q7 => ?_)
    have again : ∀ {σ7 : St} {H7 : Hp}, Inv X (pins ++ pinsAt fp s5.heap) σ7 H7 s7 → N σ7 H7 → ∃ m, m < n ∧ ∃ i σ' H', Inv X pins σ' H' s7 ∧ tn i s7.heap ∧ (∀ b ∈ fp, H' b = none) ∧ W i m σ' H' := fun {σ7 H7} I7 n7 => by
      obtain ⟨m', hm, w7⟩ := hN σ7 H7 n7
      refine ⟨m', hm, i + 1, σ7, H7, I7.unpinned, T.keep _ _ _ st5 fun b hb o e => (I7.pin (b, o) (List.mem_append_right _ (List.mem_append_right _ (mem_pinsAt hb e)))).1, fun b hb => ?_, w7⟩
      obtain ⟨o, e, d⟩ := T.obj _ _ st5 b hb
      exact (I7.pin (b, o) (List.mem_append_right _ (List.mem_append_right _ (mem_pinsAt hb e)))).2.1
    cases f with
    | next => obtain ⟨σ7, H7, I7, n7⟩ := q7; exact again I7 n7
    | cont => obtain ⟨σ7, H7, I7, n7⟩ := q7; exact again I7 n7
    | brk => obtain ⟨σ7, H7, I7, q7⟩ := q7; exact ⟨σ7, H7, I7.unpinned, q7⟩
    | ret v => obtain ⟨x7, σ7, H7, I7, r7, q7⟩ := q7; exact ⟨x7, σ7, H7, I7.unpinned, r7, q7⟩
end

/-! ### the forms one uses -/
/-- over a list that the body leaves as it is -/
theorem for_list {K : PySem.W.Frag} {a : Addr} {xs : List V} {g : TG} {tb : TS} {D : Ends} {σ : St} {H : Hp} (Pv : Nat → St → Hp → Prop) (h0 : Pv 0 σ H) (hl : ∀ i σ H, i ≤ xs.length → Pv i σ H → SqL K H a xs)
    (hs : ∀ i x σ H, xs[i]? = some x → Pv i σ H → g x σ H fun σ2 H2 => tb { D with nx := Pv (i + 1), ct := Pv (i + 1), bk := D.nx } σ2 H2) (hd : ∀ σ H, Pv xs.length σ H → D.nx σ H) :
    ∃ W : Nat → Nat → St → Hp → Prop, (∃ m, W 0 m σ H) ∧ ∀ i m σ H, W i m σ H →
      ((Itl K a).stop i H ∧ D.nx σ H) ∨ ((Itl K a).go i H ∧ ∃ N : St → Hp → Prop, (∀ σ' H', N σ' H' → ∃ m', m' < m ∧ W (i + 1) m' σ' H') ∧ ∀ x H', (Itl K a).yld i H x H' → g x σ H' fun σ2 H2 => tb { D with nx := N, ct := N, bk := D.nx } σ2 H2) := by
  refine ⟨fun i m σ H => m = xs.length - i ∧ i ≤ xs.length ∧ Pv i σ H, ⟨xs.length, by simp, Nat.zero_le _, h0⟩, ?_⟩
  rintro i m σ H ⟨rfl, hi, p⟩
  have q := hl i σ H hi p
  by_cases hlt : i < xs.length
  · refine .inr ⟨⟨xs, xs[i], q, by simp [hlt]⟩, Pv (i + 1), fun σ' H' p' => ⟨xs.length - (i + 1), by omega, rfl, hlt, p'⟩, fun x H' y => ?_⟩
    obtain ⟨e, y⟩ := y
    subst e
    exact hs i x σ _ (y xs q) p
  · have e : i = xs.length := by omega
    subst e
    exact .inl ⟨⟨xs, q, Nat.le_refl _⟩, hd σ H p⟩
theorem for_range {lo : Int} {n : Nat} {g : TG} {tb : TS} {D : Ends} {σ : St} {H : Hp} (Pv : Nat → St → Hp → Prop) (h0 : Pv 0 σ H)
    (hs : ∀ i σ H, i < n → Pv i σ H → g (.int (lo + i)) σ H fun σ2 H2 => tb { D with nx := Pv (i + 1), ct := Pv (i + 1), bk := D.nx } σ2 H2) (hd : ∀ σ H, Pv n σ H → D.nx σ H) :
    ∃ W : Nat → Nat → St → Hp → Prop, (∃ m, W 0 m σ H) ∧ ∀ i m σ H, W i m σ H →
      ((Itr lo n).stop i H ∧ D.nx σ H) ∨ ((Itr lo n).go i H ∧ ∃ N : St → Hp → Prop, (∀ σ' H', N σ' H' → ∃ m', m' < m ∧ W (i + 1) m' σ' H') ∧ ∀ x H', (Itr lo n).yld i H x H' → g x σ H' fun σ2 H2 => tb { D with nx := N, ct := N, bk := D.nx } σ2 H2) := by
  refine ⟨fun i m σ H => m = n - i ∧ i ≤ n ∧ Pv i σ H, ⟨n, by simp, Nat.zero_le _, h0⟩, ?_⟩
  rintro i m σ H ⟨rfl, hi, p⟩
  by_cases hlt : i < n
  · refine .inr ⟨hlt, Pv (i + 1), fun σ' H' p' => ⟨n - (i + 1), by omega, rfl, hlt, p'⟩, fun x H' y => ?_⟩
    obtain ⟨e, y⟩ := y
    subst e y
    exact hs i σ _ hlt p
  · have e : i = n := by omega
    subst e
    exact .inl ⟨Nat.le_refl _, hd σ H p⟩
/-- while, by a word and a measure of the state -/
theorem while_by {c : TT} {tb : TS} {D : Ends} {σ : St} {H : Hp} (Pv : St → Hp → Prop) (μ : St → Hp → Nat) (h0 : Pv σ H)
    (hs : ∀ σ H, Pv σ H → c σ H fun b H1 => if b = true then tb { D with nx := fun σ' H' => Pv σ' H' ∧ μ σ' H' < μ σ H, ct := fun σ' H' => Pv σ' H' ∧ μ σ' H' < μ σ H, bk := D.nx } σ H1 else D.nx σ H1)
    (mono : ∀ σ H Q Q', (∀ b H1, Q b H1 → Q' b H1) → c σ H Q → c σ H Q') : tWhile c tb D σ H := by
  refine ⟨fun m σ H => m = μ σ H ∧ Pv σ H, ⟨_, rfl, h0⟩, ?_⟩
  rintro m σ H ⟨rfl, p⟩
  refine mono σ H _ _ (fun b H1 q => ?_) (hs σ H p)
  cases b with
  | true => exact ⟨_, fun σ' H' ⟨p', l⟩ => ⟨_, l, rfl, p'⟩, q⟩
  | false => exact q
end L2

namespace L2
open PySem PySem.Spec PyProof.Rows

noncomputable abbrev R2 := V → V → Hp → VK → Prop
/-- a two-place operation on values: f is binaryOp op, inplaceOp op or compareOp op -/
noncomputable def OpR (X : Cx) (f : Value → Value → Sem Value) (r : R2) : Prop :=
  ∀ (pins : List (Addr × Obj)) (s : Shared) (σ : St) (H : Hp) (x y : V) (v u : Value) (Q : VK), Inv X pins σ H s → RelV x v → RelV y u → r x y H Q →
    wpAny (model X.prog X.w) X.A (f v u) (EP X pins σ Q) X.xe s
/-- a one-place operation -/
noncomputable def UnR (X : Cx) (f : Value → Sem Value) (r : V → Hp → VK → Prop) : Prop :=
  ∀ (pins : List (Addr × Obj)) (s : Shared) (σ : St) (H : Hp) (x : V) (v : Value) (Q : VK), Inv X pins σ H s → RelV x v → r x H Q →
    wpAny (model X.prog X.w) X.A (f v) (EP X pins σ Q) X.xe s
/-- a call of a value that is known (a builtin, a type) with values -/
noncomputable def CallR (X : Cx) (f : Value) (r : List V → Hp → VK → Prop) : Prop :=
  ∀ (pins : List (Addr × Obj)) (s : Shared) (σ : St) (H : Hp) (xs : List V) (us : List Value) (Q : VK), Inv X pins σ H s → Vals xs us → r xs H Q →
    wpAny (model X.prog X.w) X.A (call f us) (EP X pins σ Q) X.xe s
noncomputable def tOp (r : R2) (ta tb : TE) : TE := fun σ H Q => ta σ H fun x H1 => tb σ H1 fun y H2 => r x y H2 Q
noncomputable def tUn (r : V → Hp → VK → Prop) (ta : TE) : TE := fun σ H Q => ta σ H fun x H1 => r x H1 Q
/-- ints in, under C, and a value out -/
noncomputable def rI (C : Int → Int → Prop) (g : Int → Int → V) : R2 := fun x y H Q => ∃ i j, x = .int i ∧ y = .int j ∧ C i j ∧ Q (g i j) H
noncomputable def rI0 (g : Int → Int → V) : R2 := fun x y H Q => ∃ i j, x = .int i ∧ y = .int j ∧ Q (g i j) H
noncomputable def rU (g : Int → V) : V → Hp → VK → Prop := fun x H Q => ∃ i, x = .int i ∧ Q (g i) H

section
variable {X : Cx} {a b c : Expr} {ta tb tc : TE} {pos : Pos}

theorem binT (ha : PE X a ta) (hb : PE X b tb) {pins : List (Addr × Obj)} {s : Shared} {σ : St} {H : Hp} {R : V → V → Hp → Prop} (I : Inv X pins σ H s)
    (h : ta σ H fun x H1 => tb σ H1 fun y H2 => R x y H2) {Q : Value → Shared → Prop} {f : Value → Value → Sem Value}
    (hf : ∀ v u s2 x y H2, Inv X pins σ H2 s2 → RelV x v → RelV y u → R x y H2 → wpAny (model X.prog X.w) X.A (f v u) Q X.xe s2) :
    wpAny (model X.prog X.w) X.A (eval a X.env) (fun v s₁ => wpAny (model X.prog X.w) X.A (eval b X.env) (fun u s₂ => wpAny (model X.prog X.w) X.A (f v u) Q X.xe s₂) X.xe s₁) X.xe s := by
  refine thn (ha pins s σ H _ I h) fun v s1 hsl24 => ?_
  obtain ⟨x, H1, I1, r1, q1⟩ := hsl24
  refine thn (hb pins s1 σ H1 _ I1 q1) fun u s2 hsl25 => ?_
  obtain ⟨y, H2, I2, r2, q2⟩ := hsl25
  exact hf v u s2 x y H2 I2 r1 r2 q2

theorem pe_op {op : Operator} {r : R2} (ho : OpR X (binaryOp op) r) (ha : PE X a ta) (hb : PE X b tb) : PE X (.BinOp a op b pos) (tOp r ta tb) := by
  intro pins s σ H Q I h
  exact wpAny_BinOp (binT ha hb I h fun v u s2 x y H2 I2 rx ry q => ho pins s2 σ H2 x y v u Q I2 rx ry q)
theorem pe_un {op : UnaryOp} {r : V → Hp → VK → Prop} (ho : UnR X (unaryOp op) r) (ha : PE X a ta) : PE X (.UnaryOp op a pos) (tUn r ta) := by
  intro pins s σ H Q I h
  exact UnaryOp_ (thn (ha pins s σ H _ I h) fun v s1 hsl26 => by obtain ⟨x, H1, I1, r1, q1⟩ := hsl26; exact ho pins s1 σ H1 x v Q I1 r1 q1)
/-! ### ints -/
theorem opI {f : Value → Value → Sem Value} {C : Int → Int → Prop} {g : Int → Int → Int}
    (rule : ∀ (i j : Int) (t u : Tok) (s : Shared) (Q : Value → Shared → Prop) (E : Value → Shared → Prop), C i j → Q (.int (g i j) s.toks) { s with toks := s.toks + 1 } → wpAny (model X.prog X.w) X.A (f (.int i t) (.int j u)) Q E s) :
    OpR X f (rI C fun i j => .int (g i j)) := by
  intro pins s σ H x y v u Q I rx ry h
  obtain ⟨i, j, rfl, rfl, hc, q⟩ := h
  obtain ⟨t, rfl⟩ := rx
  obtain ⟨t', rfl⟩ := ry
  exact rule i j t t' s _ _ hc ⟨.int (g i j), H, I.tok _, ⟨_, rfl⟩, q⟩
theorem opI0 {f : Value → Value → Sem Value} {g : Int → Int → Int}
    (rule : ∀ (i j : Int) (t u : Tok) (s : Shared) (Q : Value → Shared → Prop) (E : Value → Shared → Prop), Q (.int (g i j) s.toks) { s with toks := s.toks + 1 } → wpAny (model X.prog X.w) X.A (f (.int i t) (.int j u)) Q E s) :
    OpR X f (rI0 fun i j => .int (g i j)) := by
  intro pins s σ H x y v u Q I rx ry h
  obtain ⟨i, j, rfl, rfl, q⟩ := h
  obtain ⟨t, rfl⟩ := rx
  obtain ⟨t', rfl⟩ := ry
  exact rule i j t t' s _ _ ⟨.int (g i j), H, I.tok _, ⟨_, rfl⟩, q⟩
theorem opB0 {f : Value → Value → Sem Value} {g : Int → Int → Bool}
    (rule : ∀ (i j : Int) (t u : Tok) (s : Shared) (Q : Value → Shared → Prop) (E : Value → Shared → Prop), Q (.bool (g i j)) s → wpAny (model X.prog X.w) X.A (f (.int i t) (.int j u)) Q E s) :
    OpR X f (rI0 fun i j => .bl (g i j)) := by
  intro pins s σ H x y v u Q I rx ry h
  obtain ⟨i, j, rfl, rfl, q⟩ := h
  obtain ⟨t, rfl⟩ := rx
  obtain ⟨t', rfl⟩ := ry
  exact rule i j t t' s _ _ ⟨.bl (g i j), H, I, rfl, q⟩

noncomputable def CDiv (i j : Int) : Prop := 0 < j ∧ j < 1073741824
noncomputable def CMul (i j : Int) : Prop := (-(2 ^ 64) < i ∧ i < 2 ^ 64) ∨ (-(2 ^ 64) < j ∧ j < 2 ^ 64)
theorem CMul.ok {i j : Int} (h : CMul i j) : IntMulOk i j := by
  rcases h with ⟨h1, h2⟩ | ⟨h1, h2⟩
  · exact .of_left (intBits_le_64 h1 h2)
  · exact .of_right (intBits_le_64 h1 h2)
theorem two_pow_nn (k : Nat) : (0 : Int) ≤ 2 ^ k := by
  rw [two_pow_cast]
  exact Int.natCast_nonneg _

theorem op_add : OpR X (binaryOp .Add) (rI0 fun i j => .int (i + j)) := opI0 fun _ _ _ _ _ _ _ q => add_int q
theorem op_sub : OpR X (binaryOp .Sub) (rI0 fun i j => .int (i - j)) := opI0 fun _ _ _ _ _ _ _ q => sub_int q
theorem op_mul : OpR X (binaryOp .Mult) (rI CMul fun i j => .int (i * j)) := opI fun _ _ _ _ _ _ _ hc q => mul_int q hc.ok
/-- // by a positive divisor -/
theorem op_fdiv : OpR X (binaryOp .FloorDiv) (rI CDiv fun i j => .int (i / j)) := opI fun i j _ _ _ _ _ hc q => by
  have h1 : (0 : Int) < j := hc.1
  have h2 : j < 1073741824 := hc.2
  exact floordiv_int (by omega) (by rw [Int.fdiv_eq_ediv_of_nonneg i (by omega)]; exact q) (.inl (PyProof.noPylong_small (by omega)))
/-- % by a positive divisor of any size -/
theorem op_mod : OpR X (binaryOp .Mod) (rI (fun _ j => 0 < j) fun i j => .int (i % j)) := opI fun i j _ _ _ _ _ hc q => by
  have h1 : (0 : Int) < j := hc
  exact mod_int' (by omega) (by rw [Int.fmod_eq_emod_of_nonneg i (by omega)]; exact q)
theorem op_shr : OpR X (binaryOp .RShift) (rI (fun _ j => 0 ≤ j) fun i j => .int (i / 2 ^ j.toNat)) := opI fun i j _ _ _ _ _ hc q =>
  rshift_int hc (by rw [Int.fdiv_eq_ediv_of_nonneg i (two_pow_nn _)]; exact q)
theorem op_and : OpR X (binaryOp .BitAnd) (rI0 fun i j => .int (Builtin.bitAnd i j)) := opI0 fun _ _ _ _ _ _ _ q => and_int q
theorem op_or : OpR X (binaryOp .BitOr) (rI0 fun i j => .int (Builtin.bitOr i j)) := opI0 fun _ _ _ _ _ _ _ q => or_int q
theorem op_xor : OpR X (binaryOp .BitXor) (rI0 fun i j => .int (Builtin.bitXor i j)) := opI0 fun _ _ _ _ _ _ _ q => xor_int q

theorem unI {f : Value → Sem Value} {g : Int → Int}
    (rule : ∀ (i : Int) (t : Tok) (s : Shared) (Q : Value → Shared → Prop) (E : Value → Shared → Prop), Q (.int (g i) s.toks) { s with toks := s.toks + 1 } → wpAny (model X.prog X.w) X.A (f (.int i t)) Q E s) :
    UnR X f (rU fun i => .int (g i)) := by
  intro pins s σ H x v Q I rx h
  obtain ⟨i, rfl, q⟩ := h
  obtain ⟨t, rfl⟩ := rx
  exact rule i t s _ _ ⟨.int (g i), H, I.tok _, ⟨_, rfl⟩, q⟩
theorem un_neg : UnR X (unaryOp .USub) (rU fun i => .int (-i)) := unI fun _ _ _ _ _ q => neg_int q
/-! ### bools among ints: n += (a < b) -/
end

/-! ### comparisons -/
/-- the scalars that == tells apart as data does -/
noncomputable def scal : V → V → Bool
  | .non, .non => true | .non, .int _ => true | .int _, .non => true | .non, .bl _ => true | .bl _, .non => true | .non, .str _ => true | .str _, .non => true
  | .int _, .int _ => true | .bl _, .bl _ => true | .str _, .str _ => true | .byt _, .byt _ => true
  | .int _, .str _ => true | .str _, .int _ => true | .bl _, .str _ => true | .str _, .bl _ => true
  | _, _ => false
noncomputable def rEq : R2 := fun x y H Q => scal x y = true ∧ Q (.bl (decide (x = y))) H
noncomputable def rNe : R2 := fun x y H Q => scal x y = true ∧ Q (.bl (!decide (x = y))) H

theorem dec_int {i j : Int} : decide (V.int i = V.int j) = (i == j) := by
  rw [Bool.eq_iff_iff]
  simp
theorem dec_bl {i j : Bool} : decide (V.bl i = V.bl j) = (i == j) := by
  rw [Bool.eq_iff_iff]
  simp
theorem dec_str {i j : Str} : decide (V.str i = V.str j) = (i == j) := by
  rw [Bool.eq_iff_iff]
  simp
theorem dec_byt {i j : Array UInt8} : decide (V.byt i = V.byt j) = (i.toList == j.toList) := by
  rw [Bool.eq_iff_iff]
  cases i
  cases j
  simp

section
variable {X : Cx} {a b c : Expr} {ta tb tc : TE} {pos : Pos}
theorem fin_bl {pins : List (Addr × Obj)} {σ : St} {H : Hp} {s : Shared} {Q : VK} {k k' : Bool} (I : Inv X pins σ H s) (q : Q (.bl k) H) (e : k = k') : EP X pins σ Q (.bool k') s := by
  subst e
  exact ⟨.bl k, H, I, rfl, q⟩
theorem op_eq : OpR X (compareOp .Eq) rEq := by
  intro pins s σ H x y v u Q I rx ry h
  obtain ⟨hs, q⟩ := h
  cases x with
  | non =>
    cases rx
    cases y with
    | non => cases ry; exact PySem.EqNone.eq_none_none (fin_bl I q (by simp))
    | bl j => cases ry; exact PySem.EqNone.eq_none_bool (fin_bl I q (by simp))
    | int j => obtain ⟨t', rfl⟩ := ry; exact PySem.EqNone.eq_none_int (fin_bl I q (by simp))
    | str j => obtain ⟨t', rfl⟩ := ry; exact PySem.EqNone.eq_none_str (fin_bl I q (by simp))
    | _ => exact absurd (show false = true from hs) Bool.false_ne_true
  | bl i =>
    cases rx
    cases y with
    | non => cases ry; exact PySem.EqNone.eq_bool_none (fin_bl I q (by simp))
    | bl j => cases ry; exact eq_bool (fin_bl I q dec_bl)
    | str j => obtain ⟨t', rfl⟩ := ry; exact PySem.EqMixed.eq_bool_str (fin_bl I q (by simp))
    | _ => exact absurd (show false = true from hs) Bool.false_ne_true
  | int i =>
    obtain ⟨t, rfl⟩ := rx
    cases y with
    | non => cases ry; exact PySem.EqNone.eq_int_none (fin_bl I q (by simp))
    | int j => obtain ⟨t', rfl⟩ := ry; exact eq_int (fin_bl I q dec_int)
    | str j => obtain ⟨t', rfl⟩ := ry; exact PySem.EqMixed.eq_int_str (fin_bl I q (by simp))
    | _ => exact absurd (show false = true from hs) Bool.false_ne_true
  | str i =>
    obtain ⟨t, rfl⟩ := rx
    cases y with
    | non => cases ry; exact PySem.EqNone.eq_str_none (fin_bl I q (by simp))
    | bl j => cases ry; exact PySem.EqMixed.eq_str_bool (fin_bl I q (by simp))
    | int j => obtain ⟨t', rfl⟩ := ry; exact PySem.EqMixed.eq_str_int (fin_bl I q (by simp))
    | str j => obtain ⟨t', rfl⟩ := ry; exact eq_str (fin_bl I q dec_str)
    | _ => exact absurd (show false = true from hs) Bool.false_ne_true
  | byt i =>
    obtain ⟨t, rfl⟩ := rx
    cases y with
    | byt j => obtain ⟨t', rfl⟩ := ry; exact PySem.W.eq_bytes (fin_bl I q dec_byt)
    | _ => exact absurd (show false = true from hs) Bool.false_ne_true
  | _ => cases y <;> exact absurd (show false = true from hs) Bool.false_ne_true
theorem op_ne : OpR X (compareOp .NotEq) rNe := by
  intro pins s σ H x y v u Q I rx ry h
  obtain ⟨hs, q⟩ := h
  cases x with
  | non =>
    cases rx
    cases y with
    | non => cases ry; exact PySem.EqNone.ne_none_none (fin_bl I q (by simp))
    | bl j => cases ry; exact PySem.EqNone.ne_none_bool (fin_bl I q (by simp))
    | int j => obtain ⟨t', rfl⟩ := ry; exact PySem.EqNone.ne_none_int (fin_bl I q (by simp))
    | str j => obtain ⟨t', rfl⟩ := ry; exact PySem.EqNone.ne_none_str (fin_bl I q (by simp))
    | _ => exact absurd (show false = true from hs) Bool.false_ne_true
  | bl i =>
    cases rx
    cases y with
    | non => cases ry; exact PySem.EqNone.ne_bool_none (fin_bl I q (by simp))
    | bl j => cases ry; exact ne_bool (fin_bl I q (congrArg not dec_bl))
    | str j => obtain ⟨t', rfl⟩ := ry; exact PySem.EqMixed.ne_bool_str (fin_bl I q (by simp))
    | _ => exact absurd (show false = true from hs) Bool.false_ne_true
  | int i =>
    obtain ⟨t, rfl⟩ := rx
    cases y with
    | non => cases ry; exact PySem.EqNone.ne_int_none (fin_bl I q (by simp))
    | int j => obtain ⟨t', rfl⟩ := ry; exact ne_int (fin_bl I q (congrArg not dec_int))
    | str j => obtain ⟨t', rfl⟩ := ry; exact PySem.EqMixed.ne_int_str (fin_bl I q (by simp))
    | _ => exact absurd (show false = true from hs) Bool.false_ne_true
  | str i =>
    obtain ⟨t, rfl⟩ := rx
    cases y with
    | non => cases ry; exact PySem.EqNone.ne_str_none (fin_bl I q (by simp))
    | bl j => cases ry; exact PySem.EqMixed.ne_str_bool (fin_bl I q (by simp))
    | int j => obtain ⟨t', rfl⟩ := ry; exact PySem.EqMixed.ne_str_int (fin_bl I q (by simp))
    | str j => obtain ⟨t', rfl⟩ := ry; exact ne_str (fin_bl I q (congrArg not dec_str))
    | _ => exact absurd (show false = true from hs) Bool.false_ne_true
  | byt i =>
    obtain ⟨t, rfl⟩ := rx
    cases y with
    | byt j => obtain ⟨t', rfl⟩ := ry; exact PySem.W.ne_bytes (fin_bl I q (congrArg not dec_byt))
    | _ => exact absurd (show false = true from hs) Bool.false_ne_true
  | _ => cases y <;> exact absurd (show false = true from hs) Bool.false_ne_true

theorem op_lt : OpR X (compareOp .Lt) (rI0 fun i j => .bl (decide (i < j))) := opB0 fun _ _ _ _ _ _ _ q => lt_int q
theorem op_le : OpR X (compareOp .LtE) (rI0 fun i j => .bl (decide (i ≤ j))) := opB0 fun _ _ _ _ _ _ _ q => le_int q
theorem op_gt : OpR X (compareOp .Gt) (rI0 fun i j => .bl (decide (j < i))) := opB0 fun _ _ _ _ _ _ _ q => gt_int q
theorem op_ge : OpR X (compareOp .GtE) (rI0 fun i j => .bl (decide (j ≤ i))) := opB0 fun _ _ _ _ _ _ _ q => ge_int q
/-- is, is not of two objects that are tracked lists or instances -/
noncomputable def isObj : HO → Bool
  | .lst _ => true
  | .ins _ _ _ => true
  | _ => false
/-- two rules for one operation: by cases -/
theorem OpR.or {f : Value → Value → Sem Value} {r r' : R2} (h : OpR X f r) (h' : OpR X f r') : OpR X f (fun x y H Q => r x y H Q ∨ r' x y H Q) := by
  intro pins s σ H x y v u Q I rx ry q
  rcases q with q | q
  · exact h pins s σ H x y v u Q I rx ry q
  · exact h' pins s σ H x y v u Q I rx ry q

theorem nomark (b : Expr) {op : CmpOp} (h : op ≠ .In := by decide) (h2 : op ≠ .NotIn := by decide) : behindInMarks op b = false := by
  have e1 : (op == CmpOp.In) = false := by cases op <;> first | rfl | exact absurd rfl h
  have e2 : (op == CmpOp.NotIn) = false := by cases op <;> first | rfl | exact absurd rfl h2
  cases b <;> simp [behindInMarks, e1, e2]
/-- a comparison as a value; hm: nomark b, or (for in, not in) by with_unfolding_all rfl -/
theorem pe_cmpR {op : CmpOp} {r : R2} (ho : OpR X (compareOp op) r) (ha : PE X a ta) (hb : PE X b tb) (hm : behindInMarks op b = false) : PE X (.Compare a [op] [b] pos) (tOp r ta tb) := by
  intro pins s σ H Q I h
  exact wpAny_Compare1 (binT ha hb I h fun v u s2 x y H2 I2 rx ry q => ho pins s2 σ H2 x y v u Q I2 rx ry q) hm
/-- a reading of a value as a test -/
noncomputable def tTest (t : TE) : TT := fun σ H Q => t σ H fun x H' => ∃ k, x = .bl k ∧ Q k H'
theorem pt_cmpR {op : CmpOp} {r : R2} (ho : OpR X (compareOp op) r) (ha : PE X a ta) (hb : PE X b tb) (hm : behindInMarks op b = false) : PT X (.Compare a [op] [b] pos) (tTest (tOp r ta tb)) := by
  intro pins s σ H Q I h
  refine wpAny_isTrue_Compare1 (thn (ha pins s σ H _ I h) fun v s1 ⟨x, H1, I1, r1, q1⟩ => thn (hb pins s1 σ H1 _ I1 q1) fun u s2 ⟨y, H2, I2, r2, q2⟩ =>
    thn (ho pins s2 σ H2 x y v u _ I2 r1 r2 q2) fun c s3 ⟨z, H3, I3, r3, k, e, q3⟩ => ?_) hm
  subst e
  cases r3
  exact wpAny_truthy_bool ⟨H3, I3, q3⟩
/-! ### truth -/
theorem line63 : (sizeLine : Nat) < 2 ^ 63 := by rw [sizeLine_eq]; decide
/-! ### strs and bytes -/
theorem op_add_str : OpR X (binaryOp .Add) (fun x y H Q => ∃ i j, x = .str i ∧ y = .str j ∧ i.length + j.length ≤ sizeLine ∧ Q (.str (i ++ j)) H) := by
  intro pins s σ H x y v u Q I rx ry h
  obtain ⟨i, j, rfl, rfl, hz, q⟩ := h
  obtain ⟨t, rfl⟩ := rx
  obtain ⟨t', rfl⟩ := ry
  exact add_str (fun t' tk => ⟨.str (i ++ j), H, I.tok _, ⟨_, rfl⟩, q⟩) hz
/-! ### scalar builtins, by CallR -/
theorem vals1 {x : V} {us : List Value} (r : Vals [x] us) : ∃ u, us = [u] ∧ RelV x u := by
  cases r with
  | cons r1 r2 => cases r2; exact ⟨_, rfl, r1⟩
theorem vals2 {x y : V} {us : List Value} (r : Vals [x, y] us) : ∃ u w', us = [u, w'] ∧ RelV x u ∧ RelV y w' := by
  cases r with
  | cons r1 r2 =>
    cases r2 with
    | cons r3 r4 => cases r4; exact ⟨_, _, rfl, r1, r3⟩
theorem call_abs : CallR X (.builtin "abs") (fun xs H Q => ∃ i, xs = [.int i] ∧ Q (.int (if i < 0 then -i else i)) H) := by
  intro pins s σ H xs us Q I r h
  obtain ⟨i, rfl, q⟩ := h
  obtain ⟨u, rfl, t, rfl⟩ := vals1 r
  exact call_abs_int fun u tk => ⟨.int (if i < 0 then -i else i), H, I.tok _, ⟨_, rfl⟩, q⟩
theorem call_max2 (hc : X.calm = true) : CallR X (.builtin "max") (fun xs H Q => ∃ i j, xs = [.int i, .int j] ∧ Q (.int (if j > i then j else i)) H) := by
  intro pins s σ H xs us Q I r h
  obtain ⟨i, j, rfl, q⟩ := h
  obtain ⟨u, w', rfl, ⟨t, rfl⟩, ⟨t', rfl⟩⟩ := vals2 r
  refine max_two_ints (I.ok.hd hc) fun h' tk k => ⟨_, H, I.kept k, ?_, q⟩
  by_cases hj : j > i
  · rw [if_pos hj, if_pos hj]; exact ⟨_, rfl⟩
  · rw [if_neg hj, if_neg hj]; exact ⟨_, rfl⟩
end
end L2

namespace L2
open PySem PySem.Spec PyProof.Rows

/-! ### an instance, its attributes a map -/
structure ObjM (h : Heap) (x dx C : Addr) (mA : Str → Option Value) : Prop where
  obj : h.get? x = some (PySem.W.instObj C dx)
  ns : h.Ns1 dx mA
  ne : dx ≠ x

theorem lookIn_ns {h : Heap} {dx : Addr} {mA : Str → Option Value} (n : h.Ns1 dx mA) : ∃ od, h.get? dx = some od ∧ ∀ name, PySem.W.lookIn name od = some (mA name) := by
  obtain ⟨o, es, ep, ho, hd, hk, _, hm⟩ := n
  refine ⟨o, ho, fun name => ?_⟩
  have e := hm name
  unfold nsFind findBy at e
  rw [← Array.find?_toList] at e
  unfold PySem.W.lookIn
  rw [hd]
  dsimp only
  split
  · rename_i y q
    rw [q] at e
    exact congrArg some e
  · rename_i q
    rw [q] at e
    have a : es.toList.any (·.refKey) = false := by
      rw [List.any_eq_false]
      intro y hy
      obtain ⟨z, t, hkey⟩ := hk y (Array.mem_toList_iff.mp hy)
      simp [DictEntry.refKey, hkey]
    have a' : ¬ es.toList.any (·.refKey) = true := by rw [a]; exact Bool.false_ne_true
    rw [if_neg a']
    exact congrArg some e

theorem ObjM.look {h : Heap} {x dx C : Addr} {mA : Str → Option Value} (I : ObjM h x dx C mA) : ∃ od, PySem.W.InstAt h x (PySem.W.instObj C dx) C (some od) ∧ ∀ name, PySem.W.lookIn name od = some (mA name) :=
  let ⟨od, ho, hl⟩ := lookIn_ns I.ns
  ⟨od, ⟨I.obj, rfl, rfl, ho⟩, hl⟩

section
variable {prog : Program} {w : World} {A : Around} {E : Value → Shared → Prop} {s : Shared} {K : PySem.W.Frag} {x dx C f : Addr} {mA : Str → Option Value} {name : Str} {v : Value}

theorem get_meth {pl : Sem Bool} {Q : Value × List Value → Shared → Prop} (X : K.In s.heap) (I : ObjM s.heap x dx C mA) (hg : PySem.W.plainGet K C name = true)
    (hf : PySem.W.findIn K (.ref C) name = some (some (.ref f))) (ht : PySem.W.isFn K (.ref f) = true) (hv : mA name = none) (h : Q (.ref f, [.ref x]) s) :
    wpAny (model prog w) A (getMethod (.ref x) name pl) Q E s := by
  obtain ⟨od, J, hl⟩ := I.look
  exact PySem.W.method_fn X J (PySem.W.plainGet_of hg).1 (PySem.W.plainGet_of hg).2 hf (beq_iff_eq.mp ht) (by show (PySem.W.lookIn name od).map (·.isSome) = some false; rw [hl, hv]; rfl) h

/-- C(..): the dict at the heap's end, the instance behind it; then its __init__ -/
theorem make_map {R : Result → Shared → Prop} {vs : List Value} {kw : List (Str × Value)} (X : K.In s.heap) (hm : PySem.W.makesIn K C = true)
    (hi : PySem.W.findIn K (.ref C) "__init__" = some (some (.ref f))) (hf : PySem.W.typeIn K (.ref f) = some (.type "function"))
    (h : codeAny (model prog w) (A.under (.builtin "type.__call__" ⟨.ref C :: vs, kw⟩)) (.call (.ref f) ⟨.ref (s.heap.objs.size + 1) :: vs, kw⟩) (PySem.W.InitBack (s.heap.objs.size + 1) R)
      { s with heap := (s.heap.push PySem.W.emptyDict).push (PySem.W.instObj C s.heap.objs.size) }) :
    codeAny (model prog w) A (.call (.ref C) ⟨vs, kw⟩) R s := by
  obtain ⟨hh, g, d, t, os⟩ := s
  exact PySem.W.make_core (PySem.W.makes_of X hm) (PySem.W.looks_findIn X hi) (fun self => PySem.W.bind_fn X self hf) (.inl rfl) h
end

/-! ### the attributes as a list of pairs -/
theorem RelO.some_of {v : V} {o : Option Value} (r : RelO (some v) o) : ∃ u, o = some u ∧ RelV v u := by
  cases o with
  | none => exact (show False from r).elim
  | some u => exact ⟨u, rfl, r⟩
theorem RelO.none_of {o : Option Value} (r : RelO none o) : o = none := by
  cases o with
  | none => rfl
  | some u => exact (show False from r).elim
section
variable {P : Program} {w : World} {H H' : Hp} {h h' : Heap} {a C dx : Addr} {fs fs' : List (Str × V)}
theorem ins_get (hok : HOk P w H h) (e : H a = some (.ins C dx fs)) : ∃ mA, ObjM h a dx C mA ∧ (∀ f, RelO (fs.lookup f) (mA f)) ∧ PySem.Within mA (fs.map (·.1)) ∧ fs.length ≤ 1000 ∧ H dx = some (.own a) := by
  obtain ⟨d, z, ne, ob, mA, n, r, q⟩ := (show ObjOk P w H h a (.ins C dx fs) from hok a _ e)
  exact ⟨mA, ⟨ob, n, ne⟩, r, q, z, d⟩
end

/-! ### what of the text a class must have -/
structure Cls (K : PySem.W.Frag) (C : Addr) : Prop where
  pg : PySem.W.plainGet K C Str.empty = true
  hd : PySem.W.hasDictIn K C = true
  po : PySem.W.plainOver K C = true
  sa : PySem.W.findIn K (.ref C) "__setattr__" = some (some (.builtin "object.__setattr__"))
theorem Cls.get {K : PySem.W.Frag} {C : Addr} (c : Cls K C) (f : Str) : PySem.W.plainGet K C f = true := c.pg
/-- no class of it has the name -/
noncomputable def NoAttr (K : PySem.W.Frag) (C : Addr) (f : Str) : Prop := PySem.W.findIn K (.ref C) f = some none
/-- a constant of the class -/
structure Con (K : PySem.W.Frag) (C : Addr) (f : Str) (v : V) (u : Value) : Prop where
  at_ : PySem.W.findIn K (.ref C) f = some (some u)
  rel : RelV v u
  get : PySem.W.specialIn K u "__get__" = some none
  cp : PySem.W.copiedNames.contains f = false
/-- a method: a plain def of the class or of one above it -/
structure Meth (K : PySem.W.Frag) (C : Addr) (m : Str) (f : Addr) : Prop where
  at_ : PySem.W.findIn K (.ref C) m = some (some (.ref f))
  fn : PySem.W.isFn K (.ref f) = true
  kp : PySem.W.keepIn K (.ref f) = true

section
variable {X : Cx} {pins : List (Addr × Obj)} {σ : St} {H : Hp} {s : Shared} {a C dx : Addr} {fs : List (Str × V)} {f : Str} {v : V} {A : Around} {E : Value → Shared → Prop}

theorem getmeth_ok {m : Str} {g : Addr} {pl : Sem Bool} {Q : Value × List Value → Shared → Prop} (I : Inv X pins σ H s) (e : H a = some (.ins C dx fs)) (c : Cls X.K C) (k : Meth X.K C m g) (l : fs.lookup m = none)
    (h : Q (.ref g, [.ref a]) s) : wpAny (model X.prog X.w) A (getMethod (.ref a) m pl) Q E s := by
  obtain ⟨mA, O, r, _, _, _⟩ := ins_get I.hok e
  have hn : mA m = none := RelO.none_of (by rw [← l]; exact r m)
  exact get_meth I.kIn O (c.get m) k.at_ k.fn hn h

/-- a new instance, tracked, without attributes -/
theorem Inv.made (I : Inv X pins σ H s) : Inv X pins σ (upd (upd H s.heap.objs.size (.own (s.heap.objs.size + 1))) (s.heap.objs.size + 1) (.ins C s.heap.objs.size []))
    { s with heap := (s.heap.push PySem.W.emptyDict).push (PySem.W.instObj C s.heap.objs.size) } := by
  have e1 : (s.heap.push PySem.W.emptyDict).get? s.heap.objs.size = some PySem.W.emptyDict := Heap.get?_push_size s.heap rfl
  have e2 : ((s.heap.push PySem.W.emptyDict).push (PySem.W.instObj C s.heap.objs.size)).get? (s.heap.objs.size + 1) = some (PySem.W.instObj C s.heap.objs.size) := by
    have := Heap.get?_push_size (s.heap.push PySem.W.emptyDict) (o := PySem.W.instObj C s.heap.objs.size) rfl
    rwa [Heap.size_push] at this
  have e3 : (s.heap.push PySem.W.emptyDict).Ns s.heap.objs.size (fun _ => none) := ⟨PySem.W.emptyDict, #[], _, e1, rfl, (fun e he => absurd he (by simp)), fun _ => rfl⟩
  have I1 := I.laid (a := s.heap.objs.size) (o := .own (s.heap.objs.size + 1)) (h' := s.heap.push PySem.W.emptyDict) (t' := s.toks) (fun b u q => Heap.get?_push_of_some _ q) (Nat.le_refl _) ⟨_, e1⟩
  refine I1.laid (a := s.heap.objs.size + 1) (o := .ins C s.heap.objs.size []) (t' := s.toks) (fun b u q => Heap.get?_push_of_some _ q) (Nat.le_of_eq (Heap.size_push _ _)) ?_
  have ne : s.heap.objs.size ≠ s.heap.objs.size + 1 := Nat.ne_of_lt (Nat.lt_succ_self _)
  refine ⟨by rw [upd_ne ne, upd_same], Nat.zero_le _, ne, e2, fun _ => none, (Heap.Ns1.of_empty e3).at fun o q => Heap.get?_push_of_some _ q, fun _ => True.intro, fun y hy => absurd rfl hy⟩

end

/-! ### readings and rules -/
/-- e.f, an attribute of the instance -/
noncomputable def tFld (K : PySem.W.Frag) (ta : TE) (f : Str) : TE := fun σ H Q => ta σ H fun x H1 => ∃ a C dx fs v, x = .ref a ∧ H1 a = some (.ins C dx fs) ∧ Cls K C ∧ NoAttr K C f ∧ fs.lookup f = some v ∧ Q v H1
section
variable {X : Cx} {o e value : Expr} {f : Str} {pos pos' tpos : Pos} {ta tv : TE}
/-- what is between an instance and its method: the tree of a method call -/
theorem methcall_of {pl : Sem Bool} {m : Str} {apos : Pos} {args : List Expr} {pins : List (Addr × Obj)} {s : Shared} {σ : St} {H : Hp} {Q : Value → Shared → Prop} {te : TE} (he : PE X e te) (I : Inv X pins σ H s)
    (h : te σ H fun x H1 => ∃ a C dx fs g, x = .ref a ∧ H1 a = some (.ins C dx fs) ∧ Cls X.K C ∧ Meth X.K C m g ∧ fs.lookup m = none ∧
      ∀ s1, Inv X pins σ H1 s1 → wpAny (model X.prog X.w) X.A (callWith pos (.ref g) [.ref a] (backTo pos (starEach args X.env)) (backToKw pos (keywordEach [] X.env))) Q X.xe s1)
    (ht : eval (.Call (.Attribute e m apos) args [] pos) X.env = (do
      let ov ← eval e X.env
      standAt apos.atName
      let (f, first) ← holding [ov] (getMethod ov m pl)
      callWith pos f first (backTo pos (starEach args X.env)) (backToKw pos (keywordEach [] X.env)))) :
    wpAny (model X.prog X.w) X.A (eval (.Call (.Attribute e m apos) args [] pos) X.env) Q X.xe s := by
  refine PySem.W.methodCall_KW (pl := pl) (thn (he pins s σ H _ I h) fun u s1 hsl27 => ?_) ht
  obtain ⟨x, H1, I1, rx, a, C, dx, fs, g, ex, ea, c, k, l, q⟩ := hsl27
  subst ex
  obtain rfl : u = Value.ref a := rx
  exact getmeth_ok I1 ea c k l (q s1 I1)
end

/-! ### isinstance -/
section
variable {X : Cx} {pins : List (Addr × Obj)} {σ : St} {H : Hp} {s : Shared} {A : Around} {E : Value → Shared → Prop} {Q : Value → Shared → Prop} {c : Value} {b : Bool}
/-- the type of a value, as the fragment's deciders take it; for an instance its class -/
inductive TyOf (K : PySem.W.Frag) (H : Hp) : V → Value → Prop where
  | non : TyOf K H .non (.type "NoneType")
  | bl (x : Bool) : TyOf K H (.bl x) (.type "bool")
  | int (i : Int) : TyOf K H (.int i) (.type "int")
  | str (x : Str) : TyOf K H (.str x) (.type "str")
  | flt (x : UInt64) : TyOf K H (.flt x) (.type "float")
  | lst {a : Addr} {xs : List V} (e : H a = some (.lst xs)) : TyOf K H (.ref a) (.type "list")
  | frz {a : Addr} {o : Obj} {xs : List V} (e : H a = some (.frz o (.lst xs))) : TyOf K H (.ref a) (.type "list")
  | tup {a : Addr} {xs : List V} (e : H a = some (.tup xs)) : TyOf K H (.ref a) (.type "tuple")
  | dK {a : Addr} {kvs : List (Key × V)} (e : H a = some (.dK kvs)) : TyOf K H (.ref a) (.type "dict")
  | dT {a : Addr} {kvs : List (List Key × V)} (e : H a = some (.dT kvs)) : TyOf K H (.ref a) (.type "dict")
  | ins {a C dx : Addr} {fs : List (Str × V)} (e : H a = some (.ins C dx fs)) (cl : Cls K C) (ha : PySem.W.findIn K (.ref C) "__class__" = some (some (.builtin "object.__class__")))
      (hn : PySem.W.specialIn K (.builtin "object.__class__") "__get__" = some (some (.builtin "getset_descriptor.__get__"))) (htk : PySem.W.takesIn K (.builtin "object.__class__") = some true)
      (hm : PySem.W.mroIn K C (.type "object") = some true) : TyOf K H (.ref a) (.ref C)
/-- isinstance(x, c) for one class c, a built-in or an own one: kitOne's answer -/
theorem isinst_ok {x : V} {u t : Value} (I : Inv X pins σ H s) (rx : RelV x u) (ty : TyOf X.K H x t) (e : PySem.W.kitOne X.K t c = some b) (h : ∀ tk, Q (.bool b) { s with toks := tk }) :
    wpAny (model X.prog X.w) A (call (.builtin "isinstance") [u, c]) Q E s := by
  cases ty with
  | non => cases (show u = Value.none from rx); exact PySem.W.kia_one PySem.W.kitx_none I.kIn True.intro e (fun z => nomatch z) h
  | bl y => cases (show u = Value.bool y from rx); exact PySem.W.kia_one PySem.W.kitx_bool I.kIn True.intro e (fun z => nomatch z) h
  | int i => obtain ⟨t, q⟩ := (show ∃ t, u = Value.int i t from rx); cases q; exact PySem.W.kia_one PySem.W.kitx_int I.kIn True.intro e (fun z => nomatch z) h
  | str y => obtain ⟨t, q⟩ := (show ∃ t, u = Value.str y t from rx); cases q; exact PySem.W.kia_one PySem.W.kitx_str I.kIn True.intro e (fun z => nomatch z) h
  | flt y => obtain ⟨t, q⟩ := (show ∃ t, u = Value.float y t from rx); cases q; exact PySem.W.kia_one PySem.W.kitx_float I.kIn True.intro e (fun z => nomatch z) h
  | @lst a xs ea =>
    cases (show u = Value.ref a from rx)
    obtain ⟨_, _, n, _, h1⟩ := (show ObjOk X.prog X.w H s.heap a (.lst xs) from I.hok a _ ea)
    exact PySem.W.kia_one PySem.W.kitx_list I.kIn ⟨_, h1, rfl⟩ e (fun z => nomatch z) h
  | @frz a ob xs ea =>
    cases (show u = Value.ref a from rx)
    obtain ⟨_, _, _, n, _, h1⟩ := (show ObjOk X.prog X.w H s.heap a (.frz ob (.lst xs)) from I.hok a _ ea)
    exact PySem.W.kia_one PySem.W.kitx_list I.kIn ⟨_, h1, rfl⟩ e (fun z => nomatch z) h
  | @tup a xs ea =>
    cases (show u = Value.ref a from rx)
    obtain ⟨_, _, _, p⟩ := (show ObjOk X.prog X.w H s.heap a (.tup xs) from I.hok a _ ea)
    obtain ⟨o, h1, h2, _⟩ := p
    exact PySem.W.kia_one PySem.W.kitx_tuple I.kIn ⟨o, h1, h2⟩ e (fun z => nomatch z) h
  | @dK a kvs ea =>
    cases (show u = Value.ref a from rx)
    obtain ⟨_, _, vs, _, p⟩ := (show ObjOk X.prog X.w H s.heap a (.dK kvs) from I.hok a _ ea)
    obtain ⟨o, es, ep, h1, h2, _⟩ := p
    exact PySem.W.kia_one PySem.W.kitx_dict I.kIn ⟨o, h1, h2.1⟩ e (fun z => nomatch z) h
  | @dT a kvs ea =>
    cases (show u = Value.ref a from rx)
    obtain ⟨_, _, xs, _, o, es, ep, h1, h2, _⟩ := (show ObjOk X.prog X.w H s.heap a (.dT kvs) from I.hok a _ ea)
    exact PySem.W.kia_one PySem.W.kitx_dict I.kIn ⟨o, h1, h2.1⟩ e (fun z => nomatch z) h
  | @ins a C dx fs ea cl ha hn htk hm =>
    cases (show u = Value.ref a from rx)
    obtain ⟨mA, O, _⟩ := ins_get I.hok ea
    obtain ⟨od, J, _⟩ := O.look
    exact PySem.W.kia_one (PySem.W.kitx_own (cl.get _) cl.hd ha hn htk hm) I.kIn J e (fun z => nomatch z) h
end
end L2

namespace L2
open PySem PySem.Spec PyProof.Rows

/-! ### room -/
structure Room (k : Nat) (A : Around) : Prop where
  hd : A.handled = none
  dp : A.depth + 3 * k + 5 < recursionLimit
  un : A.units + 16 * k + 200 < cLine
theorem Room.mono {j k : Nat} {A : Around} (r : Room k A) (h : j ≤ k) : Room j A := ⟨r.hd, by have := r.dp; omega, by have := r.un; omega⟩
theorem Room.deeper {k : Nat} {A : Around} (r : Room (k + 1) A) (env : Env) : Room k (A.deeper env) :=
  ⟨r.hd, by have := r.dp; show A.depth + 1 + 3 * k + 5 < _; omega, by have := r.un; show A.units + 3 + 16 * k + 200 < _; omega⟩
theorem Room.in1 {k : Nat} {A : Around} (r : Room (k + 1) A) : Room k A.in1 :=
  ⟨r.hd, by have := r.dp; show A.depth + 3 * k + 5 < _; omega, by have := r.un; show A.units + 1 + 16 * k + 200 < _; omega⟩
theorem make_depth {A : Around} {C : Addr} {us : List Value} {kw : List (Str × Value)} : (A.under (.builtin "type.__call__" ⟨.ref C :: us, kw⟩)).depth = A.depth + 1 := by
  first | rfl | simp [Around.under, Code.weight, Code.isCreation, Code.isGuard, Code.isCaller, Code.frames, Code.isFrame, guardIds]
theorem make_units {A : Around} {C : Addr} {us : List Value} {kw : List (Str × Value)} : (A.under (.builtin "type.__call__" ⟨.ref C :: us, kw⟩)).units = A.units + 1 := by
  first | rfl | simp [Around.under, Code.cUnits, Code.frames, Code.isFrame]
theorem Room.make {k : Nat} {A : Around} (r : Room (k + 1) A) (C : Addr) (us : List Value) (kw : List (Str × Value)) : Room k (A.under (.builtin "type.__call__" ⟨.ref C :: us, kw⟩)) :=
  ⟨r.hd, by have := r.dp; rw [make_depth]; omega, by have := r.un; rw [make_units]; omega⟩
theorem Room.depth {k : Nat} {A : Around} (r : Room k A) : A.depth < recursionLimit := by have := r.dp; omega
theorem Room.units {k : Nat} {A : Around} (r : Room k A) : A.units + 64 < cLine := by have := r.un; omega
/-! ### argument lists and displays -/
noncomputable def tNil : TA := fun _ H Q => Q [] H
noncomputable def tCons (ta : TE) (tr : TA) : TA := fun σ H Q => ta σ H fun x H1 => tr σ H1 fun xs H2 => Q (x :: xs) H2
section
variable {X : Cx} {e : Expr} {es : List Expr} {te : TE} {t : TA} {pos : Pos}
theorem pa_nil : PA X [] tNil := fun _ _ _ _ H Q I h => Calls.spliced_nil ⟨[], H, I, .nil, h⟩
theorem pa_cons (ha : PE X e te) (hr : PA X es t) (hs : starEach (e :: es) X.env = (false, eval e X.env) :: starEach es X.env := by rfl) : PA X (e :: es) (tCons te t) := by
  intro pos pins s σ H Q I h
  rw [hs]
  show wpAny _ _ (spliced ((false, eval e X.env) :: backTo pos (starEach es X.env))) _ _ s
  refine Calls.spliced_cons (thn (ha pins s σ H _ I h) fun u s1 hsl28 => ?_)
  obtain ⟨x, H1, I1, r1, q1⟩ := hsl28
  exact thn (hr pos pins s1 σ H1 _ I1 q1) fun us s2 hsl29 => by obtain ⟨xs, H2, I2, r2, q2⟩ := hsl29; exact ⟨x :: xs, H2, I2, .cons r1 r2, q2⟩

/-- a tuple, a list of written items -/
noncomputable def tTup (t : TA) : TE := fun σ H Q => t σ H fun xs H1 => xs.length ≤ sizeLine ∧ ∀ p, H1 p = none → Q (.ref p) (upd H1 p (.tup xs))
noncomputable def tLst (t : TA) : TE := fun σ H Q => t σ H fun xs H1 => xs.length ≤ sizeLine ∧ ∀ p, H1 p = none → Q (.ref p) (upd H1 p (.lst xs))
theorem pe_tup {x1} (h : PA X es t) : PE X (.Tuple es x1 pos) (tTup t) := by
  intro pins s σ H Q I hq
  refine wpAny_Tuple_spliced (thn (h pos pins s σ H _ I hq) fun us s1 ⟨xs, H1, I1, r, z, q⟩ => ⟨by rw [← r.length]; exact z, ?_⟩)
  have hf : H1 s1.heap.objs.size = none := I1.hok.fresh (Nat.le_refl _)
  refine ⟨.ref s1.heap.objs.size, upd H1 s1.heap.objs.size (.tup xs), I1.laid (t' := s1.toks) (fun b u e => Heap.get?_push_of_some _ e) (Nat.le_refl _) ?_, rfl, q _ hf⟩
  exact ⟨z, us, r, ⟨_, Heap.get?_push_size _ rfl, rfl, _, rfl⟩⟩
theorem pe_lst (h : PA X es t) : PE X (.List es pos) (tLst t) := by
  intro pins s σ H Q I hq
  refine wpAny_List_spliced (thn (h pos pins s σ H _ I hq) fun us s1 ⟨xs, H1, I1, r, z, q⟩ => ⟨by rw [← r.length]; exact z, ?_⟩)
  have hf : H1 s1.heap.objs.size = none := I1.hok.fresh (Nat.le_refl _)
  refine ⟨.ref s1.heap.objs.size, upd H1 s1.heap.objs.size (.lst xs), I1.laid (t' := s1.toks) (fun b u e => Heap.get?_push_of_some _ e) (Nat.le_refl _) ?_, rfl, q _ hf⟩
  exact ⟨z, us, 0, r, Heap.get?_push_size _ rfl⟩
end

/-! ### what a def promises -/
/-- a def's promise: the bound arguments in the parameters' order, the heap, the wanted end, the wanted exception -/
noncomputable abbrev Sp := List V → Hp → VK → XK → Prop
/-- how an exception lies behind a call (file 08 gives it): the callers' frames, abstract heap and state ahead of the call, the wish, the exception, the state -/
noncomputable abbrev CXT := List Env → Hp → Shared → XK → Value → Shared → Prop

/-- the state at a call -/
structure Env0 (P : Program) (w : World) (K : PySem.W.Frag) (mg : Str → Option Value) (base : Heap) (A : Around) (outer : List Env) (s : Shared) (H : Hp) : Prop where
  frames : A.frames = some outer
  mod : Mod K mg base
  bs : ∀ b o, base.get? b = some o → s.heap.get? b = some o ∧ H b = none
  bsz : base.objs.size ≤ s.heap.objs.size
  funs : s.heap.FunFrames base outer
  frf : ∀ b ∈ frs outer, H b = none
  hok : HOk P w H s.heap
  bare : AllBare s.gens
/-- a call's end -/
noncomputable def CE (outer : List Env) (P : Program) (w : World) (H : Hp) (s : Shared) (Q : VK) (u : Value) (s' : Shared) : Prop :=
  ∃ v H', s'.os = s.os ∧ AllBare s'.gens ∧ Un (frs outer) [] H H' s.heap s'.heap ∧ HOk P w H' s'.heap ∧ RelV v u ∧ Q v H'
noncomputable def CR (CX : CXT) (outer : List Env) (P : Program) (w : World) (H : Hp) (s : Shared) (Q : VK) (E : XK) (r : Result) (s' : Shared) : Prop :=
  match r with
  | .ok (.ret u) => CE outer P w H s Q u s'
  | .ok _ => False
  | .error e => CX outer H s E e s'
structure FnOk (P : Program) (w : World) (K : PySem.W.Frag) (mg : Str → Option Value) (base : Heap) (CX : CXT) (k : Nat) (f : Addr) (fd : FuncData) (ps : List Str) (sp : Sp) : Prop where
  len : ∀ vs H Q E, sp vs H Q E → vs.length = ps.length
  run : ∀ (A : Around) (outer : List Env) (s : Shared) (H : Hp) (args : Args) (us : List Value) (vs : List V) (Q : VK) (E : XK), Room k A → Env0 P w K mg base A outer s H → BindsTo s fd args (ps.zip us) → Vals vs us → sp vs H Q E →
    codeAny (model P w) A (.call (.ref f) args) (CR CX outer P w H s Q E) s
theorem FnOk.mono {P : Program} {w : World} {K : PySem.W.Frag} {mg : Str → Option Value} {base : Heap} {CX : CXT} {j k : Nat} {f : Addr} {fd : FuncData} {ps : List Str} {sp : Sp} (F : FnOk P w K mg base CX j f fd ps sp) (h : j ≤ k) :
    FnOk P w K mg base CX k f fd ps sp := ⟨F.len, fun A outer s H args us vs Q E hr => F.run A outer s H args us vs Q E (hr.mono h)⟩
theorem Env0.make {P : Program} {w : World} {K : PySem.W.Frag} {mg : Str → Option Value} {base : Heap} {A : Around} {outer : List Env} {s : Shared} {H : Hp} (e : Env0 P w K mg base A outer s H) (C : Addr) (us : List Value) (kw : List (Str × Value)) :
    Env0 P w K mg base (A.under (.builtin "type.__call__" ⟨.ref C :: us, kw⟩)) outer s H := ⟨by first | exact e.frames | (simpa [Around.under, Code.envs, Code.isFrame, pushEnvs] using e.frames), e.mod, e.bs, e.bsz, e.funs, e.frf, e.hok, e.bare⟩
theorem Env0.in1 {P : Program} {w : World} {K : PySem.W.Frag} {mg : Str → Option Value} {base : Heap} {A : Around} {outer : List Env} {s : Shared} {H : Hp} (e : Env0 P w K mg base A outer s H) :
    Env0 P w K mg base A.in1 outer s H := ⟨e.frames, e.mod, e.bs, e.bsz, e.funs, e.frf, e.hok, e.bare⟩

section
variable {X : Cx} {pins : List (Addr × Obj)} {σ : St} {H : Hp} {s s' : Shared}
/-- from a body: what a callee wants -/
theorem Inv.env0 (I : Inv X pins σ H s) : Env0 X.prog X.w X.K X.mg X.base X.A X.stack s H :=
  ⟨I.ok.frames, I.ok.mod, I.bs, Nat.le_trans I.ok.bsz I.sz, I.stack, I.stkFree, I.hok, I.bare⟩
/-- behind a call -/
theorem Inv.after {Q : VK} {u : Value} (I : Inv X pins σ H s) (h : CE X.stack X.prog X.w H s Q u s') : EP X pins σ Q u s' := by
  obtain ⟨v, H', os, bare, un, hok, r, q⟩ := h
  obtain ⟨hh, g, d, t, os'⟩ := s'
  obtain rfl : os' = s.os := os
  exact ⟨v, H', I.call (h' := hh) (g' := g) (d' := d) (t' := t) (ch := []) un hok bare (fun b z => absurd z (by simp)), r, q⟩
end

/-! ### calls -/
/-- f(..): the written arguments, then the defaults dvs; E: what is wanted of an exception -/
noncomputable def tCall (sp : Sp) (dvs : List V) (E : XK) (t : TA) : TE := fun σ H Q => t σ H fun vs H1 => sp (vs ++ dvs) H1 Q E
/-- o.m(..) of an instance of the class at C -/
noncomputable def tMeth (C : Addr) (m : Str) (sp : Sp) (dvs : List V) (E : XK) (ta : TE) (t : TA) : TE := fun σ H Q => ta σ H fun x H1 => ∃ a dx fs, x = .ref a ∧ H1 a = some (.ins C dx fs) ∧ fs.lookup m = none ∧
  t σ H1 fun vs H2 => sp (x :: (vs ++ dvs)) H2 Q E
/-- C(..): a new instance and its dict, then __init__ -/
noncomputable def tMake (C : Addr) (sp : Sp) (dvs : List V) (E : XK) (t : TA) : TE := fun σ H Q => t σ H fun vs H1 => ∀ x dx, H1 x = none → H1 dx = none → dx ≠ x →
  sp (.ref x :: (vs ++ dvs)) (upd (upd H1 dx (.own x)) x (.ins C dx [])) (fun v H2 => v = .non ∧ Q (.ref x) H2) E

/-- how the parameters are bound: us the positional arguments, kw the keywords' values by name, ds the defaults that fill up -/
noncomputable def Binds (K : PySem.W.Frag) (fd : FuncData) (ps : List Str) (ds : List Value) : Prop :=
  ∀ (s : Shared) (us : List Value), K.In s.heap → (us ++ ds).length = ps.length → BindsTo s fd ⟨us, []⟩ (ps.zip (us ++ ds))
/-- every parameter is given -/
theorem Binds.all {K : PySem.W.Frag} {fd : FuncData} {ps : List Str} (h : ∀ us : List Value, us.length = ps.length → bindArgs fd ⟨us, []⟩ = pure (ps.zip us)) : Binds K fd ps [] := fun s us _ hl => by
  rw [List.append_nil] at hl ⊢
  exact .of_eq (h us hl)

/-- an exception of a callee reaches what this body wants of exceptions -/
noncomputable def Passes (CX : CXT) (X : Cx) (E : XK) : Prop := ∀ (pins : List (Addr × Obj)) (σ : St) (H : Hp) (s : Shared) (e : Value) (s' : Shared), Inv X pins σ H s → CX X.stack H s E e s' → X.xe e s'

section
variable {X : Cx} {CX : CXT} {k : Nat} {f C : Addr} {fd : FuncData} {ps : List Str} {sp : Sp} {dvs : List V} {ds : List Value} {E : XK} {x m : Str} {p pos apos : Pos} {e o : Expr} {es : List Expr} {ta : TE} {t : TA}

/-- the callee runs -/
theorem run_fn {pins : List (Addr × Obj)} {σ : St} {H : Hp} {s : Shared} {Q : VK} {us : List Value} {vs : List V} (F : FnOk X.prog X.w X.K X.mg X.base CX k f fd ps sp) (hr : Room k X.A) (hb : Binds X.K fd ps ds) (hd : Vals dvs ds) (hx : Passes CX X E)
    (I : Inv X pins σ H s) (r : Vals vs us) (h : sp (vs ++ dvs) H Q E) : wpAny (model X.prog X.w) X.A (call (.ref f) us) (EP X pins σ Q) X.xe s := by
  have r2 : Vals (vs ++ dvs) (us ++ ds) := r.append hd
  have hl : (us ++ ds).length = ps.length := by rw [← r2.length]; exact F.len _ _ _ _ h
  refine wpAny_call (codeAny_mono (F.run X.A X.stack s H ⟨us, []⟩ (us ++ ds) (vs ++ dvs) Q E hr I.env0 (hb s us I.kIn hl) r2 h) fun r s' hq => ?_)
  cases r with
  | error e => exact hx pins σ H s e s' I hq
  | ok fl =>
    cases fl with
    | ret u => exact I.after hq
    | next => exact False.elim hq
    | brk => exact False.elim hq
    | cont => exact False.elim hq

theorem pe_call (F : FnOk X.prog X.w X.K X.mg X.base CX k f fd ps sp) (hr : Room k X.A) (hg : Gl X x) (hm : X.mg x = some (.ref f)) (hk : PySem.W.keepIn X.K (.ref f) = true) (hb : Binds X.K fd ps ds) (hd : Vals dvs ds) (hx : Passes CX X E)
    (ha : PA X (e :: es) t) (hdb : (x == ("__debug__" : Str)) = false := by decide) (he : starEach (e :: es) X.env = (false, eval e X.env) :: starEach es X.env := by rfl) (hpl : (backTo pos (starEach es X.env)).any (·.1) = false := by rfl) :
    PE X (.Call (.Name x p) (e :: es) [] pos) (tCall sp dvs E t) := by
  intro pins s σ H Q I h
  refine wpAny_Call_Name_kw (ld_glob I hg hm ?_ hdb)
  refine PySem.W.callWith_K (h₀ := X.base) I.ok.mod.kin hk (thn (ha pos pins s σ H _ I h) fun us s1 ⟨vs, H1, I1, r, q⟩ => ⟨I1.kIn, ?_⟩) he hpl
  exact run_fn F hr hb hd hx I1 r q
/-- what a class must have to be made -/
structure Mk (K : PySem.W.Frag) (C f : Addr) : Prop where
  makes : PySem.W.makesIn K C = true
  init : PySem.W.findIn K (.ref C) "__init__" = some (some (.ref f))
  fn : PySem.W.isFn K (.ref f) = true
  kp : PySem.W.keepIn K (.ref C) = true

end

/-! ### keywords -/
section
variable {X : Cx} {CX : CXT} {k : Nat} {f C : Addr} {fd : FuncData} {ps ks : List Str} {sp : Sp} {E : XK} {x m : Str} {p pos apos kpos : Pos} {e o : Expr} {es : List Expr} {kws : List Keyword} {te ta : TE} {t tk : TA} {nm : Option Str}
/-- how a call with keywords binds: g puts the positional values us and the keywords' values ws (names ks) in the parameters' order, defaults among them -/
structure KBinds (K : PySem.W.Frag) (fd : FuncData) (ps ks : List Str) (g : List Value → List Value → List Value) (gV : List V → List V → List V) : Prop where
  to : ∀ (s : Shared) (us ws : List Value), K.In s.heap → (g us ws).length = ps.length → BindsTo s fd ⟨us, ks.zip ws⟩ (ps.zip (g us ws))
  rel : ∀ {vs : List V} {us : List Value} {zs : List V} {ws : List Value}, Vals vs us → Vals zs ws → Vals (gV vs zs) (g us ws)
variable {g : List Value → List Value → List Value} {gV : List V → List V → List V}
end

/-! ### a def's body keeps its promise -/
/-- names: the parameters first -/
structure FnScope (N P : List Str) (sc : Scope) : Prop where
  kind : sc.kind = .function
  co : sc.isCoroutine = false
  gen : sc.isGenerator = false
  nd : N.Nodup
  pre : N.take P.length = P
  par : ∀ x ∈ P, sc.names.lookup x = some .local ∨ sc.names.lookup x = some .cell
  nofree : ∀ y ∈ sc.names, y.2 ≠ .free

theorem bindL_out {kindOf : Str → Option NameKind} {x : Str} : ∀ {binds : List (Str × Value)} {m : Str → Option Value}, (∀ v, (x, v) ∉ binds) → bindL kindOf binds m x = m x
  | [], _, _ => rfl
  | (n, v) :: r, m, h => by
    unfold bindL
    rw [bindL_out fun w hw => h w (List.mem_cons_of_mem _ hw)]
    split
    · have : x ≠ n := by rintro rfl; exact h v List.mem_cons_self
      simp [this]
    · rfl
theorem bindC_out {kindOf : Str → Option NameKind} {x : Str} : ∀ {binds : List (Str × Value)} {m : Str → Option Value}, (∀ v, (x, v) ∉ binds) → bindC kindOf binds m x = m x
  | [], _, _ => rfl
  | (n, v) :: r, m, h => by
    unfold bindC
    rw [bindC_out fun w hw => h w (List.mem_cons_of_mem _ hw)]
    split
    · rfl
    · have : x ≠ n := by rintro rfl; exact h v List.mem_cons_self
      simp [this]
theorem bindL_get {kindOf : Str → Option NameKind} {x : Str} {v : Value} : ∀ {P : List Str} {vs : List Value} {i : Nat} {m : Str → Option Value}, P.Nodup → P[i]? = some x → vs[i]? = some v → kindOf x = some .local →
    bindL kindOf (P.zip vs) m x = some v
  | [], _, _, _, _, h, _, _ => by simp at h
  | _ :: _, [], _, _, _, _, h, _ => by simp at h
  | p :: P, w :: vs, 0, m, nd, h1, h2, hk => by
    simp at h1 h2; subst h1; subst h2
    show bindL kindOf ((p, w) :: P.zip vs) m p = _
    unfold bindL
    rw [bindL_out fun v hv => (List.nodup_cons.mp nd).1 (List.of_mem_zip hv).1, if_pos hk]
    simp
  | p :: P, w :: vs, i + 1, m, nd, h1, h2, hk => by
    show bindL kindOf ((p, w) :: P.zip vs) m x = _
    unfold bindL
    exact bindL_get (i := i) (List.nodup_cons.mp nd).2 (by simpa using h1) (by simpa using h2) hk
theorem bindC_get {kindOf : Str → Option NameKind} {x : Str} {v : Value} : ∀ {P : List Str} {vs : List Value} {i : Nat} {m : Str → Option Value}, P.Nodup → P[i]? = some x → vs[i]? = some v → kindOf x ≠ some .local →
    bindC kindOf (P.zip vs) m x = some v
  | [], _, _, _, _, h, _, _ => by simp at h
  | _ :: _, [], _, _, _, _, h, _ => by simp at h
  | p :: P, w :: vs, 0, m, nd, h1, h2, hk => by
    simp at h1 h2; subst h1; subst h2
    show bindC kindOf ((p, w) :: P.zip vs) m p = _
    unfold bindC
    rw [bindC_out fun v hv => (List.nodup_cons.mp nd).1 (List.of_mem_zip hv).1, if_neg hk]
    simp
  | p :: P, w :: vs, i + 1, m, nd, h1, h2, hk => by
    show bindC kindOf ((p, w) :: P.zip vs) m x = _
    unfold bindC
    exact bindC_get (i := i) (List.nodup_cons.mp nd).2 (by simpa using h1) (by simpa using h2) hk

/-- the names' values at the entry -/
noncomputable def start (N : List Str) (vs : List V) : St := vs.map some ++ List.replicate (N.length - vs.length) none

/-- the context of a def's body, at its entry; an exception leaves the frame, then lies as CX says -/
noncomputable def cxOf (CX : CXT) (P : Program) (w : World) (K : PySem.W.Frag) (mg : Str → Option Value) (base : Heap) (N : List Str) (qual : Str) (scope : Scope) (f : Addr) (cd : Value) (A : Around) (outer : List Env) (s : Shared) (H : Hp) (E : XK) : Cx where
  prog := P
  w := w
  K := K
  mg := mg
  base := base
  A := A.deeper (envOfC qual scope s.heap.objs.size f cd)
  N := N
  s₀ := s
  H₀ := H
  env := envOfC qual scope s.heap.objs.size f cd
  outer := outer
  stack := envOfC qual scope s.heap.objs.size f cd :: outer
  ex := []
  calm := true
  fn := fun _ => true
  pn := []
  xe := fun e s' => wpAny (model P w) (A.deeper (envOfC qual scope s.heap.objs.size f cd)) (leaving (envOfC qual scope s.heap.objs.size f cd) e) (fun _ s'' => CX outer H s E e s'') (fun e' s'' => CX outer H s E e' s'') s'

theorem cell_has {sc : Scope} {n : Nat} {x : Str} (h : sc.names.lookup x = some .cell) : ∃ c, (cellsFrom n sc.names []).lookup x = some c := by
  have q := PySem.W.cellsFrom_some sc.names n [] (.inl h)
  exact Option.isSome_iff_exists.mp q

theorem inv_start {CX : CXT} {P : Program} {w : World} {K : PySem.W.Frag} {mg : Str → Option Value} {base : Heap} {N ps : List Str} {qual : Str} {scope : Scope} {f : Addr} {cd : Value} {A : Around} {outer : List Env} {s s1 : Shared} {H : Hp} {E : XK} {us : List Value} {vs : List V}
    (S : FnScope N ps scope) (hd : A.handled = none) (e0 : Env0 P w K mg base A outer s H) (hl : vs.length = ps.length) (r : Vals vs us)
    (x : InCallC s s.heap.objs.size (bindL (envOfC qual scope s.heap.objs.size f cd).kindOf (ps.zip us) fun _ => none) (cellsFrom (s.heap.objs.size + 1) scope.names []) (bindC (envOfC qual scope s.heap.objs.size f cd).kindOf (ps.zip us) fun _ => none) s1) :
    Inv (cxOf CX P w K mg base N qual scope f cd A outer s H E) [] (start N vs) H s1 := by
  have hpl : ps.length ≤ N.length := by have := congrArg List.length S.pre; rw [List.length_take] at this; omega
  obtain ⟨h1, tk, rfl, hk⟩ := x.done
  have noA : ∀ b : Addr, b ∉ (cxOf CX P w K mg base N qual scope f cd A outer s H E).ex := fun b z => absurd (show b ∈ ([] : List Addr) from z) (by simp)
  refine ⟨⟨e0.mod, S.kind, rfl, rfl, Nat.le_refl _, fun y z c h1 h2 => ?_, fun y hy => ?_, fun y c _ h => ?_, fun _ => hd, Around.frames_deeper e0.frames, .inr ⟨rfl, rfl⟩, fun b z => absurd z (noA b), e0.bs, e0.bsz, fun b _ _ => noA b, fun b z => absurd z (noA b), e0.funs, e0.frf⟩,
    rfl, e0.bare, Un.kept hk, ⟨_, x.toInCall.ns, fun i y v h1 h2 h3 => ?_⟩, fun y c h => ⟨_, x.cell y c h⟩, e0.hok.fresh (Nat.le_refl _), fun y c h => ?_, fun p hp => absurd (show p ∈ ([] : List (Addr × Obj)) from hp) (by simp), e0.hok.kept hk, ?_⟩
  · exact name_of_addr x.apart (PySem.mem_of_lookup h1) (PySem.mem_of_lookup h2)
  · have hy : scope.names.lookup y = some .cell ∨ scope.names.lookup y = some .free := hy
    rcases hy with hy | hy
    · exact cell_has hy
    · exact absurd rfl (S.nofree _ (PySem.mem_of_lookup hy))
  · exact Nat.le_of_lt (x.above y c (PySem.mem_of_lookup h))
  · have hi : i < vs.length := by
      unfold start at h2
      by_cases hi : i < vs.length
      · exact hi
      · rw [List.getElem?_append_right (by simpa using hi)] at h2
        rw [List.getElem?_replicate] at h2
        split at h2 <;> cases h2
    have ha : vs[i]? = some v := by
      unfold start at h2
      rw [List.getElem?_append_left (by simpa using hi), List.getElem?_map] at h2
      cases e : vs[i]? with
      | none => rw [e] at h2; cases h2
      | some a => rw [e] at h2; cases h2; rfl
    obtain ⟨u, hu, rv⟩ := r.get ha
    have hp : ps[i]? = some y := by
      rw [← S.pre, List.getElem?_take_of_lt (by omega)]; exact h1
    have ndP : ps.Nodup := by rw [← S.pre]; exact S.nd.sublist (List.take_sublist _ _)
    refine ⟨u, rv, ?_⟩
    rcases S.par y (List.mem_of_getElem? hp) with k | k
    · exact .inl ⟨k, bindL_get ndP hp hu k⟩
    · obtain ⟨c, e⟩ := cell_has (n := s.heap.objs.size + 1) k
      refine .inr ⟨.inl k, c, e, ?_⟩
      have q := x.cell y c e
      rw [bindC_get ndP hp hu (by show scope.names.lookup y ≠ _; rw [k]; decide)] at q
      exact q
  · exact e0.hok.fresh (Nat.le_of_lt (x.above y c (PySem.mem_of_lookup h)))
  · unfold start
    show _ = N.length
    rw [List.length_append, List.length_map, List.length_replicate]
    omega

/-- THE RULE: a def (or a method) of the text, by its body. The body's reading t is chosen for each entry; it is run at the parameters' values -/
theorem fn_of {CX : CXT} {P : Program} {w : World} {K : PySem.W.Frag} {mg : Str → Option Value} {base : Heap} {k : Nat} {f : Addr} {name qual : Str} {params : Arguments} {body : List Stmt} {scope : Scope} {dV kV doc pm cdv ct oc : Value} {an od : Option Addr}
    {osl : Array (Option Value)} {N ps : List Str} {sp : Sp} (lk : K.lookup f = some ⟨oc, od, .func (PySem.W.fnOf name qual params body scope dV kV doc pm an cdv ct), osl⟩) (hcd : PySem.W.codeIn K cdv qual = true) (S : FnScope N ps scope)
    (len : ∀ vs H Q E, sp vs H Q E → vs.length = ps.length)
    (hbody : ∀ (A : Around) (outer : List Env) (s : Shared) (H : Hp) (vs : List V) (Q : VK) (E : XK), Room k (A.deeper (envOfC qual scope s.heap.objs.size f cdv)) → sp vs H Q E →
      ∃ t, PSs (cxOf CX P w K mg base N qual scope f cdv A outer s H E) body t ∧ t { nx := fun _ H' => Q .non H', rt := Q } (start N vs) H) :
    FnOk P w K mg base CX (k + 1) f (PySem.W.fnOf name qual params body scope dV kV doc pm an cdv ct) ps sp := by
  refine ⟨len, fun A outer s H args us vs Q E hr e0 hb r hsp => ?_⟩
  have hl := len _ _ _ _ hsp
  have KX : K.In s.heap := e0.mod.kin.keeps fun b o e => (e0.bs b o e).1
  have lim : s.heap.NoLimit := e0.mod.nolimit.keeps fun b o e => (e0.bs b o e).1
  have hkind : ∀ y ∈ ps.zip us, scope.names.lookup y.1 = some .local ∨ (scope.names.lookup y.1 = some .cell ∧ ((cellsFrom (s.heap.objs.size + 1) scope.names []).lookup y.1).isSome = true) := fun ⟨n, v⟩ hy => by
    rcases S.par n (List.of_mem_zip hy).1 with q | q
    · exact .inl q
    · exact .inr ⟨q, PySem.W.cellsFrom_some _ _ _ (.inl q)⟩
  refine codeAny_call_function hr.depth (KX _ _ lk) rfl S.co S.gen rfl (PySem.W.codeRec_of KX hcd) (hb _ _ _ _ ?_)
  refine wpAny_newFunctionEnv_cells S.kind hkind fun env he s1 x => ?_
  subst he
  refine ⟨lim.keeps x.toInCall.keep, codeAny_func ?_⟩
  obtain ⟨t, ht, hq⟩ := hbody A outer s H vs Q E (hr.deeper _) hsp
  have I : Inv (cxOf CX P w K mg base N qual scope f cdv A outer s H E) [] (start N vs) H s1 := inv_start S hr.hd e0 hl r x
  refine wpAny_mono (ht [] s1 (start N vs) H _ I hq) (fun fl s' hs => ?_) fun e s' hs => hs
  have fin : ∀ {σ' : St} {H' : Hp} {v : V} {u : Value}, Inv (cxOf CX P w K mg base N qual scope f cdv A outer s H E) [] σ' H' s' → RelV v u → Q v H' → CE outer P w H s Q u s' :=
    fun {σ' H' v u} J rv q => ⟨v, H', J.os, J.bare, J.base, J.hok, rv, q⟩
  cases fl with
  | ret u =>
    obtain ⟨v, σ', H', J, rv, q⟩ := hs
    exact fin J rv q
  | next =>
    obtain ⟨σ', H', J, q⟩ := hs
    exact fin (v := V.non) (u := Value.none) J rfl q
  | brk =>
    obtain ⟨_, _, _, q⟩ := hs
    exact False.elim q
  | cont =>
    obtain ⟨_, _, _, q⟩ := hs
    exact False.elim q
end L2

namespace L2
open PySem PySem.Spec PyProof.Rows
section
variable {X : Cx} {x : Str} {p pos : Pos} {e : Expr} {es : List Expr} {t : TA} {id T : String} {r : List V → Hp → VK → Prop}

noncomputable def tCB (r : List V → Hp → VK → Prop) (t : TA) : TE := fun σ H Q => t σ H fun vs H1 => r vs H1 Q
/-- f(e, ..), f a built-in function -/
theorem pe_callB (hc : CallR X (.builtin id) r) (hg : Gl X x) (hm : X.mg x = none) (hv : bootBuiltins x = some (.builtin id)) (ha : PA X (e :: es) t) (hn : x ≠ "__name__" := by decide) (hdb : (x == ("__debug__" : Str)) = false := by decide)
    (he : starEach (e :: es) X.env = (false, eval e X.env) :: starEach es X.env := by rfl) (hpl : (backTo pos (starEach es X.env)).any (·.1) = false := by rfl) : PE X (.Call (.Name x p) (e :: es) [] pos) (tCB r t) := by
  intro pins s σ H Q I h
  refine wpAny_Call_Name_kw (ld_blt I hg hm hv ?_ hn hdb)
  exact PyProof.Rows.callWith_builtin1 (thn (ha pos pins s σ H _ I h) fun us s1 hsl30 => by obtain ⟨vs, H1, I1, r1, q1⟩ := hsl30; exact hc pins s1 σ H1 vs us Q I1 r1 q1) he hpl
end
end L2

namespace HT
open PySem PyProof.Rows

section
open PySem.SeqAt
open PySem.AutoSeq1 (wpAny_loadPart')
open PySem.MeetsSeq PySem.MeetsSeq2 PySem.MeetsSeq3

end

section
variable {prog : Program} {w : World} {A : Around} {E : Value → Shared → Prop} {s : Shared}

/-! ### t[a:b], not the whole -/
/-- a slice's bound as a place among n (d where it is left out) -/
noncomputable def sIx (n d : Nat) : Option Int → Nat
  | none => d
  | some v => if v < 0 then (v + (n : Int)).toNat else min v.toNat n
theorem sIx_none (n d : Nat) : sIx n d none = d := rfl
theorem sIx_nat (n d k : Nat) : sIx n d (some (k : Int)) = min k n := by
  show (if (k : Int) < 0 then ((k : Int) + (n : Int)).toNat else min (k : Int).toNat n) = min k n
  rw [if_neg (by omega), Int.toNat_natCast]
theorem sIx_le (n d : Nat) (hd : d ≤ n) (o : Option Int) : sIx n d o ≤ n := by
  cases o with
  | none => exact hd
  | some v =>
    show (if v < 0 then (v + (n : Int)).toNat else min v.toNat n) ≤ n
    by_cases hv : v < 0
    · rw [if_pos hv]; omega
    · rw [if_neg hv]; exact Nat.min_le_right _ _
end
end HT

namespace L2
open PySem PySem.Spec PyProof.Rows

/-! ### the parts of a slice -/
noncomputable abbrev TO := St → Hp → (Option Int → Hp → Prop) → Prop
/-- a slice's part (left out, or an int) -/
noncomputable def PO (X : Cx) (e : Option Expr) (t : TO) : Prop :=
  ∀ (pins : List (Addr × Obj)) (s : Shared) (σ : St) (H : Hp) (Q : Option Int → Hp → Prop), Inv X pins σ H s → t σ H Q →
    wpAny (model X.prog X.w) X.A (evalPart e X.env) (fun u s' => ∃ o H', Inv X pins σ H' s' ∧ IsPart u o ∧ Q o H') X.xe s
noncomputable def tNoPart : TO := fun _ H Q => Q none H
noncomputable def tPart (t : TE) : TO := fun σ H Q => t σ H fun x H1 => ∃ i, x = .int i ∧ Q (some i) H1

section
variable {X : Cx} {e : Expr} {te : TE} {lo hi : Option Expr} {tl th : TO} {pos p2 : Pos}

theorem po_none : PO X none tNoPart := by
  intro pins s σ H Q I h
  rw [evalPart_none]
  exact wpAny_pure ⟨none, H, I, .none, h⟩
theorem po_some (h : PE X e te) : PO X (some e) (tPart te) := by
  intro pins s σ H Q I hw
  rw [evalPart_some]
  refine thn (h pins s σ H _ I hw) fun u s1 hsl31 => ?_
  obtain ⟨x, H1, I1, r1, q1⟩ := hsl31
  obtain ⟨i, rfl, q⟩ := q1
  obtain ⟨t, rfl⟩ := r1
  exact ⟨some i, H1, I1, .int i t, q⟩

/-- what a slice of a value is, by values: the slice object stands at sl -/
noncomputable def SlR (X : Cx) (r : V → Option Int → Option Int → Hp → VK → Prop) : Prop :=
  ∀ (pins : List (Addr × Obj)) (s : Shared) (σ : St) (H : Hp) (x : V) (v vl vu : Value) (lo hi : Option Int) (sl : Addr) (Q : VK), Inv X pins σ H s → RelV x v → s.heap.IsSliceOf sl vl vu .none → IsPart vl lo → IsPart vu hi → r x lo hi H Q →
    ∃ T id, typeLookup (.type T) "__getitem__" = pure (some (.builtin id)) ∧ s.TypeIs v T ∧ wpAny (model X.prog X.w) X.A (getItem v (.ref sl)) (EP X pins σ Q) X.xe s
theorem SlR.or {r r' : V → Option Int → Option Int → Hp → VK → Prop} (h : SlR X r) (h' : SlR X r') : SlR X (fun x lo hi H Q => r x lo hi H Q ∨ r' x lo hi H Q) := by
  intro pins s σ H x v vl vu lo hi sl Q I rx hs pl pu q
  rcases q with q | q
  · exact h pins s σ H x v vl vu lo hi sl Q I rx hs pl pu q
  · exact h' pins s σ H x v vl vu lo hi sl Q I rx hs pl pu q
noncomputable def tSl (r : V → Option Int → Option Int → Hp → VK → Prop) (te : TE) (tl th : TO) : TE := fun σ H Q => te σ H fun x H1 => tl σ H1 fun l H2 => th σ H2 fun u H3 => r x l u H3 Q
/-- a[lo:hi], any a -/
theorem pe_slice {r : V → Option Int → Option Int → Hp → VK → Prop} (hr : SlR X r) (he : PE X e te) (hl : PO X lo tl) (hu : PO X hi th) : PE X (.Subscript e (.Slice lo hi none p2) pos) (tSl r te tl th) := by
  intro pins s σ H Q I h
  refine Subscript_ (thn (he pins s σ H _ I h) fun v s1 hsl32 => ?_)
  obtain ⟨x, H1, I1, r1, q1⟩ := hsl32
  refine wpAny_Slice (thn (hl pins s1 σ H1 _ I1 q1) fun vl s2 ⟨l, H2, I2, pl, q2⟩ => thn (hu pins s2 σ H2 _ I2 q2) fun vu s3 hsl33 => ?_)
  obtain ⟨u, H3, I3, pu, q3⟩ := hsl33
  rw [evalPart_none]
  refine wpAny_pure ?_
  have I4 : Inv X pins σ H3 { s3 with heap := s3.heap.push { cls := .type "slice", data := .fields #[vl, vu, .none] } } := I3.kept (t' := s3.toks) fun b ob q => Heap.get?_push_of_some _ q
  obtain ⟨T, id, hT, ht, hg⟩ := hr pins { s3 with heap := s3.heap.push { cls := .type "slice", data := .fields #[vl, vu, .none] } } σ H3 x v vl vu l u s3.heap.objs.size Q I4 r1 (Heap.IsSliceOf.new ..) pl pu q3
  show wpAny (model X.prog X.w) X.A (subscriptTail e (.Slice lo hi none p2) v (.ref s3.heap.objs.size)) (EP X pins σ Q) X.xe { s3 with heap := s3.heap.push { cls := .type "slice", data := .fields #[vl, vu, .none] } }
  exact tail_any (ops := [.ref s3.heap.objs.size, v]) ht hT hg (by with_unfolding_all rfl)

/-- the items of xs[lo:hi] -/
noncomputable def cutV (xs : List V) (lo hi : Option Int) : List V := (xs.drop (HT.sIx xs.length 0 lo)).take (HT.sIx xs.length xs.length hi - HT.sIx xs.length 0 lo)
theorem cutV_length (xs : List V) (lo hi : Option Int) : (cutV xs lo hi).length ≤ xs.length := by
  unfold cutV
  rw [List.length_take, List.length_drop]
  omega
/-! ### t < u, t + u -/
end
end L2

namespace L2
open PySem PySem.Spec PyProof.Rows

/-! ### places -/
/-- the place that an index of any sign means -/
noncomputable def ixN (n : Nat) (i : Int) : Option Nat := if 0 ≤ i then (if i < n then some i.toNat else none) else if -(n : Int) ≤ i then some (i + n).toNat else none
noncomputable def atI {α : Type} (xs : List α) (i : Int) : Option α := (ixN xs.length i).bind fun j => xs[j]?
theorem ixN_seq {n : Nat} {i : Int} {j : Nat} (h : ixN n i = some j) : seqIndex? i n = some j ∧ j < n ∧ -(n : Int) ≤ i ∧ i < n := by
  unfold ixN at h
  by_cases h0 : 0 ≤ i
  · rw [if_pos h0] at h
    by_cases h1 : i < n
    · rw [if_pos h1] at h
      have e : i.toNat = j := Option.some.inj h
      exact ⟨by rw [seqIndex_of h0 h1, e], by omega, by omega, h1⟩
    · rw [if_neg h1] at h; cases h
  · rw [if_neg h0] at h
    by_cases h1 : -(n : Int) ≤ i
    · rw [if_pos h1] at h
      have e : (i + n).toNat = j := Option.some.inj h
      exact ⟨by rw [seqIndex_neg (by omega) h1, e], by omega, h1, by omega⟩
    · rw [if_neg h1] at h; cases h
theorem atI_get {α : Type} {xs : List α} {i : Int} {v : α} (h : atI xs i = some v) : ∃ j, seqIndex? i xs.length = some j ∧ xs[j]? = some v ∧ j < xs.length ∧ -(xs.length : Int) ≤ i ∧ i < xs.length := by
  unfold atI at h
  cases e : ixN xs.length i with
  | none => rw [e] at h; cases h
  | some j =>
    rw [e] at h
    obtain ⟨h1, h2, h3, h4⟩ := ixN_seq e
    exact ⟨j, h1, h, h2, h3, h4⟩
theorem atI_nat {α : Type} {xs : List α} {j : Nat} {v : α} (h : xs[j]? = some v) : atI xs (j : Int) = some v := by
  have hj : j < xs.length := (List.getElem?_eq_some_iff.mp h).1
  have e : ixN xs.length (j : Int) = some j := by
    unfold ixN
    rw [if_pos (by omega), if_pos (by omega)]; simp
  unfold atI; rw [e]; exact h
theorem atI_last {α : Type} (xs : List α) (v : α) : atI (xs ++ [v]) (-1) = some v := by
  have hl : (xs ++ [v]).length = xs.length + 1 := by simp
  have e : ixN (xs ++ [v]).length (-1) = some xs.length := by
    unfold ixN
    rw [hl, if_neg (by decide), if_pos (by omega)]
    congr 1
    omega
  unfold atI
  rw [e]
  show (xs ++ [v])[xs.length]? = some v
  simp

/-! ### what may be subscripted -/
/-- what stands as an index of a plain subscript -/
noncomputable def PlainIx (b : Expr) : Prop := ∀ o i, subscripted b false o i = operate [o, i] (getItem o i)
/-- a subscript by values -/
noncomputable def IxR (X : Cx) (r : R2) : Prop :=
  ∀ (value slice : Expr) (pins : List (Addr × Obj)) (s : Shared) (σ : St) (H : Hp) (x y : V) (v u : Value) (Q : VK), Inv X pins σ H s → RelV x v → RelV y u → r x y H Q →
    subscripted slice false v u = operate [v, u] (getItem v u) → wpAny (model X.prog X.w) X.A (subscriptTail value slice v u) (EP X pins σ Q) X.xe s
/-- a call of a builtin's method by values: the receiver, the arguments -/
noncomputable def MtR (X : Cx) (id : String) (r : V → List V → Hp → VK → Prop) : Prop :=
  ∀ (pins : List (Addr × Obj)) (s : Shared) (σ : St) (H : Hp) (x : V) (xs : List V) (v : Value) (us : List Value) (Q : VK), Inv X pins σ H s → RelV x v → Vals xs us → r x xs H Q →
    wpAny (model X.prog X.w) X.A (call (.builtin id) (v :: us)) (EP X pins σ Q) X.xe s
section
variable {X : Cx} {a b : Expr} {ta tb : TE} {pos : Pos}
theorem IxR.or {r r' : R2} (h : IxR X r) (h' : IxR X r') : IxR X (fun x y H Q => r x y H Q ∨ r' x y H Q) := by
  intro value slice pins s σ H x y v u Q I rx ry q hs
  rcases q with q | q
  · exact h value slice pins s σ H x y v u Q I rx ry q hs
  · exact h' value slice pins s σ H x y v u Q I rx ry q hs
theorem MtR.or {id : String} {r r' : V → List V → Hp → VK → Prop} (h : MtR X id r) (h' : MtR X id r') : MtR X id (fun x xs H Q => r x xs H Q ∨ r' x xs H Q) := by
  intro pins s σ H x xs v us Q I rx rs q
  rcases q with q | q
  · exact h pins s σ H x xs v us Q I rx rs q
  · exact h' pins s σ H x xs v us Q I rx rs q
/-- a[b] -/
theorem pe_ix {r : R2} (hr : IxR X r) (ha : PE X a ta) (hb : PE X b tb) (hs : PlainIx b) : PE X (.Subscript a b pos) (tOp r ta tb) := by
  intro pins s σ H Q I h
  exact Subscript_ (binT ha hb I h fun v u s2 x y H2 I2 rx ry q => hr a b pins s2 σ H2 x y v u Q I2 rx ry q (hs _ _))

noncomputable def rIxL (K : PySem.W.Frag) : R2 := fun x y H Q => ∃ p xs i v, x = .ref p ∧ y = .int i ∧ SqL K H p xs ∧ atI xs i = some v ∧ Q v H
noncomputable def rIxT (K : PySem.W.Frag) : R2 := fun x y H Q => ∃ p xs i v, x = .ref p ∧ y = .int i ∧ SqT K H p xs ∧ atI xs i = some v ∧ Q v H
noncomputable def rIxS : R2 := fun x y H Q => ∃ z i c, x = .str z ∧ y = .int i ∧ z.length ≤ sizeLine ∧ atI z.cps.toList i = some c ∧ Q (.str ⟨#[c]⟩) H
theorem ix_list : IxR X (rIxL X.K) := by
  intro value slice pins s σ H x y v u Q I rx ry h hs
  obtain ⟨p, xs, i, z, rfl, rfl, hq, he, q⟩ := h
  cases rx
  obtain ⟨t, rfl⟩ := ry
  obtain ⟨its, r, pl, hz⟩ := I.list hq
  obtain ⟨j, h1, h2, h3, h4, h5⟩ := atI_get he
  obtain ⟨w, ew, rw'⟩ := r.get h2
  have hl := r.length
  have hn := line63
  have fin : EP X pins σ Q w s := ⟨z, H, I, rw', q⟩
  by_cases h0 : 0 ≤ i
  · have hj : i.toNat = j := by
      rw [seqIndex_of h0 h5] at h1
      exact Option.some.inj h1
    exact item_listR pl.isList h0 (by omega) (by rw [hj]; simpa using ew) fin hs
  · have hj : (i + (its.toArray.size : Int)).toNat = j := by
      rw [seqIndex_neg (by omega) h4] at h1
      rw [List.size_toArray, ← hl]
      exact Option.some.inj h1
    exact subscriptTail_builtinR (x := w) pl.isList.typeIs slot_list_getitem.lookup
      (wpAny_getItem_list_neg (Q := fun r s' => r = w ∧ EP X pins σ Q r s') pl.isList (by omega) (by rw [List.size_toArray] <;> omega) (by omega) (by rw [hj]; simpa using ew) ⟨rfl, fin⟩) hs
theorem ix_tup : IxR X (rIxT X.K) := by
  intro value slice pins s σ H x y v u Q I rx ry h hs
  obtain ⟨p, xs, i, z, rfl, rfl, hq, he, q⟩ := h
  cases rx
  obtain ⟨t, rfl⟩ := ry
  obtain ⟨its, r, pl, hz⟩ := I.tuple hq
  obtain ⟨j, h1, h2, h3, h4, h5⟩ := atI_get he
  obtain ⟨w, ew, rw'⟩ := r.get h2
  have hl := r.length
  have hn := line63
  have fin : EP X pins σ Q w s := ⟨z, H, I, rw', q⟩
  exact subscriptTail_builtinR (x := w) pl.typeIs slot_tuple_getitem.lookup
    (getItem_tuple (j := j) (Q := fun r s' => r = w ∧ EP X pins σ Q r s') pl (by omega) (by omega) (by rw [List.size_toArray, ← hl]; exact h1) (by simpa using ew) ⟨rfl, fin⟩) hs
theorem ix_str : IxR X rIxS := by
  intro value slice pins s σ H x y v u Q I rx ry h hs
  obtain ⟨z, i, c, rfl, rfl, hz, he, q⟩ := h
  obtain ⟨t, rfl⟩ := rx
  obtain ⟨t', rfl⟩ := ry
  obtain ⟨j, h1, h2, h3, h4, h5⟩ := atI_get he
  have hl : z.cps.toList.length = z.length := by simp [Str.length]
  rw [hl] at h1 h4 h5
  have hn := line63
  exact tail_any (typeIs_str s z t) slot_str_getitem.lookup (getItem_str (c := c) (by
    have e1 : decide (i < -(2 ^ 63 : Int)) = false := decide_eq_false (by omega)
    have e2 : decide (i ≥ 2 ^ 63) = false := decide_eq_false (by omega)
    rw [e1, e2, Bool.or_false]) (by rw [h1]; simpa using h2) ⟨.str ⟨#[c]⟩, H, I.tok _, ⟨_, rfl⟩, q⟩) hs
/-! ### xs[i] = v, any sign -/
theorem Inv.lst {pins : List (Addr × Obj)} {σ : St} {H : Hp} {s : Shared} {p : Addr} {xs : List V} (I : Inv X pins σ H s) (h : H p = some (.lst xs)) :
    ∃ (its : List Value) (n : Nat), Vals xs its ∧ s.heap.get? p = some { cls := .type "list", data := .seq its.toArray n } ∧ xs.length ≤ sizeLine := by
  obtain ⟨z, its, n, r, e⟩ := I.hok p _ h
  exact ⟨its, n, r, e, z⟩
/-! ### slices -/
theorem slice_bounds (lo hi : Option Int) (n : Nat) : (sliceBounds lo hi none n).1 = ((HT.sIx n 0 lo : Nat) : Int) ∧ (sliceBounds lo hi none n).2.1 = ((HT.sIx n n hi : Nat) : Int) ∧ (sliceBounds lo hi none n).2.2 = 1 := by
  refine ⟨?_, ?_, rfl⟩
  · cases lo with
    | none => simp [sliceBounds, HT.sIx]
    | some i =>
      simp only [sliceBounds, HT.sIx, Option.getD_none, show (1 : Int) > 0 by decide, if_true]
      by_cases h : i < 0
      · simp only [h, if_true] <;> omega
      · simp only [h, if_false] <;> omega
  · cases hi with
    | none => simp [sliceBounds, HT.sIx]
    | some i =>
      simp only [sliceBounds, HT.sIx, Option.getD_none, show (1 : Int) > 0 by decide, if_true]
      by_cases h : i < 0
      · simp only [h, if_true] <;> omega
      · simp only [h, if_false] <;> omega
theorem slicePick_cut (its : List Value) (lo hi : Option Int) : slicePick its.toArray lo hi none = ((its.drop (HT.sIx its.length 0 lo)).take (HT.sIx its.length its.length hi - HT.sIx its.length 0 lo)).toArray := by
  obtain ⟨h1, h2, h3⟩ := slice_bounds lo hi its.toArray.size
  unfold slicePick
  rw [h1, h2, h3]
  simp only [sliceRange_one, pick_run, List.size_toArray] <;> rfl
/-- xs[lo:hi] of a list: a new list -/
noncomputable def rSlL (K : PySem.W.Frag) : V → Option Int → Option Int → Hp → VK → Prop := fun x lo hi H Q => ∃ a xs, x = .ref a ∧ SqL K H a xs ∧ ∀ p, H p = none → Q (.ref p) (upd H p (.lst (cutV xs lo hi)))
theorem sl_list : SlR X (rSlL X.K) := by
  intro pins s σ H x v vl vu lo hi sl Q I rx hs pl pu h
  obtain ⟨a, xs, rfl, hx, q⟩ := h
  cases rx
  obtain ⟨its, r, ht, hz⟩ := I.list hx
  have hlen := r.length
  refine ⟨"list", _, slot_list_getitem.lookup, ht.isList.typeIs, ?_⟩
  refine wpAny_getItem_list_slice ht.isList hs pl pu .none (by simp) ?_ (by rw [List.size_toArray] <;> omega)
  rw [slicePick_cut, ← hlen]
  refine ⟨.ref s.heap.objs.size, _, I.laid (t' := s.toks) (o := .lst (cutV xs lo hi)) (fun b ob q => Heap.get?_push_of_some _ q) (Nat.le_refl _) ?_, rfl, q _ (I.hok.fresh (Nat.le_refl _))⟩
  exact ⟨Nat.le_trans (cutV_length xs lo hi) hz, _, 0, (r.drop (HT.sIx xs.length 0 lo)).take (HT.sIx xs.length xs.length hi - HT.sIx xs.length 0 lo), Heap.get?_push_size _ rfl⟩

/-! ### in, not in: flat items -/
noncomputable def flatV : V → Bool
  | .non => true
  | .bl _ => true
  | .int _ => true
  | .str _ => true
  | _ => false
theorem op_notIn_str : OpR X (compareOp .NotIn) (fun x y H Q => ∃ i j, x = .str i ∧ y = .str j ∧ Q (.bl (!(!(Builtin.Str.occurrences j i 0 j.length 1).isEmpty))) H) := by
  intro pins s σ H x y v u Q I rx ry h
  obtain ⟨i, j, rfl, rfl, q⟩ := h
  obtain ⟨t, rfl⟩ := rx
  obtain ⟨t', rfl⟩ := ry
  exact notIn_str ⟨.bl _, H, I, rfl, q⟩

/-! ### len, list(x), tuple(x) of any list or tuple that is read -/
theorem call_len_seq : CallR X (.builtin "len") (fun xs H Q => ∃ p ys, xs = [.ref p] ∧ (SqL X.K H p ys ∨ SqT X.K H p ys) ∧ Q (.int ys.length) H) := by
  intro pins s σ H xs us Q I r h
  obtain ⟨p, ys, rfl, hq, q⟩ := h
  obtain ⟨u, rfl, rx⟩ := vals1 r
  cases rx
  have hn := line63
  rcases hq with hq | hq
  · obtain ⟨its, r', pl, hz⟩ := I.list hq
    have hlen := r'.length
    exact Calls.call_len_list pl.isList (by simp only [List.size_toArray] <;> omega) ⟨.int ys.length, H, I.tok _, ⟨s.toks + 1, by rw [List.size_toArray, hlen]⟩, q⟩
  · obtain ⟨its, r', pl, hz⟩ := I.tuple hq
    have hlen := r'.length
    exact len_tuple pl (by simp only [List.size_toArray] <;> omega) ⟨.int ys.length, H, I.tok _, ⟨s.toks + 1, by rw [List.size_toArray, hlen]⟩, q⟩
theorem call_len_str : CallR X (.builtin "len") (fun xs H Q => ∃ z, xs = [.str z] ∧ z.length ≤ sizeLine ∧ Q (.int z.length) H) := by
  intro pins s σ H xs us Q I r h
  obtain ⟨z, rfl, hz, q⟩ := h
  obtain ⟨u, rfl, t, rfl⟩ := vals1 r
  have hn := line63
  exact len_str (by omega) ⟨.int z.length, H, I.tok _, ⟨_, rfl⟩, q⟩
theorem CallR.or {f : Value} {r r' : List V → Hp → VK → Prop} (h : CallR X f r) (h' : CallR X f r') : CallR X f (fun xs H Q => r xs H Q ∨ r' xs H Q) := by
  intro pins s σ H xs us Q I rs q
  rcases q with q | q
  · exact h pins s σ H xs us Q I rs q
  · exact h' pins s σ H xs us Q I rs q
/-! ### the call of a builtin's method: o.m(..) -/
/-- the value is of that builtin type -/
noncomputable def tyV (K : PySem.W.Frag) (T : String) (x : V) (H : Hp) : Prop := match x with
  | .str _ => T = "str"
  | .int _ => T = "int"
  | .ref p => (T = "list" ∧ ∃ xs, SqL K H p xs) ∨ (T = "tuple" ∧ ∃ o, K.lookup p = some o ∧ o.cls = .type "tuple" ∧ o.dict = none) ∨
      (T = "dict" ∧ ((∃ kvs, H p = some (.dK kvs)) ∨ ∃ kvs, H p = some (.dT kvs))) ∨ (T = "set" ∧ ∃ S n, H p = some (.set S n))
  | _ => False
theorem tyV_is {pins : List (Addr × Obj)} {σ : St} {H : Hp} {s : Shared} {T : String} {x : V} {v : Value} (I : Inv X pins σ H s) (r : RelV x v) (ty : tyV X.K T x H) :
    s.TypeIs v T ∧ ∀ a, v = .ref a → ∃ ob, s.heap.get? a = some ob ∧ ob.dict = none := by
  cases x with
  | str z =>
    obtain ⟨t, rfl⟩ := r
    cases (show T = "str" from ty)
    exact ⟨typeIs_str s z t, fun _ e => nomatch e⟩
  | int i =>
    obtain ⟨t, rfl⟩ := r
    cases (show T = "int" from ty)
    exact ⟨typeIs_int s i t, fun _ e => nomatch e⟩
  | ref p =>
    cases r
    rcases ty with ⟨rfl, xs, hq⟩ | ⟨rfl, o, hk, hc, hd⟩ | ⟨rfl, hk⟩ | ⟨rfl, S, n, hk⟩
    · obtain ⟨its, _, pl, _⟩ := I.list hq
      refine ⟨pl.isList.typeIs, fun a e => ?_⟩
      cases e
      obtain ⟨o, n, e, c, hd, _⟩ := pl
      exact ⟨o, e, hd⟩
    · refine ⟨⟨o, I.kIn p o hk, hc⟩, fun a e => ?_⟩
      cases e
      exact ⟨o, I.kIn _ o hk, hd⟩
    · have z : ∃ o, s.heap.get? p = some o ∧ o.ExactDict := by
        rcases hk with ⟨kvs, hk⟩ | ⟨kvs, hk⟩
        · obtain ⟨_, _, _, _, o, _, _, e, ex, _⟩ := I.hok p _ hk
          exact ⟨o, e, ex⟩
        · obtain ⟨_, _, _, _, o, _, _, e, ex, _⟩ := I.hok p _ hk
          exact ⟨o, e, ex⟩
      obtain ⟨o, e, ex⟩ := z
      refine ⟨⟨o, e, ex.1⟩, fun a e2 => ?_⟩
      cases e2
      exact ⟨o, e, ex.2.1⟩
    · obtain ⟨o, _, _, _, e, ex, _⟩ := I.hok p _ hk
      refine ⟨⟨o, e, ex.1⟩, fun a e2 => ?_⟩
      cases e2
      exact ⟨o, e, ex.2.1⟩
  | _ => exact False.elim ty
noncomputable def tBM0 (K : PySem.W.Frag) (T : String) (r : V → List V → Hp → VK → Prop) (to : TE) : TE := fun σ H Q => to σ H fun x H1 => tyV K T x H1 ∧ r x [] H1 Q
noncomputable def tBM (K : PySem.W.Frag) (T : String) (r : V → List V → Hp → VK → Prop) (to : TE) (t : TA) : TE := fun σ H Q => to σ H fun x H1 => tyV K T x H1 ∧ t σ H1 fun xs H2 => r x xs H2 Q
variable {o e : Expr} {es : List Expr} {to : TE} {t : TA} {name : Str} {apos cpos : Pos} {T id : String} {r : V → List V → Hp → VK → Prop}
theorem pe_bm0 (pa : PlainAttrs T) (slot : Slot T name id) (hty : typeOf (.builtin id) = pure (.type "method_descriptor")) (hm : MtR X id r) (ho : PE X o to)
    (hbase : attributeBase o name X.env (eval o X.env) = eval o X.env := by rfl) (hline : (apos.endLine == cpos.line) = true := by rfl) : PE X (.Call (.Attribute o name apos) [] [] cpos) (tBM0 X.K T r to) := by
  intro pins s σ H Q I h
  refine wpAny_Call_method0_late hbase hline (thn (ho pins s σ H _ I h) fun v s1 hsl34 => ?_)
  obtain ⟨x, H1, I1, r1, ty, q1⟩ := hsl34
  obtain ⟨h1, h2⟩ := tyV_is I1 r1 ty
  exact ⟨T, id, pa, slot, hty, h1, h2, Calls.callWith_builtin rfl (PySem.evalArgs_none (hm pins s1 σ H1 x [] v [] Q I1 r1 .nil q1))⟩
theorem pe_bm (pa : PlainAttrs T) (slot : Slot T name id) (hty : typeOf (.builtin id) = pure (.type "method_descriptor")) (hm : MtR X id r) (ho : PE X o to) (ha : PA X (e :: es) t)
    (hbase : attributeBase o name X.env (eval o X.env) = eval o X.env := by rfl)
    (hfew : ((backTo cpos (starEach (e :: es) X.env)).all (fun x => !x.1) && (backToKw cpos (keywordEach [] X.env)).all (fun x => x.1.isSome)
      && decide ((e :: es).length + ([] : List Keyword).length + (if ([] : List Keyword).isEmpty then 0 else 1) < 30)) = true := by rfl)
    (hline : (apos.endLine == cpos.line) = true := by rfl) (hs : starEach (e :: es) X.env = (false, eval e X.env) :: starEach es X.env := by rfl) (hplain : (backTo cpos (starEach es X.env)).any (·.1) = false := by rfl) :
    PE X (.Call (.Attribute o name apos) (e :: es) [] cpos) (tBM X.K T r to t) := by
  intro pins s σ H Q I h
  refine wpAny_Call_method_late hbase hfew hline rfl (thn (ho pins s σ H _ I h) fun v s1 hsl35 => ?_)
  obtain ⟨x, H1, I1, r1, ty, q1⟩ := hsl35
  obtain ⟨h1, h2⟩ := tyV_is I1 r1 ty
  refine ⟨T, id, pa, slot, hty, h1, h2, ?_⟩
  have hA := ha cpos pins s1 σ H1 _ I1 q1
  rw [hs] at hA ⊢
  refine Calls.callWith_builtin (by show (false || (backTo cpos (starEach es X.env)).any (·.1)) = false; rw [hplain] <;> rfl) (Calls.evalArgs_plain ?_)
  exact thn hA fun us s2 hsl36 => by obtain ⟨vs, H2, I2, r2, q2⟩ := hsl36; exact hm pins s2 σ H2 x vs v us Q I2 r1 r2 q2
/- xs.append(e), list.index on a module's tuple .. are MtR facts of 06m -/
end
end L2

namespace L2
open PySem PySem.Spec PyProof.Rows

noncomputable def MtM (X : Cx) (id : String) (r : V → List V → Hp → VK → Prop) : Prop :=
  ∀ (pins : List (Addr × Obj)) (s : Shared) (σ : St) (H : Hp) (x : V) (xs : List V) (v : Value) (us : List Value) (Q : VK), Inv X pins σ H s → RelV x v → Vals xs us → r x xs H Q →
    wpAny (model X.prog X.w) X.A (call (.builtin id) (v :: us)) (EP X pins σ Q) X.xe s

/-! ### lists of values -/
theorem Vals.one : ∀ {x : V} {us : List Value}, Vals [x] us → ∃ u, us = [u] ∧ RelV x u
  | _, _, .cons r .nil => ⟨_, rfl, r⟩
theorem Vals.two : ∀ {x y : V} {us : List Value}, Vals [x, y] us → ∃ u v, us = [u, v] ∧ RelV x u ∧ RelV y v
  | _, _, _, .cons r (.cons q .nil) => ⟨_, _, rfl, r, q⟩
theorem Vals.zero : ∀ {us : List Value}, Vals [] us → us = []
  | _, .nil => rfl
theorem Vals.dropLast {xs : List V} {us : List Value} (h : Vals xs us) : Vals xs.dropLast us.dropLast := by
  induction h with
  | nil => exact .nil
  | cons r t ih =>
    cases t with
    | nil => exact .nil
    | cons q t' => exact .cons r ih
theorem Vals.eraseIdx : ∀ {xs : List V} {us : List Value} (i : Nat), Vals xs us → Vals (xs.eraseIdx i) (us.eraseIdx i)
  | _, _, _, .nil => .nil
  | _, _, 0, .cons _ t => t
  | _, _, i + 1, .cons r t => .cons r (Vals.eraseIdx i t)
theorem Vals.reverse {xs : List V} {us : List Value} (h : Vals xs us) : Vals xs.reverse us.reverse := by
  induction h with
  | nil => exact .nil
  | cons r t ih => rw [List.reverse_cons, List.reverse_cons]; exact Vals.append ih (.cons r .nil)
theorem Vals.rep {xs : List V} {us : List Value} (h : Vals xs us) : ∀ k : Nat, Vals (List.replicate k xs).flatten (List.replicate k us).flatten
  | 0 => .nil
  | k + 1 => by
    rw [List.replicate_succ, List.replicate_succ, List.flatten_cons, List.flatten_cons]
    exact Vals.append h (Vals.rep h k)
theorem erase_last {α : Type} (l : List α) : l.eraseIdx (l.length - 1) = l.dropLast := by
  induction l with
  | nil => rfl
  | cons a r ih =>
    cases r with
    | nil => rfl
    | cons b r =>
      have e : (a :: b :: r).length - 1 = ((b :: r).length - 1) + 1 := by
        have h1 : (a :: b :: r).length = r.length + 2 := rfl
        have h2 : (b :: r).length = r.length + 1 := rfl
        omega
      rw [e, List.eraseIdx_cons_succ, ih]
      all_goals rfl
theorem foldl_rep (its : List Value) : ∀ (k : Nat) (acc : List Value),
    List.foldl (fun x1 x2 => x1 ++ x2) acc.toArray (List.replicate k its.toArray) = (acc ++ (List.replicate k its).flatten).toArray
  | 0, acc => by simp
  | k + 1, acc => by
    have e : acc.toArray ++ its.toArray = (acc ++ its).toArray := by simp
    have e2 : (acc ++ its) ++ (List.replicate k its).flatten = acc ++ (List.replicate (k + 1) its).flatten := by
      rw [List.replicate_succ, List.flatten_cons, List.append_assoc]
    rw [← e2, ← foldl_rep its k (acc ++ its), ← e, List.replicate_succ, List.foldl_cons]

section
variable {X : Cx} {pins : List (Addr × Obj)} {σ : St} {H : Hp} {s : Shared} {l b : Addr} {xs ys zs : List V}

/-! ### the two steps: a tracked list is rewritten, a new list is laid -/
theorem Inv.lset {its its' : List Value} {n : Nat} {f : Array Value → Array Value} {t' : Nat} (I : Inv X pins σ H s) (hH : H l = some (.lst xs))
    (e : s.heap.get? l = some { cls := .type "list", data := .seq its.toArray n }) (hf : f its.toArray = its'.toArray) (hv : Vals ys its') (hz : ys.length ≤ sizeLine) :
    Inv X pins σ (upd H l (.lst ys)) { s with heap := s.heap.update l (Obj.mapSeq f), toks := t' } := by
  have q := PySem.IsL.update e f
  rw [hf] at q
  refine I.write (x := l) (e := l) (by rw [hH]; exact trivial) (.inl rfl) (fun b' u hb hu => (Heap.get?_update_other s.heap (Obj.mapSeq f) (Ne.symm hb)).trans hu) ⟨_, q⟩ ?_
  exact ⟨hz, its', _, hv, q⟩
theorem Inv.lnew {its : List Value} {t' : Nat} (I : Inv X pins σ H s) (hv : Vals ys its) (hz : ys.length ≤ sizeLine) :
    Inv X pins σ (upd H s.heap.objs.size (.lst ys)) { s with heap := s.heap.push { cls := .type "list", data := .seq its.toArray }, toks := t' } :=
  I.laid (fun _ _ q => Heap.get?_push_of_some _ q) (Nat.le_refl _) ⟨hz, its, 0, hv, Heap.get?_push_size _ rfl⟩
theorem Inv.fresh (I : Inv X pins σ H s) : H s.heap.objs.size = none := I.hok.fresh (Nat.le_refl _)
theorem Inv.lstM (I : Inv X pins σ H s) (hH : H l = some (.lst xs)) : xs.length ≤ sizeLine ∧ ∃ (its : List Value) (n : Nat), Vals xs its ∧ xs.length = its.length ∧ s.heap.get? l = some { cls := .type "list", data := .seq its.toArray n } := by
  obtain ⟨z, its, n, r, e⟩ := I.hok l _ hH
  exact ⟨z, its, n, r, r.length, e⟩

theorem notLongL {n : Nat} (h : n ≤ sizeLine) : Builtin.List.listTooLong n = false := by
  unfold Builtin.List.listTooLong
  exact decide_eq_false (by omega)
end

section
variable {X : Cx}

/-! ### methods -/
noncomputable def rAppend : V → List V → Hp → VK → Prop := fun x vs H Q => ∃ l xs y, x = .ref l ∧ vs = [y] ∧ H l = some (.lst xs) ∧ xs.length < sizeLine ∧ Q .non (upd H l (.lst (xs ++ [y])))
theorem mt_append : MtM X "list.append" rAppend := by
  intro pins s σ H x vs v us Q I rx rv h
  obtain ⟨l, xs, y, rfl, rfl, hH, hz, q⟩ := h
  cases rx
  obtain ⟨u, rfl, ru⟩ := rv.one
  obtain ⟨z, its, n, r, hl, e⟩ := I.lstM hH
  refine call_meets F.slot_list_append ⟨_, e, rfl⟩ F.entry_list_append (F.args_list_append_2 _ _) (PySem.list_append l its.toArray n u (by rw [List.size_toArray]; omega)) ⟨e, ?_⟩
  refine ⟨.non, _, I.lset (its' := its ++ [u]) hH e (by simp) (r.append (.cons ru .nil)) ?_, rfl, q⟩
  rw [List.length_append, List.length_singleton]
  omega

noncomputable def rPop : V → List V → Hp → VK → Prop := fun x vs H Q => ∃ l xs y, x = .ref l ∧ vs = [] ∧ H l = some (.lst xs) ∧ xs[xs.length - 1]? = some y ∧ Q y (upd H l (.lst xs.dropLast))
theorem mt_pop : MtM X "list.pop" rPop := by
  intro pins s σ H x vs v us Q I rx rv h
  obtain ⟨l, xs, y, rfl, rfl, hH, hy, q⟩ := h
  cases rx
  have hus := rv.zero
  subst hus
  obtain ⟨z, its, n, r, hl, e⟩ := I.lstM hH
  obtain ⟨u, hu, ru⟩ := r.get hy
  have hy' : its.toArray[its.toArray.size - 1]? = some u := by
    show its.toArray[its.length - 1]? = some u
    rw [← Array.getElem?_toList, ← hl]
    exact hu
  refine call_meets F.slot_list_pop ⟨_, e, rfl⟩ F.entry_list_pop (F.args_list_pop_1 _) (MeetsSeq.list_pop_last l its.toArray n u hy' (by rw [List.size_toArray]; omega)) ⟨e, ?_⟩
  refine ⟨y, _, I.lset (its' := its.dropLast) hH e ?_ r.dropLast ?_, ru, q⟩
  · show its.toArray.eraseIdxIfInBounds (its.toArray.size - 1) = its.dropLast.toArray
    rw [List.size_toArray, List.eraseIdxIfInBounds_toArray, erase_last]
  · rw [List.length_dropLast]
    omega

/-! ### list + list, list += list, list * int -/
noncomputable def rCat : R2 := fun x y H Q => ∃ l b xs zs, x = .ref l ∧ y = .ref b ∧ H l = some (.lst xs) ∧ H b = some (.lst zs) ∧ xs.length + zs.length ≤ sizeLine ∧ ∀ p, H p = none → Q (.ref p) (upd H p (.lst (xs ++ zs)))
theorem op_cat : OpR X (binaryOp .Add) rCat := by
  intro pins s σ H x y v u Q I rx ry h
  obtain ⟨l, b, xs, zs, rfl, rfl, hH, hB, hz, q⟩ := h
  cases rx
  cases ry
  obtain ⟨z, its, n, r, hl, e⟩ := I.lstM hH
  obtain ⟨z2, its2, n2, r2, hl2, e2⟩ := I.lstM hB
  refine PySem.P.add_list e e2 ?_ (by rw [List.size_toArray, List.size_toArray]; omega)
  have ea : its.toArray ++ its2.toArray = (its ++ its2).toArray := by simp
  rw [ea]
  exact ⟨.ref _, _, I.lnew (t' := s.toks) (r.append r2) (by rw [List.length_append]; omega), rfl, q _ I.fresh⟩
/-- a list times an int (a negative one is nothing) -/
noncomputable def rRep : R2 := fun x y H Q => ∃ l k xs, x = .ref l ∧ y = .int k ∧ H l = some (.lst xs) ∧ -(2 ^ 63) ≤ k ∧ k < 2 ^ 63 ∧ xs.length * k.toNat ≤ sizeLine ∧
  ∀ p, H p = none → Q (.ref p) (upd H p (.lst (List.replicate k.toNat xs).flatten))
theorem len_rep {α : Type} (xs : List α) (k : Nat) : (List.replicate k xs).flatten.length = k * xs.length := by
  induction k with
  | zero => simp
  | succ k ih => rw [List.replicate_succ, List.flatten_cons, List.length_append, ih, Nat.succ_mul, Nat.add_comm]
theorem op_rep : OpR X (binaryOp .Mult) rRep := by
  intro pins s σ H x y v u Q I rx ry h
  obtain ⟨l, k, xs, rfl, rfl, hH, h1, h2, hz, q⟩ := h
  cases rx
  obtain ⟨t, rfl⟩ := ry
  obtain ⟨z, its, n, r, hl, e⟩ := I.lstM hH
  have hlen : its.toArray.size * k.toNat ≤ sizeLine := by rw [List.size_toArray, ← hl]; exact hz
  have hcap : ¬ its.toArray.size * k.toNat > (2 ^ 63 - 1) / 8 := by
    have : (sizeLine : Nat) ≤ (2 ^ 63 - 1) / 8 := by decide
    omega
  have hfit : ¬ (!Builtin.List.listFitsIndex k) = true := by
    rw [fitsIndex_both h1 h2]
    exact Bool.false_ne_true
  have hlong : ¬ Builtin.List.listTooLong (its.toArray.size * k.toNat) = true := by
    rw [notLongL hlen]
    exact Bool.false_ne_true
  have hnew : List.foldl (fun x1 x2 => x1 ++ x2) #[] (List.replicate (if its.toArray.isEmpty = true then 0 else k.toNat) its.toArray) = (List.replicate k.toNat its).flatten.toArray := by
    have f0 : ∀ m : Nat, List.foldl (fun x1 x2 => x1 ++ x2) #[] (List.replicate m its.toArray) = (List.replicate m its).flatten.toArray := fun m => by
      have := foldl_rep its m []
      rw [List.nil_append] at this
      exact this
    rw [f0]
    cases its with
    | nil => simp
    | cons a r' => rw [if_neg (by simp)]
  refine wpAny_binaryOp_repeat_ref (T := "list") (U := "int") (by decide) ⟨_, e, rfl⟩ (fun s' => typeIs_int s' k t) noFill_list_mul F.fills_int_mul F.slot_int_rmul repeat_list F.slot_int_index.lookup
    (call_meets F.slot_int_rmul (typeIs_int s k t) F.entry_int_rmul (F.args_int_rmul_2 _ _) (int___rmul___int_list k t l its.toArray n)
      ⟨e, rfl, ⟨_, e, rfl⟩, call_meets F.slot_list_mul ⟨_, e, rfl⟩ F.entry_list_mul (F.args_list_mul_2 _ _) (AutoListH.list___mul___list_int_3 l its.toArray n k t hfit hcap hlong) ⟨e, ?_⟩⟩)
  rw [hnew]
  exact ⟨.ref _, _, I.lnew (t' := s.toks) (r.rep k.toNat) (by rw [len_rep, Nat.mul_comm]; exact hz), rfl, q _ I.fresh⟩

/-! ### del xs[i] -/
end

/-! ### xs[a:b] = ys -/
section
variable {prog : Program} {w : World} {A : Around} {E : Value → Shared → Prop} {s : Shared}
end

section
variable {X : Cx}
end
end L2

namespace Att
open PySem PySem.W PySem.Calls PyProof.Rows

/-! ### the script -/
theorem ints_of_wellAll {P : Params} {h : Heap} : ∀ (ns : List Int) (vs : List Value), WellAll P h vs (ns.map WData.int) → IntsAre vs ns := by
  intro ns
  induction ns with
  | nil =>
    intro vs w
    rw [List.map_nil] at w
    cases w
    exact .nil
  | cons n ns ih =>
    intro vs w
    rw [List.map_cons] at w
    cases w with
    | cons a b =>
      cases a
      exact .cons _ _ (ih _ b)

theorem script_of {l : OpenLaw} {n : Nat} (hn : l.most = some n) {P : Params} {h : Heap} {args : List WData} {vals : List Value}
    (hpre : l.row.toRowW.claim.pre args = true) (hwl : WellAll P h vals args) :
    ∃ a vs ns, vals = [Value.ref a] ∧ args = [WData.list (ns.map WData.int)] ∧ h.get? a = some { cls := .type "list", data := .seq vs.toArray } ∧ IntsAre vs ns ∧ ns.length ≤ n := by
  have hsh : WShape.hasAll [] args [.list .int] = true := (pre_splitW hpre).1
  have hc : l.pre.holds [] { args := args } = true := (pre_splitW hpre).2
  obtain ⟨d, r, rfl, h1, h2⟩ := hasAllW_cons hsh
  obtain rfl := hasAllW_nil h2
  obtain ⟨xs, rfl, h3⟩ := hasW_list h1
  obtain ⟨ns, rfl⟩ := items_int h3
  have hlen : ns.length ≤ n := by
    unfold OpenLaw.pre at hc
    have h4 : (WTm.not (.lt (.lit (.int (n : Int))) (.len (.arg 0)))).holds [] { args := [.list (ns.map .int)] } = true := by
      have h4 := (holds_andW hc).1
      rw [hn] at h4
      exact h4
    have h5 := condW_of h4 (w_not (w_lt w_lit (w_len_list (w_arg rfl))))
    rw [List.length_map] at h5
    refine Nat.le_of_not_lt fun q => ?_
    have q' : (n : Int) < ((ns.length : Nat) : Int) := by omega
    first
      | (rw [decide_eq_true q'] at h5; exact absurd h5 (by decide))
      | (simp at h5; omega)
  cases hwl with
  | cons w1 w2 =>
    cases w2
    cases w1 with
    | list ho hall => exact ⟨_, _, ns, rfl, rfl, ho, ints_of_wellAll ns _ hall, hlen⟩

theorem post_true (l : OpenLaw) (args : List WData) : l.row.toRowW.claim.post args (.bool true) args = true :=
  postW_of (r := l.row.toRowW) (X := (true == true))
    (show WShape.has [] (.bool true) .bool = true by first | rfl | decide | simp [WShape.has, WShape.arms, WShape.armsAll])
    (show (WTm.eq .res (.lit (.bool true))).value [] { args := args, res := some (.bool true), after := args } = some (.bool (true == true)) from w_eq_bool (w_res rfl) w_lit) rfl

/-! ### the attachment: holds_open's last premise (the goal 'hc' behind k_head) from a wpAny of the law's body -/
/-- the same from a codeAny of the CALL (for a layer whose function contracts speak of calls) -/
theorem attach_call {l : OpenLaw} {n : Nat} {q : Program} {loose : List Str} {XP : (Str → Option Value) → Heap → Prop} {YP : World → Heap → Prop} {d : DefRec}
    (hn : l.most = some n) (hdf : d.params.defaults = [])
    (call : ∀ (w : World) (s₀ s₁ : Shared) (mg mb : Str → Option Value) (fa : Addr) (o : Obj) (pm cd doc : Value) (a : Addr) (vs : List Value) (ns : List Int),
      Ground q loose [] XP w s₀ mg mb s₁.heap → YP w s₁.heap →
      s₁.heap.get? fa = some o → o.data = .func (docDef d.name d.params d.body d.scope pm cd doc) → s₁.heap.CodeRec cd d.name → mg d.name = some (.ref fa) →
      s₁.heap.get? a = some { cls := .type "list", data := .seq vs.toArray } → IntsAre vs ns → ns.length ≤ n → s₁.gens = #[] →
      codeAny (model l.prog w) callerA (.call (.ref fa) ⟨[.ref a], []⟩) (fun r s' => r = .ok (.ret (.bool true)) ∧ OldK s₁.heap s'.heap ∧ s'.os = s₁.os ∧ AllBare s'.gens) s₁) :
    WalkO q loose XP YP l.row.toRowW d [] (fun f vs => PySem.call f vs) := by
  intro w s₀ s₁ mg mb G Y fa o pm cd doc dV kV ho hd hcd hD hmg hg args vals as hpre hlay hrd hwl hlo
  obtain rfl : dV = .none := Dflts.none hD hdf
  obtain rfl : kV = .none := Dflts.noKw hD
  obtain ⟨a, vs, ns, rfl, rfl, hobj, hints, hlen⟩ := script_of hn hpre hwl
  refine enter_call (codeAny_mono (call w s₀ s₁ mg mb fa o pm cd doc a vs ns G Y ho (fd_plain hd) hcd hmg hobj hints hlen hg) fun r s' hq => ?_)
  obtain ⟨rfl, h2, h3, h4⟩ := hq
  exact ⟨.inl ⟨.bool true, .bool true, [], rfl, fun _ => rfl, .bool true, post_true l _, fun _ => ⟨List.Pairwise.nil, fun _ hm => (nomatch hm)⟩⟩, h2, h3, h4⟩

/-! ### rules over ANY heap (no ledger) from facts about the written part K: the library's own take a ledger (News) for what they write -/
section
variable {prog : Program} {w : World} {A : Around} {E : Value → Shared → Prop} {s : Shared} {K : Frag}

/-- C(..): dict at size, instance at size + 1, then __init__ -/
theorem make_obj {R : Result → Shared → Prop} {C fI : Addr} {rest : List Value} {kw : List (Str × Value)}
    (X : K.In s.heap) (hm : makesIn K C = true) (hi : findIn K (.ref C) "__init__" = some (some (.ref fI))) (hf : isFn K (.ref fI) = true)
    (h : codeAny (model prog w) (A.under (.builtin "type.__call__" ⟨.ref C :: rest, kw⟩)) (.call (.ref fI) ⟨.ref (s.heap.objs.size + 1) :: rest, kw⟩) (InitBack (s.heap.objs.size + 1) R)
      { s with heap := (s.heap.push emptyDict).push (instObj C s.heap.objs.size) }) : codeAny (model prog w) A (.call (.ref C) ⟨rest, kw⟩) R s := by
  obtain ⟨hh, g, d, t, os⟩ := s
  exact make_core (makes_of X hm) (looks_findIn X hi) (fun self => bind_fn X self (beq_iff_eq.mp hf)) (.inl rfl) h

/-- x.name where the instance's dict holds the name and the class does not -/
theorem get_field {x C : Addr} {ox : Obj} {es : List DictEntry} {n : Nat} {name : Str} {expr : Bool} {v : Value} {Q : Value → Shared → Prop}
    (X : K.In s.heap) (I : PySem.W.InstAt s.heap x ox C (some (dictOf es n))) (hg : plainGet K C name = true) (hh : hasDictIn K C = true) (ha : findIn K (.ref C) name = some none)
    (hl : getL name es = some (some v)) (hv : handedIn v = true) (h : Q v { s with toks := s.toks + 1 }) : wpAny (model prog w) A (getAttr (.ref x) name expr) Q E s :=
  get_value X I (plainGet_of hg).1 (findObj_own hh ha rfl hl) hv h

/-! the whole heap as the ledger: makes every rule that writes through a ledger a rule over any heap -/
noncomputable def ledger (h : Heap) (L d : Addr) : List (Addr × Obj) := (List.range h.objs.size).filterMap fun a => if a = L ∨ a = d then none else (h.get? a).map fun o => (a, o)
end
end Att

namespace L2
open PySem PySem.Spec PyProof.Rows

theorem vals_ints : ∀ {vs : List Value} {ns : List Int}, IntsAre vs ns → Vals (ns.map V.int) vs
  | _, _, .nil => .nil
  | _, _, .cons n t h => .cons ⟨t, rfl⟩ (vals_ints h)

/-- nothing is tracked but the script, known to the object (or it is an object of the module) -/
noncomputable def Only (H : Hp) : Prop := ∀ b, H b = none ∨ ∃ o xs, H b = some (.frz o (.lst xs))

/-- THE HEAD: the law's promise, at the heap behind the top. F, the promise of the law's def, may use that base is part of the heap (so K.In base, base.Ns mainGlobals mg stand in Mod) -/
theorem law_call {P : Program} {w : World} {K : PySem.W.Frag} {mg mb : Str → Option Value} {CX : CXT} {k : Nat} {fa a : Addr} {fd : FuncData} {x : Str} {sp : Sp} {s₁ : Shared} {vs : List Value} {ns : List Int}
    (KX : K.In s₁.heap) (hns : s₁.heap.Ns mainGlobals mg) (hb : s₁.heap.Ns builtinsNs mb) (hbb : ∀ x : Str, x ≠ "__name__" → mb x = bootBuiltins x) (hlim : s₁.heap.NoLimit) (hg : s₁.gens = #[])
    (ha : s₁.heap.get? a = some { cls := .type "list", data := .seq vs.toArray }) (hi : IntsAre vs ns) (hl : ns.length ≤ sizeLine) (hr : Room k callerA)
    (F : ∀ base : Heap, K.In base → base.Ns mainGlobals mg → FnOk P w K mg base CX k fa fd [x] sp) (hbind : ∀ (s : Shared) (u : Value), BindsTo s fd ⟨[u], []⟩ [(x, u)])
    (hsp : ∀ H : Hp, Only H → SqL K H a (ns.map V.int) → sp [.ref a] H (fun v _ => v = .bl true) fun _ _ _ => False)
    (hCX : ∀ H e s', CX [] H s₁ (fun _ _ _ => False) e s' → False) :
    codeAny (model P w) callerA (.call (.ref fa) ⟨[.ref a], []⟩) (fun r s' => r = .ok (.ret (.bool true)) ∧ OldK s₁.heap s'.heap ∧ s'.os = s₁.os ∧ AllBare s'.gens) s₁ := by
  have rv := vals_ints hi
  have lenV := hi.length
  -- from an abstract heap in which nothing but the script may be tracked
  have core : ∀ H : Hp, Only H → SqL K H a (ns.map V.int) → HOk P w H s₁.heap → (∀ b, H b ≠ none → b = a) → (H a ≠ none → K.lookup a = none) →
      codeAny (model P w) callerA (.call (.ref fa) ⟨[.ref a], []⟩) (fun r s' => r = .ok (.ret (.bool true)) ∧ OldK s₁.heap s'.heap ∧ s'.os = s₁.os ∧ AllBare s'.gens) s₁ := by
    intro H hO hS hok hA hK
    have base_of : ∀ {b : Addr} {o : Obj}, s₁.heap.get? b = some o → H b = none → (hidT s₁.heap H).get? b = some o := fun e n => hidT_get e n
    have noA : ∀ {b : Addr} {o : Obj} {es : Array DictEntry} {ep : Nat}, s₁.heap.get? b = some o → o.data = .dict es ep → H b = none := fun {b o es ep} e d => by
      cases q : H b with
      | none => rfl
      | some u =>
        have e' : b = a := hA b (by rw [q]; simp)
        subst e'
        rw [ha] at e; cases e
        have d' : Data.seq vs.toArray _ = Data.dict es ep := d
        cases d'
    have nsK : ∀ {b : Addr} {m : Str → Option Value}, s₁.heap.Ns b m → (hidT s₁.heap H).Ns b m := fun {b m} ⟨o, es, ep, e, d, r⟩ => ⟨o, es, ep, base_of e (noA e d), d, r⟩
    have hKb : K.In (hidT s₁.heap H) := fun b o e => base_of (KX b o e) (by
      cases q : H b with
      | none => rfl
      | some u =>
        have e' : b = a := hA b (by rw [q]; simp)
        subst e'
        rw [hK (by rw [q]; simp)] at e; cases e)
    have hM : Mod K mg (hidT s₁.heap H) := ⟨hKb, nsK hns, ⟨mb, nsK hb, hbb⟩, by obtain ⟨mc, h1, h2⟩ := hlim; exact ⟨mc, nsK h1, h2⟩⟩
    have e0 : Env0 P w K mg (hidT s₁.heap H) callerA [] s₁ H := ⟨rfl, hM, fun b o e => of_hidT e, Nat.le_of_eq (hidT_size _ _), trivial, fun b hb => absurd (show b ∈ ([] : List Addr) from hb) (by simp), hok, .of_eq hg⟩
    refine codeAny_mono ((F _ hKb (nsK hns)).run callerA [] s₁ H ⟨[.ref a], []⟩ [.ref a] [.ref a] _ _ hr e0 (hbind s₁ (.ref a)) (.cons rfl .nil) (hsp H hO hS)) fun r s' h => ?_
    cases r with
    | error e => exact (hCX H e s' h).elim
    | ok fl =>
      cases fl with
      | next => exact False.elim h
      | brk => exact False.elim h
      | cont => exact False.elim h
      | ret u =>
        obtain ⟨v, H', os, bare, un, hok', r', q⟩ := h
        have q' : v = .bl true := q
        subst q'
        obtain rfl : u = Value.bool true := r'
        refine ⟨rfl, OldK.of_keep fun b o e => ?_, os, bare⟩
        cases q : H b with
        | none => exact un.keep b o e q (by intro z; exact absurd (show b ∈ ([] : List Addr) from z) (by simp)) (by simp)
        | some u =>
          rcases hO b with z | ⟨ob, xs, z⟩
          · rw [q] at z; cases z
          · have z2 := un.frzs b ob _ z
            obtain ⟨e1, _⟩ := hok b _ z
            obtain ⟨e2, _⟩ := hok' b _ z2
            rw [e] at e1; cases e1
            exact e2
  cases hk : K.lookup a with
  | some o =>
    -- the script is one of the module's own objects
    have e := KX a o hk
    rw [ha] at e
    cases e
    refine core (fun _ => none) (fun _ => .inl rfl) (.inr ⟨_, vs.toArray, _, hk, rfl, rfl, rfl, by rw [List.size_toArray, lenV]; exact hl, by simpa using rv⟩) (fun b u z => by have z' : (none : Option HO) = some u := z; cases z') (fun b z => absurd rfl z) fun z => absurd rfl z
  | none =>
    refine core (fun b => if b = a then some (.frz { cls := .type "list", data := .seq vs.toArray } (.lst (ns.map V.int))) else none) (fun b => ?_) (.inl (.inr ⟨{ cls := .type "list", data := .seq vs.toArray }, if_pos rfl⟩)) (fun b u z => ?_) (fun b z => ?_) fun _ => hk
    · by_cases hb : b = a
      · exact .inr ⟨_, _, if_pos hb⟩
      · exact .inl (if_neg hb)
    · by_cases hb : b = a
      · have z' := (if_pos hb).symm.trans z
        cases z'
        subst hb
        exact ⟨ha, by rw [List.length_map]; exact hl, vs, _, rv, ha⟩
      · have z' := (if_neg hb).symm.trans z
        cases z'
    · by_cases hb : b = a
      · exact hb
      · exact absurd (if_neg hb) z
end L2

namespace L2
open PySem PySem.Spec PyProof.Rows

noncomputable abbrev KOf {K : PySem.W.Frag} {h : Heap} (_ : K.In h) : PySem.W.Frag := K

/-- the goal that k_head leaves (case hc), from the law's promise. F gives the function object fd (K's own) once, then the promise over every base -/
theorem walk_of {l : PySem.W.OpenLaw} {n k : Nat} {q : Program} {loose : List Str} {XP : (Str → Option Value) → Heap → Prop} {YP : World → Heap → Prop} {d : DefRec} {K : Params → PySem.W.Frag} {CX : World → CXT} {sp : World → Sp} {x : Str}
    (hn : l.most = some n) (hn2 : n ≤ sizeLine) (hdf : d.params.defaults = []) (hr : Room k callerA)
    (hY : ∀ (w : World) (h : Heap), YP w h → (K w.params).In h)
    (F : ∀ (w : World) (mg : Str → Option Value) (fa : Addr) (h : Heap), (K w.params).In h → h.Ns mainGlobals mg → mg d.name = some (.ref fa) →
      ∃ fd : FuncData, (∀ (s : Shared) (u : Value), BindsTo s fd ⟨[u], []⟩ [(x, u)]) ∧
        ∀ base : Heap, (K w.params).In base → base.Ns mainGlobals mg → FnOk l.prog w (K w.params) mg base (CX w) k fa fd [x] (sp w))
    (hsp : ∀ (w : World) (H : Hp) (a : Addr) (ns : List Int), ns.length ≤ n → Only H → SqL (K w.params) H a (ns.map V.int) → sp w [.ref a] H (fun v _ => v = .bl true) fun _ _ _ => False)
    (hCX : ∀ (w : World) (H : Hp) (s : Shared) (e : Value) (s' : Shared), CX w [] H s (fun _ _ _ => False) e s' → False) :
    PySem.W.WalkO q loose XP YP l.row.toRowW d [] (fun f vs => PySem.call f vs) := by
  refine Att.attach_call hn hdf fun w s₀ s₁ mg mb fa o pm cd doc a vs ns G Y ho hd hcd hmg hobj hints hlen hg => ?_
  have KX := hY w _ Y
  obtain ⟨fd, hb, hF⟩ := F w mg fa _ KX G.T.g hmg
  exact law_call KX G.T.g G.T.b G.T.builtins G.T.nolimit hg hobj hints (Nat.le_trans hlen hn2) hr hF hb (fun H hO hS => hsp w H a ns hlen hO hS) fun H e s' => hCX w H s₁ e s'
end L2

/- THE LAST THEOREM (shape; LID, My.* are yours):
   My.Adr: a structure of the addresses that your layer names (classes, functions); My.Txt K t: a structure (Prop) of the equations over K;
   My.txt_mk : {K} {implicit addresses ..} (e1 : nsIn K mainGlobals "law" = some (some (.ref f))) (e2 : K.lookup f = some ⟨oc, od, .func (fnOf "law" "law" params body scope dV kV doc pm an cdv ct), sl⟩) (e3 : codeIn K cdv "law" = true) .. : ∃ t, My.Txt K t

set_option maxRecDepth 100000 in
set_option maxHeartbeats 0 in
theorem PySem.Challenge.cw_LID_holds : PySem.Challenge.rw_LID.Holds := by
  w_on; o_law; k_head; (case hw => w_witness2)
  k_fill
  refine L2.walk_of (l := PySem.Challenge.rw_LID) (n := 63) (k := 40) (x := "script") (CX := fun w => ..) (sp := fun _ => My.sp_law) rfl (by decide) rfl ⟨rfl, by decide, by decide⟩ (fun w h Y => PySem.W.kIn_of Y) ?F ?S ?C
  case F =>
    intro w mg fa h KX G hmg
    have T : ∃ t, My.Txt (L2.KOf KX) t := by
      dsimp only [L2.KOf]                          -- K must stand as «<heap const> w.params» for k_is
      refine' My.txt_mk ?e1 ?e2 ?e3 ..
      (case e1 => PySem.W.k_is)                    -- in the order: a name -> its address -> its object -> its parts
      (case e2 => PySem.W.k_is)
      ..
    obtain ⟨t, T⟩ := T
    have e0 := hmg.symm.trans (PySem.W.mg_of KX G T.law)
    cases e0                                       -- fa is the law's own address
    exact ⟨_, fun s u => .of_eq rfl, fun base kb nb => My.law_fn T kb nb⟩     -- if «.of_eq rfl» comes too early: refine' ⟨_, ?b, fun base kb nb => My.law_fn T kb nb⟩; exact fun s u => .of_eq rfl
  case S => exact fun w H a ns hl hO hS => ..
  case C => exact ..
(the tactic k_is has no namespace: write k_is) -/

/-! SHORT WORDS over the layer: a def of the text, its body, what a loop and a test want. -/
namespace L2
open PySem PySem.Spec PyProof.Rows

/-! ### the text by places -/
noncomputable def defArgs (s : Stmt) : Arguments := match s with
  | .FunctionDef _ a _ _ _ _ _ _ _ _ => a
  | _ => { posonlyargs := [], args := [], vararg := none, kwonlyargs := [], kw_defaults := [], kwarg := none, defaults := [] }
noncomputable def defBody (s : Stmt) : List Stmt := match s with
  | .FunctionDef _ _ b _ _ _ _ _ _ _ => b
  | _ => []
noncomputable def defScope (s : Stmt) : Scope := match s with
  | .FunctionDef _ _ _ _ _ _ sc _ _ _ => sc
  | _ => { kind := .function, names := [], isGenerator := false, isCoroutine := false }

/-! ### no exception leaves a def -/
noncomputable abbrev CX0 : CXT := fun _ _ _ _ _ _ => False
noncomputable abbrev E0 : XK := fun _ _ _ => False
theorem pass0 {X : Cx} : Passes CX0 X E0 := fun _ _ _ _ _ _ _ h => h.elim

/-! ### a def (or method) of the text as it stands behind the top -/
structure Fun (K : PySem.W.Frag) (x qual : Str) (st : Stmt) (f : Addr) (fd : FuncData) : Prop where
  ex : ∃ (oc : Value) (od : Option Addr) (kV doc pm : Value) (an : Option Addr) (cdv ct : Value) (osl : Array (Option Value)),
    fd = PySem.W.fnOf x qual (defArgs st) (defBody st) (defScope st) .none kV doc pm an cdv ct ∧ K.lookup f = some ⟨oc, od, .func fd, osl⟩ ∧ PySem.W.codeIn K cdv qual = true
  kp : PySem.W.keepIn K (.ref f) = true
section
variable {P : Program} {w : World} {K : PySem.W.Frag} {mg : Str → Option Value} {base : Heap}
/-- THE RULE for a def: its body as a term of rules, and the reading of that term -/
theorem Fun.ok {x qual : Str} {st : Stmt} {f : Addr} {fd : FuncData} {N ps : List Str} {k : Nat} {sp : Sp} (F : Fun K x qual st f fd) (S : FnScope N ps (defScope st)) (len : ∀ vs H Q E, sp vs H Q E → vs.length = ps.length)
    (hbody : ∀ (cdv : Value) (A : Around) (outer : List Env) (s : Shared) (H : Hp) (vs : List V) (Q : VK) (E : XK), Room k (A.deeper (envOfC qual (defScope st) s.heap.objs.size f cdv)) → sp vs H Q E →
      ∃ t, PSs (cxOf CX0 P w K mg base N qual (defScope st) f cdv A outer s H E).nox (defBody st) t ∧ t { nx := fun _ H' => Q .non H', rt := Q } (start N vs) H) : FnOk P w K mg base CX0 (k + 1) f fd ps sp := by
  obtain ⟨oc, od, kV, doc, pm, an, cdv, ct, osl, rfl, lk, hcd⟩ := F.ex
  refine fn_of lk hcd S len fun A outer s H vs Q E hr hsp => ?_
  obtain ⟨t, h, q⟩ := hbody cdv A outer s H vs Q E hr hsp
  exact ⟨t, h.nox, q⟩
/-- how its arguments bind (no defaults): h is «fun _ _ _ _ _ _ us hl => match us, hl with | [_, _], _ => rfl», one _ a parameter -/
theorem Fun.binds {x qual : Str} {st : Stmt} {f : Addr} {fd : FuncData} {ps : List Str} (F : Fun K x qual st f fd)
    (h : ∀ (kV doc pm : Value) (an : Option Addr) (cdv ct : Value) (us : List Value), us.length = ps.length → bindArgs (PySem.W.fnOf x qual (defArgs st) (defBody st) (defScope st) .none kV doc pm an cdv ct) ⟨us, []⟩ = pure (ps.zip us)) : Binds K fd ps [] := by
  obtain ⟨oc, od, kV, doc, pm, an, cdv, ct, osl, rfl, lk, hcd⟩ := F.ex
  exact .all (h kV doc pm an cdv ct)
theorem fun_mk {x qual : Str} {st : Stmt} {f : Addr} {oc : Value} {od an : Option Addr} {osl : Array (Option Value)} {kV doc pm cdv ct : Value} (l : K.lookup f = some ⟨oc, od, .func (PySem.W.fnOf x qual (defArgs st) (defBody st) (defScope st) .none kV doc pm an cdv ct), osl⟩)
    (c : PySem.W.codeIn K cdv qual = true) (k : PySem.W.keepIn K (.ref f) = true) : Fun K x qual st f (PySem.W.fnOf x qual (defArgs st) (defBody st) (defScope st) .none kV doc pm an cdv ct) := ⟨⟨oc, od, kV, doc, pm, an, cdv, ct, osl, rfl, l, c⟩, k⟩
end
theorem small1000 {n : Nat} (h : n ≤ 1000) : n < sizeLine := Nat.lt_of_le_of_lt h (by decide)

/-! ### expressions in short: the name that stands in the i-th slot -/
section
variable {X : Cx}
theorem pv (i : Nat) {x : Str} {pos : Pos} (hN : X.N[i]? = some x := by rfl) (hv : Vis X.env.scope x := by first | exact Or.inl rfl | exact Or.inr (Or.inl rfl) | exact Or.inr (Or.inr rfl)) (hd : (x == ("__debug__" : Str)) = false := by decide)
    (hcd : (x == ("__classdict__" : Str)) = false := by decide) : PE X (.Name x pos) (tVar i) := pe_var hN hv hd hcd
end

/-! ### tests -/
theorem iteF {A B : Prop} (h : B) : if false = true then A else B := by
  rw [if_neg Bool.false_ne_true]
  exact h
theorem iteT {A B : Prop} (h : A) : if true = true then A else B := by
  rw [if_pos rfl]
  exact h
theorem ite2 {c A B : Prop} [Decidable c] (h1 : c → A) (h2 : ¬ c → B) : if c then A else B := by
  by_cases h : c
  · rw [if_pos h]
    exact h1 h
  · rw [if_neg h]
    exact h2 h
theorem iteNS {c A B : Prop} [Decidable c] (hc : c) (h : B) : if (!decide c) = true then A else B := by
  rw [decide_eq_true hc]
  exact iteF h

/-! ### heaps -/
/-- all that was tracked is as it was -/
noncomputable def Same (H H' : Hp) : Prop := ∀ b o, H b = some o → H' b = some o
theorem Same.refl (H : Hp) : Same H H := fun _ _ h => h
theorem Same.trans {H H1 H2 : Hp} (a : Same H H1) (b : Same H1 H2) : Same H H2 := fun c o h => b c o (a c o h)
theorem Same.free {H H' : Hp} (e : Same H H') {l : Addr} (h : H' l = Option.none) : H l = Option.none := by
  cases q : H l with
  | none => rfl
  | some o =>
    rw [e l o q] at h
    cases h
theorem Same.seq {K : PySem.W.Frag} {H H' : Hp} {a : Addr} {xs : List V} (e : Same H H') (h : SqL K H a xs) : SqL K H' a xs := by
  rcases h with (h | ⟨o, h⟩) | h
  · exact .inl (.inl (e _ _ h))
  · exact .inl (.inr ⟨o, e _ _ h⟩)
  · exact .inr h

end L2

set_option Elab.async false
set_option linter.all false
set_option maxRecDepth 100000
set_option maxHeartbeats 4000000
namespace L2
open PySem PySem.Spec PyProof.Rows

/-! ### comprehensions: [elt for x in iter if c] over the layer -/
noncomputable abbrev cmpTests (ifs : List Expr) (env : Env) : Sem Bool :=
  forIn ifs true fun c r => if r = true then do let ok ← isTrue c env (eval c env); pure (ForInStep.yield ok) else pure (ForInStep.yield r)

noncomputable def clOf (cells : List (Str × Addr)) : List (Str × NameKind) → List (Str × Addr) → List (Str × Addr)
  | [], acc => acc
  | (n, k) :: r, acc => clOf cells r (if k == .free then (n, (cells.lookup n).getD 0) :: acc else acc)
theorem clOf_eq {env : Env} : ∀ (ns : List (Str × NameKind)) (acc : List (Str × Addr)), (∀ y ∈ ns, y.2 = .free → ∃ c, env.cells.lookup y.1 = some c) →
    (forIn ns acc fun (p : Str × NameKind) (cs : List (Str × Addr)) => (if p.2 == .free then (do let c ← cellOf env p.1; pure (ForInStep.yield ((p.1, c) :: cs))) else pure (ForInStep.yield cs) : Sem (ForInStep (List (Str × Addr))))) = (pure (clOf env.cells ns acc) : Sem (List (Str × Addr)))
  | [], acc, _ => rfl
  | (n, k) :: r, acc, h => by
    rw [List.forIn_cons]
    by_cases hk : k = .free
    · subst hk
      obtain ⟨c, hc⟩ := h (n, .free) List.mem_cons_self rfl
      have e1 : cellOf env n = pure c := by unfold cellOf; rw [show env.cells.lookup n = some c from hc]
      simp only [beq_self_eq_true, if_true, e1, clOf, hc, Option.getD_some]
      exact clOf_eq r ((n, c) :: acc) fun y hy => h y (List.mem_cons_of_mem _ hy)
    · have hb : (k == NameKind.free) = false := by simpa using hk
      simp only [hb, Bool.false_eq_true, if_false, clOf]
      exact clOf_eq r acc fun y hy => h y (List.mem_cons_of_mem _ hy)
theorem closure_eq {env : Env} {sc : Scope} (h : ∀ y ∈ sc.names, y.2 = .free → ∃ c, env.cells.lookup y.1 = some c) : closureFor sc env = pure (clOf env.cells sc.names []) := by
  unfold closureFor
  have q := clOf_eq (env := env) sc.names [] h
  have e : (forIn sc.names [] fun (p : Str × NameKind) (cs : List (Str × Addr)) => (match p with | (name, kind) => if kind == .free then (do let c ← cellOf env name; pure (ForInStep.yield ((name, c) :: cs))) else pure (ForInStep.yield cs) : Sem (ForInStep (List (Str × Addr))))) = (pure (clOf env.cells sc.names []) : Sem (List (Str × Addr))) := q
  simp only [e]
  rfl
theorem clOf_look {cells : List (Str × Addr)} : ∀ (ns : List (Str × NameKind)) (acc : List (Str × Addr)), (∀ y ∈ ns, y.2 = .free → ∃ c, cells.lookup y.1 = some c) → (∀ y c, acc.lookup y = some c → cells.lookup y = some c) →
    (∀ y c, (clOf cells ns acc).lookup y = some c → cells.lookup y = some c) ∧ (∀ y, (acc.lookup y).isSome = true → ((clOf cells ns acc).lookup y).isSome = true) ∧ (∀ y, (y, NameKind.free) ∈ ns → ((clOf cells ns acc).lookup y).isSome = true)
  | [], acc, _, h2 => ⟨h2, fun _ h => h, fun _ h => nomatch h⟩
  | (n, k) :: r, acc, h1, h2 => by
    have h1' : ∀ y ∈ r, y.2 = .free → ∃ c, cells.lookup y.1 = some c := fun y hy => h1 y (List.mem_cons_of_mem _ hy)
    by_cases hk : k = .free
    · subst hk
      obtain ⟨c, hc⟩ := h1 (n, .free) List.mem_cons_self rfl
      have hc' : cells.lookup n = some c := hc
      have e : clOf cells ((n, .free) :: r) acc = clOf cells r ((n, c) :: acc) := by simp only [clOf, beq_self_eq_true, if_true, hc', Option.getD_some]
      have ih := clOf_look (cells := cells) r ((n, c) :: acc) h1' (fun y d hy => by
        rw [List.lookup_cons] at hy
        cases q : y == n with
        | true => rw [q] at hy; cases hy; rw [eq_of_beq q]; exact hc'
        | false => rw [q] at hy; exact h2 y d hy)
      rw [e]
      refine ⟨ih.1, fun y hy => ih.2.1 y ?_, fun y hy => ?_⟩
      · rw [List.lookup_cons]; split
        · rfl
        · exact hy
      · rcases List.mem_cons.mp hy with z | z
        · cases z; exact ih.2.1 n (by rw [List.lookup_cons]; simp)
        · exact ih.2.2 y z
    · have hb : (k == NameKind.free) = false := by simpa using hk
      have e : clOf cells ((n, k) :: r) acc = clOf cells r acc := by simp only [clOf, hb, Bool.false_eq_true, if_false]
      have ih := clOf_look (cells := cells) r acc h1' h2
      rw [e]
      refine ⟨ih.1, ih.2.1, fun y hy => ?_⟩
      rcases List.mem_cons.mp hy with z | z
      · cases z; exact absurd rfl hk
      · exact ih.2.2 y z

/-! names of the block -/
structure CompSc (scX sc : Scope) (NX : List Str) (x : Str) (fv : List Str) (js : List Nat) : Prop where
  kind : sc.kind = .function
  kindX : scX.kind = .function
  cell : ∀ y ∈ sc.names, y.2 ≠ .cell
  own : sc.names.lookup x = some .local
  names : ∀ y ∈ sc.names, y.2 = .local → sc.names.lookup y.1 = some .local
  free : ∀ y ∈ sc.names, y.2 = .free → scX.names.lookup y.1 = some .cell
  nd : (x :: fv).Nodup
  at' : js.map (fun j => NX[j]?) = fv.map some
  fr : ∀ y ∈ fv, sc.names.lookup y = some .free

theorem relabel_free {env : Env} (hk : env.scope.kind = .function) : ∀ {ns : List (Str × NameKind)} {y : Str}, ns.lookup y = some .free → env.kindOf y = some .cell →
    (ns.map fun (n, k) => if (k == NameKind.free && env.scope.kind == .function && env.kindOf n == some .cell) then (n, NameKind.cell) else (n, k)).lookup y = some .cell
  | [], _, h, _ => by simp at h
  | (n, k) :: r, y, h, hc => by
    have ih := @relabel_free env hk r y
    show List.lookup y ((if (k == NameKind.free && env.scope.kind == .function && env.kindOf n == some .cell) = true then (n, NameKind.cell) else (n, k)) :: _) = _
    cases hx : y == n with
    | true =>
      simp only [List.lookup_cons, hx] at h
      cases h
      have e : y = n := eq_of_beq hx
      subst e
      simp [List.lookup_cons, hc, hk]
    | false =>
      simp only [List.lookup_cons, hx] at h
      split <;> (simp only [List.lookup_cons, hx]; exact ih h hc)
theorem relabel_back {env : Env} : ∀ {ns : List (Str × NameKind)} {y : Str}, (∀ z ∈ ns, z.2 ≠ .cell) →
    ((ns.map fun (n, k) => if (k == NameKind.free && env.scope.kind == .function && env.kindOf n == some .cell) then (n, NameKind.cell) else (n, k)).lookup y = some .cell ∨
     (ns.map fun (n, k) => if (k == NameKind.free && env.scope.kind == .function && env.kindOf n == some .cell) then (n, NameKind.cell) else (n, k)).lookup y = some .free) → (y, NameKind.free) ∈ ns
  | [], _, _, h => by simp at h
  | (n, k) :: r, y, hz, h => by
    have ih := @relabel_back env r y fun z hm => hz z (List.mem_cons_of_mem _ hm)
    have hk : k ≠ .cell := hz (n, k) List.mem_cons_self
    rw [List.map_cons] at h
    by_cases hc : (k == NameKind.free && env.scope.kind == .function && env.kindOf n == some .cell) = true
    · have hf : k = .free := by
        rw [Bool.and_eq_true, Bool.and_eq_true] at hc
        exact eq_of_beq hc.1.1
      simp only [hc, if_true, List.lookup_cons] at h
      cases hx : y == n with
      | true => rw [eq_of_beq hx, hf]; exact List.mem_cons_self
      | false => rw [hx] at h; exact List.mem_cons_of_mem _ (ih h)
    · rw [Bool.not_eq_true] at hc
      simp only [hc, Bool.false_eq_true, if_false, List.lookup_cons] at h
      cases hx : y == n with
      | true =>
        rw [hx] at h
        rcases h with h | h
        · exact absurd (Option.some.inj h) hk
        · have : k = .free := Option.some.inj h
          rw [eq_of_beq hx, this]; exact List.mem_cons_self
      | false => rw [hx] at h; exact List.mem_cons_of_mem _ (ih h)

/-- the slots of the free names -/
noncomputable def pick (js : List Nat) (σ : St) : St := js.map fun j => (σ[j]?).getD none

/-- the block's context -/
noncomputable abbrev xc (X : Cx) (sc : Scope) (x : Str) (fv : List Str) (C : Addr) (s0 : Shared) (H0 : Hp) (ex : List Addr) : Cx :=
  { X with N := x :: fv, s₀ := s0, H₀ := H0, env := compEnvC sc (clOf X.env.cells sc.names []) C X.env, outer := X.stack, ex := ex, fn := fun _ => false, pn := [], xe := fun _ _ => False }

/-- the clause's tests -/
noncomputable def PIf (X : Cx) (ifs : List Expr) (t : TT) : Prop :=
  ∀ (pins : List (Addr × Obj)) (s : Shared) (σ : St) (H : Hp) (Q : Bool → Hp → Prop), Inv X pins σ H s → t σ H Q → wpAny (model X.prog X.w) X.A (cmpTests ifs X.env) (TP X pins σ Q) X.xe s
noncomputable def tYes : TT := fun _ H Q => Q true H
theorem tYes_ok {σ : St} {H : Hp} {Q : Bool → Hp → Prop} (h : Q true H) : tYes σ H Q := h
theorem pif_nil {X : Cx} : PIf X [] tYes := fun _ _ _ H _ I h => wpAny_tests_nil ⟨H, I, h⟩
theorem pif_one {X : Cx} {c : Expr} {t : TT} (hc : PT X c t) : PIf X [c] t := fun pins s σ H Q I h => wpAny_tests_one (hc pins s σ H Q I h)

/-- the reading of a comprehension -/
noncomputable def tCompB (J : It) (js : List Nat) (tt : TT) (te : TE) : TE := fun σ H1 Q => ∃ W : Nat → Nat → List V → Hp → Prop, (∃ m, W 0 m [] H1) ∧ ∀ i m ys H, W i m ys H →
  (J.stop i H ∧ ∀ p, H p = none → Q (.ref p) (upd H p (.lst ys))) ∨
  (J.go i H ∧ ∃ N : List V → Hp → Prop, (∀ ys' H', N ys' H' → ∃ m', m' < m ∧ W (i + 1) m' ys' H') ∧
    ∀ x H', J.yld i H x H' → tt (some x :: pick js σ) H' fun b H2 => if b = true then te (some x :: pick js σ) H2 fun y H3 => ys.length < sizeLine ∧ N (ys ++ [y]) H3 else N ys H2)
noncomputable def tComp (wi : TI) (js : List Nat) (tt : TT) (te : TE) : TE := fun σ H Q => wi σ H fun J H1 => tCompB J js tt te σ H1 Q

section
variable {X : Cx} {pins : List (Addr × Obj)} {σ : St} {H2 : Hp} {s2 : Shared} {elt iter : Expr} {x : Str} {px : Pos} {ifs : List Expr} {sc scX : Scope} {pos : Pos} {fv : List Str} {js : List Nat} {tt : TT} {te : TE}

/-! the forms one uses -/
theorem comp_range {lo : Int} {n : Nat} {σ : St} {H : Hp} {Q : VK} (Pv : Nat → List V → Hp → Prop) (h0 : Pv 0 [] H)
    (hs : ∀ i ys H, i < n → Pv i ys H → tt (some (.int (lo + i)) :: pick js σ) H fun b H2 => if b = true then te (some (.int (lo + i)) :: pick js σ) H2 fun y H3 => ys.length < sizeLine ∧ Pv (i + 1) (ys ++ [y]) H3 else Pv (i + 1) ys H2)
    (hd : ∀ ys H, Pv n ys H → ∀ p, H p = none → Q (.ref p) (upd H p (.lst ys))) :
    tCompB (Itr lo n) js tt te σ H Q := by
  refine ⟨fun i m ys H => m = n - i ∧ i ≤ n ∧ Pv i ys H, ⟨n, by simp, Nat.zero_le _, h0⟩, ?_⟩
  rintro i m ys H ⟨rfl, hi, p⟩
  by_cases hlt : i < n
  · refine .inr ⟨hlt, Pv (i + 1), fun ys' H' p' => ⟨n - (i + 1), by omega, rfl, hlt, p'⟩, fun x H' y => ?_⟩
    obtain ⟨e, y⟩ := y
    subst e y
    exact hs i ys _ hlt p
  · have e : i = n := by omega
    subst e
    exact .inl ⟨Nat.le_refl _, hd ys H p⟩
theorem comp_list {K : PySem.W.Frag} {a : Addr} {xs : List V} {σ : St} {H : Hp} {Q : VK} (Pv : Nat → List V → Hp → Prop) (h0 : Pv 0 [] H) (hl : ∀ i ys H, i ≤ xs.length → Pv i ys H → SqL K H a xs)
    (hs : ∀ i x ys H, xs[i]? = some x → Pv i ys H → tt (some x :: pick js σ) H fun b H2 => if b = true then te (some x :: pick js σ) H2 fun y H3 => ys.length < sizeLine ∧ Pv (i + 1) (ys ++ [y]) H3 else Pv (i + 1) ys H2)
    (hd : ∀ ys H, Pv xs.length ys H → ∀ p, H p = none → Q (.ref p) (upd H p (.lst ys))) :
    tCompB (Itl K a) js tt te σ H Q := by
  refine ⟨fun i m ys H => m = xs.length - i ∧ i ≤ xs.length ∧ Pv i ys H, ⟨xs.length, by simp, Nat.zero_le _, h0⟩, ?_⟩
  rintro i m ys H ⟨rfl, hi, p⟩
  have q := hl i ys H hi p
  by_cases hlt : i < xs.length
  · refine .inr ⟨⟨xs, xs[i], q, by simp [hlt]⟩, Pv (i + 1), fun ys' H' p' => ⟨xs.length - (i + 1), by omega, rfl, hlt, p'⟩, fun x H' y => ?_⟩
    obtain ⟨e, y⟩ := y
    subst e
    exact hs i x ys _ (y xs q) p
  · have e : i = xs.length := by omega
    subst e
    exact .inl ⟨⟨xs, q, Nat.le_refl _⟩, hd ys H p⟩
end
end L2

set_option linter.all false
namespace Mm
open PySem

/-! bits of natural numbers -/
theorem or_xor_and : ∀ (n a b : Nat), a ≤ n → (a ||| b) = (a ^^^ b) + (a &&& b)
  | 0, a, b, h => by
    have : a = 0 := by omega
    subst this
    simp
  | n + 1, a, b, h => by
    by_cases ha : a = 0
    · subst ha; simp
    · have ih := or_xor_and n (a / 2) (b / 2) (by omega)
      have e1 : (a ||| b) / 2 = a / 2 ||| b / 2 := Nat.or_div_two
      have e2 : (a ^^^ b) / 2 = a / 2 ^^^ b / 2 := Nat.xor_div_two
      have e3 : (a &&& b) / 2 = a / 2 &&& b / 2 := Nat.and_div_two
      have m1 : (a ||| b) % 2 = (a % 2 ||| b % 2) := by simpa using Nat.or_mod_two_pow (a := a) (b := b) (n := 1)
      have m2 : (a ^^^ b) % 2 = (a % 2 ^^^ b % 2) := by simpa using Nat.xor_mod_two_pow (a := a) (b := b) (n := 1)
      have m3 : (a &&& b) % 2 = (a % 2 &&& b % 2) := by simpa using Nat.and_mod_two_pow (a := a) (b := b) (n := 1)
      have d : ∀ x < 2, ∀ y < 2, (x ||| y) = (x ^^^ y) + (x &&& y) := by decide
      have dd := d (a % 2) (by omega) (b % 2) (by omega)
      omega
theorem bitAnd_nat (a b : Nat) : Builtin.bitAnd (a : Int) (b : Int) = ((a &&& b : Nat) : Int) := by
  rw [PyProof.Rows.bitAnd_pp (by omega) (by omega)]
  simp
theorem bitOr_nat (a b : Nat) : Builtin.bitOr (a : Int) (b : Int) = ((a ||| b : Nat) : Int) := by
  have ha : ¬ 0 ≤ Builtin.bitNot (a : Int) := by unfold Builtin.bitNot; omega
  have hb : ¬ 0 ≤ Builtin.bitNot (b : Int) := by unfold Builtin.bitNot; omega
  unfold Builtin.bitOr
  rw [PyProof.Rows.bitAnd_nn ha hb, PyProof.Rows.bitNot_bitNot, PyProof.Rows.bitNot_bitNot, PyProof.Rows.bitNot_bitNot]
  simp
theorem bitXor_nat (a b : Nat) : Builtin.bitXor (a : Int) (b : Int) = ((a ^^^ b : Nat) : Int) := by
  unfold Builtin.bitXor
  rw [bitOr_nat, bitAnd_nat]
  have := or_xor_and a a b (Nat.le_refl _)
  omega
theorem bits_nat {a m : Nat} (h : a < 2 ^ m) : (Builtin.Int.intBits (a : Int) : Nat) ≤ m := intBits_le_iff.mpr (by simpa using h)

/-! the number whose bits below N are p's -/
noncomputable def mk (p : Nat → Bool) : Nat → Nat
  | 0 => 0
  | N + 1 => mk p N + (if p N then 2 ^ N else 0)
theorem mk_lt (p : Nat → Bool) : ∀ N, mk p N < 2 ^ N
  | 0 => by simp [mk]
  | N + 1 => by
    have ih := mk_lt p N
    rw [Nat.pow_succ]
    simp only [mk]
    split <;> omega
theorem mk_bit (p : Nat → Bool) : ∀ (N s : Nat), (mk p N).testBit s = (decide (s < N) && p s)
  | 0, s => by simp [mk]
  | N + 1, s => by
    have ih := mk_bit p N s
    have lt := mk_lt p N
    simp only [mk]
    have e : mk p N + (if p N then 2 ^ N else 0) = 2 ^ N * (if p N then 1 else 0) + mk p N := by split <;> simp [Nat.add_comm]
    rw [e, Nat.testBit_two_pow_mul_add _ lt]
    by_cases h1 : s < N
    · rw [if_pos h1, ih]; simp [h1, Nat.lt_succ_of_lt h1]
    · rw [if_neg h1]
      by_cases h2 : s = N
      · subst h2
        cases hp : p s <;> simp
      · have h3 : ¬ s < N + 1 := by omega
        have h4 : s - N ≠ 0 := by omega
        have : ∀ b : Bool, (if b then 1 else 0 : Nat).testBit (s - N) = false := by
          intro b
          obtain ⟨d, hd⟩ : ∃ d, s - N = d + 1 := ⟨s - N - 1, by omega⟩
          rw [hd]
          cases b <;> simp [Nat.testBit_succ]
        rw [this]; simp [h3]
theorem mk_eq {p : Nat → Bool} {N a : Nat} (h : ∀ s, a.testBit s = (decide (s < N) && p s)) : a = mk p N := Nat.eq_of_testBit_eq fun s => by rw [h, mk_bit]
theorem testBit_mod (s k : Nat) : s.testBit k = decide (s / 2 ^ k % 2 = 1) := by rw [Nat.testBit_eq_decide_div_mod_eq]

/-! the mask of a switch -/
noncomputable def sw (k n : Nat) : Nat := mk (fun s => s.testBit k) (2 ^ n)
theorem sw_start (k : Nat) : (2 ^ 2 ^ k - 1) * 2 ^ 2 ^ k = mk (fun s => s.testBit k) (2 ^ (k + 1)) := by
  refine mk_eq fun s => ?_
  rw [← Nat.shiftLeft_eq, Nat.testBit_shiftLeft, Nat.testBit_two_pow_sub_one, testBit_mod]
  have hp : 0 < 2 ^ k := Nat.two_pow_pos k
  have e : 2 ^ (k + 1) = 2 * 2 ^ k := by rw [Nat.pow_succ]; omega
  rw [e]
  generalize 2 ^ k = r at hp ⊢
  by_cases h1 : s < r
  · have : s / r = 0 := Nat.div_eq_of_lt h1
    have q : decide (s ≥ r) = false := by simp; omega
    rw [q, this]; simp
  · by_cases h2 : s < 2 * r
    · have : s / r = 1 := by
        have a : s / r < 2 := Nat.div_lt_of_lt_mul (by omega)
        have b : 1 ≤ s / r := (Nat.le_div_iff_mul_le hp).mpr (by omega)
        omega
      have q1 : decide (s ≥ r) = true := by simp; omega
      have q2 : decide (s - r < r) = true := by simp; omega
      have q3 : decide (s < 2 * r) = true := by simp; omega
      rw [q1, q2, q3, this]; simp
    · have q : decide (s < 2 * r) = false := by simp; omega
      have q2 : decide (s - r < r) = false := by simp; omega
      rw [q, q2]; simp
theorem period (a k c : Nat) : (a + 2 ^ (k + 1) * c).testBit k = a.testBit k := by
  rw [testBit_mod, testBit_mod]
  have hp : 0 < 2 ^ k := Nat.two_pow_pos k
  have e : 2 ^ (k + 1) * c = 2 ^ k * (2 * c) := by rw [Nat.pow_succ, Nat.mul_assoc]
  rw [e, Nat.add_mul_div_left _ _ hp]
  have : (a / 2 ^ k + 2 * c) % 2 = a / 2 ^ k % 2 := by omega
  rw [this]
theorem sw_step (k c : Nat) : (mk (fun s => s.testBit k) (2 ^ (k + 1) * c) ||| mk (fun s => s.testBit k) (2 ^ (k + 1) * c) * 2 ^ (2 ^ (k + 1) * c)) = mk (fun s => s.testBit k) (2 * (2 ^ (k + 1) * c)) := by
  refine mk_eq fun s => ?_
  rw [Nat.testBit_or, ← Nat.shiftLeft_eq, Nat.testBit_shiftLeft, mk_bit, mk_bit]
  generalize hw : 2 ^ (k + 1) * c = w
  by_cases h1 : s < w
  · have : ¬ s ≥ w := by omega
    have h2 : s < 2 * w := by omega
    simp [h1, this, h2]
  · have h0 : s ≥ w := by omega
    have e : s.testBit k = (s - w).testBit k := by
      have := period (s - w) k c
      rw [hw] at this
      rw [← this]
      congr 1
      omega
    by_cases h2 : s < 2 * w
    · have h3 : s - w < w := by omega
      simp [h1, h0, h2, h3, e]
    · have h3 : ¬ s - w < w := by omega
      simp [h1, h2, h3]
theorem sw_lt (k n : Nat) : sw k n < 2 ^ 2 ^ n := mk_lt _ _
theorem sw_bit (k n s : Nat) : (sw k n).testBit s = (decide (s < 2 ^ n) && s.testBit k) := mk_bit _ _ _
end Mm

set_option Elab.async false
set_option linter.all false
set_option maxRecDepth 100000
set_option maxHeartbeats 4000000
namespace L2
open PySem PySem.Spec PyProof.Rows
section
variable {X : Cx}
/-! ### shifts of great numbers -/
noncomputable def CShl (i j : Int) : Prop := 0 ≤ j ∧ ∃ m : Nat, i.natAbs < 2 ^ m ∧ (m : Int) + j ≤ 2 ^ 27
theorem op_shlB : OpR X (binaryOp .LShift) (rI CShl fun i j => .int (i * 2 ^ j.toNat)) := opI fun i j _ _ _ _ _ hc q => by
  obtain ⟨h0, m, hm, hs⟩ := hc
  have hb : (Builtin.Int.intBits i : Nat) ≤ m := intBits_le_iff.mpr hm
  exact lshift_int h0 (by omega) q
/-! ### isinstance(x, T), T a built-in type -/
theorem call_isinst {n : String} : CallR X (.builtin "isinstance") (fun xs H Q => ∃ x t b, xs = [x, .ty n] ∧ TyOf X.K H x t ∧ PySem.W.kitOne X.K t (.type n) = some b ∧ Q (.bl b) H) := by
  intro pins s σ H xs us Q I r h
  obtain ⟨x, t, b, rfl, ty, e, q⟩ := h
  obtain ⟨u, w', rfl, rx, rw'⟩ := vals2 r
  cases (show w' = Value.type n from rw')
  exact isinst_ok I rx ty e fun tk => ⟨.bl b, H, I.tok _, rfl, q⟩
end
theorem bt_len : bootBuiltins "len" = some (.builtin "len") := by decide +kernel
theorem bt_isi : bootBuiltins "isinstance" = some (.builtin "isinstance") := by decide +kernel
theorem bt_int : bootBuiltins "int" = some (.type "int") := by decide +kernel
theorem bt_bool : bootBuiltins "bool" = some (.type "bool") := by decide +kernel
theorem kit_int_int (K : PySem.W.Frag) : PySem.W.kitOne K (.type "int") (.type "int") = some true := by rfl
theorem kit_int_bool (K : PySem.W.Frag) : PySem.W.kitOne K (.type "int") (.type "bool") = some false := by rfl
theorem ix_listK {X : Cx} {K : PySem.W.Frag} (h : X.K = K) : IxR X (rIxL K) := by subst h; exact ix_list
theorem pow2 (k : Nat) : (2 : Int) ^ k = ((2 ^ k : Nat) : Int) := by simp
theorem shl1 (n : Nat) : (1 : Int) * 2 ^ ((n : Int)).toNat = ((2 ^ n : Nat) : Int) := by rw [pow2, Int.toNat_natCast]; omega
theorem cshl {a n m : Nat} (h : a < 2 ^ m) (hs : m + n ≤ 2 ^ 27) : CShl (a : Int) (n : Int) := ⟨by omega, m, by rw [Int.natAbs_natCast]; exact h, by omega⟩
end L2

set_option Elab.async false
set_option linter.all false
set_option maxRecDepth 100000
set_option maxHeartbeats 4000000
namespace L2
open PySem PySem.Spec PyProof.Rows
section
variable {X : Cx}
/-! ### n.bit_length() -/
theorem mt_bitlen : MtR X "int.bit_length" (fun x xs H Q => ∃ i, x = .int i ∧ xs = [] ∧ Q (.int ((Builtin.Int.intBits i : Nat) : Int)) H) := by
  intro pins s σ H x xs v us Q I rx rs h
  obtain ⟨i, rfl, rfl, q⟩ := h
  obtain ⟨t, rfl⟩ := rx
  cases rs
  exact call_int_bit_length ⟨.int _, H, I.tok _, ⟨_, rfl⟩, q⟩
/-! ### two lists of ints, compared -/
/-! ### all([..]) of truths -/
/-! ### range(lo, hi, step) -/
end
theorem kit_bool_bool (K : PySem.W.Frag) : PySem.W.kitOne K (.type "bool") (.type "bool") = some true := by rfl
theorem bt_list : bootBuiltins "list" = some (.type "list") := by decide +kernel
end L2

set_option Elab.async false
set_option linter.all false
set_option maxRecDepth 100000
set_option maxHeartbeats 4000000
namespace L2
open PySem PySem.Spec PyProof.Rows
section
variable {X : Cx}
/-! ### text[lo:hi] -/
noncomputable def cutS (z : Str) (lo hi : Option Int) : Str := ⟨((z.cps.toList.drop (HT.sIx z.length 0 lo)).take (HT.sIx z.length z.length hi - HT.sIx z.length 0 lo)).toArray⟩
theorem sIx_clip (n d : Nat) (v : Option Int) : (match v with | none => (d : Int) | some i => max 0 (min (if i < 0 then i + (n : Int) else i) (n : Int))) = ((HT.sIx n d v : Nat) : Int) := by
  cases v with
  | none => rfl
  | some i =>
    show max 0 (min (if i < 0 then i + (n : Int) else i) (n : Int)) = (((if i < 0 then (i + (n : Int)).toNat else min i.toNat n) : Nat) : Int)
    by_cases h : i < 0
    · simp only [if_pos h]; omega
    · simp only [if_neg h]; omega
theorem sliceIdx (lo hi : Option Int) (n : Nat) : Builtin.Str.strSliceIndices lo hi 1 n = (List.range (HT.sIx n n hi - HT.sIx n 0 lo)).map (HT.sIx n 0 lo + ·) := by
  rw [← sliceRange_one]
  have e1 := sIx_clip n 0 lo
  have e2 := sIx_clip n n hi
  rw [← e1, ← e2]
  rfl
theorem slice_cut (z : Str) (lo hi : Option Int) : Txt.slice z lo hi = cutS z lo hi := by
  have hL := HT.sIx_le z.length 0 (Nat.zero_le _) lo
  have hH := HT.sIx_le z.length z.length (Nat.le_refl _) hi
  have hz : z.cps.toList.length = z.length := by simp [Str.length]
  unfold Txt.slice cutS
  rw [sliceIdx]
  split
  · rename_i h
    have h' : HT.sIx z.length z.length hi - HT.sIx z.length 0 lo = z.length := by simpa using h
    rw [h']
    by_cases h0 : HT.sIx z.length 0 lo = 0
    · rw [h0, List.drop_zero, List.take_of_length_le (by omega)]
    · have : z.length = 0 := by omega
      omega
  · rw [pick_run]
theorem cutS_list (z : Str) (lo hi : Option Int) : (cutS z lo hi).cps.toList = (z.cps.toList.drop (HT.sIx z.length 0 lo)).take (HT.sIx z.length z.length hi - HT.sIx z.length 0 lo) := rfl
theorem cutS_from (z : Str) (k : Nat) : (cutS z (some (k : Int)) none).cps.toList = z.cps.toList.drop k := by
  rw [cutS_list, HT.sIx_none, HT.sIx_nat]
  have hz : z.cps.toList.length = z.length := by simp [Str.length]
  rcases Nat.le_total k z.length with h | h
  · rw [Nat.min_eq_left h, List.take_of_length_le]; rw [List.length_drop]; omega
  · rw [Nat.min_eq_right h, Nat.sub_self, List.take_zero, List.drop_of_length_le (by omega)]
theorem sl_str : SlR X (fun x lo hi H Q => ∃ z, x = .str z ∧ z.length ≤ sizeLine ∧ Q (.str (cutS z lo hi)) H) := by
  intro pins s σ H x v vl vu lo hi sl Q I rx hs pl pu h
  obtain ⟨z, rfl, hz, q⟩ := h
  obtain ⟨t, rfl⟩ := rx
  rw [← slice_cut] at q
  refine ⟨"str", _, slot_str_getitem.lookup, typeIs_str s z t, ?_⟩
  have key : ∀ (l u : Option (Int × Tok)), s.heap.IsSliceOf sl (partValue l) (partValue u) .none → l.map (·.1) = lo → u.map (·.1) = hi → wpAny (model X.prog X.w) X.A (getItem (.str z t) (.ref sl)) (EP X pins σ Q) X.xe s := by
    intro l u hs' hl hu
    subst hl hu
    exact wpAny_getItem_str_slice (l := l) (u := u) (st := none) hs' rfl (post_val_or_str ⟨Nat.le_trans (Txt.slice_le z _ _) hz, fun t' k => ⟨.str (Txt.slice z (l.map (·.1)) (u.map (·.1))), H, I.tok k, ⟨t', rfl⟩, q⟩⟩)
  cases pl with
  | none => cases pu with
    | none => exact key none none hs rfl rfl
    | int j tj => exact key none (some (j, tj)) hs rfl rfl
  | int i ti => cases pu with
    | none => exact key (some (i, ti)) none hs rfl rfl
    | int j tj => exact key (some (i, ti)) (some (j, tj)) hs rfl rfl
/-! ### find, index -/
theorem mt_find : MtR X "str.find" (fun x xs H Q => ∃ a b, x = .str a ∧ xs = [.str b] ∧ Q (.int (match Builtin.Str.occurrences a b 0 a.length 1 with | i :: _ => (i : Int) | [] => -1)) H) := by
  intro pins s σ H x xs v us Q I rx rs h
  obtain ⟨a, b, rfl, rfl, q⟩ := h
  obtain ⟨t, rfl⟩ := rx
  obtain ⟨u, rfl, ru⟩ := vals1 rs
  obtain ⟨t', rfl⟩ := ru
  exact call_gives PySem.F.slot_str_find (typeIs_str s a t) PySem.F.entry_str_find (PySem.F.args_str_find_2 _ _) (gives_str_find a b t t') ⟨.int _, H, I.tok _, ⟨_, rfl⟩, q⟩
/-! ### for-loops over n things that hang on nothing -/
noncomputable def ItN (n : Nat) (y : Nat → V) : It := ⟨fun i _ => i < n, fun i H x H' => H' = H ∧ x = y i, fun i _ => n ≤ i⟩
theorem for_N {n : Nat} {y : Nat → V} {g : TG} {tb : TS} {D : Ends} {σ : St} {H : Hp} (Pv : Nat → St → Hp → Prop) (h0 : Pv 0 σ H)
    (hs : ∀ i σ H, i < n → Pv i σ H → g (y i) σ H fun σ2 H2 => tb { D with nx := Pv (i + 1), ct := Pv (i + 1), bk := D.nx } σ2 H2) (hd : ∀ σ H, Pv n σ H → D.nx σ H) :
    ∃ W : Nat → Nat → St → Hp → Prop, (∃ m, W 0 m σ H) ∧ ∀ i m σ H, W i m σ H →
      ((ItN n y).stop i H ∧ D.nx σ H) ∨ ((ItN n y).go i H ∧ ∃ N : St → Hp → Prop, (∀ σ' H', N σ' H' → ∃ m', m' < m ∧ W (i + 1) m' σ' H') ∧ ∀ x H', (ItN n y).yld i H x H' → g x σ H' fun σ2 H2 => tb { D with nx := N, ct := N, bk := D.nx } σ2 H2) := by
  refine ⟨fun i m σ H => m = n - i ∧ i ≤ n ∧ Pv i σ H, ⟨n, by simp, Nat.zero_le _, h0⟩, ?_⟩
  rintro i m σ H ⟨rfl, hi, p⟩
  by_cases hlt : i < n
  · refine .inr ⟨hlt, Pv (i + 1), fun σ' H' p' => ⟨n - (i + 1), by omega, rfl, hlt, p'⟩, fun x H' y => ?_⟩
    obtain ⟨e, y⟩ := y
    subst e y
    exact hs i σ _ hlt p
  · have e : i = n := by omega
    subst e
    exact .inl ⟨Nat.le_refl _, hd σ H p⟩
end
end L2

namespace PySem.F
theorem slot_reversed_init : Slot "reversed" "__init__" "object.__init__" :=
  .of (owner := "object") (n := "__init__") (by rw [typeLookup_type, builtinLookup_eq_fast]; kernel_rfl) (by decide +kernel) (by decide +kernel) (by decide +kernel)
    (by first | exact .inl (by decide +kernel) | exact .inr (by decide +kernel)) (by rw [isSubtype_type]; kernel_rfl)
theorem called_reversed : TypeCalled "reversed" "reversed.__new__" "object.__init__" :=
  ⟨by decide +kernel, by decide +kernel, ⟨_, _, mro_reversed⟩, made_reversed, by decide +kernel, by rw [isSubtype_type]; kernel_rfl, slot_reversed_init⟩
theorem owner_reversed : Manifest.owners.lookup (String.ofList ['d', 'e', 's', 'r', 'e', 'v', 'e', 'r'].reverse) = some Manifest.sig_reversed := by kernel_rfl
theorem slot_reversed_next : Slot "reversed" "__next__" "reversed.__next__" :=
  .of (owner := "reversed") (n := "__next__") (by rw [typeLookup_type, builtinLookup_eq_fast]; kernel_rfl) (by decide +kernel) (by decide +kernel) (by decide +kernel)
    (by first | exact .inl (by decide +kernel) | exact .inr (by decide +kernel)) (by rw [isSubtype_type]; kernel_rfl)
theorem entry_reversed_next : entryFor table "reversed.__next__" = some Builtin.«reversed.__next__» := entryFor_of_tree (by kernel_rfl)
theorem args_reversed_next_1 (a : Value) : argsOk "reversed.__next__" ⟨[a], []⟩ := by
  unfold argsOk; rw [signature?_of (id := "reversed.__next__") (n := ['_', '_', 't', 'x', 'e', 'n', '_', '_']) (o := ['d', 'e', 's', 'r', 'e', 'v', 'e', 'r']) (by kernel_rfl) owner_reversed]; kernel_rfl
theorem slot_reversed_iter : Slot "reversed" "__iter__" "reversed.__iter__" :=
  .of (owner := "reversed") (n := "__iter__") (by rw [typeLookup_type, builtinLookup_eq_fast]; kernel_rfl) (by decide +kernel) (by decide +kernel) (by decide +kernel)
    (by first | exact .inl (by decide +kernel) | exact .inr (by decide +kernel)) (by rw [isSubtype_type]; kernel_rfl)
theorem args_reversed_iter_1 (a : Value) : argsOk "reversed.__iter__" ⟨[a], []⟩ := by
  unfold argsOk; rw [signature?_of (id := "reversed.__iter__") (n := ['_', '_', 'r', 'e', 't', 'i', '_', '_']) (o := ['d', 'e', 's', 'r', 'e', 'v', 'e', 'r']) (by kernel_rfl) owner_reversed]; kernel_rfl
theorem entry_reversed_iter : entryFor table "reversed.__iter__" = some Builtin.«dict_keyiterator.__iter__» :=
  entryFor_alias (id' := "dict_keyiterator.__iter__") (by kernel_rfl) (by first | rfl | decide +kernel | (unfold String.splitOn; simp +decide [String.splitOnAux])) (by decide +kernel) (by kernel_rfl)
theorem str_no_reversed : typeLookup (.type "str") "__reversed__" = pure none := by rw [typeLookup_type, builtinLookup_eq_fast]; kernel_rfl

end PySem.F

set_option Elab.async false
set_option linter.all false
set_option maxRecDepth 100000
set_option maxHeartbeats 4000000
namespace PySem
section
variable {prog : Program} {w : World} {A : Around} {E : Value → Shared → Prop} {s : Shared}
noncomputable def revS (x : Str) (t : Tok) (i : Int) : Obj := { cls := .type "reversed", data := .fields #[.str x t, rawInt i] }
noncomputable def Heap.IsRevS (h : Heap) (a : Addr) (x : Str) (t : Tok) (i : Int) : Prop := ∃ o, h.get? a = some o ∧ o.cls = .type "reversed" ∧ o.data = .fields #[.str x t, rawInt i]
theorem Heap.IsRevS.typeIs {a : Addr} {x : Str} {t : Tok} {i : Int} (y : s.heap.IsRevS a x t i) : s.TypeIs (.ref a) "reversed" := by obtain ⟨o, ho, hc, _⟩ := y; exact ⟨o, ho, hc⟩
theorem Heap.IsRevS.at {h h' : Heap} {a : Addr} {x : Str} {t : Tok} {i : Int} (y : h.IsRevS a x t i) (e : ∀ o, h.get? a = some o → h'.get? a = some o) : h'.IsRevS a x t i := by obtain ⟨o, ho, r⟩ := y; exact ⟨o, e _ ho, r⟩
theorem code_reversed_newS {x : Str} {t : Tok} {Q₁ : Value → Shared → Prop} (hz : x.length ≤ sizeLine)
    (h : ∀ tk, Q₁ (.ref s.heap.objs.size) { s with heap := s.heap.push (revS x t ((x.length : Int) - 1)), toks := tk }) :
    codeAny (model prog w) A (.call (.builtin "reversed.__new__") ⟨[.type "reversed", .str x t], []⟩) (wants Q₁ E) s := by
  refine codeAny_of_tree ?_
  show wpAny _ A.in1 (do checkBuiltinCall "reversed.__new__" ⟨[.type "reversed", .str x t], []⟩; again (.builtin "reversed.__new__" ⟨[.type "reversed", .str x t], []⟩)) _ _ s
  refine wpAny_bind (wpAny_of_eq (F.newCall_reversed_1 _) (wpAny_pure ⟨plainId_quiet F.plain_reversed_new _, codeAny_builtin F.entry_reversed_new ?_⟩))
  rw [Around.under_plainId F.plain_reversed_new _]
  unfold Builtin.«reversed.__new__»
  refine wpAny_bind (wpAny_of_eq (newClass_reversed _) ?_)
  try dsimp only
  refine wpAny_bind (wpAny_of_eq (a := ()) (by first | rfl | kernel_rfl) ?_)
  refine wpAny_bind (wpAny_of_eq (a := ()) (by first | rfl | kernel_rfl) ?_)
  try dsimp only
  refine wpAny_bind (wpAny_specialOf (typeIs_str s x t) F.str_no_reversed ?_)
  show wpAny _ _ (_ >>= _) _ _ _
  refine wpAny_bind (wpAny_of_eq (a := true) (by kernel_rfl) ?_)
  rw [if_neg (show ¬ ((!true) = true) from Bool.false_ne_true)]
  refine wpAny_bind (PyProof.Rows.len_str (by rw [sizeLine_eq] at hz; omega) ?_)
  refine wpAny_bind (wpAny_of_eq (a := some (x.length : Int)) rfl ?_)
  try dsimp only
  refine wpAny_bind ?_
  unfold Builtin.SmallTypes.newRecord
  refine wpAny_newObj_type (wpAny_pure ?_)
  exact h _

theorem call_reversed_str {x : Str} {t : Tok} {Q : Value → Shared → Prop} (hz : x.length ≤ sizeLine)
    (h : ∀ tk, Q (.ref s.heap.objs.size) { s with heap := s.heap.push (revS x t ((x.length : Int) - 1)), toks := tk }) : wpAny (model prog w) A (call (.type "reversed") [.str x t]) Q E s := by
  refine callType_codes (Q₁ := fun obj s₁ => obj = .ref s.heap.objs.size ∧ ∃ tk, s₁ = { s with heap := s.heap.push (revS x t ((x.length : Int) - 1)), toks := tk }) F.called_reversed (F.typeCall_reversed_1 _) F.entry_object_init
    (code_reversed_newS hz fun tk => ⟨rfl, tk, rfl⟩) fun obj s₁ h₁ => ?_
  obtain ⟨rfl, tk, rfl⟩ := h₁
  have hT : ({ s with heap := s.heap.push (revS x t ((x.length : Int) - 1)), toks := tk } : Shared).TypeIs (.ref s.heap.objs.size) "reversed" := ⟨_, Heap.get?_push_size _ rfl, rfl⟩
  exact ⟨hT, F.args_object_init_2 _ _, object_init_meets F.called_reversed.init.lookup F.called_reversed.made (by decide) prog w A.in1 _ _ ⟨hT, rfl, h tk⟩⟩

theorem revS_item {it : Addr} {x : Str} {t : Tok} {i : Nat} {c : Nat} {Q : Option Value → Shared → Prop} (hz : x.length ≤ sizeLine) (hit : s.heap.IsRevS it x t (i : Int)) (hc : x.cps.toList[i]? = some c)
    (hQ : ∀ h' tk tc, h'.IsRevS it x t ((i : Int) - 1) → Heap.SameBut it s.heap h' → Q (some (.str ⟨#[c]⟩ tc)) { s with heap := h', toks := tk }) : wpAny (model prog w) A (pyNext (.ref it)) Q E s := by
  obtain ⟨o, ho, hcl, hd⟩ := id hit
  unfold pyNext
  refine wpAny_bind (wpAny_attempt (wpAny_callSpecial?_slot (name := Str.ofString "__next__") hit.typeIs F.slot_reversed_next
    (wpAny_call_entry F.slot_reversed_next hit.typeIs F.entry_reversed_next ?_ (F.args_reversed_next_1 _))))
  unfold Builtin.«reversed.__next__»
  refine wpAny_bind (wpAny_of_eq (a := (Value.ref it, [])) rfl ?_)
  try dsimp only
  refine wpAny_bind (wpAny_field ho hd (x := .str x t) rfl ?_)
  refine wpAny_bind (wpAny_field ho hd (x := rawInt (i : Int)) rfl ?_)
  show wpAny _ _ (if (i : Int) < 0 then _ else _) _ _ s
  rw [if_neg (by omega)]
  refine wpAny_bind (wpAny_specialOf (typeIs_str s x t) F.slot_str_getitem.lookup ?_)
  rw [if_neg (show ¬ ((some (Value.builtin "str.__getitem__")).isNone = true) from Bool.false_ne_true)]
  refine wpAny_bind (wpAny_mkInt ?_)
  have hil : i < x.length := by
    have := (List.getElem?_eq_some_iff.mp hc).1
    simpa [Str.length] using this
  rw [sizeLine_eq] at hz
  have hsq : (seqIndex? (i : Int) x.length).bind (x.cps[·]?) = some c := by
    have : seqIndex? (i : Int) x.length = some i := by
      unfold seqIndex?
      simp only [show ¬ ((i : Int) < 0) by omega, if_false]
      simp [hil]
    rw [this]
    simpa using hc
  refine wpAny_bind (wpAny_attempt (PyProof.Rows.getItem_str (c := c) (by
    have e1 : decide ((i : Int) < -(2 ^ 63 : Int)) = false := decide_eq_false (by omega)
    have e2 : decide ((i : Int) ≥ 2 ^ 63) = false := decide_eq_false (by omega)
    rw [e1, e2, Bool.or_false]) hsq ?_))
  try dsimp only
  refine wpAny_bind (wpAny_field ho hd (x := rawInt (i : Int)) rfl ?_)
  show wpAny _ _ (setField (.ref it) 1 (rawInt ((i : Int) - 1)) >>= _) _ _ _
  refine wpAny_bind (wpAny_setField ho hd (by simp) ?_)
  first
  | refine wpAny_pure ⟨_, rfl, wpAny_pure (hQ _ _ _ ?_ (Heap.SameBut.update ..))⟩
  | refine wpAny_bind (wpAny_pure (wpAny_pure ⟨_, rfl, wpAny_pure (hQ _ _ _ ?_ (Heap.SameBut.update ..))⟩))
  exact ⟨_, Heap.get?_update_self _ ho (Obj.isFreed_of_fields (Obj.data_mapFields hd _)), (Obj.cls_mapFields ..).trans hcl, by
    rw [Obj.data_mapFields hd]; simp⟩

/-- the end of an iterator: a new StopIteration, nothing else -/
theorem stop_throws {α : Type} {Q : α → Shared → Prop} {s : Shared} (hh : A.handled = none)
    (h : ∀ (h' : Heap) (e : Addr), (∀ b o, s.heap.get? b = some o → h'.get? b = some o) → ({ s with heap := h' } : Shared).TypeIs (.ref e) "StopIteration" → E (.ref e) { s with heap := h' }) :
    wpAny (model prog w) A (Builtin.SmallTypes.stopIteration : Sem α) Q E s := by
  unfold Builtin.SmallTypes.stopIteration newExc newTuple
  refine wpAny_bind (wpAny_bind (wpAny_newObj_type ?tup (by size_fits)))
  refine wpAny_bind (wpAny_of_eq (a := Value.none) (by first | rfl | (unfold firstArgMember; rfl)) (wpAny_newObj_type ?exc (by size_fits)))
  unfold raiseNew
  refine wpAny_bind (wpAny_handled ?_)
  rw [hh]
  exact wpAny_bind (wpAny_pure (wpAny_throw (h _ _ (fun b o z => Heap.get?_push_of_some _ (Heap.get?_push_of_some _ z)) ⟨_, Heap.get?_push_size _ rfl, rfl⟩)))

theorem revS_end {it : Addr} {x : Str} {t : Tok} {Q : Option Value → Shared → Prop} (hh : A.handled = none) (hit : s.heap.IsRevS it x t (-1))
    (hQ : ∀ h', Heap.ExtBut it s.heap h' → Q none { s with heap := h' }) : wpAny (model prog w) A (pyNext (.ref it)) Q E s := by
  obtain ⟨o, ho, hcl, hd⟩ := id hit
  unfold pyNext
  refine wpAny_bind (wpAny_attempt (wpAny_callSpecial?_slot (name := Str.ofString "__next__") hit.typeIs F.slot_reversed_next
    (wpAny_call_entry F.slot_reversed_next hit.typeIs F.entry_reversed_next ?_ (F.args_reversed_next_1 _))))
  unfold Builtin.«reversed.__next__»
  refine wpAny_bind (wpAny_of_eq (a := (Value.ref it, [])) rfl ?_)
  try dsimp only
  refine wpAny_bind (wpAny_field ho hd (x := .str x t) rfl ?_)
  refine wpAny_bind (wpAny_field ho hd (x := rawInt (-1)) rfl ?_)
  show wpAny _ _ (if (-1 : Int) < 0 then _ else _) _ _ s
  rw [if_pos (by decide)]
  refine wpAny_bind (wpAny_rule ?_)
  refine wpAny_bind ?_
  show wpAny _ _ (setField (.ref it) 1 (rawInt (-1)) >>= fun _ => setField (.ref it) 0 .none) _ _ s
  refine wpAny_bind (wpAny_setField ho hd (by simp) ?_)
  have ho2 := Heap.get?_update_self (Obj.mapFields (·.setIfInBounds 1 (rawInt (-1)))) ho (Obj.isFreed_of_fields (Obj.data_mapFields hd _))
  refine wpAny_setField ho2 (Obj.data_mapFields hd _) (by simp) ?_
  have hx : Heap.ExtBut it s.heap ((s.heap.update it (Obj.mapFields (·.setIfInBounds 1 (rawInt (-1))))).update it (Obj.mapFields (·.setIfInBounds 0 Value.none))) := fun b o hb e => by
    rw [Heap.get?_update_other _ _ (Ne.symm hb), Heap.get?_update_other _ _ (Ne.symm hb)]; exact e
  generalize (s.heap.update it (Obj.mapFields (·.setIfInBounds 1 (rawInt (-1))))).update it (Obj.mapFields (·.setIfInBounds 0 Value.none)) = h1 at hx
  refine wpAny_bind (stop_throws hh fun h2 e k2 hty => ?_)
  exact wpAny_bind (wpAny_isInstance hty isSubtype_stop (wpAny_pure (hQ h2 fun b o hb z => k2 b o (hx b o hb z))))

theorem revS_iter {it : Addr} {x : Str} {t : Tok} {i : Int} {Q : Value → Shared → Prop} (hit : s.heap.IsRevS it x t i) (h : Q (.ref it) s) : wpAny (model prog w) A (pyIter (.ref it)) Q E s := by
  refine wpAny_pyIter_slot hit.typeIs F.slot_reversed_iter (wpAny_call_entry F.slot_reversed_iter hit.typeIs F.entry_reversed_iter ?_ (F.args_reversed_iter_1 _))
  show wpAny _ _ (ret (.ref it)) _ _ s
  exact wpAny_pure ⟨_, rfl, "reversed", _, hit.typeIs, F.slot_reversed_next.lookup, h⟩
end
end PySem

namespace L2
open PySem PySem.Spec PyProof.Rows
/-! ### for c in reversed(text) -/
noncomputable def revAt (z : Str) (i : Nat) : V := .str ⟨#[z.cps.toList.getD (z.length - 1 - i) 0]⟩
theorem turn_revS {P : Program} {w : World} {K : PySem.W.Frag} {tg : Expr} (it : Addr) (z : Str) (t : Tok) (hz : z.length ≤ sizeLine) :
    Turn P w K tg (ItN z.length (revAt z)) [it] it (fun i h => i ≤ z.length ∧ h.IsRevS it z t ((z.length : Int) - 1 - (i : Int))) where
  mem := by simp
  obj := fun i h st b hb => by
    have e : b = it := by simpa using hb
    subst e
    obtain ⟨_, o, e, c, d⟩ := st
    exact ⟨o, e, fun v z => by rw [d] at z; cases z⟩
  keep := fun i h h' st k => ⟨st.1, st.2.at fun o e => k it (by simp) o e⟩
  item := by
    intro X hP hw hK hc i pins s σ H E I hf st hg
    subst hP hw hK
    have hg : i < z.length := hg
    obtain ⟨f0, f1, f2, f3, f4, f5⟩ := hf it (by simp)
    have hl : z.cps.toList.length = z.length := by simp [Str.length]
    have hlt : z.length - 1 - i < z.cps.toList.length := by omega
    have hcc : z.cps.toList[z.length - 1 - i]? = some (z.cps.toList.getD (z.length - 1 - i) 0) := by
      rw [List.getD_eq_getElem?_getD, List.getElem?_eq_getElem hlt]; rfl
    have e1 : (z.length : Int) - 1 - (i : Int) = ((z.length - 1 - i : Nat) : Int) := by omega
    have hit := st.2
    rw [e1] at hit
    refine revS_item hz hit hcc fun h' tk tc st' sb => ?_
    have I1 : Inv X pins σ H { s with heap := h', toks := tk } := I.turned (fun b o hb e => (sb.2 b hb).trans e) f0 f1 f3 f4 f5
    have e2 : ((z.length - 1 - i : Nat) : Int) - 1 = (z.length : Int) - 1 - ((i + 1 : Nat) : Int) := by omega
    rw [e2] at st'
    obtain ⟨o, e, c, d⟩ := id st'
    exact ⟨_, rfl, go_of (s := { s with heap := h', toks := tk }) e c d (by decide) ⟨revAt z i, H, I1, ⟨tc, rfl⟩, ⟨rfl, rfl⟩, ⟨hg, st'⟩, fun b hb => (hf b hb).1⟩⟩
  done := by
    intro X hP hw hK hc i pins s σ H E I hf st hg
    subst hP hw hK
    have hg : z.length ≤ i := hg
    obtain ⟨f0, f1, f2, f3, f4, f5⟩ := hf it (by simp)
    have hit := st.2
    rw [show (z.length : Int) - 1 - (i : Int) = -1 by have := st.1; omega] at hit
    exact revS_end (I.ok.hd hc) hit fun h' eb => ⟨rfl, I.turned (t' := s.toks) (fun b o hb e => eb b o hb e) f0 f1 f3 f4 f5⟩
  self := fun _ _ _ _ _ st h => revS_iter st.2 h
section
variable {X : Cx} {tg : Expr}
noncomputable def iRevS (ta : TA) : TI := fun σ H R => ta σ H fun vs H1 => ∃ z : Str, vs = [.str z] ∧ z.length ≤ sizeLine ∧ R (ItN z.length (revAt z)) H1
theorem pi_revstr {a : Expr} {ta : TA} {p pos : Pos} (hg : Gl X "reversed") (hm : X.mg "reversed" = none) (ha : PA X [a] ta) (hs : starEach [a] X.env = [(false, eval a X.env)] := by rfl) : PI X tg (.Call (.Name "reversed" p) [a] [] pos) (iRevS ta) := by
  intro pins s σ H R I h
  refine Call_ (ld_blt I hg hm boot_reversed (PyProof.Rows.callWith_type1 (thn (ha pos pins s σ H _ I h) fun us s1 hsl37 => ?_) hs rfl))
  obtain ⟨vs, H1, I1, r1, q1⟩ := hsl37
  obtain ⟨z, e, hz, q⟩ := q1
  subst e
  obtain ⟨u, rfl, t, rfl⟩ := vals1 r1
  refine call_reversed_str hz fun tk => ?_
  have I2 : Inv X pins σ H1 { s1 with heap := s1.heap.push (revS z t ((z.length : Int) - 1)), toks := tk } := I1.kept fun b o e => Heap.get?_push_of_some _ e
  have st : (s1.heap.push (revS z t ((z.length : Int) - 1))).IsRevS s1.heap.objs.size z t ((z.length : Int) - 1 - ((0 : Nat) : Int)) := ⟨_, Heap.get?_push_size _ rfl, rfl, by simp [revS]⟩
  refine revS_iter (s := { s1 with heap := s1.heap.push (revS z t ((z.length : Int) - 1)), toks := tk }) st ?_
  refine ⟨s1.heap.objs.size, [s1.heap.objs.size], _, _, H1, rfl, I2, turn_revS _ z t hz, ⟨Nat.zero_le _, st⟩, fun b hb => ?_, q⟩
  have e : b = s1.heap.objs.size := by simpa using hb
  subst e
  exact I1.fpOk (Nat.le_refl _) (I1.hok.fresh (Nat.le_refl _))
end
end L2

set_option Elab.async false
set_option linter.all false
set_option maxRecDepth 100000
set_option maxHeartbeats 4000000
namespace L2
open PySem PySem.Spec PyProof.Rows
/-! ### a dict of the module: texts to ints; read alone -/
structure KDict (P : Program) (w : World) (K : PySem.W.Frag) (a : Addr) (kvs : List (Str × Int)) : Prop where
  ns : (a == sysModules) = false
  ob : ∃ (o : Obj) (vs : List (Key × Value)), K.lookup a = some o ∧ o.cls = .type "dict" ∧ o.dict = none ∧ (∀ h : Heap, h.get? a = some o → h.DictOf (mixKind P w) a vs) ∧
    ∀ k : Str, (∀ i, kvs.lookup k = some i → ∃ t, valueAt vs (Sum.inr k : Key) = some (.int i t)) ∧ (kvs.lookup k = none → valueAt vs (Sum.inr k : Key) = none)
noncomputable abbrev KE4 := Str × Tok × Int × Tok
noncomputable def kEnt (w : World) (e : KE4) : DictEntry := ⟨hashStr w e.1, .str e.1 e.2.1, .int e.2.2.1 e.2.2.2⟩
noncomputable def kPr (e : KE4) : Key × Value := (Sum.inr e.1, .int e.2.2.1 e.2.2.2)
theorem kPairs {P : Program} {w : World} : ∀ es : List KE4, Pairs (mixKind P w) (es.map (kEnt w)) (es.map kPr)
  | [] => .nil
  | e :: r => .cons (mixKind_str P w e.1 e.2.1) rfl (kPairs r)
theorem kVal (k : Str) : ∀ es : List KE4, (∀ i, (es.map fun e => (e.1, e.2.2.1)).lookup k = some i → ∃ t, valueAt (es.map kPr) (Sum.inr k : Key) = some (.int i t)) ∧ ((es.map fun e => (e.1, e.2.2.1)).lookup k = none → valueAt (es.map kPr) (Sum.inr k : Key) = none)
  | [] => ⟨fun i h => by simp at h, fun _ => rfl⟩
  | e :: r => by
    obtain ⟨h1, h2⟩ := kVal k r
    simp only [List.map_cons, List.lookup_cons]
    by_cases hk : k = e.1
    · subst hk
      simp only [beq_self_eq_true]
      refine ⟨fun i h => ?_, fun h => nomatch h⟩
      cases h
      exact ⟨e.2.2.2, by simp [valueAt, kPr]⟩
    · have hb : (k == e.1) = false := beq_eq_false_iff_ne.mpr hk
      have hn : ¬ ((kPr e).1 = (Sum.inr k : Key)) := fun z => hk (by
        have z' : (Sum.inr e.1 : Key) = Sum.inr k := z
        injection z' with z'
        exact z'.symm)
      have ev : valueAt (kPr e :: r.map kPr) (Sum.inr k : Key) = valueAt (r.map kPr) (Sum.inr k : Key) := by
        unfold valueAt
        rw [List.find?_cons_of_neg (by simpa using hn)]
      rw [hb, ev]
      exact ⟨h1, h2⟩
theorem kdict_mk {P : Program} {w : World} {K : PySem.W.Frag} {a : Addr} {ep : Nat} {es : List KE4} (hs : (a == sysModules) = false)
    (hl : K.lookup a = some ⟨.type "dict", none, .dict (es.map (kEnt w)).toArray ep, #[]⟩) (nd : (es.map (·.1)).Nodup) : KDict P w K a (es.map fun e => (e.1, e.2.2.1)) := by
  refine ⟨hs, _, es.map kPr, hl, rfl, rfl, fun h e => ⟨_, _, _, e, ⟨rfl, rfl, rfl⟩, rfl, ?_, kPairs es, ?_⟩, fun k => kVal k es⟩
  · intro x hx
    have hx' : x ∈ es.map (kEnt w) := by simpa using hx
    obtain ⟨y, _, rfl⟩ := List.mem_map.mp hx'
    exact ⟨Sum.inr y.1, mixKind_str P w y.1 y.2.1, rfl⟩
  · have e1 : (es.map kPr).map (·.1) = (es.map (·.1)).map (Sum.inr : Str → Key) := by rw [List.map_map, List.map_map]; rfl
    rw [e1]
    refine List.Pairwise.map _ (fun x y hxy hz => hxy ?_) nd
    injection hz
section
variable {X : Cx} {a : Addr} {kvs : List (Str × Int)} {x : Str} {p pos apos cpos : Pos} {e f : Expr} {ty tx : TE}
theorem KDict.here {pins : List (Addr × Obj)} {σ : St} {H : Hp} {s : Shared} (D : KDict X.prog X.w X.K a kvs) (I : Inv X pins σ H s) :
    ∃ vs : List (Key × Value), s.heap.DictOf (mixKind X.prog X.w) a vs ∧ (∀ b, Value.ref a = .ref b → ∃ ob, s.heap.get? b = some ob ∧ ob.dict = none) ∧
      ∀ k : Str, (∀ i, kvs.lookup k = some i → ∃ t, valueAt vs (Sum.inr k : Key) = some (.int i t)) ∧ (kvs.lookup k = none → valueAt vs (Sum.inr k : Key) = none) := by
  obtain ⟨o, vs, hk, hc, hd, hh, hv⟩ := D.ob
  have e := I.kIn a o hk
  exact ⟨vs, hh _ e, fun b q => by cases q; exact ⟨o, e, hd⟩, hv⟩
/-- d.get(y, z) -/
noncomputable def tKGet2 (kvs : List (Str × Int)) (ty tx : TE) : TE := fun σ H Q => ty σ H fun y H1 => tx σ H1 fun z H2 => ∃ (k : Str) (v : V), y = .str k ∧ ((kvs.lookup k).map V.int).getD z = v ∧ Q v H2
theorem pe_kget2 (D : KDict X.prog X.w X.K a kvs) (hg : Gl X x) (hm : X.mg x = some (.ref a)) (he : PE X e ty) (hf : PE X f tx)
    (hbase : attributeBase (.Name x p) "get" X.env (eval (.Name x p) X.env) = eval (.Name x p) X.env := by rfl)
    (hfew : ((backTo cpos (starEach [e, f] X.env)).all (fun x => !x.1) && (backToKw cpos (keywordEach [] X.env)).all (fun x => x.1.isSome)
      && decide (([e, f] : List Expr).length + ([] : List Keyword).length + (if ([] : List Keyword).isEmpty then 0 else 1) < 30)) = true := by rfl)
    (hline : (apos.endLine == cpos.line) = true := by rfl) (htrees : backTo cpos (starEach [e, f] X.env) = [(false, eval e X.env), (false, eval f X.env)] := by rfl) (hd : (x == ("__debug__" : Str)) = false := by decide) :
    PE X (.Call (.Attribute (.Name x p) "get" apos) [e, f] [] cpos) (tKGet2 kvs ty tx) := by
  intro pins s σ H Q I h
  refine wpAny_Call_method hbase hfew hline PySem.F.plainAttrs_dict PySem.F.slot_dict_get PySem.F.type_dict_get (ld_glob I hg hm ?_ hd)
  obtain ⟨vs, dd, hnd, hv⟩ := D.here I
  refine ⟨dd.typeIs, hnd, ?_⟩
  rw [htrees]
  refine Calls.callWith_builtin rfl (Calls.evalArgs_plain (Calls.spliced_cons (thn (he pins s σ H _ I h) fun iv s2 ⟨y, H2, I2, ry, q2⟩ =>
    Calls.spliced_cons (thn (hf pins s2 σ H2 _ I2 q2) fun fv s3 ⟨z, H3, I3, rz, k, v, ey, ev, q3⟩ => Calls.spliced_nil ?_))))
  subst ey
  obtain ⟨t, rfl⟩ := ry
  obtain ⟨vs3, dd3, _, hv3⟩ := D.here I3
  refine call_meetsIn PySem.F.slot_dict_get dd3.typeIs PySem.F.entry_dict_get (PySem.F.args_dict_get_3 _ _ _) (meets_dict_get_default (mixKind X.prog X.w) a (k := Sum.inr k) (mixKind_str _ _ k t) D.ns fv) ⟨_, dd3.mapOf, ?_⟩
  refine ⟨v, H3, I3.tok _, ?_, q3⟩
  subst ev
  cases hk : kvs.lookup k with
  | none => rw [(hv3 k).2 hk]; exact rz
  | some i =>
    obtain ⟨t', e⟩ := (hv3 k).1 i hk
    rw [e]; exact ⟨t', rfl⟩
/-- y in d -/
noncomputable def tKIn (kvs : List (Str × Int)) (ty : TE) : TE := fun σ H Q => ty σ H fun y H1 => ∃ k : Str, y = .str k ∧ Q (.bl (kvs.lookup k).isSome) H1
theorem pc_kin (D : KDict X.prog X.w X.K a kvs) (hg : Gl X x) (hm : X.mg x = some (.ref a)) (he : PE X e ty) (hd : (x == ("__debug__" : Str)) = false := by decide) : PC X .In e (.Name x p) (tKIn kvs ty) := by
  intro pins s σ H Q I h
  refine thn (he pins s σ H _ I h) fun iv s1 ⟨y, H1, I1, ry, k, ey, q⟩ => ld_glob I1 hg hm ?_ hd
  subst ey
  obtain ⟨t, rfl⟩ := ry
  obtain ⟨vs, dd, _, hv⟩ := D.here I1
  refine wpAny_in_of (k := (Sum.inr k : Key)) (mixKind_str _ _ k t) D.ns dd.mapOf ?_
  refine ⟨_, H1, I1.tok _, ?_, q⟩
  cases hk : kvs.lookup k with
  | none => rw [(hv k).2 hk]; rfl
  | some i =>
    obtain ⟨t', e⟩ := (hv k).1 i hk
    rw [e]; rfl
/-- d[y] -/
noncomputable def tKIx (kvs : List (Str × Int)) (ty : TE) : TE := fun σ H Q => ty σ H fun y H1 => ∃ (k : Str) (i : Int), y = .str k ∧ kvs.lookup k = some i ∧ Q (.int i) H1
theorem pe_kix (D : KDict X.prog X.w X.K a kvs) (hg : Gl X x) (hm : X.mg x = some (.ref a)) (he : PE X e ty) (hs : PlainIx e) (hd : (x == ("__debug__" : Str)) = false := by decide) : PE X (.Subscript (.Name x p) e pos) (tKIx kvs ty) := by
  intro pins s σ H Q I h
  refine Subscript_ (ld_glob I hg hm ?_ hd)
  refine thn (he pins s σ H _ I h) fun iv s1 hsl38 => ?_
  obtain ⟨y, H1, I1, ry, k, i, ey, hk, q⟩ := hsl38
  subst ey
  obtain ⟨t, rfl⟩ := ry
  obtain ⟨vs, dd, _, hv⟩ := D.here I1
  obtain ⟨t', e⟩ := (hv k).1 i hk
  exact tail_any dd.typeIs PySem.F.slot_dict_getitem.lookup (wpAny_getItem_of (k := (Sum.inr k : Key)) (mixKind_str _ _ k t) dd.mapOf e ⟨.int i, H1, I1.tok _, ⟨t', rfl⟩, q⟩) (hs _ _)
end
end L2

set_option Elab.async false
set_option linter.all false
set_option maxRecDepth 100000
set_option maxHeartbeats 4000000
namespace L2
open PySem PySem.Spec PyProof.Rows
section
variable {X : Cx}
/-! ### range(n) as a thing, list(range(n)) -/
/-! ### isinstance(x, C), C an own class -/
theorem call_isinstC : CallR X (.builtin "isinstance") (fun xs H Q => ∃ x t C b, xs = [x, .ref C] ∧ TyOf X.K H x t ∧ PySem.W.kitOne X.K t (.ref C) = some b ∧ Q (.bl b) H) := by
  intro pins s σ H xs us Q I r h
  obtain ⟨x, t, C, b, rfl, ty, e, q⟩ := h
  obtain ⟨u, w', rfl, rx, rw'⟩ := vals2 r
  cases (show w' = Value.ref C from rw')
  exact isinst_ok I rx ty e fun tk => ⟨.bl b, H, I.tok _, rfl, q⟩
end
theorem bt_rev : bootBuiltins "reversed" = some (.type "reversed") := by decide +kernel
end L2

set_option Elab.async false
set_option linter.all false
set_option maxRecDepth 100000
set_option maxHeartbeats 4000000
namespace L2
open PySem PySem.Spec PyProof.Rows
/-! ### f'{e!r}..': some text -/
section
variable {X : Cx}
end
/-! ### an exception that leaves a def -/
/-- a def's body, not a comprehension's block -/
structure Body (X : Cx) : Prop where
  ex : X.ex = []
  stk : X.stack = X.env :: X.outer
  frm : X.env.frame = some X.env.locals
  fn : ∀ x, X.fn x = true
theorem Body.wish {X : Cx} (b : Body X) (E : Value → Shared → Prop) : Body (X.wish E) := ⟨b.ex, b.stk, b.frm, b.fn⟩
section
variable {X : Cx} {pins : List (Addr × Obj)} {σ : St} {H H' : Hp} {s s' : Shared} {B h'' : Heap}
theorem Body.frs (b : Body X) : frs X.stack = X.env.locals :: X.fs := by
  show List.filterMap _ _ = _
  rw [b.stk]
  simp [b.frm, Cx.fs, L2.frs]
theorem Body.old (b : Body X) (I : Inv X pins σ H s) {c : Addr} {o : Obj} (e : X.s₀.heap.get? c = some o) (hc : c ∉ X.fs) : c ∉ L2.frs X.stack := by
  rw [b.frs]
  intro hm
  rcases List.mem_cons.mp hm with z | z
  · exact absurd (Nat.lt_of_lt_of_le (Heap.lt_size e) I.ok.above) (by rw [z]; exact Nat.lt_irrefl _)
  · exact hc z
theorem Body.cell (b : Body X) (I : Inv X pins σ H s) {x : Str} {c : Addr} (e : X.env.cells.lookup x = some c) : c ∉ L2.frs X.stack := by
  rw [b.frs]
  intro hm
  rcases List.mem_cons.mp hm with z | z
  · exact I.cne x c e z
  · obtain ⟨o, ho, _⟩ := (I.ok.funs.mem (show c ∈ X.outer.filterMap (·.frame) from z)).2
    exact absurd (Nat.lt_of_lt_of_le (Heap.lt_size ho) (I.ok.cab x c (b.fn x) e)) (Nat.lt_irrefl _)
end
section
variable {P : Program} {w : World} {K : PySem.W.Frag} {mg : Str → Option Value} {base : Heap} {N : List Str} {qual : Str} {scope : Scope} {f : Addr} {cd : Value} {A : Around} {outer : List Env} {s₀ : Shared} {H₀ : Hp} {E : XK}
/-! ### a def that may raise -/
end
/-! ### raise C(..), C an own class of exceptions without an __init__ of its own -/
section
variable {X : Cx}
end
end L2

set_option Elab.async false
set_option linter.all false
set_option maxRecDepth 100000
set_option maxHeartbeats 4000000
namespace L2
open PySem PySem.Spec PyProof.Rows
/-! ### isinstance of an exception: only its class is known -/
section
variable {prog : Program} {w : World} {A : Around} {E : Value → Shared → Prop} {s : Shared} {K : PySem.W.Frag} {x D : Addr} {name : Str}
structure XCls (K : PySem.W.Frag) (D : Addr) : Prop where
  hg : PySem.W.findIn K (.ref D) "__getattribute__" = some (some (.builtin "BaseException.__getattribute__"))
  hk : PySem.W.findIn K (.ref D) "__getattr__" = some none
  hb : PySem.W.mroIn K D (.type "BaseException") = some true
  ha : PySem.W.findIn K (.ref D) "__class__" = some (some (.builtin "object.__class__"))
  hn : PySem.W.specialIn K (.builtin "object.__class__") "__get__" = some (some (.builtin "getset_descriptor.__get__"))
  ht : PySem.W.takesIn K (.builtin "object.__class__") = some true
  hm : PySem.W.mroIn K D (.type "object") = some true
theorem XCls.hc (c : XCls K D) : (PySem.W.clsIn K D).isSome = true := by
  have q := c.hm
  unfold PySem.W.mroIn at q
  cases h : PySem.W.clsIn K D with
  | none => rw [h] at q; cases q
  | some _ => rfl
noncomputable def HasCls (a : Addr) (cls : Value) (h : Heap) : Prop := ∃ o, h.get? a = some o ∧ o.cls = cls
open PySem.W in
theorem HasCls.type {M : Model} {h : Heap} {cls : Value} (p : HasCls x cls h) : Looks M h (typeOf (.ref x)) cls := by
  obtain ⟨o, h1, h2⟩ := p
  exact h2 ▸ (Looks.ld h1).andThen .now
open PySem.W PySem.Calls Builtin Builtin.ObjectAttr Builtin.Getset_descriptor in
theorem xc_get {R : Result → Shared → Prop} {tp : Value} (X : K.In s.heap) (I : HasCls x (.ref D) s.heap) (hm : mroIn K D (.type "object") = some true)
    (h : R (.ok (.ret (.ref D))) s) : codeAny (model prog w) A (.call (.builtin "getset_descriptor.__get__") ⟨[.builtin "object.__class__", .ref x, tp], []⟩) R s := by
  obtain ⟨hh, g, dr, t, os⟩ := s
  have L0 := I.type (M := model prog w)
  have L1 := looks_mroIn (M := model prog w) X hm
  refine codeAny_call_builtin KF.slot_gs.plain KF.entry_gs (KF.slot_gs.check _ _ _ _ _ _ _ _ KF.type_class (KF.args_gs _ _ _) ?_)
  unfold Builtin.«getset_descriptor.__get__» descrGet
  rw [dga_obj]
  refine wpAny_bind (wpAny_pure ?_)
  unfold descrGetter descrCheckInstance descrNameAndClass isInstance
  simp only [KF.owner_class]
  repeat lk
  refine ⟨Code.quiet_builtin _ (by decide +kernel), codeAny_builtin KF.entry_class ?_⟩
  unfold Builtin.«object.__class__» shownTypeOf
  repeat lk
  exact h
open PySem.W PySem.Calls Builtin Builtin.ObjectAttr in
theorem xc_entry {tk : Tok} {Q : Fin → Shared → Prop} (c : XCls K D) (X : K.In s.heap) (I : HasCls x (.ref D) s.heap) (hq : Q (.done (.ret (.ref D))) s) :
    wpAny (model prog w) A (Builtin.«object.__getattribute__» ⟨[.ref x, .str "__class__" tk], []⟩) Q E s := by
  obtain ⟨hh, gg, d, t, os⟩ := s
  have L0 := I.type (M := model prog w)
  have L1 : Looks (model prog w) hh (find (.ref x) (.ref D) "__class__") (.bind (.builtin "getset_descriptor.__get__") (.builtin "object.__class__")) := by
    have L3 := looks_takesIn (M := model prog w) X c.ht
    exact (looks_findIn X c.ha).andThen ((show Looks (model prog w) hh (getOf (some (.builtin "object.__class__"))) (some (.builtin "getset_descriptor.__get__")) from looks_specialIn X c.hn).andThen ((show Looks (model prog w) hh (dataDescriptor? (some (.builtin "object.__class__")) (some (.builtin "getset_descriptor.__get__"))) (some (.builtin "getset_descriptor.__get__", .builtin "object.__class__")) from L3.andThen .now).andThen (Looks.tag .now)))
  refine wpAny_bind (wpAny_pure (wpAny_bind (wpAny_pure (wpAny_bind (L0.at (wpAny_bind (L1.at ?_)))))))
  show wpAny _ _ (holding [Value.builtin "object.__class__"] (call (.builtin "getset_descriptor.__get__") [.builtin "object.__class__", .ref x, .ref D]) >>= ret) _ _ _
  exact wpAny_bind (wpAny_holding (wpAny_call (xc_get (s := ⟨hh, gg, d, t, os⟩) X I c.hm (wpAny_pure hq))))
open PySem.W PySem.Calls in
theorem xc_check {M : Model} {nameV : Value} {Q : Unit → Shared → Prop} (c : XCls K D) (X : K.In s.heap) (I : HasCls x (.ref D) s.heap) (hq : Q () s) : wpAny M A (checkBuiltinCall "BaseException.__getattribute__" ⟨[.ref x, nameV], []⟩) Q E s := by
  have hk : builtinKind "BaseException.__getattribute__" = some .slot := by decide +kernel
  have hsplit : splitId "BaseException.__getattribute__" = some ("BaseException", "__getattribute__") := by decide +kernel
  have ha := F.args_bexc_ga (.ref x) nameV
  obtain ⟨hh, gg, d, t, os⟩ := s
  have L0 := I.type (M := M)
  have L1 := looks_mroIn (M := M) X c.hb
  have L2 : Looks M hh (isInstance (.ref x) (.type "BaseException")) true := L0.andThen L1
  simp only [checkBuiltinCall, hk, hsplit]
  refine wpAny_bind (L2.at ?_)
  repeat (first | exact hq | wp_step)
open PySem.W PySem.Calls in
theorem xc_class {Q : Option Value → Shared → Prop} (c : XCls K D) (X : K.In s.heap) (I : HasCls x (.ref D) s.heap) (h : Q (some (.ref D)) { s with toks := s.toks + 1 }) : wpAny (model prog w) A (getAttr? (.ref x) "__class__") Q E s := by
  obtain ⟨hh, g, d, t, os⟩ := s
  have L0 := I.type (M := model prog w)
  have L1 := looks_findIn (M := model prog w) X c.hg
  have L2 := looks_findIn (M := model prog w) X c.hk
  unfold getAttr? getAttrBy? getAttrBy
  refine wpAny_bind (wpAny_mkText (wpAny_bind (wpAny_attempt (wpAny_holding (wpAny_bind (L0.at (wpAny_bind (L1.at ?_))))))))
  show wpAny _ _ (getAttrByItsOwn _ _ _ _ _ _) _ _ _
  unfold getAttrByItsOwn
  refine wpAny_bind ((show Looks (model prog w) hh (hookBefore (.ref D)) none from L2).at ?_)
  refine wpAny_bind (wpAny_attempt (wpAny_holding ?_))
  show wpAny _ _ (boundAndCalled _ _ _) _ _ _
  unfold boundAndCalled
  rw [F.excAttr_ValueError.ga.bind]
  refine wpAny_bind (wpAny_pure ?_)
  refine wpAny_call (codeAny_call_builtin F.excAttr_ValueError.ga.plain F.entry_bexc_ga (xc_check (s := ⟨hh, g, d, t + 1, os⟩) c X I (xc_entry (s := ⟨hh, g, d, t + 1, os⟩) c X I ?_)))
  refine handed_on rfl ?_
  exact wpAny_pure h
open PySem.W in
theorem kitx_exc (c : XCls K D) : KitX K (.ref x) (.ref D) (HasCls x (.ref D)) where
  ty := fun _ _ _ I => I.type
  it := fun _ _ X _ => by
    have hcD := c.hc
    unfold clsIn at hcD
    split at hcD
    · rename_i c' d' cd' sl' ho
      intro A' Q' E' s' k q
      unfold isType loadHead
      exact wpAny_bind (wpAny_loadPart (k _ _ (X _ _ ho)) (wpAny_pure q))
    · cases hcD
  ne := fun h tp dd its n sl X htp => by
    have hcD := c.hc
    refine Bool.eq_false_iff.mpr fun q => ?_
    have e : D = tp := Value.ref.inj (beq_iff_eq.mp q)
    subst e
    unfold clsIn at hcD
    split at hcD
    · rename_i c' d' cd' sl' ho
      have z := (X _ _ ho).symm.trans htp
      cases z
    · cases hcD
  ca := fun X I k => xc_class c X I k
end
/-- a caught exception, of which the class is known -/
noncomputable def excO (a : Addr) (cls : Value) : HO := .ext (HasCls a cls)
section
variable {X : Cx}
theorem exc_has {pins : List (Addr × Obj)} {σ : St} {H : Hp} {s : Shared} {a : Addr} {cls : Value} (I : Inv X pins σ H s) (e : H a = some (excO a cls)) : HasCls a cls s.heap := (show ObjOk X.prog X.w H s.heap a (.ext (HasCls a cls)) from I.hok a _ e).1
/-- isinstance(e, C): C an own class -/
theorem call_isexcC {K : PySem.W.Frag} (hK : X.K = K) : CallR X (.builtin "isinstance") (fun xs H Q => ∃ a D C b, xs = [.ref a, .ref C] ∧ H a = some (excO a (.ref D)) ∧ XCls K D ∧ PySem.W.kitOne K (.ref D) (.ref C) = some b ∧ Q (.bl b) H) := by
  subst hK
  intro pins s σ H xs us Q I r h
  obtain ⟨a, D, C, b, rfl, ha, c, e, q⟩ := h
  obtain ⟨u, w', rfl, rx, rw'⟩ := vals2 r
  cases (show w' = Value.ref C from rw')
  cases (show u = Value.ref a from rx)
  exact PySem.W.kia_one (kitx_exc c) I.kIn (exc_has I ha) e (fun z => nomatch z) fun tk => ⟨.bl b, H, I.tok _, rfl, q⟩
/-- isinstance(e, T): T a built-in type -/
theorem call_isexcT {n : String} {K : PySem.W.Frag} (hK : X.K = K) : CallR X (.builtin "isinstance") (fun xs H Q => ∃ a D b, xs = [.ref a, .ty n] ∧ H a = some (excO a (.ref D)) ∧ XCls K D ∧ PySem.W.kitOne K (.ref D) (.type n) = some b ∧ Q (.bl b) H) := by
  subst hK
  intro pins s σ H xs us Q I r h
  obtain ⟨a, D, b, rfl, ha, c, e, q⟩ := h
  obtain ⟨u, w', rfl, rx, rw'⟩ := vals2 r
  cases (show w' = Value.type n from rw')
  cases (show u = Value.ref a from rx)
  exact PySem.W.kia_one (kitx_exc c) I.kIn (exc_has I ha) e (fun z => nomatch z) fun tk => ⟨.bl b, H, I.tok _, rfl, q⟩
end
/-! ### an expression that may raise, at known local names -/
section
variable {X : Cx} {CX : CXT} {k : Nat} {f C : Addr} {fd : FuncData} {ps : List Str} {sp : Sp} {dvs : List V} {ds : List Value} {x m : Str} {p pos apos : Pos} {e o : Expr} {es : List Expr} {ta : TE} {t : TA}
end
/-! ### try: e except C as n: suite -/
/-- the suite of an except clause: an exception is at hand, none leaves -/
noncomputable abbrev Cx.hnd (X : Cx) (ea : Addr) : Cx := { X with A := X.A.mark (some (.ref ea)), calm := false, xe := fun _ _ => False }
section
variable {X : Cx} {pins : List (Addr × Obj)} {σ : St} {H : Hp} {s : Shared}
theorem Cx.Ok.hnd (ok : X.Ok) (ea : Addr) : (X.hnd ea).Ok :=
  ⟨ok.mod, ok.kind, ok.glob, ok.blt, ok.above, ok.inj, ok.has, ok.cab, (fun z => nomatch z), ok.frames, ok.stk, ok.exf, ok.bs, ok.bsz, ok.noex, ok.exfs, ok.funs, ok.frf⟩
theorem Inv.hnd (I : Inv X pins σ H s) (ea : Addr) : Inv (X.hnd ea) pins σ H s := ⟨I.ok.hnd ea, I.os, I.bare, I.base, I.loc, I.cell, I.free, I.freeC, I.pin, I.hok, I.len⟩
end
section
variable {X : Cx}
end
end L2

set_option Elab.async false
set_option linter.all false
set_option maxRecDepth 100000
set_option maxHeartbeats 4000000
namespace L2
open PySem PySem.Spec PyProof.Rows
/-! ### a body that may raise while the local names stand as at its start -/
section
variable {X : Cx} {CX : CXT} {e : Expr} {te : XK → TE} {pos : Pos}
end
/-! ### o.m(..) that may raise -/
section
variable {X : Cx} {CX : CXT} {k : Nat} {f C : Addr} {fd : FuncData} {ps : List Str} {sp : Sp} {dvs : List V} {ds : List Value} {x m : Str} {p pos apos : Pos} {e o : Expr} {es : List Expr} {ta : TE} {t : TA}
end
/-! ### try: body except C as n: suite -/
section
variable {X : Cx}
end
end L2

set_option Elab.async false
set_option linter.all false
set_option maxRecDepth 100000
set_option maxHeartbeats 4000000
namespace L2
open PySem PySem.Spec PyProof.Rows
/-! ### comprehensions whose target is any one (a tuple of names) -/
theorem cmp_loop2 {prog : Program} {w : World} {A : Around} {R : Result → Shared → Prop} {s : Shared} {elt iter : Expr} {tg : Expr} {ifs : List Expr} {sc : Scope} {pos : Pos} {it acc : Value} {env : Env} (J : Nat → Shared → Prop)
    (one : ∀ k st, J k st → wpAny (model prog w) A (pyNext it) (fun r s₁ => match r with
      | none => R (.ok .next) s₁
      | some v => wpAny (model prog w) A (letOwnedTupleGo tg it v) (fun _ sg => wpAny (model prog w) A (assign tg env v) (fun _ s₂ =>
          wpAny (model prog w) A (cmpTests ifs env) (fun ok s₃ =>
            if ok = true then wpAny (model prog w) A (eval elt env) (fun y s₄ => wpAny (model prog w) A (call (.builtin "list.append") [acc, y]) (fun _ s₅ => ∃ m, m < k ∧ J m s₅) (fun _ _ => False) s₄) (fun _ _ => False) s₃
            else ∃ m, m < k ∧ J m s₃) (fun _ _ => False) s₂) (fun _ _ => False) sg) (fun _ _ => False) s₁) (fun _ _ => False) st)
    (k0 : Nat) (h0 : J k0 s) : codeAny (model prog w) A (.compLoop (.ListComp elt [⟨tg, iter, ifs, 0⟩] sc pos) 0 it acc env) R s := by
  refine codeAny_loop rfl J (fun k st hk => ?_) k0 h0
  show wpAny _ A ((compTurn (.ListComp elt [⟨tg, iter, ifs, 0⟩] sc pos) 0 it acc env).onRaise (fun y => do noteFrame y env; theTreesLotGoes y)) _ _ st
  refine wpAny_noted ?_
  rw [compTurn_list]
  refine wpAny_bind (wpAny_standAt (wpAny_bind (wpAny_mono (one k st hk) (fun r s₁ h₁ => ?_) fun _ _ z => z.elim)))
  cases r with
  | none => exact wpAny_pure h₁
  | some v =>
    refine wpAny_bind (wpAny_mono h₁ (fun _ sg hg => ?_) fun _ _ z => z.elim)
    refine wpAny_bind (wpAny_mono hg (fun _ s₂ h₂ => ?_) fun _ _ z => z.elim)
    refine wpAny_bind (wpAny_mono h₂ (fun ok s₃ h₃ => ?_) fun _ _ z => z.elim)
    cases ok with
    | false => exact wpAny_pure ⟨rfl, h₃⟩
    | true =>
      refine wpAny_bind (wpAny_bind (wpAny_mono h₃ (fun y s₄ h₄ => ?_) fun _ _ z => z.elim))
      exact wpAny_bind (wpAny_mono h₄ (fun _ s₅ h₅ => wpAny_pure (wpAny_pure ⟨rfl, h₅⟩)) fun _ _ z => z.elim)


structure CompSc2 (scX sc : Scope) (NX : List Str) (xs : List Str) (fv : List Str) (js : List Nat) : Prop where
  kind : sc.kind = .function
  kindX : scX.kind = .function
  cell : ∀ y ∈ sc.names, y.2 ≠ .cell
  own : ∀ x ∈ xs, sc.names.lookup x = some .local
  names : ∀ y ∈ sc.names, y.2 = .local → sc.names.lookup y.1 = some .local
  free : ∀ y ∈ sc.names, y.2 = .free → scX.names.lookup y.1 = some .cell
  nd : (xs ++ fv).Nodup
  at' : js.map (fun j => NX[j]?) = fv.map some
  fr : ∀ y ∈ fv, sc.names.lookup y = some .free
noncomputable abbrev xc2 (X : Cx) (sc : Scope) (xs : List Str) (fv : List Str) (C : Addr) (s0 : Shared) (H0 : Hp) (ex : List Addr) : Cx :=
  { X with N := xs ++ fv, s₀ := s0, H₀ := H0, env := compEnvC sc (clOf X.env.cells sc.names []) C X.env, outer := X.stack, ex := ex, fn := fun _ => false, pn := [], xe := fun _ _ => False }
noncomputable def tStep2 (k : Nat) (js : List Nat) (g : TG) (tt : TT) (te : TE) (σ : St) (ys : List V) (N : List V → Hp → Prop) (x : V) (H' : Hp) : Prop :=
  ∀ os : List (Option V), os.length = k → g x (os ++ pick js σ) H' fun σ6 H6 => (∃ os' : List (Option V), os'.length = k ∧ σ6 = os' ++ pick js σ) ∧
    tt σ6 H6 fun b H2 => if b = true then te σ6 H2 fun y H3 => ys.length < sizeLine ∧ N (ys ++ [y]) H3 else N ys H2
noncomputable def tCompB2 (J : It) (k : Nat) (js : List Nat) (g : TG) (tt : TT) (te : TE) : TE := fun σ H1 Q => ∃ W : Nat → Nat → List V → Hp → Prop, (∃ m, W 0 m [] H1) ∧ ∀ i m ys H, W i m ys H →
  (J.stop i H ∧ ∀ p, H p = none → Q (.ref p) (upd H p (.lst ys))) ∨
  (J.go i H ∧ ∃ N : List V → Hp → Prop, (∀ ys' H', N ys' H' → ∃ m', m' < m ∧ W (i + 1) m' ys' H') ∧ ∀ x H', J.yld i H x H' → tStep2 k js g tt te σ ys N x H')
noncomputable def tComp2 (wi : TI) (k : Nat) (js : List Nat) (g : TG) (tt : TT) (te : TE) : TE := fun σ H Q => wi σ H fun J H1 => tCompB2 J k js g tt te σ H1 Q
section
variable {X : Cx} {pins : List (Addr × Obj)} {σ : St} {H2 : Hp} {s2 : Shared} {elt iter tg : Expr} {xs : List Str} {ifs : List Expr} {sc scX : Scope} {pos : Pos} {fv : List Str} {js : List Nat} {g : TG} {tt : TT} {te : TE}

theorem comp_core2 (S : CompSc2 scX sc X.N xs fv js) (hsx : X.env.scope = scX) (hcalm : X.calm = true) (hgg : ∀ C s0 H0 ex, PG (xc2 X sc xs fv C s0 H0 ex) tg g)
    (ht : ∀ C s0 H0 ex, PIf (xc2 X sc xs fv C s0 H0 ex) ifs tt) (he : ∀ C s0 H0 ex, PE (xc2 X sc xs fv C s0 H0 ex) elt te)
    {it : Addr} {fp : List Addr} {tn : Nat → Heap → Prop} {J : It} (I2 : Inv X pins σ H2 s2) (T : Turn X.prog X.w X.K tg J fp it tn) (st2 : tn 0 s2.heap) (f2 : ∀ b ∈ fp, FpOk X pins H2 b)
    {Q : VK} {W : Nat → Nat → List V → Hp → Prop} (w0 : ∃ m, W 0 m [] H2)
    (step : ∀ i m ys H, W i m ys H → (J.stop i H ∧ ∀ p, H p = none → Q (.ref p) (upd H p (.lst ys))) ∨
      (J.go i H ∧ ∃ N : List V → Hp → Prop, (∀ ys' H', N ys' H' → ∃ m', m' < m ∧ W (i + 1) m' ys' H') ∧
        ∀ x H', J.yld i H x H' → tStep2 xs.length js g tt te σ ys N x H'))
    {RR : Value → Addr → Result → Shared → Prop} {E : Value → Shared → Prop}
    (fin : ∀ (D C : Addr) (s' : Shared) (H' : Hp), Inv X pins σ H' s' → Q (.ref D) H' → (∃ m, s'.heap.Ns C m) → FpOk X pins H' C → RR (.ref D) C (.ok .next) s') :
    wpAny (model X.prog X.w) X.A (newList []) (fun acc s₃ => wpAny (model X.prog X.w) X.A (newFunctionEnv sc X.env.globals (clOf X.env.cells sc.names []) [] X.env.qual none .none (some X.env)) (fun cenv s₄ =>
      codeAny (model X.prog X.w) X.A (.compStart (.ListComp elt [⟨tg, iter, ifs, 0⟩] sc pos) 0 (.ref it) acc { cenv with scope := relabel sc X.env }) (RR acc cenv.locals) s₄) E s₃) E s2 := by
  have hfree : ∀ y ∈ sc.names, y.2 = .free → ∃ c, X.env.cells.lookup y.1 = some c := fun y hy hf => I2.ok.has y.1 (.inl (by show X.env.scope.names.lookup y.1 = _; rw [hsx]; exact S.free y hy hf))
  obtain ⟨cl1, _, cl3⟩ := clOf_look (cells := X.env.cells) sc.names [] hfree (fun y c h => by simp at h)
  refine wpAny_newObj_type (wpAny_newFunctionEnv S.cell (by intro y hy; simp at hy) (fun h₁ hns₁ hsb₁ => ?_) S.kind)
  dsimp only at hns₁ hsb₁ ⊢
  generalize hG : s2.heap.push { cls := .type "list", dict := none, data := .seq ([] : List Value).toArray } = G at hns₁ hsb₁ ⊢
  have hGz : G.objs.size = s2.heap.objs.size + 1 := by rw [← hG, Heap.size_push]
  have upG : ∀ b o, s2.heap.get? b = some o → G.get? b = some o := fun b o e => hG ▸ Heap.get?_push_of_some _ e
  have upH : ∀ b o, G.get? b = some o → h₁.get? b = some o := fun b o e => hsb₁.extBut b o (Nat.ne_of_lt (Heap.lt_size e)) (Heap.get?_push_of_some _ e)
  have ltD : ∀ b o, s2.heap.get? b = some o → b ≠ s2.heap.objs.size := fun b o e => Nat.ne_of_lt (Heap.lt_size e)
  have fpo : ∀ b ∈ fp, ∃ o, s2.heap.get? b = some o := fun b hb => by obtain ⟨o, e, _⟩ := T.obj 0 _ st2 b hb; exact ⟨o, e⟩
  have fpD : ∀ b ∈ fp, b ≠ s2.heap.objs.size := fun b hb => by obtain ⟨o, e⟩ := fpo b hb; exact ltD b o e
  have fpC : ∀ b ∈ fp, b ≠ G.objs.size := fun b hb => by obtain ⟨o, e⟩ := fpo b hb; exact Nat.ne_of_lt (Heap.lt_size (upG b o e))
  have cellO : ∀ y c, (clOf X.env.cells sc.names []).lookup y = some c → ∃ v, s2.heap.IsCell c v := fun y c e => I2.cell y c (cl1 y c e)
  have cellD : ∀ y c, (clOf X.env.cells sc.names []).lookup y = some c → c ≠ s2.heap.objs.size := fun y c e => by obtain ⟨v, q⟩ := cellO y c e; exact Nat.ne_of_lt q.lt
  have Dfs : s2.heap.objs.size ∉ frs X.stack := fun hb => by
    rcases List.mem_cons.mp (I2.stkSub _ hb) with z | z
    · exact absurd I2.lt (by rw [← z]; exact Nat.lt_irrefl _)
    · exact I2.nofs (Nat.le_refl _) z
  have fpfs : ∀ b ∈ fp, b ∉ frs X.stack := fun b hb hz => by
    obtain ⟨_, f1, f2', _⟩ := f2 b hb
    rcases List.mem_cons.mp (I2.stkSub _ hz) with z | z
    · exact f1 z
    · exact f2' z
  have HD : H2 s2.heap.objs.size = none := I2.hok.fresh (Nat.le_refl _)
  have HC : H2 G.objs.size = none := I2.hok.fresh (by rw [hGz]; exact Nat.le_succ _)
  have DC : s2.heap.objs.size ≠ G.objs.size := by rw [hGz]; exact Nat.ne_of_lt (Nat.lt_succ_self _)
  -- the block's context is right
  have okC : Cx.Ok (xc2 X sc xs fv G.objs.size { s2 with heap := G } H2 (s2.heap.objs.size :: fp)) := by
    refine ⟨I2.ok.mod, S.kind, I2.ok.glob, I2.ok.blt, Nat.le_refl _, fun y z c h1 h2 => I2.ok.inj y z c (cl1 _ _ h1) (cl1 _ _ h2), fun y hy => ?_, fun y c hfn _ => (by cases hfn), I2.ok.hd, I2.ok.frames, .inl rfl, fun b hb => ?_, fun b o e => ?_, ?_, fun b o e hb => ?_, fun b hb => ?_, ?_, I2.stkFree⟩
    · exact Option.isSome_iff_exists.mp (cl3 y (relabel_back S.cell hy))
    · rcases List.mem_cons.mp hb with z | z
      · subst z; exact ⟨DC, cellD⟩
      · refine ⟨fpC b z, fun y c e => ?_⟩
        obtain ⟨_, _, _, _, f4, _⟩ := f2 b z
        exact f4 y c (cl1 y c e)
    · exact ⟨upG b o (I2.bs b o e).1, (I2.bs b o e).2⟩
    · show X.base.objs.size ≤ G.objs.size
      rw [hGz]; exact Nat.le_succ_of_le (Nat.le_trans I2.ok.bsz I2.sz)
    · rcases List.mem_cons.mp hb with z | z
      · exact ltD b o (I2.bk b o e) z
      · obtain ⟨_, _, _, f3, _⟩ := f2 b z
        rcases f3 with q | q
        · exact I2.ok.noex b o e q
        · exact absurd (Nat.lt_of_lt_of_le (Heap.lt_size e) (Nat.le_trans I2.ok.bsz q)) (Nat.lt_irrefl _)
    · rcases List.mem_cons.mp hb with z | z
      · subst z; exact Dfs
      · exact fpfs b z
    · exact (I2.stack).of_keeps fun b o e _ => ⟨o, upG b o e, rfl⟩
  have lenC : ∀ os : List (Option V), os.length = xs.length → (os ++ pick js σ).length = (xs ++ fv).length := fun os ho => by
    have := congrArg List.length S.at'
    simp only [List.length_map] at this
    simp [pick, this, ho]
  have hacc : h₁.get? s2.heap.objs.size = some { cls := .type "list", dict := none, data := .seq ([] : List Value).toArray } := upH _ _ (hG ▸ Heap.get?_push_size _ rfl)
  have I4 : Inv (xc2 X sc xs fv G.objs.size { s2 with heap := G } H2 (s2.heap.objs.size :: fp)) [(s2.heap.objs.size, { cls := .type "list", dict := none, data := .seq ([] : List Value).toArray })] (xs.map (fun _ => none) ++ pick js σ) H2 { s2 with heap := h₁, toks := s2.toks + ([] : List (Str × Value)).length } := by
    refine ⟨okC, rfl, I2.bare, Un.kept upH, ⟨_, hns₁, fun i y v e1 e2 e3 => ?_⟩, fun y c e => ?_, HC, fun y c e => I2.freeC y c (cl1 y c e), fun p hp => ?_, I2.hok.kept fun b u e => upH b u (upG b u e), lenC _ (by simp)⟩
    · by_cases hix : i < xs.length
      · have : (xs.map (fun _ => (none : Option V)) ++ pick js σ)[i]? = some none := by
          rw [List.getElem?_append_left (by simpa using hix), List.getElem?_map, List.getElem?_eq_getElem hix]; rfl
        rw [this] at e2
        cases e2
      · obtain ⟨i', rfl⟩ : ∃ i', i = xs.length + i' := ⟨i - xs.length, by omega⟩
        have e1' : fv[i']? = some y := by
          have e1a : (xs ++ fv)[xs.length + i']? = some y := e1
          rw [List.getElem?_append_right (by omega), Nat.add_sub_cancel_left] at e1a
          exact e1a
        have e2' : (pick js σ)[i']? = some (some v) := by
          have e2a := e2
          rw [List.getElem?_append_right (by simp), List.length_map, Nat.add_sub_cancel_left] at e2a
          exact e2a
        have q := congrArg (fun l => l[i']?) S.at'
        simp only [List.getElem?_map, e1', Option.map_some] at q
        cases hj : js[i']? with
        | none => rw [hj] at q; cases q
        | some j =>
          rw [hj] at q
          have hj' : X.N[j]? = some y := Option.some.inj q
          unfold pick at e2'
          rw [List.getElem?_map, hj] at e2'
          have e2'' : (σ[j]?).getD none = some v := Option.some.inj e2'
          have e2b : σ[j]? = some (some v) := by
            cases hh : σ[j]? with
            | none => rw [hh] at e2''; cases e2''
            | some o => rw [hh] at e2''; exact congrArg some e2''
          have hm : y ∈ fv := List.mem_of_getElem? e1'
          have hcX : scX.names.lookup y = some .cell := S.free (y, .free) (PySem.mem_of_lookup (S.fr y hm)) rfl
          have kX : X.env.kindOf y = some .cell := by show X.env.scope.names.lookup y = _; rw [hsx]; exact hcX
          obtain ⟨m, hn, hl⟩ := I2.loc
          obtain ⟨u, r, lk⟩ := hl j y v hj' e2b (.inr (.inl kX))
          refine ⟨u, r, ?_⟩
          rcases lk with ⟨k, _⟩ | ⟨_, c, ec, z⟩
          · rw [kX] at k; cases k
          · refine .inr ⟨.inl (relabel_free (by rw [hsx]; exact S.kindX) (S.fr y hm) kX), c, ?_, ?_⟩
            · obtain ⟨c', ec'⟩ := Option.isSome_iff_exists.mp (cl3 y (PySem.mem_of_lookup (S.fr y hm)))
              have := cl1 y c' ec'
              rw [ec] at this; cases this
              exact ec'
            · obtain ⟨o, ho, hd⟩ := z
              exact ⟨o, upH c o (upG c o ho), hd⟩
    · obtain ⟨v, o, ho, hd⟩ := cellO y c e
      exact ⟨v, o, upH c o (upG c o ho), hd⟩
    · have hp' : p = (s2.heap.objs.size, { cls := .type "list", dict := none, data := .seq ([] : List Value).toArray }) := by simpa using hp
      subst hp'
      exact ⟨hacc, HD, DC, Dfs, fun v z => by cases z⟩
  have loop : codeAny (model X.prog X.w) X.A (.compLoop (.ListComp elt [⟨tg, iter, ifs, 0⟩] sc pos) 0 (.ref it) (.ref s2.heap.objs.size) (compEnvC sc (clOf X.env.cells sc.names []) G.objs.size X.env)) (RR (.ref s2.heap.objs.size) G.objs.size) { s2 with heap := h₁, toks := s2.toks + ([] : List (Str × Value)).length } := by
    obtain ⟨m0, w0⟩ := w0
    have fok : ∀ {H' : Hp} {o : Obj}, (∀ b ∈ fp, H' b = none) → ∀ b ∈ fp, FpOk (xc2 X sc xs fv G.objs.size { s2 with heap := G } H2 (s2.heap.objs.size :: fp)) [(s2.heap.objs.size, o)] H' b := fun {H' o} hn b hb => by
      refine ⟨hn b hb, fpC b hb, fpfs b hb, .inl (List.mem_cons_of_mem _ hb), fun y c e => ?_, fun p hp => ?_⟩
      · obtain ⟨_, _, _, _, f4, _⟩ := f2 b hb
        exact f4 y c (cl1 y c e)
      · have hp' : p = (s2.heap.objs.size, o) := by simpa using hp
        subst hp'
        exact (fpD b hb).symm
    refine cmp_loop2 (fun k st => ∃ (i : Nat) (ys : List V) (its : List Value) (n : Nat) (os : List (Option V)) (H' : Hp), os.length = xs.length ∧ Inv (xc2 X sc xs fv G.objs.size { s2 with heap := G } H2 (s2.heap.objs.size :: fp)) [(s2.heap.objs.size, { cls := .type "list", data := .seq its.toArray n })] (os ++ pick js σ) H' st ∧
      Vals ys its ∧ ys.length ≤ sizeLine ∧ tn i st.heap ∧ (∀ b ∈ fp, H' b = none) ∧ W i k ys H') ?_ m0
      ⟨0, [], [], _, xs.map (fun _ => none), H2, by simp, I4, .nil, Nat.zero_le _, T.keep _ _ _ st2 fun b _ o e => upH b o (upG b o e), fun b hb => (f2 b hb).1, w0⟩
    rintro k s3 ⟨i, ys, its, n, os, H3, hos, I3, rv, hz, st3, fr3, w3⟩
    rcases step i k ys H3 w3 with ⟨stop, q⟩ | ⟨go, N, hN, hgo⟩
    · refine thn (T.done (xc2 X sc xs fv G.objs.size { s2 with heap := G } H2 (s2.heap.objs.size :: fp)) rfl rfl rfl hcalm i _ s3 _ H3 _ I3 (fok fr3) st3 stop) fun r s4 hsl39 => ?_
      obtain ⟨hr, I4⟩ := hsl39
      subst hr
      obtain ⟨pD, pn, _, _, _⟩ := I4.pin _ (List.mem_append_right _ List.mem_cons_self)
      have B := I4.base
      have nD : ∀ b o, s2.heap.get? b = some o → b ∉ fp → b ∉ s2.heap.objs.size :: fp := fun b o e hx hm => (List.mem_cons.mp hm).elim (ltD b o e) hx
      have neH : ∀ b u, H2 b = some u → b ≠ s2.heap.objs.size := fun b u e z => by rw [z, HD] at e; cases e
      have JX : Inv X pins σ (upd H3 s2.heap.objs.size (.lst ys)) s4 := by
        refine I2.call' (ch := fp) I4.os ⟨fun b o e hn hb hx => B.keep b o (upG b o e) hn hb (nD b o e hx), fun b o e hn hb hx => B.slot b o (upG b o e) hn hb (nD b o e hx), fun b o e hn hx => ?_, fun b o e hx => B.there b o (upG b o e) (nD b o e hx), fun b xs e => ?_, fun b o u e => ?_, fun b ps e => ?_⟩ (fun b u e => ?_) I4.bare fun b hb => ?_
        · rw [upd_ne (ltD b o e)]; exact B.free b o (upG b o e) hn (nD b o e hx)
        · rw [upd_ne (neH b _ e)]; exact B.tups b xs e
        · rw [upd_ne (neH b _ e)]; exact B.frzs b o u e
        · rw [upd_ne (neH b _ e)]; exact B.tbls b ps e
        · by_cases hb : b = s2.heap.objs.size
          · subst hb
            rw [upd_same] at e; cases e
            exact ⟨hz, its, n, rv, pD⟩
          · rw [upd_ne hb] at e
            exact (I4.hok b u e).stay (fun _ _ _ z => z) (fun c z => by rw [upd_ne (ne_of_none z pn)]; exact z) fun c xs z => by rw [upd_ne (ne_of_none z pn)]; exact z
        · obtain ⟨_, f1, _, f3, f4, f5⟩ := f2 b hb
          exact ⟨f3, f1, f4, f5⟩
      refine fin _ _ s4 _ JX (q _ pn) (by obtain ⟨m, hm, _⟩ := I4.loc; exact ⟨m, hm⟩) (I2.fpOk (by rw [hGz]; exact Nat.le_succ _) ?_)
      rw [upd_ne DC.symm]; exact I4.free
    · refine thn (T.item (xc2 X sc xs fv G.objs.size { s2 with heap := G } H2 (s2.heap.objs.size :: fp)) rfl rfl rfl hcalm i _ s3 _ H3 _ I3 (fok fr3) st3 go) fun r s4 hsl40 => ?_
      obtain ⟨u, hr, h4⟩ := hsl40
      subst hr
      refine thn h4 fun _ s5 hsl41 => ?_
      obtain ⟨y, H5, I5, r5, y5, st5, fr5⟩ := hsl41
      have I5' := I5.pinned (fok fr5) (T.obj _ _ st5)
      refine thn (hgg _ _ _ _ _ s5 _ H5 y u _ I5' r5 (hgo y _ y5 os hos)) fun _ s6 hsl42 => ?_
      obtain ⟨σ6, H6, I6, ⟨os', hos', eσ⟩, q6⟩ := hsl42
      subst eσ
      refine thn (ht _ _ _ _ _ s6 _ _ _ I6 q6) fun b s7 hsl43 => ?_
      obtain ⟨H7, I7, q7⟩ := hsl43
      cases b with
      | false =>
        rw [if_neg Bool.false_ne_true] at q7 ⊢
        obtain ⟨m', hm, w7⟩ := hN ys H7 q7
        exact ⟨m', hm, i + 1, ys, its, n, os', H7, hos', I7.unpinned, rv, hz, T.keep _ _ _ st5 fun b hb o e => (I7.pin (b, o) (List.mem_append_right _ (List.mem_append_right _ (mem_pinsAt hb e)))).1, fun b hb => by
          obtain ⟨o, e, d⟩ := T.obj _ _ st5 b hb
          exact (I7.pin (b, o) (List.mem_append_right _ (List.mem_append_right _ (mem_pinsAt hb e)))).2.1, w7⟩
      | true =>
        rw [if_pos rfl] at q7 ⊢
        refine thn (he _ _ _ _ _ s7 _ H7 _ I7 q7) fun u8 s8 hsl44 => ?_
        obtain ⟨y8, H8, I8, r8, hl8, q8⟩ := hsl44
        obtain ⟨m', hm, w8⟩ := hN _ H8 q8
        obtain ⟨pD, pn, pC, pf, _⟩ := I8.pin _ (List.mem_append_right _ (List.mem_append_left _ List.mem_cons_self))
        refine wpAny_list_append_plain (items := its.toArray) ⟨n, pD⟩ (fun h9 hl9 sb9 => ?_) (by rw [List.size_toArray, ← rv.length]; exact Nat.le_of_lt hl8)
        have pinF : ∀ p ∈ pinsAt fp s5.heap, p ∈ [(s2.heap.objs.size, ({ cls := .type "list", data := .seq its.toArray n } : Obj))] ++ pinsAt fp s5.heap := fun p hp => List.mem_append_right _ hp
        have I8a := I8.pins_of (pins' := pinsAt fp s5.heap) fun p hp => I8.pin p (List.mem_append_right _ (pinF p hp))
        have I9 := I8a.turned (it := s2.heap.objs.size) (h' := h9) (t' := s8.toks) (fun b o hb e => (sb9.2 b hb).trans e) pn DC (.inl List.mem_cons_self) (fun y c e => cellD y c e) fun p hp => fpD p.1 (of_pinsAt (by simpa using hp)).1
        obtain ⟨n9, e9⟩ := hl9
        have e9' : h9.get? s2.heap.objs.size = some { cls := .type "list", data := .seq (its ++ [u8]).toArray n9 } := by
          rw [e9, show (its ++ [u8]).toArray = its.toArray.push u8 by simp]
        refine ⟨m', hm, i + 1, ys ++ [y8], its ++ [u8], n9, os', H8, hos', I9.pins_of fun p hp => ?_, rv.append (.cons r8 .nil), by rw [List.length_append]; exact hl8, T.keep _ _ _ st5 fun b hb o e => (I9.pin (b, o) (List.mem_append_right _ (mem_pinsAt hb e))).1, fun b hb => ?_, w8⟩
        · have hp' : p = (s2.heap.objs.size, { cls := .type "list", data := .seq (its ++ [u8]).toArray n9 }) := by simpa using hp
          subst hp'
          exact ⟨e9', pn, DC, pf, fun v z => by cases z⟩
        · obtain ⟨o, e, d⟩ := T.obj _ _ st5 b hb
          exact (I9.pin (b, o) (List.mem_append_right _ (mem_pinsAt hb e))).2.1
  exact codeAny_compStart_list loop (T.self _ 0 _ _ _ (T.keep _ _ _ st2 fun b _ o e => upH b o (upG b o e)) loop)

theorem pe_comp2 {wi : TI} (scX : Scope) (NX fv : List Str) (js : List Nat) (hNX : X.N = NX) (S : CompSc2 scX sc NX xs fv js) (hsx : X.env.scope = scX) (hcalm : X.calm = true) (hi : PI X tg iter wi) (hgg : ∀ C s0 H0 ex, PG (xc2 X sc xs fv C s0 H0 ex) tg g)
    (ht : ∀ C s0 H0 ex, PIf (xc2 X sc xs fv C s0 H0 ex) ifs tt) (he : ∀ C s0 H0 ex, PE (xc2 X sc xs fv C s0 H0 ex) elt te)
    (hs : ∀ v, foldedSetIterable iter X.env v = pure v := by intro _; rfl) : PE X (.ListComp elt [⟨tg, iter, ifs, 0⟩] sc pos) (tComp2 wi xs.length js g tt te) := by
  intro pins s σ H Q I h
  rw [← hNX] at S
  have hfree : ∀ y ∈ sc.names, y.2 = .free → ∃ c, X.env.cells.lookup y.1 = some c := fun y hy hf => I.ok.has y.1 (.inl (by show X.env.scope.names.lookup y.1 = _; rw [hsx]; exact S.free y hy hf))
  rw [eval_ListComp]
  refine wpAny_comprehension_free (use := none) rfl hs (closure_eq hfree) S.kind S.names (thn (hi pins s σ H _ I h) fun v s1 h1 => thn h1 fun itv s2 h2 => ?_)
  obtain ⟨it, fp, tn, J, H2, e, I2, T, st2, f2, W, w0, step⟩ := h2
  subst e
  refine comp_core2 (RR := fun acc C => compPost (model X.prog X.w) X.A X.xe none (EP X pins σ Q) acc C) S hsx hcalm hgg ht he I2 T st2 f2 w0 step fun D C s' H' I' q hsl45 hC => ?_
  obtain ⟨m, hm⟩ := hsl45
  obtain ⟨f0, f1, _, f3, f4, f5⟩ := hC
  exact ⟨m, hm, fun h' sb => ⟨.ref D, H', I'.turned (t' := s'.toks) (fun b o hb e => (sb.2 b hb).trans e) f0 f1 f3 f4 f5, rfl, q⟩⟩

end
theorem CompSc.two {scX sc : Scope} {NX : List Str} {x : Str} {fv : List Str} {js : List Nat} (S : CompSc scX sc NX x fv js) : CompSc2 scX sc NX [x] fv js :=
  ⟨S.kind, S.kindX, S.cell, fun y hy => by rw [List.mem_singleton.mp hy]; exact S.own, S.names, S.free, S.nd, S.at', S.fr⟩
section
variable {X : Cx} {pins : List (Addr × Obj)} {σ : St} {H2 : Hp} {s2 : Shared} {elt iter : Expr} {x : Str} {px : Pos} {ifs : List Expr} {sc scX : Scope} {pos : Pos} {fv : List Str} {js : List Nat} {tt : TT} {te : TE}
theorem comp_core (S : CompSc scX sc X.N x fv js) (hsx : X.env.scope = scX) (hcalm : X.calm = true)
    (ht : ∀ C s0 H0 ex, PIf (xc X sc x fv C s0 H0 ex) ifs tt) (he : ∀ C s0 H0 ex, PE (xc X sc x fv C s0 H0 ex) elt te)
    {it : Addr} {fp : List Addr} {tn : Nat → Heap → Prop} {J : It} (I2 : Inv X pins σ H2 s2) (T : Turn X.prog X.w X.K (.Name x px) J fp it tn) (st2 : tn 0 s2.heap) (f2 : ∀ b ∈ fp, FpOk X pins H2 b)
    {Q : VK} {W : Nat → Nat → List V → Hp → Prop} (w0 : ∃ m, W 0 m [] H2)
    (step : ∀ i m ys H, W i m ys H → (J.stop i H ∧ ∀ p, H p = none → Q (.ref p) (upd H p (.lst ys))) ∨
      (J.go i H ∧ ∃ N : List V → Hp → Prop, (∀ ys' H', N ys' H' → ∃ m', m' < m ∧ W (i + 1) m' ys' H') ∧
        ∀ x H', J.yld i H x H' → tt (some x :: pick js σ) H' fun b H2 => if b = true then te (some x :: pick js σ) H2 fun y H3 => ys.length < sizeLine ∧ N (ys ++ [y]) H3 else N ys H2))
    {RR : Value → Addr → Result → Shared → Prop} {E : Value → Shared → Prop}
    (fin : ∀ (D C : Addr) (s' : Shared) (H' : Hp), Inv X pins σ H' s' → Q (.ref D) H' → (∃ m, s'.heap.Ns C m) → FpOk X pins H' C → RR (.ref D) C (.ok .next) s') :
    wpAny (model X.prog X.w) X.A (newList []) (fun acc s₃ => wpAny (model X.prog X.w) X.A (newFunctionEnv sc X.env.globals (clOf X.env.cells sc.names []) [] X.env.qual none .none (some X.env)) (fun cenv s₄ =>
      codeAny (model X.prog X.w) X.A (.compStart (.ListComp elt [⟨.Name x px, iter, ifs, 0⟩] sc pos) 0 (.ref it) acc { cenv with scope := relabel sc X.env }) (RR acc cenv.locals) s₄) E s₃) E s2 := by
  refine comp_core2 (xs := [x]) (g := gName 0) (RR := RR) S.two hsx hcalm (fun C s0 H0 ex => pg_name S.nd rfl (.inl (lookup_relabel_local S.own)) (.inr (lookup_relabel_local S.own))) ht he I2 T st2 f2 w0 (fun i m ys H w => ?_) fin
  rcases step i m ys H w with h | ⟨go, N, hN, st⟩
  · exact .inl h
  · refine .inr ⟨go, N, hN, fun y H' hy os hos => ?_⟩
    obtain ⟨o, rfl⟩ := List.length_eq_one_iff.mp hos
    exact ⟨⟨[some y], rfl, rfl⟩, st y H' hy⟩
theorem pe_comp {wi : TI} (scX : Scope) (NX fv : List Str) (js : List Nat) (hNX : X.N = NX) (S : CompSc scX sc NX x fv js) (hsx : X.env.scope = scX) (hcalm : X.calm = true) (hi : PI X (.Name x px) iter wi)
    (ht : ∀ C s0 H0 ex, PIf (xc X sc x fv C s0 H0 ex) ifs tt) (he : ∀ C s0 H0 ex, PE (xc X sc x fv C s0 H0 ex) elt te)
    (hs : ∀ v, foldedSetIterable iter X.env v = pure v := by intro _; rfl) : PE X (.ListComp elt [⟨.Name x px, iter, ifs, 0⟩] sc pos) (tComp wi js tt te) := by
  intro pins s σ H Q I h
  rw [← hNX] at S
  have hfree : ∀ y ∈ sc.names, y.2 = .free → ∃ c, X.env.cells.lookup y.1 = some c := fun y hy hf => I.ok.has y.1 (.inl (by show X.env.scope.names.lookup y.1 = _; rw [hsx]; exact S.free y hy hf))
  rw [eval_ListComp]
  refine wpAny_comprehension_free (use := none) rfl hs (closure_eq hfree) S.kind S.names (thn (hi pins s σ H _ I h) fun v s1 h1 => thn h1 fun itv s2 h2 => ?_)
  obtain ⟨it, fp, tn, J, H2, e, I2, T, st2, f2, W, w0, step⟩ := h2
  subst e
  refine comp_core (RR := fun acc C => compPost (model X.prog X.w) X.A X.xe none (EP X pins σ Q) acc C) S hsx hcalm ht he I2 T st2 f2 w0 step fun D C s' H' I' q hsl46 hC => ?_
  obtain ⟨m, hm⟩ := hsl46
  obtain ⟨f0, f1, _, f3, f4, f5⟩ := hC
  exact ⟨m, hm, fun h' sb => ⟨.ref D, H', I'.turned (t' := s'.toks) (fun b o hb e => (sb.2 b hb).trans e) f0 f1 f3 f4 f5, rfl, q⟩⟩

/-- name = [.. for ..] on one row: the store is within -/
theorem ps_setcomp {wi : TI} {i : Nat} {y : Str} {py spos : Pos} (scX : Scope) (NX fv : List Str) (js : List Nat) (hNX : X.N = NX) (S : CompSc scX sc NX x fv js) (hsx : X.env.scope = scX) (hcalm : X.calm = true) (hi : PI X (.Name x px) iter wi)
    (ht : ∀ C s0 H0 ex, PIf (xc X sc x fv C s0 H0 ex) ifs tt) (he : ∀ C s0 H0 ex, PE (xc X sc x fv C s0 H0 ex) elt te)
    (hN : X.N.Nodup) (hy : X.N[i]? = some y) (hl : X.env.scope.names.lookup y = some .local) (hsw : swapsWith (.ListComp elt [⟨.Name x px, iter, ifs, 0⟩] sc pos) (some (.Name y py)) spos.line X.env = pure true)
    (hs : ∀ v, foldedSetIterable iter X.env v = pure v := by intro _; rfl) : PS X (.Assign [.Name y py] (.ListComp elt [⟨.Name x px, iter, ifs, 0⟩] sc pos) spos) (tAsg (tComp wi js tt te) (gName i)) := by
  intro pins s σ H D I h
  rw [← hNX] at S
  have hfree : ∀ y ∈ sc.names, y.2 = .free → ∃ c, X.env.cells.lookup y.1 = some c := fun y hy hf => I.ok.has y.1 (.inl (by show X.env.scope.names.lookup y.1 = _; rw [hsx]; exact S.free y hy hf))
  rw [exec_Assign_Name_used _ _ _ _ hsw]
  refine wpAny_bind (wpAny_standAt (wpAny_bind ?_))
  show wpAny _ _ (do let _ ← comprehension (.ListComp elt [⟨.Name x px, iter, ifs, 0⟩] sc pos) sc X.env _ (newList []) false (eval iter X.env) (some (assign (.Name y py) X.env))) _ _ s
  refine wpAny_bind (wpAny_mono (wpAny_comprehension_free (use := some (assign (.Name y py) X.env)) (Q := fun _ st => SP X pins D .next st) rfl hs (closure_eq hfree) S.kind S.names
    (thn (hi pins s σ H _ I h) fun v s1 h1 => thn h1 fun itv s2 h2 => ?_)) (fun _ st hq => wpAny_pure (wpAny_pure hq)) fun _ _ e => e)
  obtain ⟨it, fp, tn, J, H2, e, I2, T, st2, f2, W, w0, step⟩ := h2
  subst e
  refine comp_core (Q := fun v H1 => gName i v σ H1 D.nx) (RR := fun acc C => compPost (model X.prog X.w) X.A X.xe (some (assign (.Name y py) X.env)) (fun _ st => SP X pins D .next st) acc C) S hsx hcalm ht he I2 T st2 f2 w0 step fun Dl C s' H' I' q hsl47 hC => ?_
  obtain ⟨m, hm⟩ := hsl47
  obtain ⟨f0, f1, _, f3, f4, f5⟩ := hC
  refine wpAny_assign_Name (store_ok2 I' hN hy (.inl hl) (show RelV (.ref Dl) (.ref Dl) from rfl) (fun s'' I'' hsl48 => ?_) (.inr hl))
  obtain ⟨a, sb, ha⟩ := hsl48
  have aC : C ≠ a := fun z => by
    rcases ha with ha | ha
    · exact f1 (z.trans ha)
    · exact f4 y a ha z.symm
  refine ⟨m, hm.sameBut sb aC, fun h' sb' => ?_⟩
  exact ⟨_, _, I''.turned (t' := s''.toks) (fun b o hb e => (sb'.2 b hb).trans e) f0 f1 f3 f4 f5, q⟩

end
end L2

set_option Elab.async false
set_option linter.all false
set_option maxRecDepth 100000
namespace L2
open PySem PySem.Spec PyProof.Rows
/-! ### lists of pairs as tables -/
section
variable {κ : Type} [DecidableEq κ]
noncomputable def valV (kvs : List (κ × V)) (k : κ) : Option V := (kvs.find? fun kv => decide (kv.1 = k)).map (·.2)
/-- in its place, or at the end -/
noncomputable def putK (kvs : List (κ × V)) (k : κ) (v : V) : List (κ × V) :=
  if (kvs.any fun kv => decide (kv.1 = k)) = true then kvs.map (fun kv => if kv.1 = k then (kv.1, v) else kv) else kvs ++ [(k, v)]
noncomputable def dropK (kvs : List (κ × V)) (k : κ) : List (κ × V) := kvs.filter fun kv => decide (kv.1 ≠ k)

theorem valV_nil {k : κ} : valV ([] : List (κ × V)) k = none := rfl
theorem valV_pos {p : κ × V} {r : List (κ × V)} {k : κ} (e : p.1 = k) : valV (p :: r) k = some p.2 := by simp [valV, List.find?_cons, e]
theorem valV_neg {p : κ × V} {r : List (κ × V)} {k : κ} (e : ¬ p.1 = k) : valV (p :: r) k = valV r k := by simp [valV, List.find?_cons, e]
theorem valV_any (k : κ) : ∀ kvs : List (κ × V), (kvs.any fun kv => decide (kv.1 = k)) = (valV kvs k).isSome
  | [] => rfl
  | p :: r => by
    rw [List.any_cons]
    by_cases e : p.1 = k
    · simp only [valV_pos e, decide_eq_true e, Bool.true_or, Option.isSome_some]
    · rw [valV_neg e, decide_eq_false e, Bool.false_or]; exact valV_any k r
theorem length_putK (kvs : List (κ × V)) (k : κ) (v : V) : (putK kvs k v).length ≤ kvs.length + 1 := by
  unfold putK
  split
  · rw [List.length_map]; omega
  · rw [List.length_append, List.length_cons, List.length_nil]; omega
theorem putK_new {kvs : List (κ × V)} {k : κ} (v : V) (h : valV kvs k = none) : putK kvs k v = kvs ++ [(k, v)] := by
  unfold putK
  rw [valV_any, h]
  exact if_neg (by decide)

theorem RelO.isSome_eq {o : Option V} {u : Option Value} (r : RelO o u) : o.isSome = u.isSome := by
  cases o with
  | none => cases u with
    | none => rfl
    | some _ => exact (show False from r).elim
  | some _ => cases u with
    | none => exact (show False from r).elim
    | some _ => rfl
theorem RelO.getD {o : Option V} {u : Option Value} {d : V} {d' : Value} (r : RelO o u) (rd : RelV d d') : RelV (o.getD d) (u.getD d') := by
  cases o with
  | none => cases u with
    | none => exact rd
    | some _ => exact (show False from r).elim
  | some _ => cases u with
    | none => exact (show False from r).elim
    | some _ => exact r

/-- raw tables of the same keys -/
theorem KV.val {kvs : List (κ × V)} {vs : List (κ × Value)} (r : KV kvs vs) (k : κ) : RelO (valV kvs k) (valueAt vs k) := by
  unfold KV at r
  induction r with
  | nil => exact True.intro
  | @cons p q ps qs h t ih =>
    obtain ⟨h1, h2⟩ := h
    by_cases e : p.1 = k
    · have e' : q.1 = k := h1.symm.trans e
      have b : valueAt (q :: qs) k = some q.2 := by simp [valueAt, List.find?_cons, e']
      rw [valV_pos e, b]; exact h2
    · have e' : ¬ q.1 = k := fun z => e (h1.trans z)
      have b : valueAt (q :: qs) k = valueAt qs k := by simp [valueAt, List.find?_cons, e']
      rw [valV_neg e, b]; exact ih
theorem KV.any {kvs : List (κ × V)} {vs : List (κ × Value)} (r : KV kvs vs) (k : κ) : (kvs.any fun kv => decide (kv.1 = k)) = vs.any fun kv => decide (kv.1 = k) := by
  unfold KV at r
  induction r with
  | nil => rfl
  | cons h t ih => rw [List.any_cons, List.any_cons, ih, h.1]
theorem KV.repl {kvs : List (κ × V)} {vs : List (κ × Value)} (r : KV kvs vs) (k : κ) {y : V} {u : Value} (ry : RelV y u) :
    KV (kvs.map fun kv => if kv.1 = k then (kv.1, y) else kv) (vs.map fun kv => if kv.1 = k then (kv.1, u) else kv) := by
  unfold KV at r ⊢
  induction r with
  | nil => exact .nil
  | @cons p q ps qs h t ih =>
    rw [List.map_cons, List.map_cons]
    refine .cons ?_ ih
    obtain ⟨h1, h2⟩ := h
    by_cases e : p.1 = k
    · rw [if_pos e, if_pos (h1.symm.trans e)]; exact ⟨h1, ry⟩
    · rw [if_neg e, if_neg (fun z => e (h1.trans z))]; exact ⟨h1, h2⟩
theorem KV.put {kvs : List (κ × V)} {vs : List (κ × Value)} (r : KV kvs vs) (k : κ) {y : V} {u : Value} (ry : RelV y u) : KV (putK kvs k y) (stored vs k u) := by
  unfold putK stored
  rw [r.any k]
  by_cases e : (vs.any fun kv => decide (kv.1 = k)) = true
  · rw [if_pos e, if_pos e]; exact r.repl k ry
  · rw [if_neg e, if_neg e]; exact Paired.snoc r ⟨rfl, ry⟩
theorem KV.drop {kvs : List (κ × V)} {vs : List (κ × Value)} (r : KV kvs vs) (k : κ) : KV (dropK kvs k) (without vs k) := by
  unfold KV at r ⊢
  unfold dropK without
  induction r with
  | nil => exact .nil
  | @cons p q ps qs h t ih =>
    obtain ⟨h1, h2⟩ := h
    rw [List.filter_cons, List.filter_cons]
    by_cases e : p.1 = k
    · have a : ¬ decide (p.1 ≠ k) = true := by simp [e]
      have b : ¬ decide (q.1 ≠ k) = true := by simp [h1.symm.trans e]
      rw [if_neg a, if_neg b]; exact ih
    · have e' : ¬ q.1 = k := fun z => e (h1.trans z)
      have a : decide (p.1 ≠ k) = true := by simp [e]
      have b : decide (q.1 ≠ k) = true := by simp [e']
      rw [if_pos a, if_pos b]; exact .cons ⟨h1, h2⟩ ih
theorem KV.keys {kvs : List (κ × V)} {vs : List (κ × Value)} (r : KV kvs vs) : kvs.map (·.1) = vs.map (·.1) := by
  unfold KV at r
  induction r with
  | nil => rfl
  | cons h t ih => rw [List.map_cons, List.map_cons, ih, h.1]
theorem KV.length {kvs : List (κ × V)} {vs : List (κ × Value)} (r : KV kvs vs) : kvs.length = vs.length := Paired.length r
end


/-! ### a tracked dict, its keys ints and texts or tuples of these -/
theorem kV_is {P : Program} {w : World} {k : Key} {u : Value} (r : RelV (kV k) u) : (mixKind P w).is k u = true := by
  cases k with
  | inl i => obtain ⟨t, e⟩ := (show ∃ t, u = Value.int i t from r); subst e; exact mixKind_int P w i t
  | inr x => obtain ⟨t, e⟩ := (show ∃ t, u = Value.str x t from r); subst e; exact mixKind_str P w x t
theorem items_are {P : Program} {w : World} : ∀ {ks : List Key} {us : List Value}, Vals (ks.map kV) us → ItemsAre (mixKind P w) ks us
  | [], _, r => by rw [List.map_nil] at r; cases r; exact .nil
  | k :: ks, _, r => by
    rw [List.map_cons] at r
    cases r with
    | cons h t => exact .cons (kV_is h) (items_are t)

/-- raw entries of a dict with tuple keys -/
noncomputable abbrev KT (H : Hp) : List (List Key × V) → List (List Key × Addr × Value) → Prop := Paired fun p q => p.1 = q.1 ∧ H q.2.1 = some (.tup (p.1.map kV)) ∧ RelV p.2 q.2.2
theorem KT.val {H : Hp} {kvs : List (List Key × V)} {xs : List (List Key × Addr × Value)} (r : KT H kvs xs) (k : List Key) : RelO (valV kvs k) ((atKey xs k).map (·.2)) := by
  induction r with
  | nil => exact True.intro
  | @cons p q ps qs h t ih =>
    obtain ⟨h1, _, h2⟩ := h
    by_cases e : p.1 = k
    · have e' : q.1 = k := h1.symm.trans e
      have b : atKey (q :: qs) k = some q.2 := by simp [atKey, List.find?_cons, e']
      rw [valV_pos e, b]; exact h2
    · have e' : ¬ q.1 = k := fun z => e (h1.trans z)
      have b : atKey (q :: qs) k = atKey qs k := by simp [atKey, List.find?_cons, e']
      rw [valV_neg e, b]; exact ih
theorem KT.repl {H : Hp} {kvs : List (List Key × V)} {xs : List (List Key × Addr × Value)} (r : KT H kvs xs) (k : List Key) {y : V} {u : Value} (ry : RelV y u) :
    KT H (kvs.map fun kv => if kv.1 = k then (kv.1, y) else kv) (xs.map (putAt k u)) := by
  induction r with
  | nil => exact .nil
  | @cons p q ps qs h t ih =>
    rw [List.map_cons, List.map_cons]
    refine .cons ?_ ih
    obtain ⟨h1, h2, h3⟩ := h
    unfold putAt
    by_cases e : p.1 = k
    · rw [if_pos e, if_pos (h1.symm.trans e)]; exact ⟨h1, h2, ry⟩
    · rw [if_neg e, if_neg (fun z => e (h1.trans z))]; exact ⟨h1, h2, h3⟩
theorem KT.put {H : Hp} {kvs : List (List Key × V)} {xs : List (List Key × Addr × Value)} (r : KT H kvs xs) (k : List Key) {b : Addr} {y : V} {u : Value} (hb : H b = some (.tup (k.map kV))) (ry : RelV y u) :
    KT H (putK kvs k y) (storedH xs k b u) := by
  have e : (kvs.any fun kv => decide (kv.1 = k)) = (atKey xs k).isSome := by
    rw [valV_any, (r.val k).isSome_eq, Option.isSome_map]
  unfold putK storedH
  rw [e]
  by_cases q : (atKey xs k).isSome = true
  · rw [if_pos q, if_pos q]; exact r.repl k ry
  · rw [if_neg q, if_neg q]; exact Paired.snoc r ⟨rfl, hb, ry⟩
theorem KT.keeps {H H' : Hp} {kvs : List (List Key × V)} {xs : List (List Key × Addr × Value)} (r : KT H kvs xs) (ht : ∀ b ys, H b = some (.tup ys) → H' b = some (.tup ys)) : KT H' kvs xs :=
  Paired.mapP r fun _ _ z => ⟨z.1, ht _ _ z.2.1, z.2.2⟩

section
variable {P : Program} {w : World} {H : Hp} {h : Heap} {a : Addr}
theorem rd_of {u : HO} (ok : HOk P w H h) (e : Rd H a u) : ObjOk P w H h a u := e.ok ok
theorem dk_rd {kvs : List (Key × V)} (ok : HOk P w H h) (e : Rd H a (.dK kvs)) : kvs.length ≤ sizeLine ∧ (a == sysModules) = false ∧ ∃ vs, KV kvs vs ∧ h.DictOf (mixKind P w) a vs :=
  show ObjOk P w H h a (.dK kvs) from rd_of ok e
theorem dk_of {kvs : List (Key × V)} (ok : HOk P w H h) (e : H a = some (.dK kvs)) : kvs.length ≤ sizeLine ∧ (a == sysModules) = false ∧ ∃ vs, KV kvs vs ∧ h.DictOf (mixKind P w) a vs := dk_rd ok (.inl e)
/-- a tracked tuple of ints and texts is a key -/
theorem key_of {ks : List Key} (ok : HOk P w H h) (e : H a = some (.tup (ks.map kV))) : (tupleKind (mixKind P w)).is h ks a := by
  obtain ⟨_, its, r, o, h1, h2, n, h3⟩ := (show ObjOk P w H h a (.tup (ks.map kV)) from ok a _ e)
  exact ⟨o, its.toArray, n, h1, h2, h3, by simpa using items_are r⟩
theorem dt_rd {kvs : List (List Key × V)} (ok : HOk P w H h) (e : Rd H a (.dT kvs)) : kvs.length ≤ sizeLine ∧ (a == sysModules) = false ∧
    ∃ xs, KT H kvs xs ∧ h.DictOfH (tupleKind (mixKind P w)) a xs := by
  obtain ⟨z, y, xs, r, o, es, ep, h1, h2, h3, h4, h5⟩ := (show ObjOk P w H h a (.dT kvs) from rd_of ok e)
  refine ⟨z, y, xs, r, o, es, ep, h1, h2, h3, h4, fun x hx => ?_, h5⟩
  have all : ∀ {l : List (List Key × V)} {m : List (List Key × Addr × Value)}, KT H l m → ∀ x ∈ m, (tupleKind (mixKind P w)).is h x.1 x.2.1 := by
    intro l m q
    induction q with
    | nil => intro x hx; exact nomatch hx
    | @cons p q ps qs hq t ih =>
      intro x hx
      rcases List.mem_cons.mp hx with e | hx
      · subst e
        exact key_of ok (by rw [← hq.1]; exact hq.2.1)
      · exact ih x hx
  exact all r x hx
theorem dt_of {kvs : List (List Key × V)} (ok : HOk P w H h) (e : H a = some (.dT kvs)) : kvs.length ≤ sizeLine ∧ (a == sysModules) = false ∧
    ∃ xs, KT H kvs xs ∧ h.DictOfH (tupleKind (mixKind P w)) a xs := dt_rd ok (.inl e)
end

/-- what the dict at a holds at the key y -/
noncomputable def DGet (H : Hp) (a : Addr) (y : V) (r : Option V) : Prop :=
  (∃ kvs k, Rd H a (.dK kvs) ∧ y = kV k ∧ r = valV kvs k) ∨ ∃ kvs k b, Rd H a (.dT kvs) ∧ y = .ref b ∧ H b = some (.tup (k.map kV)) ∧ r = valV kvs k
/-- the heap behind a[y] = v -/
noncomputable def DPut (H : Hp) (a : Addr) (y v : V) (H' : Hp) : Prop :=
  (∃ kvs k, H a = some (.dK kvs) ∧ y = kV k ∧ kvs.length < sizeLine ∧ H' = upd H a (.dK (putK kvs k v))) ∨
  ∃ kvs k b, H a = some (.dT kvs) ∧ y = .ref b ∧ H b = some (.tup (k.map kV)) ∧ kvs.length < sizeLine ∧ H' = upd H a (.dT (putK kvs k v))
theorem DGet.k {H : Hp} {a : Addr} {kvs : List (Key × V)} {k : Key} (e : H a = some (.dK kvs)) : DGet H a (kV k) (valV kvs k) := .inl ⟨kvs, k, .inl e, rfl, rfl⟩
theorem DGet.t {H : Hp} {a b : Addr} {kvs : List (List Key × V)} {k : List Key} (e : H a = some (.dT kvs)) (eb : H b = some (.tup (k.map kV))) : DGet H a (.ref b) (valV kvs k) := .inr ⟨kvs, k, b, .inl e, rfl, eb, rfl⟩
theorem DPut.k {H : Hp} {a : Addr} {kvs : List (Key × V)} {k : Key} {v : V} (e : H a = some (.dK kvs)) (hl : kvs.length < sizeLine) : DPut H a (kV k) v (upd H a (.dK (putK kvs k v))) := .inl ⟨kvs, k, e, rfl, hl, rfl⟩
theorem DPut.t {H : Hp} {a b : Addr} {kvs : List (List Key × V)} {k : List Key} {v : V} (e : H a = some (.dT kvs)) (eb : H b = some (.tup (k.map kV))) (hl : kvs.length < sizeLine) :
    DPut H a (.ref b) v (upd H a (.dT (putK kvs k v))) := .inr ⟨kvs, k, b, e, rfl, eb, hl, rfl⟩


section
variable {X : Cx} {pins : List (Addr × Obj)} {σ : St} {H : Hp} {s : Shared} {a : Addr} {y v : V} {u r : Value} {o : Option V} {A : Around} {E : Value → Shared → Prop}

theorem Inv.big (I : Inv X pins σ H s) : sysModules < s.heap.objs.size := by
  have h : mainGlobals < s.heap.objs.size := (I.mod.glob.keeps I.bk).lt
  exact Nat.lt_trans (by decide) h

/-- d[y], there -/
theorem d_getItem {Q : Value → Shared → Prop} (hu : A.units + 1 < cLine) (I : Inv X pins σ H s) (g : DGet H a y (some v)) (ry : RelV y u) (h : ∀ w' s', Inv X pins σ H s' → RelV v w' → Q w' s') :
    wpAny (model X.prog X.w) A (getItem (.ref a) u) Q E s := by
  rcases g with ⟨kvs, k, e, ey, l⟩ | ⟨kvs, k, b, e, ey, eb, l⟩
  · subst ey
    obtain ⟨z, hd, vs, rel, dd⟩ := dk_rd I.hok e
    obtain ⟨w', hw, rw'⟩ := RelO.some_of (v := v) (o := valueAt vs k) (by rw [l]; exact rel.val k)
    exact wpAny_getItem_of (kV_is ry) dd.mapOf hw (h w' _ (I.tok _) rw')
  · subst ey
    cases (show u = Value.ref b from ry)
    obtain ⟨z, hd, xs, rel, dd⟩ := dt_rd I.hok e
    obtain ⟨w', hw, rw'⟩ := RelO.some_of (v := v) (o := (atKey xs k).map (·.2)) (by rw [l]; exact rel.val k)
    obtain ⟨p, hp, hp2⟩ := Option.map_eq_some_iff.mp hw
    refine wpAny_getItem_heap (tupleKind_room_in1 hu) (key_of I.hok eb) dd hp ?_
    rw [hp2]
    exact h w' _ (I.tok _) rw'
/-- a dict's object is replaced -/
theorem d_write {h' : Heap} {t' : Nat} {ob : HO} (I : Inv X pins σ H s) (mu : Mut (H a)) (hs : Heap.SameBut a s.heap h') (he : ∃ q, h'.get? a = some q) (new : ObjOk X.prog X.w (upd H a ob) h' a ob) :
    Inv X pins σ (upd H a ob) { s with heap := h', toks := t' } :=
  I.write (x := a) (e := a) mu (.inl rfl) (fun b q hb z => (hs.2 b hb).trans z) he new
theorem dk_new {P : Program} {w : World} {H' : Hp} {h' : Heap} {kvs : List (Key × V)} {vs : List (Key × Value)} (z : kvs.length ≤ sizeLine) (hd : (a == sysModules) = false) (rel : KV kvs vs) (dd : h'.DictOf (mixKind P w) a vs) :
    ObjOk P w H' h' a (.dK kvs) := ⟨z, hd, vs, rel, dd⟩
/-- d[y] = v -/
theorem d_setItem {H' : Hp} {Q : Unit → Shared → Prop} (hu : A.units + 1 < cLine) (I : Inv X pins σ H s) (g : DPut H a y v H') (ry : RelV y u) (rv : RelV v r) (h : ∀ s', Inv X pins σ H' s' → Q () s') :
    wpAny (model X.prog X.w) A (setItem (.ref a) u r) Q E s := by
  rcases g with ⟨kvs, k, e, ey, l, eH⟩ | ⟨kvs, k, b, e, ey, eb, l, eH⟩
  · subst ey eH
    obtain ⟨z, hd, vs, rel, dd⟩ := dk_of I.hok e
    have hz : vs.length ≤ sizeLine := by rw [← rel.length]; exact z
    have hl : (putK kvs k v).length ≤ sizeLine := by have := length_putK kvs k v; omega
    refine wpAny_setItem_pairs (hsz := hz) (kV_is ry) dd fun h' dd' hs => h _ ?_
    have he : ∃ q, h'.get? a = some q := by obtain ⟨q, _, _, hq, _⟩ := dd'; exact ⟨q, hq⟩
    exact d_write I (by rw [e]; exact True.intro) hs he (dk_new hl hd (rel.put k rv) dd')
  · subst ey eH
    cases (show u = Value.ref b from ry)
    obtain ⟨z, hd, xs, rel, dd⟩ := dt_of I.hok e
    have hz : xs.length ≤ sizeLine := by rw [← Paired.length rel]; exact z
    have hl : (putK kvs k v).length ≤ sizeLine := by have := length_putK kvs k v; omega
    refine wpAny_setItem_heap (hsz := hz) (tupleKind_room_in1 hu) (key_of I.hok eb) dd fun h' dd' hs => h _ ?_
    obtain ⟨q, es, ep, hq, h2, h3, h4, _, h5⟩ := dd'
    refine d_write I (by rw [e]; exact True.intro) hs ⟨q, hq⟩ ⟨hl, hd, _, (rel.put k eb rv).keeps fun c ys ec => ?_, q, es, ep, hq, h2, h3, h4, h5⟩
    rw [upd_ne (ne_of ec e (fun z => nomatch z))]
    exact ec
end

section
variable {X : Cx} {pins : List (Addr × Obj)} {σ : St} {H : Hp} {s : Shared} {a : Addr} {kvs : List (Key × V)} {k : Key} {u : Value} {A : Around} {E : Value → Shared → Prop}
end


/-! ### readings and rules -/
/-- the element of a subscription, not a slice -/
noncomputable def NoSl (i : Expr) : Prop := ∀ ov iv, subscripted i false ov iv = operate [ov, iv] (getItem ov iv)
theorem subD_of {prog : Program} {w : World} {A : Around} {E : Value → Shared → Prop} {s : Shared} {env : Env} {value slice : Expr} {pos : Pos} {T id : String} {Q : Value → Shared → Prop}
    (hl : typeLookup (.type T) "__getitem__" = pure (some (.builtin id))) (hs : NoSl slice)
    (h : wpAny (model prog w) A (eval value env) (fun o s₁ => wpAny (model prog w) A (eval slice env) (fun i s₂ => s₂.TypeIs o T ∧ wpAny (model prog w) A (getItem o i) Q E s₂) E s₁) E s) :
    wpAny (model prog w) A (eval (.Subscript value slice pos) env) Q E s := by
  refine Subscript_ (wpAny_mono h (fun o s₁ h₁ => wpAny_mono h₁ (fun i s₂ h₂ => ?_) fun _ _ x => x) fun _ _ x => x)
  obtain ⟨hT, h₂⟩ := h₂
  unfold subscriptTail
  refine wpAny_bind ?_
  rw [getitemInPython_of_ne hT.not_modules]
  refine wpAny_bind (wpAny_specialOf hT hl ?_)
  have fin : wpAny (model prog w) A (subscripted slice false o i) (fun r s₃ => wpAny (model prog w) A (letTemporaryGo value o r >>= fun _ => pure r) Q E s₃) E s₂ := by
    rw [hs o i]
    exact wpAny_operating (wpAny_mono h₂ (fun r s₃ h₃ => wpAny_bind (wpAny_letTemporaryGo (wpAny_pure h₃))) fun _ _ x => x)
  first
    | exact wpAny_pure (wpAny_bind fin)
    | exact wpAny_bind (wpAny_pure (wpAny_bind fin))
    | exact wpAny_bind fin

theorem dict_typeIs {X : Cx} {pins : List (Addr × Obj)} {σ : St} {H : Hp} {s : Shared} {a : Addr} {y : V} {o : Option V} (I : Inv X pins σ H s) (g : DGet H a y o) : s.TypeIs (.ref a) "dict" := by
  rcases g with ⟨kvs, k, e, _, _⟩ | ⟨kvs, k, b, e, _, _, _⟩
  · obtain ⟨_, _, vs, _, dd⟩ := dk_rd I.hok e
    exact dd.typeIs
  · obtain ⟨_, _, xs, _, dd⟩ := dt_rd I.hok e
    exact dd.typeIs
/-- d[y] -/
noncomputable def tDGet (td ty : TE) : TE := fun σ H Q => td σ H fun x H1 => ty σ H1 fun y H2 => ∃ a v, x = .ref a ∧ DGet H2 a y (some v) ∧ Q v H2
/-- d[y] = v -/
noncomputable def sDPut (td ty tv : TE) : TS := fun D σ H => tv σ H fun v H1 => td σ H1 fun x H2 => ty σ H2 fun y H3 => ∃ a H4, x = .ref a ∧ DPut H3 a y v H4 ∧ D.nx σ H4
section
variable {X : Cx} {o i e value : Expr} {pos pos' tpos : Pos} {td ty tv : TE}
theorem pe_dget (hu : X.A.units + 1 < cLine) (ho : PE X o td) (hi : PE X i ty) (hs : NoSl i) : PE X (.Subscript o i pos) (tDGet td ty) := by
  intro pins s σ H Q I h
  refine subD_of PySem.F.slot_dict_getitem.lookup hs (thn (ho pins s σ H _ I h) fun u s1 ⟨x, H1, I1, rx, q1⟩ => thn (hi pins s1 σ H1 _ I1 q1) fun iv s2 hsl49 => ?_)
  obtain ⟨y, H2, I2, ry, a, v, ex, g, q2⟩ := hsl49
  subst ex
  obtain rfl : u = Value.ref a := rx
  exact ⟨dict_typeIs I2 g, d_getItem hu I2 g ry fun w' s3 I3 rw' => ⟨v, H2, I3, rw', q2⟩⟩
theorem ps_dput (hu : X.A.units + 1 < cLine) (ho : PE X o td) (hi : PE X i ty) (hv : PE X value tv) (hs : swapsWith value (some (.Subscript o i pos')) pos.line X.env = pure false) :
    PS X (.Assign [.Subscript o i pos'] value pos) (sDPut td ty tv) := by
  intro pins s σ H D I h
  refine wpAny_Assign_Subscript (thn (hv pins s σ H _ I h) fun r s1 ⟨v, H1, I1, rv, q1⟩ => thn (ho pins s1 σ H1 _ I1 q1) fun u s2 ⟨x, H2, I2, rx, q2⟩ => thn (hi pins s2 σ H2 _ I2 q2) fun iv s3 hsl50 => ?_) hs
  obtain ⟨y, H3, I3, ry, a, H4, ex, g, q3⟩ := hsl50
  subst ex
  obtain rfl : u = Value.ref a := rx
  exact d_setItem hu I3 g ry rv fun s4 I4 => ⟨σ, H4, I4, q3⟩
end


/-! ### displays -/
theorem dk_empty {P : Program} {w : World} {H : Hp} (h : Heap) (hb : sysModules < h.objs.size) : ObjOk P w H (h.push { cls := .type "dict", data := .dict #[] }) h.objs.size (.dK []) :=
  ⟨Nat.zero_le _, beq_eq_false_iff_ne.mpr (Ne.symm (Nat.ne_of_lt hb)), [], .nil, Heap.DictOf.new h⟩
section
variable {X : Cx} {pos : Pos}
end

/-- the pairs of a display, from the left -/
noncomputable def tPairs : List (TE × TE) → St → Hp → (List (V × V) → Hp → Prop) → Prop
  | [], _, H, Q => Q [] H
  | (tk, tv) :: r, σ, H, Q => tk σ H fun x H1 => tv σ H1 fun y H2 => tPairs r σ H2 fun ps H3 => Q ((x, y) :: ps) H3
noncomputable abbrev VV : List (V × V) → List (Value × Value) → Prop := Paired fun p q => RelV p.1 q.1 ∧ RelV p.2 q.2
noncomputable def PPs (X : Cx) (pos : Pos) (keys : List (Option Expr)) (values : List Expr) (trs : List (TE × TE)) : Prop :=
  ∀ (pins : List (Addr × Obj)) (s : Shared) (σ : St) (H : Hp) (Q : List (V × V) → Hp → Prop), Inv X pins σ H s → tPairs trs σ H Q →
    wpAny (model X.prog X.w) X.A (evalPairs (pairTrees keys values X.env pos)) (fun vs s' => ∃ ps H', Inv X pins σ H' s' ∧ VV ps vs ∧ Q ps H') X.xe s
theorem pps_nil {X : Cx} {pos : Pos} : PPs X pos [] [] [] := fun pins s σ H Q I h => pairTrees_nil_walk ⟨[], H, I, .nil, h⟩
theorem pps_cons {X : Cx} {pos : Pos} {k v : Expr} {ks : List (Option Expr)} {vs : List Expr} {tk tv : TE} {trs : List (TE × TE)} (hk : PE X k tk) (hv : PE X v tv) (hr : PPs X pos ks vs trs) :
    PPs X pos (some k :: ks) (v :: vs) ((tk, tv) :: trs) := fun pins s σ H Q I h =>
  pairTrees_cons_walk (thn (hk pins s σ H _ I h) fun u s1 ⟨x, H1, I1, rx, q1⟩ => thn (hv pins s1 σ H1 _ I1 q1) fun w2 s2 ⟨y, H2, I2, ry, q2⟩ =>
    thn (hr pins s2 σ H2 _ I2 q2) fun ws s3 hsl51 => by obtain ⟨ps, H3, I3, rel, q3⟩ := hsl51; exact ⟨(x, y) :: ps, H3, I3, .cons ⟨rx, ry⟩ rel, q3⟩)

noncomputable def mergeK (kvs more : List (Key × V)) : List (Key × V) := more.foldl (fun acc kv => putK acc kv.1 kv.2) kvs
theorem KV.merge : ∀ {more : List (Key × V)} {rs : List (Key × Value)} {kvs : List (Key × V)} {vs : List (Key × Value)}, KV more rs → KV kvs vs → KV (mergeK kvs more) (merged vs rs) := by
  intro more rs kvs vs r
  unfold KV at r
  induction r generalizing kvs vs with
  | nil => intro q; exact q
  | @cons p q ps qs h t ih =>
    intro r0
    have e : KV (putK kvs p.1 p.2) (stored vs q.1 q.2) := by
      have := r0.put p.1 h.2
      rw [← h.1]; exact this
    exact ih e
theorem length_mergeK : ∀ (more kvs : List (Key × V)), (mergeK kvs more).length ≤ kvs.length + more.length
  | [], kvs => by show kvs.length ≤ kvs.length + 0; omega
  | p :: r, kvs => by
    have h1 := length_mergeK r (putK kvs p.1 p.2)
    have h2 := length_putK kvs p.1 p.2
    show (mergeK (putK kvs p.1 p.2) r).length ≤ _
    rw [List.length_cons]; omega
theorem carries_of {P : Program} {w : World} : ∀ {kvs : List (Key × V)} {ws : List (Value × Value)}, VV (kvs.map fun kv => (kV kv.1, kv.2)) ws → ∃ rs, Carries (mixKind P w) ws rs ∧ KV kvs rs
  | [], _, r => by rw [List.map_nil] at r; cases r; exact ⟨[], True.intro, .nil⟩
  | p :: kvs, _, r => by
    rw [List.map_cons] at r
    cases r with
    | @cons a b as bs h t =>
      obtain ⟨rs, c, q⟩ := carries_of (P := P) (w := w) t
      obtain ⟨b1, b2⟩ := b
      exact ⟨(p.1, b2) :: rs, ⟨kV_is h.1, rfl, c⟩, .cons ⟨rfl, h.2⟩ q⟩
/-- {k: v, ..} with keys ints and texts; the new dict stands empty while the pairs are made -/
noncomputable def tDisp (trs : List (TE × TE)) : TE := fun σ H Q => ∀ p, H p = none → tPairs trs σ (upd H p (.dK [])) fun ps H2 => H2 p = some (.dK []) ∧ ∃ kvs : List (Key × V), ps = kvs.map (fun kv => (kV kv.1, kv.2)) ∧ kvs.length ≤ 15 ∧ Q (.ref p) (upd H2 p (.dK (mergeK [] kvs)))
theorem pe_disp {X : Cx} {pos : Pos} {keys : List (Option Expr)} {values : List Expr} {trs : List (TE × TE)} (h : PPs X pos keys values trs) (hall : keys.all (·.isSome) = true) (hl : keys.length = values.length) (h0 : keys ≠ [])
    (h15 : keys.length ≤ 15) : PE X (.Dict keys values pos) (tDisp trs) := by
  intro pins s σ H Q I q
  have hn := I.hok.fresh (Nat.le_refl s.heap.objs.size)
  have I1 := I.laid (a := s.heap.objs.size) (o := .dK []) (h' := s.heap.push { cls := .type "dict", data := .dict #[] }) (t' := s.toks) (fun _ _ q => Heap.get?_push_of_some _ q) (Nat.le_refl _) (dk_empty s.heap I.big)
  refine wpAny_Dict_walk (knd := mixKind X.prog X.w) hall hl h0 h15 (thn (h pins _ σ _ _ I1 (q _ hn)) fun ws s2 hsl52 => ?_)
  obtain ⟨ps, H2, I2, rel, e, kvs, ep, lk, q2⟩ := hsl52
  subst ep
  obtain ⟨rs, c, rk⟩ := carries_of (P := X.prog) (w := X.w) rel
  obtain ⟨z, hd, vs0, r0, dd⟩ := dk_of I2.hok e
  cases r0
  refine ⟨rs, c, dd, fun h' dd' hs => ⟨.ref s.heap.objs.size, _, ?_, rfl, q2⟩⟩
  have hz : (mergeK [] kvs).length ≤ sizeLine := by
    have h1 := length_mergeK kvs []
    rw [List.length_nil] at h1
    rw [sizeLine_eq]; omega
  have he : ∃ q, h'.get? s.heap.objs.size = some q := by obtain ⟨q, _, _, hq, _⟩ := dd'; exact ⟨q, hq⟩
  exact d_write I2 (by rw [e]; exact True.intro) hs he (dk_new hz hd (rk.merge .nil) dd')


/-! ### methods -/
/-- a method call o.m(e) of a built-in, with one argument: what must be seen of the text -/
structure M1 (X : Cx) (o : Expr) (m : Str) (apos : Pos) (e : Expr) (cpos : Pos) : Prop where
  base : attributeBase o m X.env (eval o X.env) = eval o X.env
  few : ((backTo cpos (starEach [e] X.env)).all (fun x => !x.1) && (backToKw cpos (keywordEach [] X.env)).all (fun x => x.1.isSome)
    && decide (([e] : List Expr).length + ([] : List Keyword).length + (if ([] : List Keyword).isEmpty then 0 else 1) < 30)) = true
  line : (apos.endLine == cpos.line) = true
  trees : backTo cpos (starEach [e] X.env) = [(false, eval e X.env)]
structure M2 (X : Cx) (o : Expr) (m : Str) (apos : Pos) (e f : Expr) (cpos : Pos) : Prop where
  base : attributeBase o m X.env (eval o X.env) = eval o X.env
  few : ((backTo cpos (starEach [e, f] X.env)).all (fun x => !x.1) && (backToKw cpos (keywordEach [] X.env)).all (fun x => x.1.isSome)
    && decide (([e, f] : List Expr).length + ([] : List Keyword).length + (if ([] : List Keyword).isEmpty then 0 else 1) < 30)) = true
  line : (apos.endLine == cpos.line) = true
  trees : backTo cpos (starEach [e, f] X.env) = [(false, eval e X.env), (false, eval f X.env)]

section
variable {X : Cx} {pins : List (Addr × Obj)} {σ : St} {H : Hp} {s : Shared} {a : Addr} {y d : V} {u r : Value} {o : Option V} {A : Around} {E : Value → Shared → Prop}
end

section
variable {X : Cx} {o e f : Expr} {apos cpos : Pos} {td ty tx : TE}
end

/-! ### dict(d): a copy -/
section
variable {X : Cx} {pins : List (Addr × Obj)} {σ : St} {H : Hp} {s : Shared} {a : Addr} {kvs : List (Key × V)} {A : Around} {E : Value → Shared → Prop}
end


section
variable {X : Cx} {pins : List (Addr × Obj)} {σ : St} {H : Hp} {s : Shared} {a : Addr} {y : V} {u : Value} {A : Around} {E : Value → Shared → Prop}
end
end L2
namespace L2
open PySem PySem.Spec PyProof.Rows
section
variable {X : Cx}
end
/-! ### a dict's pairs: keys that differ -/
section
variable {κ : Type} [DecidableEq κ]
end
end L2

set_option linter.all false
namespace Mm
open PySem
/-! the settings of a mask -/
noncomputable def setsOf (m N : Nat) : List Nat := (List.range N).filter fun s => m.testBit s
theorem high_bit {m B s : Nat} (h : m < 2 ^ B) (hs : B ≤ s) : m.testBit s = false := Nat.testBit_lt_two_pow (Nat.lt_of_lt_of_le h (Nat.pow_le_pow_right (by decide) hs))
theorem sets_ext {m B N : Nat} (h : m < 2 ^ B) (hB : B ≤ N) : setsOf m B = setsOf m N := by
  obtain ⟨d, rfl⟩ : ∃ d, N = B + d := ⟨N - B, by omega⟩
  unfold setsOf
  rw [List.range_add, List.filter_append]
  have : ((List.range d).map (B + ·)).filter (fun s => m.testBit s) = [] := by
    rw [List.filter_eq_nil_iff]
    intro a ha
    obtain ⟨b, _, rfl⟩ := List.mem_map.mp ha
    rw [high_bit h (by omega)]
    simp
  rw [this, List.append_nil]
theorem sets_lt {m N s : Nat} (h : s ∈ setsOf m N) : s < N := by
  have := (List.mem_filter.mp h).1
  simpa using this
theorem sets_len (m N : Nat) : (setsOf m N).length ≤ N := by
  have := List.length_filter_le (fun s => m.testBit s) (List.range N)
  simpa [setsOf] using this
theorem bits_self (m : Nat) : m < 2 ^ Builtin.Int.intBits (m : Int) := by
  have := (intBits_le_iff (m := Builtin.Int.intBits (m : Int)) (x := (m : Int))).mp (Nat.le_refl _)
  simpa using this
end Mm

set_option Elab.async false
set_option linter.all false
set_option maxRecDepth 100000
namespace Mm
open PySem L2
/-! a wood's masks and numbers -/
noncomputable def insM (M : List Nat) (m : Nat) : List Nat := if m ∈ M then M else M ++ [m]
noncomputable def wkf (M : List Nat) (k : Nat) : List (Key × V) := (M.zipIdx k).map fun p => (Sum.inl (p.1 : Int), V.int ((p.2 : Nat) : Int))
noncomputable def wkv (M : List Nat) : List (Key × V) := wkf M 0
theorem insM_mem {M : List Nat} {m : Nat} (h : m ∈ M) : insM M m = M := if_pos h
theorem insM_new {M : List Nat} {m : Nat} (h : m ∉ M) : insM M m = M ++ [m] := if_neg h
theorem insM_nd {M : List Nat} {m : Nat} (nd : M.Nodup) : (insM M m).Nodup := by
  by_cases h : m ∈ M
  · rw [insM_mem h]; exact nd
  · rw [insM_new h]
    exact List.nodup_append.mpr ⟨nd, by simp, fun a ha b hb => by
      have : b = m := by simpa using hb
      subst this
      exact fun e => h (e ▸ ha)⟩
theorem insM_keep {M : List Nat} {m i k : Nat} (h : M[i]? = some k) : (insM M m)[i]? = some k := by
  unfold insM
  split
  · exact h
  · rw [List.getElem?_append_left (List.getElem?_eq_some_iff.mp h).1]; exact h
theorem insM_all {M : List Nat} {m : Nat} {p : Nat → Prop} (h : ∀ x ∈ M, p x) (hm : p m) : ∀ x ∈ insM M m, p x := fun x hx => by
  unfold insM at hx
  split at hx
  · exact h x hx
  · rcases List.mem_append.mp hx with e | e
    · exact h x e
    · have : x = m := by simpa using e
      rw [this]; exact hm
/-- what a wood's masks are -/
structure Gd (n : Nat) (M : List Nat) : Prop where
  nd : M.Nodup
  lt : ∀ m ∈ M, m < 2 ^ 2 ^ n
  z : M[0]? = some 0
  f : M[1]? = some (2 ^ 2 ^ n - 1)
theorem Gd.ins {n : Nat} {M : List Nat} {m : Nat} (g : Gd n M) (h : m < 2 ^ 2 ^ n) : Gd n (insM M m) := ⟨insM_nd g.nd, insM_all g.lt h, insM_keep g.z, insM_keep g.f⟩
theorem full_pos (n : Nat) : 0 < 2 ^ 2 ^ n - 1 := by
  have h1 : 0 < 2 ^ n := Nat.two_pow_pos n
  have h2 : 2 ^ 1 ≤ 2 ^ 2 ^ n := Nat.pow_le_pow_right (by decide) h1
  omega
theorem Gd.new (n : Nat) : Gd n [0, 2 ^ 2 ^ n - 1] := ⟨by
  have := full_pos n
  rw [List.nodup_cons]
  exact ⟨fun h => by
    have : 0 = 2 ^ 2 ^ n - 1 := by simpa using h
    omega, by simp⟩, fun m hm => by
  have := full_pos n
  have : m = 0 ∨ m = 2 ^ 2 ^ n - 1 := by simpa using hm
  omega, rfl, rfl⟩
theorem Gd.get {n : Nat} {M : List Nat} {m i : Nat} (g : Gd n M) (h : M[i]? = some m) : m < 2 ^ 2 ^ n := g.lt m (List.mem_of_getElem? h)
noncomputable def wfl (n : Nat) (l d : Addr) : List (Str × V) := [("n", .int (n : Nat)), ("masks", .ref l), ("numbers", .ref d)]
/-- the wood at o -/
structure Wd (C : Addr) (H : Hp) (o dx l d : Addr) (n : Nat) (M : List Nat) : Prop where
  ins : H o = some (.ins C dx (wfl n l d))
  lst : H l = some (.lst (M.map fun x => V.int ((x : Nat) : Int)))
  dic : H d = some (.dK (wkv M))
  gd : Gd n M
theorem Wd.od {C : Addr} {H : Hp} {o dx l d : Addr} {n : Nat} {M : List Nat} (W : Wd C H o dx l d n M) : o ≠ l ∧ o ≠ d ∧ l ≠ d := ⟨ne_of W.ins W.lst (by intro z; cases z), ne_of W.ins W.dic (by intro z; cases z), ne_of W.lst W.dic (by intro z; cases z)⟩
/-- all but two addresses stay -/
noncomputable def But (l d : Addr) (H H' : Hp) : Prop := ∀ b u, H b = some u → b ≠ l → b ≠ d → H' b = some u
theorem But.refl (l d : Addr) (H : Hp) : But l d H H := fun _ _ h _ _ => h
theorem But.of {l d : Addr} {H H' : Hp} (h : Same H H') : But l d H H' := fun b u e _ _ => h b u e
theorem But.trans {l d : Addr} {H H1 H2 : Hp} (a : But l d H H1) (b : But l d H1 H2) : But l d H H2 := fun c u h h1 h2 => b c u (a c u h h1 h2) h1 h2
theorem Wd.stay {C : Addr} {H H' : Hp} {o dx l d : Addr} {n : Nat} {M : List Nat} (W : Wd C H o dx l d n M) (h : Same H H') : Wd C H' o dx l d n M := ⟨h _ _ W.ins, h _ _ W.lst, h _ _ W.dic, W.gd⟩
theorem Wd.but {C : Addr} {H H' : Hp} {o dx l d l2 d2 : Addr} {n : Nat} {M : List Nat} (W : Wd C H o dx l d n M) (h : But l2 d2 H H') (h1 : o ≠ l2 ∧ o ≠ d2) (h2 : l ≠ l2 ∧ l ≠ d2) (h3 : d ≠ l2 ∧ d ≠ d2) : Wd C H' o dx l d n M :=
  ⟨h _ _ W.ins h1.1 h1.2, h _ _ W.lst h2.1 h2.2, h _ _ W.dic h3.1 h3.2, W.gd⟩
/-! counting -/
theorem ix_tupK {X : Cx} {K : PySem.W.Frag} (h : X.K = K) : IxR X (rIxT K) := by subst h; exact ix_tup
theorem bt_max : bootBuiltins "max" = some (.builtin "max") := by decide +kernel
theorem pe_bmK {X : Cx} {K : PySem.W.Frag} {o e : Expr} {es : List Expr} {to : TE} {t : TA} {name : Str} {apos cpos : Pos} {T id : String} {r : V → List V → Hp → VK → Prop} (hK : X.K = K) (pa : PlainAttrs T) (slot : Slot T name id) (hty : typeOf (.builtin id) = pure (.type "method_descriptor")) (hm : MtR X id r) (ho : PE X o to) (ha : PA X (e :: es) t)
    (hbase : attributeBase o name X.env (eval o X.env) = eval o X.env := by rfl)
    (hfew : ((backTo cpos (starEach (e :: es) X.env)).all (fun x => !x.1) && (backToKw cpos (keywordEach [] X.env)).all (fun x => x.1.isSome)
      && decide ((e :: es).length + ([] : List Keyword).length + (if ([] : List Keyword).isEmpty then 0 else 1) < 30)) = true := by rfl)
    (hline : (apos.endLine == cpos.line) = true := by rfl) (hs : starEach (e :: es) X.env = (false, eval e X.env) :: starEach es X.env := by rfl) (hplain : (backTo cpos (starEach es X.env)).any (·.1) = false := by rfl) :
    PE X (.Call (.Attribute o name apos) (e :: es) [] cpos) (tBM K T r to t) := by
  subst hK
  exact pe_bm pa slot hty hm ho ha hbase hfew hline hs hplain
/-! one statement, then the rest: what stands between -/
theorem seq_c {v : V} {i : Nat} {b : TS} {D : Ends} {σ : St} {H : Hp} (h : b D (σ.set i (some v)) H) : tSeq (tAsg (tC v) (gName i)) b D σ H := h
theorem if_cut {c : TT} {t u : TS} {D : Ends} {σ : St} {H : Hp} (B : Bool → Hp → Prop) (h1 : ∀ R : Bool → Hp → Prop, (∀ b H1, B b H1 → R b H1) → c σ H R) (h2 : ∀ H1, B true H1 → t D σ H1) (h3 : ∀ H1, B false H1 → u D σ H1) : tIfS c t u D σ H :=
  h1 _ fun b H1 hb => by
    cases b with
    | true => exact (if_pos rfl : (if true = true then t D σ H1 else u D σ H1) = _) ▸ h2 H1 hb
    | false => exact (if_neg Bool.false_ne_true : (if false = true then t D σ H1 else u D σ H1) = _) ▸ h3 H1 hb
theorem cut_if {c : TT} {t u b : TS} {D : Ends} {σ : St} {H : Hp} (P : St → Hp → Prop) (h1 : ∀ R : St → Hp → Prop, (∀ σ' H', P σ' H' → R σ' H') → tIfS c t u { D with nx := R } σ H) (h2 : ∀ σ' H', P σ' H' → b D σ' H') : tSeq (tIfS c t u) b D σ H := h1 (b D) h2
theorem cut_for {wi : TI} {g : TG} {tb b : TS} {D : Ends} {σ : St} {H : Hp} (P : St → Hp → Prop) (h1 : ∀ R : St → Hp → Prop, (∀ σ' H', P σ' H' → R σ' H') → tFor wi g tb { D with nx := R } σ H) (h2 : ∀ σ' H', P σ' H' → b D σ' H') : tSeq (tFor wi g tb) b D σ H := h1 (b D) h2
theorem cut_while {c : TT} {tb b : TS} {D : Ends} {σ : St} {H : Hp} (P : St → Hp → Prop) (h1 : ∀ R : St → Hp → Prop, (∀ σ' H', P σ' H' → R σ' H') → tWhile c tb { D with nx := R } σ H) (h2 : ∀ σ' H', P σ' H' → b D σ' H') : tSeq (tWhile c tb) b D σ H := h1 (b D) h2
end Mm

set_option Elab.async false
set_option linter.all false
set_option maxRecDepth 100000
set_option maxHeartbeats 4000000
namespace L2
open PySem PySem.Spec PyProof.Rows
section
variable {X : Cx}
theorem vals_strs : ∀ {l : List (Str × Tok)}, Vals ((l.map (·.1)).map V.str) (strValues l)
  | [] => .nil
  | (x, t) :: r => .cons ⟨t, rfl⟩ (vals_strs (l := r))
/-- x.split(y) -/
noncomputable def rSplit : V → List V → Hp → VK → Prop := fun x vs H Q => ∃ a b : Str, x = .str a ∧ vs = [.str b] ∧ (b.length == 0) = false ∧ a.length + 2 ≤ sizeLine ∧ ∀ p, H p = none → Q (.ref p) (upd H p (.lst ((Txt.split a b).map V.str)))
theorem mt_split : MtM X "str.split" rSplit := by
  intro pins s σ H x vs v us Q I rx rv h
  obtain ⟨a, b, rfl, rfl, hb, hz, q⟩ := h
  obtain ⟨t, rfl⟩ := rx
  obtain ⟨u, rfl, u', rfl⟩ := rv.one
  have hs := split_le a b
  have fin : ∀ (l : List (Str × Tok)) (tk : Nat), l.map (·.1) = Txt.split a b → EP X pins σ Q (.ref s.heap.objs.size) { s with heap := s.heap.push { cls := .type "list", data := .seq (strValues l).toArray }, toks := tk } := fun l tk e =>
    ⟨.ref s.heap.objs.size, _, I.lnew (ys := (Txt.split a b).map V.str) (by rw [← e]; exact vals_strs) (by rw [List.length_map]; omega), rfl, q _ I.fresh⟩
  cases h1 : (decide (a.length < b.length) || decide (Builtin.Str.strKind a < Builtin.Str.strKind b))
  · cases hf : (Builtin.Str.occurrences a b 0 a.length (a.length + 1)).isEmpty
    · have e : Txt.split a b = Builtin.Str.partsBetween a (Builtin.Str.occurrences a b 0 a.length (a.length + 1)) b.length := (if_neg (ne_true_of_eq_false h1)).trans (if_neg (ne_true_of_eq_false hf))
      refine call_meets F.slot_str_split (typeIs_str _ _ _) F.entry_str_split (F.args_str_split_2 _ _) (meets_str_split_sep a b t u' h1 hb hf (by omega) (by rw [← e]; omega)) ?_
      rw [strsFrom_eq]
      exact fin (numbered s.toks _) _ ((numbered_texts _ _).trans e.symm)
    · exact call_meets F.slot_str_split (typeIs_str _ _ _) F.entry_str_split (F.args_str_split_2 _ _) (meets_str_split_not_found a b t u' h1 hb hf) (fin [(a, t)] _ ((if_neg (ne_true_of_eq_false h1)).trans (if_pos hf)).symm)
  · exact call_meets F.slot_str_split (typeIs_str _ _ _) F.entry_str_split (F.args_str_split_2 _ _) (meets_str_split_cannot_occur a b t u' h1) (fin [(a, t)] _ (if_pos h1).symm)
/-- x.startswith(y) -/
theorem mt_starts : MtR X "str.startswith" (fun x xs H Q => ∃ a b, x = .str a ∧ xs = [.str b] ∧ Q (.bl (0 + b.length ≤ a.length && Builtin.Str.subAt a b 0)) H) := by
  intro pins s σ H x xs v us Q I rx rs h
  obtain ⟨a, b, rfl, rfl, q⟩ := h
  obtain ⟨t, rfl⟩ := rx
  obtain ⟨u, rfl, t', rfl⟩ := vals1 rs
  exact call_gives PySem.F.slot_str_startswith (typeIs_str s a t) PySem.F.entry_str_startswith (PySem.F.args_str_startswith_2 _ _) (gives_str_startswith a b t t') ⟨.bl _, H, I, rfl, q⟩
theorem strs_of : ∀ {zs : List Str} {us : List Value}, Vals (zs.map V.str) us → StrsAre us zs
  | [], _, r => by cases r; exact .nil
  | z :: zs, _, r => by
    cases r with
    | cons h t => obtain ⟨k, rfl⟩ := h; exact .cons _ _ (strs_of t)
/-- x.join(list) -/
theorem mt_join {K : PySem.W.Frag} (hK : X.K = K) : MtM X "str.join" (fun x xs H Q => ∃ (a : Str) (l : Addr) (zs : List Str), x = .str a ∧ xs = [.ref l] ∧ SqL K H l (zs.map V.str) ∧ a.length ≤ 16 ∧ (zs.map (·.length)).sum + zs.length ≤ 1048576 ∧ Q (.str (Str.join a zs)) H) := by
  intro pins s σ H x xs v us Q I rx rs h
  obtain ⟨a, l, zs, rfl, rfl, hq, ha, hw, q⟩ := h
  subst hK
  obtain ⟨t, rfl⟩ := rx
  obtain ⟨u, rfl, ru⟩ := rs.one
  cases ru
  obtain ⟨its, rv, p, hz⟩ := I.list hq
  refine join_listW (items := its.toArray) p.isList (by simpa using strs_of rv) ha hw fun t' k => ?_
  exact ⟨.str _, H, I.tok _, ⟨t', rfl⟩, by rw [show Txt.join a zs = Str.join a zs from StrLaws.glued_eq_join a zs]; exact q⟩
/-- try: body except ..: a body that raises nothing -/
theorem ps_tryok {body : List Stmt} {h₀ : ExceptHandler} {hs : List ExceptHandler} {t : TS} {pos : Pos} (h : PSs X.nox body t) : PS X (.Try body (h₀ :: hs) [] [] pos) t := by
  intro pins s σ H D I q
  refine wpAny_Try_except (wpAny_mono (h pins s σ H D (I.wish _) q) (fun f s1 z => ?_) fun _ _ z => False.elim z)
  cases f with
  | next => obtain ⟨σ1, H1, I1, q1⟩ := z; exact wpAny_execs_nil ⟨σ1, H1, I1.unwish, q1⟩
  | ret v => obtain ⟨x, σ1, H1, I1, r, q1⟩ := z; exact ⟨x, σ1, H1, I1.unwish, r, q1⟩
  | brk => obtain ⟨σ1, H1, I1, q1⟩ := z; exact ⟨σ1, H1, I1.unwish, q1⟩
  | cont => obtain ⟨σ1, H1, I1, q1⟩ := z; exact ⟨σ1, H1, I1.unwish, q1⟩
end
end L2

set_option Elab.async false
set_option linter.all false
set_option maxRecDepth 100000
set_option maxHeartbeats 4000000
namespace L2
open PySem PySem.Spec PyProof.Rows
/-- enumerate(list at a) -/
noncomputable def Ite (K : PySem.W.Frag) (a : Addr) : It := ⟨fun i H => ∃ xs x, SqL K H a xs ∧ xs[i]? = some x, fun i H x H' => ∃ (t : Addr) (y : V), (∀ xs, SqL K H a xs → xs[i]? = some y) ∧ H t = none ∧ x = .ref t ∧ H' = upd H t (.tup [.int ((i : Nat) : Int), y]), fun i H => ∃ xs, SqL K H a xs ∧ xs.length ≤ i⟩
theorem turn_enum {P : Program} {w : World} {K : PySem.W.Frag} {elts : List Expr} {k : Nat} {tpos : Pos} (a e it : Addr) (hei : e ≠ it) :
    Turn P w K (.Tuple elts k tpos) (Ite K a) [e, it] e (fun i h => (∃ old, IsEnum h e it i old) ∧ h.IsListIter it a i) where
  mem := by simp
  obj := fun i h st b hb => by
    rcases (show b = e ∨ b = it by simpa using hb) with z | z
    · subst z
      obtain ⟨⟨old, he⟩, _⟩ := st
      exact ⟨_, he, fun v z => by cases z⟩
    · subst z
      obtain ⟨_, o, e, c, d⟩ := st
      exact ⟨o, e, fun v z => by rw [d] at z; cases z⟩
  keep := fun i h h' st kk => ⟨by obtain ⟨old, he⟩ := st.1; exact ⟨old, kk e (by simp) _ he⟩, st.2.at fun o q => kk it (by simp) o q⟩
  item := by
    intro X hP hw hK hc i pins s σ H E I hf st hg
    subst hP hw hK
    obtain ⟨xs, x, hq, hx⟩ := hg
    obtain ⟨its, rv, p, hz⟩ := I.list hq
    obtain ⟨u, hu, ru⟩ := rv.get hx
    obtain ⟨⟨old, he⟩, hit⟩ := st
    obtain ⟨e0, e1, e2, e3, e4, e5⟩ := hf e (by simp)
    obtain ⟨f0, f1, f2, f3, f4, f5⟩ := hf it (by simp)
    refine wpAny_pyNext_enum_item he hit p.isList (x := u) (by simpa using hu) hei fun h1 ho hit1 ht hsz kk => ?_
    refine ⟨_, rfl, ?_⟩
    have hel : e < s.heap.objs.size := Heap.lt_size he
    have hil : it < s.heap.objs.size := by obtain ⟨_, q, _⟩ := hit; exact Heap.lt_size q
    refine wpAny_letOwnedTupleGo_enum (s := { s with heap := h1, toks := s.toks + 1 }) ho fun h2 he2 hs2 => ?_
    have hs2 : Heap.SameBut e h1 h2 := hs2
    have kk2 : ∀ b o, b ≠ e → b ≠ it → s.heap.get? b = some o → h2.get? b = some o := fun b o q1 q2 q => (hs2.2 b q1).trans (kk b o q1 q2 q)
    have ht2 : h2.get? s.heap.objs.size = some { cls := .type "tuple", data := .seq #[.int i s.toks, u] } := (hs2.2 _ (Nat.ne_of_gt hel)).trans ht
    have hT : H s.heap.objs.size = none := I.fresh
    have I2 : Inv X pins σ (upd H s.heap.objs.size (.tup [.int ((i : Nat) : Int), x])) { s with heap := h2, toks := s.toks + 1 } := by
      refine I.call' (ch := [e, it]) rfl ⟨fun b o q hn hb hx => ?_, fun b o q hn hb hx => ?_, fun b o q hn hx => ?_, fun b o q hx => ?_, fun b ys q => ?_, fun b o v q => ?_, fun b ps q => ?_⟩ (fun b v q => ?_) I.bare fun b hb => ?_
      · exact kk2 b o (fun z => hx (by simp [z])) (fun z => hx (by simp [z])) q
      · exact ⟨o.slots, kk2 b o (fun z => hx (by simp [z])) (fun z => hx (by simp [z])) q⟩
      · rw [upd_ne (Nat.ne_of_lt (Heap.lt_size q))]; exact hn
      · exact ⟨o, kk2 b o (fun z => hx (by simp [z])) (fun z => hx (by simp [z])) q⟩
      · rw [upd_ne (ne_of_none q hT)]; exact q
      · rw [upd_ne (ne_of_none q hT)]; exact q
      · exact ⟨#[], by rw [upd_ne (ne_of_none q hT)]; simpa using q⟩
      · by_cases hb : b = s.heap.objs.size
        · subst hb
          rw [upd_same] at q
          cases q
          exact ⟨(by show 2 ≤ sizeLine; decide), [.int i s.toks, u], .cons ⟨_, rfl⟩ (.cons ru .nil), _, ht2, rfl, _, rfl⟩
        · rw [upd_ne hb] at q
          have hne : b ≠ e := fun z => by rw [z, e0] at q; cases q
          have hni : b ≠ it := fun z => by rw [z, f0] at q; cases q
          refine (I.hok b v q).stay (fun c o hcb z => kk2 c o (fun y => ?_) (fun y => ?_) z) (fun c z => by rw [upd_ne (ne_of_none z hT)]; exact z) fun c ys z => by rw [upd_ne (ne_of_none z hT)]; exact z
          · rcases hcb with r | r
            · exact hne (r ▸ y)
            · rw [y, e0] at r; cases r
          · rcases hcb with r | r
            · exact hni (r ▸ y)
            · rw [y, f0] at r; cases r
      · rcases (show b = e ∨ b = it by simpa using hb) with z | z
        · subst z; exact ⟨e3, e1, e4, e5⟩
        · subst z; exact ⟨f3, f1, f4, f5⟩
    refine ⟨.ref s.heap.objs.size, _, I2, rfl, ⟨_, x, fun ys hy => by rw [I.list_inj hy hq]; exact hx, hT, rfl, rfl⟩, ⟨⟨u, by simpa using he2⟩, hit1.at fun o q => (hs2.2 it hei.symm).trans q⟩, fun b hb => ?_⟩
    rcases (show b = e ∨ b = it by simpa using hb) with z | z
    · subst z; rw [upd_ne (Nat.ne_of_lt hel)]; exact e0
    · subst z; rw [upd_ne (Nat.ne_of_lt hil)]; exact f0
  done := by
    intro X hP hw hK hc i pins s σ H E I hf st hg
    subst hP hw hK
    obtain ⟨xs, hq, hx⟩ := hg
    obtain ⟨its, rv, p, hz⟩ := I.list hq
    obtain ⟨f0, f1, f2, f3, f4, f5⟩ := hf it (by simp)
    obtain ⟨⟨old, he⟩, hit⟩ := st
    have hl := rv.length
    exact wpAny_pyNext_enum_end (I.ok.hd hc) he hit p.isList (by simp; omega) fun h' eb => ⟨rfl, I.turned (t' := s.toks) (fun b o hb q => eb b o hb q) f0 f1 f3 f4 f5⟩
  self := fun _ _ _ _ _ st h => by obtain ⟨⟨old, he⟩, _⟩ := st; exact wpAny_pyIter_enum he h
section
variable {X : Cx}
noncomputable def iEnum (K : PySem.W.Frag) (ta : TA) : TI := fun σ H R => ta σ H fun vs H1 => ∃ a xs, vs = [.ref a] ∧ SqL K H1 a xs ∧ R (Ite K a) H1
theorem pi_enum {a : Expr} {ta : TA} {p pos tpos : Pos} {elts : List Expr} {k : Nat} (hg : Gl X "enumerate") (hm : X.mg "enumerate" = none) (ha : PA X [a] ta) (hs : starEach [a] X.env = [(false, eval a X.env)] := by rfl) :
    PI X (.Tuple elts k tpos) (.Call (.Name "enumerate" p) [a] [] pos) (iEnum X.K ta) := by
  intro pins s σ H R I h
  refine Call_ (ld_blt I hg hm boot_enumerate (PyProof.Rows.callWith_type1 (thn (ha pos pins s σ H _ I h) fun us s1 hsl53 => ?_) hs rfl))
  obtain ⟨vs, H1, I1, r1, q1⟩ := hsl53
  obtain ⟨l, xs, e, hq, q⟩ := q1
  subst e
  obtain ⟨u, rfl, ru⟩ := vals1 r1
  cases ru
  obtain ⟨its, rv, pp, hz⟩ := I1.list hq
  refine call_enumerate_list pp.isList fun h' he hit hsz kk => ?_
  refine wpAny_pyIter_enum (s := { s1 with heap := h' }) he ?_
  refine ⟨s1.heap.objs.size + 1, [s1.heap.objs.size + 1, s1.heap.objs.size], _, _, H1, rfl, I1.kept (t' := s1.toks) kk, turn_enum l _ _ (Nat.succ_ne_self _), ⟨⟨_, he⟩, hit⟩, fun b hb => ?_, q⟩
  rcases (show b = s1.heap.objs.size + 1 ∨ b = s1.heap.objs.size by simpa using hb) with z | z
  · subst z; exact I1.fpOk (Nat.le_succ _) (I1.hok.fresh (Nat.le_succ _))
  · subst z; exact I1.fpOk (Nat.le_refl _) (I1.hok.fresh (Nat.le_refl _))
end
theorem pg_tupK {X : Cx} {K : PySem.W.Frag} {es : List Expr} {k : Nat} {pos : Pos} {t : TGs} {n : Nat} (hK : X.K = K) (hc : X.calm = true) (h : PGs X es t)
    (hn : (assignEach es X.env).length = n := by rfl) (hst : (assignEach es X.env).findIdx? (·.1) = none := by rfl) : PG X (.Tuple es k pos) (gTup K n t) := by
  subst hK
  exact pg_tup hc h hn hst
/-! the forms one uses -/
section
variable {k : Nat} {js : List Nat} {g : TG} {tt : TT} {te : TE}
theorem comp2_list {K : PySem.W.Frag} {a : Addr} {xs : List V} {σ : St} {H : Hp} {Q : VK} (Pv : Nat → List V → Hp → Prop) (h0 : Pv 0 [] H) (hl : ∀ i ys H, i ≤ xs.length → Pv i ys H → SqL K H a xs)
    (hs : ∀ i x ys H, xs[i]? = some x → Pv i ys H → tStep2 k js g tt te σ ys (Pv (i + 1)) x H)
    (hd : ∀ ys H, Pv xs.length ys H → ∀ p, H p = none → Q (.ref p) (upd H p (.lst ys))) : tCompB2 (Itl K a) k js g tt te σ H Q := by
  refine ⟨fun i m ys H => m = xs.length - i ∧ i ≤ xs.length ∧ Pv i ys H, ⟨xs.length, by simp, Nat.zero_le _, h0⟩, ?_⟩
  rintro i m ys H ⟨rfl, hi, p⟩
  have q := hl i ys H hi p
  by_cases hlt : i < xs.length
  · refine .inr ⟨⟨xs, xs[i], q, by simp [hlt]⟩, Pv (i + 1), fun ys' H' p' => ⟨xs.length - (i + 1), by omega, rfl, hlt, p'⟩, fun x H' y => ?_⟩
    obtain ⟨e, y⟩ := y
    subst e
    exact hs i x ys _ (y xs q) p
  · have e : i = xs.length := by omega
    subst e
    exact .inl ⟨⟨xs, q, Nat.le_refl _⟩, hd ys H p⟩
theorem comp2_enum {K : PySem.W.Frag} {a : Addr} {xs : List V} {σ : St} {H : Hp} {Q : VK} (Pv : Nat → List V → Hp → Prop) (h0 : Pv 0 [] H) (hl : ∀ i ys H, i ≤ xs.length → Pv i ys H → SqL K H a xs)
    (hs : ∀ i x ys H t, xs[i]? = some x → Pv i ys H → H t = none → tStep2 k js g tt te σ ys (Pv (i + 1)) (.ref t) (upd H t (.tup [.int ((i : Nat) : Int), x])))
    (hd : ∀ ys H, Pv xs.length ys H → ∀ p, H p = none → Q (.ref p) (upd H p (.lst ys))) : tCompB2 (Ite K a) k js g tt te σ H Q := by
  refine ⟨fun i m ys H => m = xs.length - i ∧ i ≤ xs.length ∧ Pv i ys H, ⟨xs.length, by simp, Nat.zero_le _, h0⟩, ?_⟩
  rintro i m ys H ⟨rfl, hi, p⟩
  have q := hl i ys H hi p
  by_cases hlt : i < xs.length
  · refine .inr ⟨⟨xs, xs[i], q, by simp [hlt]⟩, Pv (i + 1), fun ys' H' p' => ⟨xs.length - (i + 1), by omega, rfl, hlt, p'⟩, fun x H' y => ?_⟩
    obtain ⟨t, y, hy, hn, rfl, rfl⟩ := y
    exact hs i y ys _ t (hy xs q) p hn
  · have e : i = xs.length := by omega
    subst e
    exact .inl ⟨⟨xs, q, Nat.le_refl _⟩, hd ys H p⟩
end
end L2

set_option Elab.async false
set_option linter.all false
set_option maxRecDepth 100000
namespace L2
open PySem PySem.Spec PyProof.Rows
theorem two_of {α : Type} {os : List α} (h : os.length = 2) : ∃ a b, os = [a, b] := by
  match os, h with
  | [a, b], _ => exact ⟨a, b, rfl⟩
theorem for_enum {K : PySem.W.Frag} {a : Addr} {xs : List V} {g : TG} {tb : TS} {D : Ends} {σ : St} {H : Hp} (Pv : Nat → St → Hp → Prop) (h0 : Pv 0 σ H) (hl : ∀ i σ H, i ≤ xs.length → Pv i σ H → SqL K H a xs)
    (hs : ∀ i x σ H t, xs[i]? = some x → Pv i σ H → H t = none → g (.ref t) σ (upd H t (.tup [.int ((i : Nat) : Int), x])) fun σ2 H2 => tb { D with nx := Pv (i + 1), ct := Pv (i + 1), bk := D.nx } σ2 H2) (hd : ∀ σ H, Pv xs.length σ H → D.nx σ H) :
    ∃ W : Nat → Nat → St → Hp → Prop, (∃ m, W 0 m σ H) ∧ ∀ i m σ H, W i m σ H →
      ((Ite K a).stop i H ∧ D.nx σ H) ∨ ((Ite K a).go i H ∧ ∃ N : St → Hp → Prop, (∀ σ' H', N σ' H' → ∃ m', m' < m ∧ W (i + 1) m' σ' H') ∧ ∀ x H', (Ite K a).yld i H x H' → g x σ H' fun σ2 H2 => tb { D with nx := N, ct := N, bk := D.nx } σ2 H2) := by
  refine ⟨fun i m σ H => m = xs.length - i ∧ i ≤ xs.length ∧ Pv i σ H, ⟨xs.length, by simp, Nat.zero_le _, h0⟩, ?_⟩
  rintro i m σ H ⟨rfl, hi, p⟩
  have q := hl i σ H hi p
  by_cases hlt : i < xs.length
  · refine .inr ⟨⟨xs, xs[i], q, by simp [hlt]⟩, Pv (i + 1), fun σ' H' p' => ⟨xs.length - (i + 1), by omega, rfl, hlt, p'⟩, fun x H' y => ?_⟩
    obtain ⟨t, y, hy, hn, rfl, rfl⟩ := y
    exact hs i y σ _ t (hy xs q) p hn
  · have e : i = xs.length := by omega
    subst e
    exact .inl ⟨⟨xs, q, Nat.le_refl _⟩, hd σ H p⟩
end L2

set_option Elab.async false
set_option linter.all false
set_option maxRecDepth 100000
set_option maxHeartbeats 4000000
namespace L2
open PySem PySem.Spec PyProof.Rows
/-! ### values as data, for == of lists and tuples -/
mutual
inductive Rdv (K : PySem.W.Frag) (H : Hp) : V → PyData → Prop
  | non : Rdv K H .non .none
  | bl (b : Bool) : Rdv K H (.bl b) (.bool b)
  | int (i : Int) : Rdv K H (.int i) (.int i)
  | str (x : Str) : Rdv K H (.str x) (.str x)
  | lst {a : Addr} {xs : List V} {ds : List PyData} : SqL K H a xs → RdvA K H xs ds → Rdv K H (.ref a) (.list ds)
  | tup {a : Addr} {xs : List V} {ds : List PyData} : SqT K H a xs → RdvA K H xs ds → Rdv K H (.ref a) (.tuple ds)
inductive RdvA (K : PySem.W.Frag) (H : Hp) : List V → List PyData → Prop
  | nil : RdvA K H [] []
  | cons {x : V} {d : PyData} {xs : List V} {ds : List PyData} : Rdv K H x d → RdvA K H xs ds → RdvA K H (x :: xs) (d :: ds)
end
section
variable {X : Cx} {pins : List (Addr × Obj)} {σ : St} {H : Hp} {s : Shared}
mutual
theorem Rdv.reads (I : Inv X pins σ H s) : ∀ {x : V} {d : PyData} {u : Value}, Rdv X.K H x d → RelV x u → ∃ as, Reads s.heap u d as
  | _, _, _, .non, r => by cases r; exact ⟨_, .none⟩
  | _, _, _, .bl b, r => by cases r; exact ⟨_, .bool b⟩
  | _, _, _, .int i, r => by obtain ⟨t, rfl⟩ := r; exact ⟨_, .int i t⟩
  | _, _, _, .str x, r => by obtain ⟨t, rfl⟩ := r; exact ⟨_, .str x t⟩
  | _, _, _, .lst hq ha, r => by
    cases r
    obtain ⟨its, rv, p, _⟩ := I.list hq
    obtain ⟨as, ra⟩ := RdvA.reads I ha rv
    obtain ⟨o, ho, hc, n, hd⟩ := p.isList
    exact ⟨_, .list ho hc hd (by simpa using ra)⟩
  | _, _, _, .tup hq ha, r => by
    cases r
    obtain ⟨its, rv, p, _⟩ := I.tuple hq
    obtain ⟨as, ra⟩ := RdvA.reads I ha rv
    obtain ⟨o, ho, hc, n, hd⟩ := p
    exact ⟨_, .tuple ho hc hd (by simpa using ra)⟩
theorem RdvA.reads (I : Inv X pins σ H s) : ∀ {xs : List V} {ds : List PyData} {us : List Value}, RdvA X.K H xs ds → Vals xs us → ∃ as, ReadsAll s.heap us ds as
  | _, _, _, .nil, r => by cases r; exact ⟨_, .nil⟩
  | _, _, _, .cons h t, r => by
    cases r with
    | cons r1 r2 =>
      obtain ⟨as, ra⟩ := Rdv.reads I h r1
      obtain ⟨bs, rb⟩ := RdvA.reads I t r2
      exact ⟨_, .cons ra rb⟩
end
end
section
variable {X : Cx}
theorem op_neD {K : PySem.W.Frag} (hK : X.K = K) (hu : X.A.units + 64 < cLine) : OpR X (compareOp .NotEq) (fun x y H Q => ∃ d e, Rdv K H x d ∧ Rdv K H y e ∧ SeqAt.shaped d = true ∧ SeqAt.shaped e = true ∧ Q (.bl (!PyData.eqv d e)) H) := by
  intro pins s σ H x y v u Q I rx ry h
  subst hK
  obtain ⟨d, e, h1, h2, s1, s2, q⟩ := h
  obtain ⟨as, ra⟩ := h1.reads I rx
  obtain ⟨bs, rb⟩ := h2.reads I ry
  exact ne_dataH ra rb s1 s2 hu ⟨.bl _, H, I, rfl, q⟩
end
section
variable {X : Cx}
end
/-! shapes -/
noncomputable def Shd (n : Nat) (d : PyData) : Prop := d.canLay0 = true ∧ d.depth ≤ n
theorem Shd.int (i : Int) : Shd 0 (.int i) := ⟨rfl, Nat.le_refl _⟩
theorem Shd.bl (i : Bool) : Shd 0 (.bool i) := ⟨rfl, Nat.le_refl _⟩
theorem Shd.str {z : Str} (h : ∀ c ∈ z.cps.toList, c < 128) : Shd 0 (.str z) := ⟨by
  show PyData.strOk z = true
  unfold PyData.strOk
  rw [Array.all_eq_true]
  intro i hi
  have := h z.cps[i] (by simp)
  simp only [decide_eq_true_eq]
  omega, Nat.le_refl _⟩
theorem shd_all {n : Nat} : ∀ {ds : List PyData}, (∀ d ∈ ds, Shd n d) → PyData.canLayAll0 ds = true ∧ PyData.depthAll ds ≤ n
  | [], _ => ⟨rfl, Nat.zero_le _⟩
  | d :: r, h => by
    obtain ⟨a, b⟩ := h d List.mem_cons_self
    obtain ⟨c, e⟩ := shd_all (ds := r) fun x hx => h x (List.mem_cons_of_mem _ hx)
    exact ⟨by simp only [PyData.canLayAll0]; rw [a, c]; rfl, by simp only [PyData.depthAll]; omega⟩
theorem Shd.list {n : Nat} {ds : List PyData} (h : ∀ d ∈ ds, Shd n d) : Shd (n + 1) (.list ds) := ⟨by simp only [PyData.canLay0]; exact (shd_all h).1, by simp only [PyData.depth]; have := (shd_all h).2; omega⟩
theorem Shd.tuple {n : Nat} {ds : List PyData} (h : ∀ d ∈ ds, Shd n d) : Shd (n + 1) (.tuple ds) := ⟨by simp only [PyData.canLay0]; exact (shd_all h).1, by simp only [PyData.depth]; have := (shd_all h).2; omega⟩
theorem Shd.up {n m : Nat} {d : PyData} (h : Shd n d) (hm : n ≤ m) : Shd m d := ⟨h.1, Nat.le_trans h.2 hm⟩
theorem Shd.ok {n : Nat} {d : PyData} (h : Shd n d) (hn : n ≤ 64) : SeqAt.shaped d = true := by
  show (d.canLay0 && decide (d.depth ≤ 64)) = true
  rw [h.1, decide_eq_true (Nat.le_trans h.2 hn)]; rfl
theorem Shd.refl {n : Nat} {d : PyData} (h : Shd n d) : PyData.eqv d d = true := SeqAt.eqv_refl d h.1
theorem RdvA.map {α : Type} {K : PySem.W.Frag} {H : Hp} {f : α → V} {g : α → PyData} : ∀ {l : List α}, (∀ x ∈ l, Rdv K H (f x) (g x)) → RdvA K H (l.map f) (l.map g)
  | [], _ => .nil
  | x :: r, h => .cons (h x List.mem_cons_self) (RdvA.map fun y hy => h y (List.mem_cons_of_mem _ hy))
theorem Rdv.strs {K : PySem.W.Frag} {H : Hp} {a : Addr} {zs : List Str} (h : SqL K H a (zs.map V.str)) : Rdv K H (.ref a) (.list (zs.map PyData.str)) := .lst h (RdvA.map fun x _ => .str x)
end L2

set_option Elab.async false
set_option linter.all false
set_option maxRecDepth 100000
set_option maxHeartbeats 4000000
namespace L2
open PySem PySem.Spec PyProof.Rows
section
variable {X : Cx}
theorem vals_rev : ∀ {xs : List V} {us : List Value}, Vals xs us → Vals xs.reverse us.reverse
  | _, _, .nil => .nil
  | _, _, .cons r t => by rw [List.reverse_cons, List.reverse_cons]; exact (vals_rev t).append (.cons r .nil)
end
end L2

set_option Elab.async false
set_option linter.all false
set_option maxRecDepth 100000
set_option maxHeartbeats 4000000
namespace PySem
open Sem (wp)
theorem F.lri_no_len : typeLookup (.type "list_reverseiterator") "__len__" = pure none := by rw [typeLookup_type, builtinLookup_eq_fast]; kernel_rfl
theorem F.lri_hint : typeLookup (.type "list_reverseiterator") "__length_hint__" = pure (some (.builtin "list_reverseiterator.__length_hint__")) := by rw [typeLookup_type, builtinLookup_eq_fast]; kernel_rfl
section
variable {prog : Program} {w : World} {A : Around} {E : Value → Shared → Prop} {s : Shared}
theorem wpAny_hint_rev {it l : Addr} {i : Int} {Q : Bool → Shared → Prop} (hit : s.heap.IsRevIter it l i) (h : Q false s) : wpAny (model prog w) A (Builtin.List.listLengthHint (.ref it)) Q E s := by
  unfold Builtin.List.listLengthHint
  refine wpAny_bind (wpAny_specialOf hit.typeIs F.lri_no_len ?_)
  show wpAny _ A (specialOf (Value.ref it) (Str.ofString "__length_hint__") >>= _) _ _ _
  refine wpAny_bind (wpAny_specialOf hit.typeIs F.lri_hint ?_)
  generalize hid : ("list_reverseiterator.__length_hint__" : String) = id0
  wp_delta
  rw [show splitId id0 = some ("list_reverseiterator", "__length_hint__") from by subst hid; decide +kernel]
  subst hid
  refine wpAny_bind (wpAny_isInstance (T := "list_reverseiterator") (b := true) hit.typeIs (by rw [isSubtype_type]; kernel_rfl) ?_)
  refine wpAny_ite_split (fun hab => absurd hab (by decide)) (fun _ => ?_)
  refine wpAny_ite_split (fun _ => ?_) (fun hab => absurd (by decide +kernel) hab)
  refine wpAny_ite_split (fun hab => absurd hab (by decide +kernel)) (fun _ => wpAny_pure h)
theorem wpAny_extend_rev {R : Result → Shared → Prop} {it l : Addr} {items : Array Value} (hh : A.handled = none) (hit : s.heap.IsRevIter it l ((items.size : Int) - 1)) (hl : s.heap.IsList l items) (hne : l ≠ it) (hlen : items.size ≤ sizeLine) (S : Addr) (hSl : S ≠ l) (hSI : S ≠ it) (res : Value) (c₀ : Nat) (hS : s.heap.get? S = some { cls := .type "list", data := .seq #[] c₀ })
    (hR : ∀ h' tk acc' c', (∀ b o, b ≠ S → b ≠ it → s.heap.get? b = some o → h'.get? b = some o) → h'.get? S = some { cls := .type "list", dict := none, data := .seq acc' c', slots := #[] } →
      ItemsOf (fun i v => items[items.size - 1 - i]? = some v) acc' items.size → R (.ok (.ret res)) { s with heap := h', toks := tk }) :
    wpAny (model prog w) A.in1 (Builtin.List.listExtendWith (.ref S) (.ref it) res)
      (fun fin s' => match fin with | .done f => R (.ok f) s' | .again c' => c'.quiet = true ∧ codeAny (model prog w) A c' R s') (fun e s' => R (.error e) s') s := by
  have hSf : S ∉ [it, l] := fun hm => by
    rcases (show S = it ∨ S = l by simpa using hm) with z | z
    · exact hSI z
    · exact hSl z
  have W := (Walks.listRev (prog := prog) (w := w) (A := A.in1) hh it l hne items).toS
  unfold Builtin.List.listExtendWith
  refine wpAny_bind (wpAny_typeOf (T := "list_reverseiterator") hit.typeIs ?_)
  have h1 : Builtin.List.listSameRef (.ref S) (.ref it) = false := by simp [Builtin.List.listSameRef, hSI]
  have h2 : (Value.type "list_reverseiterator" == Value.type "list") = false := by decide
  have h3 : (Value.type "list_reverseiterator" == Value.type "tuple") = false := by decide
  simp only [h1, h2, h3, Bool.or_false, Bool.false_eq_true, if_false]
  refine wpAny_bind (wpAny_pyIter_revIter hit ?_)
  refine wpAny_bind (wpAny_holding (wpAny_hint_rev hit ?_))
  refine wpAny_ite_split (fun hab => absurd hab (by decide)) (fun _ => wpAny_pure ⟨plainId_quiet F.plain_extend_loop _, ?_⟩)
  refine codeAny_extend_loopS W hlen S hSf res items.size 0 _ #[] c₀ rfl (Nat.zero_le _) ⟨Nat.zero_le _, by simpa using hit, hl⟩ hS (ItemsOf.nil _) fun s' acc' c' hm hS' hacc => ?_
  rw [Moved.eq_with hm]
  refine hR s'.heap s'.toks acc' c' (fun b o hb hbi e => hm.heap b o (fun hmem => ?_) e) hS' hacc
  rcases List.mem_cons.mp hmem with e' | hmem
  · exact hb e'
  · exact hbi (List.mem_singleton.mp hmem)
theorem call_list_rev {Q : Value → Shared → Prop} {it l : Addr} {items : Array Value} (hh : A.handled = none) (hit : s.heap.IsRevIter it l ((items.size : Int) - 1)) (hl : s.heap.IsList l items) (hne : l ≠ it) (hlen : items.size ≤ sizeLine)
    (hQ : ∀ h' tk acc' c', (∀ b o, b ≠ it → s.heap.get? b = some o → h'.get? b = some o) →
      h'.get? s.heap.objs.size = some { cls := .type "list", dict := none, data := .seq acc' c', slots := #[] } → ItemsOf (fun i v => items[items.size - 1 - i]? = some v) acc' items.size → Q (.ref s.heap.objs.size) { s with heap := h', toks := tk }) :
    wpAny (model prog w) A (call (.type "list") [.ref it]) Q E s := by
  refine callType_codes (Q₁ := fun obj s₁ => obj = .ref s.heap.objs.size ∧ s₁ = { s with heap := s.heap.push { cls := .type "list", data := .seq #[] } }) F.called_list (F.typeCall_list_1 _) F.entry_list_init
    (code_list_new _ ⟨rfl, rfl⟩) fun obj s₁ h₁ => ?_
  obtain ⟨rfl, rfl⟩ := h₁
  have hS : (s.heap.push { cls := .type "list", data := .seq #[] }).get? s.heap.objs.size = some { cls := .type "list", data := .seq #[] } := Heap.get?_push_size _ rfl
  have hSl : s.heap.objs.size ≠ l := by obtain ⟨o, e, _⟩ := hl; exact (Nat.ne_of_lt (Heap.lt_size e)).symm
  have hSI : s.heap.objs.size ≠ it := by obtain ⟨o, e, _⟩ := hit; exact (Nat.ne_of_lt (Heap.lt_size e)).symm
  refine ⟨⟨_, hS, rfl⟩, F.args_list_init_2 _ _, ?_⟩
  show wpAny _ _ (do let old ← Builtin.List.listItems (.ref s.heap.objs.size); Builtin.List.listUpdate (.ref s.heap.objs.size) (fun _ => #[]); letGo old.toList.reverse; Builtin.List.listExtendWith (.ref s.heap.objs.size) (.ref it) .none) _ _ _
  refine wpAny_bind ?_
  unfold Builtin.List.listItems
  refine wpAny_bind (wpAny_seqItems hS rfl (wpAny_pure ?_))
  show wpAny _ _ (updateSeq s.heap.objs.size (fun _ => #[]) >>= fun _ => letGo (#[] : Array Value).toList.reverse >>= fun _ => Builtin.List.listExtendWith (.ref s.heap.objs.size) (.ref it) .none) _ _ _
  refine wpAny_bind (wpAny_updateSeq hS rfl ?_)
  have hS₂ := Heap.get?_update_self (Obj.mapSeq (fun _ => (#[] : Array Value))) hS rfl
  have oth : ∀ b o, s.heap.get? b = some o → ((s.heap.push { cls := .type "list", data := .seq #[] }).update s.heap.objs.size (Obj.mapSeq (fun _ => (#[] : Array Value)))).get? b = some o :=
    fun b o e => (Heap.get?_update_other _ _ (Nat.ne_of_lt (Heap.lt_size e)).symm).trans (Heap.get?_push_of_some _ e)
  refine wpAny_bind (wpAny_letGo ?_)
  refine wpAny_extend_rev (A := A.in1) hh (hit.at fun o e => oth _ o e) (hl.at fun o e => oth _ o e) hne hlen _ hSl hSI .none _ hS₂ fun h' tk acc' c' hk hS' hacc => ?_
  exact ⟨rfl, hQ h' tk acc' c' (fun b o hb e => hk b o (Nat.ne_of_lt (Heap.lt_size e)) hb (oth b o e)) hS' hacc⟩
end
end PySem
namespace L2
open PySem PySem.Spec PyProof.Rows
section
variable {X : Cx}
/-- list(reversed(e)) -/
noncomputable def tLRev (K : PySem.W.Frag) (te : TE) : TE := fun σ H Q => te σ H fun x H1 => ∃ a xs, x = .ref a ∧ SqL K H1 a xs ∧ ∀ p, H1 p = none → Q (.ref p) (upd H1 p (.lst xs.reverse))
theorem pe_listrev {K : PySem.W.Frag} {e : Expr} {te : TE} {p1 p2 pos1 pos2 : Pos} (hK : X.K = K) (hc : X.calm = true) (hg : Gl X "list") (hm : X.mg "list" = none) (hg2 : Gl X "reversed") (hm2 : X.mg "reversed" = none) (he : PE X e te)
    (hs1 : starEach [Expr.Call (.Name "reversed" p2) [e] [] pos2] X.env = [(false, eval (Expr.Call (.Name "reversed" p2) [e] [] pos2) X.env)] := by rfl) (hs2 : starEach [e] X.env = [(false, eval e X.env)] := by rfl) :
    PE X (.Call (.Name "list" p1) [.Call (.Name "reversed" p2) [e] [] pos2] [] pos1) (tLRev K te) := by
  subst hK
  intro pins s σ H Q I h
  refine wpAny_Call_Name_kw (ld_blt I hg hm bt_list ?_)
  refine PyProof.Rows.callWith_type1 ?_ hs1 rfl
  rw [hs1]
  show wpAny _ _ (spliced ((false, eval (Expr.Call (.Name "reversed" p2) [e] [] pos2) X.env) :: backTo pos1 [])) _ _ s
  refine Calls.spliced_cons ?_
  refine wpAny_Call_Name_kw (ld_blt I hg2 hm2 bt_rev ?_)
  refine PyProof.Rows.callWith_type1 ?_ hs2 rfl
  rw [hs2]
  show wpAny _ _ (spliced ((false, eval e X.env) :: backTo pos2 [])) _ _ s
  refine Calls.spliced_cons (thn (he pins s σ H _ I h) fun u s1 hsl54 => ?_)
  obtain ⟨x, H1, I1, r1, a, xs, ex, hq, q1⟩ := hsl54
  refine Calls.spliced_nil ?_
  subst ex
  cases r1
  obtain ⟨its, rv, pp, hz⟩ := I1.list hq
  refine call_reversed_list pp.isList ?_
  refine Calls.spliced_nil ?_
  have hal : a < s1.heap.objs.size := by obtain ⟨o, e, _⟩ := pp.isList; exact Heap.lt_size e
  have hL := pp.isList
  refine call_list_rev (s := { s1 with heap := s1.heap.push (revObj a ((its.toArray.size : Int) - 1)) }) (it := s1.heap.objs.size) (l := a) (items := its.toArray) (I1.ok.hd hc) ⟨_, Heap.get?_push_size _ rfl, rfl, rfl⟩ (hL.at fun o e => Heap.get?_push_of_some _ e) (Nat.ne_of_lt hal) (by rw [List.size_toArray]; have := rv.length; omega) fun h' tk acc' c' hk hS hacc => ?_
  have e : acc' = its.reverse.toArray := by
    refine Array.ext_getElem? fun i => ?_
    have hsz : acc'.size = its.length := hacc.1.trans List.size_toArray
    have hit := hacc.2
    by_cases hi : i < its.length
    · have h1 : acc'[i]? = some (acc'[i]'(by omega)) := Array.getElem?_eq_getElem (by omega)
      have h2 := hit i _ h1
      rw [h1, ← h2, List.size_toArray]
      simp only [List.getElem?_toArray]
      rw [List.getElem?_reverse hi]
    · rw [Array.getElem?_eq_none (by omega)]
      simp only [List.getElem?_toArray]
      rw [List.getElem?_eq_none (by rw [List.length_reverse]; omega)]
  subst e
  have hsz : (s1.heap.push (revObj a ((its.toArray.size : Int) - 1))).objs.size = s1.heap.objs.size + 1 := Heap.size_push _ _
  refine ⟨.ref (s1.heap.push (revObj a ((its.toArray.size : Int) - 1))).objs.size, _, I1.laid (a := (s1.heap.push (revObj a ((its.toArray.size : Int) - 1))).objs.size) (o := .lst xs.reverse) (t' := tk) (h' := h') (fun b u e => hk b u (Nat.ne_of_lt (Heap.lt_size e)) (Heap.get?_push_of_some _ e)) (by rw [hsz]; exact Nat.le_succ _) ?_, rfl, q1 _ (I1.hok.fresh (by rw [hsz]; exact Nat.le_succ _))⟩
  exact ⟨by rw [List.length_reverse]; exact hz, its.reverse, c', vals_rev rv, hS⟩
end
end L2

set_option linter.all false
namespace Mm
/-! wishes, and how they are read from behind -/
inductive W where
  | c0 | c1 | sw (k : Nat) | no (a : W) | an (a b : W) | orr (a b : W) | xo (a b : W) | ch (k : Nat) (a b : W)
noncomputable def W.signs : W → List Nat
  | .c0 => [48]
  | .c1 => [49]
  | .sw k => [97 + k]
  | .no a => 33 :: a.signs
  | .an a b => 38 :: (a.signs ++ b.signs)
  | .orr a b => 124 :: (a.signs ++ b.signs)
  | .xo a b => 94 :: (a.signs ++ b.signs)
  | .ch k a b => 63 :: (97 + k) :: (a.signs ++ b.signs)
noncomputable def W.ok (n : Nat) : W → Prop
  | .c0 => True
  | .c1 => True
  | .sw k => k < n
  | .no a => a.ok n
  | .an a b => a.ok n ∧ b.ok n
  | .orr a b => a.ok n ∧ b.ok n
  | .xo a b => a.ok n ∧ b.ok n
  | .ch k a b => k < n ∧ a.ok n ∧ b.ok n
noncomputable def flat : List W → List Nat
  | [] => []
  | w :: r => w.signs ++ flat r
noncomputable def Oks (n : Nat) (ws : List W) : Prop := ∀ w ∈ ws, w.ok n
theorem Oks.cons {n : Nat} {w : W} {ws : List W} (h : w.ok n) (hs : Oks n ws) : Oks n (w :: ws) := fun x hx => by
  rcases List.mem_cons.mp hx with e | e
  · subst e; exact h
  · exact hs x e
theorem Oks.hd {n : Nat} {w : W} {ws : List W} (h : Oks n (w :: ws)) : w.ok n := h w List.mem_cons_self
theorem Oks.tl {n : Nat} {w : W} {ws : List W} (h : Oks n (w :: ws)) : Oks n ws := fun x hx => h x (List.mem_cons_of_mem _ hx)
theorem Oks.nil {n : Nat} : Oks n [] := fun x hx => nomatch hx
/-- what stands there is some wishes, one behind the other -/
noncomputable def Fl (n : Nat) (l : List Nat) : Prop := ∃ ws, Oks n ws ∧ l = flat ws
theorem Fl.tail {n c : Nat} {l : List Nat} (h : Fl n (c :: l)) : Fl n l := by
  obtain ⟨ws, ho, e⟩ := h
  cases ws with
  | nil => cases e
  | cons w r =>
    have hw := ho.hd
    have hr := ho.tl
    cases w with
    | c0 => exact ⟨r, hr, (List.cons.inj e).2⟩
    | c1 => exact ⟨r, hr, (List.cons.inj e).2⟩
    | sw k => exact ⟨r, hr, (List.cons.inj e).2⟩
    | no a => exact ⟨a :: r, hr.cons hw, (List.cons.inj e).2⟩
    | an a b => exact ⟨a :: b :: r, (hr.cons hw.2).cons hw.1, by rw [(List.cons.inj e).2]; simp [flat, List.append_assoc]⟩
    | orr a b => exact ⟨a :: b :: r, (hr.cons hw.2).cons hw.1, by rw [(List.cons.inj e).2]; simp [flat, List.append_assoc]⟩
    | xo a b => exact ⟨a :: b :: r, (hr.cons hw.2).cons hw.1, by rw [(List.cons.inj e).2]; simp [flat, List.append_assoc]⟩
    | ch k a b => exact ⟨.sw k :: a :: b :: r, ((hr.cons hw.2.2).cons hw.2.1).cons hw.1, by rw [(List.cons.inj e).2]; simp [flat, W.signs, List.append_assoc]⟩
theorem Fl.drop {n : Nat} : ∀ (i : Nat) {l : List Nat}, Fl n l → Fl n (l.drop i)
  | 0, _, h => h
  | i + 1, [], h => h
  | i + 1, c :: l, h => Fl.drop i h.tail
/-! the program's way: a sign, what it needs, what it makes -/
noncomputable def needs (c : Nat) : Nat := if c = 33 then 1 else if c = 38 then 2 else if c = 124 then 2 else if c = 94 then 2 else if c = 63 then 3 else 0
noncomputable def isL (c : Nat) : Bool := decide (97 ≤ c) && decide (c < 107)
noncomputable def putR (full c : Nat) (ps : List Nat) : Nat :=
  if c = 33 then full ^^^ ps.getD 0 0 else if c = 38 then ps.getD 0 0 &&& ps.getD 1 0 else if c = 124 then ps.getD 0 0 ||| ps.getD 1 0
  else if c = 94 then ps.getD 0 0 ^^^ ps.getD 1 0 else (ps.getD 0 0 &&& ps.getD 1 0) ||| ((full ^^^ ps.getD 0 0) &&& ps.getD 2 0)
noncomputable def valR (sws : List Nat) (full c : Nat) : Option Nat := if c = 48 then some 0 else if c = 49 then some full else if isL c = true then sws[c - 97]? else none
noncomputable def hdL : List Nat → Bool
  | [] => true
  | c :: _ => isL c
noncomputable def stepR (sws : List Nat) (full c : Nat) (rest : List Nat) (st : List Nat) : Option (List Nat) :=
  if st.length < needs c then none else if c = 63 ∧ hdL rest = false then none
  else if 0 < needs c then some (putR full c (st.take (needs c)) :: st.drop (needs c)) else (valR sws full c).map (· :: st)
noncomputable def runR (sws : List Nat) (full : Nat) : List Nat → Option (List Nat)
  | [] => some []
  | c :: rest => (runR sws full rest).bind fun st => stepR sws full c rest st
noncomputable def W.val (sws : List Nat) (full : Nat) : W → Nat
  | .c0 => 0
  | .c1 => full
  | .sw k => sws.getD k 0
  | .no a => full ^^^ a.val sws full
  | .an a b => a.val sws full &&& b.val sws full
  | .orr a b => a.val sws full ||| b.val sws full
  | .xo a b => a.val sws full ^^^ b.val sws full
  | .ch k a b => (sws.getD k 0 &&& a.val sws full) ||| ((full ^^^ sws.getD k 0) &&& b.val sws full)
theorem isL_of {k : Nat} (h : k < 10) : isL (97 + k) = true := by simp [isL]; omega
theorem run_letter {sws : List Nat} {full k : Nat} {rest st : List Nat} (hk : k < sws.length) (h10 : k < 10) (h : runR sws full rest = some st) : runR sws full ((97 + k) :: rest) = some (sws.getD k 0 :: st) := by
  have n0 : needs (97 + k) = 0 := by unfold needs; rw [if_neg (by omega), if_neg (by omega), if_neg (by omega), if_neg (by omega), if_neg (by omega)]
  have hv : valR sws full (97 + k) = some (sws.getD k 0) := by
    unfold valR
    rw [if_neg (by omega), if_neg (by omega), if_pos (isL_of h10), show 97 + k - 97 = k by omega]
    simp [List.getD_eq_getElem?_getD, List.getElem?_eq_getElem hk]
  simp only [runR, h, Option.bind_some]
  unfold stepR
  rw [n0, if_neg (by omega), if_neg (by omega), if_neg (by omega), hv]
  rfl
theorem run_signs {sws : List Nat} {full n : Nat} (hn : n ≤ sws.length) (h10 : n ≤ 10) : ∀ (w : W) (rest st : List Nat), w.ok n → runR sws full rest = some st → runR sws full (w.signs ++ rest) = some (w.val sws full :: st) := by
  intro w
  induction w with
  | c0 => intro rest st _ h; simp [W.signs, W.val, runR, h, stepR, needs, valR]
  | c1 => intro rest st _ h; simp [W.signs, W.val, runR, h, stepR, needs, valR]
  | sw k => intro rest st hk h; exact run_letter (Nat.lt_of_lt_of_le hk hn) (Nat.lt_of_lt_of_le hk h10) h
  | no a ih =>
    intro rest st hk h
    have e := ih rest st hk h
    simp [W.signs, W.val, runR, e, stepR, needs, putR]
  | an a b iha ihb =>
    intro rest st hk h
    have e := iha _ _ hk.1 (ihb rest st hk.2 h)
    simp [W.signs, W.val, runR, e, stepR, needs, putR, List.append_assoc]
  | orr a b iha ihb =>
    intro rest st hk h
    have e := iha _ _ hk.1 (ihb rest st hk.2 h)
    simp [W.signs, W.val, runR, e, stepR, needs, putR, List.append_assoc]
  | xo a b iha ihb =>
    intro rest st hk h
    have e := iha _ _ hk.1 (ihb rest st hk.2 h)
    simp [W.signs, W.val, runR, e, stepR, needs, putR, List.append_assoc]
  | ch k a b iha ihb =>
    intro rest st hk h
    have e := iha _ _ hk.2.1 (ihb rest st hk.2.2 h)
    have e2 := run_letter (sws := sws) (full := full) (Nat.lt_of_lt_of_le hk.1 hn) (Nat.lt_of_lt_of_le hk.1 h10) e
    have hl : isL (97 + k) = true := isL_of (Nat.lt_of_lt_of_le hk.1 h10)
    have e3 : (W.ch k a b).signs ++ rest = 63 :: ((97 + k) :: (a.signs ++ (b.signs ++ rest))) := by simp [W.signs, List.append_assoc]
    rw [e3]
    simp only [runR] at e2 ⊢
    rw [e2, Option.bind_some]
    simp [stepR, needs, hdL, hl, putR, W.val]
theorem run_wish {sws : List Nat} {full n : Nat} {w : W} (hn : n ≤ sws.length) (h10 : n ≤ 10) (h : w.ok n) : runR sws full w.signs = some [w.val sws full] := by
  have := run_signs (full := full) hn h10 w [] [] h rfl
  simpa using this
theorem run_rest {sws : List Nat} {full c : Nat} {rest st : List Nat} (h : runR sws full (c :: rest) = some st) : ∃ st', runR sws full rest = some st' ∧ stepR sws full c rest st' = some st := by
  simp only [runR] at h
  cases e : runR sws full rest with
  | none => rw [e] at h; cases h
  | some st' => rw [e] at h; exact ⟨st', rfl, h⟩
theorem run_drop {sws : List Nat} {full : Nat} : ∀ (i : Nat) {l st : List Nat}, runR sws full l = some st → ∃ st', runR sws full (l.drop i) = some st'
  | 0, _, st, h => ⟨st, h⟩
  | i + 1, [], st, h => ⟨[], rfl⟩
  | i + 1, c :: l, st, h => by
    obtain ⟨st', h', _⟩ := run_rest h
    exact run_drop i h'
/-! where it holds -/
noncomputable def W.ev (s : Nat) : W → Bool
  | .c0 => false
  | .c1 => true
  | .sw k => s.testBit k
  | .no a => !a.ev s
  | .an a b => a.ev s && b.ev s
  | .orr a b => a.ev s || b.ev s
  | .xo a b => a.ev s != b.ev s
  | .ch k a b => if s.testBit k then a.ev s else b.ev s
theorem val_bit {sws : List Nat} {full n s p : Nat} (hf : full.testBit p = true) (hs : ∀ k, k < n → (sws.getD k 0).testBit p = s.testBit k) : ∀ w : W, w.ok n → (w.val sws full).testBit p = w.ev s := by
  intro w
  induction w with
  | c0 => intro _; simp [W.val, W.ev]
  | c1 => intro _; exact hf
  | sw k => intro h; exact hs k h
  | no a ih => intro h; simp only [W.val, W.ev, Nat.testBit_xor, hf, ih h, Bool.true_xor]
  | an a b iha ihb => intro h; simp only [W.val, W.ev, Nat.testBit_and, iha h.1, ihb h.2]
  | orr a b iha ihb => intro h; simp only [W.val, W.ev, Nat.testBit_or, iha h.1, ihb h.2]
  | xo a b iha ihb =>
    intro h
    simp only [W.val, W.ev, Nat.testBit_xor, iha h.1, ihb h.2]
  | ch k a b iha ihb =>
    intro h
    simp only [W.val, W.ev, Nat.testBit_or, Nat.testBit_and, Nat.testBit_xor, hf, hs k h.1, iha h.2.1, ihb h.2.2]
    cases s.testBit k <;> cases a.ev s <;> cases b.ev s <;> rfl
theorem val_lt {sws : List Nat} {full N : Nat} (hf : full < 2 ^ N) (hs : ∀ x ∈ sws, x < 2 ^ N) : ∀ w : W, w.val sws full < 2 ^ N := by
  have hg : ∀ k, sws.getD k 0 < 2 ^ N := fun k => by
    rw [List.getD_eq_getElem?_getD]
    cases e : sws[k]? with
    | none => exact Nat.two_pow_pos N
    | some x => exact hs x (List.mem_of_getElem? e)
  intro w
  induction w with
  | c0 => exact Nat.two_pow_pos N
  | c1 => exact hf
  | sw k => exact hg k
  | no a ih => exact Nat.xor_lt_two_pow hf ih
  | an a b iha ihb => exact Nat.and_lt_two_pow _ ihb
  | orr a b iha ihb => exact Nat.or_lt_two_pow iha ihb
  | xo a b iha ihb => exact Nat.xor_lt_two_pow iha ihb
  | ch k a b iha ihb => exact Nat.or_lt_two_pow (Nat.and_lt_two_pow _ iha) (Nat.and_lt_two_pow _ ihb)
/-! the values stay small on the way, too -/
/-! the law's way: from behind, a chooser at once -/
/-! a text with open parts: whatever wishes follow, it is a wish -/
noncomputable def Op (n : Nat) (t : List Nat) (k : Nat) : Prop := ∀ ws : List W, ws.length = k → Oks n ws → ∃ w : W, w.ok n ∧ w.signs = t ++ flat ws
theorem Op.start {n : Nat} : Op n [] 1 := fun ws hl ho => by
  match ws, hl with
  | [w], _ => exact ⟨w, ho.hd, by simp [flat]⟩
theorem Op.no {n k : Nat} {t : List Nat} (h : Op n t (k + 1)) : Op n (t ++ [33]) (k + 1) := fun ws hl ho => by
  match ws, hl with
  | a :: r, hl =>
    obtain ⟨w, hw, e⟩ := h (.no a :: r) (by simpa using hl) (ho.tl.cons ho.hd)
    exact ⟨w, hw, by rw [e]; simp [flat, W.signs]⟩
theorem Op.two {n k c : Nat} {t : List Nat} (hc : c = 38 ∨ c = 124 ∨ c = 94) (h : Op n t (k + 1)) : Op n (t ++ [c]) (k + 2) := fun ws hl ho => by
  match ws, hl with
  | a :: b :: r, hl =>
    have hl' : r.length = k := by simpa using hl
    have oa := ho.hd
    have ob := ho.tl.hd
    have hr := ho.tl.tl
    rcases hc with rfl | rfl | rfl
    · obtain ⟨w, hw, e⟩ := h (.an a b :: r) (by simp [hl']) (hr.cons ⟨oa, ob⟩)
      exact ⟨w, hw, by rw [e]; simp [flat, W.signs]⟩
    · obtain ⟨w, hw, e⟩ := h (.orr a b :: r) (by simp [hl']) (hr.cons ⟨oa, ob⟩)
      exact ⟨w, hw, by rw [e]; simp [flat, W.signs]⟩
    · obtain ⟨w, hw, e⟩ := h (.xo a b :: r) (by simp [hl']) (hr.cons ⟨oa, ob⟩)
      exact ⟨w, hw, by rw [e]; simp [flat, W.signs]⟩
theorem Op.ch {n k j : Nat} {t : List Nat} (h : Op n t (k + 1)) (hj : j < n) : Op n (t ++ [63] ++ [97 + j]) (k + 2) := fun ws hl ho => by
  match ws, hl with
  | a :: b :: r, hl =>
    have hl' : r.length = k := by simpa using hl
    obtain ⟨w, hw, e⟩ := h (.ch j a b :: r) (by simp [hl']) (ho.tl.tl.cons ⟨hj, ho.hd, ho.tl.hd⟩)
    exact ⟨w, hw, by rw [e]; simp [flat, W.signs]⟩
theorem Op.done {n : Nat} {t : List Nat} (h : Op n t 0) : ∃ w : W, w.ok n ∧ w.signs = t := by
  obtain ⟨w, hw, e⟩ := h [] rfl Oks.nil
  exact ⟨w, hw, by rw [e]; simp [flat]⟩
end Mm

set_option Elab.async false
set_option linter.all false
set_option maxRecDepth 100000
namespace Mm
open PySem L2 PyProof.Rows
theorem str_ext {a b : Str} (h : a.cps.toList = b.cps.toList) : a = b := by
  cases a; cases b
  congr 1
  exact Array.toList_inj.mp h
theorem str_len (z : Str) : z.length = z.cps.toList.length := by simp [Str.length]
theorem str_app (a b : Str) : (a ++ b).cps.toList = a.cps.toList ++ b.cps.toList := Array.toList_append ..
/-! joined lists of signs -/
noncomputable def jl (c : Nat) : List (List Nat) → List Nat
  | [] => []
  | [a] => a
  | a :: b :: r => a ++ c :: jl c (b :: r)
theorem join_list (c : Nat) : ∀ zs : List Str, (Str.join ⟨#[c]⟩ zs).cps.toList = jl c (zs.map (·.cps.toList))
  | [] => rfl
  | [a] => rfl
  | a :: b :: r => by
    show (a ++ ⟨#[c]⟩ ++ Str.join ⟨#[c]⟩ (b :: r)).cps.toList = a.cps.toList ++ c :: jl c ((b :: r).map (·.cps.toList))
    rw [str_app, str_app, join_list c (b :: r)]
    simp
theorem cut_at {c : Nat} : ∀ {a b x y : List Nat}, c ∉ a → c ∉ b → a ++ c :: x = b ++ c :: y → a = b ∧ x = y
  | [], [], _, _, _, _, h => by simpa using h
  | [], q :: b, x, y, _, hb, h => by
    have : c = q := by simpa using (List.cons.inj h).1
    exact absurd (by rw [this]; exact List.mem_cons_self) hb
  | p :: a, [], x, y, ha, _, h => by
    have : p = c := by simpa using (List.cons.inj h).1
    exact absurd (by rw [← this]; exact List.mem_cons_self) ha
  | p :: a, q :: b, x, y, ha, hb, h => by
    obtain ⟨e1, e2⟩ := List.cons.inj (show p :: (a ++ c :: x) = q :: (b ++ c :: y) from h)
    obtain ⟨e3, e4⟩ := cut_at (fun z => ha (List.mem_cons_of_mem _ z)) (fun z => hb (List.mem_cons_of_mem _ z)) e2
    exact ⟨by rw [e1, e3], e4⟩
theorem jl_inj {c : Nat} : ∀ {ps qs : List (List Nat)}, ps ≠ [] → qs ≠ [] → (∀ p ∈ ps, c ∉ p) → (∀ q ∈ qs, c ∉ q) → jl c ps = jl c qs → ps = qs
  | [], _, h, _, _, _, _ => absurd rfl h
  | _, [], _, h, _, _, _ => absurd rfl h
  | [a], [b], _, _, _, _, h => by rw [show a = b from h]
  | [a], b :: b' :: r, _, _, h1, _, h => absurd (show c ∈ a by rw [show a = b ++ c :: jl c (b' :: r) from h]; simp) (h1 a List.mem_cons_self)
  | a :: a' :: r, [b], _, _, _, h2, h => absurd (show c ∈ b by rw [← show a ++ c :: jl c (a' :: r) = b from h]; simp) (h2 b List.mem_cons_self)
  | a :: a' :: r, b :: b' :: r', _, _, h1, h2, h => by
    obtain ⟨e1, e2⟩ := cut_at (h1 a List.mem_cons_self) (h2 b List.mem_cons_self) (show a ++ c :: jl c (a' :: r) = b ++ c :: jl c (b' :: r') from h)
    have ih := jl_inj (by simp) (by simp) (fun p hp => h1 p (List.mem_cons_of_mem _ hp)) (fun q hq => h2 q (List.mem_cons_of_mem _ hq)) e2
    rw [e1, ih]
theorem jl_mem {c d : Nat} : ∀ {ls : List (List Nat)}, d ∈ jl c ls → d = c ∨ ∃ l ∈ ls, d ∈ l
  | [], h => nomatch h
  | [a], h => .inr ⟨a, List.mem_cons_self, h⟩
  | a :: b :: r, h => by
    rcases List.mem_append.mp (show d ∈ a ++ c :: jl c (b :: r) from h) with h | h
    · exact .inr ⟨a, List.mem_cons_self, h⟩
    · rcases List.mem_cons.mp h with h | h
      · exact .inl h
      · rcases jl_mem h with h | ⟨l, hl, hd⟩
        · exact .inl h
        · exact .inr ⟨l, List.mem_cons_of_mem _ hl, hd⟩
theorem jl_len {c : Nat} : ∀ ls : List (List Nat), (jl c ls).length ≤ (ls.map List.length).sum + ls.length
  | [] => Nat.zero_le _
  | [a] => by simp [jl]
  | a :: b :: r => by
    have := jl_len (c := c) (b :: r)
    simp [jl] at this ⊢
    omega
theorem jl_ne {c : Nat} : ∀ {ls : List (List Nat)}, ls ≠ [] → (∀ l ∈ ls, l ≠ []) → jl c ls ≠ []
  | [], h, _ => absurd rfl h
  | [a], _, h => h a List.mem_cons_self
  | a :: b :: r, _, _ => by simp [jl]
theorem split_join {c : Nat} {zs : List Str} (h0 : zs ≠ []) (h : ∀ z ∈ zs, c ∉ z.cps.toList) : Txt.split (Str.join ⟨#[c]⟩ zs) ⟨#[c]⟩ = zs := by
  have e1 := StrLaws.join_split (Str.join ⟨#[c]⟩ zs) ⟨#[c]⟩
  have e2 := StrLaws.split_free (Str.join ⟨#[c]⟩ zs) c
  have e3 := split_pos (Str.join ⟨#[c]⟩ zs) ⟨#[c]⟩
  generalize Txt.split (Str.join ⟨#[c]⟩ zs) ⟨#[c]⟩ = ps at e1 e2 e3
  have e4 := congrArg (fun z : Str => z.cps.toList) e1
  simp only [join_list] at e4
  have e5 := jl_inj (c := c) (by intro z; rw [List.map_eq_nil_iff] at z; rw [z] at e3; simp at e3) (by intro z; rw [List.map_eq_nil_iff] at z; exact h0 z) (by
    intro p hp
    obtain ⟨z, hz, rfl⟩ := List.mem_map.mp hp
    exact e2 z hz) (by
    intro p hp
    obtain ⟨z, hz, rfl⟩ := List.mem_map.mp hp
    exact h z hz) e4
  have inj : ∀ {as bs : List Str}, as.map (fun z => z.cps.toList) = bs.map (fun z => z.cps.toList) → as = bs := by
    intro as
    induction as with
    | nil => intro bs hb; cases bs with
      | nil => rfl
      | cons _ _ => simp at hb
    | cons a r ih => intro bs hb; cases bs with
      | nil => simp at hb
      | cons b q =>
        rw [List.map_cons, List.map_cons] at hb
        obtain ⟨h1, h2⟩ := List.cons.inj hb
        rw [str_ext h1, ih h2]
  exact inj e5
/-! a row's words, one by one -/
inductive Ev where
  | op (v : W) | cl | pl (z : Str)
structure Pl (z : Str) : Prop where
  sg : ∀ c ∈ z.cps.toList, 33 ≤ c ∧ c ≤ 126
  hd : ∃ c r, z.cps.toList = c :: r ∧ c ≠ 60
  gt : z ≠ ⟨#[62]⟩
noncomputable def wst (v : W) : Str := ⟨v.signs.toArray⟩
noncomputable def wd : Ev → Str
  | .op v => ⟨(60 :: v.signs).toArray⟩
  | .cl => ⟨#[62]⟩
  | .pl z => z
noncomputable abbrev RSt := List (Str × List W) × List W
noncomputable def stp (st : RSt) : Ev → RSt
  | .op v => (st.1, st.2 ++ [v])
  | .cl => (st.1, st.2.dropLast)
  | .pl z => (st.1 ++ [(z, st.2)], st.2)
noncomputable def rn (evs : List Ev) : RSt := evs.foldl stp ([], [])
noncomputable def evok (n : Nat) (ar : List W) : Ev → Prop
  | .op v => v.ok n ∧ v.signs.length ≤ 100 ∧ ar.length < 5
  | .cl => ar ≠ []
  | .pl z => Pl z ∧ z.length ≤ 5
noncomputable def Gev (n : Nat) (evs : List Ev) : Prop := ∀ i e, evs[i]? = some e → evok n (rn (evs.take i)).2 e
theorem rn_snoc (evs : List Ev) (e : Ev) : rn (evs ++ [e]) = stp (rn evs) e := by simp [rn]
theorem rn_take {evs : List Ev} {i : Nat} {e : Ev} (h : evs[i]? = some e) : rn (evs.take (i + 1)) = stp (rn (evs.take i)) e := by
  rw [List.take_succ, h]; exact rn_snoc _ _
theorem Gev.nil (n : Nat) : Gev n [] := fun i e h => by simp at h
theorem Gev.snoc {n : Nat} {evs : List Ev} {e : Ev} (g : Gev n evs) (h : evok n (rn evs).2 e) : Gev n (evs ++ [e]) := fun i e' hi => by
  by_cases hl : i < evs.length
  · rw [List.getElem?_append_left hl] at hi
    rw [List.take_append_of_le_length (by omega)]
    exact g i e' hi
  · rw [List.getElem?_append_right (by omega)] at hi
    have h0 : i - evs.length = 0 := by
      cases hh : i - evs.length with
      | zero => rfl
      | succ m => rw [hh] at hi; simp at hi
    rw [h0] at hi
    have e1 : e = e' := by simpa using hi
    have e2 : i = evs.length := by omega
    subst e1 e2
    rw [List.take_append_of_le_length (Nat.le_refl _), List.take_length]
    exact h
theorem Gev.close {n : Nat} : ∀ (k : Nat) {evs : List Ev}, Gev n evs → (rn evs).2.length = k → Gev n (evs ++ List.replicate k .cl) ∧ rn (evs ++ List.replicate k .cl) = ((rn evs).1, [])
  | 0, evs, g, h => by
    have : (rn evs).2 = [] := List.eq_nil_of_length_eq_zero h
    refine ⟨by simpa using g, ?_⟩
    simp only [List.replicate_zero, List.append_nil]
    rw [← this]
  | k + 1, evs, g, h => by
    have hn : (rn evs).2 ≠ [] := fun z => by rw [z] at h; simp at h
    have g1 : Gev n (evs ++ [.cl]) := g.snoc hn
    have e1 := rn_snoc evs .cl
    obtain ⟨g2, e2⟩ := Gev.close k g1 (by rw [e1]; show (rn evs).2.dropLast.length = k; rw [List.length_dropLast]; omega)
    rw [List.replicate_succ, show evs ++ Ev.cl :: List.replicate k Ev.cl = evs ++ [Ev.cl] ++ List.replicate k Ev.cl by simp]
    exact ⟨g2, by rw [e2, e1]; rfl⟩
theorem signs_range {n : Nat} (hn : n ≤ 10) : ∀ v : W, v.ok n → ∀ c ∈ v.signs, 33 ≤ c ∧ c ≤ 126 := by
  intro v
  induction v with
  | c0 => intro _ c h; simp [W.signs] at h; omega
  | c1 => intro _ c h; simp [W.signs] at h; omega
  | sw k => intro hk c h; have hk' : k < n := hk; simp [W.signs] at h; omega
  | no a ih =>
    intro hk c h
    rcases List.mem_cons.mp h with e | e
    · omega
    · exact ih hk c e
  | an a b iha ihb =>
    intro hk c h
    rcases List.mem_cons.mp h with e | e
    · omega
    · rcases List.mem_append.mp e with e | e
      · exact iha hk.1 c e
      · exact ihb hk.2 c e
  | orr a b iha ihb =>
    intro hk c h
    rcases List.mem_cons.mp h with e | e
    · omega
    · rcases List.mem_append.mp e with e | e
      · exact iha hk.1 c e
      · exact ihb hk.2 c e
  | xo a b iha ihb =>
    intro hk c h
    rcases List.mem_cons.mp h with e | e
    · omega
    · rcases List.mem_append.mp e with e | e
      · exact iha hk.1 c e
      · exact ihb hk.2 c e
  | ch k a b iha ihb =>
    intro hk c h
    have hk' : k < n := hk.1
    rcases List.mem_cons.mp h with e | e
    · omega
    · rcases List.mem_cons.mp e with e | e
      · omega
      · rcases List.mem_append.mp e with e | e
        · exact iha hk.2.1 c e
        · exact ihb hk.2.2 c e
theorem evok_wd {n : Nat} (hn : n ≤ 10) {ar : List W} {e : Ev} (h : evok n ar e) : (∀ c ∈ (wd e).cps.toList, 33 ≤ c ∧ c ≤ 126) ∧ (wd e).cps.toList ≠ [] ∧ (wd e).length ≤ 101 := by
  cases e with
  | op v =>
    obtain ⟨h1, h2, _⟩ := h
    refine ⟨fun c hc => ?_, by simp [wd], by simp [wd, Str.length]; omega⟩
    rcases List.mem_cons.mp (show c ∈ 60 :: v.signs by simpa [wd] using hc) with z | z
    · omega
    · exact signs_range hn v h1 c z
  | cl => exact ⟨fun c hc => by have : c = 62 := by simpa [wd] using hc
                                omega, by simp [wd], by decide⟩
  | pl z =>
    obtain ⟨h1, h2⟩ := h
    obtain ⟨c, r, e, _⟩ := h1.hd
    exact ⟨h1.sg, by show z.cps.toList ≠ []; rw [e]; simp, by show z.length ≤ 101; omega⟩
theorem Gev.wd {n : Nat} (hn : n ≤ 10) {evs : List Ev} (g : Gev n evs) : ∀ z ∈ evs.map wd, (∀ c ∈ z.cps.toList, 33 ≤ c ∧ c ≤ 126) ∧ z.cps.toList ≠ [] ∧ z.length ≤ 101 := fun z hz => by
  obtain ⟨e, he, rfl⟩ := List.mem_map.mp hz
  obtain ⟨i, hi⟩ := List.mem_iff_getElem?.mp he
  exact evok_wd hn (g i e hi)
theorem sum_le {l : List Nat} {b : Nat} (h : ∀ x ∈ l, x ≤ b) : l.sum ≤ l.length * b := by
  induction l with
  | nil => simp
  | cons a r ih =>
    have h1 := h a List.mem_cons_self
    have h2 := ih fun x hx => h x (List.mem_cons_of_mem _ hx)
    simp only [List.sum_cons, List.length_cons, Nat.add_mul, Nat.one_mul]
    omega
/-- the text of a row -/
noncomputable def rowT (evs : List Ev) : Str := Str.join ⟨#[32]⟩ (evs.map Mm.wd)
theorem rowT_len {n : Nat} (hn : n ≤ 10) {evs : List Ev} (g : Gev n evs) : (rowT evs).length ≤ evs.length * 102 := by
  rw [str_len, rowT, join_list]
  refine Nat.le_trans (jl_len _) ?_
  have := sum_le (l := ((evs.map Mm.wd).map fun z => z.cps.toList).map List.length) (b := 101) (fun x hx => by
    obtain ⟨l, hl, rfl⟩ := List.mem_map.mp hx
    obtain ⟨z, hz, rfl⟩ := List.mem_map.mp hl
    have := (g.wd hn z hz).2.2
    rw [str_len] at this
    exact this)
  simp only [List.length_map] at this ⊢
  omega
theorem rowT_sg {n : Nat} (hn : n ≤ 10) {evs : List Ev} (g : Gev n evs) : ∀ c ∈ (rowT evs).cps.toList, c = 32 ∨ (33 ≤ c ∧ c ≤ 126) := fun c hc => by
  rw [rowT, join_list] at hc
  rcases jl_mem hc with h | ⟨l, hl, hd⟩
  · exact .inl h
  · obtain ⟨z, hz, rfl⟩ := List.mem_map.mp hl
    exact .inr ((g.wd hn z hz).1 c hd)
theorem rowT_nil {n : Nat} (hn : n ≤ 10) {evs : List Ev} (g : Gev n evs) (h : evs ≠ []) : (rowT evs).cps.toList ≠ [] := by
  rw [rowT, join_list]
  refine jl_ne (by simpa using h) fun l hl => ?_
  obtain ⟨z, hz, rfl⟩ := List.mem_map.mp hl
  exact (g.wd hn z hz).2.1
theorem rowT_split {n : Nat} (hn : n ≤ 10) {evs : List Ev} (g : Gev n evs) (h : evs ≠ []) : Txt.split (rowT evs) ⟨#[32]⟩ = evs.map Mm.wd :=
  split_join (by simpa using h) fun z hz hc => by have := (g.wd hn z hz).1 32 hc; omega
end Mm

set_option linter.all false
namespace Mm
/-! a setting with a switch put on, put off -/
noncomputable def pOn (k s : Nat) : Nat := if s.testBit k then s else s + 2 ^ k
noncomputable def pOff (k s : Nat) : Nat := if s.testBit k then s - 2 ^ k else s
theorem parts_of (s k : Nat) : s = 2 ^ (k + 1) * (s / 2 ^ (k + 1)) + (2 ^ k * (s.testBit k).toNat + s % 2 ^ k) := by
  have h := Nat.div_add_mod s (2 ^ (k + 1))
  have h2 : s % 2 ^ (k + 1) = s % 2 ^ k + 2 ^ k * (s.testBit k).toNat := by rw [Nat.toNat_testBit]; exact Nat.mod_pow_succ
  omega
theorem parts_bit {k q b r : Nat} (hb : b < 2) (hr : r < 2 ^ k) (i : Nat) : (2 ^ (k + 1) * q + (2 ^ k * b + r)).testBit i = if i < k then r.testBit i else if i = k then decide (b = 1) else q.testBit (i - (k + 1)) := by
  have e : 2 ^ (k + 1) = 2 ^ k * 2 := Nat.pow_succ 2 k
  have hv : 2 ^ k * b + r < 2 ^ (k + 1) := by
    have : b = 0 ∨ b = 1 := by omega
    rcases this with rfl | rfl <;> omega
  rw [Nat.testBit_two_pow_mul_add _ hv]
  by_cases h1 : i < k
  · rw [if_pos (by omega), if_pos h1, Nat.testBit_two_pow_mul_add _ hr, if_pos h1]
  · rw [if_neg h1]
    by_cases h2 : i = k
    · subst h2
      rw [if_pos (by omega), if_pos rfl, Nat.testBit_two_pow_mul_add _ hr, if_neg (by omega), Nat.sub_self]
      have : b = 0 ∨ b = 1 := by omega
      rcases this with rfl | rfl <;> rfl
    · rw [if_neg (by omega), if_neg h2]
theorem add_bit {s k : Nat} (h : s.testBit k = false) (i : Nat) : (s + 2 ^ k).testBit i = if i = k then true else s.testBit i := by
  have p := parts_of s k
  rw [h] at p
  have hr : s % 2 ^ k < 2 ^ k := Nat.mod_lt _ (Nat.two_pow_pos k)
  generalize s / 2 ^ (k + 1) = q at p
  generalize s % 2 ^ k = r at p hr
  have e1 : s + 2 ^ k = 2 ^ (k + 1) * q + (2 ^ k * 1 + r) := by
    rw [p]; simp; omega
  have e2 : s.testBit i = (2 ^ (k + 1) * q + (2 ^ k * 0 + r)).testBit i := by rw [p]; rfl
  rw [e1, e2, parts_bit (by decide) hr, parts_bit (by decide) hr]
  by_cases h1 : i = k
  · subst h1; simp
  · rw [if_neg h1, if_neg h1, if_neg h1]
theorem sub_bit {s k : Nat} (h : s.testBit k = true) (i : Nat) : (s - 2 ^ k).testBit i = if i = k then false else s.testBit i := by
  have p := parts_of s k
  rw [h] at p
  have hr : s % 2 ^ k < 2 ^ k := Nat.mod_lt _ (Nat.two_pow_pos k)
  generalize s / 2 ^ (k + 1) = q at p
  generalize s % 2 ^ k = r at p hr
  have e1 : s - 2 ^ k = 2 ^ (k + 1) * q + (2 ^ k * 0 + r) := by
    rw [p]; simp; omega
  have e2 : s.testBit i = (2 ^ (k + 1) * q + (2 ^ k * 1 + r)).testBit i := by rw [p]; rfl
  rw [e1, e2, parts_bit (by decide) hr, parts_bit (by decide) hr]
  by_cases h1 : i = k
  · subst h1; simp
  · rw [if_neg h1, if_neg h1, if_neg h1]
theorem pOn_bit (k s i : Nat) : (pOn k s).testBit i = if i = k then true else s.testBit i := by
  unfold pOn
  cases h : s.testBit k with
  | true =>
    rw [if_pos rfl]
    by_cases h1 : i = k
    · subst h1; rw [if_pos rfl, h]
    · rw [if_neg h1]
  | false => rw [if_neg Bool.false_ne_true, add_bit h]
theorem pOff_bit (k s i : Nat) : (pOff k s).testBit i = if i = k then false else s.testBit i := by
  unfold pOff
  cases h : s.testBit k with
  | true => rw [if_pos rfl, sub_bit h]
  | false =>
    rw [if_neg Bool.false_ne_true]
    by_cases h1 : i = k
    · subst h1; rw [if_pos rfl, h]
    · rw [if_neg h1]
theorem lt_of_bits {s n : Nat} (h : ∀ i, n ≤ i → s.testBit i = false) : s < 2 ^ n := Nat.lt_pow_two_of_testBit _ h
theorem pOn_lt {k s n : Nat} (hk : k < n) (hs : s < 2 ^ n) : pOn k s < 2 ^ n := lt_of_bits fun i hi => by
  rw [pOn_bit, if_neg (by omega)]
  exact Nat.testBit_lt_two_pow (Nat.lt_of_lt_of_le hs (Nat.pow_le_pow_right (by decide) hi))
theorem pOff_lt {k s n : Nat} (hs : s < 2 ^ n) : pOff k s < 2 ^ n := by
  unfold pOff
  split
  · exact Nat.lt_of_le_of_lt (Nat.sub_le _ _) hs
  · exact hs
theorem pOn_pOn (i k s : Nat) : pOn i (pOn k s) = pOn k (pOn i s) := Nat.eq_of_testBit_eq fun j => by
  simp only [pOn_bit]; split <;> split <;> rfl
theorem pOn_pOff {i k : Nat} (h : i ≠ k) (s : Nat) : pOn i (pOff k s) = pOff k (pOn i s) := Nat.eq_of_testBit_eq fun j => by
  simp only [pOn_bit, pOff_bit]
  by_cases h1 : j = i
  · subst h1; simp [h]
  · simp [h1]
theorem pOff_pOff (i k s : Nat) : pOff i (pOff k s) = pOff k (pOff i s) := Nat.eq_of_testBit_eq fun j => by
  simp only [pOff_bit]; split <;> split <;> rfl
theorem pOn_self (k s : Nat) : pOn k (pOn k s) = pOn k s := Nat.eq_of_testBit_eq fun j => by simp only [pOn_bit]; split <;> rfl
theorem pOn_off (k s : Nat) : pOn k (pOff k s) = pOn k s := Nat.eq_of_testBit_eq fun j => by simp only [pOn_bit, pOff_bit]; split <;> rfl
theorem pOff_on (k s : Nat) : pOff k (pOn k s) = pOff k s := Nat.eq_of_testBit_eq fun j => by simp only [pOn_bit, pOff_bit]; split <;> rfl
theorem pOff_self (k s : Nat) : pOff k (pOff k s) = pOff k s := Nat.eq_of_testBit_eq fun j => by simp only [pOff_bit]; split <;> rfl
/-! a mask with a switch put on, put off -/
noncomputable def onM (k n m : Nat) : Nat := mk (fun s => m.testBit (pOn k s)) (2 ^ n)
noncomputable def offM (k n m : Nat) : Nat := mk (fun s => m.testBit (pOff k s)) (2 ^ n)
theorem onM_lt (k n m : Nat) : onM k n m < 2 ^ 2 ^ n := mk_lt _ _
theorem offM_lt (k n m : Nat) : offM k n m < 2 ^ 2 ^ n := mk_lt _ _
theorem onM_bit {k n m s : Nat} (hs : s < 2 ^ n) : (onM k n m).testBit s = m.testBit (pOn k s) := by unfold onM; rw [mk_bit]; simp [hs]
theorem offM_bit {k n m s : Nat} (hs : s < 2 ^ n) : (offM k n m).testBit s = m.testBit (pOff k s) := by unfold offM; rw [mk_bit]; simp [hs]
theorem high {m N s : Nat} (h : m < 2 ^ N) (hs : N ≤ s) : m.testBit s = false := Nat.testBit_lt_two_pow (Nat.lt_of_lt_of_le h (Nat.pow_le_pow_right (by decide) hs))
theorem on_prog {k n m : Nat} (hk : k < n) (hm : m < 2 ^ 2 ^ n) : (m &&& sw k n) ||| ((m &&& sw k n) / 2 ^ 2 ^ k) = onM k n m := by
  refine mk_eq fun s => ?_
  rw [Nat.testBit_or, Nat.testBit_and, sw_bit, ← Nat.shiftRight_eq_div_pow, Nat.testBit_shiftRight, Nat.testBit_and, sw_bit]
  by_cases hs : s < 2 ^ n
  · cases hb : s.testBit k with
    | true =>
      have e1 : pOn k s = s := by unfold pOn; rw [hb, if_pos rfl]
      have e2 : (2 ^ k + s).testBit k = false := by
        have hsub := sub_bit (s := 2 ^ k + s) (k := k)
        cases hc : (2 ^ k + s).testBit k with
        | false => rfl
        | true =>
          have := hsub hc k
          rw [if_pos rfl, Nat.add_sub_cancel_left] at this
          rw [hb] at this
          cases this
      rw [e1, e2]
      simp [hs]
    | false =>
      have e1 : pOn k s = 2 ^ k + s := by unfold pOn; rw [hb, if_neg Bool.false_ne_true]; omega
      have hl : 2 ^ k + s < 2 ^ n := by have := pOn_lt hk hs; rw [e1] at this; exact this
      have e2 : (2 ^ k + s).testBit k = true := by rw [← e1, pOn_bit, if_pos rfl]
      rw [e1, e2]
      simp [hs, hl]
  · have h1 : m.testBit s = false := high hm (by omega)
    have h2 : m.testBit (2 ^ k + s) = false := high hm (Nat.le_trans (Nat.le_of_not_lt hs) (Nat.le_add_left _ _))
    rw [h1, h2]
    simp [hs]
theorem off_prog {k n m : Nat} (hk : k < n) (hm : m < 2 ^ 2 ^ n) : (m &&& ((2 ^ 2 ^ n - 1) ^^^ sw k n)) ||| ((m &&& ((2 ^ 2 ^ n - 1) ^^^ sw k n)) * 2 ^ 2 ^ k) = offM k n m := by
  refine mk_eq fun s => ?_
  rw [Nat.testBit_or, ← Nat.shiftLeft_eq, Nat.testBit_shiftLeft]
  simp only [Nat.testBit_and, Nat.testBit_xor, sw_bit, Nat.testBit_two_pow_sub_one]
  by_cases hs : s < 2 ^ n
  · cases hb : s.testBit k with
    | true =>
      have e1 : pOff k s = s - 2 ^ k := by unfold pOff; rw [hb, if_pos rfl]
      have hge : 2 ^ k ≤ s := Nat.ge_two_pow_of_testBit hb
      have e2 : (s - 2 ^ k).testBit k = false := by rw [sub_bit hb, if_pos rfl]
      have hl : s - 2 ^ k < 2 ^ n := Nat.lt_of_le_of_lt (Nat.sub_le _ _) hs
      rw [e1, e2]
      simp [hs, hge, hl]
    | false =>
      have e1 : pOff k s = s := by unfold pOff; rw [hb, if_neg Bool.false_ne_true]
      rw [e1]
      by_cases hge : 2 ^ k ≤ s
      · have e2 : (s - 2 ^ k).testBit k = true := by
          cases hc : (s - 2 ^ k).testBit k with
          | true => rfl
          | false =>
            have := add_bit hc k
            rw [if_pos rfl, Nat.sub_add_cancel hge] at this
            rw [hb] at this
            cases this
        have hl : s - 2 ^ k < 2 ^ n := Nat.lt_of_le_of_lt (Nat.sub_le _ _) hs
        rw [e2]
        simp [hs, hge, hl]
      · simp [hs, hge]
  · have h1 : m.testBit s = false := high hm (by omega)
    rw [h1]
    by_cases hge : 2 ^ k ≤ s
    · by_cases hl : s - 2 ^ k < 2 ^ n
      · cases hc : (s - 2 ^ k).testBit k with
        | true => simp [hs, hl]
        | false =>
          exfalso
          have := pOn_lt hk hl
          unfold pOn at this
          rw [hc, if_neg Bool.false_ne_true, Nat.sub_add_cancel hge] at this
          exact hs this
      · have h2 : m.testBit (s - 2 ^ k) = false := high hm (by omega)
        simp [hs, h2]
    · simp [hs, hge]
/-! a mask that hangs on no switch ahead of k -/
noncomputable def Ind (k n m : Nat) : Prop := ∀ i, i < k → ∀ s, s < 2 ^ n → m.testBit (pOn i s) = m.testBit (pOff i s)
theorem Ind.zero (n m : Nat) : Ind 0 n m := fun i hi => absurd hi (Nat.not_lt_zero i)
theorem Ind.succ {k n m : Nat} (h : Ind k n m) (e : onM k n m = offM k n m) : Ind (k + 1) n m := fun i hi s hs => by
  by_cases hik : i = k
  · subst hik; rw [← onM_bit hs, ← offM_bit hs, e]
  · exact h i (by omega) s hs
theorem Ind.on {k n m : Nat} (hk : k < n) (h : Ind k n m) : Ind (k + 1) n (onM k n m) := fun i hi s hs => by
  have hin : i < n := by omega
  rw [onM_bit (pOn_lt hin hs), onM_bit (pOff_lt hs)]
  by_cases hik : i = k
  · subst hik; rw [pOn_self, pOn_off]
  · rw [pOn_pOn, pOn_pOff (Ne.symm hik)]
    exact h i (by omega) _ (pOn_lt hk hs)
theorem Ind.off {k n m : Nat} (hk : k < n) (h : Ind k n m) : Ind (k + 1) n (offM k n m) := fun i hi s hs => by
  have hin : i < n := by omega
  rw [offM_bit (pOn_lt hin hs), offM_bit (pOff_lt hs)]
  by_cases hik : i = k
  · subst hik; rw [pOff_on, pOff_self]
  · rw [← pOn_pOff hik, pOff_pOff]
    exact h i (by omega) _ (pOff_lt hs)
theorem Ind.const {n m : Nat} (h : Ind n n m) : ∀ (b s : Nat), s ≤ b → s < 2 ^ n → m.testBit s = m.testBit 0
  | b, s, hb, hs => by
    by_cases h0 : s = 0
    · rw [h0]
    · obtain ⟨k, hk⟩ : ∃ k, s.testBit k = true := by
        apply Classical.byContradiction
        intro hn
        exact h0 (Nat.eq_of_testBit_eq fun i => by
          rw [Nat.zero_testBit]
          cases e : s.testBit i with
          | false => rfl
          | true => exact absurd ⟨i, e⟩ hn)
      have hge : 2 ^ k ≤ s := Nat.ge_two_pow_of_testBit hk
      have hkn : k < n := (Nat.pow_lt_pow_iff_right (by decide)).mp (Nat.lt_of_le_of_lt hge hs)
      have hp := Nat.two_pow_pos k
      have e1 : pOn k s = s := by unfold pOn; rw [hk, if_pos rfl]
      have e2 : pOff k s = s - 2 ^ k := by unfold pOff; rw [hk, if_pos rfl]
      have hh := h k hkn s hs
      rw [e1, e2] at hh
      rw [hh]
      match b with
      | 0 => omega
      | b + 1 => exact Ind.const h b (s - 2 ^ k) (by omega) (by omega)
/-! the shown wish -/
noncomputable def sh (n : Nat) : Nat → Nat → W
  | 0, m => if m = 0 then .c0 else .c1
  | j + 1, m => if m = 0 then .c0 else if m = 2 ^ 2 ^ n - 1 then .c1 else if onM (n - (j + 1)) n m = offM (n - (j + 1)) n m then sh n j m
      else .ch (n - (j + 1)) (sh n j (onM (n - (j + 1)) n m)) (sh n j (offM (n - (j + 1)) n m))
theorem full_bit {n s : Nat} (hs : s < 2 ^ n) : (2 ^ 2 ^ n - 1).testBit s = true := by rw [Nat.testBit_two_pow_sub_one]; simpa using hs
theorem last_full {n m : Nat} (h : Ind n n m) (hm : m < 2 ^ 2 ^ n) (h0 : m ≠ 0) : m = 2 ^ 2 ^ n - 1 := by
  have h1 : m.testBit 0 = true := by
    cases e : m.testBit 0 with
    | true => rfl
    | false =>
      exfalso
      refine h0 (Nat.eq_of_testBit_eq fun s => ?_)
      rw [Nat.zero_testBit]
      by_cases hs : s < 2 ^ n
      · rw [h.const s s (Nat.le_refl _) hs, e]
      · exact high hm (by omega)
  refine Nat.eq_of_testBit_eq fun s => ?_
  rw [Nat.testBit_two_pow_sub_one]
  by_cases hs : s < 2 ^ n
  · rw [h.const s s (Nat.le_refl _) hs, h1]; simp [hs]
  · rw [high hm (by omega)]; simp [hs]
theorem sh_ok {n : Nat} : ∀ (j m : Nat), j ≤ n → (sh n j m).ok n
  | 0, m, _ => by unfold sh; split <;> trivial
  | j + 1, m, hj => by
    unfold sh
    split
    · trivial
    · split
      · trivial
      · split
        · exact sh_ok j m (by omega)
        · exact ⟨by omega, sh_ok j _ (by omega), sh_ok j _ (by omega)⟩
theorem sh_ev {n : Nat} : ∀ (j m : Nat), j ≤ n → m < 2 ^ 2 ^ n → Ind (n - j) n m → ∀ s, s < 2 ^ n → (sh n j m).ev s = m.testBit s
  | 0, m, _, hm, hi, s, hs => by
    unfold sh
    by_cases h0 : m = 0
    · rw [if_pos h0, h0, Nat.zero_testBit]; rfl
    · rw [if_neg h0, last_full (n := n) hi hm h0, full_bit hs]; rfl
  | j + 1, m, hj, hm, hi, s, hs => by
    unfold sh
    by_cases h0 : m = 0
    · rw [if_pos h0, h0, Nat.zero_testBit]; rfl
    · rw [if_neg h0]
      by_cases h1 : m = 2 ^ 2 ^ n - 1
      · rw [if_pos h1, h1, full_bit hs]; rfl
      · rw [if_neg h1]
        have hk : n - (j + 1) < n := by omega
        have ek : n - (j + 1) + 1 = n - j := by omega
        by_cases h2 : onM (n - (j + 1)) n m = offM (n - (j + 1)) n m
        · rw [if_pos h2]
          exact sh_ev j m (by omega) hm (ek ▸ hi.succ h2) s hs
        · rw [if_neg h2]
          simp only [W.ev]
          rw [sh_ev j _ (by omega) (onM_lt _ _ _) (ek ▸ hi.on hk) s hs, sh_ev j _ (by omega) (offM_lt _ _ _) (ek ▸ hi.off hk) s hs, onM_bit hs, offM_bit hs]
          cases hb : s.testBit (n - (j + 1)) with
          | true => rw [if_pos rfl]; unfold pOn; rw [hb, if_pos rfl]
          | false => rw [if_neg Bool.false_ne_true]; unfold pOff; rw [hb, if_neg Bool.false_ne_true]
theorem sh_len {n : Nat} : ∀ (j m : Nat), (sh n j m).signs.length + 2 ≤ 3 * 2 ^ j
  | 0, m => by unfold sh; split <;> simp [W.signs]
  | j + 1, m => by
    have hp := Nat.two_pow_pos j
    have e : 2 ^ (j + 1) = 2 ^ j * 2 := Nat.pow_succ 2 j
    unfold sh
    split
    · simp [W.signs]; omega
    · split
      · simp [W.signs]; omega
      · split
        · have := sh_len (n := n) j m; omega
        · have h1 := sh_len (n := n) j (onM (n - (j + 1)) n m)
          have h2 := sh_len (n := n) j (offM (n - (j + 1)) n m)
          simp only [W.signs, List.length_cons, List.length_append]
          omega
/-! letters rise, no two parts alike -/
noncomputable def tp (n : Nat) : W → Nat
  | .ch k _ _ => k
  | _ => n
noncomputable def Ris (n : Nat) : W → Prop
  | .c0 => True
  | .c1 => True
  | .ch k a b => k < n ∧ k < tp n a ∧ k < tp n b ∧ a.signs ≠ b.signs ∧ Ris n a ∧ Ris n b
  | _ => False
/-- what it comes to by the switches' masks is the mask -/
theorem sh_val {n j m : Nat} {sws : List Nat} (hl : ∀ k, k < n → ∀ s, s < 2 ^ n → (sws.getD k 0).testBit s = s.testBit k) (hs : ∀ x ∈ sws, x < 2 ^ 2 ^ n) (hj : j ≤ n) (hm : m < 2 ^ 2 ^ n) (hi : Ind (n - j) n m) : (sh n j m).val sws (2 ^ 2 ^ n - 1) = m := by
  have hp := Nat.two_pow_pos (2 ^ n)
  have hv : (sh n j m).val sws (2 ^ 2 ^ n - 1) < 2 ^ 2 ^ n := val_lt (by omega) hs _
  refine Nat.eq_of_testBit_eq fun s => ?_
  by_cases h : s < 2 ^ n
  · rw [val_bit (full_bit h) (fun k hk => hl k hk s h) _ (sh_ok j m hj), sh_ev j m hj hm hi s h]
  · rw [high hv (by omega), high hm (by omega)]
/-! trees, read from behind -/
noncomputable def Riss (n : Nat) (ws : List W) : Prop := ∀ w ∈ ws, Ris n w
theorem Riss.cons {n : Nat} {w : W} {ws : List W} (h : Ris n w) (hs : Riss n ws) : Riss n (w :: ws) := fun x hx => by
  rcases List.mem_cons.mp hx with e | e
  · subst e; exact h
  · exact hs x e
theorem Riss.hd {n : Nat} {w : W} {ws : List W} (h : Riss n (w :: ws)) : Ris n w := h w List.mem_cons_self
theorem Riss.tl {n : Nat} {w : W} {ws : List W} (h : Riss n (w :: ws)) : Riss n ws := fun x hx => h x (List.mem_cons_of_mem _ hx)
theorem Riss.nil {n : Nat} : Riss n [] := fun x hx => nomatch hx
end Mm

set_option linter.all false
namespace Mm
open PySem
/-! tidying: words that come together -/
noncomputable abbrev Cs := List (Nat × List Str)
noncomputable def cmtS (m : Nat) (cs : Cs) (w : Str × Nat) : Cs :=
  match cs.getLast? with
  | some c => if c.1 = w.2 &&& m then cs.dropLast ++ [(c.1, c.2 ++ [w.1])] else if w.2 &&& m = 0 then cs else cs ++ [(w.2 &&& m, [w.1])]
  | none => if w.2 &&& m = 0 then cs else cs ++ [(w.2 &&& m, [w.1])]
noncomputable def cmt (m : Nat) (r : List (Str × Nat)) : Cs := r.foldl (cmtS m) []
theorem cmt_snoc (m : Nat) (r : List (Str × Nat)) (w : Str × Nat) : cmt m (r ++ [w]) = cmtS m (cmt m r) w := by simp [cmt]
theorem cmtS_nil (m : Nat) (w : Str × Nat) : cmtS m [] w = if w.2 &&& m = 0 then [] else [(w.2 &&& m, [w.1])] := by simp [cmtS]
theorem cmtS_snoc (m : Nat) (cs : Cs) (c : Nat × List Str) (w : Str × Nat) : cmtS m (cs ++ [c]) w = if c.1 = w.2 &&& m then cs ++ [(c.1, c.2 ++ [w.1])] else if w.2 &&& m = 0 then cs ++ [c] else cs ++ [c] ++ [(w.2 &&& m, [w.1])] := by simp [cmtS]
theorem snoc_cases {α : Type} (l : List α) : l = [] ∨ ∃ r x, l = r ++ [x] := by
  rcases List.eq_nil_or_concat l with h | ⟨r, x, h⟩
  · exact .inl h
  · exact .inr ⟨r, x, by simpa using h⟩
/-- what they are like -/
structure CI (m : Nat) (P : Str → Prop) (cs : Cs) : Prop where
  ne : ∀ c ∈ cs, c.1 ≠ 0 ∧ c.1 &&& m = c.1 ∧ c.2 ≠ [] ∧ ∀ z ∈ c.2, P z
  nb : ∀ (a b : Cs) (x y : Nat × List Str), cs = a ++ [x] ++ [y] ++ b → x.1 ≠ y.1
theorem and_self' (a m : Nat) : a &&& m &&& m = a &&& m := by rw [Nat.and_assoc, Nat.and_self]
theorem CI.nil (m : Nat) (P : Str → Prop) : CI m P [] := ⟨by simp, fun a b x y h => by simp at h⟩
theorem CI.push {m : Nat} {P : Str → Prop} {cs : Cs} {c : Nat × List Str} (h : CI m P cs) (h1 : c.1 ≠ 0 ∧ c.1 &&& m = c.1 ∧ c.2 ≠ [] ∧ ∀ z ∈ c.2, P z) (h2 : ∀ a x, cs = a ++ [x] → x.1 ≠ c.1) : CI m P (cs ++ [c]) := by
  refine ⟨fun d hd => ?_, fun a b x y e => ?_⟩
  · rcases List.mem_append.mp hd with z | z
    · exact h.ne d z
    · rw [List.mem_singleton.mp z]; exact h1
  · rcases snoc_cases b with z | ⟨b', y', z⟩
    · subst z
      rw [List.append_nil] at e
      have e1 := List.append_inj' e rfl
      have e2 : c = y := by simpa using e1.2
      rw [← e2]
      exact h2 a x e1.1
    · subst z
      rw [← List.append_assoc] at e
      have e1 := List.append_inj' e rfl
      exact h.nb a b' x y e1.1
theorem CI.step {m : Nat} {P : Str → Prop} {cs : Cs} {w : Str × Nat} (h : CI m P cs) (hw : P w.1) : CI m P (cmtS m cs w) := by
  rcases snoc_cases cs with z | ⟨cs', c, z⟩
  · subst z
    rw [cmtS_nil]
    split
    · exact h
    · rename_i h0
      exact CI.push h ⟨h0, and_self' _ _, by simp, fun z hz => by rw [List.mem_singleton.mp hz]; exact hw⟩ fun a x e => by simp at e
  · subst z
    rw [cmtS_snoc]
    have hc := h.ne c (by simp)
    split
    · rename_i he
      have h' : CI m P cs' := ⟨fun d hd => h.ne d (List.mem_append_left _ hd), fun a b x y e => h.nb a (b ++ [c]) x y (by rw [e]; simp)⟩
      refine CI.push h' ⟨hc.1, hc.2.1, by simp, fun z hz => ?_⟩ fun a x e => ?_
      · rcases List.mem_append.mp hz with q | q
        · exact hc.2.2.2 z q
        · rw [List.mem_singleton.mp q]; exact hw
      · exact h.nb a [] x c (by rw [e]; simp)
    · rename_i he
      split
      · exact h
      · rename_i h0
        refine CI.push h ⟨h0, and_self' _ _, by simp, fun z hz => by rw [List.mem_singleton.mp hz]; exact hw⟩ fun a x e => ?_
        have := List.append_inj' e rfl
        have e2 : c = x := by simpa using this.2
        rw [← e2]; exact he
theorem cmt_ci {m : Nat} {P : Str → Prop} : ∀ {r : List (Str × Nat)}, (∀ w ∈ r, P w.1) → CI m P (cmt m r) := by
  intro r
  have g : ∀ (r : List (Str × Nat)) (cs : Cs), (∀ w ∈ r, P w.1) → CI m P cs → CI m P (r.foldl (cmtS m) cs) := by
    intro r
    induction r with
    | nil => intro cs _ h; exact h
    | cons w r ih =>
      intro cs hw h
      exact ih _ (fun x hx => hw x (List.mem_cons_of_mem _ hx)) (h.step (hw w List.mem_cons_self))
  intro hw
  exact g r [] hw (CI.nil m P)
/-- events -/
noncomputable def evC (n m : Nat) (c : Nat × List Str) : List Ev := if c.1 = m then c.2.map Ev.pl else Ev.op (sh n n c.1) :: (c.2.map Ev.pl ++ [Ev.cl])
noncomputable def tidyE (n m : Nat) (cs : Cs) : List Ev := (cs.map (evC n m)).flatten
theorem tidyE_snoc (n m : Nat) (cs : Cs) (c : Nat × List Str) : tidyE n m (cs ++ [c]) = tidyE n m cs ++ evC n m c := by simp [tidyE]
theorem stp_pls (zs : List Str) : ∀ st : RSt, (zs.map Ev.pl).foldl stp st = (st.1 ++ zs.map fun z => (z, st.2), st.2) := by
  induction zs with
  | nil => intro st; simp
  | cons z r ih =>
    intro st
    rw [List.map_cons, List.foldl_cons, ih]
    simp [stp]
theorem rn_app (a b : List Ev) : rn (a ++ b) = b.foldl stp (rn a) := by simp [rn]
noncomputable def arC (n m : Nat) (c : Nat × List Str) : List W := if c.1 = m then [] else [sh n n c.1]
theorem rn_tidy (n m : Nat) (cs : Cs) : rn (tidyE n m cs) = ((cs.map fun c => c.2.map fun z => (z, arC n m c)).flatten, []) := by
  have g : ∀ k, k ≤ cs.length → rn (tidyE n m (cs.take k)) = (((cs.take k).map fun c => c.2.map fun z => (z, arC n m c)).flatten, []) := by
    intro k
    induction k with
    | zero => intro _; rfl
    | succ k ih =>
      intro hk
      have hk' : k < cs.length := hk
      rw [List.take_succ_eq_append_getElem hk', tidyE_snoc, rn_app, ih (by omega)]
      generalize cs[k] = c
      rw [List.map_append, List.flatten_append]
      simp only [List.map_cons, List.map_nil, List.flatten_cons, List.flatten_nil, List.append_nil]
      generalize ((cs.take k).map fun c => c.2.map fun z => (z, arC n m c)).flatten = A
      by_cases h : c.1 = m
      · have ha : arC n m c = [] := if_pos h
        rw [ha]
        unfold evC
        rw [if_pos h, stp_pls]
      · have ha : arC n m c = [sh n n c.1] := if_neg h
        rw [ha]
        unfold evC
        rw [if_neg h, List.foldl_cons, List.foldl_append]
        show [Ev.cl].foldl stp ((c.2.map Ev.pl).foldl stp (A, [] ++ [sh n n c.1])) = _
        rw [stp_pls]
        simp [stp]
  have := g cs.length (Nat.le_refl _)
  rw [List.take_length] at this
  exact this
theorem gev_pls {n : Nat} {a : List Ev} (g : Gev n a) : ∀ zs : List Str, (∀ z ∈ zs, Pl z ∧ z.length ≤ 5) → Gev n (a ++ zs.map Ev.pl) := by
  intro zs
  have r : ∀ k, k ≤ zs.length → (∀ z ∈ zs, Pl z ∧ z.length ≤ 5) → Gev n (a ++ (zs.take k).map Ev.pl) := by
    intro k
    induction k with
    | zero => intro _ _; simpa using g
    | succ k ih =>
      intro hk hz
      have hk' : k < zs.length := hk
      rw [List.take_succ_eq_append_getElem hk', List.map_append, ← List.append_assoc]
      exact (ih (by omega) hz).snoc (hz _ (List.getElem_mem hk'))
  intro hz
  have := r zs.length (Nat.le_refl _) hz
  rwa [List.take_length] at this
theorem gev_tidy {n m : Nat} (hn : n ≤ 5) {cs : Cs} (h : CI m (fun z => Pl z ∧ z.length ≤ 5) cs) : Gev n (tidyE n m cs) := by
  have g : ∀ k, k ≤ cs.length → Gev n (tidyE n m (cs.take k)) := by
    intro k
    induction k with
    | zero => intro _; exact Gev.nil n
    | succ k ih =>
      intro hk
      have hk' : k < cs.length := hk
      have gk := ih (by omega)
      have hc := h.ne cs[k] (List.getElem_mem hk')
      have hrn : (rn (tidyE n m (cs.take k))).2 = [] := by rw [rn_tidy]
      rw [List.take_succ_eq_append_getElem hk', tidyE_snoc]
      generalize cs[k] = c at hc
      unfold evC
      by_cases he : c.1 = m
      · rw [if_pos he]
        exact gev_pls gk c.2 hc.2.2.2
      · rw [if_neg he]
        have hl := sh_len (n := n) n c.1
        have h32 : 2 ^ n ≤ 32 := Nat.pow_le_pow_right (by decide) hn
        have g1 : Gev n (tidyE n m (cs.take k) ++ [Ev.op (sh n n c.1)]) := gk.snoc ⟨sh_ok n c.1 (Nat.le_refl _), by omega, by rw [hrn]; decide⟩
        have g2 := gev_pls g1 c.2 hc.2.2.2
        have g3 := g2.snoc (e := Ev.cl) (by
          show (rn _).2 ≠ []
          rw [rn_app, stp_pls, rn_snoc]
          show (rn (tidyE n m (cs.take k))).2 ++ [sh n n c.1] ≠ []
          simp)
        rw [show tidyE n m (cs.take k) ++ Ev.op (sh n n c.1) :: (c.2.map Ev.pl ++ [Ev.cl]) = tidyE n m (cs.take k) ++ [Ev.op (sh n n c.1)] ++ c.2.map Ev.pl ++ [Ev.cl] by simp]
        exact g3
  have := g cs.length (Nat.le_refl _)
  rwa [List.take_length] at this
end Mm

set_option Elab.async false
set_option linter.all false
namespace L2
open PySem PySem.Spec PyProof.Rows
theorem call_isinstK {X : Cx} {K : PySem.W.Frag} {n : String} (hK : X.K = K) : CallR X (.builtin "isinstance") (fun xs H Q => ∃ x t b, xs = [x, .ty n] ∧ TyOf K H x t ∧ PySem.W.kitOne K t (.type n) = some b ∧ Q (.bl b) H) := by subst hK; exact call_isinst
end L2

namespace L2
theorem len1 {α : Type} : ∀ {us : List α}, us.length = 1 → ∃ a, us = [a]
  | [a], _ => ⟨a, rfl⟩
theorem lenS {α : Type} {n : Nat} : ∀ {us : List α}, us.length = n + 1 → ∃ a r, us = a :: r ∧ r.length = n
  | a :: r, h => ⟨a, r, rfl, Nat.succ.inj h⟩
theorem len2 {α : Type} {us : List α} (h : us.length = 2) : ∃ a b, us = [a, b] := by
  obtain ⟨a, r, rfl, k⟩ := lenS h
  obtain ⟨b, rfl⟩ := len1 k
  exact ⟨a, b, rfl⟩
theorem len3 {α : Type} {us : List α} (h : us.length = 3) : ∃ a b c, us = [a, b, c] := by
  obtain ⟨a, r, rfl, k⟩ := lenS h
  obtain ⟨b, c, rfl⟩ := len2 k
  exact ⟨a, b, c, rfl⟩
theorem len4 {α : Type} {us : List α} (h : us.length = 4) : ∃ a b c d, us = [a, b, c, d] := by
  obtain ⟨a, r, rfl, k⟩ := lenS h
  obtain ⟨b, c, d, rfl⟩ := len3 k
  exact ⟨a, b, c, d, rfl⟩
end L2

set_option Elab.async false
set_option linter.all false
set_option maxRecDepth 100000
set_option maxHeartbeats 4000000
namespace L2
open PySem PySem.Spec PyProof.Rows
/-! ### an exception on its way, of which the class and the own dict are known -/
noncomputable def TrD (h base : Heap) (e : Addr) (cls fl : Value) (dd : Option Addr) (cx : Option Value) : Prop :=
  ∃ oe vs T oT ts, h.get? e = some oe ∧ (oe.cls = cls ∧ oe.dict = dd ∧ vs[2]? = cx) ∧ oe.data = .fields vs ∧ vs[1]? = some (.ref T) ∧ base.get? T = none ∧ T ≠ e ∧ h.get? T = some oT ∧ oT.data = .fields ts ∧ ts[3]? = some fl
noncomputable def FlyD (base : Heap) (l : List Env) (e : Addr) (cls : Value) (dd : Option Addr) (cx : Option Value) (h : Heap) : Prop := base.StaysIn h ∧ base.get? e = none ∧ h.FunFrames base l ∧ TrD h base e cls .none dd cx
theorem FlyD.there {base h : Heap} {l : List Env} {e : Addr} {cls : Value} {dd : Option Addr} {cx : Option Value} (x : FlyD base l e cls dd cx h) : ∃ ob, h.get? e = some ob ∧ ob.cls = cls ∧ ob.dict = dd := by
  obtain ⟨_, _, _, oe, _, _, _, _, he, hc, _⟩ := x
  exact ⟨oe, he, hc.1, hc.2.1⟩
section
variable {M : Model} {A : Around} {E : Value → Shared → Prop} {s : Shared}
theorem FlyD.out {base h : Heap} {env : Env} {outer : List Env} {e : Addr} {cls : Value} {dd : Option Addr} {cx : Option Value} (x : FlyD base (env :: outer) e cls dd cx h) : FlyD base outer e cls dd cx h := by
  obtain ⟨k1, k2, ⟨_, _, k3⟩, k4⟩ := x
  exact ⟨k1, k2, k3, k4⟩
end
end L2

set_option Elab.async false
set_option linter.all false
set_option maxRecDepth 100000
set_option maxHeartbeats 4000000
namespace L2
open PySem PySem.Spec PyProof.Rows
/-! ### self.f = v where self is a new exception of an own class -/
noncomputable abbrev bmVE : List Value := [.type "ValueError", .type "Exception", .type "BaseException", .type "object"]
noncomputable def refsThen : Nat → List Value → Bool
  | 0, l => l == bmVE
  | n + 1, .ref _ :: r => refsThen n r
  | _ + 1, _ => false
/-- what of the text an own class of exceptions must have whose __init__ sets attributes -/
structure ICls (K : PySem.W.Frag) (C : Addr) : Prop where
  po : (PySem.W.clsIn K C).any (fun cd => refsThen 2 cd.mro) = true
  sa : PySem.W.findIn K (.ref C) "__setattr__" = some (some (.builtin "object.__setattr__"))
  hd : PySem.W.hasDictIn K C = true
section
variable {prog : Program} {w : World} {A : Around} {E : Value → Shared → Prop} {s : Shared} {K : PySem.W.Frag} {x C : Addr} {name : Str} {v : Value}
end

/-! ### C(..), C an own class of exceptions with an __init__ of its own -/
noncomputable def excInI (K : PySem.W.Frag) (C : Addr) (bmB : List Value) (newId : String) (f : Addr) : Bool := match K.lookup C with
  | some ⟨.type "type", _, .cls cd, sl⟩ => (match cd.mro, sl.toList with
    | .ref C' :: bm, [_, _, _, _, some (.builtin n), _] => C' == C && n == newId && !cd.hasDel && PySem.W.tailIn K bmB bm && PySem.W.nsOkIn K cd.ns && PySem.W.nsIn K cd.ns "__init__" == some (some (.ref f))
    | _, _ => false)
  | _ => false
section
variable {prog : Program} {w : World} {A : Around} {E : Value → Shared → Prop} {h : Heap} {g : Array GenState} {d : Drawn} {t : Nat} {os : OsState}
variable {nm q : Str} {C N : Addr} {bs bm bmB : List Value} {hdct : Bool} {sn : List Str} {sub : List Value} {ab : Bool} {col : Option Bool} {dd : Option Addr} {k0 k1 k2 k3 k5 : Option Value} {B newId initId : String}
end
section
variable {M : Model} {A : Around} {E : Value → Shared → Prop} {env : Env}
variable {nm q : Str} {C N : Addr} {bs bm : List Value} {hdct : Bool} {sn : List Str} {sub : List Value} {ab : Bool} {col : Option Bool} {dd : Option Addr} {k0 k1 k2 k3 k5 : Option Value} {newId : String}
end
end L2

set_option Elab.async false
set_option linter.all false
set_option maxRecDepth 100000
set_option maxHeartbeats 4000000
namespace L2
open PySem PySem.Spec PyProof.Rows
section
variable {prog : Program} {w : World} {A : Around} {E : Value → Shared → Prop} {s : Shared} {env : Env}
variable {nm q : Str} {C N : Addr} {bs bm bmB : List Value} {hdct : Bool} {sn : List Str} {sub : List Value} {ab : Bool} {col : Option Bool} {dd : Option Addr} {k0 k1 k2 k3 k5 : Option Value} {B newId initId : String}
end
/-! ### how an exception leaves a def: its class, its own dict -/
noncomputable def CX2 (κ : Option Value → Prop) (P : Program) (w : World) : CXT := fun outer H s E e s' => ∃ (ea : Addr) (cls : Value) (dd : Option Addr) (cx : Option Value) (B : Heap) (H' : Hp), e = .ref ea ∧ κ cx ∧ FlyD B outer ea cls dd cx s'.heap ∧
  (∀ b o, s.heap.get? b = some o → b ∉ frs outer → ∃ o', B.get? b = some o') ∧ (∀ a o, H' a = some o → ∃ ob, B.get? a = some ob) ∧ s'.os = s.os ∧ AllBare s'.gens ∧ Un (frs outer) [] H H' s.heap s'.heap ∧ HOk P w H' s'.heap ∧ E cls dd H'
section
variable {X : Cx} {pins : List (Addr × Obj)} {σ : St} {H H' : Hp} {s s' : Shared} {B h'' : Heap}
end
noncomputable def del (H : Hp) (a : Addr) : Hp := fun b => if b = a then none else H b
noncomputable def XdAt (dx : Addr) (fs : List (Str × V)) (h : Heap) : Prop := ∃ mA, h.Ns1 dx mA ∧ ∀ f, RelO (fs.lookup f) (mA f)
theorem XdAt.obj {dx : Addr} {fs : List (Str × V)} {h : Heap} (p : XdAt dx fs h) : ∃ o, h.get? dx = some o := by obtain ⟨_, ⟨o, _, _, e, _⟩, _⟩ := p; exact ⟨o, e⟩
section
variable {P : Program} {w : World} {K : PySem.W.Frag} {mg : Str → Option Value} {base : Heap} {N : List Str} {qual : Str} {scope : Scope} {f : Addr} {cd : Value} {A : Around} {outer : List Env} {s₀ : Shared} {H₀ : Hp} {E : XK}
end

/-! ### self.f = v in the __init__ of an exception -/
section
variable {X : Cx} {pins : List (Addr × Obj)} {σ : St} {H : Hp} {s : Shared} {a C t dx : Addr} {fs : List (Str × V)} {f : Str} {A : Around} {E : Value → Shared → Prop}
end
section
variable {X : Cx} {o e value : Expr} {f : Str} {pos pos' tpos : Pos} {ta tv : TE}
end
/-! ### raise C(..) -/
structure MkI (K : PySem.W.Frag) (C f : Addr) (bm : List Value) (newId : String) : Prop where
  exc : excInI K C bm newId f = true
  fn : PySem.W.isFn K (.ref f) = true
section
variable {X : Cx}
end
end L2

set_option Elab.async false
set_option linter.all false
set_option maxRecDepth 100000
set_option maxHeartbeats 4000000
namespace L2
open PySem PySem.Spec PyProof.Rows
section
variable {P : Program} {w : World} {K : PySem.W.Frag} {mg : Str → Option Value} {base : Heap} {N : List Str} {qual : Str} {scope : Scope} {f : Addr} {cd : Value} {A : Around} {outer : List Env} {s₀ : Shared} {H₀ : Hp} {E : XK}
theorem Fun.ok2 {κ : Option Value → Prop} {x qual : Str} {st : Stmt} {f : Addr} {fd : FuncData} {N ps : List Str} {k : Nat} {sp : Sp} (F : Fun K x qual st f fd) (S : FnScope N ps (defScope st)) (len : ∀ vs H Q E, sp vs H Q E → vs.length = ps.length)
    (hbody : ∀ (cdv : Value) (A : Around) (outer : List Env) (s : Shared) (H : Hp) (vs : List V) (Q : VK) (E : XK), Room k (A.deeper (envOfC qual (defScope st) s.heap.objs.size f cdv)) → sp vs H Q E →
      ∃ t, PSs (cxOf (CX2 κ P w) P w K mg base N qual (defScope st) f cdv A outer s H E) (defBody st) t ∧ t { nx := fun _ H' => Q .non H', rt := Q } (start N vs) H) : FnOk P w K mg base (CX2 κ P w) (k + 1) f fd ps sp := by
  obtain ⟨oc, od, kV, doc, pm, an, cdv, ct, osl, rfl, lk, hcd⟩ := F.ex
  exact fn_of lk hcd S len fun A outer s H vs Q E hr hsp => hbody cdv A outer s H vs Q E hr hsp
end
/-! ### a caught exception: its class, its own dict -/
noncomputable def HasD (a : Addr) (cls : Value) (dd : Option Addr) (cx : Option Value) (h : Heap) : Prop := ∃ o vs, h.get? a = some o ∧ o.cls = cls ∧ o.dict = dd ∧ o.data = .fields vs ∧ vs[2]? = cx
noncomputable def excD (a : Addr) (cls : Value) (dd : Option Addr) (cx : Option Value) : HO := .ext (HasD a cls dd cx)
theorem HasD.cls {a : Addr} {cls : Value} {dd : Option Addr} {cx : Option Value} {h : Heap} (p : HasD a cls dd cx h) : HasCls a cls h := by obtain ⟨o, _, q, r, _⟩ := p; exact ⟨o, q, r⟩
theorem FlyD.has {base h : Heap} {l : List Env} {e : Addr} {cls : Value} {dd : Option Addr} {cx : Option Value} (x : FlyD base l e cls dd cx h) : HasD e cls dd cx h := by
  obtain ⟨_, _, _, oe, vs, _, _, _, he, hc, hd, _⟩ := x
  exact ⟨oe, vs, he, hc.1, hc.2.1, hd, hc.2.2⟩
theorem FlyD.cls {base h : Heap} {l : List Env} {e : Addr} {cls : Value} {dd : Option Addr} {cx : Option Value} (x : FlyD base l e cls dd cx h) : HasCls e cls h := x.has.cls
section
variable {X : Cx}
theorem excD_has {pins : List (Addr × Obj)} {σ : St} {H : Hp} {s : Shared} {a : Addr} {cls : Value} {dd : Option Addr} {cx : Option Value} (I : Inv X pins σ H s) (e : H a = some (excD a cls dd cx)) : HasD a cls dd cx s.heap := (show ObjOk X.prog X.w H s.heap a (.ext (HasD a cls dd cx)) from I.hok a _ e).1
/-- isinstance(e, C): C an own class -/
theorem call_isexD {K : PySem.W.Frag} (hK : X.K = K) : CallR X (.builtin "isinstance") (fun xs H Q => ∃ a D C dd cx b, xs = [.ref a, .ref C] ∧ H a = some (excD a (.ref D) dd cx) ∧ XCls K D ∧ PySem.W.kitOne K (.ref D) (.ref C) = some b ∧ Q (.bl b) H) := by
  subst hK
  intro pins s σ H xs us Q I r h
  obtain ⟨a, D, C, dd, cx, b, rfl, ha, c, e, q⟩ := h
  obtain ⟨u, w', rfl, rx, rw'⟩ := vals2 r
  cases (show w' = Value.ref C from rw')
  cases (show u = Value.ref a from rx)
  exact PySem.W.kia_one (kitx_exc c) I.kIn (excD_has I ha).cls e (fun z => nomatch z) fun tk => ⟨.bl b, H, I.tok _, rfl, q⟩
end
end L2

set_option Elab.async false
set_option linter.all false
set_option maxRecDepth 100000
set_option maxHeartbeats 4000000
namespace L2
open PySem PySem.Spec PyProof.Rows
/-! ### a def with defaults -/
structure FunD (K : PySem.W.Frag) (x qual : Str) (st : Stmt) (f T : Addr) (items : List Value) (fd : FuncData) : Prop where
  ex : ∃ (oc : Value) (od : Option Addr) (kV doc pm : Value) (an : Option Addr) (cdv ct : Value) (osl : Array (Option Value)),
    fd = PySem.W.fnOf x qual (defArgs st) (defBody st) (defScope st) (.ref T) kV doc pm an cdv ct ∧ K.lookup f = some ⟨oc, od, .func fd, osl⟩ ∧ PySem.W.codeIn K cdv qual = true
  df : ∃ (o : Obj) (n : Nat), K.lookup T = some o ∧ o.data = .seq items.toArray n
section
variable {P : Program} {w : World} {K : PySem.W.Frag} {mg : Str → Option Value} {base : Heap}
theorem FunD.ok2 {κ : Option Value → Prop} {x qual : Str} {st : Stmt} {f T : Addr} {items : List Value} {fd : FuncData} {N ps : List Str} {k : Nat} {sp : Sp} (F : FunD K x qual st f T items fd) (S : FnScope N ps (defScope st)) (len : ∀ vs H Q E, sp vs H Q E → vs.length = ps.length)
    (hbody : ∀ (cdv : Value) (A : Around) (outer : List Env) (s : Shared) (H : Hp) (vs : List V) (Q : VK) (E : XK), Room k (A.deeper (envOfC qual (defScope st) s.heap.objs.size f cdv)) → sp vs H Q E →
      ∃ t, PSs (cxOf (CX2 κ P w) P w K mg base N qual (defScope st) f cdv A outer s H E) (defBody st) t ∧ t { nx := fun _ H' => Q .non H', rt := Q } (start N vs) H) : FnOk P w K mg base (CX2 κ P w) (k + 1) f fd ps sp := by
  obtain ⟨oc, od, kV, doc, pm, an, cdv, ct, osl, rfl, lk, hcd⟩ := F.ex
  exact fn_of lk hcd S len fun A outer s H vs Q E hr hsp => hbody cdv A outer s H vs Q E hr hsp
theorem FunD.binds {x qual : Str} {st : Stmt} {f T : Addr} {items ds : List Value} {fd : FuncData} {ps : List Str} (F : FunD K x qual st f T items fd)
    (h : ∀ (kV doc pm : Value) (an : Option Addr) (cdv ct : Value) (us : List Value), (us ++ ds).length = ps.length →
      ∃ k, bindArgs (PySem.W.fnOf x qual (defArgs st) (defBody st) (defScope st) (.ref T) kV doc pm an cdv ct) ⟨us, []⟩ = seqItems? (.ref T) >>= k ∧ k (some items.toArray) = pure (ps.zip (us ++ ds))) : Binds K fd ps ds := by
  obtain ⟨oc, od, kV, doc, pm, an, cdv, ct, osl, rfl, lk, hcd⟩ := F.ex
  obtain ⟨o, n, hT, hd⟩ := F.df
  intro s us KX hl
  obtain ⟨k, h1, h2⟩ := h kV doc pm an cdv ct us hl
  exact .of_defaults (T := T) rfl (KX _ _ hT) hd h1 h2
end
/-! ### x in a list of data -/
section
variable {X : Cx}
end
/-! ### sum of a list of ints -/
section
variable {X : Cx}
end
end L2

set_option Elab.async false
set_option linter.all false
set_option maxRecDepth 100000
set_option maxHeartbeats 4000000
namespace K76
open PySem L2 Mm
/-! the text by places -/
noncomputable def top (i : Nat) : Stmt := PySem.Challenge.pw_manymakes_k76_whole_cut_joined_tidied.main.body.getD i (.Pass ⟨0, 0, 0, 0⟩)
noncomputable abbrev st_every : Stmt := top 6
noncomputable abbrev st_switch_mask : Stmt := top 7
noncomputable abbrev st_is_whole : Stmt := top 8
noncomputable abbrev st_is_mask : Stmt := top 9
noncomputable abbrev st_has : Stmt := top 10
noncomputable abbrev st_settings : Stmt := top 11
noncomputable abbrev st_with_on : Stmt := top 12
noncomputable abbrev st_with_off : Stmt := top 13
noncomputable abbrev st_read_wish : Stmt := top 17
noncomputable abbrev st_mask_of_text : Stmt := top 18
noncomputable abbrev st_reckoned : Stmt := top 19
noncomputable abbrev st_taken : Stmt := top 20
noncomputable abbrev st_value_of : Stmt := top 21
noncomputable abbrev st_put_together_wishes : Stmt := top 22
noncomputable abbrev st_shown_wish : Stmt := top 24
noncomputable abbrev st_shown_from : Stmt := top 25
noncomputable abbrev st_read_rows : Stmt := top 28
noncomputable abbrev st_read_words : Stmt := top 29
noncomputable abbrev st_words_of : Stmt := top 30
noncomputable abbrev st_group_mask : Stmt := top 31
noncomputable abbrev st_in_group : Stmt := top 32
noncomputable abbrev st_cut_row : Stmt := top 33
noncomputable abbrev st_cut_rows : Stmt := top 34
noncomputable abbrev st_cut_text : Stmt := top 35
noncomputable abbrev st_is_setting : Stmt := top 36
noncomputable abbrev st_joined : Stmt := top 38
noncomputable abbrev st_put_together_joining : Stmt := top 39
noncomputable abbrev st_most_shared : Stmt := top 41
noncomputable abbrev st_tidied : Stmt := top 43
noncomputable abbrev st_ask_rule : Stmt := top 44
noncomputable abbrev st_tidied_row : Stmt := top 45
noncomputable abbrev st_come_together : Stmt := top 46
noncomputable abbrev st_parted : Stmt := top 47
noncomputable abbrev st_law_cell_at : Stmt := top 49
noncomputable abbrev st_law_mixed : Stmt := top 50
noncomputable abbrev st_law_draws : Stmt := top 51
noncomputable abbrev st_law_next : Stmt := top 52
noncomputable abbrev st_law_wish : Stmt := top 53
noncomputable abbrev st_law_word : Stmt := top 54
noncomputable abbrev st_law_row : Stmt := top 55
noncomputable abbrev st_law_full_rows : Stmt := top 56
noncomputable abbrev st_law : Stmt := top 57
structure Adr where
  every : Addr
  switch_mask : Addr
  is_whole : Addr
  is_mask : Addr
  has : Addr
  settings : Addr
  with_on : Addr
  with_off : Addr
  read_wish : Addr
  mask_of_text : Addr
  reckoned : Addr
  taken : Addr
  value_of : Addr
  put_together_wishes : Addr
  shown_wish : Addr
  shown_from : Addr
  read_rows : Addr
  read_words : Addr
  words_of : Addr
  group_mask : Addr
  in_group : Addr
  cut_row : Addr
  cut_rows : Addr
  cut_text : Addr
  is_setting : Addr
  joined : Addr
  put_together_joining : Addr
  most_shared : Addr
  tidied : Addr
  ask_rule : Addr
  tidied_row : Addr
  come_together : Addr
  parted : Addr
  law_cell_at : Addr
  law_mixed : Addr
  law_draws : Addr
  law_next : Addr
  law_wish : Addr
  law_word : Addr
  law_row : Addr
  law_full_rows : Addr
  d_NEEDS : Addr
structure Fds where
  every : FuncData
  switch_mask : FuncData
  is_whole : FuncData
  is_mask : FuncData
  has : FuncData
  settings : FuncData
  with_on : FuncData
  with_off : FuncData
  read_wish : FuncData
  mask_of_text : FuncData
  reckoned : FuncData
  taken : FuncData
  value_of : FuncData
  put_together_wishes : FuncData
  shown_wish : FuncData
  shown_from : FuncData
  read_rows : FuncData
  read_words : FuncData
  words_of : FuncData
  group_mask : FuncData
  in_group : FuncData
  cut_row : FuncData
  cut_rows : FuncData
  cut_text : FuncData
  is_setting : FuncData
  joined : FuncData
  put_together_joining : FuncData
  most_shared : FuncData
  tidied : FuncData
  ask_rule : FuncData
  tidied_row : FuncData
  come_together : FuncData
  parted : FuncData
  law_cell_at : FuncData
  law_mixed : FuncData
  law_draws : FuncData
  law_next : FuncData
  law_wish : FuncData
  law_word : FuncData
  law_row : FuncData
  law_full_rows : FuncData
structure All (P : Program) (w : World) (K : PySem.W.Frag) (mg : Str → Option Value) (A : Adr) (D : Fds) : Prop where
  m_every : mg "every" = some (.ref A.every)
  k_every : PySem.W.keepIn K (.ref A.every) = true
  F_every : Fun K "every" "every" st_every A.every D.every
  b_every : Binds K D.every ["n"] []
  m_switch_mask : mg "switch_mask" = some (.ref A.switch_mask)
  k_switch_mask : PySem.W.keepIn K (.ref A.switch_mask) = true
  F_switch_mask : Fun K "switch_mask" "switch_mask" st_switch_mask A.switch_mask D.switch_mask
  b_switch_mask : Binds K D.switch_mask ["k", "n"] []
  m_is_whole : mg "is_whole" = some (.ref A.is_whole)
  k_is_whole : PySem.W.keepIn K (.ref A.is_whole) = true
  F_is_whole : Fun K "is_whole" "is_whole" st_is_whole A.is_whole D.is_whole
  b_is_whole : Binds K D.is_whole ["value"] []
  m_is_mask : mg "is_mask" = some (.ref A.is_mask)
  k_is_mask : PySem.W.keepIn K (.ref A.is_mask) = true
  F_is_mask : Fun K "is_mask" "is_mask" st_is_mask A.is_mask D.is_mask
  b_is_mask : Binds K D.is_mask ["value", "n"] []
  m_has : mg "has" = some (.ref A.has)
  k_has : PySem.W.keepIn K (.ref A.has) = true
  F_has : Fun K "has" "has" st_has A.has D.has
  b_has : Binds K D.has ["mask", "s"] []
  m_settings : mg "settings" = some (.ref A.settings)
  k_settings : PySem.W.keepIn K (.ref A.settings) = true
  F_settings : Fun K "settings" "settings" st_settings A.settings D.settings
  b_settings : Binds K D.settings ["mask"] []
  m_with_on : mg "with_on" = some (.ref A.with_on)
  k_with_on : PySem.W.keepIn K (.ref A.with_on) = true
  F_with_on : Fun K "with_on" "with_on" st_with_on A.with_on D.with_on
  b_with_on : Binds K D.with_on ["mask", "k", "n"] []
  m_with_off : mg "with_off" = some (.ref A.with_off)
  k_with_off : PySem.W.keepIn K (.ref A.with_off) = true
  F_with_off : Fun K "with_off" "with_off" st_with_off A.with_off D.with_off
  b_with_off : Binds K D.with_off ["mask", "k", "n"] []
  m_read_wish : mg "read_wish" = some (.ref A.read_wish)
  k_read_wish : PySem.W.keepIn K (.ref A.read_wish) = true
  F_read_wish : Fun K "read_wish" "read_wish" st_read_wish A.read_wish D.read_wish
  b_read_wish : Binds K D.read_wish ["text", "n"] []
  m_mask_of_text : mg "mask_of_text" = some (.ref A.mask_of_text)
  k_mask_of_text : PySem.W.keepIn K (.ref A.mask_of_text) = true
  F_mask_of_text : Fun K "mask_of_text" "mask_of_text" st_mask_of_text A.mask_of_text D.mask_of_text
  b_mask_of_text : Binds K D.mask_of_text ["text", "n"] []
  m_reckoned : mg "reckoned" = some (.ref A.reckoned)
  k_reckoned : PySem.W.keepIn K (.ref A.reckoned) = true
  F_reckoned : Fun K "reckoned" "reckoned" st_reckoned A.reckoned D.reckoned
  b_reckoned : Binds K D.reckoned ["text", "switches", "full"] []
  m_taken : mg "taken" = some (.ref A.taken)
  k_taken : PySem.W.keepIn K (.ref A.taken) = true
  F_taken : Fun K "taken" "taken" st_taken A.taken D.taken
  b_taken : Binds K D.taken ["found", "many"] []
  m_value_of : mg "value_of" = some (.ref A.value_of)
  k_value_of : PySem.W.keepIn K (.ref A.value_of) = true
  F_value_of : Fun K "value_of" "value_of" st_value_of A.value_of D.value_of
  b_value_of : Binds K D.value_of ["sign", "switches", "full"] []
  m_put_together_wishes : mg "put_together_wishes" = some (.ref A.put_together_wishes)
  k_put_together_wishes : PySem.W.keepIn K (.ref A.put_together_wishes) = true
  F_put_together_wishes : Fun K "put_together" "put_together" st_put_together_wishes A.put_together_wishes D.put_together_wishes
  b_put_together_wishes : Binds K D.put_together_wishes ["sign", "parts", "full"] []
  m_shown_wish : mg "shown_wish" = some (.ref A.shown_wish)
  k_shown_wish : PySem.W.keepIn K (.ref A.shown_wish) = true
  F_shown_wish : Fun K "shown_wish" "shown_wish" st_shown_wish A.shown_wish D.shown_wish
  b_shown_wish : Binds K D.shown_wish ["mask", "n"] []
  m_shown_from : mg "shown_from" = some (.ref A.shown_from)
  k_shown_from : PySem.W.keepIn K (.ref A.shown_from) = true
  F_shown_from : Fun K "shown_from" "shown_from" st_shown_from A.shown_from D.shown_from
  b_shown_from : Binds K D.shown_from ["k", "mask", "n"] []
  m_read_rows : mg "read_rows" = some (.ref A.read_rows)
  k_read_rows : PySem.W.keepIn K (.ref A.read_rows) = true
  F_read_rows : Fun K "read_rows" "read_rows" st_read_rows A.read_rows D.read_rows
  b_read_rows : Binds K D.read_rows ["text", "n"] []
  m_read_words : mg "read_words" = some (.ref A.read_words)
  k_read_words : PySem.W.keepIn K (.ref A.read_words) = true
  F_read_words : Fun K "read_words" "read_words" st_read_words A.read_words D.read_words
  b_read_words : Binds K D.read_words ["row", "n", "at"] []
  m_words_of : mg "words_of" = some (.ref A.words_of)
  k_words_of : PySem.W.keepIn K (.ref A.words_of) = true
  F_words_of : Fun K "words_of" "words_of" st_words_of A.words_of D.words_of
  b_words_of : Binds K D.words_of ["row"] []
  m_group_mask : mg "group_mask" = some (.ref A.group_mask)
  k_group_mask : PySem.W.keepIn K (.ref A.group_mask) = true
  F_group_mask : Fun K "group_mask" "group_mask" st_group_mask A.group_mask D.group_mask
  b_group_mask : Binds K D.group_mask ["word", "n", "at"] []
  m_in_group : mg "in_group" = some (.ref A.in_group)
  k_in_group : PySem.W.keepIn K (.ref A.in_group) = true
  F_in_group : Fun K "in_group" "in_group" st_in_group A.in_group D.in_group
  b_in_group : Binds K D.in_group ["row", "mask", "n"] []
  m_cut_row : mg "cut_row" = some (.ref A.cut_row)
  k_cut_row : PySem.W.keepIn K (.ref A.cut_row) = true
  F_cut_row : Fun K "cut_row" "cut_row" st_cut_row A.cut_row D.cut_row
  b_cut_row : Binds K D.cut_row ["row", "s"] []
  m_cut_rows : mg "cut_rows" = some (.ref A.cut_rows)
  k_cut_rows : PySem.W.keepIn K (.ref A.cut_rows) = true
  F_cut_rows : Fun K "cut_rows" "cut_rows" st_cut_rows A.cut_rows D.cut_rows
  b_cut_rows : Binds K D.cut_rows ["rows", "s"] []
  m_cut_text : mg "cut_text" = some (.ref A.cut_text)
  k_cut_text : PySem.W.keepIn K (.ref A.cut_text) = true
  F_cut_text : Fun K "cut_text" "cut_text" st_cut_text A.cut_text D.cut_text
  b_cut_text : Binds K D.cut_text ["text", "n", "s"] []
  m_is_setting : mg "is_setting" = some (.ref A.is_setting)
  k_is_setting : PySem.W.keepIn K (.ref A.is_setting) = true
  F_is_setting : Fun K "is_setting" "is_setting" st_is_setting A.is_setting D.is_setting
  b_is_setting : Binds K D.is_setting ["s", "n"] []
  m_joined : mg "joined" = some (.ref A.joined)
  k_joined : PySem.W.keepIn K (.ref A.joined) = true
  F_joined : Fun K "joined" "joined" st_joined A.joined D.joined
  b_joined : Binds K D.joined ["texts", "n"] []
  m_put_together_joining : mg "put_together_joining" = some (.ref A.put_together_joining)
  k_put_together_joining : PySem.W.keepIn K (.ref A.put_together_joining) = true
  F_put_together_joining : Fun K "put_together" "put_together" st_put_together_joining A.put_together_joining D.put_together_joining
  b_put_together_joining : Binds K D.put_together_joining ["rows", "own", "mask"] []
  m_most_shared : mg "most_shared" = some (.ref A.most_shared)
  k_most_shared : PySem.W.keepIn K (.ref A.most_shared) = true
  F_most_shared : Fun K "most_shared" "most_shared" st_most_shared A.most_shared D.most_shared
  b_most_shared : Binds K D.most_shared ["left", "right"] []
  m_tidied : mg "tidied" = some (.ref A.tidied)
  k_tidied : PySem.W.keepIn K (.ref A.tidied) = true
  F_tidied : Fun K "tidied" "tidied" st_tidied A.tidied D.tidied
  b_tidied : Binds K D.tidied ["text", "n", "rule"] []
  m_ask_rule : mg "ask_rule" = some (.ref A.ask_rule)
  k_ask_rule : PySem.W.keepIn K (.ref A.ask_rule) = true
  F_ask_rule : Fun K "ask_rule" "ask_rule" st_ask_rule A.ask_rule D.ask_rule
  b_ask_rule : Binds K D.ask_rule ["rule", "n"] []
  m_tidied_row : mg "tidied_row" = some (.ref A.tidied_row)
  k_tidied_row : PySem.W.keepIn K (.ref A.tidied_row) = true
  F_tidied_row : Fun K "tidied_row" "tidied_row" st_tidied_row A.tidied_row D.tidied_row
  b_tidied_row : Binds K D.tidied_row ["row", "n", "rule"] []
  m_come_together : mg "come_together" = some (.ref A.come_together)
  k_come_together : PySem.W.keepIn K (.ref A.come_together) = true
  F_come_together : Fun K "come_together" "come_together" st_come_together A.come_together D.come_together
  b_come_together : Binds K D.come_together ["row", "rule"] []
  m_parted : mg "parted" = some (.ref A.parted)
  k_parted : PySem.W.keepIn K (.ref A.parted) = true
  F_parted : Fun K "parted" "parted" st_parted A.parted D.parted
  b_parted : Binds K D.parted ["one", "other", "n", "rule"] []
  m_law_cell_at : mg "_law_cell_at" = some (.ref A.law_cell_at)
  k_law_cell_at : PySem.W.keepIn K (.ref A.law_cell_at) = true
  F_law_cell_at : Fun K "_law_cell_at" "_law_cell_at" st_law_cell_at A.law_cell_at D.law_cell_at
  b_law_cell_at : Binds K D.law_cell_at ["_law_script", "_law_k"] []
  m_law_mixed : mg "_law_mixed" = some (.ref A.law_mixed)
  k_law_mixed : PySem.W.keepIn K (.ref A.law_mixed) = true
  F_law_mixed : Fun K "_law_mixed" "_law_mixed" st_law_mixed A.law_mixed D.law_mixed
  b_law_mixed : Binds K D.law_mixed ["_law_cell", "_law_k"] []
  m_law_draws : mg "_law_draws" = some (.ref A.law_draws)
  k_law_draws : PySem.W.keepIn K (.ref A.law_draws) = true
  F_law_draws : Fun K "_law_draws" "_law_draws" st_law_draws A.law_draws D.law_draws
  b_law_draws : Binds K D.law_draws ["_law_script"] []
  m_law_next : mg "_law_next" = some (.ref A.law_next)
  k_law_next : PySem.W.keepIn K (.ref A.law_next) = true
  F_law_next : Fun K "_law_next" "_law_next" st_law_next A.law_next D.law_next
  b_law_next : Binds K D.law_next ["_law_draws_here"] []
  m_law_wish : mg "_law_wish" = some (.ref A.law_wish)
  k_law_wish : PySem.W.keepIn K (.ref A.law_wish) = true
  F_law_wish : Fun K "_law_wish" "_law_wish" st_law_wish A.law_wish D.law_wish
  b_law_wish : Binds K D.law_wish ["_law_draws_here", "_law_n", "_law_deep"] []
  m_law_word : mg "_law_word" = some (.ref A.law_word)
  k_law_word : PySem.W.keepIn K (.ref A.law_word) = true
  F_law_word : Fun K "_law_word" "_law_word" st_law_word A.law_word D.law_word
  b_law_word : Binds K D.law_word ["_law_draws_here"] []
  m_law_row : mg "_law_row" = some (.ref A.law_row)
  k_law_row : PySem.W.keepIn K (.ref A.law_row) = true
  F_law_row : Fun K "_law_row" "_law_row" st_law_row A.law_row D.law_row
  b_law_row : Binds K D.law_row ["_law_draws_here", "_law_n"] []
  m_law_full_rows : mg "_law_full_rows" = some (.ref A.law_full_rows)
  k_law_full_rows : PySem.W.keepIn K (.ref A.law_full_rows) = true
  F_law_full_rows : Fun K "_law_full_rows" "_law_full_rows" st_law_full_rows A.law_full_rows D.law_full_rows
  b_law_full_rows : Binds K D.law_full_rows ["_law_rows"] []
  v_LETTERS : ∃ t, mg "LETTERS" = some (.str "abcdefghij" t)
  v_DEEPEST_GROUP : ∃ t, mg "DEEPEST_GROUP" = some (.int 5 t)
  m_NEEDS : mg "NEEDS" = some (.ref A.d_NEEDS)
  D_NEEDS : KDict P w K A.d_NEEDS [("!", 1), ("&", 2), ("|", 2), ("^", 2), ("?", 3)]
  n_len : mg "len" = none
  n_range : mg "range" = none
  n_int : mg "int" = none
  n_bool : mg "bool" = none
  n_str : mg "str" = none
  n_reversed : mg "reversed" = none
  n_enumerate : mg "enumerate" = none
  n_isinstance : mg "isinstance" = none
  n_abs : mg "abs" = none
  n_list : mg "list" = none
  n_max : mg "max" = none
/-! promises -/
noncomputable def swl (n : Nat) : List Nat := (List.range n).map fun k => sw k n
noncomputable def fulln (n : Nat) : Nat := 2 ^ 2 ^ n - 1
noncomputable def iv (l : List Nat) : List V := l.map fun x => V.int ((x : Nat) : Int)
noncomputable def spEvery : Sp := fun vs H Q _ => ∃ n : Nat, vs = [.int n] ∧ n ≤ 10 ∧ Q (.int (fulln n : Nat)) H
noncomputable def spSwitch : Sp := fun vs H Q _ => ∃ k n : Nat, vs = [.int k, .int n] ∧ k < n ∧ n ≤ 10 ∧ Q (.int (sw k n : Nat)) H
noncomputable def spTaken : Sp := fun vs H Q _ => ∃ (l : Addr) (st : List V) (m : Nat), vs = [.ref l, .int m] ∧ H l = some (.lst st.reverse) ∧ m ≤ st.length ∧ st.length ≤ 4000 ∧
  ∀ p H', H p = none → H' p = some (.lst (st.take m)) → H' l = some (.lst (st.drop m).reverse) → (∀ b o, H b = some o → b ≠ l → H' b = some o) → Q (.ref p) H'
noncomputable def spPut (K : PySem.W.Frag) : Sp := fun vs H Q _ => ∃ (c : Nat) (p : Addr) (ps : List Nat) (full : Nat), vs = [.str ⟨#[c]⟩, .ref p, .int full] ∧ SqL K H p (iv ps) ∧ 0 < needs c ∧ ps.length = needs c ∧ Q (.int (putR full c ps : Nat)) H
noncomputable def spValue (K : PySem.W.Frag) : Sp := fun vs H Q _ => ∃ (c : Nat) (l : Addr) (sws : List Nat) (full v : Nat), vs = [.str ⟨#[c]⟩, .ref l, .int full] ∧ SqL K H l (iv sws) ∧ c < 128 ∧ valR sws full c = some v ∧ Q (.int v) H
noncomputable def spReck (K : PySem.W.Frag) : Sp := fun vs H Q _ => ∃ (z : Str) (l : Addr) (sws : List Nat) (full v : Nat), vs = [.str z, .ref l, .int full] ∧ SqL K H l (iv sws) ∧ (∀ c ∈ z.cps.toList, c < 128) ∧ z.length ≤ 4000 ∧
  runR sws full z.cps.toList = some [v] ∧ ∀ H', Same H H' → Q (.int v) H'
noncomputable def spMaskOf : Sp := fun vs H Q _ => ∃ (z : Str) (n v : Nat), vs = [.str z, .int n] ∧ n ≤ 10 ∧ (∀ c ∈ z.cps.toList, c < 128) ∧ z.length ≤ 4000 ∧ runR (swl n) (fulln n) z.cps.toList = some [v] ∧ ∀ H', Same H H' → Q (.int v) H'
/-! facts -/
theorem two_le {n : Nat} (h : n ≤ 10) : (2 : Nat) ^ n ≤ 1024 := Nat.pow_le_pow_right (by decide) h
theorem one_shl {n : Nat} (h : n ≤ 1024) : CShl 1 (n : Int) := ⟨by omega, 1, by decide, by omega⟩
theorem same_upd {H : Hp} {p : Addr} {o : HO} (h : H p = none) : Same H (upd H p o) := fun b u e => by rw [upd_ne (ne_of_none e h)]; exact e
theorem small5k {n : Nat} (h : n ≤ 5000) : n < sizeLine := Nat.lt_of_le_of_lt h (by decide)
theorem iv_len (l : List Nat) : (iv l).length = l.length := List.length_map ..
theorem iv_cons (x : Nat) (l : List Nat) : iv (x :: l) = V.int (x : Nat) :: iv l := rfl
theorem iv_snoc (l : List Nat) (x : Nat) : iv (l ++ [x]) = iv l ++ [V.int ((x : Nat) : Int)] := by simp [iv]
theorem iv_take (l : List Nat) (n : Nat) : (iv l).take n = iv (l.take n) := by simp [iv, List.map_take]
theorem iv_drop (l : List Nat) (n : Nat) : (iv l).drop n = iv (l.drop n) := by simp [iv, List.map_drop]
theorem atI_iv {ps : List Nat} {j : Nat} (h : j < ps.length) : atI (iv ps) (j : Int) = some (.int (ps.getD j 0 : Nat)) :=
  atI_nat (by rw [iv, List.getElem?_map, List.getElem?_eq_getElem h]; simp [List.getD_eq_getElem?_getD, List.getElem?_eq_getElem h])
theorem sg {c d : Nat} {x : Str} (hx : x = ⟨#[d]⟩) : decide (V.str ⟨#[c]⟩ = V.str x) = decide (c = d) := by
  subst hx
  by_cases h : c = d
  · subst h; simp
  · have : ¬ (V.str ⟨#[c]⟩ = V.str ⟨#[d]⟩) := fun z => by
      injection z with z
      injection z with z
      exact h (by simpa using z)
    rw [decide_eq_false this, decide_eq_false h]
theorem needs_pos {c : Nat} (h : 0 < needs c) : c = 33 ∨ c = 38 ∨ c = 124 ∨ c = 94 ∨ c = 63 := by
  unfold needs at h
  repeat' split at h
  all_goals omega
noncomputable abbrev needsD : List (Str × Int) := [("!", 1), ("&", 2), ("|", 2), ("^", 2), ("?", 3)]
theorem s33 : ("!" : Str) = ⟨#[33]⟩ := by decide +kernel
theorem s38 : ("&" : Str) = ⟨#[38]⟩ := by decide +kernel
theorem s124 : ("|" : Str) = ⟨#[124]⟩ := by decide +kernel
theorem s94 : ("^" : Str) = ⟨#[94]⟩ := by decide +kernel
theorem s63 : ("?" : Str) = ⟨#[63]⟩ := by decide +kernel
theorem s48 : ("0" : Str) = ⟨#[48]⟩ := by decide +kernel
theorem s49 : ("1" : Str) = ⟨#[49]⟩ := by decide +kernel
theorem beqS (c d : Nat) : ((⟨#[c]⟩ : Str) == ⟨#[d]⟩) = (c == d) := by
  by_cases h : c = d
  · subst h; simp
  · have : (⟨#[c]⟩ : Str) ≠ ⟨#[d]⟩ := fun z => by
      injection z with z
      exact h (by simpa using z)
    rw [beq_eq_false_iff_ne.mpr this, beq_eq_false_iff_ne.mpr h]
theorem look_needs (c : Nat) : needsD.lookup (⟨#[c]⟩ : Str) = if 0 < needs c then some ((needs c : Nat) : Int) else none := by
  unfold needsD
  rw [s33, s38, s124, s94, s63]
  simp only [List.lookup_cons, beqS, List.lookup_nil]
  unfold needs
  by_cases h1 : c = 33
  · subst h1; rfl
  by_cases h2 : c = 38
  · subst h2; rfl
  by_cases h3 : c = 124
  · subst h3; rfl
  by_cases h4 : c = 94
  · subst h4; rfl
  by_cases h5 : c = 63
  · subst h5; rfl
  rw [beq_eq_false_iff_ne.mpr h1, beq_eq_false_iff_ne.mpr h2, beq_eq_false_iff_ne.mpr h3, beq_eq_false_iff_ne.mpr h4, beq_eq_false_iff_ne.mpr h5, if_neg h1, if_neg h2, if_neg h3, if_neg h4, if_neg h5]
  rfl
theorem occL : ∀ c, c < 128 → Builtin.Str.occurrences ("abcdefghij" : Str) ⟨#[c]⟩ 0 ("abcdefghij" : Str).length 1 = if isL c = true then [c - 97] else [] := by decide +kernel
theorem isL_128 {c : Nat} (h : isL c = true) : c < 128 := by
  unfold isL at h
  simp at h
  omega
theorem shl_n (n : Nat) : (1 : Int) * 2 ^ ((n : Int)).toNat = ((2 ^ n : Nat) : Int) := by rw [pow2, Int.toNat_natCast]; omega
theorem letterAt : ∀ j, j < 10 → atI ("abcdefghij" : Str).cps.toList ((j : Nat) : Int) = some (97 + j) := by decide +kernel
theorem app_list (a b : Str) : (a ++ b).cps.toList = a.cps.toList ++ b.cps.toList := Array.toList_append ..
theorem app_len (a b : Str) : (a ++ b).length = a.length + b.length := Array.size_append ..
theorem one_len (c : Nat) : (⟨#[c]⟩ : Str).length = 1 := rfl
theorem one_list (c : Nat) : (⟨#[c]⟩ : Str).cps.toList = [c] := rfl
theorem list_len (z : Str) : z.cps.toList.length = z.length := by simp [Str.length]
theorem modN {a : Int} {n : Nat} (h : 0 < n) : ∃ j : Nat, a % (n : Int) = (j : Int) ∧ j < n := ⟨(a % (n : Int)).toNat, by
  have := Int.emod_nonneg a (show (n : Int) ≠ 0 by omega)
  omega, by
  have := Int.emod_nonneg a (show (n : Int) ≠ 0 by omega)
  have := Int.emod_lt_of_pos a (show (0 : Int) < (n : Int) by omega)
  omega⟩
theorem signs_128 {n : Nat} (hn : n ≤ 10) : ∀ v : W, v.ok n → ∀ c ∈ v.signs, c < 128 := by
  intro v
  induction v with
  | c0 => intro _ c h; simp [W.signs] at h; omega
  | c1 => intro _ c h; simp [W.signs] at h; omega
  | sw k => intro hk c h; have hk' : k < n := hk; simp [W.signs] at h; omega
  | no a ih =>
    intro hk c h
    rcases List.mem_cons.mp h with e | e
    · omega
    · exact ih hk c e
  | an a b iha ihb =>
    intro hk c h
    rcases List.mem_cons.mp h with e | e
    · omega
    · rcases List.mem_append.mp e with e | e
      · exact iha hk.1 c e
      · exact ihb hk.2 c e
  | orr a b iha ihb =>
    intro hk c h
    rcases List.mem_cons.mp h with e | e
    · omega
    · rcases List.mem_append.mp e with e | e
      · exact iha hk.1 c e
      · exact ihb hk.2 c e
  | xo a b iha ihb =>
    intro hk c h
    rcases List.mem_cons.mp h with e | e
    · omega
    · rcases List.mem_append.mp e with e | e
      · exact iha hk.1 c e
      · exact ihb hk.2 c e
  | ch k a b iha ihb =>
    intro hk c h
    have hk' : k < n := hk.1
    rcases List.mem_cons.mp h with e | e
    · omega
    · rcases List.mem_cons.mp e with e | e
      · omega
      · rcases List.mem_append.mp e with e | e
        · exact iha hk.2.1 c e
        · exact ihb hk.2.2 c e
theorem swl_len' (n : Nat) : (swl n).length = n := by simp [swl]
theorem swl_at {n k : Nat} (h : k < n) : (swl n).getD k 0 = sw k n := by simp [swl, List.getD_eq_getElem?_getD, h]
theorem swl_lt {n : Nat} : ∀ x ∈ swl n, x < 2 ^ 2 ^ n := fun x hx => by
  obtain ⟨k, _, rfl⟩ := List.mem_map.mp hx
  exact sw_lt k n
section
variable {P : Program} {w : World} {K : PySem.W.Frag} {mg : Str → Option Value} {base : Heap} {AA : Adr} {DD : Fds}
theorem same_put {H H' : Hp} {p : Addr} {o : HO} (s : Same H H') (h : H p = none) : Same H (upd H' p o) := fun b u e => by rw [upd_ne (ne_of_none e h)]; exact s b u e
theorem none_of {H H' : Hp} {p : Addr} (s : Same H H') (h : H' p = none) : H p = none := by
  cases e : H p with
  | none => rfl
  | some o => rw [s _ _ e] at h; cases h
theorem snoc_at {α : Type} {ts : List Addr} {r : List α} {t : Addr} {w : α} {Pp : Addr → α → Prop} (hl : ts.length = r.length) (h : ∀ (i : Nat) (t : Addr) (w : α), ts[i]? = some t → r[i]? = some w → Pp t w) (ht : Pp t w) :
    ∀ (i : Nat) (u : Addr) (q : α), (ts ++ [t])[i]? = some u → (r ++ [w])[i]? = some q → Pp u q := by
  intro i u q h1 h2
  by_cases hi : i < ts.length
  · rw [List.getElem?_append_left hi] at h1
    rw [List.getElem?_append_left (by omega)] at h2
    exact h i u q h1 h2
  · rw [List.getElem?_append_right (by omega)] at h1
    rw [List.getElem?_append_right (by omega)] at h2
    have hi0 : i - ts.length = 0 := by
      cases hh : i - ts.length with
      | zero => rfl
      | succ m => rw [hh] at h1; simp at h1
    rw [← hl, hi0] at h2
    rw [hi0] at h1
    have e1 : t = u := by simpa using h1
    have e2 : w = q := by simpa using h2
    subst e1; subst e2
    exact ht
theorem scE : FnScope ["n"] ["n"] (defScope st_every) := ⟨rfl, rfl, rfl, by decide +kernel, rfl, by decide +kernel, by decide +kernel⟩
theorem ok_every (T : All P w K mg AA DD) : FnOk P w K mg base CX0 1 AA.every DD.every ["n"] spEvery := by
  refine T.F_every.ok scE (fun vs H Q E h => ?_) (fun cdv A outer s H vs Q E hr h => ?_)
  · obtain ⟨n, rfl, _⟩ := h
    rfl
  · obtain ⟨n, rfl, hn, k⟩ := h
    refine ⟨_, pss_one (ps_ret (pe_op op_sub (pe_op op_shlB pe_int (pe_op op_shlB pe_int (pv 0))) pe_int)), ?_⟩
    have e1 : (1 : Int) * 2 ^ ((n : Int)).toNat = ((2 ^ n : Nat) : Int) := by rw [pow2, Int.toNat_natCast]; omega
    refine ⟨_, rfl, _, _, rfl, rfl, one_shl (by omega), _, _, rfl, rfl, ?_, _, _, rfl, rfl, ?_⟩
    · rw [e1]; exact one_shl (two_le hn)
    · dsimp only
      rw [e1, pow2, Int.toNat_natCast]
      have e2 : (1 : Int) * ((2 ^ 2 ^ n : Nat) : Int) - 1 = ((2 ^ 2 ^ n - 1 : Nat) : Int) := by
        have := Nat.two_pow_pos (2 ^ n)
        omega
      rw [e2]
      exact k
theorem scS : FnScope ["k", "n", "run", "mask", "width"] ["k", "n"] (defScope st_switch_mask) := ⟨rfl, rfl, rfl, by decide +kernel, rfl, by decide +kernel, by decide +kernel⟩
theorem ok_switch (T : All P w K mg AA DD) : FnOk P w K mg base CX0 1 AA.switch_mask DD.switch_mask ["k", "n"] spSwitch := by
  refine T.F_switch_mask.ok scS (fun vs H Q E h => ?_) (fun cdv A outer s H vs Q E hr h => ?_)
  · obtain ⟨k, n, rfl, _⟩ := h
    rfl
  · obtain ⟨k, n, rfl, hk, hn, q⟩ := h
    refine ⟨_, pss_cons (ps_set (i := 2) scS.nd rfl (Or.inl rfl) (pe_op op_shlB pe_int (pv 0)))
      (pss_cons (ps_set (i := 3) scS.nd rfl (Or.inl rfl) (pe_op op_shlB (pe_op op_sub (pe_op op_shlB pe_int (pv 2)) pe_int) (pv 2)))
      (pss_cons (ps_set (i := 4) scS.nd rfl (Or.inl rfl) (pe_op op_mul pe_int (pv 2)))
      (pss_cons (ps_while PassesOwn.never (pt_cmpR op_lt (pv 4) (pe_op op_shlB pe_int (pv 1)) (nomark _))
        (pss_cons (ps_set (i := 3) scS.nd rfl (Or.inl rfl) (pe_op op_or (pv 3) (pe_op op_shlB (pv 3) (pv 4))))
        (pss_one (ps_set (i := 4) scS.nd rfl (Or.inl rfl) (pe_op op_mul pe_int (pv 4))))))
      (pss_one (ps_ret (pv 3)))))), ?_⟩
    have hk2 : (2 : Nat) ^ k ≤ 1024 := two_le (by omega)
    have e1 : (1 : Int) * 2 ^ ((k : Int)).toNat = ((2 ^ k : Nat) : Int) := by rw [pow2, Int.toNat_natCast]; omega
    refine ⟨_, rfl, _, _, rfl, rfl, one_shl (by omega), ?_⟩
    dsimp only
    rw [e1]
    refine ⟨_, rfl, _, _, rfl, rfl, one_shl hk2, _, _, rfl, rfl, _, rfl, _, _, rfl, rfl, ?_, ?_⟩
    · show CShl ((1 : Int) * 2 ^ (((2 ^ k : Nat) : Int)).toNat - 1) ((2 ^ k : Nat) : Int)
      have hp := Nat.two_pow_pos (2 ^ k)
      rw [shl1, show ((2 ^ 2 ^ k : Nat) : Int) - 1 = ((2 ^ 2 ^ k - 1 : Nat) : Int) by omega]
      exact cshl (m := 2 ^ k) (by omega) (by omega)
    · have e2 : ((1 : Int) * 2 ^ (((2 ^ k : Nat) : Int)).toNat - 1) * 2 ^ (((2 ^ k : Nat) : Int)).toNat = ((mk (fun s => s.testBit k) (2 ^ (k + 1) * 2 ^ 0) : Nat) : Int) := by
        have q0 := sw_start k
        rw [Nat.pow_zero, Nat.mul_one, ← q0, pow2, Int.toNat_natCast]
        have hp := Nat.two_pow_pos (2 ^ k)
        rw [Int.natCast_mul]
        congr 1
        omega
      dsimp only
      rw [e2]
      refine ⟨_, rfl, _, _, rfl, rfl, .inl ⟨by decide, by decide⟩, ?_⟩
      have e3 : (2 : Int) * ((2 ^ k : Nat) : Int) = ((2 ^ (k + 1) * 2 ^ 0 : Nat) : Int) := by
        rw [Nat.pow_zero, Nat.mul_one, Nat.pow_succ]; omega
      dsimp only
      rw [e3]
      refine while_by (fun σ H' => ∃ j : Nat, k + 1 + j ≤ n ∧ H' = H ∧ σ = [some (.int (k : Nat)), some (.int (n : Nat)), some (.int ((2 ^ k : Nat) : Int)), some (.int ((mk (fun s => s.testBit k) (2 ^ (k + 1) * 2 ^ j) : Nat) : Int)), some (.int ((2 ^ (k + 1) * 2 ^ j : Nat) : Int))])
        (fun (σ : St) (_ : Hp) => match σ[4]? with | some (some (V.int z)) => 2 ^ n - z.toNat | _ => 0) ⟨0, by omega, rfl, rfl⟩ ?_ ?_
      · rintro σ H' ⟨j, hj, rfl, rfl⟩
        have e4 : (1 : Int) * 2 ^ ((n : Int)).toNat = ((2 ^ n : Nat) : Int) := by rw [pow2, Int.toNat_natCast]; omega
        refine ⟨_, rfl, _, rfl, _, _, rfl, rfl, one_shl (by omega), _, _, rfl, rfl, _, rfl, ?_⟩
        dsimp only
        rw [e4]
        have ew : 2 ^ (k + 1) * 2 ^ j = 2 ^ (k + 1 + j) := by rw [← Nat.pow_add]
        refine ite2 (fun hlt => ?_) (fun hge => ?_)
        · have hlt : ((2 ^ (k + 1) * 2 ^ j : Nat) : Int) < ((2 ^ n : Nat) : Int) := of_decide_eq_true hlt
          have hlt' : 2 ^ (k + 1 + j) < 2 ^ n := by rw [← ew]; exact Int.ofNat_lt.mp hlt
          have hjn : k + 1 + j < n := (Nat.pow_lt_pow_iff_right (by decide)).mp hlt'
          have hw : 2 ^ (k + 1) * 2 ^ j ≤ 1024 := by rw [ew]; exact two_le (by omega)
          refine ⟨_, rfl, _, rfl, _, rfl, _, _, rfl, rfl, ⟨by omega, 2 ^ (k + 1) * 2 ^ j, ?_, by omega⟩, _, _, rfl, rfl, ?_⟩
          · rw [Int.natAbs_natCast]; exact mk_lt _ _
          · have e5 : Builtin.bitOr ((mk (fun s => s.testBit k) (2 ^ (k + 1) * 2 ^ j) : Nat) : Int) (((mk (fun s => s.testBit k) (2 ^ (k + 1) * 2 ^ j) : Nat) : Int) * 2 ^ (((2 ^ (k + 1) * 2 ^ j : Nat) : Int)).toNat) = ((mk (fun s => s.testBit k) (2 ^ (k + 1) * 2 ^ (j + 1)) : Nat) : Int) := by
              rw [Int.toNat_natCast, pow2, ← Int.natCast_mul, bitOr_nat, sw_step, show 2 * (2 ^ (k + 1) * 2 ^ j) = 2 ^ (k + 1) * 2 ^ (j + 1) by rw [Nat.pow_succ 2 j, Nat.mul_left_comm, Nat.mul_comm 2 (2 ^ j)]]
            dsimp only
            rw [e5]
            refine ⟨_, rfl, _, _, rfl, rfl, .inl ⟨by decide, by decide⟩, ?_⟩
            have e6 : (2 : Int) * ((2 ^ (k + 1) * 2 ^ j : Nat) : Int) = ((2 ^ (k + 1) * 2 ^ (j + 1) : Nat) : Int) := by
              rw [Nat.pow_succ 2 j, ← Nat.mul_assoc]; omega
            dsimp only
            rw [e6]
            refine ⟨⟨j + 1, by omega, rfl, rfl⟩, ?_⟩
            show 2 ^ n - (((2 ^ (k + 1) * 2 ^ (j + 1) : Nat) : Int)).toNat < 2 ^ n - (((2 ^ (k + 1) * 2 ^ j : Nat) : Int)).toNat
            rw [Int.toNat_natCast, Int.toNat_natCast, Nat.pow_succ 2 j, ← Nat.mul_assoc]
            have hp : 0 < 2 ^ (k + 1) * 2 ^ j := Nat.mul_pos (Nat.two_pow_pos _) (Nat.two_pow_pos _)
            rw [← ew] at hlt'
            omega
        · have hge : ¬ ((2 ^ (k + 1) * 2 ^ j : Nat) : Int) < ((2 ^ n : Nat) : Int) := fun z => hge (decide_eq_true z)
          have hge' : 2 ^ n ≤ 2 ^ (k + 1 + j) := by rw [← ew]; omega
          have hjn : n ≤ k + 1 + j := (Nat.pow_le_pow_iff_right (by decide)).mp hge'
          have e7 : 2 ^ (k + 1) * 2 ^ j = 2 ^ n := by rw [ew]; congr 1; omega
          refine ⟨_, rfl, ?_⟩
          rw [e7]
          exact q
      · rintro σ H' Q1 Q2 hq ⟨v, h1, u, h2, i, j, e1, e2, C, i', j', e3, e4, b, eb, qq⟩
        exact ⟨v, h1, u, h2, i, j, e1, e2, C, i', j', e3, e4, b, eb, hq _ _ qq⟩
theorem sc_taken : FnScope ["found", "many", "parts", "k"] ["found", "many"] (defScope st_taken) := ⟨rfl, rfl, rfl, by decide +kernel, rfl, by decide +kernel, by decide +kernel⟩
theorem ok_taken (T : All P w K mg AA DD) : FnOk P w K mg base CX0 1 AA.taken DD.taken ["found", "many"] spTaken := by
  refine T.F_taken.ok sc_taken (fun vs H Q E h => ?_) (fun cdv A outer s H vs Q E hr h => ?_)
  · obtain ⟨l, st, m, rfl, _⟩ := h
    rfl
  · obtain ⟨l, st, m, rfl, hl, hm, hz, k⟩ := h
    have nd := sc_taken.nd
    refine ⟨_, pss_cons (ps_set (i := 2) nd rfl (Or.inl rfl) (pe_lst pa_nil))
      (pss_cons (ps_for PassesOwn.never rfl (pi_range1 rfl T.n_range (pa_cons (pv 1) pa_nil)) (pg_name (i := 3) nd rfl (Or.inl rfl))
        (pss_one (ps_expr (pe_bm PySem.F.plainAttrs_list PySem.F.slot_list_append PySem.F.type_list_append mt_append (pv 2) (pa_cons (pe_bm0 PySem.F.plainAttrs_list PySem.F.slot_list_pop PySem.F.type_list_pop mt_pop (pv 0)) pa_nil)))))
      (pss_one (ps_ret (pv 2)))), ?_⟩
    refine ⟨Nat.zero_le _, fun p hp => ?_⟩
    have npl : l ≠ p := ne_of_none hl hp
    refine ⟨_, rfl, _, rfl, by omega, by omega, ?_⟩
    rw [Int.toNat_natCast]
    refine for_range (fun i σ H' => i ≤ m ∧ (∃ s3 : Option V, σ = [some (.ref l), some (.int (m : Nat)), some (.ref p), s3]) ∧ H' l = some (.lst (st.drop i).reverse) ∧ H' p = some (.lst (st.take i)) ∧ ∀ b o, H b = some o → b ≠ l → H' b = some o)
      ⟨Nat.zero_le _, ⟨none, rfl⟩, by rw [upd_ne npl]; exact hl, upd_same, fun b o e _ => by rw [upd_ne (ne_of_none e hp)]; exact e⟩ ?_ ?_
    · rintro i σ H' hi ⟨_, ⟨s3, rfl⟩, h1, h2, h3⟩
      have hin : i < st.length := by omega
      have ed : (st.drop i).reverse = (st.drop (i + 1)).reverse ++ [st[i]] := by rw [List.drop_eq_getElem_cons hin, List.reverse_cons]
      refine ⟨_, rfl, .inl ⟨rfl, _, SqL.of h2⟩, _, rfl, .inl ⟨rfl, _, SqL.of h1⟩, l, _, st[i], rfl, rfl, h1, ?_, p, _, _, rfl, rfl, (by rw [upd_ne npl.symm]; exact h2), ?_, ?_⟩
      · rw [ed]; simp
      · rw [List.length_take]; exact small5k (by omega)
      · refine ⟨hi, ⟨_, rfl⟩, ?_, ?_, fun b o e hb => ?_⟩
        · rw [upd_ne npl, upd_same, ed, List.dropLast_concat]
        · rw [upd_same, List.take_add_one, List.getElem?_eq_getElem hin]; rfl
        · rw [upd_ne (ne_of_none e hp), upd_ne hb]; exact h3 b o e hb
    · rintro σ H' ⟨_, ⟨s3, rfl⟩, h1, h2, h3⟩
      exact ⟨_, rfl, k p H' hp h2 h1 h3⟩
theorem sc_put : FnScope ["sign", "parts", "full"] ["sign", "parts", "full"] (defScope st_put_together_wishes) := ⟨rfl, rfl, rfl, by decide +kernel, rfl, by decide +kernel, by decide +kernel⟩
theorem ok_put (T : All P w K mg AA DD) : FnOk P w K mg base CX0 1 AA.put_together_wishes DD.put_together_wishes ["sign", "parts", "full"] (spPut K) := by
  refine T.F_put_together_wishes.ok sc_put (fun vs H Q E h => ?_) (fun cdv A outer s H vs Q E hr h => ?_)
  · obtain ⟨c, p, ps, full, rfl, _⟩ := h
    rfl
  · obtain ⟨c, p, ps, full, rfl, hS, hc, hl, k⟩ := h
    refine ⟨_, pss_cons (ps_if (pt_cmpR op_eq (pv 0) pe_str (nomark _)) (pss_one (ps_ret (pe_op op_xor (pv 2) (pe_ix ix_list (pv 1) pe_int (fun _ _ => rfl))))) pss_nil)
      (pss_cons (ps_if (pt_cmpR op_eq (pv 0) pe_str (nomark _)) (pss_one (ps_ret (pe_op op_and (pe_ix ix_list (pv 1) pe_int (fun _ _ => rfl)) (pe_ix ix_list (pv 1) pe_int (fun _ _ => rfl))))) pss_nil)
      (pss_cons (ps_if (pt_cmpR op_eq (pv 0) pe_str (nomark _)) (pss_one (ps_ret (pe_op op_or (pe_ix ix_list (pv 1) pe_int (fun _ _ => rfl)) (pe_ix ix_list (pv 1) pe_int (fun _ _ => rfl))))) pss_nil)
      (pss_cons (ps_if (pt_cmpR op_eq (pv 0) pe_str (nomark _)) (pss_one (ps_ret (pe_op op_xor (pe_ix ix_list (pv 1) pe_int (fun _ _ => rfl)) (pe_ix ix_list (pv 1) pe_int (fun _ _ => rfl))))) pss_nil)
      (pss_one (ps_ret (pe_op op_or (pe_op op_and (pe_ix ix_list (pv 1) pe_int (fun _ _ => rfl)) (pe_ix ix_list (pv 1) pe_int (fun _ _ => rfl)))
        (pe_op op_and (pe_op op_xor (pv 2) (pe_ix ix_list (pv 1) pe_int (fun _ _ => rfl))) (pe_ix ix_list (pv 1) pe_int (fun _ _ => rfl))))))))), ?_⟩
    have a0 : ∀ j, j < needs c → atI (iv ps) ((j : Nat) : Int) = some (.int (ps.getD j 0 : Nat)) := fun j hj => atI_iv (by omega)
    refine ⟨_, rfl, rfl, _, rfl, ?_⟩
    rw [sg s33]
    rcases needs_pos hc with rfl | rfl | rfl | rfl | rfl
    · refine iteT ?_
      refine ⟨_, rfl, _, rfl, p, _, _, _, rfl, rfl, hS, a0 0 (by decide), _, _, rfl, rfl, ?_⟩
      dsimp only
      rw [bitXor_nat]
      exact k
    · refine iteF ?_
      refine ⟨_, rfl, rfl, _, rfl, ?_⟩
      rw [sg s38]
      refine iteT ?_
      refine ⟨_, rfl, p, _, _, _, rfl, rfl, hS, a0 0 (by decide), _, rfl, p, _, _, _, rfl, rfl, hS, a0 1 (by decide), _, _, rfl, rfl, ?_⟩
      dsimp only
      rw [bitAnd_nat]
      exact k
    · refine iteF ?_
      refine ⟨_, rfl, rfl, _, rfl, ?_⟩
      rw [sg s38]
      refine iteF ?_
      refine ⟨_, rfl, rfl, _, rfl, ?_⟩
      rw [sg s124]
      refine iteT ?_
      refine ⟨_, rfl, p, _, _, _, rfl, rfl, hS, a0 0 (by decide), _, rfl, p, _, _, _, rfl, rfl, hS, a0 1 (by decide), _, _, rfl, rfl, ?_⟩
      dsimp only
      rw [bitOr_nat]
      exact k
    · refine iteF ?_
      refine ⟨_, rfl, rfl, _, rfl, ?_⟩
      rw [sg s38]
      refine iteF ?_
      refine ⟨_, rfl, rfl, _, rfl, ?_⟩
      rw [sg s124]
      refine iteF ?_
      refine ⟨_, rfl, rfl, _, rfl, ?_⟩
      rw [sg s94]
      refine iteT ?_
      refine ⟨_, rfl, p, _, _, _, rfl, rfl, hS, a0 0 (by decide), _, rfl, p, _, _, _, rfl, rfl, hS, a0 1 (by decide), _, _, rfl, rfl, ?_⟩
      dsimp only
      rw [bitXor_nat]
      exact k
    · refine iteF ?_
      refine ⟨_, rfl, rfl, _, rfl, ?_⟩
      rw [sg s38]
      refine iteF ?_
      refine ⟨_, rfl, rfl, _, rfl, ?_⟩
      rw [sg s124]
      refine iteF ?_
      refine ⟨_, rfl, rfl, _, rfl, ?_⟩
      rw [sg s94]
      refine iteF ?_
      refine ⟨_, rfl, p, _, _, _, rfl, rfl, hS, a0 0 (by decide), _, rfl, p, _, _, _, rfl, rfl, hS, a0 1 (by decide), _, _, rfl, rfl, _, rfl, _, rfl, p, _, _, _, rfl, rfl, hS, a0 0 (by decide), _, _, rfl, rfl,
        _, rfl, p, _, _, _, rfl, rfl, hS, a0 2 (by decide), _, _, rfl, rfl, _, _, rfl, rfl, ?_⟩
      dsimp only
      rw [bitXor_nat, bitAnd_nat, bitAnd_nat, bitOr_nat]
      exact k
theorem sc_value : FnScope ["sign", "switches", "full", "k"] ["sign", "switches", "full"] (defScope st_value_of) := ⟨rfl, rfl, rfl, by decide +kernel, rfl, by decide +kernel, by decide +kernel⟩
theorem ok_value (T : All P w K mg AA DD) : FnOk P w K mg base CX0 1 AA.value_of DD.value_of ["sign", "switches", "full"] (spValue K) := by
  refine T.F_value_of.ok sc_value (fun vs H Q E h => ?_) (fun cdv A outer s H vs Q E hr h => ?_)
  · obtain ⟨c, l, sws, full, v, rfl, _⟩ := h
    rfl
  · obtain ⟨c, l, sws, full, v, rfl, hS, hc, hv, k⟩ := h
    have nd := sc_value.nd
    obtain ⟨tL, hL⟩ := T.v_LETTERS
    refine ⟨_, pss_cons (ps_if (pt_cmpR op_eq (pv 0) pe_str (nomark _)) (pss_one (ps_ret pe_int)) pss_nil)
      (pss_cons (ps_if (pt_cmpR op_eq (pv 0) pe_str (nomark _)) (pss_one (ps_ret (pv 2))) pss_nil)
      (pss_cons (ps_set (i := 3) nd rfl (Or.inl rfl) (pe_bm PySem.F.plainAttrs_str PySem.F.slot_str_find PySem.F.type_str_find mt_find (pe_glob (v := .str "abcdefghij") rfl hL ⟨_, rfl⟩) (pa_cons (pv 0) pa_nil)))
      (pss_cons (ps_if (PW.pt (pw_or (pt_cmpR op_lt (pv 3) pe_int (nomark _)) (pw_or1 (pt_cmpR op_ge (pv 3) (pe_callB call_len_seq rfl T.n_len bt_len (pa_cons (pv 1) pa_nil)) (nomark _))))) pss_never pss_nil)
      (pss_one (ps_ret (pe_ix ix_list (pv 1) (pv 3) (fun _ _ => rfl))))))), ?_⟩
    unfold valR at hv
    refine ⟨_, rfl, rfl, _, rfl, ?_⟩
    rw [sg s48]
    by_cases h0 : c = 48
    · rw [if_pos h0] at hv
      cases hv
      rw [decide_eq_true h0]
      exact iteT k
    rw [if_neg h0] at hv
    rw [decide_eq_false h0]
    refine iteF ?_
    refine ⟨_, rfl, rfl, _, rfl, ?_⟩
    rw [sg s49]
    by_cases h1 : c = 49
    · rw [if_pos h1] at hv
      cases hv
      rw [decide_eq_true h1]
      exact iteT ⟨_, rfl, k⟩
    rw [if_neg h1] at hv
    rw [decide_eq_false h1]
    refine iteF ?_
    by_cases hl : isL c = true
    · rw [if_pos hl] at hv
      have hk : c - 97 < sws.length := (List.getElem?_eq_some_iff.mp hv).1
      refine ⟨rfl, _, rfl, _, _, rfl, rfl, ?_⟩
      rw [occL c hc, if_pos hl]
      dsimp only
      refine ⟨_, rfl, _, _, rfl, rfl, _, rfl, ?_⟩
      rw [decide_eq_false (by omega)]
      refine iteF ?_
      refine ⟨_, rfl, _, rfl, l, _, rfl, .inl hS, _, _, rfl, rfl, _, rfl, ?_⟩
      rw [iv_len, decide_eq_false (by omega)]
      refine iteF ?_
      refine ⟨_, rfl, _, rfl, l, _, _, _, rfl, rfl, hS, atI_iv hk, ?_⟩
      rw [List.getD_eq_getElem?_getD, hv]
      exact k
    · rw [if_neg hl] at hv
      cases hv
end
section
variable {P : Program} {w : World} {K : PySem.W.Frag} {mg : Str → Option Value} {base : Heap} {AA : Adr} {DD : Fds}
noncomputable abbrev NR : List Str := ["text", "switches", "full", "found", "behind", "sign", "parts"]
theorem sc_reck : FnScope NR ["text", "switches", "full"] (defScope st_reckoned) := ⟨rfl, rfl, rfl, by decide +kernel, rfl, by decide +kernel, by decide +kernel⟩
theorem ok_reck (T : All P w K mg AA DD) : FnOk P w K mg base CX0 2 AA.reckoned DD.reckoned ["text", "switches", "full"] (spReck K) := by
  have GT := ok_taken (base := base) T
  have GP := ok_put (base := base) T
  have GV := ok_value (base := base) T
  refine T.F_reckoned.ok sc_reck (fun vs H Q E h => ?_) (fun cdv A outer s H vs Q E hr h => ?_)
  · obtain ⟨z, l, sws, full, v, rfl, _⟩ := h
    rfl
  · obtain ⟨z, l, sws, full, v, rfl, hS, hcs, hz, hrun, k⟩ := h
    have nd := sc_reck.nd
    obtain ⟨tL, hL⟩ := T.v_LETTERS
    refine ⟨_, pss_cons (ps_set (i := 3) nd rfl (Or.inl rfl) (pe_lst pa_nil))
      (pss_cons (ps_set (i := 4) nd rfl (Or.inl rfl) pe_str)
      (pss_cons (ps_for PassesOwn.never rfl (pi_revstr rfl T.n_reversed (pa_cons (pv 0) pa_nil)) (pg_name (i := 5) nd rfl (Or.inl rfl))
        (pss_cons (ps_if (pt_cmpR op_lt (pe_callB call_len_seq rfl T.n_len bt_len (pa_cons (pv 3) pa_nil)) (pe_kget2 T.D_NEEDS rfl T.m_NEEDS (pv 5) pe_int) (nomark _)) pss_never pss_nil)
        (pss_cons (ps_if (PW.pt (pw_and (pt_cmpR op_eq (pv 5) pe_str (nomark _)) (pw_and1 (pt_cmpR op_notIn_str (pv 4) (pe_glob (v := .str "abcdefghij") rfl hL ⟨_, rfl⟩) rfl)))) pss_never pss_nil)
        (pss_cons (ps_if (pt_cmp (pc_kin T.D_NEEDS rfl T.m_NEEDS (pv 5)))
          (pss_cons (ps_set (i := 6) nd rfl (Or.inl rfl) (pe_call GT hr rfl T.m_taken T.k_taken T.b_taken .nil pass0 (pa_cons (pv 3) (pa_cons (pe_kix T.D_NEEDS rfl T.m_NEEDS (pv 5) (fun _ _ => rfl)) pa_nil))))
          (pss_one (ps_expr (pe_bm PySem.F.plainAttrs_list PySem.F.slot_list_append PySem.F.type_list_append mt_append (pv 3) (pa_cons (pe_call GP hr rfl T.m_put_together_wishes T.k_put_together_wishes T.b_put_together_wishes .nil pass0 (pa_cons (pv 5) (pa_cons (pv 6) (pa_cons (pv 2) pa_nil)))) pa_nil)))))
          (pss_one (ps_expr (pe_bm PySem.F.plainAttrs_list PySem.F.slot_list_append PySem.F.type_list_append mt_append (pv 3) (pa_cons (pe_call GV hr rfl T.m_value_of T.k_value_of T.b_value_of .nil pass0 (pa_cons (pv 5) (pa_cons (pv 1) (pa_cons (pv 2) pa_nil)))) pa_nil)))))
        (pss_one (ps_set (i := 4) nd rfl (Or.inl rfl) (pv 5)))))))
      (pss_cons (ps_if (pt_cmpR op_ne (pe_callB call_len_seq rfl T.n_len bt_len (pa_cons (pv 3) pa_nil)) pe_int (nomark _)) pss_never pss_nil)
      (pss_one (ps_ret (pe_ix ix_list (pv 3) pe_int (fun _ _ => rfl))))))), ?_⟩
    generalize ht : z.cps.toList = t at hcs hrun
    have hlen : t.length = z.length := by rw [← ht]; simp [Str.length]
    refine ⟨Nat.zero_le _, fun p hp => ?_⟩
    refine ⟨_, rfl, z, rfl, Nat.le_of_lt (small5k (by omega)), ?_⟩
    refine for_N (fun i σ H' => i ≤ z.length ∧ Same H H' ∧ ∃ (st : List Nat) (bh : Str) (s5 s6 : Option V), runR sws full (t.drop (z.length - i)) = some st ∧ (∀ c r, t.drop (z.length - i) = c :: r → bh = ⟨#[c]⟩) ∧
        st.length ≤ i ∧ H' p = some (.lst (iv st).reverse) ∧ σ = [some (.str z), some (.ref l), some (.int (full : Nat)), some (.ref p), some (.str bh), s5, s6])
      ⟨Nat.zero_le _, same_upd hp, [], _, none, none, (by rw [Nat.sub_zero, List.drop_of_length_le (by omega)]; rfl), (by rw [Nat.sub_zero, List.drop_of_length_le (by omega)]; intro c r e; cases e), Nat.le_refl _, upd_same, rfl⟩ ?_ ?_
    · rintro i σ H' hi ⟨_, hsm, st, bh, s5, s6, hst, hbh, hsl, hH, rfl⟩
      obtain ⟨st', h'⟩ := run_drop (z.length - (i + 1)) hrun
      have hlt : z.length - (i + 1) < t.length := by omega
      have ed : t.drop (z.length - (i + 1)) = t[z.length - (i + 1)] :: t.drop (z.length - i) := by
        rw [List.drop_eq_getElem_cons hlt, show z.length - (i + 1) + 1 = z.length - i by omega]
      have ec : (revAt z i) = V.str ⟨#[t[z.length - (i + 1)]]⟩ := by
        unfold revAt
        rw [ht, List.getD_eq_getElem?_getD, show z.length - 1 - i = z.length - (i + 1) by omega, List.getElem?_eq_getElem hlt]
        rfl
      rw [ec]
      generalize hcc : t[z.length - (i + 1)] = c at ed
      have hc128 : c < 128 := by rw [← hcc]; exact hcs _ (List.getElem_mem _)
      rw [ed] at h'
      obtain ⟨st2, h2, hstep⟩ := run_rest h'
      rw [hst] at h2
      cases h2
      have hpl : p ≠ l ∨ True := .inr trivial
      have hSl : SqL K H' l (iv sws) := hsm.seq hS
      unfold stepR at hstep
      by_cases hn : st.length < needs c
      · rw [if_pos hn] at hstep; cases hstep
      rw [if_neg hn] at hstep
      by_cases hq : c = 63 ∧ hdL (t.drop (z.length - i)) = false
      · rw [if_pos hq] at hstep; cases hstep
      rw [if_neg hq] at hstep
      -- len(found) < NEEDS.get(sign, 0)
      refine ⟨_, rfl, p, _, rfl, .inl (SqL.of hH), _, rfl, ⟨#[c]⟩, .int (needs c : Nat), rfl, ?_, _, _, rfl, rfl, _, rfl, ?_⟩
      · show ((needsD.lookup (⟨#[c]⟩ : Str)).map V.int).getD (V.int 0) = _
        rw [look_needs]
        by_cases h0 : 0 < needs c
        · rw [if_pos h0]; rfl
        · rw [if_neg h0, show needs c = 0 by omega]; rfl
      rw [List.length_reverse, iv_len, decide_eq_false (by omega)]
      refine iteF ?_
      -- sign == '?' and behind not in LETTERS
      refine ⟨_, rfl, rfl, _, rfl, ?_⟩
      rw [sg s63]
      have go : ∀ (D : Ends) (t1 : TS) (u1 : TS) (σ' : St), u1 D σ' H' → (if decide (c = 63) = true then (tTest (tOp (fun x y H Q => ∃ i j, x = .str i ∧ y = .str j ∧ Q (.bl (!(!(Builtin.Str.occurrences j i 0 j.length 1).isEmpty))) H) (tVar 4) (tC (.str "abcdefghij")))) [some (.str z), some (.ref l), some (.int (full : Nat)), some (.ref p), some (.str bh), some (.str ⟨#[c]⟩), s6] H' (fun b H1 => if b = true then t1 D σ' H1 else u1 D σ' H1) else (if false = true then t1 D σ' H' else u1 D σ' H')) := by
        intro D t1 u1 σ' hu1
        by_cases h63 : c = 63
        · rw [decide_eq_true h63]
          refine iteT ?_
          have hd : hdL (t.drop (z.length - i)) = true := by
            cases hh : hdL (t.drop (z.length - i)) with
            | true => rfl
            | false => exact absurd ⟨h63, hh⟩ hq
          cases er : t.drop (z.length - i) with
          | nil =>
            exfalso
            rw [er] at hst
            cases hst
            subst h63
            exact hn (by decide)
          | cons d r =>
            rw [er] at hd
            have hbd := hbh d r er
            subst hbd
            have hLd : isL d = true := hd
            refine ⟨_, rfl, _, _, rfl, rfl, _, rfl, ?_⟩
            rw [occL d (isL_128 hLd), if_pos hLd]
            exact iteF hu1
        · rw [decide_eq_false h63]
          exact iteF (iteF hu1)
      refine go _ _ _ _ ?_
      -- sign in NEEDS
      refine ⟨_, rfl, ⟨#[c]⟩, rfl, _, rfl, ?_⟩
      rw [look_needs]
      by_cases h0 : 0 < needs c
      · rw [if_pos h0] at hstep ⊢
        cases hstep
        refine iteT ?_
        refine ⟨_, rfl, _, rfl, ⟨#[c]⟩, ((needs c : Nat) : Int), rfl, by rw [look_needs, if_pos h0], p, iv st, needs c, rfl, hH, by rw [iv_len]; omega, by rw [iv_len]; omega, fun p2 H2 np2 h2p h2l hk => ?_⟩
        have n2 : p2 ≠ p := (ne_of_none hH np2).symm
        refine ⟨_, rfl, .inl ⟨rfl, _, SqL.of h2l⟩, _, rfl, _, rfl, _, rfl, c, p2, st.take (needs c), full, rfl, SqL.of (by rw [h2p, iv_take]), h0, by rw [List.length_take]; omega, p, _, _, rfl, rfl, h2l, ?_, ?_⟩
        · rw [List.length_reverse, List.length_drop, iv_len]; exact small5k (by omega)
        · refine ⟨_, rfl, hi, ?_, _, _, _, _, (by rw [ed]; exact h'), ?_, ?_, ?_, rfl⟩
          · intro b o e
            have hb : b ≠ p := ne_of_none e hp
            rw [upd_ne hb]
            exact hk b o (hsm b o e) hb
          · rw [ed]
            intro c' r' e'
            cases e'
            rfl
          · rw [List.length_cons, List.length_drop]; omega
          · rw [upd_same, iv_cons, List.reverse_cons, iv_drop]
      · rw [if_neg h0] at hstep ⊢
        refine iteF ?_
        cases hv : valR sws full c with
        | none => rw [hv] at hstep; cases hstep
        | some v' =>
          rw [hv] at hstep
          cases hstep
          refine ⟨_, rfl, .inl ⟨rfl, _, SqL.of hH⟩, _, rfl, _, rfl, _, rfl, c, l, sws, full, v', rfl, hSl, hc128, hv, p, _, _, rfl, rfl, hH, ?_, ?_⟩
          · rw [List.length_reverse, iv_len]; exact small5k (by omega)
          · refine ⟨_, rfl, hi, ?_, _, _, _, _, (by rw [ed]; exact h'), ?_, ?_, ?_, rfl⟩
            · intro b o e
              rw [upd_ne (ne_of_none e hp)]
              exact hsm b o e
            · rw [ed]
              intro c' r' e'
              cases e'
              rfl
            · rw [List.length_cons]; omega
            · rw [upd_same, iv_cons, List.reverse_cons]
    · rintro σ H' ⟨_, hsm, st, bh, s5, s6, hst, hbh, hsl, hH, rfl⟩
      rw [Nat.sub_self, List.drop_zero, hrun] at hst
      cases hst
      refine ⟨_, rfl, p, _, rfl, .inl (SqL.of hH), rfl, _, rfl, ?_⟩
      refine iteNS rfl ?_
      exact ⟨_, rfl, p, _, _, _, rfl, rfl, SqL.of hH, atI_nat (j := 0) rfl, k _ hsm⟩
theorem sc_maskof : FnScope ["text", "n"] ["text", "n"] (defScope st_mask_of_text) := ⟨rfl, rfl, rfl, by decide +kernel, rfl, by decide +kernel, by decide +kernel⟩
theorem ok_maskof (T : All P w K mg AA DD) : FnOk P w K mg base CX0 3 AA.mask_of_text DD.mask_of_text ["text", "n"] spMaskOf := by
  have GE := ok_every (base := base) T
  have GS := ok_switch (base := base) T
  have GR := ok_reck (base := base) T
  refine T.F_mask_of_text.ok sc_maskof (fun vs H Q E h => ?_) (fun cdv A outer s H vs Q E hr h => ?_)
  · obtain ⟨z, n, v, rfl, _⟩ := h
    rfl
  · obtain ⟨z, n, v, rfl, hn, hcs, hz, hrun, k⟩ := h
    have hr1 : Room 1 _ := hr.mono (by decide)
    refine ⟨_, pss_one (ps_ret (pe_call GR hr rfl T.m_reckoned T.k_reckoned T.b_reckoned .nil pass0 (pa_cons (pv 0) (pa_cons
      (pe_comp (defScope st_mask_of_text) ["text", "n"] ["n"] [1] rfl (by exact ⟨rfl, rfl, by decide +kernel, rfl, by decide +kernel, by decide +kernel, by decide +kernel, rfl, by decide +kernel⟩) rfl rfl
        (pi_range1 rfl T.n_range (pa_cons (pv 1) pa_nil)) (fun _ _ _ _ => pif_nil) (fun _ _ _ _ => pe_call GS hr1 rfl T.m_switch_mask T.k_switch_mask T.b_switch_mask .nil pass0 (pa_cons (pv 0) (pa_cons (pv 1) pa_nil))))
      (pa_cons (pe_call GE hr1 rfl T.m_every T.k_every T.b_every .nil pass0 (pa_cons (pv 1) pa_nil)) pa_nil))))), ?_⟩
    refine ⟨_, rfl, _, rfl, _, rfl, by omega, by omega, ?_⟩
    rw [Int.toNat_natCast]
    refine comp_range (fun i ys H' => H' = H ∧ ys = iv ((List.range i).map fun k => sw k n)) ⟨rfl, rfl⟩ ?_ ?_
    · rintro i ys H' hi ⟨rfl, rfl⟩
      refine tYes_ok ?_
      rw [if_pos rfl]
      refine ⟨_, rfl, _, rfl, i, n, by simp, hi, hn, ?_, rfl, ?_⟩
      · rw [iv_len, List.length_map, List.length_range]; exact small5k (by omega)
      · rw [List.range_succ, List.map_append, List.map_singleton, iv_snoc]
    · rintro ys H' ⟨rfl, rfl⟩ p hp
      refine ⟨_, rfl, n, rfl, hn, z, p, swl n, fulln n, v, rfl, SqL.of upd_same, hcs, hz, hrun, fun H2 hs => k H2 ((same_upd hp).trans hs)⟩
theorem sc_read : FnScope ["text", "n"] ["text", "n"] (defScope st_read_wish) := ⟨rfl, rfl, rfl, by decide +kernel, rfl, by decide +kernel, by decide +kernel⟩
theorem ok_read (T : All P w K mg AA DD) : FnOk P w K mg base CX0 4 AA.read_wish DD.read_wish ["text", "n"] spMaskOf := by
  have GM := ok_maskof (base := base) T
  refine T.F_read_wish.ok sc_read (fun vs H Q E h => ?_) (fun cdv A outer s H vs Q E hr h => ?_)
  · obtain ⟨z, n, v, rfl, _⟩ := h
    rfl
  · obtain ⟨z, n, v, rfl, h⟩ := h
    refine ⟨_, pss_one (ps_ret (pe_call GM hr rfl T.m_mask_of_text T.k_mask_of_text T.b_mask_of_text .nil pass0 (pa_cons (pv 0) (pa_cons (pv 1) pa_nil)))), ?_⟩
    exact ⟨_, rfl, _, rfl, z, n, v, rfl, h⟩
end
section
variable {P : Program} {w : World} {K : PySem.W.Frag} {mg : Str → Option Value} {base : Heap} {AA : Adr} {DD : Fds}
/-! rows of words: the good ones -/
noncomputable def mka (n : Nat) (ar : List W) : Nat := ar.foldl (fun m v => m &&& v.val (swl n) (fulln n)) (fulln n)
noncomputable def rowD (n : Nat) (fs : List (Str × List W)) : List (Str × Nat) := fs.map fun p => (p.1, mka n p.2)
noncomputable def stk (n : Nat) (ar : List W) : List Nat := (List.range (ar.length + 1)).map fun i => mka n (ar.take i)
theorem mka_snoc (n : Nat) (ar : List W) (v : W) : mka n (ar ++ [v]) = mka n ar &&& v.val (swl n) (fulln n) := by simp [mka]
theorem stk_len (n : Nat) (ar : List W) : (stk n ar).length = ar.length + 1 := by simp [stk]
theorem stk_snoc (n : Nat) (ar : List W) (v : W) : stk n (ar ++ [v]) = stk n ar ++ [mka n (ar ++ [v])] := by
  unfold stk
  rw [List.length_append, List.length_singleton, List.range_succ, List.map_append]
  congr 1
  · refine List.map_congr_left fun i hi => ?_
    have := List.mem_range.mp hi
    rw [List.take_append_of_le_length (by omega)]
  · rw [List.map_singleton, List.take_of_length_le (by simp)]
theorem stk_drop (n : Nat) {ar : List W} (h : ar ≠ []) : (stk n ar).dropLast = stk n ar.dropLast := by
  obtain ⟨a, v, rfl⟩ : ∃ a v, ar = a ++ [v] := ⟨ar.dropLast, ar.getLast h, (List.dropLast_concat_getLast h).symm⟩
  rw [stk_snoc, List.dropLast_concat, List.dropLast_concat]
theorem stk_at (n : Nat) (ar : List W) : atI (iv (stk n ar)) (-1) = some (.int ((mka n ar : Nat) : Int)) := by
  rcases List.eq_nil_or_concat ar with rfl | ⟨a, v, rfl⟩
  · exact atI_last [] _
  · rw [List.concat_eq_append, stk_snoc, iv_snoc]; exact atI_last _ _
theorem stk_last (n : Nat) (ar : List W) : (stk n ar)[ar.length]? = some (mka n ar) := by
  unfold stk
  rw [List.getElem?_map, List.getElem?_range (by omega)]
  simp
/-- tuples of a word and a mask -/
noncomputable def TupL (H : Hp) (ts : List Addr) (r : List (Str × Nat)) : Prop := ts.length = r.length ∧ ∀ (i : Nat) (t : Addr) (w : Str × Nat), ts[i]? = some t → r[i]? = some w → H t = some (.tup [.str w.1, .int ((w.2 : Nat) : Int)])
theorem TupL.nil (H : Hp) : TupL H [] [] := ⟨rfl, fun i t w h => by simp at h⟩
theorem TupL.same {H H' : Hp} {ts : List Addr} {r : List (Str × Nat)} (h : TupL H ts r) (s : Same H H') : TupL H' ts r := ⟨h.1, fun i t w a b => s _ _ (h.2 i t w a b)⟩
theorem TupL.lst {H : Hp} {ts : List Addr} {r : List (Str × Nat)} {l : Addr} {xs ys : List V} (h : TupL H ts r) (hl : H l = some (.lst xs)) : TupL (upd H l (.lst ys)) ts r :=
  ⟨h.1, fun i t w a b => by rw [upd_ne (ne_of (h.2 i t w a b) hl (by intro z; cases z))]; exact h.2 i t w a b⟩
theorem TupL.snoc {H : Hp} {ts : List Addr} {r : List (Str × Nat)} {t : Addr} {w : Str × Nat} (h : TupL H ts r) (ht : H t = some (.tup [.str w.1, .int ((w.2 : Nat) : Int)])) : TupL H (ts ++ [t]) (r ++ [w]) := by
  refine ⟨by simp [h.1], fun i u q h1 h2 => ?_⟩
  have hl := h.1
  by_cases hi : i < ts.length
  · rw [List.getElem?_append_left hi] at h1
    rw [List.getElem?_append_left (by omega)] at h2
    exact h.2 i u q h1 h2
  · rw [List.getElem?_append_right (by omega)] at h1
    rw [List.getElem?_append_right (by omega)] at h2
    have hi0 : i - ts.length = 0 := by
      cases hh : i - ts.length with
      | zero => rfl
      | succ m => rw [hh] at h1; simp at h1
    rw [← hl, hi0] at h2
    rw [hi0] at h1
    have e1 : t = u := by simpa using h1
    have e2 : w = q := by simpa using h2
    subst e1; subst e2
    exact ht
noncomputable def RowAt (H : Hp) (l : Addr) (r : List (Str × Nat)) : Prop := ∃ ts : List Addr, H l = some (.lst (ts.map V.ref)) ∧ TupL H ts r
theorem RowAt.same {H H' : Hp} {l : Addr} {r : List (Str × Nat)} (h : RowAt H l r) (s : Same H H') : RowAt H' l r := by obtain ⟨ts, a, b⟩ := h; exact ⟨ts, s _ _ a, b.same s⟩
noncomputable def spGroup : Sp := fun vs H Q _ => ∃ (v : W) (n : Nat) (x : V), vs = [.str (wd (.op v)), .int n, x] ∧ n ≤ 10 ∧ v.ok n ∧ v.signs.length ≤ 100 ∧ ∀ H', Same H H' → Q (.int (v.val (swl n) (fulln n) : Nat)) H'
noncomputable def spWords : Sp := fun vs H Q _ => ∃ (evs : List Ev) (n : Nat), vs = [.str (rowT evs)] ∧ n ≤ 10 ∧ Gev n evs ∧ evs.length ≤ 1000 ∧ ∀ p, H p = none → Q (.ref p) (upd H p (.lst ((evs.map wd).map V.str)))
noncomputable def spReadW : Sp := fun vs H Q _ => ∃ (evs : List Ev) (n : Nat) (x : V), vs = [.str (rowT evs), .int n, x] ∧ n ≤ 10 ∧ Gev n evs ∧ (rn evs).2 = [] ∧ evs.length ≤ 1000 ∧ ∀ p H', H p = none → Same H H' → RowAt H' p (rowD n (rn evs).1) → Q (.ref p) H'
theorem e_ : ("" : Str) = ⟨#[]⟩ := by decide +kernel
theorem e_gt : (">" : Str) = ⟨#[62]⟩ := by decide +kernel
theorem e_lt : ("<" : Str) = ⟨#[60]⟩ := by decide +kernel
theorem e_sp : (" " : Str) = ⟨#[32]⟩ := by decide +kernel
theorem dec_str (a b : Str) : decide (V.str a = V.str b) = decide (a = b) := by
  by_cases h : a = b
  · subst h; simp
  · rw [decide_eq_false h]; exact decide_eq_false fun z => h (by injection z)
theorem starts_op (v : W) : (0 + ("<" : Str).length ≤ (wd (.op v)).length && Builtin.Str.subAt (wd (.op v)) "<" 0) = true := by
  rw [e_lt]
  have : (⟨#[60]⟩ : Str).length = 1 := rfl
  simp [wd, Builtin.Str.subAt, Str.length]
noncomputable abbrev N_words_of : List Str := ["row"]
theorem sc_words_of : FnScope N_words_of ["row"] (defScope st_words_of) := ⟨rfl, rfl, rfl, by decide +kernel, rfl, by decide +kernel, by decide +kernel⟩
theorem ok_words (T : All P w K mg AA DD) : FnOk P w K mg base CX0 1 AA.words_of DD.words_of ["row"] spWords := by
  refine T.F_words_of.ok sc_words_of (fun vs H Q E h => ?_) (fun cdv A outer s H vs Q E hr h => ?_)
  · obtain ⟨evs, n, rfl, _⟩ := h
    rfl
  · obtain ⟨evs, n, rfl, hn, g, hl, k⟩ := h
    refine ⟨_, (@pss_cons _ _ _ _ _ (@ps_if _ _ _ _ _ _ _ _ (@pt_cmpR _ _ _ _ _ _ _ _ op_eq (pv 0) pe_str (nomark _)) (@pss_one _ _ _ (@ps_ret _ _ _ _ (@pe_lst _ _ _ _ pa_nil))) pss_nil) (@pss_one _ _ _ (@ps_ret _ _ _ _ (pe_bmK (K := K) rfl PySem.F.plainAttrs_str PySem.F.slot_str_split PySem.F.type_str_split mt_split (pv 0) (@pa_cons _ _ _ _ _ pe_str pa_nil (by rfl)))))), ?_⟩
    refine ⟨_, rfl, rfl, _, rfl, ?_⟩
    rw [dec_str]
    by_cases h0 : evs = []
    · subst h0
      rw [decide_eq_true (show rowT [] = "" by rw [e_]; rfl)]
      refine iteT ?_
      exact ⟨(by decide), fun p hp => k p hp⟩
    · rw [decide_eq_false (show ¬ rowT evs = "" from fun z => rowT_nil hn g h0 (by rw [z, e_]))]
      refine iteF ?_
      have hlen := rowT_len hn g
      refine ⟨_, rfl, rfl, _, _, rfl, rfl, (by rw [e_sp]; rfl), Nat.le_of_lt (Nat.lt_of_lt_of_le (Nat.lt_of_le_of_lt (Nat.add_le_add_right hlen 2) (show evs.length * 102 + 2 < 16777216 by omega)) (by decide)), fun p hp => ?_⟩
      rw [e_sp, rowT_split hn g h0]
      exact k p hp
noncomputable abbrev N_group_mask : List Str := ["word", "n", "at"]
theorem sc_group_mask : FnScope N_group_mask ["word", "n", "at"] (defScope st_group_mask) := ⟨rfl, rfl, rfl, by decide +kernel, rfl, by decide +kernel, by decide +kernel⟩
theorem ok_group (T : All P w K mg AA DD) : FnOk P w K mg base CX0 5 AA.group_mask DD.group_mask ["word", "n", "at"] spGroup := by
  have GR := ok_read (base := base) T
  refine T.F_group_mask.ok sc_group_mask (fun vs H Q E h => ?_) (fun cdv A outer s H vs Q E hr h => ?_)
  · obtain ⟨v, n, x, rfl, _⟩ := h
    rfl
  · obtain ⟨v, n, x, rfl, hn, hv, hl, k⟩ := h
    have hr4 : Room 4 _ := hr.mono (by decide)
    refine ⟨_, (@pss_one _ _ _ (ps_tryok (@pss_one _ _ _ (@ps_ret _ _ _ _ (pe_call GR hr4 rfl T.m_read_wish T.k_read_wish T.b_read_wish .nil pass0 (@pa_cons _ _ _ _ _ (pe_slice sl_str (pv 0) (po_some pe_int) po_none) (@pa_cons _ _ _ _ _ (pv 1) pa_nil (by rfl)) (by rfl))))))), ?_⟩
    have hwl : (wd (.op v)).length ≤ sizeLine := Nat.le_of_lt (small1000 (by simp [wd, Str.length]; omega))
    have ec : cutS (wd (.op v)) (some 1) none = wst v := str_ext (by rw [show (1 : Int) = ((1 : Nat) : Int) from rfl, cutS_from]; rfl)
    refine ⟨_, rfl, _, rfl, _, rfl, hwl, ?_⟩
    rw [ec]
    refine ⟨_, rfl, wst v, n, v.val (swl n) (fulln n), rfl, hn, signs_128 hn v hv, (by show v.signs.toArray.size ≤ 4000; simp; omega), run_wish (by rw [swl_len']; exact Nat.le_refl _) hn hv, fun H' hs => k H' hs⟩
noncomputable abbrev N_read_words : List Str := ["row", "n", "at", "plain", "masks", "word"]
theorem sc_read_words : FnScope N_read_words ["row", "n", "at"] (defScope st_read_words) := ⟨rfl, rfl, rfl, by decide +kernel, rfl, by decide +kernel, by decide +kernel⟩
theorem ok_readw (T : All P w K mg AA DD) : FnOk P w K mg base CX0 6 AA.read_words DD.read_words ["row", "n", "at"] spReadW := by
  have GE := ok_every (base := base) T
  have GO := ok_words (base := base) T
  have GG := ok_group (base := base) T
  refine T.F_read_words.ok sc_read_words (fun vs H Q E h => ?_) (fun cdv A outer s H vs Q E hr h => ?_)
  · obtain ⟨evs, n, x, rfl, _⟩ := h
    rfl
  · obtain ⟨evs, n, x, rfl, hn, g, hend, hle, k⟩ := h
    have nd := sc_read_words.nd
    have hr1 : Room 1 _ := hr.mono (by decide)
    have hr5 : Room 5 _ := hr.mono (by decide)
    obtain ⟨tD, hDEEPEST_GROUP⟩ := T.v_DEEPEST_GROUP
    refine ⟨_, (@pss_cons _ _ _ _ _ (@ps_set _ _ 3 _ _ _ _ nd rfl (Or.inl rfl) (@pe_lst _ _ _ _ pa_nil) (by rfl) (by first | exact .inl rfl | exact .inr rfl | assumption)) (@pss_cons _ _ _ _ _ (@ps_set _ _ 4 _ _ _ _ nd rfl (Or.inl rfl) (@pe_lst _ _ _ _ (@pa_cons _ _ _ _ _ (pe_call GE hr1 rfl T.m_every T.k_every T.b_every .nil pass0 (@pa_cons _ _ _ _ _ (pv 1) pa_nil (by rfl))) pa_nil (by rfl))) (by rfl) (by first | exact .inl rfl | exact .inr rfl | assumption)) (@pss_cons _ _ _ _ _ (@ps_for _ _ _ _ _ _ _ _ PassesOwn.never rfl (pi_list (pe_call GO hr1 rfl T.m_words_of T.k_words_of T.b_words_of .nil pass0 (@pa_cons _ _ _ _ _ (pv 0) pa_nil (by rfl)))) (pg_name (i := 5) nd rfl (Or.inl rfl)) (@pss_cons _ _ _ _ _ (@ps_if _ _ _ _ _ _ _ _ (@pt_cmpR _ _ _ _ _ _ _ _ op_eq (pv 5) pe_str (nomark _)) pss_never pss_nil) (@pss_one _ _ _ (@ps_if _ _ _ _ _ _ _ _ (@pt_cmpR _ _ _ _ _ _ _ _ op_eq (pv 5) pe_str (nomark _)) (@pss_cons _ _ _ _ _ (@ps_expr _ _ _ _ (pe_bm0 PySem.F.plainAttrs_list PySem.F.slot_list_pop PySem.F.type_list_pop mt_pop (pv 4)) (by rfl)) (@pss_one _ _ _ (@ps_if _ _ _ _ _ _ _ _ (@pt_cmpR _ _ _ _ _ _ _ _ op_eq (pe_callB call_len_seq rfl T.n_len bt_len (@pa_cons _ _ _ _ _ (pv 4) pa_nil (by rfl))) pe_int (nomark _)) pss_never pss_nil))) (@pss_one _ _ _ (@ps_if _ _ _ _ _ _ _ _ (pt_val (pe_bmK (K := K) rfl PySem.F.plainAttrs_str PySem.F.slot_str_startswith PySem.F.type_str_startswith mt_starts (pv 5) (@pa_cons _ _ _ _ _ pe_str pa_nil (by rfl)))) (@pss_cons _ _ _ _ _ (@ps_if _ _ _ _ _ _ _ _ (@pt_cmpR _ _ _ _ _ _ _ _ op_gt (pe_callB call_len_seq rfl T.n_len bt_len (@pa_cons _ _ _ _ _ (pv 4) pa_nil (by rfl))) (pe_glob (v := .int 5) rfl hDEEPEST_GROUP ⟨_, rfl⟩) (nomark _)) pss_never pss_nil) (@pss_one _ _ _ (@ps_expr _ _ _ _ (pe_bm PySem.F.plainAttrs_list PySem.F.slot_list_append PySem.F.type_list_append mt_append (pv 4) (@pa_cons _ _ _ _ _ (@pe_op _ _ _ _ _ _ _ _ op_and (@pe_ix _ _ _ _ _ _ _ (ix_listK (K := K) rfl) (pv 4) (pe_un un_neg pe_int) (fun _ _ => rfl)) (pe_call GG hr5 rfl T.m_group_mask T.k_group_mask T.b_group_mask .nil pass0 (@pa_cons _ _ _ _ _ (pv 5) (@pa_cons _ _ _ _ _ (pv 1) (@pa_cons _ _ _ _ _ (pv 2) pa_nil (by rfl)) (by rfl)) (by rfl)))) pa_nil (by rfl))) (by rfl)))) (@pss_one _ _ _ (@ps_expr _ _ _ _ (pe_bm PySem.F.plainAttrs_list PySem.F.slot_list_append PySem.F.type_list_append mt_append (pv 3) (@pa_cons _ _ _ _ _ (@pe_tup _ _ _ _ _ (@pa_cons _ _ _ _ _ (pv 5) (@pa_cons _ _ _ _ _ (@pe_ix _ _ _ _ _ _ _ (ix_listK (K := K) rfl) (pv 4) (pe_un un_neg pe_int) (fun _ _ => rfl)) pa_nil (by rfl)) (by rfl))) pa_nil (by rfl))) (by rfl)))))))) (by intro _; rfl)) (@pss_cons _ _ _ _ _ (@ps_if _ _ _ _ _ _ _ _ (@pt_cmpR _ _ _ _ _ _ _ _ op_gt (pe_callB call_len_seq rfl T.n_len bt_len (@pa_cons _ _ _ _ _ (pv 4) pa_nil (by rfl))) pe_int (nomark _)) pss_never pss_nil) (@pss_one _ _ _ (@ps_ret _ _ _ _ (pv 3))))))), ?_⟩
    refine ⟨Nat.zero_le _, fun pp hpp => ?_⟩
    refine ⟨_, rfl, n, rfl, hn, (by show 1 ≤ sizeLine; decide), fun pm hpm => ?_⟩
    have npm : pp ≠ pm := ne_of_none upd_same hpm
    dsimp only [gName]
    refine cut_for (fun σ' H' => Same H H' ∧ ∃ s5 : Option V, RowAt H' pp (rowD n (rn evs).1) ∧ H' pm = some (.lst (iv (stk n (rn evs).2))) ∧ σ' = [some (.str (rowT evs)), some (.int (n : Nat)), some x, some (.ref pp), some (.ref pm), s5]) (fun R hR => ?_) ?_
    · refine ⟨_, rfl, evs, n, rfl, hn, g, hle, fun pw hpw => ?_⟩
      have s0 : Same H (upd (upd (upd H pp (.lst [])) pm (.lst [.int ((fulln n : Nat) : Int)])) pw (.lst ((evs.map wd).map V.str))) := ((same_upd hpp).trans (same_upd hpm)).trans (same_upd hpw)
      have npw : pp ≠ pw := ne_of_none (show upd (upd H pp _) pm _ pp = some _ by rw [upd_ne npm, upd_same]) hpw
      have nmw : pm ≠ pw := ne_of_none upd_same hpw
      have hpp0 : H pp = none := hpp
      have hpm0 : H pm = none := by rw [upd_ne (Ne.symm npm)] at hpm; exact hpm
      refine ⟨pw, rfl, ⟨_, SqL.of upd_same⟩, ?_⟩
      refine for_list (K := K) (a := pw) (xs := (evs.map wd).map V.str) (fun i σ' H' => Same H H' ∧ H' pw = some (.lst ((evs.map wd).map V.str)) ∧ ∃ s5 : Option V, RowAt H' pp (rowD n (rn (evs.take i)).1) ∧ H' pm = some (.lst (iv (stk n (rn (evs.take i)).2))) ∧
          σ' = [some (.str (rowT evs)), some (.int (n : Nat)), some x, some (.ref pp), some (.ref pm), s5])
        ⟨s0, upd_same, none, ⟨[], by rw [upd_ne npw, upd_ne npm, upd_same]; rfl, TupL.nil _⟩, by rw [upd_ne nmw, upd_same]; rfl, rfl⟩ (fun i σ' H' _ hsl55 => by obtain ⟨_, e, _⟩ := hsl55; exact SqL.of e) ?_ ?_
      · rintro i y σ' H1 hy ⟨sm, hpw1, s5, ⟨ts, hts, htl⟩, hst, rfl⟩
        have hil : i < evs.length := by
          have := (List.getElem?_eq_some_iff.mp hy).1
          simpa using this
        obtain ⟨e, he⟩ : ∃ e, evs[i]? = some e := ⟨_, List.getElem?_eq_getElem hil⟩
        have ey : y = V.str (wd e) := by
          rw [List.getElem?_map, List.getElem?_map, he] at hy
          exact (Option.some.inj hy).symm
        subst ey
        have hok := g i e he
        have hrn := rn_take he
        obtain ⟨hsg, hne, hl10⟩ := evok_wd hn hok
        generalize hgo : rn (evs.take i) = st at hok hrn htl hst
        obtain ⟨fs, ar⟩ := st
        have hfl : fs.length ≤ 1000 ∧ ts.length = fs.length := by
          refine ⟨?_, by rw [htl.1]; simp [rowD]⟩
          have : ∀ l : List Ev, (rn l).1.length ≤ l.length := by
            intro l
            have : ∀ (l : List Ev) (st : RSt), (l.foldl stp st).1.length ≤ st.1.length + l.length := by
              intro l
              induction l with
              | nil => intro st; exact Nat.le_refl _
              | cons e r ih =>
                intro st
                have h1 := ih (stp st e)
                have h2 : (stp st e).1.length ≤ st.1.length + 1 := by cases e <;> simp [stp]
                simp only [List.foldl_cons, List.length_cons]
                omega
            simpa [rn] using this l ([], [])
          have h3 := this (evs.take i)
          rw [hgo] at h3
          rw [List.length_take] at h3
          show fs.length ≤ 1000
          have : fs.length ≤ min i evs.length := h3
          omega
        refine ⟨_, rfl, rfl, _, rfl, ?_⟩
        rw [dec_str, decide_eq_false (show ¬ wd e = "" from fun z => hne (by rw [z, e_]))]
        refine iteF ?_
        refine ⟨_, rfl, rfl, _, rfl, ?_⟩
        rw [dec_str, e_gt]
        have nwm : pw ≠ pm := Ne.symm nmw
        cases e with
        | cl =>
          rw [decide_eq_true (show wd .cl = ⟨#[62]⟩ from rfl)]
          refine iteT ?_
          have har : ar ≠ [] := hok
          have hal : 0 < ar.length := List.length_pos_iff.mpr har
          refine ⟨_, rfl, .inl ⟨rfl, _, SqL.of hst⟩, pm, _, _, rfl, rfl, hst, (by rw [iv_len, stk_len, Nat.add_sub_cancel]; rw [iv, List.getElem?_map, stk_last]; rfl), ?_⟩
          have h2 : (iv (stk n ar)).dropLast = iv (stk n ar.dropLast) := by rw [← stk_drop n har]; simp [iv, List.map_dropLast]
          rw [h2]
          refine ⟨_, rfl, pm, _, rfl, .inl (SqL.of upd_same), rfl, _, rfl, ?_⟩
          rw [iv_len, stk_len, dec_int, beq_eq_false_iff_ne.mpr (show ¬ ((ar.dropLast.length + 1 : Nat) : Int) = 0 by omega)]
          refine iteF ?_
          refine ⟨fun b u e => ?_, ?_, _, ⟨ts, ?_, ?_⟩, ?_, rfl⟩
          · rw [upd_ne (ne_of_none e hpm0)]; exact sm b u e
          · rw [upd_ne nwm]; exact hpw1
          · rw [upd_ne npm]; exact hts
          · rw [hrn]; exact htl.lst hst
          · rw [upd_same, hrn]; rfl
        | op v =>
          obtain ⟨hv, hl9, h5⟩ := hok
          have h5 : ar.length < 5 := h5
          rw [decide_eq_false (show ¬ wd (.op v) = ⟨#[62]⟩ from fun z => by
            have := congrArg (fun z : Str => z.cps.toList) z
            simp [wd] at this)]
          refine iteF ?_
          refine ⟨_, rfl, rfl, _, _, rfl, rfl, _, rfl, ?_⟩
          rw [starts_op]
          refine iteT ?_
          refine ⟨_, rfl, pm, _, rfl, .inl (SqL.of hst), _, _, rfl, rfl, _, rfl, ?_⟩
          rw [iv_len, stk_len, decide_eq_false (show ¬ (5 : Int) < ((ar.length + 1 : Nat) : Int) by omega)]
          refine iteF ?_
          refine ⟨_, rfl, .inl ⟨rfl, _, SqL.of hst⟩, _, rfl, _, rfl, pm, _, _, .int (mka n ar : Nat), rfl, rfl, SqL.of hst, ?_, ?_⟩
          · exact stk_at n ar
          refine ⟨_, rfl, _, rfl, _, rfl, v, n, x, rfl, hn, hv, hl9, fun H2 hs2 => ⟨_, _, rfl, rfl, ?_⟩⟩
          have hst2 := hs2 _ _ hst
          refine ⟨pm, _, _, rfl, rfl, hst2, (by rw [iv_len, stk_len]; exact small1000 (by omega)), ?_⟩
          refine ⟨fun b u e => ?_, ?_, _, ⟨ts, ?_, ?_⟩, ?_, rfl⟩
          · rw [upd_ne (ne_of_none e hpm0)]; exact hs2 _ _ (sm b u e)
          · rw [upd_ne nwm]; exact hs2 _ _ hpw1
          · rw [upd_ne npm]; exact hs2 _ _ hts
          · rw [hrn]; exact (htl.same hs2).lst hst2
          · rw [upd_same, hrn]
            dsimp only
            rw [bitAnd_nat, ← mka_snoc]
            show some (HO.lst (iv (stk n ar) ++ [V.int ((mka n (ar ++ [v]) : Nat) : Int)])) = some (HO.lst (iv (stk n (ar ++ [v]))))
            rw [stk_snoc, iv_snoc]
        | pl z =>
          obtain ⟨hP, hz5⟩ := hok
          rw [decide_eq_false (show ¬ wd (.pl z) = ⟨#[62]⟩ from hP.gt)]
          refine iteF ?_
          refine ⟨_, rfl, rfl, _, _, rfl, rfl, _, rfl, ?_⟩
          have hns : (0 + ("<" : Str).length ≤ (wd (.pl z)).length && Builtin.Str.subAt (wd (.pl z)) "<" 0) = false := by
            obtain ⟨c, r, hzc, hc60⟩ := hP.hd
            rw [e_lt]
            show (0 + 1 ≤ z.length && Builtin.Str.subAt z ⟨#[60]⟩ 0) = false
            have hx : (z.cps.extract 0 (⟨#[60]⟩ : Str).length).toList = [c] := by
              rw [Array.toList_extract, hzc]; rfl
            simp [Builtin.Str.subAt]
            intro _ h2
            have h3 := congrArg Array.toList h2
            rw [hx] at h3
            simp at h3
            exact hc60 h3
          rw [hns]
          refine iteF ?_
          refine ⟨_, rfl, .inl ⟨rfl, _, SqL.of hts⟩, _, rfl, _, rfl, _, rfl, pm, _, _, .int (mka n ar : Nat), rfl, rfl, SqL.of hst, ?_, (by show 2 ≤ sizeLine; decide), fun t ht => ?_⟩
          · exact stk_at n ar
          have s2 := same_upd (o := .tup [.str z, .int ((mka n ar : Nat) : Int)]) ht
          refine ⟨pp, _, _, rfl, rfl, s2 _ _ hts, (by rw [List.length_map]; exact small1000 (by omega)), ?_⟩
          refine ⟨fun b u e => ?_, ?_, _, ⟨ts ++ [t], ?_, ?_⟩, ?_, rfl⟩
          · rw [upd_ne (ne_of_none e hpp0)]; exact s2 _ _ (sm b u e)
          · rw [upd_ne (Ne.symm npw)]; exact s2 _ _ hpw1
          · rw [upd_same, List.map_append]; rfl
          · rw [hrn]
            show TupL _ (ts ++ [t]) (rowD n (fs ++ [(z, ar)]))
            rw [show rowD n (fs ++ [(z, ar)]) = rowD n fs ++ [(z, mka n ar)] by simp [rowD]]
            exact ((htl.same s2).snoc upd_same).lst (s2 _ _ hts)
          · rw [upd_ne (Ne.symm npm), hrn]; exact s2 _ _ hst
      · rintro σ' H1 ⟨sm, _, s5, hrow, hst, rfl⟩
        have e : ((evs.map wd).map V.str).length = evs.length := by simp
        rw [e, List.take_length] at hrow hst
        exact hR _ _ ⟨sm, s5, hrow, hst, rfl⟩
    rintro σ' H1 ⟨sm, s5, hrow, hst, rfl⟩
    refine ⟨_, rfl, pm, _, rfl, .inl (SqL.of hst), _, _, rfl, rfl, _, rfl, ?_⟩
    rw [iv_len, stk_len, hend, decide_eq_false (show ¬ (1 : Int) < ((([] : List W).length + 1 : Nat) : Int) by decide)]
    refine iteF ?_
    exact ⟨_, rfl, k pp H1 hpp sm hrow⟩
end
section
variable {P : Program} {w : World} {K : PySem.W.Frag} {mg : Str → Option Value} {base : Heap} {AA : Adr} {DD : Fds}
noncomputable def textT (rws : List (List Ev)) : Str := Str.join ⟨#[10]⟩ (rws.map rowT)
noncomputable def RowsAt (H : Hp) (p : Addr) (ls : List Addr) (rows : List (List (Str × Nat))) : Prop := H p = some (.lst (ls.map V.ref)) ∧ ls.length = rows.length ∧ ∀ (i : Nat) (l : Addr) (r : List (Str × Nat)), ls[i]? = some l → rows[i]? = some r → RowAt H l r
theorem RowsAt.same {H H' : Hp} {p : Addr} {ls : List Addr} {rows : List (List (Str × Nat))} (h : RowsAt H p ls rows) (s : Same H H') : RowsAt H' p ls rows := ⟨s _ _ h.1, h.2.1, fun i l r a b => (h.2.2 i l r a b).same s⟩
noncomputable def Grs (n : Nat) (rws : List (List Ev)) : Prop := rws ≠ [] ∧ rws.length ≤ 60 ∧ ∀ evs ∈ rws, Gev n evs ∧ (rn evs).2 = [] ∧ evs.length ≤ 100
noncomputable def rowsD (n : Nat) (rws : List (List Ev)) : List (List (Str × Nat)) := rws.map fun evs => rowD n (rn evs).1
noncomputable def spReadR : Sp := fun vs H Q _ => ∃ (rws : List (List Ev)) (n : Nat), vs = [.str (textT rws), .int n] ∧ n ≤ 10 ∧ Grs n rws ∧ ∀ p ls H', H p = none → Same H H' → RowsAt H' p ls (rowsD n rws) → Q (.ref p) H'
theorem e_nl : ("\n" : Str) = ⟨#[10]⟩ := by decide +kernel
theorem textT_split {n : Nat} (hn : n ≤ 10) {rws : List (List Ev)} (g : Grs n rws) : Txt.split (textT rws) ⟨#[10]⟩ = rws.map rowT :=
  split_join (by simpa using g.1) fun z hz hc => by
    obtain ⟨evs, he, rfl⟩ := List.mem_map.mp hz
    have := rowT_sg hn (g.2.2 evs he).1 10 hc
    omega
theorem textT_len {n : Nat} (hn : n ≤ 10) {rws : List (List Ev)} (g : Grs n rws) : (textT rws).length ≤ 700000 := by
  rw [str_len, textT, join_list]
  refine Nat.le_trans (jl_len _) ?_
  have := sum_le (l := ((rws.map rowT).map fun z => z.cps.toList).map List.length) (b := 10200) (fun x hx => by
    obtain ⟨l, hl, rfl⟩ := List.mem_map.mp hx
    obtain ⟨z, hz, rfl⟩ := List.mem_map.mp hl
    obtain ⟨evs, he, rfl⟩ := List.mem_map.mp hz
    have h1 := rowT_len hn (g.2.2 evs he).1
    have h2 := (g.2.2 evs he).2.2
    rw [str_len] at h1
    omega)
  have h60 := g.2.1
  simp only [List.length_map] at this ⊢
  omega
noncomputable abbrev N_read_rows : List Str := ["text", "n"]
theorem sc_read_rows : FnScope N_read_rows ["text", "n"] (defScope st_read_rows) := ⟨rfl, rfl, rfl, by decide +kernel, rfl, by decide +kernel, by decide +kernel⟩
theorem ok_readr (T : All P w K mg AA DD) : FnOk P w K mg base CX0 7 AA.read_rows DD.read_rows ["text", "n"] spReadR := by
  have GX := ok_readw (base := base) T
  refine T.F_read_rows.ok sc_read_rows (fun vs H Q E h => ?_) (fun cdv A outer s H vs Q E hr h => ?_)
  · obtain ⟨rws, n, rfl, _⟩ := h
    rfl
  · obtain ⟨rws, n, rfl, hn, g, k⟩ := h
    have hr6 : Room 6 _ := hr.mono (by decide)
    refine ⟨_, (@pss_one _ _ _ (@ps_ret _ _ _ _ (pe_comp2 (xs := ["at", "row"]) (defScope st_read_rows) N_read_rows ["n"] [1] rfl (by exact ⟨rfl, rfl, by decide +kernel, by decide +kernel, by decide +kernel, by decide +kernel, by decide +kernel, rfl, by decide +kernel⟩) rfl rfl (pi_enum rfl T.n_enumerate (@pa_cons _ _ _ _ _ (pe_bmK (K := K) rfl PySem.F.plainAttrs_str PySem.F.slot_str_split PySem.F.type_str_split mt_split (pv 0) (@pa_cons _ _ _ _ _ pe_str pa_nil (by rfl))) pa_nil (by rfl))) (fun _ _ _ _ => (pg_tupK (K := K) (n := 2) rfl rfl (pgs_cons (pg_name (i := 0) (show (["at", "row", "n"] : List Str).Nodup by decide +kernel) rfl (Or.inl rfl)) (pgs_cons (pg_name (i := 1) (show (["at", "row", "n"] : List Str).Nodup by decide +kernel) rfl (Or.inl rfl)) pgs_nil)))) (fun _ _ _ _ => pif_nil) (fun _ _ _ _ => (pe_call GX hr6 rfl T.m_read_words T.k_read_words T.b_read_words .nil pass0 (@pa_cons _ _ _ _ _ (pv 1) (@pa_cons _ _ _ _ _ (pv 2) (@pa_cons _ _ _ _ _ (pv 0) pa_nil (by rfl)) (by rfl)) (by rfl))))))), ?_⟩
    have hlen := textT_len hn g
    refine ⟨_, rfl, rfl, _, _, rfl, rfl, (by rw [e_nl]; rfl), Nat.le_of_lt (Nat.lt_of_le_of_lt (Nat.add_le_add_right hlen 2) (by decide)), fun pl hpl => ?_⟩
    rw [e_nl, textT_split hn g]
    have h60 := g.2.1
    refine ⟨pl, _, rfl, SqL.of upd_same, ?_⟩
    have s0 := same_upd (o := .lst ((rws.map rowT).map V.str)) hpl
    refine comp2_enum (K := K) (a := pl) (xs := (rws.map rowT).map V.str) (fun i ys H' => i ≤ 60 ∧ Same H H' ∧ H' pl = some (.lst ((rws.map rowT).map V.str)) ∧ ∃ ls : List Addr, ys = ls.map V.ref ∧ ls.length = i ∧
        ∀ (j : Nat) (l : Addr) (r : List (Str × Nat)), ls[j]? = some l → (rowsD n rws)[j]? = some r → RowAt H' l r) ⟨Nat.zero_le _, s0, upd_same, [], rfl, rfl, fun j l r h => by simp at h⟩ (fun i ys H' _ hsl56 => by obtain ⟨_, _, e, _⟩ := hsl56; exact SqL.of e) ?_ ?_
    · rintro i x ys H1 t hx ⟨_, sm, hpl1, ls, rfl, hil, hrow⟩ ht
      have hi : i < rws.length := by
        have := (List.getElem?_eq_some_iff.mp hx).1
        simpa using this
      have ex : x = V.str (rowT rws[i]) := by
        rw [List.getElem?_map, List.getElem?_map, List.getElem?_eq_getElem hi] at hx
        exact (Option.some.inj hx).symm
      subst ex
      intro os hos
      obtain ⟨a, b, rfl⟩ : ∃ a b, os = [a, b] := by
        match os, hos with
        | [a, b], _ => exact ⟨a, b, rfl⟩
      refine ⟨t, _, rfl, SqT.of upd_same, rfl, _, _, rfl, _, _, rfl, rfl, ⟨[_, _], rfl, rfl⟩, tYes_ok ?_⟩
      rw [if_pos rfl]
      obtain ⟨g1, g2, g3⟩ := g.2.2 rws[i] (List.getElem_mem hi)
      have st := same_upd (o := .tup [.int ((i : Nat) : Int), .str (rowT rws[i])]) ht
      refine ⟨_, rfl, _, rfl, _, rfl, rws[i], n, _, rfl, hn, g1, g2, by omega, fun p H2 hp s2 hr2 => ?_⟩
      have s12 := st.trans s2
      refine ⟨by rw [List.length_map]; exact small1000 (by omega), by omega, sm.trans s12, s12 _ _ hpl1, ls ++ [p], by simp, by simp [hil], fun j l r h1 h2 => ?_⟩
      by_cases hj : j < ls.length
      · rw [List.getElem?_append_left hj] at h1
        exact (hrow j l r h1 h2).same s12
      · rw [List.getElem?_append_right (by omega)] at h1
        have h0 : j - ls.length = 0 := by
          cases hh : j - ls.length with
          | zero => rfl
          | succ m => rw [hh] at h1; simp at h1
        rw [h0] at h1
        have e1 : p = l := by simpa using h1
        have ej : j = i := by omega
        subst e1 ej
        have e2 : rowD n (rn rws[j]).1 = r := by
          rw [rowsD, List.getElem?_map, List.getElem?_eq_getElem hi] at h2
          exact Option.some.inj h2
        rw [← e2]
        exact hr2
    · rintro ys H1 ⟨_, sm, hpl1, ls, rfl, hil, hrow⟩ p hp
      refine k p ls _ (by
        cases e : H p with
        | none => rfl
        | some o => rw [sm _ _ e] at hp; cases hp) (sm.trans (same_upd hp)) ⟨upd_same, ?_, fun j l r h1 h2 => (hrow j l r h1 h2).same (same_upd hp)⟩
      rw [hil]; simp [rowsD]
end
section
variable {P : Program} {w : World} {K : PySem.W.Frag} {mg : Str → Option Value} {base : Heap} {AA : Adr} {DD : Fds}
noncomputable def spOn : Sp := fun vs H Q _ => ∃ m k n : Nat, vs = [.int m, .int k, .int n] ∧ k < n ∧ n ≤ 10 ∧ m < 2 ^ 2 ^ n ∧ Q (.int (onM k n m : Nat)) H
noncomputable def spOff : Sp := fun vs H Q _ => ∃ m k n : Nat, vs = [.int m, .int k, .int n] ∧ k < n ∧ n ≤ 10 ∧ m < 2 ^ 2 ^ n ∧ Q (.int (offM k n m : Nat)) H
noncomputable def spShown (j : Nat) : Sp := fun vs H Q _ => ∃ k m n : Nat, vs = [.int k, .int m, .int n] ∧ n ≤ 10 ∧ k + j = n ∧ m < 2 ^ 2 ^ n ∧ Ind k n m ∧ ∀ z : Str, z.cps.toList = (sh n j m).signs → Q (.str z) H
noncomputable def spShow : Sp := fun vs H Q _ => ∃ m n : Nat, vs = [.int m, .int n] ∧ n ≤ 10 ∧ m < 2 ^ 2 ^ n ∧ ∀ z : Str, z.cps.toList = (sh n n m).signs → Q (.str z) H
theorem sc_on : FnScope ["mask", "k", "n", "half"] ["mask", "k", "n"] (defScope st_with_on) := ⟨rfl, rfl, rfl, by decide +kernel, rfl, by decide +kernel, by decide +kernel⟩
theorem ok_on (T : All P w K mg AA DD) : FnOk P w K mg base CX0 2 AA.with_on DD.with_on ["mask", "k", "n"] spOn := by
  have GS := ok_switch (base := base) T
  refine T.F_with_on.ok sc_on (fun vs H Q E h => ?_) (fun cdv A outer s H vs Q E hr h => ?_)
  · obtain ⟨m, k, n, rfl, _⟩ := h
    rfl
  · obtain ⟨m, k, n, rfl, hk, hn, hm, q⟩ := h
    have nd := sc_on.nd
    refine ⟨_, pss_cons (ps_set (i := 3) nd rfl (Or.inl rfl) (pe_op op_and (pv 0) (pe_call GS hr rfl T.m_switch_mask T.k_switch_mask T.b_switch_mask .nil pass0 (pa_cons (pv 1) (pa_cons (pv 2) pa_nil)))))
      (pss_one (ps_ret (pe_op op_or (pv 3) (pe_op op_shr (pv 3) (pe_op op_shlB pe_int (pv 1)))))), ?_⟩
    refine ⟨_, rfl, _, rfl, _, rfl, k, n, rfl, hk, hn, _, _, rfl, rfl, ?_⟩
    dsimp only
    rw [bitAnd_nat]
    refine ⟨_, rfl, _, rfl, _, rfl, _, _, rfl, rfl, one_shl (by omega), _, _, rfl, rfl, ?_, _, _, rfl, rfl, ?_⟩
    · rw [shl_n]; exact Int.natCast_nonneg _
    · dsimp only
      rw [shl_n, Int.toNat_natCast, pow2, ← Int.natCast_ediv, bitOr_nat, on_prog hk hm]
      exact q
theorem sc_off : FnScope ["mask", "k", "n", "half"] ["mask", "k", "n"] (defScope st_with_off) := ⟨rfl, rfl, rfl, by decide +kernel, rfl, by decide +kernel, by decide +kernel⟩
theorem ok_off (T : All P w K mg AA DD) : FnOk P w K mg base CX0 2 AA.with_off DD.with_off ["mask", "k", "n"] spOff := by
  have GS := ok_switch (base := base) T
  have GE := ok_every (base := base) T
  refine T.F_with_off.ok sc_off (fun vs H Q E h => ?_) (fun cdv A outer s H vs Q E hr h => ?_)
  · obtain ⟨m, k, n, rfl, _⟩ := h
    rfl
  · obtain ⟨m, k, n, rfl, hk, hn, hm, q⟩ := h
    have nd := sc_off.nd
    refine ⟨_, pss_cons (ps_set (i := 3) nd rfl (Or.inl rfl) (pe_op op_and (pv 0) (pe_op op_xor (pe_call GE hr rfl T.m_every T.k_every T.b_every .nil pass0 (pa_cons (pv 2) pa_nil)) (pe_call GS hr rfl T.m_switch_mask T.k_switch_mask T.b_switch_mask .nil pass0 (pa_cons (pv 1) (pa_cons (pv 2) pa_nil))))))
      (pss_one (ps_ret (pe_op op_or (pv 3) (pe_op op_shlB (pv 3) (pe_op op_shlB pe_int (pv 1)))))), ?_⟩
    refine ⟨_, rfl, _, rfl, n, rfl, hn, _, rfl, _, rfl, k, n, rfl, hk, hn, _, _, rfl, rfl, _, _, rfl, rfl, ?_⟩
    dsimp only
    rw [bitXor_nat, bitAnd_nat]
    have h2 : 2 ^ n ≤ 1024 := two_le hn
    have h2k : 2 ^ k ≤ 1024 := two_le (by omega)
    have hh : (m &&& (fulln n ^^^ sw k n)) < 2 ^ 2 ^ n := Nat.lt_of_le_of_lt Nat.and_le_left hm
    refine ⟨_, rfl, _, rfl, _, rfl, _, _, rfl, rfl, one_shl (by omega), _, _, rfl, rfl, ?_, _, _, rfl, rfl, ?_⟩
    · rw [shl_n]; exact cshl hh (by omega)
    · dsimp only
      rw [shl_n, Int.toNat_natCast, pow2, ← Int.natCast_mul, bitOr_nat]
      have e := off_prog hk hm
      unfold fulln
      rw [e]
      exact q
theorem sc_shown : FnScope ["k", "mask", "n", "on", "off"] ["k", "mask", "n"] (defScope st_shown_from) := ⟨rfl, rfl, rfl, by decide +kernel, rfl, by decide +kernel, by decide +kernel⟩
theorem dec_nat (a b : Nat) : decide (V.int (a : Int) = V.int (b : Int)) = decide (a = b) := by
  rw [dec_int]
  by_cases h : a = b
  · subst h; simp
  · rw [decide_eq_false h]
    exact beq_eq_false_iff_ne.mpr (by omega)
theorem ok_shown (T : All P w K mg AA DD) : ∀ j : Nat, FnOk P w K mg base CX0 (j + 3) AA.shown_from DD.shown_from ["k", "mask", "n"] (spShown j)
  | 0 => by
    have GE := ok_every (base := base) T
    refine T.F_shown_from.ok sc_shown (fun vs H Q E h => ?_) (fun cdv A outer s H vs Q E hr h => ?_)
    · obtain ⟨k, m, n, rfl, _⟩ := h
      rfl
    · obtain ⟨k, m, n, rfl, hn, hkn, hm, hi, q⟩ := h
      have hr1 : Room 1 _ := hr.mono (by omega)
      refine ⟨_, pss_cons (ps_if (pt_cmpR op_eq (pv 1) pe_int (nomark _)) (pss_one (ps_ret pe_str)) pss_nil)
        (pss_cons (ps_if (pt_cmpR op_eq (pv 1) (pe_call GE hr1 rfl T.m_every T.k_every T.b_every .nil pass0 (pa_cons (pv 2) pa_nil)) (nomark _)) (pss_one (ps_ret pe_str)) pss_nil) pss_never), ?_⟩
      refine ⟨_, rfl, rfl, _, rfl, ?_⟩
      have e0 : decide (V.int (m : Int) = V.int 0) = decide (m = 0) := dec_nat m 0
      rw [e0]
      refine ite2 (fun h0 => ?_) (fun h0 => ?_)
      · have h0 : m = 0 := of_decide_eq_true h0
        refine q _ ?_
        unfold sh
        rw [if_pos h0]
        decide +kernel
      · have h0 : ¬ m = 0 := fun z => h0 (decide_eq_true z)
        have hik : Ind n n m := by have e : k = n := by omega
                                   rw [e] at hi; exact hi
        have hf := last_full hik hm h0
        refine ⟨_, rfl, _, rfl, n, rfl, hn, rfl, _, rfl, ?_⟩
        rw [dec_nat, decide_eq_true (show m = fulln n from hf)]
        refine iteT ?_
        refine q _ ?_
        unfold sh
        rw [if_neg h0]
        decide +kernel
  | j + 1 => by
    have IH := ok_shown T j
    have GE := ok_every (base := base) T
    have GN := ok_on (base := base) T
    have GF := ok_off (base := base) T
    refine T.F_shown_from.ok sc_shown (fun vs H Q E h => ?_) (fun cdv A outer s H vs Q E hr h => ?_)
    · obtain ⟨k, m, n, rfl, _⟩ := h
      rfl
    · obtain ⟨k, m, n, rfl, hn, hkn, hm, hi, q⟩ := h
      have hr1 : Room 1 _ := hr.mono (by omega)
      have hr2 : Room 2 _ := hr.mono (by omega)
      have nd := sc_shown.nd
      obtain ⟨tL, hL⟩ := T.v_LETTERS
      refine ⟨_, pss_cons (ps_if (pt_cmpR op_eq (pv 1) pe_int (nomark _)) (pss_one (ps_ret pe_str)) pss_nil)
        (pss_cons (ps_if (pt_cmpR op_eq (pv 1) (pe_call GE hr1 rfl T.m_every T.k_every T.b_every .nil pass0 (pa_cons (pv 2) pa_nil)) (nomark _)) (pss_one (ps_ret pe_str)) pss_nil)
        (pss_cons (ps_set (i := 3) nd rfl (Or.inl rfl) (pe_call GN hr2 rfl T.m_with_on T.k_with_on T.b_with_on .nil pass0 (pa_cons (pv 1) (pa_cons (pv 0) (pa_cons (pv 2) pa_nil)))))
        (pss_cons (ps_set (i := 4) nd rfl (Or.inl rfl) (pe_call GF hr2 rfl T.m_with_off T.k_with_off T.b_with_off .nil pass0 (pa_cons (pv 1) (pa_cons (pv 0) (pa_cons (pv 2) pa_nil)))))
        (pss_cons (ps_if (pt_cmpR op_eq (pv 3) (pv 4) (nomark _)) (pss_one (ps_ret (pe_call IH hr rfl T.m_shown_from T.k_shown_from T.b_shown_from .nil pass0 (pa_cons (pe_op op_add (pv 0) pe_int) (pa_cons (pv 1) (pa_cons (pv 2) pa_nil)))))) pss_nil)
        (pss_one (ps_ret (pe_op op_add_str (pe_op op_add_str (pe_op op_add_str pe_str (pe_ix ix_str (pe_glob (v := .str "abcdefghij") rfl hL ⟨_, rfl⟩) (pv 0) (fun _ _ => rfl)))
          (pe_call IH hr rfl T.m_shown_from T.k_shown_from T.b_shown_from .nil pass0 (pa_cons (pe_op op_add (pv 0) pe_int) (pa_cons (pv 3) (pa_cons (pv 2) pa_nil)))))
          (pe_call IH hr rfl T.m_shown_from T.k_shown_from T.b_shown_from .nil pass0 (pa_cons (pe_op op_add (pv 0) pe_int) (pa_cons (pv 4) (pa_cons (pv 2) pa_nil))))))))))), ?_⟩
      have hk : k < n := by omega
      have ek : n - (j + 1) = k := by omega
      have e1 : (k : Int) + 1 = ((k + 1 : Nat) : Int) := by omega
      refine ⟨_, rfl, rfl, _, rfl, ?_⟩
      have e0 : decide (V.int (m : Int) = V.int 0) = decide (m = 0) := dec_nat m 0
      rw [e0]
      refine ite2 (fun h0 => ?_) (fun h0 => ?_)
      · have h0 : m = 0 := of_decide_eq_true h0
        refine q _ ?_
        unfold sh
        rw [if_pos h0]
        decide +kernel
      have h0 : ¬ m = 0 := fun z => h0 (decide_eq_true z)
      refine ⟨_, rfl, _, rfl, n, rfl, hn, rfl, _, rfl, ?_⟩
      rw [dec_nat]
      refine ite2 (fun hf => ?_) (fun hf => ?_)
      · have hf : m = fulln n := of_decide_eq_true hf
        refine q _ ?_
        unfold sh
        rw [if_neg h0, if_pos (show m = 2 ^ 2 ^ n - 1 from hf)]
        decide +kernel
      have hf : ¬ m = 2 ^ 2 ^ n - 1 := fun z => hf (decide_eq_true z)
      refine ⟨_, rfl, _, rfl, _, rfl, m, k, n, rfl, hk, hn, hm, ?_⟩
      refine ⟨_, rfl, _, rfl, _, rfl, m, k, n, rfl, hk, hn, hm, ?_⟩
      refine ⟨_, rfl, _, rfl, rfl, _, rfl, ?_⟩
      rw [dec_nat]
      refine ite2 (fun ho => ?_) (fun ho => ?_)
      · have ho : onM k n m = offM k n m := of_decide_eq_true ho
        refine ⟨_, rfl, _, _, rfl, rfl, _, rfl, _, rfl, k + 1, m, n, ?_, hn, by omega, hm, hi.succ ho, fun z hz => q z ?_⟩
        · dsimp only
          rw [e1]; rfl
        · rw [hz]
          conv => rhs; unfold sh
          rw [if_neg h0, if_neg hf, ek, if_pos ho]
      · have ho : ¬ onM k n m = offM k n m := fun z => ho (decide_eq_true z)
        have L10 : ("abcdefghij" : Str).length ≤ sizeLine := by decide +kernel
        have bnd : ∀ m', (sh n j m').signs.length ≤ 3072 := fun m' => by
          have h1 := sh_len (n := n) j m'
          have h2 : 2 ^ j ≤ 2 ^ 10 := Nat.pow_le_pow_right (by decide) (by omega)
          omega
        have bz : ∀ (z : Str) m', z.cps.toList = (sh n j m').signs → z.length ≤ 3072 := fun z m' hz => by
          have := bnd m'
          rw [← hz, list_len] at this
          exact this
        refine ⟨_, rfl, _, _, 97 + k, rfl, rfl, L10, letterAt k (by omega), _, _, rfl, rfl, ?_, _, rfl, _, _, rfl, rfl, _, rfl, _, rfl, k + 1, onM k n m, n, ?_, hn, by omega, onM_lt k n m, hi.on hk, fun z1 hz1 => ⟨_, _, rfl, rfl, ?_, _, rfl, _, _, rfl, rfl, _, rfl, _, rfl, k + 1, offM k n m, n, ?_, hn, by omega, offM_lt k n m, hi.off hk, fun z2 hz2 => ⟨_, _, rfl, rfl, ?_, q _ ?_⟩⟩⟩
        · rw [one_len, s63]; decide
        · dsimp only
          rw [e1]; rfl
        · have := bz z1 _ hz1
          rw [app_len, one_len, s63, one_len]
          exact Nat.le_of_lt (small5k (by omega))
        · dsimp only
          rw [e1]; rfl
        · have := bz z1 _ hz1
          have := bz z2 _ hz2
          rw [app_len, app_len, one_len, s63, one_len]
          exact Nat.le_trans (show 1 + 1 + z1.length + z2.length ≤ 10000 by omega) (by decide)
        · rw [app_list, app_list, app_list, one_list, s63, one_list, hz1, hz2]
          conv => rhs; unfold sh
          rw [if_neg h0, if_neg hf, ek, if_neg ho]
          simp [W.signs]
theorem sc_show : FnScope ["mask", "n"] ["mask", "n"] (defScope st_shown_wish) := ⟨rfl, rfl, rfl, by decide +kernel, rfl, by decide +kernel, by decide +kernel⟩
theorem ok_show (T : All P w K mg AA DD) : FnOk P w K mg base CX0 14 AA.shown_wish DD.shown_wish ["mask", "n"] spShow := by
  have GE := ok_every (base := base) T
  refine T.F_shown_wish.ok sc_show (fun vs H Q E h => ?_) (fun cdv A outer s H vs Q E hr h => ?_)
  · obtain ⟨m, n, rfl, _⟩ := h
    rfl
  · obtain ⟨m, n, rfl, hn, hm, q⟩ := h
    have GS := (ok_shown (base := base) T n).mono (show n + 3 ≤ 13 by omega)
    have hr1 : Room 1 _ := hr.mono (by decide)
    refine ⟨_, pss_one (ps_ret (pe_call GS hr rfl T.m_shown_from T.k_shown_from T.b_shown_from .nil pass0 (pa_cons pe_int (pa_cons (pe_op op_and (pv 0) (pe_call GE hr1 rfl T.m_every T.k_every T.b_every .nil pass0 (pa_cons (pv 1) pa_nil))) (pa_cons (pv 1) pa_nil))))), ?_⟩
    refine ⟨_, rfl, _, rfl, n, rfl, hn, _, _, rfl, rfl, _, rfl, 0, m, n, ?_, hn, by omega, hm, Ind.zero n m, q⟩
    dsimp only
    have e : m &&& fulln n = m := by unfold fulln; rw [Nat.and_two_pow_sub_one_eq_mod, Nat.mod_eq_of_lt hm]
    rw [bitAnd_nat, e]
    rfl
/-! a group -/
noncomputable def grpT (n m : Nat) (row : Str) : Str := ⟨(60 :: ((sh n n m).signs ++ 32 :: (row.cps.toList ++ [32, 62]))).toArray⟩
noncomputable def spGroupT : Sp := fun vs H Q _ => ∃ (row : Str) (m n : Nat), vs = [.str row, .int ((m : Nat) : Int), .int ((n : Nat) : Int)] ∧ n ≤ 10 ∧ m < 2 ^ 2 ^ n ∧ row.length ≤ 1000 ∧ Q (.str (grpT n m row)) H
theorem sh_small {n : Nat} (hn : n ≤ 10) (m : Nat) : (sh n n m).signs.length ≤ 3072 := by
  have h1 := sh_len (n := n) n m
  have h2 : 2 ^ n ≤ 1024 := two_le hn
  omega
noncomputable abbrev N_in_group : List Str := ["row", "mask", "n"]
theorem sc_in_group : FnScope N_in_group ["row", "mask", "n"] (defScope st_in_group) := ⟨rfl, rfl, rfl, by decide +kernel, rfl, by decide +kernel, by decide +kernel⟩
theorem ok_inG (T : All P w K mg AA DD) : FnOk P w K mg base CX0 15 AA.in_group DD.in_group ["row", "mask", "n"] spGroupT := by
  have GW := ok_show (base := base) T
  refine T.F_in_group.ok sc_in_group (fun vs H Q E h => ?_) (fun cdv A outer s H vs Q E hr h => ?_)
  · obtain ⟨row, m, n, rfl, _⟩ := h
    rfl
  · obtain ⟨row, m, n, rfl, hn, hm, hrl, k⟩ := h
    have nd := sc_in_group.nd
    have hr14 : Room 14 _ := hr
    refine ⟨_, (@pss_one _ _ _ (@ps_ret _ _ _ _ (@pe_op _ _ _ _ _ _ _ _ op_add_str (@pe_op _ _ _ _ _ _ _ _ op_add_str (@pe_op _ _ _ _ _ _ _ _ op_add_str (@pe_op _ _ _ _ _ _ _ _ op_add_str pe_str (pe_call GW hr14 rfl T.m_shown_wish T.k_shown_wish T.b_shown_wish .nil pass0 (@pa_cons _ _ _ _ _ (pv 1) (@pa_cons _ _ _ _ _ (pv 2) pa_nil (by rfl)) (by rfl)))) pe_str) (pv 0)) pe_str))), ?_⟩
    have hs := sh_small hn m
    refine ⟨_, rfl, _, rfl, m, n, rfl, hn, hm, fun z hz => ?_⟩
    have hzl : z.length = (sh n n m).signs.length := by rw [str_len, hz]
    have l1 : ("<" : Str).length = 1 := by decide +kernel
    have l2 : (" " : Str).length = 1 := by decide +kernel
    have l3 : (" >" : Str).length = 2 := by decide +kernel
    refine ⟨_, _, rfl, rfl, (by rw [l1, sizeLine_eq]; omega), _, _, rfl, rfl, (by rw [app_len, l1, l2, sizeLine_eq]; omega), _, rfl, _, _, rfl, rfl, (by rw [app_len, app_len, l1, l2, sizeLine_eq]; omega), _, _, rfl, rfl, (by rw [app_len, app_len, app_len, l1, l2, l3, sizeLine_eq]; omega), ?_⟩
    have e : ("<" : Str) ++ z ++ " " ++ row ++ " >" = grpT n m row := by
      refine str_ext ?_
      rw [str_app, str_app, str_app, str_app, hz, show (" " : Str).cps.toList = [32] by decide +kernel, show ("<" : Str).cps.toList = [60] by decide +kernel, show (" >" : Str).cps.toList = [32, 62] by decide +kernel]
      simp [grpT]
    rw [e]
    exact k
end
section
variable {P : Program} {w : World} {K : PySem.W.Frag} {mg : Str → Option Value} {base : Heap} {AA : Adr} {DD : Fds}
theorem iteTb {c : Bool} {a b : Prop} (h : c = true) (k : a) : if c = true then a else b := by rw [h]; exact k
/-! tidying -/
noncomputable def spIsWh : Sp := fun vs H Q _ => ∃ i : Int, vs = [.int i] ∧ Q (.bl true) H
noncomputable abbrev N_is_whole : List Str := ["value"]
theorem sc_is_whole : FnScope N_is_whole ["value"] (defScope st_is_whole) := ⟨rfl, rfl, rfl, by decide +kernel, rfl, by decide +kernel, by decide +kernel⟩
theorem ok_iswh (T : All P w K mg AA DD) : FnOk P w K mg base CX0 1 AA.is_whole DD.is_whole ["value"] spIsWh := by
  refine T.F_is_whole.ok sc_is_whole (fun vs H Q E h => ?_) (fun cdv A outer s H vs Q E hr h => ?_)
  · obtain ⟨x, rfl, _⟩ := h
    rfl
  · obtain ⟨i, rfl, k⟩ := h
    refine ⟨_, (@pss_one _ _ _ (@ps_ret _ _ _ _ (pe_and (pe_callB (call_isinst (n := "int")) rfl T.n_isinstance bt_isi (@pa_cons _ _ _ _ _ (pv 0) (@pa_cons _ _ _ _ _ (pe_bltn (v := .ty "int") rfl T.n_int bt_int rfl) pa_nil (by rfl)) (by rfl))) (pe_one (pe_not (pe_callB (call_isinst (n := "bool")) rfl T.n_isinstance bt_isi (@pa_cons _ _ _ _ _ (pv 0) (@pa_cons _ _ _ _ _ (pe_bltn (v := .ty "bool") rfl T.n_bool bt_bool rfl) pa_nil (by rfl)) (by rfl)))))))), ?_⟩
    refine ⟨_, rfl, _, _, true, rfl, .int _, kit_int_int _, _, rfl, ?_⟩
    rw [if_pos rfl]
    exact ⟨_, rfl, _, _, false, rfl, .int _, kit_int_bool _, _, rfl, k⟩
noncomputable def spIsMask : Sp := fun vs H Q _ => ∃ m n : Nat, vs = [.int ((m : Nat) : Int), .int ((n : Nat) : Int)] ∧ n ≤ 10 ∧ m < 2 ^ 2 ^ n ∧ Q (.bl true) H
noncomputable abbrev N_is_mask : List Str := ["value", "n"]
theorem sc_is_mask : FnScope N_is_mask ["value", "n"] (defScope st_is_mask) := ⟨rfl, rfl, rfl, by decide +kernel, rfl, by decide +kernel, by decide +kernel⟩
theorem ok_ismask (T : All P w K mg AA DD) : FnOk P w K mg base CX0 2 AA.is_mask DD.is_mask ["value", "n"] spIsMask := by
  have GH0 := ok_iswh (base := base) T
  have GE := ok_every (base := base) T
  refine T.F_is_mask.ok sc_is_mask (fun vs H Q E h => ?_) (fun cdv A outer s H vs Q E hr h => ?_)
  · obtain ⟨m, n, rfl, _⟩ := h
    rfl
  · obtain ⟨m, n, rfl, hn, hm, k⟩ := h
    have hr1 : Room 1 _ := hr
    refine ⟨_, (@pss_one _ _ _ (@ps_ret _ _ _ _ (pe_and (pe_call GH0 hr1 rfl T.m_is_whole T.k_is_whole T.b_is_whole .nil pass0 (@pa_cons _ _ _ _ _ (pv 0) pa_nil (by rfl))) (pe_and (@pe_cmpR _ _ _ _ _ _ _ _ op_ge (pv 0) pe_int (nomark _)) (pe_one (@pe_cmpR _ _ _ _ _ _ _ _ op_le (pv 0) (pe_call GE hr1 rfl T.m_every T.k_every T.b_every .nil pass0 (@pa_cons _ _ _ _ _ (pv 1) pa_nil (by rfl))) (nomark _))))))), ?_⟩
    refine ⟨_, rfl, _, rfl, _, rfl, ?_⟩
    refine iteT ?_
    refine ⟨_, rfl, _, _, rfl, rfl, _, rfl, ?_⟩
    rw [decide_eq_true (show (0 : Int) ≤ ((m : Nat) : Int) by omega)]
    refine iteT ?_
    refine ⟨_, rfl, _, rfl, n, rfl, hn, _, _, rfl, rfl, ?_⟩
    dsimp only
    rw [decide_eq_true (show ((m : Nat) : Int) ≤ ((fulln n : Nat) : Int) by unfold fulln; omega)]
    exact k
noncomputable def spAsk : Sp := fun vs H Q _ => ∃ m n : Nat, vs = [.int ((m : Nat) : Int), .int ((n : Nat) : Int)] ∧ n ≤ 10 ∧ m < 2 ^ 2 ^ n ∧ Q .non H
noncomputable abbrev N_ask_rule : List Str := ["rule", "n"]
theorem sc_ask_rule : FnScope N_ask_rule ["rule", "n"] (defScope st_ask_rule) := ⟨rfl, rfl, rfl, by decide +kernel, rfl, by decide +kernel, by decide +kernel⟩
theorem ok_ask (T : All P w K mg AA DD) : FnOk P w K mg base CX0 3 AA.ask_rule DD.ask_rule ["rule", "n"] spAsk := by
  have GM := ok_ismask (base := base) T
  refine T.F_ask_rule.ok sc_ask_rule (fun vs H Q E h => ?_) (fun cdv A outer s H vs Q E hr h => ?_)
  · obtain ⟨m, n, rfl, _⟩ := h
    rfl
  · obtain ⟨m, n, rfl, hn, hm, k⟩ := h
    have hr2 : Room 2 _ := hr
    refine ⟨_, (@pss_one _ _ _ (@ps_if _ _ _ _ _ _ _ _ (pt_not (pt_val (pe_call GM hr2 rfl T.m_is_mask T.k_is_mask T.b_is_mask .nil pass0 (@pa_cons _ _ _ _ _ (pv 0) (@pa_cons _ _ _ _ _ (pv 1) pa_nil (by rfl)) (by rfl))))) pss_never pss_nil)), ?_⟩
    refine ⟨_, rfl, _, rfl, m, n, rfl, hn, hm, _, rfl, iteF ?_⟩
    exact k
/-- what came together, in the heap -/
noncomputable def CtAt (B H : Hp) (p : Addr) (cs : Cs) : Prop := ∃ ts wl : List Addr, H p = some (.lst (ts.map V.ref)) ∧ ts.length = cs.length ∧ wl.length = cs.length ∧ wl.Nodup ∧ (p ∉ wl ∧ ∀ x ∈ wl, B x = none) ∧ ∀ (i : Nat) (t l : Addr) (c : Nat × List Str), ts[i]? = some t → wl[i]? = some l → cs[i]? = some c → H t = some (.tup [.int ((c.1 : Nat) : Int), .ref l]) ∧ H l = some (.lst (c.2.map V.str))
theorem CtAt.same {B H H' : Hp} {p : Addr} {cs : Cs} (h : CtAt B H p cs) (s : Same H H') : CtAt B H' p cs := by
  obtain ⟨ts, wl, h1, h2, h3, h4, h5, h6⟩ := h
  exact ⟨ts, wl, s _ _ h1, h2, h3, h4, h5, fun i t l c a b d => ⟨s _ _ (h6 i t l c a b d).1, s _ _ (h6 i t l c a b d).2⟩⟩
theorem snoc3 {α : Type} {ts wl : List Addr} {cs : List α} {t l : Addr} {c : α} {Pp : Addr → Addr → α → Prop} (h1 : ts.length = cs.length) (h2 : wl.length = cs.length) (h : ∀ (i : Nat) (t l : Addr) (c : α), ts[i]? = some t → wl[i]? = some l → cs[i]? = some c → Pp t l c) (ht : Pp t l c) :
    ∀ (i : Nat) (t' l' : Addr) (c' : α), (ts ++ [t])[i]? = some t' → (wl ++ [l])[i]? = some l' → (cs ++ [c])[i]? = some c' → Pp t' l' c' := by
  intro i t' l' c' a b d
  by_cases hi : i < ts.length
  · rw [List.getElem?_append_left hi] at a
    rw [List.getElem?_append_left (by omega)] at b d
    exact h i t' l' c' a b d
  · have hl := (List.getElem?_eq_some_iff.mp a).1
    rw [List.length_append, List.length_singleton] at hl
    have e : i = ts.length := by omega
    subst e
    rw [List.getElem?_append_right (Nat.le_refl _), Nat.sub_self] at a
    rw [List.getElem?_append_right (by omega), show ts.length - wl.length = 0 by omega] at b
    rw [List.getElem?_append_right (by omega), show ts.length - cs.length = 0 by omega] at d
    have e1 : t = t' := by simpa using a
    have e2 : l = l' := by simpa using b
    have e3 : c = c' := by simpa using d
    subst e1 e2 e3
    exact ht
/-- a new one behind -/
theorem CtAt.push {B H : Hp} {p t l : Addr} {cs : Cs} {k : Nat} {z : Str} {ts : List Addr} (h : CtAt B H p cs) (sB : Same B H) (hts : H p = some (.lst (ts.map V.ref))) (hl : H l = none) (ht : upd H l (.lst [.str z]) t = none) :
    CtAt B (upd (upd (upd H l (.lst [.str z])) t (.tup [.int ((k : Nat) : Int), .ref l])) p (.lst (ts.map V.ref ++ [.ref t]))) p (cs ++ [(k, [z])]) := by
  obtain ⟨ts', wl, h1, h2, h3, h4, ⟨h5, h7⟩, h6⟩ := h
  have ets : ts' = ts := by
    rw [h1] at hts
    injection hts with hts
    injection hts with hts
    exact List.map_inj_right (fun a b e => by injection e) |>.mp hts
  subst ets
  have s1 := same_upd (o := .lst [.str z]) hl
  have s2 := same_upd (o := .tup [.int ((k : Nat) : Int), .ref l]) ht
  have s12 := s1.trans s2
  have nlt : l ≠ t := ne_of_none upd_same ht
  have npl : p ≠ l := ne_of_none h1 hl
  have npt : p ≠ t := ne_of_none (s1 _ _ h1) ht
  have hwl : ∀ x ∈ wl, ∃ zs : List V, H x = some (.lst zs) := fun x hx => by
    obtain ⟨i, hi, e⟩ := List.getElem_of_mem hx
    exact ⟨_, (h6 i (ts'[i]'(by omega)) x (cs[i]'(by omega)) (List.getElem?_eq_getElem _) (by rw [← e]; exact List.getElem?_eq_getElem _) (List.getElem?_eq_getElem _)).2⟩
  have nw : l ∉ wl := fun hx => by
    obtain ⟨zs, e⟩ := hwl l hx
    rw [hl] at e; cases e
  refine ⟨ts' ++ [t], wl ++ [l], by rw [upd_same]; simp, by simp [h2], by simp [h3], ?_, ?_, ?_⟩
  · exact List.nodup_append.mpr ⟨h4, by simp, fun a ha b hb e => nw (by rw [← List.mem_singleton.mp hb, ← e]; exact ha)⟩
  · refine ⟨fun hx => ?_, fun x hx => ?_⟩
    · rcases List.mem_append.mp hx with q | q
      · exact h5 q
      · exact npl (List.mem_singleton.mp q)
    · rcases List.mem_append.mp hx with q | q
      · exact h7 x q
      · rw [List.mem_singleton.mp q]; exact none_of sB hl
  · refine snoc3 (Pp := fun t' l' c' => upd (upd (upd H l (.lst [.str z])) t (.tup [.int ((k : Nat) : Int), .ref l])) p (.lst (ts'.map V.ref ++ [.ref t])) t' = some (.tup [.int ((c'.1 : Nat) : Int), .ref l']) ∧ upd (upd (upd H l (.lst [.str z])) t (.tup [.int ((k : Nat) : Int), .ref l])) p (.lst (ts'.map V.ref ++ [.ref t])) l' = some (.lst (c'.2.map V.str))) h2 h3 (fun i t' l' c' a b d => ?_) ⟨?_, ?_⟩
    · obtain ⟨q1, q2⟩ := h6 i t' l' c' a b d
      have n1 : t' ≠ p := ne_of q1 h1 (by intro z; cases z)
      have n2 : l' ≠ p := fun e => h5 (by rw [← e]; exact List.mem_of_getElem? b)
      exact ⟨by rw [upd_ne n1]; exact s12 _ _ q1, by rw [upd_ne n2]; exact s12 _ _ q2⟩
    · rw [upd_ne npt.symm, upd_same]
    · rw [upd_ne npl.symm, upd_ne nlt, upd_same]; rfl
/-- the last one's words, one more -/
theorem CtAt.more {B H : Hp} {p : Addr} {cs : Cs} {c : Nat × List Str} (h : CtAt B H p (cs ++ [c])) (z : Str) : ∃ (ts : List Addr) (t l : Addr), H p = some (.lst (ts.map V.ref ++ [.ref t])) ∧ H t = some (.tup [.int ((c.1 : Nat) : Int), .ref l]) ∧ H l = some (.lst (c.2.map V.str)) ∧ l ≠ p ∧ B l = none ∧
    CtAt B (upd H l (.lst (c.2.map V.str ++ [.str z]))) p (cs ++ [(c.1, c.2 ++ [z])]) := by
  obtain ⟨ts', wl', h1, h2, h3, h4, ⟨h5, h7⟩, h6⟩ := h
  rcases snoc_cases ts' with q | ⟨ts, t, q⟩
  · subst q; simp at h2
  rcases snoc_cases wl' with r | ⟨wl, l, r⟩
  · subst r; simp at h3
  subst q r
  have e2 : ts.length = cs.length := by simpa using h2
  have e3 : wl.length = cs.length := by simpa using h3
  have hlast := h6 ts.length t l c (by simp) (by rw [e2, ← e3]; simp) (by rw [e2]; simp)
  have nd := List.nodup_append.mp h4
  have nlp : l ≠ p := fun e => h5 (by rw [← e]; simp)
  refine ⟨ts, t, l, by rw [h1]; simp, hlast.1, hlast.2, nlp, h7 l (by simp), ts ++ [t], wl ++ [l], by rw [upd_ne nlp.symm]; exact h1, by simp [e2], by simp [e3], h4, ⟨h5, h7⟩, ?_⟩
  refine snoc3 (Pp := fun t' l' c' => upd H l (.lst (c.2.map V.str ++ [.str z])) t' = some (.tup [.int ((c'.1 : Nat) : Int), .ref l']) ∧ upd H l (.lst (c.2.map V.str ++ [.str z])) l' = some (.lst (c'.2.map V.str))) e2 e3 (fun i t' l' c' a b d => ?_) ⟨?_, ?_⟩
  · have hi := (List.getElem?_eq_some_iff.mp a).1
    obtain ⟨q1, q2⟩ := h6 i t' l' c' (by rw [List.getElem?_append_left hi]; exact a) (by rw [List.getElem?_append_left (by omega)]; exact b) (by rw [List.getElem?_append_left (by omega)]; exact d)
    have n1 : t' ≠ l := ne_of q1 hlast.2 (by intro z; cases z)
    have n2 : l' ≠ l := fun e => nd.2.2 l' (List.mem_of_getElem? b) l (by simp) e
    exact ⟨by rw [upd_ne n1]; exact q1, by rw [upd_ne n2]; exact q2⟩
  · rw [upd_ne (ne_of hlast.1 hlast.2 (by intro z; cases z))]; exact hlast.1
  · rw [upd_same]; simp
noncomputable def spCome : Sp := fun vs H Q _ => ∃ (l : Addr) (r : List (Str × Nat)) (m : Nat), vs = [.ref l, .int ((m : Nat) : Int)] ∧ RowAt H l r ∧ r.length ≤ 100 ∧ ∀ p H', H p = none → Same H H' → CtAt H H' p (cmt m r) → Q (.ref p) H'
theorem cmt_len (m : Nat) (r : List (Str × Nat)) : (cmt m r).length ≤ r.length ∧ ∀ c ∈ cmt m r, c.2.length ≤ r.length := by
  have g : ∀ k, k ≤ r.length → (cmt m (r.take k)).length ≤ k ∧ ∀ c ∈ cmt m (r.take k), c.2.length ≤ k := by
    intro k
    induction k with
    | zero => intro _; simp [cmt]
    | succ k ih =>
      intro hk
      have hk' : k < r.length := hk
      obtain ⟨i1, i2⟩ := ih (by omega)
      rw [List.take_succ_eq_append_getElem hk', cmt_snoc]
      generalize cmt m (r.take k) = cs at i1 i2
      rcases snoc_cases cs with q | ⟨a, c, q⟩
      · subst q
        rw [cmtS_nil]
        split
        · simp
        · refine ⟨by simp, fun c hc => ?_⟩
          rw [List.mem_singleton.mp hc]; simp
      · subst q
        rw [cmtS_snoc]
        have hc := i2 c (by simp)
        rw [List.length_append, List.length_singleton] at i1
        split
        · refine ⟨by simp; omega, fun d hd => ?_⟩
          rcases List.mem_append.mp hd with y | y
          · have := i2 d (List.mem_append_left _ y); omega
          · rw [List.mem_singleton.mp y]; simp; omega
        · split
          · exact ⟨by simp; omega, fun d hd => by have := i2 d hd; omega⟩
          · refine ⟨by simp; omega, fun d hd => ?_⟩
            rcases List.mem_append.mp hd with y | y
            · have := i2 d y; omega
            · rw [List.mem_singleton.mp y]; simp
  have := g r.length (Nat.le_refl _)
  rwa [List.take_length] at this
noncomputable abbrev N_come_together : List Str := ["row", "rule", "found", "word", "mask", "here"]
theorem sc_come_together : FnScope N_come_together ["row", "rule"] (defScope st_come_together) := ⟨rfl, rfl, rfl, by decide +kernel, rfl, by decide +kernel, by decide +kernel⟩
theorem ok_come (T : All P w K mg AA DD) : FnOk P w K mg base CX0 1 AA.come_together DD.come_together ["row", "rule"] spCome := by
  refine T.F_come_together.ok sc_come_together (fun vs H Q E h => ?_) (fun cdv A outer s H vs Q E hr h => ?_)
  · obtain ⟨l, r, m, rfl, _⟩ := h
    rfl
  · obtain ⟨l, r, m, rfl, ⟨rts, hrts, hrl, hat⟩, hr100, k⟩ := h
    have nd := sc_come_together.nd
    refine ⟨_, (@pss_cons _ _ _ _ _ (@ps_set _ _ 2 _ _ _ _ nd rfl (Or.inl rfl) (@pe_lst _ _ _ _ pa_nil) (by rfl) (by first | exact .inl rfl | exact .inr rfl | assumption)) (@pss_cons _ _ _ _ _ (@ps_for _ _ _ _ _ _ _ _ PassesOwn.never rfl (pi_list (pv 0)) (pg_tup rfl (pgs_cons (pg_name (i := 3) nd rfl (Or.inl rfl)) (pgs_cons (pg_name (i := 4) nd rfl (Or.inl rfl)) pgs_nil))) (@pss_cons _ _ _ _ _ (@ps_set _ _ 5 _ _ _ _ nd rfl (Or.inl rfl) (@pe_op _ _ _ _ _ _ _ _ op_and (pv 4) (pv 1)) (by rfl) (by first | exact .inl rfl | exact .inr rfl | assumption)) (@pss_one _ _ _ (@ps_if _ _ _ _ _ _ _ _ (PW.pt (pw_and (@pt_cmpR _ _ _ _ _ _ _ _ op_gt (pe_callB call_len_seq rfl T.n_len bt_len (@pa_cons _ _ _ _ _ (pv 2) pa_nil (by rfl))) pe_int (nomark _)) (pw_and1 (@pt_cmpR _ _ _ _ _ _ _ _ op_eq (@pe_ix _ _ _ _ _ _ _ (ix_tupK (K := K) rfl) (@pe_ix _ _ _ _ _ _ _ (ix_listK (K := K) rfl) (pv 2) (pe_un un_neg pe_int) (fun _ _ => rfl)) pe_int (fun _ _ => rfl)) (pv 5) (nomark _))))) (@pss_one _ _ _ (@ps_expr _ _ _ _ (pe_bm PySem.F.plainAttrs_list PySem.F.slot_list_append PySem.F.type_list_append mt_append (@pe_ix _ _ _ _ _ _ _ (ix_tupK (K := K) rfl) (@pe_ix _ _ _ _ _ _ _ (ix_listK (K := K) rfl) (pv 2) (pe_un un_neg pe_int) (fun _ _ => rfl)) pe_int (fun _ _ => rfl)) (@pa_cons _ _ _ _ _ (pv 3) pa_nil (by rfl))) (by rfl))) (@pss_one _ _ _ (@ps_if _ _ _ _ _ _ _ _ (@pt_cmpR _ _ _ _ _ _ _ _ op_ne (pv 5) pe_int (nomark _)) (@pss_one _ _ _ (@ps_expr _ _ _ _ (pe_bm PySem.F.plainAttrs_list PySem.F.slot_list_append PySem.F.type_list_append mt_append (pv 2) (@pa_cons _ _ _ _ _ (@pe_tup _ _ _ _ _ (@pa_cons _ _ _ _ _ (pv 5) (@pa_cons _ _ _ _ _ (@pe_lst _ _ _ _ (@pa_cons _ _ _ _ _ (pv 3) pa_nil (by rfl))) pa_nil (by rfl)) (by rfl))) pa_nil (by rfl))) (by rfl))) pss_nil))))) (by intro _; rfl)) (@pss_one _ _ _ (@ps_ret _ _ _ _ (pv 2))))), ?_⟩
    refine ⟨Nat.zero_le _, fun p hp => ?_⟩
    try dsimp only [gName]
    refine cut_for (fun σ' H' => Same H H' ∧ CtAt H H' p (cmt m r) ∧ ∃ x3 x4 x5 : Option V, σ' = [some (.ref l), some (.int ((m : Nat) : Int)), some (.ref p), x3, x4, x5]) (fun R hR => ?_) ?_
    · refine ⟨_, rfl, l, rfl, ⟨_, SqL.of (same_upd hp _ _ hrts)⟩, ?_⟩
      refine for_list (K := K) (a := l) (xs := rts.map V.ref) (D := ⟨R, _, R, R⟩) (fun i σ' H' => Same H H' ∧ CtAt H H' p (cmt m (r.take i)) ∧ ∃ x3 x4 x5 : Option V, σ' = [some (.ref l), some (.int ((m : Nat) : Int)), some (.ref p), x3, x4, x5])
        ⟨same_upd hp, ⟨[], [], upd_same, rfl, rfl, by simp, ⟨by simp, by simp⟩, fun i t l c a => by simp at a⟩, none, none, none, rfl⟩ (fun i σ' H' _ z => SqL.of (z.1 _ _ hrts)) ?_ ?_
      · rintro i x σ' H1 hx ⟨sm, hC, x3, x4, x5, rfl⟩
        have hi : i < rts.length := by
          have := (List.getElem?_eq_some_iff.mp hx).1
          rw [List.length_map] at this; exact this
        have hir : i < r.length := by omega
        have ex : x = V.ref rts[i] := by rw [List.getElem?_map, List.getElem?_eq_getElem hi] at hx; exact (Option.some.inj hx).symm
        subst ex
        have htu := sm _ _ (hat i rts[i] r[i] (List.getElem?_eq_getElem hi) (List.getElem?_eq_getElem hir))
        have hcl := cmt_len m (r.take i)
        rw [List.length_take] at hcl
        have hsucc : cmt m (r.take (i + 1)) = cmtS m (cmt m (r.take i)) r[i] := by rw [List.take_succ_eq_append_getElem hir, cmt_snoc]
        rw [hsucc]
        generalize r[i] = wv at htu ⊢
        generalize cmt m (r.take i) = cs at hC hcl ⊢
        clear hsucc
        refine ⟨rts[i], _, rfl, SqT.of htu, rfl, _, _, rfl, _, _, rfl, rfl, ?_⟩
        try dsimp only [gName]
        refine ⟨_, rfl, _, rfl, _, _, rfl, rfl, ?_⟩
        try dsimp only [gName]
        rw [bitAnd_nat]
        have hC0 := hC
        obtain ⟨ts, wl, h1, h2, h3, h4, h5, h6⟩ := hC0
        have htl : (ts.map V.ref).length = cs.length := by rw [List.length_map, h2]
        refine ⟨_, rfl, p, _, rfl, .inl (SqL.of h1), _, _, rfl, rfl, _, rfl, ?_⟩
        rw [htl]
        rcases snoc_cases cs with q | ⟨cs', c, q⟩
        · subst q
          refine iteF (iteF ?_)
          rw [cmtS_nil]
          refine ⟨_, rfl, rfl, _, rfl, ?_⟩
          by_cases h0 : wv.2 &&& m = 0
          · rw [if_pos h0, h0]
            refine iteF ?_
            exact ⟨sm, hC, _, _, _, rfl⟩
          · rw [if_neg h0]
            refine iteTb (by
              show (!decide (V.int ((wv.2 &&& m : Nat) : Int) = V.int 0)) = true
              rw [decide_eq_false (fun z => h0 (by injection z with z; omega))]; rfl) ?_
            refine ⟨_, rfl, .inl ⟨rfl, _, SqL.of h1⟩, _, rfl, _, rfl, (by show 1 ≤ sizeLine; decide), fun nl hnl => ⟨(by show 2 ≤ sizeLine; decide), fun nt hnt => ?_⟩⟩
            have s1 := same_upd (o := .lst [V.str wv.1]) hnl
            have s2 := same_upd (o := .tup [V.int ((wv.2 &&& m : Nat) : Int), V.ref nl]) hnt
            refine ⟨p, _, _, rfl, rfl, s2 _ _ (s1 _ _ h1), by rw [List.length_map, h2]; exact small1000 (by simp), ?_⟩
            exact ⟨same_put ((sm.trans s1).trans s2) hp, hC.push sm h1 hnl hnt, _, _, _, rfl⟩
        · subst q
          have hlen1 : (0 : Int) < (((cs' ++ [c]).length : Nat) : Int) := by rw [List.length_append, List.length_singleton]; omega
          rw [decide_eq_true hlen1]
          refine iteT ?_
          obtain ⟨ts2, t, wl2, g1, g2, g3, g4, g6, g5⟩ := hC.more wv.1
          have hlast : atI (ts2.map V.ref ++ [V.ref t]) (-1) = some (V.ref t) := atI_last _ _
          refine ⟨_, rfl, _, rfl, p, _, _, _, rfl, rfl, SqL.of g1, hlast, t, _, _, _, rfl, rfl, SqT.of g2, rfl, _, rfl, rfl, _, rfl, ?_⟩
          rw [cmtS_snoc]
          by_cases he : c.1 = wv.2 &&& m
          · rw [if_pos he, decide_eq_true (by rw [he])]
            refine iteT ?_
            have hcc := hcl.2 c (by simp)
            refine ⟨_, rfl, _, rfl, p, _, _, _, rfl, rfl, SqL.of g1, hlast, t, _, _, _, rfl, rfl, SqT.of g2, rfl, .inl ⟨rfl, _, SqL.of g3⟩, _, rfl, wl2, _, _, rfl, rfl, g3, by rw [List.length_map]; exact small1000 (by omega), ?_⟩
            exact ⟨same_put sm g6, g5, _, _, _, rfl⟩
          · rw [if_neg he, decide_eq_false (fun z => he (by injection z with z; omega))]
            refine iteF ?_
            refine ⟨_, rfl, rfl, _, rfl, ?_⟩
            by_cases h0 : wv.2 &&& m = 0
            · rw [if_pos h0, h0]
              refine iteF ?_
              exact ⟨sm, hC, _, _, _, rfl⟩
            · rw [if_neg h0]
              refine iteTb (by
                show (!decide (V.int ((wv.2 &&& m : Nat) : Int) = V.int 0)) = true
                rw [decide_eq_false (fun z => h0 (by injection z with z; omega))]; rfl) ?_
              refine ⟨_, rfl, .inl ⟨rfl, _, SqL.of h1⟩, _, rfl, _, rfl, (by show 1 ≤ sizeLine; decide), fun nl hnl => ⟨(by show 2 ≤ sizeLine; decide), fun nt hnt => ?_⟩⟩
              have s1 := same_upd (o := .lst [V.str wv.1]) hnl
              have s2 := same_upd (o := .tup [V.int ((wv.2 &&& m : Nat) : Int), V.ref nl]) hnt
              refine ⟨p, _, _, rfl, rfl, s2 _ _ (s1 _ _ h1), by rw [List.length_map, h2]; exact small1000 (by omega), ?_⟩
              exact ⟨same_put ((sm.trans s1).trans s2) hp, hC.push sm h1 hnl hnt, _, _, _, rfl⟩
      · rintro σ' H1 ⟨sm, hC, x⟩
        rw [List.length_map, hrl, List.take_length] at hC
        exact hR _ _ ⟨sm, hC, x⟩
    rintro σ' H1 ⟨sm, hC, x3, x4, x5, rfl⟩
    exact ⟨_, rfl, k p _ hp sm hC⟩
end
section
variable {P : Program} {w : World} {K : PySem.W.Frag} {mg : Str → Option Value} {base : Heap} {AA : Adr} {DD : Fds}
/-! the tidied text -/
theorem jl_app (c : Nat) : ∀ {a b : List (List Nat)}, a ≠ [] → b ≠ [] → jl c (a ++ b) = jl c a ++ c :: jl c b
  | [], _, h, _ => absurd rfl h
  | [x], b, _, hb => by
    cases b with
    | nil => exact absurd rfl hb
    | cons y r => rfl
  | x :: y :: r, b, _, hb => by
    show x ++ c :: jl c ((y :: r) ++ b) = (x ++ c :: jl c (y :: r)) ++ c :: jl c b
    rw [jl_app c (a := y :: r) (by simp) hb]
    simp
theorem jl_flat (c : Nat) : ∀ ls : List (List (List Nat)), (∀ l ∈ ls, l ≠ []) → jl c (ls.map (jl c)) = jl c ls.flatten
  | [], _ => rfl
  | [a], _ => by simp [jl]
  | a :: b :: r, h => by
    have ih := jl_flat c (b :: r) fun l hl => h l (List.mem_cons_of_mem _ hl)
    have hb : (b :: r).flatten ≠ [] := by
      have := h b (by simp)
      intro z
      rw [List.flatten_cons] at z
      exact this (List.append_eq_nil_iff.mp z).1
    rw [List.flatten_cons, jl_app c (h a (by simp)) hb, ← ih]
    rfl
noncomputable def pieceT (n m : Nat) (c : Nat × List Str) : Str := if c.1 = m then Str.join ⟨#[32]⟩ c.2 else grpT n c.1 (Str.join ⟨#[32]⟩ c.2)
theorem evC_ne (n m : Nat) {c : Nat × List Str} (h : c.2 ≠ []) : evC n m c ≠ [] := by
  unfold evC
  split
  · simpa using h
  · simp
theorem piece_row (n m : Nat) {c : Nat × List Str} (h : c.2 ≠ []) : (pieceT n m c).cps.toList = jl 32 (((evC n m c).map Mm.wd).map fun z => z.cps.toList) := by
  unfold pieceT evC
  split
  · rw [join_list, List.map_map, List.map_map]; rfl
  · show 60 :: ((sh n n c.1).signs ++ 32 :: ((Str.join ⟨#[32]⟩ c.2).cps.toList ++ [32, 62])) = _
    rw [join_list]
    have e1 : ((Ev.op (sh n n c.1) :: (c.2.map Ev.pl ++ [Ev.cl])).map Mm.wd).map (fun z => z.cps.toList) = [60 :: (sh n n c.1).signs] ++ (c.2.map (fun z : Str => z.cps.toList) ++ [[62]]) := by
      simp [Mm.wd, Function.comp_def]
    rw [e1, jl_app 32 (by simp) (by simp), jl_app 32 (by simpa using h) (by simp)]
    simp [jl]
theorem pieces_row (n m : Nat) {cs : Cs} (h : ∀ c ∈ cs, c.2 ≠ []) : Str.join ⟨#[32]⟩ (cs.map (pieceT n m)) = rowT (tidyE n m cs) := by
  refine str_ext ?_
  rw [rowT, join_list, join_list, tidyE]
  have e1 : (cs.map (pieceT n m)).map (fun z => z.cps.toList) = (cs.map fun c => ((evC n m c).map Mm.wd).map fun z : Str => z.cps.toList).map (jl 32) := by
    rw [List.map_map, List.map_map]
    exact List.map_congr_left fun c hc => piece_row n m (h c hc)
  have e2 : (((cs.map (evC n m)).flatten).map Mm.wd).map (fun z : Str => z.cps.toList) = (cs.map fun c => ((evC n m c).map Mm.wd).map fun z : Str => z.cps.toList).flatten := by
    rw [List.map_flatten, List.map_flatten, List.map_map, List.map_map]; rfl
  rw [e1, e2]
  refine jl_flat 32 _ fun l hl => ?_
  obtain ⟨c, hc, rfl⟩ := List.mem_map.mp hl
  simpa using evC_ne n m (h c hc)
noncomputable def PW5 (z : Str) : Prop := Pl z ∧ z.length ≤ 5
noncomputable def spTRow : Sp := fun vs H Q _ => ∃ (l : Addr) (r : List (Str × Nat)) (n m : Nat), vs = [.ref l, .int ((n : Nat) : Int), .int ((m : Nat) : Int)] ∧ RowAt H l r ∧ r.length ≤ 33 ∧ n ≤ 5 ∧ m < 2 ^ 2 ^ n ∧ (∀ w ∈ r, PW5 w.1) ∧ ∀ H', Same H H' → Q (.str (rowT (tidyE n m (cmt m r)))) H'
theorem weighT {zs : List Str} {b k : Nat} (h : ∀ z ∈ zs, z.length ≤ b) (hk : zs.length ≤ k) (hb : k * b + k ≤ 1048576) : (zs.map (·.length)).sum + zs.length ≤ 1048576 := by
  have := sum_le (l := zs.map (·.length)) (b := b) (fun y hy => by
    obtain ⟨z, hz, rfl⟩ := List.mem_map.mp hy
    exact h z hz)
  rw [List.length_map] at this
  have h2 : zs.length * b ≤ k * b := Nat.mul_le_mul_right _ hk
  omega
theorem joinLe {c b : Nat} {zs : List Str} (h : ∀ z ∈ zs, z.length ≤ b) : (Str.join ⟨#[c]⟩ zs).length ≤ zs.length * b + zs.length := by
  rw [str_len, join_list]
  refine Nat.le_trans (jl_len _) ?_
  have := sum_le (l := (zs.map fun z => z.cps.toList).map List.length) (b := b) (fun x hx => by
    obtain ⟨l, hl, rfl⟩ := List.mem_map.mp hx
    obtain ⟨z, hz, rfl⟩ := List.mem_map.mp hl
    have := h z hz
    rw [str_len] at this
    exact this)
  simp only [List.length_map] at this ⊢
  omega
theorem piece_len {n m : Nat} (hn : n ≤ 10) {c : Nat × List Str} (h : c.2.length ≤ 33) (hp : ∀ z ∈ c.2, z.length ≤ 5) : (Str.join ⟨#[32]⟩ c.2).length ≤ 1000 ∧ (pieceT n m c).length ≤ 5000 := by
  have h1 := joinLe (c := 32) (b := 5) (zs := c.2) hp
  have h2 : c.2.length * 5 ≤ 33 * 5 := Nat.mul_le_mul_right _ h
  refine ⟨by omega, ?_⟩
  unfold pieceT
  split
  · omega
  · have hsm := sh_small hn c.1
    have hl : (grpT n c.1 (Str.join ⟨#[32]⟩ c.2)).cps.toList = 60 :: ((sh n n c.1).signs ++ 32 :: ((Str.join ⟨#[32]⟩ c.2).cps.toList ++ [32, 62])) := rfl
    rw [str_len] at h1 ⊢
    rw [hl]
    simp only [List.length_cons, List.length_append, List.length_nil]
    omega
noncomputable abbrev N_tidied_row : List Str := ["row", "n", "rule", "pieces", "mask", "words", "piece"]
theorem sc_tidied_row : FnScope N_tidied_row ["row", "n", "rule"] (defScope st_tidied_row) := ⟨rfl, rfl, rfl, by decide +kernel, rfl, by decide +kernel, by decide +kernel⟩
theorem ok_trow (T : All P w K mg AA DD) : FnOk P w K mg base CX0 16 AA.tidied_row DD.tidied_row ["row", "n", "rule"] spTRow := by
  have GC := ok_come (base := base) T
  have GG := ok_inG (base := base) T
  refine T.F_tidied_row.ok sc_tidied_row (fun vs H Q E h => ?_) (fun cdv A outer s H vs Q E hr h => ?_)
  · obtain ⟨l, r, n, m, rfl, _⟩ := h
    rfl
  · obtain ⟨l, r, n, m, rfl, hRow, hrl, hn, hm, hpl, k⟩ := h
    have nd := sc_tidied_row.nd
    have hr1 : Room 1 _ := hr.mono (by decide)
    have hrG : Room 15 _ := hr
    refine ⟨_, (@pss_cons _ _ _ _ _ (@ps_set _ _ 3 _ _ _ _ nd rfl (Or.inl rfl) (@pe_lst _ _ _ _ pa_nil) (by rfl) (by first | exact .inl rfl | exact .inr rfl | assumption)) (@pss_cons _ _ _ _ _ (@ps_for _ _ _ _ _ _ _ _ PassesOwn.never rfl (pi_list (pe_call GC hr1 rfl T.m_come_together T.k_come_together T.b_come_together .nil pass0 (@pa_cons _ _ _ _ _ (pv 0) (@pa_cons _ _ _ _ _ (pv 2) pa_nil (by rfl)) (by rfl)))) (pg_tup rfl (pgs_cons (pg_name (i := 4) nd rfl (Or.inl rfl)) (pgs_cons (pg_name (i := 5) nd rfl (Or.inl rfl)) pgs_nil))) (@pss_cons _ _ _ _ _ (@ps_set _ _ 6 _ _ _ _ nd rfl (Or.inl rfl) (pe_bmK (K := K) rfl PySem.F.plainAttrs_str PySem.F.slot_str_join PySem.F.type_str_join (mt_join (K := K) rfl) pe_str (@pa_cons _ _ _ _ _ (pv 5) pa_nil (by rfl))) (by rfl) (by first | exact .inl rfl | exact .inr rfl | assumption)) (@pss_one _ _ _ (@ps_expr _ _ _ _ (pe_bm PySem.F.plainAttrs_list PySem.F.slot_list_append PySem.F.type_list_append mt_append (pv 3) (@pa_cons _ _ _ _ _ (pe_ifExp (@pt_cmpR _ _ _ _ _ _ _ _ op_eq (pv 4) (pv 2) (nomark _)) (pv 6) (pe_call GG hrG rfl T.m_in_group T.k_in_group T.b_in_group .nil pass0 (@pa_cons _ _ _ _ _ (pv 6) (@pa_cons _ _ _ _ _ (pv 4) (@pa_cons _ _ _ _ _ (pv 1) pa_nil (by rfl)) (by rfl)) (by rfl)))) pa_nil (by rfl))) (by rfl)))) (by intro _; rfl)) (@pss_one _ _ _ (@ps_ret _ _ _ _ (pe_bmK (K := K) rfl PySem.F.plainAttrs_str PySem.F.slot_str_join PySem.F.type_str_join (mt_join (K := K) rfl) pe_str (@pa_cons _ _ _ _ _ (pv 3) pa_nil (by rfl))))))), ?_⟩
    refine ⟨Nat.zero_le _, fun pp hpp => ?_⟩
    try dsimp only [gName]
    have hci := cmt_ci (m := m) (P := PW5) hpl
    have hcl := cmt_len m r
    refine cut_for (fun σ' H' => Same H H' ∧ H' pp = some (.lst (((cmt m r).map (pieceT n m)).map V.str)) ∧ ∃ x4 x5 x6 : Option V, σ' = [some (.ref l), some (.int ((n : Nat) : Int)), some (.int ((m : Nat) : Int)), some (.ref pp), x4, x5, x6]) (fun R hR => ?_) ?_
    · refine ⟨_, rfl, _, rfl, l, r, m, rfl, hRow.same (same_upd hpp), by omega, fun p H1 hp s1 hC => ?_⟩
      generalize cmt m r = cs at hci hcl hC hR ⊢
      have hpp1 := s1 _ _ (upd_same (H := H) (a := pp) (o := .lst []))
      obtain ⟨ts, wl, h1, h2, h3, h4, ⟨h5, h7⟩, h6⟩ := hC
      have npp : p ≠ pp := fun z => by rw [z, upd_same] at hp; cases hp
      refine ⟨p, rfl, ⟨_, SqL.of h1⟩, ?_⟩
      have sH : Same H H1 := (same_upd hpp).trans s1
      refine for_list (K := K) (a := p) (xs := ts.map V.ref) (D := ⟨R, _, R, R⟩) (fun i σ' H' => Same H H' ∧ (∀ b u, b ≠ pp → H1 b = some u → H' b = some u) ∧ H' pp = some (.lst (((cs.take i).map (pieceT n m)).map V.str)) ∧ ∃ x4 x5 x6 : Option V, σ' = [some (.ref l), some (.int ((n : Nat) : Int)), some (.int ((m : Nat) : Int)), some (.ref pp), x4, x5, x6])
        ⟨sH, fun _ _ _ z => z, hpp1, none, none, none, rfl⟩ (fun i σ' H' _ z => SqL.of (z.2.1 _ _ npp h1)) ?_ ?_
      · rintro i x σ' H2 hx ⟨sm, sb, hP, x4, x5, x6, rfl⟩
        have hi : i < ts.length := by
          have := (List.getElem?_eq_some_iff.mp hx).1
          rw [List.length_map] at this; exact this
        have ex : x = V.ref ts[i] := by rw [List.getElem?_map, List.getElem?_eq_getElem hi] at hx; exact (Option.some.inj hx).symm
        subst ex
        have hic : i < cs.length := by omega
        have hiw : i < wl.length := by omega
        obtain ⟨q1, q2⟩ := h6 i ts[i] wl[i] cs[i] (List.getElem?_eq_getElem hi) (List.getElem?_eq_getElem hiw) (List.getElem?_eq_getElem hic)
        have n1 : ts[i] ≠ pp := ne_of q1 hpp1 (by intro z; cases z)
        have n2 : wl[i] ≠ pp := fun z => by
          have := h7 wl[i] (List.getElem_mem hiw)
          rw [z, upd_same] at this; cases this
        have q1 := sb _ _ n1 q1
        have q2 := sb _ _ n2 q2
        obtain ⟨e1, e2, e3, e4⟩ := hci.ne cs[i] (List.getElem_mem hic)
        have e5 := hcl.2 cs[i] (List.getElem_mem hic)
        have et : ((cs.take (i + 1)).map (pieceT n m)).map V.str = ((cs.take i).map (pieceT n m)).map V.str ++ [V.str (pieceT n m cs[i])] := by rw [List.take_succ_eq_append_getElem hic, List.map_append, List.map_append]; rfl
        have hsz : (((cs.take i).map (pieceT n m)).map V.str).length < sizeLine := by rw [List.length_map, List.length_map, List.length_take]; exact small1000 (by omega)
        rw [et]
        generalize cs[i] = c at q1 q2 e1 e2 e3 e4 e5 ⊢
        generalize ts[i] = t at q1 ⊢
        generalize wl[i] = wa at q1 q2 ⊢
        generalize ((cs.take i).map (pieceT n m)).map V.str = ps at hP hsz ⊢
        have hpl := piece_len (n := n) (m := m) (by omega) (show c.2.length ≤ 33 by omega) fun z hz => (e4 z hz).2
        refine ⟨t, _, rfl, SqT.of q1, rfl, _, _, rfl, _, _, rfl, rfl, ?_⟩
        try dsimp only [gName]
        refine ⟨rfl, _, rfl, _, wa, c.2, rfl, rfl, SqL.of q2, (by rw [e_sp]; decide), weighT (b := 5) (k := 33) (fun z hz => (e4 z hz).2) (by omega) (by decide), ?_⟩
        try dsimp only [gName]
        rw [e_sp]
        refine ⟨_, rfl, .inl ⟨rfl, _, SqL.of hP⟩, _, rfl, _, rfl, rfl, _, rfl, ?_⟩
        have fin : ∀ z : Str, z = pieceT n m c → (Same H (upd H2 pp (.lst (ps ++ [V.str z]))) ∧ (∀ b u, b ≠ pp → H1 b = some u → upd H2 pp (.lst (ps ++ [V.str z])) b = some u) ∧ upd H2 pp (.lst (ps ++ [V.str z])) pp = some (.lst (ps ++ [V.str (pieceT n m c)]))) := fun z hz =>
          ⟨same_put sm hpp, fun b u hb e => by rw [upd_ne hb]; exact sb b u hb e, by rw [upd_same, hz]⟩
        by_cases he : c.1 = m
        · rw [decide_eq_true (by rw [he])]
          refine iteT ?_
          have ez : Str.join ⟨#[32]⟩ c.2 = pieceT n m c := (if_pos he).symm
          obtain ⟨f1, f2, f3⟩ := fin _ ez
          exact ⟨_, rfl, pp, _, _, rfl, rfl, hP, hsz, f1, f2, f3, _, _, _, rfl⟩
        · rw [decide_eq_false (fun z => he (by injection z with z; omega))]
          refine iteF ?_
          have ez : grpT n c.1 (Str.join ⟨#[32]⟩ c.2) = pieceT n m c := (if_neg he).symm
          obtain ⟨f1, f2, f3⟩ := fin _ ez
          have hc1 : c.1 < 2 ^ 2 ^ n := by rw [← e2]; exact Nat.lt_of_le_of_lt Nat.and_le_right hm
          exact ⟨_, rfl, _, rfl, _, rfl, _, c.1, n, rfl, by omega, hc1, hpl.1, pp, _, _, rfl, rfl, hP, hsz, f1, f2, f3, _, _, _, rfl⟩
      · rintro σ' H2 ⟨sm, sb, hP, x⟩
        rw [List.length_map, h2, List.take_length] at hP
        exact hR _ _ ⟨sm, hP, x⟩
    rintro σ' H1 ⟨sm, hP, x4, x5, x6, rfl⟩
    have hpc := pieces_row n m (cs := cmt m r) fun c hc => (hci.ne c hc).2.2.1
    refine ⟨rfl, _, rfl, _, pp, _, rfl, rfl, SqL.of hP, (by rw [e_sp]; decide), weighT (b := 5000) (k := 33) (fun z hz => ?_) (by rw [List.length_map]; omega) (by decide), ?_⟩
    · obtain ⟨c, hc, rfl⟩ := List.mem_map.mp hz
      exact (piece_len (n := n) (m := m) (by omega) (by have := hcl.2 c hc; omega) fun z hz => ((hci.ne c hc).2.2.2 z hz).2).2
    rw [e_sp, hpc]
    exact k _ sm
noncomputable def tdE (n m : Nat) (evs : List Ev) : List Ev := tidyE n m (cmt m (rowD n (rn evs).1))
theorem rn_pw {n : Nat} {evs : List Ev} (g : Gev n evs) : ∀ i, i ≤ evs.length → ∀ f ∈ (rn (evs.take i)).1, PW5 f.1
  | 0, _ => fun f h => by simp [rn] at h
  | i + 1, hi => by
    have h2 := rn_pw g i (by omega)
    have he : evs[i]? = some evs[i] := List.getElem?_eq_getElem (by omega)
    have ho := g i _ he
    rw [rn_take he]
    generalize evs[i] = e at ho he
    cases e with
    | op v => exact h2
    | cl => exact h2
    | pl z =>
      intro f hf
      rcases List.mem_append.mp hf with h | h
      · exact h2 f h
      · have : f = (z, (rn (evs.take i)).2) := by simpa using h
        rw [this]; exact ho
noncomputable def spTidied : Sp := fun vs H Q _ => ∃ (rws : List (List Ev)) (n m : Nat), vs = [.str (textT rws), .int ((n : Nat) : Int), .int ((m : Nat) : Int)] ∧ n ≤ 5 ∧ m < 2 ^ 2 ^ n ∧ Grs n rws ∧ (∀ evs ∈ rws, (rn evs).1.length ≤ 33) ∧ ∀ H', Same H H' → Q (.str (textT (rws.map (tdE n m)))) H'
theorem row_words {n : Nat} {evs : List Ev} (g : Gev n evs) : ∀ w ∈ rowD n (rn evs).1, PW5 w.1 := fun w hw => by
  obtain ⟨f, hf, rfl⟩ := List.mem_map.mp hw
  have := rn_pw g evs.length (Nat.le_refl _)
  rw [List.take_length] at this
  exact this f hf
noncomputable def sumW (cs : Cs) : Nat := (cs.map fun c => c.2.length).sum
theorem sumW_snoc (cs : Cs) (c : Nat × List Str) : sumW (cs ++ [c]) = sumW cs + c.2.length := by simp [sumW]
theorem cmt_sum (m : Nat) (r : List (Str × Nat)) : sumW (cmt m r) ≤ r.length := by
  have g : ∀ (r : List (Str × Nat)) (cs : Cs), sumW (r.foldl (cmtS m) cs) ≤ sumW cs + r.length := by
    intro r
    induction r with
    | nil => intro cs; simp
    | cons w r ih =>
      intro cs
      rw [List.foldl_cons, List.length_cons]
      have h1 := ih (cmtS m cs w)
      have h2 : sumW (cmtS m cs w) ≤ sumW cs + 1 := by
        rcases snoc_cases cs with q | ⟨a, c, q⟩
        · subst q
          rw [cmtS_nil]
          split <;> simp [sumW]
        · subst q
          rw [cmtS_snoc]
          split
          · rw [sumW_snoc, sumW_snoc]; simp; omega
          · split
            · omega
            · rw [sumW_snoc]; simp
      omega
  have := g r []
  simpa [cmt, sumW] using this
theorem tidyE_len (n m : Nat) : ∀ cs : Cs, (∀ c ∈ cs, c.2 ≠ []) → (tidyE n m cs).length ≤ 3 * sumW cs
  | [], _ => by simp [tidyE]
  | c :: r, h => by
    have ih := tidyE_len n m r fun d hd => h d (List.mem_cons_of_mem _ hd)
    have e : tidyE n m (c :: r) = evC n m c ++ tidyE n m r := by simp [tidyE]
    have e2 : sumW (c :: r) = c.2.length + sumW r := by simp [sumW]
    have h1 : 0 < c.2.length := List.length_pos_iff.mpr (h c (by simp))
    have h2 : (evC n m c).length ≤ c.2.length + 2 := by
      unfold evC
      split <;> simp
    rw [e, e2, List.length_append]
    omega
theorem tdE_len {n m : Nat} {evs : List Ev} (g : Gev n evs) (h : (rn evs).1.length ≤ 33) : (tdE n m evs).length ≤ 99 := by
  have h1 := tidyE_len n m (cmt m (rowD n (rn evs).1)) fun c hc => ((cmt_ci (m := m) (P := PW5) (row_words g)).ne c hc).2.2.1
  have h2 := cmt_sum m (rowD n (rn evs).1)
  have h3 : (rowD n (rn evs).1).length = (rn evs).1.length := by simp [rowD]
  unfold tdE
  omega
noncomputable abbrev N_tidied : List Str := ["text", "n", "rule"]
theorem sc_tidied : FnScope N_tidied ["text", "n", "rule"] (defScope st_tidied) := ⟨rfl, rfl, rfl, by decide +kernel, rfl, by decide +kernel, by decide +kernel⟩
theorem ok_tidied (T : All P w K mg AA DD) : FnOk P w K mg base CX0 17 AA.tidied DD.tidied ["text", "n", "rule"] spTidied := by
  have GA := ok_ask (base := base) T
  have GY := ok_readr (base := base) T
  have GT := ok_trow (base := base) T
  refine T.F_tidied.ok sc_tidied (fun vs H Q E h => ?_) (fun cdv A outer s H vs Q E hr h => ?_)
  · obtain ⟨rws, n, m, rfl, _⟩ := h
    rfl
  · obtain ⟨rws, n, m, rfl, hn, hm, g, h33, k⟩ := h
    have nd := sc_tidied.nd
    have hr3 : Room 3 _ := hr.mono (by decide)
    have hr7 : Room 7 _ := hr.mono (by decide)
    have hr16 : Room 16 _ := hr
    refine ⟨_, (@pss_cons _ _ _ _ _ (@ps_expr _ _ _ _ (pe_call GA hr3 rfl T.m_ask_rule T.k_ask_rule T.b_ask_rule .nil pass0 (@pa_cons _ _ _ _ _ (pv 2) (@pa_cons _ _ _ _ _ (pv 1) pa_nil (by rfl)) (by rfl))) (by rfl)) (@pss_one _ _ _ (@ps_ret _ _ _ _ (pe_bmK (K := K) rfl PySem.F.plainAttrs_str PySem.F.slot_str_join PySem.F.type_str_join (mt_join (K := K) rfl) pe_str (@pa_cons _ _ _ _ _ (pe_comp (defScope st_tidied) N_tidied ["n", "rule"] [1, 2] rfl (by exact ⟨rfl, rfl, by decide +kernel, rfl, by decide +kernel, by decide +kernel, by decide +kernel, rfl, by decide +kernel⟩) rfl rfl (pi_list (pe_call GY hr7 rfl T.m_read_rows T.k_read_rows T.b_read_rows .nil pass0 (@pa_cons _ _ _ _ _ (pv 0) (@pa_cons _ _ _ _ _ (pv 1) pa_nil (by rfl)) (by rfl)))) (fun _ _ _ _ => pif_nil) (fun _ _ _ _ => (pe_call GT hr16 rfl T.m_tidied_row T.k_tidied_row T.b_tidied_row .nil pass0 (@pa_cons _ _ _ _ _ (pv 0) (@pa_cons _ _ _ _ _ (pv 1) (@pa_cons _ _ _ _ _ (pv 2) pa_nil (by rfl)) (by rfl)) (by rfl))))) pa_nil (by rfl)))))), ?_⟩
    refine ⟨_, rfl, _, rfl, m, n, rfl, by omega, hm, ?_⟩
    refine ⟨rfl, _, rfl, _, rfl, rws, n, rfl, by omega, g, fun p ls H1 hp s1 hR => ?_⟩
    obtain ⟨h1, h2, h3⟩ := hR
    have hrl : (rowsD n rws).length = rws.length := by simp [rowsD]
    have h60 := g.2.1
    refine ⟨p, rfl, ⟨_, SqL.of h1⟩, ?_⟩
    refine comp_list (K := K) (a := p) (xs := ls.map V.ref) (fun i ys H' => Same H1 H' ∧ i ≤ 60 ∧ ys = ((rws.take i).map fun evs => rowT (tdE n m evs)).map V.str) ⟨Same.refl _, Nat.zero_le _, rfl⟩ (fun i ys H' _ z => SqL.of (z.1 _ _ h1)) ?_ ?_
    · rintro i x ys H2 hx ⟨sm, _, rfl⟩
      have hi : i < ls.length := by
        have := (List.getElem?_eq_some_iff.mp hx).1
        rw [List.length_map] at this; exact this
      have ex : x = V.ref ls[i] := by rw [List.getElem?_map, List.getElem?_eq_getElem hi] at hx; exact (Option.some.inj hx).symm
      subst ex
      have hir : i < rws.length := by omega
      have hro : (rowsD n rws)[i]? = some (rowD n (rn rws[i]).1) := by rw [rowsD, List.getElem?_map, List.getElem?_eq_getElem hir]; rfl
      have hRow := (h3 i ls[i] _ (List.getElem?_eq_getElem hi) hro).same sm
      have hg := g.2.2 rws[i] (List.getElem_mem hir)
      have hw33 := h33 rws[i] (List.getElem_mem hir)
      refine tYes_ok ?_
      rw [if_pos rfl]
      refine ⟨_, rfl, _, rfl, _, rfl, ls[i], _, n, m, rfl, hRow, by simpa [rowD] using hw33, hn, hm, row_words hg.1, fun H3 s3 => ?_⟩
      refine ⟨by rw [List.length_map, List.length_map, List.length_take]; exact small1000 (by omega), sm.trans s3, by omega, ?_⟩
      rw [List.take_succ_eq_append_getElem hir, List.map_append, List.map_append]; rfl
    rintro ys H2 ⟨sm, _, rfl⟩ q hq
    rw [List.length_map, h2, hrl, List.take_length]
    refine ⟨_, q, _, rfl, rfl, SqL.of upd_same, (by rw [e_nl]; decide), weighT (b := 11000) (k := 60) (fun z hz => ?_) (by rw [List.length_map]; exact h60) (by decide), ?_⟩
    · obtain ⟨evs, he, rfl⟩ := List.mem_map.mp hz
      have hg := g.2.2 evs he
      have := rowT_len (n := n) (by omega) (gev_tidy (m := m) hn (cmt_ci (row_words hg.1)))
      have h2 := tdE_len (m := m) hg.1 (h33 evs he)
      unfold tdE at h2 ⊢
      omega
    rw [e_nl]
    have e : (rws.map fun evs => rowT (tdE n m evs)) = (rws.map (tdE n m)).map rowT := by rw [List.map_map]; rfl
    rw [e]
    exact k _ ((s1.trans sm).trans (same_upd hq))
end
section
variable {P : Program} {w : World} {K : PySem.W.Frag} {mg : Str → Option Value} {base : Heap} {AA : Adr} {DD : Fds}
noncomputable def spHas : Sp := fun vs H Q _ => ∃ m s : Nat, vs = [.int m, .int s] ∧ Q (.bl (m.testBit s)) H
noncomputable def bl (m : Nat) : Nat := Builtin.Int.intBits (m : Int)
noncomputable def asInts (l : List Nat) : List Int := l.map fun (s : Nat) => (s : Int)
noncomputable def spSettings : Sp := fun vs H Q _ => ∃ m : Nat, vs = [.int m] ∧ m < 2 ^ 1024 ∧ ∀ p, H p = none → Q (.ref p) (upd H p (.lst ((asInts (setsOf m (bl m))).map V.int)))
theorem shr_nat (m s : Nat) : (m : Int) / 2 ^ ((s : Int)).toNat = ((m / 2 ^ s : Nat) : Int) := by rw [Int.toNat_natCast, pow2]; rfl
theorem has_val (m s : Nat) : decide (V.int (Builtin.bitAnd ((m : Int) / 2 ^ ((s : Int)).toNat) 1) = V.int 1) = m.testBit s := by
  rw [dec_int, shr_nat, show (1 : Int) = ((1 : Nat) : Int) from rfl, bitAnd_nat, Nat.and_one_is_mod, testBit_mod]
  by_cases h : m / 2 ^ s % 2 = 1
  · rw [h]; rfl
  · have h0 : m / 2 ^ s % 2 = 0 := by omega
    rw [h0]; rfl
theorem sets_succ (m i : Nat) : setsOf m (i + 1) = if m.testBit i then setsOf m i ++ [i] else setsOf m i := by
  unfold setsOf
  rw [List.range_succ, List.filter_append]
  cases h : m.testBit i <;> simp [h]
theorem snocInts (l : List Nat) (i : Nat) : asInts (l ++ [i]) = asInts l ++ [(i : Int)] := by simp [asInts]
theorem bl_le {m N : Nat} (h : m < 2 ^ N) : bl m ≤ N := bits_nat h
theorem sets_bl {m N : Nat} (h : m < 2 ^ N) : setsOf m (bl m) = setsOf m N := sets_ext (bits_self m) (bl_le h)
theorem sc_has : FnScope ["mask", "s"] ["mask", "s"] (defScope st_has) := ⟨rfl, rfl, rfl, by decide +kernel, rfl, by decide +kernel, by decide +kernel⟩
theorem ok_has (T : All P w K mg AA DD) : FnOk P w K mg base CX0 1 AA.has DD.has ["mask", "s"] spHas := by
  refine T.F_has.ok sc_has (fun vs H Q E h => ?_) (fun cdv A outer s H vs Q E hr h => ?_)
  · obtain ⟨m, t, rfl, _⟩ := h
    rfl
  · obtain ⟨m, t, rfl, k⟩ := h
    refine ⟨_, pss_one (ps_ret (pe_cmpR op_eq (pe_op op_and (pe_op op_shr (pv 0) (pv 1)) pe_int) pe_int (nomark _))), ?_⟩
    refine ⟨_, rfl, _, rfl, _, _, rfl, rfl, by omega, _, _, rfl, rfl, rfl, ?_⟩
    rw [has_val]
    exact k
theorem sc_settings : FnScope ["mask"] ["mask"] (defScope st_settings) := ⟨rfl, rfl, rfl, by decide +kernel, rfl, by decide +kernel, by decide +kernel⟩
theorem ok_settings (T : All P w K mg AA DD) : FnOk P w K mg base CX0 2 AA.settings DD.settings ["mask"] spSettings := by
  have G0 := ok_has (base := base) T
  refine T.F_settings.ok sc_settings (fun vs H Q E h => ?_) (fun cdv A outer s H vs Q E hr h => ?_)
  · obtain ⟨m, rfl, _⟩ := h
    rfl
  · obtain ⟨m, rfl, hm, k⟩ := h
    refine ⟨_, pss_one (ps_ret (pe_comp (defScope st_settings) ["mask"] ["mask"] [0] rfl (by exact ⟨rfl, rfl, by decide +kernel, rfl, by decide +kernel, by decide +kernel, by decide +kernel, rfl, by decide +kernel⟩) rfl rfl
      (pi_range1 rfl T.n_range (pa_cons (pe_bm0 PySem.F.plainAttrs_int PySem.F.slot_int_bit_length PySem.F.type_int_bit_length mt_bitlen (pv 0)) pa_nil))
      (fun _ _ _ _ => pif_one (pt_val (pe_call G0 hr rfl T.m_has T.k_has T.b_has .nil pass0 (pa_cons (pv 1) (pa_cons (pv 0) pa_nil))))) (fun _ _ _ _ => pv 0))), ?_⟩
    have hb : bl m ≤ 1024 := bl_le hm
    refine ⟨_, rfl, rfl, _, rfl, rfl, _, rfl, ?_, ?_, ?_⟩
    · show -(2 ^ 62) ≤ ((bl m : Nat) : Int); omega
    · show ((bl m : Nat) : Int) < 2 ^ 62; omega
    show ∃ W : Nat → Nat → List V → Hp → Prop, _
    rw [show (((Builtin.Int.intBits (m : Int) : Nat) : Int)).toNat = bl m from Int.toNat_natCast _]
    refine comp_range (fun i ys H' => H' = H ∧ i ≤ bl m ∧ ys = (asInts (setsOf m i)).map V.int) ⟨rfl, Nat.zero_le _, rfl⟩ ?_ ?_
    · rintro i ys H' hi ⟨rfl, _, rfl⟩
      refine ⟨_, rfl, _, rfl, m, i, by simp, _, rfl, ?_⟩
      have hs := sets_succ m i
      cases hb : m.testBit i with
      | true =>
        rw [hb, if_pos rfl] at hs
        refine iteT ?_
        refine ⟨_, rfl, ?_, rfl, hi, ?_⟩
        · rw [List.length_map, asInts, List.length_map]
          have := sets_len m i
          exact small5k (by omega)
        · rw [hs, snocInts, List.map_append, Int.zero_add]; rfl
      | false =>
        rw [hb, if_neg Bool.false_ne_true] at hs
        refine iteF ?_
        exact ⟨rfl, hi, by rw [hs]⟩
    · rintro ys H' ⟨rfl, _, rfl⟩ p hp
      exact k p hp
theorem last_idx {α : Type} {l : List α} {x y : α} {i : Nat} (h : (l ++ [x])[i]? = some y) (hi : ¬ i < l.length) : i = l.length ∧ x = y := by
  rw [List.getElem?_append_right (by omega)] at h
  have h0 : i - l.length = 0 := by
    cases hh : i - l.length with
    | zero => rfl
    | succ m => rw [hh] at h; simp at h
  rw [h0] at h
  exact ⟨by omega, by simpa using h⟩
theorem rep_one (k : Nat) (v : V) : (List.replicate k [v]).flatten = List.replicate k v := by
  induction k with
  | zero => rfl
  | succ k ih => rw [List.replicate_succ, List.flatten_cons, ih, List.replicate_succ]; rfl
theorem shd_strs {zs : List Str} (h : ∀ z ∈ zs, ∀ c ∈ z.cps.toList, c < 128) : Shd 1 (.list (zs.map PyData.str)) := Shd.list fun d hd => by
  obtain ⟨z, hz, rfl⟩ := List.mem_map.mp hd
  exact Shd.str (h z hz)
theorem eqv_nil (ds : List PyData) : PyData.eqv (.list ds) (.list []) = decide (ds = []) := by
  cases ds <;> simp [PyData.eqv, PyData.eqvAll]
noncomputable def ArOk (n : Nat) (ar : List W) : Prop := ar.length ≤ 5 ∧ ∀ v ∈ ar, v.ok n ∧ v.signs.length ≤ 100
theorem rn_ok {n : Nat} {evs : List Ev} (g : Gev n evs) : ∀ i, i ≤ evs.length → ArOk n (rn (evs.take i)).2 ∧ ∀ f ∈ (rn (evs.take i)).1, ArOk n f.2 ∧ Pl f.1
  | 0, _ => ⟨⟨by simp [rn], fun v h => by simp [rn] at h⟩, fun f h => by simp [rn] at h⟩
  | i + 1, hi => by
    obtain ⟨h1, h2⟩ := rn_ok g i (by omega)
    have he : evs[i]? = some evs[i] := List.getElem?_eq_getElem (by omega)
    have ho := g i _ he
    rw [rn_take he]
    generalize evs[i] = e at ho he
    cases e with
    | op v => exact ⟨⟨by show ((rn (evs.take i)).2 ++ [v]).length ≤ 5; have := ho.2.2; simp; omega, fun u hu => by
        rcases List.mem_append.mp hu with h | h
        · exact h1.2 u h
        · have : u = v := by simpa using h
          rw [this]; exact ⟨ho.1, ho.2.1⟩⟩, h2⟩
    | cl => exact ⟨⟨by show ((rn (evs.take i)).2.dropLast).length ≤ 5; have := h1.1; simp; omega, fun u hu => h1.2 u (List.dropLast_subset _ hu)⟩, h2⟩
    | pl z => exact ⟨h1, fun f hf => by
        rcases List.mem_append.mp hf with h | h
        · exact h2 f h
        · have : f = (z, (rn (evs.take i)).2) := by simpa using h
          rw [this]; exact ⟨h1, ho.1⟩⟩
theorem rn_all {n : Nat} {evs : List Ev} (g : Gev n evs) : ArOk n (rn evs).2 ∧ ∀ f ∈ (rn evs).1, ArOk n f.2 ∧ Pl f.1 := by
  have := rn_ok g evs.length (Nat.le_refl _)
  rw [List.take_length] at this
  exact this
theorem evs_step (evs : List Ev) : ∀ st : RSt, (evs.foldl stp st).1.length ≤ st.1.length + evs.length ∧ (evs.foldl stp st).2.length ≤ st.2.length + evs.length := by
  induction evs with
  | nil => intro st; exact ⟨Nat.le_refl _, Nat.le_refl _⟩
  | cons e r ih =>
    intro st
    obtain ⟨h1, h2⟩ := ih (stp st e)
    have h3 : (stp st e).1.length ≤ st.1.length + 1 ∧ (stp st e).2.length ≤ st.2.length + 1 := by cases e <;> simp [stp] <;> omega
    simp only [List.foldl_cons, List.length_cons]
    omega
theorem evs_fs (evs : List Ev) : (rn evs).1.length ≤ evs.length := by have := (evs_step evs ([], [])).1; simpa [rn] using this
theorem rdvA_of {H : Hp} : ∀ {xs : List V} {ds : List PyData}, xs.length = ds.length → (∀ (i : Nat) (x : V) (d : PyData), xs[i]? = some x → ds[i]? = some d → Rdv K H x d) → RdvA K H xs ds
  | [], [], _, _ => .nil
  | [], _ :: _, h, _ => by simp at h
  | _ :: _, [], h, _ => by simp at h
  | x :: xs, d :: ds, h, f => .cons (f 0 x d rfl rfl) (rdvA_of (by simpa using h) fun i y e h1 h2 => f (i + 1) y e h1 h2)
/-! rows cut -/
structure LLs (H : Hp) (p : Addr) (ls : List Addr) (zss : List (List Str)) : Prop where
  lst : H p = some (.lst (ls.map V.ref))
  len : ls.length = zss.length
  at_ : ∀ (i : Nat) (l : Addr) (zs : List Str), ls[i]? = some l → zss[i]? = some zs → H l = some (.lst (zs.map V.str))
theorem LLs.same {H H' : Hp} {p : Addr} {ls : List Addr} {zss : List (List Str)} (h : LLs H p ls zss) (s : Same H H') : LLs H' p ls zss := ⟨s _ _ h.lst, h.len, fun i l zs a b => s _ _ (h.at_ i l zs a b)⟩
noncomputable def llPD (zss : List (List Str)) : PyData := .list (zss.map fun zs => .list (zs.map PyData.str))
theorem LLs.rdv {H : Hp} {p : Addr} {ls : List Addr} {zss : List (List Str)} (h : LLs H p ls zss) : Rdv K H (.ref p) (llPD zss) := by
  refine .lst (SqL.of h.lst) (rdvA_of (by simp [h.len]) fun i x d e1 e2 => ?_)
  rw [List.getElem?_map] at e1 e2
  cases et : ls[i]? with
  | none => rw [et] at e1; cases e1
  | some l =>
    cases er : zss[i]? with
    | none => rw [er] at e2; cases e2
    | some zs =>
      rw [et] at e1
      rw [er] at e2
      cases e1
      cases e2
      exact Rdv.strs (SqL.of (h.at_ i l zs et er))
theorem shd_ll {zss : List (List Str)} (h : ∀ zs ∈ zss, ∀ z ∈ zs, ∀ c ∈ z.cps.toList, c < 128) : Shd 2 (llPD zss) := Shd.list fun d hd => by
  obtain ⟨zs, hz, rfl⟩ := List.mem_map.mp hd
  exact shd_strs (h zs hz)
noncomputable def cutR (s : Nat) (r : List (Str × Nat)) : List Str := (r.filter fun w => w.2.testBit s).map (·.1)
noncomputable def cutD (s : Nat) (rows : List (List (Str × Nat))) : List (List Str) := rows.map (cutR s)
noncomputable def spCutR : Sp := fun vs H Q _ => ∃ (l : Addr) (r : List (Str × Nat)) (s : Nat), vs = [.ref l, .int s] ∧ RowAt H l r ∧ r.length ≤ 1000 ∧ ∀ p, H p = none → Q (.ref p) (upd H p (.lst ((cutR s r).map V.str)))
noncomputable def spCutRs : Sp := fun vs H Q _ => ∃ (p : Addr) (ls : List Addr) (rows : List (List (Str × Nat))) (s : Nat), vs = [.ref p, .int s] ∧ RowsAt H p ls rows ∧ rows.length ≤ 60 ∧ (∀ r ∈ rows, r.length ≤ 1000) ∧ ∀ q qs H', H q = none → (∀ x ∈ qs, H x = none) → q ∉ qs → Same H H' → LLs H' q qs (cutD s rows) → Q (.ref q) H'
noncomputable abbrev N_cut_row : List Str := ["row", "s"]
theorem sc_cut_row : FnScope N_cut_row ["row", "s"] (defScope st_cut_row) := ⟨rfl, rfl, rfl, by decide +kernel, rfl, by decide +kernel, by decide +kernel⟩
theorem ok_cutr (T : All P w K mg AA DD) : FnOk P w K mg base CX0 2 AA.cut_row DD.cut_row ["row", "s"] spCutR := by
  have GH := ok_has (base := base) T
  refine T.F_cut_row.ok sc_cut_row (fun vs H Q E h => ?_) (fun cdv A outer s H vs Q E hr h => ?_)
  · obtain ⟨l, r, s, rfl, _⟩ := h
    rfl
  · obtain ⟨l, r, s, rfl, ⟨ts, hts, htl⟩, hrl, k⟩ := h
    have hr1 : Room 1 _ := hr.mono (by decide)
    refine ⟨_, (@pss_one _ _ _ (@ps_ret _ _ _ _ (pe_comp2 (xs := ["word", "mask"]) (defScope st_cut_row) N_cut_row ["s"] [1] rfl (by exact ⟨rfl, rfl, by decide +kernel, by decide +kernel, by decide +kernel, by decide +kernel, by decide +kernel, rfl, by decide +kernel⟩) rfl rfl (pi_list (pv 0)) (fun _ _ _ _ => (pg_tupK (K := K) (n := 2) rfl rfl (pgs_cons (pg_name (i := 0) (show (["word", "mask", "s"] : List Str).Nodup by decide +kernel) rfl (Or.inl rfl)) (pgs_cons (pg_name (i := 1) (show (["word", "mask", "s"] : List Str).Nodup by decide +kernel) rfl (Or.inl rfl)) pgs_nil)))) (fun _ _ _ _ => pif_one (pt_val (pe_call GH hr1 rfl T.m_has T.k_has T.b_has .nil pass0 (pa_cons (pv 1) (pa_cons (pv 2) pa_nil))))) (fun _ _ _ _ => (pv 0))))), ?_⟩
    have h1 := htl.1
    refine ⟨_, rfl, l, rfl, ⟨_, SqL.of hts⟩, ?_⟩
    refine comp2_list (K := K) (a := l) (xs := ts.map V.ref) (fun i ys H' => H' = H ∧ i ≤ 1000 ∧ ys = (cutR s (r.take i)).map V.str) ⟨rfl, Nat.zero_le _, rfl⟩ (fun i ys H' _ hsl57 => by obtain ⟨e, _⟩ := hsl57; rw [e]; exact SqL.of hts) ?_ ?_
    · rintro i x ys H1 hx ⟨rfl, _, rfl⟩
      have hi : i < ts.length := by
        have := (List.getElem?_eq_some_iff.mp hx).1
        rw [List.length_map] at this; exact this
      have hir : i < r.length := by omega
      have ex : x = V.ref ts[i] := by rw [List.getElem?_map, List.getElem?_eq_getElem hi] at hx; exact (Option.some.inj hx).symm
      subst ex
      have htu := htl.2 i ts[i] r[i] (List.getElem?_eq_getElem hi) (List.getElem?_eq_getElem hir)
      intro os hos
      obtain ⟨a, b, rfl⟩ : ∃ a b, os = [a, b] := by
        match os, hos with
        | [a, b], _ => exact ⟨a, b, rfl⟩
      refine ⟨ts[i], _, rfl, SqT.of htu, rfl, _, _, rfl, _, _, rfl, rfl, ⟨[_, _], rfl, rfl⟩, ?_⟩
      refine ⟨_, rfl, _, rfl, r[i].2, s, rfl, _, rfl, ?_⟩
      have hl : ((cutR s (r.take i)).map V.str).length < sizeLine := by
        have := List.length_filter_le (fun w : Str × Nat => w.2.testBit s) (r.take i)
        rw [List.length_take] at this
        rw [List.length_map, cutR, List.length_map]
        exact small5k (by omega)
      have et : cutR s (r.take (i + 1)) = if r[i].2.testBit s = true then cutR s (r.take i) ++ [r[i].1] else cutR s (r.take i) := by
        rw [List.take_succ_eq_append_getElem hir]
        unfold cutR
        rw [List.filter_append]
        cases hb : r[i].2.testBit s <;> simp [hb]
      cases hb : r[i].2.testBit s with
      | true =>
        refine iteT ?_
        refine ⟨_, rfl, hl, rfl, by omega, ?_⟩
        rw [et, if_pos hb, List.map_append]
        rfl
      | false =>
        refine iteF ?_
        exact ⟨rfl, by omega, by rw [et, if_neg (by simp [hb])]⟩
    · rintro ys H1 ⟨rfl, _, rfl⟩ p hp
      rw [List.length_map, h1, List.take_length]
      exact k p hp
noncomputable abbrev N_cut_rows : List Str := ["rows", "s"]
theorem sc_cut_rows : FnScope N_cut_rows ["rows", "s"] (defScope st_cut_rows) := ⟨rfl, rfl, rfl, by decide +kernel, rfl, by decide +kernel, by decide +kernel⟩
theorem ok_cutrs (T : All P w K mg AA DD) : FnOk P w K mg base CX0 3 AA.cut_rows DD.cut_rows ["rows", "s"] spCutRs := by
  have GC := ok_cutr (base := base) T
  refine T.F_cut_rows.ok sc_cut_rows (fun vs H Q E h => ?_) (fun cdv A outer s H vs Q E hr h => ?_)
  · obtain ⟨p, ls, rows, s, rfl, _⟩ := h
    rfl
  · obtain ⟨p, ls, rows, s, rfl, hR, h60, hrl, k⟩ := h
    have hr2 : Room 2 _ := hr.mono (by decide)
    refine ⟨_, (@pss_one _ _ _ (@ps_ret _ _ _ _ (pe_comp (defScope st_cut_rows) N_cut_rows ["s"] [1] rfl (by exact ⟨rfl, rfl, by decide +kernel, rfl, by decide +kernel, by decide +kernel, by decide +kernel, rfl, by decide +kernel⟩) rfl rfl (pi_list (pv 0)) (fun _ _ _ _ => pif_nil) (fun _ _ _ _ => (pe_call GC hr2 rfl T.m_cut_row T.k_cut_row T.b_cut_row .nil pass0 (@pa_cons _ _ _ _ _ (pv 0) (@pa_cons _ _ _ _ _ (pv 1) pa_nil (by rfl)) (by rfl))))))), ?_⟩
    have hll := hR.2.1
    refine ⟨_, rfl, p, rfl, ⟨_, SqL.of hR.1⟩, ?_⟩
    refine comp_list (K := K) (a := p) (xs := ls.map V.ref) (fun i ys H' => Same H H' ∧ i ≤ 60 ∧ ∃ qs : List Addr, ys = qs.map V.ref ∧ qs.length = i ∧ (∀ x ∈ qs, H x = none ∧ ∃ o, H' x = some o) ∧ ∀ (j : Nat) (q : Addr) (zs : List Str), qs[j]? = some q → (cutD s rows)[j]? = some zs → H' q = some (.lst (zs.map V.str)))
      ⟨Same.refl _, Nat.zero_le _, [], rfl, rfl, by simp, fun j q zs h => by simp at h⟩ (fun i ys H' _ hsl58 => by obtain ⟨e, _⟩ := hsl58; exact SqL.of (e _ _ hR.1)) ?_ ?_
    · rintro i y ys H1 hy ⟨sm, _, qs, rfl, hql, hqn, hq⟩
      have hi : i < ls.length := by
        have := (List.getElem?_eq_some_iff.mp hy).1
        rw [List.length_map] at this; exact this
      have hir : i < rows.length := by omega
      have ey : y = V.ref ls[i] := by rw [List.getElem?_map, List.getElem?_eq_getElem hi] at hy; exact (Option.some.inj hy).symm
      subst ey
      refine tYes_ok ?_
      rw [if_pos rfl]
      refine ⟨_, rfl, _, rfl, ls[i], rows[i], s, rfl, (hR.2.2 i ls[i] rows[i] (List.getElem?_eq_getElem hi) (List.getElem?_eq_getElem hir)).same sm, hrl _ (List.getElem_mem hir), fun q hqq => ?_⟩
      have s2 := same_upd (o := .lst ((cutR s rows[i]).map V.str)) hqq
      refine ⟨by rw [List.length_map]; exact small1000 (by omega), sm.trans s2, by omega, qs ++ [q], by simp, by simp [hql], fun x hx => ?_, fun j q' zs e1 e2 => ?_⟩
      · rcases List.mem_append.mp hx with h | h
        · obtain ⟨a, o, b⟩ := hqn x h
          exact ⟨a, o, s2 _ _ b⟩
        · have : x = q := by simpa using h
          subst this
          refine ⟨?_, _, upd_same⟩
          cases e : H x with
          | none => rfl
          | some o => rw [sm _ _ e] at hqq; cases hqq
      · by_cases hj : j < qs.length
        · rw [List.getElem?_append_left hj] at e1
          exact s2 _ _ (hq j q' zs e1 e2)
        · obtain ⟨ej, rfl⟩ := last_idx e1 hj
          have : j = i := by omega
          subst this
          rw [cutD, List.getElem?_map, List.getElem?_eq_getElem hir] at e2
          cases e2
          exact upd_same
    · rintro ys H1 ⟨sm, _, qs, rfl, hql, hqn, hq⟩ q hqq
      have s2 := same_upd (o := .lst (qs.map V.ref)) hqq
      refine k q qs _ ?_ (fun x hx => (hqn x hx).1) (fun hx => ?_) (sm.trans s2) ⟨upd_same, by rw [hql, List.length_map, hll]; simp [cutD], fun j q' zs e1 e2 => s2 _ _ (hq j q' zs e1 e2)⟩
      · cases e : H q with
        | none => rfl
        | some o => rw [sm _ _ e] at hqq; cases hqq
      · obtain ⟨_, o, b⟩ := hqn q hx
        rw [hqq] at b; cases b
noncomputable def isSet (x : V) (n : Nat) : Bool := match x with | .int i => decide (0 ≤ i ∧ i < ((2 ^ n : Nat) : Int)) | _ => false
noncomputable def spIsSet : Sp := fun vs H Q _ => ∃ (x : V) (n : Nat), vs = [x, .int n] ∧ n ≤ 10 ∧ flatV x = true ∧ Q (.bl (isSet x n)) H
noncomputable def isWh (x : V) : Bool := match x with | .int _ => true | _ => false
noncomputable def spIsWh2 : Sp := fun vs H Q _ => ∃ x : V, vs = [x] ∧ flatV x = true ∧ Q (.bl (isWh x)) H
theorem ok_iswh2 (T : All P w K mg AA DD) : FnOk P w K mg base CX0 1 AA.is_whole DD.is_whole ["value"] spIsWh2 := by
  refine T.F_is_whole.ok sc_is_whole (fun vs H Q E h => ?_) (fun cdv A outer s H vs Q E hr h => ?_)
  · obtain ⟨x, rfl, _⟩ := h
    rfl
  · obtain ⟨x, rfl, hf, k⟩ := h
    refine ⟨_, (@pss_one _ _ _ (@ps_ret _ _ _ _ (pe_and (pe_callB (call_isinst (n := "int")) rfl T.n_isinstance bt_isi (@pa_cons _ _ _ _ _ (pv 0) (@pa_cons _ _ _ _ _ (pe_bltn (v := .ty "int") rfl T.n_int bt_int rfl) pa_nil (by rfl)) (by rfl))) (pe_one (pe_not (pe_callB (call_isinst (n := "bool")) rfl T.n_isinstance bt_isi (@pa_cons _ _ _ _ _ (pv 0) (@pa_cons _ _ _ _ _ (pe_bltn (v := .ty "bool") rfl T.n_bool bt_bool rfl) pa_nil (by rfl)) (by rfl)))))))), ?_⟩
    cases x with
    | int i =>
      refine ⟨_, rfl, _, _, true, rfl, .int _, kit_int_int _, _, rfl, ?_⟩
      rw [if_pos rfl]
      exact ⟨_, rfl, _, _, false, rfl, .int _, kit_int_bool _, _, rfl, k⟩
    | bl b =>
      refine ⟨_, rfl, _, _, true, rfl, .bl _, (by rfl), _, rfl, ?_⟩
      rw [if_pos rfl]
      exact ⟨_, rfl, _, _, true, rfl, .bl _, kit_bool_bool _, _, rfl, k⟩
    | non =>
      refine ⟨_, rfl, _, _, false, rfl, .non, (by rfl), _, rfl, ?_⟩
      rw [if_neg Bool.false_ne_true]
      exact k
    | str z =>
      refine ⟨_, rfl, _, _, false, rfl, .str _, (by rfl), _, rfl, ?_⟩
      rw [if_neg Bool.false_ne_true]
      exact k
    | _ => exact absurd (show false = true from hf) Bool.false_ne_true
noncomputable abbrev N_is_setting : List Str := ["s", "n"]
theorem sc_is_setting : FnScope N_is_setting ["s", "n"] (defScope st_is_setting) := ⟨rfl, rfl, rfl, by decide +kernel, rfl, by decide +kernel, by decide +kernel⟩
theorem ok_isset (T : All P w K mg AA DD) : FnOk P w K mg base CX0 2 AA.is_setting DD.is_setting ["s", "n"] spIsSet := by
  have GH0 := ok_iswh2 (base := base) T
  refine T.F_is_setting.ok sc_is_setting (fun vs H Q E h => ?_) (fun cdv A outer s H vs Q E hr h => ?_)
  · obtain ⟨x, n, rfl, _⟩ := h
    rfl
  · obtain ⟨x, n, rfl, hn, hf, k⟩ := h
    have hr1 : Room 1 _ := hr
    refine ⟨_, (@pss_one _ _ _ (@ps_ret _ _ _ _ (pe_and (pe_call GH0 hr1 rfl T.m_is_whole T.k_is_whole T.b_is_whole .nil pass0 (@pa_cons _ _ _ _ _ (pv 0) pa_nil (by rfl))) (pe_and (@pe_cmpR _ _ _ _ _ _ _ _ op_ge (pv 0) pe_int (nomark _)) (pe_one (@pe_cmpR _ _ _ _ _ _ _ _ op_lt (pv 0) (@pe_op _ _ _ _ _ _ _ _ op_shlB pe_int (pv 1)) (nomark _))))))), ?_⟩
    refine ⟨_, rfl, x, rfl, hf, _, rfl, ?_⟩
    cases x with
    | int i =>
      refine iteT ?_
      refine ⟨_, rfl, _, _, rfl, rfl, _, rfl, ?_⟩
      by_cases h0 : 0 ≤ i
      · rw [decide_eq_true h0]
        refine iteT ?_
        refine ⟨_, rfl, _, rfl, _, _, rfl, rfl, one_shl (by omega), _, _, rfl, rfl, ?_⟩
        have e : isSet (.int i) n = decide (i < (1 : Int) * 2 ^ ((n : Int)).toNat) := by
          rw [shl_n]
          show decide (0 ≤ i ∧ i < ((2 ^ n : Nat) : Int)) = _
          exact decide_eq_decide.mpr ⟨fun h => h.2, fun h => ⟨h0, h⟩⟩
        rw [e] at k
        exact k
      · rw [decide_eq_false h0]
        refine iteF ?_
        have e : isSet (.int i) n = false := decide_eq_false fun h => h0 h.1
        rw [e] at k
        exact k
    | bl b => exact iteF k
    | non => exact iteF k
    | str z => exact iteF k
    | _ => exact absurd (show false = true from hf) Bool.false_ne_true
/-- a text cut -/
noncomputable def cutT (s n : Nat) (rws : List (List Ev)) : Str := Str.join ⟨#[10]⟩ ((cutD s (rowsD n rws)).map (Str.join ⟨#[32]⟩))
noncomputable def spCutT : Sp := fun vs H Q _ => ∃ (rws : List (List Ev)) (n s : Nat), vs = [.str (textT rws), .int n, .int s] ∧ n ≤ 10 ∧ s < 2 ^ n ∧ Grs n rws ∧ ∀ H', Same H H' → Q (.str (cutT s n rws)) H'
/- -/ def spCutTX (C : Addr) : Sp := fun vs H _ E => ∃ (rws : List (List Ev)) (n : Nat) (x : V), vs = [.str (textT rws), .int n, x] ∧ n ≤ 10 ∧ Grs n rws ∧ flatV x = true ∧ isSet x n = false ∧ ∀ H', Same H H' → E (.ref C) none H'
theorem rn_len {n : Nat} {evs : List Ev} (g : Gev n evs) : ∀ i, i ≤ evs.length → ∀ f ∈ (rn (evs.take i)).1, f.1.length ≤ 5
  | 0, _ => fun f h => by simp [rn] at h
  | i + 1, hi => by
    have h2 := rn_len g i (by omega)
    have he : evs[i]? = some evs[i] := List.getElem?_eq_getElem (by omega)
    have ho := g i _ he
    rw [rn_take he]
    generalize evs[i] = e at ho he
    cases e with
    | op v => exact h2
    | cl => exact h2
    | pl z =>
      intro f hf
      rcases List.mem_append.mp hf with h | h
      · exact h2 f h
      · have : f = (z, (rn (evs.take i)).2) := by simpa using h
        rw [this]; exact ho.2
theorem rn_len5 {n : Nat} {evs : List Ev} (g : Gev n evs) : ∀ f ∈ (rn evs).1, f.1.length ≤ 5 := by
  have := rn_len g evs.length (Nat.le_refl _)
  rw [List.take_length] at this
  exact this
theorem cut_words {n s : Nat} {rws : List (List Ev)} (g : Grs n rws) : ∀ zs ∈ cutD s (rowsD n rws), zs.length ≤ 100 ∧ ∀ z ∈ zs, z.length ≤ 5 ∧ Pl z := fun zs hz => by
  obtain ⟨r, hr, rfl⟩ := List.mem_map.mp hz
  obtain ⟨evs, he, rfl⟩ := List.mem_map.mp hr
  obtain ⟨g1, g2, g3⟩ := g.2.2 evs he
  refine ⟨?_, fun z hz => ?_⟩
  · have h1 := List.length_filter_le (fun w : Str × Nat => w.2.testBit s) (rowD n (rn evs).1)
    have h2 := evs_fs evs
    have h3 : (rowD n (rn evs).1).length = (rn evs).1.length := by simp [rowD]
    rw [cutR, List.length_map]
    omega
  · obtain ⟨w, hw, rfl⟩ := List.mem_map.mp hz
    have hw := (List.mem_filter.mp hw).1
    obtain ⟨f, hf, rfl⟩ := List.mem_map.mp hw
    exact ⟨rn_len5 g1 f hf, ((rn_all g1).2 f hf).2⟩
theorem join_le {c b : Nat} {zs : List Str} (h : ∀ z ∈ zs, z.length ≤ b) : (Str.join ⟨#[c]⟩ zs).length ≤ zs.length * b + zs.length := by
  rw [str_len, join_list]
  refine Nat.le_trans (jl_len _) ?_
  have := sum_le (l := (zs.map fun z => z.cps.toList).map List.length) (b := b) (fun x hx => by
    obtain ⟨l, hl, rfl⟩ := List.mem_map.mp hx
    obtain ⟨z, hz, rfl⟩ := List.mem_map.mp hl
    have := h z hz
    rw [str_len] at this
    exact this)
  simp only [List.length_map] at this ⊢
  omega
theorem rows_le {n : Nat} {rws : List (List Ev)} (g : Grs n rws) : (rowsD n rws).length ≤ 60 ∧ ∀ r ∈ rowsD n rws, r.length ≤ 1000 := ⟨by simp [rowsD]; exact g.2.1, fun r hr => by
  obtain ⟨evs, he, rfl⟩ := List.mem_map.mp hr
  have h2 := evs_fs evs
  have h3 := (g.2.2 evs he).2.2
  simp [rowD]; omega⟩
/-- ' '.join of each, then '\n'.join -/
theorem weigh {zs : List Str} {b k : Nat} (h : ∀ z ∈ zs, z.length ≤ b) (hk : zs.length ≤ k) (hb : k * b + k ≤ 1048576) : (zs.map (·.length)).sum + zs.length ≤ 1048576 := by
  have := sum_le (l := zs.map (·.length)) (b := b) (fun x hx => by
    obtain ⟨z, hz, rfl⟩ := List.mem_map.mp hx
    exact h z hz)
  rw [List.length_map] at this
  have h2 : zs.length * b ≤ k * b := Nat.mul_le_mul_right _ hk
  omega
noncomputable abbrev N_cut_text : List Str := ["text", "n", "s", "rows"]
theorem sc_cut_text : FnScope N_cut_text ["text", "n", "s"] (defScope st_cut_text) := ⟨rfl, rfl, rfl, by decide +kernel, rfl, by decide +kernel, by decide +kernel⟩
theorem ok_cutt (T : All P w K mg AA DD) : FnOk P w K mg base CX0 8 AA.cut_text DD.cut_text ["text", "n", "s"] spCutT := by
  have GY := ok_readr (base := base) T
  have GI := ok_isset (base := base) T
  have GC := ok_cutrs (base := base) T
  refine T.F_cut_text.ok sc_cut_text (fun vs H Q E h => ?_) (fun cdv A outer s H vs Q E hr h => ?_)
  · obtain ⟨rws, n, s, rfl, _⟩ := h
    rfl
  · obtain ⟨rws, n, s, rfl, hn, hs, g, k⟩ := h
    have nd := sc_cut_text.nd
    have hr2 : Room 2 _ := hr.mono (by decide)
    have hr3 : Room 3 _ := hr.mono (by decide)
    have hr7 : Room 7 _ := hr.mono (by decide)
    refine ⟨_, (@pss_cons _ _ _ _ _ (@ps_set _ _ 3 _ _ _ _ nd rfl (Or.inl rfl) (pe_call GY hr7 rfl T.m_read_rows T.k_read_rows T.b_read_rows .nil pass0 (@pa_cons _ _ _ _ _ (pv 0) (@pa_cons _ _ _ _ _ (pv 1) pa_nil (by rfl)) (by rfl))) (by rfl) (by first | exact .inl rfl | exact .inr rfl | assumption)) (@pss_cons _ _ _ _ _ (@ps_if _ _ _ _ _ _ _ _ (pt_not (pt_val (pe_call GI hr2 rfl T.m_is_setting T.k_is_setting T.b_is_setting .nil pass0 (@pa_cons _ _ _ _ _ (pv 2) (@pa_cons _ _ _ _ _ (pv 1) pa_nil (by rfl)) (by rfl))))) pss_never pss_nil) (@pss_one _ _ _ (@ps_ret _ _ _ _ (pe_bmK (K := K) rfl PySem.F.plainAttrs_str PySem.F.slot_str_join PySem.F.type_str_join (mt_join (K := K) rfl) pe_str (@pa_cons _ _ _ _ _ (pe_comp (defScope st_cut_text) N_cut_text [] [] rfl (by exact ⟨rfl, rfl, by decide +kernel, rfl, by decide +kernel, by decide +kernel, by decide +kernel, rfl, by decide +kernel⟩) rfl rfl (pi_list (pe_call GC hr3 rfl T.m_cut_rows T.k_cut_rows T.b_cut_rows .nil pass0 (@pa_cons _ _ _ _ _ (pv 3) (@pa_cons _ _ _ _ _ (pv 2) pa_nil (by rfl)) (by rfl)))) (fun _ _ _ _ => pif_nil) (fun _ _ _ _ => (pe_bmK (K := K) rfl PySem.F.plainAttrs_str PySem.F.slot_str_join PySem.F.type_str_join (mt_join (K := K) rfl) pe_str (@pa_cons _ _ _ _ _ (pv 0) pa_nil (by rfl))))) pa_nil (by rfl))))))), ?_⟩
    refine ⟨_, rfl, _, rfl, rws, n, rfl, hn, g, fun p ls H1 hp s1 hR => ?_⟩
    refine ⟨_, rfl, _, rfl, .int (s : Nat), n, rfl, hn, rfl, _, rfl, ?_⟩
    have e1 : isSet (.int ((s : Nat) : Int)) n = true := decide_eq_true ⟨by omega, by omega⟩
    rw [e1]
    refine iteF ?_
    obtain ⟨r60, r1000⟩ := rows_le g
    refine ⟨rfl, _, rfl, _, rfl, p, ls, _, s, rfl, hR, r60, r1000, fun q qs H2 hq hqs hnq s2 hL => ?_⟩
    have hw := cut_words (s := s) g
    have c60 : (cutD s (rowsD n rws)).length ≤ 60 := by simp [cutD]; exact r60
    refine ⟨q, rfl, ⟨_, SqL.of hL.lst⟩, ?_⟩
    refine comp_list (K := K) (a := q) (xs := qs.map V.ref) (fun i ys H' => H' = H2 ∧ i ≤ 60 ∧ ys = (((cutD s (rowsD n rws)).take i).map (Str.join ⟨#[32]⟩)).map V.str) ⟨rfl, Nat.zero_le _, rfl⟩ (fun i ys H' _ hsl59 => by obtain ⟨e, _⟩ := hsl59; rw [e]; exact SqL.of hL.lst) ?_ ?_
    · rintro i y ys H3 hy ⟨rfl, _, rfl⟩
      have hi : i < qs.length := by
        have := (List.getElem?_eq_some_iff.mp hy).1
        rw [List.length_map] at this; exact this
      have hic : i < (cutD s (rowsD n rws)).length := by rw [← hL.len]; exact hi
      have ey : y = V.ref qs[i] := by rw [List.getElem?_map, List.getElem?_eq_getElem hi] at hy; exact (Option.some.inj hy).symm
      subst ey
      have hat := hL.at_ i qs[i] _ (List.getElem?_eq_getElem hi) (List.getElem?_eq_getElem hic)
      obtain ⟨w1, w2⟩ := hw _ (List.getElem_mem hic)
      refine tYes_ok ?_
      rw [if_pos rfl]
      refine ⟨rfl, _, rfl, _, qs[i], (cutD s (rowsD n rws))[i], rfl, rfl, SqL.of hat, (by rw [e_sp]; decide), weigh (fun z hz => (w2 z hz).1) w1 (by decide), by simp; exact small1000 (by omega), rfl, by omega, ?_⟩
      rw [e_sp, List.take_succ_eq_append_getElem hic]
      simp only [List.map_append, List.map_cons, List.map_nil]
    rintro ys H3 ⟨rfl, _, rfl⟩ pj hpj
    have etk : (cutD s (rowsD n rws)).take (qs.map V.ref).length = cutD s (rowsD n rws) := by rw [List.length_map, hL.len, List.take_length]
    rw [etk]
    refine ⟨_, pj, _, rfl, rfl, SqL.of upd_same, (by rw [e_nl]; decide), weigh (b := 600) (k := 60) (fun z hz => ?_) (by rw [List.length_map]; exact c60) (by decide), ?_⟩
    · obtain ⟨zs, hzs, rfl⟩ := List.mem_map.mp hz
      obtain ⟨w1, w2⟩ := hw zs hzs
      have := join_le (c := 32) (b := 5) (fun z hz => (w2 z hz).1)
      omega
    rw [e_nl]
    exact k _ ((s1.trans s2).trans (same_upd hpj))
end
section
variable {P : Program} {w : World} {K : PySem.W.Frag} {mg : Str → Option Value} {base : Heap} {AA : Adr} {DD : Fds}
theorem full_and {n m : Nat} (hm : m < 2 ^ 2 ^ n) : fulln n &&& m = m := by
  unfold fulln
  rw [Nat.and_comm, Nat.and_two_pow_sub_one_of_lt_two_pow hm]
theorem td_words {n m : Nat} {evs : List Ev} : (rn (tdE n m evs)).1.length ≤ (rn evs).1.length := by
  have h2 := cmt_sum m (rowD n (rn evs).1)
  have h3 : (rowD n (rn evs).1).length = (rn evs).1.length := by simp [rowD]
  unfold tdE
  rw [rn_tidy]
  have e : ((cmt m (rowD n (rn evs).1)).map fun c => c.2.map fun z => (z, arC n m c)).flatten.length = sumW (cmt m (rowD n (rn evs).1)) := by
    rw [List.length_flatten, List.map_map]
    unfold sumW
    congr 1
    refine List.map_congr_left fun c _ => ?_
    simp
  show (List.flatten _).length ≤ _
  rw [e]
  omega
theorem td_rows {n m : Nat} (hn : n ≤ 5) {rws : List (List Ev)} (g : Grs n rws) (h : ∀ evs ∈ rws, (rn evs).1.length ≤ 33) : Grs n (rws.map (tdE n m)) ∧ ∀ evs ∈ rws.map (tdE n m), (rn evs).1.length ≤ 33 := by
  refine ⟨⟨by simpa using g.1, by rw [List.length_map]; exact g.2.1, fun e he => ?_⟩, fun e he => ?_⟩
  · obtain ⟨evs, hv, rfl⟩ := List.mem_map.mp he
    have hg := g.2.2 evs hv
    refine ⟨gev_tidy hn (cmt_ci (row_words hg.1)), by unfold tdE; rw [rn_tidy], ?_⟩
    have := tdE_len (m := m) hg.1 (h evs hv)
    omega
  · obtain ⟨evs, hv, rfl⟩ := List.mem_map.mp he
    exact Nat.le_trans td_words (h evs hv)
/-! texts that are cut otherwise somewhere -/
theorem eqv_strs2 : ∀ a b : List Str, PyData.eqvAll (a.map PyData.str) (b.map PyData.str) = decide (a = b)
  | [], [] => by simp [PyData.eqvAll]
  | [], _ :: _ => by simp [PyData.eqvAll]
  | _ :: _, [] => by simp [PyData.eqvAll]
  | x :: xs, y :: ys => by
    simp only [List.map_cons, PyData.eqvAll, eqv_strs2 xs ys, PyData.eqv, List.cons.injEq]
    by_cases h : x = y <;> simp [h]
theorem eqv_ll2 : ∀ a b : List (List Str), PyData.eqvAll (a.map fun zs => .list (zs.map PyData.str)) (b.map fun zs => .list (zs.map PyData.str)) = decide (a = b)
  | [], [] => by simp [PyData.eqvAll]
  | [], _ :: _ => by simp [PyData.eqvAll]
  | _ :: _, [] => by simp [PyData.eqvAll]
  | x :: xs, y :: ys => by
    simp only [List.map_cons, PyData.eqvAll, eqv_ll2 xs ys, PyData.eqv, eqv_strs2, List.cons.injEq]
    by_cases h : x = y <;> simp [h]
theorem eqv_ll (a b : List (List Str)) : PyData.eqv (llPD a) (llPD b) = decide (a = b) := by
  unfold llPD
  simp only [PyData.eqv]
  exact eqv_ll2 a b
noncomputable def cutC (s : Nat) (cs : Cs) : List Str := (cs.map fun c => if c.1.testBit s then c.2 else []).flatten
theorem cutC_snoc (s : Nat) (cs : Cs) (c : Nat × List Str) : cutC s (cs ++ [c]) = cutC s cs ++ (if c.1.testBit s then c.2 else []) := by simp [cutC]
theorem cutR_app (s : Nat) (r q : List (Str × Nat)) : cutR s (r ++ q) = cutR s r ++ cutR s q := by
  unfold cutR
  rw [List.filter_append, List.map_append]
theorem cutR_one (s : Nat) (w : Str × Nat) : cutR s [w] = if w.2.testBit s then [w.1] else [] := by
  unfold cutR
  by_cases h : w.2.testBit s <;> simp [h]
theorem cutC_cmt {s m : Nat} (hs : m.testBit s = true) (r : List (Str × Nat)) : cutC s (cmt m r) = cutR s r := by
  have g : ∀ k, k ≤ r.length → cutC s (cmt m (r.take k)) = cutR s (r.take k) := by
    intro k
    induction k with
    | zero => intro _; rfl
    | succ k ih =>
      intro hk
      have hk' : k < r.length := hk
      rw [List.take_succ_eq_append_getElem hk', cmt_snoc, cutR_app, cutR_one, ← ih (by omega)]
      generalize r[k] = w
      generalize cmt m (r.take k) = cs
      have hb : (w.2 &&& m).testBit s = w.2.testBit s := by rw [Nat.testBit_and, hs, Bool.and_true]
      rw [← hb]
      rcases snoc_cases cs with q | ⟨a, c, q⟩
      · subst q
        rw [cmtS_nil]
        split
        · rename_i h0
          rw [h0]; simp [cutC]
        · simp [cutC]
      · subst q
        rw [cmtS_snoc]
        split
        · rename_i he
          rw [cutC_snoc, cutC_snoc, ← he]
          by_cases hc : c.1.testBit s <;> simp [hc]
        · split
          · rename_i h0
            rw [h0]; simp
          · rw [cutC_snoc]
  have := g r.length (Nat.le_refl _)
  rwa [List.take_length] at this
theorem cutR_flat {s : Nat} (M : Nat × List Str → Nat) : ∀ cs : Cs, (∀ c ∈ cs, (M c).testBit s = c.1.testBit s) → cutR s ((cs.map fun c => c.2.map fun z => (z, M c)).flatten) = cutC s cs
  | [], _ => rfl
  | c :: r, hM => by
    have h1 := hM c (by simp)
    rw [List.map_cons, List.flatten_cons, cutR_app, cutR_flat M r fun d hd => hM d (List.mem_cons_of_mem _ hd)]
    have e : cutC s (c :: r) = (if c.1.testBit s then c.2 else []) ++ cutC s r := by simp [cutC]
    rw [e]
    congr 1
    unfold cutR
    by_cases hc : c.1.testBit s = true
    · rw [if_pos hc, List.filter_eq_self.mpr (fun w hw => by
        obtain ⟨z, _, rfl⟩ := List.mem_map.mp hw
        show (M c).testBit s = true
        rw [h1, hc]), List.map_map]
      simp [Function.comp_def]
    · rw [if_neg hc, List.filter_eq_nil_iff.mpr (fun w hw => by
        obtain ⟨z, _, rfl⟩ := List.mem_map.mp hw
        show ¬ (M c).testBit s = true
        rw [h1]; exact hc)]
      rfl
theorem td_flat (n m : Nat) (evs : List Ev) : rowD n (rn (tdE n m evs)).1 = ((cmt m (rowD n (rn evs).1)).map fun c => c.2.map fun z => (z, mka n (arC n m c))).flatten := by
  unfold tdE
  rw [rn_tidy]
  unfold rowD
  rw [List.map_flatten, List.map_map]
  congr 1
  refine List.map_congr_left fun c _ => ?_
  simp
theorem td_and {n m : Nat} (hm : m < 2 ^ 2 ^ n) {c : Nat × List Str} (h : c.1 &&& m = c.1) : mka n (arC n m c) &&& m = c.1 := by
  by_cases hq : c.1 = m
  · rw [show arC n m c = [] from if_pos hq]
    show fulln n &&& m = c.1
    rw [full_and hm, hq]
  · rw [show arC n m c = [sh n n c.1] from if_neg hq]
    have hlt : c.1 < 2 ^ 2 ^ n := Nat.lt_of_le_of_lt (by rw [← h]; exact Nat.and_le_right) hm
    have hval : (sh n n c.1).val (swl n) (fulln n) = c.1 := sh_val (fun k hk s hs => by rw [swl_at hk, sw_bit]; simp [hs]) swl_lt (Nat.le_refl _) hlt (by rw [Nat.sub_self]; exact Ind.zero _ _)
    show (fulln n &&& (sh n n c.1).val (swl n) (fulln n)) &&& m = c.1
    rw [hval, full_and hlt, h]
theorem cut_td {n m s : Nat} (hm : m < 2 ^ 2 ^ n) (hs : m.testBit s = true) {evs : List Ev} (g : Gev n evs) : cutR s (rowD n (rn (tdE n m evs)).1) = cutR s (rowD n (rn evs).1) := by
  have ci := cmt_ci (m := m) (P := PW5) (row_words g)
  rw [td_flat, cutR_flat _ _ fun c hc => ?_, cutC_cmt hs]
  have h := td_and hm (ci.ne c hc).2.1
  rw [← h, Nat.testBit_and, hs, Bool.and_true]
/-- where two texts are cut otherwise -/
noncomputable def Dif (n : Nat) (r1 r2 : List (List Ev)) (s : Nat) : Prop := cutD s (rowsD n r1) ≠ cutD s (rowsD n r2)
theorem sets_before {m N i s t : Nat} (h : (setsOf m N)[i]? = some s) (ht : t < s) (hb : m.testBit t = true) : t ∈ (setsOf m N).take i := by
  have hp : (setsOf m N).Pairwise (· < ·) := List.Pairwise.sublist List.filter_sublist List.pairwise_lt_range
  have hi := (List.getElem?_eq_some_iff.mp h).1
  have hs : s ∈ setsOf m N := List.mem_of_getElem? h
  have hsN := sets_lt hs
  have htm : t ∈ setsOf m N := List.mem_filter.mpr ⟨List.mem_range.mpr (by omega), hb⟩
  have e : setsOf m N = (setsOf m N).take i ++ s :: (setsOf m N).drop (i + 1) := by
    have := (List.getElem?_eq_some_iff.mp h).2
    rw [← this, List.getElem_cons_drop, List.take_append_drop]
  rw [e] at htm hp
  rcases List.mem_append.mp htm with q | q
  · exact q
  · exfalso
    have hp2 := (List.pairwise_append.mp hp).2.1
    rcases List.mem_cons.mp q with z | z
    · omega
    · have := (List.pairwise_cons.mp hp2).1 t z
      omega
noncomputable def spParted : Sp := fun vs H Q _ => ∃ (r1 r2 : List (List Ev)) (n m : Nat), vs = [.str (textT r1), .str (textT r2), .int ((n : Nat) : Int), .int ((m : Nat) : Int)] ∧ n ≤ 5 ∧ m < 2 ^ 2 ^ n ∧ Grs n r1 ∧ Grs n r2 ∧
  (∀ H' s, Same H H' → s < 2 ^ n → m.testBit s = true → Dif n r1 r2 s → (∀ t, t < s → m.testBit t = true → ¬ Dif n r1 r2 t) → Q (.int ((s : Nat) : Int)) H') ∧
  (∀ H', Same H H' → (∀ s, s < 2 ^ n → m.testBit s = true → ¬ Dif n r1 r2 s) → Q .non H')
theorem cut_shape {n s : Nat} {rws : List (List Ev)} (g : Grs n rws) : Shd 2 (llPD (cutD s (rowsD n rws))) := shd_ll fun zs hz z hz2 c hc => by
  have := ((cut_words g zs hz).2 z hz2).2.sg c hc
  omega
noncomputable abbrev N_parted : List Str := ["one", "other", "n", "rule", "left", "right", "s"]
theorem sc_parted : FnScope N_parted ["one", "other", "n", "rule"] (defScope st_parted) := ⟨rfl, rfl, rfl, by decide +kernel, rfl, by decide +kernel, by decide +kernel⟩
theorem ok_parted (T : All P w K mg AA DD) : FnOk P w K mg base CX0 8 AA.parted DD.parted ["one", "other", "n", "rule"] spParted := by
  have GA := ok_ask (base := base) T
  have GY := ok_readr (base := base) T
  have GT := ok_settings (base := base) T
  have GC := ok_cutrs (base := base) T
  refine T.F_parted.ok sc_parted (fun vs H Q E h => ?_) (fun cdv A outer s H vs Q E hr h => ?_)
  · obtain ⟨r1, r2, n, m, rfl, _⟩ := h
    rfl
  · obtain ⟨r1, r2, n, m, rfl, hn, hm, g1, g2, k1, k2⟩ := h
    have nd := sc_parted.nd
    have hu := hr.units
    have hr2 : Room 2 _ := hr.mono (by decide)
    have hr3 : Room 3 _ := hr.mono (by decide)
    have hr7 : Room 7 _ := hr
    refine ⟨_, (@pss_cons _ _ _ _ _ (@ps_expr _ _ _ _ (pe_call GA hr3 rfl T.m_ask_rule T.k_ask_rule T.b_ask_rule .nil pass0 (@pa_cons _ _ _ _ _ (pv 3) (@pa_cons _ _ _ _ _ (pv 2) pa_nil (by rfl)) (by rfl))) (by rfl)) (@pss_cons _ _ _ _ _ (@ps_set _ _ 4 _ _ _ _ nd rfl (Or.inl rfl) (pe_call GY hr7 rfl T.m_read_rows T.k_read_rows T.b_read_rows .nil pass0 (@pa_cons _ _ _ _ _ (pv 0) (@pa_cons _ _ _ _ _ (pv 2) pa_nil (by rfl)) (by rfl))) (by rfl) (by first | exact .inl rfl | exact .inr rfl | assumption)) (@pss_cons _ _ _ _ _ (@ps_set _ _ 5 _ _ _ _ nd rfl (Or.inl rfl) (pe_call GY hr7 rfl T.m_read_rows T.k_read_rows T.b_read_rows .nil pass0 (@pa_cons _ _ _ _ _ (pv 1) (@pa_cons _ _ _ _ _ (pv 2) pa_nil (by rfl)) (by rfl))) (by rfl) (by first | exact .inl rfl | exact .inr rfl | assumption)) (@pss_cons _ _ _ _ _ (@ps_for _ _ _ _ _ _ _ _ PassesOwn.never rfl (pi_list (pe_call GT hr2 rfl T.m_settings T.k_settings T.b_settings .nil pass0 (@pa_cons _ _ _ _ _ (pv 3) pa_nil (by rfl)))) (pg_name (i := 6) nd rfl (Or.inl rfl)) (@pss_one _ _ _ (@ps_if _ _ _ _ _ _ _ _ (@pt_cmpR _ _ _ _ _ _ _ _ (op_neD (K := K) rfl hu) (pe_call GC hr3 rfl T.m_cut_rows T.k_cut_rows T.b_cut_rows .nil pass0 (@pa_cons _ _ _ _ _ (pv 4) (@pa_cons _ _ _ _ _ (pv 6) pa_nil (by rfl)) (by rfl))) (pe_call GC hr3 rfl T.m_cut_rows T.k_cut_rows T.b_cut_rows .nil pass0 (@pa_cons _ _ _ _ _ (pv 5) (@pa_cons _ _ _ _ _ (pv 6) pa_nil (by rfl)) (by rfl))) (nomark _)) (@pss_one _ _ _ (@ps_ret _ _ _ _ (pv 6))) pss_nil)) (by intro _; rfl)) (@pss_one _ _ _ (@ps_ret _ _ _ _ pe_non)))))), ?_⟩
    refine ⟨_, rfl, _, rfl, m, n, rfl, by omega, hm, ?_⟩
    refine ⟨_, rfl, _, rfl, r1, n, rfl, by omega, g1, fun p1 l1 H1 hp1 s1 hR1 => ?_⟩
    try dsimp only [gName]
    refine ⟨_, rfl, _, rfl, r2, n, rfl, by omega, g2, fun p2 l2 H2 hp2 s2 hR2 => ?_⟩
    try dsimp only [gName]
    have hR1 := hR1.same s2
    have sA := s1.trans s2
    have h2n : 2 ^ n ≤ 32 := Nat.pow_le_pow_right (by decide) hn
    have hmB : m < 2 ^ 1024 := Nat.lt_of_lt_of_le hm (Nat.pow_le_pow_right (by decide) (by omega))
    have hsb := sets_bl hm
    refine cut_for (fun σ' H' => Same H H' ∧ ∀ t, t < 2 ^ n → m.testBit t = true → ¬ Dif n r1 r2 t) (fun R hR => ?_) ?_
    · refine ⟨_, rfl, m, rfl, hmB, fun ps hps => ?_⟩
      have s3 := same_upd (o := .lst ((asInts (setsOf m (bl m))).map V.int)) hps
      have hPs : upd H2 ps (.lst ((asInts (setsOf m (bl m))).map V.int)) ps = some (.lst ((asInts (setsOf m (bl m))).map V.int)) := upd_same
      rw [hsb] at s3 hPs ⊢
      have hR1 := hR1.same s3
      have hR2 := hR2.same s3
      have sA := sA.trans s3
      generalize upd H2 ps _ = H3 at hPs hR1 hR2 sA ⊢
      refine ⟨ps, rfl, ⟨_, SqL.of hPs⟩, ?_⟩
      refine for_list (K := K) (a := ps) (xs := (asInts (setsOf m (2 ^ n))).map V.int) (fun i σ' H' => Same H3 H' ∧ (∀ t ∈ (setsOf m (2 ^ n)).take i, ¬ Dif n r1 r2 t) ∧ ∃ x6 : Option V, σ' = [some (.str (textT r1)), some (.str (textT r2)), some (.int ((n : Nat) : Int)), some (.int ((m : Nat) : Int)), some (.ref p1), some (.ref p2), x6]) ⟨Same.refl _, by simp, none, rfl⟩ (fun i σ' H' _ z => SqL.of (z.1 _ _ hPs)) ?_ ?_
      · rintro i x σ' H4 hx ⟨sm, hno, x6, rfl⟩
        rw [List.getElem?_map, asInts, List.getElem?_map] at hx
        obtain ⟨y, hy, rfl⟩ := Option.map_eq_some_iff.mp hx
        obtain ⟨t, ht, rfl⟩ := Option.map_eq_some_iff.mp hy
        have htm := List.mem_of_getElem? ht
        have htn := sets_lt htm
        have htb : m.testBit t = true := (List.mem_filter.mp htm).2
        have o1 := rows_le g1
        have o2 := rows_le g2
        refine ⟨_, rfl, _, rfl, p1, l1, _, t, rfl, hR1.same sm, o1.1, o1.2, fun q1 qs1 H5 _ _ _ s5 hL1 => ?_⟩
        refine ⟨_, rfl, _, rfl, p2, l2, _, t, rfl, (hR2.same sm).same s5, o2.1, o2.2, fun q2 qs2 H6 _ _ _ s6 hL2 => ?_⟩
        refine ⟨_, _, (hL1.same s6).rdv, hL2.rdv, (cut_shape g1).ok (by decide), (cut_shape g2).ok (by decide), _, rfl, ?_⟩
        rw [eqv_ll]
        by_cases hd : cutD t (rowsD n r1) = cutD t (rowsD n r2)
        · rw [decide_eq_true hd]
          refine iteF ?_
          refine ⟨(sm.trans s5).trans s6, fun t' ht' => ?_, _, rfl⟩
          have hi := (List.getElem?_eq_some_iff.mp ht).1
          rw [List.take_succ, ht] at ht'
          rcases List.mem_append.mp ht' with z | z
          · exact hno t' z
          · have : t' = t := by simpa using z
            subst this
            exact fun h => h hd
        · rw [decide_eq_false hd]
          refine iteT ?_
          exact ⟨_, rfl, k1 _ t (((sA.trans sm).trans s5).trans s6) htn htb hd fun t' h1 h2 => hno t' (sets_before ht h1 h2)⟩
      · rintro σ' H4 ⟨sm, hno, x6, rfl⟩
        rw [List.length_map, asInts, List.length_map, List.take_length] at hno
        exact hR _ _ ⟨sA.trans sm, fun t h1 h2 => hno t (List.mem_filter.mpr ⟨List.mem_range.mpr h1, h2⟩)⟩
    · rintro σ' H' ⟨sm, hno⟩
      exact k2 _ sm hno
end
section
variable {P : Program} {w : World} {K : PySem.W.Frag} {mg : Str → Option Value} {base : Heap} {AA : Adr} {DD : Fds}
theorem TupL.cat {H : Hp} {ts us : List Addr} {r q : List (Str × Nat)} (h1 : TupL H ts r) (h2 : TupL H us q) : TupL H (ts ++ us) (r ++ q) := by
  refine ⟨by simp [h1.1, h2.1], fun i t w a b => ?_⟩
  have hl := h1.1
  by_cases hi : i < ts.length
  · rw [List.getElem?_append_left hi] at a
    rw [List.getElem?_append_left (by omega)] at b
    exact h1.2 i t w a b
  · rw [List.getElem?_append_right (by omega)] at a
    rw [List.getElem?_append_right (by omega), ← hl] at b
    exact h2.2 _ t w a b
theorem TupL.takeL {H : Hp} {ts : List Addr} {r : List (Str × Nat)} (n : Nat) (h : TupL H ts r) : TupL H (ts.take n) (r.take n) := by
  refine ⟨by simp [h.1], fun i t w a b => ?_⟩
  rw [List.getElem?_take] at a b
  split at a
  · rename_i hi
    rw [if_pos hi] at b
    exact h.2 i t w a b
  · cases a
theorem TupL.rev {H : Hp} {ts : List Addr} {r : List (Str × Nat)} (h : TupL H ts r) : TupL H ts.reverse r.reverse := by
  have hl := h.1
  refine ⟨by simp [h.1], fun i t w a b => ?_⟩
  have hi : i < ts.length := by
    have := (List.getElem?_eq_some_iff.mp a).1
    rw [List.length_reverse] at this; exact this
  rw [List.getElem?_reverse hi] at a
  rw [List.getElem?_reverse (by omega), ← hl] at b
  exact h.2 _ t w a b
/-! joining -/
theorem rep_flat (k : Nat) : (List.replicate k [V.int 0]).flatten = (List.replicate k (0 : Int)).map V.int := by
  induction k with
  | zero => rfl
  | succ k ih => rw [List.replicate_succ, List.flatten_cons, ih, List.replicate_succ]; rfl
/-- a table of numbers -/
noncomputable def TabAt (H : Hp) (p : Addr) (tab : List (List Int)) : Prop := ∃ ls : List Addr, H p = some (.lst (ls.map V.ref)) ∧ ls.length = tab.length ∧ ∀ (i : Nat) (l : Addr) (xs : List Int), ls[i]? = some l → tab[i]? = some xs → l ≠ p ∧ H l = some (.lst (xs.map V.int))
theorem TabAt.same {H H' : Hp} {p : Addr} {tab : List (List Int)} (h : TabAt H p tab) (s : Same H H') : TabAt H' p tab := by
  obtain ⟨ls, h1, h2, h3⟩ := h
  exact ⟨ls, s _ _ h1, h2, fun i l xs a b => ⟨(h3 i l xs a b).1, s _ _ (h3 i l xs a b).2⟩⟩
theorem getD_at {α : Type} {l : List α} {i : Nat} {d : α} (h : i < l.length) : l.getD i d = l[i] := by simp [List.getD_eq_getElem?_getD, h]
theorem getLastD_eq {α : Type} {xs : List α} (h : 0 < xs.length) (d : α) : xs.getLastD d = xs[xs.length - 1]'(by omega) := by
  have hne : xs ≠ [] := fun z => by rw [z] at h; simp at h
  rw [List.getLastD_eq_getLast?, List.getLast?_eq_some_getLast hne, List.getLast_eq_getElem]; rfl
theorem at_last {α : Type} {xs : List α} (h : 0 < xs.length) : atI xs (-1) = some (xs[xs.length - 1]'(by omega)) := by
  have hne : xs ≠ [] := fun z => by rw [z] at h; simp at h
  have e : atI xs (-1) = some (xs.getLast hne) := by
    have e1 := atI_last xs.dropLast (xs.getLast hne)
    rw [List.dropLast_concat_getLast hne] at e1
    exact e1
  rw [e, List.getLast_eq_getElem]
theorem dec_strE (a b : Str) : decide (V.str a = V.str b) = decide (a = b) := decide_eq_decide.mpr ⟨fun z => by injection z, fun z => by rw [z]⟩
noncomputable def spMost : Sp := fun vs H Q _ => ∃ (l r : Addr) (as bs : List Str), vs = [.ref l, .ref r] ∧ H l = some (.lst (as.map V.str)) ∧ H r = some (.lst (bs.map V.str)) ∧ as.length ≤ 100 ∧ bs.length ≤ 100 ∧ ∀ p H', H p = none → Same H H' → TabAt H' p (mtab as bs as.length) → Q (.ref p) H'
noncomputable abbrev N_most_shared : List Str := ["left", "right", "many", "row", "above", "counts", "place", "other"]
theorem sc_most_shared : FnScope N_most_shared ["left", "right"] (defScope st_most_shared) := ⟨rfl, rfl, rfl, by decide +kernel, rfl, by decide +kernel, by decide +kernel⟩
theorem ok_most (T : All P w K mg AA DD) : FnOk P w K mg base CX0 1 AA.most_shared DD.most_shared ["left", "right"] spMost := by
  refine T.F_most_shared.ok sc_most_shared (fun vs H Q E h => ?_) (fun cdv A outer s H vs Q E hr h => ?_)
  · obtain ⟨l, r, as, bs, rfl, _⟩ := h
    rfl
  · obtain ⟨l, r, as, bs, rfl, hl, hr', hal, hbl, k⟩ := h
    have nd := sc_most_shared.nd
    refine ⟨_, (@pss_cons _ _ _ _ _ (@ps_set _ _ 2 _ _ _ _ nd rfl (Or.inl rfl) (@pe_lst _ _ _ _ (@pa_cons _ _ _ _ _ (@pe_op _ _ _ _ _ _ _ _ op_rep (@pe_lst _ _ _ _ (@pa_cons _ _ _ _ _ pe_int pa_nil (by rfl))) (@pe_op _ _ _ _ _ _ _ _ op_add (pe_callB call_len_seq rfl T.n_len bt_len (@pa_cons _ _ _ _ _ (pv 1) pa_nil (by rfl))) pe_int)) pa_nil (by rfl))) (by rfl) (by first | exact .inl rfl | exact .inr rfl | assumption)) (@pss_cons _ _ _ _ _ (@ps_for _ _ _ _ _ _ _ _ PassesOwn.never rfl (pi_list (pv 0)) (pg_name (i := 3) nd rfl (Or.inl rfl)) (@pss_cons _ _ _ _ _ (@ps_set _ _ 4 _ _ _ _ nd rfl (Or.inl rfl) (@pe_ix _ _ _ _ _ _ _ (ix_listK (K := K) rfl) (pv 2) (pe_un un_neg pe_int) (fun _ _ => rfl)) (by rfl) (by first | exact .inl rfl | exact .inr rfl | assumption)) (@pss_cons _ _ _ _ _ (@ps_set _ _ 5 _ _ _ _ nd rfl (Or.inl rfl) (@pe_lst _ _ _ _ (@pa_cons _ _ _ _ _ pe_int pa_nil (by rfl))) (by rfl) (by first | exact .inl rfl | exact .inr rfl | assumption)) (@pss_cons _ _ _ _ _ (@ps_for _ _ _ _ _ _ _ _ PassesOwn.never rfl (pi_enum rfl T.n_enumerate (@pa_cons _ _ _ _ _ (pv 1) pa_nil (by rfl))) (pg_tup rfl (pgs_cons (pg_name (i := 6) nd rfl (Or.inl rfl)) (pgs_cons (pg_name (i := 7) nd rfl (Or.inl rfl)) pgs_nil))) (@pss_one _ _ _ (@ps_if _ _ _ _ _ _ _ _ (@pt_cmpR _ _ _ _ _ _ _ _ op_eq (pv 3) (pv 7) (nomark _)) (@pss_one _ _ _ (@ps_expr _ _ _ _ (pe_bm PySem.F.plainAttrs_list PySem.F.slot_list_append PySem.F.type_list_append mt_append (pv 5) (@pa_cons _ _ _ _ _ (@pe_op _ _ _ _ _ _ _ _ op_add (@pe_ix _ _ _ _ _ _ _ (ix_listK (K := K) rfl) (pv 4) (pv 6) (fun _ _ => rfl)) pe_int) pa_nil (by rfl))) (by rfl))) (@pss_one _ _ _ (@ps_expr _ _ _ _ (pe_bm PySem.F.plainAttrs_list PySem.F.slot_list_append PySem.F.type_list_append mt_append (pv 5) (@pa_cons _ _ _ _ _ (pe_callB (call_max2 rfl) rfl T.n_max bt_max (@pa_cons _ _ _ _ _ (@pe_ix _ _ _ _ _ _ _ (ix_listK (K := K) rfl) (pv 4) (@pe_op _ _ _ _ _ _ _ _ op_add (pv 6) pe_int) (fun _ _ => rfl)) (@pa_cons _ _ _ _ _ (@pe_ix _ _ _ _ _ _ _ (ix_listK (K := K) rfl) (pv 5) (pe_un un_neg pe_int) (fun _ _ => rfl)) pa_nil (by rfl)) (by rfl))) pa_nil (by rfl))) (by rfl))))) (by intro _; rfl)) (@pss_one _ _ _ (@ps_expr _ _ _ _ (pe_bm PySem.F.plainAttrs_list PySem.F.slot_list_append PySem.F.type_list_append mt_append (pv 2) (@pa_cons _ _ _ _ _ (pv 5) pa_nil (by rfl))) (by rfl)))))) (by intro _; rfl)) (@pss_one _ _ _ (@ps_ret _ _ _ _ (pv 2))))), ?_⟩
    refine ⟨(by show 1 ≤ sizeLine; decide), fun z hz => ?_⟩
    have s0 := same_upd (o := .lst [V.int 0]) hz
    refine ⟨_, rfl, r, _, rfl, .inl (SqL.of (s0 _ _ hr')), _, _, rfl, rfl, z, _, _, rfl, rfl, upd_same, ?_, ?_, ?_, fun q hq => ⟨(by show 1 ≤ sizeLine; decide), fun p hp => ?_⟩⟩
    · rw [List.length_map]; omega
    · rw [List.length_map]; omega
    · rw [List.length_map, sizeLine_eq]
      simp only [List.length_cons, List.length_nil]
      omega
    have eq0 : (((bs.map V.str).length : Nat) : Int) + 1 = ((bs.length + 1 : Nat) : Int) := by rw [List.length_map]; omega
    rw [eq0, Int.toNat_natCast, rep_flat] at hp
    rw [eq0, Int.toNat_natCast, rep_flat]
    have s1 := s0.trans (same_upd (o := .lst ((List.replicate (bs.length + 1) (0 : Int)).map V.int)) hq)
    have hp0 : H p = none := none_of s1 hp
    have npq : q ≠ p := ne_of_none upd_same hp
    have hT : TabAt (upd (upd (upd H z (.lst [V.int 0])) q (.lst ((List.replicate (bs.length + 1) (0 : Int)).map V.int))) p (.lst [V.ref q])) p (mtab as bs 0) := ⟨[q], upd_same, rfl, fun i l xs h1 h2 => by
      have hi : i = 0 := by
        have := (List.getElem?_eq_some_iff.mp h1).1
        simpa using this
      subst hi
      have e1 : q = l := by simpa using h1
      have e2 : List.replicate (bs.length + 1) 0 = xs := by simpa [mtab] using h2
      subst e1 e2
      exact ⟨npq, by rw [upd_ne npq, upd_same]⟩⟩
    have s2 := s1.trans (same_upd (o := .lst [V.ref q]) hp)
    try dsimp only [gName]
    generalize upd (upd (upd H z (.lst [V.int 0])) q (.lst ((List.replicate (bs.length + 1) (0 : Int)).map V.int))) p (.lst [V.ref q]) = H1 at hT s2 ⊢
    clear s0 s1 hz hq hp npq
    refine cut_for (fun σ' H' => Same H H' ∧ TabAt H' p (mtab as bs as.length) ∧ ∃ s3 s4 s5 s6 s7 : Option V, σ' = [some (.ref l), some (.ref r), some (.ref p), s3, s4, s5, s6, s7]) (fun R hR => ?_) ?_
    · refine ⟨_, rfl, l, rfl, ⟨_, SqL.of (s2 _ _ hl)⟩, ?_⟩
      refine for_list (K := K) (a := l) (xs := as.map V.str) (D := ⟨R, _, R, R⟩) (fun i σ' H' => Same H H' ∧ TabAt H' p (mtab as bs i) ∧ ∃ s3 s4 s5 s6 s7 : Option V, σ' = [some (.ref l), some (.ref r), some (.ref p), s3, s4, s5, s6, s7])
        ⟨s2, hT, none, none, none, none, none, rfl⟩ (fun i σ' H' _ z => SqL.of (z.1 _ _ hl)) ?_ ?_
      · rintro i x σ' H2 hx ⟨sm, hT2, x3, x4, x5, x6, x7, rfl⟩
        have hi : i < as.length := by
          have := (List.getElem?_eq_some_iff.mp hx).1
          rw [List.length_map] at this; exact this
        have ex : x = V.str as[i] := by rw [List.getElem?_map, List.getElem?_eq_getElem hi] at hx; exact (Option.some.inj hx).symm
        subst ex
        obtain ⟨ls, hls, hll, hlx⟩ := hT2
        have hml := mtab_len as bs i
        have hl0 : 0 < (ls.map V.ref).length := by rw [List.length_map]; omega
        have hxm := getLastD_eq (xs := mtab as bs i) (by omega) []
        have hxl : ((mtab as bs i).getLastD []).length = bs.length + 1 := by rw [hxm]; exact mtab_row i (by omega) _ (List.getElem_mem _)
        obtain ⟨nab, hxs⟩ := hlx (ls.length - 1) (ls[ls.length - 1]'(by omega)) ((mtab as bs i).getLastD []) (List.getElem?_eq_getElem _) (by rw [hxm, hll]; exact List.getElem?_eq_getElem _)
        have hsucc := mtab_succ (bs := bs) hi
        have hlast : atI (ls.map V.ref) (-1) = some (V.ref (ls[ls.length - 1]'(by omega))) := by
          rw [at_last hl0]; simp
        try dsimp only [gName]
        refine ⟨_, rfl, _, rfl, p, _, _, _, rfl, rfl, SqL.of hls, hlast, ?_⟩
        try dsimp only [gName]
        generalize ls[ls.length - 1]'(by omega) = ab at nab hxs hlast ⊢
        generalize (mtab as bs i).getLastD [] = xs at hxl hxs hsucc ⊢
        clear hxm
        refine ⟨(by show 1 ≤ sizeLine; decide), fun c hc => ?_⟩
        have hc0 : H c = none := none_of sm hc
        have hcp : c ≠ p := (ne_of_none hls hc).symm
        try dsimp only [gName]
        refine cut_for (fun σ' H' => Same H2 H' ∧ H' c = some (.lst ((mrow xs as[i] bs bs.length).map V.int)) ∧ ∃ s6 s7 : Option V, σ' = [some (.ref l), some (.ref r), some (.ref p), some (.str as[i]), some (.ref ab), some (.ref c), s6, s7]) (fun R2 hR2 => ?_) ?_
        · refine ⟨_, rfl, r, _, rfl, SqL.of ((sm.trans (same_upd hc)) _ _ hr'), ?_⟩
          refine for_enum (K := K) (a := r) (xs := bs.map V.str) (D := ⟨R2, _, R2, R2⟩) (fun j σ' H' => Same H2 H' ∧ H' c = some (.lst ((mrow xs as[i] bs j).map V.int)) ∧ ∃ s6 s7 : Option V, σ' = [some (.ref l), some (.ref r), some (.ref p), some (.str as[i]), some (.ref ab), some (.ref c), s6, s7])
            ⟨same_upd hc, upd_same, x6, x7, rfl⟩ (fun j σ' H' _ z => SqL.of ((sm.trans z.1) _ _ hr')) ?_ ?_
          · rintro j y σ' H3 t hy ⟨sm3, hcs, y6, y7, rfl⟩ ht
            have hj : j < bs.length := by
              have := (List.getElem?_eq_some_iff.mp hy).1
              rw [List.length_map] at this; exact this
            have ey : y = V.str bs[j] := by rw [List.getElem?_map, List.getElem?_eq_getElem hj] at hy; exact (Option.some.inj hy).symm
            subst ey
            have st := same_upd (o := .tup [V.int ((j : Nat) : Int), V.str bs[j]]) ht
            have hcs := st _ _ hcs
            have sm4 := sm3.trans st
            have hab := sm4 _ _ hxs
            refine ⟨t, _, rfl, SqT.of upd_same, rfl, _, _, rfl, _, _, rfl, rfl, ?_⟩
            try dsimp only [gName]
            generalize upd H3 t (.tup [V.int ((j : Nat) : Int), V.str bs[j]]) = H4 at hcs sm4 hab ⊢
            have hcl := mrow_len xs as[i] bs j
            have put : ∀ v : Int, mrow xs as[i] bs (j + 1) = mrow xs as[i] bs j ++ [v] → Same H2 (upd H4 c (.lst ((mrow xs as[i] bs j).map V.int ++ [V.int v]))) ∧ upd H4 c (.lst ((mrow xs as[i] bs j).map V.int ++ [V.int v])) c = some (.lst ((mrow xs as[i] bs (j + 1)).map V.int)) := fun v e =>
              ⟨same_put sm4 hc, by rw [upd_same, e, List.map_append]; rfl⟩
            have em : mrow xs as[i] bs (j + 1) = mrow xs as[i] bs j ++ [if bs[j]? = some as[i] then xs.getD j 0 + 1 else pmax (xs.getD (j + 1) 0) ((mrow xs as[i] bs j).getLastD 0)] := rfl
            rw [List.getElem?_eq_getElem hj] at em
            generalize mrow xs as[i] bs j = cs at hcs hcl put em ⊢
            have hcz : (cs.map V.int).length < sizeLine := by rw [List.length_map]; exact small1000 (by omega)
            refine ⟨_, rfl, _, rfl, rfl, _, rfl, ?_⟩
            rw [dec_strE]
            by_cases heq : as[i] = bs[j]
            · rw [decide_eq_true heq]
              refine iteT ?_
              rw [if_pos (by rw [heq])] at em
              have hg : xs.getD j 0 = xs[j]'(by omega) := by simp [List.getD_eq_getElem?_getD, List.getElem?_eq_getElem (show j < xs.length by omega)]
              rw [hg] at em
              have aj : atI (xs.map V.int) ((j : Nat) : Int) = some (V.int (xs[j]'(by omega))) := atI_nat (by rw [List.getElem?_map, List.getElem?_eq_getElem (by omega)]; rfl)
              refine ⟨_, rfl, .inl ⟨rfl, _, SqL.of hcs⟩, _, rfl, _, rfl, ab, _, _, _, rfl, rfl, SqL.of hab, aj, _, _, rfl, rfl, c, _, _, rfl, rfl, hcs, hcz, ?_⟩
              exact ⟨(put _ em).1, (put _ em).2, _, _, rfl⟩
            · rw [decide_eq_false heq]
              refine iteF ?_
              rw [if_neg (fun z => heq (Option.some.inj z).symm)] at em
              have hg : xs.getD (j + 1) 0 = xs[j + 1]'(by omega) := by simp [List.getD_eq_getElem?_getD, List.getElem?_eq_getElem (show j + 1 < xs.length by omega)]
              have hg2 := getLastD_eq (xs := cs) (by omega) 0
              rw [hg, hg2] at em
              have aj : atI (xs.map V.int) (((j : Nat) : Int) + 1) = some (V.int (xs[j + 1]'(by omega))) := by
                rw [show ((j : Nat) : Int) + 1 = ((j + 1 : Nat) : Int) by omega]
                exact atI_nat (by rw [List.getElem?_map, List.getElem?_eq_getElem (by omega)]; rfl)
              have hc1 : 0 < (cs.map V.int).length := by rw [List.length_map]; omega
              have cl : atI (cs.map V.int) (-1) = some (V.int (cs[cs.length - 1]'(by omega))) := by
                rw [at_last hc1]; simp
              refine ⟨_, rfl, .inl ⟨rfl, _, SqL.of hcs⟩, _, rfl, _, rfl, _, _, rfl, rfl, ab, _, _, _, rfl, rfl, SqL.of hab, aj, _, rfl, _, rfl, c, _, _, _, rfl, rfl, SqL.of hcs, cl, _, _, rfl, c, _, _, rfl, rfl, hcs, hcz, ?_⟩
              exact ⟨(put _ em).1, (put _ em).2, _, _, rfl⟩
          · rintro σ' H3 ⟨sm3, hcs, y6, y7, rfl⟩
            rw [List.length_map] at hcs
            exact hR2 _ _ ⟨sm3, hcs, y6, y7, rfl⟩
        · rintro σ' H3 ⟨sm3, hcs, y6, y7, rfl⟩
          have hls3 := sm3 _ _ hls
          refine ⟨_, rfl, .inl ⟨rfl, _, SqL.of hls3⟩, _, rfl, p, _, _, rfl, rfl, hls3, ?_, ?_⟩
          · rw [List.length_map]; exact small1000 (by omega)
          refine ⟨same_put (sm.trans sm3) hp0, ⟨ls ++ [c], by rw [upd_same]; simp, by rw [hsucc]; simp [hll], ?_⟩, _, _, _, _, _, rfl⟩
          rw [hsucc]
          refine snoc_at (Pp := fun l xs => l ≠ p ∧ upd H3 p (HO.lst (ls.map V.ref ++ [V.ref c])) l = some (HO.lst (xs.map V.int))) hll (fun m l ys e1 e2 => ?_) ⟨hcp, by rw [upd_ne hcp]; exact hcs⟩
          obtain ⟨n1, h2⟩ := hlx m l ys e1 e2
          exact ⟨n1, by rw [upd_ne n1]; exact sm3 _ _ h2⟩
      · rintro σ' H2 ⟨sm, hT2, x⟩
        rw [List.length_map] at hT2
        exact hR _ _ ⟨sm, hT2, x⟩
    rintro σ' H2 ⟨sm, hT2, x3, x4, x5, x6, x7, rfl⟩
    exact ⟨_, rfl, k p _ hp0 sm hT2⟩
theorem cut_take {xs : List V} {j : Nat} (h : j ≤ xs.length) : cutV xs none (some ((j : Nat) : Int)) = xs.take j := by
  unfold cutV
  rw [HT.sIx_nat, show HT.sIx xs.length 0 none = 0 from rfl]
  simp [Nat.min_eq_left h]
noncomputable def spPutJ : Sp := fun vs H Q _ => ∃ (l o : Addr) (rs : List (Str × Nat)) (os : List Str) (s : Nat), vs = [.ref l, .ref o, .int ((2 ^ s : Nat) : Int)] ∧ RowAt H l rs ∧ H o = some (.lst (os.map V.str)) ∧ rs.length ≤ 60 ∧ os.length ≤ 60 ∧ (∀ p ∈ rs, p.2 < 2 ^ s) ∧
  ∀ p H', H p = none → Same H H' → RowAt H' p (ptgR s rs os) → JD s rs os (ptgR s rs os) → Q (.ref p) H'
noncomputable abbrev N_put_together_joining : List Str := ["rows", "own", "mask", "many", "found", "here", "place", "pair", "row"]
theorem sc_put_together_joining : FnScope N_put_together_joining ["rows", "own", "mask"] (defScope st_put_together_joining) := ⟨rfl, rfl, rfl, by decide +kernel, rfl, by decide +kernel, by decide +kernel⟩
theorem ok_putJ (T : All P w K mg AA DD) : FnOk P w K mg base CX0 2 AA.put_together_joining DD.put_together_joining ["rows", "own", "mask"] spPutJ := by
  have GM := ok_most (base := base) T
  refine T.F_put_together_joining.ok sc_put_together_joining (fun vs H Q E h => ?_) (fun cdv A outer s H vs Q E hr h => ?_)
  · obtain ⟨l, o, rs, os, s, rfl, _⟩ := h
    rfl
  · obtain ⟨l, o, rs, os, s, rfl, ⟨ts, hts, htl, hat⟩, ho, hrl, hol, hlt, k⟩ := h
    have nd := sc_put_together_joining.nd
    have hr1 : Room 1 _ := hr
    refine ⟨_, (@pss_cons _ _ _ _ _ (@ps_set _ _ 3 _ _ _ _ nd rfl (Or.inl rfl) (pe_call GM hr1 rfl T.m_most_shared T.k_most_shared T.b_most_shared .nil pass0 (@pa_cons _ _ _ _ _ (pe_comp2 (xs := ["row", "there"]) (defScope st_put_together_joining) N_put_together_joining [] [] rfl (by exact ⟨rfl, rfl, by decide +kernel, by decide +kernel, by decide +kernel, by decide +kernel, by decide +kernel, rfl, by decide +kernel⟩) rfl rfl (pi_list (pv 0)) (fun _ _ _ _ => (pg_tupK (K := K) (n := 2) rfl rfl (pgs_cons (pg_name (i := 0) (show (["row", "there"] : List Str).Nodup by decide +kernel) rfl (Or.inl rfl)) (pgs_cons (pg_name (i := 1) (show (["row", "there"] : List Str).Nodup by decide +kernel) rfl (Or.inl rfl)) pgs_nil)))) (fun _ _ _ _ => pif_nil) (fun _ _ _ _ => (pv 0))) (@pa_cons _ _ _ _ _ (pv 1) pa_nil (by rfl)) (by rfl))) (by rfl) (by first | exact .inl rfl | exact .inr rfl | assumption)) (@pss_cons _ _ _ _ _ (@ps_set _ _ 4 _ _ _ _ nd rfl (Or.inl rfl) (@pe_lst _ _ _ _ pa_nil) (by rfl) (by first | exact .inl rfl | exact .inr rfl | assumption)) (@pss_cons _ _ _ _ _ (@ps_set _ _ 5 _ _ _ _ nd rfl (Or.inl rfl) (pe_callB call_len_seq rfl T.n_len bt_len (@pa_cons _ _ _ _ _ (pv 0) pa_nil (by rfl))) (by rfl) (by first | exact .inl rfl | exact .inr rfl | assumption)) (@pss_cons _ _ _ _ _ (@ps_set _ _ 6 _ _ _ _ nd rfl (Or.inl rfl) (pe_callB call_len_seq rfl T.n_len bt_len (@pa_cons _ _ _ _ _ (pv 1) pa_nil (by rfl))) (by rfl) (by first | exact .inl rfl | exact .inr rfl | assumption)) (@pss_cons _ _ _ _ _ (@ps_while _ _ _ _ _ _ PassesOwn.never (PW.pt (pw_and (@pt_cmpR _ _ _ _ _ _ _ _ op_gt (pv 5) pe_int (nomark _)) (pw_and1 (@pt_cmpR _ _ _ _ _ _ _ _ op_gt (pv 6) pe_int (nomark _))))) (@pss_cons _ _ _ _ _ (@ps_set _ _ 7 _ _ _ _ nd rfl (Or.inl rfl) (@pe_ix _ _ _ _ _ _ _ (ix_listK (K := K) rfl) (pv 0) (@pe_op _ _ _ _ _ _ _ _ op_sub (pv 5) pe_int) (fun _ _ => rfl)) (by rfl) (by first | exact .inl rfl | exact .inr rfl | assumption)) (@pss_cons _ _ _ _ _ (@ps_set _ _ 8 _ _ _ _ nd rfl (Or.inl rfl) (@pe_ix _ _ _ _ _ _ _ (ix_listK (K := K) rfl) (pv 1) (@pe_op _ _ _ _ _ _ _ _ op_sub (pv 6) pe_int) (fun _ _ => rfl)) (by rfl) (by first | exact .inl rfl | exact .inr rfl | assumption)) (@pss_one _ _ _ (@ps_if _ _ _ _ _ _ _ _ (@pt_cmpR _ _ _ _ _ _ _ _ op_eq (@pe_ix _ _ _ _ _ _ _ (ix_tupK (K := K) rfl) (pv 7) pe_int (fun _ _ => rfl)) (pv 8) (nomark _)) (@pss_cons _ _ _ _ _ (@ps_expr _ _ _ _ (pe_bm PySem.F.plainAttrs_list PySem.F.slot_list_append PySem.F.type_list_append mt_append (pv 4) (@pa_cons _ _ _ _ _ (@pe_tup _ _ _ _ _ (@pa_cons _ _ _ _ _ (pv 8) (@pa_cons _ _ _ _ _ (@pe_op _ _ _ _ _ _ _ _ op_or (@pe_ix _ _ _ _ _ _ _ (ix_tupK (K := K) rfl) (pv 7) pe_int (fun _ _ => rfl)) (pv 2)) pa_nil (by rfl)) (by rfl))) pa_nil (by rfl))) (by rfl)) (@pss_cons _ _ _ _ _ (@ps_set _ _ 5 _ _ _ _ nd rfl (Or.inl rfl) (@pe_op _ _ _ _ _ _ _ _ op_sub (pv 5) pe_int) (by rfl) (by first | exact .inl rfl | exact .inr rfl | assumption)) (@pss_one _ _ _ (@ps_set _ _ 6 _ _ _ _ nd rfl (Or.inl rfl) (@pe_op _ _ _ _ _ _ _ _ op_sub (pv 6) pe_int) (by rfl) (by first | exact .inl rfl | exact .inr rfl | assumption))))) (@pss_one _ _ _ (@ps_if _ _ _ _ _ _ _ _ (@pt_cmpR _ _ _ _ _ _ _ _ op_gt (@pe_ix _ _ _ _ _ _ _ (ix_listK (K := K) rfl) (@pe_ix _ _ _ _ _ _ _ (ix_listK (K := K) rfl) (pv 3) (@pe_op _ _ _ _ _ _ _ _ op_sub (pv 5) pe_int) (fun _ _ => rfl)) (pv 6) (fun _ _ => rfl)) (@pe_ix _ _ _ _ _ _ _ (ix_listK (K := K) rfl) (@pe_ix _ _ _ _ _ _ _ (ix_listK (K := K) rfl) (pv 3) (pv 5) (fun _ _ => rfl)) (@pe_op _ _ _ _ _ _ _ _ op_sub (pv 6) pe_int) (fun _ _ => rfl)) (nomark _)) (@pss_cons _ _ _ _ _ (@ps_expr _ _ _ _ (pe_bm PySem.F.plainAttrs_list PySem.F.slot_list_append PySem.F.type_list_append mt_append (pv 4) (@pa_cons _ _ _ _ _ (pv 7) pa_nil (by rfl))) (by rfl)) (@pss_one _ _ _ (@ps_set _ _ 5 _ _ _ _ nd rfl (Or.inl rfl) (@pe_op _ _ _ _ _ _ _ _ op_sub (pv 5) pe_int) (by rfl) (by first | exact .inl rfl | exact .inr rfl | assumption)))) (@pss_cons _ _ _ _ _ (@ps_expr _ _ _ _ (pe_bm PySem.F.plainAttrs_list PySem.F.slot_list_append PySem.F.type_list_append mt_append (pv 4) (@pa_cons _ _ _ _ _ (@pe_tup _ _ _ _ _ (@pa_cons _ _ _ _ _ (pv 8) (@pa_cons _ _ _ _ _ (pv 2) pa_nil (by rfl)) (by rfl))) pa_nil (by rfl))) (by rfl)) (@pss_one _ _ _ (@ps_set _ _ 6 _ _ _ _ nd rfl (Or.inl rfl) (@pe_op _ _ _ _ _ _ _ _ op_sub (pv 6) pe_int) (by rfl) (by first | exact .inl rfl | exact .inr rfl | assumption))))))))))) (@pss_one _ _ _ (@ps_ret _ _ _ _ (@pe_op _ _ _ _ _ _ _ _ op_cat (@pe_op _ _ _ _ _ _ _ _ op_cat (pe_slice sl_list (pv 0) po_none (po_some (pv 5))) (pe_comp (defScope st_put_together_joining) N_put_together_joining ["mask"] [2] rfl (by exact ⟨rfl, rfl, by decide +kernel, rfl, by decide +kernel, by decide +kernel, by decide +kernel, rfl, by decide +kernel⟩) rfl rfl (pi_list (pe_slice sl_list (pv 1) po_none (po_some (pv 6)))) (fun _ _ _ _ => pif_nil) (fun _ _ _ _ => (@pe_tup _ _ _ _ _ (@pa_cons _ _ _ _ _ (pv 0) (@pa_cons _ _ _ _ _ (pv 1) pa_nil (by rfl)) (by rfl)))))) (pe_listrev (K := K) rfl rfl rfl T.n_list rfl T.n_reversed (pv 4)))))))))), ?_⟩
    refine ⟨_, rfl, l, rfl, ⟨_, SqL.of hts⟩, ?_⟩
    refine comp2_list (K := K) (a := l) (xs := ts.map V.ref) (fun i ys H' => H' = H ∧ i ≤ 60 ∧ ys = ((rs.take i).map (·.1)).map V.str) ⟨rfl, Nat.zero_le _, rfl⟩ (fun i ys H' _ z => by rw [z.1]; exact SqL.of hts) ?_ ?_
    · rintro i x ys H1 hx ⟨rfl, _, rfl⟩
      have hi : i < ts.length := by
        have := (List.getElem?_eq_some_iff.mp hx).1
        rw [List.length_map] at this; exact this
      have hir : i < rs.length := by omega
      have ex : x = V.ref ts[i] := by rw [List.getElem?_map, List.getElem?_eq_getElem hi] at hx; exact (Option.some.inj hx).symm
      subst ex
      have htu := hat i ts[i] rs[i] (List.getElem?_eq_getElem hi) (List.getElem?_eq_getElem hir)
      intro os' hos
      obtain ⟨a, b, rfl⟩ := two_of hos
      refine ⟨ts[i], _, rfl, SqT.of htu, rfl, _, _, rfl, _, _, rfl, rfl, ⟨[_, _], rfl, rfl⟩, ?_⟩
      refine tYes_ok ?_
      rw [if_pos rfl]
      refine ⟨_, rfl, ?_, rfl, by omega, ?_⟩
      · rw [List.length_map, List.length_map, List.length_take]; exact small1000 (by omega)
      · rw [List.take_succ_eq_append_getElem hir, List.map_append, List.map_append]; rfl
    rintro ys H1 ⟨rfl, _, rfl⟩ p1 hp1
    rw [List.length_map, htl, List.take_length]
    have s1 := same_upd (o := .lst ((rs.map (·.1)).map V.str)) hp1
    refine ⟨_, rfl, p1, o, rs.map (·.1), os, rfl, upd_same, s1 _ _ ho, by rw [List.length_map]; omega, by omega, fun pm H2 hpm s2 hT => ?_⟩
    rw [List.length_map] at hT
    have htab := mtab_len (rs.map (·.1)) os rs.length
    have htrow := mtab_row (as := rs.map (·.1)) (bs := os) rs.length (by rw [List.length_map]; exact Nat.le_refl _)
    have hput : btk s rs os (mtab (rs.map (·.1)) os rs.length) rs.length os.length [] = ptgR s rs os := rfl
    generalize mtab (rs.map (·.1)) os rs.length = tab at hT htab htrow hput
    have s2 := s1.trans s2
    try dsimp only [gName]
    clear s1 hpm
    refine ⟨Nat.zero_le _, fun pf hpf => ?_⟩
    have hpf0 : H1 pf = none := none_of s2 hpf
    have s3 := s2.trans (same_upd (o := .lst []) hpf)
    try dsimp only [gName]
    refine ⟨_, rfl, l, _, rfl, .inl (SqL.of (s3 _ _ hts)), ?_⟩
    rw [List.length_map, htl]
    try dsimp only [gName]
    refine ⟨_, rfl, o, _, rfl, .inl (SqL.of (s3 _ _ ho)), ?_⟩
    rw [List.length_map]
    try dsimp only [gName]
    refine cut_while (fun σ' H' => Same H2 H' ∧ ∃ (here place : Nat) (fa : List Addr) (fr : List (Str × Nat)) (x7 x8 : Option V), JI s rs os here place fr ∧ btk s rs os tab here place fr = ptgR s rs os ∧ (here = 0 ∨ place = 0) ∧ fr.length + here + place ≤ rs.length + os.length ∧ H' pf = some (.lst (fa.map V.ref)) ∧ TupL H' fa fr.reverse ∧
      σ' = [some (.ref l), some (.ref o), some (.int ((2 ^ s : Nat) : Int)), some (.ref pm), some (.ref pf), some (.int ((here : Nat) : Int)), some (.int ((place : Nat) : Int)), x7, x8]) (fun R hR => ?_) ?_
    · refine while_by (fun σ' H' => Same H2 H' ∧ ∃ (here place : Nat) (fa : List Addr) (fr : List (Str × Nat)) (x7 x8 : Option V), JI s rs os here place fr ∧ btk s rs os tab here place fr = ptgR s rs os ∧ fr.length + here + place ≤ rs.length + os.length ∧ H' pf = some (.lst (fa.map V.ref)) ∧ TupL H' fa fr.reverse ∧
        σ' = [some (.ref l), some (.ref o), some (.int ((2 ^ s : Nat) : Int)), some (.ref pm), some (.ref pf), some (.int ((here : Nat) : Int)), some (.int ((place : Nat) : Int)), x7, x8])
        (fun (σ : St) (_ : Hp) => match σ[5]?, σ[6]? with | some (some (V.int q)), some (some (V.int r)) => q.toNat + r.toNat | _, _ => 0)
        ⟨same_upd hpf, rs.length, os.length, [], [], none, none, JI.start s rs os, hput, by simp, upd_same, TupL.nil _, rfl⟩ ?_ ?_
      · rintro σ' H3 ⟨sm, here, place, fa, fr, x7, x8, hJ, hB, hn, hF, hFt, rfl⟩
        have sm2 := s2.trans sm
        refine ⟨_, rfl, _, _, rfl, rfl, _, rfl, ?_⟩
        have hh := hJ.hh
        have hp := hJ.hp
        by_cases h0 : 0 < here
        · rw [decide_eq_true (show (0 : Int) < ((here : Nat) : Int) by omega)]
          refine iteT ?_
          refine ⟨_, rfl, _, _, rfl, rfl, _, rfl, ?_⟩
          by_cases h1 : 0 < place
          · rw [decide_eq_true (show (0 : Int) < ((place : Nat) : Int) by omega)]
            refine iteT ?_
            obtain ⟨he, rfl⟩ : ∃ he, here = he + 1 := ⟨here - 1, by omega⟩
            obtain ⟨pl, rfl⟩ : ∃ pl, place = pl + 1 := ⟨place - 1, by omega⟩
            have hhe : he < rs.length := hh
            have hpl : pl < os.length := hp
            have e1 : (((he + 1 : Nat) : Int)) - 1 = ((he : Nat) : Int) := by omega
            have e2 : (((pl + 1 : Nat) : Int)) - 1 = ((pl : Nat) : Int) := by omega
            have at1 : atI (ts.map V.ref) ((((he + 1 : Nat) : Int)) - 1) = some (V.ref (ts[he]'(by omega))) := by
              rw [e1]; exact atI_nat (by rw [List.getElem?_map, List.getElem?_eq_getElem (by omega)]; rfl)
            have at2 : atI (os.map V.str) ((((pl + 1 : Nat) : Int)) - 1) = some (V.str os[pl]) := by
              rw [e2]; exact atI_nat (by rw [List.getElem?_map, List.getElem?_eq_getElem (by omega)]; rfl)
            have htu := sm2 _ _ (hat he (ts[he]'(by omega)) rs[he] (List.getElem?_eq_getElem (by omega)) (List.getElem?_eq_getElem hhe))
            generalize ts[he]'(by omega) = ta at at1 htu
            refine ⟨_, rfl, _, rfl, _, _, rfl, rfl, l, _, _, _, rfl, rfl, SqL.of (sm2 _ _ hts), at1, ?_⟩
            try dsimp only [gName]
            refine ⟨_, rfl, _, rfl, _, _, rfl, rfl, o, _, _, _, rfl, rfl, SqL.of (sm2 _ _ ho), at2, ?_⟩
            try dsimp only [gName]
            have hfl : (fa.map V.ref).length < sizeLine := by
              have := hFt.1
              rw [List.length_reverse] at this
              rw [List.length_map]; exact small1000 (by omega)
            refine ⟨_, rfl, ta, _, _, _, rfl, rfl, SqT.of htu, rfl, _, rfl, rfl, _, rfl, ?_⟩
            rw [dec_strE]
            by_cases heq : rs[he].1 = os[pl]
            · rw [decide_eq_true heq]
              refine iteT ?_
              refine ⟨_, rfl, .inl ⟨rfl, _, SqL.of hF⟩, _, rfl, _, rfl, ta, _, _, _, rfl, rfl, SqT.of htu, rfl, _, rfl, _, _, rfl, rfl, (by show 2 ≤ sizeLine; decide), fun tn htn => ?_⟩
              dsimp only
              rw [bitOr_nat]
              have st := same_upd (o := .tup [V.str os[pl], V.int ((rs[he].2 ||| 2 ^ s : Nat) : Int)]) htn
              refine ⟨pf, _, _, rfl, rfl, st _ _ hF, hfl, ?_⟩
              have hFn := (((hFt.same st).snoc (w := (os[pl], rs[he].2 ||| 2 ^ s)) upd_same).lst (ys := (fa.map V.ref ++ [V.ref tn])) (st _ _ hF))
              have sA := same_put (o := .lst (fa.map V.ref ++ [V.ref tn])) (sm.trans st) hpf
              try dsimp only [gName]
              refine ⟨_, rfl, _, _, rfl, rfl, ?_⟩
              try dsimp only [gName]
              rw [e1]
              refine ⟨_, rfl, _, _, rfl, rfl, ?_⟩
              try dsimp only [gName]
              rw [e2]
              refine ⟨⟨sA, he, pl, fa ++ [tn], _, _, _, hJ.eq hlt heq, by rw [← hB, btk_eq hhe hpl heq], by simp; omega, by rw [upd_same]; simp, by rw [List.reverse_cons]; exact hFn, rfl⟩, ?_⟩
              show ((he : Nat) : Int).toNat + ((pl : Nat) : Int).toNat < ((he + 1 : Nat) : Int).toNat + ((pl + 1 : Nat) : Int).toNat
              omega
            · rw [decide_eq_false heq]
              refine iteF ?_
              obtain ⟨ls, hls, hll, hlx⟩ := hT.same sm
              have m1 : tab[he]? = some (tab[he]'(by omega)) := List.getElem?_eq_getElem _
              have m2 : tab[he + 1]? = some (tab[he + 1]'(by omega)) := List.getElem?_eq_getElem _
              obtain ⟨_, hX1⟩ := hlx he (ls[he]'(by omega)) (tab[he]'(by omega)) (List.getElem?_eq_getElem _) m1
              obtain ⟨_, hX2⟩ := hlx (he + 1) (ls[he + 1]'(by omega)) (tab[he + 1]'(by omega)) (List.getElem?_eq_getElem _) m2
              have hx1 := htrow (tab[he]'(by omega)) (List.getElem_mem _)
              have hx2 := htrow (tab[he + 1]'(by omega)) (List.getElem_mem _)
              have t1 : tabAt tab he (pl + 1) = (tab[he]'(by omega))[pl + 1]'(by omega) := by unfold tabAt; rw [getD_at (show he < tab.length by omega), getD_at]
              have t2 : tabAt tab (he + 1) pl = (tab[he + 1]'(by omega))[pl]'(by omega) := by unfold tabAt; rw [getD_at (show he + 1 < tab.length by omega), getD_at]
              have b1 : atI (ls.map V.ref) ((((he + 1 : Nat) : Int)) - 1) = some (V.ref (ls[he]'(by omega))) := by
                rw [e1]; exact atI_nat (by rw [List.getElem?_map, List.getElem?_eq_getElem (by omega)]; rfl)
              have b2 : atI (ls.map V.ref) (((he + 1 : Nat) : Int)) = some (V.ref (ls[he + 1]'(by omega))) := atI_nat (by rw [List.getElem?_map, List.getElem?_eq_getElem (by omega)]; rfl)
              have c1 : atI ((tab[he]'(by omega)).map V.int) (((pl + 1 : Nat) : Int)) = some (V.int ((tab[he]'(by omega))[pl + 1]'(by omega))) := atI_nat (by rw [List.getElem?_map, List.getElem?_eq_getElem (by omega)]; rfl)
              have c2 : atI ((tab[he + 1]'(by omega)).map V.int) ((((pl + 1 : Nat) : Int)) - 1) = some (V.int ((tab[he + 1]'(by omega))[pl]'(by omega))) := by
                rw [e2]; exact atI_nat (by rw [List.getElem?_map, List.getElem?_eq_getElem (by omega)]; rfl)
              refine ⟨_, rfl, _, rfl, _, _, rfl, rfl, pm, _, _, _, rfl, rfl, SqL.of hls, b1, _, rfl, _, _, _, _, rfl, rfl, SqL.of hX1, c1, _, rfl, _, rfl, pm, _, _, _, rfl, rfl, SqL.of hls, b2, _, rfl, _, _, rfl, rfl, _, _, _, _, rfl, rfl, SqL.of hX2, c2, _, _, rfl, rfl, _, rfl, ?_⟩
              rw [← t1, ← t2]
              refine ite2 (fun hcmp => ?_) (fun hcmp => ?_)
              · have hcmp := of_decide_eq_true hcmp
                refine ⟨_, rfl, .inl ⟨rfl, _, SqL.of hF⟩, _, rfl, pf, _, _, rfl, rfl, hF, hfl, ?_⟩
                have hFn := ((hFt.snoc (w := rs[he]) htu).lst (ys := (fa.map V.ref ++ [V.ref ta])) hF)
                have sA := same_put (o := .lst (fa.map V.ref ++ [V.ref ta])) sm hpf
                try dsimp only [gName]
                refine ⟨_, rfl, _, _, rfl, rfl, ?_⟩
                try dsimp only [gName]
                rw [e1]
                refine ⟨⟨sA, he, pl + 1, fa ++ [ta], _, _, _, hJ.old1 hlt heq, by rw [← hB, btk_old hhe hpl heq hcmp], by simp; omega, by rw [upd_same]; simp, by rw [List.reverse_cons]; exact hFn, rfl⟩, ?_⟩
                show ((he : Nat) : Int).toNat + ((pl + 1 : Nat) : Int).toNat < ((he + 1 : Nat) : Int).toNat + ((pl + 1 : Nat) : Int).toNat
                omega
              · have hcmp : ¬ tabAt tab (he + 1) pl < tabAt tab he (pl + 1) := fun z => hcmp (decide_eq_true z)
                refine ⟨_, rfl, .inl ⟨rfl, _, SqL.of hF⟩, _, rfl, _, rfl, (by show 2 ≤ sizeLine; decide), fun tn htn => ?_⟩
                have st := same_upd (o := .tup [V.str os[pl], V.int ((2 ^ s : Nat) : Int)]) htn
                refine ⟨pf, _, _, rfl, rfl, st _ _ hF, hfl, ?_⟩
                have hFn := (((hFt.same st).snoc (w := (os[pl], 2 ^ s)) upd_same).lst (ys := (fa.map V.ref ++ [V.ref tn])) (st _ _ hF))
                have sA := same_put (o := .lst (fa.map V.ref ++ [V.ref tn])) (sm.trans st) hpf
                try dsimp only [gName]
                refine ⟨_, rfl, _, _, rfl, rfl, ?_⟩
                try dsimp only [gName]
                rw [e2]
                refine ⟨⟨sA, he + 1, pl, fa ++ [tn], _, _, _, hJ.new1 heq, by rw [← hB, btk_new hhe hpl heq hcmp], by simp; omega, by rw [upd_same]; simp, by rw [List.reverse_cons]; exact hFn, rfl⟩, ?_⟩
                show ((he + 1 : Nat) : Int).toNat + ((pl : Nat) : Int).toNat < ((he + 1 : Nat) : Int).toNat + ((pl + 1 : Nat) : Int).toNat
                omega
          · rw [decide_eq_false (show ¬ (0 : Int) < ((place : Nat) : Int) by omega)]
            refine iteF ?_
            exact hR _ _ ⟨sm, here, place, fa, fr, x7, x8, hJ, hB, .inr (by omega), hn, hF, hFt, rfl⟩
        · rw [decide_eq_false (show ¬ (0 : Int) < ((here : Nat) : Int) by omega)]
          refine iteF (iteF ?_)
          exact hR _ _ ⟨sm, here, place, fa, fr, x7, x8, hJ, hB, .inl (by omega), hn, hF, hFt, rfl⟩
      · rintro σ' H' Q1 Q2 hq ⟨v, h1, i, j, e1, e2, b, eb, h2⟩
        refine ⟨v, h1, i, j, e1, e2, b, eb, ?_⟩
        cases b with
        | false => exact hq _ _ h2
        | true =>
          obtain ⟨v', h1', i', j', e1', e2', b', eb', h2'⟩ := h2
          exact ⟨v', h1', i', j', e1', e2', b', eb', hq _ _ h2'⟩
    rintro σ' H3 ⟨sm, here, place, fa, fr, x7, x8, hJ, hB, h0, hn, hF, hFt, rfl⟩
    have sm2 := s2.trans sm
    have hD := hJ.done hlt h0 hn
    rw [btk_end h0] at hB
    rw [hB] at hD
    have hh := hJ.hh
    have hp := hJ.hp
    refine ⟨_, rfl, _, rfl, _, rfl, l, _, rfl, SqL.of (sm2 _ _ hts), fun p4 hp4 => ?_⟩
    rw [cut_take (by rw [List.length_map]; omega), ← List.map_take]
    have s4 := same_upd (o := .lst ((ts.take here).map V.ref)) hp4
    have hp4' : upd H3 p4 (.lst ((ts.take here).map V.ref)) p4 = some (.lst ((ts.take here).map V.ref)) := upd_same
    refine ⟨_, rfl, _, rfl, _, rfl, o, _, rfl, SqL.of ((sm2.trans s4) _ _ ho), fun p5 hp5 => ?_⟩
    rw [cut_take (by rw [List.length_map]; omega), ← List.map_take]
    have s5 := same_upd (o := .lst ((os.take place).map V.str)) hp5
    refine ⟨p5, rfl, ⟨_, SqL.of upd_same⟩, ?_⟩
    have hp5' : upd (upd H3 p4 (.lst ((ts.take here).map V.ref))) p5 (.lst ((os.take place).map V.str)) p5 = some (.lst ((os.take place).map V.str)) := upd_same
    have hp4' := s5 _ _ hp4'
    have sA := (sm2.trans s4).trans s5
    have hF := s5 _ _ (s4 _ _ hF)
    have hFt := (hFt.same s4).same s5
    generalize upd (upd H3 p4 (.lst ((ts.take here).map V.ref))) p5 (.lst ((os.take place).map V.str)) = H5 at hp4' hp5' sA hF hFt ⊢
    clear s4 s5 hp4 hp5 sm hT
    refine comp_list (K := K) (a := p5) (xs := (os.take place).map V.str) (fun i ys H' => Same H5 H' ∧ i ≤ 60 ∧ ∃ us : List Addr, ys = us.map V.ref ∧ TupL H' us (((os.take place).take i).map fun x => (x, 2 ^ s))) ⟨Same.refl _, Nat.zero_le _, [], rfl, TupL.nil _⟩ (fun i ys H' _ z => SqL.of (z.1 _ _ hp5')) ?_ ?_
    · rintro i x ys H6 hx ⟨sm, _, us, rfl, hus⟩
      have hi : i < (os.take place).length := by
        have := (List.getElem?_eq_some_iff.mp hx).1
        rw [List.length_map] at this; exact this
      have hi2 : i < 60 := by rw [List.length_take] at hi; omega
      have ex : x = V.str (os.take place)[i] := by rw [List.getElem?_map, List.getElem?_eq_getElem hi] at hx; exact (Option.some.inj hx).symm
      subst ex
      refine tYes_ok ?_
      rw [if_pos rfl]
      refine ⟨_, rfl, _, rfl, (by show 2 ≤ sizeLine; decide), fun tn htn => ?_⟩
      have st := same_upd (o := .tup [V.str (os.take place)[i], V.int ((2 ^ s : Nat) : Int)]) htn
      have hul := hus.1
      rw [List.length_map, List.length_take] at hul
      refine ⟨by rw [List.length_map]; exact small1000 (by omega), sm.trans st, by omega, us ++ [tn], by simp, ?_⟩
      rw [List.take_succ_eq_append_getElem hi, List.map_append]
      exact (hus.same st).snoc upd_same
    rintro ys H6 ⟨sm6, _, us, rfl, hus⟩ p6 hp6
    rw [List.length_map, List.take_length] at hus
    have s6 := sm6.trans (same_upd (o := .lst (us.map V.ref)) hp6)
    have hus := hus.same (same_upd (o := .lst (us.map V.ref)) hp6)
    have hp6' : upd H6 p6 (.lst (us.map V.ref)) p6 = some (.lst (us.map V.ref)) := upd_same
    have hp4' := s6 _ _ hp4'
    have sA := sA.trans s6
    have hF := s6 _ _ hF
    have hFt := hFt.same s6
    have hul := hus.1
    rw [List.length_map, List.length_take] at hul
    generalize upd H6 p6 (.lst (us.map V.ref)) = H7 at hp4' hp6' sA hF hFt hus ⊢
    clear s6 sm6 hp6
    have hfl := hFt.1
    rw [List.length_reverse] at hfl
    refine ⟨p4, p6, _, _, rfl, rfl, hp4', hp6', ?_, fun p7 hp7 => ?_⟩
    · rw [List.length_map, List.length_map, List.length_take, sizeLine_eq]; omega
    have s7 := same_upd (o := .lst ((ts.take here).map V.ref ++ us.map V.ref)) hp7
    refine ⟨_, rfl, pf, _, rfl, SqL.of (s7 _ _ hF), fun p8 hp8 => ?_⟩
    have s8 := same_upd (o := .lst (fa.map V.ref).reverse) hp8
    refine ⟨p7, p8, _, _, rfl, rfl, s8 _ _ upd_same, upd_same, ?_, fun p9 hp9 => ?_⟩
    · rw [List.length_append, List.length_map, List.length_map, List.length_reverse, List.length_map, List.length_take, sizeLine_eq]; omega
    have s9 := same_upd (o := .lst ((ts.take here).map V.ref ++ us.map V.ref ++ (fa.map V.ref).reverse)) hp9
    have sB := (s7.trans s8).trans s9
    refine k p9 _ (none_of ((sA.trans s7).trans s8) hp9) (sA.trans sB) ?_ hD
    rw [← hB]
    refine ⟨ts.take here ++ us ++ fa.reverse, by rw [upd_same]; simp, ?_⟩
    refine TupL.cat (TupL.cat (TupL.takeL here ⟨htl, fun i t w a b => (sA.trans sB) _ _ (hat i t w a b)⟩) (hus.same sB)) ?_
    have := (hFt.same sB).rev
    rw [List.reverse_reverse] at this
    exact this
/-- the rows of a text that have signs -/
noncomputable def ownR (z : Str) : List Str := (Txt.split z ⟨#[10]⟩).filter fun r => decide (r ≠ Str.empty)
end
section
variable {P : Program} {w : World} {K : PySem.W.Frag} {mg : Str → Option Value} {base : Heap} {AA : Adr} {DD : Fds}
/-- a line, and what is left of it in a setting -/
noncomputable def lineT (n k : Nat) (p : Str × Nat) : Str := if p.2 = 2 ^ k - 1 then p.1 else grpT n p.2 p.1
theorem line_len {n k : Nat} (hn : n ≤ 10) {p : Str × Nat} (h : p.1.length ≤ 1000) : (lineT n k p).length ≤ 5000 := by
  unfold lineT
  split
  · omega
  · have hsm := sh_small hn p.2
    have hl : (grpT n p.2 p.1).cps.toList = 60 :: ((sh n n p.2).signs ++ 32 :: (p.1.cps.toList ++ [32, 62])) := rfl
    rw [str_len] at h ⊢
    rw [hl]
    simp only [List.length_cons, List.length_append, List.length_nil]
    omega
theorem e_nl' : ("\n" : Str) = ⟨#[10]⟩ := by decide +kernel
theorem ne_empty (r : Str) : (!decide (V.str r = V.str "")) = decide (r ≠ Str.empty) := by
  by_cases h : r = Str.empty
  · rw [decide_eq_true (by rw [h]; rfl), decide_eq_false (fun z => z h)]; rfl
  · rw [decide_eq_false (fun z => h (by injection z)), decide_eq_true h]; rfl
theorem split_sz (z : Str) : (Txt.split z ⟨#[10]⟩).length ≤ z.length + 2 := by
  have := PyProof.Rows.split_le z ⟨#[10]⟩
  omega
noncomputable def spJoined : Sp := fun vs H Q _ => ∃ (l : Addr) (n : Nat) (txs : List Str), vs = [.ref l, .int ((n : Nat) : Int)] ∧ H l = some (.lst (txs.map V.str)) ∧ txs.length ≤ 64 ∧ (∀ t ∈ txs, t.length ≤ 100000) ∧ (txs.map fun t => (ownR t).length).sum ≤ 60 ∧ n ≤ 10 ∧ txs.length ≤ 2 ^ n ∧ (∀ t ∈ txs, ∀ r ∈ ownR t, r.length ≤ 1000) ∧
  (JF (txs.map ownR) (jnR (txs.map ownR) txs.length) → ∀ H', Same H H' → Q (.str (Str.join ⟨#[10]⟩ ((jnR (txs.map ownR) txs.length).map fun p => lineT n txs.length p))) H')
noncomputable abbrev N_joined : List Str := ["texts", "n", "rows", "s", "text", "own", "full"]
theorem sc_joined : FnScope N_joined ["texts", "n"] (defScope st_joined) := ⟨rfl, rfl, rfl, by decide +kernel, rfl, by decide +kernel, by decide +kernel⟩
theorem ok_joined (T : All P w K mg AA DD) : FnOk P w K mg base CX0 16 AA.joined DD.joined ["texts", "n"] spJoined := by
  have GP := ok_putJ (base := base) T
  have GG := ok_inG (base := base) T
  refine T.F_joined.ok sc_joined (fun vs H Q E h => ?_) (fun cdv A outer s H vs Q E hr h => ?_)
  · obtain ⟨l, n, txs, rfl, _⟩ := h
    rfl
  · obtain ⟨l, n, txs, rfl, hl, htl, hsz, hsum, hn, h2n, hrl, k⟩ := h
    have nd := sc_joined.nd
    have hr2 : Room 2 _ := hr.mono (by decide)
    have hrG : Room 15 _ := hr.mono (by decide)
    refine ⟨_, (@pss_cons _ _ _ _ _ (@ps_set _ _ 2 _ _ _ _ nd rfl (Or.inl rfl) (@pe_lst _ _ _ _ pa_nil) (by rfl) (by first | exact .inl rfl | exact .inr rfl | assumption)) (@pss_cons _ _ _ _ _ (@ps_for _ _ _ _ _ _ _ _ PassesOwn.never rfl (pi_enum rfl T.n_enumerate (@pa_cons _ _ _ _ _ (pv 0) pa_nil (by rfl))) (pg_tup rfl (pgs_cons (pg_name (i := 3) nd rfl (Or.inl rfl)) (pgs_cons (pg_name (i := 4) nd rfl (Or.inl rfl)) pgs_nil))) (@pss_cons _ _ _ _ _ (ps_setcomp (i := 5) (defScope st_joined) N_joined [] [] rfl (by exact ⟨rfl, rfl, by decide +kernel, rfl, by decide +kernel, by decide +kernel, by decide +kernel, rfl, by decide +kernel⟩) rfl rfl (pi_list (pe_bmK (K := K) rfl PySem.F.plainAttrs_str PySem.F.slot_str_split PySem.F.type_str_split mt_split (pv 4) (@pa_cons _ _ _ _ _ pe_str pa_nil (by rfl)))) (fun _ _ _ _ => pif_one (pt_cmpR op_ne (pv 0) pe_str (nomark _))) (fun _ _ _ _ => (pv 0)) nd rfl rfl rfl) (@pss_one _ _ _ (@ps_set _ _ 2 _ _ _ _ nd rfl (Or.inl rfl) (pe_call GP hr2 rfl T.m_put_together_joining T.k_put_together_joining T.b_put_together_joining .nil pass0 (@pa_cons _ _ _ _ _ (pv 2) (@pa_cons _ _ _ _ _ (pv 5) (@pa_cons _ _ _ _ _ (@pe_op _ _ _ _ _ _ _ _ op_shlB pe_int (pv 3)) pa_nil (by rfl)) (by rfl)) (by rfl))) (by rfl) (by first | exact .inl rfl | exact .inr rfl | assumption)))) (by intro _; rfl)) (@pss_cons _ _ _ _ _ (@ps_set _ _ 6 _ _ _ _ nd rfl (Or.inr rfl) (@pe_op _ _ _ _ _ _ _ _ op_sub (@pe_op _ _ _ _ _ _ _ _ op_shlB pe_int (pe_callB call_len_seq rfl T.n_len bt_len (@pa_cons _ _ _ _ _ (pv 0) pa_nil (by rfl)))) pe_int) (by rfl) (by first | exact .inl rfl | exact .inr rfl | assumption)) (@pss_one _ _ _ (@ps_ret _ _ _ _ (pe_bmK (K := K) rfl PySem.F.plainAttrs_str PySem.F.slot_str_join PySem.F.type_str_join (mt_join (K := K) rfl) pe_str (@pa_cons _ _ _ _ _ (pe_comp2 (xs := ["row", "mask"]) (defScope st_joined) N_joined ["n", "full"] [1, 6] rfl (by exact ⟨rfl, rfl, by decide +kernel, by decide +kernel, by decide +kernel, by decide +kernel, by decide +kernel, rfl, by decide +kernel⟩) rfl rfl (pi_list (pv 2)) (fun _ _ _ _ => (pg_tupK (K := K) (n := 2) rfl rfl (pgs_cons (pg_name (i := 0) (show (["row", "mask", "n", "full"] : List Str).Nodup by decide +kernel) rfl (Or.inl rfl)) (pgs_cons (pg_name (i := 1) (show (["row", "mask", "n", "full"] : List Str).Nodup by decide +kernel) rfl (Or.inl rfl)) pgs_nil)))) (fun _ _ _ _ => pif_nil) (fun _ _ _ _ => (pe_ifExp (@pt_cmpR _ _ _ _ _ _ _ _ op_eq (pv 1) (pv 3) (nomark _)) (pv 0) (pe_call GG hrG rfl T.m_in_group T.k_in_group T.b_in_group .nil pass0 (@pa_cons _ _ _ _ _ (pv 0) (@pa_cons _ _ _ _ _ (pv 1) (@pa_cons _ _ _ _ _ (pv 2) pa_nil (by rfl)) (by rfl)) (by rfl)))))) pa_nil (by rfl)))))))), ?_⟩
    refine ⟨Nat.zero_le _, fun p0 hp0 => ?_⟩
    try dsimp only [gName]
    refine cut_for (fun σ' H' => Same H H' ∧ ∃ (lr : Addr) (rs : List (Str × Nat)) (x3 x4 x5 : Option V), RowAt H' lr rs ∧ JF (txs.map ownR) rs ∧ rs = jnR (txs.map ownR) txs.length ∧ σ' = [some (.ref l), some (.int ((n : Nat) : Int)), some (.ref lr), x3, x4, x5, none]) (fun R hR => ?_) ?_
    · refine ⟨_, rfl, l, _, rfl, SqL.of (same_upd hp0 _ _ hl), ?_⟩
      refine for_enum (K := K) (a := l) (xs := txs.map V.str) (D := ⟨R, _, R, R⟩) (fun i σ' H' => Same H H' ∧ i ≤ txs.length ∧ ∃ (lr : Addr) (rs : List (Str × Nat)) (x3 x4 x5 : Option V), RowAt H' lr rs ∧ JF ((txs.take i).map ownR) rs ∧ rs = jnR (txs.map ownR) i ∧ σ' = [some (.ref l), some (.int ((n : Nat) : Int)), some (.ref lr), x3, x4, x5, none])
        ⟨same_upd hp0, Nat.zero_le _, p0, [], none, none, none, ⟨[], upd_same, TupL.nil _⟩, JF.nil, rfl, rfl⟩ (fun i σ' H' _ z => SqL.of (z.1 _ _ hl)) ?_ ?_
      · rintro i x σ' H1 t hx ⟨sm, _, lr, rs, x3, x4, x5, hRow, hJ, hrE, rfl⟩ ht
        have hi : i < txs.length := by
          have := (List.getElem?_eq_some_iff.mp hx).1
          rw [List.length_map] at this; exact this
        have ex : x = V.str txs[i] := by rw [List.getElem?_map, List.getElem?_eq_getElem hi] at hx; exact (Option.some.inj hx).symm
        subst ex
        have st := same_upd (o := .tup [V.int ((i : Nat) : Int), V.str txs[i]]) ht
        have hRow := hRow.same st
        have sm := sm.trans st
        have hzi := hsz txs[i] (List.getElem_mem hi)
        have hso : (ownR txs[i]).length ≤ 60 := Nat.le_trans (len_le_sum (f := fun t => (ownR t).length) (List.getElem_mem hi)) hsum
        have hsr : rs.length ≤ 60 := Nat.le_trans hJ.len (by
          rw [List.map_map]
          exact Nat.le_trans (sum_take_le (f := fun t => (ownR t).length) txs i) hsum)
        refine ⟨t, _, rfl, SqT.of upd_same, rfl, _, _, rfl, _, _, rfl, rfl, ?_⟩
        try dsimp only [gName]
        generalize upd H1 t (.tup [V.int ((i : Nat) : Int), V.str txs[i]]) = H2 at hRow sm ⊢
        clear st ht
        -- own
        refine ⟨_, rfl, rfl, _, _, rfl, rfl, (by rw [e_nl']; rfl), (by rw [sizeLine_eq]; omega), fun ps hps => ?_⟩
        rw [e_nl']
        have hsp := split_sz txs[i]
        have hown : ownR txs[i] = (Txt.split txs[i] ⟨#[10]⟩).filter fun r => decide (r ≠ Str.empty) := rfl
        generalize Txt.split txs[i] ⟨#[10]⟩ = sp at hsp hown ⊢
        have s3 := same_upd (o := .lst (sp.map V.str)) hps
        refine ⟨ps, rfl, ⟨_, SqL.of upd_same⟩, ?_⟩
        refine comp_list (K := K) (a := ps) (xs := sp.map V.str) (fun j ys H' => H' = upd H2 ps (.lst (sp.map V.str)) ∧ j ≤ sp.length ∧ ys = ((sp.take j).filter fun r => decide (r ≠ Str.empty)).map V.str) ⟨rfl, Nat.zero_le _, rfl⟩ (fun j ys H' _ z => by rw [z.1]; exact SqL.of upd_same) ?_ ?_
        · rintro j y ys H3 hy ⟨rfl, _, rfl⟩
          have hj : j < sp.length := by
            have := (List.getElem?_eq_some_iff.mp hy).1
            rw [List.length_map] at this; exact this
          have ey : y = V.str sp[j] := by rw [List.getElem?_map, List.getElem?_eq_getElem hj] at hy; exact (Option.some.inj hy).symm
          subst ey
          refine ⟨_, rfl, rfl, _, rfl, ?_⟩
          rw [ne_empty]
          have hf := List.length_filter_le (fun r => decide (r ≠ Str.empty)) (sp.take j)
          rw [List.length_take] at hf
          have et : (sp.take (j + 1)).filter (fun r => decide (r ≠ Str.empty)) = if decide (sp[j] ≠ Str.empty) = true then (sp.take j).filter (fun r => decide (r ≠ Str.empty)) ++ [sp[j]] else (sp.take j).filter (fun r => decide (r ≠ Str.empty)) := by
            rw [List.take_succ_eq_append_getElem hj, List.filter_append]
            cases hb : decide (sp[j] ≠ Str.empty) <;> simp only [List.filter_cons, List.filter_nil, hb] <;> simp
          cases hb : decide (sp[j] ≠ Str.empty) with
          | true =>
            refine iteT ?_
            rw [hb, if_pos rfl] at et
            exact ⟨_, rfl, by rw [List.length_map, sizeLine_eq]; omega, rfl, hj, by rw [et, List.map_append]; rfl⟩
          | false =>
            refine iteF ?_
            rw [hb, if_neg Bool.false_ne_true] at et
            exact ⟨rfl, hj, by rw [et]⟩
        rintro ys H3 ⟨rfl, _, rfl⟩ po hpo
        rw [List.length_map, List.take_length, ← hown]
        have s4 := s3.trans (same_upd (o := .lst ((ownR txs[i]).map V.str)) hpo)
        have hPo : upd (upd H2 ps (.lst (sp.map V.str))) po (.lst ((ownR txs[i]).map V.str)) po = some (.lst ((ownR txs[i]).map V.str)) := upd_same
        try dsimp only [gName]
        generalize upd (upd H2 ps (.lst (sp.map V.str))) po (.lst ((ownR txs[i]).map V.str)) = H4 at s4 hPo ⊢
        clear s3 hps hpo hsp
        refine ⟨_, rfl, _, rfl, _, rfl, _, _, rfl, rfl, one_shl (by omega), ?_⟩
        dsimp only
        rw [shl_n]
        have hlen : ((txs.take i).map ownR).length = i := by rw [List.length_map, List.length_take]; omega
        have hlt := hJ.lt
        rw [hlen] at hlt
        refine ⟨lr, po, rs, ownR txs[i], i, rfl, hRow.same s4, hPo, hsr, hso, hlt, fun p H5 hp s5 hR5 hD => ?_⟩
        refine ⟨(sm.trans s4).trans s5, hi, p, _, _, _, _, hR5, ?_, ?_, rfl⟩
        rotate_left
        · rw [jnR, ← hrE, List.getD_eq_getElem?_getD, List.getElem?_map, List.getElem?_eq_getElem hi]; rfl
        rw [List.take_succ_eq_append_getElem hi, List.map_append]
        refine JF.step hJ ?_
        rw [hlen]; exact hD
      · rintro σ' H1 ⟨sm, _, lr, rs, x3, x4, x5, hRow, hJ, hrE, rfl⟩
        rw [List.length_map, List.take_length] at hJ
        rw [List.length_map] at hrE
        exact hR _ _ ⟨sm, lr, rs, x3, x4, x5, hRow, hJ, hrE, rfl⟩
    rintro σ' H1 ⟨sm, lr, rs, x3, x4, x5, ⟨ts, hts, htu⟩, hJ, hrE, rfl⟩
    have hsr : rs.length ≤ 60 := Nat.le_trans hJ.len (by rw [List.map_map]; exact hsum)
    have hlt := hJ.lt
    rw [List.length_map] at hlt
    refine ⟨_, rfl, l, _, rfl, .inl (SqL.of (sm _ _ hl)), ?_⟩
    rw [List.length_map]
    refine ⟨_, _, rfl, rfl, one_shl (by omega), ?_⟩
    dsimp only
    rw [shl_n]
    refine ⟨_, _, rfl, rfl, ?_⟩
    have ef : (((2 ^ txs.length : Nat) : Int)) - 1 = ((2 ^ txs.length - 1 : Nat) : Int) := by have := Nat.two_pow_pos txs.length; omega
    try dsimp only [gName]
    rw [ef]
    have hrow : ∀ q ∈ rs, q.1.length ≤ 1000 := fun q hq => by
      obtain ⟨x, hx, hm⟩ := hJ.mem q hq
      obtain ⟨t, ht, rfl⟩ := List.mem_map.mp hx
      exact hrl t ht _ hm
    have h1 := htu.1
    refine ⟨rfl, _, rfl, lr, rfl, ⟨_, SqL.of hts⟩, ?_⟩
    refine comp2_list (K := K) (a := lr) (xs := ts.map V.ref) (fun i ys H' => Same H1 H' ∧ i ≤ 60 ∧ ys = ((rs.take i).map fun p => lineT n txs.length p).map V.str) ⟨Same.refl _, Nat.zero_le _, rfl⟩ (fun i ys H' _ z => SqL.of (z.1 _ _ hts)) ?_ ?_
    · rintro i x ys H2 hx ⟨sm2, _, rfl⟩
      have hi : i < ts.length := by
        have := (List.getElem?_eq_some_iff.mp hx).1
        rw [List.length_map] at this; exact this
      have hir : i < rs.length := by omega
      have ex : x = V.ref ts[i] := by rw [List.getElem?_map, List.getElem?_eq_getElem hi] at hx; exact (Option.some.inj hx).symm
      subst ex
      have hti := sm2 _ _ (htu.2 i ts[i] rs[i] (List.getElem?_eq_getElem hi) (List.getElem?_eq_getElem hir))
      have et : ((rs.take (i + 1)).map fun p => lineT n txs.length p).map V.str = ((rs.take i).map fun p => lineT n txs.length p).map V.str ++ [V.str ((fun p : Str × Nat => lineT n txs.length p) rs[i])] := by rw [List.take_succ_eq_append_getElem hir, List.map_append, List.map_append]; rfl
      have hln : (((rs.take i).map fun p => lineT n txs.length p).map V.str).length < sizeLine := by rw [List.length_map, List.length_map, List.length_take]; exact small1000 (by omega)
      intro os' hos
      obtain ⟨a, b, rfl⟩ := two_of hos
      refine ⟨ts[i], _, rfl, SqT.of hti, rfl, _, _, rfl, _, _, rfl, rfl, ⟨[_, _], rfl, rfl⟩, ?_⟩
      refine tYes_ok ?_
      rw [if_pos rfl]
      refine ⟨_, rfl, _, rfl, rfl, _, rfl, ?_⟩
      by_cases hm : rs[i].2 = 2 ^ txs.length - 1
      · rw [decide_eq_true (by rw [hm])]
        refine iteT ?_
        refine ⟨_, rfl, hln, sm2, by omega, ?_⟩
        rw [et]
        rw [show (fun p : Str × Nat => lineT n txs.length p) rs[i] = rs[i].1 from if_pos hm]
      · rw [decide_eq_false (fun z => hm (by injection z with z; omega))]
        refine iteF ?_
        refine ⟨_, rfl, _, rfl, _, rfl, rs[i].1, rs[i].2, n, rfl, hn, Nat.lt_of_lt_of_le (hlt rs[i] (List.getElem_mem hir)) (Nat.pow_le_pow_right (by decide) h2n), hrow rs[i] (List.getElem_mem hir), hln, sm2, by omega, ?_⟩
        rw [et, show (fun p : Str × Nat => lineT n txs.length p) rs[i] = grpT n rs[i].2 rs[i].1 from if_neg hm]
    rintro ys H2 ⟨sm2, _, rfl⟩ pj hpj
    rw [List.length_map, h1, List.take_length]
    refine ⟨_, pj, _, rfl, rfl, SqL.of upd_same, (by rw [e_nl']; decide), weigh (b := 5000) (k := 60) (fun z hz => ?_) (by rw [List.length_map]; omega) (by decide), ?_⟩
    · obtain ⟨q, hq, rfl⟩ := List.mem_map.mp hz
      exact line_len hn (hrow q hq)
    rw [e_nl']
    rw [hrE] at hJ ⊢
    exact k hJ _ ((sm.trans sm2).trans (same_upd hpj))
end
section
variable {P : Program} {w : World} {K : PySem.W.Frag} {mg : Str → Option Value} {base : Heap} {AA : Adr} {DD : Fds}
/-! numbers mixed, words, rows -/
noncomputable def spCellAt (K : PySem.W.Frag) : Sp := fun vs H Q _ => ∃ (a : Addr) (ns : List Int) (j : Nat), vs = [.ref a, .int ((j : Nat) : Int)] ∧ SqL K H a (ns.map V.int) ∧ ∀ c : Int, Q (.int c) H
noncomputable abbrev N_law_cell_at : List Str := ["_law_script", "_law_k"]
theorem sc_law_cell_at : FnScope N_law_cell_at ["_law_script", "_law_k"] (defScope st_law_cell_at) := ⟨rfl, rfl, rfl, by decide +kernel, rfl, by decide +kernel, by decide +kernel⟩
theorem ok_cellat (T : All P w K mg AA DD) : FnOk P w K mg base CX0 1 AA.law_cell_at DD.law_cell_at ["_law_script", "_law_k"] (spCellAt K) := by
  refine T.F_law_cell_at.ok sc_law_cell_at (fun vs H Q E h => ?_) (fun cdv A outer s H vs Q E hr h => ?_)
  · obtain ⟨a, ns, k, rfl, _⟩ := h
    rfl
  · obtain ⟨a, ns, j, rfl, hS, k⟩ := h
    have nd := sc_law_cell_at.nd
    refine ⟨_, (@pss_cons _ _ _ _ _ (@ps_if _ _ _ _ _ _ _ _ (@pt_cmpR _ _ _ _ _ _ _ _ op_lt (pv 1) (pe_callB call_len_seq rfl T.n_len bt_len (@pa_cons _ _ _ _ _ (pv 0) pa_nil (by rfl))) (nomark _)) (@pss_one _ _ _ (@ps_ret _ _ _ _ (@pe_ix _ _ _ _ _ _ _ (ix_listK (K := K) rfl) (pv 0) (pv 1) (fun _ _ => rfl)))) pss_nil) (@pss_one _ _ _ (@ps_ret _ _ _ _ pe_int))), ?_⟩
    refine ⟨_, rfl, _, rfl, a, _, rfl, .inl hS, _, _, rfl, rfl, _, rfl, ?_⟩
    rw [List.length_map]
    refine ite2 (fun h1 => ?_) (fun h1 => k 0)
    have h1 : ((j : Nat) : Int) < (ns.length : Int) := of_decide_eq_true h1
    exact ⟨_, rfl, _, rfl, a, _, _, _, rfl, rfl, hS, atI_nat (j := j) (by rw [List.getElem?_map, List.getElem?_eq_getElem (by omega)]; rfl), k _⟩
noncomputable def spMixed : Sp := fun vs H Q _ => ∃ c k : Int, vs = [.int c, .int k] ∧ ∀ r : Int, 0 ≤ r → r < 2147483647 → Q (.int r) H
noncomputable abbrev N_law_mixed : List Str := ["_law_cell", "_law_k", "_law_number"]
theorem sc_law_mixed : FnScope N_law_mixed ["_law_cell", "_law_k"] (defScope st_law_mixed) := ⟨rfl, rfl, rfl, by decide +kernel, rfl, by decide +kernel, by decide +kernel⟩
theorem ok_mixed (T : All P w K mg AA DD) : FnOk P w K mg base CX0 1 AA.law_mixed DD.law_mixed ["_law_cell", "_law_k"] spMixed := by
  refine T.F_law_mixed.ok sc_law_mixed (fun vs H Q E h => ?_) (fun cdv A outer s H vs Q E hr h => ?_)
  · obtain ⟨c, k, rfl, _⟩ := h
    rfl
  · obtain ⟨c, j, rfl, k⟩ := h
    have nd := sc_law_mixed.nd
    refine ⟨_, (@pss_cons _ _ _ _ _ (@ps_set _ _ 2 _ _ _ _ nd rfl (Or.inl rfl) (@pe_op _ _ _ _ _ _ _ _ op_mod (@pe_op _ _ _ _ _ _ _ _ op_mul (@pe_op _ _ _ _ _ _ _ _ op_add (@pe_op _ _ _ _ _ _ _ _ op_add (pv 0) (@pe_op _ _ _ _ _ _ _ _ op_mul pe_int (pv 1))) pe_int) pe_int) pe_int) (by rfl) (by first | exact .inl rfl | exact .inr rfl | assumption)) (@pss_one _ _ _ (@ps_ret _ _ _ _ (@pe_op _ _ _ _ _ _ _ _ op_mod (@pe_op _ _ _ _ _ _ _ _ op_mul (pv 2) (@pe_op _ _ _ _ _ _ _ _ op_add (@pe_op _ _ _ _ _ _ _ _ op_fdiv (pv 2) pe_int) pe_int)) pe_int)))), ?_⟩
    refine ⟨_, rfl, _, rfl, _, _, rfl, rfl, .inl ⟨by decide, by decide⟩, _, _, rfl, rfl, _, _, rfl, rfl, _, _, rfl, rfl, .inr ⟨by decide, by decide⟩, _, _, rfl, rfl, (by show (0 : Int) < 2147483647; decide), ?_⟩
    try dsimp only [gName]
    have b0 := Int.emod_nonneg ((c + 7919 * j + 1) * 48271) (show (2147483647 : Int) ≠ 0 by decide)
    have b1 := Int.emod_lt_of_pos ((c + 7919 * j + 1) * 48271) (show (0 : Int) < 2147483647 by decide)
    generalize (c + 7919 * j + 1) * 48271 % 2147483647 = y at b0 b1 ⊢
    refine ⟨_, rfl, _, rfl, _, _, rfl, rfl, ⟨by decide, by decide⟩, _, _, rfl, rfl, _, _, rfl, rfl, .inl ⟨by omega, by omega⟩, _, _, rfl, rfl, (by show (0 : Int) < 2147483647; decide), ?_⟩
    exact k _ (Int.emod_nonneg _ (by decide)) (Int.emod_lt_of_pos _ (by decide))
/-! draws: a table that a number is taken of -/
theorem bt_abs : bootBuiltins "abs" = some (.builtin "abs") := by decide +kernel
noncomputable def drK (a : Addr) (w l : Int) (t : Nat) (x : Int) (k : Nat) : List (Key × V) := [(.inr "script", .ref a), (.inr "way", .int w), (.inr "left", .int l), (.inr "at", .int ((t : Nat) : Int)), (.inr "number", .int x), (.inr "k", .int ((k : Nat) : Int))]
theorem kne {a b : Str} (h : a ≠ b) : ¬ ((.inr a : Key) = .inr b) := fun z => h (by injection z)
section
variable (a : Addr) (w l : Int) (t : Nat) (x : Int) (k : Nat)
theorem dr_script : valV (drK a w l t x k) (.inr "script") = some (.ref a) := valV_pos rfl
theorem dr_way : valV (drK a w l t x k) (.inr "way") = some (.int w) := by
  unfold drK; rw [valV_neg (kne (by decide +kernel)), valV_pos rfl]
theorem dr_left : valV (drK a w l t x k) (.inr "left") = some (.int l) := by
  unfold drK; rw [valV_neg (kne (by decide +kernel)), valV_neg (kne (by decide +kernel)), valV_pos rfl]
theorem dr_at : valV (drK a w l t x k) (.inr "at") = some (.int ((t : Nat) : Int)) := by
  unfold drK; rw [valV_neg (kne (by decide +kernel)), valV_neg (kne (by decide +kernel)), valV_neg (kne (by decide +kernel)), valV_pos rfl]
theorem dr_number : valV (drK a w l t x k) (.inr "number") = some (.int x) := by
  unfold drK; rw [valV_neg (kne (by decide +kernel)), valV_neg (kne (by decide +kernel)), valV_neg (kne (by decide +kernel)), valV_neg (kne (by decide +kernel)), valV_pos rfl]
theorem dr_k : valV (drK a w l t x k) (.inr "k") = some (.int ((k : Nat) : Int)) := by
  unfold drK; rw [valV_neg (kne (by decide +kernel)), valV_neg (kne (by decide +kernel)), valV_neg (kne (by decide +kernel)), valV_neg (kne (by decide +kernel)), valV_neg (kne (by decide +kernel)), valV_pos rfl]
theorem putK_is {kvs : List (Key × V)} {k : Key} {v : V} (h : (valV kvs k).isSome = true) : putK kvs k v = kvs.map (fun kv => if kv.1 = k then (kv.1, v) else kv) := by
  unfold putK; rw [valV_any, h, if_pos rfl]
theorem put_left (l' : Int) : putK (drK a w l t x k) (.inr "left") (.int l') = drK a w l' t x k := by
  rw [putK_is (by rw [dr_left]; rfl)]
  unfold drK
  simp only [List.map_cons, List.map_nil]
  rw [if_neg (kne (by decide +kernel)), if_neg (kne (by decide +kernel)), if_pos trivial, if_neg (kne (by decide +kernel)), if_neg (kne (by decide +kernel)), if_neg (kne (by decide +kernel))]
theorem put_at (t' : Nat) : putK (drK a w l t x k) (.inr "at") (.int ((t' : Nat) : Int)) = drK a w l t' x k := by
  rw [putK_is (by rw [dr_at]; rfl)]
  unfold drK
  simp only [List.map_cons, List.map_nil]
  rw [if_neg (kne (by decide +kernel)), if_neg (kne (by decide +kernel)), if_neg (kne (by decide +kernel)), if_pos trivial, if_neg (kne (by decide +kernel)), if_neg (kne (by decide +kernel))]
theorem put_number (x' : Int) : putK (drK a w l t x k) (.inr "number") (.int x') = drK a w l t x' k := by
  rw [putK_is (by rw [dr_number]; rfl)]
  unfold drK
  simp only [List.map_cons, List.map_nil]
  rw [if_neg (kne (by decide +kernel)), if_neg (kne (by decide +kernel)), if_neg (kne (by decide +kernel)), if_neg (kne (by decide +kernel)), if_pos trivial, if_neg (kne (by decide +kernel))]
theorem put_k (k' : Nat) : putK (drK a w l t x k) (.inr "k") (.int ((k' : Nat) : Int)) = drK a w l t x k' := by
  rw [putK_is (by rw [dr_k]; rfl)]
  unfold drK
  simp only [List.map_cons, List.map_nil]
  rw [if_neg (kne (by decide +kernel)), if_neg (kne (by decide +kernel)), if_neg (kne (by decide +kernel)), if_neg (kne (by decide +kernel)), if_neg (kne (by decide +kernel)), if_pos trivial]
end
theorem mk_dr (a : Addr) (w x : Int) : mergeK [] [(.inr "script", .ref a), (.inr "way", .int w), (.inr "left", .int 0), (.inr "at", .int 1), (.inr "number", .int x), (.inr "k", .int 0)] = drK a w 0 1 x 0 := by
  have p0 : putK ([] : List (Key × V)) (.inr "script") (.ref a) = [(.inr "script", .ref a)] := putK_new _ valV_nil
  have p1 : putK ([(.inr "script", .ref a)] : List (Key × V)) (.inr "way") (.int w) = [(.inr "script", .ref a), (.inr "way", .int w)] := putK_new _ (by rw [valV_neg (kne (by decide +kernel)), valV_nil])
  have p2 : putK ([(.inr "script", .ref a), (.inr "way", .int w)] : List (Key × V)) (.inr "left") (.int 0) = [(.inr "script", .ref a), (.inr "way", .int w), (.inr "left", .int 0)] := putK_new _ (by rw [valV_neg (kne (by decide +kernel)), valV_neg (kne (by decide +kernel)), valV_nil])
  have p3 : putK ([(.inr "script", .ref a), (.inr "way", .int w), (.inr "left", .int 0)] : List (Key × V)) (.inr "at") (.int 1) = [(.inr "script", .ref a), (.inr "way", .int w), (.inr "left", .int 0), (.inr "at", .int 1)] := putK_new _ (by rw [valV_neg (kne (by decide +kernel)), valV_neg (kne (by decide +kernel)), valV_neg (kne (by decide +kernel)), valV_nil])
  have p4 : putK ([(.inr "script", .ref a), (.inr "way", .int w), (.inr "left", .int 0), (.inr "at", .int 1)] : List (Key × V)) (.inr "number") (.int x) = [(.inr "script", .ref a), (.inr "way", .int w), (.inr "left", .int 0), (.inr "at", .int 1), (.inr "number", .int x)] := putK_new _ (by rw [valV_neg (kne (by decide +kernel)), valV_neg (kne (by decide +kernel)), valV_neg (kne (by decide +kernel)), valV_neg (kne (by decide +kernel)), valV_nil])
  have p5 : putK ([(.inr "script", .ref a), (.inr "way", .int w), (.inr "left", .int 0), (.inr "at", .int 1), (.inr "number", .int x)] : List (Key × V)) (.inr "k") (.int 0) = [(.inr "script", .ref a), (.inr "way", .int w), (.inr "left", .int 0), (.inr "at", .int 1), (.inr "number", .int x), (.inr "k", .int 0)] := putK_new _ (by rw [valV_neg (kne (by decide +kernel)), valV_neg (kne (by decide +kernel)), valV_neg (kne (by decide +kernel)), valV_neg (kne (by decide +kernel)), valV_neg (kne (by decide +kernel)), valV_nil])
  show putK (putK (putK (putK (putK (putK ([] : List (Key × V)) (.inr "script") (.ref a)) (.inr "way") (.int w)) (.inr "left") (.int 0)) (.inr "at") (.int 1)) (.inr "number") (.int x)) (.inr "k") (.int 0) = _
  rw [p0, p1, p2, p3, p4, p5]
  rfl
/-- the draws at d, of the script at a -/
noncomputable def Dr (H : Hp) (d a : Addr) : Prop := ∃ (w l x : Int) (t k : Nat), 0 ≤ l ∧ H d = some (.dK (drK a w l t x k))
/-- all but d stays -/
noncomputable def But (d : Addr) (H H' : Hp) : Prop := ∀ b u, H b = some u → b ≠ d → H' b = some u
theorem But.refl (d : Addr) (H : Hp) : But d H H := fun _ _ h _ => h
theorem But.trans {d : Addr} {H H1 H2 : Hp} (a : But d H H1) (b : But d H1 H2) : But d H H2 := fun _ _ h n => b _ _ (a _ _ h n) n
theorem But.upd {d : Addr} {B H : Hp} (h : But d B H) (x : HO) : But d B (upd H d x) := fun b u e n => by rw [upd_ne n]; exact h b u e n
theorem But.same {d : Addr} {B H H' : Hp} (h : But d B H) (s : Same H H') : But d B H' := fun b u e n => s _ _ (h b u e n)
theorem Dr.same {H H' : Hp} {d a : Addr} (h : Dr H d a) (s : Same H H') : Dr H' d a := by
  obtain ⟨w, l, x, t, k, h0, e⟩ := h
  exact ⟨w, l, x, t, k, h0, s _ _ e⟩
theorem Dr.seq {H H' : Hp} {d a c : Addr} {xs : List V} (h : Dr H d a) (b : But d H H') (s : SqL K H c xs) : SqL K H' c xs := by
  obtain ⟨w, l, x, t, k, h0, e⟩ := h
  rcases s with (s | ⟨o, s⟩) | s
  · exact .inl (.inl (b _ _ s (by rintro rfl; rw [e] at s; cases s)))
  · exact .inl (.inr ⟨o, b _ _ s (by rintro rfl; rw [e] at s; cases s)⟩)
  · exact .inr s
section
variable {H : Hp} {d a : Addr} {w l x : Int} {t k : Nat} (h : H d = some (.dK (drK a w l t x k)))
include h
theorem dg_script : DGet H d (.str "script") (some (.ref a)) := by have := DGet.k (k := .inr "script") h; rw [dr_script] at this; exact this
theorem dg_way : DGet H d (.str "way") (some (.int w)) := by have := DGet.k (k := .inr "way") h; rw [dr_way] at this; exact this
theorem dg_left : DGet H d (.str "left") (some (.int l)) := by have := DGet.k (k := .inr "left") h; rw [dr_left] at this; exact this
theorem dg_at : DGet H d (.str "at") (some (.int ((t : Nat) : Int))) := by have := DGet.k (k := .inr "at") h; rw [dr_at] at this; exact this
theorem dg_number : DGet H d (.str "number") (some (.int x)) := by have := DGet.k (k := .inr "number") h; rw [dr_number] at this; exact this
theorem dg_k : DGet H d (.str "k") (some (.int ((k : Nat) : Int))) := by have := DGet.k (k := .inr "k") h; rw [dr_k] at this; exact this
theorem dp_left (l' : Int) : DPut H d (.str "left") (.int l') (upd H d (.dK (drK a w l' t x k))) := by have := DPut.k (k := .inr "left") (v := .int l') h (by show 6 < sizeLine; decide); rw [put_left] at this; exact this
theorem dp_at (t' : Nat) : DPut H d (.str "at") (.int ((t' : Nat) : Int)) (upd H d (.dK (drK a w l t' x k))) := by have := DPut.k (k := .inr "at") (v := .int ((t' : Nat) : Int)) h (by show 6 < sizeLine; decide); rw [put_at] at this; exact this
theorem dp_number (x' : Int) : DPut H d (.str "number") (.int x') (upd H d (.dK (drK a w l t x' k))) := by have := DPut.k (k := .inr "number") (v := .int x') h (by show 6 < sizeLine; decide); rw [put_number] at this; exact this
theorem dp_k (k' : Nat) : DPut H d (.str "k") (.int ((k' : Nat) : Int)) (upd H d (.dK (drK a w l t x k'))) := by have := DPut.k (k := .inr "k") (v := .int ((k' : Nat) : Int)) h (by show 6 < sizeLine; decide); rw [put_k] at this; exact this
end
noncomputable def spDraws (K : PySem.W.Frag) : Sp := fun vs H Q _ => ∃ (a : Addr) (ns : List Int), vs = [.ref a] ∧ SqL K H a (ns.map V.int) ∧ ∀ d H', H d = none → Same H H' → Dr H' d a → Q (.ref d) H'
noncomputable abbrev N_law_draws : List Str := ["_law_script", "_law_first"]
theorem sc_law_draws : FnScope N_law_draws ["_law_script"] (defScope st_law_draws) := ⟨rfl, rfl, rfl, by decide +kernel, rfl, by decide +kernel, by decide +kernel⟩
theorem ok_draws (T : All P w K mg AA DD) : FnOk P w K mg base CX0 2 AA.law_draws DD.law_draws ["_law_script"] (spDraws K) := by
  have GE := ok_cellat (base := base) T
  refine T.F_law_draws.ok sc_law_draws (fun vs H Q E h => ?_) (fun cdv A outer s H vs Q E hr h => ?_)
  · obtain ⟨a, ns, rfl, _⟩ := h
    rfl
  · obtain ⟨a, ns, rfl, hS, k⟩ := h
    have nd := sc_law_draws.nd
    have hr1 : Room 1 _ := hr
    refine ⟨_, (@pss_cons _ _ _ _ _ (@ps_set _ _ 1 _ _ _ _ nd rfl (Or.inl rfl) (pe_call GE hr1 rfl T.m_law_cell_at T.k_law_cell_at T.b_law_cell_at .nil pass0 (@pa_cons _ _ _ _ _ (pv 0) (@pa_cons _ _ _ _ _ pe_int pa_nil (by rfl)) (by rfl))) (by rfl) (by first | exact .inl rfl | exact .inr rfl | assumption)) (@pss_one _ _ _ (@ps_ret _ _ _ _ (pe_disp (pps_cons pe_str (pv 0) (pps_cons pe_str (@pe_op _ _ _ _ _ _ _ _ op_mod (pv 1) pe_int) (pps_cons pe_str pe_int (pps_cons pe_str pe_int (pps_cons pe_str (pv 1) (pps_cons pe_str pe_int pps_nil)))))) rfl rfl (by simp) (by decide))))), ?_⟩
    refine ⟨_, rfl, a, ns, 0, rfl, hS, fun c => ?_⟩
    try dsimp only [gName]
    refine fun p hp => ?_
    refine ⟨_, rfl, _, rfl, _, _, rfl, rfl, (by show (0 : Int) < 2; decide), _, rfl, upd_same, [(.inr "script", .ref a), (.inr "way", .int (c % 2)), (.inr "left", .int 0), (.inr "at", .int 1), (.inr "number", .int c), (.inr "k", .int 0)], rfl, by show 6 ≤ 15; decide, ?_⟩
    rw [mk_dr, upd_upd]
    exact k p _ hp (same_upd hp) ⟨_, _, _, _, _, Int.le_refl 0, upd_same⟩
noncomputable def spNext (K : PySem.W.Frag) : Sp := fun vs H Q _ => ∃ (d a : Addr) (ns : List Int), vs = [.ref d] ∧ Dr H d a ∧ SqL K H a (ns.map V.int) ∧ ∀ (r : Int) H', 0 ≤ r → But d H H' → Dr H' d a → Q (.int r) H'
noncomputable abbrev N_law_next : List Str := ["_law_draws_here", "_law_found", "_law_number"]
theorem sc_law_next : FnScope N_law_next ["_law_draws_here"] (defScope st_law_next) := ⟨rfl, rfl, rfl, by decide +kernel, rfl, by decide +kernel, by decide +kernel⟩
theorem ok_next (T : All P w K mg AA DD) : FnOk P w K mg base CX0 2 AA.law_next DD.law_next ["_law_draws_here"] (spNext K) := by
  have GE := ok_cellat (base := base) T
  have GX := ok_mixed (base := base) T
  refine T.F_law_next.ok sc_law_next (fun vs H Q E h => ?_) (fun cdv A outer s H vs Q E hr h => ?_)
  · obtain ⟨d, a, ns, rfl, _⟩ := h
    rfl
  · obtain ⟨d, a, ns, rfl, hD, hS, k⟩ := h
    have nd := sc_law_next.nd
    have hu := Nat.lt_of_le_of_lt (Nat.add_le_add_left (show 1 ≤ 64 by decide) _) hr.units
    have hr1 : Room 1 _ := hr
    refine ⟨_, (@pss_cons _ _ _ _ _ (@ps_while _ _ _ _ _ _ PassesOwn.never (PW.pt (pw_and (@pt_cmpR _ _ _ _ _ _ _ _ op_eq (pe_dget hu (pv 0) pe_str (fun _ _ => rfl)) pe_int (nomark _)) (pw_and (@pt_cmpR _ _ _ _ _ _ _ _ op_eq (pe_dget hu (pv 0) pe_str (fun _ _ => rfl)) pe_int (nomark _)) (pw_and1 (@pt_cmpR _ _ _ _ _ _ _ _ op_lt (pe_dget hu (pv 0) pe_str (fun _ _ => rfl)) (pe_callB call_len_seq rfl T.n_len bt_len (@pa_cons _ _ _ _ _ (pe_dget hu (pv 0) pe_str (fun _ _ => rfl)) pa_nil (by rfl))) (nomark _)))))) (@pss_cons _ _ _ _ _ (ps_dput hu (pv 0) pe_str (pe_callB call_abs rfl T.n_abs bt_abs (@pa_cons _ _ _ _ _ (@pe_ix _ _ _ _ _ _ _ (ix_listK (K := K) rfl) (pe_dget hu (pv 0) pe_str (fun _ _ => rfl)) (pe_dget hu (pv 0) pe_str (fun _ _ => rfl)) (fun _ _ => rfl)) pa_nil (by rfl))) rfl) (@pss_one _ _ _ (ps_dput hu (pv 0) pe_str (@pe_op _ _ _ _ _ _ _ _ op_add (pe_dget hu (pv 0) pe_str (fun _ _ => rfl)) pe_int) rfl)))) (@pss_cons _ _ _ _ _ (@ps_if _ _ _ _ _ _ _ _ (@pt_cmpR _ _ _ _ _ _ _ _ op_gt (pe_dget hu (pv 0) pe_str (fun _ _ => rfl)) pe_int (nomark _)) (@pss_cons _ _ _ _ _ (@ps_set _ _ 1 _ _ _ _ nd rfl (Or.inl rfl) (@pe_op _ _ _ _ _ _ _ _ op_mod (pe_dget hu (pv 0) pe_str (fun _ _ => rfl)) pe_int) (by rfl) (by first | exact .inl rfl | exact .inr rfl | assumption)) (@pss_cons _ _ _ _ _ (ps_dput hu (pv 0) pe_str (@pe_op _ _ _ _ _ _ _ _ op_fdiv (pe_dget hu (pv 0) pe_str (fun _ _ => rfl)) pe_int) rfl) (@pss_one _ _ _ (@ps_ret _ _ _ _ (pv 1))))) pss_nil) (@pss_cons _ _ _ _ _ (ps_dput hu (pv 0) pe_str (@pe_op _ _ _ _ _ _ _ _ op_add (pe_dget hu (pv 0) pe_str (fun _ _ => rfl)) pe_int) rfl) (@pss_cons _ _ _ _ _ (@ps_set _ _ 2 _ _ _ _ nd rfl (Or.inl rfl) (@pe_op _ _ _ _ _ _ _ _ op_add (pe_dget hu (pv 0) pe_str (fun _ _ => rfl)) (pe_call GE hr1 rfl T.m_law_cell_at T.k_law_cell_at T.b_law_cell_at .nil pass0 (@pa_cons _ _ _ _ _ (pe_dget hu (pv 0) pe_str (fun _ _ => rfl)) (@pa_cons _ _ _ _ _ (pe_dget hu (pv 0) pe_str (fun _ _ => rfl)) pa_nil (by rfl)) (by rfl)))) (by rfl) (by first | exact .inl rfl | exact .inr rfl | assumption)) (@pss_cons _ _ _ _ _ (ps_dput hu (pv 0) pe_str (pe_call GX hr1 rfl T.m_law_mixed T.k_law_mixed T.b_law_mixed .nil pass0 (@pa_cons _ _ _ _ _ (pv 2) (@pa_cons _ _ _ _ _ (pe_dget hu (pv 0) pe_str (fun _ _ => rfl)) pa_nil (by rfl)) (by rfl))) rfl) (@pss_one _ _ _ (@ps_ret _ _ _ _ (pe_call GX hr1 rfl T.m_law_mixed T.k_law_mixed T.b_law_mixed .nil pass0 (@pa_cons _ _ _ _ _ (pe_dget hu (pv 0) pe_str (fun _ _ => rfl)) (@pa_cons _ _ _ _ _ pe_int pa_nil (by rfl)) (by rfl)))))))))), ?_⟩
    refine cut_while (fun σ' H' => But d H H' ∧ Dr H' d a ∧ σ' = [some (.ref d), none, none]) (fun R hR => ?_) ?_
    · refine ⟨fun m σ' H' => ∃ (w l x : Int) (t k : Nat), 0 ≤ l ∧ H' d = some (.dK (drK a w l t x k)) ∧ But d H H' ∧ σ' = [some (.ref d), none, none] ∧ m = ns.length - t, ?_, ?_⟩
      · obtain ⟨w, l, x, t, k, h0, e⟩ := hD
        exact ⟨_, w, l, x, t, k, h0, e, But.refl _ _, rfl, rfl⟩
      · rintro m σ' H1 ⟨w, l, x, t, k, h0, e, hb, rfl, rfl⟩
        have hS1 := hD.seq hb hS
        have out : R [some (.ref d), none, none] H1 := hR _ _ ⟨hb, ⟨w, l, x, t, k, h0, e⟩, rfl⟩
        refine ⟨_, rfl, d, _, rfl, dg_way e, rfl, _, rfl, ?_⟩
        refine ite2 (fun h1 => ⟨_, rfl, d, _, rfl, dg_left e, rfl, _, rfl, ite2 (fun h2 => ⟨_, rfl, d, _, rfl, dg_at e, _, rfl, d, _, rfl, dg_script e, a, _, rfl, .inl hS1, _, _, rfl, rfl, _, rfl, ite2 (fun h3 => ?C) (fun h3 => out)⟩) (fun h2 => iteF out)⟩) (fun h1 => iteF out)
        rw [List.length_map] at h3
        have h3 : ((t : Nat) : Int) < (ns.length : Int) := of_decide_eq_true h3
        have ht : t < ns.length := by omega
        refine ⟨fun σ' H' => ∃ (w l x : Int) (k : Nat), 0 ≤ l ∧ H' d = some (.dK (drK a w l (t + 1) x k)) ∧ But d H H' ∧ σ' = [some (.ref d), none, none], ?_, ?_⟩
        · rintro σ2 H2 ⟨w, l, x, k, h0, e, hb, rfl⟩
          exact ⟨ns.length - (t + 1), by omega, w, l, x, t + 1, k, h0, e, hb, rfl, rfl⟩
        refine ⟨_, rfl, d, _, rfl, dg_script e, _, rfl, d, _, rfl, dg_at e, a, _, _, _, rfl, rfl, hS1, atI_nat (j := t) (by rw [List.getElem?_map, List.getElem?_eq_getElem ht]; rfl), _, rfl, ?_⟩
        refine ⟨_, rfl, d, _, rfl, dp_left e _, ?_⟩
        have e2 : upd H1 d (.dK (drK a w (if ns[t] < 0 then -ns[t] else ns[t]) t x k)) d = some (.dK (drK a w (if ns[t] < 0 then -ns[t] else ns[t]) t x k)) := upd_same
        refine ⟨_, rfl, d, _, rfl, dg_at e2, _, _, rfl, rfl, _, rfl, d, _, rfl, dp_at e2 (t + 1), ?_⟩
        refine ⟨w, _, x, k, ?_, upd_same, (hb.upd _).upd _, rfl⟩
        split <;> omega
    rintro σ' H1 ⟨hb, ⟨w, l, x, t, j, h0, e⟩, rfl⟩
    have hS1 := hD.seq hb hS
    refine ⟨_, rfl, d, _, rfl, dg_left e, _, _, rfl, rfl, _, rfl, ?_⟩
    refine ite2 (fun h1 => ?_) (fun h1 => ?_)
    · refine ⟨_, rfl, d, _, rfl, dg_left e, _, _, rfl, rfl, (by show (0 : Int) < 1000003; decide), ?_⟩
      try dsimp only [gName]
      refine ⟨_, rfl, d, _, rfl, dg_left e, _, _, rfl, rfl, ⟨by decide, by decide⟩, _, rfl, d, _, rfl, dp_left e _, ?_⟩
      exact ⟨_, rfl, k _ _ (Int.emod_nonneg _ (by decide)) (hb.upd _) ⟨w, _, x, t, j, Int.ediv_nonneg h0 (by decide), upd_same⟩⟩
    · refine ⟨_, rfl, d, _, rfl, dg_k e, _, _, rfl, rfl, _, rfl, d, _, rfl, dp_k e (j + 1), ?_⟩
      have e2 : upd H1 d (.dK (drK a w l t x (j + 1))) d = some (.dK (drK a w l t x (j + 1))) := upd_same
      have hb2 := hb.upd (.dK (drK a w l t x (j + 1)))
      have hS2 := hD.seq hb2 hS
      generalize upd H1 d (.dK (drK a w l t x (j + 1))) = H2 at e2 hb2 hS2 ⊢
      refine ⟨_, rfl, d, _, rfl, dg_number e2, _, rfl, d, _, rfl, dg_script e2, _, rfl, d, _, rfl, dg_k e2, a, ns, j + 1, rfl, hS2, fun c => ⟨_, _, rfl, rfl, ?_⟩⟩
      try dsimp only [gName]
      refine ⟨_, rfl, _, rfl, d, _, rfl, dg_k e2, _, _, rfl, fun r hr0 hr1 => ⟨_, rfl, d, _, rfl, dp_number e2 r, ?_⟩⟩
      have e3 : upd H2 d (.dK (drK a w l t r (j + 1))) d = some (.dK (drK a w l t r (j + 1))) := upd_same
      refine ⟨_, rfl, d, _, rfl, dg_number e3, _, _, rfl, fun r2 hr2 _ => ?_⟩
      exact k _ _ hr2 (hb2.upd _) ⟨w, l, r, t, j + 1, h0, e3⟩
end
section
variable {P : Program} {w : World} {K : PySem.W.Frag} {mg : Str → Option Value} {base : Heap} {AA : Adr} {DD : Fds}
/-! the law's wishes, words and rows, drawn -/
noncomputable def wl74 : Nat → Nat
  | 0 => 1
  | j + 1 => 2 + 2 * wl74 j
noncomputable def spWish (K : PySem.W.Frag) (j : Nat) : Sp := fun vs H Q _ => ∃ (d a : Addr) (ns : List Int) (n : Nat), vs = [.ref d, .int ((n : Nat) : Int), .int ((j : Nat) : Int)] ∧ n ≤ 5 ∧ j ≤ 2 ∧ Dr H d a ∧ SqL K H a (ns.map V.int) ∧ ∀ (z : Str) (v : W) (H' : Hp), v.ok n → z.cps.toList = v.signs → z.length ≤ wl74 j → But d H H' → Dr H' d a → Q (.str z) H'
noncomputable def spPrev (K : PySem.W.Frag) : Nat → Sp
  | 0 => fun _ _ _ _ => False
  | j + 1 => spWish K j
theorem e5_at {j : Nat} (h : j < 5) : atI ("abcde" : Str).cps.toList ((j : Nat) : Int) = some (97 + j) := by
  have : ∀ j, j < 5 → atI ("abcde" : Str).cps.toList ((j : Nat) : Int) = some (97 + j) := by decide +kernel
  exact this j h
noncomputable abbrev N_law_wish : List Str := ["_law_draws_here", "_law_n", "_law_deep", "_law_form", "_law_letter", "_law_one", "_law_other"]
theorem sc_law_wish : FnScope N_law_wish ["_law_draws_here", "_law_n", "_law_deep"] (defScope st_law_wish) := ⟨rfl, rfl, rfl, by decide +kernel, rfl, by decide +kernel, by decide +kernel⟩
theorem wish_step (T : All P w K mg AA DD) (j : Nat) (GV : FnOk P w K mg base CX0 (j + 2) AA.law_wish DD.law_wish ["_law_draws_here", "_law_n", "_law_deep"] (spPrev K j)) : FnOk P w K mg base CX0 (j + 3) AA.law_wish DD.law_wish ["_law_draws_here", "_law_n", "_law_deep"] (spWish K j) := by
  have GN := ok_next (base := base) T
  refine T.F_law_wish.ok sc_law_wish (fun vs H Q E h => ?_) (fun cdv A outer s H vs Q E hr h => ?_)
  · obtain ⟨d, a, ns, n, rfl, _⟩ := h
    rfl
  · obtain ⟨d, a, ns, n, rfl, hn5, hj, hD, hS, k⟩ := h
    have nd := sc_law_wish.nd
    have hr2 : Room 2 _ := hr.mono (by omega)
    have hrG : Room (j + 2) _ := hr
    refine ⟨_, (@pss_cons _ _ _ _ _ (@ps_set _ _ 3 _ _ _ _ nd rfl (Or.inl rfl) (@pe_op _ _ _ _ _ _ _ _ op_mod (pe_call GN hr2 rfl T.m_law_next T.k_law_next T.b_law_next .nil pass0 (@pa_cons _ _ _ _ _ (pv 0) pa_nil (by rfl))) pe_int) (by rfl) (by first | exact .inl rfl | exact .inr rfl | assumption)) (@pss_cons _ _ _ _ _ (@ps_if _ _ _ _ _ _ _ _ (PW.pt (pw_or (@pt_cmpR _ _ _ _ _ _ _ _ op_eq (pv 3) pe_int (nomark _)) (pw_or1 (@pt_cmpR _ _ _ _ _ _ _ _ op_eq (pv 1) pe_int (nomark _))))) (@pss_one _ _ _ (@ps_ret _ _ _ _ (@pe_ix _ _ _ _ _ _ _ ix_str pe_str (@pe_op _ _ _ _ _ _ _ _ op_mod (pe_call GN hr2 rfl T.m_law_next T.k_law_next T.b_law_next .nil pass0 (@pa_cons _ _ _ _ _ (pv 0) pa_nil (by rfl))) pe_int) (fun _ _ => rfl)))) pss_nil) (@pss_cons _ _ _ _ _ (@ps_set _ _ 4 _ _ _ _ nd rfl (Or.inl rfl) (@pe_ix _ _ _ _ _ _ _ ix_str pe_str (@pe_op _ _ _ _ _ _ _ _ op_mod (pe_call GN hr2 rfl T.m_law_next T.k_law_next T.b_law_next .nil pass0 (@pa_cons _ _ _ _ _ (pv 0) pa_nil (by rfl))) (pv 1)) (fun _ _ => rfl)) (by rfl) (by first | exact .inl rfl | exact .inr rfl | assumption)) (@pss_cons _ _ _ _ _ (@ps_if _ _ _ _ _ _ _ _ (PW.pt (pw_or (@pt_cmpR _ _ _ _ _ _ _ _ op_eq (pv 2) pe_int (nomark _)) (pw_or1 (@pt_cmpR _ _ _ _ _ _ _ _ op_lt (pv 3) pe_int (nomark _))))) (@pss_one _ _ _ (@ps_ret _ _ _ _ (pv 4))) pss_nil) (@pss_cons _ _ _ _ _ (@ps_set _ _ 5 _ _ _ _ nd rfl (Or.inl rfl) (pe_call GV hrG rfl T.m_law_wish T.k_law_wish T.b_law_wish .nil pass0 (@pa_cons _ _ _ _ _ (pv 0) (@pa_cons _ _ _ _ _ (pv 1) (@pa_cons _ _ _ _ _ (@pe_op _ _ _ _ _ _ _ _ op_sub (pv 2) pe_int) pa_nil (by rfl)) (by rfl)) (by rfl))) (by rfl) (by first | exact .inl rfl | exact .inr rfl | assumption)) (@pss_cons _ _ _ _ _ (@ps_if _ _ _ _ _ _ _ _ (@pt_cmpR _ _ _ _ _ _ _ _ op_lt (pv 3) pe_int (nomark _)) (@pss_one _ _ _ (@ps_ret _ _ _ _ (@pe_op _ _ _ _ _ _ _ _ op_add_str pe_str (pv 5)))) pss_nil) (@pss_cons _ _ _ _ _ (@ps_set _ _ 6 _ _ _ _ nd rfl (Or.inl rfl) (pe_call GV hrG rfl T.m_law_wish T.k_law_wish T.b_law_wish .nil pass0 (@pa_cons _ _ _ _ _ (pv 0) (@pa_cons _ _ _ _ _ (pv 1) (@pa_cons _ _ _ _ _ (@pe_op _ _ _ _ _ _ _ _ op_sub (pv 2) pe_int) pa_nil (by rfl)) (by rfl)) (by rfl))) (by rfl) (by first | exact .inl rfl | exact .inr rfl | assumption)) (@pss_cons _ _ _ _ _ (@ps_if _ _ _ _ _ _ _ _ (@pt_cmpR _ _ _ _ _ _ _ _ op_eq (pv 3) pe_int (nomark _)) (@pss_one _ _ _ (@ps_ret _ _ _ _ (@pe_op _ _ _ _ _ _ _ _ op_add_str (@pe_op _ _ _ _ _ _ _ _ op_add_str (@pe_op _ _ _ _ _ _ _ _ op_add_str pe_str (pv 4)) (pv 5)) (pv 6)))) pss_nil) (@pss_one _ _ _ (@ps_ret _ _ _ _ (@pe_op _ _ _ _ _ _ _ _ op_add_str (@pe_op _ _ _ _ _ _ _ _ op_add_str (@pe_ix _ _ _ _ _ _ _ ix_str pe_str (@pe_op _ _ _ _ _ _ _ _ op_mod (pe_call GN hr2 rfl T.m_law_next T.k_law_next T.b_law_next .nil pass0 (@pa_cons _ _ _ _ _ (pv 0) pa_nil (by rfl))) pe_int) (fun _ _ => rfl)) (pv 5)) (pv 6)))))))))))), ?_⟩
    refine ⟨_, rfl, d, a, ns, rfl, hD, hS, fun r0 H1 hr0 b1 hD1 => ⟨_, _, rfl, rfl, (by show (0 : Int) < 9; decide), ?_⟩⟩
    try dsimp only [gName]
    have hS1 := hD.seq b1 hS
    have hwl : 1 ≤ wl74 j := by cases j <;> simp [wl74] <;> omega
    refine if_cut (fun b H' => H' = H1 ∧ (b = false → n ≠ 0)) (fun R hR => ?_) ?_ ?_
    · exact ⟨_, rfl, rfl, _, rfl, ite2 (fun _ => hR _ _ ⟨rfl, fun z => by cases z⟩) (fun _ => ⟨_, rfl, rfl, _, rfl, hR _ _ ⟨rfl, fun h h0 => by rw [h0] at h; exact absurd h (by decide)⟩⟩)⟩
    · rintro H1' ⟨rfl, _⟩
      refine ⟨_, rfl, d, a, ns, rfl, hD1, hS1, fun r1 H2 h1 b2 hD2 => ?_⟩
      obtain ⟨u, eu, hu⟩ := modN (a := r1) (n := 2) (by decide)
      have eu : r1 % 2 = ((u : Nat) : Int) := eu
      have l10 : ("10" : Str).length ≤ sizeLine := by decide +kernel
      rcases (show u = 0 ∨ u = 1 by omega) with q | q
      · refine ⟨_, _, rfl, rfl, (by show (0 : Int) < 2; decide), ("10" : Str), _, 49, rfl, rfl, l10, (by rw [eu, q]; decide +kernel), ?_⟩
        exact k ⟨#[49]⟩ .c1 H2 trivial rfl hwl (b1.trans b2) hD2
      · refine ⟨_, _, rfl, rfl, (by show (0 : Int) < 2; decide), ("10" : Str), _, 48, rfl, rfl, l10, (by rw [eu, q]; decide +kernel), ?_⟩
        exact k ⟨#[48]⟩ .c0 H2 trivial rfl hwl (b1.trans b2) hD2
    rintro H1' ⟨rfl, hn0⟩
    have hn1 : 0 < n := Nat.pos_of_ne_zero (hn0 rfl)
    refine ⟨_, rfl, d, a, ns, rfl, hD1, hS1, fun r1 H2 h1 b2 hD2 => ?_⟩
    obtain ⟨u, eu, hu⟩ := modN (a := r1) hn1
    refine ⟨_, rfl, _, _, rfl, rfl, (by show (0 : Int) < ((n : Nat) : Int); omega), ("abcde" : Str), _, 97 + u, rfl, rfl, by decide +kernel, (by rw [eu]; exact e5_at (by omega)), ?_⟩
    try dsimp only [gName]
    have hS2 := hD1.seq b2 hS1
    have b12 := b1.trans b2
    refine if_cut (fun b H' => H' = H2 ∧ (b = false → j ≠ 0)) (fun R hR => ?_) ?_ ?_
    · exact ⟨_, rfl, rfl, _, rfl, ite2 (fun h => hR _ _ ⟨rfl, fun z => by cases z⟩) (fun h => ⟨_, rfl, _, _, rfl, rfl, _, rfl, hR _ _ ⟨rfl, fun _ hj0 => h (by rw [hj0]; rfl)⟩⟩)⟩
    · rintro H2' ⟨rfl, _⟩
      exact ⟨_, rfl, k ⟨#[97 + u]⟩ (.sw u) H2' hu rfl hwl b12 hD2⟩
    rintro H2' ⟨rfl, hj0⟩
    obtain ⟨i, rfl⟩ : ∃ i, j = i + 1 := ⟨j - 1, by have := hj0 rfl; omega⟩
    have hwi : wl74 i ≤ 4 := by
      rcases (show i = 0 ∨ i = 1 by omega) with q | q <;> rw [q] <;> decide
    have ewl : wl74 (i + 1) = 2 + 2 * wl74 i := rfl
    have ei : (((i + 1 : Nat) : Int) - 1) = ((i : Nat) : Int) := by omega
    refine ⟨_, rfl, _, rfl, _, rfl, _, _, rfl, rfl, d, a, ns, n, (by dsimp only; rw [ei]; rfl), hn5, by omega, hD2, hS2, fun z1 v1 H3 hv1 hz1 hl1 b3 hD3 => ?_⟩
    try dsimp only [gName]
    have hS3 := hD2.seq b3 hS2
    have b13 := b12.trans b3
    refine if_cut (fun _ H' => H' = H3) (fun R hR => ?_) ?_ ?_
    · exact ⟨_, rfl, _, _, rfl, rfl, _, rfl, hR _ _ rfl⟩
    · rintro H3' rfl
      refine ⟨_, rfl, _, _, rfl, rfl, (by rw [show ("!" : Str).length = 1 by decide +kernel]; exact Nat.le_of_lt (small1000 (by omega))), ?_⟩
      exact k (("!" : Str) ++ z1) (.no v1) H3' hv1 (by rw [app_list, hz1, show ("!" : Str).cps.toList = [33] by decide +kernel]; rfl) (by rw [app_len, show ("!" : Str).length = 1 by decide +kernel]; omega) b13 hD3
    rintro H3' rfl
    refine ⟨_, rfl, _, rfl, _, rfl, _, _, rfl, rfl, d, a, ns, n, (by dsimp only; rw [ei]; rfl), hn5, by omega, hD3, hS3, fun z2 v2 H4 hv2 hz2 hl2 b4 hD4 => ?_⟩
    try dsimp only [gName]
    have hS4 := hD3.seq b4 hS3
    have b14 := b13.trans b4
    refine if_cut (fun _ H' => H' = H4) (fun R hR => ?_) ?_ ?_
    · exact ⟨_, rfl, rfl, _, rfl, hR _ _ rfl⟩
    · rintro H4' rfl
      have lq : ("?" : Str).length = 1 := by decide +kernel
      refine ⟨_, rfl, _, _, rfl, rfl, (by rw [lq, one_len]; decide), _, rfl, _, _, rfl, rfl, (by rw [app_len, lq, one_len]; exact Nat.le_of_lt (small1000 (by omega))), _, rfl, _, _, rfl, rfl, (by rw [app_len, app_len, lq, one_len]; exact Nat.le_of_lt (small1000 (by omega))), ?_⟩
      exact k _ (.ch u v1 v2) H4' ⟨hu, hv1, hv2⟩ (by rw [app_list, app_list, app_list, hz1, hz2, show ("?" : Str).cps.toList = [63] by decide +kernel]; simp [W.signs]) (by rw [app_len, app_len, app_len, lq, one_len]; omega) b14 hD4
    rintro H4' rfl
    refine ⟨_, rfl, d, a, ns, rfl, hD4, hS4, fun r5 H5 h5 b5 hD5 => ?_⟩
    obtain ⟨p, ep, hp⟩ := modN (a := r5) (n := 3) (by decide)
    have ep : r5 % 3 = ((p : Nat) : Int) := ep
    have b15 := b14.trans b5
    obtain ⟨c, v, hc, hv, hvs⟩ : ∃ (c : Nat) (v : W), atI ("&|^" : Str).cps.toList ((p : Nat) : Int) = some c ∧ v.ok n ∧ v.signs = c :: (v1.signs ++ v2.signs) := by
      rcases (show p = 0 ∨ p = 1 ∨ p = 2 by omega) with q | q | q
      · exact ⟨38, .an v1 v2, by rw [q]; decide +kernel, ⟨hv1, hv2⟩, rfl⟩
      · exact ⟨124, .orr v1 v2, by rw [q]; decide +kernel, ⟨hv1, hv2⟩, rfl⟩
      · exact ⟨94, .xo v1 v2, by rw [q]; decide +kernel, ⟨hv1, hv2⟩, rfl⟩
    refine ⟨_, _, rfl, rfl, (by show (0 : Int) < 3; decide), ("&|^" : Str), _, c, rfl, rfl, by decide +kernel, (by rw [ep]; exact hc), _, rfl, _, _, rfl, rfl, (by rw [one_len]; exact Nat.le_of_lt (small1000 (by omega))), _, rfl, _, _, rfl, rfl, (by rw [app_len, one_len]; exact Nat.le_of_lt (small1000 (by omega))), ?_⟩
    exact k _ v H5 hv (by rw [app_list, app_list, hz1, hz2, hvs]; rfl) (by rw [app_len, app_len, one_len]; omega) b15 hD5
theorem ok_wish (T : All P w K mg AA DD) : ∀ j : Nat, FnOk P w K mg base CX0 (j + 3) AA.law_wish DD.law_wish ["_law_draws_here", "_law_n", "_law_deep"] (spWish K j)
  | 0 => wish_step T 0 (T.F_law_wish.ok sc_law_wish (fun vs H Q E h => h.elim) (fun cdv A outer s H vs Q E hr h => h.elim))
  | j + 1 => wish_step T (j + 1) (ok_wish T j)
noncomputable abbrev s36 : Str := "abxyz019+-*.!&|^?~=/#$'()<>\x40[]_{}:;,"
theorem s36_len : s36.length = 36 := by decide +kernel
theorem s36_all : ∀ j, j < 36 → (match s36.cps.toList[j]? with | some c => decide (33 ≤ c ∧ c ≤ 126 ∧ (j < 20 → c ≠ 60 ∧ c ≠ 62)) | none => false) = true := by decide +kernel
theorem s36_at {j : Nat} (h : j < 36) : ∃ c, s36.cps.toList[j]? = some c ∧ 33 ≤ c ∧ c ≤ 126 ∧ (j < 20 → c ≠ 60 ∧ c ≠ 62) := by
  have := s36_all j h
  cases e : s36.cps.toList[j]? with
  | none => rw [e] at this; exact absurd this Bool.false_ne_true
  | some c => rw [e] at this; exact ⟨c, rfl, of_decide_eq_true this⟩
noncomputable def spWord (K : PySem.W.Frag) : Sp := fun vs H Q _ => ∃ (d a : Addr) (ns : List Int), vs = [.ref d] ∧ Dr H d a ∧ SqL K H a (ns.map V.int) ∧ ∀ (z : Str) (H' : Hp), Pl z → z.length ≤ 5 → But d H H' → Dr H' d a → Q (.str z) H'
theorem pl_snoc {z : Str} {c : Nat} (h : Pl z) (h1 : 33 ≤ c) (h2 : c ≤ 126) : Pl (z ++ ⟨#[c]⟩) := by
  obtain ⟨x, r, e, hx⟩ := h.hd
  refine ⟨fun y hy => ?_, ⟨x, r ++ [c], by rw [app_list, e]; rfl, hx⟩, fun q => ?_⟩
  · rw [app_list] at hy
    rcases List.mem_append.mp hy with q | q
    · exact h.sg y q
    · have : y = c := by simpa using q
      omega
  · have e1 := congrArg (fun s : Str => s.cps.toList.length) q
    simp only [app_list, e] at e1
    simp at e1
noncomputable abbrev N_law_word : List Str := ["_law_draws_here", "_law_some", "_law_word_here", "_law_k"]
theorem sc_law_word : FnScope N_law_word ["_law_draws_here"] (defScope st_law_word) := ⟨rfl, rfl, rfl, by decide +kernel, rfl, by decide +kernel, by decide +kernel⟩
theorem ok_word (T : All P w K mg AA DD) : FnOk P w K mg base CX0 3 AA.law_word DD.law_word ["_law_draws_here"] (spWord K) := by
  have GN := ok_next (base := base) T
  refine T.F_law_word.ok sc_law_word (fun vs H Q E h => ?_) (fun cdv A outer s H vs Q E hr h => ?_)
  · obtain ⟨d, a, ns, rfl, _⟩ := h
    rfl
  · obtain ⟨d, a, ns, rfl, hD, hS, k⟩ := h
    have nd := sc_law_word.nd
    have hr2 : Room 2 _ := hr
    refine ⟨_, (@pss_cons _ _ _ _ _ (@ps_set _ _ 1 _ _ _ _ nd rfl (Or.inl rfl) pe_str (by rfl) (by first | exact .inl rfl | exact .inr rfl | assumption)) (@pss_cons _ _ _ _ _ (@ps_set _ _ 2 _ _ _ _ nd rfl (Or.inl rfl) (@pe_ix _ _ _ _ _ _ _ ix_str (pv 1) (@pe_op _ _ _ _ _ _ _ _ op_mod (pe_call GN hr2 rfl T.m_law_next T.k_law_next T.b_law_next .nil pass0 (@pa_cons _ _ _ _ _ (pv 0) pa_nil (by rfl))) pe_int) (fun _ _ => rfl)) (by rfl) (by first | exact .inl rfl | exact .inr rfl | assumption)) (@pss_cons _ _ _ _ _ (@ps_for _ _ _ _ _ _ _ _ PassesOwn.never rfl (pi_range1 rfl T.n_range (@pa_cons _ _ _ _ _ (@pe_op _ _ _ _ _ _ _ _ op_mod (pe_call GN hr2 rfl T.m_law_next T.k_law_next T.b_law_next .nil pass0 (@pa_cons _ _ _ _ _ (pv 0) pa_nil (by rfl))) pe_int) pa_nil (by rfl))) (pg_name (i := 3) nd rfl (Or.inl rfl)) (@pss_one _ _ _ (@ps_set _ _ 2 _ _ _ _ nd rfl (Or.inl rfl) (@pe_op _ _ _ _ _ _ _ _ op_add_str (pv 2) (@pe_ix _ _ _ _ _ _ _ ix_str (pv 1) (@pe_op _ _ _ _ _ _ _ _ op_mod (pe_call GN hr2 rfl T.m_law_next T.k_law_next T.b_law_next .nil pass0 (@pa_cons _ _ _ _ _ (pv 0) pa_nil (by rfl))) (pe_callB call_len_str rfl T.n_len bt_len (@pa_cons _ _ _ _ _ (pv 1) pa_nil (by rfl)))) (fun _ _ => rfl))) (by rfl) (by first | exact .inl rfl | exact .inr rfl | assumption))) (by intro _; rfl)) (@pss_one _ _ _ (@ps_ret _ _ _ _ (pv 2)))))), ?_⟩
    have hsz : s36.length ≤ sizeLine := by rw [s36_len]; decide
    refine seq_c ?_
    try dsimp only [gName]
    refine ⟨_, rfl, _, rfl, d, a, ns, rfl, hD, hS, fun r0 H1 hr0 b1 hD1 => ?_⟩
    have hS1 := hD.seq b1 hS
    obtain ⟨j, ej, hj⟩ := modN (a := r0) (n := 20) (by decide)
    have ej : r0 % 20 = ((j : Nat) : Int) := ej
    obtain ⟨c, hc, c1, c2, c3⟩ := s36_at (show j < 36 by omega)
    refine ⟨_, _, rfl, rfl, (by show (0 : Int) < 20; decide), s36, _, c, rfl, rfl, hsz, (by rw [ej]; exact atI_nat hc), ?_⟩
    try dsimp only [gName]
    have hp0 : Pl ⟨#[c]⟩ := ⟨fun y hy => by have : y = c := by simpa using hy
                                            omega, ⟨c, [], rfl, (c3 hj).1⟩, fun q => (c3 hj).2 (by injection q with q; injection q with q; simpa using q)⟩
    refine cut_for (fun σ' H' => But d H H' ∧ Dr H' d a ∧ ∃ (z : Str) (x3 : Option V), Pl z ∧ z.length ≤ 5 ∧ σ' = [some (.ref d), some (.str s36), some (.str z), x3]) (fun R hR => ?_) ?_
    · refine ⟨_, rfl, d, a, ns, rfl, hD1, hS1, fun r1 H2 hr1 b2 hD2 => ?_⟩
      obtain ⟨q, eq, hq⟩ := modN (a := r1) (n := 5) (by decide)
      have eq : r1 % 5 = ((q : Nat) : Int) := eq
      refine ⟨_, _, rfl, rfl, (by show (0 : Int) < 5; decide), _, rfl, (by rw [eq]; omega), (by rw [eq]; omega), ?_⟩
      rw [eq, Int.toNat_natCast]
      refine for_range (D := ⟨R, _, R, R⟩) (fun i σ' H' => But d H H' ∧ Dr H' d a ∧ ∃ (z : Str) (x3 : Option V), Pl z ∧ z.length ≤ 1 + i ∧ σ' = [some (.ref d), some (.str s36), some (.str z), x3]) ⟨b1.trans b2, hD2, ⟨#[c]⟩, none, hp0, Nat.le_refl _, rfl⟩ ?_ ?_
      · rintro i σ' H3 hi ⟨b3, hD3, z, x3, hz, hzl, rfl⟩
        have hS3 := hD.seq b3 hS
        refine ⟨_, rfl, _, rfl, _, rfl, d, a, ns, rfl, hD3, hS3, fun r2 H4 hr4 b4 hD4 => ?_⟩
        obtain ⟨u, eu, hu⟩ := modN (a := r2) (n := 36) (by decide)
        have eu : r2 % 36 = ((u : Nat) : Int) := eu
        obtain ⟨y, hy, y1, y2, _⟩ := s36_at hu
        refine ⟨_, rfl, s36, rfl, hsz, ?_⟩
        rw [s36_len]
        refine ⟨_, _, rfl, rfl, (by show (0 : Int) < 36; decide), s36, _, y, rfl, rfl, hsz, (by rw [show (((36 : Nat) : Int)) = 36 from rfl, eu]; exact atI_nat hy), _, _, rfl, rfl, (by rw [one_len]; exact Nat.le_of_lt (small1000 (by omega))), ?_⟩
        exact ⟨b3.trans b4, hD4, _, _, pl_snoc hz y1 y2, by rw [app_len, one_len]; omega, rfl⟩
      · rintro σ' H3 ⟨b3, hD3, z, x3, hz, hzl, rfl⟩
        exact hR _ _ ⟨b3, hD3, z, x3, hz, by omega, rfl⟩
    rintro σ' H3 ⟨b3, hD3, z, x3, hz, hzl, rfl⟩
    exact ⟨_, rfl, k z H3 hz hzl b3 hD3⟩
structure RI (B H : Hp) (d a pt : Addr) (n : Nat) (evs : List Ev) : Prop where
  bt : But d B H
  dr : Dr H d a
  tx : H pt = some (.lst ((evs.map Mm.wd).map V.str))
  g : Gev n evs
theorem RI.but {B H H' : Hp} {d a pt : Addr} {n : Nat} {evs : List Ev} (h : RI B H d a pt n evs) (ne : pt ≠ d) (b : But d H H') (D : Dr H' d a) : RI B H' d a pt n evs := ⟨h.bt.trans b, D, b _ _ h.tx ne, h.g⟩
theorem RI.push {B H : Hp} {d a pt : Addr} {n : Nat} {evs : List Ev} {e : Ev} (h : RI B H d a pt n evs) (hB : B pt = none) (ne : pt ≠ d) (ho : evok n (rn evs).2 e) :
    RI B (upd H pt (.lst ((evs.map Mm.wd).map V.str ++ [V.str (Mm.wd e)]))) d a pt n (evs ++ [e]) := by
  refine ⟨fun b u eb nb => ?_, ?_, by rw [upd_same]; simp, h.g.snoc ho⟩
  · have : b ≠ pt := by rintro rfl; rw [eb] at hB; cases hB
    rw [upd_ne this]; exact h.bt b u eb nb
  · obtain ⟨w, l, x, t, k, h0, e1⟩ := h.dr
    exact ⟨w, l, x, t, k, h0, by rw [upd_ne (Ne.symm ne)]; exact e1⟩
noncomputable def spRow (K : PySem.W.Frag) : Sp := fun vs H Q _ => ∃ (d a : Addr) (ns : List Int) (n : Nat), vs = [.ref d, .int ((n : Nat) : Int)] ∧ n ≤ 5 ∧ Dr H d a ∧ SqL K H a (ns.map V.int) ∧ ∀ (evs : List Ev) (H' : Hp), Gev n evs → (rn evs).2 = [] → evs.length ≤ 60 → (rn evs).1.length ≤ 5 → But d H H' → Dr H' d a → Q (.str (rowT evs)) H'
noncomputable abbrev N_law_row : List Str := ["_law_draws_here", "_law_n", "_law_texts", "_law_depth", "_law_k"]
theorem sc_law_row : FnScope N_law_row ["_law_draws_here", "_law_n"] (defScope st_law_row) := ⟨rfl, rfl, rfl, by decide +kernel, rfl, by decide +kernel, by decide +kernel⟩
theorem ok_row (T : All P w K mg AA DD) : FnOk P w K mg base CX0 6 AA.law_row DD.law_row ["_law_draws_here", "_law_n"] (spRow K) := by
  have GN := ok_next (base := base) T
  have GV := ok_wish (base := base) T 2
  have GW := ok_word (base := base) T
  refine T.F_law_row.ok sc_law_row (fun vs H Q E h => ?_) (fun cdv A outer s H vs Q E hr h => ?_)
  · obtain ⟨d, a, ns, n, rfl, _⟩ := h
    rfl
  · obtain ⟨d, a, ns, n, rfl, hn5, hD, hS, k⟩ := h
    have nd := sc_law_row.nd
    have hr2 : Room 2 _ := hr.mono (by decide)
    have hr3 : Room 3 _ := hr.mono (by decide)
    have hrG : Room 5 _ := hr
    refine ⟨_, (@pss_cons _ _ _ _ _ (@ps_set _ _ 2 _ _ _ _ nd rfl (Or.inl rfl) (@pe_lst _ _ _ _ pa_nil) (by rfl) (by first | exact .inl rfl | exact .inr rfl | assumption)) (@pss_cons _ _ _ _ _ (@ps_set _ _ 3 _ _ _ _ nd rfl (Or.inl rfl) pe_int (by rfl) (by first | exact .inl rfl | exact .inr rfl | assumption)) (@pss_cons _ _ _ _ _ (@ps_for _ _ _ _ _ _ _ _ PassesOwn.never rfl (pi_range1 rfl T.n_range (@pa_cons _ _ _ _ _ (@pe_op _ _ _ _ _ _ _ _ op_mod (pe_call GN hr2 rfl T.m_law_next T.k_law_next T.b_law_next .nil pass0 (@pa_cons _ _ _ _ _ (pv 0) pa_nil (by rfl))) pe_int) pa_nil (by rfl))) (pg_name (i := 4) nd rfl (Or.inl rfl)) (@pss_cons _ _ _ _ _ (@ps_while _ _ _ _ _ _ PassesOwn.never (PW.pt (pw_and (@pt_cmpR _ _ _ _ _ _ _ _ op_lt (pv 3) pe_int (nomark _)) (pw_and1 (@pt_cmpR _ _ _ _ _ _ _ _ op_eq (@pe_op _ _ _ _ _ _ _ _ op_mod (pe_call GN hr2 rfl T.m_law_next T.k_law_next T.b_law_next .nil pass0 (@pa_cons _ _ _ _ _ (pv 0) pa_nil (by rfl))) pe_int) pe_int (nomark _))))) (@pss_cons _ _ _ _ _ (@ps_expr _ _ _ _ (pe_bm PySem.F.plainAttrs_list PySem.F.slot_list_append PySem.F.type_list_append mt_append (pv 2) (@pa_cons _ _ _ _ _ (@pe_op _ _ _ _ _ _ _ _ op_add_str pe_str (pe_call GV hrG rfl T.m_law_wish T.k_law_wish T.b_law_wish .nil pass0 (@pa_cons _ _ _ _ _ (pv 0) (@pa_cons _ _ _ _ _ (pv 1) (@pa_cons _ _ _ _ _ pe_int pa_nil (by rfl)) (by rfl)) (by rfl)))) pa_nil (by rfl))) (by rfl)) (@pss_one _ _ _ (@ps_set _ _ 3 _ _ _ _ nd rfl (Or.inl rfl) (@pe_op _ _ _ _ _ _ _ _ op_add (pv 3) pe_int) (by rfl) (by first | exact .inl rfl | exact .inr rfl | assumption))))) (@pss_cons _ _ _ _ _ (@ps_expr _ _ _ _ (pe_bm PySem.F.plainAttrs_list PySem.F.slot_list_append PySem.F.type_list_append mt_append (pv 2) (@pa_cons _ _ _ _ _ (pe_call GW hr3 rfl T.m_law_word T.k_law_word T.b_law_word .nil pass0 (@pa_cons _ _ _ _ _ (pv 0) pa_nil (by rfl))) pa_nil (by rfl))) (by rfl)) (@pss_one _ _ _ (@ps_while _ _ _ _ _ _ PassesOwn.never (PW.pt (pw_and (@pt_cmpR _ _ _ _ _ _ _ _ op_gt (pv 3) pe_int (nomark _)) (pw_and1 (@pt_cmpR _ _ _ _ _ _ _ _ op_eq (@pe_op _ _ _ _ _ _ _ _ op_mod (pe_call GN hr2 rfl T.m_law_next T.k_law_next T.b_law_next .nil pass0 (@pa_cons _ _ _ _ _ (pv 0) pa_nil (by rfl))) pe_int) pe_int (nomark _))))) (@pss_cons _ _ _ _ _ (@ps_expr _ _ _ _ (pe_bm PySem.F.plainAttrs_list PySem.F.slot_list_append PySem.F.type_list_append mt_append (pv 2) (@pa_cons _ _ _ _ _ pe_str pa_nil (by rfl))) (by rfl)) (@pss_one _ _ _ (@ps_set _ _ 3 _ _ _ _ nd rfl (Or.inl rfl) (@pe_op _ _ _ _ _ _ _ _ op_sub (pv 3) pe_int) (by rfl) (by first | exact .inl rfl | exact .inr rfl | assumption)))))))) (by intro _; rfl)) (@pss_one _ _ _ (@ps_ret _ _ _ _ (pe_bmK (K := K) rfl PySem.F.plainAttrs_str PySem.F.slot_str_join PySem.F.type_str_join (mt_join (K := K) rfl) pe_str (@pa_cons _ _ _ _ _ (@pe_op _ _ _ _ _ _ _ _ op_cat (pv 2) (@pe_op _ _ _ _ _ _ _ _ op_rep (@pe_lst _ _ _ _ (@pa_cons _ _ _ _ _ pe_str pa_nil (by rfl))) (pv 3))) pa_nil (by rfl)))))))), ?_⟩
    refine ⟨Nat.zero_le _, fun pt hpt => ?_⟩
    try dsimp only [gName]
    refine seq_c ?_
    try dsimp only [gName]
    have npd : pt ≠ d := by
      rintro rfl
      obtain ⟨_, _, _, _, _, _, e⟩ := hD
      rw [e] at hpt; cases hpt
    have s0 := same_upd (o := .lst []) hpt
    have I0 : RI H (upd H pt (.lst [])) d a pt n [] := ⟨(But.refl d H).same s0, hD.same s0, upd_same, Gev.nil n⟩
    generalize upd H pt (.lst []) = H0 at I0 ⊢
    refine cut_for (fun σ' H' => ∃ (evs : List Ev) (x4 : Option V), RI H H' d a pt n evs ∧ evs.length ≤ 55 ∧ (rn evs).1.length ≤ 5 ∧ σ' = [some (.ref d), some (.int ((n : Nat) : Int)), some (.ref pt), some (.int (((rn evs).2.length : Nat) : Int)), x4]) (fun R hR => ?_) ?_
    · refine ⟨_, rfl, d, a, ns, rfl, I0.dr, hD.seq I0.bt hS, fun r1 H1 _ b1 hD1 => ?_⟩
      obtain ⟨q, eq, hq⟩ := modN (a := r1) (n := 6) (by decide)
      have eq : r1 % 6 = ((q : Nat) : Int) := eq
      refine ⟨_, _, rfl, rfl, (by show (0 : Int) < 6; decide), _, rfl, (by rw [eq]; omega), (by rw [eq]; omega), ?_⟩
      rw [eq, Int.toNat_natCast]
      refine for_range (D := ⟨R, _, R, R⟩) (fun i σ' H' => i ≤ 5 ∧ ∃ (evs : List Ev) (x4 : Option V), RI H H' d a pt n evs ∧ evs.length ≤ 11 * i ∧ (rn evs).1.length ≤ i ∧ σ' = [some (.ref d), some (.int ((n : Nat) : Int)), some (.ref pt), some (.int (((rn evs).2.length : Nat) : Int)), x4]) ⟨Nat.zero_le _, [], none, I0.but npd b1 hD1, Nat.zero_le _, Nat.zero_le _, rfl⟩ ?_ ?_
      · rintro i σ' H2 hi ⟨_, evs, x4, hI, hl, hw, rfl⟩
        generalize hvi : V.int (0 + ((i : Nat) : Int)) = vi
        refine cut_while (fun σ' H' => ∃ evs : List Ev, RI H H' d a pt n evs ∧ evs.length ≤ 11 * i + 5 ∧ (rn evs).1.length ≤ i ∧ σ' = [some (.ref d), some (.int ((n : Nat) : Int)), some (.ref pt), some (.int (((rn evs).2.length : Nat) : Int)), some vi]) (fun R1 hR1 => ?_) ?_
        · refine ⟨fun m σ' H' => ∃ evs : List Ev, RI H H' d a pt n evs ∧ evs.length ≤ 11 * i + (rn evs).2.length ∧ (rn evs).1.length ≤ i ∧ m = 5 - (rn evs).2.length ∧ σ' = [some (.ref d), some (.int ((n : Nat) : Int)), some (.ref pt), some (.int (((rn evs).2.length : Nat) : Int)), some vi], ⟨_, evs, hI, by omega, hw, rfl, rfl⟩, ?_⟩
          clear hI hl hw evs
          rintro m σ' H3 ⟨evs, hI, hl, hw, rfl, rfl⟩
          have h5 : (rn evs).2.length ≤ 5 := (rn_all hI.g).1.1
          refine ⟨_, rfl, _, _, rfl, rfl, _, rfl, ?_⟩
          refine ite2 (fun h1 => ⟨_, rfl, d, a, ns, rfl, hI.dr, hD.seq hI.bt hS, fun r H4 _ b4 hD4 => ⟨_, _, rfl, rfl, (by show (0 : Int) < 3; decide), rfl, _, rfl, ite2 (fun h2 => ?_) (fun h2 => hR1 _ _ ⟨evs, hI.but npd b4 hD4, by omega, hw, rfl⟩)⟩⟩) (fun h1 => iteF (hR1 _ _ ⟨evs, hI, by omega, hw, rfl⟩))
          have h1 : (((rn evs).2.length : Nat) : Int) < 5 := of_decide_eq_true h1
          have hI4 := hI.but npd b4 hD4
          refine ⟨fun σ' H' => ∃ evs' : List Ev, RI H H' d a pt n evs' ∧ evs'.length ≤ 11 * i + (rn evs').2.length ∧ (rn evs').1.length ≤ i ∧ (rn evs').2.length = (rn evs).2.length + 1 ∧ σ' = [some (.ref d), some (.int ((n : Nat) : Int)), some (.ref pt), some (.int (((rn evs').2.length : Nat) : Int)), some vi], ?_, ?_⟩
          · rintro σ2 H5 ⟨evs', hI', hl', hw', hd', rfl⟩
            exact ⟨_, by omega, evs', hI', hl', hw', rfl, rfl⟩
          refine ⟨_, rfl, .inl ⟨rfl, _, SqL.of hI4.tx⟩, _, rfl, _, rfl, d, a, ns, n, rfl, hn5, by decide, hI4.dr, hD.seq hI4.bt hS, fun z v H5 hv hz hzl b5 hD5 => ?_⟩
          have hI5 := hI4.but npd b5 hD5
          have hzl : z.length ≤ 10 := hzl
          have ez : ("<" : Str) ++ z = Mm.wd (.op v) := by
            refine str_ext ?_
            rw [str_app, hz, show ("<" : Str).cps.toList = [60] by decide +kernel]; rfl
          refine ⟨_, _, rfl, rfl, (by rw [show ("<" : Str).length = 1 by decide +kernel]; exact Nat.le_of_lt (small1000 (by omega))), pt, _, _, rfl, rfl, hI5.tx, (by rw [List.length_map, List.length_map]; exact small1000 (by omega)), ?_⟩
          dsimp only
          rw [ez]
          have ho : evok n (rn evs).2 (.op v) := ⟨hv, by rw [← hz, list_len]; omega, by omega⟩
          have hI6 := hI5.push hpt npd ho
          refine ⟨_, rfl, _, _, rfl, rfl, ?_⟩
          try dsimp only [gName]
          refine ⟨evs ++ [.op v], hI6, ?_, ?_, ?_, ?_⟩
          · rw [rn_snoc]; show _ ≤ 11 * i + ((rn evs).2 ++ [v]).length; simp; omega
          · rw [rn_snoc]; exact hw
          · rw [rn_snoc]; show ((rn evs).2 ++ [v]).length = _; simp
          · rw [rn_snoc]
            show _ = [some (.ref d), some (.int ((n : Nat) : Int)), some (.ref pt), some (.int ((((rn evs).2 ++ [v]).length : Nat) : Int)), some vi]
            simp
        clear hI hl hw evs
        rintro σ' H3 ⟨evs, hI, hl, hw, rfl⟩
        -- the word
        refine ⟨_, rfl, .inl ⟨rfl, _, SqL.of hI.tx⟩, _, rfl, d, a, ns, rfl, hI.dr, hD.seq hI.bt hS, fun z H4 hz hzl b4 hD4 => ?_⟩
        have hI4 := hI.but npd b4 hD4
        refine ⟨pt, _, _, rfl, rfl, hI4.tx, (by rw [List.length_map, List.length_map]; exact small1000 (by omega)), ?_⟩
        have hI5 := hI4.push (e := .pl z) hpt npd ⟨hz, hzl⟩
        have ew : (rn (evs ++ [.pl z])) = ((rn evs).1 ++ [(z, (rn evs).2)], (rn evs).2) := by rw [rn_snoc]; rfl
        have h5 : (rn evs).2.length ≤ 5 := (rn_all hI.g).1.1
        have hst : ([some (.ref d), some (.int ((n : Nat) : Int)), some (.ref pt), some (.int (((rn evs).2.length : Nat) : Int)), some vi] : St) = [some (.ref d), some (.int ((n : Nat) : Int)), some (.ref pt), some (.int (((rn (evs ++ [.pl z])).2.length : Nat) : Int)), some vi] := by rw [ew]
        rw [hst]
        have hl5 : (evs ++ [Ev.pl z]).length + (rn (evs ++ [.pl z])).2.length ≤ 11 * i + 11 := by rw [ew]; simp; omega
        have hw5 : (rn (evs ++ [.pl z])).1.length ≤ i + 1 := by rw [ew]; simp; omega
        show tWhile _ _ _ _ (upd H4 pt (.lst ((evs.map Mm.wd).map V.str ++ [V.str (Mm.wd (.pl z))])))
        generalize upd H4 pt _ = H5 at hI5 ⊢
        generalize evs ++ [Ev.pl z] = ev2 at hI5 hl5 hw5 ⊢
        clear hst ew hI4 hI h5 hl hw hz hzl b4 hD4
        refine ⟨fun m σ' H' => ∃ evs : List Ev, RI H H' d a pt n evs ∧ evs.length + (rn evs).2.length ≤ 11 * i + 11 ∧ (rn evs).1.length ≤ i + 1 ∧ m = (rn evs).2.length ∧ σ' = [some (.ref d), some (.int ((n : Nat) : Int)), some (.ref pt), some (.int (((rn evs).2.length : Nat) : Int)), some vi], ⟨_, ev2, hI5, hl5, hw5, rfl, rfl⟩, ?_⟩
        clear hI5 hl5 hw5
        rintro m σ' H6 ⟨evs, hI, hl, hw, rfl, rfl⟩
        refine ⟨_, rfl, _, _, rfl, rfl, _, rfl, ?_⟩
        refine ite2 (fun h1 => ⟨_, rfl, d, a, ns, rfl, hI.dr, hD.seq hI.bt hS, fun r H4 _ b4 hD4 => ⟨_, _, rfl, rfl, (by show (0 : Int) < 2; decide), rfl, _, rfl, ite2 (fun h2 => ?_) (fun h2 => ⟨by omega, evs, _, hI.but npd b4 hD4, by omega, hw, rfl⟩)⟩⟩) (fun h1 => iteF ⟨by omega, evs, _, hI, by omega, hw, rfl⟩)
        have h1 : (0 : Int) < (((rn evs).2.length : Nat) : Int) := of_decide_eq_true h1
        have hI4 := hI.but npd b4 hD4
        refine ⟨fun σ' H' => ∃ evs' : List Ev, RI H H' d a pt n evs' ∧ evs'.length + (rn evs').2.length ≤ 11 * i + 11 ∧ (rn evs').1.length ≤ i + 1 ∧ (rn evs').2.length + 1 = (rn evs).2.length ∧ σ' = [some (.ref d), some (.int ((n : Nat) : Int)), some (.ref pt), some (.int (((rn evs').2.length : Nat) : Int)), some vi], ?_, ?_⟩
        · rintro σ2 H5 ⟨evs', hI', hl', hw', hd', rfl⟩
          exact ⟨_, by omega, evs', hI', hl', hw', rfl, rfl⟩
        refine ⟨_, rfl, .inl ⟨rfl, _, SqL.of hI4.tx⟩, pt, _, _, rfl, rfl, hI4.tx, (by rw [List.length_map, List.length_map]; exact small1000 (by omega)), ?_⟩
        have hne : (rn evs).2 ≠ [] := by intro z; rw [z] at h1; exact absurd h1 (by decide)
        have hI6 : RI H (upd H4 pt (.lst ((evs.map Mm.wd).map V.str ++ [V.str ⟨#[62]⟩]))) d a pt n (evs ++ [.cl]) := hI4.push (e := .cl) hpt npd hne
        have ew : (rn (evs ++ [.cl])) = ((rn evs).1, (rn evs).2.dropLast) := by rw [rn_snoc]; rfl
        rw [e_gt]
        refine ⟨_, rfl, _, _, rfl, rfl, ?_⟩
        try dsimp only [gName]
        refine ⟨evs ++ [Ev.cl], hI6, ?_, ?_, ?_, ?_⟩
        · rw [ew]; simp; omega
        · rw [ew]; exact hw
        · rw [ew]; simp; omega
        · rw [ew]
          have : (((rn evs).2.length : Nat) : Int) - 1 = (((rn evs).2.dropLast.length : Nat) : Int) := by simp; omega
          exact congrArg (fun z : Int => ([some (.ref d), some (.int ((n : Nat) : Int)), some (.ref pt), some (.int z), some vi] : St)) this
      · rintro σ' H2 ⟨_, evs, x4, hI, hl, hw, rfl⟩
        exact hR _ _ ⟨evs, x4, hI, by omega, by omega, rfl⟩
    rintro σ' H1 ⟨evs, x4, hI, hl, hw, rfl⟩
    have h5 : (rn evs).2.length ≤ 5 := (rn_all hI.g).1.1
    obtain ⟨gc, ec⟩ := hI.g.close _ rfl
    refine ⟨rfl, _, rfl, (by show 1 ≤ sizeLine; decide), fun pg hpg => ?_⟩
    have s1 := same_upd (o := .lst [.str ">"]) hpg
    refine ⟨_, rfl, pg, _, _, rfl, rfl, upd_same, ?_, ?_, ?_, fun pr hpr => ?_⟩
    · exact Int.le_trans (by decide) (Int.natCast_nonneg _)
    · omega
    · simp; exact Nat.le_of_lt (small1000 (by omega))
    rw [Int.toNat_natCast, rep_one]
    have s2 := s1.trans (same_upd (o := .lst (List.replicate (rn evs).2.length (.str ">"))) hpr)
    refine ⟨pt, pr, _, _, rfl, rfl, s2 _ _ hI.tx, upd_same, ?_, fun pc hpc => ?_⟩
    · simp; exact Nat.le_of_lt (small1000 (by omega))
    have s3 := s2.trans (same_upd (o := .lst ((evs.map Mm.wd).map V.str ++ List.replicate (rn evs).2.length (.str ">"))) hpc)
    have ejn : (evs.map Mm.wd).map V.str ++ List.replicate (rn evs).2.length (V.str ">") = ((evs ++ List.replicate (rn evs).2.length Ev.cl).map Mm.wd).map V.str := by
      rw [e_gt]; simp [Mm.wd]
    refine ⟨_, pc, (evs ++ List.replicate (rn evs).2.length Ev.cl).map Mm.wd, rfl, rfl, (by rw [← ejn]; exact SqL.of upd_same), (by rw [e_sp]; decide), weighT (b := 101) (k := 60) (fun z hz => (gc.wd (by omega) z hz).2.2) (by simp; omega) (by decide), ?_⟩
    rw [e_sp]
    exact k _ _ gc (by rw [ec]) (by simp; omega) (by rw [ec]; exact hw) (hI.bt.same s3) (hI.dr.same s3)
end
section
variable {P : Program} {w : World} {K : PySem.W.Frag} {mg : Str → Option Value} {base : Heap} {AA : Adr} {DD : Fds}
/-! cuts that are joined again -/
noncomputable abbrev jsp (zs : List Str) : Str := Str.join ⟨#[32]⟩ zs
noncomputable abbrev jnl (zs : List Str) : Str := Str.join ⟨#[10]⟩ zs
noncomputable def WR (zs : List Str) : Prop := ∀ z ∈ zs, PW5 z
theorem jsp_split {zs : List Str} (h0 : zs ≠ []) (h : WR zs) : Txt.split (jsp zs) ⟨#[32]⟩ = zs := split_join h0 fun z hz hc => by
  have := (h z hz).1.sg 32 hc
  omega
theorem jsp_ne {zs : List Str} (h0 : zs ≠ []) (h : WR zs) : jsp zs ≠ Str.empty := fun e => by
  have e := congrArg (fun z : Str => z.cps.toList) e
  simp only [join_list] at e
  refine jl_ne (c := 32) (ls := zs.map (·.cps.toList)) (by simpa using h0) (fun l hl => ?_) (e.trans rfl)
  obtain ⟨y, hy, rfl⟩ := List.mem_map.mp hl
  obtain ⟨c, r, e, _⟩ := (h y hy).1.hd
  rw [e]; simp
theorem jsp_nil : jsp [] = Str.empty := by decide +kernel
theorem jsp_nl {zs : List Str} (h : WR zs) : 10 ∉ (jsp zs).cps.toList := fun hc => by
  rw [join_list] at hc
  rcases jl_mem hc with q | ⟨l, hl, hd⟩
  · omega
  · obtain ⟨y, hy, rfl⟩ := List.mem_map.mp hl
    have := (h y hy).1.sg 10 hd; omega
noncomputable def fullR (zss : List (List Str)) : List (List Str) := zss.filter fun zs => decide (zs ≠ [])
theorem own_cut {zss : List (List Str)} (h0 : zss ≠ []) (h : ∀ zs ∈ zss, WR zs) : ownR (jnl (zss.map jsp)) = (fullR zss).map jsp := by
  unfold ownR
  rw [split_join (by simpa using h0) (fun z hz => by obtain ⟨zs, hs, rfl⟩ := List.mem_map.mp hz; exact jsp_nl (h zs hs))]
  unfold fullR
  clear h0
  induction zss with
  | nil => rfl
  | cons zs r ih =>
    rw [List.map_cons, List.filter_cons, List.filter_cons, ih fun x hx => h x (List.mem_cons_of_mem _ hx)]
    by_cases e : zs = []
    · subst e
      rw [if_neg (by rw [jsp_nil]; simp), if_neg (by simp)]
    · rw [if_pos (decide_eq_true (jsp_ne e (h zs List.mem_cons_self))), if_pos (decide_eq_true e)]; rfl
theorem full_mem {zss : List (List Str)} {zs : List Str} (h : zs ∈ fullR zss) : zs ∈ zss ∧ zs ≠ [] := by
  obtain ⟨a, b⟩ := List.mem_filter.mp h
  exact ⟨a, of_decide_eq_true b⟩
theorem full_len (zss : List (List Str)) : (fullR zss).length ≤ zss.length := List.length_filter_le _ _
/-- the rows that were joined: masks and words -/
structure JC (k : Nat) (f : Nat → List (List Str)) (cs : Cs) : Prop where
  ok : ∀ c ∈ cs, c.2 ≠ [] ∧ WR c.2 ∧ c.2.length ≤ 5 ∧ c.1 < 2 ^ k
  sel : ∀ s, s < k → (cs.filter fun c => c.1.testBit s).map (·.2) = fullR (f s)
noncomputable def txF (f : Nat → List (List Str)) (k : Nat) : List Str := (List.range k).map fun s => jnl ((f s).map jsp)
theorem txF_len (f : Nat → List (List Str)) (k : Nat) : (txF f k).length = k := by simp [txF]
theorem jc_of {k : Nat} {f : Nat → List (List Str)} {rs : List (Str × Nat)} (h0 : ∀ s, f s ≠ []) (hf : ∀ s, ∀ zs ∈ f s, WR zs ∧ zs.length ≤ 5) (J : JF ((txF f k).map ownR) rs) :
    ∃ cs : Cs, rs = cs.map (fun c => (jsp c.2, c.1)) ∧ JC k f cs := by
  have good : ∀ p ∈ rs, ∃ zs, p.1 = jsp zs ∧ zs ≠ [] ∧ WR zs ∧ zs.length ≤ 5 := fun p hp => by
    obtain ⟨x, hx, hm⟩ := J.mem p hp
    obtain ⟨t, ht, rfl⟩ := List.mem_map.mp hx
    obtain ⟨s, _, rfl⟩ := List.mem_map.mp ht
    rw [own_cut (h0 s) fun zs hz => (hf s zs hz).1] at hm
    obtain ⟨zs, hz, e⟩ := List.mem_map.mp hm
    have := full_mem hz
    exact ⟨zs, e.symm, this.2, hf s zs this.1⟩
  have hlt := J.lt
  rw [List.length_map, txF_len] at hlt
  refine ⟨rs.map fun p => (p.2, Txt.split p.1 ⟨#[32]⟩), ?_, ⟨fun c hc => ?_, fun s hs => ?_⟩⟩
  · rw [List.map_map]
    conv => lhs; rw [← List.map_id rs]
    refine List.map_congr_left fun p hp => ?_
    obtain ⟨zs, e, hne, hw, _⟩ := good p hp
    show p = (jsp (Txt.split p.1 ⟨#[32]⟩), p.2)
    rw [e, jsp_split hne hw, ← e]
  · obtain ⟨p, hp, rfl⟩ := List.mem_map.mp hc
    obtain ⟨zs, e, hne, hw, hl⟩ := good p hp
    have es : Txt.split p.1 ⟨#[32]⟩ = zs := by rw [e, jsp_split hne hw]
    dsimp only
    rw [es]
    exact ⟨hne, hw, hl, hlt p hp⟩
  · have hsel := J.sel s (by rw [List.length_map, txF_len]; exact hs)
    rw [List.getElem_map] at hsel
    have et : (txF f k)[s]'(by rw [txF_len]; exact hs) = jnl ((f s).map jsp) := by simp [txF]
    rw [et, own_cut (h0 s) fun zs hz => (hf s zs hz).1] at hsel
    have e1 : ((rs.map fun p => (p.2, Txt.split p.1 ⟨#[32]⟩)).filter fun c => c.1.testBit s).map (·.2) = (selB s rs).map fun z => Txt.split z ⟨#[32]⟩ := by
      unfold selB
      rw [List.filter_map, List.map_map, List.map_map]
      rfl
    rw [e1, hsel, List.map_map]
    conv => rhs; rw [← List.map_id (fullR (f s))]
    refine List.map_congr_left fun zs hz => ?_
    have := full_mem hz
    exact jsp_split this.2 (hf s zs this.1).1
noncomputable def rw1 (rws : List (List Ev)) : List (List Ev) := if rws = [] then [[]] else rws
noncomputable def rw2 (n k : Nat) (cs : Cs) : List (List Ev) := if cs = [] then [[]] else cs.map (evC n (2 ^ k - 1))
theorem text_nil : jnl [] = textT [[]] := by decide +kernel
theorem rw1_text (rws : List (List Ev)) : jnl (rws.map rowT) = textT (rw1 rws) := by
  unfold rw1
  split
  · rename_i h; rw [h]; exact text_nil
  · rfl
theorem line_row (n k : Nat) {c : Nat × List Str} (h : c.2 ≠ []) : lineT n k (jsp c.2, c.1) = rowT (evC n (2 ^ k - 1) c) := by
  refine str_ext ?_
  unfold rowT
  rw [join_list]
  exact piece_row n (2 ^ k - 1) h
theorem rw2_text {n k : Nat} {cs : Cs} (h : ∀ c ∈ cs, c.2 ≠ []) : jnl ((cs.map fun c => (jsp c.2, c.1)).map fun p => lineT n k p) = textT (rw2 n k cs) := by
  unfold rw2
  split
  · rename_i e; rw [e]; exact text_nil
  · unfold textT
    rw [List.map_map, List.map_map]
    exact congrArg jnl (List.map_congr_left fun c hc => line_row n k (h c hc))
theorem evC_rn (n m : Nat) (c : Nat × List Str) : rn (evC n m c) = (c.2.map (fun z => (z, arC n m c)), []) := by
  have := rn_tidy n m [c]
  simpa [tidyE] using this
theorem evC_gev {n m : Nat} (hn : n ≤ 5) {c : Nat × List Str} (h : WR c.2) : Gev n (evC n m c) := by
  unfold evC
  split
  · have := gev_pls (Gev.nil n) c.2 h
    simpa using this
  · have g0 : Gev n [Ev.op (sh n n c.1)] := (Gev.nil n).snoc ⟨sh_ok n c.1 (Nat.le_refl _), by
      have := sh_len (n := n) n c.1
      have h3 : 2 ^ n ≤ 2 ^ 5 := Nat.pow_le_pow_right (by decide) hn
      omega, by simp [rn]⟩
    have g1 := gev_pls g0 c.2 h
    have g2 := g1.snoc (e := .cl) (by
      rw [rn_app, stp_pls]
      show [sh n n c.1] ≠ []
      simp)
    simpa using g2
theorem evC_len (n m : Nat) (c : Nat × List Str) : (evC n m c).length ≤ c.2.length + 2 := by
  unfold evC
  split <;> simp
theorem grs_one (n : Nat) : Grs n [[]] := ⟨by simp, by simp, fun evs h => by
  have : evs = [] := by simpa using h
  subst this
  exact ⟨Gev.nil n, rfl, by simp⟩⟩
theorem rw2_grs {n k : Nat} (hn : n ≤ 5) {f : Nat → List (List Str)} {cs : Cs} (h : JC k f cs) (hl : cs.length ≤ 60) : Grs n (rw2 n k cs) ∧ ∀ evs ∈ rw2 n k cs, (rn evs).1.length ≤ 33 := by
  unfold rw2
  split
  · exact ⟨grs_one n, fun evs h => by
      have : evs = [] := by simpa using h
      subst this; simp [rn]⟩
  · rename_i e
    refine ⟨⟨by simpa using e, by simpa using hl, fun evs he => ?_⟩, fun evs he => ?_⟩
    · obtain ⟨c, hc, rfl⟩ := List.mem_map.mp he
      have ho := h.ok c hc
      exact ⟨evC_gev hn ho.2.1, by rw [evC_rn], by have := evC_len n (2 ^ k - 1) c; omega⟩
    · obtain ⟨c, hc, rfl⟩ := List.mem_map.mp he
      have ho := h.ok c hc
      rw [evC_rn]; simp; omega
theorem line_cut {n k s : Nat} (hk : k ≤ 2 ^ n) (hs : s < k) {c : Nat × List Str} (hc : c.1 < 2 ^ k) : cutR s (rowD n (rn (evC n (2 ^ k - 1) c)).1) = if c.1.testBit s then c.2 else [] := by
  have hb : (2 ^ k - 1).testBit s = true := by rw [Nat.testBit_two_pow_sub_one]; simpa using hs
  have hm : 2 ^ k - 1 < 2 ^ 2 ^ n := Nat.lt_of_lt_of_le (Nat.sub_lt (Nat.two_pow_pos k) (by decide)) (Nat.pow_le_pow_right (by decide) hk)
  have h1 := td_and hm (c := c) (by rw [Nat.and_two_pow_sub_one_eq_mod, Nat.mod_eq_of_lt hc])
  have e1 : rowD n (rn (evC n (2 ^ k - 1) c)).1 = ([c].map fun c => c.2.map fun z => (z, mka n (arC n (2 ^ k - 1) c))).flatten := by
    rw [evC_rn]
    simp [rowD]
  rw [e1, cutR_flat (fun c => mka n (arC n (2 ^ k - 1) c)) [c] fun c' hc' => ?_]
  · simp [cutC]
  · have : c' = c := by simpa using hc'
    subst this
    rw [← h1, Nat.testBit_and, hb, Bool.and_true]
theorem full_cs (s : Nat) : ∀ cs : Cs, (∀ c ∈ cs, c.2 ≠ []) → fullR (cs.map fun c => if c.1.testBit s then c.2 else []) = (cs.filter fun c => c.1.testBit s).map (·.2)
  | [], _ => rfl
  | c :: cs, h => by
    have ih := full_cs s cs fun x hx => h x (List.mem_cons_of_mem _ hx)
    unfold fullR at ih ⊢
    rw [List.map_cons, List.filter_cons, List.filter_cons, ih]
    cases hb : c.1.testBit s
    · simp
    · simp [h c List.mem_cons_self]
theorem rw2_full {n k s : Nat} (hk : k ≤ 2 ^ n) (hs : s < k) {f : Nat → List (List Str)} {cs : Cs} (h : JC k f cs) : fullR (cutD s (rowsD n (rw2 n k cs))) = fullR (f s) := by
  rw [← h.sel s hs, ← full_cs s cs fun c hc => (h.ok c hc).1]
  unfold rw2
  split
  · rename_i e; rw [e]; rfl
  · unfold cutD rowsD
    rw [List.map_map, List.map_map]
    exact congrArg fullR (List.map_congr_left fun c hc => line_cut hk hs (h.ok c hc).2.2.2)
theorem cut_wr {n s : Nat} {rws : List (List Ev)} (g : Grs n rws) (h5 : ∀ evs ∈ rws, (rn evs).1.length ≤ 5) : ∀ zs ∈ cutD s (rowsD n rws), WR zs ∧ zs.length ≤ 5 := fun zs hz => by
  refine ⟨fun z hz2 => ⟨((cut_words g zs hz).2 z hz2).2, ((cut_words g zs hz).2 z hz2).1⟩, ?_⟩
  obtain ⟨r, hr, rfl⟩ := List.mem_map.mp hz
  obtain ⟨evs, he, rfl⟩ := List.mem_map.mp hr
  have := h5 evs he
  unfold cutR rowD
  rw [List.length_map]
  refine Nat.le_trans (List.length_filter_le _ _) ?_
  rw [List.length_map]; exact this
theorem cut_ne {n s : Nat} {rws : List (List Ev)} (h : rws ≠ []) : cutD s (rowsD n rws) ≠ [] := by simpa [cutD, rowsD] using h
theorem cut_len (n s : Nat) (rws : List (List Ev)) : (cutD s (rowsD n rws)).length = rws.length := by simp [cutD, rowsD]
theorem tx_len {zss : List (List Str)} (h : ∀ zs ∈ zss, WR zs ∧ zs.length ≤ 5) (hl : zss.length ≤ 60) : (jnl (zss.map jsp)).length ≤ 100000 ∧ ∀ z ∈ zss.map jsp, z.length ≤ 100 := by
  have h1 : ∀ z ∈ zss.map jsp, z.length ≤ 100 := fun z hz => by
    obtain ⟨zs, hs, rfl⟩ := List.mem_map.mp hz
    have := join_le (c := 32) (b := 5) (zs := zs) fun z hz => ((h zs hs).1 z hz).2
    have h2 := (h zs hs).2
    have : (jsp zs).length ≤ zs.length * 5 + zs.length := this
    omega
  refine ⟨?_, h1⟩
  have := join_le (c := 10) (b := 100) h1
  rw [List.length_map] at this
  have : (jnl (zss.map jsp)).length ≤ zss.length * 100 + zss.length := this
  omega
noncomputable def spFull : Sp := fun vs H Q _ => ∃ (p : Addr) (ls : List Addr) (zss : List (List Str)), vs = [.ref p] ∧ LLs H p ls zss ∧ zss.length ≤ 60 ∧ (∀ zs ∈ zss, WR zs) ∧ ∀ q qs H', Same H H' → LLs H' q qs (fullR zss) → Q (.ref q) H'
theorem eqv_snil (zs : List Str) : PyData.eqv (.list (zs.map PyData.str)) (.list []) = decide (zs = []) := by
  rw [eqv_nil]; simp
theorem wr_shd {zs : List Str} (h : WR zs) : Shd 1 (.list (zs.map PyData.str)) := shd_strs fun z hz c hc => by
  have := (h z hz).1.sg c hc
  omega
noncomputable abbrev N_law_full_rows : List Str := ["_law_rows"]
theorem sc_law_full_rows : FnScope N_law_full_rows ["_law_rows"] (defScope st_law_full_rows) := ⟨rfl, rfl, rfl, by decide +kernel, rfl, by decide +kernel, by decide +kernel⟩
theorem ok_full (T : All P w K mg AA DD) : FnOk P w K mg base CX0 1 AA.law_full_rows DD.law_full_rows ["_law_rows"] spFull := by
  refine T.F_law_full_rows.ok sc_law_full_rows (fun vs H Q E h => ?_) (fun cdv A outer s H vs Q E hr h => ?_)
  · obtain ⟨p, ls, zss, rfl, _⟩ := h
    rfl
  · obtain ⟨p, ls, zss, rfl, hL, hl, hW, k⟩ := h
    have nd := sc_law_full_rows.nd
    have hu := hr.units
    refine ⟨_, (@pss_one _ _ _ (@ps_ret _ _ _ _ (pe_comp (defScope st_law_full_rows) N_law_full_rows [] [] rfl (by exact ⟨rfl, rfl, by decide +kernel, rfl, by decide +kernel, by decide +kernel, by decide +kernel, rfl, by decide +kernel⟩) rfl rfl (pi_list (pv 0)) (fun _ _ _ _ => pif_one (pt_cmpR (op_neD (K := K) rfl hu) (pv 0) (pe_lst pa_nil) (nomark _))) (fun _ _ _ _ => (pv 0))))), ?_⟩
    refine ⟨_, rfl, p, rfl, ⟨_, SqL.of hL.lst⟩, ?_⟩
    refine comp_list (K := K) (a := p) (xs := ls.map V.ref) (fun i ys H' => Same H H' ∧ ∃ qs : List Addr, ys = qs.map V.ref ∧ qs.length = (fullR (zss.take i)).length ∧ ∀ (j : Nat) (l : Addr) (zs : List Str), qs[j]? = some l → (fullR (zss.take i))[j]? = some zs → H l = some (.lst (zs.map V.str))) ⟨Same.refl _, [], rfl, rfl, fun j l zs a => by simp at a⟩ (fun i ys H' _ z => SqL.of (z.1 _ _ hL.lst)) ?_ ?_
    · rintro i y ys H1 hy ⟨sm, qs, rfl, hql, hq⟩
      have hi : i < ls.length := by
        have := (List.getElem?_eq_some_iff.mp hy).1
        rw [List.length_map] at this; exact this
      have hlz := hL.len
      have hiz : i < zss.length := by omega
      have ey : y = V.ref ls[i] := by rw [List.getElem?_map, List.getElem?_eq_getElem hi] at hy; exact (Option.some.inj hy).symm
      subst ey
      have hat := hL.at_ i ls[i] zss[i] (List.getElem?_eq_getElem hi) (List.getElem?_eq_getElem hiz)
      have et : fullR (zss.take (i + 1)) = if zss[i] = [] then fullR (zss.take i) else fullR (zss.take i) ++ [zss[i]] := by
        rw [List.take_succ_eq_append_getElem hiz]
        unfold fullR
        rw [List.filter_append]
        by_cases e : zss[i] = [] <;> simp [e]
      refine ⟨_, rfl, Nat.zero_le _, fun pn hpn => ?_⟩
      have s1 := sm.trans (same_upd (o := .lst []) hpn)
      refine ⟨_, _, Rdv.strs (SqL.of (s1 _ _ hat)), (show Rdv K _ _ (.list []) from .lst (SqL.of upd_same) .nil), (wr_shd (hW _ (List.getElem_mem hiz))).ok (by decide), rfl, _, rfl, ?_⟩
      rw [eqv_snil]
      have hfl := full_len (zss.take i)
      rw [List.length_take] at hfl
      by_cases e : zss[i] = []
      · rw [decide_eq_true e]
        refine iteF ⟨s1, qs, rfl, ?_⟩
        rw [et, if_pos e]
        exact ⟨hql, hq⟩
      · rw [decide_eq_false e]
        refine iteT ⟨_, rfl, by rw [List.length_map]; exact small1000 (by omega), s1, qs ++ [ls[i]], by simp, ?_⟩
        rw [et, if_neg e]
        refine ⟨by simp [hql], fun j l zs a b => ?_⟩
        by_cases hj : j < qs.length
        · rw [List.getElem?_append_left hj] at a
          rw [List.getElem?_append_left (by omega)] at b
          exact hq j l zs a b
        · obtain ⟨e1, rfl⟩ := last_idx a hj
          rw [e1, hql] at b
          simp at b
          subst b
          exact hat
    · rintro ys H1 ⟨sm, qs, rfl, hql, hq⟩ q hq0
      rw [List.length_map, hL.len, List.take_length] at hql hq
      exact k q qs _ (sm.trans (same_upd hq0)) ⟨upd_same, hql, fun j l zs a b => (sm.trans (same_upd hq0)) _ _ (hq j l zs a b)⟩
end
section
variable {P : Program} {w : World} {K : PySem.W.Frag} {mg : Str → Option Value} {base : Heap} {AA : Adr} {DD : Fds}
theorem pi_listK {X : Cx} {K : PySem.W.Frag} {tg l : Expr} {tl : TE} (hK : X.K = K) (hl : PE X l tl) : PI X tg l (iList K tl) := by
  subst hK; exact pi_list hl
theorem free_none {ns nX : List (Str × NameKind)} (h : ∀ y ∈ ns, y.2 ≠ .free) : ∀ y ∈ ns, y.2 = .free → nX.lookup y.1 = some .cell := fun y hy hf => absurd hf (h y hy)
structure CutsAt (H : Hp) (pc : Addr) (ps : List Addr) (f : Nat → List (List Str)) : Prop where
  lst : H pc = some (.lst (ps.map V.ref))
  at_ : ∀ i p, ps[i]? = some p → ∃ ls, LLs H p ls (f i)
theorem CutsAt.same {H H' : Hp} {pc : Addr} {ps : List Addr} {f : Nat → List (List Str)} (h : CutsAt H pc ps f) (s : Same H H') : CutsAt H' pc ps f :=
  ⟨s _ _ h.lst, fun i p e => by obtain ⟨ls, hl⟩ := h.at_ i p e; exact ⟨ls, hl.same s⟩⟩
noncomputable def FV : Option Nat → V
  | none => .non
  | some t => .int ((t : Nat) : Int)
/-- the first setting at which two texts are cut otherwise, as far as i -/
noncomputable def FO (n : Nat) (r1 r2 : List (List Ev)) (i : Nat) : Option Nat → Prop
  | none => ∀ t, t < i → ¬ Dif n r1 r2 t
  | some u => u < i ∧ Dif n r1 r2 u ∧ ∀ t, t < u → ¬ Dif n r1 r2 t
theorem full_shd {zss : List (List Str)} (h : ∀ zs ∈ zss, WR zs) : Shd 2 (llPD (fullR zss)) := shd_ll fun zs hz z hz2 c hc => by
  have := (h zs (full_mem hz).1 z hz2).1.sg c hc
  omega
theorem wr_all {n s : Nat} {rws : List (List Ev)} (g : Grs n rws) : ∀ zs ∈ cutD s (rowsD n rws), WR zs := fun zs hz z hz2 => ⟨((cut_words g zs hz).2 z hz2).2, ((cut_words g zs hz).2 z hz2).1⟩
theorem fv_non (o : Option Nat) : decide (FV o = .non) = o.isNone := by cases o <;> simp [FV]
noncomputable def spLaw (K : PySem.W.Frag) : Sp := fun vs H Q _ => ∃ (a : Addr) (ns : List Int), vs = [.ref a] ∧ SqL K H a (ns.map V.int) ∧ ns.length ≤ 63 ∧ ∀ H', Q (.bl true) H'
noncomputable abbrev N_law : List Str := ["_law_script", "_law_draws_here", "_law_n", "_law_several", "_law_rows", "_law_text", "_law_read", "_law_cuts", "_law_rule", "_law_found", "_law_tidy", "_law_plain_one", "_law_lots", "_law_first", "_law_s", "_law_cut"]
theorem sc_law : FnScope N_law ["_law_script"] (defScope st_law) := ⟨rfl, rfl, rfl, by decide +kernel, rfl, by decide +kernel, by decide +kernel⟩
theorem ok_law (T : All P w K mg AA DD) {f : Addr} {fd : FuncData} (F : Fun K "law" "law" st_law f fd) : FnOk P w K mg base CX0 19 f fd ["_law_script"] (spLaw K) := by
  have GD0 := ok_draws (base := base) T
  have GN := ok_next (base := base) T
  have GR := ok_row (base := base) T
  have GD := ok_tidied (base := base) T
  have GY := ok_readr (base := base) T
  have GC := ok_cutrs (base := base) T
  have GZ := ok_cutt (base := base) T
  have GP := ok_parted (base := base) T
  have GJ := ok_joined (base := base) T
  have GF := ok_full (base := base) T
  refine F.ok sc_law (fun vs H Q E h => ?_) (fun cdv A outer s H vs Q E hr h => ?_)
  · obtain ⟨a, ns, rfl, _⟩ := h
    rfl
  · obtain ⟨a, ns, rfl, hS, hlen, k⟩ := h
    have nd := sc_law.nd
    have hu := hr.units
    have hr1 : Room 1 _ := hr.mono (by decide)
    have hr2 : Room 2 _ := hr.mono (by decide)
    have hr3 : Room 3 _ := hr.mono (by decide)
    have hr6 : Room 6 _ := hr.mono (by decide)
    have hr7 : Room 7 _ := hr.mono (by decide)
    have hr8 : Room 8 _ := hr.mono (by decide)
    have hr16 : Room 16 _ := hr.mono (by decide)
    have hr17 : Room 17 _ := hr.mono (by decide)
    refine ⟨_, (@pss_cons _ _ _ _ _ (@ps_set _ _ 1 _ _ _ _ nd rfl (Or.inr rfl) (pe_call GD0 hr2 rfl T.m_law_draws T.k_law_draws T.b_law_draws .nil pass0 (@pa_cons _ _ _ _ _ (pv 0) pa_nil (by rfl))) (by rfl) (by first | exact .inl rfl | exact .inr rfl | assumption)) (@pss_cons _ _ _ _ _ (@ps_set _ _ 2 _ _ _ _ nd rfl (Or.inr rfl) (@pe_op _ _ _ _ _ _ _ _ op_mod (pe_call GN hr2 rfl T.m_law_next T.k_law_next T.b_law_next .nil pass0 (@pa_cons _ _ _ _ _ (pv 1) pa_nil (by rfl))) pe_int) (by rfl) (by first | exact .inl rfl | exact .inr rfl | assumption)) (@pss_cons _ _ _ _ _ (@ps_set _ _ 3 _ _ _ _ nd rfl (Or.inl rfl) (@pe_op _ _ _ _ _ _ _ _ op_add pe_int (@pe_op _ _ _ _ _ _ _ _ op_mod (pe_call GN hr2 rfl T.m_law_next T.k_law_next T.b_law_next .nil pass0 (@pa_cons _ _ _ _ _ (pv 1) pa_nil (by rfl))) (@pe_op _ _ _ _ _ _ _ _ op_shlB pe_int (pv 2)))) (by rfl) (by first | exact .inl rfl | exact .inr rfl | assumption)) (@pss_cons _ _ _ _ _ (@ps_if _ _ _ _ _ _ _ _ (@pt_cmpR _ _ _ _ _ _ _ _ op_eq (@pe_op _ _ _ _ _ _ _ _ op_mod (pe_call GN hr2 rfl T.m_law_next T.k_law_next T.b_law_next .nil pass0 (@pa_cons _ _ _ _ _ (pv 1) pa_nil (by rfl))) pe_int) pe_int (nomark _)) (@pss_one _ _ _ (@ps_set _ _ 3 _ _ _ _ nd rfl (Or.inl rfl) (@pe_op _ _ _ _ _ _ _ _ op_shlB pe_int (pv 2)) (by rfl) (by first | exact .inl rfl | exact .inr rfl | assumption))) pss_nil) (@pss_cons _ _ _ _ _ (ps_setcomp (i := 4) (defScope st_law) N_law ["_law_draws_here", "_law_n"] [1, 2] rfl (by exact ⟨rfl, rfl, by decide +kernel, rfl, by decide +kernel, by decide +kernel, by decide +kernel, rfl, by decide +kernel⟩) rfl rfl (pi_range1 rfl T.n_range (@pa_cons _ _ _ _ _ (@pe_op _ _ _ _ _ _ _ _ op_mod (pe_call GN hr2 rfl T.m_law_next T.k_law_next T.b_law_next .nil pass0 (@pa_cons _ _ _ _ _ (pv 1) pa_nil (by rfl))) pe_int) pa_nil (by rfl))) (fun _ _ _ _ => pif_nil) (fun _ _ _ _ => (pe_call GR hr6 rfl T.m_law_row T.k_law_row T.b_law_row .nil pass0 (@pa_cons _ _ _ _ _ (pv 1) (@pa_cons _ _ _ _ _ (pv 2) pa_nil (by rfl)) (by rfl)))) nd rfl rfl rfl) (@pss_cons _ _ _ _ _ (@ps_set _ _ 5 _ _ _ _ nd rfl (Or.inl rfl) (pe_bmK (K := K) rfl PySem.F.plainAttrs_str PySem.F.slot_str_join PySem.F.type_str_join (mt_join (K := K) rfl) pe_str (@pa_cons _ _ _ _ _ (pv 4) pa_nil (by rfl))) (by rfl) (by first | exact .inl rfl | exact .inr rfl | assumption)) (@pss_cons _ _ _ _ _ (@ps_set _ _ 6 _ _ _ _ nd rfl (Or.inr rfl) (pe_call GY hr7 rfl T.m_read_rows T.k_read_rows T.b_read_rows .nil pass0 (@pa_cons _ _ _ _ _ (pv 5) (@pa_cons _ _ _ _ _ (pv 2) pa_nil (by rfl)) (by rfl))) (by rfl) (by first | exact .inl rfl | exact .inr rfl | assumption)) (@pss_cons _ _ _ _ _ (ps_setcomp (i := 7) (defScope st_law) N_law ["_law_read"] [6] rfl (by exact ⟨rfl, rfl, by decide +kernel, rfl, by decide +kernel, by decide +kernel, by decide +kernel, rfl, by decide +kernel⟩) rfl rfl (pi_range1 rfl T.n_range (@pa_cons _ _ _ _ _ (pv 3) pa_nil (by rfl))) (fun _ _ _ _ => pif_nil) (fun _ _ _ _ => (pe_call GC hr3 rfl T.m_cut_rows T.k_cut_rows T.b_cut_rows .nil pass0 (@pa_cons _ _ _ _ _ (pv 1) (@pa_cons _ _ _ _ _ (pv 0) pa_nil (by rfl)) (by rfl)))) nd rfl rfl rfl) (@pss_cons _ _ _ _ _ (@ps_set _ _ 8 _ _ _ _ nd rfl (Or.inl rfl) (@pe_op _ _ _ _ _ _ _ _ op_sub (@pe_op _ _ _ _ _ _ _ _ op_shlB pe_int (pe_callB call_len_seq rfl T.n_len bt_len (@pa_cons _ _ _ _ _ (pv 7) pa_nil (by rfl)))) pe_int) (by rfl) (by first | exact .inl rfl | exact .inr rfl | assumption)) (@pss_cons _ _ _ _ _ (@ps_set _ _ 9 _ _ _ _ nd rfl (Or.inl rfl) (pe_call GJ hr16 rfl T.m_joined T.k_joined T.b_joined .nil pass0 (@pa_cons _ _ _ _ _ (pe_comp (defScope st_law) N_law [] [] rfl (by exact ⟨rfl, rfl, by decide +kernel, rfl, by decide +kernel, by decide +kernel, by decide +kernel, rfl, by decide +kernel⟩) rfl rfl (pi_list (pv 7)) (fun _ _ _ _ => pif_nil) (fun _ _ _ _ => (pe_bmK (K := K) rfl PySem.F.plainAttrs_str PySem.F.slot_str_join PySem.F.type_str_join (mt_join (K := K) rfl) pe_str (@pa_cons _ _ _ _ _ (pe_comp (_) ["_law_cut"] [] [] rfl (by exact ⟨rfl, rfl, by decide +kernel, rfl, by decide +kernel, free_none (by decide +kernel), by decide +kernel, rfl, by decide +kernel⟩) rfl rfl (pi_listK (K := K) rfl (pv 0)) (fun _ _ _ _ => pif_nil) (fun _ _ _ _ => (pe_bmK (K := K) rfl PySem.F.plainAttrs_str PySem.F.slot_str_join PySem.F.type_str_join (mt_join (K := K) rfl) pe_str (@pa_cons _ _ _ _ _ (pv 0) pa_nil (by rfl))))) pa_nil (by rfl))))) (@pa_cons _ _ _ _ _ (pv 2) pa_nil (by rfl)) (by rfl))) (by rfl) (by first | exact .inl rfl | exact .inr rfl | assumption)) (@pss_cons _ _ _ _ _ (@ps_set _ _ 10 _ _ _ _ nd rfl (Or.inl rfl) (pe_call GD hr17 rfl T.m_tidied T.k_tidied T.b_tidied .nil pass0 (@pa_cons _ _ _ _ _ (pv 9) (@pa_cons _ _ _ _ _ (pv 2) (@pa_cons _ _ _ _ _ (pv 8) pa_nil (by rfl)) (by rfl)) (by rfl))) (by rfl) (by first | exact .inl rfl | exact .inr rfl | assumption)) (@pss_cons _ _ _ _ _ (@ps_set _ _ 11 _ _ _ _ nd rfl (Or.inl rfl) (pe_call GD hr17 rfl T.m_tidied T.k_tidied T.b_tidied .nil pass0 (@pa_cons _ _ _ _ _ (pv 5) (@pa_cons _ _ _ _ _ (pv 2) (@pa_cons _ _ _ _ _ (pv 8) pa_nil (by rfl)) (by rfl)) (by rfl))) (by rfl) (by first | exact .inl rfl | exact .inr rfl | assumption)) (@pss_cons _ _ _ _ _ (@ps_set _ _ 12 _ _ _ _ nd rfl (Or.inl rfl) (@pe_lst _ _ _ _ (@pa_cons _ _ _ _ _ (pe_call GY hr7 rfl T.m_read_rows T.k_read_rows T.b_read_rows .nil pass0 (@pa_cons _ _ _ _ _ (pv 9) (@pa_cons _ _ _ _ _ (pv 2) pa_nil (by rfl)) (by rfl))) (@pa_cons _ _ _ _ _ (pe_call GY hr7 rfl T.m_read_rows T.k_read_rows T.b_read_rows .nil pass0 (@pa_cons _ _ _ _ _ (pv 10) (@pa_cons _ _ _ _ _ (pv 2) pa_nil (by rfl)) (by rfl))) (@pa_cons _ _ _ _ _ (pe_call GY hr7 rfl T.m_read_rows T.k_read_rows T.b_read_rows .nil pass0 (@pa_cons _ _ _ _ _ (pv 11) (@pa_cons _ _ _ _ _ (pv 2) pa_nil (by rfl)) (by rfl))) pa_nil (by rfl)) (by rfl)) (by rfl))) (by rfl) (by first | exact .inl rfl | exact .inr rfl | assumption)) (@pss_cons _ _ _ _ _ (@ps_set _ _ 13 _ _ _ _ nd rfl (Or.inl rfl) pe_non (by rfl) (by first | exact .inl rfl | exact .inr rfl | assumption)) (@pss_cons _ _ _ _ _ (@ps_for _ _ _ _ _ _ _ _ PassesOwn.never rfl (pi_range1 rfl T.n_range (@pa_cons _ _ _ _ _ (pe_callB call_len_seq rfl T.n_len bt_len (@pa_cons _ _ _ _ _ (pv 7) pa_nil (by rfl))) pa_nil (by rfl))) (pg_name (i := 14) nd rfl (Or.inl rfl)) (@pss_cons _ _ _ _ _ (@ps_set _ _ 15 _ _ _ _ nd rfl (Or.inl rfl) (pe_call GC hr3 rfl T.m_cut_rows T.k_cut_rows T.b_cut_rows .nil pass0 (@pa_cons _ _ _ _ _ (@pe_ix _ _ _ _ _ _ _ (ix_listK (K := K) rfl) (pv 12) pe_int (fun _ _ => rfl)) (@pa_cons _ _ _ _ _ (pv 14) pa_nil (by rfl)) (by rfl))) (by rfl) (by first | exact .inl rfl | exact .inr rfl | assumption)) (@pss_cons _ _ _ _ _ (@ps_if _ _ _ _ _ _ _ _ (@pt_cmpR _ _ _ _ _ _ _ _ (op_neD (K := K) rfl hu) (pe_call GF hr1 rfl T.m_law_full_rows T.k_law_full_rows T.b_law_full_rows .nil pass0 (@pa_cons _ _ _ _ _ (pv 15) pa_nil (by rfl))) (pe_call GF hr1 rfl T.m_law_full_rows T.k_law_full_rows T.b_law_full_rows .nil pass0 (@pa_cons _ _ _ _ _ (@pe_ix _ _ _ _ _ _ _ (ix_listK (K := K) rfl) (pv 7) (pv 14) (fun _ _ => rfl)) pa_nil (by rfl))) (nomark _)) (@pss_one _ _ _ (@ps_ret _ _ _ _ pe_bl)) pss_nil) (@pss_cons _ _ _ _ _ (@ps_if _ _ _ _ _ _ _ _ (PW.pt (pw_or (@pt_cmpR _ _ _ _ _ _ _ _ (op_neD (K := K) rfl hu) (pe_call GC hr3 rfl T.m_cut_rows T.k_cut_rows T.b_cut_rows .nil pass0 (@pa_cons _ _ _ _ _ (@pe_ix _ _ _ _ _ _ _ (ix_listK (K := K) rfl) (pv 12) pe_int (fun _ _ => rfl)) (@pa_cons _ _ _ _ _ (pv 14) pa_nil (by rfl)) (by rfl))) (pv 15) (nomark _)) (pw_or1 (@pt_cmpR _ _ _ _ _ _ _ _ (op_neD (K := K) rfl hu) (pe_call GC hr3 rfl T.m_cut_rows T.k_cut_rows T.b_cut_rows .nil pass0 (@pa_cons _ _ _ _ _ (@pe_ix _ _ _ _ _ _ _ (ix_listK (K := K) rfl) (pv 12) pe_int (fun _ _ => rfl)) (@pa_cons _ _ _ _ _ (pv 14) pa_nil (by rfl)) (by rfl))) (@pe_ix _ _ _ _ _ _ _ (ix_listK (K := K) rfl) (pv 7) (pv 14) (fun _ _ => rfl)) (nomark _))))) (@pss_one _ _ _ (@ps_ret _ _ _ _ pe_bl)) pss_nil) (@pss_one _ _ _ (@ps_if _ _ _ _ _ _ _ _ (PW.pt (pw_and (pt_cmp (pc_isN (pv 13))) (pw_and1 (@pt_cmpR _ _ _ _ _ _ _ _ (op_neD (K := K) rfl hu) (pv 15) (@pe_ix _ _ _ _ _ _ _ (ix_listK (K := K) rfl) (pv 7) (pv 14) (fun _ _ => rfl)) (nomark _))))) (@pss_one _ _ _ (@ps_set _ _ 13 _ _ _ _ nd rfl (Or.inl rfl) (pv 14) (by rfl) (by first | exact .inl rfl | exact .inr rfl | assumption))) pss_nil))))) (by intro _; rfl)) (@pss_cons _ _ _ _ _ (@ps_if _ _ _ _ _ _ _ _ (@pt_cmpR _ _ _ _ _ _ _ _ op_ne (pe_call GZ hr8 rfl T.m_cut_text T.k_cut_text T.b_cut_text .nil pass0 (@pa_cons _ _ _ _ _ (pv 5) (@pa_cons _ _ _ _ _ (pv 2) (@pa_cons _ _ _ _ _ pe_int pa_nil (by rfl)) (by rfl)) (by rfl))) (pe_bmK (K := K) rfl PySem.F.plainAttrs_str PySem.F.slot_str_join PySem.F.type_str_join (mt_join (K := K) rfl) pe_str (@pa_cons _ _ _ _ _ (pe_comp (defScope st_law) N_law [] [] rfl (by exact ⟨rfl, rfl, by decide +kernel, rfl, by decide +kernel, by decide +kernel, by decide +kernel, rfl, by decide +kernel⟩) rfl rfl (pi_list (@pe_ix _ _ _ _ _ _ _ (ix_listK (K := K) rfl) (pv 7) pe_int (fun _ _ => rfl))) (fun _ _ _ _ => pif_nil) (fun _ _ _ _ => (pe_bmK (K := K) rfl PySem.F.plainAttrs_str PySem.F.slot_str_join PySem.F.type_str_join (mt_join (K := K) rfl) pe_str (@pa_cons _ _ _ _ _ (pv 0) pa_nil (by rfl))))) pa_nil (by rfl))) (nomark _)) (@pss_one _ _ _ (@ps_ret _ _ _ _ pe_bl)) pss_nil) (@pss_cons _ _ _ _ _ (@ps_if _ _ _ _ _ _ _ _ (PW.pt (pw_or (pt_cmp (pc_notN (pe_call GP hr8 rfl T.m_parted T.k_parted T.b_parted .nil pass0 (@pa_cons _ _ _ _ _ (pv 9) (@pa_cons _ _ _ _ _ (pv 10) (@pa_cons _ _ _ _ _ (pv 2) (@pa_cons _ _ _ _ _ (pv 8) pa_nil (by rfl)) (by rfl)) (by rfl)) (by rfl))))) (pw_or1 (pt_cmp (pc_notN (pe_call GP hr8 rfl T.m_parted T.k_parted T.b_parted .nil pass0 (@pa_cons _ _ _ _ _ (pv 5) (@pa_cons _ _ _ _ _ (pv 11) (@pa_cons _ _ _ _ _ (pv 2) (@pa_cons _ _ _ _ _ (pv 8) pa_nil (by rfl)) (by rfl)) (by rfl)) (by rfl)))))))) (@pss_one _ _ _ (@ps_ret _ _ _ _ pe_bl)) pss_nil) (@pss_one _ _ _ (@ps_ret _ _ _ _ (@pe_cmpR _ _ _ _ _ _ _ _ op_eq (pe_call GP hr8 rfl T.m_parted T.k_parted T.b_parted .nil pass0 (@pa_cons _ _ _ _ _ (pv 5) (@pa_cons _ _ _ _ _ (pv 9) (@pa_cons _ _ _ _ _ (pv 2) (@pa_cons _ _ _ _ _ (pv 8) pa_nil (by rfl)) (by rfl)) (by rfl)) (by rfl))) (pv 13) (nomark _))))))))))))))))))))), ?_⟩
    refine ⟨_, rfl, a, ns, rfl, hS, fun d H1 hd s1 hD => ?_⟩
    try dsimp only [gName]
    have hS1 := s1.seq hS
    -- how many switches
    refine ⟨_, rfl, d, a, ns, rfl, hD, hS1, fun r0 H2 hr0 b2 hD2 => ⟨_, _, rfl, rfl, (by show (0 : Int) < 4; decide), ?_⟩⟩
    try dsimp only [gName]
    obtain ⟨n, en, hn⟩ := modN (a := r0) (n := 4) (by decide)
    have en : r0 % 4 = ((n : Nat) : Int) := en
    rw [en]
    have hS2 := hD.seq b2 hS1
    have h2n : 2 ^ n ≤ 8 := Nat.le_trans (Nat.pow_le_pow_right (by decide) (show n ≤ 3 by omega)) (by decide)
    have h2p : 0 < 2 ^ n := Nat.two_pow_pos n
    -- how many cuts
    refine ⟨_, rfl, d, a, ns, rfl, hD2, hS2, fun r1 H3 h1 b3 hD3 => ⟨_, rfl, _, _, rfl, rfl, one_shl (by omega), ?_⟩⟩
    have hS3 := hD2.seq b3 hS2
    dsimp only
    rw [shl_n]
    refine ⟨_, _, rfl, rfl, (by show (0 : Int) < ((2 ^ n : Nat) : Int); omega), _, _, rfl, rfl, ?_⟩
    obtain ⟨q1, eq1, hq1⟩ := modN (a := r1) h2p
    try dsimp only [gName]
    rw [eq1, show (1 : Int) + ((q1 : Nat) : Int) = ((1 + q1 : Nat) : Int) by omega]
    refine cut_if (fun σ' H' => ∃ kk : Nat, 1 ≤ kk ∧ kk ≤ 2 ^ n ∧ Dr H' d a ∧ SqL K H' a (ns.map V.int) ∧ σ' = [some (.ref a), some (.ref d), some (.int ((n : Nat) : Int)), some (.int ((kk : Nat) : Int)), none, none, none, none, none, none, none, none, none, none, none, none]) (fun R hR => ?_) ?_
    · refine ⟨_, rfl, d, a, ns, rfl, hD3, hS3, fun r2 H4 h2 b4 hD4 => ⟨_, _, rfl, rfl, (by show (0 : Int) < 2; decide), rfl, _, rfl, ?_⟩⟩
      have hS4 := hD3.seq b4 hS3
      refine ite2 (fun _ => ?_) (fun _ => hR _ _ ⟨1 + q1, by omega, by omega, hD4, hS4, rfl⟩)
      refine ⟨_, rfl, _, _, rfl, rfl, one_shl (by omega), ?_⟩
      dsimp only
      rw [shl_n]
      exact hR _ _ ⟨2 ^ n, by omega, by omega, hD4, hS4, rfl⟩
    rintro σ H4 ⟨kk, hk1, hk2, hD4, hS4, rfl⟩
    clear hS3 hD3 hS2 hD2 hS1 hD b2 b3 hq1 eq1 h1 hr0
    -- the rows
    refine ⟨_, rfl, d, a, ns, rfl, hD4, hS4, fun r5 H8 h5 b8 hD8 => ?_⟩
    have hS8 := hD4.seq b8 hS4
    obtain ⟨q, eq, hq⟩ := modN (a := r5) (n := 8) (by decide)
    have eq : r5 % 8 = ((q : Nat) : Int) := eq
    refine ⟨_, _, rfl, rfl, (by show (0 : Int) < 8; decide), _, rfl, (by rw [eq]; omega), (by rw [eq]; omega), ?_⟩
    rw [eq, Int.toNat_natCast]
    refine comp_range (fun i ys H' => But d H8 H' ∧ Dr H' d a ∧ ∃ rws : List (List Ev), ys = (rws.map rowT).map V.str ∧ rws.length = i ∧ ∀ evs ∈ rws, Gev n evs ∧ (rn evs).2 = [] ∧ evs.length ≤ 60 ∧ (rn evs).1.length ≤ 5) ⟨But.refl _ _, hD8, [], rfl, rfl, by simp⟩ ?_ ?_
    · rintro i ys H9 hi ⟨b9, hD9, rws, rfl, hil, hG⟩
      refine tYes_ok ?_
      rw [if_pos rfl]
      refine ⟨_, rfl, _, rfl, d, a, ns, n, rfl, by omega, hD9, hD8.seq b9 hS8, fun evs H10 g1 g2 g3 g4 b10 hD10 => ?_⟩
      refine ⟨by rw [List.length_map, List.length_map]; exact small1000 (by omega), b9.trans b10, hD10, rws ++ [evs], by simp, by simp [hil], fun e he => ?_⟩
      rcases List.mem_append.mp he with z | z
      · exact hG e z
      · rw [List.mem_singleton.mp z]; exact ⟨g1, g2, g3, g4⟩
    rintro ys H9 ⟨b9, hD9, rws, rfl, hil, hG⟩ pr hpr
    have hPr : upd H9 pr (.lst ((rws.map rowT).map V.str)) pr = some (.lst ((rws.map rowT).map V.str)) := upd_same
    generalize upd H9 pr (.lst ((rws.map rowT).map V.str)) = H10 at hPr ⊢
    try dsimp only [gName]
    clear hS8 hD8 hS4 hD4 b8 b9 hD9 hpr h5 eq hS hlen
    -- the text
    refine ⟨rfl, _, rfl, _, pr, _, rfl, rfl, SqL.of hPr, (by rw [e_nl]; decide), weighT (b := 6200) (k := 8) (fun z hz => ?_) (by rw [List.length_map]; omega) (by decide), ?_⟩
    · obtain ⟨evs, he, rfl⟩ := List.mem_map.mp hz
      have hg := hG evs he
      have := rowT_len (n := n) (by omega) hg.1
      omega
    rw [e_nl, show Str.join ⟨#[10]⟩ (rws.map rowT) = textT (rw1 rws) from rw1_text rws]
    try dsimp only [gName]
    have gR : Grs n (rw1 rws) := by
      unfold rw1
      split
      · exact grs_one n
      · rename_i e
        exact ⟨e, by omega, fun evs he => ⟨(hG evs he).1, (hG evs he).2.1, by have := (hG evs he).2.2.1; omega⟩⟩
    have h5 : ∀ evs ∈ rw1 rws, (rn evs).1.length ≤ 5 := fun evs he => by
      unfold rw1 at he
      split at he
      · have : evs = [] := by simpa using he
        subst this; simp [rn]
      · exact (hG evs he).2.2.2
    have hrl : (rw1 rws).length ≤ 7 := by
      unfold rw1
      split
      · simp
      · omega
    generalize rw1 rws = rw at gR h5 hrl ⊢
    clear hG hil hPr
    have h33 : ∀ evs ∈ rw, (rn evs).1.length ≤ 33 := fun evs he => by have := h5 evs he; omega
    -- read
    refine ⟨_, rfl, _, rfl, rw, n, rfl, by omega, gR, fun p2 l2 H11 hp2 s11 hR => ?_⟩
    try dsimp only [gName]
    clear s11 hp2
    have o2 := rows_le gR
    -- the cuts
    refine ⟨_, rfl, _, rfl, by omega, by omega, ?_⟩
    rw [Int.toNat_natCast]
    refine comp_range (fun i ys H' => Same H11 H' ∧ ∃ ps : List Addr, ys = ps.map V.ref ∧ ps.length = i ∧ ∀ j p, ps[j]? = some p → ∃ ls, LLs H' p ls (cutD j (rowsD n rw))) ⟨Same.refl _, [], rfl, rfl, fun j p e => by simp at e⟩ ?_ ?_
    · rintro i ys H12 hi ⟨sm, ps, rfl, hpl, hps⟩
      rw [Int.zero_add]
      refine tYes_ok ?_
      rw [if_pos rfl]
      refine ⟨_, rfl, _, rfl, p2, l2, _, i, rfl, hR.same sm, o2.1, o2.2, fun q qs H13 _ _ _ s13 hL => ?_⟩
      refine ⟨by rw [List.length_map]; exact small1000 (by omega), sm.trans s13, ps ++ [q], by simp, by simp [hpl], fun j p e => ?_⟩
      by_cases hj : j < ps.length
      · rw [List.getElem?_append_left hj] at e
        obtain ⟨ls, hl⟩ := hps j p e
        exact ⟨ls, hl.same s13⟩
      · obtain ⟨e1, rfl⟩ := last_idx e hj
        rw [e1, hpl]
        exact ⟨qs, hL⟩
    rintro ys H12 ⟨sm, ps, rfl, hpl, hps⟩ pc hpc
    have hC : CutsAt (upd H12 pc (.lst (ps.map V.ref))) pc ps fun j => cutD j (rowsD n rw) := ⟨upd_same, fun i p e => by
      obtain ⟨ls, hl⟩ := hps i p e
      exact ⟨ls, hl.same (same_upd hpc)⟩⟩
    have hpl : ps.length = kk := hpl
    try dsimp only [gName]
    generalize upd H12 pc (.lst (ps.map V.ref)) = H13 at hC ⊢
    clear hps hpc sm hR l2
    have hf0 : ∀ s, cutD s (rowsD n rw) ≠ [] := fun s => cut_ne gR.1
    have hfw : ∀ s, ∀ zs ∈ cutD s (rowsD n rw), WR zs ∧ zs.length ≤ 5 := fun s => cut_wr gR h5
    have hfl : ∀ s, (cutD s (rowsD n rw)).length ≤ 7 := fun s => by rw [cut_len]; exact hrl
    -- the rule
    refine ⟨_, rfl, pc, _, rfl, .inl (SqL.of hC.lst), ?_⟩
    rw [List.length_map, hpl]
    refine ⟨_, _, rfl, rfl, one_shl (by omega), ?_⟩
    dsimp only
    rw [shl_n]
    refine ⟨_, _, rfl, rfl, ?_⟩
    have ef : ((2 ^ kk : Nat) : Int) - 1 = ((2 ^ kk - 1 : Nat) : Int) := by have := Nat.two_pow_pos kk; omega
    try dsimp only [gName]
    rw [ef]
    have hm : 2 ^ kk - 1 < 2 ^ 2 ^ n := Nat.lt_of_lt_of_le (Nat.sub_lt (Nat.two_pow_pos kk) (by decide)) (Nat.pow_le_pow_right (by decide) hk2)
    -- joined
    generalize hfd : (fun j => cutD j (rowsD n rw)) = fc at hC
    have hfc : ∀ j, fc j = cutD j (rowsD n rw) := fun j => by rw [← hfd]
    refine ⟨_, rfl, pc, rfl, ⟨_, SqL.of hC.lst⟩, ?_⟩
    refine comp_list (K := K) (a := pc) (xs := ps.map V.ref) (fun i ys H' => Same H13 H' ∧ i ≤ kk ∧ ys = (txF fc i).map V.str) ⟨Same.refl _, Nat.zero_le _, rfl⟩ (fun i ys H' _ z => SqL.of (z.1 _ _ hC.lst)) ?_ ?_
    · rintro i y ys H14 hy ⟨sm, _, rfl⟩
      have hi : i < ps.length := by
        have := (List.getElem?_eq_some_iff.mp hy).1
        rw [List.length_map] at this; exact this
      have ey : y = V.ref ps[i] := by rw [List.getElem?_map, List.getElem?_eq_getElem hi] at hy; exact (Option.some.inj hy).symm
      subst ey
      obtain ⟨ls, hL⟩ := hC.at_ i ps[i] (List.getElem?_eq_getElem hi)
      have hL := hL.same sm
      refine tYes_ok ?_
      rw [if_pos rfl]
      refine ⟨rfl, _, rfl, ps[i], rfl, ⟨_, SqL.of hL.lst⟩, ?_⟩
      have hll := hL.len
      refine comp_list (K := K) (a := ps[i]) (xs := ls.map V.ref) (fun j ys H' => H' = H14 ∧ j ≤ 60 ∧ ys = (((fc i).take j).map jsp).map V.str) ⟨rfl, Nat.zero_le _, rfl⟩ (fun j ys H' _ z => by rw [z.1]; exact SqL.of hL.lst) ?_ ?_
      · rintro j y ys H15 hy ⟨rfl, _, rfl⟩
        have hj : j < ls.length := by
          have := (List.getElem?_eq_some_iff.mp hy).1
          rw [List.length_map] at this; exact this
        have hjc : j < (fc i).length := by omega
        have h7 : (fc i).length ≤ 7 := by rw [hfc]; exact hfl i
        have ey : y = V.ref ls[j] := by rw [List.getElem?_map, List.getElem?_eq_getElem hj] at hy; exact (Option.some.inj hy).symm
        subst ey
        have hat := hL.at_ j ls[j] _ (List.getElem?_eq_getElem hj) (List.getElem?_eq_getElem hjc)
        have hw := hfw i (fc i)[j] (by rw [← hfc]; exact List.getElem_mem hjc)
        refine tYes_ok ?_
        rw [if_pos rfl]
        refine ⟨rfl, _, rfl, _, ls[j], (fc i)[j], rfl, rfl, SqL.of hat, (by rw [e_sp]; decide), weighT (b := 5) (k := 5) (fun z hz => (hw.1 z hz).2) hw.2 (by decide), by simp; exact small1000 (by omega), rfl, by omega, ?_⟩
        rw [e_sp, List.take_succ_eq_append_getElem hjc]
        simp only [List.map_append, List.map_cons, List.map_nil]
      rintro ys H15 ⟨rfl, _, rfl⟩ pj hpj
      have h7 : (fc i).length ≤ 7 := by rw [hfc]; exact hfl i
      rw [List.length_map, hll, List.take_length]
      have htl := tx_len (zss := fc i) (by rw [hfc]; exact hfw i) (by omega)
      refine ⟨_, pj, _, rfl, rfl, SqL.of upd_same, (by decide), weighT (b := 100) (k := 60) htl.2 (by rw [List.length_map]; omega) (by decide), ?_⟩
      refine ⟨by rw [List.length_map, txF_len]; exact small1000 (by omega), sm.trans (same_upd hpj), by omega, ?_⟩
      unfold txF
      rw [List.range_succ, List.map_append, List.map_append]
      rfl
    rintro ys H14 ⟨sm, _, rfl⟩ pt hpt
    rw [List.length_map, hpl]
    have hPt : upd H14 pt (.lst ((txF fc kk).map V.str)) pt = some (.lst ((txF fc kk).map V.str)) := upd_same
    have s14 := sm.trans (same_upd (o := .lst ((txF fc kk).map V.str)) hpt)
    have hC := hC.same s14
    generalize upd H14 pt (.lst ((txF fc kk).map V.str)) = H15 at hPt hC ⊢
    clear sm hpt s14
    have htx : ∀ t ∈ txF fc kk, t.length ≤ 100000 ∧ (ownR t).length ≤ 7 ∧ ∀ r ∈ ownR t, r.length ≤ 1000 := fun t ht => by
      obtain ⟨s, _, rfl⟩ := List.mem_map.mp ht
      have hw : ∀ zs ∈ fc s, WR zs ∧ zs.length ≤ 5 := by rw [hfc]; exact hfw s
      have h7 : (fc s).length ≤ 7 := by rw [hfc]; exact hfl s
      have htl := tx_len hw (by omega)
      refine ⟨htl.1, ?_⟩
      rw [own_cut (by rw [hfc]; exact hf0 s) fun zs hz => (hw zs hz).1]
      refine ⟨by rw [List.length_map]; exact Nat.le_trans (full_len _) h7, fun r hr => ?_⟩
      obtain ⟨zs, hz, rfl⟩ := List.mem_map.mp hr
      exact Nat.le_trans (htl.2 _ (List.mem_map.mpr ⟨zs, (full_mem hz).1, rfl⟩)) (by decide)
    have hsum : ((txF fc kk).map fun t => (ownR t).length).sum ≤ 60 := by
      have := sum_le (l := (txF fc kk).map fun t => (ownR t).length) (b := 7) fun x hx => by
        obtain ⟨t, ht, rfl⟩ := List.mem_map.mp hx
        exact (htx t ht).2.1
      rw [List.length_map, txF_len] at this
      omega
    refine ⟨_, rfl, pt, n, txF fc kk, rfl, hPt, by rw [txF_len]; omega, fun t ht => (htx t ht).1, hsum, by omega, by rw [txF_len]; exact hk2, fun t ht => (htx t ht).2.2, fun hJ H16 s16 => ?_⟩
    rw [txF_len] at hJ ⊢
    obtain ⟨cs, ers, hJC⟩ := jc_of (k := kk) (f := fc) (fun s => by rw [hfc]; exact hf0 s) (fun s => by rw [hfc]; exact hfw s) hJ
    have hcl : cs.length ≤ 60 := by
      have := hJ.len
      rw [ers, List.length_map, List.map_map] at this
      exact Nat.le_trans this hsum
    rw [ers, show Str.join ⟨#[10]⟩ ((cs.map fun c => (jsp c.2, c.1)).map fun p => lineT n kk p) = textT (rw2 n kk cs) from rw2_text fun c hc => (hJC.ok c hc).1]
    obtain ⟨gJ, hJ33⟩ := rw2_grs (n := n) (by omega) hJC hcl
    have hfull : ∀ s, s < kk → fullR (cutD s (rowsD n (rw2 n kk cs))) = fullR (fc s) := fun s hs => rw2_full hk2 hs hJC
    have hC := hC.same s16
    generalize rw2 n kk cs = rj at gJ hJ33 hfull ⊢
    clear hJ ers hJC hcl cs hPt s16 htx hsum
    try dsimp only [gName]
    -- tidied
    refine ⟨_, rfl, _, rfl, _, rfl, rj, n, 2 ^ kk - 1, rfl, by omega, hm, gJ, hJ33, fun H17 s17 => ?_⟩
    try dsimp only [gName]
    refine ⟨_, rfl, _, rfl, _, rfl, rw, n, 2 ^ kk - 1, rfl, by omega, hm, gR, h33, fun H18 s18 => ?_⟩
    try dsimp only [gName]
    have hC := (hC.same s17).same s18
    obtain ⟨gT, _⟩ := td_rows (n := n) (m := 2 ^ kk - 1) (by omega) gJ hJ33
    obtain ⟨gU, _⟩ := td_rows (n := n) (m := 2 ^ kk - 1) (by omega) gR h33
    have hbit : ∀ t, t < kk → (2 ^ kk - 1).testBit t = true := fun t ht => by rw [Nat.testBit_two_pow_sub_one]; simpa using ht
    have hbit2 : ∀ t, (2 ^ kk - 1).testBit t = true → t < kk := fun t ht => by rw [Nat.testBit_two_pow_sub_one] at ht; simpa using ht
    have hcT : ∀ t, t < kk → cutD t (rowsD n (rj.map (tdE n (2 ^ kk - 1)))) = cutD t (rowsD n rj) := fun t ht => by
      unfold cutD rowsD
      rw [List.map_map, List.map_map, List.map_map]
      exact List.map_congr_left fun evs he => cut_td hm (hbit t ht) (gJ.2.2 evs he).1
    have hcU : ∀ t, t < kk → cutD t (rowsD n (rw.map (tdE n (2 ^ kk - 1)))) = cutD t (rowsD n rw) := fun t ht => by
      unfold cutD rowsD
      rw [List.map_map, List.map_map, List.map_map]
      exact List.map_congr_left fun evs he => cut_td hm (hbit t ht) (gR.2.2 evs he).1
    -- the three
    refine ⟨_, rfl, _, rfl, rj, n, rfl, by omega, gJ, fun p1 l1 H19 _ s19 hR1 => ?_⟩
    refine ⟨_, rfl, _, rfl, rj.map (tdE n (2 ^ kk - 1)), n, rfl, by omega, gT, fun p3 l3 H20 _ s20 hR3 => ?_⟩
    refine ⟨_, rfl, _, rfl, rw.map (tdE n (2 ^ kk - 1)), n, rfl, by omega, gU, fun p4 l4 H21 _ s21 hR4 => ?_⟩
    refine ⟨(by show 3 ≤ sizeLine; decide), fun pl hpl0 => ?_⟩
    have s22 := same_upd (o := .lst [.ref p1, .ref p3, .ref p4]) hpl0
    have hPl : upd H21 pl (.lst [.ref p1, .ref p3, .ref p4]) pl = some (.lst [.ref p1, .ref p3, .ref p4]) := upd_same
    have hR1 := ((hR1.same s20).same s21).same s22
    have hR3 := (hR3.same s21).same s22
    have hR4 := hR4.same s22
    have hC := (((hC.same s19).same s20).same s21).same s22
    try dsimp only [gName]
    generalize upd H21 pl (.lst [.ref p1, .ref p3, .ref p4]) = H22 at hPl hR1 hR3 hR4 hC ⊢
    clear s17 s18 s19 s20 s21 s22 hpl0
    have o1 := rows_le gJ
    have o3 := rows_le gT
    have o4 := rows_le gU
    refine seq_c ?_
    try dsimp only [gName]
    have c60 : ∀ t, (cutD t (rowsD n rj)).length ≤ 60 := fun t => by rw [cut_len]; exact gJ.2.1
    refine cut_for (fun σ' H' => Same H22 H' ∧ ∃ (o : Option Nat) (x14 x15 : Option V), FO n rw rj kk o ∧ σ' = [some (.ref a), some (.ref d), some (.int ((n : Nat) : Int)), some (.int ((kk : Nat) : Int)), some (.ref pr), some (.str (textT rw)), some (.ref p2), some (.ref pc), some (.int ((2 ^ kk - 1 : Nat) : Int)), some (.str (textT rj)), some (.str (textT (rj.map (tdE n (2 ^ kk - 1))))), some (.str (textT (rw.map (tdE n (2 ^ kk - 1))))), some (.ref pl), some (FV o), x14, x15]) (fun R hR => ?_) ?_
    · refine ⟨_, rfl, pc, _, rfl, .inl (SqL.of hC.lst), ?_⟩
      rw [List.length_map, hpl]
      refine ⟨_, rfl, by omega, by omega, ?_⟩
      rw [Int.toNat_natCast]
      refine for_range (D := ⟨R, _, R, R⟩) (fun i σ' H' => Same H22 H' ∧ ∃ (o : Option Nat) (x14 x15 : Option V), FO n rw rj i o ∧ σ' = [some (.ref a), some (.ref d), some (.int ((n : Nat) : Int)), some (.int ((kk : Nat) : Int)), some (.ref pr), some (.str (textT rw)), some (.ref p2), some (.ref pc), some (.int ((2 ^ kk - 1 : Nat) : Int)), some (.str (textT rj)), some (.str (textT (rj.map (tdE n (2 ^ kk - 1))))), some (.str (textT (rw.map (tdE n (2 ^ kk - 1))))), some (.ref pl), some (FV o), x14, x15]) ⟨Same.refl _, none, none, none, fun t ht => absurd ht (Nat.not_lt_zero t), rfl⟩ ?_ (fun σ' H' h => hR _ _ h)
      rintro i σ' H23 hi ⟨sm, o, x14, x15, hFO, rfl⟩
      rw [Int.zero_add]
      have hip : i < ps.length := by omega
      have atc : atI (ps.map V.ref) ((i : Nat) : Int) = some (.ref ps[i]) := atI_nat (j := i) (by rw [List.getElem?_map, List.getElem?_eq_getElem hip]; rfl)
      obtain ⟨lc, hLc⟩ := hC.at_ i ps[i] (List.getElem?_eq_getElem hip)
      rw [hfc] at hLc
      refine ⟨_, rfl, pl, _, _, _, rfl, rfl, SqL.of (sm _ _ hPl), rfl, _, rfl, p1, l1, _, i, rfl, hR1.same sm, o1.1, o1.2, fun q1 qs1 H24 _ _ _ s24 hL1 => ?_⟩
      try dsimp only [gName]
      have sm := sm.trans s24
      refine ⟨_, rfl, q1, qs1, _, rfl, hL1, c60 i, wr_all gJ, fun q2 qs2 H25 s25 hL2 => ?_⟩
      refine ⟨_, rfl, _, rfl, pc, _, _, _, rfl, rfl, SqL.of ((sm.trans s25) _ _ hC.lst), atc, ps[i], lc, _, rfl, hLc.same (sm.trans s25), (by have := hfl i; omega), wr_all gR, fun q3 qs3 H26 s26 hL3 => ?_⟩
      have hfu := hfull i hi
      rw [hfc] at hfu
      refine ⟨_, _, (hL2.same s26).rdv, hL3.rdv, (full_shd (wr_all gJ)).ok (by decide), (full_shd (wr_all gR)).ok (by decide), _, rfl, ?_⟩
      rw [eqv_ll, decide_eq_true hfu]
      refine iteF ?_
      have sm := (sm.trans s25).trans s26
      have hL1 := (hL1.same s25).same s26
      clear hL2 hL3 s25 s26 s24
      refine ⟨_, rfl, pl, _, _, _, rfl, rfl, SqL.of (sm _ _ hPl), rfl, _, rfl, p3, l3, _, i, rfl, hR3.same sm, o3.1, o3.2, fun q4 qs4 H27 _ _ _ s27 hL4 => ?_⟩
      refine ⟨_, rfl, _, _, hL4.rdv, (hL1.same s27).rdv, (cut_shape gT).ok (by decide), (cut_shape gJ).ok (by decide), _, rfl, ?_⟩
      rw [eqv_ll, decide_eq_true (hcT i hi)]
      refine iteF ?_
      have sm := sm.trans s27
      have hL1 := hL1.same s27
      clear hL4 s27
      refine ⟨_, rfl, pl, _, _, _, rfl, rfl, SqL.of (sm _ _ hPl), rfl, _, rfl, p4, l4, _, i, rfl, hR4.same sm, o4.1, o4.2, fun q5 qs5 H28 _ _ _ s28 hL5 => ?_⟩
      have sm := sm.trans s28
      have hL1 := hL1.same s28
      refine ⟨_, rfl, _, rfl, pc, _, _, _, rfl, rfl, SqL.of (sm _ _ hC.lst), atc, _, _, hL5.rdv, (hLc.same sm).rdv, (cut_shape gU).ok (by decide), (cut_shape gR).ok (by decide), _, rfl, ?_⟩
      rw [eqv_ll, decide_eq_true (hcU i hi)]
      refine iteF ?_
      clear hL5 s28
      refine ⟨_, rfl, _, rfl, ?_⟩
      rw [fv_non]
      cases o with
      | some u =>
        refine iteF (iteF ⟨sm, some u, _, _, ?_, rfl⟩)
        obtain ⟨h1, h2, h3⟩ := hFO
        exact ⟨by omega, h2, h3⟩
      | none =>
        refine iteT ?_
        refine ⟨_, rfl, _, rfl, _, rfl, pc, _, _, _, rfl, rfl, SqL.of (sm _ _ hC.lst), atc, _, _, hL1.rdv, (hLc.same sm).rdv, (cut_shape gJ).ok (by decide), (cut_shape gR).ok (by decide), _, rfl, ?_⟩
        rw [eqv_ll]
        by_cases hd : cutD i (rowsD n rj) = cutD i (rowsD n rw)
        · rw [decide_eq_true hd]
          refine iteF ⟨sm, none, _, _, fun t ht => ?_, rfl⟩
          rcases Nat.lt_succ_iff_lt_or_eq.mp ht with z | z
          · exact hFO t z
          · rw [z]; exact fun h => h hd.symm
        · rw [decide_eq_false hd]
          refine iteT ⟨_, rfl, sm, some i, _, _, ⟨Nat.lt_succ_self i, fun h => hd h.symm, hFO⟩, rfl⟩
    rintro σ' H23 ⟨s23, o, x14, x15, hFO, rfl⟩
    have hPl := s23 _ _ hPl
    have hC := hC.same s23
    clear s23 hR1 hR3 hR4
    -- cut at the first setting
    have h0p : 0 < ps.length := by omega
    obtain ⟨lc, hLc⟩ := hC.at_ 0 ps[0] (List.getElem?_eq_getElem h0p)
    rw [hfc] at hLc
    have at0 : atI (ps.map V.ref) 0 = some (.ref ps[0]) := atI_nat (j := 0) (by rw [List.getElem?_map, List.getElem?_eq_getElem h0p]; rfl)
    refine if_cut (fun b H' => b = false) (fun R hR => ?_) (fun H' h => absurd h (fun z => by cases z)) ?_
    · refine ⟨_, rfl, _, rfl, rw, n, 0, rfl, by omega, h2p, gR, fun H24 s24 => ?_⟩
      refine ⟨rfl, _, rfl, pc, _, _, _, rfl, rfl, SqL.of (s24 _ _ hC.lst), at0, ps[0], rfl, ⟨_, SqL.of (s24 _ _ hLc.lst)⟩, ?_⟩
      have hLc := hLc.same s24
      have hll := hLc.len
      have h7 := hfl 0
      refine comp_list (K := K) (a := ps[0]) (xs := lc.map V.ref) (fun j ys H' => H' = H24 ∧ j ≤ 60 ∧ ys = (((cutD 0 (rowsD n rw)).take j).map jsp).map V.str) ⟨rfl, Nat.zero_le _, rfl⟩ (fun j ys H' _ z => by rw [z.1]; exact SqL.of hLc.lst) ?_ ?_
      · rintro j y ys H25 hy ⟨rfl, _, rfl⟩
        have hj : j < lc.length := by
          have := (List.getElem?_eq_some_iff.mp hy).1
          rw [List.length_map] at this; exact this
        have hjc : j < (cutD 0 (rowsD n rw)).length := by omega
        have ey : y = V.ref lc[j] := by rw [List.getElem?_map, List.getElem?_eq_getElem hj] at hy; exact (Option.some.inj hy).symm
        subst ey
        have hat := hLc.at_ j lc[j] _ (List.getElem?_eq_getElem hj) (List.getElem?_eq_getElem hjc)
        have hw := hfw 0 (cutD 0 (rowsD n rw))[j] (List.getElem_mem hjc)
        refine tYes_ok ?_
        rw [if_pos rfl]
        refine ⟨rfl, _, rfl, _, lc[j], (cutD 0 (rowsD n rw))[j], rfl, rfl, SqL.of hat, (by rw [e_sp]; decide), weighT (b := 5) (k := 5) (fun z hz => (hw.1 z hz).2) hw.2 (by decide), by simp; exact small1000 (by omega), rfl, by omega, ?_⟩
        rw [e_sp, List.take_succ_eq_append_getElem hjc]
        simp only [List.map_append, List.map_cons, List.map_nil]
      rintro ys H25 ⟨rfl, _, rfl⟩ pj hpj
      rw [List.length_map, hll, List.take_length]
      have htl := tx_len (zss := cutD 0 (rowsD n rw)) (hfw 0) (by omega)
      refine ⟨_, pj, _, rfl, rfl, SqL.of upd_same, (by decide), weighT (b := 100) (k := 60) htl.2 (by rw [List.length_map]; omega) (by decide), rfl, _, rfl, ?_⟩
      rw [decide_eq_true (congrArg V.str (show cutT 0 n rw = Str.join ⟨#[10]⟩ ((cutD 0 (rowsD n rw)).map jsp) from rfl))]
      exact hR _ _ rfl
    rintro H24 _
    -- parted
    dsimp only [tNext]
    have hno : ∀ {r1 r2 : List (List Ev)} {t : Nat}, (cutD t (rowsD n r1) = cutD t (rowsD n r2)) → ¬ Dif n r1 r2 t := fun e h => h e
    refine if_cut (fun b H' => b = false) (fun R hR => ?_) (fun H' h => absurd h (fun z => by cases z)) ?_
    · refine ⟨_, rfl, _, rfl, _, rfl, _, rfl, rj, rj.map (tdE n (2 ^ kk - 1)), n, 2 ^ kk - 1, rfl, by omega, hm, gJ, gT, fun H' t _ _ hb hD _ => absurd hD (hno (hcT t (hbit2 t hb)).symm), fun H25 s25 _ => ?_⟩
      refine ⟨_, rfl, iteF ?_⟩
      refine ⟨_, rfl, _, rfl, _, rfl, _, rfl, rw, rw.map (tdE n (2 ^ kk - 1)), n, 2 ^ kk - 1, rfl, by omega, hm, gR, gU, fun H' t _ _ hb hD _ => absurd hD (hno (hcU t (hbit2 t hb)).symm), fun H26 s26 _ => ?_⟩
      exact ⟨_, rfl, hR _ _ rfl⟩
    rintro H25 _
    refine ⟨_, rfl, _, rfl, _, rfl, _, rfl, rw, rj, n, 2 ^ kk - 1, rfl, by omega, hm, gR, gJ, fun H' t _ ht hb hD hlo => ⟨_, rfl, ?_⟩, fun H' _ hall => ⟨_, rfl, ?_⟩⟩
    · have htk := hbit2 t hb
      have eo : o = some t := by
        cases o with
        | none => exact absurd hD (hFO t htk)
        | some u =>
          obtain ⟨h1, h2, h3⟩ := hFO
          rcases Nat.lt_trichotomy t u with z | z | z
          · exact absurd hD (h3 t z)
          · rw [z]
          · exact absurd h2 (hlo u z (hbit u h1))
      rw [eo]
      refine ⟨rfl, ?_⟩
      rw [show decide (V.int ((t : Nat) : Int) = FV (some t)) = true from decide_eq_true rfl]
      exact k _
    · have eo : o = none := by
        cases o with
        | none => rfl
        | some u =>
          obtain ⟨h1, h2, h3⟩ := hFO
          exact absurd h2 (hall u (by omega) (hbit u h1))
      rw [eo]
      refine ⟨rfl, ?_⟩
      rw [show decide (V.non = FV none) = true from decide_eq_true rfl]
      exact k _
end
theorem all_mk {l : PySem.W.OpenLaw} {w : World} {K : PySem.W.Frag} {h : Heap} {mg : Str → Option Value} {fa f_every f_switch_mask f_is_whole f_is_mask f_has f_settings f_with_on f_with_off f_read_wish f_mask_of_text f_reckoned f_taken f_value_of f_put_together_wishes f_shown_wish f_shown_from f_read_rows f_read_words f_words_of f_group_mask f_in_group f_cut_row f_cut_rows f_cut_text f_is_setting f_joined f_put_together_joining f_most_shared f_tidied f_ask_rule f_tidied_row f_come_together f_parted f_law_cell_at f_law_mixed f_law_draws f_law_next f_law_wish f_law_word f_law_row f_law_full_rows f_law d_NEEDS : Addr} (X : K.In h) (G : h.Ns mainGlobals mg) (hfa : mg "law" = some (.ref fa))
    {od_every an_every od_switch_mask an_switch_mask od_is_whole an_is_whole od_is_mask an_is_mask od_has an_has od_settings an_settings od_with_on an_with_on od_with_off an_with_off od_read_wish an_read_wish od_mask_of_text an_mask_of_text od_reckoned an_reckoned od_taken an_taken od_value_of an_value_of od_put_together_wishes an_put_together_wishes od_shown_wish an_shown_wish od_shown_from an_shown_from od_read_rows an_read_rows od_read_words an_read_words od_words_of an_words_of od_group_mask an_group_mask od_in_group an_in_group od_cut_row an_cut_row od_cut_rows an_cut_rows od_cut_text an_cut_text od_is_setting an_is_setting od_joined an_joined od_put_together_joining an_put_together_joining od_most_shared an_most_shared od_tidied an_tidied od_ask_rule an_ask_rule od_tidied_row an_tidied_row od_come_together an_come_together od_parted an_parted od_law_cell_at an_law_cell_at od_law_mixed an_law_mixed od_law_draws an_law_draws od_law_next an_law_next od_law_wish an_law_wish od_law_word an_law_word od_law_row an_law_row od_law_full_rows an_law_full_rows od_law an_law : Option Addr} {sl_every sl_switch_mask sl_is_whole sl_is_mask sl_has sl_settings sl_with_on sl_with_off sl_read_wish sl_mask_of_text sl_reckoned sl_taken sl_value_of sl_put_together_wishes sl_shown_wish sl_shown_from sl_read_rows sl_read_words sl_words_of sl_group_mask sl_in_group sl_cut_row sl_cut_rows sl_cut_text sl_is_setting sl_joined sl_put_together_joining sl_most_shared sl_tidied sl_ask_rule sl_tidied_row sl_come_together sl_parted sl_law_cell_at sl_law_mixed sl_law_draws sl_law_next sl_law_wish sl_law_word sl_law_row sl_law_full_rows sl_law : Array (Option Value)} {oc_every kV_every dc_every pm_every cd_every ct_every oc_switch_mask kV_switch_mask dc_switch_mask pm_switch_mask cd_switch_mask ct_switch_mask oc_is_whole kV_is_whole dc_is_whole pm_is_whole cd_is_whole ct_is_whole oc_is_mask kV_is_mask dc_is_mask pm_is_mask cd_is_mask ct_is_mask oc_has kV_has dc_has pm_has cd_has ct_has oc_settings kV_settings dc_settings pm_settings cd_settings ct_settings oc_with_on kV_with_on dc_with_on pm_with_on cd_with_on ct_with_on oc_with_off kV_with_off dc_with_off pm_with_off cd_with_off ct_with_off oc_read_wish kV_read_wish dc_read_wish pm_read_wish cd_read_wish ct_read_wish oc_mask_of_text kV_mask_of_text dc_mask_of_text pm_mask_of_text cd_mask_of_text ct_mask_of_text oc_reckoned kV_reckoned dc_reckoned pm_reckoned cd_reckoned ct_reckoned oc_taken kV_taken dc_taken pm_taken cd_taken ct_taken oc_value_of kV_value_of dc_value_of pm_value_of cd_value_of ct_value_of oc_put_together_wishes kV_put_together_wishes dc_put_together_wishes pm_put_together_wishes cd_put_together_wishes ct_put_together_wishes oc_shown_wish kV_shown_wish dc_shown_wish pm_shown_wish cd_shown_wish ct_shown_wish oc_shown_from kV_shown_from dc_shown_from pm_shown_from cd_shown_from ct_shown_from oc_read_rows kV_read_rows dc_read_rows pm_read_rows cd_read_rows ct_read_rows oc_read_words kV_read_words dc_read_words pm_read_words cd_read_words ct_read_words oc_words_of kV_words_of dc_words_of pm_words_of cd_words_of ct_words_of oc_group_mask kV_group_mask dc_group_mask pm_group_mask cd_group_mask ct_group_mask oc_in_group kV_in_group dc_in_group pm_in_group cd_in_group ct_in_group oc_cut_row kV_cut_row dc_cut_row pm_cut_row cd_cut_row ct_cut_row oc_cut_rows kV_cut_rows dc_cut_rows pm_cut_rows cd_cut_rows ct_cut_rows oc_cut_text kV_cut_text dc_cut_text pm_cut_text cd_cut_text ct_cut_text oc_is_setting kV_is_setting dc_is_setting pm_is_setting cd_is_setting ct_is_setting oc_joined kV_joined dc_joined pm_joined cd_joined ct_joined oc_put_together_joining kV_put_together_joining dc_put_together_joining pm_put_together_joining cd_put_together_joining ct_put_together_joining oc_most_shared kV_most_shared dc_most_shared pm_most_shared cd_most_shared ct_most_shared oc_tidied kV_tidied dc_tidied pm_tidied cd_tidied ct_tidied oc_ask_rule kV_ask_rule dc_ask_rule pm_ask_rule cd_ask_rule ct_ask_rule oc_tidied_row kV_tidied_row dc_tidied_row pm_tidied_row cd_tidied_row ct_tidied_row oc_come_together kV_come_together dc_come_together pm_come_together cd_come_together ct_come_together oc_parted kV_parted dc_parted pm_parted cd_parted ct_parted oc_law_cell_at kV_law_cell_at dc_law_cell_at pm_law_cell_at cd_law_cell_at ct_law_cell_at oc_law_mixed kV_law_mixed dc_law_mixed pm_law_mixed cd_law_mixed ct_law_mixed oc_law_draws kV_law_draws dc_law_draws pm_law_draws cd_law_draws ct_law_draws oc_law_next kV_law_next dc_law_next pm_law_next cd_law_next ct_law_next oc_law_wish kV_law_wish dc_law_wish pm_law_wish cd_law_wish ct_law_wish oc_law_word kV_law_word dc_law_word pm_law_word cd_law_word ct_law_word oc_law_row kV_law_row dc_law_row pm_law_row cd_law_row ct_law_row oc_law_full_rows kV_law_full_rows dc_law_full_rows pm_law_full_rows cd_law_full_rows ct_law_full_rows oc_law kV_law dc_law pm_law cd_law ct_law : Value}
    {t_LETTERS t_DEEPEST_GROUP : Tok}
    {h_NEEDS_0 h_NEEDS_1 h_NEEDS_2 h_NEEDS_3 h_NEEDS_4 : Int} {t_NEEDS_0 u_NEEDS_0 t_NEEDS_1 u_NEEDS_1 t_NEEDS_2 u_NEEDS_2 t_NEEDS_3 u_NEEDS_3 t_NEEDS_4 u_NEEDS_4 : Tok} {ep_NEEDS : Nat}
    (a_every : PySem.W.nsIn K mainGlobals "every" = some (some (.ref f_every)))
    (l_every : K.lookup f_every = some ⟨oc_every, od_every, .func (PySem.W.fnOf "every" "every" (defArgs st_every) (defBody st_every) (defScope st_every) .none kV_every dc_every pm_every an_every cd_every ct_every), sl_every⟩)
    (c_every' : PySem.W.codeIn K cd_every "every" = true)
    (k_every : PySem.W.keepIn K (.ref f_every) = true)
    (a_switch_mask : PySem.W.nsIn K mainGlobals "switch_mask" = some (some (.ref f_switch_mask)))
    (l_switch_mask : K.lookup f_switch_mask = some ⟨oc_switch_mask, od_switch_mask, .func (PySem.W.fnOf "switch_mask" "switch_mask" (defArgs st_switch_mask) (defBody st_switch_mask) (defScope st_switch_mask) .none kV_switch_mask dc_switch_mask pm_switch_mask an_switch_mask cd_switch_mask ct_switch_mask), sl_switch_mask⟩)
    (c_switch_mask' : PySem.W.codeIn K cd_switch_mask "switch_mask" = true)
    (k_switch_mask : PySem.W.keepIn K (.ref f_switch_mask) = true)
    (a_is_whole : PySem.W.nsIn K mainGlobals "is_whole" = some (some (.ref f_is_whole)))
    (l_is_whole : K.lookup f_is_whole = some ⟨oc_is_whole, od_is_whole, .func (PySem.W.fnOf "is_whole" "is_whole" (defArgs st_is_whole) (defBody st_is_whole) (defScope st_is_whole) .none kV_is_whole dc_is_whole pm_is_whole an_is_whole cd_is_whole ct_is_whole), sl_is_whole⟩)
    (c_is_whole' : PySem.W.codeIn K cd_is_whole "is_whole" = true)
    (k_is_whole : PySem.W.keepIn K (.ref f_is_whole) = true)
    (a_is_mask : PySem.W.nsIn K mainGlobals "is_mask" = some (some (.ref f_is_mask)))
    (l_is_mask : K.lookup f_is_mask = some ⟨oc_is_mask, od_is_mask, .func (PySem.W.fnOf "is_mask" "is_mask" (defArgs st_is_mask) (defBody st_is_mask) (defScope st_is_mask) .none kV_is_mask dc_is_mask pm_is_mask an_is_mask cd_is_mask ct_is_mask), sl_is_mask⟩)
    (c_is_mask' : PySem.W.codeIn K cd_is_mask "is_mask" = true)
    (k_is_mask : PySem.W.keepIn K (.ref f_is_mask) = true)
    (a_has : PySem.W.nsIn K mainGlobals "has" = some (some (.ref f_has)))
    (l_has : K.lookup f_has = some ⟨oc_has, od_has, .func (PySem.W.fnOf "has" "has" (defArgs st_has) (defBody st_has) (defScope st_has) .none kV_has dc_has pm_has an_has cd_has ct_has), sl_has⟩)
    (c_has' : PySem.W.codeIn K cd_has "has" = true)
    (k_has : PySem.W.keepIn K (.ref f_has) = true)
    (a_settings : PySem.W.nsIn K mainGlobals "settings" = some (some (.ref f_settings)))
    (l_settings : K.lookup f_settings = some ⟨oc_settings, od_settings, .func (PySem.W.fnOf "settings" "settings" (defArgs st_settings) (defBody st_settings) (defScope st_settings) .none kV_settings dc_settings pm_settings an_settings cd_settings ct_settings), sl_settings⟩)
    (c_settings' : PySem.W.codeIn K cd_settings "settings" = true)
    (k_settings : PySem.W.keepIn K (.ref f_settings) = true)
    (a_with_on : PySem.W.nsIn K mainGlobals "with_on" = some (some (.ref f_with_on)))
    (l_with_on : K.lookup f_with_on = some ⟨oc_with_on, od_with_on, .func (PySem.W.fnOf "with_on" "with_on" (defArgs st_with_on) (defBody st_with_on) (defScope st_with_on) .none kV_with_on dc_with_on pm_with_on an_with_on cd_with_on ct_with_on), sl_with_on⟩)
    (c_with_on' : PySem.W.codeIn K cd_with_on "with_on" = true)
    (k_with_on : PySem.W.keepIn K (.ref f_with_on) = true)
    (a_with_off : PySem.W.nsIn K mainGlobals "with_off" = some (some (.ref f_with_off)))
    (l_with_off : K.lookup f_with_off = some ⟨oc_with_off, od_with_off, .func (PySem.W.fnOf "with_off" "with_off" (defArgs st_with_off) (defBody st_with_off) (defScope st_with_off) .none kV_with_off dc_with_off pm_with_off an_with_off cd_with_off ct_with_off), sl_with_off⟩)
    (c_with_off' : PySem.W.codeIn K cd_with_off "with_off" = true)
    (k_with_off : PySem.W.keepIn K (.ref f_with_off) = true)
    (a_read_wish : PySem.W.nsIn K mainGlobals "read_wish" = some (some (.ref f_read_wish)))
    (l_read_wish : K.lookup f_read_wish = some ⟨oc_read_wish, od_read_wish, .func (PySem.W.fnOf "read_wish" "read_wish" (defArgs st_read_wish) (defBody st_read_wish) (defScope st_read_wish) .none kV_read_wish dc_read_wish pm_read_wish an_read_wish cd_read_wish ct_read_wish), sl_read_wish⟩)
    (c_read_wish' : PySem.W.codeIn K cd_read_wish "read_wish" = true)
    (k_read_wish : PySem.W.keepIn K (.ref f_read_wish) = true)
    (a_mask_of_text : PySem.W.nsIn K mainGlobals "mask_of_text" = some (some (.ref f_mask_of_text)))
    (l_mask_of_text : K.lookup f_mask_of_text = some ⟨oc_mask_of_text, od_mask_of_text, .func (PySem.W.fnOf "mask_of_text" "mask_of_text" (defArgs st_mask_of_text) (defBody st_mask_of_text) (defScope st_mask_of_text) .none kV_mask_of_text dc_mask_of_text pm_mask_of_text an_mask_of_text cd_mask_of_text ct_mask_of_text), sl_mask_of_text⟩)
    (c_mask_of_text' : PySem.W.codeIn K cd_mask_of_text "mask_of_text" = true)
    (k_mask_of_text : PySem.W.keepIn K (.ref f_mask_of_text) = true)
    (a_reckoned : PySem.W.nsIn K mainGlobals "reckoned" = some (some (.ref f_reckoned)))
    (l_reckoned : K.lookup f_reckoned = some ⟨oc_reckoned, od_reckoned, .func (PySem.W.fnOf "reckoned" "reckoned" (defArgs st_reckoned) (defBody st_reckoned) (defScope st_reckoned) .none kV_reckoned dc_reckoned pm_reckoned an_reckoned cd_reckoned ct_reckoned), sl_reckoned⟩)
    (c_reckoned' : PySem.W.codeIn K cd_reckoned "reckoned" = true)
    (k_reckoned : PySem.W.keepIn K (.ref f_reckoned) = true)
    (a_taken : PySem.W.nsIn K mainGlobals "taken" = some (some (.ref f_taken)))
    (l_taken : K.lookup f_taken = some ⟨oc_taken, od_taken, .func (PySem.W.fnOf "taken" "taken" (defArgs st_taken) (defBody st_taken) (defScope st_taken) .none kV_taken dc_taken pm_taken an_taken cd_taken ct_taken), sl_taken⟩)
    (c_taken' : PySem.W.codeIn K cd_taken "taken" = true)
    (k_taken : PySem.W.keepIn K (.ref f_taken) = true)
    (a_value_of : PySem.W.nsIn K mainGlobals "value_of" = some (some (.ref f_value_of)))
    (l_value_of : K.lookup f_value_of = some ⟨oc_value_of, od_value_of, .func (PySem.W.fnOf "value_of" "value_of" (defArgs st_value_of) (defBody st_value_of) (defScope st_value_of) .none kV_value_of dc_value_of pm_value_of an_value_of cd_value_of ct_value_of), sl_value_of⟩)
    (c_value_of' : PySem.W.codeIn K cd_value_of "value_of" = true)
    (k_value_of : PySem.W.keepIn K (.ref f_value_of) = true)
    (a_put_together_wishes : PySem.W.nsIn K mainGlobals "put_together_wishes" = some (some (.ref f_put_together_wishes)))
    (l_put_together_wishes : K.lookup f_put_together_wishes = some ⟨oc_put_together_wishes, od_put_together_wishes, .func (PySem.W.fnOf "put_together" "put_together" (defArgs st_put_together_wishes) (defBody st_put_together_wishes) (defScope st_put_together_wishes) .none kV_put_together_wishes dc_put_together_wishes pm_put_together_wishes an_put_together_wishes cd_put_together_wishes ct_put_together_wishes), sl_put_together_wishes⟩)
    (c_put_together_wishes' : PySem.W.codeIn K cd_put_together_wishes "put_together" = true)
    (k_put_together_wishes : PySem.W.keepIn K (.ref f_put_together_wishes) = true)
    (a_shown_wish : PySem.W.nsIn K mainGlobals "shown_wish" = some (some (.ref f_shown_wish)))
    (l_shown_wish : K.lookup f_shown_wish = some ⟨oc_shown_wish, od_shown_wish, .func (PySem.W.fnOf "shown_wish" "shown_wish" (defArgs st_shown_wish) (defBody st_shown_wish) (defScope st_shown_wish) .none kV_shown_wish dc_shown_wish pm_shown_wish an_shown_wish cd_shown_wish ct_shown_wish), sl_shown_wish⟩)
    (c_shown_wish' : PySem.W.codeIn K cd_shown_wish "shown_wish" = true)
    (k_shown_wish : PySem.W.keepIn K (.ref f_shown_wish) = true)
    (a_shown_from : PySem.W.nsIn K mainGlobals "shown_from" = some (some (.ref f_shown_from)))
    (l_shown_from : K.lookup f_shown_from = some ⟨oc_shown_from, od_shown_from, .func (PySem.W.fnOf "shown_from" "shown_from" (defArgs st_shown_from) (defBody st_shown_from) (defScope st_shown_from) .none kV_shown_from dc_shown_from pm_shown_from an_shown_from cd_shown_from ct_shown_from), sl_shown_from⟩)
    (c_shown_from' : PySem.W.codeIn K cd_shown_from "shown_from" = true)
    (k_shown_from : PySem.W.keepIn K (.ref f_shown_from) = true)
    (a_read_rows : PySem.W.nsIn K mainGlobals "read_rows" = some (some (.ref f_read_rows)))
    (l_read_rows : K.lookup f_read_rows = some ⟨oc_read_rows, od_read_rows, .func (PySem.W.fnOf "read_rows" "read_rows" (defArgs st_read_rows) (defBody st_read_rows) (defScope st_read_rows) .none kV_read_rows dc_read_rows pm_read_rows an_read_rows cd_read_rows ct_read_rows), sl_read_rows⟩)
    (c_read_rows' : PySem.W.codeIn K cd_read_rows "read_rows" = true)
    (k_read_rows : PySem.W.keepIn K (.ref f_read_rows) = true)
    (a_read_words : PySem.W.nsIn K mainGlobals "read_words" = some (some (.ref f_read_words)))
    (l_read_words : K.lookup f_read_words = some ⟨oc_read_words, od_read_words, .func (PySem.W.fnOf "read_words" "read_words" (defArgs st_read_words) (defBody st_read_words) (defScope st_read_words) .none kV_read_words dc_read_words pm_read_words an_read_words cd_read_words ct_read_words), sl_read_words⟩)
    (c_read_words' : PySem.W.codeIn K cd_read_words "read_words" = true)
    (k_read_words : PySem.W.keepIn K (.ref f_read_words) = true)
    (a_words_of : PySem.W.nsIn K mainGlobals "words_of" = some (some (.ref f_words_of)))
    (l_words_of : K.lookup f_words_of = some ⟨oc_words_of, od_words_of, .func (PySem.W.fnOf "words_of" "words_of" (defArgs st_words_of) (defBody st_words_of) (defScope st_words_of) .none kV_words_of dc_words_of pm_words_of an_words_of cd_words_of ct_words_of), sl_words_of⟩)
    (c_words_of' : PySem.W.codeIn K cd_words_of "words_of" = true)
    (k_words_of : PySem.W.keepIn K (.ref f_words_of) = true)
    (a_group_mask : PySem.W.nsIn K mainGlobals "group_mask" = some (some (.ref f_group_mask)))
    (l_group_mask : K.lookup f_group_mask = some ⟨oc_group_mask, od_group_mask, .func (PySem.W.fnOf "group_mask" "group_mask" (defArgs st_group_mask) (defBody st_group_mask) (defScope st_group_mask) .none kV_group_mask dc_group_mask pm_group_mask an_group_mask cd_group_mask ct_group_mask), sl_group_mask⟩)
    (c_group_mask' : PySem.W.codeIn K cd_group_mask "group_mask" = true)
    (k_group_mask : PySem.W.keepIn K (.ref f_group_mask) = true)
    (a_in_group : PySem.W.nsIn K mainGlobals "in_group" = some (some (.ref f_in_group)))
    (l_in_group : K.lookup f_in_group = some ⟨oc_in_group, od_in_group, .func (PySem.W.fnOf "in_group" "in_group" (defArgs st_in_group) (defBody st_in_group) (defScope st_in_group) .none kV_in_group dc_in_group pm_in_group an_in_group cd_in_group ct_in_group), sl_in_group⟩)
    (c_in_group' : PySem.W.codeIn K cd_in_group "in_group" = true)
    (k_in_group : PySem.W.keepIn K (.ref f_in_group) = true)
    (a_cut_row : PySem.W.nsIn K mainGlobals "cut_row" = some (some (.ref f_cut_row)))
    (l_cut_row : K.lookup f_cut_row = some ⟨oc_cut_row, od_cut_row, .func (PySem.W.fnOf "cut_row" "cut_row" (defArgs st_cut_row) (defBody st_cut_row) (defScope st_cut_row) .none kV_cut_row dc_cut_row pm_cut_row an_cut_row cd_cut_row ct_cut_row), sl_cut_row⟩)
    (c_cut_row' : PySem.W.codeIn K cd_cut_row "cut_row" = true)
    (k_cut_row : PySem.W.keepIn K (.ref f_cut_row) = true)
    (a_cut_rows : PySem.W.nsIn K mainGlobals "cut_rows" = some (some (.ref f_cut_rows)))
    (l_cut_rows : K.lookup f_cut_rows = some ⟨oc_cut_rows, od_cut_rows, .func (PySem.W.fnOf "cut_rows" "cut_rows" (defArgs st_cut_rows) (defBody st_cut_rows) (defScope st_cut_rows) .none kV_cut_rows dc_cut_rows pm_cut_rows an_cut_rows cd_cut_rows ct_cut_rows), sl_cut_rows⟩)
    (c_cut_rows' : PySem.W.codeIn K cd_cut_rows "cut_rows" = true)
    (k_cut_rows : PySem.W.keepIn K (.ref f_cut_rows) = true)
    (a_cut_text : PySem.W.nsIn K mainGlobals "cut_text" = some (some (.ref f_cut_text)))
    (l_cut_text : K.lookup f_cut_text = some ⟨oc_cut_text, od_cut_text, .func (PySem.W.fnOf "cut_text" "cut_text" (defArgs st_cut_text) (defBody st_cut_text) (defScope st_cut_text) .none kV_cut_text dc_cut_text pm_cut_text an_cut_text cd_cut_text ct_cut_text), sl_cut_text⟩)
    (c_cut_text' : PySem.W.codeIn K cd_cut_text "cut_text" = true)
    (k_cut_text : PySem.W.keepIn K (.ref f_cut_text) = true)
    (a_is_setting : PySem.W.nsIn K mainGlobals "is_setting" = some (some (.ref f_is_setting)))
    (l_is_setting : K.lookup f_is_setting = some ⟨oc_is_setting, od_is_setting, .func (PySem.W.fnOf "is_setting" "is_setting" (defArgs st_is_setting) (defBody st_is_setting) (defScope st_is_setting) .none kV_is_setting dc_is_setting pm_is_setting an_is_setting cd_is_setting ct_is_setting), sl_is_setting⟩)
    (c_is_setting' : PySem.W.codeIn K cd_is_setting "is_setting" = true)
    (k_is_setting : PySem.W.keepIn K (.ref f_is_setting) = true)
    (a_joined : PySem.W.nsIn K mainGlobals "joined" = some (some (.ref f_joined)))
    (l_joined : K.lookup f_joined = some ⟨oc_joined, od_joined, .func (PySem.W.fnOf "joined" "joined" (defArgs st_joined) (defBody st_joined) (defScope st_joined) .none kV_joined dc_joined pm_joined an_joined cd_joined ct_joined), sl_joined⟩)
    (c_joined' : PySem.W.codeIn K cd_joined "joined" = true)
    (k_joined : PySem.W.keepIn K (.ref f_joined) = true)
    (a_put_together_joining : PySem.W.nsIn K mainGlobals "put_together_joining" = some (some (.ref f_put_together_joining)))
    (l_put_together_joining : K.lookup f_put_together_joining = some ⟨oc_put_together_joining, od_put_together_joining, .func (PySem.W.fnOf "put_together" "put_together" (defArgs st_put_together_joining) (defBody st_put_together_joining) (defScope st_put_together_joining) .none kV_put_together_joining dc_put_together_joining pm_put_together_joining an_put_together_joining cd_put_together_joining ct_put_together_joining), sl_put_together_joining⟩)
    (c_put_together_joining' : PySem.W.codeIn K cd_put_together_joining "put_together" = true)
    (k_put_together_joining : PySem.W.keepIn K (.ref f_put_together_joining) = true)
    (a_most_shared : PySem.W.nsIn K mainGlobals "most_shared" = some (some (.ref f_most_shared)))
    (l_most_shared : K.lookup f_most_shared = some ⟨oc_most_shared, od_most_shared, .func (PySem.W.fnOf "most_shared" "most_shared" (defArgs st_most_shared) (defBody st_most_shared) (defScope st_most_shared) .none kV_most_shared dc_most_shared pm_most_shared an_most_shared cd_most_shared ct_most_shared), sl_most_shared⟩)
    (c_most_shared' : PySem.W.codeIn K cd_most_shared "most_shared" = true)
    (k_most_shared : PySem.W.keepIn K (.ref f_most_shared) = true)
    (a_tidied : PySem.W.nsIn K mainGlobals "tidied" = some (some (.ref f_tidied)))
    (l_tidied : K.lookup f_tidied = some ⟨oc_tidied, od_tidied, .func (PySem.W.fnOf "tidied" "tidied" (defArgs st_tidied) (defBody st_tidied) (defScope st_tidied) .none kV_tidied dc_tidied pm_tidied an_tidied cd_tidied ct_tidied), sl_tidied⟩)
    (c_tidied' : PySem.W.codeIn K cd_tidied "tidied" = true)
    (k_tidied : PySem.W.keepIn K (.ref f_tidied) = true)
    (a_ask_rule : PySem.W.nsIn K mainGlobals "ask_rule" = some (some (.ref f_ask_rule)))
    (l_ask_rule : K.lookup f_ask_rule = some ⟨oc_ask_rule, od_ask_rule, .func (PySem.W.fnOf "ask_rule" "ask_rule" (defArgs st_ask_rule) (defBody st_ask_rule) (defScope st_ask_rule) .none kV_ask_rule dc_ask_rule pm_ask_rule an_ask_rule cd_ask_rule ct_ask_rule), sl_ask_rule⟩)
    (c_ask_rule' : PySem.W.codeIn K cd_ask_rule "ask_rule" = true)
    (k_ask_rule : PySem.W.keepIn K (.ref f_ask_rule) = true)
    (a_tidied_row : PySem.W.nsIn K mainGlobals "tidied_row" = some (some (.ref f_tidied_row)))
    (l_tidied_row : K.lookup f_tidied_row = some ⟨oc_tidied_row, od_tidied_row, .func (PySem.W.fnOf "tidied_row" "tidied_row" (defArgs st_tidied_row) (defBody st_tidied_row) (defScope st_tidied_row) .none kV_tidied_row dc_tidied_row pm_tidied_row an_tidied_row cd_tidied_row ct_tidied_row), sl_tidied_row⟩)
    (c_tidied_row' : PySem.W.codeIn K cd_tidied_row "tidied_row" = true)
    (k_tidied_row : PySem.W.keepIn K (.ref f_tidied_row) = true)
    (a_come_together : PySem.W.nsIn K mainGlobals "come_together" = some (some (.ref f_come_together)))
    (l_come_together : K.lookup f_come_together = some ⟨oc_come_together, od_come_together, .func (PySem.W.fnOf "come_together" "come_together" (defArgs st_come_together) (defBody st_come_together) (defScope st_come_together) .none kV_come_together dc_come_together pm_come_together an_come_together cd_come_together ct_come_together), sl_come_together⟩)
    (c_come_together' : PySem.W.codeIn K cd_come_together "come_together" = true)
    (k_come_together : PySem.W.keepIn K (.ref f_come_together) = true)
    (a_parted : PySem.W.nsIn K mainGlobals "parted" = some (some (.ref f_parted)))
    (l_parted : K.lookup f_parted = some ⟨oc_parted, od_parted, .func (PySem.W.fnOf "parted" "parted" (defArgs st_parted) (defBody st_parted) (defScope st_parted) .none kV_parted dc_parted pm_parted an_parted cd_parted ct_parted), sl_parted⟩)
    (c_parted' : PySem.W.codeIn K cd_parted "parted" = true)
    (k_parted : PySem.W.keepIn K (.ref f_parted) = true)
    (a_law_cell_at : PySem.W.nsIn K mainGlobals "_law_cell_at" = some (some (.ref f_law_cell_at)))
    (l_law_cell_at : K.lookup f_law_cell_at = some ⟨oc_law_cell_at, od_law_cell_at, .func (PySem.W.fnOf "_law_cell_at" "_law_cell_at" (defArgs st_law_cell_at) (defBody st_law_cell_at) (defScope st_law_cell_at) .none kV_law_cell_at dc_law_cell_at pm_law_cell_at an_law_cell_at cd_law_cell_at ct_law_cell_at), sl_law_cell_at⟩)
    (c_law_cell_at' : PySem.W.codeIn K cd_law_cell_at "_law_cell_at" = true)
    (k_law_cell_at : PySem.W.keepIn K (.ref f_law_cell_at) = true)
    (a_law_mixed : PySem.W.nsIn K mainGlobals "_law_mixed" = some (some (.ref f_law_mixed)))
    (l_law_mixed : K.lookup f_law_mixed = some ⟨oc_law_mixed, od_law_mixed, .func (PySem.W.fnOf "_law_mixed" "_law_mixed" (defArgs st_law_mixed) (defBody st_law_mixed) (defScope st_law_mixed) .none kV_law_mixed dc_law_mixed pm_law_mixed an_law_mixed cd_law_mixed ct_law_mixed), sl_law_mixed⟩)
    (c_law_mixed' : PySem.W.codeIn K cd_law_mixed "_law_mixed" = true)
    (k_law_mixed : PySem.W.keepIn K (.ref f_law_mixed) = true)
    (a_law_draws : PySem.W.nsIn K mainGlobals "_law_draws" = some (some (.ref f_law_draws)))
    (l_law_draws : K.lookup f_law_draws = some ⟨oc_law_draws, od_law_draws, .func (PySem.W.fnOf "_law_draws" "_law_draws" (defArgs st_law_draws) (defBody st_law_draws) (defScope st_law_draws) .none kV_law_draws dc_law_draws pm_law_draws an_law_draws cd_law_draws ct_law_draws), sl_law_draws⟩)
    (c_law_draws' : PySem.W.codeIn K cd_law_draws "_law_draws" = true)
    (k_law_draws : PySem.W.keepIn K (.ref f_law_draws) = true)
    (a_law_next : PySem.W.nsIn K mainGlobals "_law_next" = some (some (.ref f_law_next)))
    (l_law_next : K.lookup f_law_next = some ⟨oc_law_next, od_law_next, .func (PySem.W.fnOf "_law_next" "_law_next" (defArgs st_law_next) (defBody st_law_next) (defScope st_law_next) .none kV_law_next dc_law_next pm_law_next an_law_next cd_law_next ct_law_next), sl_law_next⟩)
    (c_law_next' : PySem.W.codeIn K cd_law_next "_law_next" = true)
    (k_law_next : PySem.W.keepIn K (.ref f_law_next) = true)
    (a_law_wish : PySem.W.nsIn K mainGlobals "_law_wish" = some (some (.ref f_law_wish)))
    (l_law_wish : K.lookup f_law_wish = some ⟨oc_law_wish, od_law_wish, .func (PySem.W.fnOf "_law_wish" "_law_wish" (defArgs st_law_wish) (defBody st_law_wish) (defScope st_law_wish) .none kV_law_wish dc_law_wish pm_law_wish an_law_wish cd_law_wish ct_law_wish), sl_law_wish⟩)
    (c_law_wish' : PySem.W.codeIn K cd_law_wish "_law_wish" = true)
    (k_law_wish : PySem.W.keepIn K (.ref f_law_wish) = true)
    (a_law_word : PySem.W.nsIn K mainGlobals "_law_word" = some (some (.ref f_law_word)))
    (l_law_word : K.lookup f_law_word = some ⟨oc_law_word, od_law_word, .func (PySem.W.fnOf "_law_word" "_law_word" (defArgs st_law_word) (defBody st_law_word) (defScope st_law_word) .none kV_law_word dc_law_word pm_law_word an_law_word cd_law_word ct_law_word), sl_law_word⟩)
    (c_law_word' : PySem.W.codeIn K cd_law_word "_law_word" = true)
    (k_law_word : PySem.W.keepIn K (.ref f_law_word) = true)
    (a_law_row : PySem.W.nsIn K mainGlobals "_law_row" = some (some (.ref f_law_row)))
    (l_law_row : K.lookup f_law_row = some ⟨oc_law_row, od_law_row, .func (PySem.W.fnOf "_law_row" "_law_row" (defArgs st_law_row) (defBody st_law_row) (defScope st_law_row) .none kV_law_row dc_law_row pm_law_row an_law_row cd_law_row ct_law_row), sl_law_row⟩)
    (c_law_row' : PySem.W.codeIn K cd_law_row "_law_row" = true)
    (k_law_row : PySem.W.keepIn K (.ref f_law_row) = true)
    (a_law_full_rows : PySem.W.nsIn K mainGlobals "_law_full_rows" = some (some (.ref f_law_full_rows)))
    (l_law_full_rows : K.lookup f_law_full_rows = some ⟨oc_law_full_rows, od_law_full_rows, .func (PySem.W.fnOf "_law_full_rows" "_law_full_rows" (defArgs st_law_full_rows) (defBody st_law_full_rows) (defScope st_law_full_rows) .none kV_law_full_rows dc_law_full_rows pm_law_full_rows an_law_full_rows cd_law_full_rows ct_law_full_rows), sl_law_full_rows⟩)
    (c_law_full_rows' : PySem.W.codeIn K cd_law_full_rows "_law_full_rows" = true)
    (k_law_full_rows : PySem.W.keepIn K (.ref f_law_full_rows) = true)
    (a_law : PySem.W.nsIn K mainGlobals "law" = some (some (.ref f_law)))
    (l_law : K.lookup f_law = some ⟨oc_law, od_law, .func (PySem.W.fnOf "law" "law" (defArgs st_law) (defBody st_law) (defScope st_law) .none kV_law dc_law pm_law an_law cd_law ct_law), sl_law⟩)
    (c_law' : PySem.W.codeIn K cd_law "law" = true)
    (k_law : PySem.W.keepIn K (.ref f_law) = true)
    (v_LETTERS : PySem.W.nsIn K mainGlobals "LETTERS" = some (some (.str "abcdefghij" t_LETTERS)))
    (v_DEEPEST_GROUP : PySem.W.nsIn K mainGlobals "DEEPEST_GROUP" = some (some (.int 5 t_DEEPEST_GROUP)))
    (a_NEEDS : PySem.W.nsIn K mainGlobals "NEEDS" = some (some (.ref d_NEEDS)))
    (l_NEEDS : K.lookup d_NEEDS = some ⟨.type "dict", none, .dict #[⟨h_NEEDS_0, .str "!" t_NEEDS_0, .int 1 u_NEEDS_0⟩, ⟨h_NEEDS_1, .str "&" t_NEEDS_1, .int 2 u_NEEDS_1⟩, ⟨h_NEEDS_2, .str "|" t_NEEDS_2, .int 2 u_NEEDS_2⟩, ⟨h_NEEDS_3, .str "^" t_NEEDS_3, .int 2 u_NEEDS_3⟩, ⟨h_NEEDS_4, .str "?" t_NEEDS_4, .int 3 u_NEEDS_4⟩] ep_NEEDS, #[]⟩)
    (s_NEEDS : (d_NEEDS == sysModules) = false)
    (e_NEEDS_0 : h_NEEDS_0 = hashStr w "!")
    (e_NEEDS_1 : h_NEEDS_1 = hashStr w "&")
    (e_NEEDS_2 : h_NEEDS_2 = hashStr w "|")
    (e_NEEDS_3 : h_NEEDS_3 = hashStr w "^")
    (e_NEEDS_4 : h_NEEDS_4 = hashStr w "?")
    (z_len : PySem.W.nsIn K mainGlobals "len" = some none)
    (z_range : PySem.W.nsIn K mainGlobals "range" = some none)
    (z_int : PySem.W.nsIn K mainGlobals "int" = some none)
    (z_bool : PySem.W.nsIn K mainGlobals "bool" = some none)
    (z_str : PySem.W.nsIn K mainGlobals "str" = some none)
    (z_reversed : PySem.W.nsIn K mainGlobals "reversed" = some none)
    (z_enumerate : PySem.W.nsIn K mainGlobals "enumerate" = some none)
    (z_isinstance : PySem.W.nsIn K mainGlobals "isinstance" = some none)
    (z_abs : PySem.W.nsIn K mainGlobals "abs" = some none)
    (z_list : PySem.W.nsIn K mainGlobals "list" = some none)
    (z_max : PySem.W.nsIn K mainGlobals "max" = some none)
    :
    ∃ fd : FuncData, (∀ (s : Shared) (v : Value), BindsTo s fd ⟨[v], []⟩ [("_law_script", v)]) ∧ ∀ base : Heap, K.In base → base.Ns mainGlobals mg → FnOk l.prog w K mg base CX0 19 fa fd ["_law_script"] (spLaw K) := by
  have e := hfa.symm.trans (PySem.W.mg_of X G a_law)
  cases e
  have F_every := fun_mk (st := st_every) l_every c_every' k_every
  have F_switch_mask := fun_mk (st := st_switch_mask) l_switch_mask c_switch_mask' k_switch_mask
  have F_is_whole := fun_mk (st := st_is_whole) l_is_whole c_is_whole' k_is_whole
  have F_is_mask := fun_mk (st := st_is_mask) l_is_mask c_is_mask' k_is_mask
  have F_has := fun_mk (st := st_has) l_has c_has' k_has
  have F_settings := fun_mk (st := st_settings) l_settings c_settings' k_settings
  have F_with_on := fun_mk (st := st_with_on) l_with_on c_with_on' k_with_on
  have F_with_off := fun_mk (st := st_with_off) l_with_off c_with_off' k_with_off
  have F_read_wish := fun_mk (st := st_read_wish) l_read_wish c_read_wish' k_read_wish
  have F_mask_of_text := fun_mk (st := st_mask_of_text) l_mask_of_text c_mask_of_text' k_mask_of_text
  have F_reckoned := fun_mk (st := st_reckoned) l_reckoned c_reckoned' k_reckoned
  have F_taken := fun_mk (st := st_taken) l_taken c_taken' k_taken
  have F_value_of := fun_mk (st := st_value_of) l_value_of c_value_of' k_value_of
  have F_put_together_wishes := fun_mk (st := st_put_together_wishes) l_put_together_wishes c_put_together_wishes' k_put_together_wishes
  have F_shown_wish := fun_mk (st := st_shown_wish) l_shown_wish c_shown_wish' k_shown_wish
  have F_shown_from := fun_mk (st := st_shown_from) l_shown_from c_shown_from' k_shown_from
  have F_read_rows := fun_mk (st := st_read_rows) l_read_rows c_read_rows' k_read_rows
  have F_read_words := fun_mk (st := st_read_words) l_read_words c_read_words' k_read_words
  have F_words_of := fun_mk (st := st_words_of) l_words_of c_words_of' k_words_of
  have F_group_mask := fun_mk (st := st_group_mask) l_group_mask c_group_mask' k_group_mask
  have F_in_group := fun_mk (st := st_in_group) l_in_group c_in_group' k_in_group
  have F_cut_row := fun_mk (st := st_cut_row) l_cut_row c_cut_row' k_cut_row
  have F_cut_rows := fun_mk (st := st_cut_rows) l_cut_rows c_cut_rows' k_cut_rows
  have F_cut_text := fun_mk (st := st_cut_text) l_cut_text c_cut_text' k_cut_text
  have F_is_setting := fun_mk (st := st_is_setting) l_is_setting c_is_setting' k_is_setting
  have F_joined := fun_mk (st := st_joined) l_joined c_joined' k_joined
  have F_put_together_joining := fun_mk (st := st_put_together_joining) l_put_together_joining c_put_together_joining' k_put_together_joining
  have F_most_shared := fun_mk (st := st_most_shared) l_most_shared c_most_shared' k_most_shared
  have F_tidied := fun_mk (st := st_tidied) l_tidied c_tidied' k_tidied
  have F_ask_rule := fun_mk (st := st_ask_rule) l_ask_rule c_ask_rule' k_ask_rule
  have F_tidied_row := fun_mk (st := st_tidied_row) l_tidied_row c_tidied_row' k_tidied_row
  have F_come_together := fun_mk (st := st_come_together) l_come_together c_come_together' k_come_together
  have F_parted := fun_mk (st := st_parted) l_parted c_parted' k_parted
  have F_law_cell_at := fun_mk (st := st_law_cell_at) l_law_cell_at c_law_cell_at' k_law_cell_at
  have F_law_mixed := fun_mk (st := st_law_mixed) l_law_mixed c_law_mixed' k_law_mixed
  have F_law_draws := fun_mk (st := st_law_draws) l_law_draws c_law_draws' k_law_draws
  have F_law_next := fun_mk (st := st_law_next) l_law_next c_law_next' k_law_next
  have F_law_wish := fun_mk (st := st_law_wish) l_law_wish c_law_wish' k_law_wish
  have F_law_word := fun_mk (st := st_law_word) l_law_word c_law_word' k_law_word
  have F_law_row := fun_mk (st := st_law_row) l_law_row c_law_row' k_law_row
  have F_law_full_rows := fun_mk (st := st_law_full_rows) l_law_full_rows c_law_full_rows' k_law_full_rows
  have F_law := fun_mk (st := st_law) l_law c_law' k_law
  have b_every := F_every.binds (ps := ["n"]) fun _ _ _ _ _ _ us hl => by obtain ⟨_, rfl⟩ := len1 hl; rfl
  have b_switch_mask := F_switch_mask.binds (ps := ["k", "n"]) fun _ _ _ _ _ _ us hl => by obtain ⟨_, _, rfl⟩ := len2 hl; rfl
  have b_is_whole := F_is_whole.binds (ps := ["value"]) fun _ _ _ _ _ _ us hl => by obtain ⟨_, rfl⟩ := len1 hl; rfl
  have b_is_mask := F_is_mask.binds (ps := ["value", "n"]) fun _ _ _ _ _ _ us hl => by obtain ⟨_, _, rfl⟩ := len2 hl; rfl
  have b_has := F_has.binds (ps := ["mask", "s"]) fun _ _ _ _ _ _ us hl => by obtain ⟨_, _, rfl⟩ := len2 hl; rfl
  have b_settings := F_settings.binds (ps := ["mask"]) fun _ _ _ _ _ _ us hl => by obtain ⟨_, rfl⟩ := len1 hl; rfl
  have b_with_on := F_with_on.binds (ps := ["mask", "k", "n"]) fun _ _ _ _ _ _ us hl => by obtain ⟨_, _, _, rfl⟩ := len3 hl; rfl
  have b_with_off := F_with_off.binds (ps := ["mask", "k", "n"]) fun _ _ _ _ _ _ us hl => by obtain ⟨_, _, _, rfl⟩ := len3 hl; rfl
  have b_read_wish := F_read_wish.binds (ps := ["text", "n"]) fun _ _ _ _ _ _ us hl => by obtain ⟨_, _, rfl⟩ := len2 hl; rfl
  have b_mask_of_text := F_mask_of_text.binds (ps := ["text", "n"]) fun _ _ _ _ _ _ us hl => by obtain ⟨_, _, rfl⟩ := len2 hl; rfl
  have b_reckoned := F_reckoned.binds (ps := ["text", "switches", "full"]) fun _ _ _ _ _ _ us hl => by obtain ⟨_, _, _, rfl⟩ := len3 hl; rfl
  have b_taken := F_taken.binds (ps := ["found", "many"]) fun _ _ _ _ _ _ us hl => by obtain ⟨_, _, rfl⟩ := len2 hl; rfl
  have b_value_of := F_value_of.binds (ps := ["sign", "switches", "full"]) fun _ _ _ _ _ _ us hl => by obtain ⟨_, _, _, rfl⟩ := len3 hl; rfl
  have b_put_together_wishes := F_put_together_wishes.binds (ps := ["sign", "parts", "full"]) fun _ _ _ _ _ _ us hl => by obtain ⟨_, _, _, rfl⟩ := len3 hl; rfl
  have b_shown_wish := F_shown_wish.binds (ps := ["mask", "n"]) fun _ _ _ _ _ _ us hl => by obtain ⟨_, _, rfl⟩ := len2 hl; rfl
  have b_shown_from := F_shown_from.binds (ps := ["k", "mask", "n"]) fun _ _ _ _ _ _ us hl => by obtain ⟨_, _, _, rfl⟩ := len3 hl; rfl
  have b_read_rows := F_read_rows.binds (ps := ["text", "n"]) fun _ _ _ _ _ _ us hl => by obtain ⟨_, _, rfl⟩ := len2 hl; rfl
  have b_read_words := F_read_words.binds (ps := ["row", "n", "at"]) fun _ _ _ _ _ _ us hl => by obtain ⟨_, _, _, rfl⟩ := len3 hl; rfl
  have b_words_of := F_words_of.binds (ps := ["row"]) fun _ _ _ _ _ _ us hl => by obtain ⟨_, rfl⟩ := len1 hl; rfl
  have b_group_mask := F_group_mask.binds (ps := ["word", "n", "at"]) fun _ _ _ _ _ _ us hl => by obtain ⟨_, _, _, rfl⟩ := len3 hl; rfl
  have b_in_group := F_in_group.binds (ps := ["row", "mask", "n"]) fun _ _ _ _ _ _ us hl => by obtain ⟨_, _, _, rfl⟩ := len3 hl; rfl
  have b_cut_row := F_cut_row.binds (ps := ["row", "s"]) fun _ _ _ _ _ _ us hl => by obtain ⟨_, _, rfl⟩ := len2 hl; rfl
  have b_cut_rows := F_cut_rows.binds (ps := ["rows", "s"]) fun _ _ _ _ _ _ us hl => by obtain ⟨_, _, rfl⟩ := len2 hl; rfl
  have b_cut_text := F_cut_text.binds (ps := ["text", "n", "s"]) fun _ _ _ _ _ _ us hl => by obtain ⟨_, _, _, rfl⟩ := len3 hl; rfl
  have b_is_setting := F_is_setting.binds (ps := ["s", "n"]) fun _ _ _ _ _ _ us hl => by obtain ⟨_, _, rfl⟩ := len2 hl; rfl
  have b_joined := F_joined.binds (ps := ["texts", "n"]) fun _ _ _ _ _ _ us hl => by obtain ⟨_, _, rfl⟩ := len2 hl; rfl
  have b_put_together_joining := F_put_together_joining.binds (ps := ["rows", "own", "mask"]) fun _ _ _ _ _ _ us hl => by obtain ⟨_, _, _, rfl⟩ := len3 hl; rfl
  have b_most_shared := F_most_shared.binds (ps := ["left", "right"]) fun _ _ _ _ _ _ us hl => by obtain ⟨_, _, rfl⟩ := len2 hl; rfl
  have b_tidied := F_tidied.binds (ps := ["text", "n", "rule"]) fun _ _ _ _ _ _ us hl => by obtain ⟨_, _, _, rfl⟩ := len3 hl; rfl
  have b_ask_rule := F_ask_rule.binds (ps := ["rule", "n"]) fun _ _ _ _ _ _ us hl => by obtain ⟨_, _, rfl⟩ := len2 hl; rfl
  have b_tidied_row := F_tidied_row.binds (ps := ["row", "n", "rule"]) fun _ _ _ _ _ _ us hl => by obtain ⟨_, _, _, rfl⟩ := len3 hl; rfl
  have b_come_together := F_come_together.binds (ps := ["row", "rule"]) fun _ _ _ _ _ _ us hl => by obtain ⟨_, _, rfl⟩ := len2 hl; rfl
  have b_parted := F_parted.binds (ps := ["one", "other", "n", "rule"]) fun _ _ _ _ _ _ us hl => by obtain ⟨_, _, _, _, rfl⟩ := len4 hl; rfl
  have b_law_cell_at := F_law_cell_at.binds (ps := ["_law_script", "_law_k"]) fun _ _ _ _ _ _ us hl => by obtain ⟨_, _, rfl⟩ := len2 hl; rfl
  have b_law_mixed := F_law_mixed.binds (ps := ["_law_cell", "_law_k"]) fun _ _ _ _ _ _ us hl => by obtain ⟨_, _, rfl⟩ := len2 hl; rfl
  have b_law_draws := F_law_draws.binds (ps := ["_law_script"]) fun _ _ _ _ _ _ us hl => by obtain ⟨_, rfl⟩ := len1 hl; rfl
  have b_law_next := F_law_next.binds (ps := ["_law_draws_here"]) fun _ _ _ _ _ _ us hl => by obtain ⟨_, rfl⟩ := len1 hl; rfl
  have b_law_wish := F_law_wish.binds (ps := ["_law_draws_here", "_law_n", "_law_deep"]) fun _ _ _ _ _ _ us hl => by obtain ⟨_, _, _, rfl⟩ := len3 hl; rfl
  have b_law_word := F_law_word.binds (ps := ["_law_draws_here"]) fun _ _ _ _ _ _ us hl => by obtain ⟨_, rfl⟩ := len1 hl; rfl
  have b_law_row := F_law_row.binds (ps := ["_law_draws_here", "_law_n"]) fun _ _ _ _ _ _ us hl => by obtain ⟨_, _, rfl⟩ := len2 hl; rfl
  have b_law_full_rows := F_law_full_rows.binds (ps := ["_law_rows"]) fun _ _ _ _ _ _ us hl => by obtain ⟨_, rfl⟩ := len1 hl; rfl
  have T : All l.prog w K mg ⟨f_every, f_switch_mask, f_is_whole, f_is_mask, f_has, f_settings, f_with_on, f_with_off, f_read_wish, f_mask_of_text, f_reckoned, f_taken, f_value_of, f_put_together_wishes, f_shown_wish, f_shown_from, f_read_rows, f_read_words, f_words_of, f_group_mask, f_in_group, f_cut_row, f_cut_rows, f_cut_text, f_is_setting, f_joined, f_put_together_joining, f_most_shared, f_tidied, f_ask_rule, f_tidied_row, f_come_together, f_parted, f_law_cell_at, f_law_mixed, f_law_draws, f_law_next, f_law_wish, f_law_word, f_law_row, f_law_full_rows, d_NEEDS⟩ ⟨_, _, _, _, _, _, _, _, _, _, _, _, _, _, _, _, _, _, _, _, _, _, _, _, _, _, _, _, _, _, _, _, _, _, _, _, _, _, _, _, _⟩ := {
    m_every := PySem.W.mg_of X G a_every
    k_every := k_every
    F_every := F_every
    b_every := b_every
    m_switch_mask := PySem.W.mg_of X G a_switch_mask
    k_switch_mask := k_switch_mask
    F_switch_mask := F_switch_mask
    b_switch_mask := b_switch_mask
    m_is_whole := PySem.W.mg_of X G a_is_whole
    k_is_whole := k_is_whole
    F_is_whole := F_is_whole
    b_is_whole := b_is_whole
    m_is_mask := PySem.W.mg_of X G a_is_mask
    k_is_mask := k_is_mask
    F_is_mask := F_is_mask
    b_is_mask := b_is_mask
    m_has := PySem.W.mg_of X G a_has
    k_has := k_has
    F_has := F_has
    b_has := b_has
    m_settings := PySem.W.mg_of X G a_settings
    k_settings := k_settings
    F_settings := F_settings
    b_settings := b_settings
    m_with_on := PySem.W.mg_of X G a_with_on
    k_with_on := k_with_on
    F_with_on := F_with_on
    b_with_on := b_with_on
    m_with_off := PySem.W.mg_of X G a_with_off
    k_with_off := k_with_off
    F_with_off := F_with_off
    b_with_off := b_with_off
    m_read_wish := PySem.W.mg_of X G a_read_wish
    k_read_wish := k_read_wish
    F_read_wish := F_read_wish
    b_read_wish := b_read_wish
    m_mask_of_text := PySem.W.mg_of X G a_mask_of_text
    k_mask_of_text := k_mask_of_text
    F_mask_of_text := F_mask_of_text
    b_mask_of_text := b_mask_of_text
    m_reckoned := PySem.W.mg_of X G a_reckoned
    k_reckoned := k_reckoned
    F_reckoned := F_reckoned
    b_reckoned := b_reckoned
    m_taken := PySem.W.mg_of X G a_taken
    k_taken := k_taken
    F_taken := F_taken
    b_taken := b_taken
    m_value_of := PySem.W.mg_of X G a_value_of
    k_value_of := k_value_of
    F_value_of := F_value_of
    b_value_of := b_value_of
    m_put_together_wishes := PySem.W.mg_of X G a_put_together_wishes
    k_put_together_wishes := k_put_together_wishes
    F_put_together_wishes := F_put_together_wishes
    b_put_together_wishes := b_put_together_wishes
    m_shown_wish := PySem.W.mg_of X G a_shown_wish
    k_shown_wish := k_shown_wish
    F_shown_wish := F_shown_wish
    b_shown_wish := b_shown_wish
    m_shown_from := PySem.W.mg_of X G a_shown_from
    k_shown_from := k_shown_from
    F_shown_from := F_shown_from
    b_shown_from := b_shown_from
    m_read_rows := PySem.W.mg_of X G a_read_rows
    k_read_rows := k_read_rows
    F_read_rows := F_read_rows
    b_read_rows := b_read_rows
    m_read_words := PySem.W.mg_of X G a_read_words
    k_read_words := k_read_words
    F_read_words := F_read_words
    b_read_words := b_read_words
    m_words_of := PySem.W.mg_of X G a_words_of
    k_words_of := k_words_of
    F_words_of := F_words_of
    b_words_of := b_words_of
    m_group_mask := PySem.W.mg_of X G a_group_mask
    k_group_mask := k_group_mask
    F_group_mask := F_group_mask
    b_group_mask := b_group_mask
    m_in_group := PySem.W.mg_of X G a_in_group
    k_in_group := k_in_group
    F_in_group := F_in_group
    b_in_group := b_in_group
    m_cut_row := PySem.W.mg_of X G a_cut_row
    k_cut_row := k_cut_row
    F_cut_row := F_cut_row
    b_cut_row := b_cut_row
    m_cut_rows := PySem.W.mg_of X G a_cut_rows
    k_cut_rows := k_cut_rows
    F_cut_rows := F_cut_rows
    b_cut_rows := b_cut_rows
    m_cut_text := PySem.W.mg_of X G a_cut_text
    k_cut_text := k_cut_text
    F_cut_text := F_cut_text
    b_cut_text := b_cut_text
    m_is_setting := PySem.W.mg_of X G a_is_setting
    k_is_setting := k_is_setting
    F_is_setting := F_is_setting
    b_is_setting := b_is_setting
    m_joined := PySem.W.mg_of X G a_joined
    k_joined := k_joined
    F_joined := F_joined
    b_joined := b_joined
    m_put_together_joining := PySem.W.mg_of X G a_put_together_joining
    k_put_together_joining := k_put_together_joining
    F_put_together_joining := F_put_together_joining
    b_put_together_joining := b_put_together_joining
    m_most_shared := PySem.W.mg_of X G a_most_shared
    k_most_shared := k_most_shared
    F_most_shared := F_most_shared
    b_most_shared := b_most_shared
    m_tidied := PySem.W.mg_of X G a_tidied
    k_tidied := k_tidied
    F_tidied := F_tidied
    b_tidied := b_tidied
    m_ask_rule := PySem.W.mg_of X G a_ask_rule
    k_ask_rule := k_ask_rule
    F_ask_rule := F_ask_rule
    b_ask_rule := b_ask_rule
    m_tidied_row := PySem.W.mg_of X G a_tidied_row
    k_tidied_row := k_tidied_row
    F_tidied_row := F_tidied_row
    b_tidied_row := b_tidied_row
    m_come_together := PySem.W.mg_of X G a_come_together
    k_come_together := k_come_together
    F_come_together := F_come_together
    b_come_together := b_come_together
    m_parted := PySem.W.mg_of X G a_parted
    k_parted := k_parted
    F_parted := F_parted
    b_parted := b_parted
    m_law_cell_at := PySem.W.mg_of X G a_law_cell_at
    k_law_cell_at := k_law_cell_at
    F_law_cell_at := F_law_cell_at
    b_law_cell_at := b_law_cell_at
    m_law_mixed := PySem.W.mg_of X G a_law_mixed
    k_law_mixed := k_law_mixed
    F_law_mixed := F_law_mixed
    b_law_mixed := b_law_mixed
    m_law_draws := PySem.W.mg_of X G a_law_draws
    k_law_draws := k_law_draws
    F_law_draws := F_law_draws
    b_law_draws := b_law_draws
    m_law_next := PySem.W.mg_of X G a_law_next
    k_law_next := k_law_next
    F_law_next := F_law_next
    b_law_next := b_law_next
    m_law_wish := PySem.W.mg_of X G a_law_wish
    k_law_wish := k_law_wish
    F_law_wish := F_law_wish
    b_law_wish := b_law_wish
    m_law_word := PySem.W.mg_of X G a_law_word
    k_law_word := k_law_word
    F_law_word := F_law_word
    b_law_word := b_law_word
    m_law_row := PySem.W.mg_of X G a_law_row
    k_law_row := k_law_row
    F_law_row := F_law_row
    b_law_row := b_law_row
    m_law_full_rows := PySem.W.mg_of X G a_law_full_rows
    k_law_full_rows := k_law_full_rows
    F_law_full_rows := F_law_full_rows
    b_law_full_rows := b_law_full_rows
    v_LETTERS := ⟨_, PySem.W.mg_of X G v_LETTERS⟩
    v_DEEPEST_GROUP := ⟨_, PySem.W.mg_of X G v_DEEPEST_GROUP⟩
    m_NEEDS := PySem.W.mg_of X G a_NEEDS
    D_NEEDS := by
      subst e_NEEDS_0 e_NEEDS_1 e_NEEDS_2 e_NEEDS_3 e_NEEDS_4
      exact kdict_mk (es := [("!", t_NEEDS_0, 1, u_NEEDS_0), ("&", t_NEEDS_1, 2, u_NEEDS_1), ("|", t_NEEDS_2, 2, u_NEEDS_2), ("^", t_NEEDS_3, 2, u_NEEDS_3), ("?", t_NEEDS_4, 3, u_NEEDS_4)]) s_NEEDS l_NEEDS (show (["!", "&", "|", "^", "?"] : List Str).Nodup by decide +kernel)
    n_len := PySem.W.mg_none_of X G z_len
    n_range := PySem.W.mg_none_of X G z_range
    n_int := PySem.W.mg_none_of X G z_int
    n_bool := PySem.W.mg_none_of X G z_bool
    n_str := PySem.W.mg_none_of X G z_str
    n_reversed := PySem.W.mg_none_of X G z_reversed
    n_enumerate := PySem.W.mg_none_of X G z_enumerate
    n_isinstance := PySem.W.mg_none_of X G z_isinstance
    n_abs := PySem.W.mg_none_of X G z_abs
    n_list := PySem.W.mg_none_of X G z_list
    n_max := PySem.W.mg_none_of X G z_max
  }
  exact ⟨PySem.W.fnOf "law" "law" (defArgs st_law) (defBody st_law) (defScope st_law) .none kV_law dc_law pm_law an_law cd_law ct_law, fun s v => .of_eq rfl, fun base _ _ => ok_law T F_law⟩
theorem walk {l : PySem.W.OpenLaw} {q : Program} {loose : List Str} {XP : (Str → Option Value) → Heap → Prop} {YP : World → Heap → Prop} {d : DefRec} {K : Params → PySem.W.Frag} (hn : l.most = some 63) (hdf : d.params.defaults = [])
    (hY : ∀ (w : World) (h : Heap), YP w h → (K w.params).In h)
    (F : ∀ (w : World) (mg : Str → Option Value) (fa : Addr) (h : Heap), (K w.params).In h → h.Ns mainGlobals mg → mg d.name = some (.ref fa) →
      ∃ fd : FuncData, (∀ (s : Shared) (u : Value), BindsTo s fd ⟨[u], []⟩ [("_law_script", u)]) ∧ ∀ base : Heap, (K w.params).In base → base.Ns mainGlobals mg → FnOk l.prog w (K w.params) mg base CX0 19 fa fd ["_law_script"] (spLaw (K w.params))) :
    PySem.W.WalkO q loose XP YP l.row.toRowW d [] (fun f vs => PySem.call f vs) :=
  L2.walk_of (n := 63) (k := 19) (x := "_law_script") (CX := fun _ => CX0) (sp := fun w => spLaw (K w.params)) hn (by decide) hdf ⟨rfl, by decide, by decide⟩ hY F (fun _ _ a ns hl _ hS => ⟨a, ns, rfl, hS, hl, fun _ => rfl⟩) fun _ _ _ _ _ z => z
end K76
open PySem PySem.W PyProof.Rows
set_option maxRecDepth 100000 in
set_option maxHeartbeats 0 in
theorem PySem.Challenge.cw_manymakes_k76_whole_cut_joined_tidied_holds : PySem.Challenge.rw_manymakes_k76_whole_cut_joined_tidied.Holds := by
  w_on; o_law
  refine PySem.W.holds_open (r := OpenLaw.row PySem.Challenge.rw_manymakes_k76_whole_cut_joined_tidied) (q := K76.vw) (loose := ["NEEDS", "put_together_wishes", "put_together_joining"]) (Xt := K76.xt) (XP := XL K76.vw [])
    (Yf := (kHook K76.pre.heap_1 K76.as K76.ase).obs) (Ya := (kHook K76.pre.heap_1 K76.as K76.ase).val) (YP := (kHook K76.pre.heap_1 K76.as K76.ase).says)
    (N := 4754) K76.left
    ((kHook K76.pre.heap_1 K76.as K76.ase).of) ((kHook K76.pre.heap_1 K76.as K76.ase).keeps) (fun s e => xl_of s (Mm.both_true e).1)
    (XL.keeps) (by rfl) (by rfl) (by rfl) (fun s e => recFacts_of (Mm.both_true e).2)
    (by rfl) (by assumption) (by decide +kernel)
    ⟨rfl, rfl, rfl, rfl, rfl, by decide +kernel⟩ ?hw ?hc
  (case hw => w_witness2)
  k_fill
  refine K76.walk (l := PySem.Challenge.rw_manymakes_k76_whole_cut_joined_tidied) rfl rfl (fun w h Y => PySem.W.kIn_of Y) ?F
  case F =>
    intro w mg fa h KX G hmg
    refine' K76.all_mk KX G hmg ?a_every ?l_every ?c_every' ?k_every ?a_switch_mask ?l_switch_mask ?c_switch_mask' ?k_switch_mask ?a_is_whole ?l_is_whole ?c_is_whole' ?k_is_whole ?a_is_mask ?l_is_mask ?c_is_mask' ?k_is_mask ?a_has ?l_has ?c_has' ?k_has ?a_settings ?l_settings ?c_settings' ?k_settings ?a_with_on ?l_with_on ?c_with_on' ?k_with_on ?a_with_off ?l_with_off ?c_with_off' ?k_with_off ?a_read_wish ?l_read_wish ?c_read_wish' ?k_read_wish ?a_mask_of_text ?l_mask_of_text ?c_mask_of_text' ?k_mask_of_text ?a_reckoned ?l_reckoned ?c_reckoned' ?k_reckoned ?a_taken ?l_taken ?c_taken' ?k_taken ?a_value_of ?l_value_of ?c_value_of' ?k_value_of ?a_put_together_wishes ?l_put_together_wishes ?c_put_together_wishes' ?k_put_together_wishes ?a_shown_wish ?l_shown_wish ?c_shown_wish' ?k_shown_wish ?a_shown_from ?l_shown_from ?c_shown_from' ?k_shown_from ?a_read_rows ?l_read_rows ?c_read_rows' ?k_read_rows ?a_read_words ?l_read_words ?c_read_words' ?k_read_words ?a_words_of ?l_words_of ?c_words_of' ?k_words_of ?a_group_mask ?l_group_mask ?c_group_mask' ?k_group_mask ?a_in_group ?l_in_group ?c_in_group' ?k_in_group ?a_cut_row ?l_cut_row ?c_cut_row' ?k_cut_row ?a_cut_rows ?l_cut_rows ?c_cut_rows' ?k_cut_rows ?a_cut_text ?l_cut_text ?c_cut_text' ?k_cut_text ?a_is_setting ?l_is_setting ?c_is_setting' ?k_is_setting ?a_joined ?l_joined ?c_joined' ?k_joined ?a_put_together_joining ?l_put_together_joining ?c_put_together_joining' ?k_put_together_joining ?a_most_shared ?l_most_shared ?c_most_shared' ?k_most_shared ?a_tidied ?l_tidied ?c_tidied' ?k_tidied ?a_ask_rule ?l_ask_rule ?c_ask_rule' ?k_ask_rule ?a_tidied_row ?l_tidied_row ?c_tidied_row' ?k_tidied_row ?a_come_together ?l_come_together ?c_come_together' ?k_come_together ?a_parted ?l_parted ?c_parted' ?k_parted ?a_law_cell_at ?l_law_cell_at ?c_law_cell_at' ?k_law_cell_at ?a_law_mixed ?l_law_mixed ?c_law_mixed' ?k_law_mixed ?a_law_draws ?l_law_draws ?c_law_draws' ?k_law_draws ?a_law_next ?l_law_next ?c_law_next' ?k_law_next ?a_law_wish ?l_law_wish ?c_law_wish' ?k_law_wish ?a_law_word ?l_law_word ?c_law_word' ?k_law_word ?a_law_row ?l_law_row ?c_law_row' ?k_law_row ?a_law_full_rows ?l_law_full_rows ?c_law_full_rows' ?k_law_full_rows ?a_law ?l_law ?c_law' ?k_law ?v_LETTERS ?v_DEEPEST_GROUP ?a_NEEDS ?l_NEEDS ?s_NEEDS ?e_NEEDS_0 ?e_NEEDS_1 ?e_NEEDS_2 ?e_NEEDS_3 ?e_NEEDS_4 ?z_len ?z_range ?z_int ?z_bool ?z_str ?z_reversed ?z_enumerate ?z_isinstance ?z_abs ?z_list ?z_max
    (case a_every => k_is)
    (case l_every => k_is)
    (case c_every' => k_is)
    (case k_every => k_is)
    (case a_switch_mask => k_is)
    (case l_switch_mask => k_is)
    (case c_switch_mask' => k_is)
    (case k_switch_mask => k_is)
    (case a_is_whole => k_is)
    (case l_is_whole => k_is)
    (case c_is_whole' => k_is)
    (case k_is_whole => k_is)
    (case a_is_mask => k_is)
    (case l_is_mask => k_is)
    (case c_is_mask' => k_is)
    (case k_is_mask => k_is)
    (case a_has => k_is)
    (case l_has => k_is)
    (case c_has' => k_is)
    (case k_has => k_is)
    (case a_settings => k_is)
    (case l_settings => k_is)
    (case c_settings' => k_is)
    (case k_settings => k_is)
    (case a_with_on => k_is)
    (case l_with_on => k_is)
    (case c_with_on' => k_is)
    (case k_with_on => k_is)
    (case a_with_off => k_is)
    (case l_with_off => k_is)
    (case c_with_off' => k_is)
    (case k_with_off => k_is)
    (case a_read_wish => k_is)
    (case l_read_wish => k_is)
    (case c_read_wish' => k_is)
    (case k_read_wish => k_is)
    (case a_mask_of_text => k_is)
    (case l_mask_of_text => k_is)
    (case c_mask_of_text' => k_is)
    (case k_mask_of_text => k_is)
    (case a_reckoned => k_is)
    (case l_reckoned => k_is)
    (case c_reckoned' => k_is)
    (case k_reckoned => k_is)
    (case a_taken => k_is)
    (case l_taken => k_is)
    (case c_taken' => k_is)
    (case k_taken => k_is)
    (case a_value_of => k_is)
    (case l_value_of => k_is)
    (case c_value_of' => k_is)
    (case k_value_of => k_is)
    (case a_put_together_wishes => k_is)
    (case l_put_together_wishes => k_is)
    (case c_put_together_wishes' => k_is)
    (case k_put_together_wishes => k_is)
    (case a_shown_wish => k_is)
    (case l_shown_wish => k_is)
    (case c_shown_wish' => k_is)
    (case k_shown_wish => k_is)
    (case a_shown_from => k_is)
    (case l_shown_from => k_is)
    (case c_shown_from' => k_is)
    (case k_shown_from => k_is)
    (case a_read_rows => k_is)
    (case l_read_rows => k_is)
    (case c_read_rows' => k_is)
    (case k_read_rows => k_is)
    (case a_read_words => k_is)
    (case l_read_words => k_is)
    (case c_read_words' => k_is)
    (case k_read_words => k_is)
    (case a_words_of => k_is)
    (case l_words_of => k_is)
    (case c_words_of' => k_is)
    (case k_words_of => k_is)
    (case a_group_mask => k_is)
    (case l_group_mask => k_is)
    (case c_group_mask' => k_is)
    (case k_group_mask => k_is)
    (case a_in_group => k_is)
    (case l_in_group => k_is)
    (case c_in_group' => k_is)
    (case k_in_group => k_is)
    (case a_cut_row => k_is)
    (case l_cut_row => k_is)
    (case c_cut_row' => k_is)
    (case k_cut_row => k_is)
    (case a_cut_rows => k_is)
    (case l_cut_rows => k_is)
    (case c_cut_rows' => k_is)
    (case k_cut_rows => k_is)
    (case a_cut_text => k_is)
    (case l_cut_text => k_is)
    (case c_cut_text' => k_is)
    (case k_cut_text => k_is)
    (case a_is_setting => k_is)
    (case l_is_setting => k_is)
    (case c_is_setting' => k_is)
    (case k_is_setting => k_is)
    (case a_joined => k_is)
    (case l_joined => k_is)
    (case c_joined' => k_is)
    (case k_joined => k_is)
    (case a_put_together_joining => k_is)
    (case l_put_together_joining => k_is)
    (case c_put_together_joining' => k_is)
    (case k_put_together_joining => k_is)
    (case a_most_shared => k_is)
    (case l_most_shared => k_is)
    (case c_most_shared' => k_is)
    (case k_most_shared => k_is)
    (case a_tidied => k_is)
    (case l_tidied => k_is)
    (case c_tidied' => k_is)
    (case k_tidied => k_is)
    (case a_ask_rule => k_is)
    (case l_ask_rule => k_is)
    (case c_ask_rule' => k_is)
    (case k_ask_rule => k_is)
    (case a_tidied_row => k_is)
    (case l_tidied_row => k_is)
    (case c_tidied_row' => k_is)
    (case k_tidied_row => k_is)
    (case a_come_together => k_is)
    (case l_come_together => k_is)
    (case c_come_together' => k_is)
    (case k_come_together => k_is)
    (case a_parted => k_is)
    (case l_parted => k_is)
    (case c_parted' => k_is)
    (case k_parted => k_is)
    (case a_law_cell_at => k_is)
    (case l_law_cell_at => k_is)
    (case c_law_cell_at' => k_is)
    (case k_law_cell_at => k_is)
    (case a_law_mixed => k_is)
    (case l_law_mixed => k_is)
    (case c_law_mixed' => k_is)
    (case k_law_mixed => k_is)
    (case a_law_draws => k_is)
    (case l_law_draws => k_is)
    (case c_law_draws' => k_is)
    (case k_law_draws => k_is)
    (case a_law_next => k_is)
    (case l_law_next => k_is)
    (case c_law_next' => k_is)
    (case k_law_next => k_is)
    (case a_law_wish => k_is)
    (case l_law_wish => k_is)
    (case c_law_wish' => k_is)
    (case k_law_wish => k_is)
    (case a_law_word => k_is)
    (case l_law_word => k_is)
    (case c_law_word' => k_is)
    (case k_law_word => k_is)
    (case a_law_row => k_is)
    (case l_law_row => k_is)
    (case c_law_row' => k_is)
    (case k_law_row => k_is)
    (case a_law_full_rows => k_is)
    (case l_law_full_rows => k_is)
    (case c_law_full_rows' => k_is)
    (case k_law_full_rows => k_is)
    (case a_law => k_is)
    (case l_law => k_is)
    (case c_law' => k_is)
    (case k_law => k_is)
    (case v_LETTERS => k_is)
    (case v_DEEPEST_GROUP => k_is)
    (case a_NEEDS => k_is)
    (case l_NEEDS => k_is)
    (case s_NEEDS => first | rfl | decide | k_is)
    (case e_NEEDS_0 => first | rfl | decide | k_is)
    (case e_NEEDS_1 => first | rfl | decide | k_is)
    (case e_NEEDS_2 => first | rfl | decide | k_is)
    (case e_NEEDS_3 => first | rfl | decide | k_is)
    (case e_NEEDS_4 => first | rfl | decide | k_is)
    (case z_len => k_is)
    (case z_range => k_is)
    (case z_int => k_is)
    (case z_bool => k_is)
    (case z_str => k_is)
    (case z_reversed => k_is)
    (case z_enumerate => k_is)
    (case z_isinstance => k_is)
    (case z_abs => k_is)
    (case z_list => k_is)
    (case z_max => k_is)

