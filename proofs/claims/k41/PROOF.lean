import PyProof.Rows.All
import Wide.All
import OpenK.AllK
import Wide.FinOn
import Lean
import PyProof.EqAt
import PyProof.EqKinds
import PyProof.TupleCall
import PyProof.Rows.BitMore
import KE.IntBitsLaws
import KE.KRevIter
import KE.KTryMore
import PyProof.StrLawsRepr
import KE.KIsAll
import KE.RegKIsAll
import KE.RegKTryMore
import PyProof.StrCalls2
import PyProof.StrLawsTight
import PyProof.StrLawsChain
import PyProof.Rows.StrItems
import PyProof.Rows.StrWeight2
import PyProof.EnumMake
import PyProof.EnumStmt
import PyProof.Rows.EnumRows
import PyProof.Rows.EqDataRows
import PyProof.P3Eq
import PyProof.Rows.SortRev
import KE.KSortTup
import PyProof.StrWalks
import KE.KIntText
import KE.IntTextLaws
import PyProof.CallStr
import KE.KDictSum
import PyProof.SumWalk
import PyProof.Rows.InDataRows
import PySem.Challenge.RW_manymakes_k41_kinds_of_operators
set_option Elab.async false
set_option maxRecDepth 100000
section
set_option maxRecDepth 100000
open PySem PySem.W
noncomputable def Mm.hdTr {α : Type} (_ : α) : Prop := True
noncomputable def Mm.hdPk {α : Type} (s : α) (_ : Mm.hdTr s) : α := s
theorem Mm.hdOf {α : Type} {a s : α} (_ : a = s) : Mm.hdTr s := trivial
noncomputable def K41.t0 : Stmt := Mm.hdPk (Stmt.Assign _ _ _) (Mm.hdOf (a := PySem.Challenge.pw_manymakes_k41_kinds_of_operators.main.body.getD 0 (Stmt.Pass ⟨0, 0, 0, 0⟩)) rfl)
noncomputable def K41.t1 : Stmt := Mm.hdPk (Stmt.FunctionDef _ _ _ _ _ _ _ _ _ _) (Mm.hdOf (a := PySem.Challenge.pw_manymakes_k41_kinds_of_operators.main.body.getD 1 (Stmt.Pass ⟨0, 0, 0, 0⟩)) rfl)
noncomputable def K41.t2 : Stmt := Mm.hdPk (Stmt.FunctionDef _ _ _ _ _ _ _ _ _ _) (Mm.hdOf (a := PySem.Challenge.pw_manymakes_k41_kinds_of_operators.main.body.getD 2 (Stmt.Pass ⟨0, 0, 0, 0⟩)) rfl)
noncomputable def K41.t3 : Stmt := Mm.hdPk (Stmt.FunctionDef _ _ _ _ _ _ _ _ _ _) (Mm.hdOf (a := PySem.Challenge.pw_manymakes_k41_kinds_of_operators.main.body.getD 3 (Stmt.Pass ⟨0, 0, 0, 0⟩)) rfl)
noncomputable def K41.t4 : Stmt := Mm.hdPk (Stmt.FunctionDef _ _ _ _ _ _ _ _ _ _) (Mm.hdOf (a := PySem.Challenge.pw_manymakes_k41_kinds_of_operators.main.body.getD 4 (Stmt.Pass ⟨0, 0, 0, 0⟩)) rfl)
noncomputable def K41.t5 : Stmt := Mm.hdPk (Stmt.FunctionDef _ _ _ _ _ _ _ _ _ _) (Mm.hdOf (a := PySem.Challenge.pw_manymakes_k41_kinds_of_operators.main.body.getD 5 (Stmt.Pass ⟨0, 0, 0, 0⟩)) rfl)
noncomputable def K41.t6 : Stmt := Mm.hdPk (Stmt.FunctionDef _ _ _ _ _ _ _ _ _ _) (Mm.hdOf (a := PySem.Challenge.pw_manymakes_k41_kinds_of_operators.main.body.getD 6 (Stmt.Pass ⟨0, 0, 0, 0⟩)) rfl)
noncomputable def K41.t7 : Stmt := Mm.hdPk (Stmt.Assign _ _ _) (Mm.hdOf (a := PySem.Challenge.pw_manymakes_k41_kinds_of_operators.main.body.getD 7 (Stmt.Pass ⟨0, 0, 0, 0⟩)) rfl)
noncomputable def K41.t8 : Stmt := Mm.hdPk (Stmt.FunctionDef _ _ _ _ _ _ _ _ _ _) (Mm.hdOf (a := PySem.Challenge.pw_manymakes_k41_kinds_of_operators.main.body.getD 8 (Stmt.Pass ⟨0, 0, 0, 0⟩)) rfl)
noncomputable def K41.t9 : Stmt := Mm.hdPk (Stmt.FunctionDef _ _ _ _ _ _ _ _ _ _) (Mm.hdOf (a := PySem.Challenge.pw_manymakes_k41_kinds_of_operators.main.body.getD 9 (Stmt.Pass ⟨0, 0, 0, 0⟩)) rfl)
noncomputable def K41.t10 : Stmt := Mm.hdPk (Stmt.FunctionDef _ _ _ _ _ _ _ _ _ _) (Mm.hdOf (a := PySem.Challenge.pw_manymakes_k41_kinds_of_operators.main.body.getD 10 (Stmt.Pass ⟨0, 0, 0, 0⟩)) rfl)
noncomputable def K41.t11 : Stmt := Mm.hdPk (Stmt.FunctionDef _ _ _ _ _ _ _ _ _ _) (Mm.hdOf (a := PySem.Challenge.pw_manymakes_k41_kinds_of_operators.main.body.getD 11 (Stmt.Pass ⟨0, 0, 0, 0⟩)) rfl)
noncomputable def K41.t12 : Stmt := Mm.hdPk (Stmt.FunctionDef _ _ _ _ _ _ _ _ _ _) (Mm.hdOf (a := PySem.Challenge.pw_manymakes_k41_kinds_of_operators.main.body.getD 12 (Stmt.Pass ⟨0, 0, 0, 0⟩)) rfl)
noncomputable def K41.t13 : Stmt := Mm.hdPk (Stmt.FunctionDef _ _ _ _ _ _ _ _ _ _) (Mm.hdOf (a := PySem.Challenge.pw_manymakes_k41_kinds_of_operators.main.body.getD 13 (Stmt.Pass ⟨0, 0, 0, 0⟩)) rfl)
noncomputable def K41.t14 : Stmt := Mm.hdPk (Stmt.Assign _ _ _) (Mm.hdOf (a := PySem.Challenge.pw_manymakes_k41_kinds_of_operators.main.body.getD 14 (Stmt.Pass ⟨0, 0, 0, 0⟩)) rfl)
noncomputable def K41.t15 : Stmt := Mm.hdPk (Stmt.Assign _ _ _) (Mm.hdOf (a := PySem.Challenge.pw_manymakes_k41_kinds_of_operators.main.body.getD 15 (Stmt.Pass ⟨0, 0, 0, 0⟩)) rfl)
noncomputable def K41.t16 : Stmt := Mm.hdPk (Stmt.FunctionDef _ _ _ _ _ _ _ _ _ _) (Mm.hdOf (a := PySem.Challenge.pw_manymakes_k41_kinds_of_operators.main.body.getD 16 (Stmt.Pass ⟨0, 0, 0, 0⟩)) rfl)
noncomputable def K41.t17 : Stmt := Mm.hdPk (Stmt.FunctionDef _ _ _ _ _ _ _ _ _ _) (Mm.hdOf (a := PySem.Challenge.pw_manymakes_k41_kinds_of_operators.main.body.getD 17 (Stmt.Pass ⟨0, 0, 0, 0⟩)) rfl)
noncomputable def K41.t18 : Stmt := Mm.hdPk (Stmt.FunctionDef _ _ _ _ _ _ _ _ _ _) (Mm.hdOf (a := PySem.Challenge.pw_manymakes_k41_kinds_of_operators.main.body.getD 18 (Stmt.Pass ⟨0, 0, 0, 0⟩)) rfl)
noncomputable def K41.t19 : Stmt := Mm.hdPk (Stmt.FunctionDef _ _ _ _ _ _ _ _ _ _) (Mm.hdOf (a := PySem.Challenge.pw_manymakes_k41_kinds_of_operators.main.body.getD 19 (Stmt.Pass ⟨0, 0, 0, 0⟩)) rfl)
noncomputable def K41.t20 : Stmt := Mm.hdPk (Stmt.Assign _ _ _) (Mm.hdOf (a := PySem.Challenge.pw_manymakes_k41_kinds_of_operators.main.body.getD 20 (Stmt.Pass ⟨0, 0, 0, 0⟩)) rfl)
noncomputable def K41.t21 : Stmt := Mm.hdPk (Stmt.Assign _ _ _) (Mm.hdOf (a := PySem.Challenge.pw_manymakes_k41_kinds_of_operators.main.body.getD 21 (Stmt.Pass ⟨0, 0, 0, 0⟩)) rfl)
noncomputable def K41.t22 : Stmt := Mm.hdPk (Stmt.Assign _ _ _) (Mm.hdOf (a := PySem.Challenge.pw_manymakes_k41_kinds_of_operators.main.body.getD 22 (Stmt.Pass ⟨0, 0, 0, 0⟩)) rfl)
noncomputable def K41.t23 : Stmt := Mm.hdPk (Stmt.ClassDef _ _ _ _ _ _ _ _ _ _ _) (Mm.hdOf (a := PySem.Challenge.pw_manymakes_k41_kinds_of_operators.main.body.getD 23 (Stmt.Pass ⟨0, 0, 0, 0⟩)) rfl)
noncomputable def K41.t24 : Stmt := Mm.hdPk (Stmt.FunctionDef _ _ _ _ _ _ _ _ _ _) (Mm.hdOf (a := PySem.Challenge.pw_manymakes_k41_kinds_of_operators.main.body.getD 24 (Stmt.Pass ⟨0, 0, 0, 0⟩)) rfl)
noncomputable def K41.t25 : Stmt := Mm.hdPk (Stmt.FunctionDef _ _ _ _ _ _ _ _ _ _) (Mm.hdOf (a := PySem.Challenge.pw_manymakes_k41_kinds_of_operators.main.body.getD 25 (Stmt.Pass ⟨0, 0, 0, 0⟩)) rfl)
noncomputable def K41.t26 : Stmt := Mm.hdPk (Stmt.FunctionDef _ _ _ _ _ _ _ _ _ _) (Mm.hdOf (a := PySem.Challenge.pw_manymakes_k41_kinds_of_operators.main.body.getD 26 (Stmt.Pass ⟨0, 0, 0, 0⟩)) rfl)
noncomputable def K41.t27 : Stmt := Mm.hdPk (Stmt.FunctionDef _ _ _ _ _ _ _ _ _ _) (Mm.hdOf (a := PySem.Challenge.pw_manymakes_k41_kinds_of_operators.main.body.getD 27 (Stmt.Pass ⟨0, 0, 0, 0⟩)) rfl)
noncomputable def K41.t28 : Stmt := Mm.hdPk (Stmt.FunctionDef _ _ _ _ _ _ _ _ _ _) (Mm.hdOf (a := PySem.Challenge.pw_manymakes_k41_kinds_of_operators.main.body.getD 28 (Stmt.Pass ⟨0, 0, 0, 0⟩)) rfl)
noncomputable def K41.t29 : Stmt := Mm.hdPk (Stmt.Assign _ _ _) (Mm.hdOf (a := PySem.Challenge.pw_manymakes_k41_kinds_of_operators.main.body.getD 29 (Stmt.Pass ⟨0, 0, 0, 0⟩)) rfl)
noncomputable def K41.t30 : Stmt := Mm.hdPk (Stmt.FunctionDef _ _ _ _ _ _ _ _ _ _) (Mm.hdOf (a := PySem.Challenge.pw_manymakes_k41_kinds_of_operators.main.body.getD 30 (Stmt.Pass ⟨0, 0, 0, 0⟩)) rfl)
noncomputable def K41.t31 : Stmt := Mm.hdPk (Stmt.FunctionDef _ _ _ _ _ _ _ _ _ _) (Mm.hdOf (a := PySem.Challenge.pw_manymakes_k41_kinds_of_operators.main.body.getD 31 (Stmt.Pass ⟨0, 0, 0, 0⟩)) rfl)
noncomputable def K41.t32 : Stmt := Mm.hdPk (Stmt.FunctionDef _ _ _ _ _ _ _ _ _ _) (Mm.hdOf (a := PySem.Challenge.pw_manymakes_k41_kinds_of_operators.main.body.getD 32 (Stmt.Pass ⟨0, 0, 0, 0⟩)) rfl)
noncomputable def K41.t33 : Stmt := Mm.hdPk (Stmt.FunctionDef _ _ _ _ _ _ _ _ _ _) (Mm.hdOf (a := PySem.Challenge.pw_manymakes_k41_kinds_of_operators.main.body.getD 33 (Stmt.Pass ⟨0, 0, 0, 0⟩)) rfl)
noncomputable def K41.t34 : Stmt := Mm.hdPk (Stmt.FunctionDef _ _ _ _ _ _ _ _ _ _) (Mm.hdOf (a := PySem.Challenge.pw_manymakes_k41_kinds_of_operators.main.body.getD 34 (Stmt.Pass ⟨0, 0, 0, 0⟩)) rfl)
noncomputable def K41.t35 : Stmt := Mm.hdPk (Stmt.FunctionDef _ _ _ _ _ _ _ _ _ _) (Mm.hdOf (a := PySem.Challenge.pw_manymakes_k41_kinds_of_operators.main.body.getD 35 (Stmt.Pass ⟨0, 0, 0, 0⟩)) rfl)
noncomputable def K41.t36 : Stmt := Mm.hdPk (Stmt.FunctionDef _ _ _ _ _ _ _ _ _ _) (Mm.hdOf (a := PySem.Challenge.pw_manymakes_k41_kinds_of_operators.main.body.getD 36 (Stmt.Pass ⟨0, 0, 0, 0⟩)) rfl)
noncomputable def K41.t37 : Stmt := Mm.hdPk (Stmt.FunctionDef _ _ _ _ _ _ _ _ _ _) (Mm.hdOf (a := PySem.Challenge.pw_manymakes_k41_kinds_of_operators.main.body.getD 37 (Stmt.Pass ⟨0, 0, 0, 0⟩)) rfl)
noncomputable def K41.t38 : Stmt := Mm.hdPk (Stmt.FunctionDef _ _ _ _ _ _ _ _ _ _) (Mm.hdOf (a := PySem.Challenge.pw_manymakes_k41_kinds_of_operators.main.body.getD 38 (Stmt.Pass ⟨0, 0, 0, 0⟩)) rfl)
noncomputable def K41.sc : Scope := Mm.hdPk (Scope.mk _ _ _ _ _) (Mm.hdOf (a := PySem.Challenge.pw_manymakes_k41_kinds_of_operators.main.scope) rfl)
noncomputable def K41.pw : Program := Mm.hdPk (Program.mk (Module.mk (K41.t0 :: K41.t1 :: K41.t2 :: K41.t3 :: K41.t4 :: K41.t5 :: K41.t6 :: K41.t7 :: K41.t8 :: K41.t9 :: K41.t10 :: K41.t11 :: K41.t12 :: K41.t13 :: K41.t14 :: K41.t15 :: K41.t16 :: K41.t17 :: K41.t18 :: K41.t19 :: K41.t20 :: K41.t21 :: K41.t22 :: K41.t23 :: K41.t24 :: K41.t25 :: K41.t26 :: K41.t27 :: K41.t28 :: K41.t29 :: K41.t30 :: K41.t31 :: K41.t32 :: K41.t33 :: K41.t34 :: K41.t35 :: K41.t36 :: K41.t37 :: K41.t38 :: List.nil) K41.sc _ _ _) _ _ _ _ _) (Mm.hdOf (a := PySem.Challenge.pw_manymakes_k41_kinds_of_operators) rfl)
noncomputable def K41.rw : OpenLaw := Mm.hdPk { prog := K41.pw, name := _, about := _, foot := _, most := _, bound := _, writes := _ } (Mm.hdOf (a := PySem.Challenge.rw_manymakes_k41_kinds_of_operators) rfl)
theorem K41.rwe : K41.rw = PySem.Challenge.rw_manymakes_k41_kinds_of_operators := rfl
end
section
open PySem PySem.W PyProof.Rows
set_option maxRecDepth 100000
theorem K41.pwe : PySem.Challenge.pw_manymakes_k41_kinds_of_operators = K41.pw := rfl
noncomputable def K41.vw : Program := { K41.pw with main := { K41.pw.main with body := K41.t1 :: K41.t2 :: K41.t3 :: K41.t4 :: K41.t5 :: K41.t6 :: K41.t8 :: K41.t9 :: K41.t10 :: K41.t11 :: K41.t12 :: K41.t13 :: K41.t14 :: K41.t16 :: K41.t17 :: K41.t18 :: K41.t19 :: K41.t21 :: K41.t22 :: K41.t23 :: K41.t24 :: K41.t25 :: K41.t26 :: K41.t27 :: K41.t28 :: K41.t30 :: K41.t31 :: K41.t32 :: K41.t33 :: K41.t34 :: K41.t35 :: K41.t36 :: K41.t37 :: K41.t38 :: List.nil } }
theorem Mm.keepIt (_ : Hook) {p : Prop} (h : p) : p := h
section
local macro_rules | `(tactic| o_head $H) => `(tactic| exact Mm.keepIt $H (by assumption))
set_option maxHeartbeats 0 in
theorem K41.pre (h : (OpenLaw.row PySem.Challenge.rw_manymakes_k41_kinds_of_operators).Holds) : (OpenLaw.row PySem.Challenge.rw_manymakes_k41_kinds_of_operators).Holds := by k_head
end
def K41.as : List Addr := [2, 3, 15, 17, 18, 20, 21, 22, 24, 25, 27, 28, 29, 31, 32, 34, 35, 36, 39, 40, 41, 43, 44, 46, 47, 48, 51, 52, 53, 56, 57, 58, 61, 62, 63, 65, 66, 68, 69, 70, 73, 74, 75, 78, 79, 80, 83, 84, 85, 86, 88, 89, 91, 92, 93, 95, 96, 98, 99, 100, 102, 103, 105, 106, 107, 109, 110, 112, 113, 114, 115, 123, 125, 126, 128, 129, 130, 132, 133, 135, 136, 137, 139, 140, 142, 143, 144, 147, 148, 149, 152, 153, 154, 156, 157, 159, 160, 161, 163, 164, 166, 167, 168, 171, 172, 173, 175, 176, 178, 179, 180, 183, 184, 185, 186, 187, 188, 189, 192, 195, 196, 197, 199, 200, 202, 203, 204, 206, 207, 209, 210, 211, 213, 214, 216, 217, 218, 221, 222, 230, 232, 233, 235, 236, 237, 239, 240, 242, 243, 244, 246, 247, 249, 250, 251, 253, 254, 256, 257, 258, 260, 261, 263, 264, 265, 268, 269, 270, 272, 273, 275, 276, 277, 280, 281]
theorem K41.ase (P : Params) : K41.as = (K41.pre.heap_1 P).map (·.1) := by kernel_rfl
theorem Mm.both_true {a b : Bool} (h : (a && b) = true) : a = true /\ b = true := by cases a <;> cases b <;> simp_all
noncomputable abbrev K41.xt : Shared -> Bool := fun s => (xlAt K41.vw [] s) && (recOk (RowW.records (OpenRow.toRowW (OpenLaw.row K41.rw))) s)
noncomputable def K41.oe (w : World) : Option Shared :=
 (importEnds treeTable (opening K41.pw) w 3602 (start (opening K41.pw)).1 (start (opening K41.pw)).2).bind fun s => (fenceModules? K41.pw s).bind fun s₀ =>
 match s₀.heap.isNs mainGlobals && s₀.gens.size == 0 with
 | true => (topRun treeTable K41.pw w s₀.heap.objs.size (s₀.heap.nsMap mainGlobals "__annotations__") 3602 s₀ (topStub K41.pw)).bind fun s₁ => match staticsOk (importedModules K41.pw.main.body) s₀.heap s₁.heap && namesBound K41.pw s₁.heap && gensDone s₁ && laidKept s₀.heap s₁.heap with
   | true => some s₁
   | false => none
 | false => none
theorem Mm.bindAss {α β γ : Type} (o : Option α) (f : α -> Option β) (g : β -> Option γ) : (o.bind f).bind g = o.bind fun s => (f s).bind g := by cases o <;> rfl
theorem K41.oe_eq (w : World) : openEnds treeTable PySem.Challenge.pw_manymakes_k41_kinds_of_operators w 3602 = K41.oe w := by
 rw [K41.pwe]
 show ((importEnds _ _ _ _ _ _).bind _).bind _ = _
 rw [Mm.bindAss]
 rfl
noncomputable def K41.ga (w : World) := Option.map (openSeen K41.vw ["MAKES", "ASKS"] (importedModules K41.pw.main.body) K41.xt true) (K41.oe w)
noncomputable def K41.gb := some (openGood K41.vw ["MAKES", "ASKS"])
noncomputable def K41.oa (w : World) : Option (List (Option Obj)) := Option.map (fun s => K41.as.map s.heap.get?) (K41.oe w)
def Mm.hdTt {α : Type} (_ : α) : Bool := true
theorem K41.lay1 : Mm.hdTt K41.ga = true := by k_qdec
theorem K41.lay2 : Mm.hdTt K41.gb = true := by k_qdec
theorem K41.lay3 : Mm.hdTt K41.oa = true := by k_qdec
theorem K41.la0 (w : World) : PySem.W.Fast.tw12119732509216972628 (w.withFollow "special-get-raises" false) = PySem.W.Fast.tw9875237312286721394 := by kernel_rfl
theorem K41.lb0 (w : World) : PySem.W.Fast.tw5912167603455784135 (w.withFollow "special-get-raises" false) = some ((K41.pre.heap_1 (w.withFollow "special-get-raises" false).params).map fun p => some p.2) := by kernel_rfl
theorem K41.la1 (w : World) : PySem.W.Fast.tw12119732509216972628 (w.withFollow "special-get-raises" true) = PySem.W.Fast.tw9875237312286721394 := by kernel_rfl
theorem K41.lb1 (w : World) : PySem.W.Fast.tw5912167603455784135 (w.withFollow "special-get-raises" true) = some ((K41.pre.heap_1 (w.withFollow "special-get-raises" true).params).map fun p => some p.2) := by kernel_rfl
theorem K41.la (w : World) : PySem.W.Fast.tw12119732509216972628 w = PySem.W.Fast.tw9875237312286721394 := byRow2 "special-get-raises" (P := fun w => PySem.W.Fast.tw12119732509216972628 w = PySem.W.Fast.tw9875237312286721394) K41.la0 K41.la1 w
theorem K41.lb (w : World) : PySem.W.Fast.tw5912167603455784135 w = some ((K41.pre.heap_1 w.params).map fun p => some p.2) := byRow2 "special-get-raises" (P := fun w => PySem.W.Fast.tw5912167603455784135 w = some ((K41.pre.heap_1 w.params).map fun p => some p.2)) K41.lb0 K41.lb1 w
theorem Mm.twoM {α β γ : Type} {o : Option α} {f : α -> β} {g : α -> γ} {b : β} {c : γ} (h1 : o.map f = some b) (h2 : o.map g = some c) : o.map (fun s => (f s, g s)) = some (b, c) := by
 cases o with
 | none => cases h1
 | some s =>
  have h1 := Option.some.inj h1
  have h2 := Option.some.inj h2
  show some (f s, g s) = _
  rw [h1, h2]
theorem K41.left : LeftO PySem.Challenge.pw_manymakes_k41_kinds_of_operators K41.vw ["MAKES", "ASKS"] K41.xt (kHook K41.pre.heap_1 K41.as K41.ase).obs (kHook K41.pre.heap_1 K41.as K41.ase).val 3602 := fun w => by
 rw [K41.oe_eq]
 exact Mm.twoM ((congrFun PySem.W.Fast.te12119732509216972628 w).trans ((K41.la w).trans PySem.W.Fast.te9875237312286721394.symm)) ((congrFun PySem.W.Fast.te5912167603455784135 w).trans (K41.lb w))
end
set_option Elab.async false
set_option linter.all false
set_option maxRecDepth 100000
namespace L2
open PySem PySem.Spec PyProof.Rows
noncomputable abbrev Key := Sum Int Str
noncomputable def keyIs : Key -> Value -> Bool
 | .inl k, v => Value.isInt k v
 | .inr x, v => Value.isStrOf x v
noncomputable def keyH (w : World) : Key -> Int
 | .inl k => hashInt k
 | .inr x => hashStr w x
theorem keyIs_shape : ∀ {k : Key} {v : Value}, keyIs k v = true -> (∃ i t, k = Sum.inl i /\ v = Value.int i t) ∨ (∃ x t, k = Sum.inr x /\ v = Value.str x t)
 | .inl i, v, h => by
  obtain ⟨t, e⟩ := Value.isInt_shape (k := i) (v := v) h
  exact .inl ⟨i, t, rfl, e⟩
 | .inr x, v, h => by
  obtain ⟨t, e⟩ := Value.isStrOf_shape (x := x) (v := v) h
  exact .inr ⟨x, t, rfl, e⟩
theorem keyIs_int (i : Int) (t : Tok) : keyIs (.inl i) (.int i t) = true := by simp [keyIs, Value.isInt]
theorem keyIs_str (x : Str) (t : Tok) : keyIs (.inr x) (.str x t) = true := by simp [keyIs, Value.isStrOf]
theorem key_ll (a b : Int) : decide ((Sum.inl a : Key) = Sum.inl b) = (a == b) := by
 by_cases e : a = b
 ·subst e; simp
 ·have h : ¬ (Sum.inl a : Key) = Sum.inl b := fun q => e (Sum.inl.inj q)
  rw [decide_eq_false h]
  exact (beq_eq_false_iff_ne.mpr e).symm
theorem key_rr (a b : Str) : decide ((Sum.inr a : Key) = Sum.inr b) = decide (a = b) := by
 by_cases e : a = b
 ·subst e; simp
 ·have h : ¬ (Sum.inr a : Key) = Sum.inr b := fun q => e (Sum.inr.inj q)
  rw [decide_eq_false h, decide_eq_false e]
theorem key_lr (a : Int) (b : Str) : decide ((Sum.inl a : Key) = Sum.inr b) = false := decide_eq_false (fun q => nomatch q)
theorem key_rl (a : Str) (b : Int) : decide ((Sum.inr a : Key) = Sum.inl b) = false := decide_eq_false (fun q => nomatch q)
noncomputable def mixKind (prog : Program) (w : World) : PySem.KeyKind prog w Key where
 is := keyIs
 hash := keyH w
 inj := fun v a b ha hb => by
  rcases keyIs_shape ha with ⟨i, t, rfl, rfl⟩ | ⟨x, t, rfl, rfl⟩
  ·rcases keyIs_shape hb with ⟨j, u, rfl, e⟩ | ⟨y, u, rfl, e⟩
   ·injection e with e1 _; rw [e1]
   ·exact nomatch e
  ·rcases keyIs_shape hb with ⟨j, u, rfl, e⟩ | ⟨y, u, rfl, e⟩
   ·exact nomatch e
   ·injection e with e1 _; rw [e1]
 byValue := fun k v h => by
  rcases keyIs_shape h with ⟨i, t, rfl, rfl⟩ | ⟨x, t, rfl, rfl⟩ <;> rfl
 pyHash := fun hv h => by
  rcases keyIs_shape hv with ⟨i, t, rfl, rfl⟩ | ⟨x, t, rfl, rfl⟩
  ·exact wpAny_pyHash_int h
  ·exact wpAny_pyHash_str h
 eqBool := fun hu hv h => by
  rcases keyIs_shape hu with ⟨i, t, rfl, rfl⟩ | ⟨x, t, rfl, rfl⟩
  ·rcases keyIs_shape hv with ⟨j, u, rfl, rfl⟩ | ⟨y, u, rfl, rfl⟩
   ·rw [key_ll] at h; exact wpAny_eqBool_int h
   ·rw [key_lr] at h; exact SeqAt.EqAt.int_str i t y u _ _ _ _ h
  ·rcases keyIs_shape hv with ⟨j, u, rfl, rfl⟩ | ⟨y, u, rfl, rfl⟩
   ·rw [key_rl] at h; exact SeqAt.EqAt.str_int x t j u _ _ _ _ h
   ·rw [key_rr] at h; exact wpAny_eqBool_str h
 «strs» := fun k x t v h => by
  rcases keyIs_shape h with ⟨i, u, rfl, e⟩ | ⟨y, u, rfl, e⟩
  ·exact nomatch e
  ·injection e with e1 _
   subst e1
   cases v <;> rfl
theorem mixKind_int (prog : Program) (w : World) (i : Int) (t : Tok) : (mixKind prog w).is (.inl i) (.int i t) = true := keyIs_int i t
theorem mixKind_str (prog : Program) (w : World) (x : Str) (t : Tok) : (mixKind prog w).is (.inr x) (.str x t) = true := keyIs_str x t
end L2
namespace L2
open PySem PySem.Spec PyProof.Rows
inductive V where
 | non | bl (b : Bool) | int (i : Int) | str (x : Str) | byt (b : Array UInt8) | flt (b : UInt64) | ref (a : Addr) | ty (n : String)
 deriving DecidableEq
noncomputable def RelV : V -> Value -> Prop
 | .non, u => u = Value.none
 | .bl b, u => u = Value.bool b
 | .int i, u => ∃ t, u = Value.int i t
 | .str x, u => ∃ t, u = Value.str x t
 | .byt b, u => ∃ t, u = Value.bytes b t
 | .flt b, u => ∃ t, u = Value.float b t
 | .ref a, u => u = Value.ref a
 | .ty n, u => u = Value.type n
noncomputable abbrev Vals : List V -> List Value -> Prop := Paired RelV
theorem Vals.length {xs : List V} {us : List Value} (r : Vals xs us) : xs.length = us.length := Paired.length r
theorem Vals.get : ∀ {xs : List V} {us : List Value} {i : Nat} {x : V}, Vals xs us -> xs[i]? = some x -> ∃ u, us[i]? = some u /\ RelV x u
 | _, _, _, _, .nil, e => by simp at e
 | _, _, 0, _, .cons r _, e => by simp at e; subst e; exact ⟨_, rfl, r⟩
 | _, _, i + 1, x, .cons _ t, e => by
  obtain ⟨u, h1, h2⟩ := Vals.get (i := i) (x := x) t (by simpa using e)
  exact ⟨u, by simpa using h1, h2⟩
theorem Vals.append : ∀ {xs ys : List V} {us ws : List Value}, Vals xs us -> Vals ys ws -> Vals (xs ++ ys) (us ++ ws)
 | _, _, _, _, .nil, s => s
 | _, _, _, _, .cons r t, s => .cons r (Vals.append t s)
theorem Vals.take : ∀ {xs : List V} {us : List Value} (n : Nat), Vals xs us -> Vals (xs.take n) (us.take n)
 | _, _, 0, _ => .nil
 | _, _, _ + 1, .nil => .nil
 | _, _, n + 1, .cons r t => .cons r (Vals.take n t)
theorem Vals.drop : ∀ {xs : List V} {us : List Value} (n : Nat), Vals xs us -> Vals (xs.drop n) (us.drop n)
 | _, _, 0, r => r
 | _, _, _ + 1, .nil => .nil
 | _, _, n + 1, .cons _ t => Vals.drop n t
noncomputable def RelO : Option V -> Option Value -> Prop
 | some v, some u => RelV v u
 | none, none => True
 | _, _ => False
noncomputable def KV {κ : Type} : List (κ × V) -> List (κ × Value) -> Prop := Paired fun (p : κ × V) (q : κ × Value) => p.1 = q.1 /\ RelV p.2 q.2
noncomputable def kV : Key -> V
 | .inl i => .int i
 | .inr x => .str x
inductive HO where
 | lst (xs : List V)
 | tup (xs : List V)
 | dK (kvs : List (Key × V)) | dT (kvs : List (List Key × V))
 | set (S : Int -> Bool) (n : Nat)
 | ins (C dx : Addr) (fs : List (Str × V))
 | own (x : Addr)
 | xd (fs : List (Str × V))
 | met (f x : Addr)
 | rng (lo hi : Int)
 | frz (o : Obj) (u : HO)
 | tbl (ps : Array Value)
 | ext (φ : Heap -> Prop)
noncomputable abbrev Hp := Addr -> Option HO
noncomputable def upd (H : Hp) (a : Addr) (o : HO) : Hp := fun b => if b = a then some o else H b
theorem upd_same {H : Hp} {a : Addr} {o : HO} : upd H a o a = some o := by unfold upd; rw [if_pos rfl]
theorem upd_ne {H : Hp} {a b : Addr} {o : HO} (h : b ≠ a) : upd H a o b = H b := by unfold upd; rw [if_neg h]
theorem ne_of {H : Hp} {a b : Addr} {o u : HO} (h : H a = some o) (h' : H b = some u) (d : o ≠ u) : a ≠ b := by
 intro e; subst e; rw [h] at h'; exact d (Option.some.inj h')
theorem ne_of_none {H : Hp} {a b : Addr} {o : HO} (h : H a = some o) (h' : H b = none) : a ≠ b := by
 intro e; subst e; rw [h] at h'; cases h'
section
variable (P : Program) (w : World)
noncomputable def ObjOk (H : Hp) (h : Heap) (a : Addr) : HO -> Prop
 | .lst xs => xs.length <= sizeLine /\ ∃ (its : List Value) (n : Nat), Vals xs its /\ h.get? a = some { cls := .type "list", data := .seq its.toArray n }
 | .tup xs => xs.length <= sizeLine /\ ∃ its : List Value, Vals xs its /\ IsTup h a its.toArray
 | .dK kvs => kvs.length <= sizeLine /\ (a == sysModules) = false /\ ∃ vs, KV kvs vs /\ h.DictOf (mixKind P w) a vs
 | .dT kvs => kvs.length <= sizeLine /\ (a == sysModules) = false /\ ∃ xs : List (List Key × Addr × Value),
   Paired (fun (p : List Key × V) (q : List Key × Addr × Value) => p.1 = q.1 /\ H q.2.1 = some (.tup (p.1.map kV)) /\ RelV p.2 q.2.2) kvs xs /\
   ∃ o es ep, h.get? a = some o /\ o.ExactDict /\ o.data = .dict es ep /\ es.toList = xs.map (entryOfKey (tupleKind (mixKind P w))) /\ (xs.map (·.1)).Nodup
 | .set S n => h.SetOf (intKind P w) a S n
 | .ins C dx fs => H dx = some (.own a) /\ fs.length <= 1000 /\ dx ≠ a /\ h.get? a = some (PySem.W.instObj C dx) /\
   ∃ mA, h.Ns1 dx mA /\ (∀ f, RelO (fs.lookup f) (mA f)) /\ PySem.Within mA (fs.map (·.1))
 | .own _ => ∃ o, h.get? a = some o
 | .xd fs => ∃ mA, h.Ns1 a mA /\ ∀ f, RelO (fs.lookup f) (mA f)
 | .rng lo hi => ∃ t u v, h.get? a = some { cls := .type "range", data := .fields #[.int lo t, .int hi u, .int 1 v] }
 | .frz o u => h.get? a = some o /\ ObjOk H h a u
 | .tbl ps => h.get? a = some { cls := .none, data := .fields ps }
 | .met f x => h.get? a = some (PySem.W.methodObj (.ref f) (.ref x))
 | .ext φ => φ h /\ (∃ o, h.get? a = some o) /\ ∀ h1 h2 : Heap, φ h1 -> (∀ o, h1.get? a = some o -> h2.get? a = some o) -> φ h2
noncomputable def HOk (H : Hp) (h : Heap) : Prop := ∀ a o, H a = some o -> ObjOk P w H h a o
end
section
variable {P : Program} {w : World} {H H' : Hp} {h h' : Heap} {a : Addr} {o : HO}
theorem ObjOk.lt (x : ObjOk P w H h a o) : a < h.objs.size := by
 cases o with
 | lst xs => obtain ⟨_, _, _, _, e⟩ := x; exact Heap.lt_size e
 | tup xs => obtain ⟨_, _, _, p⟩ := x; exact p.lt
 | dK kvs => obtain ⟨_, _, _, _, o, _, _, e, _⟩ := x; exact Heap.lt_size e
 | dT kvs => obtain ⟨_, _, _, _, o, _, _, e, _⟩ := x; exact Heap.lt_size e
 | set S n => obtain ⟨o, _, _, _, e, _⟩ := x; exact Heap.lt_size e
 | ins C dx fs => obtain ⟨_, _, _, e, _⟩ := x; exact Heap.lt_size e
 | own y => obtain ⟨_, e⟩ := x; exact Heap.lt_size e
 | xd fs => obtain ⟨_, ⟨_, _, _, e, _⟩, _⟩ := x; exact Heap.lt_size e
 | rng lo hi => obtain ⟨_, _, _, e⟩ := x; exact Heap.lt_size e
 | frz ob u => obtain ⟨e, _⟩ := x; exact Heap.lt_size e
 | tbl ps => exact Heap.lt_size (show h.get? a = some _ from x)
 | met f y => exact Heap.lt_size (show h.get? a = some _ from x)
 | ext φ => obtain ⟨_, ⟨_, e⟩, _⟩ := x; exact Heap.lt_size e
theorem Paired.mapP {α β : Type} {F G : α -> β -> Prop} : ∀ {l₁ : List α} {l₂ : List β}, Paired F l₁ l₂ -> (∀ a b, F a b -> G a b) -> Paired G l₁ l₂
 | _, _, .nil, _ => .nil
 | _, _, .cons r t, f => .cons (f _ _ r) (Paired.mapP t f)
theorem ObjOk.stay (x : ObjOk P w H h a o) (k : ∀ b u, (b = a ∨ H b = some (.own a)) -> h.get? b = some u -> h'.get? b = some u)
  (ho : ∀ b, H b = some (.own a) -> H' b = some (.own a)) (ht : ∀ b xs, H b = some (.tup xs) -> H' b = some (.tup xs)) : ObjOk P w H' h' a o := by
 induction o with
 | lst xs => obtain ⟨z, its, n, r, e⟩ := x; exact ⟨z, its, n, r, k _ _ (.inl rfl) e⟩
 | tup xs => obtain ⟨z, its, r, ob, e, c⟩ := x; exact ⟨z, its, r, ob, k _ _ (.inl rfl) e, c⟩
 | dK kvs => obtain ⟨z, y, vs, r, ob, es, ep, e, c⟩ := x; exact ⟨z, y, vs, r, ob, es, ep, k _ _ (.inl rfl) e, c⟩
 | dT kvs =>
  obtain ⟨z, y, xs, r, ob, es, ep, e, c⟩ := x
  exact ⟨z, y, xs, Paired.mapP r fun p q z => ⟨z.1, ht _ _ z.2.1, z.2.2⟩, ob, es, ep, k _ _ (.inl rfl) e, c⟩
 | set S n => obtain ⟨ob, es, ep, t, e, c⟩ := x; exact ⟨ob, es, ep, t, k _ _ (.inl rfl) e, c⟩
 | ins C dx fs =>
  obtain ⟨d, z, ne, e, mA, ⟨od, es, ep, e2, c⟩, r⟩ := x
  exact ⟨ho _ d, z, ne, k _ _ (.inl rfl) e, mA, ⟨od, es, ep, k _ _ (.inr d) e2, c⟩, r⟩
 | own y => obtain ⟨ob, e⟩ := x; exact ⟨ob, k _ _ (.inl rfl) e⟩
 | xd fs => obtain ⟨mA, ⟨od, es, ep, e, c⟩, r⟩ := x; exact ⟨mA, ⟨od, es, ep, k _ _ (.inl rfl) e, c⟩, r⟩
 | rng lo hi => obtain ⟨t, u, v, e⟩ := x; exact ⟨t, u, v, k _ _ (.inl rfl) e⟩
 | frz ob u ih => obtain ⟨e, q⟩ := x; exact ⟨k _ _ (.inl rfl) e, ih q⟩
 | tbl ps =>
  have e : h.get? a = some { cls := .none, data := .fields ps } := x
  show h'.get? a = some { cls := .none, data := .fields ps }
  exact k a _ (.inl rfl) e
 | met f y =>
  have e : h.get? a = some (PySem.W.methodObj (.ref f) (.ref y)) := x
  show h'.get? a = some (PySem.W.methodObj (.ref f) (.ref y))
  exact k a _ (.inl rfl) e
 | ext φ => obtain ⟨p, ⟨o, e⟩, st⟩ := x; exact ⟨st _ _ p fun o q => k _ _ (.inl rfl) q, ⟨o, k _ _ (.inl rfl) e⟩, st⟩
theorem HOk.lt (x : HOk P w H h) (e : H a = some o) : a < h.objs.size := (x a o e).lt
theorem HOk.fresh (x : HOk P w H h) (e : h.objs.size <= a) : H a = none := by
 cases q : H a with
 | none => rfl
 | some u => exact absurd (Nat.lt_of_lt_of_le (x.lt q) e) (Nat.lt_irrefl _)
theorem HOk.kept (x : HOk P w H h) (k : ∀ b u, h.get? b = some u -> h'.get? b = some u) : HOk P w H h' := fun a o e =>
 (x a o e).stay (fun b u _ q => k b u q) (fun _ q => q) fun _ _ q => q
theorem HOk.laid (x : HOk P w H h) (k : ∀ b u, h.get? b = some u -> h'.get? b = some u) (hp : h.objs.size <= a) (new : ObjOk P w (upd H a o) h' a o) : HOk P w (upd H a o) h' := fun b u e => by
 have hn := x.fresh hp
 by_cases hb : b = a
 ·subst hb; rw [upd_same] at e; cases e; exact new
 ·rw [upd_ne hb] at e
  exact (x b u e).stay (fun c v _ q => k c v q) (fun c q => by rw [upd_ne (ne_of_none q hn)]; exact q) fun c xs q => by rw [upd_ne (ne_of_none q hn)]; exact q
end
noncomputable def Rd (H : Hp) (a : Addr) (u : HO) : Prop := H a = some u ∨ ∃ o, H a = some (.frz o u)
theorem Rd.ok {P : Program} {w : World} {H : Hp} {h : Heap} {a : Addr} {u : HO} (r : Rd H a u) (x : HOk P w H h) : ObjOk P w H h a u := by
 rcases r with r | ⟨o, r⟩
 ·exact x a u r
 ·obtain ⟨_, q⟩ := x a _ r
  exact q
noncomputable def Mut : Option HO -> Prop
 | some (.lst _) => True
 | some (.dK _) => True
 | some (.dT _) => True
 | some (.set _ _) => True
 | some (.ins _ _ _) => True
 | some (.ext _) => True
 | _ => False
section
variable {P : Program} {w : World} {H : Hp} {h h' : Heap} {x e : Addr} {o' : HO}
theorem HOk.write (ok : HOk P w H h) (mu : Mut (H x)) (he : e = x ∨ H e = some (.own x)) (k : ∀ b u, b ≠ e -> h.get? b = some u -> h'.get? b = some u) (heo : ∃ u, h'.get? e = some u)
  (new : ObjOk P w (upd H x o') h' x o') : HOk P w (upd H x o') h' := fun b u q => by
 have nown : ∀ c y, H c = some (.own y) -> c ≠ x := fun c y r z => by subst z; rw [r] at mu; exact mu
 have ntup : ∀ c xs, H c = some (.tup xs) -> c ≠ x := fun c xs r z => by subst z; rw [r] at mu; exact mu
 by_cases hb : b = x
 ·subst hb; rw [upd_same] at q; cases q; exact new
 ·rw [upd_ne hb] at q
  by_cases hbe : b = e
  ·have q' : H b = some (.own x) := by
    rcases he with z | z
    ·exact absurd (hbe.trans z) hb
    ·rw [hbe]; exact z
   rw [q] at q'; cases q'
   obtain ⟨v, hv⟩ := heo
   exact ⟨v, by rw [hbe]; exact hv⟩
  ·refine (ok b u q).stay (fun c v hc r => k c v ?_ r) (fun c r => by rw [upd_ne (nown c b r)]; exact r) fun c xs r => by rw [upd_ne (ntup c xs r)]; exact r
   rcases hc with rfl | hc
   ·exact hbe
   ·rintro rfl
    rcases he with z | z
    ·exact nown c b hc z
    ·rw [hc] at z; cases z; exact hb rfl
end
structure Un (fs ex : List Addr) (H H' : Hp) (h h' : Heap) : Prop where
 keep : ∀ b o, h.get? b = some o -> H b = none -> b ∉ fs -> b ∉ ex -> h'.get? b = some o
 slot : ∀ b o, h.get? b = some o -> H b = none -> b ∈ fs -> b ∉ ex -> ∃ sl, h'.get? b = some { o with slots := sl }
 free : ∀ b o, h.get? b = some o -> H b = none -> b ∉ ex -> H' b = none
 there : ∀ b o, h.get? b = some o -> b ∉ ex -> ∃ o', h'.get? b = some o'
 tups : ∀ b xs, H b = some (.tup xs) -> H' b = some (.tup xs)
 frzs : ∀ b o u, H b = some (.frz o u) -> H' b = some (.frz o u)
 tbls : ∀ b ps, H b = some (.tbl ps) -> ∃ more, H' b = some (.tbl (ps ++ more))
section
variable {fs fs' ex ex' : List Addr} {H H1 H2 : Hp} {h h1 h2 h' : Heap} {a x e : Addr} {o : HO}
theorem Un.any (u : Un fs ex H H1 h h1) {b : Addr} {ob : Obj} (q : h.get? b = some ob) (n : H b = none) (hx : b ∉ ex) : ∃ sl, h1.get? b = some { ob with slots := sl } := by
 by_cases hb : b ∈ fs
 ·exact u.slot b ob q n hb hx
 ·exact ⟨ob.slots, u.keep b ob q n hb hx⟩
theorem Un.kept (k : ∀ b u, h.get? b = some u -> h'.get? b = some u) : Un fs ex H H h h' :=
 ⟨fun b ob q _ _ _ => k b ob q, fun b ob q _ _ _ => ⟨ob.slots, k b ob q⟩, fun _ _ _ n _ => n, fun b ob q _ => ⟨ob, k b ob q⟩, fun _ _ q => q, fun _ _ _ q => q, fun _ ps q => ⟨#[], by rw [q]; simp⟩⟩
theorem Un.refl : Un fs ex H H h h := Un.kept fun _ _ q => q
theorem Un.laid (k : ∀ b u, h.get? b = some u -> h'.get? b = some u) (hp : h.objs.size <= a) (hn : H a = none) : Un fs ex H (upd H a o) h h' where
 keep := fun b u q _ _ _ => k b u q
 slot := fun b u q _ _ _ => ⟨u.slots, k b u q⟩
 free := fun b u q n _ => by rw [upd_ne (Nat.ne_of_lt (Nat.lt_of_lt_of_le (Heap.lt_size q) hp))]; exact n
 there := fun b u q _ => ⟨u, k b u q⟩
 tups := fun b xs q => by rw [upd_ne (ne_of_none q hn)]; exact q
 frzs := fun b u xs q => by rw [upd_ne (ne_of_none q hn)]; exact q
 tbls := fun b ps q => ⟨#[], by rw [upd_ne (ne_of_none q hn), q]; simp⟩
theorem Un.write (mu : Mut (H x)) (he : e = x ∨ H e = some (.own x)) (k : ∀ b u, b ≠ e -> h.get? b = some u -> h'.get? b = some u) (heo : ∃ u, h'.get? e = some u) : Un fs ex H (upd H x o) h h' := by
 have hx : ∀ b, H b = none -> b ≠ x := fun b n z => by subst z; rw [n] at mu; exact mu
 have hb : ∀ b, H b = none -> b ≠ e := fun b n z => by
  subst z
  rcases he with r | r
  ·exact hx b n r
  ·rw [n] at r; cases r
 have hm : ∀ b u, H b = some u -> ¬ Mut (some u) -> b ≠ x := fun b u q nm z => by subst z; rw [q] at mu; exact nm mu
 refine ⟨fun b u q n _ _ => k b u (hb b n) q, fun b u q n _ _ => ⟨u.slots, k b u (hb b n) q⟩, fun b u q n _ => by rw [upd_ne (hx b n)]; exact n, fun b u q _ => ?_,
  fun b xs q => by rw [upd_ne (hm b _ q fun z => z)]; exact q, fun b u xs q => by rw [upd_ne (hm b _ q fun z => z)]; exact q, fun b ps q => ⟨#[], by rw [upd_ne (hm b _ q fun z => z), q]; simp⟩⟩
 by_cases hbe : b = e
 ·subst hbe; exact heo
 ·exact ⟨u, k b u hbe q⟩
end
noncomputable def trk (h : Heap) (H : Hp) : List Addr := (List.range h.objs.size).filter fun a => (H a).isSome
noncomputable def hidT (h : Heap) (H : Hp) : Heap := PySem.W.hideAll h (trk h H)
theorem hidT_size (h : Heap) (H : Hp) : (hidT h H).objs.size = h.objs.size := PySem.W.hideAll_size _ _
theorem hidT_get {h : Heap} {H : Hp} {b : Addr} {o : Obj} (e : h.get? b = some o) (n : H b = none) : (hidT h H).get? b = some o :=
 PySem.W.hideAll_get _ e fun hm => by
  have q : (H b).isSome = true := (List.mem_filter.mp hm).2
  rw [n] at q; simp at q
theorem of_hidT {h : Heap} {H : Hp} {b : Addr} {o : Obj} (e : (hidT h H).get? b = some o) : h.get? b = some o /\ H b = none := by
 have e' : h.get? b = some o := PySem.W.of_hideAll (trk h H) e
 refine ⟨e', ?_⟩
 cases q : H b with
 | none => rfl
 | some x =>
  have hm : b ∈ trk h H := List.mem_filter.mpr ⟨List.mem_range.mpr (Heap.lt_size e'), by simp [q]⟩
  have z : (hidT h H).get? b = none := PySem.W.hideAll_none (trk h H) hm
  rw [z] at e; cases e
end L2
namespace L2
open PySem PySem.Spec PyProof.Rows
structure Mod (K : PySem.W.Frag) (mg : Str -> Option Value) (base : Heap) : Prop where
 kin : K.In base
 glob : base.Ns mainGlobals mg
 blt : ∃ mb, base.Ns builtinsNs mb /\ ∀ x : Str, x ≠ "__name__" -> mb x = bootBuiltins x
 nolimit : base.NoLimit
structure Cx where
 prog : Program
 w : World
 K : PySem.W.Frag
 mg : Str -> Option Value
 base : Heap
 A : Around
 N : List Str
 s₀ : Shared
 H₀ : Hp
 env : Env
 outer : List Env
 stack : List Env
 ex : List Addr
 fn : Str -> Bool
 calm : Bool
 pn : List (Addr × Obj)
 xe : Value -> Shared -> Prop
noncomputable def frs (l : List Env) : List Addr := l.filterMap (·.frame)
noncomputable abbrev Cx.fs (X : Cx) : List Addr := frs X.outer
noncomputable def Vis (sc : Scope) (x : Str) : Prop := sc.names.lookup x = some .local ∨ sc.names.lookup x = some .cell ∨ sc.names.lookup x = some .free
noncomputable def Loc (sc : Scope) (x : Str) : Prop := sc.names.lookup x = some .local ∨ sc.names.lookup x = some .cell
noncomputable def Look (env : Env) (h : Heap) (m : Str -> Option Value) (x : Str) (u : Value) : Prop :=
 (env.kindOf x = some .local /\ m x = some u) ∨ ((env.kindOf x = some .cell ∨ env.kindOf x = some .free) /\ ∃ c, env.cells.lookup x = some c /\ h.IsCell c (some u))
structure Cx.Ok (X : Cx) : Prop where
 mod : Mod X.K X.mg X.base
 kind : X.env.scope.kind = .function
 glob : X.env.globals = mainGlobals
 blt : X.env.builtins = builtinsNs
 above : X.s₀.heap.objs.size <= X.env.locals
 inj : ∀ x y c, X.env.cells.lookup x = some c -> X.env.cells.lookup y = some c -> x = y
 has : ∀ x, (X.env.kindOf x = some .cell ∨ X.env.kindOf x = some .free) -> ∃ c, X.env.cells.lookup x = some c
 cab : ∀ x c, X.fn x = true -> X.env.cells.lookup x = some c -> X.s₀.heap.objs.size <= c
 hd : X.calm = true -> X.A.handled = none
 frames : X.A.frames = some X.stack
 stk : X.stack = X.outer ∨ (X.stack = X.env :: X.outer /\ X.env.frame = some X.env.locals)
 exf : ∀ b ∈ X.ex, b ≠ X.env.locals /\ ∀ x c, X.env.cells.lookup x = some c -> c ≠ b
 bs : ∀ b o, X.base.get? b = some o -> X.s₀.heap.get? b = some o /\ X.H₀ b = none
 bsz : X.base.objs.size <= X.s₀.heap.objs.size
 noex : ∀ b o, X.base.get? b = some o -> b ∉ X.ex
 exfs : ∀ b ∈ X.ex, b ∉ X.fs
 funs : X.s₀.heap.FunFrames X.base X.outer
 frf : ∀ b ∈ X.fs, X.H₀ b = none
structure Inv (X : Cx) (pins : List (Addr × Obj)) (σ : List (Option V)) (H : Hp) (s : Shared) : Prop where
 ok : X.Ok
 os : s.os = X.s₀.os
 bare : AllBare s.gens
 base : Un X.fs X.ex X.H₀ H X.s₀.heap s.heap
 loc : ∃ m, s.heap.Ns X.env.locals m /\ ∀ (i : Nat) (x : Str) (v : V), X.N[i]? = some x -> σ[i]? = some (some v) -> Vis X.env.scope x -> ∃ u, RelV v u /\ Look X.env s.heap m x u
 cell : ∀ x c, X.env.cells.lookup x = some c -> ∃ v, s.heap.IsCell c v
 free : H X.env.locals = none
 freeC : ∀ x c, X.env.cells.lookup x = some c -> H c = none
 pin : ∀ p ∈ X.pn ++ pins, s.heap.get? p.1 = some p.2 /\ H p.1 = none /\ p.1 ≠ X.env.locals /\ p.1 ∉ X.fs /\ ∀ v, p.2.data ≠ .cell v
 hok : HOk X.prog X.w H s.heap
 len : σ.length = X.N.length
section
variable {X : Cx} {pins : List (Addr × Obj)} {σ : List (Option V)} {H H' : Hp} {s : Shared} {h' : Heap}
theorem Cx.Ok.nofr (ok : X.Ok) {b : Addr} {o : Obj} (e : X.base.get? b = some o) : b ∉ X.fs := fun hb => by
 have := (ok.funs.mem hb).1
 rw [e] at this; cases this
theorem Inv.bs (I : Inv X pins σ H s) : ∀ b o, X.base.get? b = some o -> s.heap.get? b = some o /\ H b = none := fun b o e =>
 ⟨I.base.keep b o (I.ok.bs b o e).1 (I.ok.bs b o e).2 (I.ok.nofr e) (I.ok.noex b o e), I.base.free b o (I.ok.bs b o e).1 (I.ok.bs b o e).2 (I.ok.noex b o e)⟩
theorem Inv.bk (I : Inv X pins σ H s) : ∀ b o, X.base.get? b = some o -> s.heap.get? b = some o := fun b o e => (I.bs b o e).1
theorem Inv.mod (I : Inv X pins σ H s) : Mod X.K X.mg X.base := I.ok.mod
theorem Inv.kIn (I : Inv X pins σ H s) : X.K.In s.heap := I.ok.mod.kin.keeps I.bk
theorem Inv.lt (I : Inv X pins σ H s) : X.env.locals < s.heap.objs.size := by obtain ⟨_, hn, _⟩ := I.loc; exact hn.lt
theorem Inv.sz (I : Inv X pins σ H s) : X.s₀.heap.objs.size <= s.heap.objs.size := Nat.le_trans I.ok.above (Nat.le_of_lt I.lt)
theorem Inv.nofs (I : Inv X pins σ H s) {a : Addr} (h : s.heap.objs.size <= a) : a ∉ X.fs := fun hb => by
 obtain ⟨_, o, ho, _⟩ := I.ok.funs.mem hb
 exact absurd (Nat.lt_of_lt_of_le (Heap.lt_size ho) (Nat.le_trans I.sz h)) (Nat.lt_irrefl _)
theorem Inv.cne (I : Inv X pins σ H s) : ∀ x c, X.env.cells.lookup x = some c -> c ≠ X.env.locals := fun x c e z => by
 obtain ⟨v, o, ho, hd⟩ := I.cell x c e
 obtain ⟨m, ⟨o', es, ep, ho', hd', _⟩, _⟩ := I.loc
 rw [z, ho'] at ho; cases ho; rw [hd'] at hd; cases hd
theorem Inv.funs (I : Inv X pins σ H s) : s.heap.FunFrames X.base X.outer := by
 have all : ∀ (l : List Env), (∀ b ∈ frs l, b ∈ X.fs) -> X.s₀.heap.FunFrames X.base l -> s.heap.FunFrames X.base l := by
  intro l
  induction l with
  | nil => intro _ _; trivial
  | cons env r ih =>
   intro hs hl
   obtain ⟨hk, ⟨L, o, hf, hn, ho, hd⟩, hr⟩ := hl
   have hL : L ∈ X.fs := hs L (by unfold frs; rw [List.filterMap_cons, hf]; exact List.mem_cons_self)
   obtain ⟨sl, e⟩ := I.base.slot L o ho (I.ok.frf L hL) hL fun z => I.ok.exfs L z hL
   exact ⟨hk, ⟨L, _, hf, hn, e, hd⟩, ih (fun b hb => hs b (by unfold frs; rw [List.filterMap_cons, hf]; exact List.mem_cons_of_mem _ hb)) hr⟩
 exact all X.outer (fun _ hb => hb) I.ok.funs
theorem Inv.stack (I : Inv X pins σ H s) : s.heap.FunFrames X.base X.stack := by
 rcases I.ok.stk with e | ⟨e, hf⟩
 ·rw [e]; exact I.funs
 ·rw [e]
  obtain ⟨m, hn, _⟩ := I.loc
  refine .cons (by rw [I.ok.kind]; decide) hf hn ?_ I.funs
  exact Heap.get?_none_of_le (Nat.le_trans I.ok.bsz I.ok.above)
theorem Inv.stkSub (I : Inv X pins σ H s) : ∀ b ∈ frs X.stack, b ∈ X.env.locals :: X.fs := fun b hb => by
 rcases I.ok.stk with e | ⟨e, hf⟩
 ·rw [e] at hb; exact List.mem_cons_of_mem _ hb
 ·rw [e] at hb
  unfold frs at hb
  rw [List.filterMap_cons, hf] at hb
  exact hb
theorem Inv.stkFree (I : Inv X pins σ H s) : ∀ b ∈ frs X.stack, H b = none := fun b hb => by
 rcases List.mem_cons.mp (I.stkSub b hb) with e | hb
 ·rw [e]; exact I.free
 ·obtain ⟨_, o, ho, _⟩ := I.ok.funs.mem hb
  exact I.base.free b o ho (I.ok.frf b hb) fun z => I.ok.exfs b z hb
theorem Inv.step {g' : Array GenState} {t' : Nat} {d' : Drawn} {ch : List Addr} (I : Inv X pins σ H s)
  (hch : ∀ b ∈ ch, (b ∈ X.ex ∨ X.s₀.heap.objs.size <= b) /\ b ≠ X.env.locals /\ (∀ x c, X.env.cells.lookup x = some c -> c ≠ b) /\ ∀ p ∈ X.pn ++ pins, p.1 ≠ b)
  (keep : ∀ b o, b ≠ X.env.locals -> b ∉ X.fs -> b ∉ ch -> s.heap.get? b = some o -> H b = none -> h'.get? b = some o)
  (slot : ∀ b o, b ≠ X.env.locals -> b ∈ X.fs -> b ∉ ch -> s.heap.get? b = some o -> H b = none -> ∃ sl, h'.get? b = some { o with slots := sl }) (free : ∀ b o, b ∉ ch -> s.heap.get? b = some o -> H b = none -> H' b = none)
  (there : ∀ b o, b ∉ ch -> s.heap.get? b = some o -> ∃ o', h'.get? b = some o')
  (tups : ∀ b xs, H b = some (.tup xs) -> H' b = some (.tup xs)) (frzs : ∀ b o u, H b = some (.frz o u) -> H' b = some (.frz o u)) (tbls : ∀ b ps, H b = some (.tbl ps) -> ∃ more, H' b = some (.tbl (ps ++ more)))
  (ns : ∀ m, s.heap.Ns X.env.locals m -> h'.Ns X.env.locals m) (hok : HOk X.prog X.w H' h') (hg : AllBare g') :
  Inv X pins σ H' { s with heap := h', gens := g', drawn := d', toks := t' } := by
 have neL : ∀ b o, X.s₀.heap.get? b = some o -> b ≠ X.env.locals := fun b o e => Nat.ne_of_lt (Nat.lt_of_lt_of_le (Heap.lt_size e) I.ok.above)
 have neC : ∀ b o, X.s₀.heap.get? b = some o -> b ∉ X.ex -> b ∉ ch := fun b o e hx hb => by
  rcases (hch b hb).1 with z | z
  ·exact hx z
  ·exact absurd (Nat.lt_of_lt_of_le (Heap.lt_size e) z) (Nat.lt_irrefl _)
 have cellK : ∀ x c, X.env.cells.lookup x = some c -> ∀ v, s.heap.IsCell c v -> h'.IsCell c v := fun x c e v ⟨o, ho, hd⟩ => by
  have nch : c ∉ ch := fun z => (hch c z).2.2.1 x c e rfl
  by_cases hc : c ∈ X.fs
  ·obtain ⟨sl, q⟩ := slot c o (I.cne x c e) hc nch ho (I.freeC x c e)
   exact ⟨_, q, hd⟩
  ·exact ⟨o, keep c o (I.cne x c e) hc nch ho (I.freeC x c e), hd⟩
 refine ⟨I.ok, I.os, hg, ⟨fun b o e n hb hx => ?_, fun b o e n hb hx => ?_, fun b o e n hx => ?_, fun b o e hx => ?_, fun b xs e => tups b xs (I.base.tups b xs e), fun b o xs e => frzs b o xs (I.base.frzs b o xs e), fun b ps e => ?_⟩, ?_, fun x c e => ?_, ?_, fun x c e => ?_, fun p hp => ?_, hok, I.len⟩
 ·exact keep b o (neL b o e) hb (neC b o e hx) (I.base.keep b o e n hb hx) (I.base.free b o e n hx)
 ·obtain ⟨sl, e1⟩ := I.base.slot b o e n hb hx
  obtain ⟨sl', e2⟩ := slot b _ (neL b o e) hb (neC b o e hx) e1 (I.base.free b o e n hx)
  exact ⟨sl', e2⟩
 ·obtain ⟨o', e1⟩ := I.base.there b o e hx
  exact free b o' (neC b o e hx) e1 (I.base.free b o e n hx)
 ·obtain ⟨o', e1⟩ := I.base.there b o e hx
  exact there b o' (neC b o e hx) e1
 ·obtain ⟨m1, e1⟩ := I.base.tbls b ps e
  obtain ⟨m2, e2⟩ := tbls b _ e1
  exact ⟨m1 ++ m2, by rw [e2, Array.append_assoc]⟩
 ·obtain ⟨m, hn, hl⟩ := I.loc
  refine ⟨m, ns m hn, fun i x v e1 e2 e3 => ?_⟩
  obtain ⟨u, r, l⟩ := hl i x v e1 e2 e3
  refine ⟨u, r, ?_⟩
  rcases l with l | ⟨k, c, e, z⟩
  ·exact .inl l
  ·exact .inr ⟨k, c, e, cellK x c e _ z⟩
 ·obtain ⟨v, z⟩ := I.cell x c e
  exact ⟨v, cellK x c e v z⟩
 ·obtain ⟨m, ⟨o, _, _, ho, _⟩, _⟩ := I.loc
  exact free _ o (fun z => (hch _ z).2.1 rfl) ho I.free
 ·obtain ⟨v, o, ho, hd⟩ := I.cell x c e
  exact free c o (fun z => (hch c z).2.2.1 x c e rfl) ho (I.freeC x c e)
 ·obtain ⟨e, n, ne, nf, d⟩ := I.pin p hp
  have nch : p.1 ∉ ch := fun z => (hch p.1 z).2.2.2 p hp rfl
  exact ⟨keep p.1 p.2 ne nf nch e n, free p.1 p.2 nch e n, ne, nf, d⟩
theorem Inv.un {t' : Nat} (I : Inv X pins σ H s) (u : Un X.fs [] H H' s.heap h') (hok : HOk X.prog X.w H' h') : Inv X pins σ H' { s with heap := h', toks := t' } := by
 obtain ⟨m, ⟨o, es, ep, ho, r⟩, _⟩ := id I.loc
 obtain ⟨sl, hL⟩ := u.any ho I.free (by simp)
 exact I.step (g' := s.gens) (d' := s.drawn) (ch := []) (fun _ z => nomatch z) (fun b o _ hb _ e n => u.keep b o e n hb (by simp)) (fun b o _ hb _ e n => u.slot b o e n hb (by simp)) (fun b o _ e n => u.free b o e n (by simp)) (fun b o _ e => u.there b o e (by simp)) u.tups u.frzs u.tbls (fun m' hm => by
  obtain ⟨o', es', ep', ho', r'⟩ := hm
  rw [ho] at ho'; cases ho'
  exact ⟨_, es', ep', hL, r'⟩) hok I.bare
theorem Inv.call {g' : Array GenState} {t' : Nat} {d' : Drawn} {ch : List Addr} (I : Inv X pins σ H s) (u : Un (frs X.stack) ch H H' s.heap h') (hok : HOk X.prog X.w H' h') (hg : AllBare g')
  (hch : ∀ b ∈ ch, (b ∈ X.ex ∨ X.s₀.heap.objs.size <= b) /\ b ≠ X.env.locals /\ (∀ x c, X.env.cells.lookup x = some c -> c ≠ b) /\ ∀ p ∈ X.pn ++ pins, p.1 ≠ b) :
  Inv X pins σ H' { s with heap := h', gens := g', drawn := d', toks := t' } := by
 obtain ⟨m, ⟨o, es, ep, ho, r⟩, _⟩ := id I.loc
 obtain ⟨sl, hL⟩ := u.any ho I.free fun z => (hch _ z).2.1 rfl
 exact I.step (ch := ch) hch (fun b o hL hb hc e n => u.keep b o e n (fun z => (List.mem_cons.mp (I.stkSub b z)).elim hL hb) hc) (fun b o _ _ hc e n => u.any e n hc) (fun b o hc e n => u.free b o e n hc) (fun b o hc e => u.there b o e hc) u.tups u.frzs u.tbls (fun m' hm => by
  obtain ⟨o', es', ep', ho', r'⟩ := hm
  rw [ho] at ho'; cases ho'
  exact ⟨_, es', ep', hL, r'⟩) hok hg
theorem Inv.turned {t' : Nat} {it : Addr} (I : Inv X pins σ H s) (k : ∀ b o, b ≠ it -> s.heap.get? b = some o -> h'.get? b = some o) (hn : H it = none) (hL : it ≠ X.env.locals)
  (h1 : it ∈ X.ex ∨ X.s₀.heap.objs.size <= it) (h2 : ∀ x c, X.env.cells.lookup x = some c -> c ≠ it) (h3 : ∀ p ∈ X.pn ++ pins, p.1 ≠ it) : Inv X pins σ H { s with heap := h', toks := t' } := by
 have nit : ∀ b u, H b = some u -> b ≠ it := fun b u e z => by rw [z, hn] at e; cases e
 refine I.step (g' := s.gens) (d' := s.drawn) (ch := [it]) (fun b hb => ?_) (fun b o _ _ hc e _ => k b o (fun z => hc (by simp [z])) e) (fun b o _ _ hc e _ => ⟨o.slots, k b o (fun z => hc (by simp [z])) e⟩) (fun _ _ _ _ n => n)
  (fun b o hc e => ⟨o, k b o (fun z => hc (by simp [z])) e⟩) (fun _ _ e => e) (fun _ _ _ e => e) (fun b ps e => ⟨#[], by rw [e]; simp⟩) (fun m hm => ?_) (fun b u e => ?_) I.bare
 ·have e : b = it := by simpa using hb
  subst e
  exact ⟨h1, hL, h2, h3⟩
 ·obtain ⟨o, es, ep, ho, r⟩ := hm
  exact ⟨o, es, ep, k _ o (Ne.symm hL) ho, r⟩
 ·refine (I.hok b u e).stay (fun c v hc q => k c v ?_ q) (fun _ q => q) fun _ _ q => q
  rcases hc with z | z
  ·rw [z]; exact nit b u e
  ·exact nit c _ z
theorem Inv.tok (I : Inv X pins σ H s) (t : Nat) : Inv X pins σ H { s with toks := t } := I.un (h' := s.heap) (t' := t) Un.refl I.hok
theorem Inv.kept {t' : Nat} (I : Inv X pins σ H s) (k : ∀ b u, s.heap.get? b = some u -> h'.get? b = some u) : Inv X pins σ H { s with heap := h', toks := t' } := I.un (Un.kept k) (I.hok.kept k)
theorem Inv.laid {a : Addr} {o : HO} {t' : Nat} (I : Inv X pins σ H s) (k : ∀ b u, s.heap.get? b = some u -> h'.get? b = some u) (hp : s.heap.objs.size <= a) (new : ObjOk X.prog X.w (upd H a o) h' a o) :
  Inv X pins σ (upd H a o) { s with heap := h', toks := t' } := I.un (Un.laid k hp (I.hok.fresh hp)) (I.hok.laid k hp new)
theorem Inv.write {x e : Addr} {o : HO} {t' : Nat} (I : Inv X pins σ H s) (mu : Mut (H x)) (he : e = x ∨ H e = some (.own x)) (k : ∀ b u, b ≠ e -> s.heap.get? b = some u -> h'.get? b = some u) (heo : ∃ u, h'.get? e = some u)
  (new : ObjOk X.prog X.w (upd H x o) h' x o) : Inv X pins σ (upd H x o) { s with heap := h', toks := t' } := I.un (Un.write mu he k heo) (I.hok.write mu he k heo new)
theorem Inv.pins_of {pins' : List (Addr × Obj)} (I : Inv X pins σ H s) (h : ∀ p ∈ pins', s.heap.get? p.1 = some p.2 /\ H p.1 = none /\ p.1 ≠ X.env.locals /\ p.1 ∉ X.fs /\ ∀ v, p.2.data ≠ .cell v) : Inv X pins' σ H s :=
 ⟨I.ok, I.os, I.bare, I.base, I.loc, I.cell, I.free, I.freeC, fun p hp => (List.mem_append.mp hp).elim (fun z => I.pin p (List.mem_append_left _ z)) (h p), I.hok, I.len⟩
theorem nodup_ix {N : List Str} (hN : N.Nodup) {i j : Nat} {x : Str} (a : N[i]? = some x) (b : N[j]? = some x) : i = j := by
 obtain ⟨h1, e1⟩ := List.getElem?_eq_some_iff.mp a
 obtain ⟨h2, e2⟩ := List.getElem?_eq_some_iff.mp b
 exact (List.getElem_inj hN).mp (e1.trans e2.symm)
theorem store_ok2 {M : Model} {A : Around} {E : Value -> Shared -> Prop} {i : Nat} {x : Str} {v : V} {u : Value} {Q : Unit -> Shared -> Prop} (I : Inv X pins σ H s) (hN : X.N.Nodup) (hi : X.N[i]? = some x) (hx : Loc X.env.scope x) (r : RelV v u)
  (h : ∀ s', Inv X pins (σ.set i (some v)) H s' -> (∃ a, Heap.SameBut a s.heap s'.heap /\ (a = X.env.locals ∨ X.env.cells.lookup x = some a)) -> Q () s') (hf : X.fn x = true ∨ X.env.scope.names.lookup x = some .local := by first | exact .inl rfl | exact .inr rfl | assumption) : wpAny M A (storeName X.env x u) Q E s := by
 obtain ⟨m, hn, hl⟩ := id I.loc
 have hcls : (X.env.scope.kind == .class || (X.env.scope.kind == .module && X.env.locals != X.env.globals)) = false := by rw [I.ok.kind]; rfl
 have hiσ : i < σ.length := by rw [I.len]; exact (List.getElem?_eq_some_iff.mp hi).1
 have cne := I.cne
 have tracked : ∀ {a : Addr} {h' : Heap}, (∃ o, s.heap.get? a = some o /\ H a = none) -> Heap.SameBut a s.heap h' -> HOk X.prog X.w H h' := fun {a h'} ha hs b ob e => by
  obtain ⟨_, _, hfree⟩ := ha
  refine (I.hok b ob e).stay (fun c w' hc q => (hs.2 c ?_).trans q) (fun _ q => q) fun _ _ q => q
  rintro rfl
  rcases hc with rfl | hc
  ·rw [hfree] at e; cases e
  ·rw [hfree] at hc; cases hc
 rcases hx with hk | hk
 ·refine wpAny_storeName_local hk hn (fun h' hn' hs => ?_) hcls
  obtain ⟨oL, _, _, hoL, _⟩ := id hn
  refine h _ ⟨I.ok, I.os, I.bare, ⟨fun b o e n hb hx => ?_, fun b o e n hb hx => ?_, I.base.free, fun b o e hx => ?_, I.base.tups, I.base.frzs, I.base.tbls⟩, ⟨_, hn', fun j y v' e1 e2 e3 => ?_⟩, fun y c e => ?_, I.free, I.freeC, fun p hp => ?_, tracked ⟨oL, hoL, I.free⟩ hs, by simpa using I.len⟩ ⟨_, hs, .inl rfl⟩
  ·exact (hs.2 b (Nat.ne_of_lt (Nat.lt_of_lt_of_le (Heap.lt_size e) I.ok.above))).trans (I.base.keep b o e n hb hx)
  ·obtain ⟨sl, e1⟩ := I.base.slot b o e n hb hx
   exact ⟨sl, (hs.2 b (Nat.ne_of_lt (Nat.lt_of_lt_of_le (Heap.lt_size e) I.ok.above))).trans e1⟩
  ·obtain ⟨o', e1⟩ := I.base.there b o e hx
   exact ⟨o', (hs.2 b (Nat.ne_of_lt (Nat.lt_of_lt_of_le (Heap.lt_size e) I.ok.above))).trans e1⟩
  ·by_cases hj : j = i
   ·subst hj
    rw [hi] at e1; cases e1
    rw [List.getElem?_set_self hiσ] at e2
    cases e2
    exact ⟨u, r, .inl ⟨hk, by simp⟩⟩
   ·rw [List.getElem?_set_ne (Ne.symm hj)] at e2
    obtain ⟨u', r', q⟩ := hl j y v' e1 e2 e3
    refine ⟨u', r', ?_⟩
    rcases q with ⟨k, e⟩ | ⟨k, c, e, z⟩
    ·refine .inl ⟨k, ?_⟩
     have : y ≠ x := fun e => hj (nodup_ix hN e1 (e ▸ hi))
     simp [this, e]
    ·exact .inr ⟨k, c, e, z.sameBut hs (cne y c e)⟩
  ·obtain ⟨w', z⟩ := I.cell y c e
   exact ⟨w', z.sameBut hs (cne y c e)⟩
  ·obtain ⟨e, n, ne, nf, d⟩ := I.pin p hp
   exact ⟨(hs.2 p.1 ne).trans e, n, ne, nf, d⟩
 ·have hfn : X.fn x = true := by
   rcases hf with z | z
   ·exact z
   ·rw [z] at hk; cases hk
  obtain ⟨c, hc⟩ := I.ok.has x (.inl hk)
  obtain ⟨w', z⟩ := I.cell x c hc
  refine wpAny_storeName_cell I.ok.kind hk hc z (fun h' hc' hs => ?_)
  obtain ⟨oc, hoc, hocd⟩ := id z
  refine h { s with heap := h' } ⟨I.ok, I.os, I.bare, ⟨fun b o e n hb hx => ?_, fun b o e n hb hx => ?_, I.base.free, fun b o e hx => ?_, I.base.tups, I.base.frzs, I.base.tbls⟩, ⟨m, hn.sameBut hs (Ne.symm (cne x c hc)), fun j y v' e1 e2 e3 => ?_⟩, fun y c' e => ?_, I.free, I.freeC, fun p hp => ?_, tracked ⟨oc, hoc, I.freeC x c hc⟩ hs, by simpa using I.len⟩ ⟨c, hs, .inr hc⟩
  ·exact (hs.2 b (Nat.ne_of_lt (Nat.lt_of_lt_of_le (Heap.lt_size e) (I.ok.cab x c hfn hc)))).trans (I.base.keep b o e n hb hx)
  ·obtain ⟨sl, e1⟩ := I.base.slot b o e n hb hx
   exact ⟨sl, (hs.2 b (Nat.ne_of_lt (Nat.lt_of_lt_of_le (Heap.lt_size e) (I.ok.cab x c hfn hc)))).trans e1⟩
  ·obtain ⟨o', e1⟩ := I.base.there b o e hx
   exact ⟨o', (hs.2 b (Nat.ne_of_lt (Nat.lt_of_lt_of_le (Heap.lt_size e) (I.ok.cab x c hfn hc)))).trans e1⟩
  ·by_cases hj : j = i
   ·subst hj
    rw [hi] at e1; cases e1
    rw [List.getElem?_set_self hiσ] at e2
    cases e2
    exact ⟨u, r, .inr ⟨.inl hk, c, hc, hc'⟩⟩
   ·rw [List.getElem?_set_ne (Ne.symm hj)] at e2
    obtain ⟨u', r', q⟩ := hl j y v' e1 e2 e3
    refine ⟨u', r', ?_⟩
    rcases q with q | ⟨k, c', e, z'⟩
    ·exact .inl q
    ·refine .inr ⟨k, c', e, z'.sameBut hs ?_⟩
     rintro rfl
     exact hj (nodup_ix hN e1 (I.ok.inj _ _ _ e hc ▸ hi))
  ·by_cases hcc : c' = c
   ·subst hcc; exact ⟨_, hc'⟩
   ·obtain ⟨w2, z2⟩ := I.cell y c' e
    exact ⟨w2, z2.sameBut hs hcc⟩
  ·obtain ⟨e, n, ne, nf, d⟩ := I.pin p hp
   refine ⟨(hs.2 p.1 ?_).trans e, n, ne, nf, d⟩
   intro q
   rw [q, hoc] at e
   have q' : oc = p.2 := Option.some.inj e
   exact d w' (by rw [<- q']; exact hocd)
theorem store_ok {M : Model} {A : Around} {E : Value -> Shared -> Prop} {i : Nat} {x : Str} {v : V} {u : Value} {Q : Unit -> Shared -> Prop} (I : Inv X pins σ H s) (hN : X.N.Nodup) (hi : X.N[i]? = some x) (hx : Loc X.env.scope x) (r : RelV v u)
  (h : ∀ s', Inv X pins (σ.set i (some v)) H s' -> Q () s') (hf : X.fn x = true ∨ X.env.scope.names.lookup x = some .local := by first | exact .inl rfl | exact .inr rfl | assumption) : wpAny M A (storeName X.env x u) Q E s :=
 store_ok2 I hN hi hx r (fun s' I' _ => h s' I') hf
theorem Inv.call' {s' : Shared} {ch : List Addr} (I : Inv X pins σ H s) (ho : s'.os = s.os) (u : Un (frs X.stack) ch H H' s.heap s'.heap) (hok : HOk X.prog X.w H' s'.heap) (hg : AllBare s'.gens)
  (hch : ∀ b ∈ ch, (b ∈ X.ex ∨ X.s₀.heap.objs.size <= b) /\ b ≠ X.env.locals /\ (∀ x c, X.env.cells.lookup x = some c -> c ≠ b) /\ ∀ p ∈ X.pn ++ pins, p.1 ≠ b) : Inv X pins σ H' s' := by
 obtain ⟨h', g', d', t', o'⟩ := s'
 have e : o' = s.os := ho
 subst e
 exact I.call (g' := g') (t' := t') (d' := d') u hok hg hch
end
noncomputable abbrev XK := Value -> Option Addr -> Hp -> Prop
noncomputable abbrev St := List (Option V)
noncomputable abbrev VK := V -> Hp -> Prop
noncomputable abbrev TE := St -> Hp -> VK -> Prop
noncomputable abbrev TT := St -> Hp -> (Bool -> Hp -> Prop) -> Prop
noncomputable abbrev TA := St -> Hp -> (List V -> Hp -> Prop) -> Prop
structure Ends where
 nx : St -> Hp -> Prop
 rt : VK
 bk : St -> Hp -> Prop := fun _ _ => False
 ct : St -> Hp -> Prop := fun _ _ => False
noncomputable abbrev TS := Ends -> St -> Hp -> Prop
noncomputable def EP (X : Cx) (pins : List (Addr × Obj)) (σ : St) (Q : VK) (u : Value) (s' : Shared) : Prop := ∃ v H', Inv X pins σ H' s' /\ RelV v u /\ Q v H'
noncomputable def TP (X : Cx) (pins : List (Addr × Obj)) (σ : St) (Q : Bool -> Hp -> Prop) (b : Bool) (s' : Shared) : Prop := ∃ H', Inv X pins σ H' s' /\ Q b H'
noncomputable def AP (X : Cx) (pins : List (Addr × Obj)) (σ : St) (Q : List V -> Hp -> Prop) (us : List Value) (s' : Shared) : Prop := ∃ vs H', Inv X pins σ H' s' /\ Vals vs us /\ Q vs H'
noncomputable def SP (X : Cx) (pins : List (Addr × Obj)) (D : Ends) (f : Flow) (s' : Shared) : Prop :=
 match f with
 | .next => ∃ σ' H', Inv X pins σ' H' s' /\ D.nx σ' H'
 | .brk => ∃ σ' H', Inv X pins σ' H' s' /\ D.bk σ' H'
 | .cont => ∃ σ' H', Inv X pins σ' H' s' /\ D.ct σ' H'
 | .ret u => ∃ v σ' H', Inv X pins σ' H' s' /\ RelV v u /\ D.rt v H'
noncomputable def PE (X : Cx) (e : Expr) (t : TE) : Prop :=
 ∀ (pins : List (Addr × Obj)) (s : Shared) (σ : St) (H : Hp) (Q : VK), Inv X pins σ H s -> t σ H Q -> wpAny (model X.prog X.w) X.A (eval e X.env) (EP X pins σ Q) X.xe s
noncomputable def PT (X : Cx) (e : Expr) (t : TT) : Prop :=
 ∀ (pins : List (Addr × Obj)) (s : Shared) (σ : St) (H : Hp) (Q : Bool -> Hp -> Prop), Inv X pins σ H s -> t σ H Q -> wpAny (model X.prog X.w) X.A (isTrue e X.env (eval e X.env)) (TP X pins σ Q) X.xe s
noncomputable def PW (X : Cx) (e : Expr) (t : TT) : Prop :=
 ∀ (whole : Sem Value) (pins : List (Addr × Obj)) (s : Shared) (σ : St) (H : Hp) (Q : Bool -> Hp -> Prop), Inv X pins σ H s -> t σ H Q -> wpAny (model X.prog X.w) X.A (isTrue e X.env whole) (TP X pins σ Q) X.xe s
theorem PW.pt {X : Cx} {e : Expr} {t : TT} (h : PW X e t) : PT X e t := h _
noncomputable def PA (X : Cx) (es : List Expr) (t : TA) : Prop :=
 ∀ (pos : Pos) (pins : List (Addr × Obj)) (s : Shared) (σ : St) (H : Hp) (Q : List V -> Hp -> Prop), Inv X pins σ H s -> t σ H Q -> wpAny (model X.prog X.w) X.A (spliced (backTo pos (starEach es X.env))) (AP X pins σ Q) X.xe s
noncomputable def PS (X : Cx) (st : Stmt) (t : TS) : Prop :=
 ∀ (pins : List (Addr × Obj)) (s : Shared) (σ : St) (H : Hp) (D : Ends), Inv X pins σ H s -> t D σ H -> wpAny (model X.prog X.w) X.A (exec st X.env) (SP X pins D) X.xe s
noncomputable def PSs (X : Cx) (st : List Stmt) (t : TS) : Prop :=
 ∀ (pins : List (Addr × Obj)) (s : Shared) (σ : St) (H : Hp) (D : Ends), Inv X pins σ H s -> t D σ H -> wpAny (model X.prog X.w) X.A (execs st X.env) (SP X pins D) X.xe s
theorem thn {α : Type} {t : Sem α} {Q Q' : α -> Shared -> Prop} {M : Model} {A : Around} {E : Value -> Shared -> Prop} {s : Shared} (h : wpAny M A t Q E s) (hQ : ∀ a s, Q a s -> Q' a s) : wpAny M A t Q' E s := wpAny_mono h hQ fun _ _ x => x
end L2
namespace L2
open PySem PySem.Spec PyProof.Rows
section
variable {X : Cx}
noncomputable def tVar (i : Nat) : TE := fun σ H Q => ∃ v, σ[i]? = some (some v) /\ Q v H
noncomputable def tC (v : V) : TE := fun _ H Q => Q v H
theorem pe_var {i : Nat} {x : Str} {pos : Pos} (hN : X.N[i]? = some x) (hv : Vis X.env.scope x) (hd : (x == ("__debug__" : Str)) = false := by decide) (hcd : (x == ("__classdict__" : Str)) = false := by decide) : PE X (.Name x pos) (tVar i) := by
 intro pins s σ H Q I h
 obtain ⟨v, e, h⟩ := h
 obtain ⟨m, hn, hl⟩ := I.loc
 obtain ⟨u, r, l⟩ := hl i x v hN e hv
 have fin : EP X pins σ Q u s := ⟨v, H, I, r, h⟩
 rcases l with ⟨hk, hm⟩ | ⟨hk, c, hc, hcell⟩
 ·exact wpAny_Name (wpAny_loadName_local I.ok.kind hk hn hm fin) hd
 ·rcases hk with hk | hk
  ·exact wpAny_Name (wpAny_loadName_cell I.ok.kind hk hc hcell fin) hd
  ·exact wpAny_Name (wpAny_loadName_free I.ok.kind hk hc hcell fin hcd) hd
theorem pe_int {i j pos} : PE X (.Constant (.int i) j pos) (tC (.int i)) := fun _ _ _ H _ I h => wpAny_Constant_int ⟨.int i, H, I.tok _, ⟨_, rfl⟩, h⟩
theorem pe_bl {b j pos} : PE X (.Constant (.bool b) j pos) (tC (.bl b)) := fun _ _ _ H _ I h => Constant_bool ⟨.bl b, H, I, rfl, h⟩
theorem pe_non {j pos} : PE X (.Constant .none j pos) (tC .non) := fun _ _ _ H _ I h => Constant_none ⟨.non, H, I, rfl, h⟩
theorem pe_str {x j pos} : PE X (.Constant (.str x) j pos) (tC (.str x)) := fun _ _ _ H _ I h => Calls.Constant_str ⟨.str x, H, I.tok _, ⟨_, rfl⟩, h⟩
noncomputable def Gl (X : Cx) (x : Str) : Prop := X.env.kindOf x = some .globalImplicit
theorem ld_glob {E : Value -> Shared -> Prop} {pins : List (Addr × Obj)} {s : Shared} {σ : St} {H : Hp} {x : Str} {u : Value} {pos : Pos} {Q : Value -> Shared -> Prop} (I : Inv X pins σ H s) (hg : Gl X x) (hm : X.mg x = some u) (h : Q u s)
  (hd : (x == ("__debug__" : Str)) = false := by decide) : wpAny (model X.prog X.w) X.A (eval (.Name x pos) X.env) Q E s :=
 Calls.Name_function_global I.ok.kind hg (Calls.loadGlobal_global (by rw [I.ok.glob]; exact I.mod.glob.keeps I.bk) hm h) hd
theorem ld_blt {E : Value -> Shared -> Prop} {pins : List (Addr × Obj)} {s : Shared} {σ : St} {H : Hp} {x : Str} {u : Value} {pos : Pos} {Q : Value -> Shared -> Prop} (I : Inv X pins σ H s) (hg : Gl X x) (hm : X.mg x = none) (hv : bootBuiltins x = some u) (h : Q u s)
  (hn : x ≠ "__name__" := by decide) (hd : (x == ("__debug__" : Str)) = false := by decide) : wpAny (model X.prog X.w) X.A (eval (.Name x pos) X.env) Q E s := by
 obtain ⟨mb, h1, h2⟩ := I.mod.blt
 exact Calls.Name_function_global I.ok.kind hg (Calls.loadGlobal_builtin (by rw [I.ok.glob]; exact I.mod.glob.keeps I.bk) hm (by rw [I.ok.blt]; exact h1.keeps I.bk) ((h2 x hn).trans hv) h) hd
theorem pe_glob {x : Str} {v : V} {u : Value} {pos : Pos} (hg : Gl X x) (hm : X.mg x = some u) (r : RelV v u) (hd : (x == ("__debug__" : Str)) = false := by decide) : PE X (.Name x pos) (tC v) :=
 fun _ _ _ H _ I h => ld_glob I hg hm ⟨v, H, I, r, h⟩ hd
theorem pe_bltn {x : Str} {v : V} {u : Value} {pos : Pos} (hg : Gl X x) (hm : X.mg x = none) (hv : bootBuiltins x = some u) (r : RelV v u) (hn : x ≠ "__name__" := by decide) (hd : (x == ("__debug__" : Str)) = false := by decide) : PE X (.Name x pos) (tC v) :=
 fun _ _ _ H _ I h => ld_blt I hg hm hv ⟨v, H, I, r, h⟩ hn hd
variable {a b : Expr} {ta tb : TE} {pos : Pos}
noncomputable def PC (X : Cx) (op : CmpOp) (a b : Expr) (t : TE) : Prop :=
 ∀ (pins : List (Addr × Obj)) (s : Shared) (σ : St) (H : Hp) (Q : VK), Inv X pins σ H s -> t σ H Q ->
  wpAny (model X.prog X.w) X.A (eval a X.env) (fun v s₁ => wpAny (model X.prog X.w) X.A (eval b X.env) (fun u s₂ => wpAny (model X.prog X.w) X.A (compareOp op v u) (EP X pins σ Q) X.xe s₂) X.xe s₁) X.xe s
theorem nobehind (b : Expr) {op : CmpOp} (h : op ≠ .In) (h2 : op ≠ .NotIn) : behindInMarks op b = false := by
 have e1 : (op == CmpOp.In) = false := by cases op <;> first | rfl | exact absurd rfl h
 have e2 : (op == CmpOp.NotIn) = false := by cases op <;> first | rfl | exact absurd rfl h2
 cases b <;> simp [behindInMarks, e1, e2]
noncomputable def tNotN (ta : TE) : TE := fun σ H Q => ta σ H fun x H1 => Q (.bl (!decide (x = .non))) H1
theorem RelV.none_iff {x : V} {v : Value} (r : RelV x v) : (v == Value.none) = decide (x = .non) := by
 cases x with
 | non => cases r; rfl
 | bl _ => cases r; rfl
 | int _ => obtain ⟨t, rfl⟩ := r; rfl
 | str _ => obtain ⟨t, rfl⟩ := r; rfl
 | byt _ => obtain ⟨t, rfl⟩ := r; rfl
 | flt _ => obtain ⟨t, rfl⟩ := r; rfl
 | ref _ => cases r; rfl
 | ty _ => cases r; rfl
theorem pc_notN {j pos'} (ha : PE X a ta) : PC X .IsNot a (.Constant .none j pos') (tNotN ta) := by
 intro pins s σ H Q I h
 refine thn (ha pins s σ H _ I h) fun v s1 hsl1 => ?_
 obtain ⟨x, H1, I1, r1, q1⟩ := hsl1
 exact Constant_none (isnot_none_gen ⟨.bl _, H1, I1, by rw [r1.none_iff]; rfl, q1⟩)
noncomputable def tB (t : TE) : TT := fun σ H Q => t σ H fun x H1 => ∃ c, x = .bl c /\ Q c H1
theorem pe_cmp {op : CmpOp} {t : TE} (h : PC X op a b t) (h1 : behindInMarks op b = false := by first | exact nobehind _ (by decide) (by decide) | rfl) : PE X (.Compare a [op] [b] pos) t := fun pins s σ H Q I hw => wpAny_Compare1 (h pins s σ H Q I hw) h1
theorem pt_cmp {op : CmpOp} {t : TE} (h : PC X op a b t) (h1 : behindInMarks op b = false := by first | exact nobehind _ (by decide) (by decide) | rfl) : PT X (.Compare a [op] [b] pos) (tB t) := by
 intro pins s σ H Q I hw
 refine wpAny_isTrue_Compare1 (thn (h pins s σ H _ I hw) fun v s1 h1 => thn h1 fun u s2 h2 => thn h2 fun c s3 hsl2 => ?_) h1
 obtain ⟨x, H1, I1, r1, q1⟩ := hsl2
 obtain ⟨d, rfl, q⟩ := q1
 cases r1
 exact wpAny_truthy_bool ⟨H1, I1, q⟩
theorem pt_val {e : Expr} {t : TE} (h : PE X e t) (he : ∀ whole, isTrue e X.env whole = (do let v <- whole; standAt e.pos; holding [v] (truthy v)) := by intro _; rfl) : PT X e (tB t) := by
 intro pins s σ H Q I hw
 refine isTrue_plain (thn (h pins s σ H _ I hw) fun v s1 hsl3 => ?_) (he _)
 obtain ⟨x, H1, I1, r1, q1⟩ := hsl3
 obtain ⟨d, rfl, q⟩ := q1
 cases r1
 exact wpAny_truthy_bool ⟨H1, I1, q⟩
variable {tA tB' : TT} {rest : List Expr}
noncomputable def tAnd (t u : TT) : TT := fun σ H Q => t σ H fun c H1 => if c = true then u σ H1 Q else Q false H1
noncomputable def tOr (t u : TT) : TT := fun σ H Q => t σ H fun c H1 => if c = true then Q true H1 else u σ H1 Q
noncomputable def tNot (t : TT) : TT := fun σ H Q => t σ H fun c H1 => Q (!c) H1
theorem pw_and1 (ha : PT X a tA) : PW X (.BoolOp .And [a] pos) tA := by
 intro wh pins s σ H Q I h
 refine isTrue_and (thn (ha pins s σ H Q I h) fun c s1 e => ?_)
 cases c with
 | true => exact isTrue_and_nil e
 | false => exact e
theorem pw_or1 (ha : PT X a tA) : PW X (.BoolOp .Or [a] pos) tA := by
 intro wh pins s σ H Q I h
 refine isTrue_or (thn (ha pins s σ H Q I h) fun c s1 e => ?_)
 cases c with
 | false => exact isTrue_or_nil e
 | true => exact e
theorem pw_and (ha : PT X a tA) (hb : PW X (.BoolOp .And (b :: rest) pos) tB') : PW X (.BoolOp .And (a :: b :: rest) pos) (tAnd tA tB') := by
 intro wh pins s σ H Q I h
 refine isTrue_and (thn (ha pins s σ H _ I h) fun c s1 hsl4 => ?_)
 obtain ⟨H1, I1, q1⟩ := hsl4
 cases c with
 | true => exact hb wh pins s1 σ H1 Q I1 q1
 | false => exact ⟨H1, I1, q1⟩
theorem pw_or (ha : PT X a tA) (hb : PW X (.BoolOp .Or (b :: rest) pos) tB') : PW X (.BoolOp .Or (a :: b :: rest) pos) (tOr tA tB') := by
 intro wh pins s σ H Q I h
 refine isTrue_or (thn (ha pins s σ H _ I h) fun c s1 hsl5 => ?_)
 obtain ⟨H1, I1, q1⟩ := hsl5
 cases c with
 | true => exact ⟨H1, I1, q1⟩
 | false => exact hb wh pins s1 σ H1 Q I1 q1
theorem pt_not (ha : PT X a tA) : PT X (.UnaryOp .Not a pos) (tNot tA) := by
 intro pins s σ H Q I h
 exact isTrue_not (ha pins s σ H (fun c H1 => Q (!c) H1) I h)
noncomputable def tAndV (ta tb : TE) : TE := fun σ H Q => ta σ H fun x H1 => ∃ c, x = .bl c /\ if c = true then tb σ H1 Q else Q (.bl false) H1
theorem pe_one {op} {t : TE} (h : PE X a t) : PE X (.BoolOp op [a] pos) t := fun pins s σ H Q I hw => BoolOp_one (h pins s σ H Q I hw)
theorem pe_and (ha : PE X a ta) (hb : PE X (.BoolOp .And (b :: rest) pos) tb) : PE X (.BoolOp .And (a :: b :: rest) pos) (tAndV ta tb) := by
 intro pins s σ H Q I h
 refine BoolOp_and (thn (ha pins s σ H _ I h) fun v s1 hsl6 => ?_)
 obtain ⟨x, H1, I1, r1, q1⟩ := hsl6
 obtain ⟨c, rfl, q1⟩ := q1
 cases r1
 refine wpAny_truthy_bool ?_
 cases c with
 | true => exact hb pins s1 σ H1 Q I1 q1
 | false => exact ⟨.bl false, H1, I1, rfl, q1⟩
noncomputable def tIf (t : TT) (ta tb : TE) : TE := fun σ H Q => t σ H fun c H1 => if c = true then ta σ H1 Q else tb σ H1 Q
theorem pe_ifExp {c : Expr} (hc : PT X c tA) (ha : PE X a ta) (hb : PE X b tb) : PE X (.IfExp c a b pos) (tIf tA ta tb) := by
 intro pins s σ H Q I h
 refine wpAny_IfExp (thn (hc pins s σ H _ I h) fun d s1 hsl7 => ?_)
 obtain ⟨H1, I1, q1⟩ := hsl7
 cases d with
 | true => exact ha pins s1 σ H1 Q I1 q1
 | false => exact hb pins s1 σ H1 Q I1 q1
end
end L2
namespace L2
open PySem PySem.Spec PyProof.Rows
noncomputable def SqL (K : PySem.W.Frag) (H : Hp) (a : Addr) (xs : List V) : Prop :=
 Rd H a (.lst xs) ∨
  ∃ (o : Obj) (its : Array Value) (n : Nat), K.lookup a = some o /\ o.cls = .type "list" /\ o.dict = none /\ o.data = .seq its n /\ its.size <= sizeLine /\ Vals xs its.toList
noncomputable def SqT (K : PySem.W.Frag) (H : Hp) (a : Addr) (xs : List V) : Prop :=
 Rd H a (.tup xs) ∨
  ∃ (o : Obj) (its : Array Value) (n : Nat), K.lookup a = some o /\ o.cls = .type "tuple" /\ o.data = .seq its n /\ its.size <= sizeLine /\ Vals xs its.toList
noncomputable def absV : Value -> Option V
 | .none => some .non
 | .bool b => some (.bl b)
 | .int i _ => some (.int i)
 | .str x _ => some (.str x)
 | .bytes b _ => some (.byt b)
 | .float b _ => some (.flt b)
 | .ref a => some (.ref a)
 | .type n => some (.ty n)
 | _ => none
theorem RelV.abs {x : V} {u : Value} (r : RelV x u) : absV u = some x := by
 cases x with
 | non => cases r; rfl
 | bl _ => cases r; rfl
 | int _ => obtain ⟨t, rfl⟩ := r; rfl
 | str _ => obtain ⟨t, rfl⟩ := r; rfl
 | byt _ => obtain ⟨t, rfl⟩ := r; rfl
 | flt _ => obtain ⟨t, rfl⟩ := r; rfl
 | ref _ => cases r; rfl
 | ty _ => cases r; rfl
theorem RelV.inj {x y : V} {u : Value} (r : RelV x u) (q : RelV y u) : x = y := Option.some.inj (r.abs.symm.trans q.abs)
theorem Vals.inj : ∀ {xs ys : List V} {us : List Value}, Vals xs us -> Vals ys us -> xs = ys
 | _, _, _, .nil, .nil => rfl
 | _, _, _, .cons r t, .cons r' t' => by rw [r.inj r', Vals.inj t t']
section
variable {X : Cx} {pins : List (Addr × Obj)} {σ : St} {H : Hp} {s : Shared} {a : Addr} {xs ys : List V}
theorem SqL.of {K : PySem.W.Frag} (h : H a = some (.lst xs)) : SqL K H a xs := .inl (.inl h)
theorem SqT.of {K : PySem.W.Frag} (h : H a = some (.tup xs)) : SqT K H a xs := .inl (.inl h)
theorem Inv.list (I : Inv X pins σ H s) (h : SqL X.K H a xs) : ∃ its : List Value, Vals xs its /\ PlainL s.heap a its.toArray /\ xs.length <= sizeLine := by
 rcases h with h | ⟨o, its, n, hk, hc, hd, hs, hz, r⟩
 ·obtain ⟨z, its, n, r, e⟩ := h.ok I.hok
  exact ⟨its, r, ⟨_, n, e, rfl, rfl, rfl⟩, z⟩
 ·refine ⟨its.toList, r, ⟨o, n, I.kIn a o hk, hc, hd, by simpa using hs⟩, ?_⟩
  have e := r.length
  simp only [Array.length_toList] at e
  omega
theorem Inv.tuple (I : Inv X pins σ H s) (h : SqT X.K H a xs) : ∃ its : List Value, Vals xs its /\ IsTup s.heap a its.toArray /\ xs.length <= sizeLine := by
 rcases h with h | ⟨o, its, n, hk, hc, hs, hz, r⟩
 ·obtain ⟨z, its, r, p⟩ := h.ok I.hok
  exact ⟨its, r, p, z⟩
 ·refine ⟨its.toList, r, ⟨o, I.kIn a o hk, hc, n, by simpa using hs⟩, ?_⟩
  have e := r.length
  simp only [Array.length_toList] at e
  omega
theorem Inv.list_inj (I : Inv X pins σ H s) (h : SqL X.K H a xs) (h' : SqL X.K H a ys) : xs = ys := by
 obtain ⟨its, r, ⟨o, n, e, _, _, d⟩, _⟩ := I.list h
 obtain ⟨its', r', ⟨o', n', e', _, _, d'⟩, _⟩ := I.list h'
 rw [e] at e'; cases e'
 rw [d] at d'
 injection d' with d1 _
 have : its = its' := by simpa using congrArg Array.toList d1
 subst this
 exact r.inj r'
theorem Inv.tuple_inj (I : Inv X pins σ H s) (h : SqT X.K H a xs) (h' : SqT X.K H a ys) : xs = ys := by
 obtain ⟨its, r, ⟨o, e, _, n, d⟩, _⟩ := I.tuple h
 obtain ⟨its', r', ⟨o', e', _, n', d'⟩, _⟩ := I.tuple h'
 rw [e] at e'; cases e'
 rw [d] at d'
 injection d' with d1 _
 have : its = its' := by simpa using congrArg Array.toList d1
 subst this
 exact r.inj r'
end
noncomputable abbrev Cx.wish (X : Cx) (E : Value -> Shared -> Prop) : Cx := { X with xe := E }
noncomputable abbrev Cx.nox (X : Cx) : Cx := X.wish fun _ _ => False
theorem Cx.Ok.wish {X : Cx} (ok : X.Ok) (E : Value -> Shared -> Prop) : (X.wish E).Ok :=
 ⟨ok.mod, ok.kind, ok.glob, ok.blt, ok.above, ok.inj, ok.has, ok.cab, ok.hd, ok.frames, ok.stk, ok.exf, ok.bs, ok.bsz, ok.noex, ok.exfs, ok.funs, ok.frf⟩
theorem Cx.Ok.unwish {X : Cx} {E : Value -> Shared -> Prop} (ok : (X.wish E).Ok) : X.Ok :=
 ⟨ok.mod, ok.kind, ok.glob, ok.blt, ok.above, ok.inj, ok.has, ok.cab, ok.hd, ok.frames, ok.stk, ok.exf, ok.bs, ok.bsz, ok.noex, ok.exfs, ok.funs, ok.frf⟩
section
variable {X : Cx} {pins : List (Addr × Obj)} {σ : St} {H : Hp} {s : Shared} {E : Value -> Shared -> Prop}
theorem Inv.wish (I : Inv X pins σ H s) (E : Value -> Shared -> Prop) : Inv (X.wish E) pins σ H s := ⟨I.ok.wish E, I.os, I.bare, I.base, I.loc, I.cell, I.free, I.freeC, I.pin, I.hok, I.len⟩
theorem Inv.unwish (I : Inv (X.wish E) pins σ H s) : Inv X pins σ H s := ⟨I.ok.unwish, I.os, I.bare, I.base, I.loc, I.cell, I.free, I.freeC, I.pin, I.hok, I.len⟩
theorem SP.unwish {D : Ends} {f : Flow} {s' : Shared} (h : SP (X.wish E) pins D f s') : SP X pins D f s' := by
 cases f with
 | next => obtain ⟨σ', H', I, q⟩ := h; exact ⟨σ', H', I.unwish, q⟩
 | brk => obtain ⟨σ', H', I, q⟩ := h; exact ⟨σ', H', I.unwish, q⟩
 | cont => obtain ⟨σ', H', I, q⟩ := h; exact ⟨σ', H', I.unwish, q⟩
 | ret u => obtain ⟨v, σ', H', I, r, q⟩ := h; exact ⟨v, σ', H', I.unwish, r, q⟩
theorem PSs.nox {st : List Stmt} {t : TS} (h : PSs X.nox st t) : PSs X st t := fun pins s σ H D I hw =>
 wpAny_mono (h pins s σ H D (I.wish _) hw) (fun _ _ q => q.unwish) fun _ _ z => False.elim z
end
section
variable {X : Cx} {st : Stmt} {rest : List Stmt} {t u : TS} {e : Expr} {te : TE} {pos : Pos}
noncomputable def tNext : TS := fun D σ H => D.nx σ H
noncomputable def tSeq (t u : TS) : TS := fun D σ H => t { D with nx := u D } σ H
theorem pss_nil : PSs X [] tNext := fun _ _ σ H _ I h => wpAny_execs_nil ⟨σ, H, I, h⟩
theorem pss_cons (h1 : PS X st t) (h2 : PSs X rest u) : PSs X (st :: rest) (tSeq t u) := by
 intro pins s σ H D I h
 refine wpAny_execs_cons (thn (h1 pins s σ H { D with nx := u D } I h) fun f s1 q => ?_)
 cases f with
 | next =>
  obtain ⟨σ', H', I', q⟩ := q
  exact h2 pins s1 σ' H' D I' q
 | ret v => exact q
 | brk => exact q
 | cont => exact q
theorem pss_one (h1 : PS X st t) : PSs X [st] t := by
 intro pins s σ H D I h
 refine wpAny_execs_cons (thn (h1 pins s σ H D I h) fun f s1 q => ?_)
 cases f with
 | next => exact wpAny_execs_nil q
 | ret v => exact q
 | brk => exact q
 | cont => exact q
theorem Inv.quiet {pins : List (Addr × Obj)} {σ : St} {H : Hp} {s : Shared} (I : Inv X pins σ H s) : interactive X.env = false := by simp [interactive, I.ok.kind]
noncomputable def tDrop (te : TE) : TS := fun D σ H => te σ H fun _ H1 => D.nx σ H1
theorem ps_expr (he : PE X e te) (hs : swapsWith e none pos.line X.env = pure false := by rfl) : PS X (.Expr e pos) (tDrop te) := by
 intro pins s σ H D I h
 exact wpAny_Expr_any (thn (he pins s σ H _ I h) fun v s1 hsl10 => by obtain ⟨x, H1, I1, r1, q1⟩ := hsl10; exact ⟨σ, H1, I1, q1⟩) I.quiet hs
noncomputable def tRet (te : TE) : TS := fun D σ H => te σ H D.rt
theorem ps_ret (he : PE X e te) : PS X (.Return (some e) pos) (tRet te) := by
 intro pins s σ H D I h
 exact wpAny_Return_some (thn (he pins s σ H _ I h) fun v s1 hsl11 => by obtain ⟨x, H1, I1, r1, q1⟩ := hsl11; exact ⟨x, σ, H1, I1, r1, q1⟩)
noncomputable def tIfS (c : TT) (t u : TS) : TS := fun D σ H => c σ H fun b H1 => if b = true then t D σ H1 else u D σ H1
theorem ps_if {c : Expr} {a b : List Stmt} {tc : TT} (hc : PT X c tc) (ha : PSs X a t) (hb : PSs X b u) : PS X (.If c a b pos) (tIfS tc t u) := by
 intro pins s σ H D I h
 refine wpAny_If (thn (hc pins s σ H _ I h) fun d s1 hsl12 => ?_)
 obtain ⟨H1, I1, q1⟩ := hsl12
 cases d with
 | true => exact ha pins s1 σ H1 D I1 q1
 | false => exact hb pins s1 σ H1 D I1 q1
noncomputable def tNever : TS := fun _ _ _ => False
theorem pss_never {sts : List Stmt} : PSs X sts tNever := fun _ _ _ _ _ _ h => h.elim
end
noncomputable abbrev TG := V -> St -> Hp -> (St -> Hp -> Prop) -> Prop
noncomputable abbrev TGs := List V -> St -> Hp -> (St -> Hp -> Prop) -> Prop
noncomputable def PG (X : Cx) (target : Expr) (t : TG) : Prop :=
 ∀ (pins : List (Addr × Obj)) (s : Shared) (σ : St) (H : Hp) (v : V) (u : Value) (Q : St -> Hp -> Prop), Inv X pins σ H s -> RelV v u -> t v σ H Q ->
  wpAny (model X.prog X.w) X.A (assign target X.env u) (fun _ s' => ∃ σ' H', Inv X pins σ' H' s' /\ Q σ' H') X.xe s
noncomputable def PGs (X : Cx) (ts : List Expr) (t : TGs) : Prop :=
 ∀ (pins : List (Addr × Obj)) (s : Shared) (σ : St) (H : Hp) (vs : List V) (us : List Value) (Q : St -> Hp -> Prop), Inv X pins σ H s -> Vals vs us -> t vs σ H Q ->
  wpAny (model X.prog X.w) X.A (assignInOrder ((assignEach ts X.env).map (·.2)) us) (fun _ s' => ∃ σ' H', Inv X pins σ' H' s' /\ Q σ' H') X.xe s
section
variable {X : Cx} {pos : Pos}
noncomputable def gName (i : Nat) : TG := fun v σ H Q => Q (σ.set i (some v)) H
theorem pg_name {i : Nat} {x : Str} (hN : X.N.Nodup) (hi : X.N[i]? = some x) (hx : Loc X.env.scope x) (hf : X.fn x = true ∨ X.env.scope.names.lookup x = some .local := by first | exact .inl rfl | exact .inr rfl | assumption) : PG X (.Name x pos) (gName i) := by
 intro pins s σ H v u Q I r h
 exact wpAny_assign_Name (store_ok I hN hi hx r (fun s' I' => ⟨_, H, I', h⟩) hf)
noncomputable def gNil : TGs := fun vs σ H Q => vs = [] /\ Q σ H
noncomputable def gCons (t : TG) (u : TGs) : TGs := fun vs σ H Q => ∃ v r, vs = v :: r /\ t v σ H fun σ' H' => u r σ' H' Q
theorem pgs_nil : PGs X [] gNil := by
 intro pins s σ H vs us Q I r h
 obtain ⟨e, h⟩ := h
 subst e
 cases r
 exact assignInOrder_nil ⟨σ, H, I, h⟩
theorem pgs_cons {e : Expr} {es : List Expr} {t : TG} {u : TGs} (h1 : PG X e t) (h2 : PGs X es u)
  (hs : (assignEach (e :: es) X.env).map (·.2) = assign e X.env :: (assignEach es X.env).map (·.2) := by rfl) : PGs X (e :: es) (gCons t u) := by
 intro pins s σ H vs us Q I r h
 obtain ⟨v, vr, e1, h⟩ := h
 subst e1
 cases r with
 | cons r rr =>
  rw [hs]
  refine assignInOrder_cons (thn (h1 pins s σ H _ _ _ I r h) fun _ s1 hsl13 => ?_)
  obtain ⟨σ1, H1, I1, q1⟩ := hsl13
  exact h2 pins s1 σ1 H1 _ _ Q I1 rr q1
noncomputable def gTup (K : PySem.W.Frag) (n : Nat) (t : TGs) : TG := fun v σ H Q => ∃ a xs, v = .ref a /\ SqT K H a xs /\ xs.length = n /\ t xs σ H Q
theorem pg_tup {es : List Expr} {k : Nat} {t : TGs} {n : Nat} (hc : X.calm = true) (h : PGs X es t)
  (hn : (assignEach es X.env).length = n := by rfl) (hst : (assignEach es X.env).findIdx? (·.1) = none := by rfl) : PG X (.Tuple es k pos) (gTup X.K n t) := by
 intro pins s σ H v u Q I r hw
 obtain ⟨a, xs, e1, hq, hl, hw⟩ := hw
 subst e1
 cases r
 obtain ⟨its, rv, ht, hz⟩ := I.tuple hq
 refine assign_Tuple_tuple (I.ok.hd hc) ht (by simp [hn, <- hl, rv.length]) hst fun h' hx => ?_
 have I1 : Inv X pins σ H { s with heap := h' } := I.kept (t' := s.toks) fun b o e => hx b o (Nat.ne_of_lt (Heap.lt_size e)) e
 exact h pins _ σ H xs _ Q I1 (by simpa using rv) hw
noncomputable def tAsg (te : TE) (g : TG) : TS := fun D σ H => te σ H fun x H1 => g x σ H1 D.nx
theorem ps_set {i : Nat} {x : Str} {e : Expr} {te : TE} {pos' : Pos} (hN : X.N.Nodup) (hi : X.N[i]? = some x) (hx : Loc X.env.scope x) (he : PE X e te) (hs : swapsWith e (some (.Name x pos')) pos.line X.env = pure false := by rfl) (hf : X.fn x = true ∨ X.env.scope.names.lookup x = some .local := by first | exact .inl rfl | exact .inr rfl | assumption) :
  PS X (.Assign [.Name x pos'] e pos) (tAsg te (gName i)) := by
 intro pins s σ H D I h
 refine wpAny_Assign_Name (thn (he pins s σ H _ I h) fun v s1 hsl14 => ?_) hs
 obtain ⟨y, H1, I1, r1, q1⟩ := hsl14
 exact store_ok I1 hN hi hx r1 (fun s2 I2 => ⟨_, H1, I2, q1⟩) hf
end
section
variable {X : Cx} {pos : Pos}
end
structure It where
 go : Nat -> Hp -> Prop
 yld : Nat -> Hp -> V -> Hp -> Prop
 stop : Nat -> Hp -> Prop
noncomputable def FpOk (X : Cx) (pins : List (Addr × Obj)) (H : Hp) (b : Addr) : Prop :=
 H b = none /\ b ≠ X.env.locals /\ b ∉ X.fs /\ (b ∈ X.ex ∨ X.s₀.heap.objs.size <= b) /\ (∀ x c, X.env.cells.lookup x = some c -> c ≠ b) /\ ∀ p ∈ X.pn ++ pins, p.1 ≠ b
theorem Inv.fpOk {X : Cx} {pins : List (Addr × Obj)} {σ : St} {H H' : Hp} {s : Shared} {b : Addr} (I : Inv X pins σ H s) (hb : s.heap.objs.size <= b) (hn : H' b = none) : FpOk X pins H' b := by
 refine ⟨hn, Nat.ne_of_gt (Nat.lt_of_lt_of_le I.lt hb), I.nofs hb, .inr (Nat.le_trans I.sz hb), fun x c e z => ?_, fun p hp z => ?_⟩
 ·obtain ⟨v, q⟩ := I.cell x c e
  exact absurd (Nat.lt_of_lt_of_le q.lt (by rw [z]; exact hb)) (Nat.lt_irrefl _)
 ·exact absurd (Nat.lt_of_lt_of_le (Heap.lt_size (I.pin p hp).1) (by rw [z]; exact hb)) (Nat.lt_irrefl _)
structure Turn (P : Program) (w : World) (K : PySem.W.Frag) (tg : Expr) (J : It) (fp : List Addr) (it : Addr) (tn : Nat -> Heap -> Prop) : Prop where
 mem : it ∈ fp
 obj : ∀ i h, tn i h -> ∀ b ∈ fp, ∃ o, h.get? b = some o /\ ∀ v, o.data ≠ .cell v
 keep : ∀ i h h', tn i h -> (∀ b ∈ fp, ∀ o, h.get? b = some o -> h'.get? b = some o) -> tn i h'
 item : ∀ (X : Cx), X.prog = P -> X.w = w -> X.K = K -> X.calm = true -> ∀ (i : Nat) (pins : List (Addr × Obj)) (s : Shared) (σ : St) (H : Hp) (E : Value -> Shared -> Prop), Inv X pins σ H s -> (∀ b ∈ fp, FpOk X pins H b) -> tn i s.heap -> J.go i H ->
  wpAny (model P w) X.A (pyNext (.ref it)) (fun r s1 => ∃ u, r = some u /\
   wpAny (model P w) X.A (letOwnedTupleGo tg (.ref it) u) (fun _ s2 => ∃ x H', Inv X pins σ H' s2 /\ RelV x u /\ J.yld i H x H' /\ tn (i + 1) s2.heap /\ ∀ b ∈ fp, H' b = none) E s1) E s
 done : ∀ (X : Cx), X.prog = P -> X.w = w -> X.K = K -> X.calm = true -> ∀ (i : Nat) (pins : List (Addr × Obj)) (s : Shared) (σ : St) (H : Hp) (E : Value -> Shared -> Prop), Inv X pins σ H s -> (∀ b ∈ fp, FpOk X pins H b) -> tn i s.heap -> J.stop i H ->
  wpAny (model P w) X.A (pyNext (.ref it)) (fun r s1 => r = none /\ Inv X pins σ H s1) E s
 self : ∀ (A : Around) (i : Nat) (s : Shared) (Q : Value -> Shared -> Prop) (E : Value -> Shared -> Prop), tn i s.heap -> Q (.ref it) s -> wpAny (model P w) A (pyIter (.ref it)) Q E s
noncomputable abbrev TI := St -> Hp -> (It -> Hp -> Prop) -> Prop
noncomputable def PIE (X : Cx) (pins : List (Addr × Obj)) (σ : St) (tg : Expr) (R : It -> Hp -> Prop) (itv : Value) (s2 : Shared) : Prop :=
 ∃ (it : Addr) (fp : List Addr) (tn : Nat -> Heap -> Prop) (J : It) (H' : Hp), itv = .ref it /\ Inv X pins σ H' s2 /\ Turn X.prog X.w X.K tg J fp it tn /\ tn 0 s2.heap /\ (∀ b ∈ fp, FpOk X pins H' b) /\ R J H'
noncomputable def PI (X : Cx) (tg iter : Expr) (wi : TI) : Prop :=
 ∀ (pins : List (Addr × Obj)) (s : Shared) (σ : St) (H : Hp) (R : It -> Hp -> Prop), Inv X pins σ H s -> wi σ H R ->
  wpAny (model X.prog X.w) X.A (eval iter X.env) (fun v s1 => wpAny (model X.prog X.w) X.A (pyIter v) (PIE X pins σ tg R) X.xe s1) X.xe s
theorem go_of {M : Model} {A : Around} {E : Value -> Shared -> Prop} {s : Shared} {tg : Expr} {it : Addr} {u : Value} {o : Obj} {n : String} {vs : Array Value} {Q : Unit -> Shared -> Prop} (ho : s.heap.get? it = some o) (hc : o.cls = .type n) (hd : o.data = .fields vs)
  (hn : ["enumerate", "zip", "dict_itemiterator", "dict_reverseitemiterator", "odict_iterator", "itertools.zip_longest", "itertools.pairwise"].contains n = false) (hQ : Q () s) : wpAny M A (letOwnedTupleGo tg (.ref it) u) Q E s := by
 unfold letOwnedTupleGo
 cases tg <;> first
  | exact wpAny_pure hQ
  | (cases u <;> first
    | exact wpAny_pure hQ
    | (refine wpAny_bind (wpAny_load ho ?_)
       rw [hc, hd]
       show wpAny M A (if (["enumerate", "zip", "dict_itemiterator", "dict_reverseitemiterator", "odict_iterator", "itertools.zip_longest", "itertools.pairwise"].contains n && vs[0]? == some (rawInt _)) = true then _ else _) Q E s
       rw [if_neg (by intro h; rw [hn, Bool.false_and] at h; cases h)]
       exact wpAny_pure hQ))
noncomputable def Itl (K : PySem.W.Frag) (a : Addr) : It :=
 ⟨fun i H => ∃ xs x, SqL K H a xs /\ xs[i]? = some x, fun i H x H' => H' = H /\ ∀ xs, SqL K H a xs -> xs[i]? = some x, fun i H => ∃ xs, SqL K H a xs /\ xs.length <= i⟩
noncomputable def Itt (K : PySem.W.Frag) (a : Addr) : It :=
 ⟨fun i H => ∃ xs x, SqT K H a xs /\ xs[i]? = some x, fun i H x H' => H' = H /\ ∀ xs, SqT K H a xs -> xs[i]? = some x, fun i H => ∃ xs, SqT K H a xs /\ xs.length <= i⟩
theorem turn_list {P : Program} {w : World} {K : PySem.W.Frag} {tg : Expr} (a it : Addr) : Turn P w K tg (Itl K a) [it] it (fun i h => h.IsListIter it a i) where
 mem := by simp
 obj := fun i h st b hb => by
  have e : b = it := by simpa using hb
  subst e
  obtain ⟨o, e, c, d⟩ := st
  exact ⟨o, e, fun v z => by rw [d] at z; cases z⟩
 keep := fun i h h' st k => st.at fun o e => k it (by simp) o e
 item := by
  intro X hP hw hK hc i pins s σ H E I hf st hg
  subst hP hw hK
  obtain ⟨xs, x, hq, hx⟩ := hg
  obtain ⟨its, rv, p, hz⟩ := I.list hq
  obtain ⟨u, hu, ru⟩ := rv.get hx
  obtain ⟨f0, f1, f2, f3, f4, f5⟩ := hf it (by simp)
  refine wpAny_pyNext_list_item st p.isList (x := u) (by simpa using hu) fun h' st' sb => ?_
  have I1 : Inv X pins σ H { s with heap := h' } := I.turned (t' := s.toks) (fun b o hb e => (sb.2 b hb).trans e) f0 f1 f3 f4 f5
  obtain ⟨o, e, c, d⟩ := id st'
  exact ⟨u, rfl, go_of (s := { s with heap := h' }) e c d (by decide) ⟨x, H, I1, ru, ⟨rfl, fun ys hy => by rw [I.list_inj hy hq]; exact hx⟩, st', fun b hb => (hf b hb).1⟩⟩
 done := by
  intro X hP hw hK hc i pins s σ H E I hf st hg
  subst hP hw hK
  obtain ⟨xs, hq, hx⟩ := hg
  obtain ⟨its, rv, p, hz⟩ := I.list hq
  obtain ⟨f0, f1, f2, f3, f4, f5⟩ := hf it (by simp)
  have hl := rv.length
  exact wpAny_pyNext_list_end (I.ok.hd hc) st p.isList (by simp; omega) fun h' eb => ⟨rfl, I.turned (t' := s.toks) (fun b o hb e => eb b o hb e) f0 f1 f3 f4 f5⟩
 self := fun _ _ _ _ _ st h => wpAny_pyIter_listiter st h
theorem turn_tuple {P : Program} {w : World} {K : PySem.W.Frag} {tg : Expr} (a it : Addr) : Turn P w K tg (Itt K a) [it] it (fun i h => h.IsTupleIter it a i) where
 mem := by simp
 obj := fun i h st b hb => by
  have e : b = it := by simpa using hb
  subst e
  obtain ⟨o, e, c, d⟩ := st
  exact ⟨o, e, fun v z => by rw [d] at z; cases z⟩
 keep := fun i h h' st k => st.at fun o e => k it (by simp) o e
 item := by
  intro X hP hw hK hc i pins s σ H E I hf st hg
  subst hP hw hK
  obtain ⟨xs, x, hq, hx⟩ := hg
  obtain ⟨its, rv, p, hz⟩ := I.tuple hq
  obtain ⟨u, hu, ru⟩ := rv.get hx
  obtain ⟨f0, f1, f2, f3, f4, f5⟩ := hf it (by simp)
  refine wpAny_pyNext_tuple_item st (show s.heap.IsTuple a its.toArray from p) (x := u) (by simpa using hu) fun h' st' sb => ?_
  have I1 : Inv X pins σ H { s with heap := h' } := I.turned (t' := s.toks) (fun b o hb e => (sb.2 b hb).trans e) f0 f1 f3 f4 f5
  obtain ⟨o, e, c, d⟩ := id st'
  exact ⟨u, rfl, go_of (s := { s with heap := h' }) e c d (by decide) ⟨x, H, I1, ru, ⟨rfl, fun ys hy => by rw [I.tuple_inj hy hq]; exact hx⟩, st', fun b hb => (hf b hb).1⟩⟩
 done := by
  intro X hP hw hK hc i pins s σ H E I hf st hg
  subst hP hw hK
  obtain ⟨xs, hq, hx⟩ := hg
  obtain ⟨its, rv, p, hz⟩ := I.tuple hq
  obtain ⟨f0, f1, f2, f3, f4, f5⟩ := hf it (by simp)
  have hl := rv.length
  exact wpAny_pyNext_tuple_end (I.ok.hd hc) st (show s.heap.IsTuple a its.toArray from p) (by simp; omega) fun h' eb => ⟨rfl, I.turned (t' := s.toks) (fun b o hb e => eb b o hb e) f0 f1 f3 f4 f5⟩
 self := fun _ _ _ _ _ st h => wpAny_pyIter_tupleiter st h
end L2
namespace L2
open PySem PySem.Spec PyProof.Rows
section
variable {X : Cx} {tg : Expr}
noncomputable def iList (K : PySem.W.Frag) (tl : TE) : TI := fun σ H R => tl σ H fun x H1 => ∃ a, x = .ref a /\ (∃ xs, SqL K H1 a xs) /\ R (Itl K a) H1
noncomputable def iTup (K : PySem.W.Frag) (tl : TE) : TI := fun σ H R => tl σ H fun x H1 => ∃ a, x = .ref a /\ (∃ xs, SqT K H1 a xs) /\ R (Itt K a) H1
theorem pi_list {l : Expr} {tl : TE} (hl : PE X l tl) : PI X tg l (iList X.K tl) := by
 intro pins s σ H R I h
 refine thn (hl pins s σ H _ I h) fun v s1 hsl15 => ?_
 obtain ⟨x, H1, I1, r1, q1⟩ := hsl15
 obtain ⟨a, e, ⟨xs, hq⟩, q⟩ := q1
 subst e
 cases r1
 obtain ⟨its, rv, p, hz⟩ := I1.list hq
 refine wpAny_pyIter_list p.isList ?_
 refine ⟨s1.heap.objs.size, [s1.heap.objs.size], _, _, H1, rfl, I1.kept (t' := s1.toks) fun b o e => Heap.get?_push_of_some _ e, turn_list a _, ⟨_, Heap.get?_push_size _ rfl, rfl, rfl⟩, fun b hb => ?_, q⟩
 have e : b = s1.heap.objs.size := by simpa using hb
 subst e
 exact I1.fpOk (Nat.le_refl _) (I1.hok.fresh (Nat.le_refl _))
theorem pi_tup {l : Expr} {tl : TE} (hl : PE X l tl) : PI X tg l (iTup X.K tl) := by
 intro pins s σ H R I h
 refine thn (hl pins s σ H _ I h) fun v s1 hsl16 => ?_
 obtain ⟨x, H1, I1, r1, q1⟩ := hsl16
 obtain ⟨a, e, ⟨xs, hq⟩, q⟩ := q1
 subst e
 cases r1
 obtain ⟨its, rv, p, hz⟩ := I1.tuple hq
 refine wpAny_pyIter_tuple (show s1.heap.IsTuple a its.toArray from p) ?_
 refine ⟨s1.heap.objs.size, [s1.heap.objs.size], _, _, H1, rfl, I1.kept (t' := s1.toks) fun b o e => Heap.get?_push_of_some _ e, turn_tuple a _, ⟨_, Heap.get?_push_size _ rfl, rfl, rfl⟩, fun b hb => ?_, q⟩
 have e : b = s1.heap.objs.size := by simpa using hb
 subst e
 exact I1.fpOk (Nat.le_refl _) (I1.hok.fresh (Nat.le_refl _))
noncomputable def tFor (wi : TI) (g : TG) (tb : TS) : TS := fun D σ H => wi σ H fun J H1 => ∃ W : Nat -> Nat -> St -> Hp -> Prop, (∃ m, W 0 m σ H1) /\ ∀ i m σ H, W i m σ H ->
 (J.stop i H /\ D.nx σ H) ∨ (J.go i H /\ ∃ N : St -> Hp -> Prop, (∀ σ' H', N σ' H' -> ∃ m', m' < m /\ W (i + 1) m' σ' H') /\ ∀ x H', J.yld i H x H' -> g x σ H' fun σ2 H2 => tb { D with nx := N, ct := N, bk := D.nx } σ2 H2)
noncomputable def pinsAt (fp : List Addr) (h : Heap) : List (Addr × Obj) := fp.filterMap fun b => (h.get? b).map fun o => (b, o)
theorem mem_pinsAt {fp : List Addr} {h : Heap} {b : Addr} {o : Obj} (hb : b ∈ fp) (e : h.get? b = some o) : (b, o) ∈ pinsAt fp h := List.mem_filterMap.mpr ⟨b, hb, by rw [e]; rfl⟩
theorem of_pinsAt {fp : List Addr} {h : Heap} {p : Addr × Obj} (hp : p ∈ pinsAt fp h) : p.1 ∈ fp /\ h.get? p.1 = some p.2 := by
 obtain ⟨b, hb, e⟩ := List.mem_filterMap.mp hp
 cases q : h.get? b with
 | none => rw [q] at e; cases e
 | some o =>
  rw [q] at e
  have e' : (b, o) = p := Option.some.inj e
  subst e'
  exact ⟨hb, q⟩
theorem Inv.pinned {pins : List (Addr × Obj)} {σ : St} {H : Hp} {s : Shared} {fp : List Addr} (I : Inv X pins σ H s) (hf : ∀ b ∈ fp, FpOk X pins H b) (ho : ∀ b ∈ fp, ∃ o, s.heap.get? b = some o /\ ∀ v, o.data ≠ .cell v) : Inv X (pins ++ pinsAt fp s.heap) σ H s :=
 I.pins_of fun p hp => (List.mem_append.mp hp).elim (fun z => I.pin p (List.mem_append_right _ z)) fun z => by
  obtain ⟨hb, e⟩ := of_pinsAt z
  obtain ⟨f0, f1, f2, _⟩ := hf p.1 hb
  obtain ⟨o, e', d⟩ := ho p.1 hb
  rw [e] at e'; cases e'
  exact ⟨e, f0, f1, f2, d⟩
theorem Inv.unpinned {pins pl : List (Addr × Obj)} {σ : St} {H : Hp} {s : Shared} (I : Inv X (pins ++ pl) σ H s) : Inv X pins σ H s := I.pins_of fun p hp => I.pin p (List.mem_append_right _ (List.mem_append_left _ hp))
theorem ps_for {iter : Expr} {body : List Stmt} {wi : TI} {g : TG} {tb : TS} {pos : Pos} (hp : PassesOwn (model X.prog X.w) X.A X.env X.xe) (hc : X.calm = true) (hi : PI X tg iter wi) (hg : PG X tg g) (hb : PSs X body tb)
  (hs : ∀ x, foldedSetIterable iter X.env x = pure x := by intro _; rfl) : PS X (.For tg iter body [] pos) (tFor wi g tb) := by
 intro pins s σ H D I h
 refine wpAny_For (thn (hi pins s σ H _ I h) fun v s1 h1 => thn h1 fun itv s2 h2 => ?_) hs
 obtain ⟨it, fp, tn, J, H2, e, I2, T, st2, f2, W, ⟨m0, w0⟩, turn⟩ := h2
 subst e
 have stat : ∀ {H' : Hp}, (∀ b ∈ fp, H' b = none) -> ∀ b ∈ fp, FpOk X pins H' b := fun hn b hb => ⟨hn b hb, (f2 b hb).2⟩
 refine codeAny_forLoop_any (fun n s' => ∃ i σ' H', Inv X pins σ' H' s' /\ tn i s'.heap /\ (∀ b ∈ fp, H' b = none) /\ W i n σ' H') ?_ m0 ⟨0, σ, H2, I2, st2, fun b hb => (f2 b hb).1, w0⟩
 rintro n s3 ⟨i, σ3, H3, I3, st3, fr3, w3⟩
 rcases turn i n σ3 H3 w3 with ⟨stop, qn⟩ | ⟨go, N, hN, step⟩
 ·refine wpAny_passesOwn hp (thn (T.done X rfl rfl rfl hc i pins s3 σ3 H3 X.xe I3 (stat fr3) st3 stop) fun r s4 hsl17 => ?_)
  obtain ⟨hr, I4⟩ := hsl17
  subst hr
  exact wpAny_execs_nil ⟨σ3, H3, I4, qn⟩
 ·refine wpAny_passesOwn hp (thn (T.item X rfl rfl rfl hc i pins s3 σ3 H3 X.xe I3 (stat fr3) st3 go) fun r s4 hsl18 => ?_)
  obtain ⟨u, hr, h4⟩ := hsl18
  subst hr
  refine wpAny_passesOwn hp (thn h4 fun _ s5 hsl19 => ?_)
  obtain ⟨x, H5, I5, r5, y5, st5, fr5⟩ := hsl19
  have I5' := I5.pinned (stat fr5) (T.obj _ _ st5)
  refine wpAny_passesOwn hp (thn (hg _ s5 σ3 H5 x u _ I5' r5 (step x H5 y5)) fun _ s6 hsl20 => ?_)
  obtain ⟨σ6, H6, I6, q6⟩ := hsl20
  refine wpAny_passesOwn hp (thn (hb _ s6 σ6 H6 _ I6 q6) fun f s7 q7 => ?_)
  have again : ∀ {σ7 : St} {H7 : Hp}, Inv X (pins ++ pinsAt fp s5.heap) σ7 H7 s7 -> N σ7 H7 -> ∃ m, m < n /\ ∃ i σ' H', Inv X pins σ' H' s7 /\ tn i s7.heap /\ (∀ b ∈ fp, H' b = none) /\ W i m σ' H' := fun {σ7 H7} I7 n7 => by
   obtain ⟨m', hm, w7⟩ := hN σ7 H7 n7
   refine ⟨m', hm, i + 1, σ7, H7, I7.unpinned, T.keep _ _ _ st5 fun b hb o e => (I7.pin (b, o) (List.mem_append_right _ (List.mem_append_right _ (mem_pinsAt hb e)))).1, fun b hb => ?_, w7⟩
   obtain ⟨o, e, d⟩ := T.obj _ _ st5 b hb
   exact (I7.pin (b, o) (List.mem_append_right _ (List.mem_append_right _ (mem_pinsAt hb e)))).2.1
  cases f with
  | next => obtain ⟨σ7, H7, I7, n7⟩ := q7; exact again I7 n7
  | cont => obtain ⟨σ7, H7, I7, n7⟩ := q7; exact again I7 n7
  | brk => obtain ⟨σ7, H7, I7, q7⟩ := q7; exact ⟨σ7, H7, I7.unpinned, q7⟩
  | ret v => obtain ⟨x7, σ7, H7, I7, r7, q7⟩ := q7; exact ⟨x7, σ7, H7, I7.unpinned, r7, q7⟩
end
theorem for_list {K : PySem.W.Frag} {a : Addr} {xs : List V} {g : TG} {tb : TS} {D : Ends} {σ : St} {H : Hp} (Pv : Nat -> St -> Hp -> Prop) (h0 : Pv 0 σ H) (hl : ∀ i σ H, i <= xs.length -> Pv i σ H -> SqL K H a xs)
  (hs : ∀ i x σ H, xs[i]? = some x -> Pv i σ H -> g x σ H fun σ2 H2 => tb { D with nx := Pv (i + 1), ct := Pv (i + 1), bk := D.nx } σ2 H2) (hd : ∀ σ H, Pv xs.length σ H -> D.nx σ H) :
  ∃ W : Nat -> Nat -> St -> Hp -> Prop, (∃ m, W 0 m σ H) /\ ∀ i m σ H, W i m σ H ->
   ((Itl K a).stop i H /\ D.nx σ H) ∨ ((Itl K a).go i H /\ ∃ N : St -> Hp -> Prop, (∀ σ' H', N σ' H' -> ∃ m', m' < m /\ W (i + 1) m' σ' H') /\ ∀ x H', (Itl K a).yld i H x H' -> g x σ H' fun σ2 H2 => tb { D with nx := N, ct := N, bk := D.nx } σ2 H2) := by
 refine ⟨fun i m σ H => m = xs.length - i /\ i <= xs.length /\ Pv i σ H, ⟨xs.length, by simp, Nat.zero_le _, h0⟩, ?_⟩
 rintro i m σ H ⟨rfl, hi, p⟩
 have q := hl i σ H hi p
 by_cases hlt : i < xs.length
 ·refine .inr ⟨⟨xs, xs[i], q, by simp [hlt]⟩, Pv (i + 1), fun σ' H' p' => ⟨xs.length - (i + 1), by omega, rfl, hlt, p'⟩, fun x H' y => ?_⟩
  obtain ⟨e, y⟩ := y
  subst e
  exact hs i x σ _ (y xs q) p
 ·have e : i = xs.length := by omega
  subst e
  exact .inl ⟨⟨xs, q, Nat.le_refl _⟩, hd σ H p⟩
theorem for_tup {K : PySem.W.Frag} {a : Addr} {xs : List V} {g : TG} {tb : TS} {D : Ends} {σ : St} {H : Hp} (Pv : Nat -> St -> Hp -> Prop) (h0 : Pv 0 σ H) (hl : ∀ i σ H, i <= xs.length -> Pv i σ H -> SqT K H a xs)
  (hs : ∀ i x σ H, xs[i]? = some x -> Pv i σ H -> g x σ H fun σ2 H2 => tb { D with nx := Pv (i + 1), ct := Pv (i + 1), bk := D.nx } σ2 H2) (hd : ∀ σ H, Pv xs.length σ H -> D.nx σ H) :
  ∃ W : Nat -> Nat -> St -> Hp -> Prop, (∃ m, W 0 m σ H) /\ ∀ i m σ H, W i m σ H ->
   ((Itt K a).stop i H /\ D.nx σ H) ∨ ((Itt K a).go i H /\ ∃ N : St -> Hp -> Prop, (∀ σ' H', N σ' H' -> ∃ m', m' < m /\ W (i + 1) m' σ' H') /\ ∀ x H', (Itt K a).yld i H x H' -> g x σ H' fun σ2 H2 => tb { D with nx := N, ct := N, bk := D.nx } σ2 H2) := by
 refine ⟨fun i m σ H => m = xs.length - i /\ i <= xs.length /\ Pv i σ H, ⟨xs.length, by simp, Nat.zero_le _, h0⟩, ?_⟩
 rintro i m σ H ⟨rfl, hi, p⟩
 have q := hl i σ H hi p
 by_cases hlt : i < xs.length
 ·refine .inr ⟨⟨xs, xs[i], q, by simp [hlt]⟩, Pv (i + 1), fun σ' H' p' => ⟨xs.length - (i + 1), by omega, rfl, hlt, p'⟩, fun x H' y => ?_⟩
  obtain ⟨e, y⟩ := y
  subst e
  exact hs i x σ _ (y xs q) p
 ·have e : i = xs.length := by omega
  subst e
  exact .inl ⟨⟨xs, q, Nat.le_refl _⟩, hd σ H p⟩
end L2
namespace L2
open PySem PySem.Spec PyProof.Rows
noncomputable abbrev R2 := V -> V -> Hp -> VK -> Prop
noncomputable def OpR (X : Cx) (f : Value -> Value -> Sem Value) (r : R2) : Prop :=
 ∀ (pins : List (Addr × Obj)) (s : Shared) (σ : St) (H : Hp) (x y : V) (v u : Value) (Q : VK), Inv X pins σ H s -> RelV x v -> RelV y u -> r x y H Q ->
  wpAny (model X.prog X.w) X.A (f v u) (EP X pins σ Q) X.xe s
noncomputable def CallR (X : Cx) (f : Value) (r : List V -> Hp -> VK -> Prop) : Prop :=
 ∀ (pins : List (Addr × Obj)) (s : Shared) (σ : St) (H : Hp) (xs : List V) (us : List Value) (Q : VK), Inv X pins σ H s -> Vals xs us -> r xs H Q ->
  wpAny (model X.prog X.w) X.A (call f us) (EP X pins σ Q) X.xe s
noncomputable def tOp (r : R2) (ta tb : TE) : TE := fun σ H Q => ta σ H fun x H1 => tb σ H1 fun y H2 => r x y H2 Q
noncomputable def rI (C : Int -> Int -> Prop) (g : Int -> Int -> V) : R2 := fun x y H Q => ∃ i j, x = .int i /\ y = .int j /\ C i j /\ Q (g i j) H
noncomputable def rI0 (g : Int -> Int -> V) : R2 := fun x y H Q => ∃ i j, x = .int i /\ y = .int j /\ Q (g i j) H
section
variable {X : Cx} {a b c : Expr} {ta tb tc : TE} {pos : Pos}
theorem binT (ha : PE X a ta) (hb : PE X b tb) {pins : List (Addr × Obj)} {s : Shared} {σ : St} {H : Hp} {R : V -> V -> Hp -> Prop} (I : Inv X pins σ H s)
  (h : ta σ H fun x H1 => tb σ H1 fun y H2 => R x y H2) {Q : Value -> Shared -> Prop} {f : Value -> Value -> Sem Value}
  (hf : ∀ v u s2 x y H2, Inv X pins σ H2 s2 -> RelV x v -> RelV y u -> R x y H2 -> wpAny (model X.prog X.w) X.A (f v u) Q X.xe s2) :
  wpAny (model X.prog X.w) X.A (eval a X.env) (fun v s₁ => wpAny (model X.prog X.w) X.A (eval b X.env) (fun u s₂ => wpAny (model X.prog X.w) X.A (f v u) Q X.xe s₂) X.xe s₁) X.xe s := by
 refine thn (ha pins s σ H _ I h) fun v s1 hsl21 => ?_
 obtain ⟨x, H1, I1, r1, q1⟩ := hsl21
 refine thn (hb pins s1 σ H1 _ I1 q1) fun u s2 hsl22 => ?_
 obtain ⟨y, H2, I2, r2, q2⟩ := hsl22
 exact hf v u s2 x y H2 I2 r1 r2 q2
theorem pe_op {op : Operator} {r : R2} (ho : OpR X (binaryOp op) r) (ha : PE X a ta) (hb : PE X b tb) : PE X (.BinOp a op b pos) (tOp r ta tb) := by
 intro pins s σ H Q I h
 exact wpAny_BinOp (binT ha hb I h fun v u s2 x y H2 I2 rx ry q => ho pins s2 σ H2 x y v u Q I2 rx ry q)
theorem opI {f : Value -> Value -> Sem Value} {C : Int -> Int -> Prop} {g : Int -> Int -> Int}
  (rule : ∀ (i j : Int) (t u : Tok) (s : Shared) (Q : Value -> Shared -> Prop) (E : Value -> Shared -> Prop), C i j -> Q (.int (g i j) s.toks) { s with toks := s.toks + 1 } -> wpAny (model X.prog X.w) X.A (f (.int i t) (.int j u)) Q E s) :
  OpR X f (rI C fun i j => .int (g i j)) := by
 intro pins s σ H x y v u Q I rx ry h
 obtain ⟨i, j, rfl, rfl, hc, q⟩ := h
 obtain ⟨t, rfl⟩ := rx
 obtain ⟨t', rfl⟩ := ry
 exact rule i j t t' s _ _ hc ⟨.int (g i j), H, I.tok _, ⟨_, rfl⟩, q⟩
theorem opI0 {f : Value -> Value -> Sem Value} {g : Int -> Int -> Int}
  (rule : ∀ (i j : Int) (t u : Tok) (s : Shared) (Q : Value -> Shared -> Prop) (E : Value -> Shared -> Prop), Q (.int (g i j) s.toks) { s with toks := s.toks + 1 } -> wpAny (model X.prog X.w) X.A (f (.int i t) (.int j u)) Q E s) :
  OpR X f (rI0 fun i j => .int (g i j)) := by
 intro pins s σ H x y v u Q I rx ry h
 obtain ⟨i, j, rfl, rfl, q⟩ := h
 obtain ⟨t, rfl⟩ := rx
 obtain ⟨t', rfl⟩ := ry
 exact rule i j t t' s _ _ ⟨.int (g i j), H, I.tok _, ⟨_, rfl⟩, q⟩
theorem opB0 {f : Value -> Value -> Sem Value} {g : Int -> Int -> Bool}
  (rule : ∀ (i j : Int) (t u : Tok) (s : Shared) (Q : Value -> Shared -> Prop) (E : Value -> Shared -> Prop), Q (.bool (g i j)) s -> wpAny (model X.prog X.w) X.A (f (.int i t) (.int j u)) Q E s) :
  OpR X f (rI0 fun i j => .bl (g i j)) := by
 intro pins s σ H x y v u Q I rx ry h
 obtain ⟨i, j, rfl, rfl, q⟩ := h
 obtain ⟨t, rfl⟩ := rx
 obtain ⟨t', rfl⟩ := ry
 exact rule i j t t' s _ _ ⟨.bl (g i j), H, I, rfl, q⟩
noncomputable def CDiv (i j : Int) : Prop := 0 < j /\ j < 1073741824
noncomputable def CPow (i j : Int) : Prop := 0 <= j /\ j <= 1000000 /\ i.natAbs < 2 ^ 64
noncomputable def CMul (i j : Int) : Prop := (-(2 ^ 64) < i /\ i < 2 ^ 64) ∨ (-(2 ^ 64) < j /\ j < 2 ^ 64)
theorem CMul.ok {i j : Int} (h : CMul i j) : IntMulOk i j := by
 rcases h with ⟨h1, h2⟩ | ⟨h1, h2⟩
 ·exact .of_left (intBits_le_64 h1 h2)
 ·exact .of_right (intBits_le_64 h1 h2)
theorem op_add : OpR X (binaryOp .Add) (rI0 fun i j => .int (i + j)) := opI0 fun _ _ _ _ _ _ _ q => add_int q
theorem op_sub : OpR X (binaryOp .Sub) (rI0 fun i j => .int (i - j)) := opI0 fun _ _ _ _ _ _ _ q => sub_int q
theorem op_mul : OpR X (binaryOp .Mult) (rI CMul fun i j => .int (i * j)) := opI fun _ _ _ _ _ _ _ hc q => mul_int q hc.ok
theorem op_fdiv : OpR X (binaryOp .FloorDiv) (rI CDiv fun i j => .int (i / j)) := opI fun i j _ _ _ _ _ hc q => by
 have h1 : (0 : Int) < j := hc.1
 have h2 : j < 1073741824 := hc.2
 exact floordiv_int (by omega) (by rw [Int.fdiv_eq_ediv_of_nonneg i (by omega)]; exact q) (.inl (PyProof.noPylong_small (by omega)))
theorem op_mod : OpR X (binaryOp .Mod) (rI (fun _ j => 0 < j) fun i j => .int (i % j)) := opI fun i j _ _ _ _ _ hc q => by
 have h1 : (0 : Int) < j := hc
 exact mod_int' (by omega) (by rw [Int.fmod_eq_emod_of_nonneg i (by omega)]; exact q)
theorem op_pow : OpR X (binaryOp .Pow) (rI CPow fun i j => .int (i ^ j.toNat)) := opI fun _ _ _ _ _ _ _ hc q => pow_int_small hc.1 hc.2.1 hc.2.2 q
theorem op_and : OpR X (binaryOp .BitAnd) (rI0 fun i j => .int (Builtin.bitAnd i j)) := opI0 fun _ _ _ _ _ _ _ q => and_int q
theorem op_or : OpR X (binaryOp .BitOr) (rI0 fun i j => .int (Builtin.bitOr i j)) := opI0 fun _ _ _ _ _ _ _ q => or_int q
theorem op_xor : OpR X (binaryOp .BitXor) (rI0 fun i j => .int (Builtin.bitXor i j)) := opI0 fun _ _ _ _ _ _ _ q => xor_int q
end
noncomputable def scal : V -> V -> Bool
 | .non, .non => true | .non, .int _ => true | .int _, .non => true | .non, .bl _ => true | .bl _, .non => true | .non, .str _ => true | .str _, .non => true
 | .int _, .int _ => true | .bl _, .bl _ => true | .str _, .str _ => true | .byt _, .byt _ => true
 | .int _, .str _ => true | .str _, .int _ => true | .bl _, .str _ => true | .str _, .bl _ => true
 | _, _ => false
noncomputable def rEq : R2 := fun x y H Q => scal x y = true /\ Q (.bl (decide (x = y))) H
noncomputable def rNe : R2 := fun x y H Q => scal x y = true /\ Q (.bl (!decide (x = y))) H
theorem dec_int {i j : Int} : decide (V.int i = V.int j) = (i == j) := by
 rw [Bool.eq_iff_iff]
 simp
theorem dec_bl {i j : Bool} : decide (V.bl i = V.bl j) = (i == j) := by
 rw [Bool.eq_iff_iff]
 simp
theorem dec_str {i j : Str} : decide (V.str i = V.str j) = (i == j) := by
 rw [Bool.eq_iff_iff]
 simp
theorem dec_byt {i j : Array UInt8} : decide (V.byt i = V.byt j) = (i.toList == j.toList) := by
 rw [Bool.eq_iff_iff]
 cases i
 cases j
 simp
section
variable {X : Cx} {a b c : Expr} {ta tb tc : TE} {pos : Pos}
theorem fin_bl {pins : List (Addr × Obj)} {σ : St} {H : Hp} {s : Shared} {Q : VK} {k k' : Bool} (I : Inv X pins σ H s) (q : Q (.bl k) H) (e : k = k') : EP X pins σ Q (.bool k') s := by
 subst e
 exact ⟨.bl k, H, I, rfl, q⟩
theorem op_eq : OpR X (compareOp .Eq) rEq := by
 intro pins s σ H x y v u Q I rx ry h
 obtain ⟨hs, q⟩ := h
 cases x with
 | non =>
  cases rx
  cases y with
  | non => cases ry; exact PySem.EqNone.eq_none_none (fin_bl I q (by simp))
  | bl j => cases ry; exact PySem.EqNone.eq_none_bool (fin_bl I q (by simp))
  | int j => obtain ⟨t', rfl⟩ := ry; exact PySem.EqNone.eq_none_int (fin_bl I q (by simp))
  | str j => obtain ⟨t', rfl⟩ := ry; exact PySem.EqNone.eq_none_str (fin_bl I q (by simp))
  | _ => exact absurd (show false = true from hs) Bool.false_ne_true
 | bl i =>
  cases rx
  cases y with
  | non => cases ry; exact PySem.EqNone.eq_bool_none (fin_bl I q (by simp))
  | bl j => cases ry; exact eq_bool (fin_bl I q dec_bl)
  | str j => obtain ⟨t', rfl⟩ := ry; exact PySem.EqMixed.eq_bool_str (fin_bl I q (by simp))
  | _ => exact absurd (show false = true from hs) Bool.false_ne_true
 | int i =>
  obtain ⟨t, rfl⟩ := rx
  cases y with
  | non => cases ry; exact PySem.EqNone.eq_int_none (fin_bl I q (by simp))
  | int j => obtain ⟨t', rfl⟩ := ry; exact eq_int (fin_bl I q dec_int)
  | str j => obtain ⟨t', rfl⟩ := ry; exact PySem.EqMixed.eq_int_str (fin_bl I q (by simp))
  | _ => exact absurd (show false = true from hs) Bool.false_ne_true
 | str i =>
  obtain ⟨t, rfl⟩ := rx
  cases y with
  | non => cases ry; exact PySem.EqNone.eq_str_none (fin_bl I q (by simp))
  | bl j => cases ry; exact PySem.EqMixed.eq_str_bool (fin_bl I q (by simp))
  | int j => obtain ⟨t', rfl⟩ := ry; exact PySem.EqMixed.eq_str_int (fin_bl I q (by simp))
  | str j => obtain ⟨t', rfl⟩ := ry; exact eq_str (fin_bl I q dec_str)
  | _ => exact absurd (show false = true from hs) Bool.false_ne_true
 | byt i =>
  obtain ⟨t, rfl⟩ := rx
  cases y with
  | byt j => obtain ⟨t', rfl⟩ := ry; exact PySem.W.eq_bytes (fin_bl I q dec_byt)
  | _ => exact absurd (show false = true from hs) Bool.false_ne_true
 | _ => cases y <;> exact absurd (show false = true from hs) Bool.false_ne_true
theorem op_ne : OpR X (compareOp .NotEq) rNe := by
 intro pins s σ H x y v u Q I rx ry h
 obtain ⟨hs, q⟩ := h
 cases x with
 | non =>
  cases rx
  cases y with
  | non => cases ry; exact PySem.EqNone.ne_none_none (fin_bl I q (by simp))
  | bl j => cases ry; exact PySem.EqNone.ne_none_bool (fin_bl I q (by simp))
  | int j => obtain ⟨t', rfl⟩ := ry; exact PySem.EqNone.ne_none_int (fin_bl I q (by simp))
  | str j => obtain ⟨t', rfl⟩ := ry; exact PySem.EqNone.ne_none_str (fin_bl I q (by simp))
  | _ => exact absurd (show false = true from hs) Bool.false_ne_true
 | bl i =>
  cases rx
  cases y with
  | non => cases ry; exact PySem.EqNone.ne_bool_none (fin_bl I q (by simp))
  | bl j => cases ry; exact ne_bool (fin_bl I q (congrArg not dec_bl))
  | str j => obtain ⟨t', rfl⟩ := ry; exact PySem.EqMixed.ne_bool_str (fin_bl I q (by simp))
  | _ => exact absurd (show false = true from hs) Bool.false_ne_true
 | int i =>
  obtain ⟨t, rfl⟩ := rx
  cases y with
  | non => cases ry; exact PySem.EqNone.ne_int_none (fin_bl I q (by simp))
  | int j => obtain ⟨t', rfl⟩ := ry; exact ne_int (fin_bl I q (congrArg not dec_int))
  | str j => obtain ⟨t', rfl⟩ := ry; exact PySem.EqMixed.ne_int_str (fin_bl I q (by simp))
  | _ => exact absurd (show false = true from hs) Bool.false_ne_true
 | str i =>
  obtain ⟨t, rfl⟩ := rx
  cases y with
  | non => cases ry; exact PySem.EqNone.ne_str_none (fin_bl I q (by simp))
  | bl j => cases ry; exact PySem.EqMixed.ne_str_bool (fin_bl I q (by simp))
  | int j => obtain ⟨t', rfl⟩ := ry; exact PySem.EqMixed.ne_str_int (fin_bl I q (by simp))
  | str j => obtain ⟨t', rfl⟩ := ry; exact ne_str (fin_bl I q (congrArg not dec_str))
  | _ => exact absurd (show false = true from hs) Bool.false_ne_true
 | byt i =>
  obtain ⟨t, rfl⟩ := rx
  cases y with
  | byt j => obtain ⟨t', rfl⟩ := ry; exact PySem.W.ne_bytes (fin_bl I q (congrArg not dec_byt))
  | _ => exact absurd (show false = true from hs) Bool.false_ne_true
 | _ => cases y <;> exact absurd (show false = true from hs) Bool.false_ne_true
theorem op_lt : OpR X (compareOp .Lt) (rI0 fun i j => .bl (decide (i < j))) := opB0 fun _ _ _ _ _ _ _ q => lt_int q
theorem nomark (b : Expr) {op : CmpOp} (h : op ≠ .In := by decide) (h2 : op ≠ .NotIn := by decide) : behindInMarks op b = false := by
 have e1 : (op == CmpOp.In) = false := by cases op <;> first | rfl | exact absurd rfl h
 have e2 : (op == CmpOp.NotIn) = false := by cases op <;> first | rfl | exact absurd rfl h2
 cases b <;> simp [behindInMarks, e1, e2]
theorem pe_cmpR {op : CmpOp} {r : R2} (ho : OpR X (compareOp op) r) (ha : PE X a ta) (hb : PE X b tb) (hm : behindInMarks op b = false) : PE X (.Compare a [op] [b] pos) (tOp r ta tb) := by
 intro pins s σ H Q I h
 exact wpAny_Compare1 (binT ha hb I h fun v u s2 x y H2 I2 rx ry q => ho pins s2 σ H2 x y v u Q I2 rx ry q) hm
noncomputable def tTest (t : TE) : TT := fun σ H Q => t σ H fun x H' => ∃ k, x = .bl k /\ Q k H'
theorem pt_cmpR {op : CmpOp} {r : R2} (ho : OpR X (compareOp op) r) (ha : PE X a ta) (hb : PE X b tb) (hm : behindInMarks op b = false) : PT X (.Compare a [op] [b] pos) (tTest (tOp r ta tb)) := by
 intro pins s σ H Q I h
 refine wpAny_isTrue_Compare1 (thn (ha pins s σ H _ I h) fun v s1 ⟨x, H1, I1, r1, q1⟩ => thn (hb pins s1 σ H1 _ I1 q1) fun u s2 ⟨y, H2, I2, r2, q2⟩ =>
  thn (ho pins s2 σ H2 x y v u _ I2 r1 r2 q2) fun c s3 ⟨z, H3, I3, r3, k, e, q3⟩ => ?_) hm
 subst e
 cases r3
 exact wpAny_truthy_bool ⟨H3, I3, q3⟩
theorem line63 : (sizeLine : Nat) < 2 ^ 63 := by rw [sizeLine_eq]; decide
theorem vals1 {x : V} {us : List Value} (r : Vals [x] us) : ∃ u, us = [u] /\ RelV x u := by
 cases r with
 | cons r1 r2 => cases r2; exact ⟨_, rfl, r1⟩
theorem vals2 {x y : V} {us : List Value} (r : Vals [x, y] us) : ∃ u w', us = [u, w'] /\ RelV x u /\ RelV y w' := by
 cases r with
 | cons r1 r2 =>
  cases r2 with
  | cons r3 r4 => cases r4; exact ⟨_, _, rfl, r1, r3⟩
end
end L2
namespace L2
open PySem PySem.Spec PyProof.Rows
structure ObjM (h : Heap) (x dx C : Addr) (mA : Str -> Option Value) : Prop where
 obj : h.get? x = some (PySem.W.instObj C dx)
 ns : h.Ns1 dx mA
 ne : dx ≠ x
theorem lookIn_ns {h : Heap} {dx : Addr} {mA : Str -> Option Value} (n : h.Ns1 dx mA) : ∃ od, h.get? dx = some od /\ ∀ name, PySem.W.lookIn name od = some (mA name) := by
 obtain ⟨o, es, ep, ho, hd, hk, _, hm⟩ := n
 refine ⟨o, ho, fun name => ?_⟩
 have e := hm name
 unfold nsFind findBy at e
 rw [<- Array.find?_toList] at e
 unfold PySem.W.lookIn
 rw [hd]
 dsimp only
 split
 ·rename_i y q
  rw [q] at e
  exact congrArg some e
 ·rename_i q
  rw [q] at e
  have a : es.toList.any (·.refKey) = false := by
   rw [List.any_eq_false]
   intro y hy
   obtain ⟨z, t, hkey⟩ := hk y (Array.mem_toList_iff.mp hy)
   simp [DictEntry.refKey, hkey]
  have a' : ¬ es.toList.any (·.refKey) = true := by rw [a]; exact Bool.false_ne_true
  rw [if_neg a']
  exact congrArg some e
theorem ObjM.look {h : Heap} {x dx C : Addr} {mA : Str -> Option Value} (I : ObjM h x dx C mA) : ∃ od, PySem.W.InstAt h x (PySem.W.instObj C dx) C (some od) /\ ∀ name, PySem.W.lookIn name od = some (mA name) :=
 let ⟨od, ho, hl⟩ := lookIn_ns I.ns
 ⟨od, ⟨I.obj, rfl, rfl, ho⟩, hl⟩
section
variable {prog : Program} {w : World} {A : Around} {E : Value -> Shared -> Prop} {s : Shared} {K : PySem.W.Frag} {x dx C f : Addr} {mA : Str -> Option Value} {name : Str} {v : Value}
theorem get_map {expr : Bool} {Q : Value -> Shared -> Prop} (X : K.In s.heap) (I : ObjM s.heap x dx C mA) (hg : PySem.W.plainGet K C name = true) (hh : PySem.W.hasDictIn K C = true)
  (ha : PySem.W.findIn K (.ref C) name = some none) (hv : mA name = some v) (hv' : PySem.W.handedIn v = true) (h : Q v { s with toks := s.toks + 1 }) :
  wpAny (model prog w) A (getAttr (.ref x) name expr) Q E s := by
 obtain ⟨od, J, hl⟩ := I.look
 exact PySem.W.get_value X J (PySem.W.plainGet_of hg).1 (PySem.W.findObj_own hh ha rfl (by rw [hl, hv])) hv' h
theorem get_meth {pl : Sem Bool} {Q : Value × List Value -> Shared -> Prop} (X : K.In s.heap) (I : ObjM s.heap x dx C mA) (hg : PySem.W.plainGet K C name = true)
  (hf : PySem.W.findIn K (.ref C) name = some (some (.ref f))) (ht : PySem.W.isFn K (.ref f) = true) (hv : mA name = none) (h : Q (.ref f, [.ref x]) s) :
  wpAny (model prog w) A (getMethod (.ref x) name pl) Q E s := by
 obtain ⟨od, J, hl⟩ := I.look
 exact PySem.W.method_fn X J (PySem.W.plainGet_of hg).1 (PySem.W.plainGet_of hg).2 hf (beq_iff_eq.mp ht) (by show (PySem.W.lookIn name od).map (·.isSome) = some false; rw [hl, hv]; rfl) h
theorem set_map {ns : List Str} {Q : Unit -> Shared -> Prop} (X : K.In s.heap) (I : ObjM s.heap x dx C mA)
  (hs : PySem.W.findIn K (.ref C) "__setattr__" = some (some (.builtin "object.__setattr__"))) (hp : PySem.W.plainOver K C = true) (ht : PySem.W.takerIn K C name = some none) (hh : PySem.W.hasDictIn K C = true)
  (hw : PySem.Within mA ns) (hsz : ns.length <= sizeLine)
  (h : ∀ h', ObjM h' x dx C (fun y => if y = name then some v else mA y) -> Heap.SameBut dx s.heap h' -> Q () { s with heap := h', toks := s.toks + 2 }) :
  wpAny (model prog w) A (setAttr (.ref x) name v) Q E s := by
 obtain ⟨od, J, hl⟩ := I.look
 refine PySem.W.set_plain X J hs (PySem.W.osa_open (s := { s with toks := s.toks + 1 }) (r := none) X J hp ht fun b => ?_)
 obtain ⟨cd, hc, hd'⟩ := PySem.W.any_some hh
 have hx : s.heap.get? x = some ⟨.ref C, some dx, .plain, #[]⟩ := I.obj
 refine wpAny_bind (wpAny_pure (wpAny_bind (wpAny_bind (wpAny_loadPart hx (wpAny_bind (PySem.W.Looks.here (s := { s with toks := s.toks + 1 }) (PySem.W.looks_clsIn X hc) ?_))))))
 rw [hd']
 refine wpAny_pure (a := some dx) (wpAny_bind (wpAny_pure (wpAny_bind ?_)))
 refine wpAny_nsSet1 (s := { s with toks := s.toks + 1 }) I.ns fun h' hn2 hs2 => ?_
 obtain ⟨oD, esD, epD, hoD, hdD, hcD⟩ := hn2.count (PySem.Within.cons name v hw)
 refine wpAny_bind (wpAny_lookBehind hoD (by rw [hdD]; exact pastItsLine_dict (Nat.le_trans hcD (by rw [List.length_cons]; omega))) ?_)
 exact wpAny_pure (h _ ⟨(hs2.2 _ (Ne.symm I.ne)).trans I.obj, hn2, I.ne⟩ hs2)
theorem make_map {R : Result -> Shared -> Prop} {vs : List Value} {kw : List (Str × Value)} (X : K.In s.heap) (hm : PySem.W.makesIn K C = true)
  (hi : PySem.W.findIn K (.ref C) "__init__" = some (some (.ref f))) (hf : PySem.W.typeIn K (.ref f) = some (.type "function"))
  (h : codeAny (model prog w) (A.under (.builtin "type.__call__" ⟨.ref C :: vs, kw⟩)) (.call (.ref f) ⟨.ref (s.heap.objs.size + 1) :: vs, kw⟩) (PySem.W.InitBack (s.heap.objs.size + 1) R)
   { s with heap := (s.heap.push PySem.W.emptyDict).push (PySem.W.instObj C s.heap.objs.size) }) :
  codeAny (model prog w) A (.call (.ref C) ⟨vs, kw⟩) R s := by
 obtain ⟨hh, g, d, t, os⟩ := s
 exact PySem.W.make_core (PySem.W.makes_of X hm) (PySem.W.looks_findIn X hi) (fun self => PySem.W.bind_fn X self hf) (.inl rfl) h
end
noncomputable def putF (f : Str) (v : V) : List (Str × V) -> List (Str × V)
 | [] => [(f, v)]
 | (g, x) :: r => if g = f then (g, v) :: r else (g, x) :: putF f v r
theorem lookup_putF (f g : Str) (v : V) : ∀ fs : List (Str × V), (putF f v fs).lookup g = if g = f then some v else fs.lookup g
 | [] => by
  show List.lookup g [(f, v)] = _
  by_cases h : g = f
  ·have hb : (g == f) = true := beq_iff_eq.mpr h
   simp only [List.lookup, hb, if_pos h]
  ·have hb : (g == f) = false := beq_eq_false_iff_ne.mpr h
   simp only [List.lookup, hb, if_neg h]
 | (k, x) :: r => by
  have ih := lookup_putF f g v r
  rw [show putF f v ((k, x) :: r) = (if k = f then (k, v) :: r else (k, x) :: putF f v r) from rfl]
  by_cases hk : k = f
  ·rw [if_pos hk]
   by_cases h : g = k
   ·have hb : (g == k) = true := beq_iff_eq.mpr h
    simp only [List.lookup, hb, if_pos (h.trans hk)]
   ·have hb : (g == k) = false := beq_eq_false_iff_ne.mpr h
    simp only [List.lookup, hb, if_neg (fun e : g = f => h (e.trans hk.symm))]
  ·rw [if_neg hk]
   by_cases h : g = k
   ·have hb : (g == k) = true := beq_iff_eq.mpr h
    simp only [List.lookup, hb, if_neg (fun e : g = f => hk (h.symm.trans e))]
   ·have hb : (g == k) = false := beq_eq_false_iff_ne.mpr h
    simp only [List.lookup, hb]
    exact ih
theorem keys_putF (f : Str) (v : V) : ∀ fs : List (Str × V), f ∈ (putF f v fs).map (·.1) /\ ∀ g, g ∈ fs.map (·.1) -> g ∈ (putF f v fs).map (·.1)
 | [] => ⟨by simp [putF], fun g h => by simp at h⟩
 | (k, x) :: r => by
  obtain ⟨i1, i2⟩ := keys_putF f v r
  rw [show putF f v ((k, x) :: r) = (if k = f then (k, v) :: r else (k, x) :: putF f v r) from rfl]
  by_cases hk : k = f
  ·rw [if_pos hk]
   subst hk
   exact ⟨by simp, fun g h => by simpa using h⟩
  ·rw [if_neg hk]
   refine ⟨?_, fun g h => ?_⟩
   ·rw [List.map_cons]
    exact List.mem_cons_of_mem _ i1
   ·rw [List.map_cons] at h ⊢
    rcases List.mem_cons.mp h with e | e
    ·exact List.mem_cons.mpr (.inl e)
    ·exact List.mem_cons_of_mem _ (i2 g e)
theorem length_putF (f : Str) (v : V) : ∀ fs : List (Str × V), (putF f v fs).length <= fs.length + 1
 | [] => by simp [putF]
 | (k, x) :: r => by
  have ih := length_putF f v r
  rw [show putF f v ((k, x) :: r) = (if k = f then (k, v) :: r else (k, x) :: putF f v r) from rfl]
  by_cases hk : k = f
  ·rw [if_pos hk, List.length_cons, List.length_cons]; omega
  ·rw [if_neg hk, List.length_cons, List.length_cons]; omega
theorem RelO.some_of {v : V} {o : Option Value} (r : RelO (some v) o) : ∃ u, o = some u /\ RelV v u := by
 cases o with
 | none => exact (show False from r).elim
 | some u => exact ⟨u, rfl, r⟩
theorem RelO.none_of {o : Option Value} (r : RelO none o) : o = none := by
 cases o with
 | none => rfl
 | some u => exact (show False from r).elim
theorem handed_of {v : V} {u : Value} (r : RelV v u) : PySem.W.handedIn u = true := by
 cases v with
 | non => cases (show u = Value.none from r); rfl
 | bl b => cases (show u = Value.bool b from r); rfl
 | int i => obtain ⟨t, e⟩ := (show ∃ t, u = Value.int i t from r); cases e; rfl
 | str x => obtain ⟨t, e⟩ := (show ∃ t, u = Value.str x t from r); cases e; rfl
 | byt b => obtain ⟨t, e⟩ := (show ∃ t, u = Value.bytes b t from r); cases e; rfl
 | flt b => obtain ⟨t, e⟩ := (show ∃ t, u = Value.float b t from r); cases e; rfl
 | ref a => cases (show u = Value.ref a from r); rfl
 | ty n => cases (show u = Value.type n from r); rfl
section
variable {P : Program} {w : World} {H H' : Hp} {h h' : Heap} {a C dx : Addr} {fs fs' : List (Str × V)}
theorem ins_get (hok : HOk P w H h) (e : H a = some (.ins C dx fs)) : ∃ mA, ObjM h a dx C mA /\ (∀ f, RelO (fs.lookup f) (mA f)) /\ PySem.Within mA (fs.map (·.1)) /\ fs.length <= 1000 /\ H dx = some (.own a) := by
 obtain ⟨d, z, ne, ob, mA, n, r, q⟩ := (show ObjOk P w H h a (.ins C dx fs) from hok a _ e)
 exact ⟨mA, ⟨ob, n, ne⟩, r, q, z, d⟩
end
structure Cls (K : PySem.W.Frag) (C : Addr) : Prop where
 pg : PySem.W.plainGet K C Str.empty = true
 hd : PySem.W.hasDictIn K C = true
 po : PySem.W.plainOver K C = true
 sa : PySem.W.findIn K (.ref C) "__setattr__" = some (some (.builtin "object.__setattr__"))
theorem Cls.get {K : PySem.W.Frag} {C : Addr} (c : Cls K C) (f : Str) : PySem.W.plainGet K C f = true := c.pg
noncomputable def NoAttr (K : PySem.W.Frag) (C : Addr) (f : Str) : Prop := PySem.W.findIn K (.ref C) f = some none
theorem NoAttr.taker {K : PySem.W.Frag} {C : Addr} {f : Str} (n : NoAttr K C f) : PySem.W.takerIn K C f = some none := by
 unfold PySem.W.takerIn
 rw [show PySem.W.findIn K (.ref C) f = some none from n]
 rfl
structure Meth (K : PySem.W.Frag) (C : Addr) (m : Str) (f : Addr) : Prop where
 at_ : PySem.W.findIn K (.ref C) m = some (some (.ref f))
 fn : PySem.W.isFn K (.ref f) = true
 kp : PySem.W.keepIn K (.ref f) = true
section
variable {X : Cx} {pins : List (Addr × Obj)} {σ : St} {H : Hp} {s : Shared} {a C dx : Addr} {fs : List (Str × V)} {f : Str} {v : V} {A : Around} {E : Value -> Shared -> Prop}
theorem getattr_ok {b : Bool} {Q : Value -> Shared -> Prop} (I : Inv X pins σ H s) (e : H a = some (.ins C dx fs)) (c : Cls X.K C) (n : NoAttr X.K C f) (l : fs.lookup f = some v)
  (h : ∀ u s', Inv X pins σ H s' -> RelV v u -> Q u s') : wpAny (model X.prog X.w) A (getAttr (.ref a) f b) Q E s := by
 obtain ⟨mA, O, r, _, _, _⟩ := ins_get I.hok e
 obtain ⟨u, hu, ru⟩ := RelO.some_of (v := v) (o := mA f) (by rw [<- l]; exact r f)
 exact get_map I.kIn O (c.get f) c.hd n hu (handed_of ru) (h u _ (I.tok _) ru)
theorem getmeth_ok {m : Str} {g : Addr} {pl : Sem Bool} {Q : Value × List Value -> Shared -> Prop} (I : Inv X pins σ H s) (e : H a = some (.ins C dx fs)) (c : Cls X.K C) (k : Meth X.K C m g) (l : fs.lookup m = none)
  (h : Q (.ref g, [.ref a]) s) : wpAny (model X.prog X.w) A (getMethod (.ref a) m pl) Q E s := by
 obtain ⟨mA, O, r, _, _, _⟩ := ins_get I.hok e
 have hn : mA m = none := RelO.none_of (by rw [<- l]; exact r m)
 exact get_meth I.kIn O (c.get m) k.at_ k.fn hn h
theorem setattr_ok {y : V} {u : Value} {Q : Unit -> Shared -> Prop} (I : Inv X pins σ H s) (e : H a = some (.ins C dx fs)) (c : Cls X.K C) (n : NoAttr X.K C f) (hl : fs.length < 1000) (ry : RelV y u)
  (h : ∀ s', Inv X pins σ (upd H a (.ins C dx (putF f y fs))) s' -> Q () s') : wpAny (model X.prog X.w) A (setAttr (.ref a) f u) Q E s := by
 obtain ⟨mA, O, r, wi, _, ho⟩ := ins_get I.hok e
 have hz : (fs.map (·.1)).length <= sizeLine := by rw [List.length_map, sizeLine_eq]; omega
 refine set_map I.kIn O c.sa c.po n.taker c.hd wi hz fun h' O' sb => h _ ?_
 have hd : ∃ o, h'.get? dx = some o := by obtain ⟨o, _, _, e', _⟩ := O'.ns; exact ⟨o, e'⟩
 refine I.write (x := a) (e := dx) (by rw [e]; exact True.intro) (.inr ho) (fun b q hb z => (sb.2 b hb).trans z) hd ?_
 refine ⟨by rw [upd_ne O.ne]; exact ho, ?_, O.ne, O'.obj, _, O'.ns, fun g => ?_, fun g hg => ?_⟩
 ·have := length_putF f y fs; omega
 ·show RelO ((putF f y fs).lookup g) (if g = f then some u else mA g)
  rw [lookup_putF]
  by_cases q : g = f
  ·rw [if_pos q, if_pos q]; exact ry
  ·rw [if_neg q, if_neg q]; exact r g
 ·by_cases q : g = f
  ·rw [q]; exact (keys_putF f y fs).1
  ·refine (keys_putF f y fs).2 g (wi g fun z => hg ?_)
   show (if g = f then some u else mA g) = none
   rw [if_neg q]; exact z
theorem Inv.made (I : Inv X pins σ H s) : Inv X pins σ (upd (upd H s.heap.objs.size (.own (s.heap.objs.size + 1))) (s.heap.objs.size + 1) (.ins C s.heap.objs.size []))
  { s with heap := (s.heap.push PySem.W.emptyDict).push (PySem.W.instObj C s.heap.objs.size) } := by
 have e1 : (s.heap.push PySem.W.emptyDict).get? s.heap.objs.size = some PySem.W.emptyDict := Heap.get?_push_size s.heap rfl
 have e2 : ((s.heap.push PySem.W.emptyDict).push (PySem.W.instObj C s.heap.objs.size)).get? (s.heap.objs.size + 1) = some (PySem.W.instObj C s.heap.objs.size) := by
  have := Heap.get?_push_size (s.heap.push PySem.W.emptyDict) (o := PySem.W.instObj C s.heap.objs.size) rfl
  rwa [Heap.size_push] at this
 have e3 : (s.heap.push PySem.W.emptyDict).Ns s.heap.objs.size (fun _ => none) := ⟨PySem.W.emptyDict, #[], _, e1, rfl, (fun e he => absurd he (by simp)), fun _ => rfl⟩
 have I1 := I.laid (a := s.heap.objs.size) (o := .own (s.heap.objs.size + 1)) (h' := s.heap.push PySem.W.emptyDict) (t' := s.toks) (fun b u q => Heap.get?_push_of_some _ q) (Nat.le_refl _) ⟨_, e1⟩
 refine I1.laid (a := s.heap.objs.size + 1) (o := .ins C s.heap.objs.size []) (t' := s.toks) (fun b u q => Heap.get?_push_of_some _ q) (Nat.le_of_eq (Heap.size_push _ _)) ?_
 have ne : s.heap.objs.size ≠ s.heap.objs.size + 1 := Nat.ne_of_lt (Nat.lt_succ_self _)
 refine ⟨by rw [upd_ne ne, upd_same], Nat.zero_le _, ne, e2, fun _ => none, (Heap.Ns1.of_empty e3).at fun o q => Heap.get?_push_of_some _ q, fun _ => True.intro, fun y hy => absurd rfl hy⟩
theorem attr_of {prog : Program} {w : World} {env : Env} {e : Expr} {f : Str} {pos : Pos} {s : Shared} {Q : Value -> Shared -> Prop} (hb : attributeBase e f env (eval e env) = eval e env)
  (h : wpAny (model prog w) A (eval e env) (fun o s₁ => wpAny (model prog w) A (getAttr o f true) Q E s₁) E s) : wpAny (model prog w) A (eval (.Attribute e f pos) env) Q E s :=
 Attribute_any_ h (by rw [arm_eval_Attribute, hb])
end
noncomputable def tFld (K : PySem.W.Frag) (ta : TE) (f : Str) : TE := fun σ H Q => ta σ H fun x H1 => ∃ a C dx fs v, x = .ref a /\ H1 a = some (.ins C dx fs) /\ Cls K C /\ NoAttr K C f /\ fs.lookup f = some v /\ Q v H1
noncomputable def sFld (K : PySem.W.Frag) (ta tv : TE) (f : Str) : TS := fun D σ H => tv σ H fun y H1 => ta σ H1 fun x H2 => ∃ a C dx fs, x = .ref a /\ H2 a = some (.ins C dx fs) /\ Cls K C /\ NoAttr K C f /\ fs.length < 1000 /\
 D.nx σ (upd H2 a (.ins C dx (putF f y fs)))
section
variable {X : Cx} {o e value : Expr} {f : Str} {pos pos' tpos : Pos} {ta tv : TE}
theorem pe_fld (he : PE X e ta) (hb : attributeBase e f X.env (eval e X.env) = eval e X.env) : PE X (.Attribute e f pos) (tFld X.K ta f) := by
 intro pins s σ H Q I h
 refine attr_of hb (thn (he pins s σ H _ I h) fun u s1 hsl23 => ?_)
 obtain ⟨x, H1, I1, rx, a, C, dx, fs, v, ex, ea, c, n, l, q⟩ := hsl23
 subst ex
 obtain rfl : u = Value.ref a := rx
 exact getattr_ok I1 ea c n l fun u' s2 I2 ru => ⟨v, H1, I2, ru, q⟩
theorem ps_fld (ha : PE X o ta) (hv : PE X value tv) (hs : swapsWith value (some (.Attribute o f pos')) pos.line X.env = pure false) : PS X (.Assign [.Attribute o f pos'] value pos) (sFld X.K ta tv f) := by
 intro pins s σ H D I h
 refine plainObj_wpAny_Assign_Attribute (thn (hv pins s σ H _ I h) fun u s1 ⟨y, H1, I1, ry, q⟩ => thn (ha pins s1 σ H1 _ I1 q) fun ov s2 hsl24 => ?_) hs
 obtain ⟨x, H2, I2, rx, a, C, dx, fs, ex, ea, c, n, l, q2⟩ := hsl24
 subst ex
 obtain rfl : ov = Value.ref a := rx
 exact setattr_ok I2 ea c n l ry fun s3 I3 => ⟨σ, _, I3, q2⟩
end
section
variable {X : Cx} {pins : List (Addr × Obj)} {σ : St} {H : Hp} {s : Shared} {A : Around} {E : Value -> Shared -> Prop} {Q : Value -> Shared -> Prop} {c : Value} {b : Bool}
inductive TyOf (K : PySem.W.Frag) (H : Hp) : V -> Value -> Prop where
 | non : TyOf K H .non (.type "NoneType")
 | bl (x : Bool) : TyOf K H (.bl x) (.type "bool")
 | int (i : Int) : TyOf K H (.int i) (.type "int")
 | str (x : Str) : TyOf K H (.str x) (.type "str")
 | flt (x : UInt64) : TyOf K H (.flt x) (.type "float")
 | lst {a : Addr} {xs : List V} (e : H a = some (.lst xs)) : TyOf K H (.ref a) (.type "list")
 | frz {a : Addr} {o : Obj} {xs : List V} (e : H a = some (.frz o (.lst xs))) : TyOf K H (.ref a) (.type "list")
 | tup {a : Addr} {xs : List V} (e : H a = some (.tup xs)) : TyOf K H (.ref a) (.type "tuple")
 | dK {a : Addr} {kvs : List (Key × V)} (e : H a = some (.dK kvs)) : TyOf K H (.ref a) (.type "dict")
 | dT {a : Addr} {kvs : List (List Key × V)} (e : H a = some (.dT kvs)) : TyOf K H (.ref a) (.type "dict")
 | ins {a C dx : Addr} {fs : List (Str × V)} (e : H a = some (.ins C dx fs)) (cl : Cls K C) (ha : PySem.W.findIn K (.ref C) "__class__" = some (some (.builtin "object.__class__")))
   (hn : PySem.W.specialIn K (.builtin "object.__class__") "__get__" = some (some (.builtin "getset_descriptor.__get__"))) (htk : PySem.W.takesIn K (.builtin "object.__class__") = some true)
   (hm : PySem.W.mroIn K C (.type "object") = some true) : TyOf K H (.ref a) (.ref C)
theorem isinst_ok {x : V} {u t : Value} (I : Inv X pins σ H s) (rx : RelV x u) (ty : TyOf X.K H x t) (e : PySem.W.kitOne X.K t c = some b) (h : ∀ tk, Q (.bool b) { s with toks := tk }) :
  wpAny (model X.prog X.w) A (call (.builtin "isinstance") [u, c]) Q E s := by
 cases ty with
 | non => cases (show u = Value.none from rx); exact PySem.W.kia_one PySem.W.kitx_none I.kIn True.intro e (fun z => nomatch z) h
 | bl y => cases (show u = Value.bool y from rx); exact PySem.W.kia_one PySem.W.kitx_bool I.kIn True.intro e (fun z => nomatch z) h
 | int i => obtain ⟨t, q⟩ := (show ∃ t, u = Value.int i t from rx); cases q; exact PySem.W.kia_one PySem.W.kitx_int I.kIn True.intro e (fun z => nomatch z) h
 | str y => obtain ⟨t, q⟩ := (show ∃ t, u = Value.str y t from rx); cases q; exact PySem.W.kia_one PySem.W.kitx_str I.kIn True.intro e (fun z => nomatch z) h
 | flt y => obtain ⟨t, q⟩ := (show ∃ t, u = Value.float y t from rx); cases q; exact PySem.W.kia_one PySem.W.kitx_float I.kIn True.intro e (fun z => nomatch z) h
 | @lst a xs ea =>
  cases (show u = Value.ref a from rx)
  obtain ⟨_, _, n, _, h1⟩ := (show ObjOk X.prog X.w H s.heap a (.lst xs) from I.hok a _ ea)
  exact PySem.W.kia_one PySem.W.kitx_list I.kIn ⟨_, h1, rfl⟩ e (fun z => nomatch z) h
 | @frz a ob xs ea =>
  cases (show u = Value.ref a from rx)
  obtain ⟨_, _, _, n, _, h1⟩ := (show ObjOk X.prog X.w H s.heap a (.frz ob (.lst xs)) from I.hok a _ ea)
  exact PySem.W.kia_one PySem.W.kitx_list I.kIn ⟨_, h1, rfl⟩ e (fun z => nomatch z) h
 | @tup a xs ea =>
  cases (show u = Value.ref a from rx)
  obtain ⟨_, _, _, p⟩ := (show ObjOk X.prog X.w H s.heap a (.tup xs) from I.hok a _ ea)
  obtain ⟨o, h1, h2, _⟩ := p
  exact PySem.W.kia_one PySem.W.kitx_tuple I.kIn ⟨o, h1, h2⟩ e (fun z => nomatch z) h
 | @dK a kvs ea =>
  cases (show u = Value.ref a from rx)
  obtain ⟨_, _, vs, _, p⟩ := (show ObjOk X.prog X.w H s.heap a (.dK kvs) from I.hok a _ ea)
  obtain ⟨o, es, ep, h1, h2, _⟩ := p
  exact PySem.W.kia_one PySem.W.kitx_dict I.kIn ⟨o, h1, h2.1⟩ e (fun z => nomatch z) h
 | @dT a kvs ea =>
  cases (show u = Value.ref a from rx)
  obtain ⟨_, _, xs, _, o, es, ep, h1, h2, _⟩ := (show ObjOk X.prog X.w H s.heap a (.dT kvs) from I.hok a _ ea)
  exact PySem.W.kia_one PySem.W.kitx_dict I.kIn ⟨o, h1, h2.1⟩ e (fun z => nomatch z) h
 | @ins a C dx fs ea cl ha hn htk hm =>
  cases (show u = Value.ref a from rx)
  obtain ⟨mA, O, _⟩ := ins_get I.hok ea
  obtain ⟨od, J, _⟩ := O.look
  exact PySem.W.kia_one (PySem.W.kitx_own (cl.get _) cl.hd ha hn htk hm) I.kIn J e (fun z => nomatch z) h
end
end L2
namespace L2
open PySem PySem.Spec PyProof.Rows
structure Room (k : Nat) (A : Around) : Prop where
 hd : A.handled = none
 dp : A.depth + 3 * k + 5 < recursionLimit
 un : A.units + 16 * k + 200 < cLine
theorem Room.mono {j k : Nat} {A : Around} (r : Room k A) (h : j <= k) : Room j A := ⟨r.hd, by have := r.dp; omega, by have := r.un; omega⟩
theorem Room.deeper {k : Nat} {A : Around} (r : Room (k + 1) A) (env : Env) : Room k (A.deeper env) :=
 ⟨r.hd, by have := r.dp; show A.depth + 1 + 3 * k + 5 < _; omega, by have := r.un; show A.units + 3 + 16 * k + 200 < _; omega⟩
theorem Room.in1 {k : Nat} {A : Around} (r : Room (k + 1) A) : Room k A.in1 :=
 ⟨r.hd, by have := r.dp; show A.depth + 3 * k + 5 < _; omega, by have := r.un; show A.units + 1 + 16 * k + 200 < _; omega⟩
theorem make_depth {A : Around} {C : Addr} {us : List Value} {kw : List (Str × Value)} : (A.under (.builtin "type.__call__" ⟨.ref C :: us, kw⟩)).depth = A.depth + 1 := by
 first | rfl | simp [Around.under, Code.weight, Code.isCreation, Code.isGuard, Code.isCaller, Code.frames, Code.isFrame, guardIds]
theorem make_units {A : Around} {C : Addr} {us : List Value} {kw : List (Str × Value)} : (A.under (.builtin "type.__call__" ⟨.ref C :: us, kw⟩)).units = A.units + 1 := by
 first | rfl | simp [Around.under, Code.cUnits, Code.frames, Code.isFrame]
theorem Room.make {k : Nat} {A : Around} (r : Room (k + 1) A) (C : Addr) (us : List Value) (kw : List (Str × Value)) : Room k (A.under (.builtin "type.__call__" ⟨.ref C :: us, kw⟩)) :=
 ⟨r.hd, by have := r.dp; rw [make_depth]; omega, by have := r.un; rw [make_units]; omega⟩
theorem Room.depth {k : Nat} {A : Around} (r : Room k A) : A.depth < recursionLimit := by have := r.dp; omega
theorem Room.units {k : Nat} {A : Around} (r : Room k A) : A.units + 64 < cLine := by have := r.un; omega
noncomputable def tNil : TA := fun _ H Q => Q [] H
noncomputable def tCons (ta : TE) (tr : TA) : TA := fun σ H Q => ta σ H fun x H1 => tr σ H1 fun xs H2 => Q (x :: xs) H2
section
variable {X : Cx} {e : Expr} {es : List Expr} {te : TE} {t : TA} {pos : Pos}
theorem pa_nil : PA X [] tNil := fun _ _ _ _ H Q I h => Calls.spliced_nil ⟨[], H, I, .nil, h⟩
theorem pa_cons (ha : PE X e te) (hr : PA X es t) (hs : starEach (e :: es) X.env = (false, eval e X.env) :: starEach es X.env := by rfl) : PA X (e :: es) (tCons te t) := by
 intro pos pins s σ H Q I h
 rw [hs]
 show wpAny _ _ (spliced ((false, eval e X.env) :: backTo pos (starEach es X.env))) _ _ s
 refine Calls.spliced_cons (thn (ha pins s σ H _ I h) fun u s1 hsl26 => ?_)
 obtain ⟨x, H1, I1, r1, q1⟩ := hsl26
 exact thn (hr pos pins s1 σ H1 _ I1 q1) fun us s2 hsl27 => by obtain ⟨xs, H2, I2, r2, q2⟩ := hsl27; exact ⟨x :: xs, H2, I2, .cons r1 r2, q2⟩
noncomputable def tTup (t : TA) : TE := fun σ H Q => t σ H fun xs H1 => xs.length <= sizeLine /\ ∀ p, H1 p = none -> Q (.ref p) (upd H1 p (.tup xs))
noncomputable def tLst (t : TA) : TE := fun σ H Q => t σ H fun xs H1 => xs.length <= sizeLine /\ ∀ p, H1 p = none -> Q (.ref p) (upd H1 p (.lst xs))
theorem pe_tup {x1} (h : PA X es t) : PE X (.Tuple es x1 pos) (tTup t) := by
 intro pins s σ H Q I hq
 refine wpAny_Tuple_spliced (thn (h pos pins s σ H _ I hq) fun us s1 ⟨xs, H1, I1, r, z, q⟩ => ⟨by rw [<- r.length]; exact z, ?_⟩)
 have hf : H1 s1.heap.objs.size = none := I1.hok.fresh (Nat.le_refl _)
 refine ⟨.ref s1.heap.objs.size, upd H1 s1.heap.objs.size (.tup xs), I1.laid (t' := s1.toks) (fun b u e => Heap.get?_push_of_some _ e) (Nat.le_refl _) ?_, rfl, q _ hf⟩
 exact ⟨z, us, r, ⟨_, Heap.get?_push_size _ rfl, rfl, _, rfl⟩⟩
theorem pe_lst (h : PA X es t) : PE X (.List es pos) (tLst t) := by
 intro pins s σ H Q I hq
 refine wpAny_List_spliced (thn (h pos pins s σ H _ I hq) fun us s1 ⟨xs, H1, I1, r, z, q⟩ => ⟨by rw [<- r.length]; exact z, ?_⟩)
 have hf : H1 s1.heap.objs.size = none := I1.hok.fresh (Nat.le_refl _)
 refine ⟨.ref s1.heap.objs.size, upd H1 s1.heap.objs.size (.lst xs), I1.laid (t' := s1.toks) (fun b u e => Heap.get?_push_of_some _ e) (Nat.le_refl _) ?_, rfl, q _ hf⟩
 exact ⟨z, us, 0, r, Heap.get?_push_size _ rfl⟩
end
noncomputable abbrev Sp := List V -> Hp -> VK -> XK -> Prop
noncomputable abbrev CXT := List Env -> Hp -> Shared -> XK -> Value -> Shared -> Prop
structure Env0 (P : Program) (w : World) (K : PySem.W.Frag) (mg : Str -> Option Value) (base : Heap) (A : Around) (outer : List Env) (s : Shared) (H : Hp) : Prop where
 frames : A.frames = some outer
 mod : Mod K mg base
 bs : ∀ b o, base.get? b = some o -> s.heap.get? b = some o /\ H b = none
 bsz : base.objs.size <= s.heap.objs.size
 funs : s.heap.FunFrames base outer
 frf : ∀ b ∈ frs outer, H b = none
 hok : HOk P w H s.heap
 bare : AllBare s.gens
noncomputable def CE (outer : List Env) (P : Program) (w : World) (H : Hp) (s : Shared) (Q : VK) (u : Value) (s' : Shared) : Prop :=
 ∃ v H', s'.os = s.os /\ AllBare s'.gens /\ Un (frs outer) [] H H' s.heap s'.heap /\ HOk P w H' s'.heap /\ RelV v u /\ Q v H'
noncomputable def CR (CX : CXT) (outer : List Env) (P : Program) (w : World) (H : Hp) (s : Shared) (Q : VK) (E : XK) (r : Result) (s' : Shared) : Prop :=
 match r with
 | .ok (.ret u) => CE outer P w H s Q u s'
 | .ok _ => False
 | .error e => CX outer H s E e s'
structure FnOk (P : Program) (w : World) (K : PySem.W.Frag) (mg : Str -> Option Value) (base : Heap) (CX : CXT) (k : Nat) (f : Addr) (fd : FuncData) (ps : List Str) (sp : Sp) : Prop where
 len : ∀ vs H Q E, sp vs H Q E -> vs.length = ps.length
 run : ∀ (A : Around) (outer : List Env) (s : Shared) (H : Hp) (args : Args) (us : List Value) (vs : List V) (Q : VK) (E : XK), Room k A -> Env0 P w K mg base A outer s H -> BindsTo s fd args (ps.zip us) -> Vals vs us -> sp vs H Q E ->
  codeAny (model P w) A (.call (.ref f) args) (CR CX outer P w H s Q E) s
theorem Env0.make {P : Program} {w : World} {K : PySem.W.Frag} {mg : Str -> Option Value} {base : Heap} {A : Around} {outer : List Env} {s : Shared} {H : Hp} (e : Env0 P w K mg base A outer s H) (C : Addr) (us : List Value) (kw : List (Str × Value)) :
  Env0 P w K mg base (A.under (.builtin "type.__call__" ⟨.ref C :: us, kw⟩)) outer s H := ⟨by first | exact e.frames | (simpa [Around.under, Code.envs, Code.isFrame, pushEnvs] using e.frames), e.mod, e.bs, e.bsz, e.funs, e.frf, e.hok, e.bare⟩
theorem Env0.in1 {P : Program} {w : World} {K : PySem.W.Frag} {mg : Str -> Option Value} {base : Heap} {A : Around} {outer : List Env} {s : Shared} {H : Hp} (e : Env0 P w K mg base A outer s H) :
  Env0 P w K mg base A.in1 outer s H := ⟨e.frames, e.mod, e.bs, e.bsz, e.funs, e.frf, e.hok, e.bare⟩
section
variable {X : Cx} {pins : List (Addr × Obj)} {σ : St} {H : Hp} {s s' : Shared}
theorem Inv.env0 (I : Inv X pins σ H s) : Env0 X.prog X.w X.K X.mg X.base X.A X.stack s H :=
 ⟨I.ok.frames, I.ok.mod, I.bs, Nat.le_trans I.ok.bsz I.sz, I.stack, I.stkFree, I.hok, I.bare⟩
theorem Inv.after {Q : VK} {u : Value} (I : Inv X pins σ H s) (h : CE X.stack X.prog X.w H s Q u s') : EP X pins σ Q u s' := by
 obtain ⟨v, H', os, bare, un, hok, r, q⟩ := h
 obtain ⟨hh, g, d, t, os'⟩ := s'
 obtain rfl : os' = s.os := os
 exact ⟨v, H', I.call (h' := hh) (g' := g) (d' := d) (t' := t) (ch := []) un hok bare (fun b z => absurd z (by simp)), r, q⟩
end
noncomputable def tCall (sp : Sp) (dvs : List V) (E : XK) (t : TA) : TE := fun σ H Q => t σ H fun vs H1 => sp (vs ++ dvs) H1 Q E
noncomputable def tMeth (C : Addr) (m : Str) (sp : Sp) (dvs : List V) (E : XK) (ta : TE) (t : TA) : TE := fun σ H Q => ta σ H fun x H1 => ∃ a dx fs, x = .ref a /\ H1 a = some (.ins C dx fs) /\ fs.lookup m = none /\
 t σ H1 fun vs H2 => sp (x :: (vs ++ dvs)) H2 Q E
noncomputable def tMake (C : Addr) (sp : Sp) (dvs : List V) (E : XK) (t : TA) : TE := fun σ H Q => t σ H fun vs H1 => ∀ x dx, H1 x = none -> H1 dx = none -> dx ≠ x ->
 sp (.ref x :: (vs ++ dvs)) (upd (upd H1 dx (.own x)) x (.ins C dx [])) (fun v H2 => v = .non /\ Q (.ref x) H2) E
noncomputable def Binds (K : PySem.W.Frag) (fd : FuncData) (ps : List Str) (ds : List Value) : Prop :=
 ∀ (s : Shared) (us : List Value), K.In s.heap -> (us ++ ds).length = ps.length -> BindsTo s fd ⟨us, []⟩ (ps.zip (us ++ ds))
theorem Binds.all {K : PySem.W.Frag} {fd : FuncData} {ps : List Str} (h : ∀ us : List Value, us.length = ps.length -> bindArgs fd ⟨us, []⟩ = pure (ps.zip us)) : Binds K fd ps [] := fun s us _ hl => by
 rw [List.append_nil] at hl ⊢
 exact .of_eq (h us hl)
noncomputable def Passes (CX : CXT) (X : Cx) (E : XK) : Prop := ∀ (pins : List (Addr × Obj)) (σ : St) (H : Hp) (s : Shared) (e : Value) (s' : Shared), Inv X pins σ H s -> CX X.stack H s E e s' -> X.xe e s'
section
variable {X : Cx} {CX : CXT} {k : Nat} {f C : Addr} {fd : FuncData} {ps : List Str} {sp : Sp} {dvs : List V} {ds : List Value} {E : XK} {x m : Str} {p pos apos : Pos} {e o : Expr} {es : List Expr} {ta : TE} {t : TA}
theorem run_fn {pins : List (Addr × Obj)} {σ : St} {H : Hp} {s : Shared} {Q : VK} {us : List Value} {vs : List V} (F : FnOk X.prog X.w X.K X.mg X.base CX k f fd ps sp) (hr : Room k X.A) (hb : Binds X.K fd ps ds) (hd : Vals dvs ds) (hx : Passes CX X E)
  (I : Inv X pins σ H s) (r : Vals vs us) (h : sp (vs ++ dvs) H Q E) : wpAny (model X.prog X.w) X.A (call (.ref f) us) (EP X pins σ Q) X.xe s := by
 have r2 : Vals (vs ++ dvs) (us ++ ds) := r.append hd
 have hl : (us ++ ds).length = ps.length := by rw [<- r2.length]; exact F.len _ _ _ _ h
 refine wpAny_call (codeAny_mono (F.run X.A X.stack s H ⟨us, []⟩ (us ++ ds) (vs ++ dvs) Q E hr I.env0 (hb s us I.kIn hl) r2 h) fun r s' hq => ?_)
 cases r with
 | error e => exact hx pins σ H s e s' I hq
 | ok fl =>
  cases fl with
  | ret u => exact I.after hq
  | next => exact False.elim hq
  | brk => exact False.elim hq
  | cont => exact False.elim hq
theorem pe_call (F : FnOk X.prog X.w X.K X.mg X.base CX k f fd ps sp) (hr : Room k X.A) (hg : Gl X x) (hm : X.mg x = some (.ref f)) (hk : PySem.W.keepIn X.K (.ref f) = true) (hb : Binds X.K fd ps ds) (hd : Vals dvs ds) (hx : Passes CX X E)
  (ha : PA X (e :: es) t) (hdb : (x == ("__debug__" : Str)) = false := by decide) (he : starEach (e :: es) X.env = (false, eval e X.env) :: starEach es X.env := by rfl) (hpl : (backTo pos (starEach es X.env)).any (·.1) = false := by rfl) :
  PE X (.Call (.Name x p) (e :: es) [] pos) (tCall sp dvs E t) := by
 intro pins s σ H Q I h
 refine wpAny_Call_Name_kw (ld_glob I hg hm ?_ hdb)
 refine PySem.W.callWith_K (h₀ := X.base) I.ok.mod.kin hk (thn (ha pos pins s σ H _ I h) fun us s1 ⟨vs, H1, I1, r, q⟩ => ⟨I1.kIn, ?_⟩) he hpl
 exact run_fn F hr hb hd hx I1 r q
theorem pe_meth {pl : Sem Bool} (he : PE X o ta) (c : Cls X.K C) (hm : Meth X.K C m f) (F : FnOk X.prog X.w X.K X.mg X.base CX k f fd ps sp) (hr : Room k X.A) (hb : Binds X.K fd ps ds) (hd : Vals dvs ds) (hx : Passes CX X E) (ha : PA X (e :: es) t)
  (hst : starEach (e :: es) X.env = (false, eval e X.env) :: starEach es X.env := by rfl) (hpl : (backTo pos (starEach es X.env)).any (·.1) = false := by rfl)
  (ht : eval (.Call (.Attribute o m apos) (e :: es) [] pos) X.env = (do
   let ov <- eval o X.env
   standAt apos.atName
   let (f, first) <- holding [ov] (getMethod ov m pl)
   callWith pos f first (backTo pos (starEach (e :: es) X.env)) (backToKw pos (keywordEach [] X.env))) := by rfl) :
  PE X (.Call (.Attribute o m apos) (e :: es) [] pos) (tMeth C m sp dvs E ta t) := by
 intro pins s σ H Q I h
 refine PySem.W.methodCall_KW (pl := pl) (thn (he pins s σ H _ I h) fun u s1 hsl28 => ?_) ht
 obtain ⟨x, H1, I1, rx, a, dx, fs, ex, ea, l, q⟩ := hsl28
 subst ex
 obtain rfl : u = Value.ref a := rx
 refine getmeth_ok I1 ea c hm l ?_
 refine PySem.W.callWith_K (first := [.ref a]) (h₀ := X.base) I.ok.mod.kin hm.kp (thn (ha pos pins s1 σ H1 _ I1 q) fun us s2 ⟨vs, H2, I2, r, q2⟩ => ⟨I2.kIn, ?_⟩) hst hpl
 exact run_fn (us := .ref a :: us) (vs := .ref a :: vs) F hr hb hd hx I2 (.cons rfl r) q2
structure Mk (K : PySem.W.Frag) (C f : Addr) : Prop where
 makes : PySem.W.makesIn K C = true
 init : PySem.W.findIn K (.ref C) "__init__" = some (some (.ref f))
 fn : PySem.W.isFn K (.ref f) = true
 kp : PySem.W.keepIn K (.ref C) = true
theorem run_make {pins : List (Addr × Obj)} {σ : St} {H : Hp} {s : Shared} {Q : VK} {us : List Value} {vs : List V} (M : Mk X.K C f) (F : FnOk X.prog X.w X.K X.mg X.base CX k f fd ps sp) (hr : Room (k + 1) X.A) (hb : Binds X.K fd ps ds) (hd : Vals dvs ds)
  (hx : Passes CX X E) (I : Inv X pins σ H s) (r : Vals vs us)
  (h : ∀ x dx, H x = none -> H dx = none -> dx ≠ x -> sp (.ref x :: (vs ++ dvs)) (upd (upd H dx (.own x)) x (.ins C dx [])) (fun v H2 => v = .non /\ Q (.ref x) H2) E) :
  wpAny (model X.prog X.w) X.A (call (.ref C) us) (EP X pins σ Q) X.xe s := by
 have hq := h (s.heap.objs.size + 1) s.heap.objs.size (I.hok.fresh (Nat.le_succ _)) (I.hok.fresh (Nat.le_refl _)) (Nat.ne_of_lt (Nat.lt_succ_self _))
 have I2 := Inv.made (C := C) I
 have r2 : Vals (V.ref (s.heap.objs.size + 1) :: (vs ++ dvs)) (Value.ref (s.heap.objs.size + 1) :: (us ++ ds)) := .cons rfl (r.append hd)
 have hl : (Value.ref (s.heap.objs.size + 1) :: us ++ ds).length = ps.length := by
  have e := r2.length
  rw [F.len _ _ _ _ hq] at e
  exact e.symm
 refine wpAny_call (make_map (f := f) I.kIn M.makes M.init (beq_iff_eq.mp M.fn) (codeAny_mono (F.run _ X.stack _ _ ⟨Value.ref (s.heap.objs.size + 1) :: us, []⟩ (Value.ref (s.heap.objs.size + 1) :: (us ++ ds)) _ _ E (hr.make C us [])
  (I2.env0.make C us []) (hb _ (Value.ref (s.heap.objs.size + 1) :: us) I2.kIn hl) r2 hq) fun r s' hq' => ?_))
 cases r with
 | error e => exact hx pins σ _ _ e s' I2 hq'
 | ok fl =>
  cases fl with
  | ret u =>
   obtain ⟨v, H', I3, rv, ev, q3⟩ := I2.after hq'
   subst ev
   exact ⟨rv, ⟨V.ref (s.heap.objs.size + 1), H', I3, rfl, q3⟩⟩
  | next => exact False.elim hq'
  | brk => exact False.elim hq'
  | cont => exact False.elim hq'
theorem pe_make (M : Mk X.K C f) (F : FnOk X.prog X.w X.K X.mg X.base CX k f fd ps sp) (hr : Room (k + 1) X.A) (hg : Gl X x) (hm : X.mg x = some (.ref C)) (hb : Binds X.K fd ps ds) (hd : Vals dvs ds) (hx : Passes CX X E)
  (ha : PA X (e :: es) t) (hdb : (x == ("__debug__" : Str)) = false := by decide) (he : starEach (e :: es) X.env = (false, eval e X.env) :: starEach es X.env := by rfl) (hpl : (backTo pos (starEach es X.env)).any (·.1) = false := by rfl) :
  PE X (.Call (.Name x p) (e :: es) [] pos) (tMake C sp dvs E t) := by
 intro pins s σ H Q I h
 refine wpAny_Call_Name_kw (ld_glob I hg hm ?_ hdb)
 refine PySem.W.callWith_K (h₀ := X.base) I.ok.mod.kin M.kp (thn (ha pos pins s σ H _ I h) fun us s1 ⟨vs, H1, I1, r, q⟩ => ⟨I1.kIn, ?_⟩) he hpl
 exact run_make M F hr hb hd hx I1 r q
end
noncomputable def PK (X : Cx) (kws : List Keyword) (t : TA) : Prop :=
 ∀ (pos : Pos) (pins : List (Addr × Obj)) (s : Shared) (σ : St) (H : Hp) (Q : List V -> Hp -> Prop), Inv X pins σ H s -> t σ H Q -> wpAny (model X.prog X.w) X.A (evalAll ((backToKw pos (keywordEach kws X.env)).map (·.2))) (AP X pins σ Q) X.xe s
section
variable {X : Cx} {CX : CXT} {k : Nat} {f C : Addr} {fd : FuncData} {ps ks : List Str} {sp : Sp} {E : XK} {x m : Str} {p pos apos kpos : Pos} {e o : Expr} {es : List Expr} {kws : List Keyword} {te ta : TE} {t tk : TA} {nm : Option Str}
theorem pk_nil : PK X [] tNil := fun _ _ _ _ H Q I h => wpAny_evalAll_nil ⟨[], H, I, .nil, h⟩
theorem pk_cons (ha : PE X e te) (hr : PK X kws t) : PK X (⟨nm, e, kpos⟩ :: kws) (tCons te t) := by
 intro pos pins s σ H Q I h
 show wpAny _ _ (evalAll ((do let v <- eval e X.env; standAt pos; pure v) :: (backToKw pos (keywordEach kws X.env)).map (·.2))) _ _ s
 refine wpAny_evalAll_cons (wpAny_bind (thn (ha pins s σ H _ I h) fun u s1 ⟨x, H1, I1, r1, q1⟩ => wpAny_bind (wpAny_standAt (wpAny_pure ?_))))
 exact thn (hr pos pins s1 σ H1 _ I1 q1) fun us s2 hsl29 => by obtain ⟨xs, H2, I2, r2, q2⟩ := hsl29; exact ⟨x :: xs, H2, I2, .cons r1 r2, q2⟩
variable {g : List Value -> List Value -> List Value} {gV : List V -> List V -> List V}
end
structure FnScope (N P : List Str) (sc : Scope) : Prop where
 kind : sc.kind = .function
 co : sc.isCoroutine = false
 gen : sc.isGenerator = false
 nd : N.Nodup
 pre : N.take P.length = P
 par : ∀ x ∈ P, sc.names.lookup x = some .local ∨ sc.names.lookup x = some .cell
 nofree : ∀ y ∈ sc.names, y.2 ≠ .free
theorem bindL_out {kindOf : Str -> Option NameKind} {x : Str} : ∀ {binds : List (Str × Value)} {m : Str -> Option Value}, (∀ v, (x, v) ∉ binds) -> bindL kindOf binds m x = m x
 | [], _, _ => rfl
 | (n, v) :: r, m, h => by
  unfold bindL
  rw [bindL_out fun w hw => h w (List.mem_cons_of_mem _ hw)]
  split
  ·have : x ≠ n := by rintro rfl; exact h v List.mem_cons_self
   simp [this]
  ·rfl
theorem bindC_out {kindOf : Str -> Option NameKind} {x : Str} : ∀ {binds : List (Str × Value)} {m : Str -> Option Value}, (∀ v, (x, v) ∉ binds) -> bindC kindOf binds m x = m x
 | [], _, _ => rfl
 | (n, v) :: r, m, h => by
  unfold bindC
  rw [bindC_out fun w hw => h w (List.mem_cons_of_mem _ hw)]
  split
  ·rfl
  ·have : x ≠ n := by rintro rfl; exact h v List.mem_cons_self
   simp [this]
theorem bindL_get {kindOf : Str -> Option NameKind} {x : Str} {v : Value} : ∀ {P : List Str} {vs : List Value} {i : Nat} {m : Str -> Option Value}, P.Nodup -> P[i]? = some x -> vs[i]? = some v -> kindOf x = some .local ->
  bindL kindOf (P.zip vs) m x = some v
 | [], _, _, _, _, h, _, _ => by simp at h
 | _ :: _, [], _, _, _, _, h, _ => by simp at h
 | p :: P, w :: vs, 0, m, nd, h1, h2, hk => by
  simp at h1 h2; subst h1; subst h2
  show bindL kindOf ((p, w) :: P.zip vs) m p = _
  unfold bindL
  rw [bindL_out fun v hv => (List.nodup_cons.mp nd).1 (List.of_mem_zip hv).1, if_pos hk]
  simp
 | p :: P, w :: vs, i + 1, m, nd, h1, h2, hk => by
  show bindL kindOf ((p, w) :: P.zip vs) m x = _
  unfold bindL
  exact bindL_get (i := i) (List.nodup_cons.mp nd).2 (by simpa using h1) (by simpa using h2) hk
theorem bindC_get {kindOf : Str -> Option NameKind} {x : Str} {v : Value} : ∀ {P : List Str} {vs : List Value} {i : Nat} {m : Str -> Option Value}, P.Nodup -> P[i]? = some x -> vs[i]? = some v -> kindOf x ≠ some .local ->
  bindC kindOf (P.zip vs) m x = some v
 | [], _, _, _, _, h, _, _ => by simp at h
 | _ :: _, [], _, _, _, _, h, _ => by simp at h
 | p :: P, w :: vs, 0, m, nd, h1, h2, hk => by
  simp at h1 h2; subst h1; subst h2
  show bindC kindOf ((p, w) :: P.zip vs) m p = _
  unfold bindC
  rw [bindC_out fun v hv => (List.nodup_cons.mp nd).1 (List.of_mem_zip hv).1, if_neg hk]
  simp
 | p :: P, w :: vs, i + 1, m, nd, h1, h2, hk => by
  show bindC kindOf ((p, w) :: P.zip vs) m x = _
  unfold bindC
  exact bindC_get (i := i) (List.nodup_cons.mp nd).2 (by simpa using h1) (by simpa using h2) hk
noncomputable def start (N : List Str) (vs : List V) : St := vs.map some ++ List.replicate (N.length - vs.length) none
noncomputable def cxOf (CX : CXT) (P : Program) (w : World) (K : PySem.W.Frag) (mg : Str -> Option Value) (base : Heap) (N : List Str) (qual : Str) (scope : Scope) (f : Addr) (cd : Value) (A : Around) (outer : List Env) (s : Shared) (H : Hp) (E : XK) : Cx where
 prog := P
 w := w
 K := K
 mg := mg
 base := base
 A := A.deeper (envOfC qual scope s.heap.objs.size f cd)
 N := N
 s₀ := s
 H₀ := H
 env := envOfC qual scope s.heap.objs.size f cd
 outer := outer
 stack := envOfC qual scope s.heap.objs.size f cd :: outer
 ex := []
 calm := true
 fn := fun _ => true
 pn := []
 xe := fun e s' => wpAny (model P w) (A.deeper (envOfC qual scope s.heap.objs.size f cd)) (leaving (envOfC qual scope s.heap.objs.size f cd) e) (fun _ s'' => CX outer H s E e s'') (fun e' s'' => CX outer H s E e' s'') s'
theorem cell_has {sc : Scope} {n : Nat} {x : Str} (h : sc.names.lookup x = some .cell) : ∃ c, (cellsFrom n sc.names []).lookup x = some c := by
 have q := PySem.W.cellsFrom_some sc.names n [] (.inl h)
 exact Option.isSome_iff_exists.mp q
theorem inv_start {CX : CXT} {P : Program} {w : World} {K : PySem.W.Frag} {mg : Str -> Option Value} {base : Heap} {N ps : List Str} {qual : Str} {scope : Scope} {f : Addr} {cd : Value} {A : Around} {outer : List Env} {s s1 : Shared} {H : Hp} {E : XK} {us : List Value} {vs : List V}
  (S : FnScope N ps scope) (hd : A.handled = none) (e0 : Env0 P w K mg base A outer s H) (hl : vs.length = ps.length) (r : Vals vs us)
  (x : InCallC s s.heap.objs.size (bindL (envOfC qual scope s.heap.objs.size f cd).kindOf (ps.zip us) fun _ => none) (cellsFrom (s.heap.objs.size + 1) scope.names []) (bindC (envOfC qual scope s.heap.objs.size f cd).kindOf (ps.zip us) fun _ => none) s1) :
  Inv (cxOf CX P w K mg base N qual scope f cd A outer s H E) [] (start N vs) H s1 := by
 have hpl : ps.length <= N.length := by have := congrArg List.length S.pre; rw [List.length_take] at this; omega
 obtain ⟨h1, tk, rfl, hk⟩ := x.done
 have noA : ∀ b : Addr, b ∉ (cxOf CX P w K mg base N qual scope f cd A outer s H E).ex := fun b z => absurd (show b ∈ ([] : List Addr) from z) (by simp)
 refine ⟨⟨e0.mod, S.kind, rfl, rfl, Nat.le_refl _, fun y z c h1 h2 => ?_, fun y hy => ?_, fun y c _ h => ?_, fun _ => hd, Around.frames_deeper e0.frames, .inr ⟨rfl, rfl⟩, fun b z => absurd z (noA b), e0.bs, e0.bsz, fun b _ _ => noA b, fun b z => absurd z (noA b), e0.funs, e0.frf⟩,
  rfl, e0.bare, Un.kept hk, ⟨_, x.toInCall.ns, fun i y v h1 h2 h3 => ?_⟩, fun y c h => ⟨_, x.cell y c h⟩, e0.hok.fresh (Nat.le_refl _), fun y c h => ?_, fun p hp => absurd (show p ∈ ([] : List (Addr × Obj)) from hp) (by simp), e0.hok.kept hk, ?_⟩
 ·exact name_of_addr x.apart (PySem.mem_of_lookup h1) (PySem.mem_of_lookup h2)
 ·have hy : scope.names.lookup y = some .cell ∨ scope.names.lookup y = some .free := hy
  rcases hy with hy | hy
  ·exact cell_has hy
  ·exact absurd rfl (S.nofree _ (PySem.mem_of_lookup hy))
 ·exact Nat.le_of_lt (x.above y c (PySem.mem_of_lookup h))
 ·have hi : i < vs.length := by
   unfold start at h2
   by_cases hi : i < vs.length
   ·exact hi
   ·rw [List.getElem?_append_right (by simpa using hi)] at h2
    rw [List.getElem?_replicate] at h2
    split at h2 <;> cases h2
  have ha : vs[i]? = some v := by
   unfold start at h2
   rw [List.getElem?_append_left (by simpa using hi), List.getElem?_map] at h2
   cases e : vs[i]? with
   | none => rw [e] at h2; cases h2
   | some a => rw [e] at h2; cases h2; rfl
  obtain ⟨u, hu, rv⟩ := r.get ha
  have hp : ps[i]? = some y := by
   rw [<- S.pre, List.getElem?_take_of_lt (by omega)]; exact h1
  have ndP : ps.Nodup := by rw [<- S.pre]; exact S.nd.sublist (List.take_sublist _ _)
  refine ⟨u, rv, ?_⟩
  rcases S.par y (List.mem_of_getElem? hp) with k | k
  ·exact .inl ⟨k, bindL_get ndP hp hu k⟩
  ·obtain ⟨c, e⟩ := cell_has (n := s.heap.objs.size + 1) k
   refine .inr ⟨.inl k, c, e, ?_⟩
   have q := x.cell y c e
   rw [bindC_get ndP hp hu (by show scope.names.lookup y ≠ _; rw [k]; decide)] at q
   exact q
 ·exact e0.hok.fresh (Nat.le_of_lt (x.above y c (PySem.mem_of_lookup h)))
 ·unfold start
  show _ = N.length
  rw [List.length_append, List.length_map, List.length_replicate]
  omega
theorem fn_of {CX : CXT} {P : Program} {w : World} {K : PySem.W.Frag} {mg : Str -> Option Value} {base : Heap} {k : Nat} {f : Addr} {name qual : Str} {params : Arguments} {body : List Stmt} {scope : Scope} {dV kV doc pm cdv ct oc : Value} {an od : Option Addr}
  {osl : Array (Option Value)} {N ps : List Str} {sp : Sp} (lk : K.lookup f = some ⟨oc, od, .func (PySem.W.fnOf name qual params body scope dV kV doc pm an cdv ct), osl⟩) (hcd : PySem.W.codeIn K cdv qual = true) (S : FnScope N ps scope)
  (len : ∀ vs H Q E, sp vs H Q E -> vs.length = ps.length)
  (hbody : ∀ (A : Around) (outer : List Env) (s : Shared) (H : Hp) (vs : List V) (Q : VK) (E : XK), Room k (A.deeper (envOfC qual scope s.heap.objs.size f cdv)) -> sp vs H Q E ->
   ∃ t, PSs (cxOf CX P w K mg base N qual scope f cdv A outer s H E) body t /\ t { nx := fun _ H' => Q .non H', rt := Q } (start N vs) H) :
  FnOk P w K mg base CX (k + 1) f (PySem.W.fnOf name qual params body scope dV kV doc pm an cdv ct) ps sp := by
 refine ⟨len, fun A outer s H args us vs Q E hr e0 hb r hsp => ?_⟩
 have hl := len _ _ _ _ hsp
 have KX : K.In s.heap := e0.mod.kin.keeps fun b o e => (e0.bs b o e).1
 have lim : s.heap.NoLimit := e0.mod.nolimit.keeps fun b o e => (e0.bs b o e).1
 have hkind : ∀ y ∈ ps.zip us, scope.names.lookup y.1 = some .local ∨ (scope.names.lookup y.1 = some .cell /\ ((cellsFrom (s.heap.objs.size + 1) scope.names []).lookup y.1).isSome = true) := fun ⟨n, v⟩ hy => by
  rcases S.par n (List.of_mem_zip hy).1 with q | q
  ·exact .inl q
  ·exact .inr ⟨q, PySem.W.cellsFrom_some _ _ _ (.inl q)⟩
 refine codeAny_call_function hr.depth (KX _ _ lk) rfl S.co S.gen rfl (PySem.W.codeRec_of KX hcd) (hb _ _ _ _ ?_)
 refine wpAny_newFunctionEnv_cells S.kind hkind fun env he s1 x => ?_
 subst he
 refine ⟨lim.keeps x.toInCall.keep, codeAny_func ?_⟩
 obtain ⟨t, ht, hq⟩ := hbody A outer s H vs Q E (hr.deeper _) hsp
 have I : Inv (cxOf CX P w K mg base N qual scope f cdv A outer s H E) [] (start N vs) H s1 := inv_start S hr.hd e0 hl r x
 refine wpAny_mono (ht [] s1 (start N vs) H _ I hq) (fun fl s' hs => ?_) fun e s' hs => hs
 have fin : ∀ {σ' : St} {H' : Hp} {v : V} {u : Value}, Inv (cxOf CX P w K mg base N qual scope f cdv A outer s H E) [] σ' H' s' -> RelV v u -> Q v H' -> CE outer P w H s Q u s' :=
  fun {σ' H' v u} J rv q => ⟨v, H', J.os, J.bare, J.base, J.hok, rv, q⟩
 cases fl with
 | ret u =>
  obtain ⟨v, σ', H', J, rv, q⟩ := hs
  exact fin J rv q
 | next =>
  obtain ⟨σ', H', J, q⟩ := hs
  exact fin (v := V.non) (u := Value.none) J rfl q
 | brk =>
  obtain ⟨_, _, _, q⟩ := hs
  exact False.elim q
 | cont =>
  obtain ⟨_, _, _, q⟩ := hs
  exact False.elim q
end L2
namespace L2
open PySem PySem.Spec PyProof.Rows
section
variable {X : Cx} {x : Str} {p pos : Pos} {e : Expr} {es : List Expr} {t : TA} {id T : String} {r : List V -> Hp -> VK -> Prop}
noncomputable def tCB (r : List V -> Hp -> VK -> Prop) (t : TA) : TE := fun σ H Q => t σ H fun vs H1 => r vs H1 Q
theorem pe_callB (hc : CallR X (.builtin id) r) (hg : Gl X x) (hm : X.mg x = none) (hv : bootBuiltins x = some (.builtin id)) (ha : PA X (e :: es) t) (hn : x ≠ "__name__" := by decide) (hdb : (x == ("__debug__" : Str)) = false := by decide)
  (he : starEach (e :: es) X.env = (false, eval e X.env) :: starEach es X.env := by rfl) (hpl : (backTo pos (starEach es X.env)).any (·.1) = false := by rfl) : PE X (.Call (.Name x p) (e :: es) [] pos) (tCB r t) := by
 intro pins s σ H Q I h
 refine wpAny_Call_Name_kw (ld_blt I hg hm hv ?_ hn hdb)
 exact PyProof.Rows.callWith_builtin1 (thn (ha pos pins s σ H _ I h) fun us s1 hsl30 => by obtain ⟨vs, H1, I1, r1, q1⟩ := hsl30; exact hc pins s1 σ H1 vs us Q I1 r1 q1) he hpl
theorem pe_callTy (hc : CallR X (.type T) r) (hg : Gl X x) (hm : X.mg x = none) (hv : bootBuiltins x = some (.type T)) (ha : PA X (e :: es) t) (hn : x ≠ "__name__" := by decide) (hdb : (x == ("__debug__" : Str)) = false := by decide)
  (he : starEach (e :: es) X.env = (false, eval e X.env) :: starEach es X.env := by rfl) (hpl : (backTo pos (starEach es X.env)).any (·.1) = false := by rfl) : PE X (.Call (.Name x p) (e :: es) [] pos) (tCB r t) := by
 intro pins s σ H Q I h
 refine wpAny_Call_Name_kw (ld_blt I hg hm hv ?_ hn hdb)
 exact PyProof.Rows.callWith_type1 (thn (ha pos pins s σ H _ I h) fun us s1 hsl31 => by obtain ⟨vs, H1, I1, r1, q1⟩ := hsl31; exact hc pins s1 σ H1 vs us Q I1 r1 q1) he hpl
end
end L2
namespace HT
open PySem PyProof.Rows
section
open PySem.SeqAt
open PySem.AutoSeq1 (wpAny_loadPart')
open PySem.MeetsSeq PySem.MeetsSeq2 PySem.MeetsSeq3
end
section
variable {prog : Program} {w : World} {A : Around} {E : Value -> Shared -> Prop} {s : Shared}
theorem cat_tup {t b : Addr} {vs ws : List Value} {Q : Value -> Shared -> Prop} (ht : IsTup s.heap t vs.toArray) (hb : IsTup s.heap b ws.toArray) (hv : vs ≠ [])
  (h1 : ws = [] -> Q (.ref t) s) (h2 : ws ≠ [] -> Q (.ref s.heap.objs.size) { s with heap := s.heap.push { cls := .type "tuple", data := .seq (vs ++ ws).toArray } })
  (hsz : vs.length + ws.length <= sizeLine) : wpAny (model prog w) A (binaryOp .Add (.ref t) (.ref b)) Q E s := by
 obtain ⟨⟨cls, dd, data, sl⟩, ho, hc, n, hd⟩ := id ht
 obtain ⟨⟨cls2, dd2, data2, sl2⟩, ho2, hc2, n2, hd2⟩ := id hb
 simp only at hc hd hc2 hd2
 subst hc hd hc2 hd2
 have e : vs.toArray ++ ws.toArray = (vs ++ ws).toArray := by simp
 by_cases hw : ws = []
 ·exact concat_meets ⟨_, ho, rfl⟩ ⟨_, ho2, rfl⟩ noFill_tuple_add seq_tuple_add PySem.F.slot_tuple_add PySem.F.entry_tuple_add (PySem.F.args_tuple_add_2 _ _)
   (tuple_addW1 t b vs.toArray ws.toArray n n2 dd dd2 sl sl2 (by simpa using hv) (by simp [hw])) ⟨ho, ho2, h1 hw⟩
 ·refine concat_meets ⟨_, ho, rfl⟩ ⟨_, ho2, rfl⟩ noFill_tuple_add seq_tuple_add PySem.F.slot_tuple_add PySem.F.entry_tuple_add (PySem.F.args_tuple_add_2 _ _)
   (tuple_addW2 t b vs.toArray ws.toArray n n2 dd dd2 sl sl2 (by simpa using hv) (by simpa using hw) (by rw [List.size_toArray, List.size_toArray]; exact hsz)) ⟨ho, ho2, ?_⟩
  rw [e]
  exact h2 hw
noncomputable def sIx (n d : Nat) : Option Int -> Nat
 | none => d
 | some v => if v < 0 then (v + (n : Int)).toNat else min v.toNat n
theorem sIx_nat (n d k : Nat) : sIx n d (some (k : Int)) = min k n := by
 show (if (k : Int) < 0 then ((k : Int) + (n : Int)).toNat else min (k : Int).toNat n) = min k n
 rw [if_neg (by omega), Int.toNat_natCast]
theorem sIx_le (n d : Nat) (hd : d <= n) (o : Option Int) : sIx n d o <= n := by
 cases o with
 | none => exact hd
 | some v =>
  show (if v < 0 then (v + (n : Int)).toNat else min v.toNat n) <= n
  by_cases hv : v < 0
  ·rw [if_pos hv]; omega
  ·rw [if_neg hv]; exact Nat.min_le_right _ _
theorem clip_eq (v : Int) (n d : Nat) : (if v < 0 then max (v + (n : Int)) 0 else min v (n : Int)) = ((sIx n d (some v) : Nat) : Int) := by
 show (if v < 0 then max (v + (n : Int)) 0 else min v (n : Int)) = (((if v < 0 then (v + (n : Int)).toNat else min v.toNat n) : Nat) : Int)
 by_cases hv : v < 0
 ·simp only [if_pos hv]; omega
 ·simp only [if_neg hv]; omega
theorem adjust_gen (lo hi : Option Int) (n : Nat) : Builtin.Slice.sliceAdjust lo hi 1 (n : Int) = (((sIx n 0 lo : Nat) : Int), ((sIx n n hi : Nat) : Int)) := by
 have h1 : ¬ ((1 : Int) < 0) := by omega
 unfold Builtin.Slice.sliceAdjust
 simp only [h1, if_false]
 refine Prod.ext ?_ ?_
 ·cases lo with
  | none => rfl
  | some v => exact clip_eq v n 0
 ·cases hi with
  | none => rfl
  | some v => exact clip_eq v n n
theorem places_gen (i j : Nat) : Builtin.Slice.slicePlaces (i : Int) (j : Int) 1 = j - i := by
 unfold Builtin.Slice.slicePlaces
 have h1 : (1 : Int) > 0 := by omega
 simp only [h1, if_true, Int.ediv_one]
 split <;> omega
theorem slicePart_ {v : Value} {o : Option Int} {Q : Option Int -> Shared -> Prop} (p : IsPart v o) (h : Q o s) : wpAny (model prog w) A (Builtin.Slice.slicePartIndex v) Q E s := by
 cases p with
 | none => exact slicePart_none h
 | int i t => exact slicePart_int h
theorem sliceApplied_gen {sl : Addr} {vl vu : Value} {lo hi : Option Int} {n : Nat} {Q : Int × Int × Nat -> Shared -> Prop} (hs : s.heap.IsSliceOf sl vl vu .none) (pl : IsPart vl lo) (pu : IsPart vu hi)
  (h : Q (((sIx n 0 lo : Nat) : Int), 1, sIx n n hi - sIx n 0 lo) s) : wpAny (model prog w) A (Builtin.Slice.sliceApplied (.ref sl) (pure (n : Int))) Q E s := by
 obtain ⟨os, hos, hcs, hds⟩ := id hs
 unfold Builtin.Slice.sliceApplied Builtin.Slice.sliceFields
 refine wpAny_bind (wpAny_bind (wpAny_field hos hds (x := vl) rfl (wpAny_bind (wpAny_field hos hds (x := vu) rfl (wpAny_bind (wpAny_field hos hds (x := .none) rfl (wpAny_pure ?_)))))))
 refine wpAny_bind (slicePart_none ?_)
 show wpAny _ _ (if ((1 : Int) == 0) = true then _ else _) _ _ s
 rw [if_neg (by decide)]
 refine wpAny_bind (slicePart_ pl (wpAny_bind (slicePart_ pu (wpAny_bind (wpAny_pure ?_)))))
 show wpAny _ _ (match Builtin.Slice.sliceAdjust lo hi 1 (n : Int) with | (lo, hi) => pure (lo, (1 : Int), Builtin.Slice.slicePlaces lo hi 1)) _ _ s
 rw [adjust_gen lo hi n]
 show wpAny _ _ (pure (((sIx n 0 lo : Nat) : Int), (1 : Int), Builtin.Slice.slicePlaces ((sIx n 0 lo : Nat) : Int) ((sIx n n hi : Nat) : Int) 1)) _ _ s
 rw [places_gen]
 exact wpAny_pure h
theorem pick_gen (xs : Array Value) (i k : Nat) : ((List.range k).filterMap fun (m : Nat) => xs[((i : Int) + (m : Int) * 1).toNat]?).toArray = ((xs.toList.drop i).take k).toArray := by
 have e : (fun (m : Nat) => xs[((i : Int) + (m : Int) * 1).toNat]?) = fun m => xs[i + m]? := by
  funext m
  have : ((i : Int) + (m : Int) * 1).toNat = i + m := by omega
  rw [this]
 rw [e]
 have := pick_run xs i k
 rw [List.filterMap_map] at this
 have e2 : ((fun x => xs[x]?) ∘ fun x => i + x) = fun m => xs[i + m]? := rfl
 rw [e2] at this
 rw [this]
theorem getItem_tuple_cut {t sl : Addr} {items : Array Value} {vl vu : Value} {lo hi : Option Int} {Q : Value -> Shared -> Prop} (ht : IsTup s.heap t items) (hs : s.heap.IsSliceOf sl vl vu .none) (pl : IsPart vl lo) (pu : IsPart vu hi)
  (hw : ¬ (sIx items.size 0 lo = 0 /\ sIx items.size items.size hi = items.size))
  (h : Q (.ref s.heap.objs.size) { s with heap := s.heap.push { cls := .type "tuple", data := .seq ((items.toList.drop (sIx items.size 0 lo)).take (sIx items.size items.size hi - sIx items.size 0 lo)).toArray } })
  (hsz : items.size <= sizeLine) : wpAny (model prog w) A (getItem (.ref t) (.ref sl)) Q E s := by
 have htake : sizeOk (.seq ((items.toList.drop (sIx items.size 0 lo)).take (sIx items.size items.size hi - sIx items.size 0 lo)).toArray) := by
  show ((items.toList.drop (sIx items.size 0 lo)).take (sIx items.size items.size hi - sIx items.size 0 lo)).toArray.size <= sizeLine
  rw [List.size_toArray, List.length_take, List.length_drop, Array.length_toList]
  omega
 have hj : sIx items.size items.size hi <= items.size := sIx_le _ _ (Nat.le_refl _) hi
 obtain ⟨os, hos, hcs, hds⟩ := id hs
 have hTs : s.TypeIs (.ref sl) "slice" := ⟨os, hos, hcs⟩
 unfold getItem
 try with_reducible refine wpAny_holding ?_
 first | refine wpAny_bind (wpAny_pure ?_) | skip
 refine wpAny_bind (wpAny_sequenceKey ht.typeIs (by decide) ?_)
 refine wpAny_bind (wpAny_callSpecial?_slot (name := Str.ofString "__getitem__") ht.typeIs PyProof.Rows.slot_tuple_getitem
  (wpAny_call_entry PyProof.Rows.slot_tuple_getitem ht.typeIs entry_tuple_getitem ?_ (args_tuple_getitem _ _)))
 show wpAny _ _ (Builtin.Tuple.tupleItemsOf (.ref t) >>= _) _ _ s
 refine wpAny_bind (tupleItemsOf_ ht ?_)
 refine wpAny_bind (wpAny_typeOf hTs ?_)
 rw [if_pos (by decide)]
 refine wpAny_bind (sliceApplied_gen hs pl pu ?_)
 have hno : ¬ ((((sIx items.size 0 lo : Nat) : Int) == 0 && (1 : Int) == 1 && (sIx items.size items.size hi - sIx items.size 0 lo) == items.size) = true) := by
  intro q
  rw [Bool.and_eq_true, Bool.and_eq_true] at q
  have q1 : ((sIx items.size 0 lo : Nat) : Int) = 0 := eq_of_beq q.1.1
  have q2 : sIx items.size items.size hi - sIx items.size 0 lo = items.size := eq_of_beq q.2
  exact hw ⟨by omega, by omega⟩
 show wpAny _ _ (if (((sIx items.size 0 lo : Nat) : Int) == 0 && (1 : Int) == 1 && (sIx items.size items.size hi - sIx items.size 0 lo) == items.size) = true then _ else _) _ _ s
 rw [if_neg hno, pick_gen]
 first
  | exact wpAny_bind (m := Builtin.Tuple.tupleExact _) (wpAny_newObj_type (wpAny_pure ⟨_, rfl, wpAny_pure h⟩) htake)
  | exact wpAny_bind (m := Builtin.Tuple.tupleExact _) (wpAny_newObj_type (wpAny_bind (wpAny_pure (wpAny_pure ⟨_, rfl, wpAny_pure h⟩))) htake)
  | exact wpAny_bind (wpAny_bind (m := Builtin.Tuple.tupleExact _) (wpAny_newObj_type (wpAny_pure (wpAny_pure ⟨_, rfl, wpAny_pure h⟩)) htake))
  | exact wpAny_bind (wpAny_bind (m := Builtin.Tuple.tupleExact _) (wpAny_newObj_type (wpAny_pure ⟨_, rfl, wpAny_pure h⟩) htake))
end
end HT
namespace L2
open PySem PySem.Spec PyProof.Rows
noncomputable abbrev TO := St -> Hp -> (Option Int -> Hp -> Prop) -> Prop
noncomputable def PO (X : Cx) (e : Option Expr) (t : TO) : Prop :=
 ∀ (pins : List (Addr × Obj)) (s : Shared) (σ : St) (H : Hp) (Q : Option Int -> Hp -> Prop), Inv X pins σ H s -> t σ H Q ->
  wpAny (model X.prog X.w) X.A (evalPart e X.env) (fun u s' => ∃ o H', Inv X pins σ H' s' /\ IsPart u o /\ Q o H') X.xe s
noncomputable def tNoPart : TO := fun _ H Q => Q none H
noncomputable def tPart (t : TE) : TO := fun σ H Q => t σ H fun x H1 => ∃ i, x = .int i /\ Q (some i) H1
section
variable {X : Cx} {e : Expr} {te : TE} {lo hi : Option Expr} {tl th : TO} {pos p2 : Pos}
theorem po_none : PO X none tNoPart := by
 intro pins s σ H Q I h
 rw [evalPart_none]
 exact wpAny_pure ⟨none, H, I, .none, h⟩
theorem po_some (h : PE X e te) : PO X (some e) (tPart te) := by
 intro pins s σ H Q I hw
 rw [evalPart_some]
 refine thn (h pins s σ H _ I hw) fun u s1 hsl32 => ?_
 obtain ⟨x, H1, I1, r1, q1⟩ := hsl32
 obtain ⟨i, rfl, q⟩ := q1
 obtain ⟨t, rfl⟩ := r1
 exact ⟨some i, H1, I1, .int i t, q⟩
noncomputable def SlR (X : Cx) (r : V -> Option Int -> Option Int -> Hp -> VK -> Prop) : Prop :=
 ∀ (pins : List (Addr × Obj)) (s : Shared) (σ : St) (H : Hp) (x : V) (v vl vu : Value) (lo hi : Option Int) (sl : Addr) (Q : VK), Inv X pins σ H s -> RelV x v -> s.heap.IsSliceOf sl vl vu .none -> IsPart vl lo -> IsPart vu hi -> r x lo hi H Q ->
  ∃ T id, typeLookup (.type T) "__getitem__" = pure (some (.builtin id)) /\ s.TypeIs v T /\ wpAny (model X.prog X.w) X.A (getItem v (.ref sl)) (EP X pins σ Q) X.xe s
noncomputable def tSl (r : V -> Option Int -> Option Int -> Hp -> VK -> Prop) (te : TE) (tl th : TO) : TE := fun σ H Q => te σ H fun x H1 => tl σ H1 fun l H2 => th σ H2 fun u H3 => r x l u H3 Q
theorem pe_slice {r : V -> Option Int -> Option Int -> Hp -> VK -> Prop} (hr : SlR X r) (he : PE X e te) (hl : PO X lo tl) (hu : PO X hi th) : PE X (.Subscript e (.Slice lo hi none p2) pos) (tSl r te tl th) := by
 intro pins s σ H Q I h
 refine Subscript_ (thn (he pins s σ H _ I h) fun v s1 hsl33 => ?_)
 obtain ⟨x, H1, I1, r1, q1⟩ := hsl33
 refine wpAny_Slice (thn (hl pins s1 σ H1 _ I1 q1) fun vl s2 ⟨l, H2, I2, pl, q2⟩ => thn (hu pins s2 σ H2 _ I2 q2) fun vu s3 hsl34 => ?_)
 obtain ⟨u, H3, I3, pu, q3⟩ := hsl34
 rw [evalPart_none]
 refine wpAny_pure ?_
 have I4 : Inv X pins σ H3 { s3 with heap := s3.heap.push { cls := .type "slice", data := .fields #[vl, vu, .none] } } := I3.kept (t' := s3.toks) fun b ob q => Heap.get?_push_of_some _ q
 obtain ⟨T, id, hT, ht, hg⟩ := hr pins { s3 with heap := s3.heap.push { cls := .type "slice", data := .fields #[vl, vu, .none] } } σ H3 x v vl vu l u s3.heap.objs.size Q I4 r1 (Heap.IsSliceOf.new ..) pl pu q3
 show wpAny (model X.prog X.w) X.A (subscriptTail e (.Slice lo hi none p2) v (.ref s3.heap.objs.size)) (EP X pins σ Q) X.xe { s3 with heap := s3.heap.push { cls := .type "slice", data := .fields #[vl, vu, .none] } }
 exact tail_any (ops := [.ref s3.heap.objs.size, v]) ht hT hg (by with_unfolding_all rfl)
noncomputable def cutV (xs : List V) (lo hi : Option Int) : List V := (xs.drop (HT.sIx xs.length 0 lo)).take (HT.sIx xs.length xs.length hi - HT.sIx xs.length 0 lo)
theorem cutV_length (xs : List V) (lo hi : Option Int) : (cutV xs lo hi).length <= xs.length := by
 unfold cutV
 rw [List.length_take, List.length_drop]
 omega
noncomputable def rSlT (K : PySem.W.Frag) : V -> Option Int -> Option Int -> Hp -> VK -> Prop := fun x lo hi H Q => ∃ a xs, x = .ref a /\ SqT K H a xs /\
 ¬ (HT.sIx xs.length 0 lo = 0 /\ HT.sIx xs.length xs.length hi = xs.length) /\ ∀ p, H p = none -> Q (.ref p) (upd H p (.tup (cutV xs lo hi)))
theorem sl_tup : SlR X (rSlT X.K) := by
 intro pins s σ H x v vl vu lo hi sl Q I rx hs pl pu h
 obtain ⟨a, xs, rfl, hx, hw, q⟩ := h
 cases rx
 obtain ⟨its, r, ht, hz⟩ := I.tuple hx
 have hlen : its.toArray.size = xs.length := by rw [List.size_toArray]; exact r.length.symm
 refine ⟨"tuple", _, PyProof.Rows.slot_tuple_getitem.lookup, ht.typeIs, ?_⟩
 refine HT.getItem_tuple_cut ht hs pl pu (by rw [hlen]; exact hw) ?_ (by rw [hlen]; exact hz)
 rw [hlen]
 refine ⟨.ref s.heap.objs.size, _, I.laid (t' := s.toks) (o := .tup (cutV xs lo hi)) (fun b ob q => Heap.get?_push_of_some _ q) (Nat.le_refl _) ?_, rfl, q _ (I.hok.fresh (Nat.le_refl _))⟩
 exact ⟨Nat.le_trans (cutV_length xs lo hi) hz, _, (r.drop (HT.sIx xs.length 0 lo)).take (HT.sIx xs.length xs.length hi - HT.sIx xs.length 0 lo), IsTup.new _ _⟩
noncomputable def rCatT (K : PySem.W.Frag) : R2 := fun x y H Q => ∃ a b xs ys, x = .ref a /\ y = .ref b /\ SqT K H a xs /\ SqT K H b ys /\ xs ≠ [] /\ xs.length + ys.length <= sizeLine /\
 (ys = [] -> Q (.ref a) H) /\ (ys ≠ [] -> ∀ p, H p = none -> Q (.ref p) (upd H p (.tup (xs ++ ys))))
theorem Vals.nil_iff {xs : List V} {us : List Value} (r : Vals xs us) : us = [] ↔ xs = [] := by
 cases r with
 | nil => simp
 | cons _ _ => simp
theorem op_catT : OpR X (binaryOp .Add) (rCatT X.K) := by
 intro pins s σ H x y v u Q I rx ry h
 obtain ⟨a, b, xs, ys, rfl, rfl, ha, hb, hx, hz, q1, q2⟩ := h
 cases rx
 cases ry
 obtain ⟨its, r1, p1, _⟩ := I.tuple ha
 obtain ⟨its2, r2, p2, _⟩ := I.tuple hb
 refine HT.cat_tup p1 p2 (fun z => hx (r1.nil_iff.mp z)) (fun z => ⟨.ref a, H, I, rfl, q1 (r2.nil_iff.mp z)⟩) (fun z => ?_) (by rw [<- r1.length, <- r2.length]; exact hz)
 refine ⟨.ref s.heap.objs.size, _, I.laid (t' := s.toks) (o := .tup (xs ++ ys)) (fun b ob q => Heap.get?_push_of_some _ q) (Nat.le_refl _) ?_, rfl, q2 (fun w => z (r2.nil_iff.mpr w)) _ (I.hok.fresh (Nat.le_refl _))⟩
 exact ⟨by rw [List.length_append]; exact hz, _, r1.append r2, IsTup.new _ _⟩
end
end L2
namespace L2
open PySem PySem.Spec PyProof.Rows
noncomputable def ixN (n : Nat) (i : Int) : Option Nat := if 0 <= i then (if i < n then some i.toNat else none) else if -(n : Int) <= i then some (i + n).toNat else none
noncomputable def atI {α : Type} (xs : List α) (i : Int) : Option α := (ixN xs.length i).bind fun j => xs[j]?
theorem ixN_seq {n : Nat} {i : Int} {j : Nat} (h : ixN n i = some j) : seqIndex? i n = some j /\ j < n /\ -(n : Int) <= i /\ i < n := by
 unfold ixN at h
 by_cases h0 : 0 <= i
 ·rw [if_pos h0] at h
  by_cases h1 : i < n
  ·rw [if_pos h1] at h
   have e : i.toNat = j := Option.some.inj h
   exact ⟨by rw [seqIndex_of h0 h1, e], by omega, by omega, h1⟩
  ·rw [if_neg h1] at h; cases h
 ·rw [if_neg h0] at h
  by_cases h1 : -(n : Int) <= i
  ·rw [if_pos h1] at h
   have e : (i + n).toNat = j := Option.some.inj h
   exact ⟨by rw [seqIndex_neg (by omega) h1, e], by omega, h1, by omega⟩
  ·rw [if_neg h1] at h; cases h
theorem atI_get {α : Type} {xs : List α} {i : Int} {v : α} (h : atI xs i = some v) : ∃ j, seqIndex? i xs.length = some j /\ xs[j]? = some v /\ j < xs.length /\ -(xs.length : Int) <= i /\ i < xs.length := by
 unfold atI at h
 cases e : ixN xs.length i with
 | none => rw [e] at h; cases h
 | some j =>
  rw [e] at h
  obtain ⟨h1, h2, h3, h4⟩ := ixN_seq e
  exact ⟨j, h1, h, h2, h3, h4⟩
theorem atI_nat {α : Type} {xs : List α} {j : Nat} {v : α} (h : xs[j]? = some v) : atI xs (j : Int) = some v := by
 have hj : j < xs.length := (List.getElem?_eq_some_iff.mp h).1
 have e : ixN xs.length (j : Int) = some j := by
  unfold ixN
  rw [if_pos (by omega), if_pos (by omega)]; simp
 unfold atI; rw [e]; exact h
noncomputable def PlainIx (b : Expr) : Prop := ∀ o i, subscripted b false o i = operate [o, i] (getItem o i)
noncomputable def IxR (X : Cx) (r : R2) : Prop :=
 ∀ (value slice : Expr) (pins : List (Addr × Obj)) (s : Shared) (σ : St) (H : Hp) (x y : V) (v u : Value) (Q : VK), Inv X pins σ H s -> RelV x v -> RelV y u -> r x y H Q ->
  subscripted slice false v u = operate [v, u] (getItem v u) -> wpAny (model X.prog X.w) X.A (subscriptTail value slice v u) (EP X pins σ Q) X.xe s
noncomputable def MtR (X : Cx) (id : String) (r : V -> List V -> Hp -> VK -> Prop) : Prop :=
 ∀ (pins : List (Addr × Obj)) (s : Shared) (σ : St) (H : Hp) (x : V) (xs : List V) (v : Value) (us : List Value) (Q : VK), Inv X pins σ H s -> RelV x v -> Vals xs us -> r x xs H Q ->
  wpAny (model X.prog X.w) X.A (call (.builtin id) (v :: us)) (EP X pins σ Q) X.xe s
section
variable {X : Cx} {a b : Expr} {ta tb : TE} {pos : Pos}
theorem pe_ix {r : R2} (hr : IxR X r) (ha : PE X a ta) (hb : PE X b tb) (hs : PlainIx b) : PE X (.Subscript a b pos) (tOp r ta tb) := by
 intro pins s σ H Q I h
 exact Subscript_ (binT ha hb I h fun v u s2 x y H2 I2 rx ry q => hr a b pins s2 σ H2 x y v u Q I2 rx ry q (hs _ _))
noncomputable def rIxL (K : PySem.W.Frag) : R2 := fun x y H Q => ∃ p xs i v, x = .ref p /\ y = .int i /\ SqL K H p xs /\ atI xs i = some v /\ Q v H
noncomputable def rIxT (K : PySem.W.Frag) : R2 := fun x y H Q => ∃ p xs i v, x = .ref p /\ y = .int i /\ SqT K H p xs /\ atI xs i = some v /\ Q v H
theorem ix_list : IxR X (rIxL X.K) := by
 intro value slice pins s σ H x y v u Q I rx ry h hs
 obtain ⟨p, xs, i, z, rfl, rfl, hq, he, q⟩ := h
 cases rx
 obtain ⟨t, rfl⟩ := ry
 obtain ⟨its, r, pl, hz⟩ := I.list hq
 obtain ⟨j, h1, h2, h3, h4, h5⟩ := atI_get he
 obtain ⟨w, ew, rw'⟩ := r.get h2
 have hl := r.length
 have hn := line63
 have fin : EP X pins σ Q w s := ⟨z, H, I, rw', q⟩
 by_cases h0 : 0 <= i
 ·have hj : i.toNat = j := by
   rw [seqIndex_of h0 h5] at h1
   exact Option.some.inj h1
  exact item_listR pl.isList h0 (by omega) (by rw [hj]; simpa using ew) fin hs
 ·have hj : (i + (its.toArray.size : Int)).toNat = j := by
   rw [seqIndex_neg (by omega) h4] at h1
   rw [List.size_toArray, <- hl]
   exact Option.some.inj h1
  exact subscriptTail_builtinR (x := w) pl.isList.typeIs slot_list_getitem.lookup
   (wpAny_getItem_list_neg (Q := fun r s' => r = w /\ EP X pins σ Q r s') pl.isList (by omega) (by rw [List.size_toArray] <;> omega) (by omega) (by rw [hj]; simpa using ew) ⟨rfl, fin⟩) hs
theorem ix_tup : IxR X (rIxT X.K) := by
 intro value slice pins s σ H x y v u Q I rx ry h hs
 obtain ⟨p, xs, i, z, rfl, rfl, hq, he, q⟩ := h
 cases rx
 obtain ⟨t, rfl⟩ := ry
 obtain ⟨its, r, pl, hz⟩ := I.tuple hq
 obtain ⟨j, h1, h2, h3, h4, h5⟩ := atI_get he
 obtain ⟨w, ew, rw'⟩ := r.get h2
 have hl := r.length
 have hn := line63
 have fin : EP X pins σ Q w s := ⟨z, H, I, rw', q⟩
 exact subscriptTail_builtinR (x := w) pl.typeIs slot_tuple_getitem.lookup
  (getItem_tuple (j := j) (Q := fun r s' => r = w /\ EP X pins σ Q r s') pl (by omega) (by omega) (by rw [List.size_toArray, <- hl]; exact h1) (by simpa using ew) ⟨rfl, fin⟩) hs
theorem slice_bounds (lo hi : Option Int) (n : Nat) : (sliceBounds lo hi none n).1 = ((HT.sIx n 0 lo : Nat) : Int) /\ (sliceBounds lo hi none n).2.1 = ((HT.sIx n n hi : Nat) : Int) /\ (sliceBounds lo hi none n).2.2 = 1 := by
 refine ⟨?_, ?_, rfl⟩
 ·cases lo with
  | none => simp [sliceBounds, HT.sIx]
  | some i =>
   simp only [sliceBounds, HT.sIx, Option.getD_none, show (1 : Int) > 0 by decide, if_true]
   by_cases h : i < 0
   ·simp only [h, if_true] <;> omega
   ·simp only [h, if_false] <;> omega
 ·cases hi with
  | none => simp [sliceBounds, HT.sIx]
  | some i =>
   simp only [sliceBounds, HT.sIx, Option.getD_none, show (1 : Int) > 0 by decide, if_true]
   by_cases h : i < 0
   ·simp only [h, if_true] <;> omega
   ·simp only [h, if_false] <;> omega
theorem slicePick_cut (its : List Value) (lo hi : Option Int) : slicePick its.toArray lo hi none = ((its.drop (HT.sIx its.length 0 lo)).take (HT.sIx its.length its.length hi - HT.sIx its.length 0 lo)).toArray := by
 obtain ⟨h1, h2, h3⟩ := slice_bounds lo hi its.toArray.size
 unfold slicePick
 rw [h1, h2, h3]
 simp only [sliceRange_one, pick_run, List.size_toArray] <;> rfl
noncomputable def rSlL (K : PySem.W.Frag) : V -> Option Int -> Option Int -> Hp -> VK -> Prop := fun x lo hi H Q => ∃ a xs, x = .ref a /\ SqL K H a xs /\ ∀ p, H p = none -> Q (.ref p) (upd H p (.lst (cutV xs lo hi)))
theorem sl_list : SlR X (rSlL X.K) := by
 intro pins s σ H x v vl vu lo hi sl Q I rx hs pl pu h
 obtain ⟨a, xs, rfl, hx, q⟩ := h
 cases rx
 obtain ⟨its, r, ht, hz⟩ := I.list hx
 have hlen := r.length
 refine ⟨"list", _, slot_list_getitem.lookup, ht.isList.typeIs, ?_⟩
 refine wpAny_getItem_list_slice ht.isList hs pl pu .none (by simp) ?_ (by rw [List.size_toArray] <;> omega)
 rw [slicePick_cut, <- hlen]
 refine ⟨.ref s.heap.objs.size, _, I.laid (t' := s.toks) (o := .lst (cutV xs lo hi)) (fun b ob q => Heap.get?_push_of_some _ q) (Nat.le_refl _) ?_, rfl, q _ (I.hok.fresh (Nat.le_refl _))⟩
 exact ⟨Nat.le_trans (cutV_length xs lo hi) hz, _, 0, (r.drop (HT.sIx xs.length 0 lo)).take (HT.sIx xs.length xs.length hi - HT.sIx xs.length 0 lo), Heap.get?_push_size _ rfl⟩
noncomputable def flatV : V -> Bool
 | .non => true
 | .bl _ => true
 | .int _ => true
 | .str _ => true
 | _ => false
noncomputable def eqV : V -> V -> Bool
 | .non, .non => true
 | .bl a, .bl b => a == b
 | .bl a, .int b => (if a then 1 else 0) == b
 | .int a, .bl b => a == (if b then 1 else 0)
 | .int a, .int b => a == b
 | .str a, .str b => a == b
 | _, _ => false
theorem eqAt_V {A : Around} {s : Shared} {y x : V} {u v : Value} (ry : RelV y u) (rx : RelV x v) (fy : flatV y = true) (fx : flatV x = true) : SeqAt.EqAt A s u v (eqV y x) := by
 cases y with
 | non =>
  cases ry
  cases x with
  | non => cases rx; exact SeqAt.EqAt.same _
  | bl b => cases rx; exact SeqAt.EqAt.none_bool b
  | int b => obtain ⟨t, rfl⟩ := rx; exact SeqAt.EqAt.none_int b t
  | str b => obtain ⟨t, rfl⟩ := rx; exact SeqAt.EqAt.none_str b t
  | _ => exact absurd (show false = true from fx) Bool.false_ne_true
 | bl a =>
  cases ry
  cases x with
  | non => cases rx; exact SeqAt.EqAt.bool_none a
  | bl b => cases rx; exact SeqAt.EqAt.bool_bool a b
  | int b => obtain ⟨t, rfl⟩ := rx; exact SeqAt.EqAt.bool_int a b t
  | str b => obtain ⟨t, rfl⟩ := rx; exact SeqAt.EqAt.bool_str a b t
  | _ => exact absurd (show false = true from fx) Bool.false_ne_true
 | int a =>
  obtain ⟨t', rfl⟩ := ry
  cases x with
  | non => cases rx; exact SeqAt.EqAt.int_none a t'
  | bl b => cases rx; exact SeqAt.EqAt.int_bool a t' b
  | int b => obtain ⟨t, rfl⟩ := rx; exact SeqAt.EqAt.int_int a t' b t
  | str b => obtain ⟨t, rfl⟩ := rx; exact SeqAt.EqAt.int_str a t' b t
  | _ => exact absurd (show false = true from fx) Bool.false_ne_true
 | str a =>
  obtain ⟨t', rfl⟩ := ry
  cases x with
  | non => cases rx; exact SeqAt.EqAt.str_none a t'
  | bl b => cases rx; exact SeqAt.EqAt.str_bool a t' b
  | int b => obtain ⟨t, rfl⟩ := rx; exact SeqAt.EqAt.str_int a t' b t
  | str b => obtain ⟨t, rfl⟩ := rx; exact SeqAt.EqAt.str_str a t' b t
  | _ => exact absurd (show false = true from fx) Bool.false_ne_true
 | _ => exact absurd (show false = true from fy) Bool.false_ne_true
noncomputable def eqU (x : V) (u : Value) : Bool := match u with
 | .none => eqV .non x
 | .bool b => eqV (.bl b) x
 | .int i _ => eqV (.int i) x
 | .str z _ => eqV (.str z) x
 | _ => false
theorem eqU_of {x y : V} {u : Value} (r : RelV y u) (f : flatV y = true) : eqU x u = eqV y x := by
 cases y with
 | non => cases r; rfl
 | bl b => cases r; rfl
 | int i => obtain ⟨t, rfl⟩ := r; rfl
 | str z => obtain ⟨t, rfl⟩ := r; rfl
 | _ => exact absurd (show false = true from f) Bool.false_ne_true
theorem any_eqU {x : V} : ∀ {xs : List V} {us : List Value}, Vals xs us -> xs.all flatV = true -> us.any (eqU x) = xs.any fun y => eqV y x
 | _, _, .nil, _ => rfl
 | y :: xs, u :: us, .cons r t, f => by
  rw [List.all_cons, Bool.and_eq_true] at f
  rw [List.any_cons, List.any_cons, eqU_of r f.1, any_eqU t f.2]
theorem mem_eqAt {A : Around} {s : Shared} {x : V} {v : Value} (rx : RelV x v) (fx : flatV x = true) : ∀ {xs : List V} {us : List Value}, Vals xs us -> xs.all flatV = true -> ∀ u ∈ us, SeqAt.EqAt A s u v (eqU x u)
 | _, _, .nil, _ => fun u hu => by cases hu
 | y :: xs, u :: us, .cons r t, f => fun u' hu => by
  rw [List.all_cons, Bool.and_eq_true] at f
  rcases List.mem_cons.mp hu with rfl | hu
  ·rw [eqU_of r f.1]; exact eqAt_V r rx f.1 fx
  ·exact mem_eqAt rx fx t f.2 u' hu
noncomputable def inV (x : V) (xs : List V) : Bool := xs.any fun y => eqV y x
noncomputable def rIn (K : PySem.W.Frag) (neg : Bool) : R2 := fun x y H Q => ∃ p xs, y = .ref p /\ (SqL K H p xs ∨ SqT K H p xs) /\ flatV x = true /\ xs.all flatV = true /\ Q (.bl (if neg then !inV x xs else inV x xs)) H
theorem op_in_seq : OpR X (compareOp .In) (rIn X.K false) := by
 intro pins s σ H x y v u Q I rx ry h
 obtain ⟨p, xs, rfl, hq, fx, fs, q⟩ := h
 cases ry
 rcases hq with hq | hq
 ·obtain ⟨its, r, pl, hz⟩ := I.list hq
  refine SeqAt.in_listAt (eqU x) pl.isList (fun w hw => mem_eqAt rx fx r fs w (by simpa using hw)) ⟨.bl _, H, I, rfl, ?_⟩
  rw [show its.toArray.any (eqU x) = its.any (eqU x) by simp, any_eqU r fs]
  exact q
 ·obtain ⟨its, r, pl, hz⟩ := I.tuple hq
  refine SeqAt.in_tupleAt (eqU x) pl (fun w hw => mem_eqAt rx fx r fs w (by simpa using hw)) ⟨.bl _, H, I, rfl, ?_⟩
  rw [show its.toArray.any (eqU x) = its.any (eqU x) by simp, any_eqU r fs]
  exact q
theorem op_notIn_seq : OpR X (compareOp .NotIn) (rIn X.K true) := by
 intro pins s σ H x y v u Q I rx ry h
 obtain ⟨p, xs, rfl, hq, fx, fs, q⟩ := h
 cases ry
 rcases hq with hq | hq
 ·obtain ⟨its, r, pl, hz⟩ := I.list hq
  refine SeqAt.notIn_listAt (eqU x) pl.isList (fun w hw => mem_eqAt rx fx r fs w (by simpa using hw)) ⟨.bl _, H, I, rfl, ?_⟩
  rw [show its.toArray.any (eqU x) = its.any (eqU x) by simp, any_eqU r fs]
  exact q
 ·obtain ⟨its, r, pl, hz⟩ := I.tuple hq
  refine SeqAt.notIn_tupleAt (eqU x) pl (fun w hw => mem_eqAt rx fx r fs w (by simpa using hw)) ⟨.bl _, H, I, rfl, ?_⟩
  rw [show its.toArray.any (eqU x) = its.any (eqU x) by simp, any_eqU r fs]
  exact q
theorem call_tuple_of : CallR X (.type "tuple") (fun xs H Q => ∃ p ys, xs = [.ref p] /\ ((SqL X.K H p ys /\ ∀ l, H l = none -> Q (.ref l) (upd H l (.tup ys))) ∨ (SqT X.K H p ys /\ Q (.ref p) H))) := by
 intro pins s σ H xs us Q I r h
 obtain ⟨p, ys, rfl, h⟩ := h
 obtain ⟨u, rfl, rx⟩ := vals1 r
 cases rx
 rcases h with ⟨hq, q⟩ | ⟨hq, q⟩
 ·obtain ⟨its, r', pl, hz⟩ := I.list hq
  have hlen := r'.length
  refine call_tuple_list pl.isList (fun h' kp => ?_) (by simp only [List.size_toArray] <;> omega)
  have I1 : Inv X pins σ H { s with heap := h' } := I.kept (t' := s.toks) kp
  have I2 : Inv X pins σ (upd H h'.objs.size (.tup ys)) { s with heap := h'.push { cls := .type "tuple", data := .seq its.toArray } } :=
   I1.laid (t' := s.toks) (fun b o e => Heap.get?_push_of_some _ e) (Nat.le_refl _) (show ObjOk X.prog X.w _ _ _ (.tup ys) from ⟨hz, its, r', IsTup.new _ _⟩)
  exact ⟨.ref h'.objs.size, _, I2, rfl, q _ (I1.hok.fresh (Nat.le_refl _))⟩
 ·obtain ⟨its, r', pl, hz⟩ := I.tuple hq
  exact call_tuple_same pl ⟨.ref p, H, I, rfl, q⟩
noncomputable def tyV (K : PySem.W.Frag) (T : String) (x : V) (H : Hp) : Prop := match x with
 | .str _ => T = "str"
 | .int _ => T = "int"
 | .ref p => (T = "list" /\ ∃ xs, SqL K H p xs) ∨ (T = "tuple" /\ ∃ o, K.lookup p = some o /\ o.cls = .type "tuple" /\ o.dict = none) ∨
   (T = "dict" /\ ((∃ kvs, H p = some (.dK kvs)) ∨ ∃ kvs, H p = some (.dT kvs))) ∨ (T = "set" /\ ∃ S n, H p = some (.set S n))
 | _ => False
theorem tyV_is {pins : List (Addr × Obj)} {σ : St} {H : Hp} {s : Shared} {T : String} {x : V} {v : Value} (I : Inv X pins σ H s) (r : RelV x v) (ty : tyV X.K T x H) :
  s.TypeIs v T /\ ∀ a, v = .ref a -> ∃ ob, s.heap.get? a = some ob /\ ob.dict = none := by
 cases x with
 | str z =>
  obtain ⟨t, rfl⟩ := r
  cases (show T = "str" from ty)
  exact ⟨typeIs_str s z t, fun _ e => nomatch e⟩
 | int i =>
  obtain ⟨t, rfl⟩ := r
  cases (show T = "int" from ty)
  exact ⟨typeIs_int s i t, fun _ e => nomatch e⟩
 | ref p =>
  cases r
  rcases ty with ⟨rfl, xs, hq⟩ | ⟨rfl, o, hk, hc, hd⟩ | ⟨rfl, hk⟩ | ⟨rfl, S, n, hk⟩
  ·obtain ⟨its, _, pl, _⟩ := I.list hq
   refine ⟨pl.isList.typeIs, fun a e => ?_⟩
   cases e
   obtain ⟨o, n, e, c, hd, _⟩ := pl
   exact ⟨o, e, hd⟩
  ·refine ⟨⟨o, I.kIn p o hk, hc⟩, fun a e => ?_⟩
   cases e
   exact ⟨o, I.kIn _ o hk, hd⟩
  ·have z : ∃ o, s.heap.get? p = some o /\ o.ExactDict := by
    rcases hk with ⟨kvs, hk⟩ | ⟨kvs, hk⟩
    ·obtain ⟨_, _, _, _, o, _, _, e, ex, _⟩ := I.hok p _ hk
     exact ⟨o, e, ex⟩
    ·obtain ⟨_, _, _, _, o, _, _, e, ex, _⟩ := I.hok p _ hk
     exact ⟨o, e, ex⟩
   obtain ⟨o, e, ex⟩ := z
   refine ⟨⟨o, e, ex.1⟩, fun a e2 => ?_⟩
   cases e2
   exact ⟨o, e, ex.2.1⟩
  ·obtain ⟨o, _, _, _, e, ex, _⟩ := I.hok p _ hk
   refine ⟨⟨o, e, ex.1⟩, fun a e2 => ?_⟩
   cases e2
   exact ⟨o, e, ex.2.1⟩
 | _ => exact False.elim ty
noncomputable def tBM0 (K : PySem.W.Frag) (T : String) (r : V -> List V -> Hp -> VK -> Prop) (to : TE) : TE := fun σ H Q => to σ H fun x H1 => tyV K T x H1 /\ r x [] H1 Q
noncomputable def tBM (K : PySem.W.Frag) (T : String) (r : V -> List V -> Hp -> VK -> Prop) (to : TE) (t : TA) : TE := fun σ H Q => to σ H fun x H1 => tyV K T x H1 /\ t σ H1 fun xs H2 => r x xs H2 Q
variable {o e : Expr} {es : List Expr} {to : TE} {t : TA} {name : Str} {apos cpos : Pos} {T id : String} {r : V -> List V -> Hp -> VK -> Prop}
theorem pe_bm0 (pa : PlainAttrs T) (slot : Slot T name id) (hty : typeOf (.builtin id) = pure (.type "method_descriptor")) (hm : MtR X id r) (ho : PE X o to)
  (hbase : attributeBase o name X.env (eval o X.env) = eval o X.env := by rfl) (hline : (apos.endLine == cpos.line) = true := by rfl) : PE X (.Call (.Attribute o name apos) [] [] cpos) (tBM0 X.K T r to) := by
 intro pins s σ H Q I h
 refine wpAny_Call_method0_late hbase hline (thn (ho pins s σ H _ I h) fun v s1 hsl35 => ?_)
 obtain ⟨x, H1, I1, r1, ty, q1⟩ := hsl35
 obtain ⟨h1, h2⟩ := tyV_is I1 r1 ty
 exact ⟨T, id, pa, slot, hty, h1, h2, Calls.callWith_builtin rfl (PySem.evalArgs_none (hm pins s1 σ H1 x [] v [] Q I1 r1 .nil q1))⟩
theorem pe_bm (pa : PlainAttrs T) (slot : Slot T name id) (hty : typeOf (.builtin id) = pure (.type "method_descriptor")) (hm : MtR X id r) (ho : PE X o to) (ha : PA X (e :: es) t)
  (hbase : attributeBase o name X.env (eval o X.env) = eval o X.env := by rfl)
  (hfew : ((backTo cpos (starEach (e :: es) X.env)).all (fun x => !x.1) && (backToKw cpos (keywordEach [] X.env)).all (fun x => x.1.isSome)
   && decide ((e :: es).length + ([] : List Keyword).length + (if ([] : List Keyword).isEmpty then 0 else 1) < 30)) = true := by rfl)
  (hline : (apos.endLine == cpos.line) = true := by rfl) (hs : starEach (e :: es) X.env = (false, eval e X.env) :: starEach es X.env := by rfl) (hplain : (backTo cpos (starEach es X.env)).any (·.1) = false := by rfl) :
  PE X (.Call (.Attribute o name apos) (e :: es) [] cpos) (tBM X.K T r to t) := by
 intro pins s σ H Q I h
 refine wpAny_Call_method_late hbase hfew hline rfl (thn (ho pins s σ H _ I h) fun v s1 hsl36 => ?_)
 obtain ⟨x, H1, I1, r1, ty, q1⟩ := hsl36
 obtain ⟨h1, h2⟩ := tyV_is I1 r1 ty
 refine ⟨T, id, pa, slot, hty, h1, h2, ?_⟩
 have hA := ha cpos pins s1 σ H1 _ I1 q1
 rw [hs] at hA ⊢
 refine Calls.callWith_builtin (by show (false || (backTo cpos (starEach es X.env)).any (·.1)) = false; rw [hplain] <;> rfl) (Calls.evalArgs_plain ?_)
 exact thn hA fun us s2 hsl37 => by obtain ⟨vs, H2, I2, r2, q2⟩ := hsl37; exact hm pins s2 σ H2 x vs v us Q I2 r1 r2 q2
end
end L2
namespace L2
open PySem PySem.Spec PyProof.Rows
noncomputable def MtM (X : Cx) (id : String) (r : V -> List V -> Hp -> VK -> Prop) : Prop :=
 ∀ (pins : List (Addr × Obj)) (s : Shared) (σ : St) (H : Hp) (x : V) (xs : List V) (v : Value) (us : List Value) (Q : VK), Inv X pins σ H s -> RelV x v -> Vals xs us -> r x xs H Q ->
  wpAny (model X.prog X.w) X.A (call (.builtin id) (v :: us)) (EP X pins σ Q) X.xe s
theorem Vals.one : ∀ {x : V} {us : List Value}, Vals [x] us -> ∃ u, us = [u] /\ RelV x u
 | _, _, .cons r .nil => ⟨_, rfl, r⟩
theorem Vals.zero : ∀ {us : List Value}, Vals [] us -> us = []
 | _, .nil => rfl
section
variable {X : Cx} {pins : List (Addr × Obj)} {σ : St} {H : Hp} {s : Shared} {l b : Addr} {xs ys zs : List V}
theorem Inv.lset {its its' : List Value} {n : Nat} {f : Array Value -> Array Value} {t' : Nat} (I : Inv X pins σ H s) (hH : H l = some (.lst xs))
  (e : s.heap.get? l = some { cls := .type "list", data := .seq its.toArray n }) (hf : f its.toArray = its'.toArray) (hv : Vals ys its') (hz : ys.length <= sizeLine) :
  Inv X pins σ (upd H l (.lst ys)) { s with heap := s.heap.update l (Obj.mapSeq f), toks := t' } := by
 have q := PySem.IsL.update e f
 rw [hf] at q
 refine I.write (x := l) (e := l) (by rw [hH]; exact trivial) (.inl rfl) (fun b' u hb hu => (Heap.get?_update_other s.heap (Obj.mapSeq f) (Ne.symm hb)).trans hu) ⟨_, q⟩ ?_
 exact ⟨hz, its', _, hv, q⟩
theorem Inv.lnew {its : List Value} {t' : Nat} (I : Inv X pins σ H s) (hv : Vals ys its) (hz : ys.length <= sizeLine) :
  Inv X pins σ (upd H s.heap.objs.size (.lst ys)) { s with heap := s.heap.push { cls := .type "list", data := .seq its.toArray }, toks := t' } :=
 I.laid (fun _ _ q => Heap.get?_push_of_some _ q) (Nat.le_refl _) ⟨hz, its, 0, hv, Heap.get?_push_size _ rfl⟩
theorem Inv.fresh (I : Inv X pins σ H s) : H s.heap.objs.size = none := I.hok.fresh (Nat.le_refl _)
theorem Inv.lstM (I : Inv X pins σ H s) (hH : H l = some (.lst xs)) : xs.length <= sizeLine /\ ∃ (its : List Value) (n : Nat), Vals xs its /\ xs.length = its.length /\ s.heap.get? l = some { cls := .type "list", data := .seq its.toArray n } := by
 obtain ⟨z, its, n, r, e⟩ := I.hok l _ hH
 exact ⟨z, its, n, r, r.length, e⟩
end
section
variable {X : Cx}
noncomputable def rAppend : V -> List V -> Hp -> VK -> Prop := fun x vs H Q => ∃ l xs y, x = .ref l /\ vs = [y] /\ H l = some (.lst xs) /\ xs.length < sizeLine /\ Q .non (upd H l (.lst (xs ++ [y])))
theorem mt_append : MtM X "list.append" rAppend := by
 intro pins s σ H x vs v us Q I rx rv h
 obtain ⟨l, xs, y, rfl, rfl, hH, hz, q⟩ := h
 cases rx
 obtain ⟨u, rfl, ru⟩ := rv.one
 obtain ⟨z, its, n, r, hl, e⟩ := I.lstM hH
 refine call_meets F.slot_list_append ⟨_, e, rfl⟩ F.entry_list_append (F.args_list_append_2 _ _) (PySem.list_append l its.toArray n u (by rw [List.size_toArray]; omega)) ⟨e, ?_⟩
 refine ⟨.non, _, I.lset (its' := its ++ [u]) hH e (by simp) (r.append (.cons ru .nil)) ?_, rfl, q⟩
 rw [List.length_append, List.length_singleton]
 omega
noncomputable def rClear : V -> List V -> Hp -> VK -> Prop := fun x vs H Q => ∃ l xs, x = .ref l /\ vs = [] /\ H l = some (.lst xs) /\ Q .non (upd H l (.lst []))
theorem mt_clear : MtM X "list.clear" rClear := by
 intro pins s σ H x vs v us Q I rx rv h
 obtain ⟨l, xs, rfl, rfl, hH, q⟩ := h
 cases rx
 have hus := rv.zero
 subst hus
 obtain ⟨z, its, n, r, hl, e⟩ := I.lstM hH
 refine call_meets F.slot_list_clear ⟨_, e, rfl⟩ F.entry_list_clear (F.args_list_clear_1 _) (AutoSeq1.list_clear_list_0 l its.toArray n (by rw [List.size_toArray]; omega)) ⟨e, ?_⟩
 exact ⟨.non, _, I.lset (its' := []) (ys := []) hH e rfl .nil (Nat.zero_le _), rfl, q⟩
noncomputable def rCat : R2 := fun x y H Q => ∃ l b xs zs, x = .ref l /\ y = .ref b /\ H l = some (.lst xs) /\ H b = some (.lst zs) /\ xs.length + zs.length <= sizeLine /\ ∀ p, H p = none -> Q (.ref p) (upd H p (.lst (xs ++ zs)))
theorem op_cat : OpR X (binaryOp .Add) rCat := by
 intro pins s σ H x y v u Q I rx ry h
 obtain ⟨l, b, xs, zs, rfl, rfl, hH, hB, hz, q⟩ := h
 cases rx
 cases ry
 obtain ⟨z, its, n, r, hl, e⟩ := I.lstM hH
 obtain ⟨z2, its2, n2, r2, hl2, e2⟩ := I.lstM hB
 refine PySem.P.add_list e e2 ?_ (by rw [List.size_toArray, List.size_toArray]; omega)
 have ea : its.toArray ++ its2.toArray = (its ++ its2).toArray := by simp
 rw [ea]
 exact ⟨.ref _, _, I.lnew (t' := s.toks) (r.append r2) (by rw [List.length_append]; omega), rfl, q _ I.fresh⟩
end
section
variable {prog : Program} {w : World} {A : Around} {E : Value -> Shared -> Prop} {s : Shared}
end
section
variable {X : Cx}
end
end L2
namespace Att
open PySem PySem.W PySem.Calls PyProof.Rows
theorem ints_of_wellAll {P : Params} {h : Heap} : ∀ (ns : List Int) (vs : List Value), WellAll P h vs (ns.map WData.int) -> IntsAre vs ns := by
 intro ns
 induction ns with
 | nil =>
  intro vs w
  rw [List.map_nil] at w
  cases w
  exact .nil
 | cons n ns ih =>
  intro vs w
  rw [List.map_cons] at w
  cases w with
  | cons a b =>
   cases a
   exact .cons _ _ (ih _ b)
theorem script_of {l : OpenLaw} {n : Nat} (hn : l.most = some n) {P : Params} {h : Heap} {args : List WData} {vals : List Value}
  (hpre : l.row.toRowW.claim.pre args = true) (hwl : WellAll P h vals args) :
  ∃ a vs ns, vals = [Value.ref a] /\ args = [WData.list (ns.map WData.int)] /\ h.get? a = some { cls := .type "list", data := .seq vs.toArray } /\ IntsAre vs ns /\ ns.length <= n := by
 have hsh : WShape.hasAll [] args [.list .int] = true := (pre_splitW hpre).1
 have hc : l.pre.holds [] { args := args } = true := (pre_splitW hpre).2
 obtain ⟨d, r, rfl, h1, h2⟩ := hasAllW_cons hsh
 obtain rfl := hasAllW_nil h2
 obtain ⟨xs, rfl, h3⟩ := hasW_list h1
 obtain ⟨ns, rfl⟩ := items_int h3
 have hlen : ns.length <= n := by
  unfold OpenLaw.pre at hc
  have h4 : (WTm.not (.lt (.lit (.int (n : Int))) (.len (.arg 0)))).holds [] { args := [.list (ns.map .int)] } = true := by
   have h4 := (holds_andW hc).1
   rw [hn] at h4
   exact h4
  have h5 := condW_of h4 (w_not (w_lt w_lit (w_len_list (w_arg rfl))))
  rw [List.length_map] at h5
  refine Nat.le_of_not_lt fun q => ?_
  have q' : (n : Int) < ((ns.length : Nat) : Int) := by omega
  first
   | (rw [decide_eq_true q'] at h5; exact absurd h5 (by decide))
   | (simp at h5; omega)
 cases hwl with
 | cons w1 w2 =>
  cases w2
  cases w1 with
  | list ho hall => exact ⟨_, _, ns, rfl, rfl, ho, ints_of_wellAll ns _ hall, hlen⟩
theorem post_true (l : OpenLaw) (args : List WData) : l.row.toRowW.claim.post args (.bool true) args = true :=
 postW_of (r := l.row.toRowW) (X := (true == true))
  (show WShape.has [] (.bool true) .bool = true by first | rfl | decide | simp [WShape.has, WShape.arms, WShape.armsAll])
  (show (WTm.eq .res (.lit (.bool true))).value [] { args := args, res := some (.bool true), after := args } = some (.bool (true == true)) from w_eq_bool (w_res rfl) w_lit) rfl
theorem attach_call {l : OpenLaw} {n : Nat} {q : Program} {loose : List Str} {XP : (Str -> Option Value) -> Heap -> Prop} {YP : World -> Heap -> Prop} {d : DefRec}
  (hn : l.most = some n) (hdf : d.params.defaults = [])
  (call : ∀ (w : World) (s₀ s₁ : Shared) (mg mb : Str -> Option Value) (fa : Addr) (o : Obj) (pm cd doc : Value) (a : Addr) (vs : List Value) (ns : List Int),
   Ground q loose [] XP w s₀ mg mb s₁.heap -> YP w s₁.heap ->
   s₁.heap.get? fa = some o -> o.data = .func (docDef d.name d.params d.body d.scope pm cd doc) -> s₁.heap.CodeRec cd d.name -> mg d.name = some (.ref fa) ->
   s₁.heap.get? a = some { cls := .type "list", data := .seq vs.toArray } -> IntsAre vs ns -> ns.length <= n -> s₁.gens = #[] ->
   codeAny (model l.prog w) callerA (.call (.ref fa) ⟨[.ref a], []⟩) (fun r s' => r = .ok (.ret (.bool true)) /\ OldK s₁.heap s'.heap /\ s'.os = s₁.os /\ AllBare s'.gens) s₁) :
  WalkO q loose XP YP l.row.toRowW d [] (fun f vs => PySem.call f vs) := by
 intro w s₀ s₁ mg mb G Y fa o pm cd doc dV kV ho hd hcd hD hmg hg args vals as hpre hlay hrd hwl hlo
 obtain rfl : dV = .none := Dflts.none hD hdf
 obtain rfl : kV = .none := Dflts.noKw hD
 obtain ⟨a, vs, ns, rfl, rfl, hobj, hints, hlen⟩ := script_of hn hpre hwl
 refine enter_call (codeAny_mono (call w s₀ s₁ mg mb fa o pm cd doc a vs ns G Y ho (fd_plain hd) hcd hmg hobj hints hlen hg) fun r s' hq => ?_)
 obtain ⟨rfl, h2, h3, h4⟩ := hq
 exact ⟨.inl ⟨.bool true, .bool true, [], rfl, fun _ => rfl, .bool true, post_true l _, fun _ => ⟨List.Pairwise.nil, fun _ hm => (nomatch hm)⟩⟩, h2, h3, h4⟩
section
variable {prog : Program} {w : World} {A : Around} {E : Value -> Shared -> Prop} {s : Shared} {K : Frag}
end
end Att
namespace L2
open PySem PySem.Spec PyProof.Rows
theorem vals_ints : ∀ {vs : List Value} {ns : List Int}, IntsAre vs ns -> Vals (ns.map V.int) vs
 | _, _, .nil => .nil
 | _, _, .cons n t h => .cons ⟨t, rfl⟩ (vals_ints h)
noncomputable def Only (H : Hp) : Prop := ∀ b, H b = none ∨ ∃ o xs, H b = some (.frz o (.lst xs))
theorem law_call {P : Program} {w : World} {K : PySem.W.Frag} {mg mb : Str -> Option Value} {CX : CXT} {k : Nat} {fa a : Addr} {fd : FuncData} {x : Str} {sp : Sp} {s₁ : Shared} {vs : List Value} {ns : List Int}
  (KX : K.In s₁.heap) (hns : s₁.heap.Ns mainGlobals mg) (hb : s₁.heap.Ns builtinsNs mb) (hbb : ∀ x : Str, x ≠ "__name__" -> mb x = bootBuiltins x) (hlim : s₁.heap.NoLimit) (hg : s₁.gens = #[])
  (ha : s₁.heap.get? a = some { cls := .type "list", data := .seq vs.toArray }) (hi : IntsAre vs ns) (hl : ns.length <= sizeLine) (hr : Room k callerA)
  (F : ∀ base : Heap, K.In base -> base.Ns mainGlobals mg -> FnOk P w K mg base CX k fa fd [x] sp) (hbind : ∀ (s : Shared) (u : Value), BindsTo s fd ⟨[u], []⟩ [(x, u)])
  (hsp : ∀ H : Hp, Only H -> SqL K H a (ns.map V.int) -> sp [.ref a] H (fun v _ => v = .bl true) fun _ _ _ => False)
  (hCX : ∀ H e s', CX [] H s₁ (fun _ _ _ => False) e s' -> False) :
  codeAny (model P w) callerA (.call (.ref fa) ⟨[.ref a], []⟩) (fun r s' => r = .ok (.ret (.bool true)) /\ OldK s₁.heap s'.heap /\ s'.os = s₁.os /\ AllBare s'.gens) s₁ := by
 have rv := vals_ints hi
 have lenV := hi.length
 have core : ∀ H : Hp, Only H -> SqL K H a (ns.map V.int) -> HOk P w H s₁.heap -> (∀ b, H b ≠ none -> b = a) -> (H a ≠ none -> K.lookup a = none) ->
   codeAny (model P w) callerA (.call (.ref fa) ⟨[.ref a], []⟩) (fun r s' => r = .ok (.ret (.bool true)) /\ OldK s₁.heap s'.heap /\ s'.os = s₁.os /\ AllBare s'.gens) s₁ := by
  intro H hO hS hok hA hK
  have base_of : ∀ {b : Addr} {o : Obj}, s₁.heap.get? b = some o -> H b = none -> (hidT s₁.heap H).get? b = some o := fun e n => hidT_get e n
  have noA : ∀ {b : Addr} {o : Obj} {es : Array DictEntry} {ep : Nat}, s₁.heap.get? b = some o -> o.data = .dict es ep -> H b = none := fun {b o es ep} e d => by
   cases q : H b with
   | none => rfl
   | some u =>
    have e' : b = a := hA b (by rw [q]; simp)
    subst e'
    rw [ha] at e; cases e
    have d' : Data.seq vs.toArray _ = Data.dict es ep := d
    cases d'
  have nsK : ∀ {b : Addr} {m : Str -> Option Value}, s₁.heap.Ns b m -> (hidT s₁.heap H).Ns b m := fun {b m} ⟨o, es, ep, e, d, r⟩ => ⟨o, es, ep, base_of e (noA e d), d, r⟩
  have hKb : K.In (hidT s₁.heap H) := fun b o e => base_of (KX b o e) (by
   cases q : H b with
   | none => rfl
   | some u =>
    have e' : b = a := hA b (by rw [q]; simp)
    subst e'
    rw [hK (by rw [q]; simp)] at e; cases e)
  have hM : Mod K mg (hidT s₁.heap H) := ⟨hKb, nsK hns, ⟨mb, nsK hb, hbb⟩, by obtain ⟨mc, h1, h2⟩ := hlim; exact ⟨mc, nsK h1, h2⟩⟩
  have e0 : Env0 P w K mg (hidT s₁.heap H) callerA [] s₁ H := ⟨rfl, hM, fun b o e => of_hidT e, Nat.le_of_eq (hidT_size _ _), trivial, fun b hb => absurd (show b ∈ ([] : List Addr) from hb) (by simp), hok, .of_eq hg⟩
  refine codeAny_mono ((F _ hKb (nsK hns)).run callerA [] s₁ H ⟨[.ref a], []⟩ [.ref a] [.ref a] _ _ hr e0 (hbind s₁ (.ref a)) (.cons rfl .nil) (hsp H hO hS)) fun r s' h => ?_
  cases r with
  | error e => exact (hCX H e s' h).elim
  | ok fl =>
   cases fl with
   | next => exact False.elim h
   | brk => exact False.elim h
   | cont => exact False.elim h
   | ret u =>
    obtain ⟨v, H', os, bare, un, hok', r', q⟩ := h
    have q' : v = .bl true := q
    subst q'
    obtain rfl : u = Value.bool true := r'
    refine ⟨rfl, OldK.of_keep fun b o e => ?_, os, bare⟩
    cases q : H b with
    | none => exact un.keep b o e q (by intro z; exact absurd (show b ∈ ([] : List Addr) from z) (by simp)) (by simp)
    | some u =>
     rcases hO b with z | ⟨ob, xs, z⟩
     ·rw [q] at z; cases z
     ·have z2 := un.frzs b ob _ z
      obtain ⟨e1, _⟩ := hok b _ z
      obtain ⟨e2, _⟩ := hok' b _ z2
      rw [e] at e1; cases e1
      exact e2
 cases hk : K.lookup a with
 | some o =>
  have e := KX a o hk
  rw [ha] at e
  cases e
  refine core (fun _ => none) (fun _ => .inl rfl) (.inr ⟨_, vs.toArray, _, hk, rfl, rfl, rfl, by rw [List.size_toArray, lenV]; exact hl, by simpa using rv⟩) (fun b u z => by have z' : (none : Option HO) = some u := z; cases z') (fun b z => absurd rfl z) fun z => absurd rfl z
 | none =>
  refine core (fun b => if b = a then some (.frz { cls := .type "list", data := .seq vs.toArray } (.lst (ns.map V.int))) else none) (fun b => ?_) (.inl (.inr ⟨{ cls := .type "list", data := .seq vs.toArray }, if_pos rfl⟩)) (fun b u z => ?_) (fun b z => ?_) fun _ => hk
  ·by_cases hb : b = a
   ·exact .inr ⟨_, _, if_pos hb⟩
   ·exact .inl (if_neg hb)
  ·by_cases hb : b = a
   ·have z' := (if_pos hb).symm.trans z
    cases z'
    subst hb
    exact ⟨ha, by rw [List.length_map]; exact hl, vs, _, rv, ha⟩
   ·have z' := (if_neg hb).symm.trans z
    cases z'
  ·by_cases hb : b = a
   ·exact hb
   ·exact absurd (if_neg hb) z
end L2
namespace L2
open PySem PySem.Spec PyProof.Rows
theorem walk_of {l : PySem.W.OpenLaw} {n k : Nat} {q : Program} {loose : List Str} {XP : (Str -> Option Value) -> Heap -> Prop} {YP : World -> Heap -> Prop} {d : DefRec} {K : Params -> PySem.W.Frag} {CX : World -> CXT} {sp : World -> Sp} {x : Str}
  (hn : l.most = some n) (hn2 : n <= sizeLine) (hdf : d.params.defaults = []) (hr : Room k callerA)
  (hY : ∀ (w : World) (h : Heap), YP w h -> (K w.params).In h)
  (F : ∀ (w : World) (mg : Str -> Option Value) (fa : Addr) (h : Heap), (K w.params).In h -> h.Ns mainGlobals mg -> mg d.name = some (.ref fa) ->
   ∃ fd : FuncData, (∀ (s : Shared) (u : Value), BindsTo s fd ⟨[u], []⟩ [(x, u)]) /\
    ∀ base : Heap, (K w.params).In base -> base.Ns mainGlobals mg -> FnOk l.prog w (K w.params) mg base (CX w) k fa fd [x] (sp w))
  (hsp : ∀ (w : World) (H : Hp) (a : Addr) (ns : List Int), ns.length <= n -> Only H -> SqL (K w.params) H a (ns.map V.int) -> sp w [.ref a] H (fun v _ => v = .bl true) fun _ _ _ => False)
  (hCX : ∀ (w : World) (H : Hp) (s : Shared) (e : Value) (s' : Shared), CX w [] H s (fun _ _ _ => False) e s' -> False) :
  PySem.W.WalkO q loose XP YP l.row.toRowW d [] (fun f vs => PySem.call f vs) := by
 refine Att.attach_call hn hdf fun w s₀ s₁ mg mb fa o pm cd doc a vs ns G Y ho hd hcd hmg hobj hints hlen hg => ?_
 have KX := hY w _ Y
 obtain ⟨fd, hb, hF⟩ := F w mg fa _ KX G.T.g hmg
 exact law_call KX G.T.g G.T.b G.T.builtins G.T.nolimit hg hobj hints (Nat.le_trans hlen hn2) hr hF hb (fun H hO hS => hsp w H a ns hlen hO hS) fun H e s' => hCX w H s₁ e s'
end L2
namespace L2
open PySem PySem.Spec PyProof.Rows
noncomputable def inClass (s : Stmt) (j : Nat) : Stmt := match s with
 | .ClassDef _ _ _ body _ _ _ _ _ _ _ => body.getD j (.Pass ⟨0, 0, 0, 0⟩)
 | _ => .Pass ⟨0, 0, 0, 0⟩
noncomputable def defArgs (s : Stmt) : Arguments := match s with
 | .FunctionDef _ a _ _ _ _ _ _ _ _ => a
 | _ => { posonlyargs := [], args := [], vararg := none, kwonlyargs := [], kw_defaults := [], kwarg := none, defaults := [] }
noncomputable def defBody (s : Stmt) : List Stmt := match s with
 | .FunctionDef _ _ b _ _ _ _ _ _ _ => b
 | _ => []
noncomputable def defScope (s : Stmt) : Scope := match s with
 | .FunctionDef _ _ _ _ _ _ sc _ _ _ => sc
 | _ => { kind := .function, names := [], isGenerator := false, isCoroutine := false }
noncomputable abbrev CX0 : CXT := fun _ _ _ _ _ _ => False
noncomputable abbrev E0 : XK := fun _ _ _ => False
theorem pass0 {X : Cx} : Passes CX0 X E0 := fun _ _ _ _ _ _ _ h => h.elim
structure Fun (K : PySem.W.Frag) (x qual : Str) (st : Stmt) (f : Addr) (fd : FuncData) : Prop where
 ex : ∃ (oc : Value) (od : Option Addr) (kV doc pm : Value) (an : Option Addr) (cdv ct : Value) (osl : Array (Option Value)),
  fd = PySem.W.fnOf x qual (defArgs st) (defBody st) (defScope st) .none kV doc pm an cdv ct /\ K.lookup f = some ⟨oc, od, .func fd, osl⟩ /\ PySem.W.codeIn K cdv qual = true
 kp : PySem.W.keepIn K (.ref f) = true
section
variable {P : Program} {w : World} {K : PySem.W.Frag} {mg : Str -> Option Value} {base : Heap}
theorem Fun.ok {x qual : Str} {st : Stmt} {f : Addr} {fd : FuncData} {N ps : List Str} {k : Nat} {sp : Sp} (F : Fun K x qual st f fd) (S : FnScope N ps (defScope st)) (len : ∀ vs H Q E, sp vs H Q E -> vs.length = ps.length)
  (hbody : ∀ (cdv : Value) (A : Around) (outer : List Env) (s : Shared) (H : Hp) (vs : List V) (Q : VK) (E : XK), Room k (A.deeper (envOfC qual (defScope st) s.heap.objs.size f cdv)) -> sp vs H Q E ->
   ∃ t, PSs (cxOf CX0 P w K mg base N qual (defScope st) f cdv A outer s H E).nox (defBody st) t /\ t { nx := fun _ H' => Q .non H', rt := Q } (start N vs) H) : FnOk P w K mg base CX0 (k + 1) f fd ps sp := by
 obtain ⟨oc, od, kV, doc, pm, an, cdv, ct, osl, rfl, lk, hcd⟩ := F.ex
 refine fn_of lk hcd S len fun A outer s H vs Q E hr hsp => ?_
 obtain ⟨t, h, q⟩ := hbody cdv A outer s H vs Q E hr hsp
 exact ⟨t, h.nox, q⟩
theorem Fun.binds {x qual : Str} {st : Stmt} {f : Addr} {fd : FuncData} {ps : List Str} (F : Fun K x qual st f fd)
  (h : ∀ (kV doc pm : Value) (an : Option Addr) (cdv ct : Value) (us : List Value), us.length = ps.length -> bindArgs (PySem.W.fnOf x qual (defArgs st) (defBody st) (defScope st) .none kV doc pm an cdv ct) ⟨us, []⟩ = pure (ps.zip us)) : Binds K fd ps [] := by
 obtain ⟨oc, od, kV, doc, pm, an, cdv, ct, osl, rfl, lk, hcd⟩ := F.ex
 exact .all (h kV doc pm an cdv ct)
theorem fun_mk {x qual : Str} {st : Stmt} {f : Addr} {oc : Value} {od an : Option Addr} {osl : Array (Option Value)} {kV doc pm cdv ct : Value} (l : K.lookup f = some ⟨oc, od, .func (PySem.W.fnOf x qual (defArgs st) (defBody st) (defScope st) .none kV doc pm an cdv ct), osl⟩)
  (c : PySem.W.codeIn K cdv qual = true) (k : PySem.W.keepIn K (.ref f) = true) : Fun K x qual st f (PySem.W.fnOf x qual (defArgs st) (defBody st) (defScope st) .none kV doc pm an cdv ct) := ⟨⟨oc, od, kV, doc, pm, an, cdv, ct, osl, rfl, l, c⟩, k⟩
end
theorem small1000 {n : Nat} (h : n <= 1000) : n < sizeLine := Nat.lt_of_le_of_lt h (by decide)
section
variable {X : Cx}
theorem pv (i : Nat) {x : Str} {pos : Pos} (hN : X.N[i]? = some x := by rfl) (hv : Vis X.env.scope x := by first | exact Or.inl rfl | exact Or.inr (Or.inl rfl) | exact Or.inr (Or.inr rfl)) (hd : (x == ("__debug__" : Str)) = false := by decide)
  (hcd : (x == ("__classdict__" : Str)) = false := by decide) : PE X (.Name x pos) (tVar i) := pe_var hN hv hd hcd
end
theorem iteF {A B : Prop} (h : B) : if false = true then A else B := by
 rw [if_neg Bool.false_ne_true]
 exact h
theorem iteT {A B : Prop} (h : A) : if true = true then A else B := by
 rw [if_pos rfl]
 exact h
noncomputable def Same (H H' : Hp) : Prop := ∀ b o, H b = some o -> H' b = some o
theorem Same.refl (H : Hp) : Same H H := fun _ _ h => h
theorem Same.trans {H H1 H2 : Hp} (a : Same H H1) (b : Same H1 H2) : Same H H2 := fun c o h => b c o (a c o h)
theorem Same.free {H H' : Hp} (e : Same H H') {l : Addr} (h : H' l = Option.none) : H l = Option.none := by
 cases q : H l with
 | none => rfl
 | some o =>
  rw [e l o q] at h
  cases h
end L2
set_option Elab.async false
set_option linter.all false
set_option maxRecDepth 100000
set_option maxHeartbeats 4000000
namespace L2
open PySem PySem.Spec PyProof.Rows
noncomputable abbrev cmpTests (ifs : List Expr) (env : Env) : Sem Bool :=
 forIn ifs true fun c r => if r = true then do let ok <- isTrue c env (eval c env); pure (ForInStep.yield ok) else pure (ForInStep.yield r)
noncomputable def clOf (cells : List (Str × Addr)) : List (Str × NameKind) -> List (Str × Addr) -> List (Str × Addr)
 | [], acc => acc
 | (n, k) :: r, acc => clOf cells r (if k == .free then (n, (cells.lookup n).getD 0) :: acc else acc)
theorem clOf_eq {env : Env} : ∀ (ns : List (Str × NameKind)) (acc : List (Str × Addr)), (∀ y ∈ ns, y.2 = .free -> ∃ c, env.cells.lookup y.1 = some c) ->
  (forIn ns acc fun (p : Str × NameKind) (cs : List (Str × Addr)) => (if p.2 == .free then (do let c <- cellOf env p.1; pure (ForInStep.yield ((p.1, c) :: cs))) else pure (ForInStep.yield cs) : Sem (ForInStep (List (Str × Addr))))) = (pure (clOf env.cells ns acc) : Sem (List (Str × Addr)))
 | [], acc, _ => rfl
 | (n, k) :: r, acc, h => by
  rw [List.forIn_cons]
  by_cases hk : k = .free
  ·subst hk
   obtain ⟨c, hc⟩ := h (n, .free) List.mem_cons_self rfl
   have e1 : cellOf env n = pure c := by unfold cellOf; rw [show env.cells.lookup n = some c from hc]
   simp only [beq_self_eq_true, if_true, e1, clOf, hc, Option.getD_some]
   exact clOf_eq r ((n, c) :: acc) fun y hy => h y (List.mem_cons_of_mem _ hy)
  ·have hb : (k == NameKind.free) = false := by simpa using hk
   simp only [hb, Bool.false_eq_true, if_false, clOf]
   exact clOf_eq r acc fun y hy => h y (List.mem_cons_of_mem _ hy)
theorem closure_eq {env : Env} {sc : Scope} (h : ∀ y ∈ sc.names, y.2 = .free -> ∃ c, env.cells.lookup y.1 = some c) : closureFor sc env = pure (clOf env.cells sc.names []) := by
 unfold closureFor
 have q := clOf_eq (env := env) sc.names [] h
 have e : (forIn sc.names [] fun (p : Str × NameKind) (cs : List (Str × Addr)) => (match p with | (name, kind) => if kind == .free then (do let c <- cellOf env name; pure (ForInStep.yield ((name, c) :: cs))) else pure (ForInStep.yield cs) : Sem (ForInStep (List (Str × Addr))))) = (pure (clOf env.cells sc.names []) : Sem (List (Str × Addr))) := q
 simp only [e]
 rfl
theorem clOf_look {cells : List (Str × Addr)} : ∀ (ns : List (Str × NameKind)) (acc : List (Str × Addr)), (∀ y ∈ ns, y.2 = .free -> ∃ c, cells.lookup y.1 = some c) -> (∀ y c, acc.lookup y = some c -> cells.lookup y = some c) ->
  (∀ y c, (clOf cells ns acc).lookup y = some c -> cells.lookup y = some c) /\ (∀ y, (acc.lookup y).isSome = true -> ((clOf cells ns acc).lookup y).isSome = true) /\ (∀ y, (y, NameKind.free) ∈ ns -> ((clOf cells ns acc).lookup y).isSome = true)
 | [], acc, _, h2 => ⟨h2, fun _ h => h, fun _ h => nomatch h⟩
 | (n, k) :: r, acc, h1, h2 => by
  have h1' : ∀ y ∈ r, y.2 = .free -> ∃ c, cells.lookup y.1 = some c := fun y hy => h1 y (List.mem_cons_of_mem _ hy)
  by_cases hk : k = .free
  ·subst hk
   obtain ⟨c, hc⟩ := h1 (n, .free) List.mem_cons_self rfl
   have hc' : cells.lookup n = some c := hc
   have e : clOf cells ((n, .free) :: r) acc = clOf cells r ((n, c) :: acc) := by simp only [clOf, beq_self_eq_true, if_true, hc', Option.getD_some]
   have ih := clOf_look (cells := cells) r ((n, c) :: acc) h1' (fun y d hy => by
    rw [List.lookup_cons] at hy
    cases q : y == n with
    | true => rw [q] at hy; cases hy; rw [eq_of_beq q]; exact hc'
    | false => rw [q] at hy; exact h2 y d hy)
   rw [e]
   refine ⟨ih.1, fun y hy => ih.2.1 y ?_, fun y hy => ?_⟩
   ·rw [List.lookup_cons]; split
    ·rfl
    ·exact hy
   ·rcases List.mem_cons.mp hy with z | z
    ·cases z; exact ih.2.1 n (by rw [List.lookup_cons]; simp)
    ·exact ih.2.2 y z
  ·have hb : (k == NameKind.free) = false := by simpa using hk
   have e : clOf cells ((n, k) :: r) acc = clOf cells r acc := by simp only [clOf, hb, Bool.false_eq_true, if_false]
   have ih := clOf_look (cells := cells) r acc h1' h2
   rw [e]
   refine ⟨ih.1, ih.2.1, fun y hy => ?_⟩
   rcases List.mem_cons.mp hy with z | z
   ·cases z; exact absurd rfl hk
   ·exact ih.2.2 y z
structure CompSc (scX sc : Scope) (NX : List Str) (x : Str) (fv : List Str) (js : List Nat) : Prop where
 kind : sc.kind = .function
 kindX : scX.kind = .function
 cell : ∀ y ∈ sc.names, y.2 ≠ .cell
 own : sc.names.lookup x = some .local
 names : ∀ y ∈ sc.names, y.2 = .local -> sc.names.lookup y.1 = some .local
 free : ∀ y ∈ sc.names, y.2 = .free -> scX.names.lookup y.1 = some .cell
 nd : (x :: fv).Nodup
 at' : js.map (fun j => NX[j]?) = fv.map some
 fr : ∀ y ∈ fv, sc.names.lookup y = some .free
theorem relabel_free {env : Env} (hk : env.scope.kind = .function) : ∀ {ns : List (Str × NameKind)} {y : Str}, ns.lookup y = some .free -> env.kindOf y = some .cell ->
  (ns.map fun (n, k) => if (k == NameKind.free && env.scope.kind == .function && env.kindOf n == some .cell) then (n, NameKind.cell) else (n, k)).lookup y = some .cell
 | [], _, h, _ => by simp at h
 | (n, k) :: r, y, h, hc => by
  have ih := @relabel_free env hk r y
  show List.lookup y ((if (k == NameKind.free && env.scope.kind == .function && env.kindOf n == some .cell) = true then (n, NameKind.cell) else (n, k)) :: _) = _
  cases hx : y == n with
  | true =>
   simp only [List.lookup_cons, hx] at h
   cases h
   have e : y = n := eq_of_beq hx
   subst e
   simp [List.lookup_cons, hc, hk]
  | false =>
   simp only [List.lookup_cons, hx] at h
   split <;> (simp only [List.lookup_cons, hx]; exact ih h hc)
theorem relabel_back {env : Env} : ∀ {ns : List (Str × NameKind)} {y : Str}, (∀ z ∈ ns, z.2 ≠ .cell) ->
  ((ns.map fun (n, k) => if (k == NameKind.free && env.scope.kind == .function && env.kindOf n == some .cell) then (n, NameKind.cell) else (n, k)).lookup y = some .cell ∨
   (ns.map fun (n, k) => if (k == NameKind.free && env.scope.kind == .function && env.kindOf n == some .cell) then (n, NameKind.cell) else (n, k)).lookup y = some .free) -> (y, NameKind.free) ∈ ns
 | [], _, _, h => by simp at h
 | (n, k) :: r, y, hz, h => by
  have ih := @relabel_back env r y fun z hm => hz z (List.mem_cons_of_mem _ hm)
  have hk : k ≠ .cell := hz (n, k) List.mem_cons_self
  rw [List.map_cons] at h
  by_cases hc : (k == NameKind.free && env.scope.kind == .function && env.kindOf n == some .cell) = true
  ·have hf : k = .free := by
    rw [Bool.and_eq_true, Bool.and_eq_true] at hc
    exact eq_of_beq hc.1.1
   simp only [hc, if_true, List.lookup_cons] at h
   cases hx : y == n with
   | true => rw [eq_of_beq hx, hf]; exact List.mem_cons_self
   | false => rw [hx] at h; exact List.mem_cons_of_mem _ (ih h)
  ·rw [Bool.not_eq_true] at hc
   simp only [hc, Bool.false_eq_true, if_false, List.lookup_cons] at h
   cases hx : y == n with
   | true =>
    rw [hx] at h
    rcases h with h | h
    ·exact absurd (Option.some.inj h) hk
    ·have : k = .free := Option.some.inj h
     rw [eq_of_beq hx, this]; exact List.mem_cons_self
   | false => rw [hx] at h; exact List.mem_cons_of_mem _ (ih h)
noncomputable def pick (js : List Nat) (σ : St) : St := js.map fun j => (σ[j]?).getD none
noncomputable abbrev xc (X : Cx) (sc : Scope) (x : Str) (fv : List Str) (C : Addr) (s0 : Shared) (H0 : Hp) (ex : List Addr) : Cx :=
 { X with N := x :: fv, s₀ := s0, H₀ := H0, env := compEnvC sc (clOf X.env.cells sc.names []) C X.env, outer := X.stack, ex := ex, fn := fun _ => false, pn := [], xe := fun _ _ => False }
noncomputable def PIf (X : Cx) (ifs : List Expr) (t : TT) : Prop :=
 ∀ (pins : List (Addr × Obj)) (s : Shared) (σ : St) (H : Hp) (Q : Bool -> Hp -> Prop), Inv X pins σ H s -> t σ H Q -> wpAny (model X.prog X.w) X.A (cmpTests ifs X.env) (TP X pins σ Q) X.xe s
noncomputable def tYes : TT := fun _ H Q => Q true H
theorem tYes_ok {σ : St} {H : Hp} {Q : Bool -> Hp -> Prop} (h : Q true H) : tYes σ H Q := h
theorem pif_nil {X : Cx} : PIf X [] tYes := fun _ _ _ H _ I h => wpAny_tests_nil ⟨H, I, h⟩
theorem pif_one {X : Cx} {c : Expr} {t : TT} (hc : PT X c t) : PIf X [c] t := fun pins s σ H Q I h => wpAny_tests_one (hc pins s σ H Q I h)
noncomputable def tCompB (J : It) (js : List Nat) (tt : TT) (te : TE) : TE := fun σ H1 Q => ∃ W : Nat -> Nat -> List V -> Hp -> Prop, (∃ m, W 0 m [] H1) /\ ∀ i m ys H, W i m ys H ->
 (J.stop i H /\ ∀ p, H p = none -> Q (.ref p) (upd H p (.lst ys))) ∨
 (J.go i H /\ ∃ N : List V -> Hp -> Prop, (∀ ys' H', N ys' H' -> ∃ m', m' < m /\ W (i + 1) m' ys' H') /\
  ∀ x H', J.yld i H x H' -> tt (some x :: pick js σ) H' fun b H2 => if b = true then te (some x :: pick js σ) H2 fun y H3 => ys.length < sizeLine /\ N (ys ++ [y]) H3 else N ys H2)
noncomputable def tComp (wi : TI) (js : List Nat) (tt : TT) (te : TE) : TE := fun σ H Q => wi σ H fun J H1 => tCompB J js tt te σ H1 Q
section
variable {X : Cx} {pins : List (Addr × Obj)} {σ : St} {H2 : Hp} {s2 : Shared} {elt iter : Expr} {x : Str} {px : Pos} {ifs : List Expr} {sc scX : Scope} {pos : Pos} {fv : List Str} {js : List Nat} {tt : TT} {te : TE}
theorem comp_list {K : PySem.W.Frag} {a : Addr} {xs : List V} {σ : St} {H : Hp} {Q : VK} (Pv : Nat -> List V -> Hp -> Prop) (h0 : Pv 0 [] H) (hl : ∀ i ys H, i <= xs.length -> Pv i ys H -> SqL K H a xs)
  (hs : ∀ i x ys H, xs[i]? = some x -> Pv i ys H -> tt (some x :: pick js σ) H fun b H2 => if b = true then te (some x :: pick js σ) H2 fun y H3 => ys.length < sizeLine /\ Pv (i + 1) (ys ++ [y]) H3 else Pv (i + 1) ys H2)
  (hd : ∀ ys H, Pv xs.length ys H -> ∀ p, H p = none -> Q (.ref p) (upd H p (.lst ys))) :
  tCompB (Itl K a) js tt te σ H Q := by
 refine ⟨fun i m ys H => m = xs.length - i /\ i <= xs.length /\ Pv i ys H, ⟨xs.length, by simp, Nat.zero_le _, h0⟩, ?_⟩
 rintro i m ys H ⟨rfl, hi, p⟩
 have q := hl i ys H hi p
 by_cases hlt : i < xs.length
 ·refine .inr ⟨⟨xs, xs[i], q, by simp [hlt]⟩, Pv (i + 1), fun ys' H' p' => ⟨xs.length - (i + 1), by omega, rfl, hlt, p'⟩, fun x H' y => ?_⟩
  obtain ⟨e, y⟩ := y
  subst e
  exact hs i x ys _ (y xs q) p
 ·have e : i = xs.length := by omega
  subst e
  exact .inl ⟨⟨xs, q, Nat.le_refl _⟩, hd ys H p⟩
end
end L2
set_option linter.all false
namespace Mm
open PySem
end Mm
set_option Elab.async false
set_option linter.all false
set_option maxRecDepth 100000
set_option maxHeartbeats 4000000
namespace L2
open PySem PySem.Spec PyProof.Rows
section
variable {X : Cx}
theorem call_isinst {n : String} : CallR X (.builtin "isinstance") (fun xs H Q => ∃ x t b, xs = [x, .ty n] /\ TyOf X.K H x t /\ PySem.W.kitOne X.K t (.type n) = some b /\ Q (.bl b) H) := by
 intro pins s σ H xs us Q I r h
 obtain ⟨x, t, b, rfl, ty, e, q⟩ := h
 obtain ⟨u, w', rfl, rx, rw'⟩ := vals2 r
 cases (show w' = Value.type n from rw')
 exact isinst_ok I rx ty e fun tk => ⟨.bl b, H, I.tok _, rfl, q⟩
end
theorem bt_isi : bootBuiltins "isinstance" = some (.builtin "isinstance") := by decide +kernel
theorem ix_listK {X : Cx} {K : PySem.W.Frag} (h : X.K = K) : IxR X (rIxL K) := by subst h; exact ix_list
end L2
set_option Elab.async false
set_option linter.all false
set_option maxRecDepth 100000
set_option maxHeartbeats 4000000
namespace L2
open PySem PySem.Spec PyProof.Rows
section
variable {X : Cx}
theorem mt_bitlen : MtR X "int.bit_length" (fun x xs H Q => ∃ i, x = .int i /\ xs = [] /\ Q (.int ((Builtin.Int.intBits i : Nat) : Int)) H) := by
 intro pins s σ H x xs v us Q I rx rs h
 obtain ⟨i, rfl, rfl, q⟩ := h
 obtain ⟨t, rfl⟩ := rx
 cases rs
 exact call_int_bit_length ⟨.int _, H, I.tok _, ⟨_, rfl⟩, q⟩
end
theorem bt_list : bootBuiltins "list" = some (.type "list") := by decide +kernel
end L2
set_option Elab.async false
set_option linter.all false
set_option maxRecDepth 100000
set_option maxHeartbeats 4000000
namespace L2
open PySem PySem.Spec PyProof.Rows
section
variable {X : Cx}
end
end L2
namespace PySem.F
end PySem.F
set_option Elab.async false
set_option linter.all false
set_option maxRecDepth 100000
set_option maxHeartbeats 4000000
namespace PySem
section
variable {prog : Program} {w : World} {A : Around} {E : Value -> Shared -> Prop} {s : Shared}
end
end PySem
namespace L2
open PySem PySem.Spec PyProof.Rows
section
variable {X : Cx} {tg : Expr}
end
end L2
set_option Elab.async false
set_option linter.all false
set_option maxRecDepth 100000
set_option maxHeartbeats 4000000
namespace L2
open PySem PySem.Spec PyProof.Rows
section
variable {X : Cx} {a : Addr} {kvs : List (Str × Int)} {x : Str} {p pos apos cpos : Pos} {e f : Expr} {ty tx : TE}
end
end L2
set_option Elab.async false
set_option linter.all false
set_option maxRecDepth 100000
set_option maxHeartbeats 4000000
namespace L2
open PySem PySem.Spec PyProof.Rows
structure KDictT (P : Program) (w : World) (K : PySem.W.Frag) (a : Addr) (kvs : List (Str × Str)) : Prop where
 ns : (a == sysModules) = false
 ob : ∃ (o : Obj) (vs : List (Key × Value)), K.lookup a = some o /\ o.cls = .type "dict" /\ o.dict = none /\ (∀ h : Heap, h.get? a = some o -> h.DictOf (mixKind P w) a vs) /\
  ∀ k : Str, (∀ i, kvs.lookup k = some i -> ∃ t, valueAt vs (Sum.inr k : Key) = some (.str i t)) /\ (kvs.lookup k = none -> valueAt vs (Sum.inr k : Key) = none)
noncomputable abbrev KE4T := Str × Tok × Str × Tok
noncomputable def kEntT (w : World) (e : KE4T) : DictEntry := ⟨hashStr w e.1, .str e.1 e.2.1, .str e.2.2.1 e.2.2.2⟩
noncomputable def kPrT (e : KE4T) : Key × Value := (Sum.inr e.1, .str e.2.2.1 e.2.2.2)
theorem kPairsT {P : Program} {w : World} : ∀ es : List KE4T, Pairs (mixKind P w) (es.map (kEntT w)) (es.map kPrT)
 | [] => .nil
 | e :: r => .cons (mixKind_str P w e.1 e.2.1) rfl (kPairsT r)
theorem kValT (k : Str) : ∀ es : List KE4T, (∀ i, (es.map fun e => (e.1, e.2.2.1)).lookup k = some i -> ∃ t, valueAt (es.map kPrT) (Sum.inr k : Key) = some (.str i t)) /\ ((es.map fun e => (e.1, e.2.2.1)).lookup k = none -> valueAt (es.map kPrT) (Sum.inr k : Key) = none)
 | [] => ⟨fun i h => by simp at h, fun _ => rfl⟩
 | e :: r => by
  obtain ⟨h1, h2⟩ := kValT k r
  simp only [List.map_cons, List.lookup_cons]
  by_cases hk : k = e.1
  ·subst hk
   simp only [beq_self_eq_true]
   refine ⟨fun i h => ?_, fun h => nomatch h⟩
   cases h
   exact ⟨e.2.2.2, by simp [valueAt, kPrT]⟩
  ·have hb : (k == e.1) = false := beq_eq_false_iff_ne.mpr hk
   have hn : ¬ ((kPrT e).1 = (Sum.inr k : Key)) := fun z => hk (by
    have z' : (Sum.inr e.1 : Key) = Sum.inr k := z
    injection z' with z'
    exact z'.symm)
   have ev : valueAt (kPrT e :: r.map kPrT) (Sum.inr k : Key) = valueAt (r.map kPrT) (Sum.inr k : Key) := by
    unfold valueAt
    rw [List.find?_cons_of_neg (by simpa using hn)]
   rw [hb, ev]
   exact ⟨h1, h2⟩
theorem kdictT_mk {P : Program} {w : World} {K : PySem.W.Frag} {a : Addr} {ep : Nat} {es : List KE4T} (hs : (a == sysModules) = false)
  (hl : K.lookup a = some ⟨.type "dict", none, .dict (es.map (kEntT w)).toArray ep, #[]⟩) (nd : (es.map (·.1)).Nodup) : KDictT P w K a (es.map fun e => (e.1, e.2.2.1)) := by
 refine ⟨hs, _, es.map kPrT, hl, rfl, rfl, fun h e => ⟨_, _, _, e, ⟨rfl, rfl, rfl⟩, rfl, ?_, kPairsT es, ?_⟩, fun k => kValT k es⟩
 ·intro x hx
  have hx' : x ∈ es.map (kEntT w) := by simpa using hx
  obtain ⟨y, _, rfl⟩ := List.mem_map.mp hx'
  exact ⟨Sum.inr y.1, mixKind_str P w y.1 y.2.1, rfl⟩
 ·have e1 : (es.map kPrT).map (·.1) = (es.map (·.1)).map (Sum.inr : Str -> Key) := by rw [List.map_map, List.map_map]; rfl
  rw [e1]
  refine List.Pairwise.map _ (fun x y hxy hz => hxy ?_) nd
  injection hz
section
variable {X : Cx} {a : Addr} {kvs : List (Str × Str)} {x : Str} {p pos apos cpos : Pos} {e f : Expr} {ty tx : TE}
theorem KDictT.here {pins : List (Addr × Obj)} {σ : St} {H : Hp} {s : Shared} (D : KDictT X.prog X.w X.K a kvs) (I : Inv X pins σ H s) :
  ∃ vs : List (Key × Value), s.heap.DictOf (mixKind X.prog X.w) a vs /\ (∀ b, Value.ref a = .ref b -> ∃ ob, s.heap.get? b = some ob /\ ob.dict = none) /\
   ∀ k : Str, (∀ i, kvs.lookup k = some i -> ∃ t, valueAt vs (Sum.inr k : Key) = some (.str i t)) /\ (kvs.lookup k = none -> valueAt vs (Sum.inr k : Key) = none) := by
 obtain ⟨o, vs, hk, hc, hd, hh, hv⟩ := D.ob
 have e := I.kIn a o hk
 exact ⟨vs, hh _ e, fun b q => by cases q; exact ⟨o, e, hd⟩, hv⟩
noncomputable def tKIxT (kvs : List (Str × Str)) (ty : TE) : TE := fun σ H Q => ty σ H fun y H1 => ∃ (k : Str) (i : Str), y = .str k /\ kvs.lookup k = some i /\ Q (.str i) H1
theorem pe_kixT (D : KDictT X.prog X.w X.K a kvs) (hg : Gl X x) (hm : X.mg x = some (.ref a)) (he : PE X e ty) (hs : PlainIx e) (hd : (x == ("__debug__" : Str)) = false := by decide) : PE X (.Subscript (.Name x p) e pos) (tKIxT kvs ty) := by
 intro pins s σ H Q I h
 refine Subscript_ (ld_glob I hg hm ?_ hd)
 refine thn (he pins s σ H _ I h) fun iv s1 hsl38 => ?_
 obtain ⟨y, H1, I1, ry, k, i, ey, hk, q⟩ := hsl38
 subst ey
 obtain ⟨t, rfl⟩ := ry
 obtain ⟨vs, dd, _, hv⟩ := D.here I1
 obtain ⟨t', e⟩ := (hv k).1 i hk
 exact tail_any dd.typeIs PySem.F.slot_dict_getitem.lookup (wpAny_getItem_of (k := (Sum.inr k : Key)) (mixKind_str _ _ k t) dd.mapOf e ⟨.str i, H1, I1.tok _, ⟨t', rfl⟩, q⟩) (hs _ _)
end
end L2
set_option Elab.async false
set_option linter.all false
set_option maxRecDepth 100000
set_option maxHeartbeats 4000000
namespace L2
open PySem PySem.Spec PyProof.Rows
section
variable {X : Cx}
end
theorem kit_same (K : PySem.W.Frag) (C : Addr) : PySem.W.kitOne K (.ref C) (.ref C) = some true := by
 unfold PySem.W.kitOne
 rw [if_pos (by simp)]
end L2
set_option Elab.async false
set_option linter.all false
set_option maxRecDepth 100000
set_option maxHeartbeats 4000000
namespace L2
open PySem PySem.Spec PyProof.Rows
section
variable {X : Cx}
end
section
variable {X : Cx} {pins : List (Addr × Obj)} {σ : St} {H H' : Hp} {s s' : Shared} {B h'' : Heap}
end
section
variable {P : Program} {w : World} {K : PySem.W.Frag} {mg : Str -> Option Value} {base : Heap} {N : List Str} {qual : Str} {scope : Scope} {f : Addr} {cd : Value} {A : Around} {outer : List Env} {s₀ : Shared} {H₀ : Hp} {E : XK}
end
section
variable {X : Cx}
end
end L2
set_option Elab.async false
set_option linter.all false
set_option maxRecDepth 100000
set_option maxHeartbeats 4000000
namespace L2
open PySem PySem.Spec PyProof.Rows
section
variable {prog : Program} {w : World} {A : Around} {E : Value -> Shared -> Prop} {s : Shared} {K : PySem.W.Frag} {x D : Addr} {name : Str}
end
section
variable {X : Cx}
end
section
variable {X : Cx} {CX : CXT} {k : Nat} {f C : Addr} {fd : FuncData} {ps : List Str} {sp : Sp} {dvs : List V} {ds : List Value} {x m : Str} {p pos apos : Pos} {e o : Expr} {es : List Expr} {ta : TE} {t : TA}
end
section
variable {X : Cx} {pins : List (Addr × Obj)} {σ : St} {H : Hp} {s : Shared}
end
section
variable {X : Cx}
end
end L2
set_option Elab.async false
set_option linter.all false
set_option maxRecDepth 100000
set_option maxHeartbeats 4000000
namespace L2
open PySem PySem.Spec PyProof.Rows
section
variable {X : Cx} {CX : CXT} {e : Expr} {te : XK -> TE} {pos : Pos}
end
section
variable {X : Cx} {CX : CXT} {k : Nat} {f C : Addr} {fd : FuncData} {ps : List Str} {sp : Sp} {dvs : List V} {ds : List Value} {x m : Str} {p pos apos : Pos} {e o : Expr} {es : List Expr} {ta : TE} {t : TA}
end
section
variable {X : Cx}
end
end L2
set_option Elab.async false
set_option linter.all false
set_option maxRecDepth 100000
set_option maxHeartbeats 4000000
namespace L2
open PySem PySem.Spec PyProof.Rows
theorem cmp_loop2 {prog : Program} {w : World} {A : Around} {R : Result -> Shared -> Prop} {s : Shared} {elt iter : Expr} {tg : Expr} {ifs : List Expr} {sc : Scope} {pos : Pos} {it acc : Value} {env : Env} (J : Nat -> Shared -> Prop)
  (one : ∀ k st, J k st -> wpAny (model prog w) A (pyNext it) (fun r s₁ => match r with
   | none => R (.ok .next) s₁
   | some v => wpAny (model prog w) A (letOwnedTupleGo tg it v) (fun _ sg => wpAny (model prog w) A (assign tg env v) (fun _ s₂ =>
     wpAny (model prog w) A (cmpTests ifs env) (fun ok s₃ =>
      if ok = true then wpAny (model prog w) A (eval elt env) (fun y s₄ => wpAny (model prog w) A (call (.builtin "list.append") [acc, y]) (fun _ s₅ => ∃ m, m < k /\ J m s₅) (fun _ _ => False) s₄) (fun _ _ => False) s₃
      else ∃ m, m < k /\ J m s₃) (fun _ _ => False) s₂) (fun _ _ => False) sg) (fun _ _ => False) s₁) (fun _ _ => False) st)
  (k0 : Nat) (h0 : J k0 s) : codeAny (model prog w) A (.compLoop (.ListComp elt [⟨tg, iter, ifs, 0⟩] sc pos) 0 it acc env) R s := by
 refine codeAny_loop rfl J (fun k st hk => ?_) k0 h0
 show wpAny _ A ((compTurn (.ListComp elt [⟨tg, iter, ifs, 0⟩] sc pos) 0 it acc env).onRaise (fun y => do noteFrame y env; theTreesLotGoes y)) _ _ st
 refine wpAny_noted ?_
 rw [compTurn_list]
 refine wpAny_bind (wpAny_standAt (wpAny_bind (wpAny_mono (one k st hk) (fun r s₁ h₁ => ?_) fun _ _ z => z.elim)))
 cases r with
 | none => exact wpAny_pure h₁
 | some v =>
  refine wpAny_bind (wpAny_mono h₁ (fun _ sg hg => ?_) fun _ _ z => z.elim)
  refine wpAny_bind (wpAny_mono hg (fun _ s₂ h₂ => ?_) fun _ _ z => z.elim)
  refine wpAny_bind (wpAny_mono h₂ (fun ok s₃ h₃ => ?_) fun _ _ z => z.elim)
  cases ok with
  | false => exact wpAny_pure ⟨rfl, h₃⟩
  | true =>
   refine wpAny_bind (wpAny_bind (wpAny_mono h₃ (fun y s₄ h₄ => ?_) fun _ _ z => z.elim))
   exact wpAny_bind (wpAny_mono h₄ (fun _ s₅ h₅ => wpAny_pure (wpAny_pure ⟨rfl, h₅⟩)) fun _ _ z => z.elim)
structure CompSc2 (scX sc : Scope) (NX : List Str) (xs : List Str) (fv : List Str) (js : List Nat) : Prop where
 kind : sc.kind = .function
 kindX : scX.kind = .function
 cell : ∀ y ∈ sc.names, y.2 ≠ .cell
 own : ∀ x ∈ xs, sc.names.lookup x = some .local
 names : ∀ y ∈ sc.names, y.2 = .local -> sc.names.lookup y.1 = some .local
 free : ∀ y ∈ sc.names, y.2 = .free -> scX.names.lookup y.1 = some .cell
 nd : (xs ++ fv).Nodup
 at' : js.map (fun j => NX[j]?) = fv.map some
 fr : ∀ y ∈ fv, sc.names.lookup y = some .free
noncomputable abbrev xc2 (X : Cx) (sc : Scope) (xs : List Str) (fv : List Str) (C : Addr) (s0 : Shared) (H0 : Hp) (ex : List Addr) : Cx :=
 { X with N := xs ++ fv, s₀ := s0, H₀ := H0, env := compEnvC sc (clOf X.env.cells sc.names []) C X.env, outer := X.stack, ex := ex, fn := fun _ => false, pn := [], xe := fun _ _ => False }
noncomputable def tStep2 (k : Nat) (js : List Nat) (g : TG) (tt : TT) (te : TE) (σ : St) (ys : List V) (N : List V -> Hp -> Prop) (x : V) (H' : Hp) : Prop :=
 ∀ os : List (Option V), os.length = k -> g x (os ++ pick js σ) H' fun σ6 H6 => (∃ os' : List (Option V), os'.length = k /\ σ6 = os' ++ pick js σ) /\
  tt σ6 H6 fun b H2 => if b = true then te σ6 H2 fun y H3 => ys.length < sizeLine /\ N (ys ++ [y]) H3 else N ys H2
noncomputable def tCompB2 (J : It) (k : Nat) (js : List Nat) (g : TG) (tt : TT) (te : TE) : TE := fun σ H1 Q => ∃ W : Nat -> Nat -> List V -> Hp -> Prop, (∃ m, W 0 m [] H1) /\ ∀ i m ys H, W i m ys H ->
 (J.stop i H /\ ∀ p, H p = none -> Q (.ref p) (upd H p (.lst ys))) ∨
 (J.go i H /\ ∃ N : List V -> Hp -> Prop, (∀ ys' H', N ys' H' -> ∃ m', m' < m /\ W (i + 1) m' ys' H') /\ ∀ x H', J.yld i H x H' -> tStep2 k js g tt te σ ys N x H')
noncomputable def tComp2 (wi : TI) (k : Nat) (js : List Nat) (g : TG) (tt : TT) (te : TE) : TE := fun σ H Q => wi σ H fun J H1 => tCompB2 J k js g tt te σ H1 Q
section
variable {X : Cx} {pins : List (Addr × Obj)} {σ : St} {H2 : Hp} {s2 : Shared} {elt iter tg : Expr} {xs : List Str} {ifs : List Expr} {sc scX : Scope} {pos : Pos} {fv : List Str} {js : List Nat} {g : TG} {tt : TT} {te : TE}
theorem comp_core2 (S : CompSc2 scX sc X.N xs fv js) (hsx : X.env.scope = scX) (hcalm : X.calm = true) (hgg : ∀ C s0 H0 ex, PG (xc2 X sc xs fv C s0 H0 ex) tg g)
  (ht : ∀ C s0 H0 ex, PIf (xc2 X sc xs fv C s0 H0 ex) ifs tt) (he : ∀ C s0 H0 ex, PE (xc2 X sc xs fv C s0 H0 ex) elt te)
  {it : Addr} {fp : List Addr} {tn : Nat -> Heap -> Prop} {J : It} (I2 : Inv X pins σ H2 s2) (T : Turn X.prog X.w X.K tg J fp it tn) (st2 : tn 0 s2.heap) (f2 : ∀ b ∈ fp, FpOk X pins H2 b)
  {Q : VK} {W : Nat -> Nat -> List V -> Hp -> Prop} (w0 : ∃ m, W 0 m [] H2)
  (step : ∀ i m ys H, W i m ys H -> (J.stop i H /\ ∀ p, H p = none -> Q (.ref p) (upd H p (.lst ys))) ∨
   (J.go i H /\ ∃ N : List V -> Hp -> Prop, (∀ ys' H', N ys' H' -> ∃ m', m' < m /\ W (i + 1) m' ys' H') /\
    ∀ x H', J.yld i H x H' -> tStep2 xs.length js g tt te σ ys N x H'))
  {RR : Value -> Addr -> Result -> Shared -> Prop} {E : Value -> Shared -> Prop}
  (fin : ∀ (D C : Addr) (s' : Shared) (H' : Hp), Inv X pins σ H' s' -> Q (.ref D) H' -> (∃ m, s'.heap.Ns C m) -> FpOk X pins H' C -> RR (.ref D) C (.ok .next) s') :
  wpAny (model X.prog X.w) X.A (newList []) (fun acc s₃ => wpAny (model X.prog X.w) X.A (newFunctionEnv sc X.env.globals (clOf X.env.cells sc.names []) [] X.env.qual none .none (some X.env)) (fun cenv s₄ =>
   codeAny (model X.prog X.w) X.A (.compStart (.ListComp elt [⟨tg, iter, ifs, 0⟩] sc pos) 0 (.ref it) acc { cenv with scope := relabel sc X.env }) (RR acc cenv.locals) s₄) E s₃) E s2 := by
 have hfree : ∀ y ∈ sc.names, y.2 = .free -> ∃ c, X.env.cells.lookup y.1 = some c := fun y hy hf => I2.ok.has y.1 (.inl (by show X.env.scope.names.lookup y.1 = _; rw [hsx]; exact S.free y hy hf))
 obtain ⟨cl1, _, cl3⟩ := clOf_look (cells := X.env.cells) sc.names [] hfree (fun y c h => by simp at h)
 refine wpAny_newObj_type (wpAny_newFunctionEnv S.cell (by intro y hy; simp at hy) (fun h₁ hns₁ hsb₁ => ?_) S.kind)
 dsimp only at hns₁ hsb₁ ⊢
 generalize hG : s2.heap.push { cls := .type "list", dict := none, data := .seq ([] : List Value).toArray } = G at hns₁ hsb₁ ⊢
 have hGz : G.objs.size = s2.heap.objs.size + 1 := by rw [<- hG, Heap.size_push]
 have upG : ∀ b o, s2.heap.get? b = some o -> G.get? b = some o := fun b o e => hG ▸ Heap.get?_push_of_some _ e
 have upH : ∀ b o, G.get? b = some o -> h₁.get? b = some o := fun b o e => hsb₁.extBut b o (Nat.ne_of_lt (Heap.lt_size e)) (Heap.get?_push_of_some _ e)
 have ltD : ∀ b o, s2.heap.get? b = some o -> b ≠ s2.heap.objs.size := fun b o e => Nat.ne_of_lt (Heap.lt_size e)
 have fpo : ∀ b ∈ fp, ∃ o, s2.heap.get? b = some o := fun b hb => by obtain ⟨o, e, _⟩ := T.obj 0 _ st2 b hb; exact ⟨o, e⟩
 have fpD : ∀ b ∈ fp, b ≠ s2.heap.objs.size := fun b hb => by obtain ⟨o, e⟩ := fpo b hb; exact ltD b o e
 have fpC : ∀ b ∈ fp, b ≠ G.objs.size := fun b hb => by obtain ⟨o, e⟩ := fpo b hb; exact Nat.ne_of_lt (Heap.lt_size (upG b o e))
 have cellO : ∀ y c, (clOf X.env.cells sc.names []).lookup y = some c -> ∃ v, s2.heap.IsCell c v := fun y c e => I2.cell y c (cl1 y c e)
 have cellD : ∀ y c, (clOf X.env.cells sc.names []).lookup y = some c -> c ≠ s2.heap.objs.size := fun y c e => by obtain ⟨v, q⟩ := cellO y c e; exact Nat.ne_of_lt q.lt
 have Dfs : s2.heap.objs.size ∉ frs X.stack := fun hb => by
  rcases List.mem_cons.mp (I2.stkSub _ hb) with z | z
  ·exact absurd I2.lt (by rw [<- z]; exact Nat.lt_irrefl _)
  ·exact I2.nofs (Nat.le_refl _) z
 have fpfs : ∀ b ∈ fp, b ∉ frs X.stack := fun b hb hz => by
  obtain ⟨_, f1, f2', _⟩ := f2 b hb
  rcases List.mem_cons.mp (I2.stkSub _ hz) with z | z
  ·exact f1 z
  ·exact f2' z
 have HD : H2 s2.heap.objs.size = none := I2.hok.fresh (Nat.le_refl _)
 have HC : H2 G.objs.size = none := I2.hok.fresh (by rw [hGz]; exact Nat.le_succ _)
 have DC : s2.heap.objs.size ≠ G.objs.size := by rw [hGz]; exact Nat.ne_of_lt (Nat.lt_succ_self _)
 have okC : Cx.Ok (xc2 X sc xs fv G.objs.size { s2 with heap := G } H2 (s2.heap.objs.size :: fp)) := by
  refine ⟨I2.ok.mod, S.kind, I2.ok.glob, I2.ok.blt, Nat.le_refl _, fun y z c h1 h2 => I2.ok.inj y z c (cl1 _ _ h1) (cl1 _ _ h2), fun y hy => ?_, fun y c hfn _ => (by cases hfn), I2.ok.hd, I2.ok.frames, .inl rfl, fun b hb => ?_, fun b o e => ?_, ?_, fun b o e hb => ?_, fun b hb => ?_, ?_, I2.stkFree⟩
  ·exact Option.isSome_iff_exists.mp (cl3 y (relabel_back S.cell hy))
  ·rcases List.mem_cons.mp hb with z | z
   ·subst z; exact ⟨DC, cellD⟩
   ·refine ⟨fpC b z, fun y c e => ?_⟩
    obtain ⟨_, _, _, _, f4, _⟩ := f2 b z
    exact f4 y c (cl1 y c e)
  ·exact ⟨upG b o (I2.bs b o e).1, (I2.bs b o e).2⟩
  ·show X.base.objs.size <= G.objs.size
   rw [hGz]; exact Nat.le_succ_of_le (Nat.le_trans I2.ok.bsz I2.sz)
  ·rcases List.mem_cons.mp hb with z | z
   ·exact ltD b o (I2.bk b o e) z
   ·obtain ⟨_, _, _, f3, _⟩ := f2 b z
    rcases f3 with q | q
    ·exact I2.ok.noex b o e q
    ·exact absurd (Nat.lt_of_lt_of_le (Heap.lt_size e) (Nat.le_trans I2.ok.bsz q)) (Nat.lt_irrefl _)
  ·rcases List.mem_cons.mp hb with z | z
   ·subst z; exact Dfs
   ·exact fpfs b z
  ·exact (I2.stack).of_keeps fun b o e _ => ⟨o, upG b o e, rfl⟩
 have lenC : ∀ os : List (Option V), os.length = xs.length -> (os ++ pick js σ).length = (xs ++ fv).length := fun os ho => by
  have := congrArg List.length S.at'
  simp only [List.length_map] at this
  simp [pick, this, ho]
 have hacc : h₁.get? s2.heap.objs.size = some { cls := .type "list", dict := none, data := .seq ([] : List Value).toArray } := upH _ _ (hG ▸ Heap.get?_push_size _ rfl)
 have I4 : Inv (xc2 X sc xs fv G.objs.size { s2 with heap := G } H2 (s2.heap.objs.size :: fp)) [(s2.heap.objs.size, { cls := .type "list", dict := none, data := .seq ([] : List Value).toArray })] (xs.map (fun _ => none) ++ pick js σ) H2 { s2 with heap := h₁, toks := s2.toks + ([] : List (Str × Value)).length } := by
  refine ⟨okC, rfl, I2.bare, Un.kept upH, ⟨_, hns₁, fun i y v e1 e2 e3 => ?_⟩, fun y c e => ?_, HC, fun y c e => I2.freeC y c (cl1 y c e), fun p hp => ?_, I2.hok.kept fun b u e => upH b u (upG b u e), lenC _ (by simp)⟩
  ·by_cases hix : i < xs.length
   ·have : (xs.map (fun _ => (none : Option V)) ++ pick js σ)[i]? = some none := by
     rw [List.getElem?_append_left (by simpa using hix), List.getElem?_map, List.getElem?_eq_getElem hix]; rfl
    rw [this] at e2
    cases e2
   ·obtain ⟨i', rfl⟩ : ∃ i', i = xs.length + i' := ⟨i - xs.length, by omega⟩
    have e1' : fv[i']? = some y := by
     have e1a : (xs ++ fv)[xs.length + i']? = some y := e1
     rw [List.getElem?_append_right (by omega), Nat.add_sub_cancel_left] at e1a
     exact e1a
    have e2' : (pick js σ)[i']? = some (some v) := by
     have e2a := e2
     rw [List.getElem?_append_right (by simp), List.length_map, Nat.add_sub_cancel_left] at e2a
     exact e2a
    have q := congrArg (fun l => l[i']?) S.at'
    simp only [List.getElem?_map, e1', Option.map_some] at q
    cases hj : js[i']? with
    | none => rw [hj] at q; cases q
    | some j =>
     rw [hj] at q
     have hj' : X.N[j]? = some y := Option.some.inj q
     unfold pick at e2'
     rw [List.getElem?_map, hj] at e2'
     have e2'' : (σ[j]?).getD none = some v := Option.some.inj e2'
     have e2b : σ[j]? = some (some v) := by
      cases hh : σ[j]? with
      | none => rw [hh] at e2''; cases e2''
      | some o => rw [hh] at e2''; exact congrArg some e2''
     have hm : y ∈ fv := List.mem_of_getElem? e1'
     have hcX : scX.names.lookup y = some .cell := S.free (y, .free) (PySem.mem_of_lookup (S.fr y hm)) rfl
     have kX : X.env.kindOf y = some .cell := by show X.env.scope.names.lookup y = _; rw [hsx]; exact hcX
     obtain ⟨m, hn, hl⟩ := I2.loc
     obtain ⟨u, r, lk⟩ := hl j y v hj' e2b (.inr (.inl kX))
     refine ⟨u, r, ?_⟩
     rcases lk with ⟨k, _⟩ | ⟨_, c, ec, z⟩
     ·rw [kX] at k; cases k
     ·refine .inr ⟨.inl (relabel_free (by rw [hsx]; exact S.kindX) (S.fr y hm) kX), c, ?_, ?_⟩
      ·obtain ⟨c', ec'⟩ := Option.isSome_iff_exists.mp (cl3 y (PySem.mem_of_lookup (S.fr y hm)))
       have := cl1 y c' ec'
       rw [ec] at this; cases this
       exact ec'
      ·obtain ⟨o, ho, hd⟩ := z
       exact ⟨o, upH c o (upG c o ho), hd⟩
  ·obtain ⟨v, o, ho, hd⟩ := cellO y c e
   exact ⟨v, o, upH c o (upG c o ho), hd⟩
  ·have hp' : p = (s2.heap.objs.size, { cls := .type "list", dict := none, data := .seq ([] : List Value).toArray }) := by simpa using hp
   subst hp'
   exact ⟨hacc, HD, DC, Dfs, fun v z => by cases z⟩
 have loop : codeAny (model X.prog X.w) X.A (.compLoop (.ListComp elt [⟨tg, iter, ifs, 0⟩] sc pos) 0 (.ref it) (.ref s2.heap.objs.size) (compEnvC sc (clOf X.env.cells sc.names []) G.objs.size X.env)) (RR (.ref s2.heap.objs.size) G.objs.size) { s2 with heap := h₁, toks := s2.toks + ([] : List (Str × Value)).length } := by
  obtain ⟨m0, w0⟩ := w0
  have fok : ∀ {H' : Hp} {o : Obj}, (∀ b ∈ fp, H' b = none) -> ∀ b ∈ fp, FpOk (xc2 X sc xs fv G.objs.size { s2 with heap := G } H2 (s2.heap.objs.size :: fp)) [(s2.heap.objs.size, o)] H' b := fun {H' o} hn b hb => by
   refine ⟨hn b hb, fpC b hb, fpfs b hb, .inl (List.mem_cons_of_mem _ hb), fun y c e => ?_, fun p hp => ?_⟩
   ·obtain ⟨_, _, _, _, f4, _⟩ := f2 b hb
    exact f4 y c (cl1 y c e)
   ·have hp' : p = (s2.heap.objs.size, o) := by simpa using hp
    subst hp'
    exact (fpD b hb).symm
  refine cmp_loop2 (fun k st => ∃ (i : Nat) (ys : List V) (its : List Value) (n : Nat) (os : List (Option V)) (H' : Hp), os.length = xs.length /\ Inv (xc2 X sc xs fv G.objs.size { s2 with heap := G } H2 (s2.heap.objs.size :: fp)) [(s2.heap.objs.size, { cls := .type "list", data := .seq its.toArray n })] (os ++ pick js σ) H' st /\
   Vals ys its /\ ys.length <= sizeLine /\ tn i st.heap /\ (∀ b ∈ fp, H' b = none) /\ W i k ys H') ?_ m0
   ⟨0, [], [], _, xs.map (fun _ => none), H2, by simp, I4, .nil, Nat.zero_le _, T.keep _ _ _ st2 fun b _ o e => upH b o (upG b o e), fun b hb => (f2 b hb).1, w0⟩
  rintro k s3 ⟨i, ys, its, n, os, H3, hos, I3, rv, hz, st3, fr3, w3⟩
  rcases step i k ys H3 w3 with ⟨stop, q⟩ | ⟨go, N, hN, hgo⟩
  ·refine thn (T.done (xc2 X sc xs fv G.objs.size { s2 with heap := G } H2 (s2.heap.objs.size :: fp)) rfl rfl rfl hcalm i _ s3 _ H3 _ I3 (fok fr3) st3 stop) fun r s4 hsl39 => ?_
   obtain ⟨hr, I4⟩ := hsl39
   subst hr
   obtain ⟨pD, pn, _, _, _⟩ := I4.pin _ (List.mem_append_right _ List.mem_cons_self)
   have B := I4.base
   have nD : ∀ b o, s2.heap.get? b = some o -> b ∉ fp -> b ∉ s2.heap.objs.size :: fp := fun b o e hx hm => (List.mem_cons.mp hm).elim (ltD b o e) hx
   have neH : ∀ b u, H2 b = some u -> b ≠ s2.heap.objs.size := fun b u e z => by rw [z, HD] at e; cases e
   have JX : Inv X pins σ (upd H3 s2.heap.objs.size (.lst ys)) s4 := by
    refine I2.call' (ch := fp) I4.os ⟨fun b o e hn hb hx => B.keep b o (upG b o e) hn hb (nD b o e hx), fun b o e hn hb hx => B.slot b o (upG b o e) hn hb (nD b o e hx), fun b o e hn hx => ?_, fun b o e hx => B.there b o (upG b o e) (nD b o e hx), fun b xs e => ?_, fun b o u e => ?_, fun b ps e => ?_⟩ (fun b u e => ?_) I4.bare fun b hb => ?_
    ·rw [upd_ne (ltD b o e)]; exact B.free b o (upG b o e) hn (nD b o e hx)
    ·rw [upd_ne (neH b _ e)]; exact B.tups b xs e
    ·rw [upd_ne (neH b _ e)]; exact B.frzs b o u e
    ·rw [upd_ne (neH b _ e)]; exact B.tbls b ps e
    ·by_cases hb : b = s2.heap.objs.size
     ·subst hb
      rw [upd_same] at e; cases e
      exact ⟨hz, its, n, rv, pD⟩
     ·rw [upd_ne hb] at e
      exact (I4.hok b u e).stay (fun _ _ _ z => z) (fun c z => by rw [upd_ne (ne_of_none z pn)]; exact z) fun c xs z => by rw [upd_ne (ne_of_none z pn)]; exact z
    ·obtain ⟨_, f1, _, f3, f4, f5⟩ := f2 b hb
     exact ⟨f3, f1, f4, f5⟩
   refine fin _ _ s4 _ JX (q _ pn) (by obtain ⟨m, hm, _⟩ := I4.loc; exact ⟨m, hm⟩) (I2.fpOk (by rw [hGz]; exact Nat.le_succ _) ?_)
   rw [upd_ne DC.symm]; exact I4.free
  ·refine thn (T.item (xc2 X sc xs fv G.objs.size { s2 with heap := G } H2 (s2.heap.objs.size :: fp)) rfl rfl rfl hcalm i _ s3 _ H3 _ I3 (fok fr3) st3 go) fun r s4 hsl40 => ?_
   obtain ⟨u, hr, h4⟩ := hsl40
   subst hr
   refine thn h4 fun _ s5 hsl41 => ?_
   obtain ⟨y, H5, I5, r5, y5, st5, fr5⟩ := hsl41
   have I5' := I5.pinned (fok fr5) (T.obj _ _ st5)
   refine thn (hgg _ _ _ _ _ s5 _ H5 y u _ I5' r5 (hgo y _ y5 os hos)) fun _ s6 hsl42 => ?_
   obtain ⟨σ6, H6, I6, ⟨os', hos', eσ⟩, q6⟩ := hsl42
   subst eσ
   refine thn (ht _ _ _ _ _ s6 _ _ _ I6 q6) fun b s7 hsl43 => ?_
   obtain ⟨H7, I7, q7⟩ := hsl43
   cases b with
   | false =>
    rw [if_neg Bool.false_ne_true] at q7 ⊢
    obtain ⟨m', hm, w7⟩ := hN ys H7 q7
    exact ⟨m', hm, i + 1, ys, its, n, os', H7, hos', I7.unpinned, rv, hz, T.keep _ _ _ st5 fun b hb o e => (I7.pin (b, o) (List.mem_append_right _ (List.mem_append_right _ (mem_pinsAt hb e)))).1, fun b hb => by
     obtain ⟨o, e, d⟩ := T.obj _ _ st5 b hb
     exact (I7.pin (b, o) (List.mem_append_right _ (List.mem_append_right _ (mem_pinsAt hb e)))).2.1, w7⟩
   | true =>
    rw [if_pos rfl] at q7 ⊢
    refine thn (he _ _ _ _ _ s7 _ H7 _ I7 q7) fun u8 s8 hsl44 => ?_
    obtain ⟨y8, H8, I8, r8, hl8, q8⟩ := hsl44
    obtain ⟨m', hm, w8⟩ := hN _ H8 q8
    obtain ⟨pD, pn, pC, pf, _⟩ := I8.pin _ (List.mem_append_right _ (List.mem_append_left _ List.mem_cons_self))
    refine wpAny_list_append_plain (items := its.toArray) ⟨n, pD⟩ (fun h9 hl9 sb9 => ?_) (by rw [List.size_toArray, <- rv.length]; exact Nat.le_of_lt hl8)
    have pinF : ∀ p ∈ pinsAt fp s5.heap, p ∈ [(s2.heap.objs.size, ({ cls := .type "list", data := .seq its.toArray n } : Obj))] ++ pinsAt fp s5.heap := fun p hp => List.mem_append_right _ hp
    have I8a := I8.pins_of (pins' := pinsAt fp s5.heap) fun p hp => I8.pin p (List.mem_append_right _ (pinF p hp))
    have I9 := I8a.turned (it := s2.heap.objs.size) (h' := h9) (t' := s8.toks) (fun b o hb e => (sb9.2 b hb).trans e) pn DC (.inl List.mem_cons_self) (fun y c e => cellD y c e) fun p hp => fpD p.1 (of_pinsAt (by simpa using hp)).1
    obtain ⟨n9, e9⟩ := hl9
    have e9' : h9.get? s2.heap.objs.size = some { cls := .type "list", data := .seq (its ++ [u8]).toArray n9 } := by
     rw [e9, show (its ++ [u8]).toArray = its.toArray.push u8 by simp]
    refine ⟨m', hm, i + 1, ys ++ [y8], its ++ [u8], n9, os', H8, hos', I9.pins_of fun p hp => ?_, rv.append (.cons r8 .nil), by rw [List.length_append]; exact hl8, T.keep _ _ _ st5 fun b hb o e => (I9.pin (b, o) (List.mem_append_right _ (mem_pinsAt hb e))).1, fun b hb => ?_, w8⟩
    ·have hp' : p = (s2.heap.objs.size, { cls := .type "list", data := .seq (its ++ [u8]).toArray n9 }) := by simpa using hp
     subst hp'
     exact ⟨e9', pn, DC, pf, fun v z => by cases z⟩
    ·obtain ⟨o, e, d⟩ := T.obj _ _ st5 b hb
     exact (I9.pin (b, o) (List.mem_append_right _ (mem_pinsAt hb e))).2.1
 exact codeAny_compStart_list loop (T.self _ 0 _ _ _ (T.keep _ _ _ st2 fun b _ o e => upH b o (upG b o e)) loop)
theorem pe_comp2 {wi : TI} (scX : Scope) (NX fv : List Str) (js : List Nat) (hNX : X.N = NX) (S : CompSc2 scX sc NX xs fv js) (hsx : X.env.scope = scX) (hcalm : X.calm = true) (hi : PI X tg iter wi) (hgg : ∀ C s0 H0 ex, PG (xc2 X sc xs fv C s0 H0 ex) tg g)
  (ht : ∀ C s0 H0 ex, PIf (xc2 X sc xs fv C s0 H0 ex) ifs tt) (he : ∀ C s0 H0 ex, PE (xc2 X sc xs fv C s0 H0 ex) elt te)
  (hs : ∀ v, foldedSetIterable iter X.env v = pure v := by intro _; rfl) : PE X (.ListComp elt [⟨tg, iter, ifs, 0⟩] sc pos) (tComp2 wi xs.length js g tt te) := by
 intro pins s σ H Q I h
 rw [<- hNX] at S
 have hfree : ∀ y ∈ sc.names, y.2 = .free -> ∃ c, X.env.cells.lookup y.1 = some c := fun y hy hf => I.ok.has y.1 (.inl (by show X.env.scope.names.lookup y.1 = _; rw [hsx]; exact S.free y hy hf))
 rw [eval_ListComp]
 refine wpAny_comprehension_free (use := none) rfl hs (closure_eq hfree) S.kind S.names (thn (hi pins s σ H _ I h) fun v s1 h1 => thn h1 fun itv s2 h2 => ?_)
 obtain ⟨it, fp, tn, J, H2, e, I2, T, st2, f2, W, w0, step⟩ := h2
 subst e
 refine comp_core2 (RR := fun acc C => compPost (model X.prog X.w) X.A X.xe none (EP X pins σ Q) acc C) S hsx hcalm hgg ht he I2 T st2 f2 w0 step fun D C s' H' I' q hsl45 hC => ?_
 obtain ⟨m, hm⟩ := hsl45
 obtain ⟨f0, f1, _, f3, f4, f5⟩ := hC
 exact ⟨m, hm, fun h' sb => ⟨.ref D, H', I'.turned (t' := s'.toks) (fun b o hb e => (sb.2 b hb).trans e) f0 f1 f3 f4 f5, rfl, q⟩⟩
theorem ps_setcomp2 {wi : TI} {i : Nat} {y : Str} {py spos : Pos} (scX : Scope) (NX fv : List Str) (js : List Nat) (hNX : X.N = NX) (S : CompSc2 scX sc NX xs fv js) (hsx : X.env.scope = scX) (hcalm : X.calm = true) (hi : PI X tg iter wi) (hgg : ∀ C s0 H0 ex, PG (xc2 X sc xs fv C s0 H0 ex) tg g)
  (ht : ∀ C s0 H0 ex, PIf (xc2 X sc xs fv C s0 H0 ex) ifs tt) (he : ∀ C s0 H0 ex, PE (xc2 X sc xs fv C s0 H0 ex) elt te)
  (hN : X.N.Nodup) (hy : X.N[i]? = some y) (hl : X.env.scope.names.lookup y = some .local) (hsw : swapsWith (.ListComp elt [⟨tg, iter, ifs, 0⟩] sc pos) (some (.Name y py)) spos.line X.env = pure true)
  (hs : ∀ v, foldedSetIterable iter X.env v = pure v := by intro _; rfl) : PS X (.Assign [.Name y py] (.ListComp elt [⟨tg, iter, ifs, 0⟩] sc pos) spos) (tAsg (tComp2 wi xs.length js g tt te) (gName i)) := by
 intro pins s σ H D I h
 rw [<- hNX] at S
 have hfree : ∀ y ∈ sc.names, y.2 = .free -> ∃ c, X.env.cells.lookup y.1 = some c := fun y hy hf => I.ok.has y.1 (.inl (by show X.env.scope.names.lookup y.1 = _; rw [hsx]; exact S.free y hy hf))
 rw [exec_Assign_Name_used _ _ _ _ hsw]
 refine wpAny_bind (wpAny_standAt (wpAny_bind ?_))
 show wpAny _ _ (do let _ <- comprehension (.ListComp elt [⟨tg, iter, ifs, 0⟩] sc pos) sc X.env _ (newList []) false (eval iter X.env) (some (assign (.Name y py) X.env))) _ _ s
 refine wpAny_bind (wpAny_mono (wpAny_comprehension_free (use := some (assign (.Name y py) X.env)) (Q := fun _ st => SP X pins D .next st) rfl hs (closure_eq hfree) S.kind S.names
  (thn (hi pins s σ H _ I h) fun v s1 h1 => thn h1 fun itv s2 h2 => ?_)) (fun _ st hq => wpAny_pure (wpAny_pure hq)) fun _ _ e => e)
 obtain ⟨it, fp, tn, J, H2, e, I2, T, st2, f2, W, w0, step⟩ := h2
 subst e
 refine comp_core2 (Q := fun v H1 => gName i v σ H1 D.nx) (RR := fun acc C => compPost (model X.prog X.w) X.A X.xe (some (assign (.Name y py) X.env)) (fun _ st => SP X pins D .next st) acc C) S hsx hcalm hgg ht he I2 T st2 f2 w0 step fun Dl C s' H' I' q hsl46 hC => ?_
 obtain ⟨m, hm⟩ := hsl46
 obtain ⟨f0, f1, _, f3, f4, f5⟩ := hC
 refine wpAny_assign_Name (store_ok2 I' hN hy (.inl hl) (show RelV (.ref Dl) (.ref Dl) from rfl) (fun s'' I'' hsl47 => ?_) (.inr hl))
 obtain ⟨a, sb, ha⟩ := hsl47
 have aC : C ≠ a := fun z => by
  rcases ha with ha | ha
  ·exact f1 (z.trans ha)
  ·exact f4 y a ha z.symm
 refine ⟨m, hm.sameBut sb aC, fun h' sb' => ?_⟩
 exact ⟨_, _, I''.turned (t' := s''.toks) (fun b o hb e => (sb'.2 b hb).trans e) f0 f1 f3 f4 f5, q⟩
end
theorem CompSc.two {scX sc : Scope} {NX : List Str} {x : Str} {fv : List Str} {js : List Nat} (S : CompSc scX sc NX x fv js) : CompSc2 scX sc NX [x] fv js :=
 ⟨S.kind, S.kindX, S.cell, fun y hy => by rw [List.mem_singleton.mp hy]; exact S.own, S.names, S.free, S.nd, S.at', S.fr⟩
section
variable {X : Cx} {pins : List (Addr × Obj)} {σ : St} {H2 : Hp} {s2 : Shared} {elt iter : Expr} {x : Str} {px : Pos} {ifs : List Expr} {sc scX : Scope} {pos : Pos} {fv : List Str} {js : List Nat} {tt : TT} {te : TE}
theorem comp_core (S : CompSc scX sc X.N x fv js) (hsx : X.env.scope = scX) (hcalm : X.calm = true)
  (ht : ∀ C s0 H0 ex, PIf (xc X sc x fv C s0 H0 ex) ifs tt) (he : ∀ C s0 H0 ex, PE (xc X sc x fv C s0 H0 ex) elt te)
  {it : Addr} {fp : List Addr} {tn : Nat -> Heap -> Prop} {J : It} (I2 : Inv X pins σ H2 s2) (T : Turn X.prog X.w X.K (.Name x px) J fp it tn) (st2 : tn 0 s2.heap) (f2 : ∀ b ∈ fp, FpOk X pins H2 b)
  {Q : VK} {W : Nat -> Nat -> List V -> Hp -> Prop} (w0 : ∃ m, W 0 m [] H2)
  (step : ∀ i m ys H, W i m ys H -> (J.stop i H /\ ∀ p, H p = none -> Q (.ref p) (upd H p (.lst ys))) ∨
   (J.go i H /\ ∃ N : List V -> Hp -> Prop, (∀ ys' H', N ys' H' -> ∃ m', m' < m /\ W (i + 1) m' ys' H') /\
    ∀ x H', J.yld i H x H' -> tt (some x :: pick js σ) H' fun b H2 => if b = true then te (some x :: pick js σ) H2 fun y H3 => ys.length < sizeLine /\ N (ys ++ [y]) H3 else N ys H2))
  {RR : Value -> Addr -> Result -> Shared -> Prop} {E : Value -> Shared -> Prop}
  (fin : ∀ (D C : Addr) (s' : Shared) (H' : Hp), Inv X pins σ H' s' -> Q (.ref D) H' -> (∃ m, s'.heap.Ns C m) -> FpOk X pins H' C -> RR (.ref D) C (.ok .next) s') :
  wpAny (model X.prog X.w) X.A (newList []) (fun acc s₃ => wpAny (model X.prog X.w) X.A (newFunctionEnv sc X.env.globals (clOf X.env.cells sc.names []) [] X.env.qual none .none (some X.env)) (fun cenv s₄ =>
   codeAny (model X.prog X.w) X.A (.compStart (.ListComp elt [⟨.Name x px, iter, ifs, 0⟩] sc pos) 0 (.ref it) acc { cenv with scope := relabel sc X.env }) (RR acc cenv.locals) s₄) E s₃) E s2 := by
 refine comp_core2 (xs := [x]) (g := gName 0) (RR := RR) S.two hsx hcalm (fun C s0 H0 ex => pg_name S.nd rfl (.inl (lookup_relabel_local S.own)) (.inr (lookup_relabel_local S.own))) ht he I2 T st2 f2 w0 (fun i m ys H w => ?_) fin
 rcases step i m ys H w with h | ⟨go, N, hN, st⟩
 ·exact .inl h
 ·refine .inr ⟨go, N, hN, fun y H' hy os hos => ?_⟩
  obtain ⟨o, rfl⟩ := List.length_eq_one_iff.mp hos
  exact ⟨⟨[some y], rfl, rfl⟩, st y H' hy⟩
theorem pe_comp {wi : TI} (scX : Scope) (NX fv : List Str) (js : List Nat) (hNX : X.N = NX) (S : CompSc scX sc NX x fv js) (hsx : X.env.scope = scX) (hcalm : X.calm = true) (hi : PI X (.Name x px) iter wi)
  (ht : ∀ C s0 H0 ex, PIf (xc X sc x fv C s0 H0 ex) ifs tt) (he : ∀ C s0 H0 ex, PE (xc X sc x fv C s0 H0 ex) elt te)
  (hs : ∀ v, foldedSetIterable iter X.env v = pure v := by intro _; rfl) : PE X (.ListComp elt [⟨.Name x px, iter, ifs, 0⟩] sc pos) (tComp wi js tt te) := by
 intro pins s σ H Q I h
 rw [<- hNX] at S
 have hfree : ∀ y ∈ sc.names, y.2 = .free -> ∃ c, X.env.cells.lookup y.1 = some c := fun y hy hf => I.ok.has y.1 (.inl (by show X.env.scope.names.lookup y.1 = _; rw [hsx]; exact S.free y hy hf))
 rw [eval_ListComp]
 refine wpAny_comprehension_free (use := none) rfl hs (closure_eq hfree) S.kind S.names (thn (hi pins s σ H _ I h) fun v s1 h1 => thn h1 fun itv s2 h2 => ?_)
 obtain ⟨it, fp, tn, J, H2, e, I2, T, st2, f2, W, w0, step⟩ := h2
 subst e
 refine comp_core (RR := fun acc C => compPost (model X.prog X.w) X.A X.xe none (EP X pins σ Q) acc C) S hsx hcalm ht he I2 T st2 f2 w0 step fun D C s' H' I' q hsl48 hC => ?_
 obtain ⟨m, hm⟩ := hsl48
 obtain ⟨f0, f1, _, f3, f4, f5⟩ := hC
 exact ⟨m, hm, fun h' sb => ⟨.ref D, H', I'.turned (t' := s'.toks) (fun b o hb e => (sb.2 b hb).trans e) f0 f1 f3 f4 f5, rfl, q⟩⟩
end
end L2
set_option Elab.async false
set_option linter.all false
set_option maxRecDepth 100000
namespace L2
open PySem PySem.Spec PyProof.Rows
section
variable {κ : Type} [DecidableEq κ]
noncomputable def valV (kvs : List (κ × V)) (k : κ) : Option V := (kvs.find? fun kv => decide (kv.1 = k)).map (·.2)
noncomputable def putK (kvs : List (κ × V)) (k : κ) (v : V) : List (κ × V) :=
 if (kvs.any fun kv => decide (kv.1 = k)) = true then kvs.map (fun kv => if kv.1 = k then (kv.1, v) else kv) else kvs ++ [(k, v)]
theorem valV_pos {p : κ × V} {r : List (κ × V)} {k : κ} (e : p.1 = k) : valV (p :: r) k = some p.2 := by simp [valV, List.find?_cons, e]
theorem valV_neg {p : κ × V} {r : List (κ × V)} {k : κ} (e : ¬ p.1 = k) : valV (p :: r) k = valV r k := by simp [valV, List.find?_cons, e]
theorem valV_any (k : κ) : ∀ kvs : List (κ × V), (kvs.any fun kv => decide (kv.1 = k)) = (valV kvs k).isSome
 | [] => rfl
 | p :: r => by
  rw [List.any_cons]
  by_cases e : p.1 = k
  ·simp only [valV_pos e, decide_eq_true e, Bool.true_or, Option.isSome_some]
  ·rw [valV_neg e, decide_eq_false e, Bool.false_or]; exact valV_any k r
theorem length_putK (kvs : List (κ × V)) (k : κ) (v : V) : (putK kvs k v).length <= kvs.length + 1 := by
 unfold putK
 split
 ·rw [List.length_map]; omega
 ·rw [List.length_append, List.length_cons, List.length_nil]; omega
theorem RelO.isSome_eq {o : Option V} {u : Option Value} (r : RelO o u) : o.isSome = u.isSome := by
 cases o with
 | none => cases u with
  | none => rfl
  | some _ => exact (show False from r).elim
 | some _ => cases u with
  | none => exact (show False from r).elim
  | some _ => rfl
theorem RelO.getD {o : Option V} {u : Option Value} {d : V} {d' : Value} (r : RelO o u) (rd : RelV d d') : RelV (o.getD d) (u.getD d') := by
 cases o with
 | none => cases u with
  | none => exact rd
  | some _ => exact (show False from r).elim
 | some _ => cases u with
  | none => exact (show False from r).elim
  | some _ => exact r
theorem KV.val {kvs : List (κ × V)} {vs : List (κ × Value)} (r : KV kvs vs) (k : κ) : RelO (valV kvs k) (valueAt vs k) := by
 unfold KV at r
 induction r with
 | nil => exact True.intro
 | @cons p q ps qs h t ih =>
  obtain ⟨h1, h2⟩ := h
  by_cases e : p.1 = k
  ·have e' : q.1 = k := h1.symm.trans e
   have b : valueAt (q :: qs) k = some q.2 := by simp [valueAt, List.find?_cons, e']
   rw [valV_pos e, b]; exact h2
  ·have e' : ¬ q.1 = k := fun z => e (h1.trans z)
   have b : valueAt (q :: qs) k = valueAt qs k := by simp [valueAt, List.find?_cons, e']
   rw [valV_neg e, b]; exact ih
theorem KV.any {kvs : List (κ × V)} {vs : List (κ × Value)} (r : KV kvs vs) (k : κ) : (kvs.any fun kv => decide (kv.1 = k)) = vs.any fun kv => decide (kv.1 = k) := by
 unfold KV at r
 induction r with
 | nil => rfl
 | cons h t ih => rw [List.any_cons, List.any_cons, ih, h.1]
theorem KV.repl {kvs : List (κ × V)} {vs : List (κ × Value)} (r : KV kvs vs) (k : κ) {y : V} {u : Value} (ry : RelV y u) :
  KV (kvs.map fun kv => if kv.1 = k then (kv.1, y) else kv) (vs.map fun kv => if kv.1 = k then (kv.1, u) else kv) := by
 unfold KV at r ⊢
 induction r with
 | nil => exact .nil
 | @cons p q ps qs h t ih =>
  rw [List.map_cons, List.map_cons]
  refine .cons ?_ ih
  obtain ⟨h1, h2⟩ := h
  by_cases e : p.1 = k
  ·rw [if_pos e, if_pos (h1.symm.trans e)]; exact ⟨h1, ry⟩
  ·rw [if_neg e, if_neg (fun z => e (h1.trans z))]; exact ⟨h1, h2⟩
theorem KV.put {kvs : List (κ × V)} {vs : List (κ × Value)} (r : KV kvs vs) (k : κ) {y : V} {u : Value} (ry : RelV y u) : KV (putK kvs k y) (stored vs k u) := by
 unfold putK stored
 rw [r.any k]
 by_cases e : (vs.any fun kv => decide (kv.1 = k)) = true
 ·rw [if_pos e, if_pos e]; exact r.repl k ry
 ·rw [if_neg e, if_neg e]; exact Paired.snoc r ⟨rfl, ry⟩
theorem KV.length {kvs : List (κ × V)} {vs : List (κ × Value)} (r : KV kvs vs) : kvs.length = vs.length := Paired.length r
end
theorem kV_is {P : Program} {w : World} {k : Key} {u : Value} (r : RelV (kV k) u) : (mixKind P w).is k u = true := by
 cases k with
 | inl i => obtain ⟨t, e⟩ := (show ∃ t, u = Value.int i t from r); subst e; exact mixKind_int P w i t
 | inr x => obtain ⟨t, e⟩ := (show ∃ t, u = Value.str x t from r); subst e; exact mixKind_str P w x t
theorem items_are {P : Program} {w : World} : ∀ {ks : List Key} {us : List Value}, Vals (ks.map kV) us -> ItemsAre (mixKind P w) ks us
 | [], _, r => by rw [List.map_nil] at r; cases r; exact .nil
 | k :: ks, _, r => by
  rw [List.map_cons] at r
  cases r with
  | cons h t => exact .cons (kV_is h) (items_are t)
noncomputable abbrev KT (H : Hp) : List (List Key × V) -> List (List Key × Addr × Value) -> Prop := Paired fun p q => p.1 = q.1 /\ H q.2.1 = some (.tup (p.1.map kV)) /\ RelV p.2 q.2.2
theorem KT.val {H : Hp} {kvs : List (List Key × V)} {xs : List (List Key × Addr × Value)} (r : KT H kvs xs) (k : List Key) : RelO (valV kvs k) ((atKey xs k).map (·.2)) := by
 induction r with
 | nil => exact True.intro
 | @cons p q ps qs h t ih =>
  obtain ⟨h1, _, h2⟩ := h
  by_cases e : p.1 = k
  ·have e' : q.1 = k := h1.symm.trans e
   have b : atKey (q :: qs) k = some q.2 := by simp [atKey, List.find?_cons, e']
   rw [valV_pos e, b]; exact h2
  ·have e' : ¬ q.1 = k := fun z => e (h1.trans z)
   have b : atKey (q :: qs) k = atKey qs k := by simp [atKey, List.find?_cons, e']
   rw [valV_neg e, b]; exact ih
theorem KT.repl {H : Hp} {kvs : List (List Key × V)} {xs : List (List Key × Addr × Value)} (r : KT H kvs xs) (k : List Key) {y : V} {u : Value} (ry : RelV y u) :
  KT H (kvs.map fun kv => if kv.1 = k then (kv.1, y) else kv) (xs.map (putAt k u)) := by
 induction r with
 | nil => exact .nil
 | @cons p q ps qs h t ih =>
  rw [List.map_cons, List.map_cons]
  refine .cons ?_ ih
  obtain ⟨h1, h2, h3⟩ := h
  unfold putAt
  by_cases e : p.1 = k
  ·rw [if_pos e, if_pos (h1.symm.trans e)]; exact ⟨h1, h2, ry⟩
  ·rw [if_neg e, if_neg (fun z => e (h1.trans z))]; exact ⟨h1, h2, h3⟩
theorem KT.put {H : Hp} {kvs : List (List Key × V)} {xs : List (List Key × Addr × Value)} (r : KT H kvs xs) (k : List Key) {b : Addr} {y : V} {u : Value} (hb : H b = some (.tup (k.map kV))) (ry : RelV y u) :
  KT H (putK kvs k y) (storedH xs k b u) := by
 have e : (kvs.any fun kv => decide (kv.1 = k)) = (atKey xs k).isSome := by
  rw [valV_any, (r.val k).isSome_eq, Option.isSome_map]
 unfold putK storedH
 rw [e]
 by_cases q : (atKey xs k).isSome = true
 ·rw [if_pos q, if_pos q]; exact r.repl k ry
 ·rw [if_neg q, if_neg q]; exact Paired.snoc r ⟨rfl, hb, ry⟩
theorem KT.keeps {H H' : Hp} {kvs : List (List Key × V)} {xs : List (List Key × Addr × Value)} (r : KT H kvs xs) (ht : ∀ b ys, H b = some (.tup ys) -> H' b = some (.tup ys)) : KT H' kvs xs :=
 Paired.mapP r fun _ _ z => ⟨z.1, ht _ _ z.2.1, z.2.2⟩
section
variable {P : Program} {w : World} {H : Hp} {h : Heap} {a : Addr}
theorem rd_of {u : HO} (ok : HOk P w H h) (e : Rd H a u) : ObjOk P w H h a u := e.ok ok
theorem dk_rd {kvs : List (Key × V)} (ok : HOk P w H h) (e : Rd H a (.dK kvs)) : kvs.length <= sizeLine /\ (a == sysModules) = false /\ ∃ vs, KV kvs vs /\ h.DictOf (mixKind P w) a vs :=
 show ObjOk P w H h a (.dK kvs) from rd_of ok e
theorem dk_of {kvs : List (Key × V)} (ok : HOk P w H h) (e : H a = some (.dK kvs)) : kvs.length <= sizeLine /\ (a == sysModules) = false /\ ∃ vs, KV kvs vs /\ h.DictOf (mixKind P w) a vs := dk_rd ok (.inl e)
theorem key_of {ks : List Key} (ok : HOk P w H h) (e : H a = some (.tup (ks.map kV))) : (tupleKind (mixKind P w)).is h ks a := by
 obtain ⟨_, its, r, o, h1, h2, n, h3⟩ := (show ObjOk P w H h a (.tup (ks.map kV)) from ok a _ e)
 exact ⟨o, its.toArray, n, h1, h2, h3, by simpa using items_are r⟩
theorem dt_rd {kvs : List (List Key × V)} (ok : HOk P w H h) (e : Rd H a (.dT kvs)) : kvs.length <= sizeLine /\ (a == sysModules) = false /\
  ∃ xs, KT H kvs xs /\ h.DictOfH (tupleKind (mixKind P w)) a xs := by
 obtain ⟨z, y, xs, r, o, es, ep, h1, h2, h3, h4, h5⟩ := (show ObjOk P w H h a (.dT kvs) from rd_of ok e)
 refine ⟨z, y, xs, r, o, es, ep, h1, h2, h3, h4, fun x hx => ?_, h5⟩
 have all : ∀ {l : List (List Key × V)} {m : List (List Key × Addr × Value)}, KT H l m -> ∀ x ∈ m, (tupleKind (mixKind P w)).is h x.1 x.2.1 := by
  intro l m q
  induction q with
  | nil => intro x hx; exact nomatch hx
  | @cons p q ps qs hq t ih =>
   intro x hx
   rcases List.mem_cons.mp hx with e | hx
   ·subst e
    exact key_of ok (by rw [<- hq.1]; exact hq.2.1)
   ·exact ih x hx
 exact all r x hx
theorem dt_of {kvs : List (List Key × V)} (ok : HOk P w H h) (e : H a = some (.dT kvs)) : kvs.length <= sizeLine /\ (a == sysModules) = false /\
  ∃ xs, KT H kvs xs /\ h.DictOfH (tupleKind (mixKind P w)) a xs := dt_rd ok (.inl e)
end
noncomputable def DGet (H : Hp) (a : Addr) (y : V) (r : Option V) : Prop :=
 (∃ kvs k, Rd H a (.dK kvs) /\ y = kV k /\ r = valV kvs k) ∨ ∃ kvs k b, Rd H a (.dT kvs) /\ y = .ref b /\ H b = some (.tup (k.map kV)) /\ r = valV kvs k
noncomputable def DPut (H : Hp) (a : Addr) (y v : V) (H' : Hp) : Prop :=
 (∃ kvs k, H a = some (.dK kvs) /\ y = kV k /\ kvs.length < sizeLine /\ H' = upd H a (.dK (putK kvs k v))) ∨
 ∃ kvs k b, H a = some (.dT kvs) /\ y = .ref b /\ H b = some (.tup (k.map kV)) /\ kvs.length < sizeLine /\ H' = upd H a (.dT (putK kvs k v))
theorem DGet.t {H : Hp} {a b : Addr} {kvs : List (List Key × V)} {k : List Key} (e : H a = some (.dT kvs)) (eb : H b = some (.tup (k.map kV))) : DGet H a (.ref b) (valV kvs k) := .inr ⟨kvs, k, b, .inl e, rfl, eb, rfl⟩
theorem DPut.t {H : Hp} {a b : Addr} {kvs : List (List Key × V)} {k : List Key} {v : V} (e : H a = some (.dT kvs)) (eb : H b = some (.tup (k.map kV))) (hl : kvs.length < sizeLine) :
  DPut H a (.ref b) v (upd H a (.dT (putK kvs k v))) := .inr ⟨kvs, k, b, e, rfl, eb, hl, rfl⟩
section
variable {X : Cx} {pins : List (Addr × Obj)} {σ : St} {H : Hp} {s : Shared} {a : Addr} {y v : V} {u r : Value} {o : Option V} {A : Around} {E : Value -> Shared -> Prop}
theorem Inv.big (I : Inv X pins σ H s) : sysModules < s.heap.objs.size := by
 have h : mainGlobals < s.heap.objs.size := (I.mod.glob.keeps I.bk).lt
 exact Nat.lt_trans (by decide) h
theorem d_getItem {Q : Value -> Shared -> Prop} (hu : A.units + 1 < cLine) (I : Inv X pins σ H s) (g : DGet H a y (some v)) (ry : RelV y u) (h : ∀ w' s', Inv X pins σ H s' -> RelV v w' -> Q w' s') :
  wpAny (model X.prog X.w) A (getItem (.ref a) u) Q E s := by
 rcases g with ⟨kvs, k, e, ey, l⟩ | ⟨kvs, k, b, e, ey, eb, l⟩
 ·subst ey
  obtain ⟨z, hd, vs, rel, dd⟩ := dk_rd I.hok e
  obtain ⟨w', hw, rw'⟩ := RelO.some_of (v := v) (o := valueAt vs k) (by rw [l]; exact rel.val k)
  exact wpAny_getItem_of (kV_is ry) dd.mapOf hw (h w' _ (I.tok _) rw')
 ·subst ey
  cases (show u = Value.ref b from ry)
  obtain ⟨z, hd, xs, rel, dd⟩ := dt_rd I.hok e
  obtain ⟨w', hw, rw'⟩ := RelO.some_of (v := v) (o := (atKey xs k).map (·.2)) (by rw [l]; exact rel.val k)
  obtain ⟨p, hp, hp2⟩ := Option.map_eq_some_iff.mp hw
  refine wpAny_getItem_heap (tupleKind_room_in1 hu) (key_of I.hok eb) dd hp ?_
  rw [hp2]
  exact h w' _ (I.tok _) rw'
theorem d_write {h' : Heap} {t' : Nat} {ob : HO} (I : Inv X pins σ H s) (mu : Mut (H a)) (hs : Heap.SameBut a s.heap h') (he : ∃ q, h'.get? a = some q) (new : ObjOk X.prog X.w (upd H a ob) h' a ob) :
  Inv X pins σ (upd H a ob) { s with heap := h', toks := t' } :=
 I.write (x := a) (e := a) mu (.inl rfl) (fun b q hb z => (hs.2 b hb).trans z) he new
theorem dk_new {P : Program} {w : World} {H' : Hp} {h' : Heap} {kvs : List (Key × V)} {vs : List (Key × Value)} (z : kvs.length <= sizeLine) (hd : (a == sysModules) = false) (rel : KV kvs vs) (dd : h'.DictOf (mixKind P w) a vs) :
  ObjOk P w H' h' a (.dK kvs) := ⟨z, hd, vs, rel, dd⟩
theorem d_setItem {H' : Hp} {Q : Unit -> Shared -> Prop} (hu : A.units + 1 < cLine) (I : Inv X pins σ H s) (g : DPut H a y v H') (ry : RelV y u) (rv : RelV v r) (h : ∀ s', Inv X pins σ H' s' -> Q () s') :
  wpAny (model X.prog X.w) A (setItem (.ref a) u r) Q E s := by
 rcases g with ⟨kvs, k, e, ey, l, eH⟩ | ⟨kvs, k, b, e, ey, eb, l, eH⟩
 ·subst ey eH
  obtain ⟨z, hd, vs, rel, dd⟩ := dk_of I.hok e
  have hz : vs.length <= sizeLine := by rw [<- rel.length]; exact z
  have hl : (putK kvs k v).length <= sizeLine := by have := length_putK kvs k v; omega
  refine wpAny_setItem_pairs (hsz := hz) (kV_is ry) dd fun h' dd' hs => h _ ?_
  have he : ∃ q, h'.get? a = some q := by obtain ⟨q, _, _, hq, _⟩ := dd'; exact ⟨q, hq⟩
  exact d_write I (by rw [e]; exact True.intro) hs he (dk_new hl hd (rel.put k rv) dd')
 ·subst ey eH
  cases (show u = Value.ref b from ry)
  obtain ⟨z, hd, xs, rel, dd⟩ := dt_of I.hok e
  have hz : xs.length <= sizeLine := by rw [<- Paired.length rel]; exact z
  have hl : (putK kvs k v).length <= sizeLine := by have := length_putK kvs k v; omega
  refine wpAny_setItem_heap (hsz := hz) (tupleKind_room_in1 hu) (key_of I.hok eb) dd fun h' dd' hs => h _ ?_
  obtain ⟨q, es, ep, hq, h2, h3, h4, _, h5⟩ := dd'
  refine d_write I (by rw [e]; exact True.intro) hs ⟨q, hq⟩ ⟨hl, hd, _, (rel.put k eb rv).keeps fun c ys ec => ?_, q, es, ep, hq, h2, h3, h4, h5⟩
  rw [upd_ne (ne_of ec e (fun z => nomatch z))]
  exact ec
end
section
variable {X : Cx} {pins : List (Addr × Obj)} {σ : St} {H : Hp} {s : Shared} {a : Addr} {kvs : List (Key × V)} {k : Key} {u : Value} {A : Around} {E : Value -> Shared -> Prop}
end
noncomputable def NoSl (i : Expr) : Prop := ∀ ov iv, subscripted i false ov iv = operate [ov, iv] (getItem ov iv)
theorem subD_of {prog : Program} {w : World} {A : Around} {E : Value -> Shared -> Prop} {s : Shared} {env : Env} {value slice : Expr} {pos : Pos} {T id : String} {Q : Value -> Shared -> Prop}
  (hl : typeLookup (.type T) "__getitem__" = pure (some (.builtin id))) (hs : NoSl slice)
  (h : wpAny (model prog w) A (eval value env) (fun o s₁ => wpAny (model prog w) A (eval slice env) (fun i s₂ => s₂.TypeIs o T /\ wpAny (model prog w) A (getItem o i) Q E s₂) E s₁) E s) :
  wpAny (model prog w) A (eval (.Subscript value slice pos) env) Q E s := by
 refine Subscript_ (wpAny_mono h (fun o s₁ h₁ => wpAny_mono h₁ (fun i s₂ h₂ => ?_) fun _ _ x => x) fun _ _ x => x)
 obtain ⟨hT, h₂⟩ := h₂
 unfold subscriptTail
 refine wpAny_bind ?_
 rw [getitemInPython_of_ne hT.not_modules]
 refine wpAny_bind (wpAny_specialOf hT hl ?_)
 have fin : wpAny (model prog w) A (subscripted slice false o i) (fun r s₃ => wpAny (model prog w) A (letTemporaryGo value o r >>= fun _ => pure r) Q E s₃) E s₂ := by
  rw [hs o i]
  exact wpAny_operating (wpAny_mono h₂ (fun r s₃ h₃ => wpAny_bind (wpAny_letTemporaryGo (wpAny_pure h₃))) fun _ _ x => x)
 first
  | exact wpAny_pure (wpAny_bind fin)
  | exact wpAny_bind (wpAny_pure (wpAny_bind fin))
  | exact wpAny_bind fin
theorem dict_typeIs {X : Cx} {pins : List (Addr × Obj)} {σ : St} {H : Hp} {s : Shared} {a : Addr} {y : V} {o : Option V} (I : Inv X pins σ H s) (g : DGet H a y o) : s.TypeIs (.ref a) "dict" := by
 rcases g with ⟨kvs, k, e, _, _⟩ | ⟨kvs, k, b, e, _, _, _⟩
 ·obtain ⟨_, _, vs, _, dd⟩ := dk_rd I.hok e
  exact dd.typeIs
 ·obtain ⟨_, _, xs, _, dd⟩ := dt_rd I.hok e
  exact dd.typeIs
noncomputable def tDGet (td ty : TE) : TE := fun σ H Q => td σ H fun x H1 => ty σ H1 fun y H2 => ∃ a v, x = .ref a /\ DGet H2 a y (some v) /\ Q v H2
noncomputable def sDPut (td ty tv : TE) : TS := fun D σ H => tv σ H fun v H1 => td σ H1 fun x H2 => ty σ H2 fun y H3 => ∃ a H4, x = .ref a /\ DPut H3 a y v H4 /\ D.nx σ H4
section
variable {X : Cx} {o i e value : Expr} {pos pos' tpos : Pos} {td ty tv : TE}
theorem pe_dget (hu : X.A.units + 1 < cLine) (ho : PE X o td) (hi : PE X i ty) (hs : NoSl i) : PE X (.Subscript o i pos) (tDGet td ty) := by
 intro pins s σ H Q I h
 refine subD_of PySem.F.slot_dict_getitem.lookup hs (thn (ho pins s σ H _ I h) fun u s1 ⟨x, H1, I1, rx, q1⟩ => thn (hi pins s1 σ H1 _ I1 q1) fun iv s2 hsl49 => ?_)
 obtain ⟨y, H2, I2, ry, a, v, ex, g, q2⟩ := hsl49
 subst ex
 obtain rfl : u = Value.ref a := rx
 exact ⟨dict_typeIs I2 g, d_getItem hu I2 g ry fun w' s3 I3 rw' => ⟨v, H2, I3, rw', q2⟩⟩
theorem ps_dput (hu : X.A.units + 1 < cLine) (ho : PE X o td) (hi : PE X i ty) (hv : PE X value tv) (hs : swapsWith value (some (.Subscript o i pos')) pos.line X.env = pure false) :
  PS X (.Assign [.Subscript o i pos'] value pos) (sDPut td ty tv) := by
 intro pins s σ H D I h
 refine wpAny_Assign_Subscript (thn (hv pins s σ H _ I h) fun r s1 ⟨v, H1, I1, rv, q1⟩ => thn (ho pins s1 σ H1 _ I1 q1) fun u s2 ⟨x, H2, I2, rx, q2⟩ => thn (hi pins s2 σ H2 _ I2 q2) fun iv s3 hsl50 => ?_) hs
 obtain ⟨y, H3, I3, ry, a, H4, ex, g, q3⟩ := hsl50
 subst ex
 obtain rfl : u = Value.ref a := rx
 exact d_setItem hu I3 g ry rv fun s4 I4 => ⟨σ, H4, I4, q3⟩
end
theorem dk_empty {P : Program} {w : World} {H : Hp} (h : Heap) (hb : sysModules < h.objs.size) : ObjOk P w H (h.push { cls := .type "dict", data := .dict #[] }) h.objs.size (.dK []) :=
 ⟨Nat.zero_le _, beq_eq_false_iff_ne.mpr (Ne.symm (Nat.ne_of_lt hb)), [], .nil, Heap.DictOf.new h⟩
theorem dt_empty {P : Program} {w : World} {H : Hp} (h : Heap) (hb : sysModules < h.objs.size) : ObjOk P w H (h.push { cls := .type "dict", data := .dict #[] }) h.objs.size (.dT []) :=
 ⟨Nat.zero_le _, beq_eq_false_iff_ne.mpr (Ne.symm (Nat.ne_of_lt hb)), [], .nil, _, #[], 0, Heap.get?_push_size _ rfl, ⟨rfl, rfl, rfl⟩, rfl, rfl, List.nodup_nil⟩
noncomputable def tDNewK : TE := fun _ H Q => ∀ p, H p = none -> Q (.ref p) (upd H p (.dK []))
noncomputable def tDNewT : TE := fun _ H Q => ∀ p, H p = none -> Q (.ref p) (upd H p (.dT []))
section
variable {X : Cx} {pos : Pos}
theorem pe_dnewK : PE X (.Dict [] [] pos) tDNewK := fun pins s σ H Q I h =>
 wpAny_Dict_empty ⟨.ref s.heap.objs.size, _, I.laid (a := s.heap.objs.size) (o := .dK []) (t' := s.toks) (fun _ _ q => Heap.get?_push_of_some _ q) (Nat.le_refl _) (dk_empty s.heap I.big), rfl, h _ (I.hok.fresh (Nat.le_refl _))⟩
theorem pe_dnewT : PE X (.Dict [] [] pos) tDNewT := fun pins s σ H Q I h =>
 wpAny_Dict_empty ⟨.ref s.heap.objs.size, _, I.laid (a := s.heap.objs.size) (o := .dT []) (t' := s.toks) (fun _ _ q => Heap.get?_push_of_some _ q) (Nat.le_refl _) (dt_empty s.heap I.big), rfl, h _ (I.hok.fresh (Nat.le_refl _))⟩
end
structure M2 (X : Cx) (o : Expr) (m : Str) (apos : Pos) (e f : Expr) (cpos : Pos) : Prop where
 base : attributeBase o m X.env (eval o X.env) = eval o X.env
 few : ((backTo cpos (starEach [e, f] X.env)).all (fun x => !x.1) && (backToKw cpos (keywordEach [] X.env)).all (fun x => x.1.isSome)
  && decide (([e, f] : List Expr).length + ([] : List Keyword).length + (if ([] : List Keyword).isEmpty then 0 else 1) < 30)) = true
 line : (apos.endLine == cpos.line) = true
 trees : backTo cpos (starEach [e, f] X.env) = [(false, eval e X.env), (false, eval f X.env)]
noncomputable def IsD (H : Hp) (a : Addr) : Prop := (∃ kvs, Rd H a (.dK kvs)) ∨ ∃ kvs, Rd H a (.dT kvs)
theorem isD_at {X : Cx} {pins : List (Addr × Obj)} {σ : St} {H : Hp} {s : Shared} {a : Addr} (I : Inv X pins σ H s) (d : IsD H a) :
  s.TypeIs (.ref a) "dict" /\ (∀ b, Value.ref a = .ref b -> ∃ ob, s.heap.get? b = some ob /\ ob.dict = none) /\ (a == sysModules) = false := by
 rcases d with ⟨kvs, e⟩ | ⟨kvs, e⟩
 ·obtain ⟨_, hd, vs, _, dd⟩ := dk_rd I.hok e
  refine ⟨dd.typeIs, fun b q => ?_, hd⟩
  cases q
  obtain ⟨ob, _, _, h1, h2, _⟩ := dd
  exact ⟨ob, h1, h2.2.1⟩
 ·obtain ⟨_, hd, xs, _, dd⟩ := dt_rd I.hok e
  refine ⟨dd.typeIs, fun b q => ?_, hd⟩
  cases q
  obtain ⟨ob, _, _, h1, h2, _⟩ := dd
  exact ⟨ob, h1, h2.2.1⟩
section
variable {X : Cx} {pins : List (Addr × Obj)} {σ : St} {H : Hp} {s : Shared} {a : Addr} {y d : V} {u r : Value} {o : Option V} {A : Around} {E : Value -> Shared -> Prop}
theorem d_get2 {Q : Value -> Shared -> Prop} (hu : A.units + 1 < cLine) (I : Inv X pins σ H s) (g : DGet H a y o) (ry : RelV y u) (rd : RelV d r) (h : ∀ w' s', Inv X pins σ H s' -> RelV (o.getD d) w' -> Q w' s') :
  wpAny (model X.prog X.w) A (call (.builtin "dict.get") [.ref a, u, r]) Q E s := by
 rcases g with ⟨kvs, k, e, ey, l⟩ | ⟨kvs, k, b, e, ey, eb, l⟩
 ·subst ey
  obtain ⟨z, hd, vs, rel, dd⟩ := dk_rd I.hok e
  refine call_meetsIn PySem.F.slot_dict_get dd.typeIs PySem.F.entry_dict_get (PySem.F.args_dict_get_3 _ _ _) (meets_dict_get_default (mixKind X.prog X.w) a (kV_is ry) hd r) ⟨_, dd.mapOf, h _ _ (I.tok _) ?_⟩
  rw [l]
  exact (rel.val k).getD rd
 ·subst ey
  cases (show u = Value.ref b from ry)
  obtain ⟨z, hd, xs, rel, dd⟩ := dt_rd I.hok e
  refine call_meetsIn PySem.F.slot_dict_get dd.typeIs PySem.F.entry_dict_get (PySem.F.args_dict_get_3 _ _ _) (meetsH_dict_get_default (tupleKind (mixKind X.prog X.w)) a b hd r) ⟨tupleKind_room_in1 hu, k, xs, key_of I.hok eb, dd, h _ _ (I.tok _) ?_⟩
  rw [l]
  exact (rel.val k).getD rd
end
noncomputable def tDGet2 (td ty tx : TE) : TE := fun σ H Q => td σ H fun x H1 => ∃ a, x = .ref a /\ IsD H1 a /\ ty σ H1 fun y H2 => tx σ H2 fun z H3 => ∃ o, DGet H3 a y o /\ Q (o.getD z) H3
section
variable {X : Cx} {o e f : Expr} {apos cpos : Pos} {td ty tx : TE}
theorem pe_dget2 (hu : X.A.units + 1 < cLine) (ho : PE X o td) (he : PE X e ty) (hf : PE X f tx) (m : M2 X o "get" apos e f cpos) : PE X (.Call (.Attribute o "get" apos) [e, f] [] cpos) (tDGet2 td ty tx) := by
 intro pins s σ H Q I h
 refine wpAny_Call_method m.base m.few m.line PySem.F.plainAttrs_dict PySem.F.slot_dict_get PySem.F.type_dict_get (thn (ho pins s σ H _ I h) fun u s1 hsl51 => ?_)
 obtain ⟨x, H1, I1, rx, a, ex, d, q1⟩ := hsl51
 subst ex
 obtain rfl : u = Value.ref a := rx
 obtain ⟨t1, t2, _⟩ := isD_at I1 d
 refine ⟨t1, t2, ?_⟩
 rw [m.trees]
 refine Calls.callWith_builtin rfl (Calls.evalArgs_plain (Calls.spliced_cons (thn (he pins s1 σ H1 _ I1 q1) fun iv s2 ⟨y, H2, I2, ry, q2⟩ =>
  Calls.spliced_cons (thn (hf pins s2 σ H2 _ I2 q2) fun fv s3 ⟨z, H3, I3, rz, ov, g, q3⟩ => Calls.spliced_nil ?_))))
 exact d_get2 hu I3 g ry rz fun w' s4 I4 rw' => ⟨_, H3, I4, rw', q3⟩
end
section
variable {X : Cx} {pins : List (Addr × Obj)} {σ : St} {H : Hp} {s : Shared} {a : Addr} {kvs : List (Key × V)} {A : Around} {E : Value -> Shared -> Prop}
end
section
variable {X : Cx} {pins : List (Addr × Obj)} {σ : St} {H : Hp} {s : Shared} {a : Addr} {y : V} {u : Value} {A : Around} {E : Value -> Shared -> Prop}
end
end L2
namespace L2
open PySem PySem.Spec PyProof.Rows
section
variable {X : Cx}
end
section
variable {κ : Type} [DecidableEq κ]
end
end L2
set_option linter.all false
namespace Mm
open PySem
end Mm
set_option Elab.async false
set_option linter.all false
set_option maxRecDepth 100000
namespace Mm
open PySem L2
theorem ix_tupK {X : Cx} {K : PySem.W.Frag} (h : X.K = K) : IxR X (rIxT K) := by subst h; exact ix_tup
theorem bt_tuple : bootBuiltins "tuple" = some (.type "tuple") := by decide +kernel
theorem comp_tup {js : List Nat} {tt : TT} {te : TE} {K : PySem.W.Frag} {a : Addr} {xs : List V} {σ : St} {H : Hp} {Q : VK} (Pv : Nat -> List V -> Hp -> Prop) (h0 : Pv 0 [] H) (hl : ∀ i ys H, i <= xs.length -> Pv i ys H -> SqT K H a xs)
  (hs : ∀ i x ys H, xs[i]? = some x -> Pv i ys H -> tt (some x :: pick js σ) H fun b H2 => if b = true then te (some x :: pick js σ) H2 fun y H3 => ys.length < sizeLine /\ Pv (i + 1) (ys ++ [y]) H3 else Pv (i + 1) ys H2)
  (hd : ∀ ys H, Pv xs.length ys H -> ∀ p, H p = none -> Q (.ref p) (upd H p (.lst ys))) :
  tCompB (Itt K a) js tt te σ H Q := by
 refine ⟨fun i m ys H => m = xs.length - i /\ i <= xs.length /\ Pv i ys H, ⟨xs.length, by simp, Nat.zero_le _, h0⟩, ?_⟩
 rintro i m ys H ⟨rfl, hi, p⟩
 have q := hl i ys H hi p
 by_cases hlt : i < xs.length
 ·refine .inr ⟨⟨xs, xs[i], q, by simp [hlt]⟩, Pv (i + 1), fun ys' H' p' => ⟨xs.length - (i + 1), by omega, rfl, hlt, p'⟩, fun x H' y => ?_⟩
  obtain ⟨e, y⟩ := y
  subst e
  exact hs i x ys _ (y xs q) p
 ·have e : i = xs.length := by omega
  subst e
  exact .inl ⟨⟨xs, q, Nat.le_refl _⟩, hd ys H p⟩
theorem seq_c {v : V} {i : Nat} {b : TS} {D : Ends} {σ : St} {H : Hp} (h : b D (σ.set i (some v)) H) : tSeq (tAsg (tC v) (gName i)) b D σ H := h
theorem cut_if {c : TT} {t u b : TS} {D : Ends} {σ : St} {H : Hp} (P : St -> Hp -> Prop) (h1 : ∀ R : St -> Hp -> Prop, (∀ σ' H', P σ' H' -> R σ' H') -> tIfS c t u { D with nx := R } σ H) (h2 : ∀ σ' H', P σ' H' -> b D σ' H') : tSeq (tIfS c t u) b D σ H := h1 (b D) h2
theorem cut_for {wi : TI} {g : TG} {tb b : TS} {D : Ends} {σ : St} {H : Hp} (P : St -> Hp -> Prop) (h1 : ∀ R : St -> Hp -> Prop, (∀ σ' H', P σ' H' -> R σ' H') -> tFor wi g tb { D with nx := R } σ H) (h2 : ∀ σ' H', P σ' H' -> b D σ' H') : tSeq (tFor wi g tb) b D σ H := h1 (b D) h2
end Mm
set_option Elab.async false
set_option linter.all false
set_option maxRecDepth 100000
set_option maxHeartbeats 4000000
namespace L2
open PySem PySem.Spec PyProof.Rows
section
variable {X : Cx}
end
end L2
set_option Elab.async false
set_option linter.all false
set_option maxRecDepth 100000
set_option maxHeartbeats 4000000
namespace L2
open PySem PySem.Spec PyProof.Rows
noncomputable def Ite (K : PySem.W.Frag) (a : Addr) : It := ⟨fun i H => ∃ xs x, SqL K H a xs /\ xs[i]? = some x, fun i H x H' => ∃ (t : Addr) (y : V), (∀ xs, SqL K H a xs -> xs[i]? = some y) /\ H t = none /\ x = .ref t /\ H' = upd H t (.tup [.int ((i : Nat) : Int), y]), fun i H => ∃ xs, SqL K H a xs /\ xs.length <= i⟩
theorem turn_enum {P : Program} {w : World} {K : PySem.W.Frag} {elts : List Expr} {k : Nat} {tpos : Pos} (a e it : Addr) (hei : e ≠ it) :
  Turn P w K (.Tuple elts k tpos) (Ite K a) [e, it] e (fun i h => (∃ old, IsEnum h e it i old) /\ h.IsListIter it a i) where
 mem := by simp
 obj := fun i h st b hb => by
  rcases (show b = e ∨ b = it by simpa using hb) with z | z
  ·subst z
   obtain ⟨⟨old, he⟩, _⟩ := st
   exact ⟨_, he, fun v z => by cases z⟩
  ·subst z
   obtain ⟨_, o, e, c, d⟩ := st
   exact ⟨o, e, fun v z => by rw [d] at z; cases z⟩
 keep := fun i h h' st kk => ⟨by obtain ⟨old, he⟩ := st.1; exact ⟨old, kk e (by simp) _ he⟩, st.2.at fun o q => kk it (by simp) o q⟩
 item := by
  intro X hP hw hK hc i pins s σ H E I hf st hg
  subst hP hw hK
  obtain ⟨xs, x, hq, hx⟩ := hg
  obtain ⟨its, rv, p, hz⟩ := I.list hq
  obtain ⟨u, hu, ru⟩ := rv.get hx
  obtain ⟨⟨old, he⟩, hit⟩ := st
  obtain ⟨e0, e1, e2, e3, e4, e5⟩ := hf e (by simp)
  obtain ⟨f0, f1, f2, f3, f4, f5⟩ := hf it (by simp)
  refine wpAny_pyNext_enum_item he hit p.isList (x := u) (by simpa using hu) hei fun h1 ho hit1 ht hsz kk => ?_
  refine ⟨_, rfl, ?_⟩
  have hel : e < s.heap.objs.size := Heap.lt_size he
  have hil : it < s.heap.objs.size := by obtain ⟨_, q, _⟩ := hit; exact Heap.lt_size q
  refine wpAny_letOwnedTupleGo_enum (s := { s with heap := h1, toks := s.toks + 1 }) ho fun h2 he2 hs2 => ?_
  have hs2 : Heap.SameBut e h1 h2 := hs2
  have kk2 : ∀ b o, b ≠ e -> b ≠ it -> s.heap.get? b = some o -> h2.get? b = some o := fun b o q1 q2 q => (hs2.2 b q1).trans (kk b o q1 q2 q)
  have ht2 : h2.get? s.heap.objs.size = some { cls := .type "tuple", data := .seq #[.int i s.toks, u] } := (hs2.2 _ (Nat.ne_of_gt hel)).trans ht
  have hT : H s.heap.objs.size = none := I.fresh
  have I2 : Inv X pins σ (upd H s.heap.objs.size (.tup [.int ((i : Nat) : Int), x])) { s with heap := h2, toks := s.toks + 1 } := by
   refine I.call' (ch := [e, it]) rfl ⟨fun b o q hn hb hx => ?_, fun b o q hn hb hx => ?_, fun b o q hn hx => ?_, fun b o q hx => ?_, fun b ys q => ?_, fun b o v q => ?_, fun b ps q => ?_⟩ (fun b v q => ?_) I.bare fun b hb => ?_
   ·exact kk2 b o (fun z => hx (by simp [z])) (fun z => hx (by simp [z])) q
   ·exact ⟨o.slots, kk2 b o (fun z => hx (by simp [z])) (fun z => hx (by simp [z])) q⟩
   ·rw [upd_ne (Nat.ne_of_lt (Heap.lt_size q))]; exact hn
   ·exact ⟨o, kk2 b o (fun z => hx (by simp [z])) (fun z => hx (by simp [z])) q⟩
   ·rw [upd_ne (ne_of_none q hT)]; exact q
   ·rw [upd_ne (ne_of_none q hT)]; exact q
   ·exact ⟨#[], by rw [upd_ne (ne_of_none q hT)]; simpa using q⟩
   ·by_cases hb : b = s.heap.objs.size
    ·subst hb
     rw [upd_same] at q
     cases q
     exact ⟨(by show 2 <= sizeLine; decide), [.int i s.toks, u], .cons ⟨_, rfl⟩ (.cons ru .nil), _, ht2, rfl, _, rfl⟩
    ·rw [upd_ne hb] at q
     have hne : b ≠ e := fun z => by rw [z, e0] at q; cases q
     have hni : b ≠ it := fun z => by rw [z, f0] at q; cases q
     refine (I.hok b v q).stay (fun c o hcb z => kk2 c o (fun y => ?_) (fun y => ?_) z) (fun c z => by rw [upd_ne (ne_of_none z hT)]; exact z) fun c ys z => by rw [upd_ne (ne_of_none z hT)]; exact z
     ·rcases hcb with r | r
      ·exact hne (r ▸ y)
      ·rw [y, e0] at r; cases r
     ·rcases hcb with r | r
      ·exact hni (r ▸ y)
      ·rw [y, f0] at r; cases r
   ·rcases (show b = e ∨ b = it by simpa using hb) with z | z
    ·subst z; exact ⟨e3, e1, e4, e5⟩
    ·subst z; exact ⟨f3, f1, f4, f5⟩
  refine ⟨.ref s.heap.objs.size, _, I2, rfl, ⟨_, x, fun ys hy => by rw [I.list_inj hy hq]; exact hx, hT, rfl, rfl⟩, ⟨⟨u, by simpa using he2⟩, hit1.at fun o q => (hs2.2 it hei.symm).trans q⟩, fun b hb => ?_⟩
  rcases (show b = e ∨ b = it by simpa using hb) with z | z
  ·subst z; rw [upd_ne (Nat.ne_of_lt hel)]; exact e0
  ·subst z; rw [upd_ne (Nat.ne_of_lt hil)]; exact f0
 done := by
  intro X hP hw hK hc i pins s σ H E I hf st hg
  subst hP hw hK
  obtain ⟨xs, hq, hx⟩ := hg
  obtain ⟨its, rv, p, hz⟩ := I.list hq
  obtain ⟨f0, f1, f2, f3, f4, f5⟩ := hf it (by simp)
  obtain ⟨⟨old, he⟩, hit⟩ := st
  have hl := rv.length
  exact wpAny_pyNext_enum_end (I.ok.hd hc) he hit p.isList (by simp; omega) fun h' eb => ⟨rfl, I.turned (t' := s.toks) (fun b o hb q => eb b o hb q) f0 f1 f3 f4 f5⟩
 self := fun _ _ _ _ _ st h => by obtain ⟨⟨old, he⟩, _⟩ := st; exact wpAny_pyIter_enum he h
section
variable {X : Cx}
noncomputable def iEnum (K : PySem.W.Frag) (ta : TA) : TI := fun σ H R => ta σ H fun vs H1 => ∃ a xs, vs = [.ref a] /\ SqL K H1 a xs /\ R (Ite K a) H1
theorem pi_enum {a : Expr} {ta : TA} {p pos tpos : Pos} {elts : List Expr} {k : Nat} (hg : Gl X "enumerate") (hm : X.mg "enumerate" = none) (ha : PA X [a] ta) (hs : starEach [a] X.env = [(false, eval a X.env)] := by rfl) :
  PI X (.Tuple elts k tpos) (.Call (.Name "enumerate" p) [a] [] pos) (iEnum X.K ta) := by
 intro pins s σ H R I h
 refine Call_ (ld_blt I hg hm boot_enumerate (PyProof.Rows.callWith_type1 (thn (ha pos pins s σ H _ I h) fun us s1 hsl52 => ?_) hs rfl))
 obtain ⟨vs, H1, I1, r1, q1⟩ := hsl52
 obtain ⟨l, xs, e, hq, q⟩ := q1
 subst e
 obtain ⟨u, rfl, ru⟩ := vals1 r1
 cases ru
 obtain ⟨its, rv, pp, hz⟩ := I1.list hq
 refine call_enumerate_list pp.isList fun h' he hit hsz kk => ?_
 refine wpAny_pyIter_enum (s := { s1 with heap := h' }) he ?_
 refine ⟨s1.heap.objs.size + 1, [s1.heap.objs.size + 1, s1.heap.objs.size], _, _, H1, rfl, I1.kept (t' := s1.toks) kk, turn_enum l _ _ (Nat.succ_ne_self _), ⟨⟨_, he⟩, hit⟩, fun b hb => ?_, q⟩
 rcases (show b = s1.heap.objs.size + 1 ∨ b = s1.heap.objs.size by simpa using hb) with z | z
 ·subst z; exact I1.fpOk (Nat.le_succ _) (I1.hok.fresh (Nat.le_succ _))
 ·subst z; exact I1.fpOk (Nat.le_refl _) (I1.hok.fresh (Nat.le_refl _))
end
theorem pg_tupK {X : Cx} {K : PySem.W.Frag} {es : List Expr} {k : Nat} {pos : Pos} {t : TGs} {n : Nat} (hK : X.K = K) (hc : X.calm = true) (h : PGs X es t)
  (hn : (assignEach es X.env).length = n := by rfl) (hst : (assignEach es X.env).findIdx? (·.1) = none := by rfl) : PG X (.Tuple es k pos) (gTup K n t) := by
 subst hK
 exact pg_tup hc h hn hst
section
variable {k : Nat} {js : List Nat} {g : TG} {tt : TT} {te : TE}
theorem comp2_list {K : PySem.W.Frag} {a : Addr} {xs : List V} {σ : St} {H : Hp} {Q : VK} (Pv : Nat -> List V -> Hp -> Prop) (h0 : Pv 0 [] H) (hl : ∀ i ys H, i <= xs.length -> Pv i ys H -> SqL K H a xs)
  (hs : ∀ i x ys H, xs[i]? = some x -> Pv i ys H -> tStep2 k js g tt te σ ys (Pv (i + 1)) x H)
  (hd : ∀ ys H, Pv xs.length ys H -> ∀ p, H p = none -> Q (.ref p) (upd H p (.lst ys))) : tCompB2 (Itl K a) k js g tt te σ H Q := by
 refine ⟨fun i m ys H => m = xs.length - i /\ i <= xs.length /\ Pv i ys H, ⟨xs.length, by simp, Nat.zero_le _, h0⟩, ?_⟩
 rintro i m ys H ⟨rfl, hi, p⟩
 have q := hl i ys H hi p
 by_cases hlt : i < xs.length
 ·refine .inr ⟨⟨xs, xs[i], q, by simp [hlt]⟩, Pv (i + 1), fun ys' H' p' => ⟨xs.length - (i + 1), by omega, rfl, hlt, p'⟩, fun x H' y => ?_⟩
  obtain ⟨e, y⟩ := y
  subst e
  exact hs i x ys _ (y xs q) p
 ·have e : i = xs.length := by omega
  subst e
  exact .inl ⟨⟨xs, q, Nat.le_refl _⟩, hd ys H p⟩
theorem comp2_enum {K : PySem.W.Frag} {a : Addr} {xs : List V} {σ : St} {H : Hp} {Q : VK} (Pv : Nat -> List V -> Hp -> Prop) (h0 : Pv 0 [] H) (hl : ∀ i ys H, i <= xs.length -> Pv i ys H -> SqL K H a xs)
  (hs : ∀ i x ys H t, xs[i]? = some x -> Pv i ys H -> H t = none -> tStep2 k js g tt te σ ys (Pv (i + 1)) (.ref t) (upd H t (.tup [.int ((i : Nat) : Int), x])))
  (hd : ∀ ys H, Pv xs.length ys H -> ∀ p, H p = none -> Q (.ref p) (upd H p (.lst ys))) : tCompB2 (Ite K a) k js g tt te σ H Q := by
 refine ⟨fun i m ys H => m = xs.length - i /\ i <= xs.length /\ Pv i ys H, ⟨xs.length, by simp, Nat.zero_le _, h0⟩, ?_⟩
 rintro i m ys H ⟨rfl, hi, p⟩
 have q := hl i ys H hi p
 by_cases hlt : i < xs.length
 ·refine .inr ⟨⟨xs, xs[i], q, by simp [hlt]⟩, Pv (i + 1), fun ys' H' p' => ⟨xs.length - (i + 1), by omega, rfl, hlt, p'⟩, fun x H' y => ?_⟩
  obtain ⟨t, y, hy, hn, rfl, rfl⟩ := y
  exact hs i y ys _ t (hy xs q) p hn
 ·have e : i = xs.length := by omega
  subst e
  exact .inl ⟨⟨xs, q, Nat.le_refl _⟩, hd ys H p⟩
end
end L2
set_option Elab.async false
set_option linter.all false
set_option maxRecDepth 100000
set_option maxHeartbeats 4000000
namespace L2
open PySem PySem.Spec PyProof.Rows
mutual
inductive Rdv (K : PySem.W.Frag) (H : Hp) : V -> PyData -> Prop
 | non : Rdv K H .non .none
 | bl (b : Bool) : Rdv K H (.bl b) (.bool b)
 | int (i : Int) : Rdv K H (.int i) (.int i)
 | str (x : Str) : Rdv K H (.str x) (.str x)
 | lst {a : Addr} {xs : List V} {ds : List PyData} : SqL K H a xs -> RdvA K H xs ds -> Rdv K H (.ref a) (.list ds)
 | tup {a : Addr} {xs : List V} {ds : List PyData} : SqT K H a xs -> RdvA K H xs ds -> Rdv K H (.ref a) (.tuple ds)
inductive RdvA (K : PySem.W.Frag) (H : Hp) : List V -> List PyData -> Prop
 | nil : RdvA K H [] []
 | cons {x : V} {d : PyData} {xs : List V} {ds : List PyData} : Rdv K H x d -> RdvA K H xs ds -> RdvA K H (x :: xs) (d :: ds)
end
section
variable {X : Cx} {pins : List (Addr × Obj)} {σ : St} {H : Hp} {s : Shared}
mutual
theorem Rdv.reads (I : Inv X pins σ H s) : ∀ {x : V} {d : PyData} {u : Value}, Rdv X.K H x d -> RelV x u -> ∃ as, Reads s.heap u d as
 | _, _, _, .non, r => by cases r; exact ⟨_, .none⟩
 | _, _, _, .bl b, r => by cases r; exact ⟨_, .bool b⟩
 | _, _, _, .int i, r => by obtain ⟨t, rfl⟩ := r; exact ⟨_, .int i t⟩
 | _, _, _, .str x, r => by obtain ⟨t, rfl⟩ := r; exact ⟨_, .str x t⟩
 | _, _, _, .lst hq ha, r => by
  cases r
  obtain ⟨its, rv, p, _⟩ := I.list hq
  obtain ⟨as, ra⟩ := RdvA.reads I ha rv
  obtain ⟨o, ho, hc, n, hd⟩ := p.isList
  exact ⟨_, .list ho hc hd (by simpa using ra)⟩
 | _, _, _, .tup hq ha, r => by
  cases r
  obtain ⟨its, rv, p, _⟩ := I.tuple hq
  obtain ⟨as, ra⟩ := RdvA.reads I ha rv
  obtain ⟨o, ho, hc, n, hd⟩ := p
  exact ⟨_, .tuple ho hc hd (by simpa using ra)⟩
theorem RdvA.reads (I : Inv X pins σ H s) : ∀ {xs : List V} {ds : List PyData} {us : List Value}, RdvA X.K H xs ds -> Vals xs us -> ∃ as, ReadsAll s.heap us ds as
 | _, _, _, .nil, r => by cases r; exact ⟨_, .nil⟩
 | _, _, _, .cons h t, r => by
  cases r with
  | cons r1 r2 =>
   obtain ⟨as, ra⟩ := Rdv.reads I h r1
   obtain ⟨bs, rb⟩ := RdvA.reads I t r2
   exact ⟨_, .cons ra rb⟩
end
end
section
variable {X : Cx}
theorem op_eqD {K : PySem.W.Frag} (hK : X.K = K) (hu : X.A.units + 64 < cLine) : OpR X (compareOp .Eq) (fun x y H Q => ∃ d e, Rdv K H x d /\ Rdv K H y e /\ SeqAt.shaped d = true /\ SeqAt.shaped e = true /\ Q (.bl (PyData.eqv d e)) H) := by
 intro pins s σ H x y v u Q I rx ry h
 subst hK
 obtain ⟨d, e, h1, h2, s1, s2, q⟩ := h
 obtain ⟨as, ra⟩ := h1.reads I rx
 obtain ⟨bs, rb⟩ := h2.reads I ry
 exact eq_dataH ra rb s1 s2 hu ⟨.bl _, H, I, rfl, q⟩
theorem op_neD {K : PySem.W.Frag} (hK : X.K = K) (hu : X.A.units + 64 < cLine) : OpR X (compareOp .NotEq) (fun x y H Q => ∃ d e, Rdv K H x d /\ Rdv K H y e /\ SeqAt.shaped d = true /\ SeqAt.shaped e = true /\ Q (.bl (!PyData.eqv d e)) H) := by
 intro pins s σ H x y v u Q I rx ry h
 subst hK
 obtain ⟨d, e, h1, h2, s1, s2, q⟩ := h
 obtain ⟨as, ra⟩ := h1.reads I rx
 obtain ⟨bs, rb⟩ := h2.reads I ry
 exact ne_dataH ra rb s1 s2 hu ⟨.bl _, H, I, rfl, q⟩
end
section
variable {X : Cx}
end
noncomputable def Shd (n : Nat) (d : PyData) : Prop := d.canLay0 = true /\ d.depth <= n
theorem Shd.int (i : Int) : Shd 0 (.int i) := ⟨rfl, Nat.le_refl _⟩
theorem Shd.str {z : Str} (h : ∀ c ∈ z.cps.toList, c < 128) : Shd 0 (.str z) := ⟨by
 show PyData.strOk z = true
 unfold PyData.strOk
 rw [Array.all_eq_true]
 intro i hi
 have := h z.cps[i] (by simp)
 simp only [decide_eq_true_eq]
 omega, Nat.le_refl _⟩
theorem shd_all {n : Nat} : ∀ {ds : List PyData}, (∀ d ∈ ds, Shd n d) -> PyData.canLayAll0 ds = true /\ PyData.depthAll ds <= n
 | [], _ => ⟨rfl, Nat.zero_le _⟩
 | d :: r, h => by
  obtain ⟨a, b⟩ := h d List.mem_cons_self
  obtain ⟨c, e⟩ := shd_all (ds := r) fun x hx => h x (List.mem_cons_of_mem _ hx)
  exact ⟨by simp only [PyData.canLayAll0]; rw [a, c]; rfl, by simp only [PyData.depthAll]; omega⟩
theorem Shd.list {n : Nat} {ds : List PyData} (h : ∀ d ∈ ds, Shd n d) : Shd (n + 1) (.list ds) := ⟨by simp only [PyData.canLay0]; exact (shd_all h).1, by simp only [PyData.depth]; have := (shd_all h).2; omega⟩
theorem Shd.tuple {n : Nat} {ds : List PyData} (h : ∀ d ∈ ds, Shd n d) : Shd (n + 1) (.tuple ds) := ⟨by simp only [PyData.canLay0]; exact (shd_all h).1, by simp only [PyData.depth]; have := (shd_all h).2; omega⟩
theorem Shd.up {n m : Nat} {d : PyData} (h : Shd n d) (hm : n <= m) : Shd m d := ⟨h.1, Nat.le_trans h.2 hm⟩
theorem Shd.ok {n : Nat} {d : PyData} (h : Shd n d) (hn : n <= 64) : SeqAt.shaped d = true := by
 show (d.canLay0 && decide (d.depth <= 64)) = true
 rw [h.1, decide_eq_true (Nat.le_trans h.2 hn)]; rfl
theorem Shd.refl {n : Nat} {d : PyData} (h : Shd n d) : PyData.eqv d d = true := SeqAt.eqv_refl d h.1
end L2
set_option Elab.async false
set_option linter.all false
set_option maxRecDepth 100000
set_option maxHeartbeats 4000000
namespace L2
open PySem PySem.Spec PyProof.Rows
theorem args_lsort_key (a v : Value) : argsOk "list.sort" ⟨[a], [(Str.ofString "key", v)]⟩ := by unfold argsOk; kernel_rfl
theorem args_sorted_key (a v : Value) : argsOk "sorted" ⟨[a], [(Str.ofString "key", v)]⟩ := by unfold argsOk; kernel_rfl
theorem lsort_key (a f : Addr) : Builtin.«list.sort» ⟨[.ref a], [(Str.ofString "key", .ref f)]⟩ = (do
  let items <- Builtin.List.listItems (.ref a)
  Builtin.List.listUpdate (.ref a) fun _ => #[]
  let before <- seqEpoch a
  let held <- newTuple items.toList
  let keyStore <- newList []
  holding [held, keyStore] do
   rule "list.sort.key"
   for x in items do
    match <- (call (.ref f) [x]).attempt with
    | .ok k => Builtin.List.listUpdate keyStore (·.push k)
    | .error e =>
     rule "list.sort.key-raised"
     let made <- Builtin.List.listItems keyStore
     Builtin.List.listUpdate keyStore fun _ => #[]
     letGo made.toList.reverse [e]
     Builtin.List.listUpdate (.ref a) fun _ => items; throw e
   let keys <- Builtin.List.listItems keyStore
   let kind <- if items.size < 2 then pure general' else keyKind' keys
   let ((), s) <- (if items.size < 2 then pure () else sortRuns').run (SortSt.mk' kind (keys.zip items) #[] 7 none)
   let sorted := (arrOf s).map (·.2)
   Builtin.List.listUpdate keyStore fun _ => #[]
   letGo ((arrOf s).map (·.1)).toList (failedOf s).toList
   let touched := (<- seqEpoch a) != before
   Builtin.List.listUpdate (.ref a) fun _ => sorted
   if let some e := failedOf s then rule "list.sort.comparison-raised"; throw e
   if touched then rule "list.sort.modified"; raiseError "ValueError" "list modified during sort"
   ret .none) := by
 first | rfl | (fail "not by rfl")
theorem Inv.adopt {X : Cx} {pins : List (Addr × Obj)} {σ : St} {H : Hp} {s : Shared} {a : Addr} {o : HO} (I : Inv X pins σ H s) (f : FpOk X pins H a) (new : ObjOk X.prog X.w (upd H a o) s.heap a o) : Inv X pins σ (upd H a o) s := by
 obtain ⟨f0, f1, f2, f3, f4, f5⟩ := f
 have ne : ∀ b u, H b = some u -> b ≠ a := fun b u e => ne_of_none e f0
 have hok : HOk X.prog X.w (upd H a o) s.heap := fun b u e => by
  by_cases hb : b = a
  ·subst hb; rw [upd_same] at e; cases e; exact new
  ·rw [upd_ne hb] at e
   exact (I.hok b u e).stay (fun c v _ q => q) (fun c q => by rw [upd_ne (ne c _ q)]; exact q) fun c xs q => by rw [upd_ne (ne c _ q)]; exact q
 have nc : ∀ {b : Addr}, b ∉ [a] -> b ≠ a := fun h z => h (by simp [z])
 exact I.step (g' := s.gens) (d' := s.drawn) (t' := s.toks) (h' := s.heap) (ch := [a]) (fun b hb => by
   have e : b = a := by simpa using hb
   subst e
   exact ⟨f3, f1, f4, f5⟩)
  (fun b o _ _ _ e _ => e) (fun b o _ _ _ e _ => ⟨o.slots, e⟩) (fun b o hc e n => by rw [upd_ne (nc hc)]; exact n) (fun b o _ e => ⟨o, e⟩)
  (fun b xs e => by rw [upd_ne (ne b _ e)]; exact e) (fun b o u e => by rw [upd_ne (ne b _ e)]; exact e) (fun b ps e => ⟨#[], by rw [upd_ne (ne b _ e), e]; simp⟩) (fun m hm => hm) hok I.bare
section
variable {X : Cx} {k : Nat} {f : Addr} {fd : FuncData} {ps : List Str} {sp : Sp} {dvs : List V} {ds : List Value} {pins : List (Addr × Obj)} {σ : St} {H : Hp} {s : Shared} {xs : List V} {ks : List Int}
end
end L2
set_option Elab.async false
set_option linter.all false
set_option maxRecDepth 100000
set_option maxHeartbeats 4000000
namespace L2
open PySem PySem.Spec PyProof.Rows
section
variable {prog : Program} {w : World} {K : Type} [DecidableEq K] {knd : HeapKind prog w K} {A : Around} {E : Value -> Shared -> Prop} {s : Shared} {d : Addr} {xs : List (K × Addr × Value)}
end
section
variable {X : Cx}
end
end L2
set_option Elab.async false
set_option linter.all false
set_option maxRecDepth 100000
set_option maxHeartbeats 4000000
namespace L2
open PySem PySem.Spec PyProof.Rows PySem.W
noncomputable def runT {α : Type} (lt : Nat -> Nat -> Bool) : KasT α -> α
 | .ret a => a
 | .ask i j k => runT lt (k (lt i j))
noncomputable def Asks {α : Type} (n : Nat) (P : α -> Prop) : KasT α -> Prop
 | .ret a => P a
 | .ask i j k => i < n /\ j < n /\ ∀ b, Asks n P (k b)
theorem Asks.bind {α β : Type} {n : Nat} {P : β -> Prop} {f : α -> KasT β} : ∀ {t : KasT α}, Asks n (fun a => Asks n P (f a)) t -> Asks n P (t.bind f)
 | .ret a, h => h
 | .ask i j k, h => ⟨h.1, h.2.1, fun b => Asks.bind (h.2.2 b)⟩
theorem Asks.mono {α : Type} {n : Nat} {P Q : α -> Prop} (hq : ∀ a, P a -> Q a) : ∀ {t : KasT α}, Asks n P t -> Asks n Q t
 | .ret a, h => hq a h
 | .ask i j k, h => ⟨h.1, h.2.1, fun b => Asks.mono hq (h.2.2 b)⟩
theorem asks_run {α : Type} {n : Nat} {P : α -> Prop} (lt : Nat -> Nat -> Bool) : ∀ (t : KasT α), Asks n P t -> P (runT lt t)
 | .ret a, h => h
 | .ask i j k, h => asks_run lt (k (lt i j)) (h.2.2 (lt i j))
theorem kasWp_of {α : Type} {cmp : Nat -> Nat -> (Bool -> Shared -> Prop) -> Shared -> Prop} {lt : Nat -> Nat -> Bool} {n : Nat} {P : α -> Prop} {s : Shared} {G : α -> Shared -> Prop} (hc : ∀ i j, i < n -> j < n -> ∀ C : Bool -> Shared -> Prop, C (lt i j) s -> cmp i j C s) :
  ∀ {t : KasT α}, Asks n P t -> G (runT lt t) s -> KasT.kasWp cmp t G s
 | .ret a, _, g => g
 | .ask i j k, h, g => hc i j h.1 h.2.1 _ (kasWp_of hc (h.2.2 (lt i j)) g)
noncomputable def Ent (n : Nat) (p : Array Nat) : Prop := ∀ x ∈ p.toList, x < n
theorem Ent.at {n : Nat} {p : Array Nat} (h0 : 0 < n) (h : Ent n p) (k : Nat) : p.getD k 0 < n := by
 rw [Array.getD_eq_getD_getElem?]
 cases e : p[k]? with
 | none => exact h0
 | some x =>
  refine h x ?_
  rw [<- Array.getElem?_toList] at e
  exact List.mem_of_getElem? e
theorem Ent.swap {n : Nat} {p : Array Nat} (h : Ent n p) (i j : Nat) : Ent n (p.swapIfInBounds i j) := by
 intro x hx
 refine h x ?_
 unfold Array.swapIfInBounds at hx
 split at hx
 ·split at hx
  ·rename_i h1 h2
   exact ((Array.perm_iff_toList_perm.mp (Array.swap_perm h1 h2)).mem_iff).mp hx
  ·exact hx
 ·exact hx
theorem Ent.swaps {n : Nat} (f g : Nat -> Nat) : ∀ (l : List Nat) {p : Array Nat}, Ent n p -> Ent n (l.foldl (fun a k => a.swapIfInBounds (f k) (g k)) p)
 | [], _, h => h
 | k :: l, _, h => Ent.swaps f g l (h.swap _ _)
theorem Ent.rev {n : Nat} {p : Array Nat} (h : Ent n p) (i j : Nat) : Ent n (kas_rev p i j) := by
 unfold kas_rev mirror
 exact Ent.swaps (fun k => i + k) (fun k => j - 1 - k) _ h
theorem Ent.bubble {n : Nat} {p : Array Nat} (h : Ent n p) (i d : Nat) : Ent n (bubble p i d) := by
 unfold PyProof.Rows.bubble
 exact Ent.swaps (fun k => i - k) (fun k => i - k - 1) _ h
theorem asks_asc {n : Nat} (h0 : 0 < n) {p : Array Nat} (h : Ent n p) : ∀ k i, Asks n (fun _ => True) (kas_asc p k i)
 | 0, i => by unfold kas_asc; trivial
 | k + 1, i => by
  unfold kas_asc
  refine ⟨h.at h0 _, h.at h0 _, fun b => ?_⟩
  dsimp only
  split
  ·trivial
  ·exact asks_asc h0 h k (i + 1)
theorem asks_desc {n : Nat} (h0 : 0 < n) : ∀ k {p : Array Nat}, Ent n p -> ∀ i m, Asks n (fun r : Array Nat × Nat × Nat => Ent n r.1) (kas_desc k p i m)
 | 0, p, h, i, m => by unfold kas_desc; exact h
 | k + 1, p, h, i, m => by
  unfold kas_desc
  refine ⟨h.at h0 _, h.at h0 _, fun b => ?_⟩
  dsimp only
  split
  ·split
   ·exact asks_desc h0 k (h.rev _ _) _ _
   ·exact asks_desc h0 k h _ _
  ·refine ⟨h.at h0 _, h.at h0 _, fun b => ?_⟩
   dsimp only
   split
   ·exact h
   ·exact asks_desc h0 k h _ _
theorem asks_place {n : Nat} (h0 : 0 < n) {p : Array Nat} (h : Ent n p) (k : Nat) : ∀ f l r, Asks n (fun _ => True) (kas_place p k f l r)
 | 0, l, r => by unfold kas_place; trivial
 | f + 1, l, r => by
  unfold kas_place
  split
  ·trivial
  ·refine ⟨h.at h0 _, h.at h0 _, fun b => ?_⟩
   dsimp only
   split
   ·exact asks_place h0 h k f _ _
   ·exact asks_place h0 h k f _ _
theorem asks_bin {n : Nat} (h0 : 0 < n) : ∀ k {p : Array Nat}, Ent n p -> ∀ i, Asks n (Ent n) (kas_bin k p i)
 | 0, p, h, i => by unfold kas_bin; exact h
 | k + 1, p, h, i => by
  unfold kas_bin
  exact Asks.bind ((asks_place h0 h i i 0 i).mono fun l _ => asks_bin h0 k (h.bubble _ _) (i + 1))
theorem asks_tail {n : Nat} (h0 : 0 < n) {p : Array Nat} (h : Ent n p) (i j : Nat) : Asks n (fun r : Nat × Array Nat => Ent n r.2) (kas_tail3 i j p) := by
 unfold kas_tail3
 exact Asks.bind ((asks_asc h0 (h.rev _ _) _ _).mono fun m _ => h.rev _ _)
theorem asks_descP {n : Nat} (h0 : 0 < n) {p : Array Nat} (h : Ent n p) (i j : Nat) : Asks n (fun r : Nat × Array Nat => Ent n r.2) (kas_descPart i j p) := by
 unfold kas_descPart
 refine Asks.bind ((asks_desc h0 _ h _ _).mono fun r hr => ?_)
 try dsimp only
 split
 ·exact asks_tail h0 (hr.rev _ _) _ _
 ·exact asks_tail h0 hr _ _
theorem asks_count {n : Nat} (h0 : 0 < n) {p : Array Nat} (h : Ent n p) (j : Nat) : Asks n (fun r : Nat × Array Nat => Ent n r.2) (kas_count j p) := by
 unfold kas_count
 refine Asks.bind ((asks_asc h0 h _ _).mono fun i _ => ?_)
 try dsimp only
 split
 ·exact h
 ·split
  ·refine ⟨h.at h0 _, h.at h0 _, fun b => ?_⟩
   dsimp only
   split
   ·exact h
   ·exact asks_descP h0 (h.rev _ _) _ _
  ·exact asks_descP h0 h _ _
theorem asks_sort {n : Nat} (h0 : 0 < n) : Asks n (Ent n) (kas_sort n) := by
 have h : Ent n (List.range n).toArray := fun x hx => by simpa using hx
 unfold kas_sort
 refine Asks.bind ((asks_count h0 h n).mono fun r hr => ?_)
 try dsimp only
 split
 ·exact asks_bin h0 _ hr _
 ·exact hr
end L2
set_option Elab.async false
set_option linter.all false
set_option maxRecDepth 100000
set_option maxHeartbeats 4000000
namespace L2
open PySem PySem.Spec PyProof.Rows PySem.W
structure Ev where
 κ : SortKind
 it : Array Keyed
noncomputable def EvOk (n : Nat) (lt : Nat -> Nat -> Bool) (e : Ev) (prog : Program) (w : World) (A : Around) (s : Shared) : Prop :=
 ∀ i j, i < n -> j < n -> ∀ C : Bool -> Shared -> Prop, C (lt i j) s -> kas_cmp prog w A e.κ e.it i j C s
noncomputable def Det (n : Nat) (lt : Nat -> Nat -> Bool) {α : Type} (m : Ev -> StateT SortSt Sem α) (x : Ev -> SortSt) (R : (Ev -> α) -> (Ev -> SortSt) -> Prop) : Prop :=
 ∃ (a : Ev -> α) (y : Ev -> SortSt), R a y /\ ∀ (e : Ev) (prog : Program) (w : World) (A : Around) (E : Value -> Shared -> Prop) (s : Shared), EvOk n lt e prog w A s ->
  ∀ Q : α -> SortSt -> Shared -> Prop, Q (a e) (y e) s -> kasC (model prog w) A E (m e) Q (x e) s
section
variable {n : Nat} {lt : Nat -> Nat -> Bool} {α β : Type} {x : Ev -> SortSt}
theorem det_pure {a : Ev -> α} {R : (Ev -> α) -> (Ev -> SortSt) -> Prop} (h : R a x) : Det n lt (fun e => pure (a e)) x R :=
 ⟨a, x, h, fun e prog w A E s _ Q q => kasC_pure q⟩
theorem det_bind {m : Ev -> StateT SortSt Sem α} {f : Ev -> α -> StateT SortSt Sem β} {R : (Ev -> β) -> (Ev -> SortSt) -> Prop} (h : Det n lt m x (fun a y => Det n lt (fun e => f e (a e)) y R)) : Det n lt (fun e => m e >>= f e) x R := by
 obtain ⟨a, y, ⟨b, z, r, h2⟩, h1⟩ := h
 exact ⟨b, z, r, fun e prog w A E s ho Q q => kasC_bind (h1 e prog w A E s ho _ (h2 e prog w A E s ho Q q))⟩
theorem Det.mono {m : Ev -> StateT SortSt Sem α} {R R' : (Ev -> α) -> (Ev -> SortSt) -> Prop} (h : Det n lt m x R) (hr : ∀ a y, R a y -> R' a y) : Det n lt m x R' := by
 obtain ⟨a, y, r, h1⟩ := h
 exact ⟨a, y, hr a y r, h1⟩
theorem det_get {R : (Ev -> SortSt) -> (Ev -> SortSt) -> Prop} (h : R x x) : Det n lt (fun _ => (get : StateT SortSt Sem SortSt)) x R :=
 ⟨x, x, h, fun e prog w A E s _ Q q => kasC_get q⟩
theorem det_modify {f : Ev -> SortSt -> SortSt} {R : (Ev -> PUnit) -> (Ev -> SortSt) -> Prop} (h : R (fun _ => ⟨⟩) (fun e => f e (x e))) : Det n lt (fun e => (modify (f e) : StateT SortSt Sem PUnit)) x R :=
 ⟨_, _, h, fun e prog w A E s _ Q q => kasC_modify q⟩
theorem det_set {f : Ev -> SortSt} {R : (Ev -> PUnit) -> (Ev -> SortSt) -> Prop} (h : R (fun _ => ⟨⟩) f) : Det n lt (fun e => (set (f e) : StateT SortSt Sem PUnit)) x R :=
 ⟨_, _, h, fun e prog w A E s _ Q q => by unfold kasC; rw [StateT.run_set]; exact wpAny_pure q⟩
theorem det_rule {t : String} {R : (Ev -> Unit) -> (Ev -> SortSt) -> Prop} (h : R (fun _ => ()) x) : Det n lt (fun _ => (liftM (rule t) : StateT SortSt Sem Unit)) x R :=
 ⟨_, _, h, fun e prog w A E s _ Q q => kasC_lift (wpAny_rule q)⟩
theorem det_ite {c : Prop} {inst : Ev -> Decidable c} {p q : Ev -> StateT SortSt Sem α} {R : (Ev -> α) -> (Ev -> SortSt) -> Prop} (h1 : c -> Det n lt p x R) (h2 : ¬c -> Det n lt q x R) : Det n lt (fun e => @ite _ c (inst e) (p e) (q e)) x R := by
 by_cases h : c
 ·simp only [if_pos h]; exact h1 h
 ·simp only [if_neg h]; exact h2 h
theorem det_for_list {β : Type} {f : Ev -> Nat -> β -> StateT SortSt Sem (ForInStep β)} (I : List Nat -> (Ev -> β) -> (Ev -> SortSt) -> Prop) (Q : (Ev -> β) -> (Ev -> SortSt) -> Prop)
  (hstep : ∀ i l c y, I (i :: l) c y -> Det n lt (fun e => f e i (c e)) y (fun r z => (∃ c', r = (fun e => .done (c' e)) /\ Q c' z) ∨ (∃ c', r = (fun e => .yield (c' e)) /\ I l c' z)))
  (hend : ∀ c y, I [] c y -> Q c y) : ∀ (l : List Nat) (c : Ev -> β) (x : Ev -> SortSt), I l c x -> Det n lt (fun e => forIn l (c e) (f e)) x Q
 | [], c, x, h => ⟨c, x, hend c x h, fun e prog w A E s _ Q q => kasC_nil q⟩
 | i :: l, c, x, h => by
  obtain ⟨r, z, hr, h1⟩ := hstep i l c x h
  rcases hr with ⟨c', rfl, hq⟩ | ⟨c', rfl, hi⟩
  ·exact ⟨c', z, hq, fun e prog w A E s ho Q q => kasC_cons (h1 e prog w A E s ho _ q)⟩
  ·obtain ⟨b, y, r, h2⟩ := det_for_list I Q hstep hend l c' z hi
   exact ⟨b, y, r, fun e prog w A E s ho Q q => kasC_cons (h1 e prog w A E s ho _ (h2 e prog w A E s ho Q q))⟩
theorem det_for {β : Type} {a b : Nat} {c : Ev -> β} {f : Ev -> Nat -> β -> StateT SortSt Sem (ForInStep β)} (I : Nat -> (Ev -> β) -> (Ev -> SortSt) -> Prop) (Q : (Ev -> β) -> (Ev -> SortSt) -> Prop)
  (hstep : ∀ i c y, a <= i -> i < b -> I i c y -> Det n lt (fun e => f e i (c e)) y (fun r z => (∃ c', r = (fun e => .done (c' e)) /\ Q c' z) ∨ (∃ c', r = (fun e => .yield (c' e)) /\ I (i + 1) c' z)))
  (hend : ∀ c y, I (max a b) c y -> Q c y) (h : I a c x) : Det n lt (fun e => forIn [a:b] (c e) (f e)) x Q := by
 have key : Det n lt (fun e => forIn (List.range' a (b - a)) (c e) (f e)) x Q := by
  refine det_for_list (fun l c y => ∃ i, a <= i /\ i <= max a b /\ l = List.range' i (max a b - i) 1 /\ I i c y) Q ?_ ?_ _ c x ⟨a, Nat.le_refl _, by omega, by congr 1; omega, h⟩
  ·rintro j l c y ⟨i, hai, hib, hl, hI⟩
   have hlt : i < max a b := by
    rcases Nat.lt_or_ge i (max a b) with h' | h'
    ·exact h'
    ·rw [show max a b - i = 0 by omega] at hl; simp at hl
   obtain ⟨k, hk⟩ : ∃ k, max a b - i = k + 1 := ⟨max a b - i - 1, by omega⟩
   rw [hk, List.range'_succ] at hl
   obtain ⟨rfl, rfl⟩ := List.cons.inj hl
   refine (hstep j c y hai (by omega) hI).mono fun r z hr => ?_
   rcases hr with hr | ⟨c', e', h'⟩
   ·exact .inl hr
   ·exact .inr ⟨c', e', j + 1, by omega, by omega, by congr 1; omega, h'⟩
  ·rintro c y ⟨i, hai, hib, hl, hI⟩
   have : i = max a b := by
    rcases Nat.lt_or_ge i (max a b) with h' | h'
    ·obtain ⟨k, hk⟩ : ∃ k, max a b - i = k + 1 := ⟨max a b - i - 1, by omega⟩
     rw [hk, List.range'_succ] at hl; simp at hl
    ·omega
   subst this
   exact hend _ _ hI
 obtain ⟨b', y, r, h1⟩ := key
 exact ⟨b', y, r, fun e prog w A E s ho Q q => kasC_range (h1 e prog w A E s ho Q q)⟩
end
noncomputable def itm (e : Ev) (i : Nat) : Keyed := kas_item e.it i
noncomputable def itms (e : Ev) (p : Array Nat) : Array Keyed := p.map (itm e)
noncomputable def conc (p : Array Nat) (pend : Array (Nat × Nat × Nat)) (g : Nat) : Ev -> SortSt := fun e => SortSt.mk' e.κ (itms e p) pend g none
theorem itms_size {e : Ev} {p : Array Nat} : (itms e p).size = p.size := Array.size_map ..
section
variable {n : Nat} {lt : Nat -> Nat -> Bool} {p : Array Nat} {pend : Array (Nat × Nat × Nat)} {g : Nat}
theorem itms_get {e : Ev} {i : Nat} (hi : i < p.size) : (itms e p)[i]? = some (itm e (p.getD i 0)) := by
 have e1 : p.getD i 0 = p[i] := by simp [Array.getD, hi]
 rw [e1]
 simp [itms, hi]
theorem det_elem {i : Nat} {x : Ev -> SortSt} {R : (Ev -> Keyed) -> (Ev -> SortSt) -> Prop} (hi : i < p.size) (h : R (fun e => itm e (p.getD i 0)) x) : Det n lt (fun e => elem' (itms e p) i) x R := by
 refine ⟨_, _, h, fun e prog w A E s _ Q q => ?_⟩
 show kasC _ _ _ (elem' (itms e p) i) _ _ _
 rw [elem'_eq, itms_get hi]
 exact kasC_pure q
theorem det_lt {i j : Nat} {R : (Ev -> Option Bool) -> (Ev -> SortSt) -> Prop} (hi : i < n) (hj : j < n) (h : R (fun _ => some (lt i j)) (conc p pend g)) : Det n lt (fun e => lt' (itm e i) (itm e j)) (conc p pend g) R := by
 refine ⟨_, _, h, fun e prog w A E s ho Q q => ?_⟩
 show kasC _ _ _ (lt' (itm e i) (itm e j)) _ _ _
 rw [lt'_eq]
 refine kasC_bind (kasC_get ?_)
 refine kasC_bind (kasC_lift (wpAny_attempt (wpAny_mono (ho i j hi hj (fun b s' => b = lt i j /\ s' = s) ⟨rfl, rfl⟩) (fun c s' hc => ?_) fun _ _ hF => hF.elim)))
 obtain ⟨rfl, rfl⟩ := hc
 exact kasC_pure q
theorem det_ltAt {i j : Nat} {R : (Ev -> Option Bool) -> (Ev -> SortSt) -> Prop} (h0 : 0 < n) (hp : Ent n p) (hi : i < p.size) (hj : j < p.size) (h : R (fun _ => some (lt (p.getD i 0) (p.getD j 0))) (conc p pend g)) : Det n lt (fun _ => ltAt' i j) (conc p pend g) R := by
 refine det_bind (det_get ?_)
 refine det_bind (det_elem (p := p) hi ?_)
 refine det_bind (det_elem (p := p) hj ?_)
 exact det_lt (hp.at h0 _) (hp.at h0 _) h
theorem det_rev {i j : Nat} {R : (Ev -> Unit) -> (Ev -> SortSt) -> Prop} (h : R (fun _ => ()) (conc (kas_rev p i j) pend g)) : Det n lt (fun _ => reverseSlice' i j) (conc p pend g) R := by
 simp only [reverseSlice'_eq]
 refine det_modify ?_
 have e : (fun e => setArr (conc p pend g e) (mirror (arrOf (conc p pend g e)) i j ((j - i) / 2))) = conc (kas_rev p i j) pend g := by
  funext e
  show SortSt.mk' e.κ (mirror (itms e p) i j ((j - i) / 2)) pend g none = SortSt.mk' e.κ (itms e (kas_rev p i j)) pend g none
  have e1 : mirror (itms e p) i j ((j - i) / 2) = itms e (kas_rev p i j) := kas_swaps_map (itm e) (fun k => i + k) (fun k => j - 1 - k) _ p
  rw [e1]
 rw [e]
 exact h
theorem det_move {k l : Nat} {R : (Ev -> Unit) -> (Ev -> SortSt) -> Prop} (h : R (fun _ => ()) (conc (bubble p k (k - l)) pend g)) : Det n lt (fun _ => moveDown' k l) (conc p pend g) R := by
 simp only [moveDown'_eq]
 refine det_modify ?_
 have e : (fun e => setArr (conc p pend g e) (bubble (arrOf (conc p pend g e)) k (k - l))) = conc (bubble p k (k - l)) pend g := by
  funext e
  show SortSt.mk' e.κ (bubble (itms e p) k (k - l)) pend g none = SortSt.mk' e.κ (itms e (bubble p k (k - l))) pend g none
  have e1 : bubble (itms e p) k (k - l) = itms e (bubble p k (k - l)) := kas_swaps_map (itm e) (fun i => k - i) (fun i => k - i - 1) _ p
  rw [e1]
 rw [e]
 exact h
end
noncomputable def gallop' : Bool -> Keyed -> Array Keyed -> Nat -> Nat -> Nat -> StateT SortSt Sem (Option Nat) := sortPriv% PySem.Builtin.gallop
noncomputable def mergeLo' : Array Keyed -> Array Keyed -> StateT SortSt Sem (Array Keyed) := sortPriv% PySem.Builtin.mergeLo
noncomputable def mergeHi' : Array Keyed -> Array Keyed -> StateT SortSt Sem (Array Keyed) := sortPriv% PySem.Builtin.mergeHi
section
variable {n : Nat} {lt : Nat -> Nat -> Bool} {p P : Array Nat} {pend : Array (Nat × Nat × Nat)} {g : Nat}
theorem det_gallop {left : Bool} {k base m hint : Nat} {R : (Ev -> Option Nat) -> (Ev -> SortSt) -> Prop} (h0 : 0 < n) (hk : k < n) (hp : Ent n p) (hh : hint < m) (hb : base + m <= p.size) (h : ∀ r, r <= m -> R (fun _ => some r) (conc P pend g)) :
  Det n lt (fun e => gallop' left (itm e k) (itms e p) base m hint) (conc P pend g) R := by
 refine det_bind (Det.mono (R := fun a y => ∃ b : Bool, a = (fun _ => some b) /\ y = conc P pend g) (det_bind (det_elem (p := p) (by omega) (det_ite (fun _ => det_lt (hp.at h0 _) hk ⟨_, rfl, rfl⟩) (fun _ => det_bind (det_lt hk (hp.at h0 _) (det_pure ⟨_, rfl, rfl⟩)))))) ?_)
 rintro _ _ ⟨b, rfl, rfl⟩
 dsimp only
 refine det_ite (fun _ => ?_) (fun _ => ?_)
 ·refine det_bind (Det.mono (det_for (fun i c y => ∃ lo hi : Nat, c = (fun _ => (none, lo, hi)) /\ y = conc P pend g) (fun c y => ∃ lo hi : Nat, c = (fun _ => (none, lo, hi)) /\ y = conc P pend g) ?_ (fun _ _ z => z) ⟨_, _, rfl, rfl⟩) ?_)
  ·rintro i _ _ _ _ ⟨lo, hi, rfl, rfl⟩
   dsimp only
   refine det_ite (fun _ => det_pure (.inl ⟨_, rfl, _, _, rfl, rfl⟩)) (fun hlt => ?_)
   refine det_bind (Det.mono (R := fun a y => ∃ b : Bool, a = (fun _ => some b) /\ y = conc P pend g) (det_bind (det_elem (p := p) (by omega) (det_ite (fun _ => det_lt (hp.at h0 _) hk ⟨_, rfl, rfl⟩) (fun _ => det_bind (det_lt hk (hp.at h0 _) (det_pure ⟨_, rfl, rfl⟩)))))) ?_)
   rintro _ _ ⟨b, rfl, rfl⟩
   dsimp only
   exact det_ite (fun _ => det_pure (.inl ⟨_, rfl, _, _, rfl, rfl⟩)) (fun _ => det_pure (.inr ⟨_, rfl, _, _, rfl, rfl⟩))
  ·rintro _ _ ⟨lo, hi, rfl, rfl⟩
   dsimp only
   refine det_bind (Det.mono (det_for (fun i c y => ∃ lo hi, c = (fun _ => (none, lo, hi)) /\ y = conc P pend g /\ hi <= m) (fun c y => ∃ lo hi, c = (fun _ => (none, lo, hi)) /\ y = conc P pend g /\ hi <= m) ?_ (fun _ _ z => z) ⟨_, _, rfl, rfl, by omega⟩) ?_)
   ·rintro i _ _ _ _ ⟨lo, hi, rfl, rfl, hm⟩
    dsimp only
    refine det_ite (fun _ => det_pure (.inl ⟨_, rfl, _, _, rfl, rfl, hm⟩)) (fun hlt => ?_)
    refine det_bind (Det.mono (R := fun a y => ∃ b : Bool, a = (fun _ => some b) /\ y = conc P pend g) (det_bind (det_elem (p := p) (by omega) (det_ite (fun _ => det_lt (hp.at h0 _) hk ⟨_, rfl, rfl⟩) (fun _ => det_bind (det_lt hk (hp.at h0 _) (det_pure ⟨_, rfl, rfl⟩)))))) ?_)
    rintro _ _ ⟨b, rfl, rfl⟩
    dsimp only
    exact det_ite (fun _ => det_pure (.inr ⟨_, rfl, _, _, rfl, rfl, hm⟩)) (fun _ => det_pure (.inr ⟨_, rfl, _, _, rfl, rfl, by omega⟩))
   ·rintro _ _ ⟨lo, hi, rfl, rfl, hm⟩
    exact det_pure (h _ hm)
 ·refine det_bind (Det.mono (det_for (fun i c y => ∃ lo hi : Nat, c = (fun _ => (none, lo, hi)) /\ y = conc P pend g) (fun c y => ∃ lo hi : Nat, c = (fun _ => (none, lo, hi)) /\ y = conc P pend g) ?_ (fun _ _ z => z) ⟨_, _, rfl, rfl⟩) ?_)
  ·rintro i _ _ _ _ ⟨lo, hi, rfl, rfl⟩
   dsimp only
   refine det_ite (fun _ => det_pure (.inl ⟨_, rfl, _, _, rfl, rfl⟩)) (fun hlt => ?_)
   refine det_bind (Det.mono (R := fun a y => ∃ b : Bool, a = (fun _ => some b) /\ y = conc P pend g) (det_bind (det_elem (p := p) (by omega) (det_ite (fun _ => det_lt (hp.at h0 _) hk ⟨_, rfl, rfl⟩) (fun _ => det_bind (det_lt hk (hp.at h0 _) (det_pure ⟨_, rfl, rfl⟩)))))) ?_)
   rintro _ _ ⟨b, rfl, rfl⟩
   dsimp only
   exact det_ite (fun _ => det_pure (.inl ⟨_, rfl, _, _, rfl, rfl⟩)) (fun _ => det_pure (.inr ⟨_, rfl, _, _, rfl, rfl⟩))
  ·rintro _ _ ⟨lo, hi, rfl, rfl⟩
   dsimp only
   refine det_bind (Det.mono (det_for (fun i c y => ∃ lo hi, c = (fun _ => (none, lo, hi)) /\ y = conc P pend g /\ hi <= m) (fun c y => ∃ lo hi, c = (fun _ => (none, lo, hi)) /\ y = conc P pend g /\ hi <= m) ?_ (fun _ _ z => z) ⟨_, _, rfl, rfl, by omega⟩) ?_)
   ·rintro i _ _ _ _ ⟨lo, hi, rfl, rfl, hm⟩
    dsimp only
    refine det_ite (fun _ => det_pure (.inl ⟨_, rfl, _, _, rfl, rfl, hm⟩)) (fun hlt => ?_)
    refine det_bind (Det.mono (R := fun a y => ∃ b : Bool, a = (fun _ => some b) /\ y = conc P pend g) (det_bind (det_elem (p := p) (by omega) (det_ite (fun _ => det_lt (hp.at h0 _) hk ⟨_, rfl, rfl⟩) (fun _ => det_bind (det_lt hk (hp.at h0 _) (det_pure ⟨_, rfl, rfl⟩)))))) ?_)
    rintro _ _ ⟨b, rfl, rfl⟩
    dsimp only
    exact det_ite (fun _ => det_pure (.inr ⟨_, rfl, _, _, rfl, rfl, hm⟩)) (fun _ => det_pure (.inr ⟨_, rfl, _, _, rfl, rfl, by omega⟩))
   ·rintro _ _ ⟨lo, hi, rfl, rfl, hm⟩
    exact det_pure (h _ hm)
end
end L2
set_option Elab.async false
set_option linter.all false
set_option maxRecDepth 100000
set_option maxHeartbeats 4000000
namespace L2
open PySem PySem.Spec PyProof.Rows PySem.W
noncomputable def setMg' : Nat -> StateT SortSt Sem Unit := sortPriv% PySem.Builtin.setMinGallop
theorem itms_push {e : Ev} {p : Array Nat} {i : Nat} : (itms e p).push (itm e i) = itms e (p.push i) := by simp [itms]
theorem itms_append {e : Ev} {p q : Array Nat} : itms e p ++ itms e q = itms e (p ++ q) := by simp [itms]
theorem itms_extract {e : Ev} {p : Array Nat} {i j : Nat} : (itms e p).extract i j = itms e (p.extract i j) := by simp [itms]
theorem itms_one {e : Ev} {i : Nat} : #[itm e i] = itms e #[i] := by simp [itms]
theorem itms_rev {e : Ev} {p : Array Nat} : (itms e p).reverse = itms e p.reverse := by simp [itms]
theorem Ent.push {n : Nat} {p : Array Nat} (h : Ent n p) {i : Nat} (hi : i < n) : Ent n (p.push i) := by
 intro x hx
 rw [Array.toList_push, List.mem_append] at hx
 rcases hx with hx | hx
 ·exact h x hx
 ·rw [List.mem_singleton] at hx; exact hx ▸ hi
theorem Ent.app {n : Nat} {p q : Array Nat} (h : Ent n p) (h' : Ent n q) : Ent n (p ++ q) := by
 intro x hx
 rw [Array.toList_append, List.mem_append] at hx
 exact hx.elim (h x) (h' x)
theorem Ent.ext {n : Nat} {p : Array Nat} (h : Ent n p) (i j : Nat) : Ent n (p.extract i j) := by
 intro x hx
 rw [Array.toList_extract] at hx
 exact h x (List.mem_of_mem_drop (List.mem_of_mem_take hx))
theorem Ent.one {n i : Nat} (h : i < n) : Ent n #[i] := by
 intro x hx
 have : x = i := by simpa using hx
 exact this ▸ h
theorem Ent.reverse {n : Nat} {p : Array Nat} (h : Ent n p) : Ent n p.reverse := by
 intro x hx
 rw [Array.toList_reverse, List.mem_reverse] at hx
 exact h x hx
section
variable {n : Nat} {lt : Nat -> Nat -> Bool} {α : Type} {x : Ev -> SortSt} {P : Array Nat} {pend : Array (Nat × Nat × Nat)} {g : Nat}
theorem det_beq {a b : Nat} {inst : Ev -> Decidable ((a == b) = true)} {p q : Ev -> StateT SortSt Sem α} {R : (Ev -> α) -> (Ev -> SortSt) -> Prop} (h1 : a = b -> Det n lt p x R) (h2 : a ≠ b -> Det n lt q x R) : Det n lt (fun e => @ite _ ((a == b) = true) (inst e) (p e) (q e)) x R :=
 det_ite (fun h => h1 (by simpa using h)) (fun h => h2 (by simpa using h))
theorem det_smg {k : Nat} {R : (Ev -> Unit) -> (Ev -> SortSt) -> Prop} (h : R (fun _ => ()) (conc P pend k)) : Det n lt (fun _ => setMg' k) (conc P pend g) R := det_modify h
theorem det_getC {γ : Type} {f : Ev -> SortSt -> StateT SortSt Sem γ} {R : (Ev -> γ) -> (Ev -> SortSt) -> Prop} (h : Det n lt (fun e => f e (SortSt.mk' e.κ (itms e P) pend g none)) (conc P pend g) R) : Det n lt (fun e => get >>= f e) (conc P pend g) R := det_bind (det_get h)
theorem det_s1 {c : Prop} {inst : Ev -> Decidable c} {q : Ev -> StateT SortSt Sem α} {R : (Ev -> α) -> (Ev -> SortSt) -> Prop} {X : Nat -> Ev -> StateT SortSt Sem α} (v : Nat) (e : q = X v) (h : ∀ v, Det n lt (X v) x R) : ∀ m1, Det n lt (fun e => @ite _ c (inst e) (X m1 e) (q e)) x R :=
 fun m1 => det_ite (fun _ => h m1) (fun _ => e ▸ h v)
theorem det_s3 {c : Prop} {i0 : Ev -> Decidable c} {q : Ev -> StateT SortSt Sem α} {R : (Ev -> α) -> (Ev -> SortSt) -> Prop} {X d : Array Nat -> Nat -> Ev -> StateT SortSt Sem α} {c1 J : Nat -> Prop} {i1 : ∀ v, Ev -> Decidable (c1 v)}
  (po : Array Nat) (ia : Nat) (e : q = X po ia) (hpo : Ent n po) (C : Nat -> Prop) (c0 : C ia) (h : ∀ po ia, Ent n po -> C ia -> Det n lt (X po ia) x R) (hd : ∀ po ia, Ent n po -> c1 ia -> Det n lt (d po ia) x R) (hx : ∀ ia, J ia -> ¬c1 ia -> C ia) :
  ∀ po1, Ent n po1 -> ∀ ia1, J ia1 -> Det n lt (fun e => @ite _ c (i0 e) (@ite _ (c1 ia1) (i1 ia1 e) (d po1 ia1 e) (X po1 ia1 e)) (q e)) x R :=
 fun po1 h1 ia1 hj => det_ite (fun _ => det_ite (fun z => hd _ _ h1 z) (fun z => h _ _ h1 (hx _ hj z))) (fun _ => e ▸ h _ _ hpo c0)
theorem det_s2 {c : Prop} {i0 : Ev -> Decidable c} {q : Ev -> StateT SortSt Sem α} {R : (Ev -> α) -> (Ev -> SortSt) -> Prop} {X d d2 : Array Nat -> Nat -> Ev -> StateT SortSt Sem α} {c1 c2 J : Nat -> Prop} {i1 : ∀ v, Ev -> Decidable (c1 v)} {i2 : ∀ v, Ev -> Decidable (c2 v)}
  (po : Array Nat) (ia : Nat) (e : q = X po ia) (hpo : Ent n po) (C : Nat -> Prop) (c0 : C ia) (h : ∀ po ia, Ent n po -> C ia -> Det n lt (X po ia) x R) (hd : ∀ po ia, Ent n po -> c1 ia -> Det n lt (d po ia) x R) (hd2 : ∀ po ia, Ent n po -> c2 ia -> Det n lt (d2 po ia) x R) (hx : ∀ ia, J ia -> ¬c1 ia -> ¬c2 ia -> C ia) :
  ∀ po1, Ent n po1 -> ∀ ia1, J ia1 -> Det n lt (fun e => @ite _ c (i0 e) (@ite _ (c1 ia1) (i1 ia1 e) (d po1 ia1 e) (@ite _ (c2 ia1) (i2 ia1 e) (d2 po1 ia1 e) (X po1 ia1 e))) (q e)) x R :=
 fun po1 h1 ia1 hj => det_ite (fun _ => det_ite (fun z => hd _ _ h1 z) (fun z => det_ite (fun z2 => hd2 _ _ h1 z2) (fun z2 => h _ _ h1 (hx _ hj z z2)))) (fun _ => e ▸ h _ _ hpo c0)
variable {pa pb : Array Nat}
theorem det_lo {R : (Ev -> Array Keyed) -> (Ev -> SortSt) -> Prop} (h0 : 0 < n) (ha : Ent n pa) (hb : Ent n pb) (ha0 : 0 < pa.size) (hb0 : 0 < pb.size) (h : ∀ po g', Ent n po -> R (fun e => itms e po) (conc P pend g')) :
  Det n lt (fun e => mergeLo' (itms e pa) (itms e pb)) (conc P pend g) R := by
 refine det_bind (det_rule ?_)
 refine det_bind (det_elem (p := pb) hb0 ?_)
 dsimp only
 try simp only [itms_size, itms_push, itms_append, itms_extract, itms_one]
 refine det_beq (fun _ => det_pure (h _ _ ?_)) (fun hb1 => det_beq (fun _ => det_pure (h _ _ ?_)) (fun ha1 => det_getC ?_))
 ·exact ((Ent.one (hb.at h0 _)).app (ha.ext _ _)).app (hb.ext _ _)
 ·exact ((Ent.one (hb.at h0 _)).app (hb.ext _ _)).app (ha.ext _ _)
 dsimp only
 refine det_bind (Det.mono (det_for
  (fun i c y => ∃ po ia ib mg g', c = (fun e => (none, itms e po, ia, ib, mg)) /\ y = conc P pend g' /\ Ent n po /\ ia + 1 < pa.size /\ ib < pb.size /\ i + 1 <= ia + ib)
  (fun c y => ∃ po, ∃ r : Ev -> Array Keyed × Nat × Nat × Nat, ∃ g', c = (fun e => (some (itms e po), r e)) /\ y = conc P pend g' /\ Ent n po) ?_ ?_ ⟨_, _, _, _, _, rfl, rfl, Ent.one (hb.at h0 _), by omega, by omega, by omega⟩) ?_)
 ·rintro t _ _ _ htt ⟨po, ia, ib, mg, g', rfl, rfl, hpo, hia, hib, hpr⟩
  dsimp only
  refine det_bind (Det.mono (det_for
   (fun i c y => ∃ po ia ib ac bc g', c = (fun e => (none, itms e po, ia, ib, ac, bc)) /\ y = conc P pend g' /\ Ent n po /\ ia + 1 < pa.size /\ ib < pb.size /\ i + t + 1 <= ia + ib)
   (fun c y => (∃ po, ∃ r : Ev -> Array Keyed × Nat × Nat × Nat × Nat, ∃ g', c = (fun e => (some (itms e po), r e)) /\ y = conc P pend g' /\ Ent n po) ∨ ∃ po ia ib ac bc g', c = (fun e => (none, itms e po, ia, ib, ac, bc)) /\ y = conc P pend g' /\ Ent n po /\ ia + 1 < pa.size /\ ib < pb.size /\ t + 2 <= ia + ib) ?_ ?_ ⟨_, _, _, _, _, _, rfl, rfl, hpo, hia, hib, by omega⟩) ?_)
  ·rintro i _ _ _ _ ⟨po, ia, ib, ac, bc, g', rfl, rfl, hpo, hia, hib, hpr⟩
   dsimp only
   refine det_bind (det_elem hib (det_bind (det_elem (by omega) (det_bind (det_lt (hb.at h0 _) (ha.at h0 _) ?_)))))
   dsimp only
   refine det_ite (fun _ => det_bind (det_elem hib ?_)) (fun _ => det_bind (det_elem (by omega) ?_))
   ·dsimp only
    try simp only [itms_size, itms_push, itms_append, itms_extract, itms_one]
    exact det_beq (fun _ => det_pure (.inl ⟨_, rfl, .inl ⟨_, _, _, rfl, rfl, (by repeat' (first | assumption | exact hb.at h0 _ | exact ha.at h0 _ | exact hb.ext _ _ | exact ha.ext _ _ | refine Ent.app ?_ ?_ | refine Ent.push ?_ ?_))⟩⟩)) (fun _ => det_ite (fun _ => det_pure (.inl ⟨_, rfl, .inr ⟨_, _, _, _, _, _, rfl, rfl, (by repeat' (first | assumption | exact hb.at h0 _ | exact ha.at h0 _ | exact hb.ext _ _ | exact ha.ext _ _ | refine Ent.app ?_ ?_ | refine Ent.push ?_ ?_)), by omega, by omega, by omega⟩⟩)) (fun _ => det_pure (.inr ⟨_, rfl, ⟨_, _, _, _, _, _, rfl, rfl, (by repeat' (first | assumption | exact hb.at h0 _ | exact ha.at h0 _ | exact hb.ext _ _ | exact ha.ext _ _ | refine Ent.app ?_ ?_ | refine Ent.push ?_ ?_)), by omega, by omega, by omega⟩⟩)))
   ·dsimp only
    try simp only [itms_size, itms_push, itms_append, itms_extract, itms_one]
    exact det_beq (fun _ => det_pure (.inl ⟨_, rfl, .inl ⟨_, _, _, rfl, rfl, (by repeat' (first | assumption | exact hb.at h0 _ | exact ha.at h0 _ | exact hb.ext _ _ | exact ha.ext _ _ | refine Ent.app ?_ ?_ | refine Ent.push ?_ ?_))⟩⟩)) (fun _ => det_ite (fun _ => det_pure (.inl ⟨_, rfl, .inr ⟨_, _, _, _, _, _, rfl, rfl, (by repeat' (first | assumption | exact hb.at h0 _ | exact ha.at h0 _ | exact hb.ext _ _ | exact ha.ext _ _ | refine Ent.app ?_ ?_ | refine Ent.push ?_ ?_)), by omega, by omega, by omega⟩⟩)) (fun _ => det_pure (.inr ⟨_, rfl, ⟨_, _, _, _, _, _, rfl, rfl, (by repeat' (first | assumption | exact hb.at h0 _ | exact ha.at h0 _ | exact hb.ext _ _ | exact ha.ext _ _ | refine Ent.app ?_ ?_ | refine Ent.push ?_ ?_)), by omega, by omega, by omega⟩⟩)))
  ·rintro _ _ ⟨po, ia, ib, ac, bc, g', rfl, rfl, hpo, hia, hib, hpr⟩
   exact .inr ⟨po, ia, ib, ac, bc, g', rfl, rfl, hpo, hia, hib, by omega⟩
  ·rintro _ _ (⟨po, r, g', rfl, rfl, hpo⟩ | ⟨po, ia, ib, ac, bc, g', rfl, rfl, hpo, hia, hib, hpr⟩)
   ·exact det_pure (.inl ⟨_, rfl, _, _, _, rfl, rfl, hpo⟩)
   refine det_bind (det_rule ?_)
   dsimp only
   refine det_bind (Det.mono (det_for
    (fun i c y => ∃ po ia ib mg ac bc g', c = (fun e => (none, itms e po, ia, ib, mg, ac, bc)) /\ y = conc P pend g' /\ Ent n po /\ ia + 1 < pa.size /\ ib < pb.size /\ t + 2 <= ia + ib)
    (fun c y => (∃ po, ∃ r : Ev -> Array Keyed × Nat × Nat × Nat × Nat × Nat, ∃ g', c = (fun e => (some (itms e po), r e)) /\ y = conc P pend g' /\ Ent n po) ∨ ∃ po ia ib mg ac bc g', c = (fun e => (none, itms e po, ia, ib, mg, ac, bc)) /\ y = conc P pend g' /\ Ent n po /\ ia + 1 < pa.size /\ ib < pb.size /\ t + 2 <= ia + ib) ?_ (fun _ _ z => .inr z) ⟨_, _, _, _, _, _, _, rfl, rfl, hpo, hia, hib, hpr⟩) ?_)
   ·rintro i _ _ _ _ ⟨po, ia, ib, mg, ac, bc, g', rfl, rfl, hpo, hia, hib, hpr⟩
    dsimp only
    dsimp +instances only
    generalize mg - 1 = m1
    revert m1
    refine det_s1 mg rfl fun mg => ?_
    refine det_bind (det_smg (det_bind (det_elem hib (det_bind (det_gallop h0 (hb.at h0 _) ha (by omega) (by omega) fun k hk => ?_)))))
    dsimp +instances only
    try simp only [itms_size, itms_push, itms_append, itms_extract, itms_one]
    have hE : Ent n (po ++ pa.extract ia (ia + k)) := (by repeat' (first | assumption | exact hb.at h0 _ | exact ha.at h0 _ | exact hb.ext _ _ | exact ha.ext _ _ | refine Ent.app ?_ ?_ | refine Ent.push ?_ ?_))
    have hJ : ia <= ia + k /\ ia + k <= pa.size := ⟨by omega, by omega⟩
    generalize po ++ pa.extract ia (ia + k) = po1 at hE ⊢
    generalize ia + k = ia1 at hJ ⊢
    revert ia1
    revert po1
    refine det_s2 po ia rfl hpo (fun ia => ia + 1 < pa.size /\ t + 2 <= ia + ib) ⟨hia, hpr⟩ ?_ (fun po ia hpo _ => det_pure (.inl ⟨_, rfl, .inl ⟨_, _, _, rfl, rfl, (by repeat' (first | assumption | exact hb.at h0 _ | exact ha.at h0 _ | exact hb.ext _ _ | exact ha.ext _ _ | refine Ent.app ?_ ?_ | refine Ent.push ?_ ?_))⟩⟩)) (fun po ia hpo _ => det_pure (.inl ⟨_, rfl, .inl ⟨_, _, _, rfl, rfl, (by repeat' (first | assumption | exact hb.at h0 _ | exact ha.at h0 _ | exact hb.ext _ _ | exact ha.ext _ _ | refine Ent.app ?_ ?_ | refine Ent.push ?_ ?_))⟩⟩)) (fun ia hj z1 z2 => by simp only [beq_iff_eq] at z1 z2; omega)
    rintro po ia hpo ⟨hia, hpr⟩
    refine det_bind (det_elem hib ?_)
    dsimp +instances only
    try simp only [itms_size, itms_push, itms_append, itms_extract, itms_one]
    refine det_beq (fun _ => det_pure (.inl ⟨_, rfl, .inl ⟨_, _, _, rfl, rfl, (by repeat' (first | assumption | exact hb.at h0 _ | exact ha.at h0 _ | exact hb.ext _ _ | exact ha.ext _ _ | refine Ent.app ?_ ?_ | refine Ent.push ?_ ?_))⟩⟩)) fun hnb => det_bind (det_elem (by omega) (det_bind (det_gallop h0 (ha.at h0 _) hb (by omega) (by omega) fun k' hk' => ?_)))
    dsimp +instances only
    try simp only [itms_size, itms_push, itms_append, itms_extract, itms_one]
    have hp2 : Ent n (po.push (pb.getD ib 0)) := hpo.push (hb.at h0 _)
    generalize po.push (pb.getD ib 0) = po at hp2 ⊢
    have hb2 : ib + 1 < pb.size /\ t + 3 <= ia + (ib + 1) := ⟨by omega, by omega⟩
    generalize ib + 1 = ib at hb2 hk' ⊢
    have hE : Ent n (po ++ pb.extract ib (ib + k')) := (by repeat' (first | assumption | exact hb.at h0 _ | exact ha.at h0 _ | exact hb.ext _ _ | exact ha.ext _ _ | refine Ent.app ?_ ?_ | refine Ent.push ?_ ?_))
    have hJ : ib <= ib + k' /\ ib + k' <= pb.size := ⟨by omega, by omega⟩
    generalize po ++ pb.extract ib (ib + k') = po1 at hE ⊢
    generalize ib + k' = ib1 at hJ ⊢
    revert ib1
    revert po1
    refine det_s3 po ib rfl hp2 (fun ib => ib < pb.size /\ t + 2 <= ia + ib) ⟨hb2.1, by omega⟩ ?_ (fun po ib hpo _ => det_pure (.inl ⟨_, rfl, .inl ⟨_, _, _, rfl, rfl, (by repeat' (first | assumption | exact hb.at h0 _ | exact ha.at h0 _ | exact hb.ext _ _ | exact ha.ext _ _ | refine Ent.app ?_ ?_ | refine Ent.push ?_ ?_))⟩⟩)) (fun ib hj z1 => by simp only [beq_iff_eq] at z1; omega)
    rintro po ib hpo ⟨hib, hpr⟩
    refine det_bind (det_elem (by omega) ?_)
    dsimp +instances only
    try simp only [itms_size, itms_push, itms_append, itms_extract, itms_one]
    exact det_beq (fun _ => det_pure (.inl ⟨_, rfl, .inl ⟨_, _, _, rfl, rfl, (by repeat' (first | assumption | exact hb.at h0 _ | exact ha.at h0 _ | exact hb.ext _ _ | exact ha.ext _ _ | refine Ent.app ?_ ?_ | refine Ent.push ?_ ?_))⟩⟩)) fun _ => det_ite (fun _ => det_pure (.inl ⟨_, rfl, .inr ⟨_, _, _, _, _, _, _, rfl, rfl, (by repeat' (first | assumption | exact hb.at h0 _ | exact ha.at h0 _ | exact hb.ext _ _ | exact ha.ext _ _ | refine Ent.app ?_ ?_ | refine Ent.push ?_ ?_)), by omega, by omega, by omega⟩⟩)) (fun _ => det_pure (.inr ⟨_, rfl, ⟨_, _, _, _, _, _, _, rfl, rfl, (by repeat' (first | assumption | exact hb.at h0 _ | exact ha.at h0 _ | exact hb.ext _ _ | exact ha.ext _ _ | refine Ent.app ?_ ?_ | refine Ent.push ?_ ?_)), by omega, by omega, by omega⟩⟩))
   ·rintro _ _ (⟨po, r, g', rfl, rfl, hpo⟩ | ⟨po, ia, ib, mg, ac, bc, g', rfl, rfl, hpo, hia, hib, hpr⟩)
    ·exact det_pure (.inl ⟨_, rfl, _, _, _, rfl, rfl, hpo⟩)
    dsimp only
    exact det_bind (det_smg (det_pure (.inr ⟨_, rfl, _, _, _, _, _, rfl, rfl, hpo, hia, hib, by omega⟩)))
 ·rintro _ _ ⟨po, ia, ib, mg, g', rfl, rfl, hpo, hia, hib, hpr⟩
  exfalso
  omega
 ·rintro _ _ ⟨po, r, g', rfl, rfl, hpo⟩
  exact det_pure (h _ _ hpo)
end
end L2
set_option Elab.async false
set_option linter.all false
set_option maxRecDepth 100000
set_option maxHeartbeats 4000000
namespace L2
open PySem PySem.Spec PyProof.Rows PySem.W
section
variable {n : Nat} {lt : Nat -> Nat -> Bool} {P : Array Nat} {pend : Array (Nat × Nat × Nat)} {g : Nat} {pa pb : Array Nat}
theorem det_hi {R : (Ev -> Array Keyed) -> (Ev -> SortSt) -> Prop} (h0 : 0 < n) (ha : Ent n pa) (hb : Ent n pb) (ha0 : 0 < pa.size) (hb0 : 0 < pb.size) (h : ∀ po g', Ent n po -> R (fun e => itms e po) (conc P pend g')) :
  Det n lt (fun e => mergeHi' (itms e pa) (itms e pb)) (conc P pend g) R := by
 refine det_bind (det_rule ?_)
 dsimp only
 simp only [itms_size]
 refine det_bind (det_elem (p := pa) (by omega) ?_)
 dsimp only
 try simp only [itms_size, itms_push, itms_append, itms_extract, itms_one, itms_rev]
 refine det_beq (fun _ => det_pure (h _ _ ?_)) (fun ha1 => det_beq (fun _ => det_pure (h _ _ ?_)) (fun hb1 => det_getC ?_))
 ·exact ((ha.ext _ _).app (hb.ext _ _)).app (Ent.one (ha.at h0 _)).reverse
 ·exact ((hb.ext _ _).app (ha.ext _ _)).app (Ent.one (ha.at h0 _)).reverse
 dsimp only
 refine det_bind (Det.mono (det_for
  (fun i c y => ∃ na nb po mg g', c = (fun e => (none, na, nb, itms e po, mg)) /\ y = conc P pend g' /\ Ent n po /\ 0 < na /\ na <= pa.size /\ 1 < nb /\ nb <= pb.size /\ na + nb + i + 1 <= pa.size + pb.size)
  (fun c y => ∃ po, ∃ r : Ev -> Nat × Nat × Array Keyed × Nat, ∃ g', c = (fun e => (some (itms e po), r e)) /\ y = conc P pend g' /\ Ent n po) ?_ ?_ ⟨_, _, _, _, _, rfl, rfl, Ent.one (ha.at h0 _), by omega, by omega, by omega, by omega, by omega⟩) ?_)
 ·rintro t _ _ _ htt ⟨na, nb, po, mg, g', rfl, rfl, hpo, hna, hnA, hnb, hnB, hpr⟩
  dsimp only
  refine det_bind (Det.mono (det_for
   (fun i c y => ∃ na nb po ac bc g', c = (fun e => (none, na, nb, itms e po, ac, bc)) /\ y = conc P pend g' /\ Ent n po /\ 0 < na /\ na <= pa.size /\ 1 < nb /\ nb <= pb.size /\ na + nb + t + i + 1 <= pa.size + pb.size)
   (fun c y => (∃ po, ∃ r : Ev -> Nat × Nat × Array Keyed × Nat × Nat, ∃ g', c = (fun e => (some (itms e po), r e)) /\ y = conc P pend g' /\ Ent n po) ∨ ∃ na nb po ac bc g', c = (fun e => (none, na, nb, itms e po, ac, bc)) /\ y = conc P pend g' /\ Ent n po /\ 0 < na /\ na <= pa.size /\ 1 < nb /\ nb <= pb.size /\ na + nb + t + 2 <= pa.size + pb.size) ?_ ?_ ⟨_, _, _, _, _, _, rfl, rfl, hpo, hna, hnA, hnb, hnB, by omega⟩) ?_)
  ·rintro i _ _ _ _ ⟨na, nb, po, ac, bc, g', rfl, rfl, hpo, hna, hnA, hnb, hnB, hpr⟩
   dsimp only
   refine det_bind (det_elem (by omega) (det_bind (det_elem (by omega) (det_bind (det_lt (hb.at h0 _) (ha.at h0 _) ?_)))))
   dsimp only
   refine det_ite (fun _ => det_bind (det_elem (by omega) ?_)) (fun _ => det_bind (det_elem (by omega) ?_))
   ·dsimp only
    try simp only [itms_size, itms_push, itms_append, itms_extract, itms_one, itms_rev]
    exact det_beq (fun _ => det_pure (.inl ⟨_, rfl, .inl ⟨_, _, _, rfl, rfl, (by repeat' (first | assumption | exact hb.at h0 _ | exact ha.at h0 _ | exact hb.ext _ _ | exact ha.ext _ _ | refine Ent.app ?_ ?_ | refine Ent.push ?_ ?_ | refine Ent.reverse ?_))⟩⟩)) (fun _ => det_ite (fun _ => det_pure (.inl ⟨_, rfl, .inr ⟨_, _, _, _, _, _, rfl, rfl, (by repeat' (first | assumption | exact hb.at h0 _ | exact ha.at h0 _ | exact hb.ext _ _ | exact ha.ext _ _ | refine Ent.app ?_ ?_ | refine Ent.push ?_ ?_ | refine Ent.reverse ?_)), by omega, by omega, by omega, by omega, by omega⟩⟩)) (fun _ => det_pure (.inr ⟨_, rfl, ⟨_, _, _, _, _, _, rfl, rfl, (by repeat' (first | assumption | exact hb.at h0 _ | exact ha.at h0 _ | exact hb.ext _ _ | exact ha.ext _ _ | refine Ent.app ?_ ?_ | refine Ent.push ?_ ?_ | refine Ent.reverse ?_)), by omega, by omega, by omega, by omega, by omega⟩⟩)))
   ·dsimp only
    try simp only [itms_size, itms_push, itms_append, itms_extract, itms_one, itms_rev]
    exact det_beq (fun _ => det_pure (.inl ⟨_, rfl, .inl ⟨_, _, _, rfl, rfl, (by repeat' (first | assumption | exact hb.at h0 _ | exact ha.at h0 _ | exact hb.ext _ _ | exact ha.ext _ _ | refine Ent.app ?_ ?_ | refine Ent.push ?_ ?_ | refine Ent.reverse ?_))⟩⟩)) (fun _ => det_ite (fun _ => det_pure (.inl ⟨_, rfl, .inr ⟨_, _, _, _, _, _, rfl, rfl, (by repeat' (first | assumption | exact hb.at h0 _ | exact ha.at h0 _ | exact hb.ext _ _ | exact ha.ext _ _ | refine Ent.app ?_ ?_ | refine Ent.push ?_ ?_ | refine Ent.reverse ?_)), by omega, by omega, by omega, by omega, by omega⟩⟩)) (fun _ => det_pure (.inr ⟨_, rfl, ⟨_, _, _, _, _, _, rfl, rfl, (by repeat' (first | assumption | exact hb.at h0 _ | exact ha.at h0 _ | exact hb.ext _ _ | exact ha.ext _ _ | refine Ent.app ?_ ?_ | refine Ent.push ?_ ?_ | refine Ent.reverse ?_)), by omega, by omega, by omega, by omega, by omega⟩⟩)))
  ·rintro _ _ ⟨na, nb, po, ac, bc, g', rfl, rfl, hpo, hna, hnA, hnb, hnB, hpr⟩
   exact .inr ⟨na, nb, po, ac, bc, g', rfl, rfl, hpo, hna, hnA, hnb, hnB, by omega⟩
  ·rintro _ _ (⟨po, r, g', rfl, rfl, hpo⟩ | ⟨na, nb, po, ac, bc, g', rfl, rfl, hpo, hna, hnA, hnb, hnB, hpr⟩)
   ·exact det_pure (.inl ⟨_, rfl, _, _, _, rfl, rfl, hpo⟩)
   refine det_bind (det_rule ?_)
   dsimp only
   refine det_bind (Det.mono (det_for
    (fun i c y => ∃ na nb po mg ac bc g', c = (fun e => (none, na, nb, itms e po, mg, ac, bc)) /\ y = conc P pend g' /\ Ent n po /\ 0 < na /\ na <= pa.size /\ 1 < nb /\ nb <= pb.size /\ na + nb + t + 2 <= pa.size + pb.size)
    (fun c y => (∃ po, ∃ r : Ev -> Nat × Nat × Array Keyed × Nat × Nat × Nat, ∃ g', c = (fun e => (some (itms e po), r e)) /\ y = conc P pend g' /\ Ent n po) ∨ ∃ na nb po mg ac bc g', c = (fun e => (none, na, nb, itms e po, mg, ac, bc)) /\ y = conc P pend g' /\ Ent n po /\ 0 < na /\ na <= pa.size /\ 1 < nb /\ nb <= pb.size /\ na + nb + t + 2 <= pa.size + pb.size) ?_ (fun _ _ z => .inr z) ⟨_, _, _, _, _, _, _, rfl, rfl, hpo, hna, hnA, hnb, hnB, hpr⟩) ?_)
   ·rintro i _ _ _ _ ⟨na, nb, po, mg, ac, bc, g', rfl, rfl, hpo, hna, hnA, hnb, hnB, hpr⟩
    dsimp only
    dsimp +instances only
    generalize mg - 1 = m1
    revert m1
    refine det_s1 mg rfl fun mg => ?_
    refine det_bind (det_smg (det_bind (det_elem (by omega) (det_bind (det_gallop h0 (hb.at h0 _) ha (by omega) (by omega) fun at1 hk => ?_)))))
    dsimp +instances only
    try simp only [itms_size, itms_push, itms_append, itms_extract, itms_one, itms_rev]
    generalize hkk : na - at1 = k
    have hE : Ent n (po ++ (pa.extract at1 na).reverse) := (by repeat' (first | assumption | exact hb.at h0 _ | exact ha.at h0 _ | exact hb.ext _ _ | exact ha.ext _ _ | refine Ent.app ?_ ?_ | refine Ent.push ?_ ?_ | refine Ent.reverse ?_))
    have hJ : at1 <= na /\ na - at1 = k := ⟨hk, hkk⟩
    clear hk hkk
    generalize po ++ (pa.extract at1 na).reverse = po1 at hE ⊢
    revert at1
    revert po1
    refine det_s3 po na rfl hpo (fun na => 0 < na /\ na <= pa.size /\ na + nb + t + 2 <= pa.size + pb.size) ⟨hna, hnA, hpr⟩ ?_ (fun po na hpo _ => det_pure (.inl ⟨_, rfl, .inl ⟨_, _, _, rfl, rfl, (by repeat' (first | assumption | exact hb.at h0 _ | exact ha.at h0 _ | exact hb.ext _ _ | exact ha.ext _ _ | refine Ent.app ?_ ?_ | refine Ent.push ?_ ?_ | refine Ent.reverse ?_))⟩⟩)) (fun na hj z1 => by simp only [beq_iff_eq] at z1; omega)
    rintro po na hpo ⟨hna, hnA, hpr⟩
    refine det_bind (det_elem (by omega) ?_)
    dsimp +instances only
    try simp only [itms_size, itms_push, itms_append, itms_extract, itms_one, itms_rev]
    refine det_beq (fun _ => det_pure (.inl ⟨_, rfl, .inl ⟨_, _, _, rfl, rfl, (by repeat' (first | assumption | exact hb.at h0 _ | exact ha.at h0 _ | exact hb.ext _ _ | exact ha.ext _ _ | refine Ent.app ?_ ?_ | refine Ent.push ?_ ?_ | refine Ent.reverse ?_))⟩⟩)) fun hnb1 => det_bind (det_elem (by omega) (det_bind (det_gallop h0 (ha.at h0 _) hb (by omega) (by omega) fun at2 hk' => ?_)))
    dsimp +instances only
    try simp only [itms_size, itms_push, itms_append, itms_extract, itms_one, itms_rev]
    have hp2 : Ent n (po.push (pb.getD (nb - 1) 0)) := hpo.push (hb.at h0 _)
    generalize po.push (pb.getD (nb - 1) 0) = po at hp2 ⊢
    have hb2 : 1 < nb - 1 /\ nb - 1 <= pb.size /\ na + (nb - 1) + t + 2 <= pa.size + pb.size := ⟨by omega, by omega, by omega⟩
    generalize nb - 1 = nb at hb2 hk' ⊢
    generalize hkk : nb - at2 = k2
    have hE : Ent n (po ++ (pb.extract at2 nb).reverse) := (by repeat' (first | assumption | exact hb.at h0 _ | exact ha.at h0 _ | exact hb.ext _ _ | exact ha.ext _ _ | refine Ent.app ?_ ?_ | refine Ent.push ?_ ?_ | refine Ent.reverse ?_))
    have hJ : at2 <= nb /\ nb - at2 = k2 := ⟨hk', hkk⟩
    clear hk' hkk
    generalize po ++ (pb.extract at2 nb).reverse = po1 at hE ⊢
    revert at2
    revert po1
    refine det_s2 po nb rfl hp2 (fun nb => 1 < nb /\ nb <= pb.size /\ na + nb + t + 2 <= pa.size + pb.size) ⟨hb2.1, hb2.2.1, hb2.2.2⟩ ?_ (fun po nb hpo _ => det_pure (.inl ⟨_, rfl, .inl ⟨_, _, _, rfl, rfl, (by repeat' (first | assumption | exact hb.at h0 _ | exact ha.at h0 _ | exact hb.ext _ _ | exact ha.ext _ _ | refine Ent.app ?_ ?_ | refine Ent.push ?_ ?_ | refine Ent.reverse ?_))⟩⟩)) (fun po nb hpo _ => det_pure (.inl ⟨_, rfl, .inl ⟨_, _, _, rfl, rfl, (by repeat' (first | assumption | exact hb.at h0 _ | exact ha.at h0 _ | exact hb.ext _ _ | exact ha.ext _ _ | refine Ent.app ?_ ?_ | refine Ent.push ?_ ?_ | refine Ent.reverse ?_))⟩⟩)) (fun nb hj z1 z2 => by simp only [beq_iff_eq] at z1 z2; omega)
    rintro po nb hpo ⟨hnb, hnB, hpr⟩
    refine det_bind (det_elem (by omega) ?_)
    dsimp +instances only
    try simp only [itms_size, itms_push, itms_append, itms_extract, itms_one, itms_rev]
    exact det_beq (fun _ => det_pure (.inl ⟨_, rfl, .inl ⟨_, _, _, rfl, rfl, (by repeat' (first | assumption | exact hb.at h0 _ | exact ha.at h0 _ | exact hb.ext _ _ | exact ha.ext _ _ | refine Ent.app ?_ ?_ | refine Ent.push ?_ ?_ | refine Ent.reverse ?_))⟩⟩)) fun _ => det_ite (fun _ => det_pure (.inl ⟨_, rfl, .inr ⟨_, _, _, _, _, _, _, rfl, rfl, (by repeat' (first | assumption | exact hb.at h0 _ | exact ha.at h0 _ | exact hb.ext _ _ | exact ha.ext _ _ | refine Ent.app ?_ ?_ | refine Ent.push ?_ ?_ | refine Ent.reverse ?_)), by omega, by omega, by omega, by omega, by omega⟩⟩)) (fun _ => det_pure (.inr ⟨_, rfl, ⟨_, _, _, _, _, _, _, rfl, rfl, (by repeat' (first | assumption | exact hb.at h0 _ | exact ha.at h0 _ | exact hb.ext _ _ | exact ha.ext _ _ | refine Ent.app ?_ ?_ | refine Ent.push ?_ ?_ | refine Ent.reverse ?_)), by omega, by omega, by omega, by omega, by omega⟩⟩))
   ·rintro _ _ (⟨po, r, g', rfl, rfl, hpo⟩ | ⟨na, nb, po, mg, ac, bc, g', rfl, rfl, hpo, hna, hnA, hnb, hnB, hpr⟩)
    ·exact det_pure (.inl ⟨_, rfl, _, _, _, rfl, rfl, hpo⟩)
    dsimp only
    exact det_bind (det_smg (det_pure (.inr ⟨_, rfl, _, _, _, _, _, rfl, rfl, hpo, hna, hnA, hnb, hnB, by omega⟩)))
 ·rintro _ _ ⟨na, nb, po, mg, g', rfl, rfl, hpo, hna, hnA, hnb, hnB, hpr⟩
  exfalso
  omega
 ·rintro _ _ ⟨po, r, g', rfl, rfl, hpo⟩
  exact det_pure (h _ _ hpo)
end
end L2
set_option Elab.async false
set_option linter.all false
set_option maxRecDepth 100000
set_option maxHeartbeats 4000000
namespace L2
open PySem PySem.Spec PyProof.Rows PySem.W
theorem kas_rev_sz (p : Array Nat) (i j : Nat) : (kas_rev p i j).size = p.size := mirror_size _ _ _ _
noncomputable def putN (po : List Nat) (k : Nat) (s : Nat) (p : Array Nat) : Array Nat := (po.zipIdx k).foldl (fun a x => a.setIfInBounds (s + x.2) x.1) p
theorem putN_map {α : Type} (f : Nat -> α) (s : Nat) : ∀ (po : List Nat) (k : Nat) (p : Array Nat), ((po.map f).zipIdx k).foldl (fun a (x : α × Nat) => a.setIfInBounds (s + x.2) x.1) (p.map f) = (putN po k s p).map f
 | [], k, p => rfl
 | a :: po, k, p => by
  show ((po.map f).zipIdx (k + 1)).foldl _ ((p.map f).setIfInBounds (s + k) (f a)) = (putN po (k + 1) s (p.setIfInBounds (s + k) a)).map f
  rw [<- putN_map f s po (k + 1), Array.map_setIfInBounds]
theorem putN_size (s : Nat) : ∀ (po : List Nat) (k : Nat) (p : Array Nat), (putN po k s p).size = p.size
 | [], k, p => rfl
 | a :: po, k, p => by
  show (putN po (k + 1) s (p.setIfInBounds (s + k) a)).size = p.size
  rw [putN_size s po, Array.size_setIfInBounds]
theorem putN_ent {n : Nat} (s : Nat) : ∀ (po : List Nat) (k : Nat) (p : Array Nat), (∀ x ∈ po, x < n) -> Ent n p -> Ent n (putN po k s p)
 | [], k, p, _, h => h
 | a :: po, k, p, hp, h => by
  refine putN_ent s po (k + 1) _ (fun x hx => hp x (List.mem_cons_of_mem _ hx)) ?_
  intro x hx
  rw [Array.toList_setIfInBounds] at hx
  rcases List.mem_or_eq_of_mem_set hx with h' | h'
  ·exact h x h'
  ·exact h' ▸ hp a (by simp)
noncomputable def Ch : Nat -> List (Nat × Nat × Nat) -> Nat -> Prop
 | s, [], e => s = e
 | s, (a, k, _) :: l, e => a = s /\ 0 < k /\ Ch (s + k) l e
theorem Ch.le : ∀ {s : Nat} {l : List (Nat × Nat × Nat)} {e : Nat}, Ch s l e -> s <= e
 | s, [], e, h => Nat.le_of_eq h
 | s, (a, k, _) :: l, e, h => Nat.le_trans (Nat.le_add_right s k) h.2.2.le
theorem Ch.two : ∀ {s : Nat} {l : List (Nat × Nat × Nat)} {e : Nat} (i : Nat), Ch s l e -> i + 1 < l.length -> ∃ a k u m v, l[i]? = some (a, k, u) /\ l[i + 1]? = some (a + k, m, v) /\ 0 < k /\ 0 < m /\ a + k + m <= e /\ Ch s ((l.set i (a, k + m, u)).eraseIdx (i + 1)) e
 | s, [], e, i, h, hi => absurd hi (by simp)
 | s, [x], e, i, h, hi => absurd hi (by simp)
 | s, (a, k, u) :: (b, m, v) :: l, e, 0, h, hi => by
  obtain ⟨rfl, hk, rfl, hm, h⟩ := h
  exact ⟨a, k, u, m, v, rfl, rfl, hk, hm, h.le, rfl, by omega, by rw [<- Nat.add_assoc]; exact h⟩
 | s, (a, k, u) :: y :: l, e, i + 1, h, hi => by
  obtain ⟨rfl, hk, h⟩ := h
  obtain ⟨b, m, v, m2, v2, e1, e2, h1, h2, h3, h4⟩ := Ch.two i h (by simpa using hi)
  exact ⟨b, m, v, m2, v2, e1, e2, h1, h2, h3, rfl, hk, h4⟩
theorem Ch.push : ∀ {s : Nat} {l : List (Nat × Nat × Nat)} {e : Nat} (k u : Nat), Ch s l e -> 0 < k -> Ch s (l ++ [(e, k, u)]) (e + k)
 | s, [], e, k, u, h, hk => by cases (show s = e from h); exact ⟨rfl, hk, rfl⟩
 | s, (a, m, v) :: l, e, k, u, h, hk => ⟨h.1, h.2.1, Ch.push k u h.2.2 hk⟩
theorem Ch.mod : ∀ {s : Nat} {l : List (Nat × Nat × Nat)} {e : Nat} (i u : Nat), Ch s l e -> Ch s (l.modify i fun x => (x.1, x.2.1, u)) e
 | s, [], e, i, u, h => by cases i <;> exact h
 | s, (a, m, v) :: l, e, 0, u, h => h
 | s, (a, m, v) :: l, e, i + 1, u, h => ⟨h.1, h.2.1, Ch.mod i u h.2.2⟩
section
variable {n : Nat} {lt : Nat -> Nat -> Bool} {α : Type} {x : Ev -> SortSt} {p : Array Nat} {pend : Array (Nat × Nat × Nat)} {g : Nat}
theorem det_setC {pend' : Array (Nat × Nat × Nat)} {R : (Ev -> PUnit) -> (Ev -> SortSt) -> Prop} (h : R (fun _ => ⟨⟩) (conc p pend' g)) : Det n lt (fun e => (set (SortSt.mk' e.κ (itms e p) pend' g none) : StateT SortSt Sem PUnit)) x R := det_set h
theorem det_modC {f : Ev -> SortSt -> SortSt} {p' : Array Nat} {pend' : Array (Nat × Nat × Nat)} {g' : Nat} {R : (Ev -> PUnit) -> (Ev -> SortSt) -> Prop} (e : ∀ e, f e (conc p pend g e) = conc p' pend' g' e) (h : R (fun _ => ⟨⟩) (conc p' pend' g')) : Det n lt (fun e => (modify (f e) : StateT SortSt Sem PUnit)) (conc p pend g) R :=
 det_modify (by rw [funext e]; exact h)
theorem det_mergeAt {i lo : Nat} {R : (Ev -> Bool) -> (Ev -> SortSt) -> Prop} (h0 : 0 < n) (hp : Ent n p) (hc : Ch 0 pend.toList lo) (hlo : lo <= p.size) (hi : i + 1 < pend.size)
  (h : ∀ p' pend' g', p'.size = p.size -> Ent n p' -> Ch 0 pend'.toList lo -> R (fun _ => true) (conc p' pend' g')) : Det n lt (fun _ => mergeAt' i) (conc p pend g) R := by
 obtain ⟨sa, na, u, nb, v, e1, e2, hna, hnb, hle, hc'⟩ := hc.two i (by simpa using hi)
 rw [Array.getElem?_toList] at e1 e2
 have e3 : ((pend.setIfInBounds i (sa, na + nb, u)).eraseIdxIfInBounds (i + 1)).toList = (pend.toList.set i (sa, na + nb, u)).eraseIdx (i + 1) := by simp
 rw [<- e3] at hc'
 refine det_getC ?_
 dsimp only
 simp only [e1, e2]
 refine det_bind (det_setC ?_)
 generalize (pend.setIfInBounds i (sa, na + nb, u)).eraseIdxIfInBounds (i + 1) = pend' at hc' ⊢
 refine det_bind (det_elem (by omega) (det_bind (det_gallop h0 (hp.at h0 _) hp hna (by omega) fun k hk => ?_)))
 dsimp only
 refine det_beq (fun _ => det_pure (h _ _ _ rfl hp hc')) fun hk2 => det_bind (det_elem (by omega) (det_bind (det_gallop h0 (hp.at h0 _) hp (by omega) (by omega) fun k2 hk3 => ?_)))
 dsimp only
 refine det_beq (fun _ => det_pure (h _ _ _ rfl hp hc')) fun hk4 => ?_
 simp only [itms_extract]
 have fin : ∀ (po : Array Nat) (g' : Nat), Ent n po -> R (fun _ => true) (conc (putN po.toList 0 (sa + k) p) pend' g') := fun po g' hpo => h _ _ _ (putN_size _ _ _ _) (putN_ent _ _ _ _ hpo hp) hc'
 have put : ∀ (e : Ev) (po : Array Nat), (itms e po).toList.zipIdx.foldl (fun a (x : Keyed × Nat) => a.setIfInBounds (sa + k + x.2) x.1) (itms e p) = itms e (putN po.toList 0 (sa + k) p) := fun e po => by
  rw [show (itms e po).toList = po.toList.map (itm e) from Array.toList_map]
  exact putN_map (itm e) (sa + k) po.toList 0 p
 have last : ∀ (po : Array Nat) (g' : Nat), Ent n po -> Det n lt (fun e => (do
   modify fun s => SortSt.mk' (kindOf s) ((itms e po).toList.zipIdx.foldl (fun a (x : Keyed × Nat) => a.setIfInBounds (sa + k + x.2) x.1) (arrOf s)) (pendingOf s) (gallopOf s) (failedOf s)
   let s <- get
   pure (failedOf s).isNone : StateT SortSt Sem Bool)) (conc p pend' g') R := fun po g' hpo =>
  det_bind (det_modC (p' := putN po.toList 0 (sa + k) p) (pend' := pend') (g' := g') (fun e => congrArg (fun a => SortSt.mk' e.κ a pend' g' none) (put e po)) (det_getC (det_pure (fin po g' hpo))))
 have z1 : (p.extract (sa + k) (sa + na)).size = na - k := by simp; omega
 have z2 : (p.extract (sa + na) (sa + na + k2)).size = k2 := by simp; omega
 refine det_ite (fun _ => det_bind (det_lo h0 (hp.ext _ _) (hp.ext _ _) (by omega) (by omega) fun po g' hpo => ?_)) (fun _ => det_bind (det_hi h0 (hp.ext _ _) (hp.ext _ _) (by omega) (by omega) fun po g' hpo => ?_))
 ·exact last po g' hpo
 ·exact last po g' hpo
theorem det_s0 {c : Prop} {inst : Ev -> Decidable c} {q r : Ev -> StateT SortSt Sem α} {R : (Ev -> α) -> (Ev -> SortSt) -> Prop} (C : Array Nat -> Prop) (c0 : C p) (h : ∀ p', C p' -> Det n lt q (conc p' pend g) R) (h1 : c -> (∀ p', C p' -> Det n lt q (conc p' pend g) R) -> Det n lt r (conc p pend g) R) : Det n lt (fun e => @ite _ c (inst e) (r e) (q e)) (conc p pend g) R :=
 det_ite (fun z => h1 z h) (fun _ => h p c0)
theorem det_count {lo m : Nat} {R : (Ev -> Option Nat) -> (Ev -> SortSt) -> Prop} (h0 : 0 < n) (hp : Ent n p) (hm : 0 < m) (hlo : lo + m <= p.size) (h : ∀ p' k, p'.size = p.size -> Ent n p' -> 0 < k -> k <= m -> R (fun _ => some k) (conc p' pend g)) :
  Det n lt (fun _ => countRun' lo m) (conc p pend g) R := by
 refine det_bind (Det.mono (det_for (fun i c y => ∃ k, c = (fun _ => (none, k)) /\ y = conc p pend g /\ 0 < k /\ k <= i) (fun c y => ∃ k, c = (fun _ => (none, k)) /\ y = conc p pend g /\ 0 < k /\ k <= m) ?_ ?_ ⟨_, rfl, rfl, by omega, by omega⟩) ?_)
 ·rintro i _ _ _ _ ⟨k, rfl, rfl, h1, h2⟩
  refine det_bind (det_ltAt h0 hp (by dsimp only; omega) (by dsimp only; omega) ?_)
  dsimp only
  exact det_ite (fun _ => det_pure (.inl ⟨_, rfl, _, rfl, rfl, h1, by omega⟩)) (fun _ => det_pure (.inr ⟨_, rfl, _, rfl, rfl, by omega, by omega⟩))
 ·rintro _ _ ⟨k, rfl, rfl, h1, h2⟩
  exact ⟨k, rfl, rfl, h1, by omega⟩
 rintro _ _ ⟨k, rfl, rfl, h1, h2⟩
 dsimp only
 refine det_beq (fun _ => det_pure (h _ _ rfl hp h1 h2)) fun hne => ?_
 have sh : ∀ i j, (kas_rev p i j).size = p.size := kas_rev_sz p
 refine det_s0 (fun p' => Ent n p' /\ p'.size = p.size) ⟨hp, rfl⟩ ?_ (fun hk key => det_bind (det_ltAt h0 hp (by omega) (by omega) ?_))
 rotate_left
 ·dsimp only
  exact det_ite (fun _ => det_pure (h _ _ rfl hp h1 h2)) (fun _ => det_bind (det_rev (key _ ⟨hp.rev _ _, kas_rev_sz _ _ _⟩)))
 rintro p1 ⟨hp1, hs1⟩
 refine det_bind (det_rule ?_)
 refine det_bind (Det.mono (det_for (fun i c y => ∃ p' j q, c = (fun _ => (none, j, q)) /\ y = conc p' pend g /\ Ent n p' /\ p'.size = p.size /\ 0 < j /\ j <= i) (fun c y => ∃ p' j q, c = (fun _ => (none, j, q)) /\ y = conc p' pend g /\ Ent n p' /\ p'.size = p.size /\ 0 < j /\ j <= m) ?_ ?_ ⟨_, _, _, rfl, rfl, hp1, hs1, by omega, by omega⟩) ?_)
 ·rintro i _ _ _ _ ⟨p2, j, q, rfl, rfl, hp2, hs2, h3, h4⟩
  dsimp only
  refine det_bind (det_ltAt h0 hp2 (by omega) (by omega) ?_)
  dsimp only
  refine det_ite (fun _ => det_s0 (fun p' => Ent n p' /\ p'.size = p.size) ⟨hp2, hs2⟩ (fun p' hp' => det_pure (.inr ⟨_, rfl, _, _, _, rfl, rfl, hp'.1, hp'.2, by omega, by omega⟩)) (fun _ key => det_bind (det_rev (key _ ⟨hp2.rev _ _, (kas_rev_sz _ _ _).trans hs2⟩)))) (fun _ => ?_)
  refine det_bind (det_ltAt h0 hp2 (by omega) (by omega) ?_)
  dsimp only
  exact det_ite (fun _ => det_pure (.inl ⟨_, rfl, _, _, _, rfl, rfl, hp2, hs2, h3, by omega⟩)) (fun _ => det_pure (.inr ⟨_, rfl, _, _, _, rfl, rfl, hp2, hs2, by omega, by omega⟩))
 ·rintro _ _ ⟨p2, j, q, rfl, rfl, hp2, hs2, h3, h4⟩
  exact ⟨p2, j, q, rfl, rfl, hp2, hs2, h3, by omega⟩
 rintro _ _ ⟨p2, j, q, rfl, rfl, hp2, hs2, h3, h4⟩
 dsimp only
 refine det_s0 (fun p' => Ent n p' /\ p'.size = p.size) ⟨hp2, hs2⟩ ?_ (fun _ key => det_bind (det_rev (key _ ⟨hp2.rev _ _, (kas_rev_sz _ _ _).trans hs2⟩)))
 rintro p3 ⟨hp3, hs3⟩
 refine det_bind (det_rev ?_)
 have hs4 : (kas_rev p3 lo (lo + j)).size = p.size := (kas_rev_sz _ _ _).trans hs3
 have hp4 : Ent n (kas_rev p3 lo (lo + j)) := hp3.rev _ _
 generalize kas_rev p3 lo (lo + j) = p4 at hs4 hp4 ⊢
 refine det_bind (Det.mono (det_for (fun i c y => ∃ k, c = (fun _ => (none, k)) /\ y = conc p4 pend g /\ 0 < k /\ k <= i) (fun c y => ∃ k, c = (fun _ => (none, k)) /\ y = conc p4 pend g /\ 0 < k /\ k <= m) ?_ ?_ ⟨_, rfl, rfl, by omega, by omega⟩) ?_)
 ·rintro i _ _ _ _ ⟨k, rfl, rfl, h1, h2⟩
  refine det_bind (det_ltAt h0 hp4 (by dsimp only; omega) (by dsimp only; omega) ?_)
  dsimp only
  exact det_ite (fun _ => det_pure (.inl ⟨_, rfl, _, rfl, rfl, h1, by omega⟩)) (fun _ => det_pure (.inr ⟨_, rfl, _, rfl, rfl, by omega, by omega⟩))
 ·rintro _ _ ⟨k, rfl, rfl, h1, h2⟩
  exact ⟨k, rfl, rfl, h1, by omega⟩
 rintro _ _ ⟨k, rfl, rfl, h1, h2⟩
 exact det_pure (h _ _ hs4 hp4 h1 h2)
theorem det_bin {lo m ok : Nat} {R : (Ev -> Bool) -> (Ev -> SortSt) -> Prop} (h0 : 0 < n) (hp : Ent n p) (hlo : lo + m <= p.size) (h : ∀ p', p'.size = p.size -> Ent n p' -> R (fun _ => true) (conc p' pend g)) :
  Det n lt (fun _ => binarySort' lo m ok) (conc p pend g) R := by
 refine det_bind (Det.mono (det_for (fun i c y => ∃ p', c = (fun _ => (none, ())) /\ y = conc p' pend g /\ Ent n p' /\ p'.size = p.size) (fun c y => ∃ p', c = (fun _ => (none, ())) /\ y = conc p' pend g /\ Ent n p' /\ p'.size = p.size) ?_ (fun _ _ z => z) ⟨_, rfl, rfl, hp, rfl⟩) ?_)
 ·rintro i _ _ _ hi ⟨p1, rfl, rfl, hp1, hs1⟩
  dsimp only
  refine det_bind (Det.mono (det_for (fun _ c y => ∃ l r, c = (fun _ => (none, l, r)) /\ y = conc p1 pend g /\ r <= i) (fun c y => ∃ l r : Nat, c = (fun _ => (none, l, r)) /\ y = conc p1 pend g) ?_ ?_ ⟨_, _, rfl, rfl, Nat.le_refl _⟩) ?_)
  ·rintro k _ _ _ hk ⟨l, r, rfl, rfl, hr⟩
   dsimp only
   refine det_ite (fun _ => det_pure (.inl ⟨_, rfl, _, _, rfl, rfl⟩)) (fun hlr => det_bind (det_ltAt h0 hp1 (by omega) (by omega) ?_))
   dsimp only
   exact det_ite (fun _ => det_pure (.inr ⟨_, rfl, _, _, rfl, rfl, by omega⟩)) (fun _ => det_pure (.inr ⟨_, rfl, _, _, rfl, rfl, hr⟩))
  ·rintro _ _ ⟨l, r, rfl, rfl, _⟩
   exact ⟨l, r, rfl, rfl⟩
  rintro _ _ ⟨l, r, rfl, rfl⟩
  dsimp only
  exact det_bind (det_move (det_pure (.inr ⟨_, rfl, _, rfl, rfl, hp1.bubble _ _, (bubble_size _ _ _).trans hs1⟩)))
 rintro _ _ ⟨p1, rfl, rfl, hp1, hs1⟩
 exact det_pure (h _ hs1 hp1)
theorem ite_sub {c : Prop} {inst : Decidable c} {a b : Nat} (h : a + 1 < b) : (@ite _ c inst (a - 1) a) + 1 < b := by
 by_cases hc : c
 ·rw [if_pos hc]; omega
 ·rw [if_neg hc]; exact h
theorem det_ppush {v : Nat × Nat × Nat} {R : (Ev -> PUnit) -> (Ev -> SortSt) -> Prop} (h : R (fun _ => ⟨⟩) (conc p (pend.push v) g)) : Det n lt (fun _ => (modify fun s => setPending s ((pendingOf s).push v) : StateT SortSt Sem PUnit)) (conc p pend g) R := det_modify h
theorem det_pmod {f : Nat × Nat × Nat -> Nat × Nat × Nat} {R : (Ev -> PUnit) -> (Ev -> SortSt) -> Prop} (h : R (fun _ => ⟨⟩) (conc p (pend.modify (pend.size - 1) f) g)) : Det n lt (fun _ => (modify fun s => setPending s ((pendingOf s).modify ((pendingOf s).size - 1) f) : StateT SortSt Sem PUnit)) (conc p pend g) R := det_modify h
theorem det_runs {R : (Ev -> Unit) -> (Ev -> SortSt) -> Prop} (h0 : 0 < n) (hp : Ent n p) (hs : p.size = n) (h : ∀ p' pend' g', p'.size = n -> Ent n p' -> R (fun _ => ()) (conc p' pend' g')) :
  Det n lt (fun _ => sortRuns') (conc p #[] g) R := by
 refine det_getC ?_
 dsimp only
 simp only [itms_size, hs]
 refine det_bind (Det.mono (det_for (fun _ c y => ∃ p' pend' g' lo, c = (fun _ => (none, lo)) /\ y = conc p' pend' g' /\ Ent n p' /\ p'.size = n /\ Ch 0 pend'.toList lo /\ lo <= n) (fun c y => ∃ p' pend' g' lo, c = (fun _ => (none, lo)) /\ y = conc p' pend' g' /\ Ent n p' /\ p'.size = n /\ Ch 0 pend'.toList lo /\ lo <= n) ?_ (fun _ _ z => z) ⟨_, _, _, _, rfl, rfl, hp, hs, rfl, Nat.zero_le _⟩) ?_)
 ·rintro i _ _ _ _ ⟨p1, pe1, g1, lo, rfl, rfl, hp1, hs1, hc1, hl1⟩
  dsimp only
  refine det_ite (fun _ => det_pure (.inl ⟨_, rfl, _, _, _, _, rfl, rfl, hp1, hs1, hc1, hl1⟩)) (fun hlt => ?_)
  refine det_bind (det_count h0 hp1 (by omega) (by omega) fun p2 k hs2 hp2 hk1 hk2 => ?_)
  rw [hs1] at hs2
  dsimp only
  refine det_ite (fun hmr => det_bind (det_rule (det_bind (det_bin h0 hp2 (by omega) fun p5 hs5 hP => ?_)))) (fun _ => ?_)
  ·have hsP : p5.size = n := hs5.trans hs2
   refine det_ite (fun z => absurd z (by decide)) (fun _ => ?_)
   have hkk : 0 < min (n - lo) ((sortPriv% PySem.Builtin.minRun) n n 0) := by omega
   have hkl : lo + min (n - lo) ((sortPriv% PySem.Builtin.minRun) n n 0) <= n := by omega
   refine det_getC ?_
   dsimp only
   cases hb : pe1.back? with
   | none =>
    simp only [hb]
    exact det_bind (det_ppush (det_pure (.inr ⟨_, rfl, _, _, _, _, rfl, rfl, hP, hsP, by rw [Array.toList_push]; exact hc1.push _ 0 hkk, hkl⟩)))
   | some y =>
    obtain ⟨s1, n1, u1⟩ := y
    simp only [hb]
    refine det_bind (Det.mono (det_for (fun _ c y => ∃ p' pend' g', c = (fun _ => (none, ())) /\ y = conc p' pend' g' /\ Ent n p' /\ p'.size = n /\ Ch 0 pend'.toList lo) (fun c y => ∃ p' pend' g', c = (fun _ => (none, ())) /\ y = conc p' pend' g' /\ Ent n p' /\ p'.size = n /\ Ch 0 pend'.toList lo) ?_ (fun _ _ z => z) ⟨_, _, _, rfl, rfl, hP, hsP, hc1⟩) ?_)
    ·rintro j _ _ _ _ ⟨p3, pe3, g3, rfl, rfl, hp3, hs3, hc3⟩
     refine det_getC ?_
     dsimp only
     by_cases hz : pe3.size > 1
     ·obtain ⟨a, b, u, m, v, e1, _⟩ := hc3.two (pe3.size - 2) (by rw [Array.length_toList]; omega)
      rw [Array.getElem?_toList] at e1
      simp only [if_pos hz, e1]
      refine det_ite (fun _ => det_pure (.inl ⟨_, rfl, _, _, _, rfl, rfl, hp3, hs3, hc3⟩)) (fun _ => det_bind (det_mergeAt h0 hp3 hc3 (by omega) (by omega) fun p4 pe4 g4 hs4 hp4 hc4 => ?_))
      exact det_ite (fun z => absurd z (by decide)) (fun _ => det_pure (.inr ⟨_, rfl, _, _, _, rfl, rfl, hp4, hs4.trans hs3, hc4⟩))
     ·simp only [if_neg hz]
      exact det_pure (.inl ⟨_, rfl, _, _, _, rfl, rfl, hp3, hs3, hc3⟩)
    ·rintro _ _ ⟨p3, pe3, g3, rfl, rfl, hp3, hs3, hc3⟩
     dsimp only
     refine det_bind (det_pmod ?_)
     refine det_bind (det_ppush (det_pure (.inr ⟨_, rfl, _, _, _, _, rfl, rfl, hp3, hs3, ?_, hkl⟩)))
     rw [Array.toList_push, Array.toList_modify]
     exact (hc3.mod _ _).push _ _ hkk
  ·have hP := hp2
   have hsP := hs2
   have hkk := hk1
   have hkl : lo + k <= n := by omega
   refine det_getC ?_
   dsimp only
   cases hb : pe1.back? with
   | none =>
    simp only [hb]
    exact det_bind (det_ppush (det_pure (.inr ⟨_, rfl, _, _, _, _, rfl, rfl, hP, hsP, by rw [Array.toList_push]; exact hc1.push _ 0 hkk, hkl⟩)))
   | some y =>
    obtain ⟨s1, n1, u1⟩ := y
    simp only [hb]
    refine det_bind (Det.mono (det_for (fun _ c y => ∃ p' pend' g', c = (fun _ => (none, ())) /\ y = conc p' pend' g' /\ Ent n p' /\ p'.size = n /\ Ch 0 pend'.toList lo) (fun c y => ∃ p' pend' g', c = (fun _ => (none, ())) /\ y = conc p' pend' g' /\ Ent n p' /\ p'.size = n /\ Ch 0 pend'.toList lo) ?_ (fun _ _ z => z) ⟨_, _, _, rfl, rfl, hP, hsP, hc1⟩) ?_)
    ·rintro j _ _ _ _ ⟨p3, pe3, g3, rfl, rfl, hp3, hs3, hc3⟩
     refine det_getC ?_
     dsimp only
     by_cases hz : pe3.size > 1
     ·obtain ⟨a, b, u, m, v, e1, _⟩ := hc3.two (pe3.size - 2) (by rw [Array.length_toList]; omega)
      rw [Array.getElem?_toList] at e1
      simp only [if_pos hz, e1]
      refine det_ite (fun _ => det_pure (.inl ⟨_, rfl, _, _, _, rfl, rfl, hp3, hs3, hc3⟩)) (fun _ => det_bind (det_mergeAt h0 hp3 hc3 (by omega) (by omega) fun p4 pe4 g4 hs4 hp4 hc4 => ?_))
      exact det_ite (fun z => absurd z (by decide)) (fun _ => det_pure (.inr ⟨_, rfl, _, _, _, rfl, rfl, hp4, hs4.trans hs3, hc4⟩))
     ·simp only [if_neg hz]
      exact det_pure (.inl ⟨_, rfl, _, _, _, rfl, rfl, hp3, hs3, hc3⟩)
    ·rintro _ _ ⟨p3, pe3, g3, rfl, rfl, hp3, hs3, hc3⟩
     dsimp only
     refine det_bind (det_pmod ?_)
     refine det_bind (det_ppush (det_pure (.inr ⟨_, rfl, _, _, _, _, rfl, rfl, hp3, hs3, ?_, hkl⟩)))
     rw [Array.toList_push, Array.toList_modify]
     exact (hc3.mod _ _).push _ _ hkk
 rintro _ _ ⟨p1, pe1, g1, lo, rfl, rfl, hp1, hs1, hc1, hl1⟩
 dsimp only
 refine det_bind (Det.mono (det_for (fun _ c y => ∃ p' pend' g', c = (fun _ => (none, ())) /\ y = conc p' pend' g' /\ Ent n p' /\ p'.size = n /\ Ch 0 pend'.toList lo) (fun c y => ∃ p' pend' g', c = (fun _ => (none, ())) /\ y = conc p' pend' g' /\ Ent n p' /\ p'.size = n /\ Ch 0 pend'.toList lo) ?_ (fun _ _ z => z) ⟨_, _, _, rfl, rfl, hp1, hs1, hc1⟩) ?_)
 ·rintro j _ _ _ _ ⟨p3, pe3, g3, rfl, rfl, hp3, hs3, hc3⟩
  refine det_getC ?_
  dsimp +instances only
  refine det_ite (fun _ => det_pure (.inl ⟨_, rfl, _, _, _, rfl, rfl, hp3, hs3, hc3⟩)) (fun hz => det_bind (det_mergeAt h0 hp3 hc3 (by omega) ?_ fun p4 pe4 g4 hs4 hp4 hc4 => ?_))
  ·exact ite_sub (by omega)
  ·exact det_ite (fun z => absurd z (by decide)) (fun _ => det_pure (.inr ⟨_, rfl, _, _, _, rfl, rfl, hp4, hs4.trans hs3, hc4⟩))
 ·rintro _ _ ⟨p3, pe3, g3, rfl, rfl, hp3, hs3, hc3⟩
  exact det_pure (h _ _ _ hs3 hp3)
end
theorem runs_ex (n : Nat) (lt : Nat -> Nat -> Bool) (h0 : 0 < n) : ∃ P : Array Nat, (P.size = n /\ Ent n P) /\ ∃ (pend : Array (Nat × Nat × Nat)) (g : Nat), ∀ (e : Ev) (prog : Program) (w : World) (A : Around) (E : Value -> Shared -> Prop) (s : Shared), EvOk n lt e prog w A s ->
  ∀ Q : Unit -> SortSt -> Shared -> Prop, Q () (conc P pend g e) s -> kasC (model prog w) A E sortRuns' Q (conc (List.range n).toArray #[] 7 e) s := by
 obtain ⟨a, y, ⟨P, pend, g, h1, h2, rfl⟩, h3⟩ := det_runs (n := n) (lt := lt) (g := 7) (p := (List.range n).toArray) (R := fun _ y => ∃ P pend g, P.size = n /\ Ent n P /\ y = conc P pend g) h0 (fun x hx => by simpa using hx) (by simp) fun p' pend' g' h1 h2 => ⟨p', pend', g', h1, h2, rfl⟩
 exact ⟨P, ⟨h1, h2⟩, pend, g, h3⟩
noncomputable def bigN (n : Nat) (lt : Nat -> Nat -> Bool) : Array Nat := if h : 0 < n then Classical.choose (runs_ex n lt h) else #[]
theorem bigN_ok {n : Nat} (lt : Nat -> Nat -> Bool) (h0 : 0 < n) : ((bigN n lt).size = n /\ Ent n (bigN n lt)) /\ ∃ (pend : Array (Nat × Nat × Nat)) (g : Nat), ∀ (e : Ev) (prog : Program) (w : World) (A : Around) (E : Value -> Shared -> Prop) (s : Shared), EvOk n lt e prog w A s ->
  ∀ Q : Unit -> SortSt -> Shared -> Prop, Q () (conc (bigN n lt) pend g e) s -> kasC (model prog w) A E sortRuns' Q (conc (List.range n).toArray #[] 7 e) s := by
 unfold bigN
 rw [dif_pos h0]
 exact Classical.choose_spec (runs_ex n lt h0)
end L2
set_option Elab.async false
set_option linter.all false
set_option maxRecDepth 100000
set_option maxHeartbeats 4000000
namespace L2
open PySem PySem.Spec PyProof.Rows PySem.W
noncomputable def isI : Key -> Bool
 | .inl _ => true
 | .inr _ => false
noncomputable def ltK : Key -> Key -> Bool
 | .inl i, .inl j => decide (i < j)
 | .inr a, .inr c => decide (a.cps.toList < c.cps.toList)
 | _, _ => false
noncomputable def ltT : List Key -> List Key -> Bool
 | a :: r, b :: q => if a = b then ltT r q else ltK a b
 | _, _ => false
theorem oneLt_ok {prog : Program} {w : World} {A : Around} {E : Value -> Shared -> Prop} {fl : Bool} {Q : Bool -> Shared -> Prop} {s : Shared} {a b : Key} {u v : Value} (ra : RelV (kV a) u) (rb : RelV (kV b) v) (h : isI a = isI b) (q : Q (ltK a b) s) : wpAny (model prog w) A (oneLt' fl u v) Q E s := by
 cases a with
 | inl i =>
  cases b with
  | inr y => cases h
  | inl j =>
   obtain ⟨t, rfl⟩ := (show ∃ t, u = Value.int i t from ra)
   obtain ⟨t', rfl⟩ := (show ∃ t, v = Value.int j t from rb)
   cases fl with
   | true => exact kat_lt_int q
   | false => exact kat_one _ _ (lt_int q)
 | inr x =>
  cases b with
  | inl j => cases h
  | inr y =>
   obtain ⟨t, rfl⟩ := (show ∃ t, u = Value.str x t from ra)
   obtain ⟨t', rfl⟩ := (show ∃ t, v = Value.str y t from rb)
   cases fl with
   | true => exact kas_lt_str q
   | false => exact kat_one _ _ (lt_str q)
theorem katLex_ok {prog : Program} {w : World} {A : Around} {fl : Bool} {Q : Bool -> Shared -> Prop} {s : Shared} : ∀ {a b : List Key} {us vs : List Value} (i : Nat), Vals (a.map kV) us -> Vals (b.map kV) vs -> a.map isI = b.map isI -> Q (ltT a b) s -> KatLex prog w A fl false Q (us.zip vs) i s
 | [], [], us, vs, i, ra, rb, h, q => by cases ra; cases rb; unfold KatLex; exact q
 | [], _ :: _, us, vs, i, ra, rb, h, q => by cases h
 | _ :: _, [], us, vs, i, ra, rb, h, q => by cases h
 | a :: r, b :: t, us, vs, i, ra, rb, h, q => by
  cases ra with
  | @cons _ u _ us ra1 ra2 =>
   cases rb with
   | @cons _ v _ vs rb1 rb2 =>
    simp only [List.map_cons, List.cons.injEq] at h
    show KatLex prog w A fl false Q ((u, v) :: us.zip vs) i s
    unfold KatLex
    refine (mixKind prog w).eqBool (kV_is ra1) (kV_is rb1) ?_
    unfold ltT at q
    by_cases e : a = b
    ·rw [if_pos e] at q
     rw [if_pos (decide_eq_true e)]
     exact katLex_ok (i + 1) ra2 rb2 h.2 q
    ·rw [if_neg e] at q
     rw [if_neg (by rw [decide_eq_false e]; exact Bool.false_ne_true)]
     exact oneLt_ok ra1 rb1 h.1 q
noncomputable def ordN (ds : List (List Key)) (i j : Nat) : Bool := ltT (ds.getD i []) (ds.getD j [])
noncomputable def pickN (n : Nat) (lt : Nat -> Nat -> Bool) : Array Nat := if n < 64 then runT lt (kas_sort n) else bigN n lt
theorem pickN_ent {n : Nat} (lt : Nat -> Nat -> Bool) (h0 : 0 < n) : Ent n (pickN n lt) := by
 unfold pickN
 by_cases h : n < 64
 ·rw [if_pos h]; exact asks_run (P := Ent n) _ _ (asks_sort h0)
 ·rw [if_neg h]; exact (bigN_ok lt h0).1.2
theorem sort_any {prog : Program} {w : World} {A : Around} {E : Value -> Shared -> Prop} {κ : SortKind} {ks vs : List Value} {lt : Nat -> Nat -> Bool} {s : Shared} (hl : ks.length = vs.length) (h2 : 2 <= vs.length)
  (hc : ∀ i j, i < vs.length -> j < vs.length -> ∀ C : Bool -> Shared -> Prop, C (lt i j) s -> kas_ask prog w A κ ks i j C s) :
  wpAny (model prog w) A ((sortRuns').run (SortSt.mk' κ (ks.toArray.zip vs.toArray) #[] 7 none)) (fun r s' => s' = s /\ failedOf r.2 = none /\ (arrOf r.2).size = vs.length /\ arrOf r.2 = Array.map (kas_item (ks.toArray.zip vs.toArray)) (pickN vs.length lt)) E s := by
 unfold pickN
 by_cases h : vs.length < 64
 ·rw [if_pos h]
  exact kat_run (Q := fun st' s' => s' = s /\ failedOf st' = none /\ (arrOf st').size = vs.length /\ arrOf st' = Array.map (kas_item (ks.toArray.zip vs.toArray)) (runT lt (kas_sort vs.length))) (G := fun p s' => p = runT lt (kas_sort vs.length) /\ s' = s) hl h2 h (fun p st' s' hp ha hf hG => ⟨hG.2, hf, by rw [ha, Array.size_map]; exact hp, by rw [ha, hG.1]⟩)
   (kasWp_of (n := vs.length) (lt := lt) hc (asks_sort (by omega)) ⟨rfl, rfl⟩)
 ·rw [if_neg h]
  obtain ⟨⟨h3, h4⟩, pend, g, run⟩ := bigN_ok (n := vs.length) lt (by omega)
  have est : SortSt.mk' κ (ks.toArray.zip vs.toArray) #[] 7 none = conc (List.toArray (List.range vs.length)) #[] 7 ⟨κ, ks.toArray.zip vs.toArray⟩ := by
   have e := kas_range (ks.toArray.zip vs.toArray)
   rw [show (ks.toArray.zip vs.toArray).size = vs.length by simp [hl]] at e
   exact congrArg (fun a => SortSt.mk' κ a #[] 7 none) e.symm
  rw [est]
  rw [kat_ask_eq hl] at hc
  exact run ⟨κ, ks.toArray.zip vs.toArray⟩ prog w A E s hc (fun r st' s' => s' = s /\ failedOf st' = none /\ (arrOf st').size = vs.length /\ arrOf st' = Array.map (kas_item (ks.toArray.zip vs.toArray)) (bigN vs.length lt)) ⟨rfl, rfl, by show (Array.map _ _).size = _; rw [Array.size_map]; exact h3, rfl⟩
noncomputable def srtI (ds : List (List Key)) : List Nat := if ds.length < 2 then List.range ds.length else (pickN ds.length (ordN ds)).toList
noncomputable def srt (ds : List (List Key)) (xs : List V) : List V := (srtI ds).map fun i => xs.getD i .non
noncomputable def TupsAt (H : Hp) (xs : List V) (ds : List (List Key)) : Prop := xs.length = ds.length /\ ∀ (i : Nat) (x : V) (d : List Key), xs[i]? = some x -> ds[i]? = some d -> ∃ t, x = .ref t /\ H t = some (.tup (d.map kV))
theorem tups_heap {X : Cx} {pins : List (Addr × Obj)} {σ : St} {H : Hp} {s : Shared} (I : Inv X pins σ H s) {t : Addr} {d : List Key} (h : H t = some (.tup (d.map kV))) : ∃ (o : Obj) (vs : List Value) (n : Nat), s.heap.get? t = some o /\ o.cls = .type "tuple" /\ o.data = .seq vs.toArray n /\ Vals (d.map kV) vs := by
 obtain ⟨_, its, rv, o, ho, hc, n, hd⟩ := I.hok t _ h
 exact ⟨o, its, n, ho, hc, hd, rv⟩
theorem katTups_of {X : Cx} {pins : List (Addr × Obj)} {σ : St} {H : Hp} {s : Shared} (I : Inv X pins σ H s) : ∀ {xs : List V} {ds : List (List Key)} {its : List Value}, Vals xs its -> TupsAt H xs ds -> (∀ d ∈ ds, d ≠ []) -> ∃ fs : List Value, KatTups s.heap its fs /\ fs.length = ds.length /\ ∀ (i : Nat) (f : Value) (d : List Key), fs[i]? = some f -> ds[i]? = some d -> ∃ k r, d = k :: r /\ RelV (kV k) f
 | [], [], _, rv, h, _ => by cases rv; exact ⟨[], KatTups.nil, rfl, fun i f d h => by simp at h⟩
 | [], _ :: _, _, _, h, _ => by simp [TupsAt] at h
 | _ :: _, [], _, _, h, _ => by simp [TupsAt] at h
 | x :: xs, d :: ds, _, rv, h, hn => by
  cases rv with
  | @cons _ u _ us r1 r2 =>
   obtain ⟨t, rfl, ht⟩ := h.2 0 x d rfl rfl
   cases (show u = Value.ref t from r1)
   obtain ⟨o, vs, n, ho, hc, hd, rd⟩ := tups_heap I ht
   obtain ⟨fs, k1, k2, k3⟩ := katTups_of I r2 (ds := ds) ⟨by simpa using h.1, fun i y e a b => h.2 (i + 1) y e a b⟩ fun e he => hn e (List.mem_cons_of_mem _ he)
   cases d with
   | nil => exact absurd rfl (hn [] (by simp))
   | cons k r =>
    cases rd with
    | @cons _ f _ gs q1 q2 =>
     refine ⟨f :: fs, KatTups.cons ho hc hd (by simp) k1, by simp [k2], fun i g e a b => ?_⟩
     cases i with
     | zero =>
      have e1 : f = g := by simpa using a
      have e2 : k :: r = e := by simpa using b
      subst e1 e2
      exact ⟨k, r, rfl, q1⟩
     | succ i => exact k3 i g e a b
theorem vals_getD : ∀ {xs : List V} {vs : List Value}, Vals xs vs -> ∀ i, i < xs.length -> RelV (xs.getD i .non) (vs.getD i Value.none)
 | _, _, .nil, i, h => by simp at h
 | _, _, .cons r1 r2, 0, _ => r1
 | _, _, .cons r1 r2, i + 1, h => vals_getD r2 i (by simpa using h)
theorem vals_pick {xs : List V} {vs : List Value} (r : Vals xs vs) : ∀ p : List Nat, (∀ i ∈ p, i < xs.length) -> Vals (p.map fun i => xs.getD i .non) (p.map fun i => vs.getD i Value.none)
 | [], _ => .nil
 | i :: p, h => .cons (vals_getD r i (h i (by simp))) (vals_pick r p fun j hj => h j (List.mem_cons_of_mem _ hj))
theorem range_pick {α : Type} (d : α) : ∀ xs : List α, (List.range xs.length).map (fun i => xs.getD i d) = xs := by
 intro xs
 refine List.ext_getElem (by simp) fun i h1 h2 => ?_
 simp [List.getElem?_eq_getElem h2]
section
variable {X : Cx} {pins : List (Addr × Obj)} {σ : St} {H : Hp} {s : Shared} {xs : List V} {ds : List (List Key)} {sh : List Bool}
theorem lsortT {A : Around} {E : Value -> Shared -> Prop} {a : Addr} {its : List Value} {n : Nat} {P : Fin -> Shared -> Prop}
  (I : Inv X pins σ H s) (fa : FpOk X pins H a) (ho : s.heap.get? a = some (seqObj "list" its.toArray n)) (rv : Vals xs its) (hz : xs.length <= sizeLine) (ht : TupsAt H xs ds) (hsh : ∀ d ∈ ds, d.map isI = sh) (hne : sh ≠ [])
  (fin : ∀ (s' : Shared) (out : Array Value) (n' : Nat), Inv X pins σ H s' -> s'.heap.get? a = some (seqObj "list" out n') -> out.size <= sizeLine -> Vals (srt ds xs) out.toList -> P (.done (.ret .none)) s') :
  wpAny (model X.prog X.w) A (Builtin.«list.sort» ⟨[.ref a], []⟩) P E s := by
 have hil : its.length = xs.length := rv.length.symm
 rw [<- hil] at hz
 obtain ⟨f0, f1, f2, f3, f4, f5⟩ := id fa
 rw [list_sort_plain]
 refine wpAny_bind (listItems_at ho rfl ?_)
 refine wpAny_bind (listUpdate_at ho rfl ?_ (by rw [List.size_toArray]; exact hz) (by show (#[] : Array Value).size <= _; simp))
 obtain ⟨e1, ho1⟩ : ∃ e1, (s.heap.update a (Obj.mapSeq fun _ => #[])).get? a = some (seqObj "list" #[] e1) := ⟨_, get?_update_seq ho (fun _ => #[])⟩
 have I1 : Inv X pins σ H { s with heap := s.heap.update a (Obj.mapSeq fun _ => #[]) } := I.turned (t' := s.toks) (fun b o hb e => by rw [Heap.get?_update_ne _ _ _ _ hb]; exact e) f0 f1 f3 f4 f5
 generalize s.heap.update a (Obj.mapSeq fun _ => #[]) = h1 at ho1 I1
 refine wpAny_bind (seqEpoch_at (s := { s with heap := h1 }) ho1 rfl ?_)
 refine wpAny_bind (wpAny_newTuple (s := { s with heap := h1 }) ?_ (by simpa using hz))
 have ho2 := Heap.get?_push_of_some (seqObj "tuple" its.toArray.toList.toArray 0) ho1
 have I2 : Inv X pins σ H { s with heap := h1.push (seqObj "tuple" its.toArray.toList.toArray 0) } := I1.kept (t' := s.toks) fun b o e => Heap.get?_push_of_some _ e
 change wpAny _ _ _ _ _ { s with heap := h1.push (seqObj "tuple" its.toArray.toList.toArray 0) }
 generalize h1.push (seqObj "tuple" its.toArray.toList.toArray 0) = h2 at ho2 I2
 refine wpAny_bind (wpAny_newList (s := { s with heap := h2 }) ?_ (by simp))
 have ho3 := Heap.get?_push_of_some (seqObj "list" #[] 0) ho2
 have I3 : Inv X pins σ H { s with heap := h2.push (seqObj "list" #[] 0) } := I2.kept (t' := s.toks) fun b o e => Heap.get?_push_of_some _ e
 change wpAny _ _ _ _ _ { s with heap := h2.push (seqObj "list" #[] 0) }
 generalize h2.push (seqObj "list" #[] 0) = h3 at ho3 I3
 dsimp only
 refine wpAny_holding ?_
 have ho3 : ({ s with heap := h3 } : Shared).heap.get? a = some (seqObj "list" #[] e1) := ho3
 generalize { s with heap := h3 } = s3 at I3 ho3 ⊢
 have last : ∀ st' : SortSt, failedOf st' = none -> ((arrOf st').map (·.2)).size <= sizeLine -> Vals (srt ds xs) ((arrOf st').map (·.2)).toList -> wpAny (model X.prog X.w) A (do
   let __do_lift <- seqEpoch a
   Builtin.List.listUpdate (Value.ref a) fun x => Array.map (fun x => x.snd) (arrOf st')
   match failedOf st' with
    | some e => do
     rule "list.sort.comparison-raised"
     throw e
     if (__do_lift != e1) = true then do
         rule "list.sort.modified"
         raiseErrorWords "ValueError" "list modified during sort"
         ret Value.none
      else ret Value.none
    | x =>
     if (__do_lift != e1) = true then do
      rule "list.sort.modified"
      raiseErrorWords "ValueError" "list modified during sort"
      ret Value.none
     else ret Value.none) P E s3 := by
  intro st' hf hsz hv
  refine wpAny_bind (seqEpoch_at ho3 rfl ?_)
  refine wpAny_bind (listUpdate_at ho3 rfl ?_ (by simp) (Nat.le_succ_of_le hsz))
  rw [hf]
  simp only [bne_self_eq_false, Bool.false_eq_true, if_false]
  exact wpAny_pure (fin _ _ _ (I3.turned (t' := s3.toks) (fun b o hb e => by rw [Heap.get?_update_ne _ _ _ _ hb]; exact e) f0 f1 f3 f4 f5) (get?_update_seq ho3 (fun _ => (arrOf st').map (·.2))) hsz hv)
 have hdl : ds.length = its.length := by rw [hil]; exact ht.1.symm
 by_cases h2 : its.toArray.size < 2
 ·rw [if_pos h2]
  refine wpAny_bind (wpAny_pure ?_)
  rw [if_pos h2, StateT.run_pure]
  refine wpAny_bind (wpAny_pure ?_)
  have e : ((arrOf (SortSt.mk' general' (its.toArray.zip its.toArray) #[] 7 none)).map (·.2)) = its.toArray := by
   show (its.toArray.zip its.toArray).map (·.2) = its.toArray
   rw [<- Array.toList_inj]
   simp [List.map_snd_zip]
  refine last _ rfl (by rw [e, List.size_toArray]; exact hz) ?_
  rw [e]
  rw [List.size_toArray] at h2
  unfold srt srtI
  rw [if_pos (by rw [hdl]; exact h2), hdl, hil, range_pick]
  exact rv
 ·rw [if_neg h2]
  rw [List.size_toArray] at h2
  have hnn : ∀ d ∈ ds, d ≠ [] := fun d hd z => hne (by rw [<- hsh d hd, z]; rfl)
  obtain ⟨fs, kt, kl, kf⟩ := katTups_of I3 rv ht hnn
  have hds : 2 <= its.length := by omega
  obtain ⟨b0, sh', rfl⟩ : ∃ b r, sh = b :: r := by
   cases sh with
   | nil => exact absurd rfl hne
   | cons b r => exact ⟨b, r, rfl⟩
  refine wpAny_bind (kat_kind (T := if b0 = true then Value.type "int" else Value.type "str") kt (by rw [kl, hdl]; omega) (fun v hv => ?_) (by cases b0 <;> rfl) ?_)
  ·obtain ⟨i, hi⟩ := List.mem_iff_getElem?.mp hv
   have hil2 := (List.getElem?_eq_some_iff.mp hi).1
   have hid : i < ds.length := by rw [<- kl]; exact hil2
   obtain ⟨k, r, ed, rk⟩ := kf i v ds[i] hi (List.getElem?_eq_getElem hid)
   have hs := hsh ds[i] (List.getElem_mem hid)
   rw [ed, List.map_cons] at hs
   have hb : isI k = b0 := (List.cons.inj hs).1
   cases k with
   | inl m =>
    obtain ⟨t, rfl⟩ := (show ∃ t, v = Value.int m t from rk)
    rw [<- hb]
    exact fun A Q E s _ q => wpAny_pure q
   | inr z =>
    obtain ⟨t, rfl⟩ := (show ∃ t, v = Value.str z t from rk)
    rw [<- hb]
    exact fun A Q E s _ q => wpAny_pure q
  rw [if_neg (by rw [List.size_toArray]; exact h2)]
  refine wpAny_bind (wpAny_mono (sort_any (vs := its) (ks := its) (lt := ordN ds) rfl hds fun i j hi hj C hC => ?_) ?_ fun _ _ e => e)
  ·have one : ∀ i, i < its.length -> ∃ (t : Addr) (o : Obj) (vs : List Value) (m : Nat), its.getD i Value.none = .ref t /\ s3.heap.get? t = some o /\ o.data = .seq vs.toArray m /\ Vals ((ds.getD i []).map kV) vs /\ (ds.getD i []).map isI = b0 :: sh' := fun i hi => by
    have hix : i < xs.length := by rw [<- hil]; exact hi
    have hid : i < ds.length := by rw [hdl]; exact hi
    obtain ⟨t, ex, hH⟩ := ht.2 i xs[i] ds[i] (List.getElem?_eq_getElem hix) (List.getElem?_eq_getElem hid)
    obtain ⟨o, vs, m, ho, hc, hd, rd⟩ := tups_heap I3 hH
    have rg := vals_getD rv i hix
    have e1 : xs.getD i .non = .ref t := by rw [List.getD_eq_getElem?_getD, List.getElem?_eq_getElem hix, ex]; rfl
    have e2 : ds.getD i [] = ds[i] := by rw [List.getD_eq_getElem?_getD, List.getElem?_eq_getElem hid]; rfl
    rw [e1] at rg
    exact ⟨t, o, vs, m, rg, ho, hd, by rw [e2]; exact rd, by rw [e2]; exact hsh _ (List.getElem_mem hid)⟩
   obtain ⟨t1, o1, v1, m1, a1, a2, a3, a4, a5⟩ := one i hi
   obtain ⟨t2, o2, v2, m2, c1, c2, c3, c4, c5⟩ := one j hj
   show wpAny (model X.prog X.w) A (keyLt' _ (its.getD i Value.none) (its.getD j Value.none)) C _ s3
   rw [a1, c1]
   have hl : v1.length = v2.length := by
    have q1 := a4.length
    have q2 := c4.length
    have q3 := congrArg List.length (a5.trans c5.symm)
    simp only [List.length_map] at q1 q2 q3
    omega
   refine kat_lt a2 a3 c2 c3 ?_
   rw [decide_eq_false (by simp [hl])]
   exact katLex_ok 0 a4 c4 (a5.trans c5.symm) hC
  rintro ⟨⟨⟩, st'⟩ s2 ⟨rfl, hf, hsz, ha⟩
  have hp : Ent its.length (pickN its.length (ordN ds)) := pickN_ent _ (by omega)
  have em : ((arrOf st').map (·.2)).toList = (pickN its.length (ordN ds)).toList.map fun i => its.getD i Value.none := by
   rw [ha, Array.toList_map, Array.toList_map, List.map_map]
   refine List.map_congr_left fun i _ => ?_
   show (kas_item (its.toArray.zip its.toArray) i).2 = _
   rw [kat_item rfl]
  refine last st' hf ?_ ?_
  ·rw [Array.size_map, hsz]; exact hz
  ·rw [em]
   unfold srt srtI
   rw [if_neg (by rw [hdl]; exact h2), hdl]
   exact vals_pick rv _ fun i hi => by rw [<- hil]; exact hp i hi
theorem call_sortedT {K : PySem.W.Frag} (hK : X.K = K) : CallR X (.builtin "sorted") (fun as H Q => ∃ (l : Addr) (xs : List V) (ds : List (List Key)) (sh : List Bool), as = [.ref l] /\ SqL K H l xs /\ TupsAt H xs ds /\ (∀ d ∈ ds, d.map isI = sh) /\ sh ≠ [] /\
  ∀ p, H p = none -> Q (.ref p) (upd H p (.lst (srt ds xs)))) := by
 subst hK
 intro pins s σ H as us Q I r h
 obtain ⟨l, xs, ds, sh, rfl, hq, ht, hsh, hne, q⟩ := h
 obtain ⟨u, rfl, ru⟩ := vals1 r
 cases (show u = Value.ref l from ru)
 obtain ⟨its, rv, pl, hz⟩ := I.list hq
 have hil : its.length = xs.length := rv.length.symm
 refine Calls.call_function_entry kind_sorted plain_sorted entry_sorted (args_sorted1 _) ?_
 unfold Builtin.«sorted»
 refine wpAny_bind (m := checkCount "sorted" 1 1 _) (wpAny_pure ?_)
 refine wpAny_bind (collect_list pl.isList ?_ (by rw [hil]; exact hz))
 have I1 : Inv X pins σ H { s with heap := (s.heap.push (seqObj "list" #[] 0)).update s.heap.objs.size (Obj.mapSeq (· ++ its.toArray)) } := I.kept (t' := s.toks) fun b o e => by
  rw [Heap.get?_update_ne _ _ _ _ (Nat.ne_of_lt (Heap.lt_size e))]
  exact Heap.get?_push_of_some _ e
 generalize (s.heap.push (seqObj "list" #[] 0)).update s.heap.objs.size (Obj.mapSeq (· ++ its.toArray)) = h1 at I1
 refine wpAny_bind (wpAny_newList (s := { s with heap := h1 }) ?_ (by rw [hil]; exact hz))
 have hoL : (h1.push (seqObj "list" its.toArray 0)).get? h1.objs.size = some (seqObj "list" its.toArray 0) := Heap.get?_push_size _ rfl
 have I2 : Inv X pins σ H { s with heap := h1.push (seqObj "list" its.toArray 0) } := I1.kept (t' := s.toks) fun b o e => Heap.get?_push_of_some _ e
 have fL : FpOk X pins H h1.objs.size := I1.fpOk (Nat.le_refl _) (I1.hok.fresh (Nat.le_refl _))
 change wpAny _ _ _ _ _ { s with heap := h1.push (seqObj "list" its.toArray 0) }
 dsimp only
 generalize h1.push (seqObj "list" its.toArray 0) = h2 at hoL I2
 generalize h1.objs.size = L at hoL fL
 refine wpAny_bind (wpAny_holding (wpAny_call_entry (s := { s with heap := h2 }) slot_list_sort ⟨_, hoL, rfl⟩ entry_list_sort (lsortT I2 fL hoL rv hz ht hsh hne fun s' out n' I' hoa hos vy => ⟨_, rfl, ?_⟩) (args_list_sort _)))
 refine wpAny_pure ⟨_, rfl, .ref L, upd H L (.lst (srt ds xs)), I'.adopt fL ?_, rfl, q L fL.1⟩
 have hyl : (srt ds xs).length <= sizeLine := by rw [vy.length, Array.length_toList]; exact hos
 exact ⟨hyl, out.toList, n', vy, by simpa using hoa⟩
end
end L2
set_option Elab.async false
set_option linter.all false
set_option maxRecDepth 100000
set_option maxHeartbeats 4000000
namespace L2
open PySem PySem.Spec PyProof.Rows PySem.W
section
variable {X : Cx} {k : Nat} {f : Addr} {fd : FuncData} {ps : List Str} {sp : Sp} {dvs : List V} {ds : List Value} {pins : List (Addr × Obj)} {σ : St} {H : Hp} {s : Shared} {xs : List V} {ds' : List (List Key)} {sh : List Bool}
theorem lsort_treeT {A : Around} {E : Value -> Shared -> Prop} {a : Addr} {its : List Value} {n : Nat} {P : Fin -> Shared -> Prop} (F : FnOk X.prog X.w X.K X.mg X.base CX0 k f fd ps sp) (hr : Room k A)
  (hA : ∀ s H, Env0 X.prog X.w X.K X.mg X.base X.A X.stack s H -> Env0 X.prog X.w X.K X.mg X.base A X.stack s H) (hb : Binds X.K fd ps ds) (hd : Vals dvs ds)
  (I : Inv X pins σ H s) (fa : FpOk X pins H a) (ho : s.heap.get? a = some (seqObj "list" its.toArray n)) (rv : Vals xs its) (h64 : xs.length < 64) (hl : ds'.length = xs.length) (hsh : ∀ d ∈ ds', d.map isI = sh) (hne : sh ≠ [])
  (hk : ∀ (i : Nat) (x : V) (d : List Key) (H' : Hp), Same H H' -> xs[i]? = some x -> ds'[i]? = some d -> ∀ Q' : VK, (∀ t H2, Same H' H2 -> H2 t = some (.tup (d.map kV)) -> Q' (.ref t) H2) -> sp ([x] ++ dvs) H' Q' E0)
  (fin : ∀ (s' : Shared) (H' : Hp) (out : Array Value) (n' : Nat), Same H H' -> H' a = none -> Inv X pins σ H' s' -> s'.heap.get? a = some (seqObj "list" out n') -> out.size <= sizeLine -> Vals (srt ds' xs) out.toList -> P (.done (.ret .none)) s') :
  wpAny (model X.prog X.w) A (Builtin.«list.sort» ⟨[.ref a], [(Str.ofString "key", .ref f)]⟩) P E s := by
 have hil : its.length = xs.length := rv.length.symm
 have hz : its.length <= sizeLine := by rw [sizeLine_eq]; omega
 obtain ⟨f0, f1, f2, f3, f4, f5⟩ := id fa
 rw [lsort_key]
 refine wpAny_bind (listItems_at ho rfl ?_)
 refine wpAny_bind (listUpdate_at ho rfl ?_ (by rw [List.size_toArray]; exact hz) (by show (#[] : Array Value).size <= _; simp))
 obtain ⟨e1, ho1⟩ : ∃ e1, (s.heap.update a (Obj.mapSeq fun _ => #[])).get? a = some (seqObj "list" #[] e1) := ⟨_, get?_update_seq ho (fun _ => #[])⟩
 have I1 : Inv X pins σ H { s with heap := s.heap.update a (Obj.mapSeq fun _ => #[]) } := I.turned (t' := s.toks) (fun b o hb e => by rw [Heap.get?_update_ne _ _ _ _ hb]; exact e) f0 f1 f3 f4 f5
 generalize s.heap.update a (Obj.mapSeq fun _ => #[]) = h1 at ho1 I1
 refine wpAny_bind (seqEpoch_at (s := { s with heap := h1 }) ho1 rfl ?_)
 refine wpAny_bind (wpAny_newTuple (s := { s with heap := h1 }) ?_ (by simpa using hz))
 have ho2 := Heap.get?_push_of_some (seqObj "tuple" its.toArray.toList.toArray 0) ho1
 have I2 : Inv X pins σ H { s with heap := h1.push (seqObj "tuple" its.toArray.toList.toArray 0) } := I1.kept (t' := s.toks) fun b o e => Heap.get?_push_of_some _ e
 change wpAny _ _ _ _ _ { s with heap := h1.push (seqObj "tuple" its.toArray.toList.toArray 0) }
 generalize h1.push (seqObj "tuple" its.toArray.toList.toArray 0) = h2 at ho2 I2
 refine wpAny_bind (wpAny_newList (s := { s with heap := h2 }) ?_ (by simp))
 have ho3 := Heap.get?_push_of_some (seqObj "list" #[] 0) ho2
 have hK3 : (h2.push (seqObj "list" #[] 0)).get? h2.objs.size = some (seqObj "list" #[] 0) := Heap.get?_push_size _ rfl
 have fK : FpOk X pins H h2.objs.size := I2.fpOk (Nat.le_refl _) (I2.hok.fresh (Nat.le_refl _))
 have naK : a ≠ h2.objs.size := Nat.ne_of_lt (Heap.lt_size ho2)
 have I3 : Inv X pins σ H { s with heap := h2.push (seqObj "list" #[] 0) } := I2.kept (t' := s.toks) fun b o e => Heap.get?_push_of_some _ e
 change wpAny _ _ _ _ _ { s with heap := h2.push (seqObj "list" #[] 0) }
 generalize h2.push (seqObj "list" #[] 0) = h3 at ho3 hK3 I3
 dsimp only
 generalize h2.objs.size = K at hK3 fK naK
 obtain ⟨g0, g1, g2, g3, g4, g5⟩ := id fK
 refine wpAny_holding ?_
 refine wpAny_bind (wpAny_rule ?_)
 refine wpAny_bind ?_
 rw [<- Array.forIn_toList]
 refine wpAny_forIn_list _ (fun rest _ s' => ∃ (i : Nat) (kv : List Value) (kx : List V) (n' : Nat) (H' : Hp), rest = its.drop i /\ Same H H' /\ H' a = none /\ H' K = none /\ Inv X pins σ H' s' /\ s'.heap.get? a = some (seqObj "list" #[] e1) /\ s'.heap.get? K = some (seqObj "list" kv.toArray n') /\ Vals kx kv /\ TupsAt H' kx (ds'.take i) /\ i <= its.length) _ ?_ ?_ _ _
  ⟨0, [], [], 0, H, by simp, Same.refl _, f0, g0, I3, ho3, hK3, .nil, ⟨by simp, fun i x d h => by simp at h⟩, Nat.zero_le _⟩
 ·rintro x rest b s' ⟨i, kv, kx, n', H1, er, sm, na1, nK1, I', hoa, hoK, rk, tk, hi⟩
  have hlt : i < its.length := by
   have := congrArg List.length er
   simp at this
   omega
  have e2 : its[i]? = some x /\ its.drop (i + 1) = rest := by
   rw [List.drop_eq_getElem_cons hlt] at er
   obtain ⟨z1, z2⟩ := List.cons.inj er
   exact ⟨by rw [List.getElem?_eq_getElem hlt, z1], z2.symm⟩
  have hix : i < xs.length := by omega
  have hik : i < ds'.length := by omega
  obtain ⟨u, eu, ru⟩ := rv.get (List.getElem?_eq_getElem hix)
  rw [e2.1] at eu
  cases eu
  have r1 : Vals ([xs[i]] ++ dvs) ([x] ++ ds) := Vals.append (.cons ru .nil) hd
  have hsp := hk i xs[i] ds'[i] H1 sm (List.getElem?_eq_getElem hix) (List.getElem?_eq_getElem hik) (fun v H2 => ∃ t, v = .ref t /\ Same H1 H2 /\ H2 t = some (.tup (ds'[i].map kV))) fun t H2 a b => ⟨t, rfl, a, b⟩
  have hlen : ([x] ++ ds).length = ps.length := by rw [<- r1.length]; exact F.len _ _ _ _ hsp
  have ho2' : ∀ b ∈ [a, K], ∃ o, s'.heap.get? b = some o /\ ∀ v, o.data ≠ .cell v := by
   intro b hb
   rcases List.mem_cons.mp hb with z | z
   ·subst z; exact ⟨_, hoa, fun v z => nomatch z⟩
   ·have z : b = K := by simpa using z
    subst z; exact ⟨_, hoK, fun v z => nomatch z⟩
  have hf2 : ∀ b ∈ [a, K], FpOk X pins H1 b := by
   intro b hb
   rcases List.mem_cons.mp hb with z | z
   ·subst z; exact ⟨na1, fa.2⟩
   ·have z : b = K := by simpa using z
    subst z; exact ⟨nK1, fK.2⟩
  have Ip := I'.pinned hf2 ho2'
  refine wpAny_bind (wpAny_attempt ?_)
  refine wpAny_call (codeAny_mono (F.run A X.stack s' H1 ⟨[x], []⟩ ([x] ++ ds) ([xs[i]] ++ dvs) _ E0 hr (hA _ _ I'.env0) (hb s' [x] I'.kIn hlen) r1 hsp) fun r s2 hq => ?_)
  cases r with
  | error e => exact False.elim hq
  | ok fl =>
   cases fl with
   | next => exact False.elim hq
   | brk => exact False.elim hq
   | cont => exact False.elim hq
   | ret u =>
    obtain ⟨v, H2, os, bare, un, hok, rr, t, ev, sm2, ht2⟩ := (show CE X.stack X.prog X.w H1 s' _ u s2 from hq)
    subst ev
    cases (show u = Value.ref t from rr)
    have I2' := Ip.call' os un hok bare (fun b z => absurd z (by simp))
    have pa := I2'.pin (a, _) (List.mem_append_right _ (List.mem_append_right _ (mem_pinsAt (by simp) hoa)))
    have pK := I2'.pin (K, _) (List.mem_append_right _ (List.mem_append_right _ (mem_pinsAt (by simp) hoK)))
    have hoa2 := pa.1
    have hoK2 := pK.1
    have I3' := I2'.unpinned
    have hxl : kx.length = i := by
     have := tk.1
     rw [List.length_take] at this
     omega
    have hkl : kv.length <= 64 := by
     have := rk.length
     omega
    dsimp only
    refine wpAny_bind (listUpdate_at hoK2 rfl ?_ (by rw [List.size_toArray, sizeLine_eq]; omega) (by rw [Array.size_push, List.size_toArray, sizeLine_eq]; omega))
    obtain ⟨n2, hn2⟩ : ∃ n2, (s2.heap.update K (Obj.mapSeq (·.push (Value.ref t)))).get? K = some (seqObj "list" (kv ++ [Value.ref t]).toArray n2) := ⟨_, (get?_update_seq hoK2 (·.push (Value.ref t))).trans (by rw [List.push_toArray])⟩
    refine wpAny_pure ⟨i + 1, kv ++ [Value.ref t], kx ++ [.ref t], n2, H2, e2.2.symm, sm.trans sm2, pa.2.1, pK.2.1, I3'.turned (t' := s2.toks) (fun b o hb e => by rw [Heap.get?_update_ne _ _ _ _ hb]; exact e) pK.2.1 g1 g3 g4 g5, ?_, hn2, rk.append (.cons (show RelV (.ref t) (Value.ref t) from rfl) .nil), ?_, hlt⟩
    ·show (s2.heap.update K _).get? a = _
     rw [Heap.get?_update_ne _ _ _ _ naK]; exact hoa2
    ·rw [List.take_succ_eq_append_getElem hik]
     refine ⟨by simp only [List.length_append, List.length_take, List.length_cons, List.length_nil]; omega, fun j y d hy hd' => ?_⟩
     by_cases hj : j < i
     ·rw [List.getElem?_append_left (by omega)] at hy
      rw [List.getElem?_append_left (by rw [List.length_take]; omega)] at hd'
      obtain ⟨t', a1, a2⟩ := tk.2 j y d hy hd'
      exact ⟨t', a1, sm2 _ _ a2⟩
     ·rw [List.getElem?_append_right (by omega)] at hy
      rw [List.getElem?_append_right (by rw [List.length_take]; omega)] at hd'
      have hj2 := (List.getElem?_eq_some_iff.mp hy).1
      have hji : j - kx.length = 0 := by simp at hj2; omega
      rw [hji] at hy
      rw [show j - (List.take i ds').length = 0 by rw [List.length_take]; omega] at hd'
      have y1 : V.ref t = y := by simpa using hy
      have d1 : ds'[i] = d := by simpa using hd'
      exact ⟨t, y1.symm, by rw [<- d1]; exact ht2⟩
 ·rintro b s' ⟨i, kv, kx, n', H1, er, sm, na1, nK1, I', hoa, hoK, rk, tk, hi⟩
  have hi' : i = its.length := by
   have := congrArg List.length er
   simp at this
   omega
  have tk' : TupsAt H1 kx ds' := by
   rw [hi', List.take_of_length_le (by omega)] at tk
   exact tk
  have hkl : kv.length = its.length := by rw [<- rk.length, tk'.1]; omega
  clear tk er hi hi'
  have hdl : ds'.length = its.length := by omega
  refine wpAny_bind (listItems_at hoK rfl ?_)
  have last : ∀ st' : SortSt, failedOf st' = none -> ((arrOf st').map (·.2)).size = its.length -> Vals (srt ds' xs) ((arrOf st').map (·.2)).toList -> wpAny (model X.prog X.w) A (do
    Builtin.List.listUpdate (.ref K) fun _ => #[]
    letGo ((arrOf st').map (·.1)).toList (failedOf st').toList
    let touched := (<- seqEpoch a) != e1
    Builtin.List.listUpdate (.ref a) fun _ => (arrOf st').map (·.2)
    if let some e := failedOf st' then rule "list.sort.comparison-raised"; throw e
    if touched then rule "list.sort.modified"; raiseError "ValueError" "list modified during sort"
    ret .none) P E s' := by
   intro st' hf hsz vy
   refine wpAny_bind (listUpdate_at hoK rfl ?_ (by rw [List.size_toArray]; omega) (by show (#[] : Array Value).size <= _; simp))
   refine wpAny_bind (wpAny_letGo ?_)
   have hoa2 : (s'.heap.update K (Obj.mapSeq fun _ => #[])).get? a = some (seqObj "list" #[] e1) := by rw [Heap.get?_update_ne _ _ _ _ naK]; exact hoa
   have I2 : Inv X pins σ H1 { s' with heap := s'.heap.update K (Obj.mapSeq fun _ => #[]) } := I'.turned (t' := s'.toks) (fun b o hb e => by rw [Heap.get?_update_ne _ _ _ _ hb]; exact e) nK1 g1 g3 g4 g5
   refine wpAny_bind (seqEpoch_at (s := { s' with heap := s'.heap.update K (Obj.mapSeq fun _ => #[]) }) hoa2 rfl ?_)
   refine wpAny_bind (listUpdate_at (s := { s' with heap := s'.heap.update K (Obj.mapSeq fun _ => #[]) }) hoa2 rfl ?_ (by simp) (by rw [hsz]; omega))
   rw [hf]
   simp only [bne_self_eq_false, Bool.false_eq_true, if_false]
   exact wpAny_pure (fin _ H1 _ _ sm na1 (I2.turned (t' := s'.toks) (fun b o hb e => by rw [Heap.get?_update_ne _ _ _ _ hb]; exact e) na1 f1 f3 f4 f5) (get?_update_seq hoa2 (fun _ => (arrOf st').map (·.2))) (by show ((arrOf st').map (·.2)).size <= _; rw [hsz]; exact hz) vy)
  by_cases h2 : its.toArray.size < 2
  ·rw [if_pos h2, if_pos h2]
   refine wpAny_bind (wpAny_pure ?_)
   rw [StateT.run_pure]
   refine wpAny_bind (wpAny_pure ?_)
   have e : ((arrOf (SortSt.mk' general' (kv.toArray.zip its.toArray) #[] 7 none)).map (·.2)) = its.toArray := by
    show (kv.toArray.zip its.toArray).map (·.2) = its.toArray
    rw [<- Array.toList_inj]
    simp [List.map_snd_zip, hkl]
   refine last _ rfl (by rw [e, List.size_toArray]) ?_
   rw [e]
   rw [List.size_toArray] at h2
   unfold srt srtI
   rw [if_pos (by rw [hdl]; exact h2), hdl, hil, range_pick]
   exact rv
  ·rw [if_neg h2, if_neg h2]
   rw [List.size_toArray] at h2
   have hnn : ∀ d ∈ ds', d ≠ [] := fun d hd z => hne (by rw [<- hsh d hd, z]; rfl)
   obtain ⟨fs, kt, kl, kf⟩ := katTups_of I' rk tk' hnn
   have hds : 2 <= its.length := by omega
   obtain ⟨b0, sh', rfl⟩ : ∃ b r, sh = b :: r := by
    cases sh with
    | nil => exact absurd rfl hne
    | cons b r => exact ⟨b, r, rfl⟩
   refine wpAny_bind (kat_kind (T := if b0 = true then Value.type "int" else Value.type "str") kt (by rw [kl, hdl]; omega) (fun v hv => ?_) (by cases b0 <;> rfl) ?_)
   ·obtain ⟨i, hi⟩ := List.mem_iff_getElem?.mp hv
    have hil2 := (List.getElem?_eq_some_iff.mp hi).1
    have hid : i < ds'.length := by rw [<- kl]; exact hil2
    obtain ⟨k, r, ed, rk⟩ := kf i v ds'[i] hi (List.getElem?_eq_getElem hid)
    have hs := hsh ds'[i] (List.getElem_mem hid)
    rw [ed, List.map_cons] at hs
    have hb : isI k = b0 := (List.cons.inj hs).1
    cases k with
    | inl m =>
     obtain ⟨t, rfl⟩ := (show ∃ t, v = Value.int m t from rk)
     rw [<- hb]
     exact fun A Q E s _ q => wpAny_pure q
    | inr z =>
     obtain ⟨t, rfl⟩ := (show ∃ t, v = Value.str z t from rk)
     rw [<- hb]
     exact fun A Q E s _ q => wpAny_pure q
   refine wpAny_bind (wpAny_mono (sort_any (vs := its) (ks := kv) (lt := ordN ds') hkl hds fun i j hi hj C hC => ?_) ?_ fun _ _ e => e)
   ·have one : ∀ i, i < its.length -> ∃ (t : Addr) (o : Obj) (vs : List Value) (m : Nat), kv.getD i Value.none = .ref t /\ s'.heap.get? t = some o /\ o.data = .seq vs.toArray m /\ Vals ((ds'.getD i []).map kV) vs /\ (ds'.getD i []).map isI = b0 :: sh' := fun i hi => by
     have hix : i < kx.length := by rw [tk'.1, hdl]; exact hi
     have hid : i < ds'.length := by rw [hdl]; exact hi
     obtain ⟨t, ex, hH⟩ := tk'.2 i kx[i] ds'[i] (List.getElem?_eq_getElem hix) (List.getElem?_eq_getElem hid)
     obtain ⟨o, vs, m, ho, hc, hd, rd⟩ := tups_heap I' hH
     have rg := vals_getD rk i hix
     have e1 : kx.getD i .non = .ref t := by rw [List.getD_eq_getElem?_getD, List.getElem?_eq_getElem hix, ex]; rfl
     have e2 : ds'.getD i [] = ds'[i] := by rw [List.getD_eq_getElem?_getD, List.getElem?_eq_getElem hid]; rfl
     rw [e1] at rg
     exact ⟨t, o, vs, m, rg, ho, hd, by rw [e2]; exact rd, by rw [e2]; exact hsh _ (List.getElem_mem hid)⟩
    obtain ⟨t1, o1, v1, m1, a1, a2, a3, a4, a5⟩ := one i hi
    obtain ⟨t2, o2, v2, m2, c1, c2, c3, c4, c5⟩ := one j hj
    show wpAny (model X.prog X.w) A (keyLt' _ (kv.getD i Value.none) (kv.getD j Value.none)) C _ s'
    rw [a1, c1]
    have hl : v1.length = v2.length := by
     have q1 := a4.length
     have q2 := c4.length
     have q3 := congrArg List.length (a5.trans c5.symm)
     simp only [List.length_map] at q1 q2 q3
     omega
    refine kat_lt a2 a3 c2 c3 ?_
    rw [decide_eq_false (by simp [hl])]
    exact katLex_ok 0 a4 c4 (a5.trans c5.symm) hC
   rintro ⟨⟨⟩, st'⟩ s2 ⟨rfl, hf, hsz, ha⟩
   have hp : Ent its.length (pickN its.length (ordN ds')) := pickN_ent _ (by omega)
   have em : ((arrOf st').map (·.2)).toList = (pickN its.length (ordN ds')).toList.map fun i => its.getD i Value.none := by
    rw [ha, Array.toList_map, Array.toList_map, List.map_map]
    refine List.map_congr_left fun i _ => ?_
    show (kas_item (kv.toArray.zip its.toArray) i).2 = _
    rw [kat_item hkl]
   refine last st' hf (by rw [Array.size_map, hsz]) ?_
   rw [em]
   unfold srt srtI
   rw [if_neg (by rw [hdl]; exact h2), hdl]
   exact vals_pick rv _ fun i hi => by rw [<- hil]; exact hp i hi
theorem call_sortedKT {Q : VK} {l : Addr} (F : FnOk X.prog X.w X.K X.mg X.base CX0 k f fd ps sp) (hr : Room (k + 2) X.A) (hb : Binds X.K fd ps ds) (hd : Vals dvs ds)
  (I : Inv X pins σ H s) (hq : SqL X.K H l xs) (h64 : xs.length < 64) (hl : ds'.length = xs.length) (hsh : ∀ d ∈ ds', d.map isI = sh) (hne : sh ≠ [])
  (hk : ∀ (i : Nat) (x : V) (d : List Key) (H' : Hp), Same H H' -> xs[i]? = some x -> ds'[i]? = some d -> ∀ Q' : VK, (∀ t H2, Same H' H2 -> H2 t = some (.tup (d.map kV)) -> Q' (.ref t) H2) -> sp ([x] ++ dvs) H' Q' E0)
  (q : ∀ p H', Same H H' -> H' p = none -> Q (.ref p) (upd H' p (.lst (srt ds' xs)))) :
  wpAny (model X.prog X.w) X.A (call (.builtin "sorted") [.ref l] [(Str.ofString "key", .ref f)]) (EP X pins σ Q) X.xe s := by
 obtain ⟨its, rv, pl, hz⟩ := I.list hq
 have hil : its.length = xs.length := rv.length.symm
 refine call_function_entry_kw kind_sorted plain_sorted entry_sorted (args_sorted_key _ _) ?_
 unfold Builtin.«sorted»
 refine wpAny_bind (m := checkCount "sorted" 1 1 _) (wpAny_pure ?_)
 refine wpAny_bind (collect_list pl.isList ?_ (by rw [hil]; exact hz))
 have I1 : Inv X pins σ H { s with heap := (s.heap.push (seqObj "list" #[] 0)).update s.heap.objs.size (Obj.mapSeq (· ++ its.toArray)) } := I.kept (t' := s.toks) fun b o e => by
  rw [Heap.get?_update_ne _ _ _ _ (Nat.ne_of_lt (Heap.lt_size e))]
  exact Heap.get?_push_of_some _ e
 generalize (s.heap.push (seqObj "list" #[] 0)).update s.heap.objs.size (Obj.mapSeq (· ++ its.toArray)) = h1 at I1
 refine wpAny_bind (wpAny_newList (s := { s with heap := h1 }) ?_ (by rw [hil]; exact hz))
 have hoL : (h1.push (seqObj "list" its.toArray 0)).get? h1.objs.size = some (seqObj "list" its.toArray 0) := Heap.get?_push_size _ rfl
 have I2 : Inv X pins σ H { s with heap := h1.push (seqObj "list" its.toArray 0) } := I1.kept (t' := s.toks) fun b o e => Heap.get?_push_of_some _ e
 have fL : FpOk X pins H h1.objs.size := I1.fpOk (Nat.le_refl _) (I1.hok.fresh (Nat.le_refl _))
 change wpAny _ _ _ _ _ { s with heap := h1.push (seqObj "list" its.toArray 0) }
 dsimp only
 generalize h1.push (seqObj "list" its.toArray 0) = h2 at hoL I2
 generalize h1.objs.size = L at hoL fL
 have hr2 : Room k X.A.in1.in1 := (Room.in1 (k := k + 1) hr).in1
 refine wpAny_bind (wpAny_holding (wpAny_call_entry_kw (s := { s with heap := h2 }) slot_list_sort ⟨_, hoL, rfl⟩ entry_list_sort (lsort_treeT F hr2 (fun _ _ e => e.in1.in1) hb hd I2 fL hoL rv h64 hl hsh hne hk fun s' H' out n' sm nL I' hoa hos vy => ⟨_, rfl, ?_⟩) (args_lsort_key _ _)))
 refine wpAny_pure ⟨_, rfl, .ref L, upd H' L (.lst (srt ds' xs)), I'.adopt ⟨nL, fL.2⟩ ?_, rfl, q L H' sm nL⟩
 have hyl : (srt ds' xs).length <= sizeLine := by rw [vy.length, Array.length_toList]; exact hos
 exact ⟨hyl, out.toList, n', vy, by simpa using hoa⟩
end
noncomputable def tSortKT (sp : Sp) (dvs : List V) (K : PySem.W.Frag) (t : TE) : TE := fun σ H Q => t σ H fun x H1 => ∃ (l : Addr) (xs : List V) (ds' : List (List Key)) (sh : List Bool), x = .ref l /\ SqL K H1 l xs /\ xs.length < 64 /\ ds'.length = xs.length /\ (∀ d ∈ ds', d.map isI = sh) /\ sh ≠ [] /\
 (∀ (i : Nat) (x : V) (d : List Key) (H' : Hp), Same H1 H' -> xs[i]? = some x -> ds'[i]? = some d -> ∀ Q' : VK, (∀ t H2, Same H' H2 -> H2 t = some (.tup (d.map kV)) -> Q' (.ref t) H2) -> sp ([x] ++ dvs) H' Q' E0) /\ ∀ p H', Same H1 H' -> H' p = none -> Q (.ref p) (upd H' p (.lst (srt ds' xs)))
theorem pe_sortKT {X : Cx} {k : Nat} {f : Addr} {fd : FuncData} {ps : List Str} {sp : Sp} {dvs : List V} {ds : List Value} {K : PySem.W.Frag} {e : Expr} {t : TE} {y : Str} {p p2 p3 pos : Pos} (hK : X.K = K) (F : FnOk X.prog X.w X.K X.mg X.base CX0 k f fd ps sp) (hr : Room (k + 2) X.A) (hb : Binds X.K fd ps ds) (hd : Vals dvs ds)
  (hg : Gl X "sorted") (hm : X.mg "sorted" = none) (hgf : Gl X y) (hmf : X.mg y = some (.ref f)) (he : PE X e t) (hy : (y == ("__debug__" : Str)) = false := by decide)
  (hs : starEach [e] X.env = (false, eval e X.env) :: starEach [] X.env := by rfl) :
  PE X (.Call (.Name "sorted" p) [e] [⟨some "key", .Name y p2, p3⟩] pos) (tSortKT sp dvs K t) := by
 intro pins s σ H Q I h
 subst hK
 refine wpAny_Call_Name_kw (ld_blt I hg hm (show bootBuiltins "sorted" = some (.builtin "sorted") from by decide +kernel) ?_)
 refine callWith_kw ?_ (by rw [hs]; rfl) (by rw [hs]; rfl)
 rw [hs]
 show wpAny _ _ (spliced ((false, eval e X.env) :: backTo pos (starEach [] X.env))) _ _ s
 refine Calls.spliced_cons (thn (he pins s σ H _ I h) fun u s1 ⟨x, H1, I1, r1, q1⟩ => Calls.spliced_nil ?_)
 obtain ⟨l, xs, ds', sh, e1, hq, h64, hl, hsh, hne, hk, q⟩ := q1
 subst e1
 cases (show u = Value.ref l from r1)
 refine thn ((pk_cons (te := fun _ H Q => Q (.ref f) H) (fun pins s σ H Q I h => ld_glob I hgf hmf ⟨.ref f, H, I, rfl, h⟩ hy) pk_nil) pos pins s1 σ H1 (fun zs H2 => zs = [.ref f] /\ H2 = H1) I1 ⟨rfl, rfl⟩) fun ws s2 hsl53 => ?_
 obtain ⟨zs, H2, I2, rz, ez, eH⟩ := hsl53
 subst ez eH
 obtain ⟨u, rfl, ru⟩ := vals1 rz
 cases (show u = Value.ref f from ru)
 exact call_sortedKT F hr hb hd I2 hq h64 hl hsh hne hk q
end L2
set_option linter.all false
namespace Mm
end Mm
set_option Elab.async false
set_option linter.all false
set_option maxRecDepth 100000
namespace Mm
open PySem L2 PyProof.Rows
end Mm
set_option Elab.async false
set_option linter.all false
set_option maxRecDepth 100000
set_option maxHeartbeats 4000000
namespace L2
open PySem PySem.Spec PyProof.Rows
section
variable {X : Cx} {tg : Expr}
end
end L2
set_option Elab.async false
set_option linter.all false
set_option maxRecDepth 100000
set_option maxHeartbeats 4000000
namespace L2
open PySem PySem.Spec PyProof.Rows
section
variable {X : Cx}
theorem op_in_seqK {K : PySem.W.Frag} (hK : X.K = K) : OpR X (compareOp .In) (rIn K false) := by subst hK; exact op_in_seq
theorem op_notIn_seqK {K : PySem.W.Frag} (hK : X.K = K) : OpR X (compareOp .NotIn) (rIn K true) := by subst hK; exact op_notIn_seq
end
section
variable {js : List Nat} {tt : TT} {te : TE}
end
end L2
namespace Mm
open PySem L2 PyProof.Rows
noncomputable def ops7 : List Str := ["+", "-", "*", "less", "same", "and", "or"]
inductive Ex where
 | num (n : Int)
 | truth (z : Str)
 | name (z : Str)
 | not (e : Ex)
 | op (w : Str) (a b : Ex)
 | of (n : Str) (e : Ex)
 | many (w n : Str) (es : List Ex)
mutual
inductive ExAt (H : Hp) : V -> Ex -> Prop where
 | num {t : Addr} {n : Int} : H t = some (.tup [.str "num", .int n]) -> ExAt H (.ref t) (.num n)
 | truth {t : Addr} {z : Str} : H t = some (.tup [.str "truth", .str z]) -> ExAt H (.ref t) (.truth z)
 | name {t : Addr} {z : Str} : H t = some (.tup [.str "name", .str z]) -> ExAt H (.ref t) (.name z)
 | not {t : Addr} {v : V} {e : Ex} : H t = some (.tup [.str "not", v]) -> ExAt H v e -> ExAt H (.ref t) (.not e)
 | op {t : Addr} {z : Str} {v u : V} {a b : Ex} : H t = some (.tup [.str z, v, u]) -> ExAt H v a -> ExAt H u b -> ExAt H (.ref t) (.op z a b)
 | of {t : Addr} {n : Str} {v : V} {e : Ex} : H t = some (.tup [.str "of", .str n, v]) -> ExAt H v e -> ExAt H (.ref t) (.of n e)
 | many {t l : Addr} {z n : Str} {vs : List V} {es : List Ex} : H t = some (.tup [.str z, .str n, .ref l]) -> H l = some (.tup vs) -> ExsAt H vs es -> ExAt H (.ref t) (.many z n es)
inductive ExsAt (H : Hp) : List V -> List Ex -> Prop where
 | nil : ExsAt H [] []
 | cons {v : V} {vs : List V} {e : Ex} {es : List Ex} : ExAt H v e -> ExsAt H vs es -> ExsAt H (v :: vs) (e :: es)
end
noncomputable def TupS (H H' : Hp) : Prop := ∀ b xs, H b = some (.tup xs) -> H' b = some (.tup xs)
mutual
theorem ExAt.kept {H H' : Hp} (s : TupS H H') : ∀ {v : V} {e : Ex}, ExAt H v e -> ExAt H' v e
 | _, _, .num h => .num (s _ _ h)
 | _, _, .truth h => .truth (s _ _ h)
 | _, _, .name h => .name (s _ _ h)
 | _, _, .not h a => .not (s _ _ h) (a.kept s)
 | _, _, .op h a b => .op (s _ _ h) (a.kept s) (b.kept s)
 | _, _, .of h a => .of (s _ _ h) (a.kept s)
 | _, _, .many h l a => .many (s _ _ h) (s _ _ l) (a.kept s)
theorem ExsAt.kept {H H' : Hp} (s : TupS H H') : ∀ {vs : List V} {es : List Ex}, ExsAt H vs es -> ExsAt H' vs es
 | _, _, .nil => .nil
 | _, _, .cons a b => .cons (a.kept s) (b.kept s)
end
theorem _root_.L2.Same.tups {H H' : Hp} (s : Same H H') : TupS H H' := fun _ _ h => s _ _ h
end Mm
set_option Elab.async false
set_option linter.all false
set_option maxRecDepth 100000
set_option maxHeartbeats 4000000
namespace L2
open PySem PySem.Spec PyProof.Rows PySem.W
theorem op_catTK {X : Cx} {K : PySem.W.Frag} (hK : X.K = K) : OpR X (binaryOp .Add) (rCatT K) := by subst hK; exact op_catT
theorem bt_sorted : bootBuiltins "sorted" = some (.builtin "sorted") := by decide +kernel
theorem pe_no {X : Cx} {e : Expr} : PE X e (fun _ _ _ => False) := fun _ _ _ _ _ _ h => h.elim
theorem sz_swaps (f g : Nat -> Nat) : ∀ (l : List Nat) (p : Array Nat), (l.foldl (fun a k => a.swapIfInBounds (f k) (g k)) p).size = p.size
 | [], _ => rfl
 | k :: l, p => by
  show (l.foldl _ (p.swapIfInBounds (f k) (g k))).size = _
  rw [sz_swaps f g l]
  simp
noncomputable def EntS (m n : Nat) (p : Array Nat) : Prop := Ent n p /\ p.size = m
theorem EntS.at {m n : Nat} {p : Array Nat} (h0 : 0 < n) (h : EntS m n p) (k : Nat) : p.getD k 0 < n := h.1.at h0 k
theorem EntS.rev {m n : Nat} {p : Array Nat} (h : EntS m n p) (i j : Nat) : EntS m n (kas_rev p i j) := ⟨h.1.rev i j, (kas_rev_size i j).trans h.2⟩
theorem EntS.bubble {m n : Nat} {p : Array Nat} (h : EntS m n p) (i d : Nat) : EntS m n (bubble p i d) := ⟨h.1.bubble i d, by
 have : (PyProof.Rows.bubble p i d).size = p.size := by unfold PyProof.Rows.bubble; exact sz_swaps (fun k => i - k) (fun k => i - k - 1) _ _
 exact this.trans h.2⟩
theorem askz_asc {zz n : Nat} (h0 : 0 < n) {p : Array Nat} (h : EntS zz n p) : ∀ k i, Asks n (fun _ => True) (kas_asc p k i)
 | 0, i => by unfold kas_asc; trivial
 | k + 1, i => by
  unfold kas_asc
  refine ⟨h.at h0 _, h.at h0 _, fun b => ?_⟩
  dsimp only
  split
  ·trivial
  ·exact askz_asc h0 h k (i + 1)
theorem askz_desc {zz n : Nat} (h0 : 0 < n) : ∀ k {p : Array Nat}, EntS zz n p -> ∀ i m, Asks n (fun r : Array Nat × Nat × Nat => EntS zz n r.1) (kas_desc k p i m)
 | 0, p, h, i, m => by unfold kas_desc; exact h
 | k + 1, p, h, i, m => by
  unfold kas_desc
  refine ⟨h.at h0 _, h.at h0 _, fun b => ?_⟩
  dsimp only
  split
  ·split
   ·exact askz_desc h0 k (h.rev _ _) _ _
   ·exact askz_desc h0 k h _ _
  ·refine ⟨h.at h0 _, h.at h0 _, fun b => ?_⟩
   dsimp only
   split
   ·exact h
   ·exact askz_desc h0 k h _ _
theorem askz_place {zz n : Nat} (h0 : 0 < n) {p : Array Nat} (h : EntS zz n p) (k : Nat) : ∀ f l r, Asks n (fun _ => True) (kas_place p k f l r)
 | 0, l, r => by unfold kas_place; trivial
 | f + 1, l, r => by
  unfold kas_place
  split
  ·trivial
  ·refine ⟨h.at h0 _, h.at h0 _, fun b => ?_⟩
   dsimp only
   split
   ·exact askz_place h0 h k f _ _
   ·exact askz_place h0 h k f _ _
theorem askz_bin {zz n : Nat} (h0 : 0 < n) : ∀ k {p : Array Nat}, EntS zz n p -> ∀ i, Asks n (EntS zz n) (kas_bin k p i)
 | 0, p, h, i => by unfold kas_bin; exact h
 | k + 1, p, h, i => by
  unfold kas_bin
  exact Asks.bind ((askz_place h0 h i i 0 i).mono fun l _ => askz_bin h0 k (h.bubble _ _) (i + 1))
theorem askz_tail {zz n : Nat} (h0 : 0 < n) {p : Array Nat} (h : EntS zz n p) (i j : Nat) : Asks n (fun r : Nat × Array Nat => EntS zz n r.2) (kas_tail3 i j p) := by
 unfold kas_tail3
 exact Asks.bind ((askz_asc h0 (h.rev _ _) _ _).mono fun m _ => h.rev _ _)
theorem askz_descP {zz n : Nat} (h0 : 0 < n) {p : Array Nat} (h : EntS zz n p) (i j : Nat) : Asks n (fun r : Nat × Array Nat => EntS zz n r.2) (kas_descPart i j p) := by
 unfold kas_descPart
 refine Asks.bind ((askz_desc h0 _ h _ _).mono fun r hr => ?_)
 try dsimp only
 split
 ·exact askz_tail h0 (hr.rev _ _) _ _
 ·exact askz_tail h0 hr _ _
theorem askz_count {zz n : Nat} (h0 : 0 < n) {p : Array Nat} (h : EntS zz n p) (j : Nat) : Asks n (fun r : Nat × Array Nat => EntS zz n r.2) (kas_count j p) := by
 unfold kas_count
 refine Asks.bind ((askz_asc h0 h _ _).mono fun i _ => ?_)
 try dsimp only
 split
 ·exact h
 ·split
  ·refine ⟨h.at h0 _, h.at h0 _, fun b => ?_⟩
   dsimp only
   split
   ·exact h
   ·exact askz_descP h0 (h.rev _ _) _ _
  ·exact askz_descP h0 h _ _
theorem askz_sort {n : Nat} (h0 : 0 < n) : Asks n (EntS n n) (kas_sort n) := by
 have h : EntS n n (List.range n).toArray := ⟨fun x hx => by simpa using hx, by simp⟩
 unfold kas_sort
 refine Asks.bind ((askz_count h0 h n).mono fun r hr => ?_)
 try dsimp only
 split
 ·exact askz_bin h0 _ hr _
 ·exact hr
theorem srtI_len (ds : List (List Key)) : (srtI ds).length = ds.length := by
 unfold srtI
 split
 ·simp
 ·rw [Array.length_toList]
  unfold pickN
  split
  ·exact (asks_run (P := EntS ds.length ds.length) (ordN ds) _ (askz_sort (by omega))).2
  ·exact (bigN_ok (ordN ds) (by omega)).1.1
theorem runT_bind {α β : Type} (lt : Nat -> Nat -> Bool) (f : α -> KasT β) : ∀ t : KasT α, runT lt (t.bind f) = runT lt (f (runT lt t))
 | .ret a => rfl
 | .ask i j k => runT_bind lt f (k (lt i j))
theorem range_at {n i : Nat} (h : i < n) : (List.toArray (List.range n)).getD i 0 = i := by simp [Array.getD, h]
theorem runT_asc {lt : Nat -> Nat -> Bool} {n : Nat} (h : ∀ i, i + 1 < n -> lt (i + 1) i = false) : ∀ f i, 1 <= i -> i + f = n -> runT lt (kas_asc (List.toArray (List.range n)) f i) = n
 | 0, i, h1, h2 => by unfold kas_asc; exact h2
 | f + 1, i, h1, h2 => by
  unfold kas_asc
  have e : lt ((List.toArray (List.range n)).getD i 0) ((List.toArray (List.range n)).getD (i - 1) 0) = false := by
   rw [range_at (by omega), range_at (by omega)]
   have := h (i - 1) (by omega)
   rw [Nat.sub_add_cancel h1] at this
   exact this
  show runT lt (if lt _ _ = true then _ else _) = n
  rw [e, if_neg (by decide)]
  exact runT_asc h f (i + 1) (by omega) (by omega)
theorem runT_sorted {lt : Nat -> Nat -> Bool} {n : Nat} (hn : 1 <= n) (h : ∀ i, i + 1 < n -> lt (i + 1) i = false) : runT lt (kas_sort n) = List.toArray (List.range n) := by
 unfold kas_sort kas_count
 rw [runT_bind, runT_bind, runT_asc h (n - 1) 1 (Nat.le_refl _) (by omega)]
 simp only [beq_self_eq_true, if_true, runT, Nat.lt_irrefl, if_false]
theorem srt_asc {ds : List (List Key)} {xs : List V} (h64 : ds.length < 64) (hl : ds.length = xs.length) (h : ∀ i, i + 1 < ds.length -> ltT (ds.getD (i + 1) []) (ds.getD i []) = false) : srt ds xs = xs := by
 unfold srt srtI
 split
 ·rw [hl, range_pick]
 ·unfold pickN
  rw [if_pos h64, runT_sorted (by omega) (lt := ordN ds) h]
  show (List.range ds.length).map _ = _
  rw [hl, range_pick]
end L2
namespace Mm
open PySem L2 PyProof.Rows
inductive Tr where
 | set (r : Nat) (n : Str) (e : Ex)
 | tell (r : Nat) (e : Ex)
 | iff (r : Nat) (e : Ex) (b o : List Tr)
 | whl (r : Nat) (e : Ex) (b : List Tr)
noncomputable def Tr.row : Tr -> Nat
 | .set r _ _ => r
 | .tell r _ => r
 | .iff r _ _ _ => r
 | .whl r _ _ => r
mutual
noncomputable def Tr.deep : Tr -> Nat
 | .set _ _ _ => 0
 | .tell _ _ => 0
 | .iff _ _ b o => max (deeps b) (deeps o)
 | .whl _ _ b => deeps b
noncomputable def deeps : List Tr -> Nat
 | [] => 0
 | t :: ts => max (t.deep + 1) (deeps ts)
end
inductive Part where
 | s (z : Str)
 | i (n : Nat)
 | e (x : Ex)
 | b (ts : List Tr)
noncomputable def Tr.parts : Tr -> List Part
 | .set r n e => [.s "set", .i r, .s n, .e e]
 | .tell r e => [.s "tell", .i r, .e e]
 | .iff r e b o => [.s "if", .i r, .e e, .b b, .b o]
 | .whl r e b => [.s "while", .i r, .e e, .b b]
theorem Tr.parts_len (t : Tr) : t.parts.length <= 5 := by cases t <;> simp [Tr.parts]
mutual
inductive SAt (H : Hp) (sh : Bool) : V -> Tr -> Prop where
 | mk {t : Addr} {vs : List V} {x : Tr} : H t = some (.tup vs) -> PsAt H sh vs x.parts -> SAt H sh (.ref t) x
inductive PsAt (H : Hp) (sh : Bool) : List V -> List Part -> Prop where
 | nil : PsAt H sh [] []
 | cons {v : V} {vs : List V} {p : Part} {ps : List Part} : PAt H sh v p -> PsAt H sh vs ps -> PsAt H sh (v :: vs) (p :: ps)
inductive PAt (H : Hp) (sh : Bool) : V -> Part -> Prop where
 | s (z : Str) : PAt H sh (.str z) (.s z)
 | i (n : Nat) : PAt H sh (.int (n : Int)) (.i n)
 | e {v : V} {x : Ex} : ExAt H v x -> PAt H sh v (.e x)
 | b {l : Addr} {xs : List V} {ts : List Tr} : H l = some (.lst xs) -> LAt H sh xs ts -> PAt H sh (.ref l) (.b ts)
inductive LAt (H : Hp) (sh : Bool) : List V -> List Tr -> Prop where
 | nil : LAt H sh [] []
 | cons {v : V} {vs : List V} {t : Tr} {ts : List Tr} : OAt H sh v t -> LAt H sh vs ts -> LAt H sh (v :: vs) (t :: ts)
inductive OAt (H : Hp) (sh : Bool) : V -> Tr -> Prop where
 | plain {v : V} {t : Tr} : sh = false -> SAt H sh v t -> OAt H sh v t
 | shared {p : Addr} {v : V} {t : Tr} : sh = true -> H p = some (.tup [.int 1, v]) -> SAt H sh v t -> OAt H sh (.ref p) t
end
structure LsS (H H' : Hp) : Prop where
 t : ∀ b xs, H b = some (.tup xs) -> H' b = some (.tup xs)
 l : ∀ b xs, H b = some (.lst xs) -> H' b = some (.lst xs)
 z : ∀ b o x, H b = some (.frz o x) -> H' b = some (.frz o x)
theorem LsS.refl (H : Hp) : LsS H H := ⟨fun _ _ h => h, fun _ _ h => h, fun _ _ _ h => h⟩
theorem LsS.trans {H H1 H2 : Hp} (a : LsS H H1) (b : LsS H1 H2) : LsS H H2 := ⟨fun _ _ h => b.1 _ _ (a.1 _ _ h), fun _ _ h => b.2 _ _ (a.2 _ _ h), fun _ _ _ h => b.z _ _ _ (a.z _ _ _ h)⟩
theorem LsS.seq {K : PySem.W.Frag} {H H' : Hp} (s : LsS H H') {a : Addr} {xs : List V} (h : SqL K H a xs) : SqL K H' a xs := by
 rcases h with (h | ⟨o, h⟩) | h
 ·exact .inl (.inl (s.2 _ _ h))
 ·exact .inl (.inr ⟨o, s.z _ _ _ h⟩)
 ·exact .inr h
theorem _root_.L2.Same.ls {H H' : Hp} (s : Same H H') : LsS H H' := ⟨fun _ _ h => s _ _ h, fun _ _ h => s _ _ h, fun _ _ _ h => s _ _ h⟩
mutual
theorem SAt.kept {H H' : Hp} {sh : Bool} (s : LsS H H') : ∀ {v : V} {t : Tr}, SAt H sh v t -> SAt H' sh v t
 | _, _, .mk h a => .mk (s.1 _ _ h) (a.kept s)
theorem PsAt.kept {H H' : Hp} {sh : Bool} (s : LsS H H') : ∀ {vs : List V} {ps : List Part}, PsAt H sh vs ps -> PsAt H' sh vs ps
 | _, _, .nil => .nil
 | _, _, .cons a b => .cons (a.kept s) (b.kept s)
theorem PAt.kept {H H' : Hp} {sh : Bool} (s : LsS H H') : ∀ {v : V} {p : Part}, PAt H sh v p -> PAt H' sh v p
 | _, _, .s z => .s z
 | _, _, .i n => .i n
 | _, _, .e a => .e (a.kept s.1)
 | _, _, .b l a => .b (s.2 _ _ l) (a.kept s)
theorem LAt.kept {H H' : Hp} {sh : Bool} (s : LsS H H') : ∀ {vs : List V} {ts : List Tr}, LAt H sh vs ts -> LAt H' sh vs ts
 | _, _, .nil => .nil
 | _, _, .cons a b => .cons (a.kept s) (b.kept s)
theorem OAt.kept {H H' : Hp} {sh : Bool} (s : LsS H H') : ∀ {v : V} {t : Tr}, OAt H sh v t -> OAt H' sh v t
 | _, _, .plain e a => .plain e (a.kept s)
 | _, _, .shared e h a => .shared e (s.1 _ _ h) (a.kept s)
end
theorem PsAt.length {H : Hp} {sh : Bool} : ∀ {vs : List V} {ps : List Part}, PsAt H sh vs ps -> vs.length = ps.length
 | _, _, .nil => rfl
 | _, _, .cons _ b => by simp [b.length]
theorem PsAt.get {H : Hp} {sh : Bool} : ∀ {vs : List V} {ps : List Part}, PsAt H sh vs ps -> ∀ {i : Nat} {v : V}, vs[i]? = some v -> ∃ p, ps[i]? = some p /\ PAt H sh v p
 | _, _, .nil, i, v, h => by simp at h
 | _, _, .cons a b, 0, v, h => by
  cases (show some _ = some v from h)
  exact ⟨_, rfl, a⟩
 | _, _, .cons a b, i + 1, v, h => b.get h
theorem PsAt.snoc {H : Hp} {sh : Bool} : ∀ {vs : List V} {ps : List Part} {v : V} {p : Part}, PsAt H sh vs ps -> PAt H sh v p -> PsAt H sh (vs ++ [v]) (ps ++ [p])
 | _, _, _, _, .nil, h => .cons h .nil
 | _, _, _, _, .cons a b, h => .cons a (b.snoc h)
theorem PAt.other {H : Hp} {sh sh' : Bool} {v : V} {p : Part} (h : PAt H sh v p) (n : ∀ ts, p ≠ .b ts) : PAt H sh' v p := by
 cases h with
 | s z => exact .s z
 | i m => exact .i m
 | e a => exact .e a
 | b _ _ => exact absurd rfl (n _)
theorem ExAt.tup {H : Hp} {v : V} {e : Ex} (h : ExAt H v e) : ∃ t xs, v = .ref t /\ H t = some (.tup xs) := by
 cases h with
 | num h => exact ⟨_, _, rfl, h⟩
 | truth h => exact ⟨_, _, rfl, h⟩
 | name h => exact ⟨_, _, rfl, h⟩
 | not h _ => exact ⟨_, _, rfl, h⟩
 | op h _ _ => exact ⟨_, _, rfl, h⟩
 | of h _ => exact ⟨_, _, rfl, h⟩
 | many h _ _ => exact ⟨_, _, rfl, h⟩
theorem kit_il (K : PySem.W.Frag) : PySem.W.kitOne K (.type "int") (.type "list") = some false := by rfl
theorem kit_sl (K : PySem.W.Frag) : PySem.W.kitOne K (.type "str") (.type "list") = some false := by rfl
theorem kit_tl (K : PySem.W.Frag) : PySem.W.kitOne K (.type "tuple") (.type "list") = some false := by rfl
theorem PAt.isL {K : PySem.W.Frag} {H : Hp} {sh : Bool} {v : V} {p : Part} (h : PAt H sh v p) : (∃ ts l xs, p = .b ts /\ v = .ref l /\ H l = some (.lst xs) /\ LAt H sh xs ts /\ TyOf K H v (.type "list") /\ PySem.W.kitOne K (.type "list") (.type "list") = some true) ∨
  (∀ ts, p ≠ .b ts) /\ ∃ t, TyOf K H v t /\ PySem.W.kitOne K t (.type "list") = some false := by
 cases h with
 | s z => exact .inr ⟨fun _ h => (nomatch h), _, .str z, kit_sl K⟩
 | i n => exact .inr ⟨fun _ h => (nomatch h), _, .int _, kit_il K⟩
 | e a =>
  obtain ⟨t, xs, rfl, ht⟩ := ExAt.tup a
  exact .inr ⟨fun _ h => (nomatch h), _, .tup ht, kit_tl K⟩
 | b h a => exact .inl ⟨_, _, _, rfl, rfl, h, a, .lst h, by rfl⟩
theorem LAt.length {H : Hp} {sh : Bool} : ∀ {vs : List V} {ts : List Tr}, LAt H sh vs ts -> vs.length = ts.length
 | _, _, .nil => rfl
 | _, _, .cons _ b => by simp [b.length]
theorem LAt.get {H : Hp} {sh : Bool} : ∀ {vs : List V} {ts : List Tr}, LAt H sh vs ts -> ∀ {i : Nat} {v : V}, vs[i]? = some v -> ∃ t, ts[i]? = some t /\ OAt H sh v t
 | _, _, .nil, i, v, h => by simp at h
 | _, _, .cons a b, 0, v, h => by
  cases (show some _ = some v from h)
  exact ⟨_, rfl, a⟩
 | _, _, .cons a b, i + 1, v, h => b.get h
theorem LAt.snoc {H : Hp} {sh : Bool} : ∀ {vs : List V} {ts : List Tr} {v : V} {t : Tr}, LAt H sh vs ts -> OAt H sh v t -> LAt H sh (vs ++ [v]) (ts ++ [t])
 | _, _, _, _, .nil, h => .cons h .nil
 | _, _, _, _, .cons a b, h => .cons a (b.snoc h)
mutual
noncomputable def Tr.flat : Tr -> List (Nat × Ex × Option Str)
 | .set r n e => [(r, e, some n)]
 | .tell r e => [(r, e, none)]
 | .iff r e b o => (r, e, none) :: (flats b ++ flats o)
 | .whl r e b => (r, e, none) :: flats b
noncomputable def flats : List Tr -> List (Nat × Ex × Option Str)
 | [] => []
 | t :: ts => t.flat ++ flats ts
end
noncomputable def Ex.plain : Ex -> Prop
 | .num _ => True
 | .truth _ => True
 | .name _ => True
 | .not e => e.plain
 | .op w a b => w ∈ ops7 /\ a.plain /\ b.plain
 | .of _ _ => False
 | .many _ _ _ => False
noncomputable def Ex.deep : Ex -> Nat
 | .num _ => 0
 | .truth _ => 0
 | .name _ => 0
 | .not e => e.deep + 1
 | .op _ a b => max a.deep b.deep + 1
 | .of _ _ => 0
 | .many _ _ _ => 0
mutual
noncomputable def Tr.asc : Tr -> Prop
 | .set _ _ e => e.plain
 | .tell _ e => e.plain
 | .iff _ e b o => e.plain /\ (b.length <= 20 /\ ascs b) /\ o.length <= 20 /\ ascs o
 | .whl _ e b => e.plain /\ b.length <= 20 /\ ascs b
noncomputable def ascs : List Tr -> Prop
 | [] => True
 | t :: ts => t.asc /\ (∀ u ∈ ts, t.row < u.row) /\ ascs ts
end
theorem ExsAt.get {H : Hp} : ∀ {vs : List V} {es : List Ex}, ExsAt H vs es -> ∀ {i : Nat} {v : V}, vs[i]? = some v -> ∃ e, es[i]? = some e /\ ExAt H v e
 | _, _, .nil, i, v, h => by simp at h
 | _, _, .cons a b, 0, v, h => by
  cases (show some _ = some v from h)
  exact ⟨_, rfl, a⟩
 | _, _, .cons a b, i + 1, v, h => ExsAt.get b h
theorem ExsAt.len {H : Hp} : ∀ {vs : List V} {es : List Ex}, ExsAt H vs es -> vs.length = es.length
 | _, _, .nil => rfl
 | _, _, .cons a b => by simp [ExsAt.len b]
theorem deep_part {t : Tr} {ts : List Tr} (h : Part.b ts ∈ t.parts) : deeps ts <= t.deep := by
 cases t with
 | set r n e => simp [Tr.parts] at h
 | tell r e => simp [Tr.parts] at h
 | iff r e b o =>
  simp [Tr.parts] at h
  rcases h with h | h <;> subst h <;> simp [Tr.deep] <;> omega
 | whl r e b => simp [Tr.parts] at h; subst h; simp [Tr.deep]
theorem asc_part {t : Tr} {ts : List Tr} (a : t.asc) (h : Part.b ts ∈ t.parts) : ts.length <= 20 /\ ascs ts := by
 cases t with
 | set r n e => simp [Tr.parts] at h
 | tell r e => simp [Tr.parts] at h
 | iff r e b o =>
  simp [Tr.parts] at h
  rcases h with h | h <;> subst h
  ·exact a.2.1
  ·exact a.2.2
 | whl r e b => simp [Tr.parts] at h; subst h; exact a.2
theorem deeps_mem : ∀ {ts : List Tr} {t : Tr}, t ∈ ts -> t.deep + 1 <= deeps ts
 | u :: ts, t, h => by
  rcases List.mem_cons.mp h with z | z
  ·subst z; simp [deeps]; omega
  ·have := deeps_mem z; simp [deeps]; omega
theorem ascs_mem : ∀ {ts : List Tr} {t : Tr}, ascs ts -> t ∈ ts -> t.asc
 | u :: ts, t, a, h => by
  rcases List.mem_cons.mp h with z | z
  ·subst z; exact a.1
  ·exact ascs_mem a.2.2 z
end Mm
set_option Elab.async false
set_option linter.all false
set_option maxRecDepth 100000
set_option maxHeartbeats 4000000
namespace L2
open PySem PySem.Spec PyProof.Rows
section
variable {prog : Program} {w : World} {A : Around} {E : Value -> Shared -> Prop} {s : Shared} {it d : Addr} {i ep : Nat} {es : Array DictEntry} {od : Obj}
theorem dkey_next {Q : Option Value -> Shared -> Prop} (hit : s.heap.IsKeyIter it d i es.size ep) (hod : s.heap.get? d = some od) (hdd : od.data = .dict es ep) (hlt : i < es.size)
  (hQ : ∀ h', h'.IsKeyIter it d (i + 1) es.size ep -> Heap.SameBut it s.heap h' -> Q (some es[i].key) { s with heap := h' }) : wpAny (model prog w) A (pyNext (.ref it)) Q E s := by
 have hT := hit.typeIs
 obtain ⟨o, ho, hc, hd⟩ := hit
 unfold pyNext
 refine wpAny_bind (wpAny_attempt (wpAny_callSpecial?_slot (name := Str.ofString "__next__") hT F.slot_dict_keyiterator_next (wpAny_call_entry F.slot_dict_keyiterator_next hT F.entry_dict_keyiterator_next ?_ (F.args_dict_keyiterator_next_1 _))))
 refine wpAny_bind (wpAny_pure (wpAny_bind (wpAny_bind ?_)))
 first | refine wpAny_bind (wpAny_typeNameOfWhole_keyiter hT (wpAny_pure (wpAny_bind (wpAny_fieldsOf ho hd ?_)))) | refine wpAny_bind (wpAny_typeNameOf_keyiter hT (wpAny_pure (wpAny_bind (wpAny_fieldsOf ho hd ?_))))
 simp only [show Builtin.Dict_items.ownsTuple "dict_keyiterator" = false by decide, Bool.false_eq_true, if_false]
 show wpAny _ _ (if (Value.ref d == Value.none) = true then _ else _) _ _ _
 rw [if_neg (show ¬ (Value.ref d == Value.none) = true from fun z => by cases z)]
 refine wpAny_bind (wpAny_pure (wpAny_bind (wpAny_dictEntries hod hdd ?_)))
 rw [if_neg (by simp)]
 refine wpAny_bind (wpAny_pure (wpAny_bind (wpAny_dictEpoch hod hdd ?_)))
 rw [if_neg (by simp)]
 refine wpAny_pure ?_
 simp only [show ¬ ((i : Int) < 0) by omega, if_false, Int.toNat_natCast, Array.getElem?_eq_getElem hlt]
 refine wpAny_bind ?_
 first | refine wpAny_bind (wpAny_typeNameOfWhole_keyiter hT (wpAny_pure (wpAny_bind (wpAny_isOneOf_keyiter hT ?_)))) | refine wpAny_bind (wpAny_typeNameOf_keyiter hT (wpAny_pure (wpAny_bind (wpAny_isOneOf_keyiter hT ?_))))
 show wpAny _ _ (setField (.ref it) 1 (rawInt ((i : Int) + 1)) >>= _) _ _ _
 refine wpAny_bind (wpAny_setField ho hd (by simp) (wpAny_bind (wpAny_holding ?_)))
 have hi2 : (s.heap.update it (Obj.mapFields (·.setIfInBounds 1 (rawInt ((i : Int) + 1))))).IsKeyIter it d (i + 1) es.size ep := by
  refine ⟨_, Heap.get?_update_self _ ho (Obj.isFreed_of_fields (Obj.data_mapFields hd _)), (Obj.cls_mapFields ..).trans hc, ?_⟩
  rw [Obj.data_mapFields hd]
  simp [rawInt]
 refine wpAny_bind (wpAny_isOneOf_keyiter (s := { s with heap := s.heap.update it (Obj.mapFields (·.setIfInBounds 1 (rawInt ((i : Int) + 1)))) }) hi2.typeIs ?_)
 show wpAny _ _ (pure es[i].key) _ _ _
 exact wpAny_pure (wpAny_pure ⟨_, rfl, wpAny_pure (hQ _ hi2 (Heap.SameBut.update ..))⟩)
theorem dkey_end {Q : Option Value -> Shared -> Prop} (hh : A.handled = none) (hit : s.heap.IsKeyIter it d i es.size ep) (hod : s.heap.get? d = some od) (hdd : od.data = .dict es ep) (hge : es.size <= i)
  (hQ : ∀ h', Heap.ExtBut it s.heap h' -> Q none { s with heap := h' }) : wpAny (model prog w) A (pyNext (.ref it)) Q E s := by
 have hT := hit.typeIs
 obtain ⟨o, ho, hc, hd⟩ := hit
 unfold pyNext
 refine wpAny_bind (wpAny_attempt (wpAny_callSpecial?_slot (name := Str.ofString "__next__") hT F.slot_dict_keyiterator_next (wpAny_call_entry F.slot_dict_keyiterator_next hT F.entry_dict_keyiterator_next ?_ (F.args_dict_keyiterator_next_1 _))))
 refine wpAny_bind (wpAny_pure (wpAny_bind (wpAny_bind ?_)))
 first | refine wpAny_bind (wpAny_typeNameOfWhole_keyiter hT (wpAny_pure (wpAny_bind (wpAny_fieldsOf ho hd ?_)))) | refine wpAny_bind (wpAny_typeNameOf_keyiter hT (wpAny_pure (wpAny_bind (wpAny_fieldsOf ho hd ?_))))
 simp only [show Builtin.Dict_items.ownsTuple "dict_keyiterator" = false by decide, Bool.false_eq_true, if_false]
 show wpAny _ _ (if (Value.ref d == Value.none) = true then _ else _) _ _ _
 rw [if_neg (show ¬ (Value.ref d == Value.none) = true from fun z => by cases z)]
 refine wpAny_bind (wpAny_pure (wpAny_bind (wpAny_dictEntries hod hdd ?_)))
 rw [if_neg (by simp)]
 refine wpAny_bind (wpAny_pure (wpAny_bind (wpAny_dictEpoch hod hdd ?_)))
 rw [if_neg (by simp)]
 refine wpAny_pure ?_
 simp only [show ¬ ((i : Int) < 0) by omega, if_false, Int.toNat_natCast, Array.getElem?_eq_none hge]
 refine wpAny_bind ?_
 first | refine wpAny_bind (wpAny_typeNameOfWhole_keyiter hT (wpAny_pure ?_)) | refine wpAny_bind (wpAny_typeNameOf_keyiter hT (wpAny_pure ?_))
 show wpAny _ _ (setField (.ref it) 0 .none >>= _) _ _ _
 refine wpAny_bind (wpAny_setField ho hd (by simp) ?_)
 show wpAny _ _ (newExc (.type "StopIteration") [] >>= _) _ _ _
 refine wpAny_bind ?_
 simp only [newExc, newTuple]
 refine wpAny_bind (wpAny_newObj_type (wpAny_bind (m := firstArgMember _ _) (wpAny_of_eq (a := Value.none) (by first | rfl | (simp only [firstArgMember]; rfl)) (wpAny_newObj_type ?_ (by size_fits)))) (by size_fits))
 simp only [raiseNew]
 refine wpAny_bind (wpAny_handled ?_)
 rw [show A.in1.handled = none from hh]
 refine (wpAny_bind (wpAny_pure (wpAny_throw ?_)))
 refine (wpAny_bind (wpAny_isInstance (T := "StopIteration") (b := true) ⟨_, Heap.get?_push_size _ rfl, rfl⟩ isSubtype_stop (wpAny_pure (hQ _ ?_))))
 exact ((Heap.SameBut.update ..).extBut.push _).push _
theorem dkey_iter {Q : Value -> Shared -> Prop} (hT : s.TypeIs (.ref d) "dict") (hd : (d == sysModules) = false) (hod : s.heap.get? d = some od) (hdd : od.data = .dict es ep)
  (hQ : Q (.ref s.heap.objs.size) { s with heap := s.heap.push { cls := .type "dict_keyiterator", data := .fields #[.ref d, .int 0 0, .int es.size 0, .int ep 0] } }) : wpAny (model prog w) A (pyIter (.ref d)) Q E s := by
 refine wpAny_pyIter_slot hT F.slot_dict_iter (wpAny_call_entry F.slot_dict_iter hT F.entry_dict_iter ?_ (F.args_dict_iter_1 _))
 unfold Builtin.«dict.__iter__» Builtin.Dict.dictSlotNone
 refine wpAny_bind (wpAny_bind (wpAny_notOrdered_dict hT ?_))
 show wpAny _ _ (pure (Value.ref d)) _ _ _
 refine wpAny_pure ?_
 show wpAny _ _ (Builtin.Dict.showsAll d >>= _) _ _ _
 unfold Builtin.Dict.showsAll
 rw [if_neg (show ¬ (d == sysModules) = true by rw [hd]; decide)]
 refine wpAny_bind (wpAny_pure (wpAny_bind (wpAny_dictEntries hod hdd (wpAny_bind (wpAny_dictEpoch hod hdd ?_)))))
 refine wpAny_bind (wpAny_newObj_type (wpAny_pure ⟨_, rfl, "dict_keyiterator", _, ⟨_, Heap.get?_push_size _ rfl, rfl⟩, F.slot_dict_keyiterator_next.lookup, ?_⟩))
 simpa [rawInt] using hQ
end
theorem dt_frz {P : Program} {w : World} {H : Hp} {h : Heap} {d : Addr} {od : Obj} {kvs : List (List Key × V)} {es : Array DictEntry} {ep : Nat} (ok : HOk P w H h) (e : H d = some (.frz od (.dT kvs))) (hdd : od.data = .dict es ep) :
  h.get? d = some od /\ es.size = kvs.length /\ ∀ (i : Nat) (hi : i < es.size) kv, kvs[i]? = some kv -> ∃ b, es[i].key = .ref b /\ H b = some (.tup (kv.1.map kV)) := by
 obtain ⟨hod, _, _, xs, r, o, es', ep', h1, _, h3, h4, _⟩ := (show ObjOk P w H h d (.frz od (.dT kvs)) from ok d _ e)
 rw [hod] at h1
 cases h1
 rw [hdd] at h3
 cases h3
 have hl : es.size = xs.length := by rw [<- Array.length_toList, h4, List.length_map]
 refine ⟨hod, by rw [hl]; exact (Paired.length r).symm, fun i hi kv hk => ?_⟩
 have hix : i < xs.length := by omega
 have ek : es[i] = entryOfKey (tupleKind (mixKind P w)) xs[i] := by
  have := congrArg (fun l => l[i]?) h4
  simp only [List.getElem?_map, List.getElem?_eq_getElem hix] at this
  rw [Array.getElem?_toList, Array.getElem?_eq_getElem hi] at this
  exact Option.some.inj this
 have pr : ∀ {l : List (List Key × V)} {m : List (List Key × Addr × Value)}, Paired (fun (p : List Key × V) (q : List Key × Addr × Value) => p.1 = q.1 /\ H q.2.1 = some (.tup (p.1.map kV)) /\ RelV p.2 q.2.2) l m -> ∀ (i : Nat) p q, l[i]? = some p -> m[i]? = some q -> H q.2.1 = some (.tup (p.1.map kV)) := by
  intro l m pq
  induction pq with
  | nil => intro i p q h; simp at h
  | cons hq _ ih =>
   intro i p q h1 h2
   cases i with
   | zero =>
    simp only [List.getElem?_cons_zero, Option.some.injEq] at h1 h2
    subst h1 h2
    exact hq.2.1
   | succ j =>
    simp only [List.getElem?_cons_succ] at h1 h2
    exact ih j p q h1 h2
 exact ⟨xs[i].2.1, by rw [ek]; rfl, pr r i kv xs[i] hk (List.getElem?_eq_getElem hix)⟩
section
variable {X : Cx} {tg : Expr}
theorem Inv.freeze {pins : List (Addr × Obj)} {σ : St} {H : Hp} {s : Shared} {d : Addr} {kvs : List (List Key × V)} {od : Obj} (I : Inv X pins σ H s) (e : H d = some (.dT kvs)) (ho : s.heap.get? d = some od) : Inv X pins σ (upd H d (.frz od (.dT kvs))) s := by
 have h0 : ∀ {t : Nat}, Inv X pins σ (upd H d (.frz od (.dT kvs))) { s with heap := s.heap, toks := t } := by
  intro t
  refine I.write (x := d) (e := d) (by rw [e]; trivial) (.inl rfl) (fun b q hb z => z) ⟨_, ho⟩ ⟨ho, ?_⟩
  have q := I.hok d _ e
  exact q.stay (fun _ _ _ z => z) (fun c z => by rw [upd_ne (fun y => by rw [y, e] at z; cases z)]; exact z) fun c xs z => by rw [upd_ne (fun y => by rw [y, e] at z; cases z)]; exact z
 exact h0 (t := s.toks)
end
end L2
set_option Elab.async false
set_option linter.all false
set_option maxRecDepth 100000
set_option maxHeartbeats 4000000
namespace L2
open PySem PySem.Spec PyProof.Rows PySem.W
theorem kdl_raw {prog : Program} {w : World} {d : Addr} {od : Obj} {es : Array DictEntry} {ep : Nat} (hc : od.cls = .type "dict") (hdd : od.data = .dict es ep) (hs : (d == sysModules) = false) :
  KdlSrc prog w "dict" d d es.size (fun i v => ∃ h : i < es.size, v = es[i].key) (fun h => h.get? d = some od) where
 type := fun s h => ⟨od, h, hc⟩
 there := fun h e => ⟨Heap.lt_size e, Heap.lt_size e⟩
 keep := fun h h' e k => k d (.inl rfl) _ e
 notList := by decide
 notTuple := by decide
 hint := fun A E s Q h q => kdl_hint_dict ⟨od, h, hc⟩ q
 iter := fun A s hh h => by
  refine ⟨_, fun i h' => h'.IsKeyIter s.heap.objs.size d i es.size ep /\ h'.get? d = some od, fun E Q q => dkey_iter ⟨od, h, hc⟩ hs h hdd q, ?_, ?_⟩
  ·have hne : d ≠ s.heap.objs.size := Nat.ne_of_lt (Heap.lt_size h)
   refine ⟨fun b hb => List.mem_cons.mpr (.inl (by simpa using hb)), fun i h1 h2 st k => ⟨st.1.at fun o e => k _ (by simp) o e, k d (by simp) _ st.2⟩, ?_, ?_, ?_⟩
   ·intro i s1 Q E hi st q
    refine dkey_next st.1 st.2 hdd hi fun h' st' sb => ?_
    exact q _ h' s1.toks ⟨hi, rfl⟩ ⟨st', (sb.2 d hne).trans st.2⟩ fun b o hb e => (sb.2 b (by simpa using hb)).trans e
   ·intro s1 Q E st q
    refine dkey_end hh st.1 st.2 hdd (Nat.le_refl _) fun h' eb => ?_
    exact q h' s1.toks fun b o hb e => eb b o (by simpa using hb) e
   ·intro i s1 Q E st q
    exact wpAny_pyIter_keyiter st.1 q
  ·exact ⟨⟨_, Heap.get?_push_size _ rfl, rfl, rfl⟩, Heap.get?_push_of_some _ h⟩
section
variable {X : Cx}
theorem call_sortedD (hc : X.calm = true) : CallR X (.builtin "sorted") (fun as H Q => ∃ (d : Addr) (kvs : List (List Key × V)) (sh : List Bool), as = [.ref d] /\ H d = some (.dT kvs) /\ kvs.length < 1000 /\ (∀ kv ∈ kvs, kv.1.map isI = sh) /\ sh ≠ [] /\
  ∀ p xs, H p = none -> TupsAt H xs (kvs.map (·.1)) -> Q (.ref p) (upd H p (.lst (srt (kvs.map (·.1)) xs)))) := by
 intro pins s σ H as us Q I r h
 obtain ⟨d, kvs, sh, rfl, hd, h64, hsh, hne, q⟩ := h
 obtain ⟨u, rfl, ru⟩ := vals1 r
 cases (show u = Value.ref d from ru)
 obtain ⟨z, hs, ys, rel, dd⟩ := dt_of I.hok hd
 have hT := dd.typeIs
 obtain ⟨od, es, ep, ho, hcl, hdat, _⟩ := dd
 have hcl : od.cls = .type "dict" := by
  obtain ⟨o, e, c⟩ := hT
  rw [ho] at e
  cases e
  exact c
 have If := I.freeze hd ho
 obtain ⟨_, hsz, hat⟩ := dt_frz If.hok upd_same hdat
 refine Calls.call_function_entry kind_sorted plain_sorted entry_sorted (args_sorted1 _) ?_
 unfold Builtin.«sorted»
 refine wpAny_bind (m := checkCount "sorted" 1 1 _) (wpAny_pure ?_)
 refine wpAny_bind (kdu_collect (kdl_raw hcl hdat hs) (I.ok.hd hc) ho (by rw [hsz, sizeLine_eq]; omega) fun h1 tk acc hk hacc => ?_)
 obtain ⟨hal, hav⟩ := hacc
 have I1 : Inv X pins σ H { s with heap := h1, toks := tk } := I.kept (t' := tk) hk
 have each : ∀ (i : Nat) (v : Value), acc.toList[i]? = some v -> ∃ b kv, v = .ref b /\ kvs[i]? = some kv /\ H b = some (.tup (kv.1.map kV)) := fun i v hv => by
  rw [Array.getElem?_toList] at hv
  obtain ⟨hi, rfl⟩ := hav i v hv
  have hik : i < kvs.length := by rw [<- hsz]; exact hi
  obtain ⟨b, e1, e2⟩ := hat i hi kvs[i] (List.getElem?_eq_getElem hik)
  have hbd : b ≠ d := fun z => by rw [z, upd_same] at e2; cases e2
  rw [upd_ne hbd] at e2
  exact ⟨b, kvs[i], e1, List.getElem?_eq_getElem hik, e2⟩
 obtain ⟨xs, rv, hxt⟩ : ∃ xs : List V, Vals xs acc.toList /\ ∀ (i : Nat) (x : V), xs[i]? = some x -> ∃ b kv, x = .ref b /\ kvs[i]? = some kv /\ H b = some (.tup (kv.1.map kV)) := by
  have go : ∀ (vs : List Value) (f : Nat -> Option (List Key × V)), (∀ (i : Nat) (v : Value), vs[i]? = some v -> ∃ b kv, v = .ref b /\ f i = some kv /\ H b = some (.tup (kv.1.map kV))) -> ∃ xs : List V, Vals xs vs /\ ∀ (i : Nat) (x : V), xs[i]? = some x -> ∃ b kv, x = .ref b /\ f i = some kv /\ H b = some (.tup (kv.1.map kV)) := by
   intro vs
   induction vs with
   | nil => intro f _; exact ⟨[], .nil, fun i x h => by simp at h⟩
   | cons v vs ih =>
    intro f h
    obtain ⟨b, kv, rfl, e2, e3⟩ := h 0 v rfl
    obtain ⟨xs, r1, r2⟩ := ih (fun i => f (i + 1)) fun i v hv => h (i + 1) v hv
    refine ⟨.ref b :: xs, .cons rfl r1, fun i x hx => ?_⟩
    cases i with
    | zero =>
     have : V.ref b = x := by simpa using hx
     subst this
     exact ⟨b, kv, rfl, e2, e3⟩
    | succ i => exact r2 i x hx
  exact go acc.toList (fun i => kvs[i]?) each
 have hxl : xs.length = kvs.length := by rw [rv.length, Array.length_toList, hal, hsz]
 have ht : TupsAt H xs (kvs.map (·.1)) := ⟨by rw [hxl, List.length_map], fun i x k hx hk => by
  obtain ⟨b, kv, e1, e2, e3⟩ := hxt i x hx
  rw [List.getElem?_map, e2] at hk
  have : kv.1 = k := by simpa using hk
  exact ⟨b, e1, by rw [<- this]; exact e3⟩⟩
 have hsh2 : ∀ k ∈ kvs.map (·.1), k.map isI = sh := fun k hk => by
  obtain ⟨kv, h1, rfl⟩ := List.mem_map.mp hk
  exact hsh kv h1
 have h64x : xs.length < 1000 := by rw [hxl]; exact h64
 generalize acc.toList = its at rv
 have hil : its.length = xs.length := rv.length.symm
 have hz : its.length <= sizeLine := by rw [sizeLine_eq]; omega
 refine wpAny_bind (wpAny_newList (s := { s with heap := h1, toks := tk }) ?_ hz)
 have hoL : (h1.push (seqObj "list" its.toArray 0)).get? h1.objs.size = some (seqObj "list" its.toArray 0) := Heap.get?_push_size _ rfl
 have I2 : Inv X pins σ H { s with heap := h1.push (seqObj "list" its.toArray 0), toks := tk } := I1.kept (t' := tk) fun b o e => Heap.get?_push_of_some _ e
 have fL : FpOk X pins H h1.objs.size := I1.fpOk (Nat.le_refl _) (I1.hok.fresh (Nat.le_refl _))
 change wpAny _ _ _ _ _ { s with heap := h1.push (seqObj "list" its.toArray 0), toks := tk }
 dsimp only
 generalize h1.push (seqObj "list" its.toArray 0) = h2 at hoL I2
 generalize h1.objs.size = L at hoL fL
 refine wpAny_bind (wpAny_holding (wpAny_call_entry (s := { s with heap := h2, toks := tk }) slot_list_sort ⟨_, hoL, rfl⟩ entry_list_sort (lsortT I2 fL hoL rv (by rw [<- hil]; exact hz) ht hsh2 hne fun s' out n' I' hoa hos vy => ⟨_, rfl, ?_⟩) (args_list_sort _)))
 refine wpAny_pure ⟨_, rfl, .ref L, upd H L (.lst (srt (kvs.map (·.1)) xs)), I'.adopt fL ?_, rfl, q L xs fL.1 ht⟩
 have hyl : (srt (kvs.map (·.1)) xs).length <= sizeLine := by rw [vy.length, Array.length_toList]; exact hos
 exact ⟨hyl, out.toList, n', vy, by simpa using hoa⟩
end
end L2
set_option Elab.async false
set_option linter.all false
namespace L2
open PySem PySem.Spec PyProof.Rows
theorem call_isinstK {X : Cx} {K : PySem.W.Frag} {n : String} (hK : X.K = K) : CallR X (.builtin "isinstance") (fun xs H Q => ∃ x t b, xs = [x, .ty n] /\ TyOf K H x t /\ PySem.W.kitOne K t (.type n) = some b /\ Q (.bl b) H) := by subst hK; exact call_isinst
end L2
namespace L2
theorem len1 {α : Type} : ∀ {us : List α}, us.length = 1 -> ∃ a, us = [a]
 | [a], _ => ⟨a, rfl⟩
theorem lenS {α : Type} {n : Nat} : ∀ {us : List α}, us.length = n + 1 -> ∃ a r, us = a :: r /\ r.length = n
 | a :: r, h => ⟨a, r, rfl, Nat.succ.inj h⟩
theorem len2 {α : Type} {us : List α} (h : us.length = 2) : ∃ a b, us = [a, b] := by
 obtain ⟨a, r, rfl, k⟩ := lenS h
 obtain ⟨b, rfl⟩ := len1 k
 exact ⟨a, b, rfl⟩
theorem len3 {α : Type} {us : List α} (h : us.length = 3) : ∃ a b c, us = [a, b, c] := by
 obtain ⟨a, r, rfl, k⟩ := lenS h
 obtain ⟨b, c, rfl⟩ := len2 k
 exact ⟨a, b, c, rfl⟩
theorem len4 {α : Type} {us : List α} (h : us.length = 4) : ∃ a b c d, us = [a, b, c, d] := by
 obtain ⟨a, r, rfl, k⟩ := lenS h
 obtain ⟨b, c, d, rfl⟩ := len3 k
 exact ⟨a, b, c, d, rfl⟩
theorem len5 {α : Type} {us : List α} (h : us.length = 5) : ∃ a b c d e, us = [a, b, c, d, e] := by
 obtain ⟨a, r, rfl, k⟩ := lenS h
 obtain ⟨b, c, d, e, rfl⟩ := len4 k
 exact ⟨a, b, c, d, e, rfl⟩
end L2
namespace Mm
theorem len6 {α : Type} {us : List α} (h : us.length = 6) : ∃ a b c d e f, us = [a, b, c, d, e, f] := by
 match us, h with
 | [a, b, c, d, e, f], _ => exact ⟨a, b, c, d, e, f, rfl⟩
end Mm
set_option Elab.async false
set_option linter.all false
set_option maxRecDepth 100000
set_option maxHeartbeats 4000000
namespace Mm
open PySem L2 PyProof.Rows
inductive Kd where
 | top
 | ifB
 | ifO (bs : List Tr)
 | whl
structure AF where
 ts : List Tr
 r : Nat
 e : Ex
 k : Kd
structure CF where
 q : Addr
 l : Addr
 s : Addr
 o : Addr
 xs : List V
 vb : List V
 ve : V
noncomputable def AF.tr (F : AF) : Tr := match F.k with
 | .top => .whl F.r F.e F.ts
 | .ifB => .iff F.r F.e F.ts []
 | .ifO bs => .iff F.r F.e bs F.ts
 | .whl => .whl F.r F.e F.ts
noncomputable def ops1 (F : AF) (c : CF) : List Addr := match F.k with
 | .ifB => [c.l, c.o]
 | _ => [c.l]
noncomputable def opens : List AF -> List CF -> List Addr
 | F :: Z, c :: C => ops1 F c ++ opens Z C
 | _, _ => []
noncomputable def mask (H : Hp) (M : List Addr) : Hp := fun b => if b ∈ M then none else H b
theorem mask_no {H : Hp} {M : List Addr} {b : Addr} (h : b ∉ M) : mask H M b = H b := if_neg h
theorem mask_some {H : Hp} {M : List Addr} {b : Addr} {o : HO} (h : mask H M b = some o) : b ∉ M /\ H b = some o := by
 unfold mask at h
 split at h
 ·cases h
 ·exact ⟨by assumption, h⟩
theorem mask_le {H H' : Hp} {M M' : List Addr} (h1 : ∀ b ∈ M', b ∈ M ∨ H b = none) (h2 : ∀ b o, b ∉ M -> H b = some o -> H' b = some o) : Same (mask H M) (mask H' M') := by
 intro b o hb
 obtain ⟨hn, ho⟩ := mask_some hb
 rw [mask_no fun z => by
  rcases h1 b z with q | q
  ·exact hn q
  ·rw [q] at ho; cases ho]
 exact h2 b o hn ho
theorem mask_in (H : Hp) (M : List Addr) : Same (mask H M) H := fun b o h => (mask_some h).2
theorem mask_tup {H : Hp} {M : List Addr} (h : ∀ b ∈ M, ∃ xs, H b = some (.lst xs)) : TupS H (mask H M) := fun b xs hb => by
 rw [mask_no fun z => by obtain ⟨ys, hy⟩ := h b z; rw [hy] at hb; cases hb]
 exact hb
noncomputable def KAt (Hm H : Hp) (F : AF) (c : CF) : Prop := ExAt Hm c.ve F.e /\ match F.k with
 | .top => False
 | .ifB => Hm c.s = some (.tup [.str "if", .int ((F.r : Nat) : Int), c.ve, .ref c.l, .ref c.o]) /\ H c.o = some (.lst [])
 | .ifO bs => Hm c.s = some (.tup [.str "if", .int ((F.r : Nat) : Int), c.ve, .ref c.o, .ref c.l]) /\ Hm c.o = some (.lst c.vb) /\ LAt Hm false c.vb bs
 | .whl => Hm c.s = some (.tup [.str "while", .int ((F.r : Nat) : Int), c.ve, .ref c.l])
noncomputable def ZAt (H : Hp) (M : List Addr) : List AF -> List CF -> List V -> Prop
 | [F], [c], inn => F.k = .top /\ H c.l = some (.lst (c.xs ++ inn)) /\ LAt (mask H M) false c.xs F.ts
 | F :: G :: Z, c :: d :: C, inn => H c.l = some (.lst (c.xs ++ inn)) /\ LAt (mask H M) false c.xs F.ts /\ KAt (mask H M) H F c /\ ZAt H M (G :: Z) (d :: C) [.ref c.s]
 | _, _, _ => False
theorem KAt.kept {Hm Hm' H H' : Hp} {F : AF} {c : CF} (s : Same Hm Hm') (h : ∀ b ∈ ops1 F c, H' b = H b) (k : KAt Hm H F c) : KAt Hm' H' F c := by
 unfold KAt at k ⊢
 unfold ops1 at h
 refine ⟨k.1.kept s.ls.1, ?_⟩
 have k2 := k.2
 cases hk : F.k with
 | top => rw [hk] at k2; exact k2
 | ifB =>
  rw [hk] at k2 h
  exact ⟨s _ _ k2.1, by rw [h c.o (by simp)]; exact k2.2⟩
 | ifO bs => rw [hk] at k2; exact ⟨s _ _ k2.1, s _ _ k2.2.1, k2.2.2.kept s.ls⟩
 | whl => rw [hk] at k2; exact s _ _ k2
theorem ops1_l (F : AF) (c : CF) : c.l ∈ ops1 F c := by
 unfold ops1
 split <;> simp
theorem ZAt.kept {H H' : Hp} {M M' : List Addr} (s : Same (mask H M) (mask H' M')) : ∀ {Z : List AF} {C : List CF} {inn : List V}, (∀ b ∈ opens Z C, H' b = H b) -> ZAt H M Z C inn -> ZAt H' M' Z C inn
 | [], _, _, _, h => by simp [ZAt] at h
 | [F], [], _, _, h => by simp [ZAt] at h
 | [F], [c], inn, ho, h => ⟨h.1, by rw [ho c.l (by simp [opens, ops1_l])]; exact h.2.1, h.2.2.kept s.ls⟩
 | [F], _ :: _ :: _, _, _, h => by simp [ZAt] at h
 | F :: G :: Z, [], _, _, h => by simp [ZAt] at h
 | F :: G :: Z, [c], _, _, h => by simp [ZAt] at h
 | F :: G :: Z, c :: d :: C, inn, ho, h => by
  have h1 : ∀ b ∈ ops1 F c, H' b = H b := fun b hb => ho b (by unfold opens; exact List.mem_append_left _ hb)
  have h2 : ∀ b ∈ opens (G :: Z) (d :: C), H' b = H b := fun b hb => ho b (by unfold opens; exact List.mem_append_right _ hb)
  exact ⟨by rw [h1 _ (ops1_l F c)]; exact h.1, h.2.1.kept s.ls, h.2.2.1.kept s h1, ZAt.kept s h2 h.2.2.2⟩
noncomputable def ovOf (F : AF) (c : CF) : V := match F.k with
 | .ifB => .ref c.o
 | _ => .non
noncomputable def QAt (H : Hp) : List AF -> List CF -> Prop
 | F :: Z, c :: C => H c.q = some (.tup [.ref c.l, ovOf F c]) /\ QAt H Z C
 | _, _ => True
theorem QAt.kept {H H' : Hp} (s : TupS H H') : ∀ {Z : List AF} {C : List CF}, QAt H Z C -> QAt H' Z C
 | [], _, _ => by simp [QAt]
 | _ :: _, [], _ => by simp [QAt]
 | F :: Z, c :: C, h => ⟨s _ _ h.1, QAt.kept s h.2⟩
structure ZS (H : Hp) (X : List Addr) (st : Addr) (Z : List AF) (C : List CF) : Prop where
 z : ZAt H (X ++ st :: opens Z C) Z C []
 nd : (X ++ st :: opens Z C).Nodup
 ls : ∀ b ∈ X ++ st :: opens Z C, ∃ xs, H b = some (.lst xs)
 stk : H st = some (.lst ((C.map CF.q).reverse.map V.ref))
 qs : QAt H Z C
theorem ZAt.len {H : Hp} {M : List Addr} : ∀ {Z : List AF} {C : List CF} {inn : List V}, ZAt H M Z C inn -> Z.length = C.length
 | [], _, _, h => by simp [ZAt] at h
 | [F], [], _, h => by simp [ZAt] at h
 | [F], [c], _, _ => rfl
 | [F], _ :: _ :: _, _, h => by simp [ZAt] at h
 | F :: G :: Z, [], _, h => by simp [ZAt] at h
 | F :: G :: Z, [c], _, h => by simp [ZAt] at h
 | F :: G :: Z, c :: d :: C, _, h => by
  have := ZAt.len h.2.2.2
  simp at this ⊢
  exact this
theorem ZS.same {H H' : Hp} {X : List Addr} {st : Addr} {Z : List AF} {C : List CF} (h : ZS H X st Z C) (s : Same H H') : ZS H' X st Z C where
 z := h.z.kept (mask_le (fun b hb => .inl hb) fun b o _ hb => s _ _ hb) fun b hb => by
  obtain ⟨xs, hx⟩ := h.ls b (List.mem_append_right _ (List.mem_cons_of_mem _ hb))
  rw [hx, s _ _ hx]
 nd := h.nd
 ls := fun b hb => by
  obtain ⟨xs, hx⟩ := h.ls b hb
  exact ⟨xs, s _ _ hx⟩
 stk := s _ _ h.stk
 qs := h.qs.kept s.ls.1
noncomputable def Out (st : Addr) (L : List Addr) (H H' : Hp) : Prop := ∀ b o, b ∉ st :: L -> H b = some o -> H' b = some o
theorem Out.of {st : Addr} {L : List Addr} {H H' : Hp} (s : Same H H') : Out st L H H' := fun b o _ h => s _ _ h
theorem ZAt.head {H : Hp} {M : List Addr} {F : AF} {c : CF} : ∀ {Z : List AF} {C : List CF} {inn : List V}, ZAt H M (F :: Z) (c :: C) inn -> H c.l = some (.lst (c.xs ++ inn)) /\ LAt (mask H M) false c.xs F.ts
 | [], [], _, h => ⟨h.2.1, h.2.2⟩
 | [], _ :: _, _, h => by simp [ZAt] at h
 | _ :: _, [], _, h => by simp [ZAt] at h
 | _ :: _, _ :: _, _, h => ⟨h.1, h.2.1⟩
theorem ZAt.more {H H' : Hp} {M M' : List Addr} {F : AF} {c : CF} (s : Same (mask H M) (mask H' M')) (inn : List V) (hl : H' c.l = some (.lst (c.xs ++ inn))) : ∀ {Z : List AF} {C : List CF}, ZAt H M (F :: Z) (c :: C) [] -> (F.k = .ifB -> H' c.o = H c.o) -> (∀ b ∈ opens Z C, H' b = H b) -> ZAt H' M' (F :: Z) (c :: C) inn
 | [], [], h, _, _ => ⟨h.1, hl, h.2.2.kept s.ls⟩
 | [], _ :: _, h, _, _ => by simp [ZAt] at h
 | _ :: _, [], h, _, _ => by simp [ZAt] at h
 | G :: Z, d :: C, h, ho, hr => by
  refine ⟨hl, h.2.1.kept s.ls, ?_, ZAt.kept s hr h.2.2.2⟩
  have k := h.2.2.1
  unfold KAt at k ⊢
  refine ⟨k.1.kept s.ls.1, ?_⟩
  have k2 := k.2
  cases hk : F.k with
  | top => rw [hk] at k2; exact k2
  | ifB => rw [hk] at k2; exact ⟨s _ _ k2.1, by rw [ho hk]; exact k2.2⟩
  | ifO bs => rw [hk] at k2; exact ⟨s _ _ k2.1, s _ _ k2.2.1, k2.2.2.kept s.ls⟩
  | whl => rw [hk] at k2; exact s _ _ k2
theorem ZAt.shut {H : Hp} {M : List Addr} {F : AF} {c : CF} {v : V} {t : Tr} (ho : OAt (mask H M) false v t) : ∀ {Z : List AF} {C : List CF}, ZAt H M (F :: Z) (c :: C) [v] -> ZAt H M ({ F with ts := F.ts ++ [t] } :: Z) ({ c with xs := c.xs ++ [v] } :: C) []
 | [], [], h => ⟨h.1, by rw [List.append_nil]; exact h.2.1, h.2.2.snoc ho⟩
 | [], _ :: _, h => by simp [ZAt] at h
 | _ :: _, [], h => by simp [ZAt] at h
 | G :: Z, d :: C, h => ⟨by rw [List.append_nil]; exact h.1, h.2.1.snoc ho, h.2.2.1, h.2.2.2⟩
theorem ZS.put {H H' : Hp} {X : List Addr} {st : Addr} {F : AF} {c : CF} {Z : List AF} {C : List CF} {v : V} {t : Tr} (h : ZS H X st (F :: Z) (c :: C)) (ch : ∀ b o, H b = some o -> b ≠ c.l -> H' b = some o) (hl : H' c.l = some (.lst (c.xs ++ [v]))) (ho : SAt (mask H' (X ++ st :: opens (F :: Z) (c :: C))) false v t) :
  ZS H' X st ({ F with ts := F.ts ++ [t] } :: Z) ({ c with xs := c.xs ++ [v] } :: C) := by
 have nd := h.nd
 have hst : st ≠ c.l := fun z => by
  have := (List.nodup_cons.mp (List.nodup_append.mp nd).2.1).1
  exact this (by rw [z]; unfold opens; exact List.mem_append_left _ (ops1_l F c))
 have nd2 : (ops1 F c ++ opens Z C).Nodup := (List.nodup_cons.mp (List.nodup_append.mp nd).2.1).2
 have lst : ∀ b ∈ X ++ st :: opens (F :: Z) (c :: C), b ≠ c.l -> H' b = H b := fun b hb hn => by
  obtain ⟨xs, hx⟩ := h.ls b hb
  rw [hx, ch _ _ hx hn]
 have hl0 := h.z.head.1
 have sm : Same (mask H (X ++ st :: opens (F :: Z) (c :: C))) (mask H' (X ++ st :: opens (F :: Z) (c :: C))) := mask_le (fun b hb => .inl hb) fun b o hb hx => ch _ _ hx fun z => hb (by rw [z]; exact List.mem_append_right _ (List.mem_cons_of_mem _ (by unfold opens; exact List.mem_append_left _ (ops1_l F c))))
 have inM : ∀ b, b ∈ ops1 F c ++ opens Z C -> b ∈ X ++ st :: opens (F :: Z) (c :: C) := fun b hb => List.mem_append_right _ (List.mem_cons_of_mem _ hb)
 refine ⟨ZAt.shut (.plain rfl ho) (ZAt.more sm [v] hl h.z (fun hk => ?_) fun b hb => ?_), h.nd, fun b hb => ?_, ch _ _ h.stk hst, ?_⟩
 ·refine lst _ (inM _ (List.mem_append_left _ (by unfold ops1; rw [hk]; simp))) fun z => ?_
  unfold ops1 at nd2
  rw [hk, z] at nd2
  simp at nd2
 ·refine lst _ (inM _ (List.mem_append_right _ hb)) fun z => ?_
  exact (List.nodup_append.mp nd2).2.2 _ (ops1_l F c) _ hb z.symm
 ·by_cases hb2 : b = c.l
  ·exact ⟨_, by rw [hb2]; exact hl⟩
  ·obtain ⟨xs, hx⟩ := h.ls b hb
   exact ⟨xs, ch _ _ hx hb2⟩
 ·exact h.qs.kept fun b xs hb => ch _ _ hb fun z => by rw [z, hl0] at hb; cases hb
theorem ZS.push {H H' : Hp} {X : List Addr} {st : Addr} {F N : AF} {c n : CF} {Z : List AF} {C : List CF} (h : ZS H X st (F :: Z) (c :: C)) (ch : ∀ b o, H b = some o -> b ≠ c.l -> b ≠ st -> H' b = some o) (hl : H' c.l = some (.lst (c.xs ++ [.ref n.s])))
  (hst : H' st = some (.lst (((c :: C).map CF.q).reverse.map V.ref ++ [.ref n.q]))) (hf : ∀ b ∈ ops1 N n, H b = none /\ H' b = some (.lst [])) (hnd : (ops1 N n).Nodup) (hq : H' n.q = some (.tup [.ref n.l, ovOf N n])) (hE : ExAt H' n.ve N.e) (hts : N.ts = []) (hxs : n.xs = [])
  (hs : (N.k = .ifB /\ H' n.s = some (.tup [.str "if", .int ((N.r : Nat) : Int), n.ve, .ref n.l, .ref n.o])) ∨ (N.k = .whl /\ H' n.s = some (.tup [.str "while", .int ((N.r : Nat) : Int), n.ve, .ref n.l]))) :
  ZS H' X st (N :: F :: Z) (n :: c :: C) := by
 have nd := h.nd
 have nd1 := List.nodup_append.mp nd
 have nd2 := List.nodup_cons.mp nd1.2.1
 have nd3 : (ops1 F c ++ opens Z C).Nodup := nd2.2
 have inM : ∀ b, b ∈ opens (F :: Z) (c :: C) -> b ∈ X ++ st :: opens (F :: Z) (c :: C) := fun b hb => List.mem_append_right _ (List.mem_cons_of_mem _ hb)
 have fr : ∀ b ∈ ops1 N n, b ∉ X ++ st :: opens (F :: Z) (c :: C) := fun b hb hm => by
  obtain ⟨xs, hx⟩ := h.ls b hm
  rw [(hf b hb).1] at hx
  cases hx
 have eM : ∀ b, b ∈ X ++ st :: opens (N :: F :: Z) (n :: c :: C) ↔ b ∈ ops1 N n ∨ b ∈ X ++ st :: opens (F :: Z) (c :: C) := fun b => by
  show b ∈ X ++ st :: (ops1 N n ++ opens (F :: Z) (c :: C)) ↔ _
  simp only [List.mem_append, List.mem_cons]
  constructor
  ·rintro (q | q | q | q)
   ·exact .inr (.inl q)
   ·exact .inr (.inr (.inl q))
   ·exact .inl q
   ·exact .inr (.inr (.inr q))
  ·rintro (q | q | q | q)
   ·exact .inr (.inr (.inl q))
   ·exact .inl q
   ·exact .inr (.inl q)
   ·exact .inr (.inr (.inr q))
 have hcl : c.l ∈ opens (F :: Z) (c :: C) := by unfold opens; exact List.mem_append_left _ (ops1_l F c)
 have ls' : ∀ b ∈ X ++ st :: opens (N :: F :: Z) (n :: c :: C), ∃ xs, H' b = some (.lst xs) := fun b hb => by
  rcases (eM b).mp hb with q | q
  ·exact ⟨_, (hf b q).2⟩
  ·by_cases h1 : b = c.l
   ·exact ⟨_, by rw [h1]; exact hl⟩
   ·by_cases h2 : b = st
    ·exact ⟨_, by rw [h2]; exact hst⟩
    ·obtain ⟨xs, hx⟩ := h.ls b q
     exact ⟨xs, ch _ _ hx h1 h2⟩
 have sm : Same (mask H (X ++ st :: opens (F :: Z) (c :: C))) (mask H' (X ++ st :: opens (N :: F :: Z) (n :: c :: C))) := mask_le (fun b hb => by
  rcases (eM b).mp hb with q | q
  ·exact .inr (hf b q).1
  ·exact .inl q) fun b o hb hx => ch _ _ hx (fun z => hb (by rw [z]; exact inM _ hcl)) (fun z => hb (by rw [z]; exact List.mem_append_right _ (List.mem_cons_self ..)))
 have keep : ∀ b ∈ opens (F :: Z) (c :: C), b ≠ c.l -> H' b = H b := fun b hb hn => by
  obtain ⟨xs, hx⟩ := h.ls b (inM b hb)
  rw [hx, ch _ _ hx hn fun z => nd2.1 (by rw [<- z]; exact hb)]
 have tp := mask_tup ls'
 have z1 := ZAt.more sm [.ref n.s] hl h.z (fun hk => keep _ (by unfold opens ops1; rw [hk]; simp) fun z => by
  unfold ops1 at nd3
  rw [hk, z] at nd3
  simp at nd3) fun b hb => keep _ (by unfold opens; exact List.mem_append_right _ hb) fun z => (List.nodup_append.mp nd3).2.2 _ (ops1_l F c) _ hb z.symm
 refine ⟨⟨by rw [hxs]; exact (hf _ (ops1_l N n)).2, by rw [hxs, hts]; exact .nil, ⟨hE.kept tp, ?_⟩, z1⟩, ?_, ls', ?_, hq, h.qs.kept fun b xs hb => ch _ _ hb (fun z => by rw [z, h.z.head.1] at hb; cases hb) (fun z => by rw [z, h.stk] at hb; cases hb)⟩
 ·rcases hs with ⟨hk, hs⟩ | ⟨hk, hs⟩
  ·rw [hk]
   exact ⟨tp _ _ hs, (hf _ (by unfold ops1; rw [hk]; simp)).2⟩
  ·rw [hk]
   exact tp _ _ hs
 ·show (X ++ st :: (ops1 N n ++ opens (F :: Z) (c :: C))).Nodup
  refine List.nodup_append.mpr ⟨nd1.1, List.nodup_cons.mpr ⟨fun hm => ?_, List.nodup_append.mpr ⟨hnd, nd2.2, fun a ha b hb z => ?_⟩⟩, fun a ha b hb z => ?_⟩
  ·rcases List.mem_append.mp hm with q | q
   ·exact fr _ q (List.mem_append_right _ (List.mem_cons_self ..))
   ·exact nd2.1 q
  ·exact fr _ ha (by rw [z]; exact inM _ hb)
  ·rcases List.mem_cons.mp hb with q | q
   ·exact nd1.2.2 _ ha _ (List.mem_cons_self ..) (z.trans q)
   ·rcases List.mem_append.mp q with q | q
    ·exact fr _ q (by rw [<- z]; exact List.mem_append_left _ ha)
    ·exact nd1.2.2 _ ha _ (List.mem_cons_of_mem _ q) z
 ·rw [hst]
  simp
theorem ZS.pop {H H' : Hp} {X : List Addr} {st : Addr} {F G : AF} {c d : CF} {Z : List AF} {C : List CF} (h : ZS H X st (F :: G :: Z) (c :: d :: C)) (ch : ∀ b o, H b = some o -> b ≠ st -> H' b = some o) (hst : H' st = some (.lst (((d :: C).map CF.q).reverse.map V.ref))) :
  ZS H' X st ({ G with ts := G.ts ++ [F.tr] } :: Z) ({ d with xs := d.xs ++ [.ref c.s] } :: C) := by
 have nd := h.nd
 have nd1 := List.nodup_append.mp nd
 have nd2 := List.nodup_cons.mp nd1.2.1
 have nd3 : (ops1 F c ++ opens (G :: Z) (d :: C)).Nodup := nd2.2
 have nd4 := List.nodup_append.mp nd3
 have sub : ∀ b, b ∈ X ++ st :: opens (G :: Z) (d :: C) -> b ∈ X ++ st :: opens (F :: G :: Z) (c :: d :: C) := fun b hb => by
  show b ∈ X ++ st :: (ops1 F c ++ opens (G :: Z) (d :: C))
  simp only [List.mem_append, List.mem_cons] at hb ⊢
  rcases hb with q | q | q
  ·exact .inl q
  ·exact .inr (.inl q)
  ·exact .inr (.inr (.inr q))
 have out : ∀ b ∈ ops1 F c, b ∉ X ++ st :: opens (G :: Z) (d :: C) /\ H' b = H b := fun b hb => by
  have hb2 : b ∈ opens (F :: G :: Z) (c :: d :: C) := List.mem_append_left _ hb
  have hns : b ≠ st := fun z => nd2.1 (by rw [<- z]; exact hb2)
  refine ⟨fun hm => ?_, ?_⟩
  ·rcases List.mem_append.mp hm with q | q
   ·exact nd1.2.2 _ q _ (List.mem_cons_of_mem _ hb2) rfl
   ·rcases List.mem_cons.mp q with q | q
    ·exact hns q
    ·exact nd4.2.2 _ hb _ q rfl
  ·obtain ⟨xs, hx⟩ := h.ls b (List.mem_append_right _ (List.mem_cons_of_mem _ hb2))
   rw [hx, ch _ _ hx hns]
 have sm : Same (mask H (X ++ st :: opens (F :: G :: Z) (c :: d :: C))) (mask H' (X ++ st :: opens (G :: Z) (d :: C))) := mask_le (fun b hb => .inl (sub b hb)) fun b o hb hx => ch _ _ hx fun z => hb (by rw [z]; exact List.mem_append_right _ (List.mem_cons_self ..))
 have ls' : ∀ b ∈ X ++ st :: opens (G :: Z) (d :: C), ∃ xs, H' b = some (.lst xs) := fun b hb => by
  by_cases h2 : b = st
  ·exact ⟨_, by rw [h2]; exact hst⟩
  ·obtain ⟨xs, hx⟩ := h.ls b (sub b hb)
   exact ⟨xs, ch _ _ hx h2⟩
 obtain ⟨hL, hT, hK, hz⟩ := h.z
 rw [List.append_nil] at hL
 have hz' := ZAt.kept sm (fun b hb => by
  have hb2 : b ∈ opens (F :: G :: Z) (c :: d :: C) := List.mem_append_right _ hb
  obtain ⟨xs, hx⟩ := h.ls b (List.mem_append_right _ (List.mem_cons_of_mem _ hb2))
  rw [hx, ch _ _ hx fun z => nd2.1 (by rw [<- z]; exact hb2)]) hz
 have hm : mask H' (X ++ st :: opens (G :: Z) (d :: C)) c.l = some (.lst c.xs) := by
  rw [mask_no (out _ (ops1_l F c)).1, (out _ (ops1_l F c)).2]
  exact hL
 have sat : SAt (mask H' (X ++ st :: opens (G :: Z) (d :: C))) false (.ref c.s) F.tr := by
  obtain ⟨hE, hk⟩ := hK
  have hE' := hE.kept sm.ls.1
  have hT' := hT.kept sm.ls
  unfold AF.tr
  cases hkk : F.k with
  | top => rw [hkk] at hk; exact hk.elim
  | ifB =>
   rw [hkk] at hk
   have ho : c.o ∈ ops1 F c := by unfold ops1; rw [hkk]; simp
   exact .mk (sm _ _ hk.1) (.cons (.s _) (.cons (.i _) (.cons (.e hE') (.cons (.b hm hT') (.cons (.b (by rw [mask_no (out _ ho).1, (out _ ho).2]; exact hk.2) .nil) .nil)))))
  | ifO bs =>
   rw [hkk] at hk
   exact .mk (sm _ _ hk.1) (.cons (.s _) (.cons (.i _) (.cons (.e hE') (.cons (.b (sm _ _ hk.2.1) (hk.2.2.kept sm.ls)) (.cons (.b hm hT') .nil)))))
  | whl =>
   rw [hkk] at hk
   exact .mk (sm _ _ hk) (.cons (.s _) (.cons (.i _) (.cons (.e hE') (.cons (.b hm hT') .nil))))
 refine ⟨ZAt.shut (.plain rfl sat) hz', ?_, ls', hst, h.qs.2.kept fun b xs hb => ch _ _ hb fun z => by rw [z, h.stk] at hb; cases hb⟩
 refine List.nodup_append.mpr ⟨nd1.1, List.nodup_cons.mpr ⟨fun hm => nd2.1 (List.mem_append_right _ hm), nd4.2.1⟩, fun a ha b hb z => ?_⟩
 rcases List.mem_cons.mp hb with q | q
 ·exact nd1.2.2 _ ha _ (List.mem_cons_self ..) (z.trans q)
 ·exact nd1.2.2 _ ha _ (List.mem_cons_of_mem _ (List.mem_append_right _ q)) z
theorem ZS.top {H : Hp} {X : List Addr} {st : Addr} {F : AF} {c : CF} {Z : List AF} {C : List CF} (h : ZS H X st (F :: Z) (c :: C)) : H c.l = some (.lst c.xs) := by
 have := h.z.head.1
 rw [List.append_nil] at this
 exact this
theorem ZS.lenC {H : Hp} {X : List Addr} {st : Addr} {F : AF} {c : CF} {Z : List AF} {C : List CF} (h : ZS H X st (F :: Z) (c :: C)) : C.length = Z.length /\ c.xs.length = F.ts.length := by
 have := h.z.len
 exact ⟨by simpa using this.symm, h.z.head.2.length⟩
theorem Out.same {st : Addr} {L : List Addr} {H H1 H' : Hp} (s : Same H H1) (o : Out st L H1 H') : Out st L H H' := fun b x hn hb => o b x hn (s _ _ hb)
theorem Out.then {st : Addr} {L : List Addr} {H H1 H' : Hp} (o : Out st L H H1) (s : Same H1 H') : Out st L H H' := fun b x hn hb => s _ _ (o b x hn hb)
noncomputable def lastL : List CF -> Addr
 | [] => 0
 | [c] => c.l
 | _ :: d :: C => lastL (d :: C)
noncomputable def up : AF -> List AF -> List Tr
 | F, [] => F.ts
 | F, G :: Z => up { G with ts := G.ts ++ [F.tr] } Z
theorem ascs_snoc : ∀ {ts : List Tr} {t : Tr}, ascs ts -> (∀ u ∈ ts, u.row < t.row) -> t.asc -> ascs (ts ++ [t])
 | [], t, _, _, h => ⟨h, by simp, trivial⟩
 | u :: ts, t, h, hr, ht => ⟨h.1, fun v hv => by
   rcases List.mem_append.mp hv with q | q
   ·exact h.2.1 v q
   ·rw [List.mem_singleton.mp q]; exact hr u (by simp), ascs_snoc h.2.2 (fun v hv => hr v (by simp [hv])) ht⟩
theorem deeps_snoc : ∀ (ts : List Tr) (t : Tr), deeps (ts ++ [t]) = max (deeps ts) (t.deep + 1)
 | [], t => by simp [deeps]
 | u :: ts, t => by
  have := deeps_snoc ts t
  simp only [List.cons_append, deeps, this]
  omega
noncomputable def bsOk (k : Kd) (n : Nat) : Prop := match k with
 | .ifO bs => bs.length <= 20 /\ ascs bs /\ deeps bs + n <= 5
 | _ => True
noncomputable def ZOk : Nat -> List AF -> Prop
 | _, [] => False
 | b, F :: Z => F.ts.length <= b /\ b <= 20 /\ ascs F.ts /\ (∀ u ∈ F.ts, u.row < b) /\ deeps F.ts + Z.length <= 5 /\ Z.length <= 4 /\ ((Z = [] /\ F.k = .top) ∨ (F.e.plain /\ F.r < b /\ bsOk F.k Z.length /\ ZOk F.r Z))
theorem ZOk.mono {b b' : Nat} (hb : b <= b') (h20 : b' <= 20) : ∀ {Z : List AF}, ZOk b Z -> ZOk b' Z
 | [], h => h.elim
 | F :: Z, h => ⟨Nat.le_trans h.1 hb, h20, h.2.2.1, fun u hu => Nat.lt_of_lt_of_le (h.2.2.2.1 u hu) hb, h.2.2.2.2.1, h.2.2.2.2.2.1, h.2.2.2.2.2.2.imp id fun q => ⟨q.1, Nat.lt_of_lt_of_le q.2.1 hb, q.2.2⟩⟩
theorem ZOk.put {b : Nat} {F : AF} {Z : List AF} {t : Tr} (h : ZOk b (F :: Z)) (hb : b < 20) (hr : t.row = b) (ha : t.asc) (hd : t.deep = 0) : ZOk (b + 1) ({ F with ts := F.ts ++ [t] } :: Z) := by
 obtain ⟨h1, h2, h3, h4, h5, h6, h7⟩ := h
 refine ⟨by simp; exact h1, hb, ascs_snoc h3 (fun u hu => by rw [hr]; exact h4 u hu) ha, fun u hu => ?_, ?_, h6, h7.imp id fun q => ⟨q.1, Nat.lt_succ_of_lt q.2.1, q.2.2⟩⟩
 ·rcases List.mem_append.mp hu with q | q
  ·exact Nat.lt_succ_of_lt (h4 u q)
  ·rw [List.mem_singleton.mp q, hr]; exact Nat.lt_succ_self b
 ·show deeps (F.ts ++ [t]) + Z.length <= 5
  rw [deeps_snoc, hd]
  omega
theorem tr_row (F : AF) : F.tr.row = F.r := by
 unfold AF.tr
 cases F.k <;> rfl
theorem ZOk.end {b : Nat} {F G : AF} {Z : List AF} (h : ZOk b (F :: G :: Z)) : ZOk b ({ G with ts := G.ts ++ [F.tr] } :: Z) := by
 obtain ⟨h1, h2, h3, h4, h5, h6, h7⟩ := h
 rcases h7 with h7 | ⟨hp, hr, hbs, g1, g2, g3, g4, g5, g6, g7⟩
 ·cases h7.1
 have hl : (G :: Z).length = Z.length + 1 := rfl
 rw [hl] at h5 h6 hbs
 have hdp : F.tr.deep + Z.length + 1 <= 5 /\ F.tr.asc := by
  unfold AF.tr
  unfold bsOk at hbs
  cases hk : F.k with
  | top => exact ⟨by show deeps F.ts + Z.length + 1 <= 5; omega, hp, by omega, h3⟩
  | ifB => exact ⟨by show max (deeps F.ts) (deeps []) + Z.length + 1 <= 5; simp only [deeps]; omega, hp, ⟨by omega, h3⟩, by simp, trivial⟩
  | ifO bs =>
   rw [hk] at hbs
   exact ⟨by show max (deeps bs) (deeps F.ts) + Z.length + 1 <= 5; have := hbs.2.2; omega, hp, ⟨hbs.1, hbs.2.1⟩, by omega, h3⟩
  | whl => exact ⟨by show deeps F.ts + Z.length + 1 <= 5; omega, hp, by omega, h3⟩
 refine ⟨by simp; omega, h2, ascs_snoc g3 (fun u hu => by rw [tr_row]; exact g4 u hu) hdp.2, fun u hu => ?_, ?_, g6, g7.imp id fun q => ⟨q.1, Nat.lt_trans q.2.1 hr, q.2.2⟩⟩
 ·rcases List.mem_append.mp hu with q | q
  ·exact Nat.lt_trans (g4 u q) hr
  ·rw [List.mem_singleton.mp q, tr_row]; exact hr
 ·show deeps (G.ts ++ [F.tr]) + Z.length <= 5
  rw [deeps_snoc]
  have := hdp.1
  omega
theorem ZOk.up {b : Nat} : ∀ {Z : List AF} {F : AF}, ZOk b (F :: Z) -> (Mm.up F Z).length <= 20 /\ ascs (Mm.up F Z) /\ deeps (Mm.up F Z) <= 5
 | [], F, h => ⟨Nat.le_trans h.1 h.2.1, h.2.2.1, h.2.2.2.2.1⟩
 | G :: Z, F, h => ZOk.up (Z := Z) h.end
theorem LAt.app {H : Hp} {sh : Bool} : ∀ {vs us : List V} {ts rs : List Tr}, LAt H sh vs ts -> LAt H sh us rs -> LAt H sh (vs ++ us) (ts ++ rs)
 | _, _, _, _, .nil, h => h
 | _, _, _, _, .cons a b, h => .cons a (b.app h)
theorem ZAt.up {H : Hp} {M : List Addr} : ∀ {Z : List AF} {F : AF} {C : List CF} {c : CF} {inn : List V} {us : List Tr}, ZAt H M (F :: Z) (c :: C) inn -> LAt H false inn us -> ∃ xs : List V, H (lastL (c :: C)) = some (.lst xs) /\ LAt H false xs (Mm.up { F with ts := F.ts ++ us } Z)
 | [], F, [], c, inn, us, h, hi => ⟨c.xs ++ inn, h.2.1, (h.2.2.kept (mask_in H M).ls).app hi⟩
 | [], F, _ :: _, c, inn, us, h, _ => by simp [ZAt] at h
 | _ :: _, F, [], c, inn, us, h, _ => by simp [ZAt] at h
 | G :: Z, F, d :: C, c, inn, us, h, hi => by
  obtain ⟨h1, h2, h3, h4⟩ := h
  have sm := mask_in H M
  have hT := (h2.kept sm.ls).app hi
  have sat : SAt H false (.ref c.s) ({ F with ts := F.ts ++ us } : AF).tr := by
   obtain ⟨hE, hk⟩ := h3
   have hE' := hE.kept sm.ls.1
   unfold AF.tr
   cases hkk : F.k with
   | top => rw [hkk] at hk; exact hk.elim
   | ifB => rw [hkk] at hk; exact .mk (sm _ _ hk.1) (.cons (.s _) (.cons (.i _) (.cons (.e hE') (.cons (.b h1 hT) (.cons (.b hk.2 .nil) .nil)))))
   | ifO bs => rw [hkk] at hk; exact .mk (sm _ _ hk.1) (.cons (.s _) (.cons (.i _) (.cons (.e hE') (.cons (.b (sm _ _ hk.2.1) (hk.2.2.kept sm.ls)) (.cons (.b h1 hT) .nil)))))
   | whl => rw [hkk] at hk; exact .mk (sm _ _ hk) (.cons (.s _) (.cons (.i _) (.cons (.e hE') (.cons (.b h1 hT) .nil))))
  have q := ZAt.up (us := [({ F with ts := F.ts ++ us } : AF).tr]) h4 (.cons (.plain rfl sat) .nil)
  exact q
end Mm
set_option Elab.async false
set_option linter.all false
set_option maxRecDepth 100000
namespace L2
open PySem PySem.Spec PyProof.Rows
end L2
set_option Elab.async false
set_option linter.all false
set_option maxRecDepth 100000
set_option maxHeartbeats 4000000
namespace L2
open PySem PySem.Spec PyProof.Rows
section
variable {M : Model} {A : Around} {E : Value -> Shared -> Prop} {s : Shared}
end
end L2
set_option Elab.async false
set_option linter.all false
set_option maxRecDepth 100000
set_option maxHeartbeats 4000000
namespace L2
open PySem PySem.Spec PyProof.Rows
section
variable {prog : Program} {w : World} {A : Around} {E : Value -> Shared -> Prop} {s : Shared} {K : PySem.W.Frag} {x C : Addr} {name : Str} {v : Value}
end
section
variable {prog : Program} {w : World} {A : Around} {E : Value -> Shared -> Prop} {h : Heap} {g : Array GenState} {d : Drawn} {t : Nat} {os : OsState}
variable {nm q : Str} {C N : Addr} {bs bm bmB : List Value} {hdct : Bool} {sn : List Str} {sub : List Value} {ab : Bool} {col : Option Bool} {dd : Option Addr} {k0 k1 k2 k3 k5 : Option Value} {B newId initId : String}
end
section
variable {M : Model} {A : Around} {E : Value -> Shared -> Prop} {env : Env}
variable {nm q : Str} {C N : Addr} {bs bm : List Value} {hdct : Bool} {sn : List Str} {sub : List Value} {ab : Bool} {col : Option Bool} {dd : Option Addr} {k0 k1 k2 k3 k5 : Option Value} {newId : String}
end
end L2
set_option Elab.async false
set_option linter.all false
set_option maxRecDepth 100000
set_option maxHeartbeats 4000000
namespace L2
open PySem PySem.Spec PyProof.Rows
section
variable {prog : Program} {w : World} {A : Around} {E : Value -> Shared -> Prop} {s : Shared} {env : Env}
variable {nm q : Str} {C N : Addr} {bs bm bmB : List Value} {hdct : Bool} {sn : List Str} {sub : List Value} {ab : Bool} {col : Option Bool} {dd : Option Addr} {k0 k1 k2 k3 k5 : Option Value} {B newId initId : String}
end
section
variable {X : Cx} {pins : List (Addr × Obj)} {σ : St} {H H' : Hp} {s s' : Shared} {B h'' : Heap}
end
section
variable {P : Program} {w : World} {K : PySem.W.Frag} {mg : Str -> Option Value} {base : Heap} {N : List Str} {qual : Str} {scope : Scope} {f : Addr} {cd : Value} {A : Around} {outer : List Env} {s₀ : Shared} {H₀ : Hp} {E : XK}
end
section
variable {X : Cx} {pins : List (Addr × Obj)} {σ : St} {H : Hp} {s : Shared} {a C t dx : Addr} {fs : List (Str × V)} {f : Str} {A : Around} {E : Value -> Shared -> Prop}
end
section
variable {X : Cx} {o e value : Expr} {f : Str} {pos pos' tpos : Pos} {ta tv : TE}
end
section
variable {X : Cx}
end
end L2
set_option Elab.async false
set_option linter.all false
set_option maxRecDepth 100000
set_option maxHeartbeats 4000000
namespace L2
open PySem PySem.Spec PyProof.Rows
section
variable {P : Program} {w : World} {K : PySem.W.Frag} {mg : Str -> Option Value} {base : Heap} {N : List Str} {qual : Str} {scope : Scope} {f : Addr} {cd : Value} {A : Around} {outer : List Env} {s₀ : Shared} {H₀ : Hp} {E : XK}
end
section
variable {X : Cx}
end
end L2
set_option Elab.async false
set_option linter.all false
set_option maxRecDepth 100000
set_option maxHeartbeats 4000000
namespace L2
open PySem PySem.Spec PyProof.Rows
section
variable {P : Program} {w : World} {K : PySem.W.Frag} {mg : Str -> Option Value} {base : Heap}
end
section
variable {X : Cx}
end
section
variable {X : Cx}
end
end L2
set_option Elab.async false
set_option linter.all false
set_option maxRecDepth 100000
set_option maxHeartbeats 4000000
namespace K41
open PySem L2 Mm
noncomputable def top (i : Nat) : Stmt := PySem.Challenge.pw_manymakes_k41_kinds_of_operators.main.body.getD i (.Pass ⟨0, 0, 0, 0⟩)
noncomputable abbrev st_Zbk : Stmt := top 1
noncomputable abbrev st_Zbd : Stmt := top 2
noncomputable abbrev st_Zbh : Stmt := top 3
noncomputable abbrev st_Zp : Stmt := top 4
noncomputable abbrev st_Zbi : Stmt := top 5
noncomputable abbrev st_Zq : Stmt := top 6
noncomputable abbrev st_Zs : Stmt := top 8
noncomputable abbrev st_Zi : Stmt := top 9
noncomputable abbrev st_Zj : Stmt := top 10
noncomputable abbrev st_Zt : Stmt := top 11
noncomputable abbrev st_Zh : Stmt := top 12
noncomputable abbrev st_Zu : Stmt := top 13
noncomputable abbrev st_Zr : Stmt := top 16
noncomputable abbrev st_Zy : Stmt := top 17
noncomputable abbrev st_Zbe : Stmt := top 18
noncomputable abbrev st_Zz : Stmt := top 19
noncomputable abbrev st_Zbl : Stmt := top 24
noncomputable abbrev st_Zv : Stmt := top 25
noncomputable abbrev st_Zbj : Stmt := top 26
noncomputable abbrev st_Zm : Stmt := top 27
noncomputable abbrev st_Zo : Stmt := top 28
noncomputable abbrev st_Zw : Stmt := top 31
noncomputable abbrev st_Zba : Stmt := top 32
noncomputable abbrev st_Zbb : Stmt := top 33
noncomputable abbrev st_Zx : Stmt := top 34
noncomputable abbrev st_Zbf : Stmt := top 35
noncomputable abbrev st_Zbc : Stmt := top 36
noncomputable abbrev st_Zbg : Stmt := top 37
noncomputable abbrev st_Zk : Stmt := inClass (top 23) 0
noncomputable abbrev st_Zl : Stmt := inClass (top 23) 1
noncomputable abbrev st_Zb : Stmt := inClass (top 23) 2
noncomputable abbrev st_Zd : Stmt := inClass (top 23) 3
noncomputable abbrev st_Ze : Stmt := inClass (top 23) 4
noncomputable abbrev st_Zf : Stmt := inClass (top 23) 5
noncomputable abbrev st_Zn : Stmt := inClass (top 23) 6
noncomputable abbrev st_Zg : Stmt := inClass (top 23) 7
noncomputable abbrev st_Zc : Stmt := inClass (top 23) 8
noncomputable abbrev st_Za : Stmt := inClass (top 23) 9
noncomputable abbrev st_law : Stmt := top 38
structure Adr where
 Zbk : Addr
 Zbd : Addr
 Zbh : Addr
 Zp : Addr
 Zbi : Addr
 Zq : Addr
 Zs : Addr
 Zi : Addr
 Zj : Addr
 Zt : Addr
 Zh : Addr
 Zu : Addr
 Zr : Addr
 Zy : Addr
 Zbe : Addr
 Zz : Addr
 Zbl : Addr
 Zv : Addr
 Zbj : Addr
 Zm : Addr
 Zo : Addr
 Zw : Addr
 Zba : Addr
 Zbb : Addr
 Zx : Addr
 Zbf : Addr
 Zbc : Addr
 Zbg : Addr
 Zk : Addr
 Zl : Addr
 Zb : Addr
 Zd : Addr
 Ze : Addr
 Zf : Addr
 Zn : Addr
 Zg : Addr
 Zc : Addr
 Za : Addr
 c_KindLook : Addr
 d_MAKES : Addr
 d_ASKS : Addr
 q_PLAIN_KINDS : Addr
structure Fds where
 Zbk : FuncData
 Zbd : FuncData
 Zbh : FuncData
 Zp : FuncData
 Zbi : FuncData
 Zq : FuncData
 Zs : FuncData
 Zi : FuncData
 Zj : FuncData
 Zt : FuncData
 Zh : FuncData
 Zu : FuncData
 Zr : FuncData
 Zy : FuncData
 Zbe : FuncData
 Zz : FuncData
 Zbl : FuncData
 Zv : FuncData
 Zbj : FuncData
 Zm : FuncData
 Zo : FuncData
 Zw : FuncData
 Zba : FuncData
 Zbb : FuncData
 Zx : FuncData
 Zbf : FuncData
 Zbc : FuncData
 Zbg : FuncData
 Zk : FuncData
 Zl : FuncData
 Zb : FuncData
 Zd : FuncData
 Ze : FuncData
 Zf : FuncData
 Zn : FuncData
 Zg : FuncData
 Zc : FuncData
 Za : FuncData
structure All (P : Program) (w : World) (K : PySem.W.Frag) (mg : Str -> Option Value) (A : Adr) (D : Fds) : Prop where
 m_Zbk : mg "least" = some (.ref A.Zbk)
 k_Zbk : PySem.W.keepIn K (.ref A.Zbk) = true
 F_Zbk : Fun K "least" "least" st_Zbk A.Zbk D.Zbk
 b_Zbk : Binds K D.Zbk ["mask"] []
 m_Zbd : mg "without" = some (.ref A.Zbd)
 k_Zbd : PySem.W.keepIn K (.ref A.Zbd) = true
 F_Zbd : Fun K "without" "without" st_Zbd A.Zbd D.Zbd
 b_Zbd : Binds K D.Zbd ["mask", "other"] []
 m_Zbh : mg "all_of" = some (.ref A.Zbh)
 k_Zbh : PySem.W.keepIn K (.ref A.Zbh) = true
 F_Zbh : Fun K "all_of" "all_of" st_Zbh A.Zbh D.Zbh
 b_Zbh : Binds K D.Zbh ["pairs"] []
 m_Zp : mg "kept_pairs" = some (.ref A.Zp)
 k_Zp : PySem.W.keepIn K (.ref A.Zp) = true
 F_Zp : Fun K "kept_pairs" "kept_pairs" st_Zp A.Zp D.Zp
 b_Zp : Binds K D.Zp ["pairs", "mask"] []
 m_Zbi : mg "add_to" = some (.ref A.Zbi)
 k_Zbi : PySem.W.keepIn K (.ref A.Zbi) = true
 F_Zbi : Fun K "add_to" "add_to" st_Zbi A.Zbi D.Zbi
 b_Zbi : Binds K D.Zbi ["found", "key", "mask"] []
 m_Zq : mg "with_masks" = some (.ref A.Zq)
 k_Zq : PySem.W.keepIn K (.ref A.Zq) = true
 F_Zq : Fun K "with_masks" "with_masks" st_Zq A.Zq D.Zq
 b_Zq : Binds K D.Zq ["found"] []
 m_Zs : mg "kept_tree" = some (.ref A.Zs)
 k_Zs : PySem.W.keepIn K (.ref A.Zs) = true
 F_Zs : Fun K "kept_tree" "kept_tree" st_Zs A.Zs D.Zs
 b_Zs : Binds K D.Zs ["tree", "mask"] []
 m_Zi : mg "kept_statement" = some (.ref A.Zi)
 k_Zi : PySem.W.keepIn K (.ref A.Zi) = true
 F_Zi : Fun K "kept_statement" "kept_statement" st_Zi A.Zi D.Zi
 b_Zi : Binds K D.Zi ["one", "mask"] []
 m_Zj : mg "row_and_least" = some (.ref A.Zj)
 k_Zj : PySem.W.keepIn K (.ref A.Zj) = true
 F_Zj : Fun K "row_and_least" "row_and_least" st_Zj A.Zj D.Zj
 b_Zj : Binds K D.Zj ["pair"] []
 m_Zt : mg "shared_of" = some (.ref A.Zt)
 k_Zt : PySem.W.keepIn K (.ref A.Zt) = true
 F_Zt : Fun K "shared_of" "shared_of" st_Zt A.Zt D.Zt
 b_Zt : Binds K D.Zt ["tree"] []
 m_Zh : mg "shared_statement" = some (.ref A.Zh)
 k_Zh : PySem.W.keepIn K (.ref A.Zh) = true
 F_Zh : Fun K "shared_statement" "shared_statement" st_Zh A.Zh D.Zh
 b_Zh : Binds K D.Zh ["one"] []
 m_Zu : mg "blocks_of" = some (.ref A.Zu)
 k_Zu : PySem.W.keepIn K (.ref A.Zu) = true
 F_Zu : Fun K "blocks_of" "blocks_of" st_Zu A.Zu D.Zu
 b_Zu : Binds K D.Zu ["one"] []
 m_Zr : mg "first_rows" = some (.ref A.Zr)
 k_Zr : PySem.W.keepIn K (.ref A.Zr) = true
 F_Zr : Fun K "first_rows" "first_rows" st_Zr A.Zr D.Zr
 b_Zr : Binds K D.Zr ["tree"] []
 m_Zy : mg "pairs_of" = some (.ref A.Zy)
 k_Zy : PySem.W.keepIn K (.ref A.Zy) = true
 F_Zy : Fun K "pairs_of" "pairs_of" st_Zy A.Zy D.Zy
 b_Zy : Binds K D.Zy ["one"] []
 m_Zbe : mg "expr_of" = some (.ref A.Zbe)
 k_Zbe : PySem.W.keepIn K (.ref A.Zbe) = true
 F_Zbe : Fun K "expr_of" "expr_of" st_Zbe A.Zbe D.Zbe
 b_Zbe : Binds K D.Zbe ["one"] []
 m_Zz : mg "exprs_in" = some (.ref A.Zz)
 k_Zz : PySem.W.keepIn K (.ref A.Zz) = true
 F_Zz : Fun K "exprs_in" "exprs_in" st_Zz A.Zz D.Zz
 b_Zz : Binds K D.Zz ["e"] []
 m_Zbl : mg "unfit" = some (.ref A.Zbl)
 k_Zbl : PySem.W.keepIn K (.ref A.Zbl) = true
 F_Zbl : Fun K "unfit" "unfit" st_Zbl A.Zbl D.Zbl
 b_Zbl : Binds K D.Zbl ["kinds", "due"] []
 m_Zv : mg "is_record" = some (.ref A.Zv)
 k_Zv : PySem.W.keepIn K (.ref A.Zv) = true
 F_Zv : Fun K "is_record" "is_record" st_Zv A.Zv D.Zv
 b_Zv : Binds K D.Zv ["kind"] []
 m_Zbj : mg "giving" = some (.ref A.Zbj)
 k_Zbj : PySem.W.keepIn K (.ref A.Zbj) = true
 F_Zbj : Fun K "giving" "giving" st_Zbj A.Zbj D.Zbj
 b_Zbj : Binds K D.Zbj ["body"] []
 m_Zm : mg "shared_kinds" = some (.ref A.Zm)
 k_Zm : PySem.W.keepIn K (.ref A.Zm) = true
 F_Zm : Fun K "shared_kinds" "shared_kinds" st_Zm A.Zm D.Zm
 b_Zm : Binds K D.Zm ["tree", "mask"] []
 m_Zo : mg "plain_kinds" = some (.ref A.Zo)
 k_Zo : PySem.W.keepIn K (.ref A.Zo) = true
 F_Zo : Fun K "plain_kinds" "plain_kinds" st_Zo A.Zo D.Zo
 b_Zo : Binds K D.Zo ["tree"] []
 m_Zw : mg "_law_mixed" = some (.ref A.Zw)
 k_Zw : PySem.W.keepIn K (.ref A.Zw) = true
 F_Zw : Fun K "_law_mixed" "_law_mixed" st_Zw A.Zw D.Zw
 b_Zw : Binds K D.Zw ["_law_cell", "_law_k"] []
 m_Zba : mg "_law_expr" = some (.ref A.Zba)
 k_Zba : PySem.W.keepIn K (.ref A.Zba) = true
 F_Zba : Fun K "_law_expr" "_law_expr" st_Zba A.Zba D.Zba
 b_Zba : Binds K D.Zba ["_law_number", "_law_wanted", "_law_deep"] []
 m_Zbb : mg "_law_kind" = some (.ref A.Zbb)
 k_Zbb : PySem.W.keepIn K (.ref A.Zbb) = true
 F_Zbb : Fun K "_law_kind" "_law_kind" st_Zbb A.Zbb D.Zbb
 b_Zbb : Binds K D.Zbb ["_law_e"] []
 m_Zx : mg "_law_wrong" = some (.ref A.Zx)
 k_Zx : PySem.W.keepIn K (.ref A.Zx) = true
 F_Zx : Fun K "_law_wrong" "_law_wrong" st_Zx A.Zx D.Zx
 b_Zx : Binds K D.Zx ["_law_e"] []
 m_Zbf : mg "_law_row" = some (.ref A.Zbf)
 k_Zbf : PySem.W.keepIn K (.ref A.Zbf) = true
 F_Zbf : Fun K "_law_row" "_law_row" st_Zbf A.Zbf D.Zbf
 b_Zbf : Binds K D.Zbf ["_law_number", "_law_at"] []
 m_Zbc : mg "_law_tree" = some (.ref A.Zbc)
 k_Zbc : PySem.W.keepIn K (.ref A.Zbc) = true
 F_Zbc : Fun K "_law_tree" "_law_tree" st_Zbc A.Zbc D.Zbc
 b_Zbc : Binds K D.Zbc ["_law_script"] []
 m_Zbg : mg "_law_due" = some (.ref A.Zbg)
 k_Zbg : PySem.W.keepIn K (.ref A.Zbg) = true
 F_Zbg : Fun K "_law_due" "_law_due" st_Zbg A.Zbg D.Zbg
 b_Zbg : Binds K D.Zbg ["_law_rows"] []
 M_KindLook : Mk K A.c_KindLook A.Zk
 k_Zk : PySem.W.keepIn K (.ref A.Zk) = true
 F_Zk : Fun K "__init__" "KindLook.__init__" st_Zk A.Zk D.Zk
 b_Zk : Binds K D.Zk ["self", "tree"] []
 M_Zl : Meth K A.c_KindLook "note" A.Zl
 k_Zl : PySem.W.keepIn K (.ref A.Zl) = true
 F_Zl : Fun K "note" "KindLook.note" st_Zl A.Zl D.Zl
 b_Zl : Binds K D.Zl ["self", "mask", "at", "what"] []
 M_Zb : Meth K A.c_KindLook "look_body" A.Zb
 k_Zb : PySem.W.keepIn K (.ref A.Zb) = true
 F_Zb : Fun K "look_body" "KindLook.look_body" st_Zb A.Zb D.Zb
 b_Zb : Binds K D.Zb ["self", "statements", "names", "due"] []
 M_Zd : Meth K A.c_KindLook "look_def" A.Zd
 k_Zd : PySem.W.keepIn K (.ref A.Zd) = true
 F_Zd : Fun K "look_def" "KindLook.look_def" st_Zd A.Zd D.Zd
 b_Zd : Binds K D.Zd ["self", "mask", "one"] []
 M_Ze : Meth K A.c_KindLook "look_row" A.Ze
 k_Ze : PySem.W.keepIn K (.ref A.Ze) = true
 F_Ze : Fun K "look_row" "KindLook.look_row" st_Ze A.Ze D.Ze
 b_Ze : Binds K D.Ze ["self", "one", "kinds", "names", "due"] []
 M_Zf : Meth K A.c_KindLook "look_set" A.Zf
 k_Zf : PySem.W.keepIn K (.ref A.Zf) = true
 F_Zf : Fun K "look_set" "KindLook.look_set" st_Zf A.Zf D.Zf
 b_Zf : Binds K D.Zf ["self", "one", "kinds", "names"] []
 M_Zn : Meth K A.c_KindLook "ask" A.Zn
 k_Zn : PySem.W.keepIn K (.ref A.Zn) = true
 F_Zn : Fun K "ask" "KindLook.ask" st_Zn A.Zn D.Zn
 b_Zn : Binds K D.Zn ["self", "mask", "e", "due", "at", "names"] []
 M_Zg : Meth K A.c_KindLook "kinds_of" A.Zg
 k_Zg : PySem.W.keepIn K (.ref A.Zg) = true
 F_Zg : Fun K "kinds_of" "KindLook.kinds_of" st_Zg A.Zg D.Zg
 b_Zg : Binds K D.Zg ["self", "mask", "e", "at", "names"] []
 M_Zc : Meth K A.c_KindLook "used_rows" A.Zc
 k_Zc : PySem.W.keepIn K (.ref A.Zc) = true
 F_Zc : Fun K "used_rows" "KindLook.used_rows" st_Zc A.Zc D.Zc
 b_Zc : Binds K D.Zc ["self", "mask", "e", "word", "at", "names"] []
 M_Za : Meth K A.c_KindLook "field_kinds" A.Za
 k_Za : PySem.W.keepIn K (.ref A.Za) = true
 F_Za : Fun K "field_kinds" "KindLook.field_kinds" st_Za A.Za D.Za
 b_Za : Binds K D.Za ["self", "mask", "kind", "field", "at"] []
 m_KindLook : mg "KindLook" = some (.ref A.c_KindLook)
 cl_KindLook : Cls K A.c_KindLook
 na_KindLook_faults : NoAttr K A.c_KindLook "faults"
 na_KindLook_firsts : NoAttr K A.c_KindLook "firsts"
 ty_KindLook : ∀ (H : Hp) (a dx : Addr) (fs : List (Str × V)), H a = some (.ins A.c_KindLook dx fs) -> TyOf K H (.ref a) (.ref A.c_KindLook)
 is_KindLook : PySem.W.kitOne K (.ref A.c_KindLook) (.ref A.c_KindLook) = some true
 m_MAKES : mg "MAKES" = some (.ref A.d_MAKES)
 D_MAKES : KDictT P w K A.d_MAKES [("num", "num"), ("truth", "truth"), ("+", "num"), ("-", "num"), ("*", "num"), ("less", "truth"), ("same", "truth"), ("and", "truth"), ("or", "truth"), ("not", "truth")]
 m_ASKS : mg "ASKS" = some (.ref A.d_ASKS)
 D_ASKS : KDictT P w K A.d_ASKS [("+", "num"), ("-", "num"), ("*", "num"), ("less", "num"), ("same", "num"), ("and", "truth"), ("or", "truth"), ("not", "truth")]
 m_PLAIN_KINDS : mg "PLAIN_KINDS" = some (.ref A.q_PLAIN_KINDS)
 Q_PLAIN_KINDS : ∀ H, SqT K H A.q_PLAIN_KINDS [.str "num", .str "truth"]
 n_len : mg "len" = none
 n_range : mg "range" = none
 n_list : mg "list" = none
 n_dict : mg "dict" = none
 n_tuple : mg "tuple" = none
 n_sorted : mg "sorted" = none
 n_enumerate : mg "enumerate" = none
 n_isinstance : mg "isinstance" = none
 n_zip : mg "zip" = none
theorem same_upd {H : Hp} {p : Addr} {o : HO} (h : H p = none) : Same H (upd H p o) := fun b u e => by rw [upd_ne (ne_of_none e h)]; exact e
section
variable {P : Program} {w : World} {K : PySem.W.Frag} {mg : Str -> Option Value} {base : Heap} {AA : Adr} {DD : Fds}
theorem small1000' {n : Nat} (h : n < 1000) : n < sizeLine := by rw [sizeLine_eq]; omega
noncomputable def spShOf (k : Nat) : Sp := fun vs H Q _ => ∃ (l : Addr) (xs : List V) (ts : List Tr), vs = [.ref l] /\ H l = some (.lst xs) /\ LAt H false xs ts /\ deeps ts < k /\ ts.length <= 20 /\ ascs ts /\ ∀ p ys H', Same H H' -> H' p = some (.lst ys) -> LAt H' true ys ts -> Q (.ref p) H'
noncomputable def spShSt (k : Nat) : Sp := fun vs H Q _ => ∃ (v : V) (t : Tr), vs = [v] /\ SAt H false v t /\ t.deep < k /\ t.asc /\ ∀ v' H', Same H H' -> SAt H' true v' t -> Q v' H'
noncomputable abbrev N_Zh : List Str := ["one"]
theorem sc_Zh : FnScope N_Zh ["one"] (defScope st_Zh) := ⟨rfl, rfl, rfl, by decide +kernel, rfl, by decide +kernel, by decide +kernel⟩
theorem ok_shst (T : All P w K mg AA DD) (k : Nat) (GF : FnOk P w K mg base CX0 (2 * k + 1) AA.Zt DD.Zt ["tree"] (spShOf k)) : FnOk P w K mg base CX0 (2 * k + 2) AA.Zh DD.Zh ["one"] (spShSt k) := by
 refine T.F_Zh.ok sc_Zh (fun vs H Q E h => ?_) (fun cdv A outer s H vs Q E hr h => ?_)
 ·obtain ⟨v, t, rfl, _⟩ := h
  rfl
 ·obtain ⟨v, t, rfl, hS, hd, ha, kq⟩ := h
  have nd := sc_Zh.nd
  have hrF : Room (2 * k + 1) _ := hr
  refine ⟨_, (@pss_one _ _ _ (@ps_ret _ _ _ _ (pe_callTy call_tuple_of rfl T.n_tuple bt_tuple (@pa_cons _ _ _ _ _ (pe_comp (defScope st_Zh) N_Zh [] [] rfl (by exact ⟨rfl, rfl, by decide +kernel, rfl, by decide +kernel, by decide +kernel, by decide +kernel, rfl, by decide +kernel⟩) rfl rfl (pi_tup (pv 0)) (fun _ _ _ _ => pif_nil) (fun _ _ _ _ => (pe_ifExp (pt_val (pe_callB (call_isinstK (K := K) (n := "list") rfl) rfl T.n_isinstance bt_isi (@pa_cons _ _ _ _ _ (pv 0) (@pa_cons _ _ _ _ _ (pe_bltn (v := .ty "list") rfl T.n_list bt_list rfl) pa_nil (by rfl)) (by rfl)))) (pe_call GF hrF rfl T.m_Zt T.k_Zt T.b_Zt .nil pass0 (@pa_cons _ _ _ _ _ (pv 0) pa_nil (by rfl))) (pv 0)))) pa_nil (by rfl))))), ?_⟩
  cases hS with
  | @mk t0 xs _ ht hps =>
  refine ⟨_, rfl, t0, rfl, ⟨_, SqT.of ht⟩, ?_⟩
  have hpl := t.parts_len
  have hxl := hps.length
  refine comp_tup (K := K) (a := t0) (xs := xs) (fun i ys H' => Same H H' /\ i <= xs.length /\ PsAt H' true ys (t.parts.take i)) ⟨Same.refl _, Nat.zero_le _, by simpa using PsAt.nil⟩ (fun i ys H' _ h => SqT.of (h.1 _ _ ht)) ?_ ?_
  ·rintro i x ys H1 hx ⟨sm, hi, hys⟩
   obtain ⟨p, hp, hP⟩ := hps.get hx
   have hP1 := hP.kept sm.ls
   have hilt := (List.getElem?_eq_some_iff.mp hx).1
   have hyl := hys.length
   rw [List.length_take] at hyl
   have hil : i < t.parts.length := by omega
   have htk : t.parts.take (i + 1) = t.parts.take i ++ [p] := by
    rw [List.take_succ_eq_append_getElem hil]
    rw [List.getElem?_eq_getElem hil] at hp
    rw [Option.some.inj hp]
   refine tYes_ok ?_
   rw [if_pos rfl]
   rcases hP1.isL (K := K) with ⟨bs, l, zs, e1, e2, hl, hL, ty, kb⟩ | ⟨nb, ty0, ty, kb⟩
   ·subst e1 e2
    have hm : Part.b bs ∈ t.parts := List.mem_of_getElem? hp
    refine ⟨_, rfl, _, _, true, rfl, ty, kb, _, rfl, iteT ?_⟩
    refine ⟨_, rfl, l, zs, bs, rfl, hl, hL, Nat.lt_of_le_of_lt (deep_part hm) hd, (asc_part ha hm).1, (asc_part ha hm).2, fun q us H2 s2 hq hL2 => ?_⟩
    refine ⟨small1000' (by omega), sm.trans s2, by omega, ?_⟩
    rw [htk]
    exact (hys.kept s2.ls).snoc (.b hq hL2)
   ·refine ⟨_, rfl, _, _, false, rfl, ty, kb, _, rfl, iteF ?_⟩
    refine ⟨_, rfl, small1000' (by omega), sm, by omega, ?_⟩
    rw [htk]
    exact hys.snoc (hP1.other nb)
  ·rintro ys H1 ⟨sm, hi, hys⟩ p hp
   have s1 := same_upd (o := .lst ys) hp
   refine ⟨p, ys, rfl, .inl ⟨SqL.of upd_same, fun l hl => ?_⟩⟩
   have s2 := same_upd (o := .tup ys) hl
   refine kq _ _ ((sm.trans s1).trans s2) (.mk upd_same ?_)
   rw [List.take_of_length_le (by omega)] at hys
   exact hys.kept (s1.trans s2).ls
noncomputable abbrev N_Zt : List Str := ["tree"]
theorem sc_Zt : FnScope N_Zt ["tree"] (defScope st_Zt) := ⟨rfl, rfl, rfl, by decide +kernel, rfl, by decide +kernel, by decide +kernel⟩
theorem ok_shofS (T : All P w K mg AA DD) (k : Nat) (GS : FnOk P w K mg base CX0 (2 * k + 2) AA.Zh DD.Zh ["one"] (spShSt k)) : FnOk P w K mg base CX0 (2 * (k + 1) + 1) AA.Zt DD.Zt ["tree"] (spShOf (k + 1)) := by
 refine T.F_Zt.ok sc_Zt (fun vs H Q E h => ?_) (fun cdv A outer s H vs Q E hr h => ?_)
 ·obtain ⟨l, xs, ts, rfl, _⟩ := h
  rfl
 ·obtain ⟨l, xs, ts, rfl, hl, hL, hd, h20, ha, kq⟩ := h
  have nd := sc_Zt.nd
  have hrS : Room (2 * k + 2) _ := hr
  refine ⟨_, (@pss_one _ _ _ (@ps_ret _ _ _ _ (pe_comp (defScope st_Zt) N_Zt [] [] rfl (by exact ⟨rfl, rfl, by decide +kernel, rfl, by decide +kernel, by decide +kernel, by decide +kernel, rfl, by decide +kernel⟩) rfl rfl (pi_list (pv 0)) (fun _ _ _ _ => pif_nil) (fun _ _ _ _ => (@pe_tup _ _ _ _ _ (@pa_cons _ _ _ _ _ pe_int (@pa_cons _ _ _ _ _ (pe_call GS hrS rfl T.m_Zh T.k_Zh T.b_Zh .nil pass0 (@pa_cons _ _ _ _ _ (pv 0) pa_nil (by rfl))) pa_nil (by rfl)) (by rfl))))))), ?_⟩
  refine ⟨_, rfl, l, rfl, ⟨_, SqL.of hl⟩, ?_⟩
  have hxl := hL.length
  refine comp_list (K := K) (a := l) (xs := xs) (fun i ys H' => Same H H' /\ i <= xs.length /\ LAt H' true ys (ts.take i)) ⟨Same.refl _, Nat.zero_le _, by simpa using LAt.nil⟩ (fun i ys H' _ h => SqL.of (h.1 _ _ hl)) ?_ ?_
  ·rintro i x ys H1 hx ⟨sm, hi, hys⟩
   obtain ⟨t, ht, hO⟩ := hL.get hx
   have hilt := (List.getElem?_eq_some_iff.mp hx).1
   have hyl := hys.length
   rw [List.length_take] at hyl
   have hil : i < ts.length := by omega
   have htk : ts.take (i + 1) = ts.take i ++ [t] := by
    rw [List.take_succ_eq_append_getElem hil]
    rw [List.getElem?_eq_getElem hil] at ht
    rw [Option.some.inj ht]
   have hm : t ∈ ts := List.mem_of_getElem? ht
   have hS : SAt H1 false x t := by
    cases hO with
    | plain _ a => exact a.kept sm.ls
    | shared e _ _ => cases e
   refine tYes_ok ?_
   rw [if_pos rfl]
   refine ⟨_, rfl, x, t, rfl, hS, by have := deeps_mem hm; omega, ascs_mem ha hm, fun v' H2 s2 hS2 => ?_⟩
   refine ⟨(by show 2 <= sizeLine; decide), fun q hq => ?_⟩
   have s3 := same_upd (o := .tup [.int 1, v']) hq
   refine ⟨small1000' (by omega), (sm.trans s2).trans s3, by omega, ?_⟩
   rw [htk]
   exact (hys.kept (s2.trans s3).ls).snoc (.shared rfl upd_same (hS2.kept s3.ls))
  ·rintro ys H1 ⟨sm, hi, hys⟩ p hp
   have s1 := same_upd (o := .lst ys) hp
   rw [List.take_of_length_le (by omega)] at hys
   exact kq p ys _ (sm.trans s1) upd_same (hys.kept s1.ls)
theorem ok_shof0 (T : All P w K mg AA DD) : FnOk P w K mg base CX0 1 AA.Zt DD.Zt ["tree"] (spShOf 0) := by
 have no : ∀ vs H Q E, ¬ spShOf 0 vs H Q E := fun vs H Q E h => by
  obtain ⟨l, xs, ts, _, _, _, z, _⟩ := h
  omega
 exact T.F_Zt.ok sc_Zt (fun vs H Q E h => (no _ _ _ _ h).elim) (fun cdv A outer s H vs Q E hr h => (no _ _ _ _ h).elim)
theorem ok_shof (T : All P w K mg AA DD) : ∀ k : Nat, FnOk P w K mg base CX0 (2 * k + 1) AA.Zt DD.Zt ["tree"] (spShOf k)
 | 0 => ok_shof0 T
 | k + 1 => ok_shofS T k (ok_shst T k (ok_shof T k))
end
section
variable {P : Program} {w : World} {K : PySem.W.Frag} {mg : Str -> Option Value} {base : Heap} {AA : Adr} {DD : Fds}
theorem iteFb {c : Bool} {a b : Prop} (h : c = false) (k : b) : if c = true then a else b := by rw [h]; exact k
theorem iteTb {c : Bool} {a b : Prop} (h : c = true) (k : a) : if c = true then a else b := by rw [h]; exact k
noncomputable def spLeast1 : Sp := fun vs H Q _ => vs = [.int 1] /\ Q (.int 0) H
theorem xor10 : Builtin.bitXor (1 : Int) (1 - 1) = 1 := by decide +kernel
noncomputable abbrev N_Zbk : List Str := ["mask"]
theorem sc_Zbk : FnScope N_Zbk ["mask"] (defScope st_Zbk) := ⟨rfl, rfl, rfl, by decide +kernel, rfl, by decide +kernel, by decide +kernel⟩
theorem ok_least1 (T : All P w K mg AA DD) : FnOk P w K mg base CX0 1 AA.Zbk DD.Zbk ["mask"] spLeast1 := by
 refine T.F_Zbk.ok sc_Zbk (fun vs H Q E h => ?_) (fun cdv A outer s H vs Q E hr h => ?_)
 ·obtain ⟨rfl, _⟩ := h
  rfl
 ·obtain ⟨rfl, k⟩ := h
  have nd := sc_Zbk.nd
  refine ⟨_, (@pss_cons _ _ _ _ _ (@ps_if _ _ _ _ _ _ _ _ (@pt_cmpR _ _ _ _ _ _ _ _ op_eq (pv 0) pe_int (nomark _)) (@pss_one _ _ _ (@ps_ret _ _ _ _ pe_non)) pss_nil) (@pss_one _ _ _ (@ps_ret _ _ _ _ (@pe_op _ _ _ _ _ _ _ _ op_sub (pe_bm0 PySem.F.plainAttrs_int PySem.F.slot_int_bit_length PySem.F.type_int_bit_length mt_bitlen (@pe_op _ _ _ _ _ _ _ _ op_xor (pv 0) (@pe_op _ _ _ _ _ _ _ _ op_sub (pv 0) pe_int))) pe_int)))), ?_⟩
  refine ⟨_, rfl, rfl, _, rfl, iteF ?_⟩
  refine ⟨_, rfl, _, rfl, _, _, rfl, rfl, _, _, rfl, rfl, rfl, _, rfl, rfl, _, _, rfl, rfl, ?_⟩
  rw [xor10]
  exact k
noncomputable def rowK (t : Tr) : List Key := [.inl ((t.row : Nat) : Int), .inl 0]
noncomputable def spRL : Sp := fun vs H Q _ => ∃ (v : V) (t : Tr), vs = [v] /\ OAt H true v t /\ ∀ q H', Same H H' -> H' q = some (.tup ((rowK t).map kV)) -> Q (.ref q) H'
theorem part1 {H : Hp} {vs : List V} {t : Tr} (h : PsAt H true vs t.parts) : ∃ (a : V) (r : List V), vs = a :: .int ((t.row : Nat) : Int) :: r := by
 cases t with
 | set r n e => cases h with | cons a b => cases b with | cons c d => cases c; exact ⟨_, _, rfl⟩
 | tell r e => cases h with | cons a b => cases b with | cons c d => cases c; exact ⟨_, _, rfl⟩
 | iff r e b o => cases h with | cons a b => cases b with | cons c d => cases c; exact ⟨_, _, rfl⟩
 | whl r e b => cases h with | cons a b => cases b with | cons c d => cases c; exact ⟨_, _, rfl⟩
noncomputable abbrev N_Zj : List Str := ["pair"]
theorem sc_Zj : FnScope N_Zj ["pair"] (defScope st_Zj) := ⟨rfl, rfl, rfl, by decide +kernel, rfl, by decide +kernel, by decide +kernel⟩
theorem ok_rl (T : All P w K mg AA DD) : FnOk P w K mg base CX0 2 AA.Zj DD.Zj ["pair"] spRL := by
 have GL := ok_least1 (base := base) T
 refine T.F_Zj.ok sc_Zj (fun vs H Q E h => ?_) (fun cdv A outer s H vs Q E hr h => ?_)
 ·obtain ⟨v, t, rfl, _⟩ := h
  rfl
 ·obtain ⟨v, t, rfl, hO, k⟩ := h
  have nd := sc_Zj.nd
  have hr1 : Room 1 _ := hr
  refine ⟨_, (@pss_one _ _ _ (@ps_ret _ _ _ _ (@pe_tup _ _ _ _ _ (@pa_cons _ _ _ _ _ (@pe_ix _ _ _ _ _ _ _ (ix_tupK (K := K) rfl) (@pe_ix _ _ _ _ _ _ _ (ix_tupK (K := K) rfl) (pv 0) pe_int (fun _ _ => rfl)) pe_int (fun _ _ => rfl)) (@pa_cons _ _ _ _ _ (pe_call GL hr1 rfl T.m_Zbk T.k_Zbk T.b_Zbk .nil pass0 (@pa_cons _ _ _ _ _ (@pe_ix _ _ _ _ _ _ _ (ix_tupK (K := K) rfl) (pv 0) pe_int (fun _ _ => rfl)) pa_nil (by rfl))) pa_nil (by rfl)) (by rfl))))), ?_⟩
  cases hO with
  | plain e _ => cases e
  | @shared p x _ _ hp hS =>
  cases hS with
  | @mk t0 vs _ ht hps =>
  obtain ⟨a, r, rfl⟩ := part1 hps
  refine ⟨_, rfl, p, _, _, _, rfl, rfl, SqT.of hp, rfl, ?_⟩
  refine ⟨t0, _, _, _, rfl, rfl, SqT.of ht, atI_nat (j := 1) rfl, ?_⟩
  refine ⟨_, rfl, p, _, _, _, rfl, rfl, SqT.of hp, rfl, ?_⟩
  refine ⟨rfl, (by show 2 <= sizeLine; decide), fun q hq => ?_⟩
  exact k q _ (same_upd hq) upd_same
noncomputable def spKT (k : Nat) : Sp := fun vs H Q _ => ∃ (l : Addr) (xs : List V) (ts : List Tr), vs = [.ref l, .int 1] /\ H l = some (.lst xs) /\ LAt H true xs ts /\ deeps ts < k /\ ts.length <= 20 /\ ascs ts /\ ∀ p ys H', Same H H' -> H' p = some (.lst ys) -> LAt H' true ys ts -> Q (.ref p) H'
noncomputable def spKS (k : Nat) : Sp := fun vs H Q _ => ∃ (v : V) (t : Tr), vs = [v, .int 1] /\ SAt H true v t /\ t.deep < k /\ t.asc /\ ∀ v' H', Same H H' -> SAt H' true v' t -> Q v' H'
noncomputable abbrev N_Zi : List Str := ["one", "mask"]
theorem sc_Zi : FnScope N_Zi ["one", "mask"] (defScope st_Zi) := ⟨rfl, rfl, rfl, by decide +kernel, rfl, by decide +kernel, by decide +kernel⟩
theorem ok_kstS (T : All P w K mg AA DD) (k : Nat) (GF : FnOk P w K mg base CX0 (2 * k + 5) AA.Zs DD.Zs ["tree", "mask"] (spKT k)) : FnOk P w K mg base CX0 (2 * k + 6) AA.Zi DD.Zi ["one", "mask"] (spKS k) := by
 refine T.F_Zi.ok sc_Zi (fun vs H Q E h => ?_) (fun cdv A outer s H vs Q E hr h => ?_)
 ·obtain ⟨v, t, rfl, _⟩ := h
  rfl
 ·obtain ⟨v, t, rfl, hS, hd, ha, kq⟩ := h
  have nd := sc_Zi.nd
  have hrF : Room (2 * k + 5) _ := hr
  refine ⟨_, (@pss_one _ _ _ (@ps_ret _ _ _ _ (pe_callTy call_tuple_of rfl T.n_tuple bt_tuple (@pa_cons _ _ _ _ _ (pe_comp (defScope st_Zi) N_Zi ["mask"] [1] rfl (by exact ⟨rfl, rfl, by decide +kernel, rfl, by decide +kernel, by decide +kernel, by decide +kernel, rfl, by decide +kernel⟩) rfl rfl (pi_tup (pv 0)) (fun _ _ _ _ => pif_nil) (fun _ _ _ _ => (pe_ifExp (pt_val (pe_callB (call_isinstK (K := K) (n := "list") rfl) rfl T.n_isinstance bt_isi (@pa_cons _ _ _ _ _ (pv 0) (@pa_cons _ _ _ _ _ (pe_bltn (v := .ty "list") rfl T.n_list bt_list rfl) pa_nil (by rfl)) (by rfl)))) (pe_call GF hrF rfl T.m_Zs T.k_Zs T.b_Zs .nil pass0 (@pa_cons _ _ _ _ _ (pv 0) (@pa_cons _ _ _ _ _ (pv 1) pa_nil (by rfl)) (by rfl))) (pv 0)))) pa_nil (by rfl))))), ?_⟩
  cases hS with
  | @mk t0 xs _ ht hps =>
  refine ⟨_, rfl, t0, rfl, ⟨_, SqT.of ht⟩, ?_⟩
  have hpl := t.parts_len
  have hxl := hps.length
  refine comp_tup (K := K) (a := t0) (xs := xs) (fun i ys H' => Same H H' /\ i <= xs.length /\ PsAt H' true ys (t.parts.take i)) ⟨Same.refl _, Nat.zero_le _, by simpa using PsAt.nil⟩ (fun i ys H' _ h => SqT.of (h.1 _ _ ht)) ?_ ?_
  ·rintro i x ys H1 hx ⟨sm, hi, hys⟩
   obtain ⟨p, hp, hP⟩ := hps.get hx
   have hP1 := hP.kept sm.ls
   have hilt := (List.getElem?_eq_some_iff.mp hx).1
   have hyl := hys.length
   rw [List.length_take] at hyl
   have hil : i < t.parts.length := by omega
   have htk : t.parts.take (i + 1) = t.parts.take i ++ [p] := by
    rw [List.take_succ_eq_append_getElem hil]
    rw [List.getElem?_eq_getElem hil] at hp
    rw [Option.some.inj hp]
   refine tYes_ok ?_
   rw [if_pos rfl]
   rcases hP1.isL (K := K) with ⟨bs, l, zs, e1, e2, hl, hL, ty, kb⟩ | ⟨nb, ty0, ty, kb⟩
   ·subst e1 e2
    have hm : Part.b bs ∈ t.parts := List.mem_of_getElem? hp
    refine ⟨_, rfl, _, _, true, rfl, ty, kb, _, rfl, iteT ?_⟩
    refine ⟨_, rfl, _, rfl, l, zs, bs, rfl, hl, hL, Nat.lt_of_le_of_lt (deep_part hm) hd, (asc_part ha hm).1, (asc_part ha hm).2, fun q us H2 s2 hq hL2 => ?_⟩
    refine ⟨small1000' (by omega), sm.trans s2, by omega, ?_⟩
    rw [htk]
    exact (hys.kept s2.ls).snoc (.b hq hL2)
   ·refine ⟨_, rfl, _, _, false, rfl, ty, kb, _, rfl, iteF ?_⟩
    refine ⟨_, rfl, small1000' (by omega), sm, by omega, ?_⟩
    rw [htk]
    exact hys.snoc hP1
  ·rintro ys H1 ⟨sm, hi, hys⟩ p hp
   have s1 := same_upd (o := .lst ys) hp
   refine ⟨p, ys, rfl, .inl ⟨SqL.of upd_same, fun l hl => ?_⟩⟩
   have s2 := same_upd (o := .tup ys) hl
   refine kq _ _ ((sm.trans s1).trans s2) (.mk upd_same ?_)
   rw [List.take_of_length_le (by omega)] at hys
   exact hys.kept (s1.trans s2).ls
theorem and11 : Builtin.bitAnd (1 : Int) 1 = 1 := by decide +kernel
theorem ascs_rows : ∀ {ts : List Tr}, ascs ts -> ∀ {i : Nat} {a b : Tr}, ts[i]? = some a -> ts[i + 1]? = some b -> a.row < b.row
 | t :: ts, h, 0, a, b, h1, h2 => by
  cases (show some t = some a from h1)
  exact h.2.1 b (List.mem_of_getElem? (show ts[0]? = some b from h2))
 | t :: ts, h, i + 1, a, b, h1, h2 => ascs_rows h.2.2 (show ts[i]? = some a from h1) (show ts[i + 1]? = some b from h2)
theorem rows_srt {ts : List Tr} {ys : List V} (h64 : ts.length <= 20) (h : ascs ts) (hl : ys.length = ts.length) : srt (ts.map rowK) ys = ys := by
 refine srt_asc (by rw [List.length_map]; omega) (by simp [hl]) fun i hi => ?_
 rw [List.length_map] at hi
 have hi' : i < ts.length := by omega
 have e1 : (ts.map rowK).getD (i + 1) [] = rowK ts[i + 1] := by simp [List.getD_eq_getElem?_getD, hi]
 have e2 : (ts.map rowK).getD i [] = rowK ts[i] := by simp [List.getD_eq_getElem?_getD, hi']
 have hr := ascs_rows h (List.getElem?_eq_getElem hi') (List.getElem?_eq_getElem hi)
 rw [e1, e2]
 show (if (Sum.inl ((ts[i + 1].row : Nat) : Int) : Key) = Sum.inl ((ts[i].row : Nat) : Int) then _ else ltK (Sum.inl ((ts[i + 1].row : Nat) : Int)) (Sum.inl ((ts[i].row : Nat) : Int))) = false
 rw [if_neg (fun z => by injection z with z; omega)]
 show decide (((ts[i + 1].row : Nat) : Int) < ((ts[i].row : Nat) : Int)) = false
 exact decide_eq_false (by omega)
noncomputable abbrev N_Zs : List Str := ["tree", "mask", "kept"]
theorem sc_Zs : FnScope N_Zs ["tree", "mask"] (defScope st_Zs) := ⟨rfl, rfl, rfl, by decide +kernel, rfl, by decide +kernel, by decide +kernel⟩
theorem ok_ktS (T : All P w K mg AA DD) (k : Nat) (GS : FnOk P w K mg base CX0 (2 * k + 6) AA.Zi DD.Zi ["one", "mask"] (spKS k)) : FnOk P w K mg base CX0 (2 * (k + 1) + 5) AA.Zs DD.Zs ["tree", "mask"] (spKT (k + 1)) := by
 have GR := ok_rl (base := base) T
 refine T.F_Zs.ok sc_Zs (fun vs H Q E h => ?_) (fun cdv A outer s H vs Q E hr h => ?_)
 ·obtain ⟨l, xs, ts, rfl, _⟩ := h
  rfl
 ·obtain ⟨l, xs, ts, rfl, hl, hL, hd, h20, ha, kq⟩ := h
  have nd := sc_Zs.nd
  have hrS : Room (2 * k + 6) _ := hr
  have hr4 : Room 4 _ := hrS.mono (by omega)
  refine ⟨_, (@pss_cons _ _ _ _ _ (ps_setcomp2 (i := 2) (xs := ["there", "one"]) (defScope st_Zs) N_Zs ["mask"] [1] rfl (by exact ⟨rfl, rfl, by decide +kernel, by decide +kernel, by decide +kernel, by decide +kernel, by decide +kernel, rfl, by decide +kernel⟩) rfl rfl (pi_list (pv 0)) (fun _ _ _ _ => (pg_tupK (K := K) (n := 2) rfl rfl (pgs_cons (pg_name (i := 0) (show (["there", "one", "mask"] : List Str).Nodup by decide +kernel) rfl (Or.inl rfl)) (pgs_cons (pg_name (i := 1) (show (["there", "one", "mask"] : List Str).Nodup by decide +kernel) rfl (Or.inl rfl)) pgs_nil)))) (fun _ _ _ _ => pif_one (pt_cmpR op_ne (pe_op op_and (pv 0) (pv 2)) pe_int (nomark _))) (fun _ _ _ _ => (@pe_tup _ _ _ _ _ (@pa_cons _ _ _ _ _ (@pe_op _ _ _ _ _ _ _ _ op_and (pv 0) (pv 2)) (@pa_cons _ _ _ _ _ (pe_call GS hrS rfl T.m_Zi T.k_Zi T.b_Zi .nil pass0 (@pa_cons _ _ _ _ _ (pv 1) (@pa_cons _ _ _ _ _ (pv 2) pa_nil (by rfl)) (by rfl))) pa_nil (by rfl)) (by rfl)))) nd rfl rfl rfl) (@pss_one _ _ _ (@ps_ret _ _ _ _ (pe_sortKT (K := K) rfl GR hr4 T.b_Zj .nil rfl T.n_sorted rfl T.m_Zj (pv 2))))), ?_⟩
  refine ⟨_, rfl, l, rfl, ⟨_, SqL.of hl⟩, ?_⟩
  have hxl := hL.length
  refine comp2_list (K := K) (a := l) (xs := xs) (fun i ys H' => Same H H' /\ i <= xs.length /\ LAt H' true ys (ts.take i)) ⟨Same.refl _, Nat.zero_le _, by simpa using LAt.nil⟩ (fun i ys H' _ h => SqL.of (h.1 _ _ hl)) ?_ ?_
  ·rintro i x ys H1 hx ⟨sm, hi, hys⟩
   obtain ⟨t, ht, hO⟩ := hL.get hx
   have hO := hO.kept sm.ls
   have hilt := (List.getElem?_eq_some_iff.mp hx).1
   have hyl := hys.length
   rw [List.length_take] at hyl
   have hil : i < ts.length := by omega
   have htk : ts.take (i + 1) = ts.take i ++ [t] := by
    rw [List.take_succ_eq_append_getElem hil]
    rw [List.getElem?_eq_getElem hil] at ht
    rw [Option.some.inj ht]
   have hm : t ∈ ts := List.mem_of_getElem? ht
   cases hO with
   | plain e _ => cases e
   | @shared q y _ _ hq hS =>
   intro os hos
   obtain ⟨a, b, rfl⟩ : ∃ a b, os = [a, b] := by
    match os, hos with
    | [a, b], _ => exact ⟨a, b, rfl⟩
   refine ⟨q, _, rfl, SqT.of hq, rfl, _, _, rfl, _, _, rfl, rfl, ⟨[_, _], rfl, rfl⟩, ?_⟩
   refine ⟨_, rfl, _, rfl, _, _, rfl, rfl, rfl, _, rfl, ?_⟩
   refine iteTb (by
     show (!decide (V.int (Builtin.bitAnd 1 1) = V.int 0)) = true
     rw [and11]; rfl) ?_
   refine ⟨_, rfl, _, rfl, _, _, rfl, rfl, _, rfl, _, rfl, y, t, rfl, hS, by have := deeps_mem hm; omega, ascs_mem ha hm, fun v' H2 s2 hS2 => ?_⟩
   refine ⟨(by show 2 <= sizeLine; decide), fun q2 hq2 => ?_⟩
   dsimp only
   rw [and11]
   have s3 := same_upd (o := .tup [.int 1, v']) hq2
   refine ⟨small1000' (by omega), (sm.trans s2).trans s3, by omega, ?_⟩
   rw [htk]
   exact (hys.kept (s2.trans s3).ls).snoc (.shared rfl upd_same (hS2.kept s3.ls))
  ·rintro ys H1 ⟨sm, hi, hys⟩ p hp
   have s1 := same_upd (o := .lst ys) hp
   rw [List.take_of_length_le (by omega)] at hys
   have hyl := hys.length
   have hys1 := hys.kept s1.ls
   refine ⟨_, rfl, p, ys, ts.map rowK, [true, true], rfl, SqL.of upd_same, by omega, by simp [hyl], fun d hd => ?_, by simp, fun i x d H' s2 hx hd Q' kQ => ?_, fun q H' s2 hq => ?_⟩
   ·obtain ⟨t, _, rfl⟩ := List.mem_map.mp hd
    rfl
   ·obtain ⟨t, ht, hO⟩ := hys1.get hx
    rw [List.getElem?_map, ht] at hd
    cases (show some (rowK t) = some d from hd)
    exact ⟨x, t, rfl, hO.kept s2.ls, fun q H2 s3 hq => kQ q H2 s3 hq⟩
   ·rw [rows_srt (by omega) ha hyl]
    have s3 := same_upd (o := .lst ys) hq
    exact kq q ys _ (((sm.trans s1).trans s2).trans s3) upd_same (hys1.kept (s2.trans s3).ls)
theorem ok_kt0 (T : All P w K mg AA DD) : FnOk P w K mg base CX0 5 AA.Zs DD.Zs ["tree", "mask"] (spKT 0) := by
 have no : ∀ vs H Q E, ¬ spKT 0 vs H Q E := fun vs H Q E h => by
  obtain ⟨l, xs, ts, _, _, _, z, _⟩ := h
  omega
 exact T.F_Zs.ok sc_Zs (fun vs H Q E h => (no _ _ _ _ h).elim) (fun cdv A outer s H vs Q E hr h => (no _ _ _ _ h).elim)
theorem ok_kt (T : All P w K mg AA DD) : ∀ k : Nat, FnOk P w K mg base CX0 (2 * k + 5) AA.Zs DD.Zs ["tree", "mask"] (spKT k)
 | 0 => ok_kt0 T
 | k + 1 => ok_ktS T k (ok_kstS T k (ok_kt T k))
end
section
variable {P : Program} {w : World} {K : PySem.W.Frag} {mg : Str -> Option Value} {base : Heap} {AA : Adr} {DD : Fds}
theorem ls_upd {H : Hp} {d : Addr} {ob ob' : HO} (h : H d = some ob) (n1 : ∀ xs, ob ≠ .tup xs) (n2 : ∀ xs, ob ≠ .lst xs) (n3 : ∀ o x, ob ≠ .frz o x) : LsS H (upd H d ob') :=
 ⟨fun b xs e => (by rw [upd_ne (fun z => by rw [z, h] at e; exact n1 _ (Option.some.inj e))]; exact e), fun b xs e => (by rw [upd_ne (fun z => by rw [z, h] at e; exact n2 _ (Option.some.inj e))]; exact e), fun b o xs e => by rw [upd_ne (fun z => by rw [z, h] at e; exact n3 _ _ (Option.some.inj e))]; exact e⟩
noncomputable def ones (fs : List (List Key)) : List (List Key × V) := fs.map fun k => (k, .int 1)
noncomputable def addF (fs : List (List Key)) (k : List Key) : List (List Key) := if (fs.any fun d => decide (d = k)) = true then fs else fs ++ [k]
theorem ones_any (fs : List (List Key)) (k : List Key) : ((ones fs).any fun kv => decide (kv.1 = k)) = fs.any fun d => decide (d = k) := by
 unfold ones
 rw [List.any_map]
 rfl
theorem ones_put (fs : List (List Key)) (k : List Key) : putK (ones fs) k (.int 1) = ones (addF fs k) := by
 unfold putK addF
 rw [ones_any]
 split
 ·unfold ones
  rw [List.map_map]
  refine List.map_congr_left fun d _ => ?_
  show (if d = k then (d, V.int 1) else (d, V.int 1)) = _
  split <;> rfl
 ·unfold ones
  rw [List.map_append]
  rfl
theorem ones_val (fs : List (List Key)) (k : List Key) : valV (ones fs) k = if (fs.any fun d => decide (d = k)) = true then some (.int 1) else none := by
 have h := valV_any k (ones fs)
 rw [ones_any] at h
 cases e : valV (ones fs) k with
 | none => rw [e] at h; rw [h]; rfl
 | some v =>
  rw [e] at h
  rw [h]
  have hm : ∃ d, (d, v) ∈ ones fs := by
   unfold valV at e
   obtain ⟨q, hq, rfl⟩ := Option.map_eq_some_iff.mp e
   exact ⟨q.1, List.mem_of_find?_eq_some hq⟩
  obtain ⟨d, hd⟩ := hm
  obtain ⟨y, _, hy⟩ := List.mem_map.mp hd
  have : v = .int 1 := (Prod.mk.inj hy).2.symm
  rw [this]
  rfl
noncomputable def spAdd : Sp := fun vs H Q _ => ∃ (d : Addr) (y : V) (m : Nat), vs = [.ref d, y, .int ((m : Nat) : Int)] /\ IsD H d /\ ((m = 0 /\ Q .non H) ∨ (m = 1 /\ ∃ o H', DGet H d y o /\ (o = none ∨ o = some (.int 1)) /\ DPut H d y (.int 1) H' /\ Q .non H'))
theorem or01 : Builtin.bitOr (0 : Int) 1 = 1 := by decide +kernel
noncomputable abbrev N_Zbi : List Str := ["found", "key", "mask"]
theorem sc_Zbi : FnScope N_Zbi ["found", "key", "mask"] (defScope st_Zbi) := ⟨rfl, rfl, rfl, by decide +kernel, rfl, by decide +kernel, by decide +kernel⟩
theorem ok_add (T : All P w K mg AA DD) : FnOk P w K mg base CX0 1 AA.Zbi DD.Zbi ["found", "key", "mask"] spAdd := by
 refine T.F_Zbi.ok sc_Zbi (fun vs H Q E h => ?_) (fun cdv A outer s H vs Q E hr h => ?_)
 ·obtain ⟨d, y, m, rfl, _⟩ := h
  rfl
 ·obtain ⟨d, y, m, rfl, hI, h⟩ := h
  have nd := sc_Zbi.nd
  have hu : _ + 1 < cLine := Nat.lt_of_le_of_lt (Nat.add_le_add_left (show 1 <= 16 * 0 + 200 by decide) _) (by have := hr.un; omega)
  refine ⟨_, (@pss_one _ _ _ (@ps_if _ _ _ _ _ _ _ _ (@pt_cmpR _ _ _ _ _ _ _ _ op_ne (pv 2) pe_int (nomark _)) (@pss_one _ _ _ (ps_dput hu (pv 0) (pv 1) (@pe_op _ _ _ _ _ _ _ _ op_or (pe_dget2 hu (pv 0) (pv 1) pe_int ⟨by rfl, by rfl, by rfl, by rfl⟩) (pv 2)) rfl)) pss_nil)), ?_⟩
  refine ⟨_, rfl, rfl, _, rfl, ?_⟩
  rcases h with ⟨rfl, k⟩ | ⟨rfl, o, H', g, ho, hp, k⟩
  ·exact iteF k
  ·refine iteT ?_
   refine ⟨_, rfl, d, rfl, hI, _, rfl, o, g, ?_⟩
   have e : o.getD (V.int 0) = .int 0 ∨ o.getD (V.int 0) = .int 1 := by
    rcases ho with z | z <;> rw [z]
    ·exact .inl rfl
    ·exact .inr rfl
   rcases e with e | e <;> rw [e]
   ·refine ⟨_, rfl, _, _, rfl, rfl, ?_⟩
    show ∃ _, _
    refine ⟨_, rfl, _, rfl, d, H', rfl, ?_, k⟩
    have := or01
    exact hp
   ·refine ⟨_, rfl, _, _, rfl, rfl, ?_⟩
    refine ⟨_, rfl, _, rfl, d, H', rfl, ?_, k⟩
    exact hp
end
section
variable {P : Program} {w : World} {K : PySem.W.Frag} {mg : Str -> Option Value} {base : Heap} {AA : Adr} {DD : Fds}
noncomputable def _root_.Mm.Ex.kids : Ex -> List Ex
 | .not e => [e]
 | .op _ a b => [a, b]
 | _ => []
noncomputable def spEI : Sp := fun vs H Q _ => ∃ (v : V) (e : Ex), vs = [v] /\ ExAt H v e /\ e.plain /\ ∀ t ys H', Same H H' -> H' t = some (.tup ys) -> ExsAt H' ys e.kids -> Q (.ref t) H'
noncomputable def leafs : List Str := ["num", "truth", "name"]
noncomputable def uses : List Str := ["do", "new"]
theorem ops_not : ∀ z ∈ ops7, z ∉ leafs /\ z ∉ uses /\ z ≠ "of" /\ z ≠ "name" /\ z ≠ "do" /\ z ≠ "new" := by decide +kernel
theorem not_not : ("not" : Str) ∉ leafs /\ ("not" : Str) ∉ uses /\ ("not" : Str) ≠ "of" /\ ("not" : Str) ≠ "name" /\ ("not" : Str) ≠ "do" /\ ("not" : Str) ≠ "new" := by decide +kernel
theorem ex_head {H : Hp} {v : V} {e : Ex} (h : ExAt H v e) (hp : e.plain) : ∃ (t : Addr) (z : Str) (ys : List V), v = .ref t /\ H t = some (.tup (.str z :: ys)) /\ ((z ∈ leafs /\ e.kids = []) ∨
  (z ∉ leafs /\ z ∉ uses /\ z ≠ "of" /\ z ≠ "name" /\ z ≠ "do" /\ z ≠ "new") /\ ExsAt H ys e.kids /\ ys.length <= 2 /\ ys ≠ []) := by
 cases h with
 | num h => exact ⟨_, _, _, rfl, h, .inl ⟨by decide, rfl⟩⟩
 | truth h => exact ⟨_, _, _, rfl, h, .inl ⟨by decide, rfl⟩⟩
 | name h => exact ⟨_, _, _, rfl, h, .inl ⟨by decide, rfl⟩⟩
 | not h a => exact ⟨_, _, _, rfl, h, .inr ⟨not_not, .cons a .nil, by simp, by simp⟩⟩
 | op h a b => exact ⟨_, _, _, rfl, h, .inr ⟨ops_not _ hp.1, .cons a (.cons b .nil), by simp, by simp⟩⟩
 | of h a => exact hp.elim
 | many h l a => exact hp.elim
theorem cut_tail (a : V) (ys : List V) : cutV (a :: ys) (some 1) none = ys := by
 unfold cutV
 have h1 : HT.sIx (a :: ys).length 0 (some 1) = 1 := by simp [HT.sIx]
 have h2 : HT.sIx (a :: ys).length (a :: ys).length none = ys.length + 1 := by simp [HT.sIx]
 rw [h1, h2]
 simp
theorem inV_strs (z : Str) (l : List Str) : inV (.str z) (l.map V.str) = decide (z ∈ l) := by
 induction l with
 | nil => rfl
 | cons a r ih =>
  show ((a == z) || inV (.str z) (r.map V.str)) = _
  rw [ih]
  by_cases h : a = z
  ·subst h; simp
  ·have : ¬ z = a := fun e => h e.symm
   simp [h, this]
theorem in_strs {z : Str} {zs : List Str} {b : Bool} (h : decide (z ∈ zs) = b) : (if false = true then !inV (V.str z) (zs.map V.str) else inV (V.str z) (zs.map V.str)) = b := by
 rw [<- h]
 exact inV_strs _ _
noncomputable abbrev N_Zz : List Str := ["e"]
theorem sc_Zz : FnScope N_Zz ["e"] (defScope st_Zz) := ⟨rfl, rfl, rfl, by decide +kernel, rfl, by decide +kernel, by decide +kernel⟩
theorem ok_ei (T : All P w K mg AA DD) : FnOk P w K mg base CX0 1 AA.Zz DD.Zz ["e"] spEI := by
 refine T.F_Zz.ok sc_Zz (fun vs H Q E h => ?_) (fun cdv A outer s H vs Q E hr h => ?_)
 ·obtain ⟨v, e, rfl, _⟩ := h
  rfl
 ·obtain ⟨v, e, rfl, hE, hpl, k⟩ := h
  have nd := sc_Zz.nd
  refine ⟨_, (@pss_cons _ _ _ _ _ (@ps_if _ _ _ _ _ _ _ _ (@pt_cmpR _ _ _ _ _ _ _ _ (op_in_seqK (K := K) rfl) (@pe_ix _ _ _ _ _ _ _ (ix_tupK (K := K) rfl) (pv 0) pe_int (fun _ _ => rfl)) (@pe_tup _ _ _ _ _ (@pa_cons _ _ _ _ _ pe_str (@pa_cons _ _ _ _ _ pe_str (@pa_cons _ _ _ _ _ pe_str pa_nil (by rfl)) (by rfl)) (by rfl))) rfl) (@pss_one _ _ _ (@ps_ret _ _ _ _ (@pe_tup _ _ _ _ _ pa_nil))) pss_nil) (@pss_cons _ _ _ _ _ (@ps_if _ _ _ _ _ _ _ _ (@pt_cmpR _ _ _ _ _ _ _ _ (op_in_seqK (K := K) rfl) (@pe_ix _ _ _ _ _ _ _ (ix_tupK (K := K) rfl) (pv 0) pe_int (fun _ _ => rfl)) (@pe_tup _ _ _ _ _ (@pa_cons _ _ _ _ _ pe_str (@pa_cons _ _ _ _ _ pe_str pa_nil (by rfl)) (by rfl))) rfl) (@pss_one _ _ _ (@ps_ret _ _ _ _ (@pe_ix _ _ _ _ _ _ _ (ix_tupK (K := K) rfl) (pv 0) pe_int (fun _ _ => rfl)))) pss_nil) (@pss_cons _ _ _ _ _ (@ps_if _ _ _ _ _ _ _ _ (@pt_cmpR _ _ _ _ _ _ _ _ op_eq (@pe_ix _ _ _ _ _ _ _ (ix_tupK (K := K) rfl) (pv 0) pe_int (fun _ _ => rfl)) pe_str (nomark _)) (@pss_one _ _ _ (@ps_ret _ _ _ _ (@pe_tup _ _ _ _ _ (@pa_cons _ _ _ _ _ (@pe_ix _ _ _ _ _ _ _ (ix_tupK (K := K) rfl) (pv 0) pe_int (fun _ _ => rfl)) pa_nil (by rfl))))) pss_nil) (@pss_one _ _ _ (@ps_ret _ _ _ _ (pe_slice sl_tup (pv 0) (po_some pe_int) po_none)))))), ?_⟩
  obtain ⟨t, z, ys, rfl, ht, hc⟩ := ex_head hE hpl
  refine ⟨_, rfl, t, _, _, _, rfl, rfl, SqT.of ht, atI_nat (j := 0) rfl, (by show 3 <= sizeLine; decide), fun pt hpt => ⟨pt, leafs.map V.str, rfl, .inr (SqT.of upd_same), rfl, rfl, _, rfl, ?_⟩⟩
  have s1 := same_upd (o := .tup (leafs.map V.str)) hpt
  have ht1 := s1 _ _ ht
  change if _ = true then _ else _
  generalize hH1 : upd H pt _ = H1
  have s1 : Same H H1 := by rw [<- hH1]; exact same_upd hpt
  have ht1 := s1 _ _ ht
  rcases hc with ⟨hz, hk⟩ | ⟨⟨n1, n2, n3, _⟩, hk, hl, hn⟩
  ·rw [in_strs (decide_eq_true hz)]
   refine iteT ?_
   refine ⟨(by show 0 <= sizeLine; decide), fun p hp => ?_⟩
   exact k p _ _ (s1.trans (same_upd hp)) upd_same (by rw [hk]; exact .nil)
  ·rw [in_strs (decide_eq_false n1)]
   refine iteF ?_
   refine ⟨_, rfl, t, _, _, _, rfl, rfl, SqT.of ht1, atI_nat (j := 0) rfl, (by show 2 <= sizeLine; decide), fun pu hpu => ⟨pu, uses.map V.str, rfl, .inr (SqT.of upd_same), rfl, rfl, _, rfl, ?_⟩⟩
   change if _ = true then _ else _
   generalize hH2 : upd H1 pu _ = H2
   have s2 : Same H1 H2 := by rw [<- hH2]; exact same_upd hpu
   have ht2 := s2 _ _ ht1
   rw [in_strs (decide_eq_false n2)]
   refine iteF ?_
   refine ⟨_, rfl, t, _, _, _, rfl, rfl, SqT.of ht2, atI_nat (j := 0) rfl, rfl, _, rfl, ?_⟩
   refine iteFb (decide_eq_false fun q => n3 (by injection q)) ?_
   refine ⟨_, rfl, _, rfl, t, _, rfl, SqT.of ht2, ?_, fun p hp => ?_⟩
   ·rintro ⟨q, _⟩
    simp [HT.sIx] at q
   rw [cut_tail]
   exact k p _ _ ((s1.trans s2).trans (same_upd hp)) upd_same ((hk.kept ((s1.trans s2).trans (same_upd hp)).tups))
end
section
variable {P : Program} {w : World} {K : PySem.W.Frag} {mg : Str -> Option Value} {base : Heap} {AA : Adr} {DD : Fds}
noncomputable def _root_.Mm.Tr.kw : Tr -> Str
 | .set _ _ _ => "set"
 | .tell _ _ => "tell"
 | .iff _ _ _ _ => "if"
 | .whl _ _ _ => "while"
noncomputable def _root_.Mm.Tr.ex : Tr -> Ex
 | .set _ _ e => e
 | .tell _ e => e
 | .iff _ e _ _ => e
 | .whl _ e _ => e
noncomputable def _root_.Mm.Tr.nm : Tr -> Option Str
 | .set _ n _ => some n
 | _ => none
noncomputable def _root_.Mm.Tr.blocks : Tr -> List (List Tr)
 | .iff _ _ b o => [b, o]
 | .whl _ _ b => [b]
 | _ => []
noncomputable def isB : Part -> Bool
 | .b _ => true
 | _ => false
theorem parts_b (t : Tr) : t.parts.filter isB = t.blocks.map Part.b := by cases t <;> rfl
theorem flat_b (t : Tr) : t.flat = (t.row, t.ex, t.nm) :: (t.blocks.map flats).flatten := by
 cases t <;> simp [Tr.flat, Tr.row, Tr.ex, Tr.nm, Tr.blocks]
theorem kw_not (t : Tr) : t.kw ≠ "def" /\ t.kw ≠ "kind" := by cases t <;> simp only [Tr.kw] <;> decide +kernel
theorem st_head {H : Hp} {sh : Bool} {vs : List V} {t : Tr} (h : PsAt H sh vs t.parts) : ∃ (r : List V), vs = .str t.kw :: .int ((t.row : Nat) : Int) :: r := by
 cases t with
 | set r n e => cases h with | cons a b => cases a; cases b with | cons c d => cases c; exact ⟨_, rfl⟩
 | tell r e => cases h with | cons a b => cases a; cases b with | cons c d => cases c; exact ⟨_, rfl⟩
 | iff r e b o => cases h with | cons a b => cases a; cases b with | cons c d => cases c; exact ⟨_, rfl⟩
 | whl r e b => cases h with | cons a b => cases a; cases b with | cons c d => cases c; exact ⟨_, rfl⟩
noncomputable def spEO : Sp := fun vs H Q _ => ∃ (v : V) (t : Tr), vs = [v] /\ SAt H true v t /\ ∀ x, ExAt H x t.ex -> Q x H
noncomputable abbrev N_Zbe : List Str := ["one"]
theorem sc_Zbe : FnScope N_Zbe ["one"] (defScope st_Zbe) := ⟨rfl, rfl, rfl, by decide +kernel, rfl, by decide +kernel, by decide +kernel⟩
theorem ok_eo (T : All P w K mg AA DD) : FnOk P w K mg base CX0 1 AA.Zbe DD.Zbe ["one"] spEO := by
 refine T.F_Zbe.ok sc_Zbe (fun vs H Q E h => ?_) (fun cdv A outer s H vs Q E hr h => ?_)
 ·obtain ⟨v, t, rfl, _⟩ := h
  rfl
 ·obtain ⟨v, t, rfl, hS, k⟩ := h
  have nd := sc_Zbe.nd
  refine ⟨_, (@pss_one _ _ _ (@ps_ret _ _ _ _ (pe_ifExp (@pt_cmpR _ _ _ _ _ _ _ _ op_eq (@pe_ix _ _ _ _ _ _ _ (ix_tupK (K := K) rfl) (pv 0) pe_int (fun _ _ => rfl)) pe_str (nomark _)) (@pe_ix _ _ _ _ _ _ _ (ix_tupK (K := K) rfl) (pv 0) pe_int (fun _ _ => rfl)) (@pe_ix _ _ _ _ _ _ _ (ix_tupK (K := K) rfl) (pv 0) pe_int (fun _ _ => rfl))))), ?_⟩
  cases hS with
  | @mk t0 vs _ ht hps =>
  cases t with
  | set r n e =>
   cases hps with | cons a b => cases a; cases b with | cons c d => cases c; cases d with | cons a b => cases a; cases b with | cons c d => cases c with | e hx =>
   refine ⟨_, rfl, t0, _, _, _, rfl, rfl, SqT.of ht, atI_nat (j := 0) rfl, rfl, _, rfl, iteT ?_⟩
   exact ⟨_, rfl, t0, _, _, _, rfl, rfl, SqT.of ht, atI_nat (j := 3) rfl, k _ hx⟩
  | tell r e =>
   cases hps with | cons a b => cases a; cases b with | cons c d => cases c; cases d with | cons a b => cases a with | e hx =>
   refine ⟨_, rfl, t0, _, _, _, rfl, rfl, SqT.of ht, atI_nat (j := 0) rfl, rfl, _, rfl, iteF ?_⟩
   exact ⟨_, rfl, t0, _, _, _, rfl, rfl, SqT.of ht, atI_nat (j := 2) rfl, k _ hx⟩
  | iff r e b o =>
   cases hps with | cons a b => cases a; cases b with | cons c d => cases c; cases d with | cons a b => cases a with | e hx =>
   refine ⟨_, rfl, t0, _, _, _, rfl, rfl, SqT.of ht, atI_nat (j := 0) rfl, rfl, _, rfl, iteF ?_⟩
   exact ⟨_, rfl, t0, _, _, _, rfl, rfl, SqT.of ht, atI_nat (j := 2) rfl, k _ hx⟩
  | whl r e b =>
   cases hps with | cons a b => cases a; cases b with | cons c d => cases c; cases d with | cons a b => cases a with | e hx =>
   refine ⟨_, rfl, t0, _, _, _, rfl, rfl, SqT.of ht, atI_nat (j := 0) rfl, rfl, _, rfl, iteF ?_⟩
   exact ⟨_, rfl, t0, _, _, _, rfl, rfl, SqT.of ht, atI_nat (j := 2) rfl, k _ hx⟩
noncomputable def spBO : Sp := fun vs H Q _ => ∃ (v : V) (t : Tr), vs = [v] /\ SAt H true v t /\ ∀ p ys H', Same H H' -> H' p = some (.lst ys) -> PsAt H' true ys (t.blocks.map Part.b) -> Q (.ref p) H'
noncomputable abbrev N_Zu : List Str := ["one"]
theorem sc_Zu : FnScope N_Zu ["one"] (defScope st_Zu) := ⟨rfl, rfl, rfl, by decide +kernel, rfl, by decide +kernel, by decide +kernel⟩
theorem ok_bo (T : All P w K mg AA DD) : FnOk P w K mg base CX0 1 AA.Zu DD.Zu ["one"] spBO := by
 refine T.F_Zu.ok sc_Zu (fun vs H Q E h => ?_) (fun cdv A outer s H vs Q E hr h => ?_)
 ·obtain ⟨v, t, rfl, _⟩ := h
  rfl
 ·obtain ⟨v, t, rfl, hS, k⟩ := h
  have nd := sc_Zu.nd
  refine ⟨_, (@pss_one _ _ _ (@ps_ret _ _ _ _ (pe_comp (defScope st_Zu) N_Zu [] [] rfl (by exact ⟨rfl, rfl, by decide +kernel, rfl, by decide +kernel, by decide +kernel, by decide +kernel, rfl, by decide +kernel⟩) rfl rfl (pi_tup (pv 0)) (fun _ _ _ _ => pif_one (pt_val (pe_callB (call_isinstK (K := K) (n := "list") rfl) rfl T.n_isinstance bt_isi (pa_cons (pv 0) (pa_cons (pe_bltn (v := .ty "list") rfl T.n_list bt_list rfl) pa_nil))))) (fun _ _ _ _ => (pv 0))))), ?_⟩
  cases hS with
  | @mk t0 xs _ ht hps =>
  refine ⟨_, rfl, t0, rfl, ⟨_, SqT.of ht⟩, ?_⟩
  have hpl := t.parts_len
  have hxl := hps.length
  refine comp_tup (K := K) (a := t0) (xs := xs) (fun i ys H' => H' = H /\ i <= xs.length /\ ys.length <= i /\ PsAt H true ys ((t.parts.take i).filter isB)) ⟨rfl, Nat.zero_le _, Nat.zero_le _, by simpa using PsAt.nil⟩ (fun i ys H' _ h => by rw [h.1]; exact SqT.of ht) ?_ ?_
  ·rintro i x ys H1 hx ⟨rfl, hi, hy, hys⟩
   obtain ⟨p, hp, hP⟩ := hps.get hx
   have hilt := (List.getElem?_eq_some_iff.mp hx).1
   have hil : i < t.parts.length := by omega
   have htk : (t.parts.take (i + 1)).filter isB = (t.parts.take i).filter isB ++ [p].filter isB := by
    rw [List.take_succ_eq_append_getElem hil, List.filter_append]
    rw [List.getElem?_eq_getElem hil] at hp
    rw [Option.some.inj hp]
   rcases hP.isL (K := K) with ⟨bs, l, zs, e1, e2, hl, hL, ty, kb⟩ | ⟨nb, ty0, ty, kb⟩
   ·subst e1 e2
    refine ⟨_, rfl, _, _, true, rfl, ty, kb, _, rfl, iteT ?_⟩
    refine ⟨_, rfl, small1000' (by omega), rfl, by omega, by simp; omega, ?_⟩
    rw [htk]
    exact hys.snoc hP
   ·refine ⟨_, rfl, _, _, false, rfl, ty, kb, _, rfl, iteF ?_⟩
    refine ⟨rfl, by omega, by omega, ?_⟩
    rw [htk]
    have : [p].filter isB = [] := by
     cases p with
     | b ts => exact absurd rfl (nb ts)
     | s z => rfl
     | i n => rfl
     | e x => rfl
    rw [this, List.append_nil]
    exact hys
  ·rintro ys H1 ⟨rfl, hi, hy, hys⟩ p hp
   rw [List.take_of_length_le (by omega), parts_b] at hys
   have s1 := same_upd (o := .lst ys) hp
   exact k p ys _ s1 upd_same (hys.kept s1.ls)
end
section
variable {P : Program} {w : World} {K : PySem.W.Frag} {mg : Str -> Option Value} {base : Heap} {AA : Adr} {DD : Fds}
noncomputable def heads : List Str := ["def", "kind"]
noncomputable def spFR : Sp := fun vs H Q _ => ∃ (l : Addr) (xs : List V) (ts : List Tr), vs = [.ref l] /\ H l = some (.lst xs) /\ LAt H true xs ts /\ ∀ d H', Same H H' -> Q (.ref d) H'
noncomputable abbrev N_Zr : List Str := ["tree", "found", "mask", "one", "key", "rows"]
theorem sc_Zr : FnScope N_Zr ["tree"] (defScope st_Zr) := ⟨rfl, rfl, rfl, by decide +kernel, rfl, by decide +kernel, by decide +kernel⟩
theorem ok_fr (T : All P w K mg AA DD) : FnOk P w K mg base CX0 1 AA.Zr DD.Zr ["tree"] spFR := by
 refine T.F_Zr.ok sc_Zr (fun vs H Q E h => ?_) (fun cdv A outer s H vs Q E hr h => ?_)
 ·obtain ⟨l, xs, ts, rfl, _⟩ := h
  rfl
 ·obtain ⟨l, xs, ts, rfl, hl, hL, kq⟩ := h
  have nd := sc_Zr.nd
  have hu := Nat.lt_of_le_of_lt (Nat.add_le_add_left (show 1 <= 64 by decide) _) hr.units
  refine ⟨_, (@pss_cons _ _ _ _ _ (@ps_set _ _ 1 _ _ _ _ nd rfl (Or.inl rfl) (pe_dnewT) (by rfl) (by first | exact .inl rfl | exact .inr rfl | assumption)) (@pss_cons _ _ _ _ _ (@ps_for _ _ _ _ _ _ _ _ PassesOwn.never rfl (pi_list (pv 0)) (pg_tup rfl (pgs_cons (pg_name (i := 2) nd rfl (Or.inl rfl)) (pgs_cons (pg_name (i := 3) nd rfl (Or.inl rfl)) pgs_nil))) (@pss_one _ _ _ (@ps_if _ _ _ _ _ _ _ _ (@pt_cmpR _ _ _ _ _ _ _ _ (op_in_seqK (K := K) rfl) (@pe_ix _ _ _ _ _ _ _ (ix_tupK (K := K) rfl) (pv 3) pe_int (fun _ _ => rfl)) (@pe_tup _ _ _ _ _ (@pa_cons _ _ _ _ _ pe_str (@pa_cons _ _ _ _ _ pe_str pa_nil (by rfl)) (by rfl))) rfl) (@pss_cons _ _ _ _ _ (@ps_set _ _ 4 _ _ _ _ nd rfl (Or.inl rfl) (pe_no) (by rfl) (by first | exact .inl rfl | exact .inr rfl | assumption)) (@pss_cons _ _ _ _ _ (@ps_set _ _ 5 _ _ _ _ nd rfl (Or.inl rfl) (pe_no) (by rfl) (by first | exact .inl rfl | exact .inr rfl | assumption)) (@pss_one _ _ _ (ps_dput hu (pv 1) (pv 4) (pe_no) rfl)))) pss_nil)) (by intro _; rfl)) (@pss_one _ _ _ (@ps_ret _ _ _ _ (pv 1))))), ?_⟩
  refine fun d hd => ?_
  have s1 := same_upd (o := .dT []) hd
  dsimp only [gName]
  refine cut_for (fun σ' H' => Same H H' /\ ∃ x2 x3 x4 x5, σ' = [some (.ref l), some (.ref d), x2, x3, x4, x5]) (fun R hR => ?_) ?_
  ·refine ⟨_, rfl, l, rfl, ⟨_, SqL.of (s1 _ _ hl)⟩, ?_⟩
   refine for_list (K := K) (a := l) (xs := xs) (fun i σ' H' => Same H H' /\ ∃ x2 x3 x4 x5, σ' = [some (.ref l), some (.ref d), x2, x3, x4, x5]) ⟨s1, _, _, _, _, rfl⟩ (fun i σ' H' _ h => SqL.of (h.1 _ _ hl)) ?_ ?_
   ·rintro i x σ' H1 hx ⟨sm, x2, x3, x4, x5, rfl⟩
    obtain ⟨t, ht, hO⟩ := hL.get hx
    have hO1 := hO.kept sm.ls
    cases hO1 with
    | plain e _ => cases e
    | @shared p y _ _ hp hS =>
    cases hS with
    | @mk t0 vs _ ht0 hps =>
    obtain ⟨vr, rfl⟩ := st_head hps
    refine ⟨p, _, rfl, SqT.of hp, rfl, _, _, rfl, _, _, rfl, rfl, ?_⟩
    refine ⟨_, rfl, t0, _, _, _, rfl, rfl, SqT.of ht0, atI_nat (j := 0) rfl, (by show 2 <= sizeLine; decide), fun pt hpt => ⟨pt, heads.map V.str, rfl, .inr (SqT.of upd_same), rfl, rfl, _, rfl, ?_⟩⟩
    have hh : t.kw ∉ heads := by cases t <;> simp only [Tr.kw] <;> decide +kernel
    refine iteFb (in_strs (decide_eq_false hh)) ?_
    exact ⟨sm.trans (same_upd hpt), _, _, _, _, rfl⟩
   ·rintro σ' H1 ⟨sm, x2, x3, x4, x5, rfl⟩
    exact hR _ _ ⟨sm, _, _, _, _, rfl⟩
  ·rintro σ' H1 ⟨sm, x2, x3, x4, x5, rfl⟩
   exact ⟨_, rfl, kq d _ sm⟩
end
section
variable {P : Program} {w : World} {K : PySem.W.Frag} {mg : Str -> Option Value} {base : Heap} {AA : Adr} {DD : Fds}
noncomputable def srtK (fs : List (List Key)) : List (List Key) := (srtI fs).map fun i => fs.getD i []
theorem srtI_lt {fs : List (List Key)} : ∀ i ∈ srtI fs, i < fs.length := by
 unfold srtI
 split
 ·intro i hi
  simpa using hi
 ·intro i hi
  exact pickN_ent (ordN fs) (by omega) i hi
theorem srt_tups {H : Hp} {xs : List V} {fs : List (List Key)} (h : TupsAt H xs fs) : TupsAt H (srt fs xs) (srtK fs) := by
 refine ⟨by simp [srt, srtK], fun j x d hx hd => ?_⟩
 unfold srt at hx
 unfold srtK at hd
 rw [List.getElem?_map] at hx hd
 obtain ⟨i, hi, rfl⟩ := Option.map_eq_some_iff.mp hx
 rw [hi] at hd
 have hd : fs.getD i [] = d := by simpa using hd
 have hlt := srtI_lt i (List.mem_of_getElem? hi)
 have hlx : i < xs.length := by rw [h.1]; exact hlt
 refine h.2 i _ d ?_ ?_
 ·rw [List.getElem?_eq_getElem hlx, List.getD_eq_getElem?_getD, List.getElem?_eq_getElem hlx]; rfl
 ·rw [<- hd, List.getElem?_eq_getElem hlt, List.getD_eq_getElem?_getD, List.getElem?_eq_getElem hlt]; rfl
noncomputable def spWM : Sp := fun vs H Q _ => ∃ (d : Addr) (fs : List (List Key)) (sh : List Bool), vs = [.ref d] /\ H d = some (.dT (ones fs)) /\ fs.length < 200 /\ (∀ k ∈ fs, k.map isI = sh) /\ sh ≠ [] /\ sh.length < 100 /\ ∀ p ys H', Same H H' -> H' p = some (.lst ys) -> TupsAt H' ys ((srtK fs).map fun k => .inl 1 :: k) -> Q (.ref p) H'
noncomputable abbrev N_Zq : List Str := ["found"]
theorem sc_Zq : FnScope N_Zq ["found"] (defScope st_Zq) := ⟨rfl, rfl, rfl, by decide +kernel, rfl, by decide +kernel, by decide +kernel⟩
theorem ok_wm (T : All P w K mg AA DD) : FnOk P w K mg base CX0 1 AA.Zq DD.Zq ["found"] spWM := by
 refine T.F_Zq.ok sc_Zq (fun vs H Q E h => ?_) (fun cdv A outer s H vs Q E hr h => ?_)
 ·obtain ⟨d, fs, sh, rfl, _⟩ := h
  rfl
 ·obtain ⟨d, fs, sh, rfl, hd, h64, hsh, hne, hshl, kq⟩ := h
  have nd := sc_Zq.nd
  have hu := Nat.lt_of_le_of_lt (Nat.add_le_add_left (show 1 <= 64 by decide) _) hr.units
  refine ⟨_, (@pss_one _ _ _ (@ps_ret _ _ _ _ (pe_comp (defScope st_Zq) N_Zq ["found"] [0] rfl (by exact ⟨rfl, rfl, by decide +kernel, rfl, by decide +kernel, by decide +kernel, by decide +kernel, rfl, by decide +kernel⟩) rfl rfl (pi_list (pe_callB (call_sortedD rfl) rfl T.n_sorted bt_sorted (@pa_cons _ _ _ _ _ (pv 0) pa_nil (by rfl)))) (fun _ _ _ _ => pif_nil) (fun _ _ _ _ => (@pe_op _ _ _ _ _ _ _ _ (op_catTK (K := K) rfl) (@pe_tup _ _ _ _ _ (@pa_cons _ _ _ _ _ (pe_dget hu (pv 1) (pv 0) (fun _ _ => rfl)) pa_nil (by rfl))) (pv 0)))))), ?_⟩
  have hmp : (ones fs).map (·.1) = fs := by
   unfold ones
   rw [List.map_map]
   show fs.map id = fs
   rw [List.map_id]
  refine ⟨_, rfl, d, ones fs, sh, rfl, hd, (by unfold ones; rw [List.length_map]; omega), fun kv hkv => ?_, hne, fun p xs hp hT => ?_⟩
  ·unfold ones at hkv
   obtain ⟨k, hk, rfl⟩ := List.mem_map.mp hkv
   exact hsh k hk
  rw [hmp] at hT ⊢
  have s1 := same_upd (o := .lst (srt fs xs)) hp
  have hS := srt_tups hT
  refine ⟨p, rfl, ⟨_, SqL.of upd_same⟩, ?_⟩
  refine comp_list (K := K) (a := p) (xs := srt fs xs) (fun i ys H' => Same (upd H p (.lst (srt fs xs))) H' /\ i <= (srt fs xs).length /\ TupsAt H' ys (((srtK fs).take i).map fun k => .inl 1 :: k)) ⟨Same.refl _, Nat.zero_le _, by simp, fun j x d h => by simp at h⟩ (fun i ys H' _ h => SqL.of (h.1 _ _ upd_same)) ?_ ?_
  ·rintro i x ys H1 hx ⟨sm, hi, hys⟩
   have hilt := (List.getElem?_eq_some_iff.mp hx).1
   have hik : i < (srtK fs).length := by rw [<- hS.1]; exact hilt
   obtain ⟨t, rfl, ht⟩ := hS.2 i x (srtK fs)[i] hx (List.getElem?_eq_getElem hik)
   have hyl := hys.1
   rw [List.length_map, List.length_take] at hyl
   have hmem : (srtK fs)[i] ∈ fs := by
    obtain ⟨j, hj, e⟩ := List.mem_map.mp (List.getElem_mem hik)
    rw [<- e, List.getD_eq_getElem?_getD, List.getElem?_eq_getElem (srtI_lt j hj)]
    exact List.getElem_mem _
   have hnn : (srtK fs)[i] ≠ [] := fun z => hne (by rw [<- hsh _ hmem, z]; rfl)
   have hkl : (srtK fs)[i].length < 100 := by
    have := congrArg List.length (hsh _ hmem)
    rw [List.length_map] at this
    omega
   have h64s : (srtK fs).length <= 200 := by
    unfold srtK
    rw [List.length_map, srtI_len]
    omega
   have ht1 := sm _ _ (s1 _ _ ht)
   have hd1 := sm _ _ (s1 _ _ hd)
   generalize hk : (srtK fs)[i] = k at *
   have hval : valV (ones fs) k = some (.int 1) := by
    rw [ones_val, if_pos (by rw [List.any_eq_true]; exact ⟨k, hmem, decide_eq_true rfl⟩)]
   refine tYes_ok ?_
   rw [if_pos rfl]
   refine ⟨_, rfl, _, rfl, d, .int 1, rfl, by rw [<- hval]; exact DGet.t hd1 ht1, (by show 1 <= sizeLine; decide), fun q hq => ?_⟩
   have s2 := same_upd (o := .tup [.int 1]) hq
   refine ⟨_, rfl, q, t, [.int 1], k.map kV, rfl, rfl, SqT.of upd_same, SqT.of (s2 _ _ ht1), by simp, ?_, fun z => absurd (by simpa using z) hnn, fun _ q2 hq2 => ?_⟩
   ·rw [List.length_map]
    exact Nat.le_of_lt (small1000' (by simp only [List.length_cons, List.length_nil]; omega))
   have s3 := same_upd (o := .tup ([.int 1] ++ k.map kV)) hq2
   refine ⟨small1000' (by omega), (sm.trans s2).trans s3, by omega, ?_⟩
   rw [List.take_succ_eq_append_getElem hik, List.map_append, hk]
   refine ⟨by simp [hys.1], fun j y e hy he => ?_⟩
   by_cases hj : j < ys.length
   ·rw [List.getElem?_append_left hj] at hy
    rw [List.getElem?_append_left (by rw [List.length_map, List.length_take]; omega)] at he
    obtain ⟨t', a1, a2⟩ := hys.2 j y e hy he
    exact ⟨t', a1, s3 _ _ (s2 _ _ a2)⟩
   ·rw [List.getElem?_append_right (by omega)] at hy
    rw [List.getElem?_append_right (by rw [List.length_map, List.length_take]; omega), List.length_map, List.length_take, <- hyl] at he
    have hj2 := (List.getElem?_eq_some_iff.mp hy).1
    have hj0 : j - ys.length = 0 := by simpa using hj2
    rw [hj0] at hy he
    have y1 : V.ref q2 = y := by simpa using hy
    have e1 : (.inl 1 :: k : List Key) = e := by simpa using he
    exact ⟨q2, y1.symm, by rw [<- e1]; exact upd_same⟩
  ·rintro ys H1 ⟨sm, hi, hys⟩ q hq
   have s2 := same_upd (o := .lst ys) hq
   rw [List.take_of_length_le (by rw [hS.1]; exact Nat.le_refl _)] at hys
   exact kq q ys _ ((s1.trans sm).trans s2) upd_same ⟨hys.1, fun j x k a b => by obtain ⟨t, e, h⟩ := hys.2 j x k a b; exact ⟨t, e, s2 _ _ h⟩⟩
end
section
variable {P : Program} {w : World} {K : PySem.W.Frag} {mg : Str -> Option Value} {base : Heap} {AA : Adr} {DD : Fds}
noncomputable def P1s (H : Hp) (xs : List V) : Prop := ∀ x ∈ xs, ∃ (t : Addr) (y : V), x = .ref t /\ H t = some (.tup [.int 1, y])
noncomputable def spAll1 : Sp := fun vs H Q _ => ∃ (l : Addr) (xs : List V), vs = [.ref l] /\ H l = some (.lst xs) /\ P1s H xs /\ Q (.int (if xs = [] then 0 else 1)) H
noncomputable abbrev N_Zbh : List Str := ["pairs", "found", "mask", "value"]
theorem sc_Zbh : FnScope N_Zbh ["pairs"] (defScope st_Zbh) := ⟨rfl, rfl, rfl, by decide +kernel, rfl, by decide +kernel, by decide +kernel⟩
theorem ok_all1 (T : All P w K mg AA DD) : FnOk P w K mg base CX0 1 AA.Zbh DD.Zbh ["pairs"] spAll1 := by
 refine T.F_Zbh.ok sc_Zbh (fun vs H Q E h => ?_) (fun cdv A outer s H vs Q E hr h => ?_)
 ·obtain ⟨l, xs, rfl, _⟩ := h
  rfl
 ·obtain ⟨l, xs, rfl, hl, hP, k⟩ := h
  have nd := sc_Zbh.nd
  refine ⟨_, (@pss_cons _ _ _ _ _ (@ps_set _ _ 1 _ _ _ _ nd rfl (Or.inl rfl) pe_int (by rfl) (by first | exact .inl rfl | exact .inr rfl | assumption)) (@pss_cons _ _ _ _ _ (@ps_for _ _ _ _ _ _ _ _ PassesOwn.never rfl (pi_list (pv 0)) (pg_tup rfl (pgs_cons (pg_name (i := 2) nd rfl (Or.inl rfl)) (pgs_cons (pg_name (i := 3) nd rfl (Or.inl rfl)) pgs_nil))) (@pss_one _ _ _ (@ps_set _ _ 1 _ _ _ _ nd rfl (Or.inl rfl) (@pe_op _ _ _ _ _ _ _ _ op_or (pv 1) (pv 2)) (by rfl) (by first | exact .inl rfl | exact .inr rfl | assumption))) (by intro _; rfl)) (@pss_one _ _ _ (@ps_ret _ _ _ _ (pv 1))))), ?_⟩
  refine seq_c ?_
  dsimp only [gName]
  refine cut_for (fun σ' H' => H' = H /\ ∃ s2 s3 : Option V, σ' = [some (.ref l), some (.int (if xs = [] then 0 else 1)), s2, s3]) (fun R hRR => ?_) ?_
  ·refine ⟨_, rfl, l, rfl, ⟨_, SqL.of hl⟩, ?_⟩
   refine for_list (K := K) (a := l) (xs := xs) (fun i σ' H' => H' = H /\ ∃ s2 s3 : Option V, σ' = [some (.ref l), some (.int (if i = 0 then 0 else 1)), s2, s3]) ⟨rfl, none, none, rfl⟩ (fun i σ' H' _ hsl54 => by obtain ⟨e, _⟩ := hsl54; rw [e]; exact SqL.of hl) ?_ ?_
   ·rintro i x σ' H1 hx ⟨rfl, s2, s3, rfl⟩
    obtain ⟨t, y, rfl, ht⟩ := hP x (List.mem_of_getElem? hx)
    refine ⟨t, _, rfl, SqT.of ht, rfl, _, _, rfl, _, _, rfl, rfl, ?_⟩
    refine ⟨_, rfl, _, rfl, _, _, rfl, rfl, rfl, some (.int 1), some y, ?_⟩
    by_cases h0 : i = 0
    ·subst h0; rfl
    ·rw [if_neg h0, if_neg (by omega)]; rfl
   ·rintro σ' H1 ⟨rfl, s2, s3, rfl⟩
    refine hRR _ _ ⟨rfl, s2, s3, ?_⟩
    cases xs <;> rfl
  ·rintro σ' H1 ⟨rfl, s2, s3, rfl⟩
   exact ⟨_, rfl, k⟩
noncomputable def K1At (H : Hp) (p : Addr) (kd : Str) : Prop := ∃ t, H p = some (.lst [.ref t]) /\ H t = some (.tup [.int 1, .str kd])
noncomputable def spUnfit : Sp := fun vs H Q _ => ∃ (p : Addr) (kd due : Str), vs = [.ref p, .str due] /\ K1At H p kd /\ ∀ H', Same H H' -> Q (.int (if kd = due then 0 else 1)) H'
noncomputable abbrev N_Zbl : List Str := ["kinds", "due"]
theorem sc_Zbl : FnScope N_Zbl ["kinds", "due"] (defScope st_Zbl) := ⟨rfl, rfl, rfl, by decide +kernel, rfl, by decide +kernel, by decide +kernel⟩
theorem ok_Zbl (T : All P w K mg AA DD) : FnOk P w K mg base CX0 2 AA.Zbl DD.Zbl ["kinds", "due"] spUnfit := by
 have GA := ok_all1 (base := base) T
 refine T.F_Zbl.ok sc_Zbl (fun vs H Q E h => ?_) (fun cdv A outer s H vs Q E hr h => ?_)
 ·obtain ⟨p, kd, due, rfl, _⟩ := h
  rfl
 ·obtain ⟨p, kd, due, rfl, ⟨t, hp, ht⟩, k⟩ := h
  have nd := sc_Zbl.nd
  have hr1 : Room 1 _ := hr
  refine ⟨_, (@pss_one _ _ _ (@ps_ret _ _ _ _ (pe_call GA hr1 rfl T.m_Zbh T.k_Zbh T.b_Zbh .nil pass0 (@pa_cons _ _ _ _ _ (pe_comp2 (xs := ["mask", "kind"]) (defScope st_Zbl) N_Zbl ["due"] [1] rfl (by exact ⟨rfl, rfl, by decide +kernel, by decide +kernel, by decide +kernel, by decide +kernel, by decide +kernel, rfl, by decide +kernel⟩) rfl rfl (pi_list (pv 0)) (fun _ _ _ _ => (pg_tupK (K := K) (n := 2) rfl rfl (pgs_cons (pg_name (i := 0) (show (["mask", "kind", "due"] : List Str).Nodup by decide +kernel) rfl (Or.inl rfl)) (pgs_cons (pg_name (i := 1) (show (["mask", "kind", "due"] : List Str).Nodup by decide +kernel) rfl (Or.inl rfl)) pgs_nil)))) (fun _ _ _ _ => pif_one (PW.pt (pw_and (pt_cmp (pc_notN (pv 1))) (pw_and1 (pt_cmpR op_ne (pv 1) (pv 2) (nomark _)))))) (fun _ _ _ _ => (@pe_tup _ _ _ _ _ (@pa_cons _ _ _ _ _ (pv 0) (@pa_cons _ _ _ _ _ (pv 1) pa_nil (by rfl)) (by rfl))))) pa_nil (by rfl))))), ?_⟩
  refine ⟨_, rfl, p, rfl, ⟨_, SqL.of hp⟩, ?_⟩
  refine comp2_list (K := K) (a := p) (xs := [.ref t]) (fun i ys H' => Same H H' /\ P1s H' ys /\ (ys = [] ↔ i = 0 ∨ kd = due) /\ ys.length <= i /\ i <= 1)
   ⟨Same.refl _, (by intro x hx; cases hx), (by simp), Nat.le_refl _, (by decide)⟩ (fun i ys H' _ hsl55 => by obtain ⟨e, _⟩ := hsl55; exact SqL.of (e _ _ hp)) ?_ ?_
  ·rintro i x ys H1 hx ⟨sm, hP, hy, hyl, _⟩
   have hi : i = 0 := by have := (List.getElem?_eq_some_iff.mp hx).1; simpa using this
   subst hi
   have ex : x = V.ref t := by simpa using hx.symm
   subst ex
   have ys0 : ys = [] := hy.mpr (.inl rfl)
   subst ys0
   have hT1 := sm _ _ ht
   intro os hos
   obtain ⟨a, b, rfl⟩ : ∃ a b, os = [a, b] := by
    match os, hos with
    | [a, b], _ => exact ⟨a, b, rfl⟩
   refine ⟨t, _, rfl, SqT.of hT1, rfl, _, _, rfl, _, _, rfl, rfl, ⟨[_, _], rfl, rfl⟩, ?_⟩
   refine ⟨_, rfl, _, rfl, iteTb (by rw [decide_eq_false (fun z => by cases z)]; rfl) ?_⟩
   refine ⟨_, rfl, _, rfl, rfl, _, rfl, ?_⟩
   by_cases hkd : kd = due
   ·subst hkd
    refine iteFb (by
     show (!decide (V.str kd = V.str kd)) = false
     rw [decide_eq_true rfl]; rfl) ?_
    exact ⟨sm, hP, by simp, by simp, Nat.le_refl _⟩
   ·refine iteTb (by
     show (!decide (V.str kd = V.str due)) = true
     rw [decide_eq_false (fun z => hkd (by injection z))]; rfl) ?_
    refine ⟨_, rfl, _, rfl, (by show 2 <= sizeLine; decide), fun t2 ht2 => ⟨(by show 0 < sizeLine; decide), sm.trans (same_upd ht2), ?_, ?_, Nat.le_refl _, Nat.le_refl _⟩⟩
    ·intro x hx
     have ex : x = V.ref t2 := by simpa using hx
     exact ⟨t2, .str kd, ex, upd_same⟩
    ·simp [hkd]
  ·rintro ys H1 ⟨sm, hP, hy, _, _⟩ q hq
   have sq := same_upd (o := .lst ys) hq
   refine ⟨q, ys, rfl, upd_same, fun x hx => by obtain ⟨t', y, e1, e2⟩ := hP x hx; exact ⟨t', y, e1, sq _ _ e2⟩, ?_⟩
   have hy : ys = [] ↔ kd = due := by
    rw [hy]; simp
   by_cases hkd : kd = due
   ·rw [if_pos (hy.mpr hkd)]
    have := k _ (sm.trans sq)
    rw [if_pos hkd] at this; exact this
   ·rw [if_neg (fun z => hkd (hy.mp z))]
    have := k _ (sm.trans sq)
    rw [if_neg hkd] at this; exact this
noncomputable def plainK (kd : Str) : Prop := kd = "num" ∨ kd = "truth"
noncomputable def spIsRec : Sp := fun vs H Q _ => ∃ kd : Str, vs = [.str kd] /\ plainK kd /\ Q (.bl false) H
noncomputable abbrev N_Zv : List Str := ["kind"]
theorem sc_Zv : FnScope N_Zv ["kind"] (defScope st_Zv) := ⟨rfl, rfl, rfl, by decide +kernel, rfl, by decide +kernel, by decide +kernel⟩
theorem ok_isrec (T : All P w K mg AA DD) : FnOk P w K mg base CX0 1 AA.Zv DD.Zv ["kind"] spIsRec := by
 refine T.F_Zv.ok sc_Zv (fun vs H Q E h => ?_) (fun cdv A outer s H vs Q E hr h => ?_)
 ·obtain ⟨kd, rfl, _⟩ := h
  rfl
 ·obtain ⟨kd, rfl, hk, k⟩ := h
  have nd := sc_Zv.nd
  refine ⟨_, (@pss_one _ _ _ (@ps_ret _ _ _ _ (pe_and (pe_cmp (pc_notN (pv 0))) (pe_one (@pe_cmpR _ _ _ _ _ _ _ _ (op_notIn_seqK (K := K) rfl) (pv 0) (pe_glob (v := .ref AA.q_PLAIN_KINDS) rfl T.m_PLAIN_KINDS rfl) rfl))))), ?_⟩
  refine ⟨_, rfl, _, rfl, iteTb (by rw [decide_eq_false (fun z => by cases z)]; rfl) ?_⟩
  refine ⟨_, rfl, AA.q_PLAIN_KINDS, [.str "num", .str "truth"], rfl, .inr (T.Q_PLAIN_KINDS H), rfl, rfl, ?_⟩
  have e1 : inV (V.str "num") [V.str "num", V.str "truth"] = true := by decide +kernel
  have e2 : inV (V.str "truth") [V.str "num", V.str "truth"] = true := by decide +kernel
  rcases hk with rfl | rfl
  ·show Q (V.bl (!inV (V.str "num") [V.str "num", V.str "truth"])) H
   rw [e1]; exact k
  ·show Q (V.bl (!inV (V.str "truth") [V.str "num", V.str "truth"])) H
   rw [e2]; exact k
structure KkAt (H : Hp) (C o dx d2 : Addr) (fs : List (List Key)) : Prop where
 ins : ∃ d1, H o = some (.ins C dx [("firsts", .ref d1), ("faults", .ref d2)])
 flt : H d2 = some (.dT (ones fs))
theorem KkAt.same {H H' : Hp} {C o dx d2 : Addr} {fs : List (List Key)} (h : KkAt H C o dx d2 fs) (s : Same H H') : KkAt H' C o dx d2 fs := by
 obtain ⟨⟨d1, h1⟩, h2⟩ := h
 exact ⟨⟨d1, s _ _ h1⟩, s _ _ h2⟩
theorem KkAt.fault {H : Hp} {C o dx d2 : Addr} {fs fs' : List (List Key)} (h : KkAt H C o dx d2 fs) : KkAt (upd H d2 (.dT (ones fs'))) C o dx d2 fs' /\ LsS H (upd H d2 (.dT (ones fs'))) := by
 obtain ⟨⟨d1, h1⟩, h2⟩ := h
 refine ⟨⟨⟨d1, ?_⟩, upd_same⟩, ls_upd h2 (fun _ z => nomatch z) (fun _ z => nomatch z) fun _ _ z => nomatch z⟩
 rw [upd_ne (fun z => by rw [z, h2] at h1; cases h1)]; exact h1
noncomputable def kk (r : Nat) (what : Str) : List Key := [.inl ((r : Nat) : Int), .inr what]
noncomputable def spKNote (C : Addr) : Sp := fun vs H Q _ => ∃ (o dx d2 : Addr) (fs : List (List Key)) (m r : Nat) (z : Str), vs = [.ref o, .int ((m : Nat) : Int), .int ((r : Nat) : Int), .str z] /\ KkAt H C o dx d2 fs /\ fs.length < 1000 /\
 ((m = 0 /\ ∀ H', LsS H H' -> KkAt H' C o dx d2 fs -> Q .non H') ∨ (m = 1 /\ ∀ H', LsS H H' -> KkAt H' C o dx d2 (addF fs (kk r z)) -> Q .non H'))
noncomputable abbrev N_Zl : List Str := ["self", "mask", "at", "what"]
theorem sc_Zl : FnScope N_Zl ["self", "mask", "at", "what"] (defScope st_Zl) := ⟨rfl, rfl, rfl, by decide +kernel, rfl, by decide +kernel, by decide +kernel⟩
theorem ok_knote (T : All P w K mg AA DD) : FnOk P w K mg base CX0 2 AA.Zl DD.Zl ["self", "mask", "at", "what"] (spKNote AA.c_KindLook) := by
 have GD := ok_add (base := base) T
 refine T.F_Zl.ok sc_Zl (fun vs H Q E h => ?_) (fun cdv A outer s H vs Q E hr h => ?_)
 ·obtain ⟨o, dx, d2, fs, m, r, z, rfl, _⟩ := h
  rfl
 ·obtain ⟨o, dx, d2, fs, m, r, z, rfl, hk, hf, h⟩ := h
  have nd := sc_Zl.nd
  have hr1 : Room 1 _ := hr
  refine ⟨_, (@pss_one _ _ _ (@ps_expr _ _ _ _ (pe_call GD hr1 rfl T.m_Zbi T.k_Zbi T.b_Zbi .nil pass0 (@pa_cons _ _ _ _ _ (pe_fld (pv 0) rfl) (@pa_cons _ _ _ _ _ (@pe_tup _ _ _ _ _ (@pa_cons _ _ _ _ _ (pv 2) (@pa_cons _ _ _ _ _ (pv 3) pa_nil (by rfl)) (by rfl))) (@pa_cons _ _ _ _ _ (pv 1) pa_nil (by rfl)) (by rfl)) (by rfl))) (by rfl))), ?_⟩
  obtain ⟨d1, hi⟩ := hk.ins
  refine ⟨_, rfl, o, AA.c_KindLook, dx, _, _, rfl, hi, T.cl_KindLook, T.na_KindLook_faults, rfl, ?_⟩
  refine ⟨_, rfl, _, rfl, (by show 2 <= sizeLine; decide), fun t ht => ?_⟩
  have s1 := same_upd (o := .tup [.int ((r : Nat) : Int), .str z]) ht
  have hk1 := hk.same s1
  have e1 : upd H t (.tup [.int ((r : Nat) : Int), .str z]) t = some (.tup ((kk r z).map kV)) := upd_same
  generalize upd H t (.tup [.int ((r : Nat) : Int), .str z]) = H1 at s1 hk1 e1 ⊢
  refine ⟨_, rfl, d2, .ref t, m, rfl, .inr ⟨_, .inl hk1.flt⟩, ?_⟩
  rcases h with ⟨e, k⟩ | ⟨e, k⟩
  ·exact .inl ⟨e, k _ s1.ls hk1⟩
  ·obtain ⟨a, b⟩ := hk1.fault (fs' := addF fs (kk r z))
   refine .inr ⟨e, _, _, DGet.t hk1.flt e1, ?_, DPut.t hk1.flt e1 ?_, ?_⟩
   ·rw [ones_val]
    split
    ·exact .inr rfl
    ·exact .inl rfl
   ·unfold ones
    rw [List.length_map]
    exact small1000' hf
   ·rw [ones_put]
    exact k _ (s1.ls.trans b) a
end
section
variable {P : Program} {w : World} {K : PySem.W.Frag} {mg : Str -> Option Value} {base : Heap} {AA : Adr} {DD : Fds}
theorem kids_ok {e : Ex} (hp : e.plain) : ∀ x ∈ e.kids, x.plain /\ x.deep < e.deep := by
 cases e with
 | num n => intro x h; simp [Ex.kids] at h
 | truth z => intro x h; simp [Ex.kids] at h
 | name z => intro x h; simp [Ex.kids] at h
 | not e => intro x h; simp [Ex.kids] at h; subst h; exact ⟨hp, by simp [Ex.deep]⟩
 | op w a b =>
  intro x h
  simp [Ex.kids] at h
  rcases h with h | h <;> subst h
  ·exact ⟨hp.2.1, by simp [Ex.deep]; omega⟩
  ·exact ⟨hp.2.2, by simp [Ex.deep]; omega⟩
 | of n e => exact hp.elim
 | many w n es => exact hp.elim
noncomputable def mk10 : List (Str × Str) := [("num", "num"), ("truth", "truth"), ("+", "num"), ("-", "num"), ("*", "num"), ("less", "truth"), ("same", "truth"), ("and", "truth"), ("or", "truth"), ("not", "truth")]
noncomputable def ak8 : List (Str × Str) := [("+", "num"), ("-", "num"), ("*", "num"), ("less", "num"), ("same", "num"), ("and", "truth"), ("or", "truth"), ("not", "truth")]
noncomputable def hdE : Ex -> Str
 | .num _ => "num"
 | .truth _ => "truth"
 | .not _ => "not"
 | .op w _ _ => w
 | _ => "num"
noncomputable def kdE (e : Ex) : Str := (mk10.lookup (hdE e)).getD "num"
noncomputable def askE (e : Ex) : Str := (ak8.lookup (hdE e)).getD "truth"
noncomputable def noN : Ex -> Prop
 | .name _ => False
 | .not e => noN e
 | .op _ a b => noN a /\ noN b
 | _ => True
theorem ops_mk : ∀ z ∈ ops7, (mk10.lookup z).isSome = true /\ (ak8.lookup z).isSome = true /\ z ≠ "name" /\ z ≠ "do" /\ z ≠ "new" /\ z ≠ "of" := by decide +kernel
theorem hd_mk : ∀ z ∈ (["num", "truth", "not"] : List Str), (mk10.lookup z).isSome = true /\ z ≠ "name" /\ z ≠ "do" /\ z ≠ "new" /\ z ≠ "of" := by decide +kernel
theorem ak_not : ak8.lookup ("not" : Str) = some "truth" := by decide +kernel
theorem mk_plain : ∀ p ∈ mk10, p.2 = "num" ∨ p.2 = "truth" := by decide +kernel
theorem kdE_plain (e : Ex) : plainK (kdE e) := by
 unfold kdE
 cases h : mk10.lookup (hdE e) with
 | none => exact .inl rfl
 | some v => exact mk_plain _ (PySem.mem_of_lookup h)
theorem kd_head {H : Hp} {v : V} {e : Ex} (h : ExAt H v e) (hp : e.plain) (hn : noN e) : ∃ (t : Addr) (ys : List V), v = .ref t /\ H t = some (.tup (.str (hdE e) :: ys)) /\ hdE e ≠ "name" /\ hdE e ≠ "do" /\ hdE e ≠ "new" /\ hdE e ≠ "of" /\ mk10.lookup (hdE e) = some (kdE e) /\ (e.kids ≠ [] -> ak8.lookup (hdE e) = some (askE e)) := by
 have g : ∀ {l : List (Str × Str)} {z d : Str}, (l.lookup z).isSome = true -> l.lookup z = some ((l.lookup z).getD d) := fun {l z d} hs => by
  cases h : l.lookup z with
  | none => rw [h] at hs; cases hs
  | some x => rfl
 cases h with
 | num h =>
  obtain ⟨m1, n1, n2, n3, n4⟩ := hd_mk "num" (by simp)
  exact ⟨_, _, rfl, h, n1, n2, n3, n4, g m1, fun z => absurd rfl z⟩
 | truth h =>
  obtain ⟨m1, n1, n2, n3, n4⟩ := hd_mk "truth" (by simp)
  exact ⟨_, _, rfl, h, n1, n2, n3, n4, g m1, fun z => absurd rfl z⟩
 | name h => exact hn.elim
 | not h a =>
  obtain ⟨m1, n1, n2, n3, n4⟩ := hd_mk "not" (by simp)
  exact ⟨_, _, rfl, h, n1, n2, n3, n4, g m1, fun _ => g (by show (ak8.lookup ("not" : Str)).isSome = true; rw [ak_not]; rfl)⟩
 | op h a b =>
  obtain ⟨m1, m2, n1, n2, n3, n4⟩ := ops_mk _ hp.1
  exact ⟨_, _, rfl, h, n1, n2, n3, n4, g m1, fun _ => g m2⟩
 | of h a => exact hp.elim
 | many h l a => exact hp.elim
theorem kids_noN {e : Ex} (hn : noN e) : ∀ x ∈ e.kids, noN x := by
 cases e with
 | not e => intro x h; simp [Ex.kids] at h; subst h; exact hn
 | op w a b =>
  intro x h
  simp [Ex.kids] at h
  rcases h with rfl | rfl
  ·exact hn.1
  ·exact hn.2
 | _ => intro x h; simp [Ex.kids] at h
noncomputable def askF (r : Nat) (kd due : Str) (fs : List (List Key)) : List (List Key) := if kd = due then fs else addF fs (kk r "kind")
noncomputable def kfE (r : Nat) : Ex -> List (List Key) -> List (List Key)
 | .not e, fs => askF r (kdE e) "truth" (kfE r e fs)
 | .op w a b, fs => askF r (kdE b) (askE (.op w a b)) (kfE r b (askF r (kdE a) (askE (.op w a b)) (kfE r a fs)))
 | _, fs => fs
noncomputable def kfK (r : Nat) (due : Str) (fs : List (List Key)) (c : Ex) : List (List Key) := askF r (kdE c) due (kfE r c fs)
theorem kfE_kids (r : Nat) (e : Ex) (fs : List (List Key)) : kfE r e fs = e.kids.foldl (kfK r (askE e)) fs := by
 cases e <;> simp [kfE, Ex.kids, kfK] <;> rfl
theorem addF_len (fs : List (List Key)) (k : List Key) : (addF fs k).length <= fs.length + 1 := by
 unfold addF
 split
 ·omega
 ·simp
theorem addF_le (fs : List (List Key)) (k : List Key) : fs.length <= (addF fs k).length := by
 unfold addF
 split
 ·omega
 ·simp
theorem addF_has (fs : List (List Key)) (k : List Key) : k ∈ addF fs k := by
 unfold addF
 split
 ·rename_i h
  obtain ⟨x, hx, e⟩ := List.any_eq_true.mp h
  have e : x = k := of_decide_eq_true e
  exact e ▸ hx
 ·simp
theorem addF_in {fs : List (List Key)} {k : List Key} (h : k ∈ fs) : addF fs k = fs := by
 unfold addF
 rw [if_pos (List.any_eq_true.mpr ⟨k, h, decide_eq_true rfl⟩)]
theorem askF_or {r : Nat} (kd due : Str) {fs gs : List (List Key)} (h : gs = fs ∨ gs = addF fs (kk r "kind")) : askF r kd due gs = fs ∨ askF r kd due gs = addF fs (kk r "kind") := by
 unfold askF
 split
 ·exact h
 ·rcases h with rfl | rfl
  ·exact .inr rfl
  ·exact .inr (addF_in (addF_has _ _))
theorem or_tr {r : Nat} {fs gs hs : List (List Key)} (h1 : gs = fs ∨ gs = addF fs (kk r "kind")) (h2 : hs = gs ∨ hs = addF gs (kk r "kind")) : hs = fs ∨ hs = addF fs (kk r "kind") := by
 rcases h2 with rfl | rfl
 ·exact h1
 ·rcases h1 with rfl | rfl
  ·exact .inr rfl
  ·exact .inr (addF_in (addF_has _ _))
theorem kfE_cases (r : Nat) : ∀ (e : Ex) (fs : List (List Key)), kfE r e fs = fs ∨ kfE r e fs = addF fs (kk r "kind")
 | .not e, fs => by rw [kfE]; exact askF_or _ _ (kfE_cases r e fs)
 | .op w a b, fs => by rw [kfE]; exact askF_or _ _ (or_tr (askF_or _ _ (kfE_cases r a fs)) (kfE_cases r b _))
 | .num _, fs => .inl rfl
 | .truth _, fs => .inl rfl
 | .name _, fs => .inl rfl
 | .of _ _, fs => .inl rfl
 | .many _ _ _, fs => .inl rfl
theorem kfE_len (r : Nat) (e : Ex) (fs : List (List Key)) : (kfE r e fs).length <= fs.length + 1 := by
 rcases kfE_cases r e fs with h | h <;> rw [h]
 ·omega
 ·exact addF_len _ _
noncomputable def spKO (C : Addr) (k : Nat) : Sp := fun vs H Q _ => ∃ (o dx d2 : Addr) (fs : List (List Key)) (v n : V) (e : Ex) (r : Nat), vs = [.ref o, .int 1, v, .int ((r : Nat) : Int), n] /\ ExAt H v e /\ e.plain /\ noN e /\ e.deep < k /\ KkAt H C o dx d2 fs /\ (addF fs (kk r "kind")).length < 900 /\
 ∀ p H', LsS H H' -> KkAt H' C o dx d2 (kfE r e fs) -> K1At H' p (kdE e) -> Q (.ref p) H'
noncomputable def spAk (C : Addr) (k : Nat) : Sp := fun vs H Q _ => ∃ (o dx d2 : Addr) (fs : List (List Key)) (v n : V) (e : Ex) (r : Nat) (due : Str), vs = [.ref o, .int 1, v, .str due, .int ((r : Nat) : Int), n] /\ ExAt H v e /\ e.plain /\ noN e /\ e.deep < k /\ KkAt H C o dx d2 fs /\ (addF fs (kk r "kind")).length < 900 /\
 ∀ H', LsS H H' -> KkAt H' C o dx d2 (kfK r due fs e) -> Q .non H'
noncomputable abbrev N_Zn : List Str := ["self", "mask", "e", "due", "at", "names"]
theorem sc_Zn : FnScope N_Zn ["self", "mask", "e", "due", "at", "names"] (defScope st_Zn) := ⟨rfl, rfl, rfl, by decide +kernel, rfl, by decide +kernel, by decide +kernel⟩
theorem ok_akS (T : All P w K mg AA DD) (k : Nat) (GKO : FnOk P w K mg base CX0 (2 * k + 3) AA.Zg DD.Zg ["self", "mask", "e", "at", "names"] (spKO AA.c_KindLook k)) :
  FnOk P w K mg base CX0 (2 * k + 4) AA.Zn DD.Zn ["self", "mask", "e", "due", "at", "names"] (spAk AA.c_KindLook k) := by
 have GU := ok_Zbl (base := base) T
 have GO := ok_knote (base := base) T
 refine T.F_Zn.ok sc_Zn (fun vs H Q E h => ?_) (fun cdv A outer s H vs Q E hr h => ?_)
 ·obtain ⟨o, dx, d2, fs, v, n, e, r, due, rfl, _⟩ := h
  rfl
 ·obtain ⟨o, dx, d2, fs, v, n, e, r, due, rfl, hE, hp, hn, hd, hk, hf, k'⟩ := h
  have nd := sc_Zn.nd
  have hrK : Room (2 * k + 3) _ := hr
  have hr2 : Room 2 _ := hrK.mono (by omega)
  refine ⟨_, (@pss_one _ _ _ (@ps_expr _ _ _ _ (pe_meth (pv 0) T.cl_KindLook T.M_Zl GO hr2 T.b_Zl .nil pass0 (@pa_cons _ _ _ _ _ (pe_call GU hr2 rfl T.m_Zbl T.k_Zbl T.b_Zbl .nil pass0 (@pa_cons _ _ _ _ _ (pe_meth (pv 0) T.cl_KindLook T.M_Zg GKO hrK T.b_Zg .nil pass0 (@pa_cons _ _ _ _ _ (pv 1) (@pa_cons _ _ _ _ _ (pv 2) (@pa_cons _ _ _ _ _ (pv 4) (@pa_cons _ _ _ _ _ (pv 5) pa_nil (by rfl)) (by rfl)) (by rfl)) (by rfl))) (@pa_cons _ _ _ _ _ (pv 3) pa_nil (by rfl)) (by rfl))) (@pa_cons _ _ _ _ _ (pv 4) (@pa_cons _ _ _ _ _ pe_str pa_nil (by rfl)) (by rfl)) (by rfl))) (by rfl))), ?_⟩
  obtain ⟨d1, hi⟩ := hk.ins
  refine ⟨_, rfl, o, dx, _, rfl, hi, rfl, _, rfl, o, dx, _, rfl, hi, rfl, ?_⟩
  refine ⟨_, rfl, _, rfl, _, rfl, _, rfl, o, dx, d2, fs, v, n, e, r, rfl, hE, hp, hn, hd, hk, hf, fun p H1 ls1 hk1 hK1 => ?_⟩
  refine ⟨_, rfl, p, kdE e, due, rfl, hK1, fun H2 s2 => ⟨_, rfl, ?_⟩⟩
  have hl : (kfE r e fs).length < 900 := by
   rcases kfE_cases r e fs with h | h <;> rw [h]
   ·exact Nat.lt_of_le_of_lt (addF_le _ _) hf
   ·exact hf
  by_cases hkd : kdE e = due
  ·rw [if_pos hkd]
   refine ⟨o, dx, d2, kfE r e fs, 0, r, "kind", rfl, hk1.same s2, by omega, .inl ⟨rfl, fun H3 ls3 hk3 => k' _ ((ls1.trans s2.ls).trans ls3) ?_⟩⟩
   unfold kfK askF
   rw [if_pos hkd]; exact hk3
  ·rw [if_neg hkd]
   refine ⟨o, dx, d2, kfE r e fs, 1, r, "kind", rfl, hk1.same s2, by omega, .inr ⟨rfl, fun H3 ls3 hk3 => k' _ ((ls1.trans s2.ls).trans ls3) ?_⟩⟩
   unfold kfK askF
   rw [if_neg hkd]; exact hk3
noncomputable abbrev N_Zg : List Str := ["self", "mask", "e", "at", "names", "rows", "found", "here", "kind", "inner"]
theorem sc_Zg : FnScope N_Zg ["self", "mask", "e", "at", "names"] (defScope st_Zg) := ⟨rfl, rfl, rfl, by decide +kernel, rfl, by decide +kernel, by decide +kernel⟩
theorem ok_koS (T : All P w K mg AA DD) (k : Nat) (GAK : FnOk P w K mg base CX0 (2 * k + 4) AA.Zn DD.Zn ["self", "mask", "e", "due", "at", "names"] (spAk AA.c_KindLook k)) :
  FnOk P w K mg base CX0 (2 * (k + 1) + 3) AA.Zg DD.Zg ["self", "mask", "e", "at", "names"] (spKO AA.c_KindLook (k + 1)) := by
 have GI := ok_ei (base := base) T
 refine T.F_Zg.ok sc_Zg (fun vs H Q E h => ?_) (fun cdv A outer s H vs Q E hr h => ?_)
 ·obtain ⟨o, dx, d2, fs, v, n, e, r, rfl, _⟩ := h
  rfl
 ·obtain ⟨o, dx, d2, fs, v, n, e, r, rfl, hE, hp, hn, hd, hk, hf, k'⟩ := h
  have nd := sc_Zg.nd
  have hrA : Room (2 * k + 4) _ := hr
  have hr1 : Room 1 _ := hrA.mono (by omega)
  refine ⟨_, (@pss_cons _ _ _ _ _ (@ps_if _ _ _ _ _ _ _ _ (@pt_cmpR _ _ _ _ _ _ _ _ op_eq (@pe_ix _ _ _ _ _ _ _ (ix_tupK (K := K) rfl) (pv 2) pe_int (fun _ _ => rfl)) pe_str (nomark _)) pss_never pss_nil) (@pss_cons _ _ _ _ _ (@ps_if _ _ _ _ _ _ _ _ (@pt_cmpR _ _ _ _ _ _ _ _ op_eq (@pe_ix _ _ _ _ _ _ _ (ix_tupK (K := K) rfl) (pv 2) pe_int (fun _ _ => rfl)) pe_str (nomark _)) pss_never pss_nil) (@pss_cons _ _ _ _ _ (@ps_if _ _ _ _ _ _ _ _ (@pt_cmpR _ _ _ _ _ _ _ _ op_eq (@pe_ix _ _ _ _ _ _ _ (ix_tupK (K := K) rfl) (pv 2) pe_int (fun _ _ => rfl)) pe_str (nomark _)) pss_never pss_nil) (@pss_cons _ _ _ _ _ (@ps_if _ _ _ _ _ _ _ _ (@pt_cmpR _ _ _ _ _ _ _ _ op_eq (@pe_ix _ _ _ _ _ _ _ (ix_tupK (K := K) rfl) (pv 2) pe_int (fun _ _ => rfl)) pe_str (nomark _)) pss_never pss_nil) (@pss_cons _ _ _ _ _ (@ps_for _ _ _ _ _ _ _ _ PassesOwn.never rfl (pi_tup (pe_call GI hr1 rfl T.m_Zz T.k_Zz T.b_Zz .nil pass0 (@pa_cons _ _ _ _ _ (pv 2) pa_nil (by rfl)))) (pg_name (i := 9) nd rfl (Or.inl rfl)) (@pss_one _ _ _ (@ps_expr _ _ _ _ (pe_meth (pv 0) T.cl_KindLook T.M_Zn GAK hrA T.b_Zn .nil pass0 (@pa_cons _ _ _ _ _ (pv 1) (@pa_cons _ _ _ _ _ (pv 9) (@pa_cons _ _ _ _ _ (pe_kixT T.D_ASKS rfl T.m_ASKS (@pe_ix _ _ _ _ _ _ _ (ix_tupK (K := K) rfl) (pv 2) pe_int (fun _ _ => rfl)) (fun _ _ => rfl)) (@pa_cons _ _ _ _ _ (pv 3) (@pa_cons _ _ _ _ _ (pv 4) pa_nil (by rfl)) (by rfl)) (by rfl)) (by rfl)) (by rfl))) (by rfl))) (by intro _; rfl)) (@pss_one _ _ _ (@ps_ret _ _ _ _ (@pe_lst _ _ _ _ (@pa_cons _ _ _ _ _ (@pe_tup _ _ _ _ _ (@pa_cons _ _ _ _ _ (pv 1) (@pa_cons _ _ _ _ _ (pe_kixT T.D_MAKES rfl T.m_MAKES (@pe_ix _ _ _ _ _ _ _ (ix_tupK (K := K) rfl) (pv 2) pe_int (fun _ _ => rfl)) (fun _ _ => rfl)) pa_nil (by rfl)) (by rfl))) pa_nil (by rfl)))))))))), ?_⟩
  obtain ⟨t, ys, rfl, ht, n1, n2, n3, n4, lm, la⟩ := kd_head hE hp hn
  refine ⟨_, rfl, t, _, _, _, rfl, rfl, SqT.of ht, atI_nat (j := 0) rfl, rfl, _, rfl, ?_⟩
  refine iteFb (decide_eq_false fun q => n1 (by injection q)) ?_
  refine ⟨_, rfl, t, _, _, _, rfl, rfl, SqT.of ht, atI_nat (j := 0) rfl, rfl, _, rfl, ?_⟩
  refine iteFb (decide_eq_false fun q => n2 (by injection q)) ?_
  refine ⟨_, rfl, t, _, _, _, rfl, rfl, SqT.of ht, atI_nat (j := 0) rfl, rfl, _, rfl, ?_⟩
  refine iteFb (decide_eq_false fun q => n3 (by injection q)) ?_
  refine ⟨_, rfl, t, _, _, _, rfl, rfl, SqT.of ht, atI_nat (j := 0) rfl, rfl, _, rfl, ?_⟩
  refine iteFb (decide_eq_false fun q => n4 (by injection q)) ?_
  refine ⟨_, rfl, _, e, rfl, hE, hp, fun tk zs H2 s2 htk hys => ⟨tk, rfl, ⟨_, SqT.of htk⟩, ?_⟩⟩
  have hkl := hys.len
  have hk2 := hk.same s2
  have ht2 := s2 _ _ ht
  have kfl : ∀ i, (((e.kids.take i).foldl (kfK r (askE e)) fs) = fs ∨ ((e.kids.take i).foldl (kfK r (askE e)) fs) = addF fs (kk r "kind")) := by
   intro i
   generalize e.kids.take i = cs
   have go : ∀ (cs : List Ex) (gs : List (List Key)), (gs = fs ∨ gs = addF fs (kk r "kind")) -> (cs.foldl (kfK r (askE e)) gs = fs ∨ cs.foldl (kfK r (askE e)) gs = addF fs (kk r "kind")) := by
    intro cs
    induction cs with
    | nil => exact fun gs h => h
    | cons c cs ih => exact fun gs h => ih _ (askF_or _ _ (or_tr h (kfE_cases r c gs)))
   exact go cs fs (.inl rfl)
  have kll : ∀ i, (addF ((e.kids.take i).foldl (kfK r (askE e)) fs) (kk r "kind")).length < 900 := fun i => by
   rcases kfl i with h | h <;> rw [h]
   ·exact hf
   ·rw [addF_in (addF_has _ _)]; exact hf
  refine for_tup (K := K) (a := tk) (xs := zs) (fun i σ' H' => LsS H H' /\ LsS H2 H' /\ (∃ x5 x6 x7 x8 x9, σ' = [some (.ref o), some (.int 1), some (.ref t), some (.int ((r : Nat) : Int)), some n, x5, x6, x7, x8, x9]) /\ KkAt H' AA.c_KindLook o dx d2 ((e.kids.take i).foldl (kfK r (askE e)) fs)) ⟨s2.ls, LsS.refl _, ⟨_, _, _, _, _, rfl⟩, by simpa using hk2⟩ (fun i σ' H' _ h => SqT.of (h.2.1.1 _ _ htk)) ?_ ?_
  ·rintro i x σ' H3 hx ⟨l3, l23, ⟨x5, x6, x7, x8, x9, rfl⟩, hk3⟩
   obtain ⟨c, hc, hcx⟩ := hys.get hx
   have hcm := kids_ok hp c (List.mem_of_getElem? hc)
   have hcn := kids_noN hn c (List.mem_of_getElem? hc)
   obtain ⟨d1, hi3⟩ := hk3.ins
   have la' := la (fun z => by rw [z] at hc; simp at hc)
   have hll := kll i
   refine ⟨_, rfl, o, dx, _, rfl, hi3, rfl, _, rfl, _, rfl, _, rfl, t, _, _, _, rfl, rfl, SqT.of (l23.1 _ _ ht2), atI_nat (j := 0) rfl, hdE e, askE e, rfl, la', _, rfl, _, rfl, o, dx, d2, _, x, n, c, r, askE e, rfl, hcx.kept l23.1, hcm.1, hcn, by omega, hk3, hll, fun H' ls hk' => ?_⟩
   refine ⟨l3.trans ls, l23.trans ls, ⟨_, _, _, _, _, rfl⟩, ?_⟩
   obtain ⟨hi, ec⟩ := List.getElem?_eq_some_iff.mp hc
   rw [List.take_succ_eq_append_getElem hi, ec, List.foldl_append]
   exact hk'
  ·rintro σ' H3 ⟨l3, l23, ⟨x5, x6, x7, x8, x9, rfl⟩, hk3⟩
   rw [List.take_of_length_le (by omega), <- kfE_kids] at hk3
   dsimp only
   refine ⟨_, rfl, _, rfl, t, _, _, _, rfl, rfl, SqT.of (l23.1 _ _ ht2), atI_nat (j := 0) rfl, hdE e, kdE e, rfl, lm, (by show 2 <= sizeLine; decide), fun t3 ht3 => ⟨(by show 1 <= sizeLine; decide), fun p hp3 => ?_⟩⟩
   have s3 := same_upd (o := .tup [.int 1, .str (kdE e)]) ht3
   have s4 := same_upd (o := .lst [.ref t3]) hp3
   exact k' p _ (l3.trans (s3.trans s4).ls) (hk3.same (s3.trans s4)) ⟨t3, upd_same, s4 _ _ upd_same⟩
theorem ok_ko0 (T : All P w K mg AA DD) : FnOk P w K mg base CX0 3 AA.Zg DD.Zg ["self", "mask", "e", "at", "names"] (spKO AA.c_KindLook 0) := by
 have no : ∀ vs H Q E, ¬ spKO AA.c_KindLook 0 vs H Q E := fun vs H Q E h => by
  obtain ⟨o, dx, d2, fs, v, n, e, r, _, _, _, _, z, _⟩ := h
  omega
 exact T.F_Zg.ok sc_Zg (fun vs H Q E h => (no _ _ _ _ h).elim) (fun cdv A outer s H vs Q E hr h => (no _ _ _ _ h).elim)
theorem ok_ko (T : All P w K mg AA DD) : ∀ k : Nat, FnOk P w K mg base CX0 (2 * k + 3) AA.Zg DD.Zg ["self", "mask", "e", "at", "names"] (spKO AA.c_KindLook k)
 | 0 => ok_ko0 T
 | k + 1 => ok_koS T k (ok_akS T k (ok_ko T k))
end
section
variable {P : Program} {w : World} {K : PySem.W.Frag} {mg : Str -> Option Value} {base : Heap} {AA : Adr} {DD : Fds}
noncomputable def truT (t : Tr) (fs : List (List Key)) : List (List Key) := match t with
 | .tell _ _ => fs
 | _ => if kdE t.ex = "truth" then fs else addF fs (kk t.row "truth")
noncomputable def spLR (C : Addr) : Sp := fun vs H Q _ => ∃ (o dx d2 p : Addr) (fs : List (List Key)) (v n : V) (t : Tr), vs = [.ref o, v, .ref p, n, .non] /\ SAt H true v t /\ t.nm = none /\ K1At H p (kdE t.ex) /\ KkAt H C o dx d2 fs /\ fs.length < 900 /\
 ∀ H', LsS H H' -> KkAt H' C o dx d2 (truT t fs) -> Q .non H'
theorem kw_cases (t : Tr) (h : t.nm = none) : t.kw ≠ "set" /\ t.kw ≠ "give" /\ ((t.kw = "tell" /\ ∀ fs, truT t fs = fs) ∨ (t.kw ≠ "tell" /\ ∀ fs, truT t fs = if kdE t.ex = "truth" then fs else addF fs (kk t.row "truth"))) := by
 cases t with
 | set r n e => cases h
 | tell r e => exact ⟨by show ("tell" : Str) ≠ "set"; decide, by show ("tell" : Str) ≠ "give"; decide, .inl ⟨rfl, fun _ => rfl⟩⟩
 | iff r e b o => exact ⟨by show ("if" : Str) ≠ "set"; decide, by show ("if" : Str) ≠ "give"; decide, .inr ⟨by show ("if" : Str) ≠ "tell"; decide, fun _ => rfl⟩⟩
 | whl r e b => exact ⟨by show ("while" : Str) ≠ "set"; decide, by show ("while" : Str) ≠ "give"; decide, .inr ⟨by show ("while" : Str) ≠ "tell"; decide, fun _ => rfl⟩⟩
noncomputable abbrev N_Ze : List Str := ["self", "one", "kinds", "names", "due", "at"]
theorem sc_Ze : FnScope N_Ze ["self", "one", "kinds", "names", "due"] (defScope st_Ze) := ⟨rfl, rfl, rfl, by decide +kernel, rfl, by decide +kernel, by decide +kernel⟩
theorem ok_lr (T : All P w K mg AA DD) : FnOk P w K mg base CX0 4 AA.Ze DD.Ze ["self", "one", "kinds", "names", "due"] (spLR AA.c_KindLook) := by
 have GU := ok_Zbl (base := base) T
 have GO := ok_knote (base := base) T
 have GA := ok_all1 (base := base) T
 have GIR := ok_isrec (base := base) T
 refine T.F_Ze.ok sc_Ze (fun vs H Q E h => ?_) (fun cdv A outer s H vs Q E hr h => ?_)
 ·obtain ⟨o, dx, d2, p, fs, v, n, t, rfl, _⟩ := h
  rfl
 ·obtain ⟨o, dx, d2, p, fs, v, n, t, rfl, hS, hnm, hK, hk, hf, kq⟩ := h
  have nd := sc_Ze.nd
  have hr3 : Room 3 _ := hr
  have hr2 : Room 2 _ := hr3.mono (by decide)
  have hr1 : Room 1 _ := hr3.mono (by decide)
  refine ⟨_, (@pss_cons _ _ _ _ _ (@ps_set _ _ 5 _ _ _ _ nd rfl (Or.inl rfl) (@pe_ix _ _ _ _ _ _ _ (ix_tupK (K := K) rfl) (pv 1) pe_int (fun _ _ => rfl)) (by rfl) (by first | exact .inl rfl | exact .inr rfl | assumption)) (@pss_one _ _ _ (@ps_if _ _ _ _ _ _ _ _ (@pt_cmpR _ _ _ _ _ _ _ _ op_eq (@pe_ix _ _ _ _ _ _ _ (ix_tupK (K := K) rfl) (pv 1) pe_int (fun _ _ => rfl)) pe_str (nomark _)) pss_never (@pss_one _ _ _ (@ps_if _ _ _ _ _ _ _ _ (@pt_cmpR _ _ _ _ _ _ _ _ op_eq (@pe_ix _ _ _ _ _ _ _ (ix_tupK (K := K) rfl) (pv 1) pe_int (fun _ _ => rfl)) pe_str (nomark _)) pss_never (@pss_one _ _ _ (@ps_if _ _ _ _ _ _ _ _ (@pt_cmpR _ _ _ _ _ _ _ _ op_eq (@pe_ix _ _ _ _ _ _ _ (ix_tupK (K := K) rfl) (pv 1) pe_int (fun _ _ => rfl)) pe_str (nomark _)) (@pss_one _ _ _ (@ps_expr _ _ _ _ (pe_meth (pv 0) T.cl_KindLook T.M_Zl GO hr2 T.b_Zl .nil pass0 (@pa_cons _ _ _ _ _ (pe_call GA hr1 rfl T.m_Zbh T.k_Zbh T.b_Zbh .nil pass0 (@pa_cons _ _ _ _ _ (pe_comp (defScope st_Ze) N_Ze [] [] rfl (by exact ⟨rfl, rfl, by decide +kernel, rfl, by decide +kernel, by decide +kernel, by decide +kernel, rfl, by decide +kernel⟩) rfl rfl (pi_list (pv 2)) (fun _ _ _ _ => pif_one (pt_val (pe_call GIR hr1 rfl T.m_Zv T.k_Zv T.b_Zv .nil pass0 (pa_cons (pe_ix (ix_tupK (K := K) rfl) (pv 0) pe_int (fun _ _ => rfl)) pa_nil)))) (fun _ _ _ _ => (pv 0))) pa_nil (by rfl))) (@pa_cons _ _ _ _ _ (pv 5) (@pa_cons _ _ _ _ _ pe_str pa_nil (by rfl)) (by rfl)) (by rfl))) (by rfl))) (@pss_one _ _ _ (@ps_expr _ _ _ _ (pe_meth (pv 0) T.cl_KindLook T.M_Zl GO hr2 T.b_Zl .nil pass0 (@pa_cons _ _ _ _ _ (pe_call GU hr2 rfl T.m_Zbl T.k_Zbl T.b_Zbl .nil pass0 (@pa_cons _ _ _ _ _ (pv 2) (@pa_cons _ _ _ _ _ pe_str pa_nil (by rfl)) (by rfl))) (@pa_cons _ _ _ _ _ (pv 5) (@pa_cons _ _ _ _ _ pe_str pa_nil (by rfl)) (by rfl)) (by rfl))) (by rfl)))))))))), ?_⟩
  obtain ⟨n1, n2, hc⟩ := kw_cases t hnm
  cases hS with
  | @mk t0 vs _ ht0 hps =>
  obtain ⟨vr, rfl⟩ := st_head hps
  obtain ⟨d1, hi⟩ := hk.ins
  refine ⟨_, rfl, t0, _, _, _, rfl, rfl, SqT.of ht0, atI_nat (j := 1) rfl, ?_⟩
  dsimp only [gName]
  refine ⟨_, rfl, t0, _, _, _, rfl, rfl, SqT.of ht0, atI_nat (j := 0) rfl, rfl, _, rfl, ?_⟩
  refine iteFb (decide_eq_false fun z => n1 (by injection z)) ?_
  refine ⟨_, rfl, t0, _, _, _, rfl, rfl, SqT.of ht0, atI_nat (j := 0) rfl, rfl, _, rfl, ?_⟩
  refine iteFb (decide_eq_false fun z => n2 (by injection z)) ?_
  refine ⟨_, rfl, t0, _, _, _, rfl, rfl, SqT.of ht0, atI_nat (j := 0) rfl, rfl, _, rfl, ?_⟩
  rcases hc with ⟨hw, ht⟩ | ⟨hw, ht⟩
  ·refine iteTb (decide_eq_true (by rw [hw])) ?_
   refine ⟨_, rfl, o, dx, _, rfl, hi, rfl, ?_⟩
   obtain ⟨tk, hp, htk⟩ := hK
   refine ⟨_, rfl, p, rfl, ⟨_, SqL.of hp⟩, ?_⟩
   refine comp_list (K := K) (a := p) (xs := [.ref tk]) (fun i ys H' => H' = H /\ ys = []) ⟨rfl, rfl⟩ (fun i ys H' _ h => by rw [h.1]; exact SqL.of hp) ?_ ?_
   ·rintro i x ys H1 hx ⟨rfl, rfl⟩
    have ex : x = V.ref tk := by simpa using List.mem_of_getElem? hx
    subst ex
    refine ⟨_, rfl, tk, _, _, _, rfl, rfl, SqT.of htk, atI_nat (j := 1) rfl, kdE t.ex, rfl, kdE_plain _, _, rfl, iteF ⟨rfl, rfl⟩⟩
   ·rintro ys H1 ⟨rfl, rfl⟩ q hq
    have sq := same_upd (o := .lst []) hq
    refine ⟨q, [], rfl, upd_same, (by intro x hx; cases hx), _, rfl, o, dx, d2, fs, 0, t.row, "tell", rfl, hk.same sq, by omega, .inl ⟨rfl, fun H3 ls3 hk3 => ?_⟩⟩
    refine kq _ (sq.ls.trans ls3) ?_
    rw [ht]; exact hk3
  ·refine iteFb (decide_eq_false fun z => hw (by injection z)) ?_
   refine ⟨_, rfl, o, dx, _, rfl, hi, rfl, _, rfl, p, kdE t.ex, "truth", rfl, hK, fun H2 s2 => ⟨_, rfl, ?_⟩⟩
   by_cases hkd : kdE t.ex = "truth"
   ·rw [if_pos hkd]
    refine ⟨o, dx, d2, fs, 0, t.row, "truth", rfl, hk.same s2, by omega, .inl ⟨rfl, fun H3 ls3 hk3 => kq _ (s2.ls.trans ls3) ?_⟩⟩
    rw [ht, if_pos hkd]; exact hk3
   ·rw [if_neg hkd]
    refine ⟨o, dx, d2, fs, 1, t.row, "truth", rfl, hk.same s2, by omega, .inr ⟨rfl, fun H3 ls3 hk3 => kq _ (s2.ls.trans ls3) ?_⟩⟩
    rw [ht, if_neg hkd]; exact hk3
noncomputable def rowF (t : Tr) (fs : List (List Key)) : List (List Key) := truT t (kfE t.row t.ex fs)
mutual
noncomputable def kfT : Tr -> List (List Key) -> List (List Key)
 | .set r n e, fs => rowF (.set r n e) fs
 | .tell r e, fs => rowF (.tell r e) fs
 | .iff r e b o, fs => kfTs o (kfTs b (rowF (.iff r e b o) fs))
 | .whl r e b, fs => kfTs b (rowF (.whl r e b) fs)
noncomputable def kfTs : List Tr -> List (List Key) -> List (List Key)
 | [], fs => fs
 | t :: ts, fs => kfTs ts (kfT t fs)
end
theorem kfT_b (t : Tr) (fs : List (List Key)) : kfT t fs = t.blocks.foldl (fun gs b => kfTs b gs) (rowF t fs) := by
 cases t <;> simp [kfT, Tr.blocks]
theorem kfTs_app : ∀ (a b : List Tr) (fs : List (List Key)), kfTs (a ++ b) fs = kfTs b (kfTs a fs)
 | [], _, _ => by simp [kfTs]
 | t :: a, b, fs => by
  show kfTs (a ++ b) (kfT t fs) = kfTs b (kfTs a (kfT t fs))
  exact kfTs_app a b _
theorem rowF_len (t : Tr) (fs : List (List Key)) : (rowF t fs).length <= fs.length + 2 := by
 have h1 := kfE_len t.row t.ex fs
 unfold rowF
 generalize kfE t.row t.ex fs = gs at h1
 unfold truT
 split
 ·omega
 ·split
  ·omega
  ·have := addF_len gs (kk t.row "truth"); omega
mutual
theorem kfT_len : ∀ (t : Tr) (fs : List (List Key)), (kfT t fs).length <= fs.length + 2 * t.flat.length
 | .set r n e, fs => by
  have := rowF_len (.set r n e) fs
  simp [kfT, Tr.flat]; omega
 | .tell r e, fs => by
  have := rowF_len (.tell r e) fs
  simp [kfT, Tr.flat]; omega
 | .iff r e b o, fs => by
  have h := rowF_len (.iff r e b o) fs
  have h1 := kfTs_len b (rowF (.iff r e b o) fs)
  have h2 := kfTs_len o (kfTs b (rowF (.iff r e b o) fs))
  simp [kfT, Tr.flat]; omega
 | .whl r e b, fs => by
  have h := rowF_len (.whl r e b) fs
  have h1 := kfTs_len b (rowF (.whl r e b) fs)
  simp [kfT, Tr.flat]; omega
theorem kfTs_len : ∀ (ts : List Tr) (fs : List (List Key)), (kfTs ts fs).length <= fs.length + 2 * (flats ts).length
 | [], fs => by simp [kfTs, flats]
 | t :: ts, fs => by
  have h1 := kfT_len t fs
  have h2 := kfTs_len ts (kfT t fs)
  simp [kfTs, flats]; omega
end
theorem foldb_len : ∀ (bs : List (List Tr)) (fs : List (List Key)), (bs.foldl (fun gs b => kfTs b gs) fs).length <= fs.length + 2 * (bs.map flats).flatten.length
 | [], fs => by simp
 | b :: bs, fs => by
  have h1 := kfTs_len b fs
  have h2 := foldb_len bs (kfTs b fs)
  simp only [List.foldl_cons, List.map_cons, List.flatten_cons, List.length_append]
  omega
theorem asc_ex {t : Tr} (h : t.asc) : t.ex.plain := by
 cases t with
 | set r n e => exact h
 | tell r e => exact h
 | iff r e b o => exact h.1
 | whl r e b => exact h.1
theorem flats_take : ∀ {ts : List Tr} {i : Nat} {t : Tr}, ts[i]? = some t -> flats (ts.take (i + 1)) = flats (ts.take i) ++ t.flat /\ ∃ r, flats ts = flats (ts.take i) ++ (t.flat ++ r)
 | x :: ts, 0, t, h => by
  cases (show some x = some t from h)
  exact ⟨by simp [flats], flats ts, by simp [flats]⟩
 | x :: ts, i + 1, t, h => by
  obtain ⟨a, r, b⟩ := flats_take (ts := ts) (i := i) h
  exact ⟨by simp [flats, a], r, by simp [flats, b]⟩
theorem blocks_mem {t : Tr} {bs : List Tr} (h : bs ∈ t.blocks) : Part.b bs ∈ t.parts := by
 have : Part.b bs ∈ t.parts.filter isB := by rw [parts_b]; exact List.mem_map.mpr ⟨bs, h, rfl⟩
 exact (List.mem_filter.mp this).1
theorem fl_take : ∀ {bs : List (List Tr)} {i : Nat} {b : List Tr}, bs[i]? = some b -> ((bs.take (i + 1)).map flats).flatten = ((bs.take i).map flats).flatten ++ flats b /\ ∃ r, (bs.map flats).flatten = ((bs.take i).map flats).flatten ++ (flats b ++ r)
 | x :: bs, 0, b, h => by
  cases (show some x = some b from h)
  exact ⟨by simp, (bs.map flats).flatten, by simp⟩
 | x :: bs, i + 1, b, h => by
  obtain ⟨a, r, c⟩ := fl_take (bs := bs) (i := i) h
  exact ⟨by simp only [List.take_succ_cons, List.map_cons, List.flatten_cons, a, List.append_assoc], r, by simp only [List.take_succ_cons, List.map_cons, List.flatten_cons, c, List.append_assoc]⟩
noncomputable def GoodR (x : Nat × Ex × Option Str) : Prop := x.2.2 = none /\ noN x.2.1 /\ x.2.1.deep < 8
noncomputable def spKB (C : Addr) (k : Nat) : Sp := fun vs H Q _ => ∃ (o dx d2 l : Addr) (n : V) (xs : List V) (ts : List Tr) (fs : List (List Key)), vs = [.ref o, .ref l, n, .non] /\ H l = some (.lst xs) /\ LAt H true xs ts /\ deeps ts < k /\ ascs ts /\ (∀ x ∈ flats ts, GoodR x) /\
 KkAt H C o dx d2 fs /\ fs.length + 2 * (flats ts).length < 800 /\ ∀ H', LsS H H' -> KkAt H' C o dx d2 (kfTs ts fs) -> Q .non H'
noncomputable abbrev N_Zb : List Str := ["self", "statements", "names", "due", "mask", "one", "block"]
theorem sc_Zb : FnScope N_Zb ["self", "statements", "names", "due"] (defScope st_Zb) := ⟨rfl, rfl, rfl, by decide +kernel, rfl, by decide +kernel, by decide +kernel⟩
theorem ok_kbS (T : All P w K mg AA DD) (k : Nat) (GY : FnOk P w K mg base CX0 (k + 20) AA.Zb DD.Zb ["self", "statements", "names", "due"] (spKB AA.c_KindLook k)) :
  FnOk P w K mg base CX0 (k + 1 + 20) AA.Zb DD.Zb ["self", "statements", "names", "due"] (spKB AA.c_KindLook (k + 1)) := by
 have GKO := ok_ko (base := base) T 8
 have GLR := ok_lr (base := base) T
 have GX := ok_eo (base := base) T
 have GK := ok_bo (base := base) T
 refine T.F_Zb.ok sc_Zb (fun vs H Q E h => ?_) (fun cdv A outer s H vs Q E hr h => ?_)
 ·obtain ⟨o, dx, d2, l, n, xs, ts, fs, rfl, _⟩ := h
  rfl
 ·obtain ⟨o, dx, d2, l, n, xs, ts, fs, rfl, hl, hL, hd, ha, hg, hk, hf, kq⟩ := h
  have nd := sc_Zb.nd
  have hrB : Room (k + 20) _ := hr
  have hrK : Room (2 * 8 + 3) _ := hrB.mono (by omega)
  have hr4 : Room 4 _ := hrB.mono (by omega)
  have hr1 : Room 1 _ := hrB.mono (by omega)
  refine ⟨_, (@pss_one _ _ _ (@ps_for _ _ _ _ _ _ _ _ PassesOwn.never rfl (pi_list (pv 1)) (pg_tup rfl (pgs_cons (pg_name (i := 4) nd rfl (Or.inl rfl)) (pgs_cons (pg_name (i := 5) nd rfl (Or.inl rfl)) pgs_nil))) (@pss_one _ _ _ (@ps_if _ _ _ _ _ _ _ _ (@pt_cmpR _ _ _ _ _ _ _ _ op_eq (@pe_ix _ _ _ _ _ _ _ (ix_tupK (K := K) rfl) (pv 5) pe_int (fun _ _ => rfl)) pe_str (nomark _)) pss_never (@pss_one _ _ _ (@ps_if _ _ _ _ _ _ _ _ (@pt_cmpR _ _ _ _ _ _ _ _ op_ne (@pe_ix _ _ _ _ _ _ _ (ix_tupK (K := K) rfl) (pv 5) pe_int (fun _ _ => rfl)) pe_str (nomark _)) (@pss_cons _ _ _ _ _ (@ps_expr _ _ _ _ (pe_meth (pv 0) T.cl_KindLook T.M_Ze GLR hr4 T.b_Ze .nil pass0 (@pa_cons _ _ _ _ _ (pv 5) (@pa_cons _ _ _ _ _ (pe_meth (pv 0) T.cl_KindLook T.M_Zg GKO hrK T.b_Zg .nil pass0 (@pa_cons _ _ _ _ _ (pv 4) (@pa_cons _ _ _ _ _ (pe_call GX hr1 rfl T.m_Zbe T.k_Zbe T.b_Zbe .nil pass0 (@pa_cons _ _ _ _ _ (pv 5) pa_nil (by rfl))) (@pa_cons _ _ _ _ _ (@pe_ix _ _ _ _ _ _ _ (ix_tupK (K := K) rfl) (pv 5) pe_int (fun _ _ => rfl)) (@pa_cons _ _ _ _ _ (pv 2) pa_nil (by rfl)) (by rfl)) (by rfl)) (by rfl))) (@pa_cons _ _ _ _ _ (pv 2) (@pa_cons _ _ _ _ _ (pv 3) pa_nil (by rfl)) (by rfl)) (by rfl)) (by rfl))) (by rfl)) (@pss_one _ _ _ (@ps_for _ _ _ _ _ _ _ _ PassesOwn.never rfl (pi_list (pe_call GK hr1 rfl T.m_Zu T.k_Zu T.b_Zu .nil pass0 (@pa_cons _ _ _ _ _ (pv 5) pa_nil (by rfl)))) (pg_name (i := 6) nd rfl (Or.inl rfl)) (@pss_one _ _ _ (@ps_expr _ _ _ _ (pe_meth (pv 0) T.cl_KindLook T.M_Zb GY hrB T.b_Zb .nil pass0 (@pa_cons _ _ _ _ _ (pv 6) (@pa_cons _ _ _ _ _ (pv 2) (@pa_cons _ _ _ _ _ (pv 3) pa_nil (by rfl)) (by rfl)) (by rfl))) (by rfl))) (by intro _; rfl)))) pss_nil)))) (by intro _; rfl))), ?_⟩
  refine ⟨_, rfl, l, rfl, ⟨_, SqL.of hl⟩, ?_⟩
  have hxl := hL.length
  refine for_list (K := K) (a := l) (xs := xs) (fun i σ' H' => LsS H H' /\ (∃ x4 x5 x6, σ' = [some (.ref o), some (.ref l), some n, some .non, x4, x5, x6]) /\ KkAt H' AA.c_KindLook o dx d2 (kfTs (ts.take i) fs)) ⟨LsS.refl _, ⟨_, _, _, rfl⟩, by simpa [kfTs] using hk⟩ (fun i σ' H' _ h => SqL.of (h.1.2 _ _ hl)) ?_ ?_
  ·rintro i x σ' H1 hx ⟨l1, ⟨x4, x5, x6, rfl⟩, hk1⟩
   obtain ⟨t, ht, hO⟩ := hL.get hx
   have hO1 := hO.kept l1
   have hm : t ∈ ts := List.mem_of_getElem? ht
   have hta := ascs_mem ha hm
   obtain ⟨ft, rest, fr⟩ := flats_take ht
   have hnf : (flats (ts.take i)).length + (1 + (t.blocks.map flats).flatten.length) + rest.length = (flats ts).length := by
    rw [fr, flat_b]
    simp only [List.length_append, List.length_cons]
    omega
   have hmf : ∀ z ∈ t.flat, z ∈ flats ts := fun z hz => by rw [fr]; simp [hz]
   obtain ⟨hnm, hnn, hdt⟩ := hg (t.row, t.ex, t.nm) (hmf _ (by rw [flat_b]; simp))
   have hq := kfTs_len (ts.take i) fs
   obtain ⟨hi', et⟩ := List.getElem?_eq_some_iff.mp ht
   have etk : kfTs (ts.take (i + 1)) fs = kfT t (kfTs (ts.take i) fs) := by
    rw [List.take_succ_eq_append_getElem hi', et, kfTs_app]; rfl
   rw [etk]
   generalize kfTs (ts.take i) fs = gs at hk1 hq
   cases hO1 with
   | plain e _ => cases e
   | @shared p y _ _ hp hS =>
   have hS0 := hS
   cases hS with
   | @mk t0 vs _ ht0 hps =>
   obtain ⟨vr, rfl⟩ := st_head hps
   obtain ⟨d1, hi⟩ := hk1.ins
   refine ⟨p, _, rfl, SqT.of hp, rfl, _, _, rfl, _, _, rfl, rfl, ?_⟩
   refine ⟨_, rfl, t0, _, _, _, rfl, rfl, SqT.of ht0, atI_nat (j := 0) rfl, rfl, _, rfl, ?_⟩
   refine iteFb (decide_eq_false fun z => (kw_not t).1 (by injection z)) ?_
   refine ⟨_, rfl, t0, _, _, _, rfl, rfl, SqT.of ht0, atI_nat (j := 0) rfl, rfl, _, rfl, ?_⟩
   refine iteTb (by
    show (!decide (V.str t.kw = V.str "kind")) = true
    rw [decide_eq_false fun z => (kw_not t).2 (by injection z)]; rfl) ?_
   refine ⟨_, rfl, o, dx, _, rfl, hi, rfl, _, rfl, _, rfl, o, dx, _, rfl, hi, rfl, _, rfl, ?_⟩
   refine ⟨_, rfl, .ref t0, t, rfl, hS0, fun x hx => ?_⟩
   have hb1 := addF_len gs (kk t.row "kind")
   have hb2 := kfE_len t.row t.ex gs
   refine ⟨_, rfl, t0, _, _, _, rfl, rfl, SqT.of ht0, atI_nat (j := 1) rfl, _, rfl, o, dx, d2, gs, x, n, t.ex, t.row, rfl, hx, asc_ex hta, hnn, hdt, hk1, by omega, fun p2 H2 l2 hk2 hK2 => ?_⟩
   refine ⟨_, rfl, _, rfl, o, dx, d2, p2, kfE t.row t.ex gs, .ref t0, n, t, rfl, hS0.kept l2, hnm, hK2, hk2, by omega, fun H3 l3 hk3 => ?_⟩
   dsimp only
   refine ⟨_, rfl, .ref t0, t, rfl, (hS0.kept l2).kept l3, fun pb ys H4 s4 hpb hys => ⟨pb, rfl, ⟨_, SqL.of hpb⟩, ?_⟩⟩
   have hk4 : KkAt H4 AA.c_KindLook o dx d2 (rowF t gs) := hk3.same s4
   have l4 := (l1.trans l2).trans (l3.trans s4.ls)
   have hyl := hys.length
   rw [List.length_map] at hyl
   have hrl := rowF_len t gs
   refine for_list (K := K) (a := pb) (xs := ys) (fun j σ' H' => LsS H4 H' /\ (∃ x6, σ' = [some (.ref o), some (.ref l), some n, some .non, some (.int 1), some (.ref t0), x6]) /\ KkAt H' AA.c_KindLook o dx d2 ((t.blocks.take j).foldl (fun gs b => kfTs b gs) (rowF t gs))) ⟨LsS.refl _, ⟨_, rfl⟩, by simpa using hk4⟩ (fun j σ' H' _ h => SqL.of (h.1.2 _ _ hpb)) ?_ ?_
   ·rintro j v σ' H5 hv ⟨l5, ⟨x6', rfl⟩, hk5⟩
    obtain ⟨pp, hpp, hPP⟩ := hys.get hv
    rw [List.getElem?_map] at hpp
    obtain ⟨bs, hbs, rfl⟩ := Option.map_eq_some_iff.mp hpp
    have hbm := List.mem_of_getElem? hbs
    obtain ⟨fb, rb, fbr⟩ := fl_take hbs
    have hPP := hPP.kept l5
    cases hPP with
    | @b lb zs _ hlb hLb =>
    obtain ⟨d1, hi5⟩ := hk5.ins
    have hq5 := foldb_len (t.blocks.take j) (rowF t gs)
    have hn5 : ((t.blocks.take j).map flats).flatten.length + (flats bs).length + rb.length = (t.blocks.map flats).flatten.length := by
     rw [fbr]
     simp only [List.length_append]
     omega
    obtain ⟨hj', ej⟩ := List.getElem?_eq_some_iff.mp hbs
    rw [List.take_succ_eq_append_getElem hj', ej, List.foldl_append]
    generalize (t.blocks.take j).foldl (fun gs b => kfTs b gs) (rowF t gs) = q5 at hk5 hq5
    have hpt := blocks_mem hbm
    have hdm := deeps_mem hm
    have hdb := deep_part hpt
    refine ⟨_, rfl, o, dx, _, rfl, hi5, rfl, _, rfl, _, rfl, _, rfl, o, dx, d2, lb, n, zs, bs, q5, rfl, hlb, hLb, by omega, (asc_part hta hpt).2, fun z hz => hg z (hmf z ?_), hk5, by omega, fun H' ls hk' => ⟨l5.trans ls, ⟨_, rfl⟩, hk'⟩⟩
    rw [flat_b, fbr]
    simp [hz]
   ·rintro σ' H5 ⟨l5, ⟨x6', rfl⟩, hk5⟩
    rw [List.take_of_length_le (by omega), <- kfT_b] at hk5
    exact ⟨l4.trans l5, ⟨_, _, _, rfl⟩, hk5⟩
  ·rintro σ' H1 ⟨l1, ⟨x4, x5, x6, rfl⟩, hk1⟩
   rw [List.take_of_length_le (by omega)] at hk1
   exact kq _ l1 hk1
theorem ok_kb0 (T : All P w K mg AA DD) : FnOk P w K mg base CX0 20 AA.Zb DD.Zb ["self", "statements", "names", "due"] (spKB AA.c_KindLook 0) := by
 have no : ∀ vs H Q E, ¬ spKB AA.c_KindLook 0 vs H Q E := fun vs H Q E h => by
  obtain ⟨o, dx, d2, l, n, xs, ts, fs, _, _, _, z, _⟩ := h
  omega
 exact T.F_Zb.ok sc_Zb (fun vs H Q E h => (no _ _ _ _ h).elim) (fun cdv A outer s H vs Q E hr h => (no _ _ _ _ h).elim)
theorem ok_kb (T : All P w K mg AA DD) : ∀ k : Nat, FnOk P w K mg base CX0 (k + 20) AA.Zb DD.Zb ["self", "statements", "names", "due"] (spKB AA.c_KindLook k)
 | 0 => ok_kb0 T
 | k + 1 => ok_kbS T k (ok_kb T k)
end
section
variable {P : Program} {w : World} {K : PySem.W.Frag} {mg : Str -> Option Value} {base : Heap} {AA : Adr} {DD : Fds}
noncomputable def spNLi (C : Addr) : Sp := fun vs H Q _ => ∃ (o dx l : Addr) (xs : List V) (ts : List Tr), vs = [.ref o, .ref l] /\ H o = some (.ins C dx []) /\ H l = some (.lst xs) /\ LAt H true xs ts /\ ∀ d1 d2 H', LsS H H' -> H' o = some (.ins C dx [("firsts", .ref d1), ("faults", .ref d2)]) -> H' d2 = some (.dT []) -> Q .non H'
noncomputable abbrev N_Zk : List Str := ["self", "tree"]
theorem sc_Zk : FnScope N_Zk ["self", "tree"] (defScope st_Zk) := ⟨rfl, rfl, rfl, by decide +kernel, rfl, by decide +kernel, by decide +kernel⟩
theorem ok_kli (T : All P w K mg AA DD) : FnOk P w K mg base CX0 2 AA.Zk DD.Zk ["self", "tree"] (spNLi AA.c_KindLook) := by
 have GA := ok_fr (base := base) T
 refine T.F_Zk.ok sc_Zk (fun vs H Q E h => ?_) (fun cdv A outer s H vs Q E hr h => ?_)
 ·obtain ⟨o, dx, l, xs, ts, rfl, _⟩ := h
  rfl
 ·obtain ⟨o, dx, l, xs, ts, rfl, ho, hl, hL, kq⟩ := h
  have nd := sc_Zk.nd
  have hr1 : Room 1 _ := hr
  refine ⟨_, (@pss_cons _ _ _ _ _ (ps_fld (pv 0) (pe_call GA hr1 rfl T.m_Zr T.k_Zr T.b_Zr .nil pass0 (@pa_cons _ _ _ _ _ (pv 1) pa_nil (by rfl))) rfl) (@pss_one _ _ _ (ps_fld (pv 0) (pe_dnewT) rfl))), ?_⟩
  refine ⟨_, rfl, l, xs, ts, rfl, hl, hL, fun d1 H1 s1 => ?_⟩
  have ho1 := s1 _ _ ho
  refine ⟨_, rfl, o, AA.c_KindLook, dx, _, rfl, ho1, T.cl_KindLook, T.na_KindLook_firsts, (by show 0 < 1000; decide), ?_⟩
  refine fun d2 hd2 => ?_
  have s3 := same_upd (o := .dT []) hd2
  refine ⟨_, rfl, o, AA.c_KindLook, dx, _, rfl, s3 _ _ upd_same, T.cl_KindLook, T.na_KindLook_faults, (by show 1 < 1000; decide), ?_⟩
  have b1 := ls_upd (ob' := .ins AA.c_KindLook dx [("firsts", .ref d1)]) ho1 (fun _ z => nomatch z) (fun _ z => nomatch z) fun _ _ z => nomatch z
  have h3 := s3 _ _ (upd_same (H := H1) (a := o) (o := .ins AA.c_KindLook dx [("firsts", .ref d1)]))
  have b2 := ls_upd (ob' := .ins AA.c_KindLook dx [("firsts", .ref d1), ("faults", .ref d2)]) h3 (fun _ z => nomatch z) (fun _ z => nomatch z) fun _ _ z => nomatch z
  refine kq d1 d2 _ (((s1.ls.trans b1).trans s3.ls).trans b2) upd_same ?_
  have hne : d2 ≠ o := fun z => by rw [z, upd_same] at hd2; cases hd2
  rw [upd_ne hne, upd_same]
theorem addF_keys {fs : List (List Key)} {c k : List Key} (h : k ∈ addF fs c) : k ∈ fs ∨ k = c := by
 unfold addF at h
 split at h
 ·exact .inl h
 ·rcases List.mem_append.mp h with h | h
  ·exact .inl h
  ·exact .inr (by simpa using h)
theorem kfE_keys {r : Nat} {e : Ex} {fs : List (List Key)} {k : List Key} (h : k ∈ kfE r e fs) : k ∈ fs ∨ ∃ r z, k = kk r z := by
 rcases kfE_cases r e fs with q | q <;> rw [q] at h
 ·exact .inl h
 ·rcases addF_keys h with h | h
  ·exact .inl h
  ·exact .inr ⟨_, _, h⟩
theorem rowF_keys {t : Tr} {fs : List (List Key)} {k : List Key} (h : k ∈ rowF t fs) : k ∈ fs ∨ ∃ r z, k = kk r z := by
 unfold rowF truT at h
 split at h
 ·exact kfE_keys h
 ·split at h
  ·exact kfE_keys h
  ·rcases addF_keys h with h | h
   ·exact kfE_keys h
   ·exact .inr ⟨_, _, h⟩
mutual
theorem kfT_keys : ∀ (t : Tr) (fs : List (List Key)) (k : List Key), k ∈ kfT t fs -> k ∈ fs ∨ ∃ r z, k = kk r z
 | .set r n e, fs, k, h => rowF_keys (t := .set r n e) (by simpa [kfT] using h)
 | .tell r e, fs, k, h => rowF_keys (t := .tell r e) (by simpa [kfT] using h)
 | .iff r e b o, fs, k, h => by
  rw [kfT] at h
  rcases kfTs_keys o _ k h with h | h
  ·rcases kfTs_keys b _ k h with h | h
   ·exact rowF_keys h
   ·exact .inr h
  ·exact .inr h
 | .whl r e b, fs, k, h => by
  rw [kfT] at h
  rcases kfTs_keys b _ k h with h | h
  ·exact rowF_keys h
  ·exact .inr h
theorem kfTs_keys : ∀ (ts : List Tr) (fs : List (List Key)) (k : List Key), k ∈ kfTs ts fs -> k ∈ fs ∨ ∃ r z, k = kk r z
 | [], fs, k, h => .inl (by simpa [kfTs] using h)
 | t :: ts, fs, k, h => by
  rw [kfTs] at h
  rcases kfTs_keys ts _ k h with h | h
  ·exact kfT_keys t fs k h
  ·exact .inr h
end
noncomputable def fK (ts : List Tr) : List (List Key) := kfTs ts []
theorem fK_kk {ts : List Tr} {k : List Key} (h : k ∈ fK ts) : ∃ r z, k = kk r z := by
 rcases kfTs_keys ts [] k h with z | q
 ·simp at z
 ·exact q
theorem fK_sh (ts : List Tr) : ∀ k ∈ fK ts, k.map isI = [true, false] := fun k hk => by
 obtain ⟨r, z, rfl⟩ := fK_kk hk
 rfl
noncomputable def KOk (ts : List Tr) : Prop := deeps ts < 6 /\ ts.length <= 20 /\ ascs ts /\ (∀ x ∈ flats ts, GoodR x) /\ 2 * (flats ts).length < 800
noncomputable def spSK : Sp := fun vs H Q _ => ∃ (l : Addr) (xs : List V) (ts : List Tr), vs = [.ref l, .int 1] /\ H l = some (.lst xs) /\ LAt H true xs ts /\ KOk ts /\ (fK ts).length < 200 /\
 ∀ p ys H', LsS H H' -> H' p = some (.lst ys) -> TupsAt H' ys ((srtK (fK ts)).map fun k => .inl 1 :: k) -> Q (.ref p) H'
noncomputable abbrev N_Zm : List Str := ["tree", "mask", "kept", "look"]
theorem sc_Zm : FnScope N_Zm ["tree", "mask"] (defScope st_Zm) := ⟨rfl, rfl, rfl, by decide +kernel, rfl, by decide +kernel, by decide +kernel⟩
theorem ok_sk (T : All P w K mg AA DD) : FnOk P w K mg base CX0 28 AA.Zm DD.Zm ["tree", "mask"] spSK := by
 have GF := ok_kt (base := base) T 6
 have GC := ok_kli (base := base) T
 have GY := ok_kb (base := base) T 6
 have GW := ok_wm (base := base) T
 refine T.F_Zm.ok sc_Zm (fun vs H Q E h => ?_) (fun cdv A outer s H vs Q E hr h => ?_)
 ·obtain ⟨l, xs, ts, rfl, _⟩ := h
  rfl
 ·obtain ⟨l, xs, ts, rfl, hl, hL, ⟨hd, h20, ha, hg, hn⟩, h64, kq⟩ := h
  have nd := sc_Zm.nd
  have hrB : Room 26 _ := hr.mono (by omega)
  have hrF : Room 17 _ := hr.mono (by omega)
  have hr3 : Room 3 _ := hr.mono (by omega)
  have hr1 : Room 1 _ := hr.mono (by omega)
  refine ⟨_, (@pss_cons _ _ _ _ _ (@ps_set _ _ 2 _ _ _ _ nd rfl (Or.inl rfl) (pe_call GF hrF rfl T.m_Zs T.k_Zs T.b_Zs .nil pass0 (@pa_cons _ _ _ _ _ (pv 0) (@pa_cons _ _ _ _ _ (pv 1) pa_nil (by rfl)) (by rfl))) (by rfl) (by first | exact .inl rfl | exact .inr rfl | assumption)) (@pss_cons _ _ _ _ _ (@ps_set _ _ 3 _ _ _ _ nd rfl (Or.inl rfl) (pe_make T.M_KindLook GC hr3 rfl T.m_KindLook T.b_Zk .nil pass0 (@pa_cons _ _ _ _ _ (pv 2) pa_nil (by rfl))) (by rfl) (by first | exact .inl rfl | exact .inr rfl | assumption)) (@pss_cons _ _ _ _ _ (@ps_expr _ _ _ _ (pe_meth (pv 3) T.cl_KindLook T.M_Zb GY hrB T.b_Zb .nil pass0 (@pa_cons _ _ _ _ _ (pv 2) (@pa_cons _ _ _ _ _ pe_dnewK (@pa_cons _ _ _ _ _ pe_non pa_nil (by rfl)) (by rfl)) (by rfl))) (by rfl)) (@pss_one _ _ _ (@ps_ret _ _ _ _ (pe_call GW hr1 rfl T.m_Zq T.k_Zq T.b_Zq .nil pass0 (@pa_cons _ _ _ _ _ (pe_fld (pv 3) rfl) pa_nil (by rfl)))))))), ?_⟩
  refine ⟨_, rfl, _, rfl, l, xs, ts, rfl, hl, hL, hd, h20, ha, fun p ys H1 s1 hp hys => ?_⟩
  dsimp only [gName]
  refine ⟨_, rfl, fun o dx ho hdx ne => ?_⟩
  have s2 : Same H1 (upd (upd H1 dx (.own o)) o (.ins AA.c_KindLook dx [])) := (same_upd (o := .own o) hdx).trans (same_upd (by rw [upd_ne (Ne.symm ne)]; exact ho))
  refine ⟨o, dx, p, ys, ts, rfl, upd_same, s2 _ _ hp, hys.kept s2.ls, fun d1 d2 H3 l3 hi3 hd2 => ⟨rfl, ?_⟩⟩
  have hp3 := l3.2 _ _ (s2 _ _ hp)
  have hL3 := (hys.kept s2.ls).kept l3
  dsimp only [gName]
  refine ⟨_, rfl, o, dx, _, rfl, hi3, rfl, _, rfl, fun g hg' => ?_⟩
  have s5 := same_upd (o := .dK []) hg'
  refine ⟨o, dx, d2, p, .ref g, ys, ts, [], rfl, s5 _ _ hp3, hL3.kept s5.ls, hd, ha, hg, ⟨⟨d1, s5 _ _ hi3⟩, s5 _ _ hd2⟩, by simpa using hn, fun H6 l6 hk6 => ?_⟩
  obtain ⟨d1', hi6⟩ := hk6.ins
  refine ⟨_, rfl, o, AA.c_KindLook, dx, _, _, rfl, hi6, T.cl_KindLook, T.na_KindLook_faults, rfl, d2, fK ts, [true, false], rfl, hk6.flt, h64, fK_sh ts, by simp, by simp, fun q zs H7 s7 hq hT => kq q zs H7 ?_ hq hT⟩
  exact ((((s1.trans s2).ls.trans l3).trans s5.ls).trans l6).trans s7.ls
noncomputable def noLs (H : Hp) (p : Addr) : Prop := (∀ xs, H p ≠ some (.lst xs)) /\ (∀ xs, H p ≠ some (.tup xs)) /\ ∀ o x, H p ≠ some (.frz o x)
theorem noLs_of {H H' : Hp} (l : LsS H H') {p : Addr} (h : H' p = none) : noLs H p := ⟨fun xs z => (by rw [l.2 _ _ z] at h; cases h), fun xs z => (by rw [l.1 _ _ z] at h; cases h), fun o x z => (by rw [l.z _ _ _ z] at h; cases h)⟩
theorem noLs_upd {H H' : Hp} (l : LsS H H') {p : Addr} {o : HO} (h : noLs H p) : LsS H (upd H' p o) := ⟨fun b xs z => (by rw [upd_ne fun e => h.2.1 xs (by rw [<- e]; exact z)]; exact l.1 _ _ z), fun b xs z => (by rw [upd_ne fun e => h.1 xs (by rw [<- e]; exact z)]; exact l.2 _ _ z), fun b o x z => by rw [upd_ne fun e => h.2.2 o x (by rw [<- e]; exact z)]; exact l.z _ _ _ z⟩
noncomputable def spPK : Sp := fun vs H Q _ => ∃ (l : Addr) (xs : List V) (ts : List Tr), vs = [.ref l] /\ H l = some (.lst xs) /\ LAt H false xs ts /\ KOk ts /\ (fK ts).length < 200 /\
 ∀ p ys H', LsS H H' -> H' p = some (.lst ys) -> TupsAt H' ys (srtK (fK ts)) -> noLs H p -> Q (.ref p) H'
theorem srtK_mem {fs : List (List Key)} {k : List Key} (h : k ∈ srtK fs) : k ∈ fs := by
 obtain ⟨j, hj, e⟩ := List.mem_map.mp h
 rw [<- e, List.getD_eq_getElem?_getD, List.getElem?_eq_getElem (srtI_lt j hj)]
 exact List.getElem_mem _
noncomputable abbrev N_Zo : List Str := ["tree"]
theorem sc_Zo : FnScope N_Zo ["tree"] (defScope st_Zo) := ⟨rfl, rfl, rfl, by decide +kernel, rfl, by decide +kernel, by decide +kernel⟩
theorem ok_pk (T : All P w K mg AA DD) : FnOk P w K mg base CX0 29 AA.Zo DD.Zo ["tree"] spPK := by
 have GF := ok_shof (base := base) T 6
 have GS := ok_sk (base := base) T
 refine T.F_Zo.ok sc_Zo (fun vs H Q E h => ?_) (fun cdv A outer s H vs Q E hr h => ?_)
 ·obtain ⟨l, xs, ts, rfl, _⟩ := h
  rfl
 ·obtain ⟨l, xs, ts, rfl, hl, hL, hok, h64, kq⟩ := h
  have nd := sc_Zo.nd
  have hrS : Room 28 _ := hr
  have hrF : Room 13 _ := hrS.mono (by omega)
  refine ⟨_, (@pss_one _ _ _ (@ps_ret _ _ _ _ (pe_comp2 (xs := ["mask", "at", "what"]) (defScope st_Zo) N_Zo [] [] rfl (by exact ⟨rfl, rfl, by decide +kernel, by decide +kernel, by decide +kernel, by decide +kernel, by decide +kernel, rfl, by decide +kernel⟩) rfl rfl (pi_list (pe_call GS hrS rfl T.m_Zm T.k_Zm T.b_Zm .nil pass0 (@pa_cons _ _ _ _ _ (pe_call GF hrF rfl T.m_Zt T.k_Zt T.b_Zt .nil pass0 (@pa_cons _ _ _ _ _ (pv 0) pa_nil (by rfl))) (@pa_cons _ _ _ _ _ pe_int pa_nil (by rfl)) (by rfl)))) (fun _ _ _ _ => (pg_tupK (K := K) (n := 3) rfl rfl (pgs_cons (pg_name (i := 0) (show (["mask", "at", "what"] : List Str).Nodup by decide +kernel) rfl (Or.inl rfl)) (pgs_cons (pg_name (i := 1) (show (["mask", "at", "what"] : List Str).Nodup by decide +kernel) rfl (Or.inl rfl)) (pgs_cons (pg_name (i := 2) (show (["mask", "at", "what"] : List Str).Nodup by decide +kernel) rfl (Or.inl rfl)) pgs_nil))))) (fun _ _ _ _ => pif_nil) (fun _ _ _ _ => (@pe_tup _ _ _ _ _ (@pa_cons _ _ _ _ _ (pv 1) (@pa_cons _ _ _ _ _ (pv 2) pa_nil (by rfl)) (by rfl))))))), ?_⟩
  refine ⟨_, rfl, l, xs, ts, rfl, hl, hL, hok.1, hok.2.1, hok.2.2.1, fun p ys H1 s1 hp hys => ?_⟩
  refine ⟨p, ys, ts, rfl, hp, hys, hok, h64, fun q zs H2 l2 hq hT => ?_⟩
  refine ⟨q, rfl, ⟨_, SqL.of hq⟩, ?_⟩
  have hzl := hT.1
  rw [List.length_map] at hzl
  have hsl : (srtK (fK ts)).length < 200 := by
   unfold srtK
   rw [List.length_map, srtI_len]
   exact h64
  refine comp2_list (K := K) (a := q) (xs := zs) (fun i ys H' => Same H2 H' /\ i <= zs.length /\ TupsAt H' ys ((srtK (fK ts)).take i)) ⟨Same.refl _, Nat.zero_le _, by simp, fun j x d h => by simp at h⟩ (fun i ys H' _ h => SqL.of (h.1 _ _ hq)) ?_ ?_
  ·rintro i x us H3 hx ⟨sm, hi, hus⟩
   have hilt := (List.getElem?_eq_some_iff.mp hx).1
   have hik : i < (srtK (fK ts)).length := by omega
   obtain ⟨t, rfl, ht⟩ := hT.2 i x (.inl 1 :: (srtK (fK ts))[i]) hx (by rw [List.getElem?_map, List.getElem?_eq_getElem hik]; rfl)
   obtain ⟨r, z, ek⟩ := fK_kk (srtK_mem (List.getElem_mem hik))
   rw [ek] at ht
   have ht3 : H3 t = some (.tup [.int 1, .int ((r : Nat) : Int), .str z]) := sm _ _ ht
   have hul := hus.1
   rw [List.length_take] at hul
   intro os hos
   obtain ⟨a, b, c, rfl⟩ : ∃ a b c, os = [a, b, c] := by
    match os, hos with
    | [a, b, c], _ => exact ⟨a, b, c, rfl⟩
   refine ⟨t, _, rfl, SqT.of ht3, rfl, _, _, rfl, _, _, rfl, _, _, rfl, rfl, ⟨[_, _, _], rfl, rfl⟩, ?_⟩
   refine tYes_ok ?_
   rw [if_pos rfl]
   refine ⟨_, rfl, _, rfl, (by show 2 <= sizeLine; decide), fun q2 hq2 => ?_⟩
   have s3 := same_upd (o := .tup [.int ((r : Nat) : Int), .str z]) hq2
   refine ⟨small1000' (by omega), sm.trans s3, by omega, ?_⟩
   rw [List.take_succ_eq_append_getElem hik, ek]
   refine ⟨by simp [hus.1], fun j y e hy he => ?_⟩
   by_cases hj : j < us.length
   ·rw [List.getElem?_append_left hj] at hy
    rw [List.getElem?_append_left (by rw [List.length_take]; omega)] at he
    obtain ⟨t', a1, a2⟩ := hus.2 j y e hy he
    exact ⟨t', a1, s3 _ _ a2⟩
   ·rw [List.getElem?_append_right (by omega)] at hy
    rw [List.getElem?_append_right (by rw [List.length_take]; omega), List.length_take, <- hul] at he
    have hj2 := (List.getElem?_eq_some_iff.mp hy).1
    have hj0 : j - us.length = 0 := by simpa using hj2
    rw [hj0] at hy he
    have y1 : V.ref q2 = y := by simpa using hy
    have e1 : kk r z = e := by simpa using he
    exact ⟨q2, y1.symm, by rw [<- e1]; exact upd_same⟩
  ·rintro us H3 ⟨sm, hi, hus⟩ q3 hq3
   have s3 := same_upd (o := .lst us) hq3
   rw [List.take_of_length_le (by omega)] at hus
   exact kq q3 us _ (((s1.ls.trans l2).trans sm.ls).trans s3.ls) upd_same ⟨hus.1, fun j x k a b => by obtain ⟨t, e, h⟩ := hus.2 j x k a b; exact ⟨t, e, s3 _ _ h⟩⟩ (noLs_of ((s1.ls.trans l2).trans sm.ls) hq3)
end
theorem modN {a : Int} {n : Nat} (h : 0 < n) : ∃ j : Nat, a % (n : Int) = (j : Int) /\ j < n := ⟨(a % (n : Int)).toNat, by
 have := Int.emod_nonneg a (show (n : Int) ≠ 0 by omega)
 omega, by
 have := Int.emod_nonneg a (show (n : Int) ≠ 0 by omega)
 have := Int.emod_lt_of_pos a (show (0 : Int) < (n : Int) by omega)
 omega⟩
section
variable {P : Program} {w : World} {K : PySem.W.Frag} {mg : Str -> Option Value} {base : Heap} {AA : Adr} {DD : Fds}
noncomputable def mixI (c k : Int) : Int := ((c + 7919 * k + 1) * 48271 % 2147483647) * ((c + 7919 * k + 1) * 48271 % 2147483647 / 1009 + 69621) % 2147483647
theorem mixI_nn (c k : Int) : 0 <= mixI c k := Int.emod_nonneg _ (by decide)
noncomputable def spMixed : Sp := fun vs H Q _ => ∃ c k : Int, vs = [.int c, .int k] /\ Q (.int (mixI c k)) H
noncomputable abbrev N_Zw : List Str := ["_law_cell", "_law_k", "_law_number"]
theorem sc_Zw : FnScope N_Zw ["_law_cell", "_law_k"] (defScope st_Zw) := ⟨rfl, rfl, rfl, by decide +kernel, rfl, by decide +kernel, by decide +kernel⟩
theorem ok_mixed (T : All P w K mg AA DD) : FnOk P w K mg base CX0 1 AA.Zw DD.Zw ["_law_cell", "_law_k"] spMixed := by
 refine T.F_Zw.ok sc_Zw (fun vs H Q E h => ?_) (fun cdv A outer s H vs Q E hr h => ?_)
 ·obtain ⟨c, k, rfl, _⟩ := h
  rfl
 ·obtain ⟨c, j, rfl, k⟩ := h
  have nd := sc_Zw.nd
  unfold mixI at k
  refine ⟨_, (@pss_cons _ _ _ _ _ (@ps_set _ _ 2 _ _ _ _ nd rfl (Or.inl rfl) (@pe_op _ _ _ _ _ _ _ _ op_mod (@pe_op _ _ _ _ _ _ _ _ op_mul (@pe_op _ _ _ _ _ _ _ _ op_add (@pe_op _ _ _ _ _ _ _ _ op_add (pv 0) (@pe_op _ _ _ _ _ _ _ _ op_mul pe_int (pv 1))) pe_int) pe_int) pe_int) (by rfl) (by first | exact .inl rfl | exact .inr rfl | assumption)) (@pss_one _ _ _ (@ps_ret _ _ _ _ (@pe_op _ _ _ _ _ _ _ _ op_mod (@pe_op _ _ _ _ _ _ _ _ op_mul (pv 2) (@pe_op _ _ _ _ _ _ _ _ op_add (@pe_op _ _ _ _ _ _ _ _ op_fdiv (pv 2) pe_int) pe_int)) pe_int)))), ?_⟩
  refine ⟨_, rfl, _, rfl, _, _, rfl, rfl, .inl ⟨by decide, by decide⟩, _, _, rfl, rfl, _, _, rfl, rfl, _, _, rfl, rfl, .inr ⟨by decide, by decide⟩, _, _, rfl, rfl, (by show (0 : Int) < 2147483647; decide), ?_⟩
  try dsimp only [gName]
  have b0 := Int.emod_nonneg ((c + 7919 * j + 1) * 48271) (show (2147483647 : Int) ≠ 0 by decide)
  have b1 := Int.emod_lt_of_pos ((c + 7919 * j + 1) * 48271) (show (0 : Int) < 2147483647 by decide)
  generalize (c + 7919 * j + 1) * 48271 % 2147483647 = y at b0 b1 k ⊢
  exact ⟨_, rfl, _, rfl, _, _, rfl, rfl, ⟨by decide, by decide⟩, _, _, rfl, rfl, _, _, rfl, rfl, .inl ⟨by omega, by omega⟩, _, _, rfl, rfl, (by show (0 : Int) < 2147483647; decide), k⟩
noncomputable abbrev kin2 : List Str := ["num", "truth"]
noncomputable abbrev yn2 : List Str := ["yes", "no"]
noncomputable abbrev op3 : List Str := ["+", "-", "*"]
noncomputable abbrev op5 : List Str := ["less", "same", "and", "or", "not"]
noncomputable abbrev num5 : List Str := ["+", "-", "*", "less", "same"]
noncomputable def wantE (x : Int) (wn : Str) : Str := if x % 8 = 7 then kin2.getD (x / 8 % 2).toNat "" else wn
noncomputable def wordE (x : Int) (wn : Str) : Str := if wn = "num" then op3.getD (x / 8 % 3).toNat "" else op5.getD (x / 8 % 5).toNat ""
noncomputable def partE (w : Str) : Str := if w ∈ num5 then "num" else "truth"
noncomputable def leafK (x : Int) (wn : Str) : Ex := if wn = "num" then .num ((x / 8) ^ Int.toNat 2 % 10 ^ Int.toNat 18) else .truth (yn2.getD (x / 8 % 2).toNat "")
noncomputable def exK : Nat -> Int -> Str -> Ex
 | 0, x, wn => leafK x (wantE x wn)
 | d + 1, x, wn => if x % 8 < 2 then leafK x (wantE x wn) else if wordE x (wantE x wn) = "not" then .not (exK d (mixI x 1) (partE (wordE x (wantE x wn)))) else .op (wordE x (wantE x wn)) (exK d (mixI x 1) (partE (wordE x (wantE x wn)))) (exK d (mixI x 2) (partE (wordE x (wantE x wn))))
theorem or_leaf {c : Bool} {p q Z : Prop} (h : c = true ∨ (c = false /\ (p -> Z))) (hp : p) : if c = true then (if true = true then p else q) else Z := by
 rcases h with h | ⟨h, k⟩
 ·rw [h, if_pos rfl, if_pos rfl]; exact hp
 ·rw [h, if_neg Bool.false_ne_true]; exact k hp
theorem yn_get {j : Nat} (h : j < 2) : (yn2.map V.str)[j]? = some (.str (yn2.getD j "")) := by
 rcases (show j = 0 ∨ j = 1 by omega) with rfl | rfl <;> rfl
theorem op3_get {j : Nat} (h : j < 3) : (op3.map V.str)[j]? = some (.str (op3.getD j "")) := by
 rcases (show j = 0 ∨ j = 1 ∨ j = 2 by omega) with rfl | rfl | rfl <;> rfl
theorem op5_get {j : Nat} (h : j < 5) : (op5.map V.str)[j]? = some (.str (op5.getD j "")) := by
 rcases (show j = 0 ∨ j = 1 ∨ j = 2 ∨ j = 3 ∨ j = 4 by omega) with rfl | rfl | rfl | rfl | rfl <;> rfl
theorem mixI_lt (c k : Int) : mixI c k < 2 ^ 64 := by
 have := Int.emod_lt_of_pos ((((c + 7919 * k + 1) * 48271 % 2147483647) * ((c + 7919 * k + 1) * 48271 % 2147483647 / 1009 + 69621))) (show (0 : Int) < 2147483647 by decide)
 unfold mixI
 omega
noncomputable def spXK (k : Nat) : Sp := fun vs H Q _ => ∃ (x : Int) (wn : Str) (d : Nat), vs = [.int x, .str wn, .int ((d : Nat) : Int)] /\ 0 <= x /\ x < 2 ^ 64 /\ d < k /\ ∀ v H', Same H H' -> ExAt H' v (exK d x wn) -> Q v H'
noncomputable abbrev N_Zba : List Str := ["_law_number", "_law_wanted", "_law_deep", "_law_form", "_law_more", "_law_word", "_law_part", "_law_left"]
theorem sc_Zba : FnScope N_Zba ["_law_number", "_law_wanted", "_law_deep"] (defScope st_Zba) := ⟨rfl, rfl, rfl, by decide +kernel, rfl, by decide +kernel, by decide +kernel⟩
theorem ok_xkS (T : All P w K mg AA DD) (k : Nat) (GE : FnOk P w K mg base CX0 (k + 1) AA.Zba DD.Zba ["_law_number", "_law_wanted", "_law_deep"] (spXK k)) :
  FnOk P w K mg base CX0 (k + 1 + 1) AA.Zba DD.Zba ["_law_number", "_law_wanted", "_law_deep"] (spXK (k + 1)) := by
 have GX := ok_mixed (base := base) T
 refine T.F_Zba.ok sc_Zba (fun vs H Q E h => ?_) (fun cdv A outer s H vs Q E hr h => ?_)
 ·obtain ⟨x, wn, d, rfl, _⟩ := h
  rfl
 ·obtain ⟨x, wn, d, rfl, hx0, hx1, hd, kq⟩ := h
  have nd := sc_Zba.nd
  have hrE : Room (k + 1) _ := hr
  have hr1 : Room 1 _ := hrE.mono (by omega)
  refine ⟨_, (@pss_cons _ _ _ _ _ (@ps_set _ _ 3 _ _ _ _ nd rfl (Or.inl rfl) (@pe_op _ _ _ _ _ _ _ _ op_mod (pv 0) pe_int) (by rfl) (by first | exact .inl rfl | exact .inr rfl | assumption)) (@pss_cons _ _ _ _ _ (@ps_set _ _ 4 _ _ _ _ nd rfl (Or.inl rfl) (@pe_op _ _ _ _ _ _ _ _ op_fdiv (pv 0) pe_int) (by rfl) (by first | exact .inl rfl | exact .inr rfl | assumption)) (@pss_cons _ _ _ _ _ (@ps_if _ _ _ _ _ _ _ _ (@pt_cmpR _ _ _ _ _ _ _ _ op_eq (pv 3) pe_int (nomark _)) (@pss_one _ _ _ (@ps_set _ _ 1 _ _ _ _ nd rfl (Or.inl rfl) (@pe_ix _ _ _ _ _ _ _ (ix_listK (K := K) rfl) (@pe_lst _ _ _ _ (@pa_cons _ _ _ _ _ pe_str (@pa_cons _ _ _ _ _ pe_str pa_nil (by rfl)) (by rfl))) (@pe_op _ _ _ _ _ _ _ _ op_mod (pv 4) pe_int) (fun _ _ => rfl)) (by rfl) (by first | exact .inl rfl | exact .inr rfl | assumption))) pss_nil) (@pss_cons _ _ _ _ _ (@ps_if _ _ _ _ _ _ _ _ (PW.pt (pw_or (@pt_cmpR _ _ _ _ _ _ _ _ op_eq (pv 2) pe_int (nomark _)) (pw_or1 (@pt_cmpR _ _ _ _ _ _ _ _ op_lt (pv 3) pe_int (nomark _))))) (@pss_cons _ _ _ _ _ (@ps_if _ _ _ _ _ _ _ _ (@pt_cmpR _ _ _ _ _ _ _ _ op_eq (pv 1) pe_str (nomark _)) (@pss_one _ _ _ (@ps_ret _ _ _ _ (@pe_tup _ _ _ _ _ (@pa_cons _ _ _ _ _ pe_str (@pa_cons _ _ _ _ _ (@pe_op _ _ _ _ _ _ _ _ op_mod (@pe_op _ _ _ _ _ _ _ _ op_pow (pv 4) pe_int) (@pe_op _ _ _ _ _ _ _ _ op_pow pe_int pe_int)) pa_nil (by rfl)) (by rfl))))) pss_nil) (@pss_one _ _ _ (@ps_ret _ _ _ _ (@pe_tup _ _ _ _ _ (@pa_cons _ _ _ _ _ pe_str (@pa_cons _ _ _ _ _ (@pe_ix _ _ _ _ _ _ _ (ix_listK (K := K) rfl) (@pe_lst _ _ _ _ (@pa_cons _ _ _ _ _ pe_str (@pa_cons _ _ _ _ _ pe_str pa_nil (by rfl)) (by rfl))) (@pe_op _ _ _ _ _ _ _ _ op_mod (pv 4) pe_int) (fun _ _ => rfl)) pa_nil (by rfl)) (by rfl)))))) pss_nil) (@pss_cons _ _ _ _ _ (@ps_if _ _ _ _ _ _ _ _ (@pt_cmpR _ _ _ _ _ _ _ _ op_eq (pv 1) pe_str (nomark _)) (@pss_one _ _ _ (@ps_set _ _ 5 _ _ _ _ nd rfl (Or.inl rfl) (@pe_ix _ _ _ _ _ _ _ (ix_listK (K := K) rfl) (@pe_lst _ _ _ _ (@pa_cons _ _ _ _ _ pe_str (@pa_cons _ _ _ _ _ pe_str (@pa_cons _ _ _ _ _ pe_str pa_nil (by rfl)) (by rfl)) (by rfl))) (@pe_op _ _ _ _ _ _ _ _ op_mod (pv 4) pe_int) (fun _ _ => rfl)) (by rfl) (by first | exact .inl rfl | exact .inr rfl | assumption))) (@pss_one _ _ _ (@ps_set _ _ 5 _ _ _ _ nd rfl (Or.inl rfl) (@pe_ix _ _ _ _ _ _ _ (ix_listK (K := K) rfl) (@pe_lst _ _ _ _ (@pa_cons _ _ _ _ _ pe_str (@pa_cons _ _ _ _ _ pe_str (@pa_cons _ _ _ _ _ pe_str (@pa_cons _ _ _ _ _ pe_str (@pa_cons _ _ _ _ _ pe_str pa_nil (by rfl)) (by rfl)) (by rfl)) (by rfl)) (by rfl))) (@pe_op _ _ _ _ _ _ _ _ op_mod (pv 4) pe_int) (fun _ _ => rfl)) (by rfl) (by first | exact .inl rfl | exact .inr rfl | assumption)))) (@pss_cons _ _ _ _ _ (@ps_set _ _ 6 _ _ _ _ nd rfl (Or.inl rfl) pe_str (by rfl) (by first | exact .inl rfl | exact .inr rfl | assumption)) (@pss_cons _ _ _ _ _ (@ps_if _ _ _ _ _ _ _ _ (@pt_cmpR _ _ _ _ _ _ _ _ (op_in_seqK (K := K) rfl) (pv 5) (@pe_tup _ _ _ _ _ (@pa_cons _ _ _ _ _ pe_str (@pa_cons _ _ _ _ _ pe_str (@pa_cons _ _ _ _ _ pe_str (@pa_cons _ _ _ _ _ pe_str (@pa_cons _ _ _ _ _ pe_str pa_nil (by rfl)) (by rfl)) (by rfl)) (by rfl)) (by rfl))) rfl) (@pss_one _ _ _ (@ps_set _ _ 6 _ _ _ _ nd rfl (Or.inl rfl) pe_str (by rfl) (by first | exact .inl rfl | exact .inr rfl | assumption))) pss_nil) (@pss_cons _ _ _ _ _ (@ps_set _ _ 7 _ _ _ _ nd rfl (Or.inl rfl) (pe_call GE hrE rfl T.m_Zba T.k_Zba T.b_Zba .nil pass0 (@pa_cons _ _ _ _ _ (pe_call GX hr1 rfl T.m_Zw T.k_Zw T.b_Zw .nil pass0 (@pa_cons _ _ _ _ _ (pv 0) (@pa_cons _ _ _ _ _ pe_int pa_nil (by rfl)) (by rfl))) (@pa_cons _ _ _ _ _ (pv 6) (@pa_cons _ _ _ _ _ (@pe_op _ _ _ _ _ _ _ _ op_sub (pv 2) pe_int) pa_nil (by rfl)) (by rfl)) (by rfl))) (by rfl) (by first | exact .inl rfl | exact .inr rfl | assumption)) (@pss_cons _ _ _ _ _ (@ps_if _ _ _ _ _ _ _ _ (@pt_cmpR _ _ _ _ _ _ _ _ op_eq (pv 5) pe_str (nomark _)) (@pss_one _ _ _ (@ps_ret _ _ _ _ (@pe_tup _ _ _ _ _ (@pa_cons _ _ _ _ _ pe_str (@pa_cons _ _ _ _ _ (pv 7) pa_nil (by rfl)) (by rfl))))) pss_nil) (@pss_one _ _ _ (@ps_ret _ _ _ _ (@pe_tup _ _ _ _ _ (@pa_cons _ _ _ _ _ (pv 5) (@pa_cons _ _ _ _ _ (pv 7) (@pa_cons _ _ _ _ _ (pe_call GE hrE rfl T.m_Zba T.k_Zba T.b_Zba .nil pass0 (@pa_cons _ _ _ _ _ (pe_call GX hr1 rfl T.m_Zw T.k_Zw T.b_Zw .nil pass0 (@pa_cons _ _ _ _ _ (pv 0) (@pa_cons _ _ _ _ _ pe_int pa_nil (by rfl)) (by rfl))) (@pa_cons _ _ _ _ _ (pv 6) (@pa_cons _ _ _ _ _ (@pe_op _ _ _ _ _ _ _ _ op_sub (pv 2) pe_int) pa_nil (by rfl)) (by rfl)) (by rfl))) pa_nil (by rfl)) (by rfl)) (by rfl)))))))))))))), ?_⟩
  refine ⟨_, rfl, _, _, rfl, rfl, (by show (0 : Int) < 8; decide), ?_⟩
  dsimp only [gName]
  refine ⟨_, rfl, _, _, rfl, rfl, ⟨by decide, by decide⟩, ?_⟩
  dsimp only [gName]
  refine cut_if (fun σ' H' => Same H H' /\ ∃ x5 x6 x7, σ' = [some (.int x), some (.str (wantE x wn)), some (.int ((d : Nat) : Int)), some (.int (x % 8)), some (.int (x / 8)), x5, x6, x7]) (fun R hR => ?_) ?_
  ·refine ⟨_, rfl, rfl, _, rfl, ?_⟩
   by_cases h7 : x % 8 = 7
   ·refine iteTb (decide_eq_true (by rw [h7])) ?_
    obtain ⟨j, ej, hj⟩ := modN (a := x / 8) (n := 2) (by decide)
    have ej : x / 8 % 2 = ((j : Nat) : Int) := ej
    refine ⟨(by show 2 <= sizeLine; decide), fun q hq => ?_⟩
    refine ⟨_, rfl, _, _, rfl, rfl, (by show (0 : Int) < 2; decide), q, _, _, .str (kin2.getD j ""), rfl, rfl, SqL.of upd_same, ?_, ?_⟩
    ·rw [ej]
     refine atI_nat ?_
     rcases (show j = 0 ∨ j = 1 by omega) with rfl | rfl <;> rfl
    ·refine hR _ _ ⟨same_upd hq, none, none, none, ?_⟩
     unfold wantE
     rw [if_pos h7, ej, Int.toNat_natCast]; rfl
   ·refine iteFb (decide_eq_false fun z => h7 (by injection z)) ?_
    refine hR _ _ ⟨Same.refl _, none, none, none, ?_⟩
    unfold wantE
    rw [if_neg h7]; rfl
  rintro σ' H1 ⟨s1, x5, x6, x7, rfl⟩
  by_cases hc : d = 0 ∨ x % 8 < 2
  ·have ek : exK d x wn = leafK x (wantE x wn) := by
    cases d with
    | zero => rfl
    | succ d =>
     have h2 : x % 8 < 2 := by rcases hc with h | h; · omega
                               ·exact h
     rw [exK, if_pos h2]
   rw [ek] at kq
   unfold leafK at kq
   refine ⟨_, rfl, rfl, _, rfl, or_leaf ?_ ?_⟩
   ·by_cases h0 : d = 0
    ·subst h0; exact .inl (decide_eq_true rfl)
    ·refine .inr ⟨decide_eq_false fun z => h0 (by injection z with z; omega), fun leaf => ⟨_, rfl, _, _, rfl, rfl, _, rfl, iteTb (decide_eq_true (hc.resolve_left h0)) leaf⟩⟩
   refine ⟨_, rfl, rfl, _, rfl, ?_⟩
   by_cases hw : wantE x wn = "num"
   ·rw [if_pos hw] at kq
    refine iteTb (decide_eq_true (by rw [hw])) ?_
    refine ⟨_, rfl, _, _, rfl, rfl, ⟨by decide, by decide, by omega⟩, _, _, rfl, rfl, ⟨by decide, by decide, by decide⟩, _, _, rfl, rfl, (by show (0 : Int) < 10 ^ (18 : Int).toNat; decide), (by show 2 <= sizeLine; decide), fun p hp => ?_⟩
    exact kq _ _ (s1.trans (same_upd hp)) (.num upd_same)
   ·rw [if_neg hw] at kq
    refine iteFb (decide_eq_false fun z => hw (by injection z)) ?_
    obtain ⟨j, ej, hj⟩ := modN (a := x / 8) (n := 2) (by decide)
    have ej : x / 8 % 2 = ((j : Nat) : Int) := ej
    rw [ej, Int.toNat_natCast] at kq
    refine ⟨(by show 2 <= sizeLine; decide), fun q hq => ?_⟩
    refine ⟨_, rfl, _, _, rfl, rfl, (by show (0 : Int) < 2; decide), q, _, _, .str (yn2.getD j ""), rfl, rfl, SqL.of upd_same, ?_, (by show 2 <= sizeLine; decide), fun p hp => ?_⟩
    ·rw [ej]; exact atI_nat (yn_get hj)
    ·exact kq _ _ ((s1.trans (same_upd hq)).trans (same_upd hp)) (.truth upd_same)
  ·obtain ⟨d, rfl⟩ : ∃ d', d = d' + 1 := ⟨d - 1, by omega⟩
   have h2 : ¬ x % 8 < 2 := fun z => hc (.inr z)
   rw [exK, if_neg h2] at kq
   refine ⟨_, rfl, rfl, _, rfl, ?_⟩
   refine iteFb (decide_eq_false fun z => by injection z with z; omega) ?_
   refine ⟨_, rfl, _, _, rfl, rfl, _, rfl, iteFb (decide_eq_false h2) ?_⟩
   dsimp only [tNext]
   generalize hwd : wordE x (wantE x wn) = wd at kq
   refine cut_if (fun σ' H' => Same H H' /\ ∃ x6 x7, σ' = [some (.int x), some (.str (wantE x wn)), some (.int ((d + 1 : Nat) : Int)), some (.int (x % 8)), some (.int (x / 8)), some (.str wd), x6, x7]) (fun R hR => ?_) ?_
   ·refine ⟨_, rfl, rfl, _, rfl, ?_⟩
    by_cases hw : wantE x wn = "num"
    ·refine iteTb (decide_eq_true (by rw [hw])) ?_
     obtain ⟨j, ej, hj⟩ := modN (a := x / 8) (n := 3) (by decide)
     have ej : x / 8 % 3 = ((j : Nat) : Int) := ej
     refine ⟨(by show 3 <= sizeLine; decide), fun q hq => ?_⟩
     refine ⟨_, rfl, _, _, rfl, rfl, (by show (0 : Int) < 3; decide), q, _, _, .str (op3.getD j ""), rfl, rfl, SqL.of upd_same, ?_, ?_⟩
     ·rw [ej]; exact atI_nat (op3_get hj)
     ·refine hR _ _ ⟨s1.trans (same_upd hq), x6, x7, ?_⟩
      rw [<- hwd]
      unfold wordE
      rw [if_pos hw, ej, Int.toNat_natCast]; rfl
    ·refine iteFb (decide_eq_false fun z => hw (by injection z)) ?_
     obtain ⟨j, ej, hj⟩ := modN (a := x / 8) (n := 5) (by decide)
     have ej : x / 8 % 5 = ((j : Nat) : Int) := ej
     refine ⟨(by show 5 <= sizeLine; decide), fun q hq => ?_⟩
     refine ⟨_, rfl, _, _, rfl, rfl, (by show (0 : Int) < 5; decide), q, _, _, .str (op5.getD j ""), rfl, rfl, SqL.of upd_same, ?_, ?_⟩
     ·rw [ej]; exact atI_nat (op5_get hj)
     ·refine hR _ _ ⟨s1.trans (same_upd hq), x6, x7, ?_⟩
      rw [<- hwd]
      unfold wordE
      rw [if_neg hw, ej, Int.toNat_natCast]; rfl
   rintro σ' H2 ⟨s2, x6, x7, rfl⟩
   refine seq_c ?_
   refine cut_if (fun σ' H' => Same H H' /\ ∃ x7, σ' = [some (.int x), some (.str (wantE x wn)), some (.int ((d + 1 : Nat) : Int)), some (.int (x % 8)), some (.int (x / 8)), some (.str wd), some (.str (partE wd)), x7]) (fun R hR => ?_) ?_
   ·refine ⟨_, rfl, (by show 5 <= sizeLine; decide), fun pt hpt => ⟨pt, num5.map V.str, rfl, .inr (SqT.of upd_same), rfl, rfl, _, rfl, ?_⟩⟩
    by_cases hm : wd ∈ num5
    ·refine iteTb (in_strs (decide_eq_true hm)) ?_
     refine hR _ _ ⟨s2.trans (same_upd hpt), x7, ?_⟩
     unfold partE
     rw [if_pos hm]; rfl
    ·refine iteFb (in_strs (decide_eq_false hm)) ?_
     refine hR _ _ ⟨s2.trans (same_upd hpt), x7, ?_⟩
     unfold partE
     rw [if_neg hm]; rfl
   rintro σ' H3 ⟨s3, x7, rfl⟩
   have ed : (((d + 1 : Nat) : Int) - 1) = ((d : Nat) : Int) := by omega
   refine ⟨_, rfl, x, 1, rfl, _, rfl, _, rfl, _, _, rfl, rfl, mixI x 1, partE wd, d, ?_, mixI_nn _ _, mixI_lt _ _, by omega, fun v1 H4 s4 hE1 => ?_⟩
   ·show [V.int (mixI x 1), V.str (partE wd), V.int (((d + 1 : Nat) : Int) - 1)] = _
    rw [ed]
   dsimp only [gName]
   refine ⟨_, rfl, rfl, _, rfl, ?_⟩
   by_cases hnot : wd = "not"
   ·refine iteTb (decide_eq_true (by rw [hnot])) ?_
    rw [if_pos hnot] at kq
    refine ⟨_, rfl, (by show 2 <= sizeLine; decide), fun p hp => ?_⟩
    exact kq _ _ ((s3.trans s4).trans (same_upd hp)) (.not upd_same (hE1.kept (same_upd hp).ls.1))
   ·refine iteFb (decide_eq_false fun z => hnot (by injection z)) ?_
    rw [if_neg hnot] at kq
    refine ⟨_, rfl, _, rfl, _, rfl, x, 2, rfl, _, rfl, _, rfl, _, _, rfl, rfl, mixI x 2, partE wd, d, ?_, mixI_nn _ _, mixI_lt _ _, by omega, fun v2 H5 s5 hE2 => ⟨(by show 3 <= sizeLine; decide), fun p hp => ?_⟩⟩
    ·show [V.int (mixI x 2), V.str (partE wd), V.int (((d + 1 : Nat) : Int) - 1)] = _
     rw [ed]
    ·have sp := same_upd (o := .tup [.str wd, v1, v2]) hp
     exact kq _ _ (((s3.trans s4).trans s5).trans sp) (.op upd_same ((hE1.kept s5.ls.1).kept sp.ls.1) (hE2.kept sp.ls.1))
theorem ok_xk0 (T : All P w K mg AA DD) : FnOk P w K mg base CX0 1 AA.Zba DD.Zba ["_law_number", "_law_wanted", "_law_deep"] (spXK 0) := by
 have no : ∀ vs H Q E, ¬ spXK 0 vs H Q E := fun vs H Q E h => by
  obtain ⟨x, wn, d, _, _, _, z, _⟩ := h
  omega
 exact T.F_Zba.ok sc_Zba (fun vs H Q E h => (no _ _ _ _ h).elim) (fun cdv A outer s H vs Q E hr h => (no _ _ _ _ h).elim)
theorem ok_xk (T : All P w K mg AA DD) : ∀ k : Nat, FnOk P w K mg base CX0 (k + 1) AA.Zba DD.Zba ["_law_number", "_law_wanted", "_law_deep"] (spXK k)
 | 0 => ok_xk0 T
 | k + 1 => ok_xkS T k (ok_xk T k)
end
section
variable {P : Program} {w : World} {K : PySem.W.Frag} {mg : Str -> Option Value} {base : Heap} {AA : Adr} {DD : Fds}
theorem mk_num : ∀ p ∈ mk10, p.2 = if p.1 = "num" ∨ p.1 ∈ op3 then "num" else "truth" := by decide +kernel
theorem ak_num : ∀ p ∈ ak8, p.2 = partE p.1 := by decide +kernel
theorem kd_lk {H : Hp} {v : V} {e : Ex} (h : ExAt H v e) (hp : e.plain) (hn : noN e) : kdE e = if hdE e = "num" ∨ hdE e ∈ op3 then "num" else "truth" := by
 obtain ⟨_, _, _, _, _, _, _, _, lm, _⟩ := kd_head h hp hn
 exact mk_num _ (PySem.mem_of_lookup lm)
noncomputable def spLK : Sp := fun vs H Q _ => ∃ (v : V) (e : Ex), vs = [v] /\ ExAt H v e /\ e.plain /\ noN e /\ ∀ H', Same H H' -> Q (.str (kdE e)) H'
noncomputable abbrev N_Zbb : List Str := ["_law_e"]
theorem sc_Zbb : FnScope N_Zbb ["_law_e"] (defScope st_Zbb) := ⟨rfl, rfl, rfl, by decide +kernel, rfl, by decide +kernel, by decide +kernel⟩
theorem ok_lk (T : All P w K mg AA DD) : FnOk P w K mg base CX0 1 AA.Zbb DD.Zbb ["_law_e"] spLK := by
 refine T.F_Zbb.ok sc_Zbb (fun vs H Q E h => ?_) (fun cdv A outer s H vs Q E hr h => ?_)
 ·obtain ⟨v, e, rfl, _⟩ := h
  rfl
 ·obtain ⟨v, e, rfl, hE, hp, hn, kq⟩ := h
  have nd := sc_Zbb.nd
  refine ⟨_, (@pss_cons _ _ _ _ _ (@ps_if _ _ _ _ _ _ _ _ (PW.pt (pw_or (@pt_cmpR _ _ _ _ _ _ _ _ op_eq (@pe_ix _ _ _ _ _ _ _ (ix_tupK (K := K) rfl) (pv 0) pe_int (fun _ _ => rfl)) pe_str (nomark _)) (pw_or1 (@pt_cmpR _ _ _ _ _ _ _ _ (op_in_seqK (K := K) rfl) (@pe_ix _ _ _ _ _ _ _ (ix_tupK (K := K) rfl) (pv 0) pe_int (fun _ _ => rfl)) (@pe_tup _ _ _ _ _ (@pa_cons _ _ _ _ _ pe_str (@pa_cons _ _ _ _ _ pe_str (@pa_cons _ _ _ _ _ pe_str pa_nil (by rfl)) (by rfl)) (by rfl))) rfl)))) (@pss_one _ _ _ (@ps_ret _ _ _ _ pe_str)) pss_nil) (@pss_one _ _ _ (@ps_ret _ _ _ _ pe_str))), ?_⟩
  rw [kd_lk hE hp hn] at kq
  obtain ⟨t, ys, rfl, ht, _⟩ := kd_head hE hp hn
  refine ⟨_, rfl, t, _, _, _, rfl, rfl, SqT.of ht, atI_nat (j := 0) rfl, rfl, _, rfl, ?_⟩
  by_cases h1 : hdE e = "num"
  ·refine iteTb (decide_eq_true (by rw [h1])) ?_
   rw [if_pos (.inl h1)] at kq
   exact iteT (kq _ (Same.refl _))
  ·refine iteFb (decide_eq_false fun z => h1 (by injection z)) ?_
   refine ⟨_, rfl, t, _, _, _, rfl, rfl, SqT.of ht, atI_nat (j := 0) rfl, (by show 3 <= sizeLine; decide), fun pt hpt => ⟨pt, op3.map V.str, rfl, .inr (SqT.of upd_same), rfl, rfl, _, rfl, ?_⟩⟩
   by_cases h2 : hdE e ∈ op3
   ·refine iteTb (in_strs (decide_eq_true h2)) ?_
    rw [if_pos (.inr h2)] at kq
    exact kq _ (same_upd hpt)
   ·refine iteFb (in_strs (decide_eq_false h2)) ?_
    rw [if_neg (fun z => z.elim h1 h2)] at kq
    exact kq _ (same_upd hpt)
noncomputable def wrE : Ex -> Bool
 | .not e => !decide (kdE e = askE (.not e)) || wrE e
 | .op w a b => (!decide (kdE a = askE (.op w a b)) || wrE a) || (!decide (kdE b = askE (.op w a b)) || wrE b)
 | _ => false
noncomputable def wrK (due : Str) (c : Ex) : Bool := !decide (kdE c = due) || wrE c
theorem wrE_kids (e : Ex) : wrE e = e.kids.any (wrK (askE e)) := by
 cases e <;> simp [wrE, Ex.kids, wrK]
theorem kfE_wr (r : Nat) : ∀ (e : Ex) (fs : List (List Key)), kfE r e fs = if wrE e = true then addF fs (kk r "kind") else fs
 | .not e, fs => by
  rw [kfE, kfE_wr r e fs]
  have ea : askE (.not e) = "truth" := by show (ak8.lookup ("not" : Str)).getD "truth" = "truth"; rw [ak_not]; rfl
  unfold askF
  rw [wrE, ea]
  by_cases h1 : kdE e = "truth" <;> by_cases h2 : wrE e = true <;> simp [h1, h2, addF_in (addF_has _ _)]
 | .op w a b, fs => by
  rw [kfE, kfE_wr r a fs, wrE]
  unfold askF
  rw [kfE_wr r b]
  by_cases h1 : kdE a = askE (.op w a b) <;> by_cases h2 : wrE a = true <;> by_cases h3 : kdE b = askE (.op w a b) <;> by_cases h4 : wrE b = true <;> simp [h1, h2, h3, h4, addF_in (addF_has _ _)]
 | .num _, fs => rfl
 | .truth _, fs => rfl
 | .name _, fs => rfl
 | .of _ _, fs => rfl
 | .many _ _ _, fs => rfl
theorem kd_kids {H : Hp} {v : V} {e : Ex} (h : ExAt H v e) (hp : e.plain) (hn : noN e) : ∃ (t : Addr) (ys : List V), v = .ref t /\ H t = some (.tup (.str (hdE e) :: ys)) /\ (((hdE e = "num" ∨ hdE e = "truth") /\ e.kids = []) ∨ (hdE e ≠ "num" /\ hdE e ≠ "truth" /\ ExsAt H ys e.kids /\ askE e = partE (hdE e))) := by
 have hops : ∀ z ∈ ops7, z ≠ "num" /\ z ≠ "truth" := by decide +kernel
 have hx := kd_head h hp hn
 cases h with
 | num h => exact ⟨_, _, rfl, h, .inl ⟨.inl rfl, rfl⟩⟩
 | truth h => exact ⟨_, _, rfl, h, .inl ⟨.inr rfl, rfl⟩⟩
 | name h => exact hn.elim
 | not h a =>
  obtain ⟨_, _, _, _, _, _, _, _, _, la⟩ := hx
  exact ⟨_, _, rfl, h, .inr ⟨by show ("not" : Str) ≠ "num"; decide, by show ("not" : Str) ≠ "truth"; decide, .cons a .nil, ak_num _ (PySem.mem_of_lookup (la (by simp [Ex.kids])))⟩⟩
 | op h a b =>
  obtain ⟨_, _, _, _, _, _, _, _, _, la⟩ := hx
  obtain ⟨z1, z2⟩ := hops _ hp.1
  exact ⟨_, _, rfl, h, .inr ⟨z1, z2, .cons a (.cons b .nil), ak_num _ (PySem.mem_of_lookup (la (by simp [Ex.kids])))⟩⟩
 | of h a => exact hp.elim
 | many h l a => exact hp.elim
noncomputable def spWr (k : Nat) : Sp := fun vs H Q _ => ∃ (v : V) (e : Ex), vs = [v] /\ ExAt H v e /\ e.plain /\ noN e /\ e.deep < k /\ ∀ H', Same H H' -> Q (.bl (wrE e)) H'
noncomputable abbrev N_Zx : List Str := ["_law_e", "_law_due_here", "_law_part"]
theorem sc_Zx : FnScope N_Zx ["_law_e"] (defScope st_Zx) := ⟨rfl, rfl, rfl, by decide +kernel, rfl, by decide +kernel, by decide +kernel⟩
theorem ok_wrS (T : All P w K mg AA DD) (k : Nat) (GWR : FnOk P w K mg base CX0 (k + 1) AA.Zx DD.Zx ["_law_e"] (spWr k)) : FnOk P w K mg base CX0 (k + 1 + 1) AA.Zx DD.Zx ["_law_e"] (spWr (k + 1)) := by
 have GKD := ok_lk (base := base) T
 refine T.F_Zx.ok sc_Zx (fun vs H Q E h => ?_) (fun cdv A outer s H vs Q E hr h => ?_)
 ·obtain ⟨v, e, rfl, _⟩ := h
  rfl
 ·obtain ⟨v, e, rfl, hE, hp, hn, hd, kq⟩ := h
  have nd := sc_Zx.nd
  have hrW : Room (k + 1) _ := hr
  have hr1 : Room 1 _ := hrW.mono (by omega)
  refine ⟨_, (@pss_cons _ _ _ _ _ (@ps_if _ _ _ _ _ _ _ _ (PW.pt (pw_or (@pt_cmpR _ _ _ _ _ _ _ _ op_eq (@pe_ix _ _ _ _ _ _ _ (ix_tupK (K := K) rfl) (pv 0) pe_int (fun _ _ => rfl)) pe_str (nomark _)) (pw_or1 (@pt_cmpR _ _ _ _ _ _ _ _ op_eq (@pe_ix _ _ _ _ _ _ _ (ix_tupK (K := K) rfl) (pv 0) pe_int (fun _ _ => rfl)) pe_str (nomark _))))) (@pss_one _ _ _ (@ps_ret _ _ _ _ pe_bl)) pss_nil) (@pss_cons _ _ _ _ _ (@ps_set _ _ 1 _ _ _ _ nd rfl (Or.inl rfl) pe_str (by rfl) (by first | exact .inl rfl | exact .inr rfl | assumption)) (@pss_cons _ _ _ _ _ (@ps_if _ _ _ _ _ _ _ _ (@pt_cmpR _ _ _ _ _ _ _ _ (op_in_seqK (K := K) rfl) (@pe_ix _ _ _ _ _ _ _ (ix_tupK (K := K) rfl) (pv 0) pe_int (fun _ _ => rfl)) (@pe_tup _ _ _ _ _ (@pa_cons _ _ _ _ _ pe_str (@pa_cons _ _ _ _ _ pe_str (@pa_cons _ _ _ _ _ pe_str (@pa_cons _ _ _ _ _ pe_str (@pa_cons _ _ _ _ _ pe_str pa_nil (by rfl)) (by rfl)) (by rfl)) (by rfl)) (by rfl))) rfl) (@pss_one _ _ _ (@ps_set _ _ 1 _ _ _ _ nd rfl (Or.inl rfl) pe_str (by rfl) (by first | exact .inl rfl | exact .inr rfl | assumption))) pss_nil) (@pss_cons _ _ _ _ _ (@ps_for _ _ _ _ _ _ _ _ PassesOwn.never rfl (pi_tup (pe_slice sl_tup (pv 0) (po_some pe_int) po_none)) (pg_name (i := 2) nd rfl (Or.inl rfl)) (@pss_one _ _ _ (@ps_if _ _ _ _ _ _ _ _ (PW.pt (pw_or (@pt_cmpR _ _ _ _ _ _ _ _ op_ne (pe_call GKD hr1 rfl T.m_Zbb T.k_Zbb T.b_Zbb .nil pass0 (@pa_cons _ _ _ _ _ (pv 2) pa_nil (by rfl))) (pv 1) (nomark _)) (pw_or1 (pt_val (pe_call GWR hrW rfl T.m_Zx T.k_Zx T.b_Zx .nil pass0 (@pa_cons _ _ _ _ _ (pv 2) pa_nil (by rfl))))))) (@pss_one _ _ _ (@ps_ret _ _ _ _ pe_bl)) pss_nil)) (by intro _; rfl)) (@pss_one _ _ _ (@ps_ret _ _ _ _ pe_bl)))))), ?_⟩
  obtain ⟨t, ys, rfl, ht, hc⟩ := kd_kids hE hp hn
  refine ⟨_, rfl, t, _, _, _, rfl, rfl, SqT.of ht, atI_nat (j := 0) rfl, rfl, _, rfl, ?_⟩
  rcases hc with ⟨hz, hk⟩ | ⟨z1, z2, hys, hask⟩
  ·have ew : wrE e = false := by rw [wrE_kids, hk]; rfl
   rw [ew] at kq
   refine or_leaf ?_ (kq _ (Same.refl _))
   by_cases h1 : hdE e = "num"
   ·exact .inl (decide_eq_true (by rw [h1]))
   ·refine .inr ⟨decide_eq_false fun z => h1 (by injection z), fun lf => ⟨_, rfl, t, _, _, _, rfl, rfl, SqT.of ht, atI_nat (j := 0) rfl, rfl, _, rfl, iteTb (decide_eq_true (by rw [hz.resolve_left h1])) lf⟩⟩
  ·refine iteFb (decide_eq_false fun z => z1 (by injection z)) ?_
   refine ⟨_, rfl, t, _, _, _, rfl, rfl, SqT.of ht, atI_nat (j := 0) rfl, rfl, _, rfl, ?_⟩
   refine iteFb (decide_eq_false fun z => z2 (by injection z)) ?_
   dsimp only [tNext]
   refine seq_c ?_
   refine cut_if (fun σ' H' => Same H H' /\ ∃ x2, σ' = [some (.ref t), some (.str (askE e)), x2]) (fun R hR => ?_) ?_
   ·refine ⟨_, rfl, t, _, _, _, rfl, rfl, SqT.of ht, atI_nat (j := 0) rfl, (by show 5 <= sizeLine; decide), fun pt hpt => ⟨pt, num5.map V.str, rfl, .inr (SqT.of upd_same), rfl, rfl, _, rfl, ?_⟩⟩
    by_cases hm : hdE e ∈ num5
    ·refine iteTb (in_strs (decide_eq_true hm)) ?_
     refine hR _ _ ⟨same_upd hpt, none, ?_⟩
     rw [hask]; unfold partE
     rw [if_pos hm]; rfl
    ·refine iteFb (in_strs (decide_eq_false hm)) ?_
     refine hR _ _ ⟨same_upd hpt, none, ?_⟩
     rw [hask]; unfold partE
     rw [if_neg hm]; rfl
   rintro σ' H1 ⟨s1, x2, rfl⟩
   have ht1 := s1 _ _ ht
   have hys1 := hys.kept s1.ls.1
   have hkl := hys.len
   refine cut_for (fun σ' H' => Same H H' /\ wrE e = false) (fun R hR => ?_) ?_
   ·refine ⟨_, rfl, _, rfl, t, _, rfl, SqT.of ht1, ?_, fun q hq => ⟨q, rfl, ⟨_, SqT.of upd_same⟩, ?_⟩⟩
    ·rintro ⟨q, _⟩
     simp [HT.sIx] at q
    have s2 := same_upd (o := .tup (cutV (.str (hdE e) :: ys) (some 1) none)) hq
    rw [cut_tail] at s2 ⊢
    refine for_tup (K := K) (a := q) (xs := ys) (fun i σ' H' => Same H H' /\ Same H1 H' /\ H' q = some (.tup ys) /\ (e.kids.take i).any (wrK (askE e)) = false /\ ∃ x2, σ' = [some (.ref t), some (.str (askE e)), x2]) ⟨s1.trans s2, s2, upd_same, rfl, _, rfl⟩ (fun i σ' H' _ h => SqT.of h.2.2.1) ?_ ?_
    ·rintro i x σ' H3 hx ⟨s3, s13, hq3, hno, x2, rfl⟩
     obtain ⟨c, hcc, hcx⟩ := hys1.get hx
     have hcm := kids_ok hp c (List.mem_of_getElem? hcc)
     have hcn := kids_noN hn c (List.mem_of_getElem? hcc)
     have hcx3 := hcx.kept s13.ls.1
     obtain ⟨hil, eil⟩ := List.getElem?_eq_some_iff.mp hcc
     have etrue : wrK (askE e) c = true -> wrE e = true := fun h => by rw [wrE_kids]; exact List.any_eq_true.mpr ⟨c, List.mem_of_getElem? hcc, h⟩
     dsimp only [gName]
     refine ⟨_, rfl, x, c, rfl, hcx3, hcm.1, hcn, fun H4 s4 => ⟨_, rfl, rfl, _, rfl, ?_⟩⟩
     by_cases hkd : kdE c = askE e
     ·refine iteFb (by
       show (!decide (V.str (kdE c) = V.str (askE e))) = false
       rw [decide_eq_true (by rw [hkd])]; rfl) ?_
      refine ⟨_, rfl, x, c, rfl, hcx3.kept s4.ls.1, hcm.1, hcn, by omega, fun H5 s5 => ⟨_, rfl, ?_⟩⟩
      cases hw : wrE c with
      | true =>
       refine iteT ?_
       have ew : wrE e = true := etrue (by unfold wrK; rw [hw]; simp)
       rw [ew] at kq
       exact kq _ ((s3.trans s4).trans s5)
      | false =>
       refine iteF ?_
       refine ⟨(s3.trans s4).trans s5, (s13.trans s4).trans s5, s5 _ _ (s4 _ _ hq3), ?_, _, rfl⟩
       rw [List.take_succ_eq_append_getElem hil, eil, List.any_append, hno]
       simp [wrK, hkd, hw]
     ·refine iteTb (by
       show (!decide (V.str (kdE c) = V.str (askE e))) = true
       rw [decide_eq_false (fun z => hkd (by injection z))]; rfl) ?_
      refine iteT ?_
      have ew : wrE e = true := etrue (by unfold wrK; rw [decide_eq_false hkd]; rfl)
      rw [ew] at kq
      exact kq _ (s3.trans s4)
    ·rintro σ' H3 ⟨s3, s13, hq3, hno, x2, rfl⟩
     rw [List.take_of_length_le (by omega), <- wrE_kids] at hno
     exact hR _ _ ⟨s3, hno⟩
   ·rintro σ' H3 ⟨s3, hno⟩
    rw [hno] at kq
    exact kq _ s3
theorem ok_wr0 (T : All P w K mg AA DD) : FnOk P w K mg base CX0 1 AA.Zx DD.Zx ["_law_e"] (spWr 0) := by
 have no : ∀ vs H Q E, ¬ spWr 0 vs H Q E := fun vs H Q E h => by
  obtain ⟨v, e, _, _, _, _, z, _⟩ := h
  omega
 exact T.F_Zx.ok sc_Zx (fun vs H Q E h => (no _ _ _ _ h).elim) (fun cdv A outer s H vs Q E hr h => (no _ _ _ _ h).elim)
theorem ok_wr (T : All P w K mg AA DD) : ∀ k : Nat, FnOk P w K mg base CX0 (k + 1) AA.Zx DD.Zx ["_law_e"] (spWr k)
 | 0 => ok_wr0 T
 | k + 1 => ok_wrS T k (ok_wr T k)
end
section
variable {P : Program} {w : World} {K : PySem.W.Frag} {mg : Str -> Option Value} {base : Heap} {AA : Adr} {DD : Fds}
noncomputable def exprE (x : Int) : Ex := exK (x / 8 % 6).toNat (mixI x 3) (kin2.getD (x / 4 % 2).toNat "")
noncomputable def rowX (x : Int) (at' : Nat) : Tr := if x % 4 < 2 then .tell at' (exprE x) else if x % 4 = 2 then .whl at' (exprE x) [] else
 if at' % 3 = 0 /\ x / 64 % 2 = 1 then .iff at' (exprE x) [] [.tell (at' + 2) (exprE (4 * mixI x 5))] else .iff at' (exprE x) [] []
noncomputable def spRowC (c : Bool) : Sp := fun vs H Q _ => ∃ (x : Int) (at' : Nat), vs = [.int x, .int ((at' : Nat) : Int)] /\ 0 <= x /\ (c = false -> x % 4 < 2) /\ ∀ v H', Same H H' -> SAt H' false v (rowX x at') -> Q v H'
theorem kin_get {j : Nat} (h : j < 2) : (kin2.map V.str)[j]? = some (.str (kin2.getD j "")) := by
 rcases (show j = 0 ∨ j = 1 by omega) with rfl | rfl <;> rfl
noncomputable abbrev N_Zbf : List Str := ["_law_number", "_law_at", "_law_e"]
theorem sc_Zbf : FnScope N_Zbf ["_law_number", "_law_at"] (defScope st_Zbf) := ⟨rfl, rfl, rfl, by decide +kernel, rfl, by decide +kernel, by decide +kernel⟩
theorem ok_rowC (T : All P w K mg AA DD) (c : Bool) (m : Nat) (hm : 8 <= m) (sp0 : Sp) (GRW : FnOk P w K mg base CX0 m AA.Zbf DD.Zbf ["_law_number", "_law_at"] sp0) (h0 : c = true -> ∀ vs H Q E, spRowC false vs H Q E -> sp0 vs H Q E) :
  FnOk P w K mg base CX0 (m + 1) AA.Zbf DD.Zbf ["_law_number", "_law_at"] (spRowC c) := by
 have GX := ok_mixed (base := base) T
 have GE := ok_xk (base := base) T 6
 refine T.F_Zbf.ok sc_Zbf (fun vs H Q E h => ?_) (fun cdv A outer s H vs Q E hr h => ?_)
 ·obtain ⟨x, a, rfl, _⟩ := h
  rfl
 ·obtain ⟨x, at', rfl, hx0, hcx, kq⟩ := h
  have nd := sc_Zbf.nd
  have hrW : Room m _ := hr
  have hrE : Room (6 + 1) _ := hrW.mono (by omega)
  have hr1 : Room 1 _ := hrW.mono (by omega)
  refine ⟨_, (@pss_cons _ _ _ _ _ (@ps_set _ _ 2 _ _ _ _ nd rfl (Or.inl rfl) (pe_call GE hrE rfl T.m_Zba T.k_Zba T.b_Zba .nil pass0 (@pa_cons _ _ _ _ _ (pe_call GX hr1 rfl T.m_Zw T.k_Zw T.b_Zw .nil pass0 (@pa_cons _ _ _ _ _ (pv 0) (@pa_cons _ _ _ _ _ pe_int pa_nil (by rfl)) (by rfl))) (@pa_cons _ _ _ _ _ (@pe_ix _ _ _ _ _ _ _ (ix_listK (K := K) rfl) (@pe_lst _ _ _ _ (@pa_cons _ _ _ _ _ pe_str (@pa_cons _ _ _ _ _ pe_str pa_nil (by rfl)) (by rfl))) (@pe_op _ _ _ _ _ _ _ _ op_mod (@pe_op _ _ _ _ _ _ _ _ op_fdiv (pv 0) pe_int) pe_int) (fun _ _ => rfl)) (@pa_cons _ _ _ _ _ (@pe_op _ _ _ _ _ _ _ _ op_mod (@pe_op _ _ _ _ _ _ _ _ op_fdiv (pv 0) pe_int) pe_int) pa_nil (by rfl)) (by rfl)) (by rfl))) (by rfl) (by first | exact .inl rfl | exact .inr rfl | assumption)) (@pss_cons _ _ _ _ _ (@ps_if _ _ _ _ _ _ _ _ (@pt_cmpR _ _ _ _ _ _ _ _ op_lt (@pe_op _ _ _ _ _ _ _ _ op_mod (pv 0) pe_int) pe_int (nomark _)) (@pss_one _ _ _ (@ps_ret _ _ _ _ (@pe_tup _ _ _ _ _ (@pa_cons _ _ _ _ _ pe_str (@pa_cons _ _ _ _ _ (pv 1) (@pa_cons _ _ _ _ _ (pv 2) pa_nil (by rfl)) (by rfl)) (by rfl))))) pss_nil) (@pss_cons _ _ _ _ _ (@ps_if _ _ _ _ _ _ _ _ (@pt_cmpR _ _ _ _ _ _ _ _ op_eq (@pe_op _ _ _ _ _ _ _ _ op_mod (pv 0) pe_int) pe_int (nomark _)) (@pss_one _ _ _ (@ps_ret _ _ _ _ (@pe_tup _ _ _ _ _ (@pa_cons _ _ _ _ _ pe_str (@pa_cons _ _ _ _ _ (pv 1) (@pa_cons _ _ _ _ _ (pv 2) (@pa_cons _ _ _ _ _ (@pe_lst _ _ _ _ pa_nil) pa_nil (by rfl)) (by rfl)) (by rfl)) (by rfl))))) pss_nil) (@pss_cons _ _ _ _ _ (@ps_if _ _ _ _ _ _ _ _ (PW.pt (pw_and (@pt_cmpR _ _ _ _ _ _ _ _ op_eq (@pe_op _ _ _ _ _ _ _ _ op_mod (pv 1) pe_int) pe_int (nomark _)) (pw_and1 (@pt_cmpR _ _ _ _ _ _ _ _ op_eq (@pe_op _ _ _ _ _ _ _ _ op_mod (@pe_op _ _ _ _ _ _ _ _ op_fdiv (pv 0) pe_int) pe_int) pe_int (nomark _))))) (@pss_one _ _ _ (@ps_ret _ _ _ _ (@pe_tup _ _ _ _ _ (@pa_cons _ _ _ _ _ pe_str (@pa_cons _ _ _ _ _ (pv 1) (@pa_cons _ _ _ _ _ (pv 2) (@pa_cons _ _ _ _ _ (@pe_lst _ _ _ _ pa_nil) (@pa_cons _ _ _ _ _ (@pe_lst _ _ _ _ (@pa_cons _ _ _ _ _ (pe_call GRW hrW rfl T.m_Zbf T.k_Zbf T.b_Zbf .nil pass0 (@pa_cons _ _ _ _ _ (@pe_op _ _ _ _ _ _ _ _ op_mul pe_int (pe_call GX hr1 rfl T.m_Zw T.k_Zw T.b_Zw .nil pass0 (@pa_cons _ _ _ _ _ (pv 0) (@pa_cons _ _ _ _ _ pe_int pa_nil (by rfl)) (by rfl)))) (@pa_cons _ _ _ _ _ (@pe_op _ _ _ _ _ _ _ _ op_add (pv 1) pe_int) pa_nil (by rfl)) (by rfl))) pa_nil (by rfl))) pa_nil (by rfl)) (by rfl)) (by rfl)) (by rfl)) (by rfl))))) pss_nil) (@pss_one _ _ _ (@ps_ret _ _ _ _ (@pe_tup _ _ _ _ _ (@pa_cons _ _ _ _ _ pe_str (@pa_cons _ _ _ _ _ (pv 1) (@pa_cons _ _ _ _ _ (pv 2) (@pa_cons _ _ _ _ _ (@pe_lst _ _ _ _ pa_nil) (@pa_cons _ _ _ _ _ (@pe_lst _ _ _ _ pa_nil) pa_nil (by rfl)) (by rfl)) (by rfl)) (by rfl)) (by rfl))))))))), ?_⟩
  obtain ⟨j, ej, hj⟩ := modN (a := x / 4) (n := 2) (by decide)
  have ej : x / 4 % 2 = ((j : Nat) : Int) := ej
  obtain ⟨d, ed, hd⟩ := modN (a := x / 8) (n := 6) (by decide)
  have ed : x / 8 % 6 = ((d : Nat) : Int) := ed
  have ee : exprE x = exK d (mixI x 3) (kin2.getD j "") := by unfold exprE; rw [ej, ed, Int.toNat_natCast, Int.toNat_natCast]
  refine ⟨_, rfl, x, 3, rfl, (by show 2 <= sizeLine; decide), fun q hq => ?_⟩
  refine ⟨_, rfl, _, _, rfl, rfl, ⟨by decide, by decide⟩, _, _, rfl, rfl, (by show (0 : Int) < 2; decide), q, _, _, .str (kin2.getD j ""), rfl, rfl, SqL.of upd_same, ?_, ?_⟩
  ·rw [ej]; exact atI_nat (kin_get hj)
  refine ⟨_, rfl, _, _, rfl, rfl, ⟨by decide, by decide⟩, _, _, rfl, rfl, (by show (0 : Int) < 6; decide), mixI x 3, kin2.getD j "", d, ?_, mixI_nn _ _, mixI_lt _ _, hd, fun v1 H1 s1 hE => ?_⟩
  ·show [V.int (mixI x 3), V.str (kin2.getD j ""), V.int (x / 8 % 6)] = _
   rw [ed]
  rw [<- ee] at hE
  dsimp only [gName]
  have s1 := (same_upd (o := .lst [V.str "num", V.str "truth"]) hq).trans s1
  unfold rowX at kq
  refine ⟨_, rfl, _, _, rfl, rfl, (by show (0 : Int) < 4; decide), _, _, rfl, rfl, _, rfl, ?_⟩
  by_cases h1 : x % 4 < 2
  ·refine iteTb (decide_eq_true h1) ?_
   rw [if_pos h1] at kq
   refine ⟨_, rfl, _, rfl, (by show 3 <= sizeLine; decide), fun p hp => ?_⟩
   have sp := same_upd (o := .tup [.str "tell", .int ((at' : Nat) : Int), v1]) hp
   exact kq _ _ (s1.trans sp) (.mk upd_same (.cons (.s _) (.cons (.i _) (.cons (.e (hE.kept sp.ls.1)) .nil))))
  ·refine iteFb (decide_eq_false h1) ?_
   rw [if_neg h1] at kq
   have hct : c = true := by
    cases c with
    | true => rfl
    | false => exact absurd (hcx rfl) h1
   dsimp only [tNext]
   refine ⟨_, rfl, _, _, rfl, rfl, (by show (0 : Int) < 4; decide), rfl, _, rfl, ?_⟩
   by_cases h2 : x % 4 = 2
   ·refine iteTb (decide_eq_true (congrArg V.int h2)) ?_
    rw [if_pos h2] at kq
    refine ⟨_, rfl, _, rfl, Nat.zero_le _, fun lb hlb => ⟨(by show 4 <= sizeLine; decide), fun p hp => ?_⟩⟩
    have sl := same_upd (o := .lst []) hlb
    have sp := same_upd (o := .tup [.str "while", .int ((at' : Nat) : Int), v1, .ref lb]) hp
    exact kq _ _ ((s1.trans sl).trans sp) (.mk upd_same (.cons (.s _) (.cons (.i _) (.cons (.e ((hE.kept sl.ls.1).kept sp.ls.1)) (.cons (.b (sp _ _ upd_same) .nil) .nil)))))
   ·refine iteFb (decide_eq_false fun z => h2 (by injection z)) ?_
    rw [if_neg h2] at kq
    have em : ((at' : Nat) : Int) % 3 = ((at' % 3 : Nat) : Int) := by omega
    by_cases h3 : at' % 3 = 0 /\ x / 64 % 2 = 1
    ·rw [if_pos h3] at kq
     refine ⟨_, rfl, _, _, rfl, rfl, (by show (0 : Int) < 3; decide), rfl, _, rfl, ?_⟩
     refine iteTb (decide_eq_true (congrArg V.int (show ((at' : Nat) : Int) % 3 = 0 by omega))) ?_
     refine ⟨_, rfl, _, _, rfl, rfl, ⟨by decide, by decide⟩, _, _, rfl, rfl, (by show (0 : Int) < 2; decide), rfl, _, rfl, ?_⟩
     refine iteTb (decide_eq_true (congrArg V.int h3.2)) ?_
     refine ⟨_, rfl, _, rfl, Nat.zero_le _, fun lb hlb => ?_⟩
     have sl := same_upd (o := .lst []) hlb
     refine ⟨_, rfl, x, 5, rfl, _, _, rfl, rfl, .inl ⟨by decide, by decide⟩, _, rfl, _, _, rfl, rfl, h0 hct _ _ _ _ ⟨4 * mixI x 5, at' + 2, rfl, ?_, fun _ => ?_, fun v2 H2 s2 hS2 => ?_⟩⟩
     ·have := mixI_nn x 5; omega
     ·have := mixI_nn x 5; omega
     have e4 : rowX (4 * mixI x 5) (at' + 2) = .tell (at' + 2) (exprE (4 * mixI x 5)) := by
      unfold rowX
      rw [if_pos (by omega)]
     rw [e4] at hS2
     refine ⟨(by show 1 <= sizeLine; decide), fun lo hlo => ⟨(by show 5 <= sizeLine; decide), fun p hp => ?_⟩⟩
     have so := same_upd (o := .lst [v2]) hlo
     have sp := same_upd (o := .tup [.str "if", .int ((at' : Nat) : Int), v1, .ref lb, .ref lo]) hp
     have sa := ((sl.trans s2).trans so).trans sp
     exact kq _ _ (s1.trans sa) (.mk upd_same (.cons (.s _) (.cons (.i _) (.cons (.e (hE.kept sa.ls.1)) (.cons (.b (((s2.trans so).trans sp) _ _ upd_same) .nil) (.cons (.b (sp _ _ upd_same) (.cons (.plain rfl (hS2.kept (so.trans sp).ls)) .nil)) .nil))))))
    ·rw [if_neg h3] at kq
     refine ⟨_, rfl, _, _, rfl, rfl, (by show (0 : Int) < 3; decide), rfl, _, rfl, ?_⟩
     by_cases h4 : at' % 3 = 0
     ·refine iteTb (decide_eq_true (congrArg V.int (show ((at' : Nat) : Int) % 3 = 0 by omega))) ?_
      refine ⟨_, rfl, _, _, rfl, rfl, ⟨by decide, by decide⟩, _, _, rfl, rfl, (by show (0 : Int) < 2; decide), rfl, _, rfl, ?_⟩
      refine iteFb (decide_eq_false fun z => h3 ⟨h4, by injection z⟩) ?_
      refine ⟨_, rfl, _, rfl, Nat.zero_le _, fun lb hlb => ⟨Nat.zero_le _, fun lo hlo => ⟨(by show 5 <= sizeLine; decide), fun p hp => ?_⟩⟩⟩
      have sl := same_upd (o := .lst []) hlb
      have so := same_upd (o := .lst []) hlo
      have sp := same_upd (o := .tup [.str "if", .int ((at' : Nat) : Int), v1, .ref lb, .ref lo]) hp
      have sa := (sl.trans so).trans sp
      exact kq _ _ (s1.trans sa) (.mk upd_same (.cons (.s _) (.cons (.i _) (.cons (.e (hE.kept sa.ls.1)) (.cons (.b ((so.trans sp) _ _ upd_same) .nil) (.cons (.b (sp _ _ upd_same) .nil) .nil))))))
     ·refine iteFb (decide_eq_false fun z => h4 (by injection z with z; omega)) ?_
      refine iteF ?_
      refine ⟨_, rfl, _, rfl, Nat.zero_le _, fun lb hlb => ⟨Nat.zero_le _, fun lo hlo => ⟨(by show 5 <= sizeLine; decide), fun p hp => ?_⟩⟩⟩
      have sl := same_upd (o := .lst []) hlb
      have so := same_upd (o := .lst []) hlo
      have sp := same_upd (o := .tup [.str "if", .int ((at' : Nat) : Int), v1, .ref lb, .ref lo]) hp
      have sa := (sl.trans so).trans sp
      exact kq _ _ (s1.trans sa) (.mk upd_same (.cons (.s _) (.cons (.i _) (.cons (.e (hE.kept sa.ls.1)) (.cons (.b ((so.trans sp) _ _ upd_same) .nil) (.cons (.b (sp _ _ upd_same) .nil) .nil))))))
theorem ok_rowN (T : All P w K mg AA DD) : FnOk P w K mg base CX0 8 AA.Zbf DD.Zbf ["_law_number", "_law_at"] (fun _ _ _ _ => False) := ⟨fun _ _ _ _ h => h.elim, fun _ _ _ _ _ _ _ _ _ _ _ _ _ h => h.elim⟩
theorem ok_row (T : All P w K mg AA DD) : FnOk P w K mg base CX0 10 AA.Zbf DD.Zbf ["_law_number", "_law_at"] (spRowC true) :=
 ok_rowC T true 9 (by decide) _ (ok_rowC T false 8 (by decide) _ (ok_rowN T) (fun z => by cases z)) (fun _ _ _ _ _ h => h)
end
section
variable {P : Program} {w : World} {K : PySem.W.Frag} {mg : Str -> Option Value} {base : Heap} {AA : Adr} {DD : Fds}
noncomputable def truD (t : Tr) : List (List Key) := match t with
 | .tell _ _ => []
 | _ => if kdE t.ex = "truth" then [] else [kk t.row "truth"]
noncomputable def rowD (t : Tr) : List (List Key) := (if wrE t.ex = true then [kk t.row "kind"] else []) ++ truD t
mutual
noncomputable def dueT : Tr -> List (List Key)
 | .set r n e => rowD (.set r n e)
 | .tell r e => rowD (.tell r e)
 | .iff r e b o => rowD (.iff r e b o) ++ (dues b ++ dues o)
 | .whl r e b => rowD (.whl r e b) ++ dues b
noncomputable def dues : List Tr -> List (List Key)
 | [] => []
 | t :: ts => dueT t ++ dues ts
end
theorem rowF_due (t : Tr) (fs : List (List Key)) : rowF t fs = (rowD t).foldl addF fs := by
 unfold rowF rowD
 rw [kfE_wr, List.foldl_append]
 have h1 : (if wrE t.ex = true then addF fs (kk t.row "kind") else fs) = (if wrE t.ex = true then [kk t.row "kind"] else []).foldl addF fs := by
  split <;> rfl
 rw [h1]
 generalize (if wrE t.ex = true then [kk t.row "kind"] else []).foldl addF fs = gs
 cases t <;> simp only [truT, truD] <;> (try split) <;> rfl
mutual
theorem kfT_due : ∀ (t : Tr) (fs : List (List Key)), kfT t fs = (dueT t).foldl addF fs
 | .set r n e, fs => by rw [kfT, dueT]; exact rowF_due _ _
 | .tell r e, fs => by rw [kfT, dueT]; exact rowF_due _ _
 | .iff r e b o, fs => by rw [kfT, dueT, kfTs_due o, kfTs_due b, rowF_due, List.foldl_append, List.foldl_append]
 | .whl r e b, fs => by rw [kfT, dueT, kfTs_due b, rowF_due, List.foldl_append]
theorem kfTs_due : ∀ (ts : List Tr) (fs : List (List Key)), kfTs ts fs = (dues ts).foldl addF fs
 | [], fs => by rw [kfTs, dues]; rfl
 | t :: ts, fs => by rw [kfTs, dues, kfTs_due ts, kfT_due t, List.foldl_append]
end
theorem addF_out {fs : List (List Key)} {k : List Key} (h : k ∉ fs) : addF fs k = fs ++ [k] := by
 unfold addF
 rw [if_neg]
 intro z
 obtain ⟨x, hx, e⟩ := List.any_eq_true.mp z
 have e : x = k := of_decide_eq_true e
 exact h (e ▸ hx)
theorem fold_addF : ∀ (l fs : List (List Key)), (fs ++ l).Nodup -> l.foldl addF fs = fs ++ l
 | [], fs, _ => by simp
 | k :: l, fs, h => by
  have hk : k ∉ fs := fun z => by
   rw [List.nodup_append] at h
   exact h.2.2 k z k (by simp) rfl
  show l.foldl addF (addF fs k) = _
  rw [addF_out hk, fold_addF l (fs ++ [k]) (by rw [List.append_assoc]; exact h), List.append_assoc]
  rfl
theorem fK_due {ts : List Tr} (h : (dues ts).Nodup) : fK ts = dues ts := by
 unfold fK
 rw [kfTs_due, fold_addF _ _ (by simpa using h)]
 rfl
end
section
variable {P : Program} {w : World} {K : PySem.W.Frag} {mg : Str -> Option Value} {base : Heap} {AA : Adr} {DD : Fds}
theorem TupsAt.same' {H H' : Hp} {xs : List V} {ds : List (List Key)} (h : TupsAt H xs ds) (s : Same H H') : TupsAt H' xs ds := ⟨h.1, fun i x d a b => by obtain ⟨t, e, q⟩ := h.2 i x d a b; exact ⟨t, e, s _ _ q⟩⟩
theorem TupsAt.push' {H : Hp} {xs : List V} {ds : List (List Key)} {t : Addr} {d : List Key} (h : TupsAt H xs ds) (ht : H t = some (.tup (d.map kV))) : TupsAt H (xs ++ [.ref t]) (ds ++ [d]) := by
 refine ⟨by simp [h.1], fun i x k e1 e2 => ?_⟩
 by_cases hi : i < xs.length
 ·rw [List.getElem?_append_left hi] at e1
  rw [List.getElem?_append_left (by rw [<- h.1]; exact hi)] at e2
  exact h.2 i x k e1 e2
 ·have hl := (List.getElem?_eq_some_iff.mp e1).1
  rw [List.length_append, List.length_singleton] at hl
  have ei : i = xs.length := by omega
  subst ei
  rw [List.getElem?_append_right (Nat.le_refl _), Nat.sub_self] at e1
  rw [h.1, List.getElem?_append_right (Nat.le_refl _), Nat.sub_self] at e2
  have q1 : V.ref t = x := by simpa using e1
  have q2 : d = k := by simpa using e2
  subst q1 q2
  exact ⟨t, rfl, ht⟩
theorem TupsAt.app' {H : Hp} {xs ys : List V} {ds es : List (List Key)} (h : TupsAt H xs ds) (g : TupsAt H ys es) : TupsAt H (xs ++ ys) (ds ++ es) := by
 refine ⟨by simp [h.1, g.1], fun i x k e1 e2 => ?_⟩
 by_cases hi : i < xs.length
 ·rw [List.getElem?_append_left hi] at e1
  rw [List.getElem?_append_left (by rw [<- h.1]; exact hi)] at e2
  exact h.2 i x k e1 e2
 ·rw [List.getElem?_append_right (by omega)] at e1
  rw [List.getElem?_append_right (by rw [<- h.1]; omega), <- h.1] at e2
  exact g.2 _ x k e1 e2
theorem TupsAt.upd' {H : Hp} {xs : List V} {ds : List (List Key)} {p : Addr} {zs ws : List V} (h : TupsAt H xs ds) (hp : H p = some (.lst zs)) : TupsAt (upd H p (.lst ws)) xs ds := ⟨h.1, fun i x d a b => by obtain ⟨t, e, q⟩ := h.2 i x d a b; exact ⟨t, e, by rw [upd_ne (fun z => by rw [z, hp] at q; cases q)]; exact q⟩⟩
noncomputable def spDu (k : Nat) : Sp := fun vs H Q _ => ∃ (l : Addr) (xs : List V) (ts : List Tr), vs = [.ref l] /\ H l = some (.lst xs) /\ LAt H false xs ts /\ deeps ts < k /\ ascs ts /\ (∀ x ∈ flats ts, GoodR x) /\ (dues ts).length < 800 /\
 ∀ p ys H', H p = none -> Same H H' -> H' p = some (.lst ys) -> TupsAt H' ys (dues ts) -> Q (.ref p) H'
theorem dues_app : ∀ (a b : List Tr), dues (a ++ b) = dues a ++ dues b
 | [], b => by simp [dues]
 | t :: a, b => by
  show dueT t ++ dues (a ++ b) = _
  rw [dues_app a b, <- List.append_assoc]
  rfl
theorem dueT_b (t : Tr) : dueT t = rowD t ++ (t.blocks.map dues).flatten := by
 cases t <;> simp [dueT, Tr.blocks]
theorem row_parts {H : Hp} {vs : List V} {t : Tr} (h : PsAt H false vs t.parts) (hn : t.nm = none) : ∃ (x : V) (bs : List V), vs = .str t.kw :: .int ((t.row : Nat) : Int) :: x :: bs /\ ExAt H x t.ex /\ PsAt H false bs (t.blocks.map Part.b) := by
 cases t with
 | set r n e => cases hn
 | tell r e => cases h with | cons a b => cases a; cases b with | cons c d => cases c; cases d with | cons a b => cases a with | e hx => exact ⟨_, _, rfl, hx, b⟩
 | iff r e b o => cases h with | cons a b => cases a; cases b with | cons c d => cases c; cases d with | cons a b => cases a with | e hx => exact ⟨_, _, rfl, hx, b⟩
 | whl r e b => cases h with | cons a b => cases a; cases b with | cons c d => cases c; cases d with | cons a b => cases a with | e hx => exact ⟨_, _, rfl, hx, b⟩
theorem cut_3 (a b c : V) (ys : List V) : cutV (a :: b :: c :: ys) (some 3) none = ys := by
 unfold cutV
 have h1 : HT.sIx ((a :: b :: c :: ys).length) 0 (some 3) = 3 := by simp [HT.sIx]
 have h2 : HT.sIx ((a :: b :: c :: ys).length) ((a :: b :: c :: ys).length) none = (a :: b :: c :: ys).length := by simp [HT.sIx]
 simp [HT.sIx]
theorem truD_cases (t : Tr) (h : t.nm = none) : (t.kw = "tell" /\ truD t = []) ∨ (t.kw ≠ "tell" /\ truD t = if kdE t.ex = "truth" then [] else [kk t.row "truth"]) := by
 cases t with
 | set r n e => cases h
 | tell r e => exact .inl ⟨rfl, rfl⟩
 | iff r e b o => exact .inr ⟨by show ("if" : Str) ≠ "tell"; decide, rfl⟩
 | whl r e b => exact .inr ⟨by show ("while" : Str) ≠ "tell"; decide, rfl⟩
noncomputable abbrev N_Zbg : List Str := ["_law_rows", "_law_due_here", "_law_row_here", "_law_block"]
theorem sc_Zbg : FnScope N_Zbg ["_law_rows"] (defScope st_Zbg) := ⟨rfl, rfl, rfl, by decide +kernel, rfl, by decide +kernel, by decide +kernel⟩
theorem ok_duS (T : All P w K mg AA DD) (k : Nat) (GDU : FnOk P w K mg base CX0 (k + 9) AA.Zbg DD.Zbg ["_law_rows"] (spDu k)) : FnOk P w K mg base CX0 (k + 1 + 9) AA.Zbg DD.Zbg ["_law_rows"] (spDu (k + 1)) := by
 have GKD := ok_lk (base := base) T
 have GWR := ok_wr (base := base) T 8
 refine T.F_Zbg.ok sc_Zbg (fun vs H Q E h => ?_) (fun cdv A outer s H vs Q E hr h => ?_)
 ·obtain ⟨l, xs, ts, rfl, _⟩ := h
  rfl
 ·obtain ⟨l, xs, ts, rfl, hl, hL, hd, ha, hg, hdl, kq⟩ := h
  have nd := sc_Zbg.nd
  have hrD : Room (k + 9) _ := hr
  have hrW : Room (8 + 1) _ := hrD.mono (by omega)
  have hr1 : Room 1 _ := hrD.mono (by omega)
  refine ⟨_, (@pss_cons _ _ _ _ _ (@ps_set _ _ 1 _ _ _ _ nd rfl (Or.inl rfl) (@pe_lst _ _ _ _ pa_nil) (by rfl) (by first | exact .inl rfl | exact .inr rfl | assumption)) (@pss_cons _ _ _ _ _ (@ps_for _ _ _ _ _ _ _ _ PassesOwn.never rfl (pi_list (pv 0)) (pg_name (i := 2) nd rfl (Or.inl rfl)) (@pss_cons _ _ _ _ _ (@ps_if _ _ _ _ _ _ _ _ (pt_val (pe_call GWR hrW rfl T.m_Zx T.k_Zx T.b_Zx .nil pass0 (@pa_cons _ _ _ _ _ (@pe_ix _ _ _ _ _ _ _ (ix_tupK (K := K) rfl) (pv 2) pe_int (fun _ _ => rfl)) pa_nil (by rfl)))) (@pss_one _ _ _ (@ps_expr _ _ _ _ (pe_bm PySem.F.plainAttrs_list PySem.F.slot_list_append PySem.F.type_list_append mt_append (pv 1) (@pa_cons _ _ _ _ _ (@pe_tup _ _ _ _ _ (@pa_cons _ _ _ _ _ (@pe_ix _ _ _ _ _ _ _ (ix_tupK (K := K) rfl) (pv 2) pe_int (fun _ _ => rfl)) (@pa_cons _ _ _ _ _ pe_str pa_nil (by rfl)) (by rfl))) pa_nil (by rfl))) (by rfl))) pss_nil) (@pss_cons _ _ _ _ _ (@ps_if _ _ _ _ _ _ _ _ (PW.pt (pw_and (@pt_cmpR _ _ _ _ _ _ _ _ op_ne (@pe_ix _ _ _ _ _ _ _ (ix_tupK (K := K) rfl) (pv 2) pe_int (fun _ _ => rfl)) pe_str (nomark _)) (pw_and1 (@pt_cmpR _ _ _ _ _ _ _ _ op_ne (pe_call GKD hr1 rfl T.m_Zbb T.k_Zbb T.b_Zbb .nil pass0 (@pa_cons _ _ _ _ _ (@pe_ix _ _ _ _ _ _ _ (ix_tupK (K := K) rfl) (pv 2) pe_int (fun _ _ => rfl)) pa_nil (by rfl))) pe_str (nomark _))))) (@pss_one _ _ _ (@ps_expr _ _ _ _ (pe_bm PySem.F.plainAttrs_list PySem.F.slot_list_append PySem.F.type_list_append mt_append (pv 1) (@pa_cons _ _ _ _ _ (@pe_tup _ _ _ _ _ (@pa_cons _ _ _ _ _ (@pe_ix _ _ _ _ _ _ _ (ix_tupK (K := K) rfl) (pv 2) pe_int (fun _ _ => rfl)) (@pa_cons _ _ _ _ _ pe_str pa_nil (by rfl)) (by rfl))) pa_nil (by rfl))) (by rfl))) pss_nil) (@pss_one _ _ _ (@ps_for _ _ _ _ _ _ _ _ PassesOwn.never rfl (pi_tup (pe_slice sl_tup (pv 2) (po_some pe_int) po_none)) (pg_name (i := 3) nd rfl (Or.inl rfl)) (@pss_one _ _ _ (@ps_set _ _ 1 _ _ _ _ nd rfl (Or.inl rfl) (@pe_op _ _ _ _ _ _ _ _ op_cat (pv 1) (pe_call GDU hrD rfl T.m_Zbg T.k_Zbg T.b_Zbg .nil pass0 (@pa_cons _ _ _ _ _ (pv 3) pa_nil (by rfl)))) (by rfl) (by first | exact .inl rfl | exact .inr rfl | assumption))) (by intro _; rfl))))) (by intro _; rfl)) (@pss_one _ _ _ (@ps_ret _ _ _ _ (pv 1))))), ?_⟩
  refine ⟨Nat.zero_le _, fun pf hpf => ?_⟩
  dsimp only [gName]
  have s0 := same_upd (o := .lst []) hpf
  have hxl := hL.length
  refine cut_for (fun σ' H' => Same H H' /\ ∃ p2 x2 x3 ys, σ' = [some (.ref l), some (.ref p2), x2, x3] /\ H p2 = none /\ H' p2 = some (.lst ys) /\ TupsAt H' ys (dues ts)) (fun R hR => ?_) ?_
  ·refine ⟨_, rfl, l, rfl, ⟨_, SqL.of (s0 _ _ hl)⟩, ?_⟩
   refine for_list (K := K) (a := l) (xs := xs) (fun i σ' H' => Same H H' /\ ∃ p2 x2 x3 ys, σ' = [some (.ref l), some (.ref p2), x2, x3] /\ H p2 = none /\ H' p2 = some (.lst ys) /\ TupsAt H' ys (dues (ts.take i))) ⟨s0, pf, _, _, [], rfl, hpf, upd_same, by simp [dues], fun j x d h => by simp at h⟩ (fun i σ' H' _ h => SqL.of (h.1 _ _ hl)) ?_ ?_
   ·rintro i x σ' H1 hx ⟨s1, p2, x2, x3, ys, rfl, hp2, hys, hty⟩
    obtain ⟨t, ht, hO⟩ := hL.get hx
    have hm : t ∈ ts := List.mem_of_getElem? ht
    have hta := ascs_mem ha hm
    obtain ⟨ft, rest, fr⟩ := flats_take ht
    have hmf : ∀ z ∈ t.flat, z ∈ flats ts := fun z hz => by rw [fr]; simp [hz]
    obtain ⟨hnm, hnn, hdt⟩ := hg (t.row, t.ex, t.nm) (hmf _ (by rw [flat_b]; simp))
    obtain ⟨hi', et⟩ := List.getElem?_eq_some_iff.mp ht
    have etk : dues (ts.take (i + 1)) = dues (ts.take i) ++ (rowD t ++ (t.blocks.map dues).flatten) := by
     rw [List.take_succ_eq_append_getElem hi', et, dues_app, <- dueT_b]; simp [dues]
    have etl : (dues (ts.take (i + 1))).length <= (dues ts).length := by
     have e := dues_app (ts.take (i + 1)) (ts.drop (i + 1))
     rw [List.take_append_drop] at e
     rw [e, List.length_append]; omega
    rw [etk] at etl ⊢
    simp only [List.length_append] at etl
    cases hO with
    | shared e _ _ => cases e
    | plain _ hS =>
    cases hS with
    | @mk t0 vs _ ht0 hps =>
    obtain ⟨ve, bs, rfl, hE, hbs⟩ := row_parts hps hnm
    have ht1 := s1 _ _ ht0
    have hE1 := hE.kept s1.ls.1
    dsimp only [gName]
    refine cut_if (fun σ' H' => Same H H' /\ ∃ ys, σ' = [some (.ref l), some (.ref p2), some (.ref t0), x3] /\ H' p2 = some (.lst ys) /\ TupsAt H' ys (dues (ts.take i) ++ (if wrE t.ex = true then [kk t.row "kind"] else []))) (fun R2 hR2 => ?_) ?_
    ·refine ⟨_, rfl, t0, _, _, _, rfl, rfl, SqT.of ht1, atI_nat (j := 2) rfl, ve, t.ex, rfl, hE1, asc_ex hta, hnn, hdt, fun H2 s2 => ⟨_, rfl, ?_⟩⟩
     have hyl := hty.1
     cases hw : wrE t.ex with
     | true =>
      refine iteT ?_
      refine ⟨_, rfl, .inl ⟨rfl, _, SqL.of (s2 _ _ hys)⟩, _, rfl, t0, _, _, _, rfl, rfl, SqT.of (s2 _ _ ht1), atI_nat (j := 1) rfl, (by show 2 <= sizeLine; decide), fun tt htt => ?_⟩
      have s3 := s2.trans (same_upd (o := .tup ((kk t.row "kind").map kV)) htt)
      refine ⟨p2, _, _, rfl, rfl, s3 _ _ hys, (by rw [hyl]; exact small1000 (by omega)), ?_⟩
      refine hR2 _ _ ⟨fun b u e => by rw [upd_ne (ne_of_none e hp2)]; exact s3 _ _ (s1 _ _ e), _, rfl, upd_same, ?_⟩
      rw [hw, if_pos rfl]
      exact TupsAt.upd' (TupsAt.push' (TupsAt.same' hty s3) upd_same) (s3 _ _ hys)
     | false =>
      refine iteF ?_
      refine hR2 _ _ ⟨s1.trans s2, ys, rfl, s2 _ _ hys, ?_⟩
      rw [hw, if_neg Bool.false_ne_true, List.append_nil]
      exact TupsAt.same' hty s2
    rintro σ' H2 ⟨s2, ys2, rfl, hys2, hty2⟩
    have ht2 := s2 _ _ ht0
    have hE2 := hE.kept s2.ls.1
    have hb1 : (rowD t).length <= 2 := by
     unfold rowD truD
     split <;> (cases t <;> simp) <;> (try split) <;> simp
    refine cut_if (fun σ' H' => Same H H' /\ ∃ ys, σ' = [some (.ref l), some (.ref p2), some (.ref t0), x3] /\ H' p2 = some (.lst ys) /\ TupsAt H' ys (dues (ts.take i) ++ rowD t)) (fun R2 hR2 => ?_) ?_
    ·refine ⟨_, rfl, t0, _, _, _, rfl, rfl, SqT.of ht2, atI_nat (j := 0) rfl, rfl, _, rfl, ?_⟩
     have hyl := hty2.1
     rw [List.length_append] at hyl
     have hb2 : (if wrE t.ex = true then [kk t.row "kind"] else []).length <= 1 := by split <;> simp
     rcases truD_cases t hnm with ⟨hw, e⟩ | ⟨hw, e⟩
     ·refine iteFb (by
       show (!decide (V.str t.kw = V.str "tell")) = false
       rw [decide_eq_true (by rw [hw])]; rfl) ?_
      refine iteF ?_
      refine hR2 _ _ ⟨s2, ys2, rfl, hys2, ?_⟩
      unfold rowD
      rw [e, List.append_nil]; exact hty2
     ·refine iteTb (by
       show (!decide (V.str t.kw = V.str "tell")) = true
       rw [decide_eq_false (fun z => hw (by injection z))]; rfl) ?_
      refine ⟨_, rfl, t0, _, _, _, rfl, rfl, SqT.of ht2, atI_nat (j := 2) rfl, ve, t.ex, rfl, hE2, asc_ex hta, hnn, fun H3 s3 => ⟨rfl, _, rfl, ?_⟩⟩
      by_cases hkd : kdE t.ex = "truth"
      ·refine iteFb (by
        show (!decide (V.str (kdE t.ex) = V.str "truth")) = false
        rw [decide_eq_true (by rw [hkd])]; rfl) ?_
       refine hR2 _ _ ⟨s2.trans s3, ys2, rfl, s3 _ _ hys2, ?_⟩
       unfold rowD
       rw [e, if_pos hkd, List.append_nil]; exact TupsAt.same' hty2 s3
      ·refine iteTb (by
        show (!decide (V.str (kdE t.ex) = V.str "truth")) = true
        rw [decide_eq_false (fun z => hkd (by injection z))]; rfl) ?_
       refine ⟨_, rfl, .inl ⟨rfl, _, SqL.of (s3 _ _ hys2)⟩, _, rfl, t0, _, _, _, rfl, rfl, SqT.of (s3 _ _ ht2), atI_nat (j := 1) rfl, (by show 2 <= sizeLine; decide), fun tt htt => ?_⟩
       have s4 := s3.trans (same_upd (o := .tup ((kk t.row "truth").map kV)) htt)
       refine ⟨p2, _, _, rfl, rfl, s4 _ _ hys2, (by rw [hyl]; exact small1000 (by omega)), ?_⟩
       refine hR2 _ _ ⟨fun b u e => by rw [upd_ne (ne_of_none e hp2)]; exact s4 _ _ (s2 _ _ e), _, rfl, upd_same, ?_⟩
       unfold rowD
       rw [e, if_neg hkd, <- List.append_assoc]
       exact TupsAt.upd' (TupsAt.push' (TupsAt.same' hty2 s4) upd_same) (s4 _ _ hys2)
    rintro σ' H3 ⟨s3, ys3, rfl, hys3, hty3⟩
    have ht3 := s3 _ _ ht0
    refine ⟨_, rfl, _, rfl, t0, _, rfl, SqT.of ht3, ?_, fun q hq => ⟨q, rfl, ⟨_, SqT.of upd_same⟩, ?_⟩⟩
    ·rintro ⟨q, _⟩
     simp [HT.sIx] at q
    have s4 := same_upd (o := .tup (cutV (.str t.kw :: .int ((t.row : Nat) : Int) :: ve :: bs) (some 3) none)) hq
    rw [cut_3] at s4 ⊢
    have hbl := hbs.length
    rw [List.length_map] at hbl
    refine for_tup (K := K) (a := q) (xs := bs) (fun j σ' H' => Same H H' /\ H' q = some (.tup bs) /\ ∃ p3 x3 zs, σ' = [some (.ref l), some (.ref p3), some (.ref t0), x3] /\ H p3 = none /\ H' p3 = some (.lst zs) /\ TupsAt H' zs (dues (ts.take i) ++ rowD t ++ ((t.blocks.take j).map dues).flatten)) ⟨s3.trans s4, upd_same, p2, x3, ys3, rfl, hp2, s4 _ _ hys3, by simpa using TupsAt.same' hty3 s4⟩ (fun j σ' H' _ h => SqT.of h.2.1) ?_ ?_
    ·rintro j v σ' H5 hv ⟨s5, hq5, p3, x3', zs, rfl, hp3, hzs, htz⟩
     obtain ⟨pp, hpp, hPP⟩ := hbs.get hv
     rw [List.getElem?_map] at hpp
     obtain ⟨b, hb, rfl⟩ := Option.map_eq_some_iff.mp hpp
     have hbm := List.mem_of_getElem? hb
     obtain ⟨fb, rb, fbr⟩ := fl_take hb
     have hPP := hPP.kept s5.ls
     cases hPP with
     | @b lb ws _ hlb hLb =>
     have hpt := blocks_mem hbm
     have hdm := deeps_mem hm
     have hdb := deep_part hpt
     obtain ⟨hj', ej⟩ := List.getElem?_eq_some_iff.mp hb
     have efl : ((t.blocks.take (j + 1)).map dues).flatten = ((t.blocks.take j).map dues).flatten ++ dues b := by
      rw [List.take_succ_eq_append_getElem hj', ej]; simp
     have ell : (((t.blocks.take j).map dues).flatten).length + (dues b).length <= ((t.blocks.map dues).flatten).length := by
      have e : t.blocks = t.blocks.take (j + 1) ++ t.blocks.drop (j + 1) := (List.take_append_drop _ _).symm
      rw [e, List.map_append, List.flatten_append, List.length_append, <- e, efl, List.length_append]; omega
     have hzl := htz.1
     simp only [List.length_append] at hzl
     refine ⟨_, rfl, _, rfl, lb, ws, b, rfl, hlb, hLb, by omega, (asc_part hta hpt).2, fun z hz => hg z (hmf z ?_), by omega, fun p4 ys4 H6 hp4 s6 hys4 hty4 => ?_⟩
     ·rw [flat_b, fbr]; simp [hz]
     have hyl4 := hty4.1
     refine ⟨p3, p4, _, _, rfl, rfl, s6 _ _ hzs, hys4, by exact Nat.le_of_lt (small1000 (by omega)), fun p5 hp5 => ?_⟩
     have s7 := same_upd (o := .lst (zs ++ ys4)) hp5
     refine ⟨(s5.trans s6).trans s7, s7 _ _ (s6 _ _ hq5), p5, _, _, rfl, Same.free (s5.trans s6) hp5, upd_same, ?_⟩
     rw [efl, <- List.append_assoc]
     exact TupsAt.same' (TupsAt.app' (TupsAt.same' htz s6) hty4) s7
    ·rintro σ' H5 ⟨s5, hq5, p3, x3', zs, rfl, hp3, hzs, htz⟩
     have etb : t.blocks.take bs.length = t.blocks := List.take_of_length_le (by omega)
     rw [etb] at htz
     exact ⟨s5, p3, _, _, zs, rfl, hp3, hzs, by rw [<- List.append_assoc]; exact htz⟩
   ·rintro σ' H1 ⟨s1, p2, x2, x3, ys, rfl, hp2, hys, hty⟩
    rw [List.take_of_length_le (by omega)] at hty
    exact hR _ _ ⟨s1, p2, x2, x3, ys, rfl, hp2, hys, hty⟩
  ·rintro σ' H1 ⟨s1, p2, x2, x3, ys, rfl, hp2, hys, hty⟩
   exact ⟨_, rfl, kq p2 ys _ hp2 s1 hys hty⟩
theorem ok_du0 (T : All P w K mg AA DD) : FnOk P w K mg base CX0 9 AA.Zbg DD.Zbg ["_law_rows"] (spDu 0) := by
 have no : ∀ vs H Q E, ¬ spDu 0 vs H Q E := fun vs H Q E h => by
  obtain ⟨l, xs, ts, _, _, _, z, _⟩ := h
  omega
 exact T.F_Zbg.ok sc_Zbg (fun vs H Q E h => (no _ _ _ _ h).elim) (fun cdv A outer s H vs Q E hr h => (no _ _ _ _ h).elim)
theorem ok_du (T : All P w K mg AA DD) : ∀ k : Nat, FnOk P w K mg base CX0 (k + 9) AA.Zbg DD.Zbg ["_law_rows"] (spDu k)
 | 0 => ok_du0 T
 | k + 1 => ok_duS T k (ok_du T k)
end
section
variable {P : Program} {w : World} {K : PySem.W.Frag} {mg : Str -> Option Value} {base : Heap} {AA : Adr} {DD : Fds}
noncomputable def treeX (cs : List Int) : List Tr := cs.mapIdx fun k c => rowX (mixI c k) (3 * k)
theorem LAt.snoc' {H : Hp} {sh : Bool} : ∀ {vs : List V} {ts : List Tr} {v : V} {t : Tr}, LAt H sh vs ts -> OAt H sh v t -> LAt H sh (vs ++ [v]) (ts ++ [t])
 | _, _, _, _, .nil, h => .cons h .nil
 | _, _, _, _, .cons a b, h => .cons a (LAt.snoc' b h)
noncomputable def spTree (K : PySem.W.Frag) : Sp := fun vs H Q _ => ∃ (a : Addr) (ns : List Int), vs = [.ref a] /\ SqL K H a (ns.map V.int) /\ ∀ p xs H', H p = none -> Same H H' -> H' p = some (.lst xs) -> LAt H' false xs (treeX (ns.take 12)) -> Q (.ref p) H'
theorem cut_12 (ns : List Int) : cutV (ns.map V.int) none (some 12) = (ns.take 12).map V.int := by
 unfold cutV
 have e : HT.sIx (ns.map V.int).length (ns.map V.int).length (some 12) = min 12 (ns.map V.int).length := HT.sIx_nat _ _ 12
 rw [e]
 simp [HT.sIx]
noncomputable abbrev N_Zbc : List Str := ["_law_script"]
theorem sc_Zbc : FnScope N_Zbc ["_law_script"] (defScope st_Zbc) := ⟨rfl, rfl, rfl, by decide +kernel, rfl, by decide +kernel, by decide +kernel⟩
theorem ok_tree (T : All P w K mg AA DD) : FnOk P w K mg base CX0 11 AA.Zbc DD.Zbc ["_law_script"] (spTree K) := by
 have GX := ok_mixed (base := base) T
 have GRW := ok_row (base := base) T
 refine T.F_Zbc.ok sc_Zbc (fun vs H Q E h => ?_) (fun cdv A outer s H vs Q E hr h => ?_)
 ·obtain ⟨a, ns, rfl, _⟩ := h
  rfl
 ·obtain ⟨a, ns, rfl, hS, kq⟩ := h
  have nd := sc_Zbc.nd
  have hrW : Room 10 _ := hr
  have hr1 : Room 1 _ := hrW.mono (by omega)
  refine ⟨_, (@pss_one _ _ _ (@ps_ret _ _ _ _ (pe_comp2 (xs := ["_law_k", "_law_cell"]) (defScope st_Zbc) N_Zbc [] [] rfl (by exact ⟨rfl, rfl, by decide +kernel, by decide +kernel, by decide +kernel, by decide +kernel, by decide +kernel, rfl, by decide +kernel⟩) rfl rfl (pi_enum rfl T.n_enumerate (@pa_cons _ _ _ _ _ (pe_slice sl_list (pv 0) po_none (po_some pe_int)) pa_nil (by rfl))) (fun _ _ _ _ => (pg_tupK (K := K) (n := 2) rfl rfl (pgs_cons (pg_name (i := 0) (show (["_law_k", "_law_cell"] : List Str).Nodup by decide +kernel) rfl (Or.inl rfl)) (pgs_cons (pg_name (i := 1) (show (["_law_k", "_law_cell"] : List Str).Nodup by decide +kernel) rfl (Or.inl rfl)) pgs_nil)))) (fun _ _ _ _ => pif_nil) (fun _ _ _ _ => (pe_call GRW hrW rfl T.m_Zbf T.k_Zbf T.b_Zbf .nil pass0 (@pa_cons _ _ _ _ _ (pe_call GX hr1 rfl T.m_Zw T.k_Zw T.b_Zw .nil pass0 (@pa_cons _ _ _ _ _ (pv 1) (@pa_cons _ _ _ _ _ (pv 0) pa_nil (by rfl)) (by rfl))) (@pa_cons _ _ _ _ _ (@pe_op _ _ _ _ _ _ _ _ op_mul pe_int (pv 0)) pa_nil (by rfl)) (by rfl))))))), ?_⟩
  refine ⟨_, rfl, _, rfl, a, _, rfl, hS, fun pc hpc => ?_⟩
  have ec : cutV (ns.map V.int) none (some 12) = (ns.take 12).map V.int := cut_12 ns
  rw [ec]
  refine ⟨pc, _, rfl, SqL.of upd_same, ?_⟩
  have s0 := same_upd (o := .lst ((ns.take 12).map V.int)) hpc
  have h0 : upd H pc (.lst ((ns.take 12).map V.int)) pc = some (.lst ((ns.take 12).map V.int)) := upd_same
  generalize upd H pc (.lst ((ns.take 12).map V.int)) = H0 at s0 h0 ⊢
  have hcl : (ns.take 12).length <= 12 := by rw [List.length_take]; omega
  generalize ns.take 12 = cs at h0 hcl kq ⊢
  refine comp2_enum (K := K) (a := pc) (xs := cs.map V.int) (fun i ys H' => Same H H' /\ H' pc = some (.lst (cs.map V.int)) /\ i <= 12 /\ ys.length = i /\ LAt H' false ys (treeX (cs.take i))) ⟨s0, h0, Nat.zero_le _, rfl, by simpa [treeX] using LAt.nil⟩ (fun i ys H' _ h => SqL.of h.2.1) ?_ ?_
  ·rintro i x ys H1 t hx ⟨sm, hc1, _, hyl, hL⟩ ht
   have hi : i < cs.length := by
    have := (List.getElem?_eq_some_iff.mp hx).1
    simpa using this
   have ex : x = V.int cs[i] := by rw [List.getElem?_map, List.getElem?_eq_getElem hi] at hx; exact (Option.some.inj hx).symm
   subst ex
   have st := same_upd (o := .tup [V.int ((i : Nat) : Int), V.int cs[i]]) ht
   have hT : upd H1 t (.tup [V.int ((i : Nat) : Int), V.int cs[i]]) t = some (.tup [V.int ((i : Nat) : Int), V.int cs[i]]) := upd_same
   generalize upd H1 t (.tup [V.int ((i : Nat) : Int), V.int cs[i]]) = H2 at st hT ⊢
   intro os hos
   obtain ⟨o1, o2, rfl⟩ : ∃ a b, os = [a, b] := by
    match os, hos with
    | [a, b], _ => exact ⟨a, b, rfl⟩
   refine ⟨t, _, rfl, SqT.of hT, rfl, _, _, rfl, _, _, rfl, rfl, ⟨[_, _], rfl, rfl⟩, ?_⟩
   refine tYes_ok ?_
   rw [if_pos rfl]
   refine ⟨_, rfl, _, rfl, cs[i], ((i : Nat) : Int), rfl, _, rfl, _, _, rfl, rfl, .inl ⟨by decide, by decide⟩, mixI cs[i] i, 3 * i, ?_, mixI_nn _ _, (fun z => nomatch z), fun v H3 s3 hS3 => ?_⟩
   ·show [V.int (mixI cs[i] i), V.int (3 * ((i : Nat) : Int))] = _
    rw [show (3 : Int) * ((i : Nat) : Int) = ((3 * i : Nat) : Int) by omega]
   ·refine ⟨by rw [hyl]; exact small1000 (by omega), (sm.trans st).trans s3, s3 _ _ (st _ _ hc1), by omega, by simp [hyl], ?_⟩
    have e : treeX (cs.take (i + 1)) = treeX (cs.take i) ++ [rowX (mixI cs[i] i) (3 * i)] := by
     unfold treeX
     rw [List.take_succ_eq_append_getElem hi, List.mapIdx_append]
     simp [List.length_take, Nat.min_eq_left (Nat.le_of_lt hi)]
    rw [e]
    exact LAt.snoc' (hL.kept (st.trans s3).ls) (.plain rfl hS3)
  ·rintro ys H1 ⟨sm, _, _, _, hL⟩ p hp
   rw [List.length_map, List.take_length] at hL
   have sp := same_upd (o := .lst ys) hp
   exact kq p ys _ (Same.free sm hp) (sm.trans sp) upd_same (hL.kept sp.ls)
end
section
variable {P : Program} {w : World} {K : PySem.W.Frag} {mg : Str -> Option Value} {base : Heap} {AA : Adr} {DD : Fds}
noncomputable def Asc (z : Str) : Prop := ∀ c ∈ z.cps.toList, c < 128
theorem getD_asc {ns : List Str} (h : ∀ z ∈ ns, Asc z) (j : Nat) : Asc (ns.getD j "") := by
 rw [List.getD_eq_getElem?_getD]
 cases e : ns[j]? with
 | none => show Asc (Str.ofString ""); unfold Asc; decide +kernel
 | some d => exact h d (List.mem_of_getElem? e)
noncomputable def exD : Ex -> PyData
 | .num n => .tuple [.str "num", .int n]
 | .truth z => .tuple [.str "truth", .str z]
 | .name z => .tuple [.str "name", .str z]
 | .not e => .tuple [.str "not", exD e]
 | .op w a b => .tuple [.str w, exD a, exD b]
 | .of _ _ => .none
 | .many _ _ _ => .none
noncomputable def ExA : Ex -> Prop
 | .num _ => True
 | .truth z => Asc z
 | .name z => Asc z
 | .not e => ExA e
 | .op w a b => Asc w /\ ExA a /\ ExA b
 | .of _ _ => False
 | .many _ _ _ => False
theorem ex_rdv {K : PySem.W.Frag} {H : Hp} : ∀ {e : Ex} {v : V}, ExA e -> ExAt H v e -> Rdv K H v (exD e)
 | .num n, v, _, h => by cases h with | num h => exact .tup (SqT.of h) (.cons (.str _) (.cons (.int _) .nil))
 | .truth z, v, _, h => by cases h with | truth h => exact .tup (SqT.of h) (.cons (.str _) (.cons (.str _) .nil))
 | .name z, v, _, h => by cases h with | name h => exact .tup (SqT.of h) (.cons (.str _) (.cons (.str _) .nil))
 | .not e, v, p, h => by cases h with | not h a => exact .tup (SqT.of h) (.cons (.str _) (.cons (ex_rdv p a) .nil))
 | .op w a b, v, p, h => by cases h with | op h x y => exact .tup (SqT.of h) (.cons (.str _) (.cons (ex_rdv p.2.1 x) (.cons (ex_rdv p.2.2 y) .nil)))
 | .of _ _, v, p, _ => p.elim
 | .many _ _ _, v, p, _ => p.elim
theorem ex_shd : ∀ (e : Ex), ExA e -> Shd (e.deep + 1) (exD e)
 | .num n, _ => Shd.tuple (n := 0) fun d hd => by
  simp only [List.mem_cons, List.not_mem_nil, or_false] at hd
  rcases hd with rfl | rfl
  ·exact .str (by decide +kernel)
  ·exact .int _
 | .truth z, h => Shd.tuple (n := 0) fun d hd => by
  simp only [List.mem_cons, List.not_mem_nil, or_false] at hd
  rcases hd with rfl | rfl
  ·exact .str (by decide +kernel)
  ·exact .str h
 | .name z, h => Shd.tuple (n := 0) fun d hd => by
  simp only [List.mem_cons, List.not_mem_nil, or_false] at hd
  rcases hd with rfl | rfl
  ·exact .str (by decide +kernel)
  ·exact .str h
 | .not e, h => Shd.tuple fun d hd => by
  simp only [List.mem_cons, List.not_mem_nil, or_false] at hd
  rcases hd with rfl | rfl
  ·exact (Shd.str (by decide +kernel)).up (Nat.zero_le _)
  ·exact ex_shd e h
 | .op w a b, h => Shd.tuple fun d hd => by
  simp only [List.mem_cons, List.not_mem_nil, or_false] at hd
  rcases hd with rfl | rfl | rfl
  ·exact (Shd.str h.1).up (Nat.zero_le _)
  ·exact (ex_shd a h.2.1).up (by show _ <= max a.deep b.deep + 1; omega)
  ·exact (ex_shd b h.2.2).up (by show _ <= max a.deep b.deep + 1; omega)
 | .of _ _, h => h.elim
 | .many _ _ _, h => h.elim
mutual
noncomputable def trD : Tr -> PyData
 | .set r n e => .tuple [.str "set", .int ((r : Nat) : Int), .str n, exD e]
 | .tell r e => .tuple [.str "tell", .int ((r : Nat) : Int), exD e]
 | .iff r e b o => .tuple [.str "if", .int ((r : Nat) : Int), exD e, .list (trsD b), .list (trsD o)]
 | .whl r e b => .tuple [.str "while", .int ((r : Nat) : Int), exD e, .list (trsD b)]
noncomputable def trsD : List Tr -> List PyData
 | [] => []
 | t :: ts => trD t :: trsD ts
end
noncomputable def RwA (x : Nat × Ex × Option Str) : Prop := ExA x.2.1 /\ x.2.1.deep < 8 /\ ∀ n, x.2.2 = some n -> Asc n
mutual
theorem tr_rdv {K : PySem.W.Frag} {H : Hp} : ∀ {t : Tr} {v : V}, (∀ x ∈ t.flat, RwA x) -> SAt H false v t -> Rdv K H v (trD t)
 | .set r n e, v, p, h => by
  have pe := (p (r, e, some n) (by simp [Tr.flat])).1
  cases h with
  | mk h a =>
  cases a with
  | cons a1 a =>
  cases a with
  | cons a2 a =>
  cases a with
  | cons a3 a =>
  cases a with
  | cons a4 a =>
  cases a
  cases a1
  cases a2
  cases a3
  cases a4 with
  | e q => exact .tup (SqT.of h) (.cons (.str _) (.cons (.int _) (.cons (.str _) (.cons (ex_rdv pe q) .nil))))
 | .tell r e, v, p, h => by
  have pe := (p (r, e, none) (by simp [Tr.flat])).1
  cases h with
  | mk h a =>
  cases a with
  | cons a1 a =>
  cases a with
  | cons a2 a =>
  cases a with
  | cons a3 a =>
  cases a
  cases a1
  cases a2
  cases a3 with
  | e q => exact .tup (SqT.of h) (.cons (.str _) (.cons (.int _) (.cons (ex_rdv pe q) .nil)))
 | .iff r e b o, v, p, h => by
  have pe := (p (r, e, none) (by simp [Tr.flat])).1
  cases h with
  | mk h a =>
  cases a with
  | cons a1 a =>
  cases a with
  | cons a2 a =>
  cases a with
  | cons a3 a =>
  cases a with
  | cons a4 a =>
  cases a with
  | cons a5 a =>
  cases a
  cases a1
  cases a2
  cases a3 with
  | e q =>
  cases a4 with
  | b l4 x4 =>
  cases a5 with
  | b l5 x5 =>
  exact .tup (SqT.of h) (.cons (.str _) (.cons (.int _) (.cons (ex_rdv pe q) (.cons (.lst (SqL.of l4) (trs_rdv (fun x hx => p x (by simp [Tr.flat, hx])) x4)) (.cons (.lst (SqL.of l5) (trs_rdv (fun x hx => p x (by simp [Tr.flat, hx])) x5)) .nil)))))
 | .whl r e b, v, p, h => by
  have pe := (p (r, e, none) (by simp [Tr.flat])).1
  cases h with
  | mk h a =>
  cases a with
  | cons a1 a =>
  cases a with
  | cons a2 a =>
  cases a with
  | cons a3 a =>
  cases a with
  | cons a4 a =>
  cases a
  cases a1
  cases a2
  cases a3 with
  | e q =>
  cases a4 with
  | b l4 x4 =>
  exact .tup (SqT.of h) (.cons (.str _) (.cons (.int _) (.cons (ex_rdv pe q) (.cons (.lst (SqL.of l4) (trs_rdv (fun x hx => p x (by simp [Tr.flat, hx])) x4)) .nil))))
theorem trs_rdv {K : PySem.W.Frag} {H : Hp} : ∀ {ts : List Tr} {vs : List V}, (∀ x ∈ flats ts, RwA x) -> LAt H false vs ts -> RdvA K H vs (trsD ts)
 | [], _, _, h => by cases h; exact .nil
 | t :: ts, _, p, h => by
  cases h with
  | cons a b =>
  cases a with
  | plain _ a => exact .cons (tr_rdv (fun x hx => p x (by simp [flats, hx])) a) (trs_rdv (fun x hx => p x (by simp [flats, hx])) b)
  | shared e _ _ => cases e
end
mutual
theorem tr_shd : ∀ (t : Tr), (∀ x ∈ t.flat, RwA x) -> Shd (2 * t.deep + 11) (trD t)
 | .set r n e, p => by
  have pe := p (r, e, some n) (by simp [Tr.flat])
  refine Shd.tuple (n := 2 * (Tr.set r n e).deep + 10) fun d hd => ?_
  simp only [List.mem_cons, List.not_mem_nil, or_false] at hd
  rcases hd with rfl | rfl | rfl | rfl
  ·exact (Shd.str (by decide +kernel)).up (Nat.zero_le _)
  ·exact (Shd.int _).up (Nat.zero_le _)
  ·exact (Shd.str (pe.2.2 n rfl)).up (Nat.zero_le _)
  ·exact (ex_shd e pe.1).up (by have := pe.2.1; show e.deep + 1 <= _; have : e.deep < 8 := pe.2.1; omega)
 | .tell r e, p => by
  have pe := p (r, e, none) (by simp [Tr.flat])
  refine Shd.tuple (n := 2 * (Tr.tell r e).deep + 10) fun d hd => ?_
  simp only [List.mem_cons, List.not_mem_nil, or_false] at hd
  rcases hd with rfl | rfl | rfl
  ·exact (Shd.str (by decide +kernel)).up (Nat.zero_le _)
  ·exact (Shd.int _).up (Nat.zero_le _)
  ·exact (ex_shd e pe.1).up (by have : e.deep < 8 := pe.2.1; omega)
 | .iff r e b o, p => by
  have pe := p (r, e, none) (by simp [Tr.flat])
  have hb := trs_shd b fun x hx => p x (by simp [Tr.flat, hx])
  have ho := trs_shd o fun x hx => p x (by simp [Tr.flat, hx])
  have hd : (Tr.iff r e b o).deep = max (deeps b) (deeps o) := by simp [Tr.deep]
  refine Shd.tuple (n := 2 * (Tr.iff r e b o).deep + 10) fun d hd2 => ?_
  rw [hd]
  simp only [List.mem_cons, List.not_mem_nil, or_false] at hd2
  rcases hd2 with rfl | rfl | rfl | rfl | rfl
  ·exact (Shd.str (by decide +kernel)).up (Nat.zero_le _)
  ·exact (Shd.int _).up (Nat.zero_le _)
  ·exact (ex_shd e pe.1).up (by have : e.deep < 8 := pe.2.1; omega)
  ·exact (Shd.list hb).up (by omega)
  ·exact (Shd.list ho).up (by omega)
 | .whl r e b, p => by
  have pe := p (r, e, none) (by simp [Tr.flat])
  have hb := trs_shd b fun x hx => p x (by simp [Tr.flat, hx])
  have hd : (Tr.whl r e b).deep = deeps b := by simp [Tr.deep]
  refine Shd.tuple (n := 2 * (Tr.whl r e b).deep + 10) fun d hd2 => ?_
  rw [hd]
  simp only [List.mem_cons, List.not_mem_nil, or_false] at hd2
  rcases hd2 with rfl | rfl | rfl | rfl
  ·exact (Shd.str (by decide +kernel)).up (Nat.zero_le _)
  ·exact (Shd.int _).up (Nat.zero_le _)
  ·exact (ex_shd e pe.1).up (by have : e.deep < 8 := pe.2.1; omega)
  ·exact (Shd.list hb).up (by omega)
theorem trs_shd : ∀ (ts : List Tr), (∀ x ∈ flats ts, RwA x) -> ∀ d ∈ trsD ts, Shd (2 * deeps ts + 9) d
 | [], _, d, h => by simp [trsD] at h
 | t :: ts, p, d, h => by
  have hd : deeps (t :: ts) = max (t.deep + 1) (deeps ts) := by simp [deeps]
  rw [hd]
  rcases List.mem_cons.mp (show d ∈ trD t :: trsD ts from by simpa [trsD] using h) with rfl | h
  ·exact (tr_shd t fun x hx => p x (by simp [flats, hx])).up (by omega)
  ·exact (trs_shd ts (fun x hx => p x (by simp [flats, hx])) d h).up (by omega)
end
theorem ops_asc : ∀ z ∈ ops7, Asc z := by unfold Asc; decide +kernel
theorem yn_asc : ∀ z ∈ yn2, Asc z := by unfold Asc; decide +kernel
theorem word_in : ∀ z ∈ op3 ++ op5, z = "not" ∨ z ∈ ops7 := by decide +kernel
theorem getD_in {ns : List Str} {j : Nat} (h : j < ns.length) : ns.getD j "" ∈ ns := by
 rw [List.getD_eq_getElem?_getD, List.getElem?_eq_getElem h]
 exact List.getElem_mem h
theorem wordE_ok (x : Int) (wn : Str) : wordE x wn = "not" ∨ wordE x wn ∈ ops7 := by
 unfold wordE
 split
 ·exact word_in _ (List.mem_append_left _ (getD_in (by show (x / 8 % 3).toNat < 3; omega)))
 ·exact word_in _ (List.mem_append_right _ (getD_in (by show (x / 8 % 5).toNat < 5; omega)))
theorem leafK_ok (x : Int) (wn : Str) : (leafK x wn).plain /\ noN (leafK x wn) /\ (leafK x wn).deep = 0 /\ ExA (leafK x wn) := by
 unfold leafK
 split
 ·exact ⟨trivial, trivial, rfl, trivial⟩
 ·exact ⟨trivial, trivial, rfl, getD_asc yn_asc _⟩
theorem exK_ok : ∀ (d : Nat) (x : Int) (wn : Str), (exK d x wn).plain /\ noN (exK d x wn) /\ (exK d x wn).deep <= d /\ ExA (exK d x wn)
 | 0, x, wn => by
  obtain ⟨a, b, c, e⟩ := leafK_ok x (wantE x wn)
  exact ⟨a, b, Nat.le_of_eq c, e⟩
 | d + 1, x, wn => by
  unfold exK
  split
  ·obtain ⟨a, b, c, e⟩ := leafK_ok x (wantE x wn)
   exact ⟨a, b, by omega, e⟩
  ·obtain ⟨a1, b1, c1, e1⟩ := exK_ok d (mixI x 1) (partE (wordE x (wantE x wn)))
   obtain ⟨a2, b2, c2, e2⟩ := exK_ok d (mixI x 2) (partE (wordE x (wantE x wn)))
   split
   ·exact ⟨a1, b1, by simp only [Ex.deep]; omega, e1⟩
   ·rename_i hn
    have hw := (wordE_ok x (wantE x wn)).resolve_left hn
    exact ⟨⟨hw, a1, a2⟩, ⟨b1, b2⟩, by simp only [Ex.deep]; omega, ops_asc _ hw, e1, e2⟩
theorem exprE_ok (x : Int) : (exprE x).plain /\ noN (exprE x) /\ (exprE x).deep < 8 /\ ExA (exprE x) := by
 unfold exprE
 obtain ⟨a, b, c, e⟩ := exK_ok (x / 8 % 6).toNat (mixI x 3) (kin2.getD (x / 4 % 2).toNat "")
 exact ⟨a, b, by omega, e⟩
theorem rowX_cases (x : Int) (a : Nat) : rowX x a = .tell a (exprE x) ∨ rowX x a = .whl a (exprE x) [] ∨ (∃ y, rowX x a = .iff a (exprE x) [] [.tell (a + 2) (exprE y)]) ∨ rowX x a = .iff a (exprE x) [] [] := by
 unfold rowX
 split
 ·exact .inl rfl
 ·split
  ·exact .inr (.inl rfl)
  ·split
   ·exact .inr (.inr (.inl ⟨_, rfl⟩))
   ·exact .inr (.inr (.inr rfl))
theorem rowX_row (x : Int) (a : Nat) : (rowX x a).row = a := by
 rcases rowX_cases x a with h | h | ⟨y, h⟩ | h <;> rw [h] <;> rfl
theorem rowX_deep (x : Int) (a : Nat) : (rowX x a).deep <= 1 := by
 rcases rowX_cases x a with h | h | ⟨y, h⟩ | h <;> rw [h] <;> simp [Tr.deep, deeps]
theorem rowX_flat (x : Int) (a : Nat) : (rowX x a).flat.length <= 2 /\ ∀ z ∈ (rowX x a).flat, z.2.2 = none /\ ∃ y, z.2.1 = exprE y := by
 rcases rowX_cases x a with h | h | ⟨y, h⟩ | h <;> rw [h] <;> refine ⟨by simp [Tr.flat, flats], fun z hz => ?_⟩
 ·have hz : z = (a, exprE x, none) := by simpa [Tr.flat, flats] using hz
  rw [hz]; exact ⟨rfl, _, rfl⟩
 ·have hz : z = (a, exprE x, none) := by simpa [Tr.flat, flats] using hz
  rw [hz]; exact ⟨rfl, _, rfl⟩
 ·have hz : z = (a, exprE x, none) ∨ z = (a + 2, exprE y, none) := by simpa [Tr.flat, flats] using hz
  rcases hz with hz | hz <;> rw [hz] <;> exact ⟨rfl, _, rfl⟩
 ·have hz : z = (a, exprE x, none) := by simpa [Tr.flat, flats] using hz
  rw [hz]; exact ⟨rfl, _, rfl⟩
theorem rowX_asc (x : Int) (a : Nat) : (rowX x a).asc := by
 have p := (exprE_ok x).1
 rcases rowX_cases x a with h | h | ⟨y, h⟩ | h <;> rw [h]
 ·exact p
 ·exact ⟨p, Nat.zero_le _, trivial⟩
 ·refine ⟨p, ⟨Nat.zero_le _, trivial⟩, by simp, ?_⟩
  exact ⟨(exprE_ok y).1, fun u hu => by simp at hu, trivial⟩
 ·exact ⟨p, ⟨Nat.zero_le _, trivial⟩, Nat.zero_le _, trivial⟩
theorem kk_inj {r s : Nat} {z w : Str} (h : kk r z = kk s w) : r = s /\ z = w := by
 unfold kk at h
 injection h with h1 h2
 injection h2 with h2 _
 injection h1 with h1
 injection h2 with h2
 exact ⟨by omega, h2⟩
theorem rowD_all (t : Tr) : (rowD t).Nodup /\ (rowD t).length <= 2 /\ ∀ k ∈ rowD t, ∃ w, k = kk t.row w := by
 have hk : ((if wrE t.ex = true then [kk t.row "kind"] else []) = [] ∨ (if wrE t.ex = true then [kk t.row "kind"] else []) = [kk t.row "kind"]) := by
  by_cases h : wrE t.ex = true
  ·exact .inr (if_pos h)
  ·exact .inl (if_neg h)
 have ht : truD t = [] ∨ truD t = [kk t.row "truth"] := by
  unfold truD
  split
  ·exact .inl rfl
  ·split
   ·exact .inl rfl
   ·exact .inr rfl
 unfold rowD
 have hne : kk t.row "kind" ≠ kk t.row "truth" := fun z => absurd (kk_inj z).2 (by decide +kernel)
 rcases hk with e | e <;> rcases ht with f | f <;> rw [e, f]
 ·exact ⟨by simp, by simp, fun k h => by simp at h⟩
 ·exact ⟨by simp, by simp, fun k h => ⟨_, by simpa using h⟩⟩
 ·exact ⟨by simp, by simp, fun k h => ⟨_, by simpa using h⟩⟩
 ·refine ⟨by simpa using hne, by simp, fun k h => ?_⟩
  rcases (by simpa using h : k = _ ∨ k = _) with h | h
  ·exact ⟨_, h⟩
  ·exact ⟨_, h⟩
theorem tell_due (r : Nat) (e : Ex) : dueT (.tell r e) = [] ∨ dueT (.tell r e) = [kk r "kind"] := by
 unfold dueT rowD truD
 by_cases h : wrE e = true
 ·exact .inr (by rw [show (Tr.tell r e).ex = e from rfl, if_pos h]; rfl)
 ·exact .inl (by rw [show (Tr.tell r e).ex = e from rfl, if_neg h]; rfl)
theorem rowX_due (x : Int) (a : Nat) : (dueT (rowX x a)).Nodup /\ (dueT (rowX x a)).length <= 3 /\ ∀ k ∈ dueT (rowX x a), ∃ r w, k = kk r w /\ a <= r /\ r < a + 3 := by
 have one : ∀ t : Tr, t.row = a -> (rowD t).Nodup /\ (rowD t).length <= 3 /\ ∀ k ∈ rowD t, ∃ r w, k = kk r w /\ a <= r /\ r < a + 3 := fun t ht => by
  obtain ⟨h1, h2, h3⟩ := rowD_all t
  refine ⟨h1, by omega, fun k hk => ?_⟩
  obtain ⟨w, e⟩ := h3 k hk
  exact ⟨a, w, by rw [e, ht], by omega, by omega⟩
 rcases rowX_cases x a with h | h | ⟨y, h⟩ | h <;> rw [h]
 ·exact one (.tell a (exprE x)) rfl
 ·have e : dueT (.whl a (exprE x) []) = rowD (.whl a (exprE x) []) := by simp [dueT, dues]
  rw [e]; exact one _ rfl
 ·have e : dueT (.iff a (exprE x) [] [.tell (a + 2) (exprE y)]) = rowD (.iff a (exprE x) [] [.tell (a + 2) (exprE y)]) ++ dueT (.tell (a + 2) (exprE y)) := by simp [dueT, dues]
  rw [e]
  obtain ⟨h1, h2, h3⟩ := rowD_all (.iff a (exprE x) [] [.tell (a + 2) (exprE y)])
  have h3' : ∀ k ∈ rowD (.iff a (exprE x) [] [.tell (a + 2) (exprE y)]), ∃ w, k = kk a w := h3
  rcases tell_due (a + 2) (exprE y) with q | q <;> rw [q]
  ·rw [List.append_nil]; exact one _ rfl
  ·refine ⟨?_, by rw [List.length_append]; simp; omega, fun k hk => ?_⟩
   ·rw [List.nodup_append]
    refine ⟨h1, by simp, fun k hk l hl => ?_⟩
    obtain ⟨w, e⟩ := h3' k hk
    rw [show l = kk (a + 2) "kind" by simpa using hl, e]
    intro z
    have := (kk_inj z).1
    omega
   ·rcases List.mem_append.mp hk with hk | hk
    ·obtain ⟨w, e⟩ := h3' k hk
     exact ⟨a, w, e, by omega, by omega⟩
    ·exact ⟨a + 2, _, by simpa using hk, by omega, by omega⟩
 ·have e : dueT (.iff a (exprE x) [] []) = rowD (.iff a (exprE x) [] []) := by simp [dueT, dues]
  rw [e]; exact one _ rfl
noncomputable def treeO : Nat -> List Int -> List Tr
 | _, [] => []
 | k, c :: cs => rowX (mixI c k) (3 * k) :: treeO (k + 1) cs
theorem treeO_idx : ∀ (cs : List Int) (k : Nat), (cs.mapIdx fun i c => rowX (mixI c ((i + k : Nat) : Int)) (3 * (i + k))) = treeO k cs
 | [], k => rfl
 | c :: cs, k => by
  rw [List.mapIdx_cons, treeO, <- treeO_idx cs (k + 1)]
  have e : (fun i (c : Int) => rowX (mixI c ((i + 1 + k : Nat) : Int)) (3 * (i + 1 + k))) = fun i c => rowX (mixI c ((i + (k + 1) : Nat) : Int)) (3 * (i + (k + 1))) := by
   funext i c
   rw [show i + 1 + k = i + (k + 1) by omega]
  rw [e, Nat.zero_add]
theorem treeX_O (cs : List Int) : treeX cs = treeO 0 cs := treeO_idx cs 0
theorem treeO_all : ∀ (cs : List Int) (k : Nat), deeps (treeO k cs) <= 2 /\ (treeO k cs).length = cs.length /\ ascs (treeO k cs) /\ (∀ t ∈ treeO k cs, 3 * k <= t.row) /\ (flats (treeO k cs)).length <= 2 * cs.length /\ (∀ z ∈ flats (treeO k cs), z.2.2 = none /\ ∃ y, z.2.1 = exprE y) /\
  (dues (treeO k cs)).Nodup /\ (dues (treeO k cs)).length <= 3 * cs.length /\ ∀ d ∈ dues (treeO k cs), ∃ r w, d = kk r w /\ 3 * k <= r
 | [], k => ⟨by simp [treeO, deeps], rfl, trivial, fun t h => by simp [treeO] at h, by simp [treeO, flats], fun z h => by simp [treeO, flats] at h, by simp [treeO, dues], by simp [treeO, dues], fun d h => by simp [treeO, dues] at h⟩
 | c :: cs, k => by
  obtain ⟨h1, h2, h3, h4, h5, h6, h7, h8, h9⟩ := treeO_all cs (k + 1)
  obtain ⟨f1, f2⟩ := rowX_flat (mixI c k) (3 * k)
  obtain ⟨d1, d2, d3⟩ := rowX_due (mixI c k) (3 * k)
  have hd := rowX_deep (mixI c k) (3 * k)
  have hr := rowX_row (mixI c k) (3 * k)
  have ha := rowX_asc (mixI c k) (3 * k)
  rw [treeO]
  generalize rowX (mixI c k) (3 * k) = t at f1 f2 d1 d2 d3 hd hr ha
  generalize treeO (k + 1) cs = ts at h1 h2 h3 h4 h5 h6 h7 h8 h9
  refine ⟨by rw [deeps]; omega, by simp [h2], ⟨ha, fun u hu => by have := h4 u hu; omega, h3⟩, fun u hu => ?_, by rw [flats, List.length_append, List.length_cons]; omega, fun z hz => ?_, ?_, by rw [dues, List.length_append, List.length_cons]; omega, fun d hdd => ?_⟩
  ·rcases List.mem_cons.mp hu with e | e
   ·rw [e]; omega
   ·have := h4 u e; omega
  ·rw [flats] at hz
   exact (List.mem_append.mp hz).elim (f2 z) (h6 z)
  ·rw [dues, List.nodup_append]
   refine ⟨d1, h7, fun x hx y hy e => ?_⟩
   obtain ⟨r, w, e1, _, q1⟩ := d3 x hx
   obtain ⟨r', w', e2, q2⟩ := h9 y hy
   rw [e1, e2] at e
   have := (kk_inj e).1
   omega
  ·rw [dues] at hdd
   rcases List.mem_append.mp hdd with q | q
   ·obtain ⟨r, w, e1, q1, _⟩ := d3 d q
    exact ⟨r, w, e1, q1⟩
   ·obtain ⟨r, w, e1, q1⟩ := h9 d q
    exact ⟨r, w, e1, by omega⟩
theorem tree_ok {cs : List Int} (h : cs.length <= 12) : KOk (treeX cs) /\ (dues (treeX cs)).Nodup /\ (dues (treeX cs)).length <= 36 /\ (∀ x ∈ flats (treeX cs), RwA x) /\ deeps (treeX cs) <= 2 := by
 rw [treeX_O]
 obtain ⟨h1, h2, h3, h4, h5, h6, h7, h8, h9⟩ := treeO_all cs 0
 refine ⟨⟨by omega, by omega, h3, fun x hx => ?_, by omega⟩, h7, by omega, fun x hx => ?_, h1⟩
 ·obtain ⟨e1, y, e2⟩ := h6 x hx
  obtain ⟨a, b, c, _⟩ := exprE_ok y
  exact ⟨e1, by rw [e2]; exact b, by rw [e2]; exact c⟩
 ·obtain ⟨e1, y, e2⟩ := h6 x hx
  obtain ⟨a, b, c, d⟩ := exprE_ok y
  exact ⟨by rw [e2]; exact d, by rw [e2]; exact c, fun n hn => by rw [e1] at hn; cases hn⟩
noncomputable def kD1 : Key -> PyData
 | .inl i => .int i
 | .inr z => .str z
noncomputable def kD (k : List Key) : PyData := .tuple (k.map kD1)
theorem kD1_eqv (a b : Key) : PyData.eqv (kD1 a) (kD1 b) = decide (a = b) := by
 cases a <;> cases b <;> simp [kD1, PyData.eqv, Bool.beq_eq_decide_eq]
theorem kDs_eqv : ∀ a b : List Key, PyData.eqvAll (a.map kD1) (b.map kD1) = decide (a = b)
 | [], [] => by simp [PyData.eqvAll]
 | [], _ :: _ => by simp [PyData.eqvAll]
 | _ :: _, [] => by simp [PyData.eqvAll]
 | x :: a, y :: b => by
  have ih := kDs_eqv a b
  simp only [List.map_cons, PyData.eqvAll, kD1_eqv, ih]
  by_cases h1 : x = y <;> by_cases h2 : a = b <;> simp [h1, h2]
theorem kD_eqv (a b : List Key) : PyData.eqv (kD a) (kD b) = decide (a = b) := by
 unfold kD
 simp only [PyData.eqv]
 exact kDs_eqv a b
theorem rdv_keys {K : PySem.W.Frag} {H : Hp} : ∀ (k : List Key), RdvA K H (k.map kV) (k.map kD1)
 | [] => .nil
 | .inl i :: k => .cons (.int i) (rdv_keys k)
 | .inr z :: k => .cons (.str z) (rdv_keys k)
theorem rdv_tups {K : PySem.W.Frag} {H : Hp} : ∀ {xs : List V} {ds : List (List Key)}, TupsAt H xs ds -> RdvA K H xs (ds.map kD)
 | [], [], _ => .nil
 | [], _ :: _, h => by simp [TupsAt] at h
 | _ :: _, [], h => by simp [TupsAt] at h
 | x :: xs, d :: ds, h => by
  obtain ⟨t, rfl, ht⟩ := h.2 0 x d rfl rfl
  exact .cons (.tup (SqT.of ht) (rdv_keys d)) (rdv_tups ⟨by simpa using h.1, fun i y e a b => h.2 (i + 1) y e a b⟩)
theorem eqvAll_refl : ∀ ds : List (List Key), PyData.eqvAll (ds.map kD) (ds.map kD) = true
 | [] => by simp [PyData.eqvAll]
 | d :: ds => by simp [PyData.eqvAll, kD_eqv, eqvAll_refl ds]
mutual
theorem dueT_words (row : ∀ t : Tr, ∀ k ∈ rowD t, ∃ r w, k = kk r w /\ Asc w) : ∀ (t : Tr), ∀ k ∈ dueT t, ∃ r w, k = kk r w /\ Asc w
 | .set r n e, k, h => row _ k (by simpa only [dueT] using h)
 | .tell r e, k, h => row _ k (by simpa only [dueT] using h)
 | .iff r e b o, k, h => by
  rw [dueT] at h
  rcases List.mem_append.mp h with h | h
  ·exact row _ k h
  ·rcases List.mem_append.mp h with h | h
   ·exact dues_words row b k h
   ·exact dues_words row o k h
 | .whl r e b, k, h => by
  rw [dueT] at h
  rcases List.mem_append.mp h with h | h
  ·exact row _ k h
  ·exact dues_words row b k h
theorem dues_words (row : ∀ t : Tr, ∀ k ∈ rowD t, ∃ r w, k = kk r w /\ Asc w) : ∀ (ts : List Tr), ∀ k ∈ dues ts, ∃ r w, k = kk r w /\ Asc w
 | [], k, h => by simp [dues] at h
 | t :: ts, k, h => by
  rw [dues] at h
  rcases List.mem_append.mp h with h | h
  ·exact dueT_words row t k h
  ·exact dues_words row ts k h
end
theorem due_words : ∀ (ts : List Tr), (∀ k ∈ dues ts, ∃ r w, k = kk r w /\ Asc w) := by
 have row : ∀ t : Tr, ∀ k ∈ rowD t, ∃ r w, k = kk r w /\ Asc w := fun t k hk => by
  unfold rowD at hk
  rcases List.mem_append.mp hk with q | q
  ·split at q
   ·exact ⟨_, "kind", by simpa using q, by unfold Asc; decide +kernel⟩
   ·cases q
  ·unfold truD at q
   split at q
   ·cases q
   ·split at q
    ·cases q
    ·exact ⟨_, "truth", by simpa using q, by unfold Asc; decide +kernel⟩
 exact dues_words row
theorem kk_shd {k : List Key} (h : ∃ r w, k = kk r w /\ Asc w) : Shd 1 (kD k) := by
 obtain ⟨r, z, rfl, hz⟩ := h
 refine Shd.tuple fun d hd => ?_
 simp only [kk, List.map_cons, List.map_nil, List.mem_cons, List.not_mem_nil, or_false] at hd
 rcases hd with rfl | rfl
 ·exact .int _
 ·exact .str hz
end
section
variable {P : Program} {w : World} {K : PySem.W.Frag} {mg : Str -> Option Value} {base : Heap} {AA : Adr} {DD : Fds}
noncomputable def spLaw (K : PySem.W.Frag) : Sp := fun vs H Q _ => ∃ (a : Addr) (ns : List Int), vs = [.ref a] /\ SqL K H a (ns.map V.int) /\ ns.length <= 63 /\ ∀ H', Q (.bl true) H'
theorem srtK_len (fs : List (List Key)) : (srtK fs).length = fs.length := by
 unfold srtK
 rw [List.length_map, srtI_len]
theorem kOk_nil : KOk [] := ⟨by simp [deeps], by simp, trivial, fun x h => by simp [flats] at h, by simp [flats]⟩
noncomputable abbrev N_law : List Str := ["_law_script", "_law_tree_here", "_law_found"]
theorem sc_law : FnScope N_law ["_law_script"] (defScope st_law) := ⟨rfl, rfl, rfl, by decide +kernel, rfl, by decide +kernel, by decide +kernel⟩
theorem ok_law (T : All P w K mg AA DD) {f : Addr} {fd : FuncData} (F : Fun K "law" "law" st_law f fd) : FnOk P w K mg base CX0 40 f fd ["_law_script"] (spLaw K) := by
 have GTR := ok_tree (base := base) T
 have GPK := ok_pk (base := base) T
 have GDU := ok_du (base := base) T 6
 refine F.ok sc_law (fun vs H Q E h => ?_) (fun cdv A outer s H vs Q E hr h => ?_)
 ·obtain ⟨a, ns, rfl, _⟩ := h
  rfl
 ·obtain ⟨a, is, rfl, hS, hlen, kq⟩ := h
  have nd := sc_law.nd
  have hu := hr.units
  have hrT : Room 11 _ := hr.mono (by decide)
  have hrP : Room 29 _ := hr.mono (by decide)
  have hrD : Room (6 + 9) _ := hr.mono (by decide)
  refine ⟨_, (@pss_cons _ _ _ _ _ (@ps_set _ _ 1 _ _ _ _ nd rfl (Or.inl rfl) (pe_call GTR hrT rfl T.m_Zbc T.k_Zbc T.b_Zbc .nil pass0 (@pa_cons _ _ _ _ _ (pv 0) pa_nil (by rfl))) (by rfl) (by first | exact .inl rfl | exact .inr rfl | assumption)) (@pss_cons _ _ _ _ _ (@ps_set _ _ 2 _ _ _ _ nd rfl (Or.inl rfl) (pe_call GPK hrP rfl T.m_Zo T.k_Zo T.b_Zo .nil pass0 (@pa_cons _ _ _ _ _ (pv 1) pa_nil (by rfl))) (by rfl) (by first | exact .inl rfl | exact .inr rfl | assumption)) (@pss_cons _ _ _ _ _ (@ps_if _ _ _ _ _ _ _ _ (PW.pt (pw_or (pt_not (pt_val (pe_callB (call_isinstK (K := K) (n := "list") rfl) rfl T.n_isinstance bt_isi (@pa_cons _ _ _ _ _ (pv 2) (@pa_cons _ _ _ _ _ (pe_bltn (v := .ty "list") rfl T.n_list bt_list rfl) pa_nil (by rfl)) (by rfl))))) (pw_or1 (@pt_cmpR _ _ _ _ _ _ _ _ (op_neD (K := K) rfl hu) (pe_comp (defScope st_law) N_law [] [] rfl (by exact ⟨rfl, rfl, by decide +kernel, rfl, by decide +kernel, by decide +kernel, by decide +kernel, rfl, by decide +kernel⟩) rfl rfl (pi_list (pv 2)) (fun _ _ _ _ => pif_one (pt_not (pt_val (pe_callB (call_isinstK (K := K) (n := "tuple") rfl) rfl T.n_isinstance bt_isi (pa_cons (pv 0) (pa_cons (pe_bltn (v := .ty "tuple") rfl T.n_tuple bt_tuple rfl) pa_nil)))))) (fun _ _ _ _ => (pv 0))) (@pe_lst _ _ _ _ pa_nil) (nomark _))))) (@pss_one _ _ _ (@ps_ret _ _ _ _ pe_bl)) pss_nil) (@pss_cons _ _ _ _ _ (@ps_if _ _ _ _ _ _ _ _ (PW.pt (pw_or (@pt_cmpR _ _ _ _ _ _ _ _ (op_neD (K := K) rfl hu) (pv 2) (pe_callB (call_sortedT (K := K) rfl) rfl T.n_sorted bt_sorted (@pa_cons _ _ _ _ _ (pe_call GDU hrD rfl T.m_Zbg T.k_Zbg T.b_Zbg .nil pass0 (@pa_cons _ _ _ _ _ (pv 1) pa_nil (by rfl))) pa_nil (by rfl))) (nomark _)) (pw_or1 (@pt_cmpR _ _ _ _ _ _ _ _ (op_neD (K := K) rfl hu) (pv 1) (pe_call GTR hrT rfl T.m_Zbc T.k_Zbc T.b_Zbc .nil pass0 (@pa_cons _ _ _ _ _ (pv 0) pa_nil (by rfl))) (nomark _))))) (@pss_one _ _ _ (@ps_ret _ _ _ _ pe_bl)) pss_nil) (@pss_cons _ _ _ _ _ (@ps_expr _ _ _ _ (pe_bm0 PySem.F.plainAttrs_list PySem.F.slot_list_clear PySem.F.type_list_clear mt_clear (pv 2)) (by rfl)) (@pss_one _ _ _ (@ps_ret _ _ _ _ (pe_and (@pe_cmpR _ _ _ _ _ _ _ _ (op_eqD (K := K) rfl hu) (pe_call GPK hrP rfl T.m_Zo T.k_Zo T.b_Zo .nil pass0 (@pa_cons _ _ _ _ _ (pv 1) pa_nil (by rfl))) (pe_callB (call_sortedT (K := K) rfl) rfl T.n_sorted bt_sorted (@pa_cons _ _ _ _ _ (pe_call GDU hrD rfl T.m_Zbg T.k_Zbg T.b_Zbg .nil pass0 (@pa_cons _ _ _ _ _ (pv 1) pa_nil (by rfl))) pa_nil (by rfl))) (nomark _)) (pe_one (@pe_cmpR _ _ _ _ _ _ _ _ (op_eqD (K := K) rfl hu) (pe_call GPK hrP rfl T.m_Zo T.k_Zo T.b_Zo .nil pass0 (@pa_cons _ _ _ _ _ (@pe_lst _ _ _ _ pa_nil) pa_nil (by rfl))) (@pe_lst _ _ _ _ pa_nil) (nomark _))))))))))), ?_⟩
  obtain ⟨hok, hnd, h36, hrw, hdp⟩ := tree_ok (cs := is.take 12) (by rw [List.length_take]; omega)
  have hshd : Shd 20 (.list (trsD (treeX (is.take 12)))) := (Shd.list (trs_shd _ hrw)).up (by omega)
  have efk := fK_due hnd
  have hwd := due_words (treeX (is.take 12))
  refine ⟨_, rfl, a, is, rfl, hS, fun l xs H1 hl0 s1 hl hL => ?_⟩
  generalize ets : treeX (is.take 12) = ts at hok hnd h36 hrw hdp hshd efk hwd hL
  dsimp only [gName]
  refine ⟨_, rfl, l, xs, ts, rfl, hl, hL, hok, by rw [efk]; omega, fun p ys H2 l2 hp hT hno => ?_⟩
  rw [efk] at hT
  have hkd : ∀ k ∈ srtK (dues ts), Shd 1 (kD k) := fun k hk => kk_shd (hwd k (srtK_mem hk))
  have shl : SeqAt.shaped (.list ((srtK (dues ts)).map kD)) = true := (Shd.list (n := 1) fun d hd => by obtain ⟨k, hk, rfl⟩ := List.mem_map.mp hd; exact hkd k hk).ok (by decide)
  have er : PyData.eqv (.list ((srtK (dues ts)).map kD)) (.list ((srtK (dues ts)).map kD)) = true := by simp only [PyData.eqv]; exact eqvAll_refl _
  have hsh : ∀ d ∈ dues ts, d.map isI = [true, false] := fun d hd => by
   obtain ⟨r, w, rfl, _⟩ := hwd d hd
   rfl
  dsimp only [gName]
  refine cut_if (fun σ' H' => Same H2 H' /\ σ' = [some (.ref a), some (.ref l), some (.ref p)]) (fun R hR => ?_) ?_
  ·refine ⟨_, rfl, .ref p, _, true, rfl, .lst hp, by rfl, _, rfl, iteF ?_⟩
   refine ⟨_, rfl, p, rfl, ⟨_, SqL.of hp⟩, ?_⟩
   refine comp_list (K := K) (a := p) (xs := ys) (fun i zs H' => H' = H2 /\ zs = []) ⟨rfl, rfl⟩ (fun i zs H' _ h => by rw [h.1]; exact SqL.of hp) ?_ ?_
   ·rintro i x zs H' hx ⟨rfl, rfl⟩
    obtain ⟨hi, ex⟩ := List.getElem?_eq_some_iff.mp hx
    have hik : i < (srtK (dues ts)).length := by rw [<- hT.1]; exact hi
    obtain ⟨t, rfl, ht⟩ := hT.2 i x _ hx (List.getElem?_eq_getElem hik)
    refine ⟨_, rfl, .ref t, _, true, rfl, .tup ht, by rfl, _, rfl, ?_⟩
    exact ⟨rfl, rfl⟩
   ·rintro zs H' ⟨rfl, rfl⟩ q hq
    have s3 := same_upd (o := .lst []) hq
    refine ⟨Nat.zero_le _, fun q2 hq2 => ?_⟩
    have s4 := same_upd (o := .lst []) hq2
    refine ⟨.list [], .list [], .lst (SqL.of (s4 _ _ upd_same)) .nil, .lst (SqL.of upd_same) .nil, by rfl, by rfl, _, rfl, ?_⟩
    exact iteF (hR _ _ ⟨s3.trans s4, rfl⟩)
  rintro σ' H3 ⟨s3, rfl⟩
  have hl3 := s3 _ _ (l2.2 _ _ hl)
  have hL3 := (hL.kept l2).kept s3.ls
  refine cut_if (fun σ' H' => Same H3 H' /\ σ' = [some (.ref a), some (.ref l), some (.ref p)]) (fun R hR => ?_) ?_
  ·refine ⟨_, rfl, _, rfl, l, xs, ts, rfl, hl3, hL3, by omega, hok.2.2.1, hok.2.2.2.1, by omega, fun q ds H4 hq0 s4 hq hD => ?_⟩
   refine ⟨q, ds, dues ts, [true, false], rfl, SqL.of hq, hD, hsh, by simp, fun p2 hp2 => ?_⟩
   have s5 := s4.trans (same_upd (o := .lst (srt (dues ts) ds)) hp2)
   have hT3 := TupsAt.same' (TupsAt.same' hT s3) s5
   have hD5 := TupsAt.same' (srt_tups hD) (same_upd (o := .lst (srt (dues ts) ds)) hp2)
   refine ⟨.list _, .list _, .lst (SqL.of (s5 _ _ (s3 _ _ hp))) (rdv_tups hT3), .lst (SqL.of upd_same) (rdv_tups hD5), shl, shl, _, rfl, ?_⟩
   rw [er]
   refine iteF ?_
   have hS5 : SqL K _ a (is.map V.int) := s5.ls.seq (s3.ls.seq (l2.seq (s1.ls.seq hS)))
   refine ⟨_, rfl, _, rfl, a, is, rfl, hS5, fun l' xs' H6 hl0' s6 hl' hL' => ?_⟩
   have hl6 := s6 _ _ (s5 _ _ hl3)
   refine ⟨.list (trsD ts), .list (trsD ts), .lst (SqL.of hl6) (trs_rdv hrw ((hL3.kept s5.ls).kept s6.ls)), .lst (SqL.of hl') (trs_rdv hrw (ets ▸ hL')), hshd.ok (by decide), hshd.ok (by decide), _, rfl, ?_⟩
   rw [hshd.refl]
   exact iteF (hR _ _ ⟨s5.trans s6, rfl⟩)
  rintro σ' H4 ⟨s4, rfl⟩
  have hp4 := s4 _ _ (s3 _ _ hp)
  refine ⟨_, rfl, .inl ⟨rfl, _, SqL.of hp4⟩, p, ys, rfl, rfl, hp4, ?_⟩
  have l5 := noLs_upd (o := .lst []) ((l2.trans s3.ls).trans s4.ls) hno
  generalize upd H4 p (.lst []) = H5 at l5 ⊢
  have hl5 := l5.2 _ _ hl
  have hL5 := hL.kept l5
  refine ⟨_, rfl, l, xs, ts, rfl, hl5, hL5, hok, by rw [efk]; omega, fun p6 ys6 H6 l6 hp6 hT6 _ => ?_⟩
  rw [efk] at hT6
  refine ⟨_, rfl, l, xs, ts, rfl, l6.2 _ _ hl5, hL5.kept l6, by omega, hok.2.2.1, hok.2.2.2.1, by omega, fun q ds H7 hq0 s7 hq hD => ?_⟩
  refine ⟨q, ds, dues ts, [true, false], rfl, SqL.of hq, hD, hsh, by simp, fun p2 hp2 => ?_⟩
  have s8 := s7.trans (same_upd (o := .lst (srt (dues ts) ds)) hp2)
  have hD8 := TupsAt.same' (srt_tups hD) (same_upd (o := .lst (srt (dues ts) ds)) hp2)
  refine ⟨.list _, .list _, .lst (SqL.of (s8 _ _ hp6)) (rdv_tups (TupsAt.same' hT6 s8)), .lst (SqL.of upd_same) (rdv_tups hD8), shl, shl, ?_⟩
  rw [er]
  refine ⟨true, rfl, iteT ?_⟩
  refine ⟨Nat.zero_le _, fun pe hpe => ?_⟩
  refine ⟨pe, [], [], rfl, upd_same, .nil, kOk_nil, by simp [fK, kfTs], fun p9 ys9 H9 l9 hp9 hT9 _ => ?_⟩
  have e9 : ys9 = [] := by
   have := hT9.1
   rw [srtK_len] at this
   exact List.eq_nil_of_length_eq_zero (by simpa [fK, kfTs] using this)
  subst e9
  refine ⟨Nat.zero_le _, fun pf hpf => ?_⟩
  have s10 := same_upd (o := .lst []) hpf
  exact ⟨.list [], .list [], .lst (SqL.of (s10 _ _ hp9)) .nil, .lst (SqL.of upd_same) .nil, by rfl, by rfl, kq _⟩
end
theorem all_mk {l : PySem.W.OpenLaw} {w : World} {K : PySem.W.Frag} {h : Heap} {mg : Str -> Option Value} {fa f_Zbk f_Zbd f_Zbh f_Zp f_Zbi f_Zq f_Zs f_Zi f_Zj f_Zt f_Zh f_Zu f_Zr f_Zy f_Zbe f_Zz f_Zbl f_Zv f_Zbj f_Zm f_Zo f_Zw f_Zba f_Zbb f_Zx f_Zbf f_Zbc f_Zbg f_Zk f_Zl f_Zb f_Zd f_Ze f_Zf f_Zn f_Zg f_Zc f_Za f_law c_KindLook d_MAKES d_ASKS q_PLAIN_KINDS : Addr} (X : K.In h) (G : h.Ns mainGlobals mg) (hfa : mg "law" = some (.ref fa))
  {od_Zbk an_Zbk od_Zbd an_Zbd od_Zbh an_Zbh od_Zp an_Zp od_Zbi an_Zbi od_Zq an_Zq od_Zs an_Zs od_Zi an_Zi od_Zj an_Zj od_Zt an_Zt od_Zh an_Zh od_Zu an_Zu od_Zr an_Zr od_Zy an_Zy od_Zbe an_Zbe od_Zz an_Zz od_Zbl an_Zbl od_Zv an_Zv od_Zbj an_Zbj od_Zm an_Zm od_Zo an_Zo od_Zw an_Zw od_Zba an_Zba od_Zbb an_Zbb od_Zx an_Zx od_Zbf an_Zbf od_Zbc an_Zbc od_Zbg an_Zbg od_Zk an_Zk od_Zl an_Zl od_Zb an_Zb od_Zd an_Zd od_Ze an_Ze od_Zf an_Zf od_Zn an_Zn od_Zg an_Zg od_Zc an_Zc od_Za an_Za od_law an_law : Option Addr} {sl_Zbk sl_Zbd sl_Zbh sl_Zp sl_Zbi sl_Zq sl_Zs sl_Zi sl_Zj sl_Zt sl_Zh sl_Zu sl_Zr sl_Zy sl_Zbe sl_Zz sl_Zbl sl_Zv sl_Zbj sl_Zm sl_Zo sl_Zw sl_Zba sl_Zbb sl_Zx sl_Zbf sl_Zbc sl_Zbg sl_Zk sl_Zl sl_Zb sl_Zd sl_Ze sl_Zf sl_Zn sl_Zg sl_Zc sl_Za sl_law : Array (Option Value)} {oc_Zbk kV_Zbk dc_Zbk pm_Zbk cd_Zbk ct_Zbk oc_Zbd kV_Zbd dc_Zbd pm_Zbd cd_Zbd ct_Zbd oc_Zbh kV_Zbh dc_Zbh pm_Zbh cd_Zbh ct_Zbh oc_Zp kV_Zp dc_Zp pm_Zp cd_Zp ct_Zp oc_Zbi kV_Zbi dc_Zbi pm_Zbi cd_Zbi ct_Zbi oc_Zq kV_Zq dc_Zq pm_Zq cd_Zq ct_Zq oc_Zs kV_Zs dc_Zs pm_Zs cd_Zs ct_Zs oc_Zi kV_Zi dc_Zi pm_Zi cd_Zi ct_Zi oc_Zj kV_Zj dc_Zj pm_Zj cd_Zj ct_Zj oc_Zt kV_Zt dc_Zt pm_Zt cd_Zt ct_Zt oc_Zh kV_Zh dc_Zh pm_Zh cd_Zh ct_Zh oc_Zu kV_Zu dc_Zu pm_Zu cd_Zu ct_Zu oc_Zr kV_Zr dc_Zr pm_Zr cd_Zr ct_Zr oc_Zy kV_Zy dc_Zy pm_Zy cd_Zy ct_Zy oc_Zbe kV_Zbe dc_Zbe pm_Zbe cd_Zbe ct_Zbe oc_Zz kV_Zz dc_Zz pm_Zz cd_Zz ct_Zz oc_Zbl kV_Zbl dc_Zbl pm_Zbl cd_Zbl ct_Zbl oc_Zv kV_Zv dc_Zv pm_Zv cd_Zv ct_Zv oc_Zbj kV_Zbj dc_Zbj pm_Zbj cd_Zbj ct_Zbj oc_Zm kV_Zm dc_Zm pm_Zm cd_Zm ct_Zm oc_Zo kV_Zo dc_Zo pm_Zo cd_Zo ct_Zo oc_Zw kV_Zw dc_Zw pm_Zw cd_Zw ct_Zw oc_Zba kV_Zba dc_Zba pm_Zba cd_Zba ct_Zba oc_Zbb kV_Zbb dc_Zbb pm_Zbb cd_Zbb ct_Zbb oc_Zx kV_Zx dc_Zx pm_Zx cd_Zx ct_Zx oc_Zbf kV_Zbf dc_Zbf pm_Zbf cd_Zbf ct_Zbf oc_Zbc kV_Zbc dc_Zbc pm_Zbc cd_Zbc ct_Zbc oc_Zbg kV_Zbg dc_Zbg pm_Zbg cd_Zbg ct_Zbg oc_Zk kV_Zk dc_Zk pm_Zk cd_Zk ct_Zk oc_Zl kV_Zl dc_Zl pm_Zl cd_Zl ct_Zl oc_Zb kV_Zb dc_Zb pm_Zb cd_Zb ct_Zb oc_Zd kV_Zd dc_Zd pm_Zd cd_Zd ct_Zd oc_Ze kV_Ze dc_Ze pm_Ze cd_Ze ct_Ze oc_Zf kV_Zf dc_Zf pm_Zf cd_Zf ct_Zf oc_Zn kV_Zn dc_Zn pm_Zn cd_Zn ct_Zn oc_Zg kV_Zg dc_Zg pm_Zg cd_Zg ct_Zg oc_Zc kV_Zc dc_Zc pm_Zc cd_Zc ct_Zc oc_Za kV_Za dc_Za pm_Za cd_Za ct_Za oc_law kV_law dc_law pm_law cd_law ct_law : Value}
  {h_MAKES_0 h_MAKES_1 h_MAKES_2 h_MAKES_3 h_MAKES_4 h_MAKES_5 h_MAKES_6 h_MAKES_7 h_MAKES_8 h_MAKES_9 : Int} {t_MAKES_0 u_MAKES_0 t_MAKES_1 u_MAKES_1 t_MAKES_2 u_MAKES_2 t_MAKES_3 u_MAKES_3 t_MAKES_4 u_MAKES_4 t_MAKES_5 u_MAKES_5 t_MAKES_6 u_MAKES_6 t_MAKES_7 u_MAKES_7 t_MAKES_8 u_MAKES_8 t_MAKES_9 u_MAKES_9 : Tok} {ep_MAKES : Nat}
  {h_ASKS_0 h_ASKS_1 h_ASKS_2 h_ASKS_3 h_ASKS_4 h_ASKS_5 h_ASKS_6 h_ASKS_7 : Int} {t_ASKS_0 u_ASKS_0 t_ASKS_1 u_ASKS_1 t_ASKS_2 u_ASKS_2 t_ASKS_3 u_ASKS_3 t_ASKS_4 u_ASKS_4 t_ASKS_5 u_ASKS_5 t_ASKS_6 u_ASKS_6 t_ASKS_7 u_ASKS_7 : Tok} {ep_ASKS : Nat}
  {t_PLAIN_KINDS_0 t_PLAIN_KINDS_1 : Tok} {od_PLAIN_KINDS : Option Addr} {n_PLAIN_KINDS : Nat} {sl_PLAIN_KINDS : Array (Option Value)}
  (aC_KindLook : PySem.W.nsIn K mainGlobals "KindLook" = some (some (.ref c_KindLook)))
  (a_Zbk : PySem.W.nsIn K mainGlobals "least" = some (some (.ref f_Zbk)))
  (l_Zbk : K.lookup f_Zbk = some ⟨oc_Zbk, od_Zbk, .func (PySem.W.fnOf "least" "least" (defArgs st_Zbk) (defBody st_Zbk) (defScope st_Zbk) .none kV_Zbk dc_Zbk pm_Zbk an_Zbk cd_Zbk ct_Zbk), sl_Zbk⟩)
  (c_Zbk' : PySem.W.codeIn K cd_Zbk "least" = true)
  (k_Zbk : PySem.W.keepIn K (.ref f_Zbk) = true)
  (a_Zbd : PySem.W.nsIn K mainGlobals "without" = some (some (.ref f_Zbd)))
  (l_Zbd : K.lookup f_Zbd = some ⟨oc_Zbd, od_Zbd, .func (PySem.W.fnOf "without" "without" (defArgs st_Zbd) (defBody st_Zbd) (defScope st_Zbd) .none kV_Zbd dc_Zbd pm_Zbd an_Zbd cd_Zbd ct_Zbd), sl_Zbd⟩)
  (c_Zbd' : PySem.W.codeIn K cd_Zbd "without" = true)
  (k_Zbd : PySem.W.keepIn K (.ref f_Zbd) = true)
  (a_Zbh : PySem.W.nsIn K mainGlobals "all_of" = some (some (.ref f_Zbh)))
  (l_Zbh : K.lookup f_Zbh = some ⟨oc_Zbh, od_Zbh, .func (PySem.W.fnOf "all_of" "all_of" (defArgs st_Zbh) (defBody st_Zbh) (defScope st_Zbh) .none kV_Zbh dc_Zbh pm_Zbh an_Zbh cd_Zbh ct_Zbh), sl_Zbh⟩)
  (c_Zbh' : PySem.W.codeIn K cd_Zbh "all_of" = true)
  (k_Zbh : PySem.W.keepIn K (.ref f_Zbh) = true)
  (a_Zp : PySem.W.nsIn K mainGlobals "kept_pairs" = some (some (.ref f_Zp)))
  (l_Zp : K.lookup f_Zp = some ⟨oc_Zp, od_Zp, .func (PySem.W.fnOf "kept_pairs" "kept_pairs" (defArgs st_Zp) (defBody st_Zp) (defScope st_Zp) .none kV_Zp dc_Zp pm_Zp an_Zp cd_Zp ct_Zp), sl_Zp⟩)
  (c_Zp' : PySem.W.codeIn K cd_Zp "kept_pairs" = true)
  (k_Zp : PySem.W.keepIn K (.ref f_Zp) = true)
  (a_Zbi : PySem.W.nsIn K mainGlobals "add_to" = some (some (.ref f_Zbi)))
  (l_Zbi : K.lookup f_Zbi = some ⟨oc_Zbi, od_Zbi, .func (PySem.W.fnOf "add_to" "add_to" (defArgs st_Zbi) (defBody st_Zbi) (defScope st_Zbi) .none kV_Zbi dc_Zbi pm_Zbi an_Zbi cd_Zbi ct_Zbi), sl_Zbi⟩)
  (c_Zbi' : PySem.W.codeIn K cd_Zbi "add_to" = true)
  (k_Zbi : PySem.W.keepIn K (.ref f_Zbi) = true)
  (a_Zq : PySem.W.nsIn K mainGlobals "with_masks" = some (some (.ref f_Zq)))
  (l_Zq : K.lookup f_Zq = some ⟨oc_Zq, od_Zq, .func (PySem.W.fnOf "with_masks" "with_masks" (defArgs st_Zq) (defBody st_Zq) (defScope st_Zq) .none kV_Zq dc_Zq pm_Zq an_Zq cd_Zq ct_Zq), sl_Zq⟩)
  (c_Zq' : PySem.W.codeIn K cd_Zq "with_masks" = true)
  (k_Zq : PySem.W.keepIn K (.ref f_Zq) = true)
  (a_Zs : PySem.W.nsIn K mainGlobals "kept_tree" = some (some (.ref f_Zs)))
  (l_Zs : K.lookup f_Zs = some ⟨oc_Zs, od_Zs, .func (PySem.W.fnOf "kept_tree" "kept_tree" (defArgs st_Zs) (defBody st_Zs) (defScope st_Zs) .none kV_Zs dc_Zs pm_Zs an_Zs cd_Zs ct_Zs), sl_Zs⟩)
  (c_Zs' : PySem.W.codeIn K cd_Zs "kept_tree" = true)
  (k_Zs : PySem.W.keepIn K (.ref f_Zs) = true)
  (a_Zi : PySem.W.nsIn K mainGlobals "kept_statement" = some (some (.ref f_Zi)))
  (l_Zi : K.lookup f_Zi = some ⟨oc_Zi, od_Zi, .func (PySem.W.fnOf "kept_statement" "kept_statement" (defArgs st_Zi) (defBody st_Zi) (defScope st_Zi) .none kV_Zi dc_Zi pm_Zi an_Zi cd_Zi ct_Zi), sl_Zi⟩)
  (c_Zi' : PySem.W.codeIn K cd_Zi "kept_statement" = true)
  (k_Zi : PySem.W.keepIn K (.ref f_Zi) = true)
  (a_Zj : PySem.W.nsIn K mainGlobals "row_and_least" = some (some (.ref f_Zj)))
  (l_Zj : K.lookup f_Zj = some ⟨oc_Zj, od_Zj, .func (PySem.W.fnOf "row_and_least" "row_and_least" (defArgs st_Zj) (defBody st_Zj) (defScope st_Zj) .none kV_Zj dc_Zj pm_Zj an_Zj cd_Zj ct_Zj), sl_Zj⟩)
  (c_Zj' : PySem.W.codeIn K cd_Zj "row_and_least" = true)
  (k_Zj : PySem.W.keepIn K (.ref f_Zj) = true)
  (a_Zt : PySem.W.nsIn K mainGlobals "shared_of" = some (some (.ref f_Zt)))
  (l_Zt : K.lookup f_Zt = some ⟨oc_Zt, od_Zt, .func (PySem.W.fnOf "shared_of" "shared_of" (defArgs st_Zt) (defBody st_Zt) (defScope st_Zt) .none kV_Zt dc_Zt pm_Zt an_Zt cd_Zt ct_Zt), sl_Zt⟩)
  (c_Zt' : PySem.W.codeIn K cd_Zt "shared_of" = true)
  (k_Zt : PySem.W.keepIn K (.ref f_Zt) = true)
  (a_Zh : PySem.W.nsIn K mainGlobals "shared_statement" = some (some (.ref f_Zh)))
  (l_Zh : K.lookup f_Zh = some ⟨oc_Zh, od_Zh, .func (PySem.W.fnOf "shared_statement" "shared_statement" (defArgs st_Zh) (defBody st_Zh) (defScope st_Zh) .none kV_Zh dc_Zh pm_Zh an_Zh cd_Zh ct_Zh), sl_Zh⟩)
  (c_Zh' : PySem.W.codeIn K cd_Zh "shared_statement" = true)
  (k_Zh : PySem.W.keepIn K (.ref f_Zh) = true)
  (a_Zu : PySem.W.nsIn K mainGlobals "blocks_of" = some (some (.ref f_Zu)))
  (l_Zu : K.lookup f_Zu = some ⟨oc_Zu, od_Zu, .func (PySem.W.fnOf "blocks_of" "blocks_of" (defArgs st_Zu) (defBody st_Zu) (defScope st_Zu) .none kV_Zu dc_Zu pm_Zu an_Zu cd_Zu ct_Zu), sl_Zu⟩)
  (c_Zu' : PySem.W.codeIn K cd_Zu "blocks_of" = true)
  (k_Zu : PySem.W.keepIn K (.ref f_Zu) = true)
  (a_Zr : PySem.W.nsIn K mainGlobals "first_rows" = some (some (.ref f_Zr)))
  (l_Zr : K.lookup f_Zr = some ⟨oc_Zr, od_Zr, .func (PySem.W.fnOf "first_rows" "first_rows" (defArgs st_Zr) (defBody st_Zr) (defScope st_Zr) .none kV_Zr dc_Zr pm_Zr an_Zr cd_Zr ct_Zr), sl_Zr⟩)
  (c_Zr' : PySem.W.codeIn K cd_Zr "first_rows" = true)
  (k_Zr : PySem.W.keepIn K (.ref f_Zr) = true)
  (a_Zy : PySem.W.nsIn K mainGlobals "pairs_of" = some (some (.ref f_Zy)))
  (l_Zy : K.lookup f_Zy = some ⟨oc_Zy, od_Zy, .func (PySem.W.fnOf "pairs_of" "pairs_of" (defArgs st_Zy) (defBody st_Zy) (defScope st_Zy) .none kV_Zy dc_Zy pm_Zy an_Zy cd_Zy ct_Zy), sl_Zy⟩)
  (c_Zy' : PySem.W.codeIn K cd_Zy "pairs_of" = true)
  (k_Zy : PySem.W.keepIn K (.ref f_Zy) = true)
  (a_Zbe : PySem.W.nsIn K mainGlobals "expr_of" = some (some (.ref f_Zbe)))
  (l_Zbe : K.lookup f_Zbe = some ⟨oc_Zbe, od_Zbe, .func (PySem.W.fnOf "expr_of" "expr_of" (defArgs st_Zbe) (defBody st_Zbe) (defScope st_Zbe) .none kV_Zbe dc_Zbe pm_Zbe an_Zbe cd_Zbe ct_Zbe), sl_Zbe⟩)
  (c_Zbe' : PySem.W.codeIn K cd_Zbe "expr_of" = true)
  (k_Zbe : PySem.W.keepIn K (.ref f_Zbe) = true)
  (a_Zz : PySem.W.nsIn K mainGlobals "exprs_in" = some (some (.ref f_Zz)))
  (l_Zz : K.lookup f_Zz = some ⟨oc_Zz, od_Zz, .func (PySem.W.fnOf "exprs_in" "exprs_in" (defArgs st_Zz) (defBody st_Zz) (defScope st_Zz) .none kV_Zz dc_Zz pm_Zz an_Zz cd_Zz ct_Zz), sl_Zz⟩)
  (c_Zz' : PySem.W.codeIn K cd_Zz "exprs_in" = true)
  (k_Zz : PySem.W.keepIn K (.ref f_Zz) = true)
  (a_Zbl : PySem.W.nsIn K mainGlobals "unfit" = some (some (.ref f_Zbl)))
  (l_Zbl : K.lookup f_Zbl = some ⟨oc_Zbl, od_Zbl, .func (PySem.W.fnOf "unfit" "unfit" (defArgs st_Zbl) (defBody st_Zbl) (defScope st_Zbl) .none kV_Zbl dc_Zbl pm_Zbl an_Zbl cd_Zbl ct_Zbl), sl_Zbl⟩)
  (c_Zbl' : PySem.W.codeIn K cd_Zbl "unfit" = true)
  (k_Zbl : PySem.W.keepIn K (.ref f_Zbl) = true)
  (a_Zv : PySem.W.nsIn K mainGlobals "is_record" = some (some (.ref f_Zv)))
  (l_Zv : K.lookup f_Zv = some ⟨oc_Zv, od_Zv, .func (PySem.W.fnOf "is_record" "is_record" (defArgs st_Zv) (defBody st_Zv) (defScope st_Zv) .none kV_Zv dc_Zv pm_Zv an_Zv cd_Zv ct_Zv), sl_Zv⟩)
  (c_Zv' : PySem.W.codeIn K cd_Zv "is_record" = true)
  (k_Zv : PySem.W.keepIn K (.ref f_Zv) = true)
  (a_Zbj : PySem.W.nsIn K mainGlobals "giving" = some (some (.ref f_Zbj)))
  (l_Zbj : K.lookup f_Zbj = some ⟨oc_Zbj, od_Zbj, .func (PySem.W.fnOf "giving" "giving" (defArgs st_Zbj) (defBody st_Zbj) (defScope st_Zbj) .none kV_Zbj dc_Zbj pm_Zbj an_Zbj cd_Zbj ct_Zbj), sl_Zbj⟩)
  (c_Zbj' : PySem.W.codeIn K cd_Zbj "giving" = true)
  (k_Zbj : PySem.W.keepIn K (.ref f_Zbj) = true)
  (a_Zm : PySem.W.nsIn K mainGlobals "shared_kinds" = some (some (.ref f_Zm)))
  (l_Zm : K.lookup f_Zm = some ⟨oc_Zm, od_Zm, .func (PySem.W.fnOf "shared_kinds" "shared_kinds" (defArgs st_Zm) (defBody st_Zm) (defScope st_Zm) .none kV_Zm dc_Zm pm_Zm an_Zm cd_Zm ct_Zm), sl_Zm⟩)
  (c_Zm' : PySem.W.codeIn K cd_Zm "shared_kinds" = true)
  (k_Zm : PySem.W.keepIn K (.ref f_Zm) = true)
  (a_Zo : PySem.W.nsIn K mainGlobals "plain_kinds" = some (some (.ref f_Zo)))
  (l_Zo : K.lookup f_Zo = some ⟨oc_Zo, od_Zo, .func (PySem.W.fnOf "plain_kinds" "plain_kinds" (defArgs st_Zo) (defBody st_Zo) (defScope st_Zo) .none kV_Zo dc_Zo pm_Zo an_Zo cd_Zo ct_Zo), sl_Zo⟩)
  (c_Zo' : PySem.W.codeIn K cd_Zo "plain_kinds" = true)
  (k_Zo : PySem.W.keepIn K (.ref f_Zo) = true)
  (a_Zw : PySem.W.nsIn K mainGlobals "_law_mixed" = some (some (.ref f_Zw)))
  (l_Zw : K.lookup f_Zw = some ⟨oc_Zw, od_Zw, .func (PySem.W.fnOf "_law_mixed" "_law_mixed" (defArgs st_Zw) (defBody st_Zw) (defScope st_Zw) .none kV_Zw dc_Zw pm_Zw an_Zw cd_Zw ct_Zw), sl_Zw⟩)
  (c_Zw' : PySem.W.codeIn K cd_Zw "_law_mixed" = true)
  (k_Zw : PySem.W.keepIn K (.ref f_Zw) = true)
  (a_Zba : PySem.W.nsIn K mainGlobals "_law_expr" = some (some (.ref f_Zba)))
  (l_Zba : K.lookup f_Zba = some ⟨oc_Zba, od_Zba, .func (PySem.W.fnOf "_law_expr" "_law_expr" (defArgs st_Zba) (defBody st_Zba) (defScope st_Zba) .none kV_Zba dc_Zba pm_Zba an_Zba cd_Zba ct_Zba), sl_Zba⟩)
  (c_Zba' : PySem.W.codeIn K cd_Zba "_law_expr" = true)
  (k_Zba : PySem.W.keepIn K (.ref f_Zba) = true)
  (a_Zbb : PySem.W.nsIn K mainGlobals "_law_kind" = some (some (.ref f_Zbb)))
  (l_Zbb : K.lookup f_Zbb = some ⟨oc_Zbb, od_Zbb, .func (PySem.W.fnOf "_law_kind" "_law_kind" (defArgs st_Zbb) (defBody st_Zbb) (defScope st_Zbb) .none kV_Zbb dc_Zbb pm_Zbb an_Zbb cd_Zbb ct_Zbb), sl_Zbb⟩)
  (c_Zbb' : PySem.W.codeIn K cd_Zbb "_law_kind" = true)
  (k_Zbb : PySem.W.keepIn K (.ref f_Zbb) = true)
  (a_Zx : PySem.W.nsIn K mainGlobals "_law_wrong" = some (some (.ref f_Zx)))
  (l_Zx : K.lookup f_Zx = some ⟨oc_Zx, od_Zx, .func (PySem.W.fnOf "_law_wrong" "_law_wrong" (defArgs st_Zx) (defBody st_Zx) (defScope st_Zx) .none kV_Zx dc_Zx pm_Zx an_Zx cd_Zx ct_Zx), sl_Zx⟩)
  (c_Zx' : PySem.W.codeIn K cd_Zx "_law_wrong" = true)
  (k_Zx : PySem.W.keepIn K (.ref f_Zx) = true)
  (a_Zbf : PySem.W.nsIn K mainGlobals "_law_row" = some (some (.ref f_Zbf)))
  (l_Zbf : K.lookup f_Zbf = some ⟨oc_Zbf, od_Zbf, .func (PySem.W.fnOf "_law_row" "_law_row" (defArgs st_Zbf) (defBody st_Zbf) (defScope st_Zbf) .none kV_Zbf dc_Zbf pm_Zbf an_Zbf cd_Zbf ct_Zbf), sl_Zbf⟩)
  (c_Zbf' : PySem.W.codeIn K cd_Zbf "_law_row" = true)
  (k_Zbf : PySem.W.keepIn K (.ref f_Zbf) = true)
  (a_Zbc : PySem.W.nsIn K mainGlobals "_law_tree" = some (some (.ref f_Zbc)))
  (l_Zbc : K.lookup f_Zbc = some ⟨oc_Zbc, od_Zbc, .func (PySem.W.fnOf "_law_tree" "_law_tree" (defArgs st_Zbc) (defBody st_Zbc) (defScope st_Zbc) .none kV_Zbc dc_Zbc pm_Zbc an_Zbc cd_Zbc ct_Zbc), sl_Zbc⟩)
  (c_Zbc' : PySem.W.codeIn K cd_Zbc "_law_tree" = true)
  (k_Zbc : PySem.W.keepIn K (.ref f_Zbc) = true)
  (a_Zbg : PySem.W.nsIn K mainGlobals "_law_due" = some (some (.ref f_Zbg)))
  (l_Zbg : K.lookup f_Zbg = some ⟨oc_Zbg, od_Zbg, .func (PySem.W.fnOf "_law_due" "_law_due" (defArgs st_Zbg) (defBody st_Zbg) (defScope st_Zbg) .none kV_Zbg dc_Zbg pm_Zbg an_Zbg cd_Zbg ct_Zbg), sl_Zbg⟩)
  (c_Zbg' : PySem.W.codeIn K cd_Zbg "_law_due" = true)
  (k_Zbg : PySem.W.keepIn K (.ref f_Zbg) = true)
  (a_Zk : PySem.W.findIn K (.ref c_KindLook) "__init__" = some (some (.ref f_Zk)))
  (i_Zk : PySem.W.isFn K (.ref f_Zk) = true)
  (l_Zk : K.lookup f_Zk = some ⟨oc_Zk, od_Zk, .func (PySem.W.fnOf "__init__" "KindLook.__init__" (defArgs st_Zk) (defBody st_Zk) (defScope st_Zk) .none kV_Zk dc_Zk pm_Zk an_Zk cd_Zk ct_Zk), sl_Zk⟩)
  (c_Zk' : PySem.W.codeIn K cd_Zk "KindLook.__init__" = true)
  (k_Zk : PySem.W.keepIn K (.ref f_Zk) = true)
  (a_Zl : PySem.W.findIn K (.ref c_KindLook) "note" = some (some (.ref f_Zl)))
  (i_Zl : PySem.W.isFn K (.ref f_Zl) = true)
  (l_Zl : K.lookup f_Zl = some ⟨oc_Zl, od_Zl, .func (PySem.W.fnOf "note" "KindLook.note" (defArgs st_Zl) (defBody st_Zl) (defScope st_Zl) .none kV_Zl dc_Zl pm_Zl an_Zl cd_Zl ct_Zl), sl_Zl⟩)
  (c_Zl' : PySem.W.codeIn K cd_Zl "KindLook.note" = true)
  (k_Zl : PySem.W.keepIn K (.ref f_Zl) = true)
  (a_Zb : PySem.W.findIn K (.ref c_KindLook) "look_body" = some (some (.ref f_Zb)))
  (i_Zb : PySem.W.isFn K (.ref f_Zb) = true)
  (l_Zb : K.lookup f_Zb = some ⟨oc_Zb, od_Zb, .func (PySem.W.fnOf "look_body" "KindLook.look_body" (defArgs st_Zb) (defBody st_Zb) (defScope st_Zb) .none kV_Zb dc_Zb pm_Zb an_Zb cd_Zb ct_Zb), sl_Zb⟩)
  (c_Zb' : PySem.W.codeIn K cd_Zb "KindLook.look_body" = true)
  (k_Zb : PySem.W.keepIn K (.ref f_Zb) = true)
  (a_Zd : PySem.W.findIn K (.ref c_KindLook) "look_def" = some (some (.ref f_Zd)))
  (i_Zd : PySem.W.isFn K (.ref f_Zd) = true)
  (l_Zd : K.lookup f_Zd = some ⟨oc_Zd, od_Zd, .func (PySem.W.fnOf "look_def" "KindLook.look_def" (defArgs st_Zd) (defBody st_Zd) (defScope st_Zd) .none kV_Zd dc_Zd pm_Zd an_Zd cd_Zd ct_Zd), sl_Zd⟩)
  (c_Zd' : PySem.W.codeIn K cd_Zd "KindLook.look_def" = true)
  (k_Zd : PySem.W.keepIn K (.ref f_Zd) = true)
  (a_Ze : PySem.W.findIn K (.ref c_KindLook) "look_row" = some (some (.ref f_Ze)))
  (i_Ze : PySem.W.isFn K (.ref f_Ze) = true)
  (l_Ze : K.lookup f_Ze = some ⟨oc_Ze, od_Ze, .func (PySem.W.fnOf "look_row" "KindLook.look_row" (defArgs st_Ze) (defBody st_Ze) (defScope st_Ze) .none kV_Ze dc_Ze pm_Ze an_Ze cd_Ze ct_Ze), sl_Ze⟩)
  (c_Ze' : PySem.W.codeIn K cd_Ze "KindLook.look_row" = true)
  (k_Ze : PySem.W.keepIn K (.ref f_Ze) = true)
  (a_Zf : PySem.W.findIn K (.ref c_KindLook) "look_set" = some (some (.ref f_Zf)))
  (i_Zf : PySem.W.isFn K (.ref f_Zf) = true)
  (l_Zf : K.lookup f_Zf = some ⟨oc_Zf, od_Zf, .func (PySem.W.fnOf "look_set" "KindLook.look_set" (defArgs st_Zf) (defBody st_Zf) (defScope st_Zf) .none kV_Zf dc_Zf pm_Zf an_Zf cd_Zf ct_Zf), sl_Zf⟩)
  (c_Zf' : PySem.W.codeIn K cd_Zf "KindLook.look_set" = true)
  (k_Zf : PySem.W.keepIn K (.ref f_Zf) = true)
  (a_Zn : PySem.W.findIn K (.ref c_KindLook) "ask" = some (some (.ref f_Zn)))
  (i_Zn : PySem.W.isFn K (.ref f_Zn) = true)
  (l_Zn : K.lookup f_Zn = some ⟨oc_Zn, od_Zn, .func (PySem.W.fnOf "ask" "KindLook.ask" (defArgs st_Zn) (defBody st_Zn) (defScope st_Zn) .none kV_Zn dc_Zn pm_Zn an_Zn cd_Zn ct_Zn), sl_Zn⟩)
  (c_Zn' : PySem.W.codeIn K cd_Zn "KindLook.ask" = true)
  (k_Zn : PySem.W.keepIn K (.ref f_Zn) = true)
  (a_Zg : PySem.W.findIn K (.ref c_KindLook) "kinds_of" = some (some (.ref f_Zg)))
  (i_Zg : PySem.W.isFn K (.ref f_Zg) = true)
  (l_Zg : K.lookup f_Zg = some ⟨oc_Zg, od_Zg, .func (PySem.W.fnOf "kinds_of" "KindLook.kinds_of" (defArgs st_Zg) (defBody st_Zg) (defScope st_Zg) .none kV_Zg dc_Zg pm_Zg an_Zg cd_Zg ct_Zg), sl_Zg⟩)
  (c_Zg' : PySem.W.codeIn K cd_Zg "KindLook.kinds_of" = true)
  (k_Zg : PySem.W.keepIn K (.ref f_Zg) = true)
  (a_Zc : PySem.W.findIn K (.ref c_KindLook) "used_rows" = some (some (.ref f_Zc)))
  (i_Zc : PySem.W.isFn K (.ref f_Zc) = true)
  (l_Zc : K.lookup f_Zc = some ⟨oc_Zc, od_Zc, .func (PySem.W.fnOf "used_rows" "KindLook.used_rows" (defArgs st_Zc) (defBody st_Zc) (defScope st_Zc) .none kV_Zc dc_Zc pm_Zc an_Zc cd_Zc ct_Zc), sl_Zc⟩)
  (c_Zc' : PySem.W.codeIn K cd_Zc "KindLook.used_rows" = true)
  (k_Zc : PySem.W.keepIn K (.ref f_Zc) = true)
  (a_Za : PySem.W.findIn K (.ref c_KindLook) "field_kinds" = some (some (.ref f_Za)))
  (i_Za : PySem.W.isFn K (.ref f_Za) = true)
  (l_Za : K.lookup f_Za = some ⟨oc_Za, od_Za, .func (PySem.W.fnOf "field_kinds" "KindLook.field_kinds" (defArgs st_Za) (defBody st_Za) (defScope st_Za) .none kV_Za dc_Za pm_Za an_Za cd_Za ct_Za), sl_Za⟩)
  (c_Za' : PySem.W.codeIn K cd_Za "KindLook.field_kinds" = true)
  (k_Za : PySem.W.keepIn K (.ref f_Za) = true)
  (a_law : PySem.W.nsIn K mainGlobals "law" = some (some (.ref f_law)))
  (l_law : K.lookup f_law = some ⟨oc_law, od_law, .func (PySem.W.fnOf "law" "law" (defArgs st_law) (defBody st_law) (defScope st_law) .none kV_law dc_law pm_law an_law cd_law ct_law), sl_law⟩)
  (c_law' : PySem.W.codeIn K cd_law "law" = true)
  (k_law : PySem.W.keepIn K (.ref f_law) = true)
  (pg_KindLook : PySem.W.plainGet K c_KindLook Str.empty = true)
  (hd_KindLook : PySem.W.hasDictIn K c_KindLook = true)
  (po_KindLook : PySem.W.plainOver K c_KindLook = true)
  (sa_KindLook : PySem.W.findIn K (.ref c_KindLook) "__setattr__" = some (some (.builtin "object.__setattr__")))
  (mk_KindLook : PySem.W.makesIn K c_KindLook = true)
  (kc_KindLook : PySem.W.keepIn K (.ref c_KindLook) = true)
  (na_KindLook_faults : PySem.W.findIn K (.ref c_KindLook) "faults" = some none)
  (na_KindLook_firsts : PySem.W.findIn K (.ref c_KindLook) "firsts" = some none)
  (t1_KindLook : PySem.W.findIn K (.ref c_KindLook) "__class__" = some (some (.builtin "object.__class__")))
  (t2_KindLook : PySem.W.specialIn K (.builtin "object.__class__") "__get__" = some (some (.builtin "getset_descriptor.__get__")))
  (t3_KindLook : PySem.W.takesIn K (.builtin "object.__class__") = some true)
  (t4_KindLook : PySem.W.mroIn K c_KindLook (.type "object") = some true)
  (a_MAKES : PySem.W.nsIn K mainGlobals "MAKES" = some (some (.ref d_MAKES)))
  (l_MAKES : K.lookup d_MAKES = some ⟨.type "dict", none, .dict #[⟨h_MAKES_0, .str "num" t_MAKES_0, .str "num" u_MAKES_0⟩, ⟨h_MAKES_1, .str "truth" t_MAKES_1, .str "truth" u_MAKES_1⟩, ⟨h_MAKES_2, .str "+" t_MAKES_2, .str "num" u_MAKES_2⟩, ⟨h_MAKES_3, .str "-" t_MAKES_3, .str "num" u_MAKES_3⟩, ⟨h_MAKES_4, .str "*" t_MAKES_4, .str "num" u_MAKES_4⟩, ⟨h_MAKES_5, .str "less" t_MAKES_5, .str "truth" u_MAKES_5⟩, ⟨h_MAKES_6, .str "same" t_MAKES_6, .str "truth" u_MAKES_6⟩, ⟨h_MAKES_7, .str "and" t_MAKES_7, .str "truth" u_MAKES_7⟩, ⟨h_MAKES_8, .str "or" t_MAKES_8, .str "truth" u_MAKES_8⟩, ⟨h_MAKES_9, .str "not" t_MAKES_9, .str "truth" u_MAKES_9⟩] ep_MAKES, #[]⟩)
  (s_MAKES : (d_MAKES == sysModules) = false)
  (e_MAKES_0 : h_MAKES_0 = hashStr w "num")
  (e_MAKES_1 : h_MAKES_1 = hashStr w "truth")
  (e_MAKES_2 : h_MAKES_2 = hashStr w "+")
  (e_MAKES_3 : h_MAKES_3 = hashStr w "-")
  (e_MAKES_4 : h_MAKES_4 = hashStr w "*")
  (e_MAKES_5 : h_MAKES_5 = hashStr w "less")
  (e_MAKES_6 : h_MAKES_6 = hashStr w "same")
  (e_MAKES_7 : h_MAKES_7 = hashStr w "and")
  (e_MAKES_8 : h_MAKES_8 = hashStr w "or")
  (e_MAKES_9 : h_MAKES_9 = hashStr w "not")
  (a_ASKS : PySem.W.nsIn K mainGlobals "ASKS" = some (some (.ref d_ASKS)))
  (l_ASKS : K.lookup d_ASKS = some ⟨.type "dict", none, .dict #[⟨h_ASKS_0, .str "+" t_ASKS_0, .str "num" u_ASKS_0⟩, ⟨h_ASKS_1, .str "-" t_ASKS_1, .str "num" u_ASKS_1⟩, ⟨h_ASKS_2, .str "*" t_ASKS_2, .str "num" u_ASKS_2⟩, ⟨h_ASKS_3, .str "less" t_ASKS_3, .str "num" u_ASKS_3⟩, ⟨h_ASKS_4, .str "same" t_ASKS_4, .str "num" u_ASKS_4⟩, ⟨h_ASKS_5, .str "and" t_ASKS_5, .str "truth" u_ASKS_5⟩, ⟨h_ASKS_6, .str "or" t_ASKS_6, .str "truth" u_ASKS_6⟩, ⟨h_ASKS_7, .str "not" t_ASKS_7, .str "truth" u_ASKS_7⟩] ep_ASKS, #[]⟩)
  (s_ASKS : (d_ASKS == sysModules) = false)
  (e_ASKS_0 : h_ASKS_0 = hashStr w "+")
  (e_ASKS_1 : h_ASKS_1 = hashStr w "-")
  (e_ASKS_2 : h_ASKS_2 = hashStr w "*")
  (e_ASKS_3 : h_ASKS_3 = hashStr w "less")
  (e_ASKS_4 : h_ASKS_4 = hashStr w "same")
  (e_ASKS_5 : h_ASKS_5 = hashStr w "and")
  (e_ASKS_6 : h_ASKS_6 = hashStr w "or")
  (e_ASKS_7 : h_ASKS_7 = hashStr w "not")
  (a_PLAIN_KINDS : PySem.W.nsIn K mainGlobals "PLAIN_KINDS" = some (some (.ref q_PLAIN_KINDS)))
  (l_PLAIN_KINDS : K.lookup q_PLAIN_KINDS = some ⟨.type "tuple", od_PLAIN_KINDS, .seq #[.str "num" t_PLAIN_KINDS_0, .str "truth" t_PLAIN_KINDS_1] n_PLAIN_KINDS, sl_PLAIN_KINDS⟩)
  (z_len : PySem.W.nsIn K mainGlobals "len" = some none)
  (z_range : PySem.W.nsIn K mainGlobals "range" = some none)
  (z_list : PySem.W.nsIn K mainGlobals "list" = some none)
  (z_dict : PySem.W.nsIn K mainGlobals "dict" = some none)
  (z_tuple : PySem.W.nsIn K mainGlobals "tuple" = some none)
  (z_sorted : PySem.W.nsIn K mainGlobals "sorted" = some none)
  (z_enumerate : PySem.W.nsIn K mainGlobals "enumerate" = some none)
  (z_isinstance : PySem.W.nsIn K mainGlobals "isinstance" = some none)
  (z_zip : PySem.W.nsIn K mainGlobals "zip" = some none)
  :
  ∃ fd : FuncData, (∀ (s : Shared) (v : Value), BindsTo s fd ⟨[v], []⟩ [("_law_script", v)]) /\ ∀ base : Heap, K.In base -> base.Ns mainGlobals mg -> FnOk l.prog w K mg base CX0 40 fa fd ["_law_script"] (spLaw K) := by
 have e := hfa.symm.trans (PySem.W.mg_of X G a_law)
 cases e
 have F_Zbk := fun_mk (st := st_Zbk) l_Zbk c_Zbk' k_Zbk
 have F_Zbd := fun_mk (st := st_Zbd) l_Zbd c_Zbd' k_Zbd
 have F_Zbh := fun_mk (st := st_Zbh) l_Zbh c_Zbh' k_Zbh
 have F_Zp := fun_mk (st := st_Zp) l_Zp c_Zp' k_Zp
 have F_Zbi := fun_mk (st := st_Zbi) l_Zbi c_Zbi' k_Zbi
 have F_Zq := fun_mk (st := st_Zq) l_Zq c_Zq' k_Zq
 have F_Zs := fun_mk (st := st_Zs) l_Zs c_Zs' k_Zs
 have F_Zi := fun_mk (st := st_Zi) l_Zi c_Zi' k_Zi
 have F_Zj := fun_mk (st := st_Zj) l_Zj c_Zj' k_Zj
 have F_Zt := fun_mk (st := st_Zt) l_Zt c_Zt' k_Zt
 have F_Zh := fun_mk (st := st_Zh) l_Zh c_Zh' k_Zh
 have F_Zu := fun_mk (st := st_Zu) l_Zu c_Zu' k_Zu
 have F_Zr := fun_mk (st := st_Zr) l_Zr c_Zr' k_Zr
 have F_Zy := fun_mk (st := st_Zy) l_Zy c_Zy' k_Zy
 have F_Zbe := fun_mk (st := st_Zbe) l_Zbe c_Zbe' k_Zbe
 have F_Zz := fun_mk (st := st_Zz) l_Zz c_Zz' k_Zz
 have F_Zbl := fun_mk (st := st_Zbl) l_Zbl c_Zbl' k_Zbl
 have F_Zv := fun_mk (st := st_Zv) l_Zv c_Zv' k_Zv
 have F_Zbj := fun_mk (st := st_Zbj) l_Zbj c_Zbj' k_Zbj
 have F_Zm := fun_mk (st := st_Zm) l_Zm c_Zm' k_Zm
 have F_Zo := fun_mk (st := st_Zo) l_Zo c_Zo' k_Zo
 have F_Zw := fun_mk (st := st_Zw) l_Zw c_Zw' k_Zw
 have F_Zba := fun_mk (st := st_Zba) l_Zba c_Zba' k_Zba
 have F_Zbb := fun_mk (st := st_Zbb) l_Zbb c_Zbb' k_Zbb
 have F_Zx := fun_mk (st := st_Zx) l_Zx c_Zx' k_Zx
 have F_Zbf := fun_mk (st := st_Zbf) l_Zbf c_Zbf' k_Zbf
 have F_Zbc := fun_mk (st := st_Zbc) l_Zbc c_Zbc' k_Zbc
 have F_Zbg := fun_mk (st := st_Zbg) l_Zbg c_Zbg' k_Zbg
 have F_Zk := fun_mk (st := st_Zk) l_Zk c_Zk' k_Zk
 have F_Zl := fun_mk (st := st_Zl) l_Zl c_Zl' k_Zl
 have F_Zb := fun_mk (st := st_Zb) l_Zb c_Zb' k_Zb
 have F_Zd := fun_mk (st := st_Zd) l_Zd c_Zd' k_Zd
 have F_Ze := fun_mk (st := st_Ze) l_Ze c_Ze' k_Ze
 have F_Zf := fun_mk (st := st_Zf) l_Zf c_Zf' k_Zf
 have F_Zn := fun_mk (st := st_Zn) l_Zn c_Zn' k_Zn
 have F_Zg := fun_mk (st := st_Zg) l_Zg c_Zg' k_Zg
 have F_Zc := fun_mk (st := st_Zc) l_Zc c_Zc' k_Zc
 have F_Za := fun_mk (st := st_Za) l_Za c_Za' k_Za
 have F_law := fun_mk (st := st_law) l_law c_law' k_law
 have b_Zbk := F_Zbk.binds (ps := ["mask"]) fun _ _ _ _ _ _ us hl => by obtain ⟨_, rfl⟩ := len1 hl; rfl
 have b_Zbd := F_Zbd.binds (ps := ["mask", "other"]) fun _ _ _ _ _ _ us hl => by obtain ⟨_, _, rfl⟩ := len2 hl; rfl
 have b_Zbh := F_Zbh.binds (ps := ["pairs"]) fun _ _ _ _ _ _ us hl => by obtain ⟨_, rfl⟩ := len1 hl; rfl
 have b_Zp := F_Zp.binds (ps := ["pairs", "mask"]) fun _ _ _ _ _ _ us hl => by obtain ⟨_, _, rfl⟩ := len2 hl; rfl
 have b_Zbi := F_Zbi.binds (ps := ["found", "key", "mask"]) fun _ _ _ _ _ _ us hl => by obtain ⟨_, _, _, rfl⟩ := len3 hl; rfl
 have b_Zq := F_Zq.binds (ps := ["found"]) fun _ _ _ _ _ _ us hl => by obtain ⟨_, rfl⟩ := len1 hl; rfl
 have b_Zs := F_Zs.binds (ps := ["tree", "mask"]) fun _ _ _ _ _ _ us hl => by obtain ⟨_, _, rfl⟩ := len2 hl; rfl
 have b_Zi := F_Zi.binds (ps := ["one", "mask"]) fun _ _ _ _ _ _ us hl => by obtain ⟨_, _, rfl⟩ := len2 hl; rfl
 have b_Zj := F_Zj.binds (ps := ["pair"]) fun _ _ _ _ _ _ us hl => by obtain ⟨_, rfl⟩ := len1 hl; rfl
 have b_Zt := F_Zt.binds (ps := ["tree"]) fun _ _ _ _ _ _ us hl => by obtain ⟨_, rfl⟩ := len1 hl; rfl
 have b_Zh := F_Zh.binds (ps := ["one"]) fun _ _ _ _ _ _ us hl => by obtain ⟨_, rfl⟩ := len1 hl; rfl
 have b_Zu := F_Zu.binds (ps := ["one"]) fun _ _ _ _ _ _ us hl => by obtain ⟨_, rfl⟩ := len1 hl; rfl
 have b_Zr := F_Zr.binds (ps := ["tree"]) fun _ _ _ _ _ _ us hl => by obtain ⟨_, rfl⟩ := len1 hl; rfl
 have b_Zy := F_Zy.binds (ps := ["one"]) fun _ _ _ _ _ _ us hl => by obtain ⟨_, rfl⟩ := len1 hl; rfl
 have b_Zbe := F_Zbe.binds (ps := ["one"]) fun _ _ _ _ _ _ us hl => by obtain ⟨_, rfl⟩ := len1 hl; rfl
 have b_Zz := F_Zz.binds (ps := ["e"]) fun _ _ _ _ _ _ us hl => by obtain ⟨_, rfl⟩ := len1 hl; rfl
 have b_Zbl := F_Zbl.binds (ps := ["kinds", "due"]) fun _ _ _ _ _ _ us hl => by obtain ⟨_, _, rfl⟩ := len2 hl; rfl
 have b_Zv := F_Zv.binds (ps := ["kind"]) fun _ _ _ _ _ _ us hl => by obtain ⟨_, rfl⟩ := len1 hl; rfl
 have b_Zbj := F_Zbj.binds (ps := ["body"]) fun _ _ _ _ _ _ us hl => by obtain ⟨_, rfl⟩ := len1 hl; rfl
 have b_Zm := F_Zm.binds (ps := ["tree", "mask"]) fun _ _ _ _ _ _ us hl => by obtain ⟨_, _, rfl⟩ := len2 hl; rfl
 have b_Zo := F_Zo.binds (ps := ["tree"]) fun _ _ _ _ _ _ us hl => by obtain ⟨_, rfl⟩ := len1 hl; rfl
 have b_Zw := F_Zw.binds (ps := ["_law_cell", "_law_k"]) fun _ _ _ _ _ _ us hl => by obtain ⟨_, _, rfl⟩ := len2 hl; rfl
 have b_Zba := F_Zba.binds (ps := ["_law_number", "_law_wanted", "_law_deep"]) fun _ _ _ _ _ _ us hl => by obtain ⟨_, _, _, rfl⟩ := len3 hl; rfl
 have b_Zbb := F_Zbb.binds (ps := ["_law_e"]) fun _ _ _ _ _ _ us hl => by obtain ⟨_, rfl⟩ := len1 hl; rfl
 have b_Zx := F_Zx.binds (ps := ["_law_e"]) fun _ _ _ _ _ _ us hl => by obtain ⟨_, rfl⟩ := len1 hl; rfl
 have b_Zbf := F_Zbf.binds (ps := ["_law_number", "_law_at"]) fun _ _ _ _ _ _ us hl => by obtain ⟨_, _, rfl⟩ := len2 hl; rfl
 have b_Zbc := F_Zbc.binds (ps := ["_law_script"]) fun _ _ _ _ _ _ us hl => by obtain ⟨_, rfl⟩ := len1 hl; rfl
 have b_Zbg := F_Zbg.binds (ps := ["_law_rows"]) fun _ _ _ _ _ _ us hl => by obtain ⟨_, rfl⟩ := len1 hl; rfl
 have b_Zk := F_Zk.binds (ps := ["self", "tree"]) fun _ _ _ _ _ _ us hl => by obtain ⟨_, _, rfl⟩ := len2 hl; rfl
 have b_Zl := F_Zl.binds (ps := ["self", "mask", "at", "what"]) fun _ _ _ _ _ _ us hl => by obtain ⟨_, _, _, _, rfl⟩ := len4 hl; rfl
 have b_Zb := F_Zb.binds (ps := ["self", "statements", "names", "due"]) fun _ _ _ _ _ _ us hl => by obtain ⟨_, _, _, _, rfl⟩ := len4 hl; rfl
 have b_Zd := F_Zd.binds (ps := ["self", "mask", "one"]) fun _ _ _ _ _ _ us hl => by obtain ⟨_, _, _, rfl⟩ := len3 hl; rfl
 have b_Ze := F_Ze.binds (ps := ["self", "one", "kinds", "names", "due"]) fun _ _ _ _ _ _ us hl => by obtain ⟨_, _, _, _, _, rfl⟩ := len5 hl; rfl
 have b_Zf := F_Zf.binds (ps := ["self", "one", "kinds", "names"]) fun _ _ _ _ _ _ us hl => by obtain ⟨_, _, _, _, rfl⟩ := len4 hl; rfl
 have b_Zn := F_Zn.binds (ps := ["self", "mask", "e", "due", "at", "names"]) fun _ _ _ _ _ _ us hl => by obtain ⟨_, _, _, _, _, _, rfl⟩ := len6 hl; rfl
 have b_Zg := F_Zg.binds (ps := ["self", "mask", "e", "at", "names"]) fun _ _ _ _ _ _ us hl => by obtain ⟨_, _, _, _, _, rfl⟩ := len5 hl; rfl
 have b_Zc := F_Zc.binds (ps := ["self", "mask", "e", "word", "at", "names"]) fun _ _ _ _ _ _ us hl => by obtain ⟨_, _, _, _, _, _, rfl⟩ := len6 hl; rfl
 have b_Za := F_Za.binds (ps := ["self", "mask", "kind", "field", "at"]) fun _ _ _ _ _ _ us hl => by obtain ⟨_, _, _, _, _, rfl⟩ := len5 hl; rfl
 have T : All l.prog w K mg ⟨f_Zbk, f_Zbd, f_Zbh, f_Zp, f_Zbi, f_Zq, f_Zs, f_Zi, f_Zj, f_Zt, f_Zh, f_Zu, f_Zr, f_Zy, f_Zbe, f_Zz, f_Zbl, f_Zv, f_Zbj, f_Zm, f_Zo, f_Zw, f_Zba, f_Zbb, f_Zx, f_Zbf, f_Zbc, f_Zbg, f_Zk, f_Zl, f_Zb, f_Zd, f_Ze, f_Zf, f_Zn, f_Zg, f_Zc, f_Za, c_KindLook, d_MAKES, d_ASKS, q_PLAIN_KINDS⟩ ⟨_, _, _, _, _, _, _, _, _, _, _, _, _, _, _, _, _, _, _, _, _, _, _, _, _, _, _, _, _, _, _, _, _, _, _, _, _, _⟩ := {
  m_Zbk := PySem.W.mg_of X G a_Zbk
  k_Zbk := k_Zbk
  F_Zbk := F_Zbk
  b_Zbk := b_Zbk
  m_Zbd := PySem.W.mg_of X G a_Zbd
  k_Zbd := k_Zbd
  F_Zbd := F_Zbd
  b_Zbd := b_Zbd
  m_Zbh := PySem.W.mg_of X G a_Zbh
  k_Zbh := k_Zbh
  F_Zbh := F_Zbh
  b_Zbh := b_Zbh
  m_Zp := PySem.W.mg_of X G a_Zp
  k_Zp := k_Zp
  F_Zp := F_Zp
  b_Zp := b_Zp
  m_Zbi := PySem.W.mg_of X G a_Zbi
  k_Zbi := k_Zbi
  F_Zbi := F_Zbi
  b_Zbi := b_Zbi
  m_Zq := PySem.W.mg_of X G a_Zq
  k_Zq := k_Zq
  F_Zq := F_Zq
  b_Zq := b_Zq
  m_Zs := PySem.W.mg_of X G a_Zs
  k_Zs := k_Zs
  F_Zs := F_Zs
  b_Zs := b_Zs
  m_Zi := PySem.W.mg_of X G a_Zi
  k_Zi := k_Zi
  F_Zi := F_Zi
  b_Zi := b_Zi
  m_Zj := PySem.W.mg_of X G a_Zj
  k_Zj := k_Zj
  F_Zj := F_Zj
  b_Zj := b_Zj
  m_Zt := PySem.W.mg_of X G a_Zt
  k_Zt := k_Zt
  F_Zt := F_Zt
  b_Zt := b_Zt
  m_Zh := PySem.W.mg_of X G a_Zh
  k_Zh := k_Zh
  F_Zh := F_Zh
  b_Zh := b_Zh
  m_Zu := PySem.W.mg_of X G a_Zu
  k_Zu := k_Zu
  F_Zu := F_Zu
  b_Zu := b_Zu
  m_Zr := PySem.W.mg_of X G a_Zr
  k_Zr := k_Zr
  F_Zr := F_Zr
  b_Zr := b_Zr
  m_Zy := PySem.W.mg_of X G a_Zy
  k_Zy := k_Zy
  F_Zy := F_Zy
  b_Zy := b_Zy
  m_Zbe := PySem.W.mg_of X G a_Zbe
  k_Zbe := k_Zbe
  F_Zbe := F_Zbe
  b_Zbe := b_Zbe
  m_Zz := PySem.W.mg_of X G a_Zz
  k_Zz := k_Zz
  F_Zz := F_Zz
  b_Zz := b_Zz
  m_Zbl := PySem.W.mg_of X G a_Zbl
  k_Zbl := k_Zbl
  F_Zbl := F_Zbl
  b_Zbl := b_Zbl
  m_Zv := PySem.W.mg_of X G a_Zv
  k_Zv := k_Zv
  F_Zv := F_Zv
  b_Zv := b_Zv
  m_Zbj := PySem.W.mg_of X G a_Zbj
  k_Zbj := k_Zbj
  F_Zbj := F_Zbj
  b_Zbj := b_Zbj
  m_Zm := PySem.W.mg_of X G a_Zm
  k_Zm := k_Zm
  F_Zm := F_Zm
  b_Zm := b_Zm
  m_Zo := PySem.W.mg_of X G a_Zo
  k_Zo := k_Zo
  F_Zo := F_Zo
  b_Zo := b_Zo
  m_Zw := PySem.W.mg_of X G a_Zw
  k_Zw := k_Zw
  F_Zw := F_Zw
  b_Zw := b_Zw
  m_Zba := PySem.W.mg_of X G a_Zba
  k_Zba := k_Zba
  F_Zba := F_Zba
  b_Zba := b_Zba
  m_Zbb := PySem.W.mg_of X G a_Zbb
  k_Zbb := k_Zbb
  F_Zbb := F_Zbb
  b_Zbb := b_Zbb
  m_Zx := PySem.W.mg_of X G a_Zx
  k_Zx := k_Zx
  F_Zx := F_Zx
  b_Zx := b_Zx
  m_Zbf := PySem.W.mg_of X G a_Zbf
  k_Zbf := k_Zbf
  F_Zbf := F_Zbf
  b_Zbf := b_Zbf
  m_Zbc := PySem.W.mg_of X G a_Zbc
  k_Zbc := k_Zbc
  F_Zbc := F_Zbc
  b_Zbc := b_Zbc
  m_Zbg := PySem.W.mg_of X G a_Zbg
  k_Zbg := k_Zbg
  F_Zbg := F_Zbg
  b_Zbg := b_Zbg
  M_KindLook := ⟨mk_KindLook, a_Zk, i_Zk, kc_KindLook⟩
  k_Zk := k_Zk
  F_Zk := F_Zk
  b_Zk := b_Zk
  M_Zl := ⟨a_Zl, i_Zl, k_Zl⟩
  k_Zl := k_Zl
  F_Zl := F_Zl
  b_Zl := b_Zl
  M_Zb := ⟨a_Zb, i_Zb, k_Zb⟩
  k_Zb := k_Zb
  F_Zb := F_Zb
  b_Zb := b_Zb
  M_Zd := ⟨a_Zd, i_Zd, k_Zd⟩
  k_Zd := k_Zd
  F_Zd := F_Zd
  b_Zd := b_Zd
  M_Ze := ⟨a_Ze, i_Ze, k_Ze⟩
  k_Ze := k_Ze
  F_Ze := F_Ze
  b_Ze := b_Ze
  M_Zf := ⟨a_Zf, i_Zf, k_Zf⟩
  k_Zf := k_Zf
  F_Zf := F_Zf
  b_Zf := b_Zf
  M_Zn := ⟨a_Zn, i_Zn, k_Zn⟩
  k_Zn := k_Zn
  F_Zn := F_Zn
  b_Zn := b_Zn
  M_Zg := ⟨a_Zg, i_Zg, k_Zg⟩
  k_Zg := k_Zg
  F_Zg := F_Zg
  b_Zg := b_Zg
  M_Zc := ⟨a_Zc, i_Zc, k_Zc⟩
  k_Zc := k_Zc
  F_Zc := F_Zc
  b_Zc := b_Zc
  M_Za := ⟨a_Za, i_Za, k_Za⟩
  k_Za := k_Za
  F_Za := F_Za
  b_Za := b_Za
  m_KindLook := PySem.W.mg_of X G aC_KindLook
  cl_KindLook := ⟨pg_KindLook, hd_KindLook, po_KindLook, sa_KindLook⟩
  na_KindLook_faults := na_KindLook_faults
  na_KindLook_firsts := na_KindLook_firsts
  ty_KindLook := fun H a dx fs e => .ins e ⟨pg_KindLook, hd_KindLook, po_KindLook, sa_KindLook⟩ t1_KindLook t2_KindLook t3_KindLook t4_KindLook
  is_KindLook := kit_same _ _
  m_MAKES := PySem.W.mg_of X G a_MAKES
  D_MAKES := by
   subst e_MAKES_0 e_MAKES_1 e_MAKES_2 e_MAKES_3 e_MAKES_4 e_MAKES_5 e_MAKES_6 e_MAKES_7 e_MAKES_8 e_MAKES_9
   exact kdictT_mk (es := [("num", t_MAKES_0, "num", u_MAKES_0), ("truth", t_MAKES_1, "truth", u_MAKES_1), ("+", t_MAKES_2, "num", u_MAKES_2), ("-", t_MAKES_3, "num", u_MAKES_3), ("*", t_MAKES_4, "num", u_MAKES_4), ("less", t_MAKES_5, "truth", u_MAKES_5), ("same", t_MAKES_6, "truth", u_MAKES_6), ("and", t_MAKES_7, "truth", u_MAKES_7), ("or", t_MAKES_8, "truth", u_MAKES_8), ("not", t_MAKES_9, "truth", u_MAKES_9)]) s_MAKES l_MAKES (show (["num", "truth", "+", "-", "*", "less", "same", "and", "or", "not"] : List Str).Nodup by decide +kernel)
  m_ASKS := PySem.W.mg_of X G a_ASKS
  D_ASKS := by
   subst e_ASKS_0 e_ASKS_1 e_ASKS_2 e_ASKS_3 e_ASKS_4 e_ASKS_5 e_ASKS_6 e_ASKS_7
   exact kdictT_mk (es := [("+", t_ASKS_0, "num", u_ASKS_0), ("-", t_ASKS_1, "num", u_ASKS_1), ("*", t_ASKS_2, "num", u_ASKS_2), ("less", t_ASKS_3, "num", u_ASKS_3), ("same", t_ASKS_4, "num", u_ASKS_4), ("and", t_ASKS_5, "truth", u_ASKS_5), ("or", t_ASKS_6, "truth", u_ASKS_6), ("not", t_ASKS_7, "truth", u_ASKS_7)]) s_ASKS l_ASKS (show (["+", "-", "*", "less", "same", "and", "or", "not"] : List Str).Nodup by decide +kernel)
  m_PLAIN_KINDS := PySem.W.mg_of X G a_PLAIN_KINDS
  Q_PLAIN_KINDS := fun H => .inr ⟨_, _, _, l_PLAIN_KINDS, rfl, rfl, (by show 2 <= sizeLine; decide), .cons ⟨_, rfl⟩ (.cons ⟨_, rfl⟩ (.nil))⟩
  n_len := PySem.W.mg_none_of X G z_len
  n_range := PySem.W.mg_none_of X G z_range
  n_list := PySem.W.mg_none_of X G z_list
  n_dict := PySem.W.mg_none_of X G z_dict
  n_tuple := PySem.W.mg_none_of X G z_tuple
  n_sorted := PySem.W.mg_none_of X G z_sorted
  n_enumerate := PySem.W.mg_none_of X G z_enumerate
  n_isinstance := PySem.W.mg_none_of X G z_isinstance
  n_zip := PySem.W.mg_none_of X G z_zip
 }
 exact ⟨PySem.W.fnOf "law" "law" (defArgs st_law) (defBody st_law) (defScope st_law) .none kV_law dc_law pm_law an_law cd_law ct_law, fun s v => .of_eq rfl, fun base _ _ => ok_law T F_law⟩
theorem walk {l : PySem.W.OpenLaw} {q : Program} {loose : List Str} {XP : (Str -> Option Value) -> Heap -> Prop} {YP : World -> Heap -> Prop} {d : DefRec} {K : Params -> PySem.W.Frag} (hn : l.most = some 63) (hdf : d.params.defaults = [])
  (hY : ∀ (w : World) (h : Heap), YP w h -> (K w.params).In h)
  (F : ∀ (w : World) (mg : Str -> Option Value) (fa : Addr) (h : Heap), (K w.params).In h -> h.Ns mainGlobals mg -> mg d.name = some (.ref fa) ->
   ∃ fd : FuncData, (∀ (s : Shared) (u : Value), BindsTo s fd ⟨[u], []⟩ [("_law_script", u)]) /\ ∀ base : Heap, (K w.params).In base -> base.Ns mainGlobals mg -> FnOk l.prog w (K w.params) mg base CX0 40 fa fd ["_law_script"] (spLaw (K w.params))) :
  PySem.W.WalkO q loose XP YP l.row.toRowW d [] (fun f vs => PySem.call f vs) :=
 L2.walk_of (n := 63) (k := 40) (x := "_law_script") (CX := fun _ => CX0) (sp := fun w => spLaw (K w.params)) hn (by decide) hdf ⟨rfl, by decide, by decide⟩ hY F (fun _ _ a ns hl _ hS => ⟨a, ns, rfl, hS, hl, fun _ => rfl⟩) fun _ _ _ _ _ z => z
end K41
open PySem PySem.W PyProof.Rows
set_option maxRecDepth 100000 in
set_option maxHeartbeats 0 in
theorem PySem.Challenge.cw_manymakes_k41_kinds_of_operators_holds : PySem.Challenge.rw_manymakes_k41_kinds_of_operators.Holds := by
 w_on; o_law
 refine PySem.W.holds_open (r := OpenLaw.row PySem.Challenge.rw_manymakes_k41_kinds_of_operators) (q := K41.vw) (loose := ["MAKES", "ASKS"]) (Xt := K41.xt) (XP := XL K41.vw [])
  (Yf := (kHook K41.pre.heap_1 K41.as K41.ase).obs) (Ya := (kHook K41.pre.heap_1 K41.as K41.ase).val) (YP := (kHook K41.pre.heap_1 K41.as K41.ase).says)
  (N := 3602) K41.left
  ((kHook K41.pre.heap_1 K41.as K41.ase).of) ((kHook K41.pre.heap_1 K41.as K41.ase).keeps) (fun s e => xl_of s (Mm.both_true e).1)
  (XL.keeps) (by rfl) (by rfl) (by rfl) (fun s e => recFacts_of (Mm.both_true e).2)
  (by rfl) (by assumption) (by decide +kernel)
  ⟨rfl, rfl, rfl, rfl, rfl, by decide +kernel⟩ ?hw ?hc
 (case hw => w_witness2)
 k_fill
 refine K41.walk (l := PySem.Challenge.rw_manymakes_k41_kinds_of_operators) rfl rfl (fun w h Y => PySem.W.kIn_of Y) ?F
 case F =>
  intro w mg fa h KX G hmg
  refine' K41.all_mk KX G hmg ?aC_KindLook ?a_Zbk ?l_Zbk ?c_Zbk' ?k_Zbk ?a_Zbd ?l_Zbd ?c_Zbd' ?k_Zbd ?a_Zbh ?l_Zbh ?c_Zbh' ?k_Zbh ?a_Zp ?l_Zp ?c_Zp' ?k_Zp ?a_Zbi ?l_Zbi ?c_Zbi' ?k_Zbi ?a_Zq ?l_Zq ?c_Zq' ?k_Zq ?a_Zs ?l_Zs ?c_Zs' ?k_Zs ?a_Zi ?l_Zi ?c_Zi' ?k_Zi ?a_Zj ?l_Zj ?c_Zj' ?k_Zj ?a_Zt ?l_Zt ?c_Zt' ?k_Zt ?a_Zh ?l_Zh ?c_Zh' ?k_Zh ?a_Zu ?l_Zu ?c_Zu' ?k_Zu ?a_Zr ?l_Zr ?c_Zr' ?k_Zr ?a_Zy ?l_Zy ?c_Zy' ?k_Zy ?a_Zbe ?l_Zbe ?c_Zbe' ?k_Zbe ?a_Zz ?l_Zz ?c_Zz' ?k_Zz ?a_Zbl ?l_Zbl ?c_Zbl' ?k_Zbl ?a_Zv ?l_Zv ?c_Zv' ?k_Zv ?a_Zbj ?l_Zbj ?c_Zbj' ?k_Zbj ?a_Zm ?l_Zm ?c_Zm' ?k_Zm ?a_Zo ?l_Zo ?c_Zo' ?k_Zo ?a_Zw ?l_Zw ?c_Zw' ?k_Zw ?a_Zba ?l_Zba ?c_Zba' ?k_Zba ?a_Zbb ?l_Zbb ?c_Zbb' ?k_Zbb ?a_Zx ?l_Zx ?c_Zx' ?k_Zx ?a_Zbf ?l_Zbf ?c_Zbf' ?k_Zbf ?a_Zbc ?l_Zbc ?c_Zbc' ?k_Zbc ?a_Zbg ?l_Zbg ?c_Zbg' ?k_Zbg ?a_Zk ?i_Zk ?l_Zk ?c_Zk' ?k_Zk ?a_Zl ?i_Zl ?l_Zl ?c_Zl' ?k_Zl ?a_Zb ?i_Zb ?l_Zb ?c_Zb' ?k_Zb ?a_Zd ?i_Zd ?l_Zd ?c_Zd' ?k_Zd ?a_Ze ?i_Ze ?l_Ze ?c_Ze' ?k_Ze ?a_Zf ?i_Zf ?l_Zf ?c_Zf' ?k_Zf ?a_Zn ?i_Zn ?l_Zn ?c_Zn' ?k_Zn ?a_Zg ?i_Zg ?l_Zg ?c_Zg' ?k_Zg ?a_Zc ?i_Zc ?l_Zc ?c_Zc' ?k_Zc ?a_Za ?i_Za ?l_Za ?c_Za' ?k_Za ?a_law ?l_law ?c_law' ?k_law ?pg_KindLook ?hd_KindLook ?po_KindLook ?sa_KindLook ?mk_KindLook ?kc_KindLook ?na_KindLook_faults ?na_KindLook_firsts ?t1_KindLook ?t2_KindLook ?t3_KindLook ?t4_KindLook ?a_MAKES ?l_MAKES ?s_MAKES ?e_MAKES_0 ?e_MAKES_1 ?e_MAKES_2 ?e_MAKES_3 ?e_MAKES_4 ?e_MAKES_5 ?e_MAKES_6 ?e_MAKES_7 ?e_MAKES_8 ?e_MAKES_9 ?a_ASKS ?l_ASKS ?s_ASKS ?e_ASKS_0 ?e_ASKS_1 ?e_ASKS_2 ?e_ASKS_3 ?e_ASKS_4 ?e_ASKS_5 ?e_ASKS_6 ?e_ASKS_7 ?a_PLAIN_KINDS ?l_PLAIN_KINDS ?z_len ?z_range ?z_list ?z_dict ?z_tuple ?z_sorted ?z_enumerate ?z_isinstance ?z_zip
  (case aC_KindLook => k_is)
  (case a_Zbk => k_is)
  (case l_Zbk => k_is)
  (case c_Zbk' => k_is)
  (case k_Zbk => k_is)
  (case a_Zbd => k_is)
  (case l_Zbd => k_is)
  (case c_Zbd' => k_is)
  (case k_Zbd => k_is)
  (case a_Zbh => k_is)
  (case l_Zbh => k_is)
  (case c_Zbh' => k_is)
  (case k_Zbh => k_is)
  (case a_Zp => k_is)
  (case l_Zp => k_is)
  (case c_Zp' => k_is)
  (case k_Zp => k_is)
  (case a_Zbi => k_is)
  (case l_Zbi => k_is)
  (case c_Zbi' => k_is)
  (case k_Zbi => k_is)
  (case a_Zq => k_is)
  (case l_Zq => k_is)
  (case c_Zq' => k_is)
  (case k_Zq => k_is)
  (case a_Zs => k_is)
  (case l_Zs => k_is)
  (case c_Zs' => k_is)
  (case k_Zs => k_is)
  (case a_Zi => k_is)
  (case l_Zi => k_is)
  (case c_Zi' => k_is)
  (case k_Zi => k_is)
  (case a_Zj => k_is)
  (case l_Zj => k_is)
  (case c_Zj' => k_is)
  (case k_Zj => k_is)
  (case a_Zt => k_is)
  (case l_Zt => k_is)
  (case c_Zt' => k_is)
  (case k_Zt => k_is)
  (case a_Zh => k_is)
  (case l_Zh => k_is)
  (case c_Zh' => k_is)
  (case k_Zh => k_is)
  (case a_Zu => k_is)
  (case l_Zu => k_is)
  (case c_Zu' => k_is)
  (case k_Zu => k_is)
  (case a_Zr => k_is)
  (case l_Zr => k_is)
  (case c_Zr' => k_is)
  (case k_Zr => k_is)
  (case a_Zy => k_is)
  (case l_Zy => k_is)
  (case c_Zy' => k_is)
  (case k_Zy => k_is)
  (case a_Zbe => k_is)
  (case l_Zbe => k_is)
  (case c_Zbe' => k_is)
  (case k_Zbe => k_is)
  (case a_Zz => k_is)
  (case l_Zz => k_is)
  (case c_Zz' => k_is)
  (case k_Zz => k_is)
  (case a_Zbl => k_is)
  (case l_Zbl => k_is)
  (case c_Zbl' => k_is)
  (case k_Zbl => k_is)
  (case a_Zv => k_is)
  (case l_Zv => k_is)
  (case c_Zv' => k_is)
  (case k_Zv => k_is)
  (case a_Zbj => k_is)
  (case l_Zbj => k_is)
  (case c_Zbj' => k_is)
  (case k_Zbj => k_is)
  (case a_Zm => k_is)
  (case l_Zm => k_is)
  (case c_Zm' => k_is)
  (case k_Zm => k_is)
  (case a_Zo => k_is)
  (case l_Zo => k_is)
  (case c_Zo' => k_is)
  (case k_Zo => k_is)
  (case a_Zw => k_is)
  (case l_Zw => k_is)
  (case c_Zw' => k_is)
  (case k_Zw => k_is)
  (case a_Zba => k_is)
  (case l_Zba => k_is)
  (case c_Zba' => k_is)
  (case k_Zba => k_is)
  (case a_Zbb => k_is)
  (case l_Zbb => k_is)
  (case c_Zbb' => k_is)
  (case k_Zbb => k_is)
  (case a_Zx => k_is)
  (case l_Zx => k_is)
  (case c_Zx' => k_is)
  (case k_Zx => k_is)
  (case a_Zbf => k_is)
  (case l_Zbf => k_is)
  (case c_Zbf' => k_is)
  (case k_Zbf => k_is)
  (case a_Zbc => k_is)
  (case l_Zbc => k_is)
  (case c_Zbc' => k_is)
  (case k_Zbc => k_is)
  (case a_Zbg => k_is)
  (case l_Zbg => k_is)
  (case c_Zbg' => k_is)
  (case k_Zbg => k_is)
  (case a_Zk => k_is)
  (case i_Zk => k_is)
  (case l_Zk => k_is)
  (case c_Zk' => k_is)
  (case k_Zk => k_is)
  (case a_Zl => k_is)
  (case i_Zl => k_is)
  (case l_Zl => k_is)
  (case c_Zl' => k_is)
  (case k_Zl => k_is)
  (case a_Zb => k_is)
  (case i_Zb => k_is)
  (case l_Zb => k_is)
  (case c_Zb' => k_is)
  (case k_Zb => k_is)
  (case a_Zd => k_is)
  (case i_Zd => k_is)
  (case l_Zd => k_is)
  (case c_Zd' => k_is)
  (case k_Zd => k_is)
  (case a_Ze => k_is)
  (case i_Ze => k_is)
  (case l_Ze => k_is)
  (case c_Ze' => k_is)
  (case k_Ze => k_is)
  (case a_Zf => k_is)
  (case i_Zf => k_is)
  (case l_Zf => k_is)
  (case c_Zf' => k_is)
  (case k_Zf => k_is)
  (case a_Zn => k_is)
  (case i_Zn => k_is)
  (case l_Zn => k_is)
  (case c_Zn' => k_is)
  (case k_Zn => k_is)
  (case a_Zg => k_is)
  (case i_Zg => k_is)
  (case l_Zg => k_is)
  (case c_Zg' => k_is)
  (case k_Zg => k_is)
  (case a_Zc => k_is)
  (case i_Zc => k_is)
  (case l_Zc => k_is)
  (case c_Zc' => k_is)
  (case k_Zc => k_is)
  (case a_Za => k_is)
  (case i_Za => k_is)
  (case l_Za => k_is)
  (case c_Za' => k_is)
  (case k_Za => k_is)
  (case a_law => k_is)
  (case l_law => k_is)
  (case c_law' => k_is)
  (case k_law => k_is)
  (case pg_KindLook => k_is)
  (case hd_KindLook => k_is)
  (case po_KindLook => k_is)
  (case sa_KindLook => k_is)
  (case mk_KindLook => k_is)
  (case kc_KindLook => k_is)
  (case na_KindLook_faults => k_is)
  (case na_KindLook_firsts => k_is)
  (case t1_KindLook => k_is)
  (case t2_KindLook => k_is)
  (case t3_KindLook => k_is)
  (case t4_KindLook => k_is)
  (case a_MAKES => k_is)
  (case l_MAKES => k_is)
  (case s_MAKES => first | rfl | decide | k_is)
  (case e_MAKES_0 => first | rfl | decide | k_is)
  (case e_MAKES_1 => first | rfl | decide | k_is)
  (case e_MAKES_2 => first | rfl | decide | k_is)
  (case e_MAKES_3 => first | rfl | decide | k_is)
  (case e_MAKES_4 => first | rfl | decide | k_is)
  (case e_MAKES_5 => first | rfl | decide | k_is)
  (case e_MAKES_6 => first | rfl | decide | k_is)
  (case e_MAKES_7 => first | rfl | decide | k_is)
  (case e_MAKES_8 => first | rfl | decide | k_is)
  (case e_MAKES_9 => first | rfl | decide | k_is)
  (case a_ASKS => k_is)
  (case l_ASKS => k_is)
  (case s_ASKS => first | rfl | decide | k_is)
  (case e_ASKS_0 => first | rfl | decide | k_is)
  (case e_ASKS_1 => first | rfl | decide | k_is)
  (case e_ASKS_2 => first | rfl | decide | k_is)
  (case e_ASKS_3 => first | rfl | decide | k_is)
  (case e_ASKS_4 => first | rfl | decide | k_is)
  (case e_ASKS_5 => first | rfl | decide | k_is)
  (case e_ASKS_6 => first | rfl | decide | k_is)
  (case e_ASKS_7 => first | rfl | decide | k_is)
  (case a_PLAIN_KINDS => k_is)
  (case l_PLAIN_KINDS => k_is)
  (case z_len => k_is)
  (case z_range => k_is)
  (case z_list => k_is)
  (case z_dict => k_is)
  (case z_tuple => k_is)
  (case z_sorted => k_is)
  (case z_enumerate => k_is)
  (case z_isinstance => k_is)
  (case z_zip => k_is)
