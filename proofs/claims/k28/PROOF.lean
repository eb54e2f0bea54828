import PyProof.Rows.All
import Wide.All
import OpenK.AllK
import Wide.FinOn
import Lean
import PyProof.EqAt
import PyProof.EqKinds
import PyProof.TupleCall
import PyProof.Rows.BitMore
import KE.IntBitsLaws
import KE.KRevIter
import KE.KTryMore
import PyProof.StrLawsRepr
import KE.KIsAll
import KE.RegKIsAll
import KE.RegKTryMore
import PyProof.StrCalls2
import PyProof.StrLawsTight
import PyProof.StrLawsChain
import PyProof.Rows.StrItems
import PyProof.Rows.StrWeight2
import PyProof.EnumMake
import PyProof.EnumStmt
import PyProof.Rows.EnumRows
import KE.KItemsList
import PyProof.Rows.EqDataRows
import PyProof.P3Eq
import PyProof.Rows.SortRev
import KE.KSortTup
import KE.KDictSum
import PyProof.StrWalks
import KE.KIntText
import KE.IntTextLaws
import PyProof.CallStr
import PyProof.StrCalls
import PyProof.Rows.StrCountLaw
import PyProof.SumWalk
import PyProof.Rows.InDataRows
import PySem.Challenge.RW_manymakes_k28_too_many_cuts
set_option Elab.async false
set_option maxRecDepth 100000
set_option linter.all false
set_option maxHeartbeats 4000000
section
open PySem PySem.Spec PyProof.Rows PySem.W
theorem Qa:type_of% @List.getElem?_eq_getElem:=@List.getElem?_eq_getElem
theorem Qb:type_of% @wpAny_bind:=@wpAny_bind
theorem Qc {α:Type _} {l:List α} {i:Nat} {a:α} (h:l[i]?=some a):∃ h:i<l.length,l[i]=a:=List.getElem?_eq_some_iff.mp h
theorem Qd:type_of% @List.length_map:=@List.length_map
theorem Qe:type_of% @decide_eq_false:=@decide_eq_false
theorem Qf:type_of% @Heap.get?_push_of_some:=@Heap.get?_push_of_some
theorem Qg:type_of% @wpAny_pure:=@wpAny_pure
theorem Qh:type_of% @Nat.le_refl:=@Nat.le_refl
theorem Qi {α:Type _} {l:List α} {a b:α} (h:a∈b::l):a=b∨a∈l:=List.mem_cons.mp h
theorem Qj:type_of% @List.length_append:=@List.length_append
theorem Qk:type_of% @List.getElem?_map:=@List.getElem?_map
theorem Ql:type_of% @Option.some.inj:=@Option.some.inj
theorem Qm:type_of% @List.mem_cons_of_mem:=@List.mem_cons_of_mem
theorem Qn:type_of% @Heap.lt_size:=@Heap.lt_size
theorem Qo:type_of% @decide_eq_true:=@decide_eq_true
theorem Qp:type_of% @List.mem_cons_self:=@List.mem_cons_self
theorem Qq:type_of% @List.getElem?_append_right:=@List.getElem?_append_right
theorem Qr:type_of% @Nat.zero_le:=@Nat.zero_le
theorem Qs:type_of% @Heap.get?_push_size:=@Heap.get?_push_size
theorem Qt:type_of% @List.size_toArray:=@List.size_toArray
theorem Qu:type_of% @List.getD_eq_getElem?_getD:=@List.getD_eq_getElem?_getD
theorem Qv:type_of% @List.getElem?_append_left:=@List.getElem?_append_left
theorem Qw:type_of% @Nat.ne_of_lt:=@Nat.ne_of_lt
theorem Qx {α:Type _} {l r:List α} {a:α} (h:a∈l++r):a∈l∨a∈r:=List.mem_append.mp h
theorem Qy {α β:Type _} {f:α->β} {l:List α} {b:β} (h:b∈l.map f):∃ a,a∈l∧f a=b:=List.mem_map.mp h
theorem Qz:type_of% @List.mem_of_getElem?:=@List.mem_of_getElem?
theorem QA:type_of% @Nat.le_trans:=@Nat.le_trans
theorem QB:type_of% @List.getElem_mem:=@List.getElem_mem
theorem QC:type_of% @wpAny_mono:=@wpAny_mono
theorem QD:type_of% @List.map_append:=@List.map_append
theorem QE:type_of% @List.length_take:=@List.length_take
theorem QF:type_of% @List.take_succ_eq_append_getElem:=@List.take_succ_eq_append_getElem
theorem QG:type_of% @Heap.get?_update_ne:=@Heap.get?_update_ne
theorem QH:type_of% @List.take_length:=@List.take_length
theorem QI:type_of% @List.length_singleton:=@List.length_singleton
theorem QJ:type_of% @List.filter_append:=@List.filter_append
theorem QK:type_of% @List.append_assoc:=@List.append_assoc
theorem QL:type_of% @Nat.lt_of_le_of_lt:=@Nat.lt_of_le_of_lt
theorem QM:type_of% @List.map_congr_left:=@List.map_congr_left
end
section
open PySem PySem.W
noncomputable def Mm.hdTr {α:Type} (_:α):Prop:=True
noncomputable def Mm.hdPk {α:Type} (s:α) (_:Mm.hdTr s):α:=s
theorem Mm.hdOf {α:Type} {a s:α} (_:a=s):Mm.hdTr s:=trivial
abbrev K28.g (i:Nat):Stmt:=PySem.Challenge.pw_manymakes_k28_too_many_cuts.main.body.getD i (Stmt.Pass ⟨0,0,0,0⟩)
noncomputable def K28.t0:Stmt:=Mm.hdPk (Stmt.Assign _ _ _) (Mm.hdOf (a:=K28.g 0) rfl)
noncomputable def K28.t1:Stmt:=Mm.hdPk (Stmt.FunctionDef _ _ _ _ _ _ _ _ _ _) (Mm.hdOf (a:=K28.g 1) rfl)
noncomputable def K28.t2:Stmt:=Mm.hdPk (Stmt.FunctionDef _ _ _ _ _ _ _ _ _ _) (Mm.hdOf (a:=K28.g 2) rfl)
noncomputable def K28.t3:Stmt:=Mm.hdPk (Stmt.FunctionDef _ _ _ _ _ _ _ _ _ _) (Mm.hdOf (a:=K28.g 3) rfl)
noncomputable def K28.t4:Stmt:=Mm.hdPk (Stmt.FunctionDef _ _ _ _ _ _ _ _ _ _) (Mm.hdOf (a:=K28.g 4) rfl)
noncomputable def K28.t5:Stmt:=Mm.hdPk (Stmt.FunctionDef _ _ _ _ _ _ _ _ _ _) (Mm.hdOf (a:=K28.g 5) rfl)
noncomputable def K28.t6:Stmt:=Mm.hdPk (Stmt.FunctionDef _ _ _ _ _ _ _ _ _ _) (Mm.hdOf (a:=K28.g 6) rfl)
noncomputable def K28.t7:Stmt:=Mm.hdPk (Stmt.FunctionDef _ _ _ _ _ _ _ _ _ _) (Mm.hdOf (a:=K28.g 7) rfl)
noncomputable def K28.t8:Stmt:=Mm.hdPk (Stmt.Assign _ _ _) (Mm.hdOf (a:=K28.g 8) rfl)
noncomputable def K28.t9:Stmt:=Mm.hdPk (Stmt.FunctionDef _ _ _ _ _ _ _ _ _ _) (Mm.hdOf (a:=K28.g 9) rfl)
noncomputable def K28.t10:Stmt:=Mm.hdPk (Stmt.FunctionDef _ _ _ _ _ _ _ _ _ _) (Mm.hdOf (a:=K28.g 10) rfl)
noncomputable def K28.t11:Stmt:=Mm.hdPk (Stmt.FunctionDef _ _ _ _ _ _ _ _ _ _) (Mm.hdOf (a:=K28.g 11) rfl)
noncomputable def K28.t12:Stmt:=Mm.hdPk (Stmt.Assign _ _ _) (Mm.hdOf (a:=K28.g 12) rfl)
noncomputable def K28.t13:Stmt:=Mm.hdPk (Stmt.ClassDef _ _ _ _ _ _ _ _ _ _ _) (Mm.hdOf (a:=K28.g 13) rfl)
noncomputable def K28.t14:Stmt:=Mm.hdPk (Stmt.ClassDef _ _ _ _ _ _ _ _ _ _ _) (Mm.hdOf (a:=K28.g 14) rfl)
noncomputable def K28.t15:Stmt:=Mm.hdPk (Stmt.ClassDef _ _ _ _ _ _ _ _ _ _ _) (Mm.hdOf (a:=K28.g 15) rfl)
noncomputable def K28.t16:Stmt:=Mm.hdPk (Stmt.ClassDef _ _ _ _ _ _ _ _ _ _ _) (Mm.hdOf (a:=K28.g 16) rfl)
noncomputable def K28.t17:Stmt:=Mm.hdPk (Stmt.ClassDef _ _ _ _ _ _ _ _ _ _ _) (Mm.hdOf (a:=K28.g 17) rfl)
noncomputable def K28.t18:Stmt:=Mm.hdPk (Stmt.Assign _ _ _) (Mm.hdOf (a:=K28.g 18) rfl)
noncomputable def K28.t19:Stmt:=Mm.hdPk (Stmt.Assign _ _ _) (Mm.hdOf (a:=K28.g 19) rfl)
noncomputable def K28.t20:Stmt:=Mm.hdPk (Stmt.Assign _ _ _) (Mm.hdOf (a:=K28.g 20) rfl)
noncomputable def K28.t21:Stmt:=Mm.hdPk (Stmt.Assign _ _ _) (Mm.hdOf (a:=K28.g 21) rfl)
noncomputable def K28.t22:Stmt:=Mm.hdPk (Stmt.Assign _ _ _) (Mm.hdOf (a:=K28.g 22) rfl)
noncomputable def K28.t23:Stmt:=Mm.hdPk (Stmt.Assign _ _ _) (Mm.hdOf (a:=K28.g 23) rfl)
noncomputable def K28.t24:Stmt:=Mm.hdPk (Stmt.Assign _ _ _) (Mm.hdOf (a:=K28.g 24) rfl)
noncomputable def K28.t25:Stmt:=Mm.hdPk (Stmt.Assign _ _ _) (Mm.hdOf (a:=K28.g 25) rfl)
noncomputable def K28.t26:Stmt:=Mm.hdPk (Stmt.Assign _ _ _) (Mm.hdOf (a:=K28.g 26) rfl)
noncomputable def K28.t27:Stmt:=Mm.hdPk (Stmt.FunctionDef _ _ _ _ _ _ _ _ _ _) (Mm.hdOf (a:=K28.g 27) rfl)
noncomputable def K28.t28:Stmt:=Mm.hdPk (Stmt.FunctionDef _ _ _ _ _ _ _ _ _ _) (Mm.hdOf (a:=K28.g 28) rfl)
noncomputable def K28.t29:Stmt:=Mm.hdPk (Stmt.FunctionDef _ _ _ _ _ _ _ _ _ _) (Mm.hdOf (a:=K28.g 29) rfl)
noncomputable def K28.t30:Stmt:=Mm.hdPk (Stmt.ClassDef _ _ _ _ _ _ _ _ _ _ _) (Mm.hdOf (a:=K28.g 30) rfl)
noncomputable def K28.t31:Stmt:=Mm.hdPk (Stmt.FunctionDef _ _ _ _ _ _ _ _ _ _) (Mm.hdOf (a:=K28.g 31) rfl)
noncomputable def K28.t32:Stmt:=Mm.hdPk (Stmt.FunctionDef _ _ _ _ _ _ _ _ _ _) (Mm.hdOf (a:=K28.g 32) rfl)
noncomputable def K28.t33:Stmt:=Mm.hdPk (Stmt.Assign _ _ _) (Mm.hdOf (a:=K28.g 33) rfl)
noncomputable def K28.t34:Stmt:=Mm.hdPk (Stmt.Assign _ _ _) (Mm.hdOf (a:=K28.g 34) rfl)
noncomputable def K28.t35:Stmt:=Mm.hdPk (Stmt.FunctionDef _ _ _ _ _ _ _ _ _ _) (Mm.hdOf (a:=K28.g 35) rfl)
noncomputable def K28.t36:Stmt:=Mm.hdPk (Stmt.FunctionDef _ _ _ _ _ _ _ _ _ _) (Mm.hdOf (a:=K28.g 36) rfl)
noncomputable def K28.t37:Stmt:=Mm.hdPk (Stmt.FunctionDef _ _ _ _ _ _ _ _ _ _) (Mm.hdOf (a:=K28.g 37) rfl)
noncomputable def K28.t38:Stmt:=Mm.hdPk (Stmt.Assign _ _ _) (Mm.hdOf (a:=K28.g 38) rfl)
noncomputable def K28.t39:Stmt:=Mm.hdPk (Stmt.Assign _ _ _) (Mm.hdOf (a:=K28.g 39) rfl)
noncomputable def K28.t40:Stmt:=Mm.hdPk (Stmt.Assign _ _ _) (Mm.hdOf (a:=K28.g 40) rfl)
noncomputable def K28.t41:Stmt:=Mm.hdPk (Stmt.FunctionDef _ _ _ _ _ _ _ _ _ _) (Mm.hdOf (a:=K28.g 41) rfl)
noncomputable def K28.t42:Stmt:=Mm.hdPk (Stmt.FunctionDef _ _ _ _ _ _ _ _ _ _) (Mm.hdOf (a:=K28.g 42) rfl)
noncomputable def K28.t43:Stmt:=Mm.hdPk (Stmt.FunctionDef _ _ _ _ _ _ _ _ _ _) (Mm.hdOf (a:=K28.g 43) rfl)
noncomputable def K28.t44:Stmt:=Mm.hdPk (Stmt.FunctionDef _ _ _ _ _ _ _ _ _ _) (Mm.hdOf (a:=K28.g 44) rfl)
noncomputable def K28.t45:Stmt:=Mm.hdPk (Stmt.FunctionDef _ _ _ _ _ _ _ _ _ _) (Mm.hdOf (a:=K28.g 45) rfl)
noncomputable def K28.t46:Stmt:=Mm.hdPk (Stmt.FunctionDef _ _ _ _ _ _ _ _ _ _) (Mm.hdOf (a:=K28.g 46) rfl)
noncomputable def K28.t47:Stmt:=Mm.hdPk (Stmt.Assign _ _ _) (Mm.hdOf (a:=K28.g 47) rfl)
noncomputable def K28.t48:Stmt:=Mm.hdPk (Stmt.Assign _ _ _) (Mm.hdOf (a:=K28.g 48) rfl)
noncomputable def K28.t49:Stmt:=Mm.hdPk (Stmt.Assign _ _ _) (Mm.hdOf (a:=K28.g 49) rfl)
noncomputable def K28.t50:Stmt:=Mm.hdPk (Stmt.FunctionDef _ _ _ _ _ _ _ _ _ _) (Mm.hdOf (a:=K28.g 50) rfl)
noncomputable def K28.t51:Stmt:=Mm.hdPk (Stmt.FunctionDef _ _ _ _ _ _ _ _ _ _) (Mm.hdOf (a:=K28.g 51) rfl)
noncomputable def K28.t52:Stmt:=Mm.hdPk (Stmt.FunctionDef _ _ _ _ _ _ _ _ _ _) (Mm.hdOf (a:=K28.g 52) rfl)
noncomputable def K28.t53:Stmt:=Mm.hdPk (Stmt.FunctionDef _ _ _ _ _ _ _ _ _ _) (Mm.hdOf (a:=K28.g 53) rfl)
noncomputable def K28.t54:Stmt:=Mm.hdPk (Stmt.FunctionDef _ _ _ _ _ _ _ _ _ _) (Mm.hdOf (a:=K28.g 54) rfl)
noncomputable def K28.t55:Stmt:=Mm.hdPk (Stmt.FunctionDef _ _ _ _ _ _ _ _ _ _) (Mm.hdOf (a:=K28.g 55) rfl)
noncomputable def K28.t56:Stmt:=Mm.hdPk (Stmt.Assign _ _ _) (Mm.hdOf (a:=K28.g 56) rfl)
noncomputable def K28.t57:Stmt:=Mm.hdPk (Stmt.Assign _ _ _) (Mm.hdOf (a:=K28.g 57) rfl)
noncomputable def K28.t58:Stmt:=Mm.hdPk (Stmt.ClassDef _ _ _ _ _ _ _ _ _ _ _) (Mm.hdOf (a:=K28.g 58) rfl)
noncomputable def K28.t59:Stmt:=Mm.hdPk (Stmt.ClassDef _ _ _ _ _ _ _ _ _ _ _) (Mm.hdOf (a:=K28.g 59) rfl)
noncomputable def K28.t60:Stmt:=Mm.hdPk (Stmt.FunctionDef _ _ _ _ _ _ _ _ _ _) (Mm.hdOf (a:=K28.g 60) rfl)
noncomputable def K28.t61:Stmt:=Mm.hdPk (Stmt.FunctionDef _ _ _ _ _ _ _ _ _ _) (Mm.hdOf (a:=K28.g 61) rfl)
noncomputable def K28.t62:Stmt:=Mm.hdPk (Stmt.Assign _ _ _) (Mm.hdOf (a:=K28.g 62) rfl)
noncomputable def K28.t63:Stmt:=Mm.hdPk (Stmt.FunctionDef _ _ _ _ _ _ _ _ _ _) (Mm.hdOf (a:=K28.g 63) rfl)
noncomputable def K28.t64:Stmt:=Mm.hdPk (Stmt.FunctionDef _ _ _ _ _ _ _ _ _ _) (Mm.hdOf (a:=K28.g 64) rfl)
noncomputable def K28.t65:Stmt:=Mm.hdPk (Stmt.FunctionDef _ _ _ _ _ _ _ _ _ _) (Mm.hdOf (a:=K28.g 65) rfl)
noncomputable def K28.t66:Stmt:=Mm.hdPk (Stmt.FunctionDef _ _ _ _ _ _ _ _ _ _) (Mm.hdOf (a:=K28.g 66) rfl)
noncomputable def K28.t67:Stmt:=Mm.hdPk (Stmt.FunctionDef _ _ _ _ _ _ _ _ _ _) (Mm.hdOf (a:=K28.g 67) rfl)
noncomputable def K28.t68:Stmt:=Mm.hdPk (Stmt.FunctionDef _ _ _ _ _ _ _ _ _ _) (Mm.hdOf (a:=K28.g 68) rfl)
noncomputable def K28.sc:Scope:=Mm.hdPk (Scope.mk _ _ _ _ _) (Mm.hdOf (a:=PySem.Challenge.pw_manymakes_k28_too_many_cuts.main.scope) rfl)
noncomputable def K28.pw:Program:=Mm.hdPk (Program.mk (Module.mk (K28.t0::K28.t1::K28.t2::K28.t3::K28.t4::K28.t5::K28.t6::K28.t7::K28.t8::K28.t9::K28.t10::K28.t11::K28.t12::K28.t13::K28.t14::K28.t15::K28.t16::K28.t17::K28.t18::K28.t19::K28.t20::K28.t21::K28.t22::K28.t23::K28.t24::K28.t25::K28.t26::K28.t27::K28.t28::K28.t29::K28.t30::K28.t31::K28.t32::K28.t33::K28.t34::K28.t35::K28.t36::K28.t37::K28.t38::K28.t39::K28.t40::K28.t41::K28.t42::K28.t43::K28.t44::K28.t45::K28.t46::K28.t47::K28.t48::K28.t49::K28.t50::K28.t51::K28.t52::K28.t53::K28.t54::K28.t55::K28.t56::K28.t57::K28.t58::K28.t59::K28.t60::K28.t61::K28.t62::K28.t63::K28.t64::K28.t65::K28.t66::K28.t67::K28.t68::List.nil) K28.sc _ _ _) _ _ _ _ _) (Mm.hdOf (a:=PySem.Challenge.pw_manymakes_k28_too_many_cuts) rfl)
noncomputable def K28.rw:OpenLaw:=Mm.hdPk { prog:=K28.pw,name:=_,about:=_,foot:=_,most:=_,bound:=_,writes:=_ } (Mm.hdOf (a:=PySem.Challenge.rw_manymakes_k28_too_many_cuts) rfl)
theorem K28.rwe:K28.rw=PySem.Challenge.rw_manymakes_k28_too_many_cuts:=rfl
end
section
open PySem PySem.W PyProof.Rows
theorem K28.pwe:PySem.Challenge.pw_manymakes_k28_too_many_cuts=K28.pw:=rfl
noncomputable def K28.vw:Program:={ K28.pw with main:={ K28.pw.main with body:=K28.t1::K28.t2::K28.t3::K28.t4::K28.t5::K28.t6::K28.t7::K28.t9::K28.t10::K28.t11::K28.t13::K28.t14::K28.t15::K28.t16::K28.t17::K28.t19::K28.t20::K28.t21::K28.t22::K28.t23::K28.t24::K28.t25::K28.t26::K28.t27::K28.t28::K28.t29::K28.t30::K28.t31::K28.t32::K28.t34::K28.t35::K28.t36::K28.t37::K28.t39::K28.t40::K28.t41::K28.t42::K28.t43::K28.t44::K28.t45::K28.t46::K28.t48::K28.t49::K28.t50::K28.t51::K28.t52::K28.t53::K28.t54::K28.t57::K28.t58::K28.t59::K28.t60::K28.t61::K28.t63::K28.t64::K28.t65::K28.t66::K28.t67::K28.t68::List.nil } }
theorem Mm.keepIt (_:Hook) {p:Prop} (h:p):p:=h
section
local macro_rules | `(tactic| o_head $H)=>`(tactic| exact Mm.keepIt $H (by assumption))
set_option maxHeartbeats 0 in
theorem K28.pre (h:(OpenLaw.row PySem.Challenge.rw_manymakes_k28_too_many_cuts).Holds):(OpenLaw.row PySem.Challenge.rw_manymakes_k28_too_many_cuts).Holds:=by k_head
end
def K28.as:List Addr:=[2,3,15,17,18,20,21,22,24,25,27,28,29,31,32,34,35,36,39,40,41,43,44,46,47,48,50,51,53,54,55,58,59,60,63,64,65,68,69,70,72,73,75,76,77,84,85,86,87,90,97,98,99,102,109,111,112,114,115,116,117,118,121,128,130,131,133,134,135,136,137,140,147,149,150,152,153,154,155,156,159,160,161,162,165,166,167,169,170,172,173,174,176,177,179,180,188,190,191,193,194,195,197,198,200,201,202,204,205,207,208,209,211,212,214,215,216,218,219,221,222,223,225,226,228,229,230,232,233,235,236,237,239,240,242,243,244,247,248,249,251,252,254,255,256,258,259,261,262,263,265,266,268,269,270,271,272,273,274,277,279,280,282,283,284,286,287,289,290,291,293,294,296,297,298,300,301,303,304,305,307,308,310,311,312,313,315,316,318,319,320,323,324,325,327,328,330,331,332,334,335,337,338,339,341,342,344,345,346,348,349,351,352,353,356,357,358,360,361,363,364,365,367,368,370,371,372,374,375,377,378,379,382,383,384,385,388,389,397,399,400,402,403,404,405,406,407,408,418,420,421,423,424,425,427,428,430,431,432,434,435,437,438,439,441,442,444,445,446,448,449,451,452,453,455,456,458,459,460,461,462,463,464,467,469,470,472,473,474,477,478,479,481,482,484,485,486,488,489,491,492,493,495,496,498,499,500,502,503,505,506,507,509,510,512,513,514,517,518]
theorem K28.ase (P:Params):K28.as=(K28.pre.heap_1 P).map (·.1):=by kernel_rfl
theorem Mm.both_true {a b:Bool} (h:(a&&b)=true):a=true/\b=true:=by cases a<;>cases b<;>simp_all
noncomputable abbrev K28.xt:Shared->Bool:=fun s=>(xlAt K28.vw [] s)&&(recOk (RowW.records (OpenRow.toRowW (OpenLaw.row K28.rw))) s)
noncomputable def K28.rr (w:World):Option (Shared × Shared) :=
 (importEnds treeTable (opening K28.pw) w 7730 (start (opening K28.pw)).1 (start (opening K28.pw)).2).bind fun s=>(fenceModules? K28.pw s).bind fun s₀ =>
 match s₀.heap.isNs mainGlobals&&s₀.gens.size == 0 with
 | true=>(topRun treeTable K28.pw w s₀.heap.objs.size (s₀.heap.nsMap mainGlobals "__annotations__") 7730 s₀ (topStub K28.pw)).bind fun s₁=>some (s₀,s₁)
 | false=>none
noncomputable def K28.ck (s₀ s₁:Shared):Bool:=staticsOk (importedModules K28.pw.main.body) s₀.heap s₁.heap&&namesBound K28.pw s₁.heap&&gensDone s₁&&laidKept s₀.heap s₁.heap
theorem Mm.bindAss {α β γ:Type} (o:Option α) (f:α->Option β) (g:β->Option γ):(o.bind f).bind g=o.bind fun s=>(f s).bind g:=by cases o<;>rfl
noncomputable def K28.cc (p:Shared × Shared):Option Shared:=match K28.ck p.1 p.2 with
 | true=>some p.2
 | false=>none
noncomputable def K28.oe (w:World):Option Shared :=
 (importEnds treeTable (opening K28.pw) w 7730 (start (opening K28.pw)).1 (start (opening K28.pw)).2).bind fun s=>(fenceModules? K28.pw s).bind fun s₀ =>
 match s₀.heap.isNs mainGlobals&&s₀.gens.size == 0 with
 | true=>(topRun treeTable K28.pw w s₀.heap.objs.size (s₀.heap.nsMap mainGlobals "__annotations__") 7730 s₀ (topStub K28.pw)).bind fun s₁=>match staticsOk (importedModules K28.pw.main.body) s₀.heap s₁.heap&&namesBound K28.pw s₁.heap&&gensDone s₁&&laidKept s₀.heap s₁.heap with
   | true=>some s₁
   | false=>none
 | false=>none
theorem K28.oe_eq (w:World):openEnds treeTable PySem.Challenge.pw_manymakes_k28_too_many_cuts w 7730=K28.oe w:=by
 rw [K28.pwe]
 show ((importEnds _ _ _ _ _ _).bind _).bind _=_
 rw [Mm.bindAss]
 rfl
theorem K28.oe_rr (w:World):K28.oe w=(K28.rr w).bind K28.cc:=by
 unfold K28.oe K28.rr
 generalize importEnds treeTable (opening K28.pw) w 7730 (start (opening K28.pw)).1 (start (opening K28.pw)).2=o
 cases o with
 | none=>rfl
 | some s =>
  rw [Option.bind_some,Option.bind_some]
  generalize fenceModules? K28.pw s=o2
  cases o2 with
  | none=>rfl
  | some s₀ =>
   rw [Option.bind_some,Option.bind_some]
   generalize (s₀.heap.isNs mainGlobals&&s₀.gens.size == 0)=b
   cases b with
   | false=>rfl
   | true =>
    dsimp only
    generalize topRun treeTable K28.pw w s₀.heap.objs.size (s₀.heap.nsMap mainGlobals "__annotations__") 7730 s₀ (topStub K28.pw)=o3
    cases o3 with
    | none=>rfl
    | some s₁ =>
     rw [Option.bind_some,Option.bind_some,Option.bind_some]
     unfold K28.cc K28.ck
     rfl
noncomputable def K28.c1 (s:Shared):=seen ((recsOf K28.vw).map (·.name)) (ownsOf K28.vw) [] { s with gens:=#[] }
noncomputable def K28.c2 (s:Shared):=s.heap.bltView
noncomputable def K28.c3 (s:Shared):=s.heap.keysOk (looseW K28.vw ["NEEDS","variants"]) ((recsOf K28.vw).map (·.name)) ((litsOf K28.vw).map (·.1)) ((clssOf K28.vw (looseW K28.vw ["NEEDS","variants"])).map (·.name))&&s.heap.accountedOkI (importedModules K28.pw.main.body)&&s.heap.isNs mainGlobals&&s.heap.isNs builtinsNs&&tablesOk K28.vw s.heap&&K28.xt s&&(if true then s.gens.size == 0 else !leftWithCleanup s.gens)
noncomputable def K28.c4 (s:Shared):=tabsOk K28.vw s
noncomputable def K28.c5 (s:Shared):=pinSeenD K28.vw (drecsOf K28.vw) s
noncomputable def K28.c6 (s:Shared):=plainSeenE K28.vw (looseW K28.vw ["NEEDS","variants"]) s
noncomputable def K28.c7 (s:Shared):=plainSeenD K28.vw ["NEEDS","variants"] s
noncomputable def K28.c8 (s:Shared):=wideSeen K28.vw s
noncomputable def K28.c9 (s:Shared):=clsSeenW K28.vw ["NEEDS","variants"] s
noncomputable def K28.co (s:Shared):List (Option Obj):=K28.as.map s.heap.get?
noncomputable def K28.ga (w:World):=Option.map (fun p=>(K28.c1 p.2,K28.c2 p.2,K28.c3 p.2)) (K28.rr w)
noncomputable def K28.gav:=some (expectedOf K28.vw,bltViewBooted,true)
noncomputable def K28.gb (w:World):=Option.map (fun p=>(K28.ck p.1 p.2,K28.co p.2)) (K28.rr w)
noncomputable def K28.gc (w:World):=Option.map (fun p=>(K28.c4 p.2,K28.c5 p.2,K28.c6 p.2)) (K28.rr w)
noncomputable def K28.gcv:=some (true,pinGoodD (drecsOf K28.vw),plainGoodE K28.vw (looseW K28.vw ["NEEDS","variants"]))
noncomputable def K28.gd (w:World):=Option.map (fun p=>(K28.c7 p.2,K28.c8 p.2,K28.c9 p.2)) (K28.rr w)
noncomputable def K28.gdv:=some (plainGoodD K28.vw ["NEEDS","variants"],wideGood K28.vw,clsGoodW K28.vw ["NEEDS","variants"])
def Mm.hdTt {α:Type} (_:α):Bool:=true
theorem K28.lya:Mm.hdTt K28.ga=true:=by k_qdec
theorem K28.lyav:Mm.hdTt K28.gav=true:=by k_qdec
theorem K28.lyb:Mm.hdTt K28.gb=true:=by k_qdec
theorem K28.lyc:Mm.hdTt K28.gc=true:=by k_qdec
theorem K28.lycv:Mm.hdTt K28.gcv=true:=by k_qdec
theorem K28.lyd:Mm.hdTt K28.gd=true:=by k_qdec
theorem K28.lydv:Mm.hdTt K28.gdv=true:=by k_qdec
theorem K28.la0 (w:World):PySem.W.Fast.tw2877168383417056433 (w.withFollow "special-get-raises" false)=PySem.W.Fast.tw16615620959597134890:=by kernel_rfl
theorem K28.la1 (w:World):PySem.W.Fast.tw2877168383417056433 (w.withFollow "special-get-raises" true)=PySem.W.Fast.tw16615620959597134890:=by kernel_rfl
theorem K28.la (w:World):PySem.W.Fast.tw2877168383417056433 w=PySem.W.Fast.tw16615620959597134890:=byRow2 "special-get-raises" (P:=fun w=>PySem.W.Fast.tw2877168383417056433 w=PySem.W.Fast.tw16615620959597134890) K28.la0 K28.la1 w
theorem K28.lb0 (w:World):PySem.W.Fast.tw4313387649475317823 (w.withFollow "special-get-raises" false)=some (true,(K28.pre.heap_1 (w.withFollow "special-get-raises" false).params).map fun p=>some p.2):=by kernel_rfl
theorem K28.lb1 (w:World):PySem.W.Fast.tw4313387649475317823 (w.withFollow "special-get-raises" true)=some (true,(K28.pre.heap_1 (w.withFollow "special-get-raises" true).params).map fun p=>some p.2):=by kernel_rfl
theorem K28.lb (w:World):PySem.W.Fast.tw4313387649475317823 w=some (true,(K28.pre.heap_1 w.params).map fun p=>some p.2):=byRow2 "special-get-raises" (P:=fun w=>PySem.W.Fast.tw4313387649475317823 w=some (true,(K28.pre.heap_1 w.params).map fun p=>some p.2)) K28.lb0 K28.lb1 w
theorem K28.lc0 (w:World):PySem.W.Fast.tw12807508386816940147 (w.withFollow "special-get-raises" false)=PySem.W.Fast.tw10531216840520144133:=by kernel_rfl
theorem K28.lc1 (w:World):PySem.W.Fast.tw12807508386816940147 (w.withFollow "special-get-raises" true)=PySem.W.Fast.tw10531216840520144133:=by kernel_rfl
theorem K28.lc (w:World):PySem.W.Fast.tw12807508386816940147 w=PySem.W.Fast.tw10531216840520144133:=byRow2 "special-get-raises" (P:=fun w=>PySem.W.Fast.tw12807508386816940147 w=PySem.W.Fast.tw10531216840520144133) K28.lc0 K28.lc1 w
theorem K28.ld0 (w:World):PySem.W.Fast.tw10805843058667858585 (w.withFollow "special-get-raises" false)=PySem.W.Fast.tw10507564047095946691:=by kernel_rfl
theorem K28.ld1 (w:World):PySem.W.Fast.tw10805843058667858585 (w.withFollow "special-get-raises" true)=PySem.W.Fast.tw10507564047095946691:=by kernel_rfl
theorem K28.ld (w:World):PySem.W.Fast.tw10805843058667858585 w=PySem.W.Fast.tw10507564047095946691:=byRow2 "special-get-raises" (P:=fun w=>PySem.W.Fast.tw10805843058667858585 w=PySem.W.Fast.tw10507564047095946691) K28.ld0 K28.ld1 w
theorem Mm.four {α β τ τ₁ τ₂ τ₃ τ₄ τ₅ τ₆ τ₇ τ₈ τ₉:Type} {o:Option (α × β)} {k:α->β->Bool} {q:α × β->Option β} (hq:∀ p,k p.1 p.2=true->q p=some p.2) {c₁:β->τ₁} {c₂:β->τ₂} {c₃:β->τ₃} {c₄:β->τ₄} {c₅:β->τ₅} {c₆:β->τ₆} {c₇:β->τ₇} {c₈:β->τ₈} {c₉:β->τ₉} {f:β->τ} {b₁:τ₁} {b₂:τ₂} {b₃:τ₃} {b₄:τ₄} {b₅:τ₅} {b₆:τ₆} {b₇:τ₇} {b₈:τ₈} {b₉:τ₉} {v:τ}
  (h1:o.map (fun p=>(c₁ p.2,c₂ p.2,c₃ p.2))=some (b₁,b₂,b₃)) (h2:o.map (fun p=>(k p.1 p.2,f p.2))=some (true,v)) (h3:o.map (fun p=>(c₄ p.2,c₅ p.2,c₆ p.2))=some (b₄,b₅,b₆)) (h4:o.map (fun p=>(c₇ p.2,c₈ p.2,c₉ p.2))=some (b₇,b₈,b₉)) :
  (o.bind q).map (fun s=>((c₁ s,c₂ s,c₃ s,c₄ s,c₅ s,c₆ s,c₇ s,c₈ s,c₉ s),f s))=some ((b₁,b₂,b₃,b₄,b₅,b₆,b₇,b₈,b₉),v):=by
 cases o with
 | none=>cases h1
 | some p =>
  have h1:=Ql h1
  have h2:=Ql h2
  have h3:=Ql h3
  have h4:=Ql h4
  injection h1 with e1 h1
  injection h1 with e2 e3
  injection h2 with e0 ev
  injection h3 with e4 h3
  injection h3 with e5 e6
  injection h4 with e7 h4
  injection h4 with e8 e9
  rw [Option.bind_some,hq p e0]
  show some ((c₁ p.2,c₂ p.2,c₃ p.2,c₄ p.2,c₅ p.2,c₆ p.2,c₇ p.2,c₈ p.2,c₉ p.2),f p.2)=_
  rw [e1,e2,e3,e4,e5,e6,e7,e8,e9,ev]
theorem K28.left:LeftO PySem.Challenge.pw_manymakes_k28_too_many_cuts K28.vw ["NEEDS","variants"] K28.xt (kHook K28.pre.heap_1 K28.as K28.ase).obs (kHook K28.pre.heap_1 K28.as K28.ase).val 7730:=fun w=>by
 rw [K28.oe_eq,K28.oe_rr]
 have h1:K28.ga w=K28.gav:=(congrFun PySem.W.Fast.te2877168383417056433 w).trans ((K28.la w).trans PySem.W.Fast.te16615620959597134890.symm)
 have h2:K28.gb w=some (true,(K28.pre.heap_1 w.params).map fun p=>some p.2):=(congrFun PySem.W.Fast.te4313387649475317823 w).trans (K28.lb w)
 have h3:K28.gc w=K28.gcv:=(congrFun PySem.W.Fast.te12807508386816940147 w).trans ((K28.lc w).trans PySem.W.Fast.te10531216840520144133.symm)
 have h4:K28.gd w=K28.gdv:=(congrFun PySem.W.Fast.te10805843058667858585 w).trans ((K28.ld w).trans PySem.W.Fast.te10507564047095946691.symm)
 unfold K28.ga K28.gav at h1
 unfold K28.gb at h2
 unfold K28.gc K28.gcv at h3
 unfold K28.gd K28.gdv at h4
 generalize K28.rr w=o at h1 h2 h3 h4 ⊢
 exact Mm.four (k:=K28.ck) (fun p e=>by unfold K28.cc;rw [e]) (c₁:=K28.c1) (c₂:=K28.c2) (c₃:=K28.c3) (c₄:=K28.c4) (c₅:=K28.c5) (c₆:=K28.c6) (c₇:=K28.c7) (c₈:=K28.c8) (c₉:=K28.c9) (f:=K28.co) h1 h2 h3 h4
end
namespace L2
open PySem PySem.Spec PyProof.Rows
noncomputable abbrev Key:=Sum Int Str
noncomputable def keyIs:Key->Value->Bool
 | .inl k,v=>Value.isInt k v
 | .inr x,v=>Value.isStrOf x v
noncomputable def keyH (w:World):Key->Int
 | .inl k=>hashInt k
 | .inr x=>hashStr w x
theorem keyIs_shape:∀ {k:Key} {v:Value},keyIs k v=true->(∃ i t,k=Sum.inl i/\v=Value.int i t)∨(∃ x t,k=Sum.inr x/\v=Value.str x t)
 | .inl i,v,h=>by
  obtain ⟨t,e⟩:=Value.isInt_shape (k:=i) (v:=v) h
  exact .inl ⟨i,t,rfl,e⟩
 | .inr x,v,h=>by
  obtain ⟨t,e⟩:=Value.isStrOf_shape (x:=x) (v:=v) h
  exact .inr ⟨x,t,rfl,e⟩
theorem keyIs_int (i:Int) (t:Tok):keyIs (.inl i) (.int i t)=true:=by simp [keyIs,Value.isInt]
theorem keyIs_str (x:Str) (t:Tok):keyIs (.inr x) (.str x t)=true:=by simp [keyIs,Value.isStrOf]
theorem key_ll (a b:Int):decide ((Sum.inl a:Key)=Sum.inl b)=(a == b):=by
 by_cases e:a=b
 ·subst e;simp
 ·have h:¬ (Sum.inl a:Key)=Sum.inl b:=fun q=>e (Sum.inl.inj q)
  rw [Qe h]
  exact (beq_eq_false_iff_ne.mpr e).symm
theorem key_rr (a b:Str):decide ((Sum.inr a:Key)=Sum.inr b)=decide (a=b):=by
 by_cases e:a=b
 ·subst e;simp
 ·have h:¬ (Sum.inr a:Key)=Sum.inr b:=fun q=>e (Sum.inr.inj q)
  rw [Qe h,Qe e]
theorem key_lr (a:Int) (b:Str):decide ((Sum.inl a:Key)=Sum.inr b)=false:=Qe (fun q=>nomatch q)
theorem key_rl (a:Str) (b:Int):decide ((Sum.inr a:Key)=Sum.inl b)=false:=Qe (fun q=>nomatch q)
noncomputable def mixKind (prog:Program) (w:World):PySem.KeyKind prog w Key where
 is:=keyIs
 hash:=keyH w
 inj:=fun v a b ha hb=>by
  rcases keyIs_shape ha with ⟨i,t,rfl,rfl⟩ | ⟨x,t,rfl,rfl⟩
  ·rcases keyIs_shape hb with ⟨j,u,rfl,e⟩ | ⟨y,u,rfl,e⟩
   ·injection e with e1 _;rw [e1]
   ·exact nomatch e
  ·rcases keyIs_shape hb with ⟨j,u,rfl,e⟩ | ⟨y,u,rfl,e⟩
   ·exact nomatch e
   ·injection e with e1 _;rw [e1]
 byValue:=fun k v h=>by
  rcases keyIs_shape h with ⟨i,t,rfl,rfl⟩ | ⟨x,t,rfl,rfl⟩<;>rfl
 pyHash:=fun hv h=>by
  rcases keyIs_shape hv with ⟨i,t,rfl,rfl⟩ | ⟨x,t,rfl,rfl⟩
  ·exact wpAny_pyHash_int h
  ·exact wpAny_pyHash_str h
 eqBool:=fun hu hv h=>by
  rcases keyIs_shape hu with ⟨i,t,rfl,rfl⟩ | ⟨x,t,rfl,rfl⟩
  ·rcases keyIs_shape hv with ⟨j,u,rfl,rfl⟩ | ⟨y,u,rfl,rfl⟩
   ·rw [key_ll] at h;exact wpAny_eqBool_int h
   ·rw [key_lr] at h;exact SeqAt.EqAt.int_str i t y u _ _ _ _ h
  ·rcases keyIs_shape hv with ⟨j,u,rfl,rfl⟩ | ⟨y,u,rfl,rfl⟩
   ·rw [key_rl] at h;exact SeqAt.EqAt.str_int x t j u _ _ _ _ h
   ·rw [key_rr] at h;exact wpAny_eqBool_str h
 «strs»:=fun k x t v h=>by
  rcases keyIs_shape h with ⟨i,u,rfl,e⟩ | ⟨y,u,rfl,e⟩
  ·exact nomatch e
  ·injection e with e1 _
   subst e1
   cases v<;>rfl
theorem mixKind_int (prog:Program) (w:World) (i:Int) (t:Tok):(mixKind prog w).is (.inl i) (.int i t)=true:=keyIs_int i t
theorem mixKind_str (prog:Program) (w:World) (x:Str) (t:Tok):(mixKind prog w).is (.inr x) (.str x t)=true:=keyIs_str x t
end L2
namespace L2
open PySem PySem.Spec PyProof.Rows
inductive V where
 | non | bl (b:Bool) | int (i:Int) | str (x:Str) | byt (b:Array UInt8) | flt (b:UInt64) | ref (a:Addr) | ty (n:String)
 deriving DecidableEq
noncomputable def RelV:V->Value->Prop
 | .non,u=>u=Value.none
 | .bl b,u=>u=Value.bool b
 | .int i,u=>∃ t,u=Value.int i t
 | .str x,u=>∃ t,u=Value.str x t
 | .byt b,u=>∃ t,u=Value.bytes b t
 | .flt b,u=>∃ t,u=Value.float b t
 | .ref a,u=>u=Value.ref a
 | .ty n,u=>u=Value.type n
noncomputable abbrev Vals:List V->List Value->Prop:=Paired RelV
theorem Vals.length {xs:List V} {us:List Value} (r:Vals xs us):xs.length=us.length:=Paired.length r
theorem Vals.get:∀ {xs:List V} {us:List Value} {i:Nat} {x:V},Vals xs us->xs[i]?=some x->∃ u,us[i]?=some u/\RelV x u
 | _,_,_,_,.nil,e=>by simp at e
 | _,_,0,_,.cons r _,e=>by simp at e;subst e;exact ⟨_,rfl,r⟩
 | _,_,i+1,x,.cons _ t,e=>by
  obtain ⟨u,h1,h2⟩:=Vals.get (i:=i) (x:=x) t (by simpa using e)
  exact ⟨u,by simpa using h1,h2⟩
theorem Vals.append:∀ {xs ys:List V} {us ws:List Value},Vals xs us->Vals ys ws->Vals (xs++ys) (us++ws)
 | _,_,_,_,.nil,s=>s
 | _,_,_,_,.cons r t,s=>.cons r (Vals.append t s)
theorem Vals.take:∀ {xs:List V} {us:List Value} (n:Nat),Vals xs us->Vals (xs.take n) (us.take n)
 | _,_,0,_=>.nil
 | _,_,_+1,.nil=>.nil
 | _,_,n+1,.cons r t=>.cons r (Vals.take n t)
theorem Vals.drop:∀ {xs:List V} {us:List Value} (n:Nat),Vals xs us->Vals (xs.drop n) (us.drop n)
 | _,_,0,r=>r
 | _,_,_+1,.nil=>.nil
 | _,_,n+1,.cons _ t=>Vals.drop n t
noncomputable def RelO:Option V->Option Value->Prop
 | some v,some u=>RelV v u
 | none,none=>True
 | _,_=>False
noncomputable def KV {κ:Type}:List (κ × V)->List (κ × Value)->Prop:=Paired fun (p:κ × V) (q:κ × Value)=>p.1=q.1/\RelV p.2 q.2
noncomputable def kV:Key->V
 | .inl i=>.int i
 | .inr x=>.str x
inductive HO where
 | lst (xs:List V)
 | tup (xs:List V)
 | dK (kvs:List (Key × V)) | dT (kvs:List (List Key × V))
 | set (S:Int->Bool) (n:Nat)
 | ins (C dx:Addr) (fs:List (Str × V))
 | own (x:Addr)
 | xd (fs:List (Str × V))
 | met (f x:Addr)
 | rng (lo hi:Int)
 | frz (o:Obj) (u:HO)
 | tbl (ps:Array Value)
 | ext (φ:Heap->Prop)
noncomputable abbrev Hp:=Addr->Option HO
noncomputable def upd (H:Hp) (a:Addr) (o:HO):Hp:=fun b=>if b=a then some o else H b
theorem upd_same {H:Hp} {a:Addr} {o:HO}:upd H a o a=some o:=by unfold upd;rw [if_pos rfl]
theorem upd_ne {H:Hp} {a b:Addr} {o:HO} (h:b≠a):upd H a o b=H b:=by unfold upd;rw [if_neg h]
theorem upd_upd {H:Hp} {a:Addr} {o u:HO}:upd (upd H a o) a u=upd H a u:=by
 funext b;unfold upd;split<;>rfl
theorem ne_of {H:Hp} {a b:Addr} {o u:HO} (h:H a=some o) (h':H b=some u) (d:o≠u):a≠b:=by
 intro e;subst e;rw [h] at h';exact d (Ql h')
theorem ne_of_none {H:Hp} {a b:Addr} {o:HO} (h:H a=some o) (h':H b=none):a≠b:=by
 intro e;subst e;rw [h] at h';cases h'
section
variable (P:Program) (w:World)
noncomputable def ObjOk (H:Hp) (h:Heap) (a:Addr):HO->Prop
 | .lst xs=>xs.length<=sizeLine/\∃ (its:List Value) (n:Nat),Vals xs its/\h.get? a=some { cls:=.type "list",data:=.seq its.toArray n }
 | .tup xs=>xs.length<=sizeLine/\∃ its:List Value,Vals xs its/\IsTup h a its.toArray
 | .dK kvs=>kvs.length<=sizeLine/\(a == sysModules)=false/\∃ vs,KV kvs vs/\h.DictOf (mixKind P w) a vs
 | .dT kvs=>kvs.length<=sizeLine/\(a == sysModules)=false/\∃ xs:List (List Key × Addr × Value),
   Paired (fun (p:List Key × V) (q:List Key × Addr × Value)=>p.1=q.1/\H q.2.1=some (.tup (p.1.map kV))/\RelV p.2 q.2.2) kvs xs /\
   ∃ o es ep,h.get? a=some o/\o.ExactDict/\o.data=.dict es ep/\es.toList=xs.map (entryOfKey (tupleKind (mixKind P w)))/\(xs.map (·.1)).Nodup
 | .set S n=>h.SetOf (intKind P w) a S n
 | .ins C dx fs=>H dx=some (.own a)/\fs.length<=1000/\dx≠a/\h.get? a=some (PySem.W.instObj C dx) /\
   ∃ mA,h.Ns1 dx mA/\(∀ f,RelO (fs.lookup f) (mA f))/\PySem.Within mA (fs.map (·.1))
 | .own _=>∃ o,h.get? a=some o
 | .xd fs=>∃ mA,h.Ns1 a mA/\∀ f,RelO (fs.lookup f) (mA f)
 | .rng lo hi=>∃ t u v,h.get? a=some { cls:=.type "range",data:=.fields #[.int lo t,.int hi u,.int 1 v] }
 | .frz o u=>h.get? a=some o/\ObjOk H h a u
 | .tbl ps=>h.get? a=some { cls:=.none,data:=.fields ps }
 | .met f x=>h.get? a=some (PySem.W.methodObj (.ref f) (.ref x))
 | .ext φ=>φ h/\(∃ o,h.get? a=some o)/\∀ h1 h2:Heap,φ h1->(∀ o,h1.get? a=some o->h2.get? a=some o)->φ h2
noncomputable def HOk (H:Hp) (h:Heap):Prop:=∀ a o,H a=some o->ObjOk P w H h a o
end
section
variable {P:Program} {w:World} {H H':Hp} {h h':Heap} {a:Addr} {o:HO}
theorem ObjOk.lt (x:ObjOk P w H h a o):a<h.objs.size:=by
 cases o with
 | lst xs=>obtain ⟨_,_,_,_,e⟩:=x;exact Qn e
 | tup xs=>obtain ⟨_,_,_,p⟩:=x;exact p.lt
 | dK kvs=>obtain ⟨_,_,_,_,o,_,_,e,_⟩:=x;exact Qn e
 | dT kvs=>obtain ⟨_,_,_,_,o,_,_,e,_⟩:=x;exact Qn e
 | set S n=>obtain ⟨o,_,_,_,e,_⟩:=x;exact Qn e
 | ins C dx fs=>obtain ⟨_,_,_,e,_⟩:=x;exact Qn e
 | own y=>obtain ⟨_,e⟩:=x;exact Qn e
 | xd fs=>obtain ⟨_,⟨_,_,_,e,_⟩,_⟩:=x;exact Qn e
 | rng lo hi=>obtain ⟨_,_,_,e⟩:=x;exact Qn e
 | frz ob u=>obtain ⟨e,_⟩:=x;exact Qn e
 | tbl ps=>exact Qn (show h.get? a=some _ from x)
 | met f y=>exact Qn (show h.get? a=some _ from x)
 | ext φ=>obtain ⟨_,⟨_,e⟩,_⟩:=x;exact Qn e
theorem Paired.mapP {α β:Type} {F G:α->β->Prop}:∀ {l₁:List α} {l₂:List β},Paired F l₁ l₂->(∀ a b,F a b->G a b)->Paired G l₁ l₂
 | _,_,.nil,_=>.nil
 | _,_,.cons r t,f=>.cons (f _ _ r) (Paired.mapP t f)
theorem ObjOk.stay (x:ObjOk P w H h a o) (k:∀ b u,(b=a∨H b=some (.own a))->h.get? b=some u->h'.get? b=some u)
  (ho:∀ b,H b=some (.own a)->H' b=some (.own a)) (ht:∀ b xs,H b=some (.tup xs)->H' b=some (.tup xs)):ObjOk P w H' h' a o:=by
 induction o with
 | lst xs=>obtain ⟨z,its,n,r,e⟩:=x;exact ⟨z,its,n,r,k _ _ (.inl rfl) e⟩
 | tup xs=>obtain ⟨z,its,r,ob,e,c⟩:=x;exact ⟨z,its,r,ob,k _ _ (.inl rfl) e,c⟩
 | dK kvs=>obtain ⟨z,y,vs,r,ob,es,ep,e,c⟩:=x;exact ⟨z,y,vs,r,ob,es,ep,k _ _ (.inl rfl) e,c⟩
 | dT kvs =>
  obtain ⟨z,y,xs,r,ob,es,ep,e,c⟩:=x
  exact ⟨z,y,xs,Paired.mapP r fun p q z=>⟨z.1,ht _ _ z.2.1,z.2.2⟩,ob,es,ep,k _ _ (.inl rfl) e,c⟩
 | set S n=>obtain ⟨ob,es,ep,t,e,c⟩:=x;exact ⟨ob,es,ep,t,k _ _ (.inl rfl) e,c⟩
 | ins C dx fs =>
  obtain ⟨d,z,ne,e,mA,⟨od,es,ep,e2,c⟩,r⟩:=x
  exact ⟨ho _ d,z,ne,k _ _ (.inl rfl) e,mA,⟨od,es,ep,k _ _ (.inr d) e2,c⟩,r⟩
 | own y=>obtain ⟨ob,e⟩:=x;exact ⟨ob,k _ _ (.inl rfl) e⟩
 | xd fs=>obtain ⟨mA,⟨od,es,ep,e,c⟩,r⟩:=x;exact ⟨mA,⟨od,es,ep,k _ _ (.inl rfl) e,c⟩,r⟩
 | rng lo hi=>obtain ⟨t,u,v,e⟩:=x;exact ⟨t,u,v,k _ _ (.inl rfl) e⟩
 | frz ob u ih=>obtain ⟨e,q⟩:=x;exact ⟨k _ _ (.inl rfl) e,ih q⟩
 | tbl ps =>
  have e:h.get? a=some { cls:=.none,data:=.fields ps }:=x
  show h'.get? a=some { cls:=.none,data:=.fields ps }
  exact k a _ (.inl rfl) e
 | met f y =>
  have e:h.get? a=some (PySem.W.methodObj (.ref f) (.ref y)):=x
  show h'.get? a=some (PySem.W.methodObj (.ref f) (.ref y))
  exact k a _ (.inl rfl) e
 | ext φ=>obtain ⟨p,⟨o,e⟩,st⟩:=x;exact ⟨st _ _ p fun o q=>k _ _ (.inl rfl) q,⟨o,k _ _ (.inl rfl) e⟩,st⟩
theorem HOk.lt (x:HOk P w H h) (e:H a=some o):a<h.objs.size:=(x a o e).lt
theorem HOk.fresh (x:HOk P w H h) (e:h.objs.size<=a):H a=none:=by
 cases q:H a with
 | none=>rfl
 | some u=>exact absurd (Nat.lt_of_lt_of_le (x.lt q) e) (Nat.lt_irrefl _)
theorem HOk.kept (x:HOk P w H h) (k:∀ b u,h.get? b=some u->h'.get? b=some u):HOk P w H h':=fun a o e =>
 (x a o e).stay (fun b u _ q=>k b u q) (fun _ q=>q) fun _ _ q=>q
theorem HOk.laid (x:HOk P w H h) (k:∀ b u,h.get? b=some u->h'.get? b=some u) (hp:h.objs.size<=a) (new:ObjOk P w (upd H a o) h' a o):HOk P w (upd H a o) h':=fun b u e=>by
 have hn:=x.fresh hp
 by_cases hb:b=a
 ·subst hb;rw [upd_same] at e;cases e;exact new
 ·rw [upd_ne hb] at e
  exact (x b u e).stay (fun c v _ q=>k c v q) (fun c q=>by rw [upd_ne (ne_of_none q hn)];exact q) fun c xs q=>by rw [upd_ne (ne_of_none q hn)];exact q
end
noncomputable def Rd (H:Hp) (a:Addr) (u:HO):Prop:=H a=some u∨∃ o,H a=some (.frz o u)
theorem Rd.ok {P:Program} {w:World} {H:Hp} {h:Heap} {a:Addr} {u:HO} (r:Rd H a u) (x:HOk P w H h):ObjOk P w H h a u:=by
 rcases r with r | ⟨o,r⟩
 ·exact x a u r
 ·obtain ⟨_,q⟩:=x a _ r
  exact q
noncomputable def Mut:Option HO->Prop
 | some (.lst _)=>True
 | some (.dK _)=>True
 | some (.dT _)=>True
 | some (.set _ _)=>True
 | some (.ins _ _ _)=>True
 | some (.ext _)=>True
 | _=>False
section
variable {P:Program} {w:World} {H:Hp} {h h':Heap} {x e:Addr} {o':HO}
theorem HOk.write (ok:HOk P w H h) (mu:Mut (H x)) (he:e=x∨H e=some (.own x)) (k:∀ b u,b≠e->h.get? b=some u->h'.get? b=some u) (heo:∃ u,h'.get? e=some u)
  (new:ObjOk P w (upd H x o') h' x o'):HOk P w (upd H x o') h':=fun b u q=>by
 have nown:∀ c y,H c=some (.own y)->c≠x:=fun c y r z=>by subst z;rw [r] at mu;exact mu
 have ntup:∀ c xs,H c=some (.tup xs)->c≠x:=fun c xs r z=>by subst z;rw [r] at mu;exact mu
 by_cases hb:b=x
 ·subst hb;rw [upd_same] at q;cases q;exact new
 ·rw [upd_ne hb] at q
  by_cases hbe:b=e
  ·have q':H b=some (.own x):=by
    rcases he with z | z
    ·exact absurd (hbe.trans z) hb
    ·rw [hbe];exact z
   rw [q] at q';cases q'
   obtain ⟨v,hv⟩:=heo
   exact ⟨v,by rw [hbe];exact hv⟩
  ·refine (ok b u q).stay (fun c v hc r=>k c v ?_ r) (fun c r=>by rw [upd_ne (nown c b r)];exact r) fun c xs r=>by rw [upd_ne (ntup c xs r)];exact r
   rcases hc with rfl | hc
   ·exact hbe
   ·rintro rfl
    rcases he with z | z
    ·exact nown c b hc z
    ·rw [hc] at z;cases z;exact hb rfl
end
structure Un (fs ex:List Addr) (H H':Hp) (h h':Heap):Prop where
 keep:∀ b o,h.get? b=some o->H b=none->b∉fs->b∉ex->h'.get? b=some o
 slot:∀ b o,h.get? b=some o->H b=none->b∈fs->b∉ex->∃ sl,h'.get? b=some { o with slots:=sl }
 free:∀ b o,h.get? b=some o->H b=none->b∉ex->H' b=none
 there:∀ b o,h.get? b=some o->b∉ex->∃ o',h'.get? b=some o'
 tups:∀ b xs,H b=some (.tup xs)->H' b=some (.tup xs)
 frzs:∀ b o u,H b=some (.frz o u)->H' b=some (.frz o u)
 tbls:∀ b ps,H b=some (.tbl ps)->∃ more,H' b=some (.tbl (ps++more))
section
variable {fs fs' ex ex':List Addr} {H H1 H2:Hp} {h h1 h2 h':Heap} {a x e:Addr} {o:HO}
theorem Un.any (u:Un fs ex H H1 h h1) {b:Addr} {ob:Obj} (q:h.get? b=some ob) (n:H b=none) (hx:b∉ex):∃ sl,h1.get? b=some { ob with slots:=sl }:=by
 by_cases hb:b∈fs
 ·exact u.slot b ob q n hb hx
 ·exact ⟨ob.slots,u.keep b ob q n hb hx⟩
theorem Un.kept (k:∀ b u,h.get? b=some u->h'.get? b=some u):Un fs ex H H h h' :=
 ⟨fun b ob q _ _ _=>k b ob q,fun b ob q _ _ _=>⟨ob.slots,k b ob q⟩,fun _ _ _ n _=>n,fun b ob q _=>⟨ob,k b ob q⟩,fun _ _ q=>q,fun _ _ _ q=>q,fun _ ps q=>⟨#[],by rw [q];simp⟩⟩
theorem Un.refl:Un fs ex H H h h:=Un.kept fun _ _ q=>q
theorem Un.laid (k:∀ b u,h.get? b=some u->h'.get? b=some u) (hp:h.objs.size<=a) (hn:H a=none):Un fs ex H (upd H a o) h h' where
 keep:=fun b u q _ _ _=>k b u q
 slot:=fun b u q _ _ _=>⟨u.slots,k b u q⟩
 free:=fun b u q n _=>by rw [upd_ne (Qw (Nat.lt_of_lt_of_le (Qn q) hp))];exact n
 there:=fun b u q _=>⟨u,k b u q⟩
 tups:=fun b xs q=>by rw [upd_ne (ne_of_none q hn)];exact q
 frzs:=fun b u xs q=>by rw [upd_ne (ne_of_none q hn)];exact q
 tbls:=fun b ps q=>⟨#[],by rw [upd_ne (ne_of_none q hn),q];simp⟩
theorem Un.write (mu:Mut (H x)) (he:e=x∨H e=some (.own x)) (k:∀ b u,b≠e->h.get? b=some u->h'.get? b=some u) (heo:∃ u,h'.get? e=some u):Un fs ex H (upd H x o) h h':=by
 have hx:∀ b,H b=none->b≠x:=fun b n z=>by subst z;rw [n] at mu;exact mu
 have hb:∀ b,H b=none->b≠e:=fun b n z=>by
  subst z
  rcases he with r | r
  ·exact hx b n r
  ·rw [n] at r;cases r
 have hm:∀ b u,H b=some u->¬ Mut (some u)->b≠x:=fun b u q nm z=>by subst z;rw [q] at mu;exact nm mu
 refine ⟨fun b u q n _ _=>k b u (hb b n) q,fun b u q n _ _=>⟨u.slots,k b u (hb b n) q⟩,fun b u q n _=>by rw [upd_ne (hx b n)];exact n,fun b u q _=>?_,
  fun b xs q=>by rw [upd_ne (hm b _ q fun z=>z)];exact q,fun b u xs q=>by rw [upd_ne (hm b _ q fun z=>z)];exact q,fun b ps q=>⟨#[],by rw [upd_ne (hm b _ q fun z=>z),q];simp⟩⟩
 by_cases hbe:b=e
 ·subst hbe;exact heo
 ·exact ⟨u,k b u hbe q⟩
end
noncomputable def trk (h:Heap) (H:Hp):List Addr:=(List.range h.objs.size).filter fun a=>(H a).isSome
noncomputable def hidT (h:Heap) (H:Hp):Heap:=PySem.W.hideAll h (trk h H)
theorem hidT_size (h:Heap) (H:Hp):(hidT h H).objs.size=h.objs.size:=PySem.W.hideAll_size _ _
theorem hidT_get {h:Heap} {H:Hp} {b:Addr} {o:Obj} (e:h.get? b=some o) (n:H b=none):(hidT h H).get? b=some o :=
 PySem.W.hideAll_get _ e fun hm=>by
  have q:(H b).isSome=true:=(List.mem_filter.mp hm).2
  rw [n] at q;simp at q
theorem of_hidT {h:Heap} {H:Hp} {b:Addr} {o:Obj} (e:(hidT h H).get? b=some o):h.get? b=some o/\H b=none:=by
 have e':h.get? b=some o:=PySem.W.of_hideAll (trk h H) e
 refine ⟨e',?_⟩
 cases q:H b with
 | none=>rfl
 | some x =>
  have hm:b∈trk h H:=List.mem_filter.mpr ⟨List.mem_range.mpr (Qn e'),by simp [q]⟩
  have z:(hidT h H).get? b=none:=PySem.W.hideAll_none (trk h H) hm
  rw [z] at e;cases e
end L2
namespace L2
open PySem PySem.Spec PyProof.Rows
structure Mod (K:PySem.W.Frag) (mg:Str->Option Value) (base:Heap):Prop where
 kin:K.In base
 glob:base.Ns mainGlobals mg
 blt:∃ mb,base.Ns builtinsNs mb/\∀ x:Str,x≠"__name__"->mb x=bootBuiltins x
 nolimit:base.NoLimit
structure Cx where
 prog:Program
 w:World
 K:PySem.W.Frag
 mg:Str->Option Value
 base:Heap
 A:Around
 N:List Str
 s₀:Shared
 H₀:Hp
 env:Env
 outer:List Env
 stack:List Env
 ex:List Addr
 fn:Str->Bool
 calm:Bool
 pn:List (Addr × Obj)
 xe:Value->Shared->Prop
noncomputable def frs (l:List Env):List Addr:=l.filterMap (·.frame)
noncomputable abbrev Cx.fs (X:Cx):List Addr:=frs X.outer
noncomputable def Vis (sc:Scope) (x:Str):Prop:=sc.names.lookup x=some .local∨sc.names.lookup x=some .cell∨sc.names.lookup x=some .free
noncomputable def Loc (sc:Scope) (x:Str):Prop:=sc.names.lookup x=some .local∨sc.names.lookup x=some .cell
noncomputable def Look (env:Env) (h:Heap) (m:Str->Option Value) (x:Str) (u:Value):Prop :=
 (env.kindOf x=some .local/\m x=some u)∨((env.kindOf x=some .cell∨env.kindOf x=some .free)/\∃ c,env.cells.lookup x=some c/\h.IsCell c (some u))
structure Cx.Ok (X:Cx):Prop where
 mod:Mod X.K X.mg X.base
 kind:X.env.scope.kind=.function
 glob:X.env.globals=mainGlobals
 blt:X.env.builtins=builtinsNs
 above:X.s₀.heap.objs.size<=X.env.locals
 inj:∀ x y c,X.env.cells.lookup x=some c->X.env.cells.lookup y=some c->x=y
 has:∀ x,(X.env.kindOf x=some .cell∨X.env.kindOf x=some .free)->∃ c,X.env.cells.lookup x=some c
 cab:∀ x c,X.fn x=true->X.env.cells.lookup x=some c->X.s₀.heap.objs.size<=c
 hd:X.calm=true->X.A.handled=none
 frames:X.A.frames=some X.stack
 stk:X.stack=X.outer∨(X.stack=X.env::X.outer/\X.env.frame=some X.env.locals)
 exf:∀ b∈X.ex,b≠X.env.locals/\∀ x c,X.env.cells.lookup x=some c->c≠b
 bs:∀ b o,X.base.get? b=some o->X.s₀.heap.get? b=some o/\X.H₀ b=none
 bsz:X.base.objs.size<=X.s₀.heap.objs.size
 noex:∀ b o,X.base.get? b=some o->b∉X.ex
 exfs:∀ b∈X.ex,b∉X.fs
 funs:X.s₀.heap.FunFrames X.base X.outer
 frf:∀ b∈X.fs,X.H₀ b=none
structure Inv (X:Cx) (pins:List (Addr × Obj)) (σ:List (Option V)) (H:Hp) (s:Shared):Prop where
 ok:X.Ok
 os:s.os=X.s₀.os
 bare:AllBare s.gens
 base:Un X.fs X.ex X.H₀ H X.s₀.heap s.heap
 loc:∃ m,s.heap.Ns X.env.locals m/\∀ (i:Nat) (x:Str) (v:V),X.N[i]?=some x->σ[i]?=some (some v)->Vis X.env.scope x->∃ u,RelV v u/\Look X.env s.heap m x u
 cell:∀ x c,X.env.cells.lookup x=some c->∃ v,s.heap.IsCell c v
 free:H X.env.locals=none
 freeC:∀ x c,X.env.cells.lookup x=some c->H c=none
 pin:∀ p∈X.pn++pins,s.heap.get? p.1=some p.2/\H p.1=none/\p.1≠X.env.locals/\p.1∉X.fs/\∀ v,p.2.data≠.cell v
 hok:HOk X.prog X.w H s.heap
 len:σ.length=X.N.length
section
variable {X:Cx} {pins:List (Addr × Obj)} {σ:List (Option V)} {H H':Hp} {s:Shared} {h':Heap}
theorem Cx.Ok.nofr (ok:X.Ok) {b:Addr} {o:Obj} (e:X.base.get? b=some o):b∉X.fs:=fun hb=>by
 have:=(ok.funs.mem hb).1
 rw [e] at this;cases this
theorem Inv.bs (I:Inv X pins σ H s):∀ b o,X.base.get? b=some o->s.heap.get? b=some o/\H b=none:=fun b o e =>
 ⟨I.base.keep b o (I.ok.bs b o e).1 (I.ok.bs b o e).2 (I.ok.nofr e) (I.ok.noex b o e),I.base.free b o (I.ok.bs b o e).1 (I.ok.bs b o e).2 (I.ok.noex b o e)⟩
theorem Inv.bk (I:Inv X pins σ H s):∀ b o,X.base.get? b=some o->s.heap.get? b=some o:=fun b o e=>(I.bs b o e).1
theorem Inv.mod (I:Inv X pins σ H s):Mod X.K X.mg X.base:=I.ok.mod
theorem Inv.kIn (I:Inv X pins σ H s):X.K.In s.heap:=I.ok.mod.kin.keeps I.bk
theorem Inv.lt (I:Inv X pins σ H s):X.env.locals<s.heap.objs.size:=by obtain ⟨_,hn,_⟩:=I.loc;exact hn.lt
theorem Inv.sz (I:Inv X pins σ H s):X.s₀.heap.objs.size<=s.heap.objs.size:=QA I.ok.above (Nat.le_of_lt I.lt)
theorem Inv.nofs (I:Inv X pins σ H s) {a:Addr} (h:s.heap.objs.size<=a):a∉X.fs:=fun hb=>by
 obtain ⟨_,o,ho,_⟩:=I.ok.funs.mem hb
 exact absurd (Nat.lt_of_lt_of_le (Qn ho) (QA I.sz h)) (Nat.lt_irrefl _)
theorem Inv.cne (I:Inv X pins σ H s):∀ x c,X.env.cells.lookup x=some c->c≠X.env.locals:=fun x c e z=>by
 obtain ⟨v,o,ho,hd⟩:=I.cell x c e
 obtain ⟨m,⟨o',es,ep,ho',hd',_⟩,_⟩:=I.loc
 rw [z,ho'] at ho;cases ho;rw [hd'] at hd;cases hd
theorem Inv.funs (I:Inv X pins σ H s):s.heap.FunFrames X.base X.outer:=by
 have all:∀ (l:List Env),(∀ b∈frs l,b∈X.fs)->X.s₀.heap.FunFrames X.base l->s.heap.FunFrames X.base l:=by
  intro l
  induction l with
  | nil=>intro _ _;trivial
  | cons env r ih =>
   intro hs hl
   obtain ⟨hk,⟨L,o,hf,hn,ho,hd⟩,hr⟩:=hl
   have hL:L∈X.fs:=hs L (by unfold frs;rw [List.filterMap_cons,hf];exact Qp)
   obtain ⟨sl,e⟩:=I.base.slot L o ho (I.ok.frf L hL) hL fun z=>I.ok.exfs L z hL
   exact ⟨hk,⟨L,_,hf,hn,e,hd⟩,ih (fun b hb=>hs b (by unfold frs;rw [List.filterMap_cons,hf];exact Qm _ hb)) hr⟩
 exact all X.outer (fun _ hb=>hb) I.ok.funs
theorem Inv.stack (I:Inv X pins σ H s):s.heap.FunFrames X.base X.stack:=by
 rcases I.ok.stk with e | ⟨e,hf⟩
 ·rw [e];exact I.funs
 ·rw [e]
  obtain ⟨m,hn,_⟩:=I.loc
  refine .cons (by rw [I.ok.kind];decide) hf hn ?_ I.funs
  exact Heap.get?_none_of_le (QA I.ok.bsz I.ok.above)
theorem Inv.stkSub (I:Inv X pins σ H s):∀ b∈frs X.stack,b∈X.env.locals::X.fs:=fun b hb=>by
 rcases I.ok.stk with e | ⟨e,hf⟩
 ·rw [e] at hb;exact Qm _ hb
 ·rw [e] at hb
  unfold frs at hb
  rw [List.filterMap_cons,hf] at hb
  exact hb
theorem Inv.stkFree (I:Inv X pins σ H s):∀ b∈frs X.stack,H b=none:=fun b hb=>by
 rcases Qi (I.stkSub b hb) with e | hb
 ·rw [e];exact I.free
 ·obtain ⟨_,o,ho,_⟩:=I.ok.funs.mem hb
  exact I.base.free b o ho (I.ok.frf b hb) fun z=>I.ok.exfs b z hb
theorem Inv.step {g':Array GenState} {t':Nat} {d':Drawn} {ch:List Addr} (I:Inv X pins σ H s)
  (hch:∀ b∈ch,(b∈X.ex∨X.s₀.heap.objs.size<=b)/\b≠X.env.locals/\(∀ x c,X.env.cells.lookup x=some c->c≠b)/\∀ p∈X.pn++pins,p.1≠b)
  (keep:∀ b o,b≠X.env.locals->b∉X.fs->b∉ch->s.heap.get? b=some o->H b=none->h'.get? b=some o)
  (slot:∀ b o,b≠X.env.locals->b∈X.fs->b∉ch->s.heap.get? b=some o->H b=none->∃ sl,h'.get? b=some { o with slots:=sl }) (free:∀ b o,b∉ch->s.heap.get? b=some o->H b=none->H' b=none)
  (there:∀ b o,b∉ch->s.heap.get? b=some o->∃ o',h'.get? b=some o')
  (tups:∀ b xs,H b=some (.tup xs)->H' b=some (.tup xs)) (frzs:∀ b o u,H b=some (.frz o u)->H' b=some (.frz o u)) (tbls:∀ b ps,H b=some (.tbl ps)->∃ more,H' b=some (.tbl (ps++more)))
  (ns:∀ m,s.heap.Ns X.env.locals m->h'.Ns X.env.locals m) (hok:HOk X.prog X.w H' h') (hg:AllBare g') :
  Inv X pins σ H' { s with heap:=h',gens:=g',drawn:=d',toks:=t' }:=by
 have neL:∀ b o,X.s₀.heap.get? b=some o->b≠X.env.locals:=fun b o e=>Qw (Nat.lt_of_lt_of_le (Qn e) I.ok.above)
 have neC:∀ b o,X.s₀.heap.get? b=some o->b∉X.ex->b∉ch:=fun b o e hx hb=>by
  rcases (hch b hb).1 with z | z
  ·exact hx z
  ·exact absurd (Nat.lt_of_lt_of_le (Qn e) z) (Nat.lt_irrefl _)
 have cellK:∀ x c,X.env.cells.lookup x=some c->∀ v,s.heap.IsCell c v->h'.IsCell c v:=fun x c e v ⟨o,ho,hd⟩=>by
  have nch:c∉ch:=fun z=>(hch c z).2.2.1 x c e rfl
  by_cases hc:c∈X.fs
  ·obtain ⟨sl,q⟩:=slot c o (I.cne x c e) hc nch ho (I.freeC x c e)
   exact ⟨_,q,hd⟩
  ·exact ⟨o,keep c o (I.cne x c e) hc nch ho (I.freeC x c e),hd⟩
 refine ⟨I.ok,I.os,hg,⟨fun b o e n hb hx=>?_,fun b o e n hb hx=>?_,fun b o e n hx=>?_,fun b o e hx=>?_,fun b xs e=>tups b xs (I.base.tups b xs e),fun b o xs e=>frzs b o xs (I.base.frzs b o xs e),fun b ps e=>?_⟩,?_,fun x c e=>?_,?_,fun x c e=>?_,fun p hp=>?_,hok,I.len⟩
 ·exact keep b o (neL b o e) hb (neC b o e hx) (I.base.keep b o e n hb hx) (I.base.free b o e n hx)
 ·obtain ⟨sl,e1⟩:=I.base.slot b o e n hb hx
  obtain ⟨sl',e2⟩:=slot b _ (neL b o e) hb (neC b o e hx) e1 (I.base.free b o e n hx)
  exact ⟨sl',e2⟩
 ·obtain ⟨o',e1⟩:=I.base.there b o e hx
  exact free b o' (neC b o e hx) e1 (I.base.free b o e n hx)
 ·obtain ⟨o',e1⟩:=I.base.there b o e hx
  exact there b o' (neC b o e hx) e1
 ·obtain ⟨m1,e1⟩:=I.base.tbls b ps e
  obtain ⟨m2,e2⟩:=tbls b _ e1
  exact ⟨m1++m2,by rw [e2,Array.append_assoc]⟩
 ·obtain ⟨m,hn,hl⟩:=I.loc
  refine ⟨m,ns m hn,fun i x v e1 e2 e3=>?_⟩
  obtain ⟨u,r,l⟩:=hl i x v e1 e2 e3
  refine ⟨u,r,?_⟩
  rcases l with l | ⟨k,c,e,z⟩
  ·exact .inl l
  ·exact .inr ⟨k,c,e,cellK x c e _ z⟩
 ·obtain ⟨v,z⟩:=I.cell x c e
  exact ⟨v,cellK x c e v z⟩
 ·obtain ⟨m,⟨o,_,_,ho,_⟩,_⟩:=I.loc
  exact free _ o (fun z=>(hch _ z).2.1 rfl) ho I.free
 ·obtain ⟨v,o,ho,hd⟩:=I.cell x c e
  exact free c o (fun z=>(hch c z).2.2.1 x c e rfl) ho (I.freeC x c e)
 ·obtain ⟨e,n,ne,nf,d⟩:=I.pin p hp
  have nch:p.1∉ch:=fun z=>(hch p.1 z).2.2.2 p hp rfl
  exact ⟨keep p.1 p.2 ne nf nch e n,free p.1 p.2 nch e n,ne,nf,d⟩
theorem Inv.un {t':Nat} (I:Inv X pins σ H s) (u:Un X.fs [] H H' s.heap h') (hok:HOk X.prog X.w H' h'):Inv X pins σ H' { s with heap:=h',toks:=t' }:=by
 obtain ⟨m,⟨o,es,ep,ho,r⟩,_⟩:=id I.loc
 obtain ⟨sl,hL⟩:=u.any ho I.free (by simp)
 exact I.step (g':=s.gens) (d':=s.drawn) (ch:=[]) (fun _ z=>nomatch z) (fun b o _ hb _ e n=>u.keep b o e n hb (by simp)) (fun b o _ hb _ e n=>u.slot b o e n hb (by simp)) (fun b o _ e n=>u.free b o e n (by simp)) (fun b o _ e=>u.there b o e (by simp)) u.tups u.frzs u.tbls (fun m' hm=>by
  obtain ⟨o',es',ep',ho',r'⟩:=hm
  rw [ho] at ho';cases ho'
  exact ⟨_,es',ep',hL,r'⟩) hok I.bare
theorem Inv.call {g':Array GenState} {t':Nat} {d':Drawn} {ch:List Addr} (I:Inv X pins σ H s) (u:Un (frs X.stack) ch H H' s.heap h') (hok:HOk X.prog X.w H' h') (hg:AllBare g')
  (hch:∀ b∈ch,(b∈X.ex∨X.s₀.heap.objs.size<=b)/\b≠X.env.locals/\(∀ x c,X.env.cells.lookup x=some c->c≠b)/\∀ p∈X.pn++pins,p.1≠b) :
  Inv X pins σ H' { s with heap:=h',gens:=g',drawn:=d',toks:=t' }:=by
 obtain ⟨m,⟨o,es,ep,ho,r⟩,_⟩:=id I.loc
 obtain ⟨sl,hL⟩:=u.any ho I.free fun z=>(hch _ z).2.1 rfl
 exact I.step (ch:=ch) hch (fun b o hL hb hc e n=>u.keep b o e n (fun z=>(Qi (I.stkSub b z)).elim hL hb) hc) (fun b o _ _ hc e n=>u.any e n hc) (fun b o hc e n=>u.free b o e n hc) (fun b o hc e=>u.there b o e hc) u.tups u.frzs u.tbls (fun m' hm=>by
  obtain ⟨o',es',ep',ho',r'⟩:=hm
  rw [ho] at ho';cases ho'
  exact ⟨_,es',ep',hL,r'⟩) hok hg
theorem Inv.turned {t':Nat} {it:Addr} (I:Inv X pins σ H s) (k:∀ b o,b≠it->s.heap.get? b=some o->h'.get? b=some o) (hn:H it=none) (hL:it≠X.env.locals)
  (h1:it∈X.ex∨X.s₀.heap.objs.size<=it) (h2:∀ x c,X.env.cells.lookup x=some c->c≠it) (h3:∀ p∈X.pn++pins,p.1≠it):Inv X pins σ H { s with heap:=h',toks:=t' }:=by
 have nit:∀ b u,H b=some u->b≠it:=fun b u e z=>by rw [z,hn] at e;cases e
 refine I.step (g':=s.gens) (d':=s.drawn) (ch:=[it]) (fun b hb=>?_) (fun b o _ _ hc e _=>k b o (fun z=>hc (by simp [z])) e) (fun b o _ _ hc e _=>⟨o.slots,k b o (fun z=>hc (by simp [z])) e⟩) (fun _ _ _ _ n=>n)
  (fun b o hc e=>⟨o,k b o (fun z=>hc (by simp [z])) e⟩) (fun _ _ e=>e) (fun _ _ _ e=>e) (fun b ps e=>⟨#[],by rw [e];simp⟩) (fun m hm=>?_) (fun b u e=>?_) I.bare
 ·have e:b=it:=by simpa using hb
  subst e
  exact ⟨h1,hL,h2,h3⟩
 ·obtain ⟨o,es,ep,ho,r⟩:=hm
  exact ⟨o,es,ep,k _ o (Ne.symm hL) ho,r⟩
 ·refine (I.hok b u e).stay (fun c v hc q=>k c v ?_ q) (fun _ q=>q) fun _ _ q=>q
  rcases hc with z | z
  ·rw [z];exact nit b u e
  ·exact nit c _ z
theorem Inv.tok (I:Inv X pins σ H s) (t:Nat):Inv X pins σ H { s with toks:=t }:=I.un (h':=s.heap) (t':=t) Un.refl I.hok
theorem Inv.kept {t':Nat} (I:Inv X pins σ H s) (k:∀ b u,s.heap.get? b=some u->h'.get? b=some u):Inv X pins σ H { s with heap:=h',toks:=t' }:=I.un (Un.kept k) (I.hok.kept k)
theorem Inv.laid {a:Addr} {o:HO} {t':Nat} (I:Inv X pins σ H s) (k:∀ b u,s.heap.get? b=some u->h'.get? b=some u) (hp:s.heap.objs.size<=a) (new:ObjOk X.prog X.w (upd H a o) h' a o) :
  Inv X pins σ (upd H a o) { s with heap:=h',toks:=t' }:=I.un (Un.laid k hp (I.hok.fresh hp)) (I.hok.laid k hp new)
theorem Inv.write {x e:Addr} {o:HO} {t':Nat} (I:Inv X pins σ H s) (mu:Mut (H x)) (he:e=x∨H e=some (.own x)) (k:∀ b u,b≠e->s.heap.get? b=some u->h'.get? b=some u) (heo:∃ u,h'.get? e=some u)
  (new:ObjOk X.prog X.w (upd H x o) h' x o):Inv X pins σ (upd H x o) { s with heap:=h',toks:=t' }:=I.un (Un.write mu he k heo) (I.hok.write mu he k heo new)
theorem Inv.pins_of {pins':List (Addr × Obj)} (I:Inv X pins σ H s) (h:∀ p∈pins',s.heap.get? p.1=some p.2/\H p.1=none/\p.1≠X.env.locals/\p.1∉X.fs/\∀ v,p.2.data≠.cell v):Inv X pins' σ H s :=
 ⟨I.ok,I.os,I.bare,I.base,I.loc,I.cell,I.free,I.freeC,fun p hp=>(Qx hp).elim (fun z=>I.pin p (List.mem_append_left _ z)) (h p),I.hok,I.len⟩
theorem nodup_ix {N:List Str} (hN:N.Nodup) {i j:Nat} {x:Str} (a:N[i]?=some x) (b:N[j]?=some x):i=j:=by
 obtain ⟨h1,e1⟩:=Qc a
 obtain ⟨h2,e2⟩:=Qc b
 exact (List.getElem_inj hN).mp (e1.trans e2.symm)
theorem store_ok2 {M:Model} {A:Around} {E:Value->Shared->Prop} {i:Nat} {x:Str} {v:V} {u:Value} {Q:Unit->Shared->Prop} (I:Inv X pins σ H s) (hN:X.N.Nodup) (hi:X.N[i]?=some x) (hx:Loc X.env.scope x) (r:RelV v u)
  (h:∀ s',Inv X pins (σ.set i (some v)) H s'->(∃ a,Heap.SameBut a s.heap s'.heap/\(a=X.env.locals∨X.env.cells.lookup x=some a))->Q () s') (hf:X.fn x=true∨X.env.scope.names.lookup x=some .local:=by first | exact .inl rfl | exact .inr rfl | assumption):wpAny M A (storeName X.env x u) Q E s:=by
 obtain ⟨m,hn,hl⟩:=id I.loc
 have hcls:(X.env.scope.kind == .class||(X.env.scope.kind == .module&&X.env.locals != X.env.globals))=false:=by rw [I.ok.kind];rfl
 have hiσ:i<σ.length:=by rw [I.len];exact (Qc hi).1
 have cne:=I.cne
 have tracked:∀ {a:Addr} {h':Heap},(∃ o,s.heap.get? a=some o/\H a=none)->Heap.SameBut a s.heap h'->HOk X.prog X.w H h':=fun {a h'} ha hs b ob e=>by
  obtain ⟨_,_,hfree⟩:=ha
  refine (I.hok b ob e).stay (fun c w' hc q=>(hs.2 c ?_).trans q) (fun _ q=>q) fun _ _ q=>q
  rintro rfl
  rcases hc with rfl | hc
  ·rw [hfree] at e;cases e
  ·rw [hfree] at hc;cases hc
 rcases hx with hk | hk
 ·refine wpAny_storeName_local hk hn (fun h' hn' hs=>?_) hcls
  obtain ⟨oL,_,_,hoL,_⟩:=id hn
  refine h _ ⟨I.ok,I.os,I.bare,⟨fun b o e n hb hx=>?_,fun b o e n hb hx=>?_,I.base.free,fun b o e hx=>?_,I.base.tups,I.base.frzs,I.base.tbls⟩,⟨_,hn',fun j y v' e1 e2 e3=>?_⟩,fun y c e=>?_,I.free,I.freeC,fun p hp=>?_,tracked ⟨oL,hoL,I.free⟩ hs,by simpa using I.len⟩ ⟨_,hs,.inl rfl⟩
  ·exact (hs.2 b (Qw (Nat.lt_of_lt_of_le (Qn e) I.ok.above))).trans (I.base.keep b o e n hb hx)
  ·obtain ⟨sl,e1⟩:=I.base.slot b o e n hb hx
   exact ⟨sl,(hs.2 b (Qw (Nat.lt_of_lt_of_le (Qn e) I.ok.above))).trans e1⟩
  ·obtain ⟨o',e1⟩:=I.base.there b o e hx
   exact ⟨o',(hs.2 b (Qw (Nat.lt_of_lt_of_le (Qn e) I.ok.above))).trans e1⟩
  ·by_cases hj:j=i
   ·subst hj
    rw [hi] at e1;cases e1
    rw [List.getElem?_set_self hiσ] at e2
    cases e2
    exact ⟨u,r,.inl ⟨hk,by simp⟩⟩
   ·rw [List.getElem?_set_ne (Ne.symm hj)] at e2
    obtain ⟨u',r',q⟩:=hl j y v' e1 e2 e3
    refine ⟨u',r',?_⟩
    rcases q with ⟨k,e⟩ | ⟨k,c,e,z⟩
    ·refine .inl ⟨k,?_⟩
     have:y≠x:=fun e=>hj (nodup_ix hN e1 (e ▸ hi))
     simp [this,e]
    ·exact .inr ⟨k,c,e,z.sameBut hs (cne y c e)⟩
  ·obtain ⟨w',z⟩:=I.cell y c e
   exact ⟨w',z.sameBut hs (cne y c e)⟩
  ·obtain ⟨e,n,ne,nf,d⟩:=I.pin p hp
   exact ⟨(hs.2 p.1 ne).trans e,n,ne,nf,d⟩
 ·have hfn:X.fn x=true:=by
   rcases hf with z | z
   ·exact z
   ·rw [z] at hk;cases hk
  obtain ⟨c,hc⟩:=I.ok.has x (.inl hk)
  obtain ⟨w',z⟩:=I.cell x c hc
  refine wpAny_storeName_cell I.ok.kind hk hc z (fun h' hc' hs=>?_)
  obtain ⟨oc,hoc,hocd⟩:=id z
  refine h { s with heap:=h' } ⟨I.ok,I.os,I.bare,⟨fun b o e n hb hx=>?_,fun b o e n hb hx=>?_,I.base.free,fun b o e hx=>?_,I.base.tups,I.base.frzs,I.base.tbls⟩,⟨m,hn.sameBut hs (Ne.symm (cne x c hc)),fun j y v' e1 e2 e3=>?_⟩,fun y c' e=>?_,I.free,I.freeC,fun p hp=>?_,tracked ⟨oc,hoc,I.freeC x c hc⟩ hs,by simpa using I.len⟩ ⟨c,hs,.inr hc⟩
  ·exact (hs.2 b (Qw (Nat.lt_of_lt_of_le (Qn e) (I.ok.cab x c hfn hc)))).trans (I.base.keep b o e n hb hx)
  ·obtain ⟨sl,e1⟩:=I.base.slot b o e n hb hx
   exact ⟨sl,(hs.2 b (Qw (Nat.lt_of_lt_of_le (Qn e) (I.ok.cab x c hfn hc)))).trans e1⟩
  ·obtain ⟨o',e1⟩:=I.base.there b o e hx
   exact ⟨o',(hs.2 b (Qw (Nat.lt_of_lt_of_le (Qn e) (I.ok.cab x c hfn hc)))).trans e1⟩
  ·by_cases hj:j=i
   ·subst hj
    rw [hi] at e1;cases e1
    rw [List.getElem?_set_self hiσ] at e2
    cases e2
    exact ⟨u,r,.inr ⟨.inl hk,c,hc,hc'⟩⟩
   ·rw [List.getElem?_set_ne (Ne.symm hj)] at e2
    obtain ⟨u',r',q⟩:=hl j y v' e1 e2 e3
    refine ⟨u',r',?_⟩
    rcases q with q | ⟨k,c',e,z'⟩
    ·exact .inl q
    ·refine .inr ⟨k,c',e,z'.sameBut hs ?_⟩
     rintro rfl
     exact hj (nodup_ix hN e1 (I.ok.inj _ _ _ e hc ▸ hi))
  ·by_cases hcc:c'=c
   ·subst hcc;exact ⟨_,hc'⟩
   ·obtain ⟨w2,z2⟩:=I.cell y c' e
    exact ⟨w2,z2.sameBut hs hcc⟩
  ·obtain ⟨e,n,ne,nf,d⟩:=I.pin p hp
   refine ⟨(hs.2 p.1 ?_).trans e,n,ne,nf,d⟩
   intro q
   rw [q,hoc] at e
   have q':oc=p.2:=Ql e
   exact d w' (by rw [<- q'];exact hocd)
theorem store_ok {M:Model} {A:Around} {E:Value->Shared->Prop} {i:Nat} {x:Str} {v:V} {u:Value} {Q:Unit->Shared->Prop} (I:Inv X pins σ H s) (hN:X.N.Nodup) (hi:X.N[i]?=some x) (hx:Loc X.env.scope x) (r:RelV v u)
  (h:∀ s',Inv X pins (σ.set i (some v)) H s'->Q () s') (hf:X.fn x=true∨X.env.scope.names.lookup x=some .local:=by first | exact .inl rfl | exact .inr rfl | assumption):wpAny M A (storeName X.env x u) Q E s :=
 store_ok2 I hN hi hx r (fun s' I' _=>h s' I') hf
theorem Inv.call' {s':Shared} {ch:List Addr} (I:Inv X pins σ H s) (ho:s'.os=s.os) (u:Un (frs X.stack) ch H H' s.heap s'.heap) (hok:HOk X.prog X.w H' s'.heap) (hg:AllBare s'.gens)
  (hch:∀ b∈ch,(b∈X.ex∨X.s₀.heap.objs.size<=b)/\b≠X.env.locals/\(∀ x c,X.env.cells.lookup x=some c->c≠b)/\∀ p∈X.pn++pins,p.1≠b):Inv X pins σ H' s':=by
 obtain ⟨h',g',d',t',o'⟩:=s'
 have e:o'=s.os:=ho
 subst e
 exact I.call (g':=g') (t':=t') (d':=d') u hok hg hch
end
noncomputable abbrev XK:=Value->Option Addr->Hp->Prop
noncomputable abbrev St:=List (Option V)
noncomputable abbrev VK:=V->Hp->Prop
noncomputable abbrev TE:=St->Hp->VK->Prop
noncomputable abbrev TT:=St->Hp->(Bool->Hp->Prop)->Prop
noncomputable abbrev TA:=St->Hp->(List V->Hp->Prop)->Prop
structure Ends where
 nx:St->Hp->Prop
 rt:VK
 bk:St->Hp->Prop:=fun _ _=>False
 ct:St->Hp->Prop:=fun _ _=>False
noncomputable abbrev TS:=Ends->St->Hp->Prop
noncomputable def EP (X:Cx) (pins:List (Addr × Obj)) (σ:St) (Q:VK) (u:Value) (s':Shared):Prop:=∃ v H',Inv X pins σ H' s'/\RelV v u/\Q v H'
noncomputable def TP (X:Cx) (pins:List (Addr × Obj)) (σ:St) (Q:Bool->Hp->Prop) (b:Bool) (s':Shared):Prop:=∃ H',Inv X pins σ H' s'/\Q b H'
noncomputable def AP (X:Cx) (pins:List (Addr × Obj)) (σ:St) (Q:List V->Hp->Prop) (us:List Value) (s':Shared):Prop:=∃ vs H',Inv X pins σ H' s'/\Vals vs us/\Q vs H'
noncomputable def SP (X:Cx) (pins:List (Addr × Obj)) (D:Ends) (f:Flow) (s':Shared):Prop :=
 match f with
 | .next=>∃ σ' H',Inv X pins σ' H' s'/\D.nx σ' H'
 | .brk=>∃ σ' H',Inv X pins σ' H' s'/\D.bk σ' H'
 | .cont=>∃ σ' H',Inv X pins σ' H' s'/\D.ct σ' H'
 | .ret u=>∃ v σ' H',Inv X pins σ' H' s'/\RelV v u/\D.rt v H'
noncomputable def PE (X:Cx) (e:Expr) (t:TE):Prop :=
 ∀ (pins:List (Addr × Obj)) (s:Shared) (σ:St) (H:Hp) (Q:VK),Inv X pins σ H s->t σ H Q->wpAny (model X.prog X.w) X.A (eval e X.env) (EP X pins σ Q) X.xe s
noncomputable def PT (X:Cx) (e:Expr) (t:TT):Prop :=
 ∀ (pins:List (Addr × Obj)) (s:Shared) (σ:St) (H:Hp) (Q:Bool->Hp->Prop),Inv X pins σ H s->t σ H Q->wpAny (model X.prog X.w) X.A (isTrue e X.env (eval e X.env)) (TP X pins σ Q) X.xe s
noncomputable def PW (X:Cx) (e:Expr) (t:TT):Prop :=
 ∀ (whole:Sem Value) (pins:List (Addr × Obj)) (s:Shared) (σ:St) (H:Hp) (Q:Bool->Hp->Prop),Inv X pins σ H s->t σ H Q->wpAny (model X.prog X.w) X.A (isTrue e X.env whole) (TP X pins σ Q) X.xe s
theorem PW.pt {X:Cx} {e:Expr} {t:TT} (h:PW X e t):PT X e t:=h _
noncomputable def PA (X:Cx) (es:List Expr) (t:TA):Prop :=
 ∀ (pos:Pos) (pins:List (Addr × Obj)) (s:Shared) (σ:St) (H:Hp) (Q:List V->Hp->Prop),Inv X pins σ H s->t σ H Q->wpAny (model X.prog X.w) X.A (spliced (backTo pos (starEach es X.env))) (AP X pins σ Q) X.xe s
noncomputable def PS (X:Cx) (st:Stmt) (t:TS):Prop :=
 ∀ (pins:List (Addr × Obj)) (s:Shared) (σ:St) (H:Hp) (D:Ends),Inv X pins σ H s->t D σ H->wpAny (model X.prog X.w) X.A (exec st X.env) (SP X pins D) X.xe s
noncomputable def PSs (X:Cx) (st:List Stmt) (t:TS):Prop :=
 ∀ (pins:List (Addr × Obj)) (s:Shared) (σ:St) (H:Hp) (D:Ends),Inv X pins σ H s->t D σ H->wpAny (model X.prog X.w) X.A (execs st X.env) (SP X pins D) X.xe s
theorem thn {α:Type} {t:Sem α} {Q Q':α->Shared->Prop} {M:Model} {A:Around} {E:Value->Shared->Prop} {s:Shared} (h:wpAny M A t Q E s) (hQ:∀ a s,Q a s->Q' a s):wpAny M A t Q' E s:=QC h hQ fun _ _ x=>x
end L2
namespace L2
open PySem PySem.Spec PyProof.Rows
section
variable {X:Cx}
noncomputable def tVar (i:Nat):TE:=fun σ H Q=>∃ v,σ[i]?=some (some v)/\Q v H
noncomputable def tC (v:V):TE:=fun _ H Q=>Q v H
theorem pe_var {i:Nat} {x:Str} {pos:Pos} (hN:X.N[i]?=some x) (hv:Vis X.env.scope x) (hd:(x == ("__debug__":Str))=false:=by decide) (hcd:(x == ("__classdict__":Str))=false:=by decide):PE X (.Name x pos) (tVar i):=by
 intro pins s σ H Q I h
 obtain ⟨v,e,h⟩:=h
 obtain ⟨m,hn,hl⟩:=I.loc
 obtain ⟨u,r,l⟩:=hl i x v hN e hv
 have fin:EP X pins σ Q u s:=⟨v,H,I,r,h⟩
 rcases l with ⟨hk,hm⟩ | ⟨hk,c,hc,hcell⟩
 ·exact wpAny_Name (wpAny_loadName_local I.ok.kind hk hn hm fin) hd
 ·rcases hk with hk | hk
  ·exact wpAny_Name (wpAny_loadName_cell I.ok.kind hk hc hcell fin) hd
  ·exact wpAny_Name (wpAny_loadName_free I.ok.kind hk hc hcell fin hcd) hd
theorem pe_int {i j pos}:PE X (.Constant (.int i) j pos) (tC (.int i)):=fun _ _ _ H _ I h=>wpAny_Constant_int ⟨.int i,H,I.tok _,⟨_,rfl⟩,h⟩
theorem pe_bl {b j pos}:PE X (.Constant (.bool b) j pos) (tC (.bl b)):=fun _ _ _ H _ I h=>Constant_bool ⟨.bl b,H,I,rfl,h⟩
theorem pe_non {j pos}:PE X (.Constant .none j pos) (tC .non):=fun _ _ _ H _ I h=>Constant_none ⟨.non,H,I,rfl,h⟩
theorem pe_str {x j pos}:PE X (.Constant (.str x) j pos) (tC (.str x)):=fun _ _ _ H _ I h=>Calls.Constant_str ⟨.str x,H,I.tok _,⟨_,rfl⟩,h⟩
noncomputable def Gl (X:Cx) (x:Str):Prop:=X.env.kindOf x=some .globalImplicit
theorem ld_glob {E:Value->Shared->Prop} {pins:List (Addr × Obj)} {s:Shared} {σ:St} {H:Hp} {x:Str} {u:Value} {pos:Pos} {Q:Value->Shared->Prop} (I:Inv X pins σ H s) (hg:Gl X x) (hm:X.mg x=some u) (h:Q u s)
  (hd:(x == ("__debug__":Str))=false:=by decide):wpAny (model X.prog X.w) X.A (eval (.Name x pos) X.env) Q E s :=
 Calls.Name_function_global I.ok.kind hg (Calls.loadGlobal_global (by rw [I.ok.glob];exact I.mod.glob.keeps I.bk) hm h) hd
theorem ld_blt {E:Value->Shared->Prop} {pins:List (Addr × Obj)} {s:Shared} {σ:St} {H:Hp} {x:Str} {u:Value} {pos:Pos} {Q:Value->Shared->Prop} (I:Inv X pins σ H s) (hg:Gl X x) (hm:X.mg x=none) (hv:bootBuiltins x=some u) (h:Q u s)
  (hn:x≠"__name__":=by decide) (hd:(x == ("__debug__":Str))=false:=by decide):wpAny (model X.prog X.w) X.A (eval (.Name x pos) X.env) Q E s:=by
 obtain ⟨mb,h1,h2⟩:=I.mod.blt
 exact Calls.Name_function_global I.ok.kind hg (Calls.loadGlobal_builtin (by rw [I.ok.glob];exact I.mod.glob.keeps I.bk) hm (by rw [I.ok.blt];exact h1.keeps I.bk) ((h2 x hn).trans hv) h) hd
theorem pe_glob {x:Str} {v:V} {u:Value} {pos:Pos} (hg:Gl X x) (hm:X.mg x=some u) (r:RelV v u) (hd:(x == ("__debug__":Str))=false:=by decide):PE X (.Name x pos) (tC v) :=
 fun _ _ _ H _ I h=>ld_glob I hg hm ⟨v,H,I,r,h⟩ hd
theorem pe_bltn {x:Str} {v:V} {u:Value} {pos:Pos} (hg:Gl X x) (hm:X.mg x=none) (hv:bootBuiltins x=some u) (r:RelV v u) (hn:x≠"__name__":=by decide) (hd:(x == ("__debug__":Str))=false:=by decide):PE X (.Name x pos) (tC v) :=
 fun _ _ _ H _ I h=>ld_blt I hg hm hv ⟨v,H,I,r,h⟩ hn hd
variable {a b:Expr} {ta tb:TE} {pos:Pos}
noncomputable def PC (X:Cx) (op:CmpOp) (a b:Expr) (t:TE):Prop :=
 ∀ (pins:List (Addr × Obj)) (s:Shared) (σ:St) (H:Hp) (Q:VK),Inv X pins σ H s->t σ H Q ->
  wpAny (model X.prog X.w) X.A (eval a X.env) (fun v s₁=>wpAny (model X.prog X.w) X.A (eval b X.env) (fun u s₂=>wpAny (model X.prog X.w) X.A (compareOp op v u) (EP X pins σ Q) X.xe s₂) X.xe s₁) X.xe s
theorem nobehind (b:Expr) {op:CmpOp} (h:op≠.In) (h2:op≠.NotIn):behindInMarks op b=false:=by
 have e1:(op == CmpOp.In)=false:=by cases op<;>first | rfl | exact absurd rfl h
 have e2:(op == CmpOp.NotIn)=false:=by cases op<;>first | rfl | exact absurd rfl h2
 cases b<;>simp [behindInMarks,e1,e2]
noncomputable def tIsN (ta:TE):TE:=fun σ H Q=>ta σ H fun x H1=>Q (.bl (decide (x=.non))) H1
theorem RelV.none_iff {x:V} {v:Value} (r:RelV x v):(v == Value.none)=decide (x=.non):=by
 cases x with
 | non=>cases r;rfl
 | bl _=>cases r;rfl
 | int _=>obtain ⟨t,rfl⟩:=r;rfl
 | str _=>obtain ⟨t,rfl⟩:=r;rfl
 | byt _=>obtain ⟨t,rfl⟩:=r;rfl
 | flt _=>obtain ⟨t,rfl⟩:=r;rfl
 | ref _=>cases r;rfl
 | ty _=>cases r;rfl
theorem pc_isN {j pos'} (ha:PE X a ta):PC X .Is a (.Constant .none j pos') (tIsN ta):=by
 intro pins s σ H Q I h
 refine thn (ha pins s σ H _ I h) fun v s1 hsl1=>?_
 obtain ⟨x,H1,I1,r1,q1⟩:=hsl1
 exact Constant_none (is_none_gen ⟨.bl _,H1,I1,by rw [r1.none_iff];rfl,q1⟩)
noncomputable def tB (t:TE):TT:=fun σ H Q=>t σ H fun x H1=>∃ c,x=.bl c/\Q c H1
theorem pt_cmp {op:CmpOp} {t:TE} (h:PC X op a b t) (h1:behindInMarks op b=false:=by first | exact nobehind _ (by decide) (by decide) | rfl):PT X (.Compare a [op] [b] pos) (tB t):=by
 intro pins s σ H Q I hw
 refine wpAny_isTrue_Compare1 (thn (h pins s σ H _ I hw) fun v s1 h1=>thn h1 fun u s2 h2=>thn h2 fun c s3 hsl2=>?_) h1
 obtain ⟨x,H1,I1,r1,q1⟩:=hsl2
 obtain ⟨d,rfl,q⟩:=q1
 cases r1
 exact wpAny_truthy_bool ⟨H1,I1,q⟩
theorem pt_val {e:Expr} {t:TE} (h:PE X e t) (he:∀ whole,isTrue e X.env whole=(do let v <- whole;standAt e.pos;holding [v] (truthy v)):=by intro _;rfl):PT X e (tB t):=by
 intro pins s σ H Q I hw
 refine isTrue_plain (thn (h pins s σ H _ I hw) fun v s1 hsl3=>?_) (he _)
 obtain ⟨x,H1,I1,r1,q1⟩:=hsl3
 obtain ⟨d,rfl,q⟩:=q1
 cases r1
 exact wpAny_truthy_bool ⟨H1,I1,q⟩
variable {tA tB':TT} {rest:List Expr}
noncomputable def tAnd (t u:TT):TT:=fun σ H Q=>t σ H fun c H1=>if c=true then u σ H1 Q else Q false H1
noncomputable def tOr (t u:TT):TT:=fun σ H Q=>t σ H fun c H1=>if c=true then Q true H1 else u σ H1 Q
noncomputable def tNot (t:TT):TT:=fun σ H Q=>t σ H fun c H1=>Q (!c) H1
theorem pw_and1 (ha:PT X a tA):PW X (.BoolOp .And [a] pos) tA:=by
 intro wh pins s σ H Q I h
 refine isTrue_and (thn (ha pins s σ H Q I h) fun c s1 e=>?_)
 cases c with
 | true=>exact isTrue_and_nil e
 | false=>exact e
theorem pw_or1 (ha:PT X a tA):PW X (.BoolOp .Or [a] pos) tA:=by
 intro wh pins s σ H Q I h
 refine isTrue_or (thn (ha pins s σ H Q I h) fun c s1 e=>?_)
 cases c with
 | false=>exact isTrue_or_nil e
 | true=>exact e
theorem pw_and (ha:PT X a tA) (hb:PW X (.BoolOp .And (b::rest) pos) tB'):PW X (.BoolOp .And (a::b::rest) pos) (tAnd tA tB'):=by
 intro wh pins s σ H Q I h
 refine isTrue_and (thn (ha pins s σ H _ I h) fun c s1 hsl4=>?_)
 obtain ⟨H1,I1,q1⟩:=hsl4
 cases c with
 | true=>exact hb wh pins s1 σ H1 Q I1 q1
 | false=>exact ⟨H1,I1,q1⟩
theorem pw_or (ha:PT X a tA) (hb:PW X (.BoolOp .Or (b::rest) pos) tB'):PW X (.BoolOp .Or (a::b::rest) pos) (tOr tA tB'):=by
 intro wh pins s σ H Q I h
 refine isTrue_or (thn (ha pins s σ H _ I h) fun c s1 hsl5=>?_)
 obtain ⟨H1,I1,q1⟩:=hsl5
 cases c with
 | true=>exact ⟨H1,I1,q1⟩
 | false=>exact hb wh pins s1 σ H1 Q I1 q1
theorem pt_not (ha:PT X a tA):PT X (.UnaryOp .Not a pos) (tNot tA):=by
 intro pins s σ H Q I h
 exact isTrue_not (ha pins s σ H (fun c H1=>Q (!c) H1) I h)
noncomputable def tAndV (ta tb:TE):TE:=fun σ H Q=>ta σ H fun x H1=>∃ c,x=.bl c/\if c=true then tb σ H1 Q else Q (.bl false) H1
noncomputable def tOrV (ta tb:TE):TE:=fun σ H Q=>ta σ H fun x H1=>∃ c,x=.bl c/\if c=true then Q (.bl true) H1 else tb σ H1 Q
noncomputable def tNotV (ta:TE):TE:=fun σ H Q=>ta σ H fun x H1=>∃ c,x=.bl c/\Q (.bl (!c)) H1
theorem pe_one {op} {t:TE} (h:PE X a t):PE X (.BoolOp op [a] pos) t:=fun pins s σ H Q I hw=>BoolOp_one (h pins s σ H Q I hw)
theorem pe_and (ha:PE X a ta) (hb:PE X (.BoolOp .And (b::rest) pos) tb):PE X (.BoolOp .And (a::b::rest) pos) (tAndV ta tb):=by
 intro pins s σ H Q I h
 refine BoolOp_and (thn (ha pins s σ H _ I h) fun v s1 hsl6=>?_)
 obtain ⟨x,H1,I1,r1,q1⟩:=hsl6
 obtain ⟨c,rfl,q1⟩:=q1
 cases r1
 refine wpAny_truthy_bool ?_
 cases c with
 | true=>exact hb pins s1 σ H1 Q I1 q1
 | false=>exact ⟨.bl false,H1,I1,rfl,q1⟩
theorem pe_or (ha:PE X a ta) (hb:PE X (.BoolOp .Or (b::rest) pos) tb):PE X (.BoolOp .Or (a::b::rest) pos) (tOrV ta tb):=by
 intro pins s σ H Q I h
 refine BoolOp_or (thn (ha pins s σ H _ I h) fun v s1 hsl7=>?_)
 obtain ⟨x,H1,I1,r1,q1⟩:=hsl7
 obtain ⟨c,rfl,q1⟩:=q1
 cases r1
 refine wpAny_truthy_bool ?_
 cases c with
 | false=>exact hb pins s1 σ H1 Q I1 q1
 | true=>exact ⟨.bl true,H1,I1,rfl,q1⟩
theorem pe_not (ha:PE X a ta):PE X (.UnaryOp .Not a pos) (tNotV ta):=by
 intro pins s σ H Q I h
 refine UnaryOp_ (thn (ha pins s σ H _ I h) fun v s1 hsl8=>?_)
 obtain ⟨x,H1,I1,r1,q1⟩:=hsl8
 obtain ⟨c,rfl,q1⟩:=q1
 cases r1
 exact not_of (wpAny_truthy_bool ⟨.bl (!c),H1,I1,rfl,q1⟩)
noncomputable def tIf (t:TT) (ta tb:TE):TE:=fun σ H Q=>t σ H fun c H1=>if c=true then ta σ H1 Q else tb σ H1 Q
theorem pe_ifExp {c:Expr} (hc:PT X c tA) (ha:PE X a ta) (hb:PE X b tb):PE X (.IfExp c a b pos) (tIf tA ta tb):=by
 intro pins s σ H Q I h
 refine wpAny_IfExp (thn (hc pins s σ H _ I h) fun d s1 hsl9=>?_)
 obtain ⟨H1,I1,q1⟩:=hsl9
 cases d with
 | true=>exact ha pins s1 σ H1 Q I1 q1
 | false=>exact hb pins s1 σ H1 Q I1 q1
end
end L2
namespace L2
open PySem PySem.Spec PyProof.Rows
noncomputable def SqL (K:PySem.W.Frag) (H:Hp) (a:Addr) (xs:List V):Prop :=
 Rd H a (.lst xs) ∨
  ∃ (o:Obj) (its:Array Value) (n:Nat),K.lookup a=some o/\o.cls=.type "list"/\o.dict=none/\o.data=.seq its n/\its.size<=sizeLine/\Vals xs its.toList
noncomputable def SqT (K:PySem.W.Frag) (H:Hp) (a:Addr) (xs:List V):Prop :=
 Rd H a (.tup xs) ∨
  ∃ (o:Obj) (its:Array Value) (n:Nat),K.lookup a=some o/\o.cls=.type "tuple"/\o.data=.seq its n/\its.size<=sizeLine/\Vals xs its.toList
noncomputable def absV:Value->Option V
 | .none=>some .non
 | .bool b=>some (.bl b)
 | .int i _=>some (.int i)
 | .str x _=>some (.str x)
 | .bytes b _=>some (.byt b)
 | .float b _=>some (.flt b)
 | .ref a=>some (.ref a)
 | .type n=>some (.ty n)
 | _=>none
theorem RelV.abs {x:V} {u:Value} (r:RelV x u):absV u=some x:=by
 cases x with
 | non=>cases r;rfl
 | bl _=>cases r;rfl
 | int _=>obtain ⟨t,rfl⟩:=r;rfl
 | str _=>obtain ⟨t,rfl⟩:=r;rfl
 | byt _=>obtain ⟨t,rfl⟩:=r;rfl
 | flt _=>obtain ⟨t,rfl⟩:=r;rfl
 | ref _=>cases r;rfl
 | ty _=>cases r;rfl
theorem RelV.inj {x y:V} {u:Value} (r:RelV x u) (q:RelV y u):x=y:=Ql (r.abs.symm.trans q.abs)
theorem Vals.inj:∀ {xs ys:List V} {us:List Value},Vals xs us->Vals ys us->xs=ys
 | _,_,_,.nil,.nil=>rfl
 | _,_,_,.cons r t,.cons r' t'=>by rw [r.inj r',Vals.inj t t']
section
variable {X:Cx} {pins:List (Addr × Obj)} {σ:St} {H:Hp} {s:Shared} {a:Addr} {xs ys:List V}
theorem SqL.of {K:PySem.W.Frag} (h:H a=some (.lst xs)):SqL K H a xs:=.inl (.inl h)
theorem SqT.of {K:PySem.W.Frag} (h:H a=some (.tup xs)):SqT K H a xs:=.inl (.inl h)
theorem Inv.list (I:Inv X pins σ H s) (h:SqL X.K H a xs):∃ its:List Value,Vals xs its/\PlainL s.heap a its.toArray/\xs.length<=sizeLine:=by
 rcases h with h | ⟨o,its,n,hk,hc,hd,hs,hz,r⟩
 ·obtain ⟨z,its,n,r,e⟩:=h.ok I.hok
  exact ⟨its,r,⟨_,n,e,rfl,rfl,rfl⟩,z⟩
 ·refine ⟨its.toList,r,⟨o,n,I.kIn a o hk,hc,hd,by simpa using hs⟩,?_⟩
  have e:=r.length
  simp only [Array.length_toList] at e
  omega
theorem Inv.tuple (I:Inv X pins σ H s) (h:SqT X.K H a xs):∃ its:List Value,Vals xs its/\IsTup s.heap a its.toArray/\xs.length<=sizeLine:=by
 rcases h with h | ⟨o,its,n,hk,hc,hs,hz,r⟩
 ·obtain ⟨z,its,r,p⟩:=h.ok I.hok
  exact ⟨its,r,p,z⟩
 ·refine ⟨its.toList,r,⟨o,I.kIn a o hk,hc,n,by simpa using hs⟩,?_⟩
  have e:=r.length
  simp only [Array.length_toList] at e
  omega
theorem Inv.list_inj (I:Inv X pins σ H s) (h:SqL X.K H a xs) (h':SqL X.K H a ys):xs=ys:=by
 obtain ⟨its,r,⟨o,n,e,_,_,d⟩,_⟩:=I.list h
 obtain ⟨its',r',⟨o',n',e',_,_,d'⟩,_⟩:=I.list h'
 rw [e] at e';cases e'
 rw [d] at d'
 injection d' with d1 _
 have:its=its':=by simpa using congrArg Array.toList d1
 subst this
 exact r.inj r'
theorem Inv.tuple_inj (I:Inv X pins σ H s) (h:SqT X.K H a xs) (h':SqT X.K H a ys):xs=ys:=by
 obtain ⟨its,r,⟨o,e,_,n,d⟩,_⟩:=I.tuple h
 obtain ⟨its',r',⟨o',e',_,n',d'⟩,_⟩:=I.tuple h'
 rw [e] at e';cases e'
 rw [d] at d'
 injection d' with d1 _
 have:its=its':=by simpa using congrArg Array.toList d1
 subst this
 exact r.inj r'
end
noncomputable abbrev Cx.wish (X:Cx) (E:Value->Shared->Prop):Cx:={ X with xe:=E }
noncomputable abbrev Cx.nox (X:Cx):Cx:=X.wish fun _ _=>False
theorem Cx.Ok.wish {X:Cx} (ok:X.Ok) (E:Value->Shared->Prop):(X.wish E).Ok :=
 ⟨ok.mod,ok.kind,ok.glob,ok.blt,ok.above,ok.inj,ok.has,ok.cab,ok.hd,ok.frames,ok.stk,ok.exf,ok.bs,ok.bsz,ok.noex,ok.exfs,ok.funs,ok.frf⟩
theorem Cx.Ok.unwish {X:Cx} {E:Value->Shared->Prop} (ok:(X.wish E).Ok):X.Ok :=
 ⟨ok.mod,ok.kind,ok.glob,ok.blt,ok.above,ok.inj,ok.has,ok.cab,ok.hd,ok.frames,ok.stk,ok.exf,ok.bs,ok.bsz,ok.noex,ok.exfs,ok.funs,ok.frf⟩
section
variable {X:Cx} {pins:List (Addr × Obj)} {σ:St} {H:Hp} {s:Shared} {E:Value->Shared->Prop}
theorem Inv.wish (I:Inv X pins σ H s) (E:Value->Shared->Prop):Inv (X.wish E) pins σ H s:=⟨I.ok.wish E,I.os,I.bare,I.base,I.loc,I.cell,I.free,I.freeC,I.pin,I.hok,I.len⟩
theorem Inv.unwish (I:Inv (X.wish E) pins σ H s):Inv X pins σ H s:=⟨I.ok.unwish,I.os,I.bare,I.base,I.loc,I.cell,I.free,I.freeC,I.pin,I.hok,I.len⟩
theorem SP.unwish {D:Ends} {f:Flow} {s':Shared} (h:SP (X.wish E) pins D f s'):SP X pins D f s':=by
 cases f with
 | next=>obtain ⟨σ',H',I,q⟩:=h;exact ⟨σ',H',I.unwish,q⟩
 | brk=>obtain ⟨σ',H',I,q⟩:=h;exact ⟨σ',H',I.unwish,q⟩
 | cont=>obtain ⟨σ',H',I,q⟩:=h;exact ⟨σ',H',I.unwish,q⟩
 | ret u=>obtain ⟨v,σ',H',I,r,q⟩:=h;exact ⟨v,σ',H',I.unwish,r,q⟩
theorem PSs.nox {st:List Stmt} {t:TS} (h:PSs X.nox st t):PSs X st t:=fun pins s σ H D I hw =>
 QC (h pins s σ H D (I.wish _) hw) (fun _ _ q=>q.unwish) fun _ _ z=>False.elim z
end
section
variable {X:Cx} {st:Stmt} {rest:List Stmt} {t u:TS} {e:Expr} {te:TE} {pos:Pos}
noncomputable def tNext:TS:=fun D σ H=>D.nx σ H
noncomputable def tSeq (t u:TS):TS:=fun D σ H=>t { D with nx:=u D } σ H
theorem pss_nil:PSs X [] tNext:=fun _ _ σ H _ I h=>wpAny_execs_nil ⟨σ,H,I,h⟩
theorem pss_cons (h1:PS X st t) (h2:PSs X rest u):PSs X (st::rest) (tSeq t u):=by
 intro pins s σ H D I h
 refine wpAny_execs_cons (thn (h1 pins s σ H { D with nx:=u D } I h) fun f s1 q=>?_)
 cases f with
 | next =>
  obtain ⟨σ',H',I',q⟩:=q
  exact h2 pins s1 σ' H' D I' q
 | ret v=>exact q
 | brk=>exact q
 | cont=>exact q
theorem pss_one (h1:PS X st t):PSs X [st] t:=by
 intro pins s σ H D I h
 refine wpAny_execs_cons (thn (h1 pins s σ H D I h) fun f s1 q=>?_)
 cases f with
 | next=>exact wpAny_execs_nil q
 | ret v=>exact q
 | brk=>exact q
 | cont=>exact q
theorem Inv.quiet {pins:List (Addr × Obj)} {σ:St} {H:Hp} {s:Shared} (I:Inv X pins σ H s):interactive X.env=false:=by simp [interactive,I.ok.kind]
noncomputable def tDrop (te:TE):TS:=fun D σ H=>te σ H fun _ H1=>D.nx σ H1
theorem ps_expr (he:PE X e te) (hs:swapsWith e none pos.line X.env=pure false:=by rfl):PS X (.Expr e pos) (tDrop te):=by
 intro pins s σ H D I h
 exact wpAny_Expr_any (thn (he pins s σ H _ I h) fun v s1 hsl12=>by obtain ⟨x,H1,I1,r1,q1⟩:=hsl12;exact ⟨σ,H1,I1,q1⟩) I.quiet hs
noncomputable def tRet (te:TE):TS:=fun D σ H=>te σ H D.rt
theorem ps_ret (he:PE X e te):PS X (.Return (some e) pos) (tRet te):=by
 intro pins s σ H D I h
 exact wpAny_Return_some (thn (he pins s σ H _ I h) fun v s1 hsl13=>by obtain ⟨x,H1,I1,r1,q1⟩:=hsl13;exact ⟨x,σ,H1,I1,r1,q1⟩)
noncomputable def tIfS (c:TT) (t u:TS):TS:=fun D σ H=>c σ H fun b H1=>if b=true then t D σ H1 else u D σ H1
theorem ps_if {c:Expr} {a b:List Stmt} {tc:TT} (hc:PT X c tc) (ha:PSs X a t) (hb:PSs X b u):PS X (.If c a b pos) (tIfS tc t u):=by
 intro pins s σ H D I h
 refine wpAny_If (thn (hc pins s σ H _ I h) fun d s1 hsl14=>?_)
 obtain ⟨H1,I1,q1⟩:=hsl14
 cases d with
 | true=>exact ha pins s1 σ H1 D I1 q1
 | false=>exact hb pins s1 σ H1 D I1 q1
noncomputable def tNever:TS:=fun _ _ _=>False
theorem pss_never {sts:List Stmt}:PSs X sts tNever:=fun _ _ _ _ _ _ h=>h.elim
end
noncomputable abbrev TG:=V->St->Hp->(St->Hp->Prop)->Prop
noncomputable abbrev TGs:=List V->St->Hp->(St->Hp->Prop)->Prop
noncomputable def PG (X:Cx) (target:Expr) (t:TG):Prop :=
 ∀ (pins:List (Addr × Obj)) (s:Shared) (σ:St) (H:Hp) (v:V) (u:Value) (Q:St->Hp->Prop),Inv X pins σ H s->RelV v u->t v σ H Q ->
  wpAny (model X.prog X.w) X.A (assign target X.env u) (fun _ s'=>∃ σ' H',Inv X pins σ' H' s'/\Q σ' H') X.xe s
noncomputable def PGs (X:Cx) (ts:List Expr) (t:TGs):Prop :=
 ∀ (pins:List (Addr × Obj)) (s:Shared) (σ:St) (H:Hp) (vs:List V) (us:List Value) (Q:St->Hp->Prop),Inv X pins σ H s->Vals vs us->t vs σ H Q ->
  wpAny (model X.prog X.w) X.A (assignInOrder ((assignEach ts X.env).map (·.2)) us) (fun _ s'=>∃ σ' H',Inv X pins σ' H' s'/\Q σ' H') X.xe s
section
variable {X:Cx} {pos:Pos}
noncomputable def gName (i:Nat):TG:=fun v σ H Q=>Q (σ.set i (some v)) H
theorem pg_name {i:Nat} {x:Str} (hN:X.N.Nodup) (hi:X.N[i]?=some x) (hx:Loc X.env.scope x) (hf:X.fn x=true∨X.env.scope.names.lookup x=some .local:=by first | exact .inl rfl | exact .inr rfl | assumption):PG X (.Name x pos) (gName i):=by
 intro pins s σ H v u Q I r h
 exact wpAny_assign_Name (store_ok I hN hi hx r (fun s' I'=>⟨_,H,I',h⟩) hf)
noncomputable def gNil:TGs:=fun vs σ H Q=>vs=[]/\Q σ H
noncomputable def gCons (t:TG) (u:TGs):TGs:=fun vs σ H Q=>∃ v r,vs=v::r/\t v σ H fun σ' H'=>u r σ' H' Q
theorem pgs_nil:PGs X [] gNil:=by
 intro pins s σ H vs us Q I r h
 obtain ⟨e,h⟩:=h
 subst e
 cases r
 exact assignInOrder_nil ⟨σ,H,I,h⟩
theorem pgs_cons {e:Expr} {es:List Expr} {t:TG} {u:TGs} (h1:PG X e t) (h2:PGs X es u)
  (hs:(assignEach (e::es) X.env).map (·.2)=assign e X.env::(assignEach es X.env).map (·.2):=by rfl):PGs X (e::es) (gCons t u):=by
 intro pins s σ H vs us Q I r h
 obtain ⟨v,vr,e1,h⟩:=h
 subst e1
 cases r with
 | cons r rr =>
  rw [hs]
  refine assignInOrder_cons (thn (h1 pins s σ H _ _ _ I r h) fun _ s1 hsl15=>?_)
  obtain ⟨σ1,H1,I1,q1⟩:=hsl15
  exact h2 pins s1 σ1 H1 _ _ Q I1 rr q1
noncomputable def gTup (K:PySem.W.Frag) (n:Nat) (t:TGs):TG:=fun v σ H Q=>∃ a xs,v=.ref a/\SqT K H a xs/\xs.length=n/\t xs σ H Q
theorem pg_tup {es:List Expr} {k:Nat} {t:TGs} {n:Nat} (hc:X.calm=true) (h:PGs X es t)
  (hn:(assignEach es X.env).length=n:=by rfl) (hst:(assignEach es X.env).findIdx? (·.1)=none:=by rfl):PG X (.Tuple es k pos) (gTup X.K n t):=by
 intro pins s σ H v u Q I r hw
 obtain ⟨a,xs,e1,hq,hl,hw⟩:=hw
 subst e1
 cases r
 obtain ⟨its,rv,ht,hz⟩:=I.tuple hq
 refine assign_Tuple_tuple (I.ok.hd hc) ht (by simp [hn,<- hl,rv.length]) hst fun h' hx=>?_
 have I1:Inv X pins σ H { s with heap:=h' }:=I.kept (t':=s.toks) fun b o e=>hx b o (Qw (Qn e)) e
 exact h pins _ σ H xs _ Q I1 (by simpa using rv) hw
noncomputable def tAsg (te:TE) (g:TG):TS:=fun D σ H=>te σ H fun x H1=>g x σ H1 D.nx
theorem ps_set {i:Nat} {x:Str} {e:Expr} {te:TE} {pos':Pos} (hN:X.N.Nodup) (hi:X.N[i]?=some x) (hx:Loc X.env.scope x) (he:PE X e te) (hs:swapsWith e (some (.Name x pos')) pos.line X.env=pure false:=by rfl) (hf:X.fn x=true∨X.env.scope.names.lookup x=some .local:=by first | exact .inl rfl | exact .inr rfl | assumption) :
  PS X (.Assign [.Name x pos'] e pos) (tAsg te (gName i)):=by
 intro pins s σ H D I h
 refine wpAny_Assign_Name (thn (he pins s σ H _ I h) fun v s1 hsl16=>?_) hs
 obtain ⟨y,H1,I1,r1,q1⟩:=hsl16
 exact store_ok I1 hN hi hx r1 (fun s2 I2=>⟨_,H1,I2,q1⟩) hf
end
section
variable {X:Cx} {pos:Pos}
noncomputable def tWhile (c:TT) (tb:TS):TS:=fun D σ H=>∃ W:Nat->St->Hp->Prop,(∃ m,W m σ H)/\∀ m σ H,W m σ H ->
 c σ H fun b H1=>if b=true then ∃ N:St->Hp->Prop,(∀ σ' H',N σ' H'->∃ m',m'<m/\W m' σ' H')/\tb { D with nx:=N,ct:=N,bk:=D.nx } σ H1 else D.nx σ H1
theorem ps_while {c:Expr} {body:List Stmt} {tc:TT} {tb:TS} (hp:PassesOwn (model X.prog X.w) X.A X.env X.xe) (hc:PT X c tc) (hb:PSs X body tb):PS X (.While c body [] pos) (tWhile tc tb):=by
 intro pins s σ H D I h
 obtain ⟨W,⟨m0,w0⟩,turn⟩:=h
 refine wpAny_While (codeAny_whileLoop (fun n s'=>∃ σ' H',Inv X pins σ' H' s'/\W n σ' H') ?_ m0 ⟨σ,H,I,w0⟩)
 rintro n s1 ⟨σ1,H1,I1,w1⟩
 refine wpAny_passesOwn hp (thn (hc pins s1 σ1 H1 _ I1 (turn n σ1 H1 w1)) fun b s2 hsl17=>?_)
 obtain ⟨H2,I2,q2⟩:=hsl17
 cases b with
 | true =>
  obtain ⟨N,hN,q2⟩:=q2
  rw [if_pos rfl]
  refine wpAny_passesOwn hp (thn (hb pins s2 σ1 H2 _ I2 q2) fun f s3 q3=>?_)
  cases f with
  | next =>
   obtain ⟨σ3,H3,I3,n3⟩:=q3
   obtain ⟨m',hm,w3⟩:=hN σ3 H3 n3
   exact ⟨m',hm,σ3,H3,I3,w3⟩
  | cont =>
   obtain ⟨σ3,H3,I3,n3⟩:=q3
   obtain ⟨m',hm,w3⟩:=hN σ3 H3 n3
   exact ⟨m',hm,σ3,H3,I3,w3⟩
  | brk=>exact q3
  | ret v=>exact q3
 | false =>
  rw [if_neg Bool.false_ne_true]
  exact wpAny_execs_nil ⟨σ1,H2,I2,q2⟩
end
structure It where
 go:Nat->Hp->Prop
 yld:Nat->Hp->V->Hp->Prop
 stop:Nat->Hp->Prop
noncomputable def FpOk (X:Cx) (pins:List (Addr × Obj)) (H:Hp) (b:Addr):Prop :=
 H b=none/\b≠X.env.locals/\b∉X.fs/\(b∈X.ex∨X.s₀.heap.objs.size<=b)/\(∀ x c,X.env.cells.lookup x=some c->c≠b)/\∀ p∈X.pn++pins,p.1≠b
theorem Inv.fpOk {X:Cx} {pins:List (Addr × Obj)} {σ:St} {H H':Hp} {s:Shared} {b:Addr} (I:Inv X pins σ H s) (hb:s.heap.objs.size<=b) (hn:H' b=none):FpOk X pins H' b:=by
 refine ⟨hn,Nat.ne_of_gt (Nat.lt_of_lt_of_le I.lt hb),I.nofs hb,.inr (QA I.sz hb),fun x c e z=>?_,fun p hp z=>?_⟩
 ·obtain ⟨v,q⟩:=I.cell x c e
  exact absurd (Nat.lt_of_lt_of_le q.lt (by rw [z];exact hb)) (Nat.lt_irrefl _)
 ·exact absurd (Nat.lt_of_lt_of_le (Qn (I.pin p hp).1) (by rw [z];exact hb)) (Nat.lt_irrefl _)
structure Turn (P:Program) (w:World) (K:PySem.W.Frag) (tg:Expr) (J:It) (fp:List Addr) (it:Addr) (tn:Nat->Heap->Prop):Prop where
 mem:it∈fp
 obj:∀ i h,tn i h->∀ b∈fp,∃ o,h.get? b=some o/\∀ v,o.data≠.cell v
 keep:∀ i h h',tn i h->(∀ b∈fp,∀ o,h.get? b=some o->h'.get? b=some o)->tn i h'
 item:∀ (X:Cx),X.prog=P->X.w=w->X.K=K->X.calm=true->∀ (i:Nat) (pins:List (Addr × Obj)) (s:Shared) (σ:St) (H:Hp) (E:Value->Shared->Prop),Inv X pins σ H s->(∀ b∈fp,FpOk X pins H b)->tn i s.heap->J.go i H ->
  wpAny (model P w) X.A (pyNext (.ref it)) (fun r s1=>∃ u,r=some u /\
   wpAny (model P w) X.A (letOwnedTupleGo tg (.ref it) u) (fun _ s2=>∃ x H',Inv X pins σ H' s2/\RelV x u/\J.yld i H x H'/\tn (i+1) s2.heap/\∀ b∈fp,H' b=none) E s1) E s
 done:∀ (X:Cx),X.prog=P->X.w=w->X.K=K->X.calm=true->∀ (i:Nat) (pins:List (Addr × Obj)) (s:Shared) (σ:St) (H:Hp) (E:Value->Shared->Prop),Inv X pins σ H s->(∀ b∈fp,FpOk X pins H b)->tn i s.heap->J.stop i H ->
  wpAny (model P w) X.A (pyNext (.ref it)) (fun r s1=>r=none/\Inv X pins σ H s1) E s
 self:∀ (A:Around) (i:Nat) (s:Shared) (Q:Value->Shared->Prop) (E:Value->Shared->Prop),tn i s.heap->Q (.ref it) s->wpAny (model P w) A (pyIter (.ref it)) Q E s
noncomputable abbrev TI:=St->Hp->(It->Hp->Prop)->Prop
noncomputable def PIE (X:Cx) (pins:List (Addr × Obj)) (σ:St) (tg:Expr) (R:It->Hp->Prop) (itv:Value) (s2:Shared):Prop :=
 ∃ (it:Addr) (fp:List Addr) (tn:Nat->Heap->Prop) (J:It) (H':Hp),itv=.ref it/\Inv X pins σ H' s2/\Turn X.prog X.w X.K tg J fp it tn/\tn 0 s2.heap/\(∀ b∈fp,FpOk X pins H' b)/\R J H'
noncomputable def PI (X:Cx) (tg iter:Expr) (wi:TI):Prop :=
 ∀ (pins:List (Addr × Obj)) (s:Shared) (σ:St) (H:Hp) (R:It->Hp->Prop),Inv X pins σ H s->wi σ H R ->
  wpAny (model X.prog X.w) X.A (eval iter X.env) (fun v s1=>wpAny (model X.prog X.w) X.A (pyIter v) (PIE X pins σ tg R) X.xe s1) X.xe s
theorem go_of {M:Model} {A:Around} {E:Value->Shared->Prop} {s:Shared} {tg:Expr} {it:Addr} {u:Value} {o:Obj} {n:String} {vs:Array Value} {Q:Unit->Shared->Prop} (ho:s.heap.get? it=some o) (hc:o.cls=.type n) (hd:o.data=.fields vs)
  (hn:["enumerate","zip","dict_itemiterator","dict_reverseitemiterator","odict_iterator","itertools.zip_longest","itertools.pairwise"].contains n=false) (hQ:Q () s):wpAny M A (letOwnedTupleGo tg (.ref it) u) Q E s:=by
 unfold letOwnedTupleGo
 cases tg<;>first
  | exact Qg hQ
  | (cases u<;>first
    | exact Qg hQ
    | (refine Qb (wpAny_load ho ?_)
       rw [hc,hd]
       show wpAny M A (if (["enumerate","zip","dict_itemiterator","dict_reverseitemiterator","odict_iterator","itertools.zip_longest","itertools.pairwise"].contains n&&vs[0]? == some (rawInt _))=true then _ else _) Q E s
       rw [if_neg (by intro h;rw [hn,Bool.false_and] at h;cases h)]
       exact Qg hQ))
noncomputable def Itl (K:PySem.W.Frag) (a:Addr):It :=
 ⟨fun i H=>∃ xs x,SqL K H a xs/\xs[i]?=some x,fun i H x H'=>H'=H/\∀ xs,SqL K H a xs->xs[i]?=some x,fun i H=>∃ xs,SqL K H a xs/\xs.length<=i⟩
noncomputable def Itt (K:PySem.W.Frag) (a:Addr):It :=
 ⟨fun i H=>∃ xs x,SqT K H a xs/\xs[i]?=some x,fun i H x H'=>H'=H/\∀ xs,SqT K H a xs->xs[i]?=some x,fun i H=>∃ xs,SqT K H a xs/\xs.length<=i⟩
noncomputable def Itr (lo:Int) (n:Nat):It:=⟨fun i _=>i<n,fun i H x H'=>H'=H/\x=.int (lo+i),fun i _=>n<=i⟩
theorem turn_list {P:Program} {w:World} {K:PySem.W.Frag} {tg:Expr} (a it:Addr):Turn P w K tg (Itl K a) [it] it (fun i h=>h.IsListIter it a i) where
 mem:=by simp
 obj:=fun i h st b hb=>by
  have e:b=it:=by simpa using hb
  subst e
  obtain ⟨o,e,c,d⟩:=st
  exact ⟨o,e,fun v z=>by rw [d] at z;cases z⟩
 keep:=fun i h h' st k=>st.at fun o e=>k it (by simp) o e
 item:=by
  intro X hP hw hK hc i pins s σ H E I hf st hg
  subst hP hw hK
  obtain ⟨xs,x,hq,hx⟩:=hg
  obtain ⟨its,rv,p,hz⟩:=I.list hq
  obtain ⟨u,hu,ru⟩:=rv.get hx
  obtain ⟨f0,f1,f2,f3,f4,f5⟩:=hf it (by simp)
  refine wpAny_pyNext_list_item st p.isList (x:=u) (by simpa using hu) fun h' st' sb=>?_
  have I1:Inv X pins σ H { s with heap:=h' }:=I.turned (t':=s.toks) (fun b o hb e=>(sb.2 b hb).trans e) f0 f1 f3 f4 f5
  obtain ⟨o,e,c,d⟩:=id st'
  exact ⟨u,rfl,go_of (s:={ s with heap:=h' }) e c d (by decide) ⟨x,H,I1,ru,⟨rfl,fun ys hy=>by rw [I.list_inj hy hq];exact hx⟩,st',fun b hb=>(hf b hb).1⟩⟩
 done:=by
  intro X hP hw hK hc i pins s σ H E I hf st hg
  subst hP hw hK
  obtain ⟨xs,hq,hx⟩:=hg
  obtain ⟨its,rv,p,hz⟩:=I.list hq
  obtain ⟨f0,f1,f2,f3,f4,f5⟩:=hf it (by simp)
  have hl:=rv.length
  exact wpAny_pyNext_list_end (I.ok.hd hc) st p.isList (by simp;omega) fun h' eb=>⟨rfl,I.turned (t':=s.toks) (fun b o hb e=>eb b o hb e) f0 f1 f3 f4 f5⟩
 self:=fun _ _ _ _ _ st h=>wpAny_pyIter_listiter st h
theorem turn_tuple {P:Program} {w:World} {K:PySem.W.Frag} {tg:Expr} (a it:Addr):Turn P w K tg (Itt K a) [it] it (fun i h=>h.IsTupleIter it a i) where
 mem:=by simp
 obj:=fun i h st b hb=>by
  have e:b=it:=by simpa using hb
  subst e
  obtain ⟨o,e,c,d⟩:=st
  exact ⟨o,e,fun v z=>by rw [d] at z;cases z⟩
 keep:=fun i h h' st k=>st.at fun o e=>k it (by simp) o e
 item:=by
  intro X hP hw hK hc i pins s σ H E I hf st hg
  subst hP hw hK
  obtain ⟨xs,x,hq,hx⟩:=hg
  obtain ⟨its,rv,p,hz⟩:=I.tuple hq
  obtain ⟨u,hu,ru⟩:=rv.get hx
  obtain ⟨f0,f1,f2,f3,f4,f5⟩:=hf it (by simp)
  refine wpAny_pyNext_tuple_item st (show s.heap.IsTuple a its.toArray from p) (x:=u) (by simpa using hu) fun h' st' sb=>?_
  have I1:Inv X pins σ H { s with heap:=h' }:=I.turned (t':=s.toks) (fun b o hb e=>(sb.2 b hb).trans e) f0 f1 f3 f4 f5
  obtain ⟨o,e,c,d⟩:=id st'
  exact ⟨u,rfl,go_of (s:={ s with heap:=h' }) e c d (by decide) ⟨x,H,I1,ru,⟨rfl,fun ys hy=>by rw [I.tuple_inj hy hq];exact hx⟩,st',fun b hb=>(hf b hb).1⟩⟩
 done:=by
  intro X hP hw hK hc i pins s σ H E I hf st hg
  subst hP hw hK
  obtain ⟨xs,hq,hx⟩:=hg
  obtain ⟨its,rv,p,hz⟩:=I.tuple hq
  obtain ⟨f0,f1,f2,f3,f4,f5⟩:=hf it (by simp)
  have hl:=rv.length
  exact wpAny_pyNext_tuple_end (I.ok.hd hc) st (show s.heap.IsTuple a its.toArray from p) (by simp;omega) fun h' eb=>⟨rfl,I.turned (t':=s.toks) (fun b o hb e=>eb b o hb e) f0 f1 f3 f4 f5⟩
 self:=fun _ _ _ _ _ st h=>wpAny_pyIter_tupleiter st h
theorem turn_range {P:Program} {w:World} {K:PySem.W.Frag} {tg:Expr} (it:Addr) (lo:Int) (n:Nat):Turn P w K tg (Itr lo n) [it] it (fun i h=>IsRangeIter h it (lo+(i:Nat)*1) ((n:Int)-(i:Nat)) 1) where
 mem:=by simp
 obj:=fun i h st b hb=>by
  have e:b=it:=by simpa using hb
  subst e
  exact ⟨_,st,fun v z=>by
   have z':Data.fields _=Data.cell v:=z
   cases z'⟩
 keep:=fun i h h' st k=>k it (by simp) _ st
 item:=by
  intro X hP hw hK hc i pins s σ H E I hf st hg
  subst hP hw hK
  obtain ⟨f0,f1,f2,f3,f4,f5⟩:=hf it (by simp)
  have W:=Walks.range (prog:=X.prog) (w:=X.w) (I.ok.hd hc) it lo 1 n
  refine W.item i s _ _ hg st fun v h' tk hv st' kk=>?_
  obtain ⟨t,rfl⟩:=hv
  have I1:Inv X pins σ H { s with heap:=h',toks:=tk }:=I.turned (fun b o hb e=>kk b o (by simpa using hb) e) f0 f1 f3 f4 f5
  refine ⟨_,rfl,go_of (s:={ s with heap:=h',toks:=tk }) (n:="range_iterator") st' rfl rfl (by decide) ⟨.int (lo+i),H,I1,⟨t,?_⟩,⟨rfl,rfl⟩,st',fun b hb=>(hf b hb).1⟩⟩
  rw [Int.mul_one]
 done:=by
  intro X hP hw hK hc i pins s σ H E I hf st hg
  subst hP hw hK
  obtain ⟨f0,f1,f2,f3,f4,f5⟩:=hf it (by simp)
  exact wpAny_pyNext_range_end (I.ok.hd hc) st (by have:n<=i:=hg;omega) fun h' eb=>⟨rfl,I.turned (t':=s.toks) (fun b o hb e=>eb b o hb e) f0 f1 f3 f4 f5⟩
 self:=fun _ _ _ _ _ st h=>wpAny_pyIter_rangeiter st h
end L2
namespace L2
open PySem PySem.Spec PyProof.Rows
section
variable {X:Cx} {tg:Expr}
noncomputable def iList (K:PySem.W.Frag) (tl:TE):TI:=fun σ H R=>tl σ H fun x H1=>∃ a,x=.ref a/\(∃ xs,SqL K H1 a xs)/\R (Itl K a) H1
noncomputable def iTup (K:PySem.W.Frag) (tl:TE):TI:=fun σ H R=>tl σ H fun x H1=>∃ a,x=.ref a/\(∃ xs,SqT K H1 a xs)/\R (Itt K a) H1
theorem pi_list {l:Expr} {tl:TE} (hl:PE X l tl):PI X tg l (iList X.K tl):=by
 intro pins s σ H R I h
 refine thn (hl pins s σ H _ I h) fun v s1 hsl18=>?_
 obtain ⟨x,H1,I1,r1,q1⟩:=hsl18
 obtain ⟨a,e,⟨xs,hq⟩,q⟩:=q1
 subst e
 cases r1
 obtain ⟨its,rv,p,hz⟩:=I1.list hq
 refine wpAny_pyIter_list p.isList ?_
 refine ⟨s1.heap.objs.size,[s1.heap.objs.size],_,_,H1,rfl,I1.kept (t':=s1.toks) fun b o e=>Qf _ e,turn_list a _,⟨_,Qs _ rfl,rfl,rfl⟩,fun b hb=>?_,q⟩
 have e:b=s1.heap.objs.size:=by simpa using hb
 subst e
 exact I1.fpOk (Qh _) (I1.hok.fresh (Qh _))
theorem pi_tup {l:Expr} {tl:TE} (hl:PE X l tl):PI X tg l (iTup X.K tl):=by
 intro pins s σ H R I h
 refine thn (hl pins s σ H _ I h) fun v s1 hsl19=>?_
 obtain ⟨x,H1,I1,r1,q1⟩:=hsl19
 obtain ⟨a,e,⟨xs,hq⟩,q⟩:=q1
 subst e
 cases r1
 obtain ⟨its,rv,p,hz⟩:=I1.tuple hq
 refine wpAny_pyIter_tuple (show s1.heap.IsTuple a its.toArray from p) ?_
 refine ⟨s1.heap.objs.size,[s1.heap.objs.size],_,_,H1,rfl,I1.kept (t':=s1.toks) fun b o e=>Qf _ e,turn_tuple a _,⟨_,Qs _ rfl,rfl,rfl⟩,fun b hb=>?_,q⟩
 have e:b=s1.heap.objs.size:=by simpa using hb
 subst e
 exact I1.fpOk (Qh _) (I1.hok.fresh (Qh _))
theorem range_it {pins:List (Addr × Obj)} {σ:St} {H:Hp} {s:Shared} {R:It->Hp->Prop} {E:Value->Shared->Prop} {lo hi:Int} {t u v:Tok} {tk:Nat} (I:Inv X pins σ H s) (h1:-(2 ^ 62)<=lo) (h2:lo<2 ^ 62) (h3:-(2 ^ 62)<=hi) (h4:hi<2 ^ 62)
  (q:R (Itr lo (hi-lo).toNat) H):wpAny (model X.prog X.w) X.A (pyIter (.ref s.heap.objs.size)) (PIE X pins σ tg R) E { s with heap:=s.heap.push { cls:=.type "range",data:=.fields #[.int lo t,.int hi u,.int 1 v] },toks:=tk }:=by
 refine wpAny_pyIter_range (IsRange.new ..) (small_one h1 h2 h3 h4) ?_
 have I1:Inv X pins σ H { s with heap:=s.heap.push { cls:=.type "range",data:=.fields #[.int lo t,.int hi u,.int 1 v] },toks:=tk }:=I.kept fun b o e=>Qf _ e
 refine ⟨(s.heap.push { cls:=.type "range",data:=.fields #[.int lo t,.int hi u,.int 1 v] }).objs.size,[(s.heap.push { cls:=.type "range",data:=.fields #[.int lo t,.int hi u,.int 1 v] }).objs.size],_,_,H,rfl,
  I1.kept (t':=tk) fun b o e=>Qf _ e,turn_range _ lo (hi-lo).toNat,?_,fun b hb=>?_,q⟩
 ·have e1:lo+((0:Nat):Int)*1=lo:=by simp
  have e2:(((hi-lo).toNat:Nat):Int)-((0:Nat):Int)=Builtin.Range.rangeSize lo hi 1:=by rw [rangeSize_one];split<;>omega
  show IsRangeIter _ _ (lo+((0:Nat):Int)*1) ((((hi-lo).toNat:Nat):Int)-((0:Nat):Int)) 1
  rw [e1,e2]
  exact Qs _ rfl
 ·have e:b=(s.heap.push { cls:=.type "range",data:=.fields #[.int lo t,.int hi u,.int 1 v] }).objs.size:=by simpa using hb
  subst e
  exact I1.fpOk (Qh _) (I1.hok.fresh (Qh _))
noncomputable def iRng1 (ta:TA):TI:=fun σ H R=>ta σ H fun vs H1=>∃ j:Int,vs=[.int j]/\-(2 ^ 62)<=j/\j<2 ^ 62/\R (Itr 0 j.toNat) H1
theorem pi_range1 {a:Expr} {ta:TA} {p pos:Pos} (hg:Gl X "range") (hm:X.mg "range"=none) (ha:PA X [a] ta) (hs:starEach [a] X.env=[(false,eval a X.env)]:=by rfl):PI X tg (.Call (.Name "range" p) [a] [] pos) (iRng1 ta):=by
 intro pins s σ H R I h
 refine Call_ (ld_blt I hg hm boot_range (PyProof.Rows.callWith_type1 (thn (ha pos pins s σ H _ I h) fun us s1 hsl20=>?_) hs rfl))
 obtain ⟨vs,H1,I1,r1,q1⟩:=hsl20
 obtain ⟨j,e,q1,q2,q⟩:=q1
 subst e
 cases r1 with
 | cons r rr =>
  cases rr
  obtain ⟨t,rfl⟩:=r
  exact call_range_1 (range_it I1 (by omega) (by omega) q1 q2 (by simpa using q))
noncomputable def tFor (wi:TI) (g:TG) (tb:TS):TS:=fun D σ H=>wi σ H fun J H1=>∃ W:Nat->Nat->St->Hp->Prop,(∃ m,W 0 m σ H1)/\∀ i m σ H,W i m σ H ->
 (J.stop i H/\D.nx σ H)∨(J.go i H/\∃ N:St->Hp->Prop,(∀ σ' H',N σ' H'->∃ m',m'<m/\W (i+1) m' σ' H')/\∀ x H',J.yld i H x H'->g x σ H' fun σ2 H2=>tb { D with nx:=N,ct:=N,bk:=D.nx } σ2 H2)
noncomputable def pinsAt (fp:List Addr) (h:Heap):List (Addr × Obj):=fp.filterMap fun b=>(h.get? b).map fun o=>(b,o)
theorem mem_pinsAt {fp:List Addr} {h:Heap} {b:Addr} {o:Obj} (hb:b∈fp) (e:h.get? b=some o):(b,o)∈pinsAt fp h:=List.mem_filterMap.mpr ⟨b,hb,by rw [e];rfl⟩
theorem of_pinsAt {fp:List Addr} {h:Heap} {p:Addr × Obj} (hp:p∈pinsAt fp h):p.1∈fp/\h.get? p.1=some p.2:=by
 obtain ⟨b,hb,e⟩:=List.mem_filterMap.mp hp
 cases q:h.get? b with
 | none=>rw [q] at e;cases e
 | some o =>
  rw [q] at e
  have e':(b,o)=p:=Ql e
  subst e'
  exact ⟨hb,q⟩
theorem Inv.pinned {pins:List (Addr × Obj)} {σ:St} {H:Hp} {s:Shared} {fp:List Addr} (I:Inv X pins σ H s) (hf:∀ b∈fp,FpOk X pins H b) (ho:∀ b∈fp,∃ o,s.heap.get? b=some o/\∀ v,o.data≠.cell v):Inv X (pins++pinsAt fp s.heap) σ H s :=
 I.pins_of fun p hp=>(Qx hp).elim (fun z=>I.pin p (List.mem_append_right _ z)) fun z=>by
  obtain ⟨hb,e⟩:=of_pinsAt z
  obtain ⟨f0,f1,f2,_⟩:=hf p.1 hb
  obtain ⟨o,e',d⟩:=ho p.1 hb
  rw [e] at e';cases e'
  exact ⟨e,f0,f1,f2,d⟩
theorem Inv.unpinned {pins pl:List (Addr × Obj)} {σ:St} {H:Hp} {s:Shared} (I:Inv X (pins++pl) σ H s):Inv X pins σ H s:=I.pins_of fun p hp=>I.pin p (List.mem_append_right _ (List.mem_append_left _ hp))
theorem ps_for {iter:Expr} {body:List Stmt} {wi:TI} {g:TG} {tb:TS} {pos:Pos} (hp:PassesOwn (model X.prog X.w) X.A X.env X.xe) (hc:X.calm=true) (hi:PI X tg iter wi) (hg:PG X tg g) (hb:PSs X body tb)
  (hs:∀ x,foldedSetIterable iter X.env x=pure x:=by intro _;rfl):PS X (.For tg iter body [] pos) (tFor wi g tb):=by
 intro pins s σ H D I h
 refine wpAny_For (thn (hi pins s σ H _ I h) fun v s1 h1=>thn h1 fun itv s2 h2=>?_) hs
 obtain ⟨it,fp,tn,J,H2,e,I2,T,st2,f2,W,⟨m0,w0⟩,turn⟩:=h2
 subst e
 have stat:∀ {H':Hp},(∀ b∈fp,H' b=none)->∀ b∈fp,FpOk X pins H' b:=fun hn b hb=>⟨hn b hb,(f2 b hb).2⟩
 refine codeAny_forLoop_any (fun n s'=>∃ i σ' H',Inv X pins σ' H' s'/\tn i s'.heap/\(∀ b∈fp,H' b=none)/\W i n σ' H') ?_ m0 ⟨0,σ,H2,I2,st2,fun b hb=>(f2 b hb).1,w0⟩
 rintro n s3 ⟨i,σ3,H3,I3,st3,fr3,w3⟩
 rcases turn i n σ3 H3 w3 with ⟨stop,qn⟩ | ⟨go,N,hN,step⟩
 ·refine wpAny_passesOwn hp (thn (T.done X rfl rfl rfl hc i pins s3 σ3 H3 X.xe I3 (stat fr3) st3 stop) fun r s4 hsl21=>?_)
  obtain ⟨hr,I4⟩:=hsl21
  subst hr
  exact wpAny_execs_nil ⟨σ3,H3,I4,qn⟩
 ·refine wpAny_passesOwn hp (thn (T.item X rfl rfl rfl hc i pins s3 σ3 H3 X.xe I3 (stat fr3) st3 go) fun r s4 hsl22=>?_)
  obtain ⟨u,hr,h4⟩:=hsl22
  subst hr
  refine wpAny_passesOwn hp (thn h4 fun _ s5 hsl23=>?_)
  obtain ⟨x,H5,I5,r5,y5,st5,fr5⟩:=hsl23
  have I5':=I5.pinned (stat fr5) (T.obj _ _ st5)
  refine wpAny_passesOwn hp (thn (hg _ s5 σ3 H5 x u _ I5' r5 (step x H5 y5)) fun _ s6 hsl24=>?_)
  obtain ⟨σ6,H6,I6,q6⟩:=hsl24
  refine wpAny_passesOwn hp (thn (hb _ s6 σ6 H6 _ I6 q6) fun f s7 q7=>?_)
  have again:∀ {σ7:St} {H7:Hp},Inv X (pins++pinsAt fp s5.heap) σ7 H7 s7->N σ7 H7->∃ m,m<n/\∃ i σ' H',Inv X pins σ' H' s7/\tn i s7.heap/\(∀ b∈fp,H' b=none)/\W i m σ' H':=fun {σ7 H7} I7 n7=>by
   obtain ⟨m',hm,w7⟩:=hN σ7 H7 n7
   refine ⟨m',hm,i+1,σ7,H7,I7.unpinned,T.keep _ _ _ st5 fun b hb o e=>(I7.pin (b,o) (List.mem_append_right _ (List.mem_append_right _ (mem_pinsAt hb e)))).1,fun b hb=>?_,w7⟩
   obtain ⟨o,e,d⟩:=T.obj _ _ st5 b hb
   exact (I7.pin (b,o) (List.mem_append_right _ (List.mem_append_right _ (mem_pinsAt hb e)))).2.1
  cases f with
  | next=>obtain ⟨σ7,H7,I7,n7⟩:=q7;exact again I7 n7
  | cont=>obtain ⟨σ7,H7,I7,n7⟩:=q7;exact again I7 n7
  | brk=>obtain ⟨σ7,H7,I7,q7⟩:=q7;exact ⟨σ7,H7,I7.unpinned,q7⟩
  | ret v=>obtain ⟨x7,σ7,H7,I7,r7,q7⟩:=q7;exact ⟨x7,σ7,H7,I7.unpinned,r7,q7⟩
end
theorem for_list {K:PySem.W.Frag} {a:Addr} {xs:List V} {g:TG} {tb:TS} {D:Ends} {σ:St} {H:Hp} (Pv:Nat->St->Hp->Prop) (h0:Pv 0 σ H) (hl:∀ i σ H,i<=xs.length->Pv i σ H->SqL K H a xs)
  (hs:∀ i x σ H,xs[i]?=some x->Pv i σ H->g x σ H fun σ2 H2=>tb { D with nx:=Pv (i+1),ct:=Pv (i+1),bk:=D.nx } σ2 H2) (hd:∀ σ H,Pv xs.length σ H->D.nx σ H) :
  ∃ W:Nat->Nat->St->Hp->Prop,(∃ m,W 0 m σ H)/\∀ i m σ H,W i m σ H ->
   ((Itl K a).stop i H/\D.nx σ H)∨((Itl K a).go i H/\∃ N:St->Hp->Prop,(∀ σ' H',N σ' H'->∃ m',m'<m/\W (i+1) m' σ' H')/\∀ x H',(Itl K a).yld i H x H'->g x σ H' fun σ2 H2=>tb { D with nx:=N,ct:=N,bk:=D.nx } σ2 H2):=by
 refine ⟨fun i m σ H=>m=xs.length-i/\i<=xs.length/\Pv i σ H,⟨xs.length,by simp,Qr _,h0⟩,?_⟩
 rintro i m σ H ⟨rfl,hi,p⟩
 have q:=hl i σ H hi p
 by_cases hlt:i<xs.length
 ·refine .inr ⟨⟨xs,xs[i],q,by simp [hlt]⟩,Pv (i+1),fun σ' H' p'=>⟨xs.length-(i+1),by omega,rfl,hlt,p'⟩,fun x H' y=>?_⟩
  obtain ⟨e,y⟩:=y
  subst e
  exact hs i x σ _ (y xs q) p
 ·have e:i=xs.length:=by omega
  subst e
  exact .inl ⟨⟨xs,q,Qh _⟩,hd σ H p⟩
theorem for_range {lo:Int} {n:Nat} {g:TG} {tb:TS} {D:Ends} {σ:St} {H:Hp} (Pv:Nat->St->Hp->Prop) (h0:Pv 0 σ H)
  (hs:∀ i σ H,i<n->Pv i σ H->g (.int (lo+i)) σ H fun σ2 H2=>tb { D with nx:=Pv (i+1),ct:=Pv (i+1),bk:=D.nx } σ2 H2) (hd:∀ σ H,Pv n σ H->D.nx σ H) :
  ∃ W:Nat->Nat->St->Hp->Prop,(∃ m,W 0 m σ H)/\∀ i m σ H,W i m σ H ->
   ((Itr lo n).stop i H/\D.nx σ H)∨((Itr lo n).go i H/\∃ N:St->Hp->Prop,(∀ σ' H',N σ' H'->∃ m',m'<m/\W (i+1) m' σ' H')/\∀ x H',(Itr lo n).yld i H x H'->g x σ H' fun σ2 H2=>tb { D with nx:=N,ct:=N,bk:=D.nx } σ2 H2):=by
 refine ⟨fun i m σ H=>m=n-i/\i<=n/\Pv i σ H,⟨n,by simp,Qr _,h0⟩,?_⟩
 rintro i m σ H ⟨rfl,hi,p⟩
 by_cases hlt:i<n
 ·refine .inr ⟨hlt,Pv (i+1),fun σ' H' p'=>⟨n-(i+1),by omega,rfl,hlt,p'⟩,fun x H' y=>?_⟩
  obtain ⟨e,y⟩:=y
  subst e y
  exact hs i σ _ hlt p
 ·have e:i=n:=by omega
  subst e
  exact .inl ⟨Qh _,hd σ H p⟩
theorem while_by {c:TT} {tb:TS} {D:Ends} {σ:St} {H:Hp} (Pv:St->Hp->Prop) (μ:St->Hp->Nat) (h0:Pv σ H)
  (hs:∀ σ H,Pv σ H->c σ H fun b H1=>if b=true then tb { D with nx:=fun σ' H'=>Pv σ' H'/\μ σ' H'<μ σ H,ct:=fun σ' H'=>Pv σ' H'/\μ σ' H'<μ σ H,bk:=D.nx } σ H1 else D.nx σ H1)
  (mono:∀ σ H Q Q',(∀ b H1,Q b H1->Q' b H1)->c σ H Q->c σ H Q'):tWhile c tb D σ H:=by
 refine ⟨fun m σ H=>m=μ σ H/\Pv σ H,⟨_,rfl,h0⟩,?_⟩
 rintro m σ H ⟨rfl,p⟩
 refine mono σ H _ _ (fun b H1 q=>?_) (hs σ H p)
 cases b with
 | true=>exact ⟨_,fun σ' H' ⟨p',l⟩=>⟨_,l,rfl,p'⟩,q⟩
 | false=>exact q
end L2
namespace L2
open PySem PySem.Spec PyProof.Rows
noncomputable abbrev R2:=V->V->Hp->VK->Prop
noncomputable def OpR (X:Cx) (f:Value->Value->Sem Value) (r:R2):Prop :=
 ∀ (pins:List (Addr × Obj)) (s:Shared) (σ:St) (H:Hp) (x y:V) (v u:Value) (Q:VK),Inv X pins σ H s->RelV x v->RelV y u->r x y H Q ->
  wpAny (model X.prog X.w) X.A (f v u) (EP X pins σ Q) X.xe s
noncomputable def UnR (X:Cx) (f:Value->Sem Value) (r:V->Hp->VK->Prop):Prop :=
 ∀ (pins:List (Addr × Obj)) (s:Shared) (σ:St) (H:Hp) (x:V) (v:Value) (Q:VK),Inv X pins σ H s->RelV x v->r x H Q ->
  wpAny (model X.prog X.w) X.A (f v) (EP X pins σ Q) X.xe s
noncomputable def CallR (X:Cx) (f:Value) (r:List V->Hp->VK->Prop):Prop :=
 ∀ (pins:List (Addr × Obj)) (s:Shared) (σ:St) (H:Hp) (xs:List V) (us:List Value) (Q:VK),Inv X pins σ H s->Vals xs us->r xs H Q ->
  wpAny (model X.prog X.w) X.A (call f us) (EP X pins σ Q) X.xe s
noncomputable def tOp (r:R2) (ta tb:TE):TE:=fun σ H Q=>ta σ H fun x H1=>tb σ H1 fun y H2=>r x y H2 Q
noncomputable def tUn (r:V->Hp->VK->Prop) (ta:TE):TE:=fun σ H Q=>ta σ H fun x H1=>r x H1 Q
noncomputable def rI (C:Int->Int->Prop) (g:Int->Int->V):R2:=fun x y H Q=>∃ i j,x=.int i/\y=.int j/\C i j/\Q (g i j) H
noncomputable def rI0 (g:Int->Int->V):R2:=fun x y H Q=>∃ i j,x=.int i/\y=.int j/\Q (g i j) H
noncomputable def rU (g:Int->V):V->Hp->VK->Prop:=fun x H Q=>∃ i,x=.int i/\Q (g i) H
section
variable {X:Cx} {a b c:Expr} {ta tb tc:TE} {pos:Pos}
theorem binT (ha:PE X a ta) (hb:PE X b tb) {pins:List (Addr × Obj)} {s:Shared} {σ:St} {H:Hp} {R:V->V->Hp->Prop} (I:Inv X pins σ H s)
  (h:ta σ H fun x H1=>tb σ H1 fun y H2=>R x y H2) {Q:Value->Shared->Prop} {f:Value->Value->Sem Value}
  (hf:∀ v u s2 x y H2,Inv X pins σ H2 s2->RelV x v->RelV y u->R x y H2->wpAny (model X.prog X.w) X.A (f v u) Q X.xe s2) :
  wpAny (model X.prog X.w) X.A (eval a X.env) (fun v s₁=>wpAny (model X.prog X.w) X.A (eval b X.env) (fun u s₂=>wpAny (model X.prog X.w) X.A (f v u) Q X.xe s₂) X.xe s₁) X.xe s:=by
 refine thn (ha pins s σ H _ I h) fun v s1 hsl25=>?_
 obtain ⟨x,H1,I1,r1,q1⟩:=hsl25
 refine thn (hb pins s1 σ H1 _ I1 q1) fun u s2 hsl26=>?_
 obtain ⟨y,H2,I2,r2,q2⟩:=hsl26
 exact hf v u s2 x y H2 I2 r1 r2 q2
theorem pe_op {op:Operator} {r:R2} (ho:OpR X (binaryOp op) r) (ha:PE X a ta) (hb:PE X b tb):PE X (.BinOp a op b pos) (tOp r ta tb):=by
 intro pins s σ H Q I h
 exact wpAny_BinOp (binT ha hb I h fun v u s2 x y H2 I2 rx ry q=>ho pins s2 σ H2 x y v u Q I2 rx ry q)
theorem pe_un {op:UnaryOp} {r:V->Hp->VK->Prop} (ho:UnR X (unaryOp op) r) (ha:PE X a ta):PE X (.UnaryOp op a pos) (tUn r ta):=by
 intro pins s σ H Q I h
 exact UnaryOp_ (thn (ha pins s σ H _ I h) fun v s1 hsl27=>by obtain ⟨x,H1,I1,r1,q1⟩:=hsl27;exact ho pins s1 σ H1 x v Q I1 r1 q1)
theorem opI {f:Value->Value->Sem Value} {C:Int->Int->Prop} {g:Int->Int->Int}
  (rule:∀ (i j:Int) (t u:Tok) (s:Shared) (Q:Value->Shared->Prop) (E:Value->Shared->Prop),C i j->Q (.int (g i j) s.toks) { s with toks:=s.toks+1 }->wpAny (model X.prog X.w) X.A (f (.int i t) (.int j u)) Q E s) :
  OpR X f (rI C fun i j=>.int (g i j)):=by
 intro pins s σ H x y v u Q I rx ry h
 obtain ⟨i,j,rfl,rfl,hc,q⟩:=h
 obtain ⟨t,rfl⟩:=rx
 obtain ⟨t',rfl⟩:=ry
 exact rule i j t t' s _ _ hc ⟨.int (g i j),H,I.tok _,⟨_,rfl⟩,q⟩
theorem opI0 {f:Value->Value->Sem Value} {g:Int->Int->Int}
  (rule:∀ (i j:Int) (t u:Tok) (s:Shared) (Q:Value->Shared->Prop) (E:Value->Shared->Prop),Q (.int (g i j) s.toks) { s with toks:=s.toks+1 }->wpAny (model X.prog X.w) X.A (f (.int i t) (.int j u)) Q E s) :
  OpR X f (rI0 fun i j=>.int (g i j)):=by
 intro pins s σ H x y v u Q I rx ry h
 obtain ⟨i,j,rfl,rfl,q⟩:=h
 obtain ⟨t,rfl⟩:=rx
 obtain ⟨t',rfl⟩:=ry
 exact rule i j t t' s _ _ ⟨.int (g i j),H,I.tok _,⟨_,rfl⟩,q⟩
theorem opB0 {f:Value->Value->Sem Value} {g:Int->Int->Bool}
  (rule:∀ (i j:Int) (t u:Tok) (s:Shared) (Q:Value->Shared->Prop) (E:Value->Shared->Prop),Q (.bool (g i j)) s->wpAny (model X.prog X.w) X.A (f (.int i t) (.int j u)) Q E s) :
  OpR X f (rI0 fun i j=>.bl (g i j)):=by
 intro pins s σ H x y v u Q I rx ry h
 obtain ⟨i,j,rfl,rfl,q⟩:=h
 obtain ⟨t,rfl⟩:=rx
 obtain ⟨t',rfl⟩:=ry
 exact rule i j t t' s _ _ ⟨.bl (g i j),H,I,rfl,q⟩
noncomputable def CDiv (i j:Int):Prop:=0<j/\j<1073741824
noncomputable def CMul (i j:Int):Prop:=(-(2 ^ 64)<i/\i<2 ^ 64)∨(-(2 ^ 64)<j/\j<2 ^ 64)
theorem CMul.ok {i j:Int} (h:CMul i j):IntMulOk i j:=by
 rcases h with ⟨h1,h2⟩ | ⟨h1,h2⟩
 ·exact .of_left (intBits_le_64 h1 h2)
 ·exact .of_right (intBits_le_64 h1 h2)
theorem two_pow_nn (k:Nat):(0:Int)<=2 ^ k:=by
 rw [two_pow_cast]
 exact Int.natCast_nonneg _
theorem op_add:OpR X (binaryOp .Add) (rI0 fun i j=>.int (i+j)):=opI0 fun _ _ _ _ _ _ _ q=>add_int q
theorem op_sub:OpR X (binaryOp .Sub) (rI0 fun i j=>.int (i-j)):=opI0 fun _ _ _ _ _ _ _ q=>sub_int q
theorem op_mul:OpR X (binaryOp .Mult) (rI CMul fun i j=>.int (i*j)):=opI fun _ _ _ _ _ _ _ hc q=>mul_int q hc.ok
theorem op_fdiv:OpR X (binaryOp .FloorDiv) (rI CDiv fun i j=>.int (i / j)):=opI fun i j _ _ _ _ _ hc q=>by
 have h1:(0:Int)<j:=hc.1
 have h2:j<1073741824:=hc.2
 exact floordiv_int (by omega) (by rw [Int.fdiv_eq_ediv_of_nonneg i (by omega)];exact q) (.inl (PyProof.noPylong_small (by omega)))
theorem op_mod:OpR X (binaryOp .Mod) (rI (fun _ j=>0<j) fun i j=>.int (i % j)):=opI fun i j _ _ _ _ _ hc q=>by
 have h1:(0:Int)<j:=hc
 exact mod_int' (by omega) (by rw [Int.fmod_eq_emod_of_nonneg i (by omega)];exact q)
theorem op_shr:OpR X (binaryOp .RShift) (rI (fun _ j=>0<=j) fun i j=>.int (i / 2 ^ j.toNat)):=opI fun i j _ _ _ _ _ hc q =>
 rshift_int hc (by rw [Int.fdiv_eq_ediv_of_nonneg i (two_pow_nn _)];exact q)
theorem op_and:OpR X (binaryOp .BitAnd) (rI0 fun i j=>.int (Builtin.bitAnd i j)):=opI0 fun _ _ _ _ _ _ _ q=>and_int q
theorem op_or:OpR X (binaryOp .BitOr) (rI0 fun i j=>.int (Builtin.bitOr i j)):=opI0 fun _ _ _ _ _ _ _ q=>or_int q
theorem op_xor:OpR X (binaryOp .BitXor) (rI0 fun i j=>.int (Builtin.bitXor i j)):=opI0 fun _ _ _ _ _ _ _ q=>xor_int q
theorem unI {f:Value->Sem Value} {g:Int->Int}
  (rule:∀ (i:Int) (t:Tok) (s:Shared) (Q:Value->Shared->Prop) (E:Value->Shared->Prop),Q (.int (g i) s.toks) { s with toks:=s.toks+1 }->wpAny (model X.prog X.w) X.A (f (.int i t)) Q E s) :
  UnR X f (rU fun i=>.int (g i)):=by
 intro pins s σ H x v Q I rx h
 obtain ⟨i,rfl,q⟩:=h
 obtain ⟨t,rfl⟩:=rx
 exact rule i t s _ _ ⟨.int (g i),H,I.tok _,⟨_,rfl⟩,q⟩
theorem un_neg:UnR X (unaryOp .USub) (rU fun i=>.int (-i)):=unI fun _ _ _ _ _ q=>neg_int q
end
noncomputable def scal:V->V->Bool
 | .non,.non=>true | .non,.int _=>true | .int _,.non=>true | .non,.bl _=>true | .bl _,.non=>true | .non,.str _=>true | .str _,.non=>true
 | .int _,.int _=>true | .bl _,.bl _=>true | .str _,.str _=>true | .byt _,.byt _=>true
 | .int _,.str _=>true | .str _,.int _=>true | .bl _,.str _=>true | .str _,.bl _=>true
 | _,_=>false
noncomputable def rEq:R2:=fun x y H Q=>scal x y=true/\Q (.bl (decide (x=y))) H
noncomputable def rNe:R2:=fun x y H Q=>scal x y=true/\Q (.bl (!decide (x=y))) H
theorem dec_int {i j:Int}:decide (V.int i=V.int j)=(i == j):=by
 rw [Bool.eq_iff_iff]
 simp
theorem dec_bl {i j:Bool}:decide (V.bl i=V.bl j)=(i == j):=by
 rw [Bool.eq_iff_iff]
 simp
theorem dec_str {i j:Str}:decide (V.str i=V.str j)=(i == j):=by
 rw [Bool.eq_iff_iff]
 simp
theorem dec_byt {i j:Array UInt8}:decide (V.byt i=V.byt j)=(i.toList == j.toList):=by
 rw [Bool.eq_iff_iff]
 cases i
 cases j
 simp
section
variable {X:Cx} {a b c:Expr} {ta tb tc:TE} {pos:Pos}
theorem fin_bl {pins:List (Addr × Obj)} {σ:St} {H:Hp} {s:Shared} {Q:VK} {k k':Bool} (I:Inv X pins σ H s) (q:Q (.bl k) H) (e:k=k'):EP X pins σ Q (.bool k') s:=by
 subst e
 exact ⟨.bl k,H,I,rfl,q⟩
theorem op_eq:OpR X (compareOp .Eq) rEq:=by
 intro pins s σ H x y v u Q I rx ry h
 obtain ⟨hs,q⟩:=h
 cases x with
 | non =>
  cases rx
  cases y with
  | non=>cases ry;exact PySem.EqNone.eq_none_none (fin_bl I q (by simp))
  | bl j=>cases ry;exact PySem.EqNone.eq_none_bool (fin_bl I q (by simp))
  | int j=>obtain ⟨t',rfl⟩:=ry;exact PySem.EqNone.eq_none_int (fin_bl I q (by simp))
  | str j=>obtain ⟨t',rfl⟩:=ry;exact PySem.EqNone.eq_none_str (fin_bl I q (by simp))
  | _=>exact absurd (show false=true from hs) Bool.false_ne_true
 | bl i =>
  cases rx
  cases y with
  | non=>cases ry;exact PySem.EqNone.eq_bool_none (fin_bl I q (by simp))
  | bl j=>cases ry;exact eq_bool (fin_bl I q dec_bl)
  | str j=>obtain ⟨t',rfl⟩:=ry;exact PySem.EqMixed.eq_bool_str (fin_bl I q (by simp))
  | _=>exact absurd (show false=true from hs) Bool.false_ne_true
 | int i =>
  obtain ⟨t,rfl⟩:=rx
  cases y with
  | non=>cases ry;exact PySem.EqNone.eq_int_none (fin_bl I q (by simp))
  | int j=>obtain ⟨t',rfl⟩:=ry;exact eq_int (fin_bl I q dec_int)
  | str j=>obtain ⟨t',rfl⟩:=ry;exact PySem.EqMixed.eq_int_str (fin_bl I q (by simp))
  | _=>exact absurd (show false=true from hs) Bool.false_ne_true
 | str i =>
  obtain ⟨t,rfl⟩:=rx
  cases y with
  | non=>cases ry;exact PySem.EqNone.eq_str_none (fin_bl I q (by simp))
  | bl j=>cases ry;exact PySem.EqMixed.eq_str_bool (fin_bl I q (by simp))
  | int j=>obtain ⟨t',rfl⟩:=ry;exact PySem.EqMixed.eq_str_int (fin_bl I q (by simp))
  | str j=>obtain ⟨t',rfl⟩:=ry;exact eq_str (fin_bl I q dec_str)
  | _=>exact absurd (show false=true from hs) Bool.false_ne_true
 | byt i =>
  obtain ⟨t,rfl⟩:=rx
  cases y with
  | byt j=>obtain ⟨t',rfl⟩:=ry;exact PySem.W.eq_bytes (fin_bl I q dec_byt)
  | _=>exact absurd (show false=true from hs) Bool.false_ne_true
 | _=>cases y<;>exact absurd (show false=true from hs) Bool.false_ne_true
theorem op_ne:OpR X (compareOp .NotEq) rNe:=by
 intro pins s σ H x y v u Q I rx ry h
 obtain ⟨hs,q⟩:=h
 cases x with
 | non =>
  cases rx
  cases y with
  | non=>cases ry;exact PySem.EqNone.ne_none_none (fin_bl I q (by simp))
  | bl j=>cases ry;exact PySem.EqNone.ne_none_bool (fin_bl I q (by simp))
  | int j=>obtain ⟨t',rfl⟩:=ry;exact PySem.EqNone.ne_none_int (fin_bl I q (by simp))
  | str j=>obtain ⟨t',rfl⟩:=ry;exact PySem.EqNone.ne_none_str (fin_bl I q (by simp))
  | _=>exact absurd (show false=true from hs) Bool.false_ne_true
 | bl i =>
  cases rx
  cases y with
  | non=>cases ry;exact PySem.EqNone.ne_bool_none (fin_bl I q (by simp))
  | bl j=>cases ry;exact ne_bool (fin_bl I q (congrArg not dec_bl))
  | str j=>obtain ⟨t',rfl⟩:=ry;exact PySem.EqMixed.ne_bool_str (fin_bl I q (by simp))
  | _=>exact absurd (show false=true from hs) Bool.false_ne_true
 | int i =>
  obtain ⟨t,rfl⟩:=rx
  cases y with
  | non=>cases ry;exact PySem.EqNone.ne_int_none (fin_bl I q (by simp))
  | int j=>obtain ⟨t',rfl⟩:=ry;exact ne_int (fin_bl I q (congrArg not dec_int))
  | str j=>obtain ⟨t',rfl⟩:=ry;exact PySem.EqMixed.ne_int_str (fin_bl I q (by simp))
  | _=>exact absurd (show false=true from hs) Bool.false_ne_true
 | str i =>
  obtain ⟨t,rfl⟩:=rx
  cases y with
  | non=>cases ry;exact PySem.EqNone.ne_str_none (fin_bl I q (by simp))
  | bl j=>cases ry;exact PySem.EqMixed.ne_str_bool (fin_bl I q (by simp))
  | int j=>obtain ⟨t',rfl⟩:=ry;exact PySem.EqMixed.ne_str_int (fin_bl I q (by simp))
  | str j=>obtain ⟨t',rfl⟩:=ry;exact ne_str (fin_bl I q (congrArg not dec_str))
  | _=>exact absurd (show false=true from hs) Bool.false_ne_true
 | byt i =>
  obtain ⟨t,rfl⟩:=rx
  cases y with
  | byt j=>obtain ⟨t',rfl⟩:=ry;exact PySem.W.ne_bytes (fin_bl I q (congrArg not dec_byt))
  | _=>exact absurd (show false=true from hs) Bool.false_ne_true
 | _=>cases y<;>exact absurd (show false=true from hs) Bool.false_ne_true
theorem op_lt:OpR X (compareOp .Lt) (rI0 fun i j=>.bl (decide (i<j))):=opB0 fun _ _ _ _ _ _ _ q=>lt_int q
theorem op_le:OpR X (compareOp .LtE) (rI0 fun i j=>.bl (decide (i<=j))):=opB0 fun _ _ _ _ _ _ _ q=>le_int q
theorem op_gt:OpR X (compareOp .Gt) (rI0 fun i j=>.bl (decide (j<i))):=opB0 fun _ _ _ _ _ _ _ q=>gt_int q
theorem op_ge:OpR X (compareOp .GtE) (rI0 fun i j=>.bl (decide (j<=i))):=opB0 fun _ _ _ _ _ _ _ q=>ge_int q
theorem op_in_str:OpR X (compareOp .In) (fun x y H Q=>∃ i j,x=.str i/\y=.str j/\Q (.bl (!(Builtin.Str.occurrences j i 0 j.length 1).isEmpty)) H):=by
 intro pins s σ H x y v u Q I rx ry h
 obtain ⟨i,j,rfl,rfl,q⟩:=h
 obtain ⟨t,rfl⟩:=rx
 obtain ⟨t',rfl⟩:=ry
 exact in_str (fin_bl I q rfl)
theorem nomark (b:Expr) {op:CmpOp} (h:op≠.In:=by decide) (h2:op≠.NotIn:=by decide):behindInMarks op b=false:=by
 have e1:(op == CmpOp.In)=false:=by cases op<;>first | rfl | exact absurd rfl h
 have e2:(op == CmpOp.NotIn)=false:=by cases op<;>first | rfl | exact absurd rfl h2
 cases b<;>simp [behindInMarks,e1,e2]
theorem pe_cmpR {op:CmpOp} {r:R2} (ho:OpR X (compareOp op) r) (ha:PE X a ta) (hb:PE X b tb) (hm:behindInMarks op b=false):PE X (.Compare a [op] [b] pos) (tOp r ta tb):=by
 intro pins s σ H Q I h
 exact wpAny_Compare1 (binT ha hb I h fun v u s2 x y H2 I2 rx ry q=>ho pins s2 σ H2 x y v u Q I2 rx ry q) hm
noncomputable def tTest (t:TE):TT:=fun σ H Q=>t σ H fun x H'=>∃ k,x=.bl k/\Q k H'
theorem pt_cmpR {op:CmpOp} {r:R2} (ho:OpR X (compareOp op) r) (ha:PE X a ta) (hb:PE X b tb) (hm:behindInMarks op b=false):PT X (.Compare a [op] [b] pos) (tTest (tOp r ta tb)):=by
 intro pins s σ H Q I h
 refine wpAny_isTrue_Compare1 (thn (ha pins s σ H _ I h) fun v s1 ⟨x,H1,I1,r1,q1⟩=>thn (hb pins s1 σ H1 _ I1 q1) fun u s2 ⟨y,H2,I2,r2,q2⟩ =>
  thn (ho pins s2 σ H2 x y v u _ I2 r1 r2 q2) fun c s3 ⟨z,H3,I3,r3,k,e,q3⟩=>?_) hm
 subst e
 cases r3
 exact wpAny_truthy_bool ⟨H3,I3,q3⟩
theorem line63:(sizeLine:Nat)<2 ^ 63:=by rw [sizeLine_eq];decide
theorem op_add_str:OpR X (binaryOp .Add) (fun x y H Q=>∃ i j,x=.str i/\y=.str j/\i.length+j.length<=sizeLine/\Q (.str (i++j)) H):=by
 intro pins s σ H x y v u Q I rx ry h
 obtain ⟨i,j,rfl,rfl,hz,q⟩:=h
 obtain ⟨t,rfl⟩:=rx
 obtain ⟨t',rfl⟩:=ry
 exact add_str (fun t' tk=>⟨.str (i++j),H,I.tok _,⟨_,rfl⟩,q⟩) hz
theorem vals1 {x:V} {us:List Value} (r:Vals [x] us):∃ u,us=[u]/\RelV x u:=by
 cases r with
 | cons r1 r2=>cases r2;exact ⟨_,rfl,r1⟩
theorem vals2 {x y:V} {us:List Value} (r:Vals [x,y] us):∃ u w',us=[u,w']/\RelV x u/\RelV y w':=by
 cases r with
 | cons r1 r2 =>
  cases r2 with
  | cons r3 r4=>cases r4;exact ⟨_,_,rfl,r1,r3⟩
end
end L2
namespace L2
open PySem PySem.Spec PyProof.Rows
structure ObjM (h:Heap) (x dx C:Addr) (mA:Str->Option Value):Prop where
 obj:h.get? x=some (PySem.W.instObj C dx)
 ns:h.Ns1 dx mA
 ne:dx≠x
theorem lookIn_ns {h:Heap} {dx:Addr} {mA:Str->Option Value} (n:h.Ns1 dx mA):∃ od,h.get? dx=some od/\∀ name,PySem.W.lookIn name od=some (mA name):=by
 obtain ⟨o,es,ep,ho,hd,hk,_,hm⟩:=n
 refine ⟨o,ho,fun name=>?_⟩
 have e:=hm name
 unfold nsFind findBy at e
 rw [<- Array.find?_toList] at e
 unfold PySem.W.lookIn
 rw [hd]
 dsimp only
 split
 ·rename_i y q
  rw [q] at e
  exact congrArg some e
 ·rename_i q
  rw [q] at e
  have a:es.toList.any (·.refKey)=false:=by
   rw [List.any_eq_false]
   intro y hy
   obtain ⟨z,t,hkey⟩:=hk y (Array.mem_toList_iff.mp hy)
   simp [DictEntry.refKey,hkey]
  have a':¬ es.toList.any (·.refKey)=true:=by rw [a];exact Bool.false_ne_true
  rw [if_neg a']
  exact congrArg some e
theorem ObjM.look {h:Heap} {x dx C:Addr} {mA:Str->Option Value} (I:ObjM h x dx C mA):∃ od,PySem.W.InstAt h x (PySem.W.instObj C dx) C (some od)/\∀ name,PySem.W.lookIn name od=some (mA name) :=
 let ⟨od,ho,hl⟩:=lookIn_ns I.ns
 ⟨od,⟨I.obj,rfl,rfl,ho⟩,hl⟩
section
variable {prog:Program} {w:World} {A:Around} {E:Value->Shared->Prop} {s:Shared} {K:PySem.W.Frag} {x dx C f:Addr} {mA:Str->Option Value} {name:Str} {v:Value}
theorem get_map {expr:Bool} {Q:Value->Shared->Prop} (X:K.In s.heap) (I:ObjM s.heap x dx C mA) (hg:PySem.W.plainGet K C name=true) (hh:PySem.W.hasDictIn K C=true)
  (ha:PySem.W.findIn K (.ref C) name=some none) (hv:mA name=some v) (hv':PySem.W.handedIn v=true) (h:Q v { s with toks:=s.toks+1 }) :
  wpAny (model prog w) A (getAttr (.ref x) name expr) Q E s:=by
 obtain ⟨od,J,hl⟩:=I.look
 exact PySem.W.get_value X J (PySem.W.plainGet_of hg).1 (PySem.W.findObj_own hh ha rfl (by rw [hl,hv])) hv' h
theorem get_meth {pl:Sem Bool} {Q:Value × List Value->Shared->Prop} (X:K.In s.heap) (I:ObjM s.heap x dx C mA) (hg:PySem.W.plainGet K C name=true)
  (hf:PySem.W.findIn K (.ref C) name=some (some (.ref f))) (ht:PySem.W.isFn K (.ref f)=true) (hv:mA name=none) (h:Q (.ref f,[.ref x]) s) :
  wpAny (model prog w) A (getMethod (.ref x) name pl) Q E s:=by
 obtain ⟨od,J,hl⟩:=I.look
 exact PySem.W.method_fn X J (PySem.W.plainGet_of hg).1 (PySem.W.plainGet_of hg).2 hf (beq_iff_eq.mp ht) (by show (PySem.W.lookIn name od).map (·.isSome)=some false;rw [hl,hv];rfl) h
theorem set_map {ns:List Str} {Q:Unit->Shared->Prop} (X:K.In s.heap) (I:ObjM s.heap x dx C mA)
  (hs:PySem.W.findIn K (.ref C) "__setattr__"=some (some (.builtin "object.__setattr__"))) (hp:PySem.W.plainOver K C=true) (ht:PySem.W.takerIn K C name=some none) (hh:PySem.W.hasDictIn K C=true)
  (hw:PySem.Within mA ns) (hsz:ns.length<=sizeLine)
  (h:∀ h',ObjM h' x dx C (fun y=>if y=name then some v else mA y)->Heap.SameBut dx s.heap h'->Q () { s with heap:=h',toks:=s.toks+2 }) :
  wpAny (model prog w) A (setAttr (.ref x) name v) Q E s:=by
 obtain ⟨od,J,hl⟩:=I.look
 refine PySem.W.set_plain X J hs (PySem.W.osa_open (s:={ s with toks:=s.toks+1 }) (r:=none) X J hp ht fun b=>?_)
 obtain ⟨cd,hc,hd'⟩:=PySem.W.any_some hh
 have hx:s.heap.get? x=some ⟨.ref C,some dx,.plain,#[]⟩:=I.obj
 refine Qb (Qg (Qb (Qb (wpAny_loadPart hx (Qb (PySem.W.Looks.here (s:={ s with toks:=s.toks+1 }) (PySem.W.looks_clsIn X hc) ?_))))))
 rw [hd']
 refine Qg (a:=some dx) (Qb (Qg (Qb ?_)))
 refine wpAny_nsSet1 (s:={ s with toks:=s.toks+1 }) I.ns fun h' hn2 hs2=>?_
 obtain ⟨oD,esD,epD,hoD,hdD,hcD⟩:=hn2.count (PySem.Within.cons name v hw)
 refine Qb (wpAny_lookBehind hoD (by rw [hdD];exact pastItsLine_dict (QA hcD (by rw [List.length_cons];omega))) ?_)
 exact Qg (h _ ⟨(hs2.2 _ (Ne.symm I.ne)).trans I.obj,hn2,I.ne⟩ hs2)
theorem make_map {R:Result->Shared->Prop} {vs:List Value} {kw:List (Str × Value)} (X:K.In s.heap) (hm:PySem.W.makesIn K C=true)
  (hi:PySem.W.findIn K (.ref C) "__init__"=some (some (.ref f))) (hf:PySem.W.typeIn K (.ref f)=some (.type "function"))
  (h:codeAny (model prog w) (A.under (.builtin "type.__call__" ⟨.ref C::vs,kw⟩)) (.call (.ref f) ⟨.ref (s.heap.objs.size+1)::vs,kw⟩) (PySem.W.InitBack (s.heap.objs.size+1) R)
   { s with heap:=(s.heap.push PySem.W.emptyDict).push (PySem.W.instObj C s.heap.objs.size) }) :
  codeAny (model prog w) A (.call (.ref C) ⟨vs,kw⟩) R s:=by
 obtain ⟨hh,g,d,t,os⟩:=s
 exact PySem.W.make_core (PySem.W.makes_of X hm) (PySem.W.looks_findIn X hi) (fun self=>PySem.W.bind_fn X self hf) (.inl rfl) h
end
noncomputable def putF (f:Str) (v:V):List (Str × V)->List (Str × V)
 | []=>[(f,v)]
 | (g,x)::r=>if g=f then (g,v)::r else (g,x)::putF f v r
theorem lookup_putF (f g:Str) (v:V):∀ fs:List (Str × V),(putF f v fs).lookup g=if g=f then some v else fs.lookup g
 | []=>by
  show List.lookup g [(f,v)]=_
  by_cases h:g=f
  ·have hb:(g == f)=true:=beq_iff_eq.mpr h
   simp only [List.lookup,hb,if_pos h]
  ·have hb:(g == f)=false:=beq_eq_false_iff_ne.mpr h
   simp only [List.lookup,hb,if_neg h]
 | (k,x)::r=>by
  have ih:=lookup_putF f g v r
  rw [show putF f v ((k,x)::r)=(if k=f then (k,v)::r else (k,x)::putF f v r) from rfl]
  by_cases hk:k=f
  ·rw [if_pos hk]
   by_cases h:g=k
   ·have hb:(g == k)=true:=beq_iff_eq.mpr h
    simp only [List.lookup,hb,if_pos (h.trans hk)]
   ·have hb:(g == k)=false:=beq_eq_false_iff_ne.mpr h
    simp only [List.lookup,hb,if_neg (fun e:g=f=>h (e.trans hk.symm))]
  ·rw [if_neg hk]
   by_cases h:g=k
   ·have hb:(g == k)=true:=beq_iff_eq.mpr h
    simp only [List.lookup,hb,if_neg (fun e:g=f=>hk (h.symm.trans e))]
   ·have hb:(g == k)=false:=beq_eq_false_iff_ne.mpr h
    simp only [List.lookup,hb]
    exact ih
theorem keys_putF (f:Str) (v:V):∀ fs:List (Str × V),f∈(putF f v fs).map (·.1)/\∀ g,g∈fs.map (·.1)->g∈(putF f v fs).map (·.1)
 | []=>⟨by simp [putF],fun g h=>by simp at h⟩
 | (k,x)::r=>by
  obtain ⟨i1,i2⟩:=keys_putF f v r
  rw [show putF f v ((k,x)::r)=(if k=f then (k,v)::r else (k,x)::putF f v r) from rfl]
  by_cases hk:k=f
  ·rw [if_pos hk]
   subst hk
   exact ⟨by simp,fun g h=>by simpa using h⟩
  ·rw [if_neg hk]
   refine ⟨?_,fun g h=>?_⟩
   ·rw [List.map_cons]
    exact Qm _ i1
   ·rw [List.map_cons] at h ⊢
    rcases Qi h with e | e
    ·exact List.mem_cons.mpr (.inl e)
    ·exact Qm _ (i2 g e)
theorem length_putF (f:Str) (v:V):∀ fs:List (Str × V),(putF f v fs).length<=fs.length+1
 | []=>by simp [putF]
 | (k,x)::r=>by
  have ih:=length_putF f v r
  rw [show putF f v ((k,x)::r)=(if k=f then (k,v)::r else (k,x)::putF f v r) from rfl]
  by_cases hk:k=f
  ·rw [if_pos hk,List.length_cons,List.length_cons];omega
  ·rw [if_neg hk,List.length_cons,List.length_cons];omega
theorem RelO.some_of {v:V} {o:Option Value} (r:RelO (some v) o):∃ u,o=some u/\RelV v u:=by
 cases o with
 | none=>exact (show False from r).elim
 | some u=>exact ⟨u,rfl,r⟩
theorem RelO.none_of {o:Option Value} (r:RelO none o):o=none:=by
 cases o with
 | none=>rfl
 | some u=>exact (show False from r).elim
theorem handed_of {v:V} {u:Value} (r:RelV v u):PySem.W.handedIn u=true:=by
 cases v with
 | non=>cases (show u=Value.none from r);rfl
 | bl b=>cases (show u=Value.bool b from r);rfl
 | int i=>obtain ⟨t,e⟩:=(show ∃ t,u=Value.int i t from r);cases e;rfl
 | str x=>obtain ⟨t,e⟩:=(show ∃ t,u=Value.str x t from r);cases e;rfl
 | byt b=>obtain ⟨t,e⟩:=(show ∃ t,u=Value.bytes b t from r);cases e;rfl
 | flt b=>obtain ⟨t,e⟩:=(show ∃ t,u=Value.float b t from r);cases e;rfl
 | ref a=>cases (show u=Value.ref a from r);rfl
 | ty n=>cases (show u=Value.type n from r);rfl
section
variable {P:Program} {w:World} {H H':Hp} {h h':Heap} {a C dx:Addr} {fs fs':List (Str × V)}
theorem ins_get (hok:HOk P w H h) (e:H a=some (.ins C dx fs)):∃ mA,ObjM h a dx C mA/\(∀ f,RelO (fs.lookup f) (mA f))/\PySem.Within mA (fs.map (·.1))/\fs.length<=1000/\H dx=some (.own a):=by
 obtain ⟨d,z,ne,ob,mA,n,r,q⟩:=(show ObjOk P w H h a (.ins C dx fs) from hok a _ e)
 exact ⟨mA,⟨ob,n,ne⟩,r,q,z,d⟩
end
structure Cls (K:PySem.W.Frag) (C:Addr):Prop where
 pg:PySem.W.plainGet K C Str.empty=true
 hd:PySem.W.hasDictIn K C=true
 po:PySem.W.plainOver K C=true
 sa:PySem.W.findIn K (.ref C) "__setattr__"=some (some (.builtin "object.__setattr__"))
theorem Cls.get {K:PySem.W.Frag} {C:Addr} (c:Cls K C) (f:Str):PySem.W.plainGet K C f=true:=c.pg
noncomputable def NoAttr (K:PySem.W.Frag) (C:Addr) (f:Str):Prop:=PySem.W.findIn K (.ref C) f=some none
theorem NoAttr.taker {K:PySem.W.Frag} {C:Addr} {f:Str} (n:NoAttr K C f):PySem.W.takerIn K C f=some none:=by
 unfold PySem.W.takerIn
 rw [show PySem.W.findIn K (.ref C) f=some none from n]
 rfl
structure Meth (K:PySem.W.Frag) (C:Addr) (m:Str) (f:Addr):Prop where
 at_:PySem.W.findIn K (.ref C) m=some (some (.ref f))
 fn:PySem.W.isFn K (.ref f)=true
 kp:PySem.W.keepIn K (.ref f)=true
section
variable {X:Cx} {pins:List (Addr × Obj)} {σ:St} {H:Hp} {s:Shared} {a C dx:Addr} {fs:List (Str × V)} {f:Str} {v:V} {A:Around} {E:Value->Shared->Prop}
theorem getattr_ok {b:Bool} {Q:Value->Shared->Prop} (I:Inv X pins σ H s) (e:H a=some (.ins C dx fs)) (c:Cls X.K C) (n:NoAttr X.K C f) (l:fs.lookup f=some v)
  (h:∀ u s',Inv X pins σ H s'->RelV v u->Q u s'):wpAny (model X.prog X.w) A (getAttr (.ref a) f b) Q E s:=by
 obtain ⟨mA,O,r,_,_,_⟩:=ins_get I.hok e
 obtain ⟨u,hu,ru⟩:=RelO.some_of (v:=v) (o:=mA f) (by rw [<- l];exact r f)
 exact get_map I.kIn O (c.get f) c.hd n hu (handed_of ru) (h u _ (I.tok _) ru)
theorem getmeth_ok {m:Str} {g:Addr} {pl:Sem Bool} {Q:Value × List Value->Shared->Prop} (I:Inv X pins σ H s) (e:H a=some (.ins C dx fs)) (c:Cls X.K C) (k:Meth X.K C m g) (l:fs.lookup m=none)
  (h:Q (.ref g,[.ref a]) s):wpAny (model X.prog X.w) A (getMethod (.ref a) m pl) Q E s:=by
 obtain ⟨mA,O,r,_,_,_⟩:=ins_get I.hok e
 have hn:mA m=none:=RelO.none_of (by rw [<- l];exact r m)
 exact get_meth I.kIn O (c.get m) k.at_ k.fn hn h
theorem setattr_ok {y:V} {u:Value} {Q:Unit->Shared->Prop} (I:Inv X pins σ H s) (e:H a=some (.ins C dx fs)) (c:Cls X.K C) (n:NoAttr X.K C f) (hl:fs.length<1000) (ry:RelV y u)
  (h:∀ s',Inv X pins σ (upd H a (.ins C dx (putF f y fs))) s'->Q () s'):wpAny (model X.prog X.w) A (setAttr (.ref a) f u) Q E s:=by
 obtain ⟨mA,O,r,wi,_,ho⟩:=ins_get I.hok e
 have hz:(fs.map (·.1)).length<=sizeLine:=by rw [Qd,sizeLine_eq];omega
 refine set_map I.kIn O c.sa c.po n.taker c.hd wi hz fun h' O' sb=>h _ ?_
 have hd:∃ o,h'.get? dx=some o:=by obtain ⟨o,_,_,e',_⟩:=O'.ns;exact ⟨o,e'⟩
 refine I.write (x:=a) (e:=dx) (by rw [e];exact True.intro) (.inr ho) (fun b q hb z=>(sb.2 b hb).trans z) hd ?_
 refine ⟨by rw [upd_ne O.ne];exact ho,?_,O.ne,O'.obj,_,O'.ns,fun g=>?_,fun g hg=>?_⟩
 ·have:=length_putF f y fs;omega
 ·show RelO ((putF f y fs).lookup g) (if g=f then some u else mA g)
  rw [lookup_putF]
  by_cases q:g=f
  ·rw [if_pos q,if_pos q];exact ry
  ·rw [if_neg q,if_neg q];exact r g
 ·by_cases q:g=f
  ·rw [q];exact (keys_putF f y fs).1
  ·refine (keys_putF f y fs).2 g (wi g fun z=>hg ?_)
   show (if g=f then some u else mA g)=none
   rw [if_neg q];exact z
theorem Inv.made (I:Inv X pins σ H s):Inv X pins σ (upd (upd H s.heap.objs.size (.own (s.heap.objs.size+1))) (s.heap.objs.size+1) (.ins C s.heap.objs.size []))
  { s with heap:=(s.heap.push PySem.W.emptyDict).push (PySem.W.instObj C s.heap.objs.size) }:=by
 have e1:(s.heap.push PySem.W.emptyDict).get? s.heap.objs.size=some PySem.W.emptyDict:=Qs s.heap rfl
 have e2:((s.heap.push PySem.W.emptyDict).push (PySem.W.instObj C s.heap.objs.size)).get? (s.heap.objs.size+1)=some (PySem.W.instObj C s.heap.objs.size):=by
  have:=Qs (s.heap.push PySem.W.emptyDict) (o:=PySem.W.instObj C s.heap.objs.size) rfl
  rwa [Heap.size_push] at this
 have e3:(s.heap.push PySem.W.emptyDict).Ns s.heap.objs.size (fun _=>none):=⟨PySem.W.emptyDict,#[],_,e1,rfl,(fun e he=>absurd he (by simp)),fun _=>rfl⟩
 have I1:=I.laid (a:=s.heap.objs.size) (o:=.own (s.heap.objs.size+1)) (h':=s.heap.push PySem.W.emptyDict) (t':=s.toks) (fun b u q=>Qf _ q) (Qh _) ⟨_,e1⟩
 refine I1.laid (a:=s.heap.objs.size+1) (o:=.ins C s.heap.objs.size []) (t':=s.toks) (fun b u q=>Qf _ q) (Nat.le_of_eq (Heap.size_push _ _)) ?_
 have ne:s.heap.objs.size≠s.heap.objs.size+1:=Qw (Nat.lt_succ_self _)
 refine ⟨by rw [upd_ne ne,upd_same],Qr _,ne,e2,fun _=>none,(Heap.Ns1.of_empty e3).at fun o q=>Qf _ q,fun _=>True.intro,fun y hy=>absurd rfl hy⟩
theorem attr_of {prog:Program} {w:World} {env:Env} {e:Expr} {f:Str} {pos:Pos} {s:Shared} {Q:Value->Shared->Prop} (hb:attributeBase e f env (eval e env)=eval e env)
  (h:wpAny (model prog w) A (eval e env) (fun o s₁=>wpAny (model prog w) A (getAttr o f true) Q E s₁) E s):wpAny (model prog w) A (eval (.Attribute e f pos) env) Q E s :=
 Attribute_any_ h (by rw [arm_eval_Attribute,hb])
end
noncomputable def tFld (K:PySem.W.Frag) (ta:TE) (f:Str):TE:=fun σ H Q=>ta σ H fun x H1=>∃ a C dx fs v,x=.ref a/\H1 a=some (.ins C dx fs)/\Cls K C/\NoAttr K C f/\fs.lookup f=some v/\Q v H1
noncomputable def sFld (K:PySem.W.Frag) (ta tv:TE) (f:Str):TS:=fun D σ H=>tv σ H fun y H1=>ta σ H1 fun x H2=>∃ a C dx fs,x=.ref a/\H2 a=some (.ins C dx fs)/\Cls K C/\NoAttr K C f/\fs.length<1000 /\
 D.nx σ (upd H2 a (.ins C dx (putF f y fs)))
section
variable {X:Cx} {o e value:Expr} {f:Str} {pos pos' tpos:Pos} {ta tv:TE}
theorem pe_fld (he:PE X e ta) (hb:attributeBase e f X.env (eval e X.env)=eval e X.env):PE X (.Attribute e f pos) (tFld X.K ta f):=by
 intro pins s σ H Q I h
 refine attr_of hb (thn (he pins s σ H _ I h) fun u s1 hsl28=>?_)
 obtain ⟨x,H1,I1,rx,a,C,dx,fs,v,ex,ea,c,n,l,q⟩:=hsl28
 subst ex
 obtain rfl:u=Value.ref a:=rx
 exact getattr_ok I1 ea c n l fun u' s2 I2 ru=>⟨v,H1,I2,ru,q⟩
theorem ps_fld (ha:PE X o ta) (hv:PE X value tv) (hs:swapsWith value (some (.Attribute o f pos')) pos.line X.env=pure false):PS X (.Assign [.Attribute o f pos'] value pos) (sFld X.K ta tv f):=by
 intro pins s σ H D I h
 refine plainObj_wpAny_Assign_Attribute (thn (hv pins s σ H _ I h) fun u s1 ⟨y,H1,I1,ry,q⟩=>thn (ha pins s1 σ H1 _ I1 q) fun ov s2 hsl29=>?_) hs
 obtain ⟨x,H2,I2,rx,a,C,dx,fs,ex,ea,c,n,l,q2⟩:=hsl29
 subst ex
 obtain rfl:ov=Value.ref a:=rx
 exact setattr_ok I2 ea c n l ry fun s3 I3=>⟨σ,_,I3,q2⟩
end
section
variable {X:Cx} {pins:List (Addr × Obj)} {σ:St} {H:Hp} {s:Shared} {A:Around} {E:Value->Shared->Prop} {Q:Value->Shared->Prop} {c:Value} {b:Bool}
inductive TyOf (K:PySem.W.Frag) (H:Hp):V->Value->Prop where
 | non:TyOf K H .non (.type "NoneType")
 | bl (x:Bool):TyOf K H (.bl x) (.type "bool")
 | int (i:Int):TyOf K H (.int i) (.type "int")
 | str (x:Str):TyOf K H (.str x) (.type "str")
 | flt (x:UInt64):TyOf K H (.flt x) (.type "float")
 | lst {a:Addr} {xs:List V} (e:H a=some (.lst xs)):TyOf K H (.ref a) (.type "list")
 | frz {a:Addr} {o:Obj} {xs:List V} (e:H a=some (.frz o (.lst xs))):TyOf K H (.ref a) (.type "list")
 | tup {a:Addr} {xs:List V} (e:H a=some (.tup xs)):TyOf K H (.ref a) (.type "tuple")
 | dK {a:Addr} {kvs:List (Key × V)} (e:H a=some (.dK kvs)):TyOf K H (.ref a) (.type "dict")
 | dT {a:Addr} {kvs:List (List Key × V)} (e:H a=some (.dT kvs)):TyOf K H (.ref a) (.type "dict")
 | ins {a C dx:Addr} {fs:List (Str × V)} (e:H a=some (.ins C dx fs)) (cl:Cls K C) (ha:PySem.W.findIn K (.ref C) "__class__"=some (some (.builtin "object.__class__")))
   (hn:PySem.W.specialIn K (.builtin "object.__class__") "__get__"=some (some (.builtin "getset_descriptor.__get__"))) (htk:PySem.W.takesIn K (.builtin "object.__class__")=some true)
   (hm:PySem.W.mroIn K C (.type "object")=some true):TyOf K H (.ref a) (.ref C)
theorem isinst_ok {x:V} {u t:Value} (I:Inv X pins σ H s) (rx:RelV x u) (ty:TyOf X.K H x t) (e:PySem.W.kitOne X.K t c=some b) (h:∀ tk,Q (.bool b) { s with toks:=tk }) :
  wpAny (model X.prog X.w) A (call (.builtin "isinstance") [u,c]) Q E s:=by
 cases ty with
 | non=>cases (show u=Value.none from rx);exact PySem.W.kia_one PySem.W.kitx_none I.kIn True.intro e (fun z=>nomatch z) h
 | bl y=>cases (show u=Value.bool y from rx);exact PySem.W.kia_one PySem.W.kitx_bool I.kIn True.intro e (fun z=>nomatch z) h
 | int i=>obtain ⟨t,q⟩:=(show ∃ t,u=Value.int i t from rx);cases q;exact PySem.W.kia_one PySem.W.kitx_int I.kIn True.intro e (fun z=>nomatch z) h
 | str y=>obtain ⟨t,q⟩:=(show ∃ t,u=Value.str y t from rx);cases q;exact PySem.W.kia_one PySem.W.kitx_str I.kIn True.intro e (fun z=>nomatch z) h
 | flt y=>obtain ⟨t,q⟩:=(show ∃ t,u=Value.float y t from rx);cases q;exact PySem.W.kia_one PySem.W.kitx_float I.kIn True.intro e (fun z=>nomatch z) h
 | @lst a xs ea =>
  cases (show u=Value.ref a from rx)
  obtain ⟨_,_,n,_,h1⟩:=(show ObjOk X.prog X.w H s.heap a (.lst xs) from I.hok a _ ea)
  exact PySem.W.kia_one PySem.W.kitx_list I.kIn ⟨_,h1,rfl⟩ e (fun z=>nomatch z) h
 | @frz a ob xs ea =>
  cases (show u=Value.ref a from rx)
  obtain ⟨_,_,_,n,_,h1⟩:=(show ObjOk X.prog X.w H s.heap a (.frz ob (.lst xs)) from I.hok a _ ea)
  exact PySem.W.kia_one PySem.W.kitx_list I.kIn ⟨_,h1,rfl⟩ e (fun z=>nomatch z) h
 | @tup a xs ea =>
  cases (show u=Value.ref a from rx)
  obtain ⟨_,_,_,p⟩:=(show ObjOk X.prog X.w H s.heap a (.tup xs) from I.hok a _ ea)
  obtain ⟨o,h1,h2,_⟩:=p
  exact PySem.W.kia_one PySem.W.kitx_tuple I.kIn ⟨o,h1,h2⟩ e (fun z=>nomatch z) h
 | @dK a kvs ea =>
  cases (show u=Value.ref a from rx)
  obtain ⟨_,_,vs,_,p⟩:=(show ObjOk X.prog X.w H s.heap a (.dK kvs) from I.hok a _ ea)
  obtain ⟨o,es,ep,h1,h2,_⟩:=p
  exact PySem.W.kia_one PySem.W.kitx_dict I.kIn ⟨o,h1,h2.1⟩ e (fun z=>nomatch z) h
 | @dT a kvs ea =>
  cases (show u=Value.ref a from rx)
  obtain ⟨_,_,xs,_,o,es,ep,h1,h2,_⟩:=(show ObjOk X.prog X.w H s.heap a (.dT kvs) from I.hok a _ ea)
  exact PySem.W.kia_one PySem.W.kitx_dict I.kIn ⟨o,h1,h2.1⟩ e (fun z=>nomatch z) h
 | @ins a C dx fs ea cl ha hn htk hm =>
  cases (show u=Value.ref a from rx)
  obtain ⟨mA,O,_⟩:=ins_get I.hok ea
  obtain ⟨od,J,_⟩:=O.look
  exact PySem.W.kia_one (PySem.W.kitx_own (cl.get _) cl.hd ha hn htk hm) I.kIn J e (fun z=>nomatch z) h
end
end L2
namespace L2
open PySem PySem.Spec PyProof.Rows
structure Room (k:Nat) (A:Around):Prop where
 hd:A.handled=none
 dp:A.depth+3*k+5<recursionLimit
 un:A.units+16*k+200<cLine
theorem Room.mono {j k:Nat} {A:Around} (r:Room k A) (h:j<=k):Room j A:=⟨r.hd,by have:=r.dp;omega,by have:=r.un;omega⟩
theorem Room.deeper {k:Nat} {A:Around} (r:Room (k+1) A) (env:Env):Room k (A.deeper env) :=
 ⟨r.hd,by have:=r.dp;show A.depth+1+3*k+5<_;omega,by have:=r.un;show A.units+3+16*k+200<_;omega⟩
theorem Room.in1 {k:Nat} {A:Around} (r:Room (k+1) A):Room k A.in1 :=
 ⟨r.hd,by have:=r.dp;show A.depth+3*k+5<_;omega,by have:=r.un;show A.units+1+16*k+200<_;omega⟩
theorem make_depth {A:Around} {C:Addr} {us:List Value} {kw:List (Str × Value)}:(A.under (.builtin "type.__call__" ⟨.ref C::us,kw⟩)).depth=A.depth+1:=by
 first | rfl | simp [Around.under,Code.weight,Code.isCreation,Code.isGuard,Code.isCaller,Code.frames,Code.isFrame,guardIds]
theorem make_units {A:Around} {C:Addr} {us:List Value} {kw:List (Str × Value)}:(A.under (.builtin "type.__call__" ⟨.ref C::us,kw⟩)).units=A.units+1:=by
 first | rfl | simp [Around.under,Code.cUnits,Code.frames,Code.isFrame]
theorem Room.make {k:Nat} {A:Around} (r:Room (k+1) A) (C:Addr) (us:List Value) (kw:List (Str × Value)):Room k (A.under (.builtin "type.__call__" ⟨.ref C::us,kw⟩)) :=
 ⟨r.hd,by have:=r.dp;rw [make_depth];omega,by have:=r.un;rw [make_units];omega⟩
theorem Room.depth {k:Nat} {A:Around} (r:Room k A):A.depth<recursionLimit:=by have:=r.dp;omega
theorem Room.units {k:Nat} {A:Around} (r:Room k A):A.units+64<cLine:=by have:=r.un;omega
noncomputable def tNil:TA:=fun _ H Q=>Q [] H
noncomputable def tCons (ta:TE) (tr:TA):TA:=fun σ H Q=>ta σ H fun x H1=>tr σ H1 fun xs H2=>Q (x::xs) H2
section
variable {X:Cx} {e:Expr} {es:List Expr} {te:TE} {t:TA} {pos:Pos}
theorem pa_nil:PA X [] tNil:=fun _ _ _ _ H Q I h=>Calls.spliced_nil ⟨[],H,I,.nil,h⟩
theorem pa_cons (ha:PE X e te) (hr:PA X es t) (hs:starEach (e::es) X.env=(false,eval e X.env)::starEach es X.env:=by rfl):PA X (e::es) (tCons te t):=by
 intro pos pins s σ H Q I h
 rw [hs]
 show wpAny _ _ (spliced ((false,eval e X.env)::backTo pos (starEach es X.env))) _ _ s
 refine Calls.spliced_cons (thn (ha pins s σ H _ I h) fun u s1 hsl31=>?_)
 obtain ⟨x,H1,I1,r1,q1⟩:=hsl31
 exact thn (hr pos pins s1 σ H1 _ I1 q1) fun us s2 hsl32=>by obtain ⟨xs,H2,I2,r2,q2⟩:=hsl32;exact ⟨x::xs,H2,I2,.cons r1 r2,q2⟩
noncomputable def tTup (t:TA):TE:=fun σ H Q=>t σ H fun xs H1=>xs.length<=sizeLine/\∀ p,H1 p=none->Q (.ref p) (upd H1 p (.tup xs))
noncomputable def tLst (t:TA):TE:=fun σ H Q=>t σ H fun xs H1=>xs.length<=sizeLine/\∀ p,H1 p=none->Q (.ref p) (upd H1 p (.lst xs))
theorem pe_tup {x1} (h:PA X es t):PE X (.Tuple es x1 pos) (tTup t):=by
 intro pins s σ H Q I hq
 refine wpAny_Tuple_spliced (thn (h pos pins s σ H _ I hq) fun us s1 ⟨xs,H1,I1,r,z,q⟩=>⟨by rw [<- r.length];exact z,?_⟩)
 have hf:H1 s1.heap.objs.size=none:=I1.hok.fresh (Qh _)
 refine ⟨.ref s1.heap.objs.size,upd H1 s1.heap.objs.size (.tup xs),I1.laid (t':=s1.toks) (fun b u e=>Qf _ e) (Qh _) ?_,rfl,q _ hf⟩
 exact ⟨z,us,r,⟨_,Qs _ rfl,rfl,_,rfl⟩⟩
theorem pe_lst (h:PA X es t):PE X (.List es pos) (tLst t):=by
 intro pins s σ H Q I hq
 refine wpAny_List_spliced (thn (h pos pins s σ H _ I hq) fun us s1 ⟨xs,H1,I1,r,z,q⟩=>⟨by rw [<- r.length];exact z,?_⟩)
 have hf:H1 s1.heap.objs.size=none:=I1.hok.fresh (Qh _)
 refine ⟨.ref s1.heap.objs.size,upd H1 s1.heap.objs.size (.lst xs),I1.laid (t':=s1.toks) (fun b u e=>Qf _ e) (Qh _) ?_,rfl,q _ hf⟩
 exact ⟨z,us,0,r,Qs _ rfl⟩
end
noncomputable abbrev Sp:=List V->Hp->VK->XK->Prop
noncomputable abbrev CXT:=List Env->Hp->Shared->XK->Value->Shared->Prop
structure Env0 (P:Program) (w:World) (K:PySem.W.Frag) (mg:Str->Option Value) (base:Heap) (A:Around) (outer:List Env) (s:Shared) (H:Hp):Prop where
 frames:A.frames=some outer
 mod:Mod K mg base
 bs:∀ b o,base.get? b=some o->s.heap.get? b=some o/\H b=none
 bsz:base.objs.size<=s.heap.objs.size
 funs:s.heap.FunFrames base outer
 frf:∀ b∈frs outer,H b=none
 hok:HOk P w H s.heap
 bare:AllBare s.gens
noncomputable def CE (outer:List Env) (P:Program) (w:World) (H:Hp) (s:Shared) (Q:VK) (u:Value) (s':Shared):Prop :=
 ∃ v H',s'.os=s.os/\AllBare s'.gens/\Un (frs outer) [] H H' s.heap s'.heap/\HOk P w H' s'.heap/\RelV v u/\Q v H'
noncomputable def CR (CX:CXT) (outer:List Env) (P:Program) (w:World) (H:Hp) (s:Shared) (Q:VK) (E:XK) (r:Result) (s':Shared):Prop :=
 match r with
 | .ok (.ret u)=>CE outer P w H s Q u s'
 | .ok _=>False
 | .error e=>CX outer H s E e s'
structure FnOk (P:Program) (w:World) (K:PySem.W.Frag) (mg:Str->Option Value) (base:Heap) (CX:CXT) (k:Nat) (f:Addr) (fd:FuncData) (ps:List Str) (sp:Sp):Prop where
 len:∀ vs H Q E,sp vs H Q E->vs.length=ps.length
 run:∀ (A:Around) (outer:List Env) (s:Shared) (H:Hp) (args:Args) (us:List Value) (vs:List V) (Q:VK) (E:XK),Room k A->Env0 P w K mg base A outer s H->BindsTo s fd args (ps.zip us)->Vals vs us->sp vs H Q E ->
  codeAny (model P w) A (.call (.ref f) args) (CR CX outer P w H s Q E) s
theorem Env0.make {P:Program} {w:World} {K:PySem.W.Frag} {mg:Str->Option Value} {base:Heap} {A:Around} {outer:List Env} {s:Shared} {H:Hp} (e:Env0 P w K mg base A outer s H) (C:Addr) (us:List Value) (kw:List (Str × Value)) :
  Env0 P w K mg base (A.under (.builtin "type.__call__" ⟨.ref C::us,kw⟩)) outer s H:=⟨by first | exact e.frames | (simpa [Around.under,Code.envs,Code.isFrame,pushEnvs] using e.frames),e.mod,e.bs,e.bsz,e.funs,e.frf,e.hok,e.bare⟩
theorem Env0.in1 {P:Program} {w:World} {K:PySem.W.Frag} {mg:Str->Option Value} {base:Heap} {A:Around} {outer:List Env} {s:Shared} {H:Hp} (e:Env0 P w K mg base A outer s H) :
  Env0 P w K mg base A.in1 outer s H:=⟨e.frames,e.mod,e.bs,e.bsz,e.funs,e.frf,e.hok,e.bare⟩
section
variable {X:Cx} {pins:List (Addr × Obj)} {σ:St} {H:Hp} {s s':Shared}
theorem Inv.env0 (I:Inv X pins σ H s):Env0 X.prog X.w X.K X.mg X.base X.A X.stack s H :=
 ⟨I.ok.frames,I.ok.mod,I.bs,QA I.ok.bsz I.sz,I.stack,I.stkFree,I.hok,I.bare⟩
theorem Inv.after {Q:VK} {u:Value} (I:Inv X pins σ H s) (h:CE X.stack X.prog X.w H s Q u s'):EP X pins σ Q u s':=by
 obtain ⟨v,H',os,bare,un,hok,r,q⟩:=h
 obtain ⟨hh,g,d,t,os'⟩:=s'
 obtain rfl:os'=s.os:=os
 exact ⟨v,H',I.call (h':=hh) (g':=g) (d':=d) (t':=t) (ch:=[]) un hok bare (fun b z=>absurd z (by simp)),r,q⟩
end
noncomputable def tCall (sp:Sp) (dvs:List V) (E:XK) (t:TA):TE:=fun σ H Q=>t σ H fun vs H1=>sp (vs++dvs) H1 Q E
noncomputable def tMeth (C:Addr) (m:Str) (sp:Sp) (dvs:List V) (E:XK) (ta:TE) (t:TA):TE:=fun σ H Q=>ta σ H fun x H1=>∃ a dx fs,x=.ref a/\H1 a=some (.ins C dx fs)/\fs.lookup m=none /\
 t σ H1 fun vs H2=>sp (x::(vs++dvs)) H2 Q E
noncomputable def tMake (C:Addr) (sp:Sp) (dvs:List V) (E:XK) (t:TA):TE:=fun σ H Q=>t σ H fun vs H1=>∀ x dx,H1 x=none->H1 dx=none->dx≠x ->
 sp (.ref x::(vs++dvs)) (upd (upd H1 dx (.own x)) x (.ins C dx [])) (fun v H2=>v=.non/\Q (.ref x) H2) E
noncomputable def Binds (K:PySem.W.Frag) (fd:FuncData) (ps:List Str) (ds:List Value):Prop :=
 ∀ (s:Shared) (us:List Value),K.In s.heap->(us++ds).length=ps.length->BindsTo s fd ⟨us,[]⟩ (ps.zip (us++ds))
theorem Binds.all {K:PySem.W.Frag} {fd:FuncData} {ps:List Str} (h:∀ us:List Value,us.length=ps.length->bindArgs fd ⟨us,[]⟩=pure (ps.zip us)):Binds K fd ps []:=fun s us _ hl=>by
 rw [List.append_nil] at hl ⊢
 exact .of_eq (h us hl)
noncomputable def Passes (CX:CXT) (X:Cx) (E:XK):Prop:=∀ (pins:List (Addr × Obj)) (σ:St) (H:Hp) (s:Shared) (e:Value) (s':Shared),Inv X pins σ H s->CX X.stack H s E e s'->X.xe e s'
section
variable {X:Cx} {CX:CXT} {k:Nat} {f C:Addr} {fd:FuncData} {ps:List Str} {sp:Sp} {dvs:List V} {ds:List Value} {E:XK} {x m:Str} {p pos apos:Pos} {e o:Expr} {es:List Expr} {ta:TE} {t:TA}
theorem run_fn {pins:List (Addr × Obj)} {σ:St} {H:Hp} {s:Shared} {Q:VK} {us:List Value} {vs:List V} (F:FnOk X.prog X.w X.K X.mg X.base CX k f fd ps sp) (hr:Room k X.A) (hb:Binds X.K fd ps ds) (hd:Vals dvs ds) (hx:Passes CX X E)
  (I:Inv X pins σ H s) (r:Vals vs us) (h:sp (vs++dvs) H Q E):wpAny (model X.prog X.w) X.A (call (.ref f) us) (EP X pins σ Q) X.xe s:=by
 have r2:Vals (vs++dvs) (us++ds):=r.append hd
 have hl:(us++ds).length=ps.length:=by rw [<- r2.length];exact F.len _ _ _ _ h
 refine wpAny_call (codeAny_mono (F.run X.A X.stack s H ⟨us,[]⟩ (us++ds) (vs++dvs) Q E hr I.env0 (hb s us I.kIn hl) r2 h) fun r s' hq=>?_)
 cases r with
 | error e=>exact hx pins σ H s e s' I hq
 | ok fl =>
  cases fl with
  | ret u=>exact I.after hq
  | next=>exact False.elim hq
  | brk=>exact False.elim hq
  | cont=>exact False.elim hq
theorem pe_call (F:FnOk X.prog X.w X.K X.mg X.base CX k f fd ps sp) (hr:Room k X.A) (hg:Gl X x) (hm:X.mg x=some (.ref f)) (hk:PySem.W.keepIn X.K (.ref f)=true) (hb:Binds X.K fd ps ds) (hd:Vals dvs ds) (hx:Passes CX X E)
  (ha:PA X (e::es) t) (hdb:(x == ("__debug__":Str))=false:=by decide) (he:starEach (e::es) X.env=(false,eval e X.env)::starEach es X.env:=by rfl) (hpl:(backTo pos (starEach es X.env)).any (·.1)=false:=by rfl) :
  PE X (.Call (.Name x p) (e::es) [] pos) (tCall sp dvs E t):=by
 intro pins s σ H Q I h
 refine wpAny_Call_Name_kw (ld_glob I hg hm ?_ hdb)
 refine PySem.W.callWith_K (h₀:=X.base) I.ok.mod.kin hk (thn (ha pos pins s σ H _ I h) fun us s1 ⟨vs,H1,I1,r,q⟩=>⟨I1.kIn,?_⟩) he hpl
 exact run_fn F hr hb hd hx I1 r q
theorem pe_meth {pl:Sem Bool} (he:PE X o ta) (c:Cls X.K C) (hm:Meth X.K C m f) (F:FnOk X.prog X.w X.K X.mg X.base CX k f fd ps sp) (hr:Room k X.A) (hb:Binds X.K fd ps ds) (hd:Vals dvs ds) (hx:Passes CX X E) (ha:PA X (e::es) t)
  (hst:starEach (e::es) X.env=(false,eval e X.env)::starEach es X.env:=by rfl) (hpl:(backTo pos (starEach es X.env)).any (·.1)=false:=by rfl)
  (ht:eval (.Call (.Attribute o m apos) (e::es) [] pos) X.env=(do
   let ov <- eval o X.env
   standAt apos.atName
   let (f,first) <- holding [ov] (getMethod ov m pl)
   callWith pos f first (backTo pos (starEach (e::es) X.env)) (backToKw pos (keywordEach [] X.env))):=by rfl) :
  PE X (.Call (.Attribute o m apos) (e::es) [] pos) (tMeth C m sp dvs E ta t):=by
 intro pins s σ H Q I h
 refine PySem.W.methodCall_KW (pl:=pl) (thn (he pins s σ H _ I h) fun u s1 hsl33=>?_) ht
 obtain ⟨x,H1,I1,rx,a,dx,fs,ex,ea,l,q⟩:=hsl33
 subst ex
 obtain rfl:u=Value.ref a:=rx
 refine getmeth_ok I1 ea c hm l ?_
 refine PySem.W.callWith_K (first:=[.ref a]) (h₀:=X.base) I.ok.mod.kin hm.kp (thn (ha pos pins s1 σ H1 _ I1 q) fun us s2 ⟨vs,H2,I2,r,q2⟩=>⟨I2.kIn,?_⟩) hst hpl
 exact run_fn (us:=.ref a::us) (vs:=.ref a::vs) F hr hb hd hx I2 (.cons rfl r) q2
theorem pe_meth0 {pl:Sem Bool} (he:PE X o ta) (c:Cls X.K C) (hm:Meth X.K C m f) (F:FnOk X.prog X.w X.K X.mg X.base CX k f fd ps sp) (hr:Room k X.A) (hb:Binds X.K fd ps ds) (hd:Vals dvs ds) (hx:Passes CX X E)
  (ht:eval (.Call (.Attribute o m apos) [] [] pos) X.env=(do
   let ov <- eval o X.env
   standAt apos.atName
   let (f,first) <- holding [ov] (getMethod ov m pl)
   callWith pos f first (backTo pos (starEach [] X.env)) (backToKw pos (keywordEach [] X.env))):=by rfl) :
  PE X (.Call (.Attribute o m apos) [] [] pos) (tMeth C m sp dvs E ta tNil):=by
 intro pins s σ H Q I h
 refine PySem.W.methodCall_KW (pl:=pl) (thn (he pins s σ H _ I h) fun u s1 hsl34=>?_) ht
 obtain ⟨x,H1,I1,rx,a,dx,fs,ex,ea,l,q⟩:=hsl34
 subst ex
 obtain rfl:u=Value.ref a:=rx
 refine getmeth_ok I1 ea c hm l ?_
 exact PySem.W.callWith_K0 (first:=[.ref a]) I1.kIn hm.kp (run_fn (us:=[.ref a]) (vs:=[.ref a]) F hr hb hd hx I1 (.cons rfl .nil) q)
structure Mk (K:PySem.W.Frag) (C f:Addr):Prop where
 makes:PySem.W.makesIn K C=true
 init:PySem.W.findIn K (.ref C) "__init__"=some (some (.ref f))
 fn:PySem.W.isFn K (.ref f)=true
 kp:PySem.W.keepIn K (.ref C)=true
theorem run_make {pins:List (Addr × Obj)} {σ:St} {H:Hp} {s:Shared} {Q:VK} {us:List Value} {vs:List V} (M:Mk X.K C f) (F:FnOk X.prog X.w X.K X.mg X.base CX k f fd ps sp) (hr:Room (k+1) X.A) (hb:Binds X.K fd ps ds) (hd:Vals dvs ds)
  (hx:Passes CX X E) (I:Inv X pins σ H s) (r:Vals vs us)
  (h:∀ x dx,H x=none->H dx=none->dx≠x->sp (.ref x::(vs++dvs)) (upd (upd H dx (.own x)) x (.ins C dx [])) (fun v H2=>v=.non/\Q (.ref x) H2) E) :
  wpAny (model X.prog X.w) X.A (call (.ref C) us) (EP X pins σ Q) X.xe s:=by
 have hq:=h (s.heap.objs.size+1) s.heap.objs.size (I.hok.fresh (Nat.le_succ _)) (I.hok.fresh (Qh _)) (Qw (Nat.lt_succ_self _))
 have I2:=Inv.made (C:=C) I
 have r2:Vals (V.ref (s.heap.objs.size+1)::(vs++dvs)) (Value.ref (s.heap.objs.size+1)::(us++ds)):=.cons rfl (r.append hd)
 have hl:(Value.ref (s.heap.objs.size+1)::us++ds).length=ps.length:=by
  have e:=r2.length
  rw [F.len _ _ _ _ hq] at e
  exact e.symm
 refine wpAny_call (make_map (f:=f) I.kIn M.makes M.init (beq_iff_eq.mp M.fn) (codeAny_mono (F.run _ X.stack _ _ ⟨Value.ref (s.heap.objs.size+1)::us,[]⟩ (Value.ref (s.heap.objs.size+1)::(us++ds)) _ _ E (hr.make C us [])
  (I2.env0.make C us []) (hb _ (Value.ref (s.heap.objs.size+1)::us) I2.kIn hl) r2 hq) fun r s' hq'=>?_))
 cases r with
 | error e=>exact hx pins σ _ _ e s' I2 hq'
 | ok fl =>
  cases fl with
  | ret u =>
   obtain ⟨v,H',I3,rv,ev,q3⟩:=I2.after hq'
   subst ev
   exact ⟨rv,⟨V.ref (s.heap.objs.size+1),H',I3,rfl,q3⟩⟩
  | next=>exact False.elim hq'
  | brk=>exact False.elim hq'
  | cont=>exact False.elim hq'
theorem pe_make (M:Mk X.K C f) (F:FnOk X.prog X.w X.K X.mg X.base CX k f fd ps sp) (hr:Room (k+1) X.A) (hg:Gl X x) (hm:X.mg x=some (.ref C)) (hb:Binds X.K fd ps ds) (hd:Vals dvs ds) (hx:Passes CX X E)
  (ha:PA X (e::es) t) (hdb:(x == ("__debug__":Str))=false:=by decide) (he:starEach (e::es) X.env=(false,eval e X.env)::starEach es X.env:=by rfl) (hpl:(backTo pos (starEach es X.env)).any (·.1)=false:=by rfl) :
  PE X (.Call (.Name x p) (e::es) [] pos) (tMake C sp dvs E t):=by
 intro pins s σ H Q I h
 refine wpAny_Call_Name_kw (ld_glob I hg hm ?_ hdb)
 refine PySem.W.callWith_K (h₀:=X.base) I.ok.mod.kin M.kp (thn (ha pos pins s σ H _ I h) fun us s1 ⟨vs,H1,I1,r,q⟩=>⟨I1.kIn,?_⟩) he hpl
 exact run_make M F hr hb hd hx I1 r q
end
noncomputable def PK (X:Cx) (kws:List Keyword) (t:TA):Prop :=
 ∀ (pos:Pos) (pins:List (Addr × Obj)) (s:Shared) (σ:St) (H:Hp) (Q:List V->Hp->Prop),Inv X pins σ H s->t σ H Q->wpAny (model X.prog X.w) X.A (evalAll ((backToKw pos (keywordEach kws X.env)).map (·.2))) (AP X pins σ Q) X.xe s
section
variable {X:Cx} {CX:CXT} {k:Nat} {f C:Addr} {fd:FuncData} {ps ks:List Str} {sp:Sp} {E:XK} {x m:Str} {p pos apos kpos:Pos} {e o:Expr} {es:List Expr} {kws:List Keyword} {te ta:TE} {t tk:TA} {nm:Option Str}
theorem pk_nil:PK X [] tNil:=fun _ _ _ _ H Q I h=>wpAny_evalAll_nil ⟨[],H,I,.nil,h⟩
theorem pk_cons (ha:PE X e te) (hr:PK X kws t):PK X (⟨nm,e,kpos⟩::kws) (tCons te t):=by
 intro pos pins s σ H Q I h
 show wpAny _ _ (evalAll ((do let v <- eval e X.env;standAt pos;pure v)::(backToKw pos (keywordEach kws X.env)).map (·.2))) _ _ s
 refine wpAny_evalAll_cons (Qb (thn (ha pins s σ H _ I h) fun u s1 ⟨x,H1,I1,r1,q1⟩=>Qb (wpAny_standAt (Qg ?_))))
 exact thn (hr pos pins s1 σ H1 _ I1 q1) fun us s2 hsl35=>by obtain ⟨xs,H2,I2,r2,q2⟩:=hsl35;exact ⟨x::xs,H2,I2,.cons r1 r2,q2⟩
variable {g:List Value->List Value->List Value} {gV:List V->List V->List V}
end
structure FnScope (N P:List Str) (sc:Scope):Prop where
 kind:sc.kind=.function
 co:sc.isCoroutine=false
 gen:sc.isGenerator=false
 nd:N.Nodup
 pre:N.take P.length=P
 par:∀ x∈P,sc.names.lookup x=some .local∨sc.names.lookup x=some .cell
 nofree:∀ y∈sc.names,y.2≠.free
theorem bindL_out {kindOf:Str->Option NameKind} {x:Str}:∀ {binds:List (Str × Value)} {m:Str->Option Value},(∀ v,(x,v)∉binds)->bindL kindOf binds m x=m x
 | [],_,_=>rfl
 | (n,v)::r,m,h=>by
  unfold bindL
  rw [bindL_out fun w hw=>h w (Qm _ hw)]
  split
  ·have:x≠n:=by rintro rfl;exact h v Qp
   simp [this]
  ·rfl
theorem bindC_out {kindOf:Str->Option NameKind} {x:Str}:∀ {binds:List (Str × Value)} {m:Str->Option Value},(∀ v,(x,v)∉binds)->bindC kindOf binds m x=m x
 | [],_,_=>rfl
 | (n,v)::r,m,h=>by
  unfold bindC
  rw [bindC_out fun w hw=>h w (Qm _ hw)]
  split
  ·rfl
  ·have:x≠n:=by rintro rfl;exact h v Qp
   simp [this]
theorem bindL_get {kindOf:Str->Option NameKind} {x:Str} {v:Value}:∀ {P:List Str} {vs:List Value} {i:Nat} {m:Str->Option Value},P.Nodup->P[i]?=some x->vs[i]?=some v->kindOf x=some .local ->
  bindL kindOf (P.zip vs) m x=some v
 | [],_,_,_,_,h,_,_=>by simp at h
 | _::_,[],_,_,_,_,h,_=>by simp at h
 | p::P,w::vs,0,m,nd,h1,h2,hk=>by
  simp at h1 h2;subst h1;subst h2
  show bindL kindOf ((p,w)::P.zip vs) m p=_
  unfold bindL
  rw [bindL_out fun v hv=>(List.nodup_cons.mp nd).1 (List.of_mem_zip hv).1,if_pos hk]
  simp
 | p::P,w::vs,i+1,m,nd,h1,h2,hk=>by
  show bindL kindOf ((p,w)::P.zip vs) m x=_
  unfold bindL
  exact bindL_get (i:=i) (List.nodup_cons.mp nd).2 (by simpa using h1) (by simpa using h2) hk
theorem bindC_get {kindOf:Str->Option NameKind} {x:Str} {v:Value}:∀ {P:List Str} {vs:List Value} {i:Nat} {m:Str->Option Value},P.Nodup->P[i]?=some x->vs[i]?=some v->kindOf x≠some .local ->
  bindC kindOf (P.zip vs) m x=some v
 | [],_,_,_,_,h,_,_=>by simp at h
 | _::_,[],_,_,_,_,h,_=>by simp at h
 | p::P,w::vs,0,m,nd,h1,h2,hk=>by
  simp at h1 h2;subst h1;subst h2
  show bindC kindOf ((p,w)::P.zip vs) m p=_
  unfold bindC
  rw [bindC_out fun v hv=>(List.nodup_cons.mp nd).1 (List.of_mem_zip hv).1,if_neg hk]
  simp
 | p::P,w::vs,i+1,m,nd,h1,h2,hk=>by
  show bindC kindOf ((p,w)::P.zip vs) m x=_
  unfold bindC
  exact bindC_get (i:=i) (List.nodup_cons.mp nd).2 (by simpa using h1) (by simpa using h2) hk
noncomputable def start (N:List Str) (vs:List V):St:=vs.map some++List.replicate (N.length-vs.length) none
noncomputable def cxOf (CX:CXT) (P:Program) (w:World) (K:PySem.W.Frag) (mg:Str->Option Value) (base:Heap) (N:List Str) (qual:Str) (scope:Scope) (f:Addr) (cd:Value) (A:Around) (outer:List Env) (s:Shared) (H:Hp) (E:XK):Cx where
 prog:=P
 w:=w
 K:=K
 mg:=mg
 base:=base
 A:=A.deeper (envOfC qual scope s.heap.objs.size f cd)
 N:=N
 s₀:=s
 H₀:=H
 env:=envOfC qual scope s.heap.objs.size f cd
 outer:=outer
 stack:=envOfC qual scope s.heap.objs.size f cd::outer
 ex:=[]
 calm:=true
 fn:=fun _=>true
 pn:=[]
 xe:=fun e s'=>wpAny (model P w) (A.deeper (envOfC qual scope s.heap.objs.size f cd)) (leaving (envOfC qual scope s.heap.objs.size f cd) e) (fun _ s''=>CX outer H s E e s'') (fun e' s''=>CX outer H s E e' s'') s'
theorem cell_has {sc:Scope} {n:Nat} {x:Str} (h:sc.names.lookup x=some .cell):∃ c,(cellsFrom n sc.names []).lookup x=some c:=by
 have q:=PySem.W.cellsFrom_some sc.names n [] (.inl h)
 exact Option.isSome_iff_exists.mp q
theorem inv_start {CX:CXT} {P:Program} {w:World} {K:PySem.W.Frag} {mg:Str->Option Value} {base:Heap} {N ps:List Str} {qual:Str} {scope:Scope} {f:Addr} {cd:Value} {A:Around} {outer:List Env} {s s1:Shared} {H:Hp} {E:XK} {us:List Value} {vs:List V}
  (S:FnScope N ps scope) (hd:A.handled=none) (e0:Env0 P w K mg base A outer s H) (hl:vs.length=ps.length) (r:Vals vs us)
  (x:InCallC s s.heap.objs.size (bindL (envOfC qual scope s.heap.objs.size f cd).kindOf (ps.zip us) fun _=>none) (cellsFrom (s.heap.objs.size+1) scope.names []) (bindC (envOfC qual scope s.heap.objs.size f cd).kindOf (ps.zip us) fun _=>none) s1) :
  Inv (cxOf CX P w K mg base N qual scope f cd A outer s H E) [] (start N vs) H s1:=by
 have hpl:ps.length<=N.length:=by have:=congrArg List.length S.pre;rw [QE] at this;omega
 obtain ⟨h1,tk,rfl,hk⟩:=x.done
 have noA:∀ b:Addr,b∉(cxOf CX P w K mg base N qual scope f cd A outer s H E).ex:=fun b z=>absurd (show b∈([]:List Addr) from z) (by simp)
 refine ⟨⟨e0.mod,S.kind,rfl,rfl,Qh _,fun y z c h1 h2=>?_,fun y hy=>?_,fun y c _ h=>?_,fun _=>hd,Around.frames_deeper e0.frames,.inr ⟨rfl,rfl⟩,fun b z=>absurd z (noA b),e0.bs,e0.bsz,fun b _ _=>noA b,fun b z=>absurd z (noA b),e0.funs,e0.frf⟩,
  rfl,e0.bare,Un.kept hk,⟨_,x.toInCall.ns,fun i y v h1 h2 h3=>?_⟩,fun y c h=>⟨_,x.cell y c h⟩,e0.hok.fresh (Qh _),fun y c h=>?_,fun p hp=>absurd (show p∈([]:List (Addr × Obj)) from hp) (by simp),e0.hok.kept hk,?_⟩
 ·exact name_of_addr x.apart (PySem.mem_of_lookup h1) (PySem.mem_of_lookup h2)
 ·have hy:scope.names.lookup y=some .cell∨scope.names.lookup y=some .free:=hy
  rcases hy with hy | hy
  ·exact cell_has hy
  ·exact absurd rfl (S.nofree _ (PySem.mem_of_lookup hy))
 ·exact Nat.le_of_lt (x.above y c (PySem.mem_of_lookup h))
 ·have hi:i<vs.length:=by
   unfold start at h2
   by_cases hi:i<vs.length
   ·exact hi
   ·rw [Qq (by simpa using hi)] at h2
    rw [List.getElem?_replicate] at h2
    split at h2<;>cases h2
  have ha:vs[i]?=some v:=by
   unfold start at h2
   rw [Qv (by simpa using hi),Qk] at h2
   cases e:vs[i]? with
   | none=>rw [e] at h2;cases h2
   | some a=>rw [e] at h2;cases h2;rfl
  obtain ⟨u,hu,rv⟩:=r.get ha
  have hp:ps[i]?=some y:=by
   rw [<- S.pre,List.getElem?_take_of_lt (by omega)];exact h1
  have ndP:ps.Nodup:=by rw [<- S.pre];exact S.nd.sublist (List.take_sublist _ _)
  refine ⟨u,rv,?_⟩
  rcases S.par y (Qz hp) with k | k
  ·exact .inl ⟨k,bindL_get ndP hp hu k⟩
  ·obtain ⟨c,e⟩:=cell_has (n:=s.heap.objs.size+1) k
   refine .inr ⟨.inl k,c,e,?_⟩
   have q:=x.cell y c e
   rw [bindC_get ndP hp hu (by show scope.names.lookup y≠_;rw [k];decide)] at q
   exact q
 ·exact e0.hok.fresh (Nat.le_of_lt (x.above y c (PySem.mem_of_lookup h)))
 ·unfold start
  show _=N.length
  rw [Qj,Qd,List.length_replicate]
  omega
theorem fn_of {CX:CXT} {P:Program} {w:World} {K:PySem.W.Frag} {mg:Str->Option Value} {base:Heap} {k:Nat} {f:Addr} {name qual:Str} {params:Arguments} {body:List Stmt} {scope:Scope} {dV kV doc pm cdv ct oc:Value} {an od:Option Addr}
  {osl:Array (Option Value)} {N ps:List Str} {sp:Sp} (lk:K.lookup f=some ⟨oc,od,.func (PySem.W.fnOf name qual params body scope dV kV doc pm an cdv ct),osl⟩) (hcd:PySem.W.codeIn K cdv qual=true) (S:FnScope N ps scope)
  (len:∀ vs H Q E,sp vs H Q E->vs.length=ps.length)
  (hbody:∀ (A:Around) (outer:List Env) (s:Shared) (H:Hp) (vs:List V) (Q:VK) (E:XK),Room k (A.deeper (envOfC qual scope s.heap.objs.size f cdv))->sp vs H Q E ->
   ∃ t,PSs (cxOf CX P w K mg base N qual scope f cdv A outer s H E) body t/\t { nx:=fun _ H'=>Q .non H',rt:=Q } (start N vs) H) :
  FnOk P w K mg base CX (k+1) f (PySem.W.fnOf name qual params body scope dV kV doc pm an cdv ct) ps sp:=by
 refine ⟨len,fun A outer s H args us vs Q E hr e0 hb r hsp=>?_⟩
 have hl:=len _ _ _ _ hsp
 have KX:K.In s.heap:=e0.mod.kin.keeps fun b o e=>(e0.bs b o e).1
 have lim:s.heap.NoLimit:=e0.mod.nolimit.keeps fun b o e=>(e0.bs b o e).1
 have hkind:∀ y∈ps.zip us,scope.names.lookup y.1=some .local∨(scope.names.lookup y.1=some .cell/\((cellsFrom (s.heap.objs.size+1) scope.names []).lookup y.1).isSome=true):=fun ⟨n,v⟩ hy=>by
  rcases S.par n (List.of_mem_zip hy).1 with q | q
  ·exact .inl q
  ·exact .inr ⟨q,PySem.W.cellsFrom_some _ _ _ (.inl q)⟩
 refine codeAny_call_function hr.depth (KX _ _ lk) rfl S.co S.gen rfl (PySem.W.codeRec_of KX hcd) (hb _ _ _ _ ?_)
 refine wpAny_newFunctionEnv_cells S.kind hkind fun env he s1 x=>?_
 subst he
 refine ⟨lim.keeps x.toInCall.keep,codeAny_func ?_⟩
 obtain ⟨t,ht,hq⟩:=hbody A outer s H vs Q E (hr.deeper _) hsp
 have I:Inv (cxOf CX P w K mg base N qual scope f cdv A outer s H E) [] (start N vs) H s1:=inv_start S hr.hd e0 hl r x
 refine QC (ht [] s1 (start N vs) H _ I hq) (fun fl s' hs=>?_) fun e s' hs=>hs
 have fin:∀ {σ':St} {H':Hp} {v:V} {u:Value},Inv (cxOf CX P w K mg base N qual scope f cdv A outer s H E) [] σ' H' s'->RelV v u->Q v H'->CE outer P w H s Q u s' :=
  fun {σ' H' v u} J rv q=>⟨v,H',J.os,J.bare,J.base,J.hok,rv,q⟩
 cases fl with
 | ret u =>
  obtain ⟨v,σ',H',J,rv,q⟩:=hs
  exact fin J rv q
 | next =>
  obtain ⟨σ',H',J,q⟩:=hs
  exact fin (v:=V.non) (u:=Value.none) J rfl q
 | brk =>
  obtain ⟨_,_,_,q⟩:=hs
  exact False.elim q
 | cont =>
  obtain ⟨_,_,_,q⟩:=hs
  exact False.elim q
end L2
namespace L2
open PySem PySem.Spec PyProof.Rows
section
variable {X:Cx} {x:Str} {p pos:Pos} {e:Expr} {es:List Expr} {t:TA} {id T:String} {r:List V->Hp->VK->Prop}
noncomputable def tCB (r:List V->Hp->VK->Prop) (t:TA):TE:=fun σ H Q=>t σ H fun vs H1=>r vs H1 Q
theorem pe_callB (hc:CallR X (.builtin id) r) (hg:Gl X x) (hm:X.mg x=none) (hv:bootBuiltins x=some (.builtin id)) (ha:PA X (e::es) t) (hn:x≠"__name__":=by decide) (hdb:(x == ("__debug__":Str))=false:=by decide)
  (he:starEach (e::es) X.env=(false,eval e X.env)::starEach es X.env:=by rfl) (hpl:(backTo pos (starEach es X.env)).any (·.1)=false:=by rfl):PE X (.Call (.Name x p) (e::es) [] pos) (tCB r t):=by
 intro pins s σ H Q I h
 refine wpAny_Call_Name_kw (ld_blt I hg hm hv ?_ hn hdb)
 exact PyProof.Rows.callWith_builtin1 (thn (ha pos pins s σ H _ I h) fun us s1 hsl36=>by obtain ⟨vs,H1,I1,r1,q1⟩:=hsl36;exact hc pins s1 σ H1 vs us Q I1 r1 q1) he hpl
theorem pe_callTy (hc:CallR X (.type T) r) (hg:Gl X x) (hm:X.mg x=none) (hv:bootBuiltins x=some (.type T)) (ha:PA X (e::es) t) (hn:x≠"__name__":=by decide) (hdb:(x == ("__debug__":Str))=false:=by decide)
  (he:starEach (e::es) X.env=(false,eval e X.env)::starEach es X.env:=by rfl) (hpl:(backTo pos (starEach es X.env)).any (·.1)=false:=by rfl):PE X (.Call (.Name x p) (e::es) [] pos) (tCB r t):=by
 intro pins s σ H Q I h
 refine wpAny_Call_Name_kw (ld_blt I hg hm hv ?_ hn hdb)
 exact PyProof.Rows.callWith_type1 (thn (ha pos pins s σ H _ I h) fun us s1 hsl37=>by obtain ⟨vs,H1,I1,r1,q1⟩:=hsl37;exact hc pins s1 σ H1 vs us Q I1 r1 q1) he hpl
end
end L2
namespace HT
open PySem PyProof.Rows
section
open PySem.SeqAt
open PySem.AutoSeq1 (wpAny_loadPart')
open PySem.MeetsSeq PySem.MeetsSeq2 PySem.MeetsSeq3
end
section
variable {prog:Program} {w:World} {A:Around} {E:Value->Shared->Prop} {s:Shared}
noncomputable def sIx (n d:Nat):Option Int->Nat
 | none=>d
 | some v=>if v<0 then (v+(n:Int)).toNat else min v.toNat n
theorem sIx_none (n d:Nat):sIx n d none=d:=rfl
theorem sIx_nat (n d k:Nat):sIx n d (some (k:Int))=min k n:=by
 show (if (k:Int)<0 then ((k:Int)+(n:Int)).toNat else min (k:Int).toNat n)=min k n
 rw [if_neg (by omega),Int.toNat_natCast]
theorem sIx_le (n d:Nat) (hd:d<=n) (o:Option Int):sIx n d o<=n:=by
 cases o with
 | none=>exact hd
 | some v =>
  show (if v<0 then (v+(n:Int)).toNat else min v.toNat n)<=n
  by_cases hv:v<0
  ·rw [if_pos hv];omega
  ·rw [if_neg hv];exact Nat.min_le_right _ _
end
end HT
namespace L2
open PySem PySem.Spec PyProof.Rows
noncomputable abbrev TO:=St->Hp->(Option Int->Hp->Prop)->Prop
noncomputable def PO (X:Cx) (e:Option Expr) (t:TO):Prop :=
 ∀ (pins:List (Addr × Obj)) (s:Shared) (σ:St) (H:Hp) (Q:Option Int->Hp->Prop),Inv X pins σ H s->t σ H Q ->
  wpAny (model X.prog X.w) X.A (evalPart e X.env) (fun u s'=>∃ o H',Inv X pins σ H' s'/\IsPart u o/\Q o H') X.xe s
noncomputable def tNoPart:TO:=fun _ H Q=>Q none H
noncomputable def tPart (t:TE):TO:=fun σ H Q=>t σ H fun x H1=>∃ i,x=.int i/\Q (some i) H1
section
variable {X:Cx} {e:Expr} {te:TE} {lo hi:Option Expr} {tl th:TO} {pos p2:Pos}
theorem po_none:PO X none tNoPart:=by
 intro pins s σ H Q I h
 rw [evalPart_none]
 exact Qg ⟨none,H,I,.none,h⟩
theorem po_some (h:PE X e te):PO X (some e) (tPart te):=by
 intro pins s σ H Q I hw
 rw [evalPart_some]
 refine thn (h pins s σ H _ I hw) fun u s1 hsl38=>?_
 obtain ⟨x,H1,I1,r1,q1⟩:=hsl38
 obtain ⟨i,rfl,q⟩:=q1
 obtain ⟨t,rfl⟩:=r1
 exact ⟨some i,H1,I1,.int i t,q⟩
noncomputable def SlR (X:Cx) (r:V->Option Int->Option Int->Hp->VK->Prop):Prop :=
 ∀ (pins:List (Addr × Obj)) (s:Shared) (σ:St) (H:Hp) (x:V) (v vl vu:Value) (lo hi:Option Int) (sl:Addr) (Q:VK),Inv X pins σ H s->RelV x v->s.heap.IsSliceOf sl vl vu .none->IsPart vl lo->IsPart vu hi->r x lo hi H Q ->
  ∃ T id,typeLookup (.type T) "__getitem__"=pure (some (.builtin id))/\s.TypeIs v T/\wpAny (model X.prog X.w) X.A (getItem v (.ref sl)) (EP X pins σ Q) X.xe s
noncomputable def tSl (r:V->Option Int->Option Int->Hp->VK->Prop) (te:TE) (tl th:TO):TE:=fun σ H Q=>te σ H fun x H1=>tl σ H1 fun l H2=>th σ H2 fun u H3=>r x l u H3 Q
theorem pe_slice {r:V->Option Int->Option Int->Hp->VK->Prop} (hr:SlR X r) (he:PE X e te) (hl:PO X lo tl) (hu:PO X hi th):PE X (.Subscript e (.Slice lo hi none p2) pos) (tSl r te tl th):=by
 intro pins s σ H Q I h
 refine Subscript_ (thn (he pins s σ H _ I h) fun v s1 hsl39=>?_)
 obtain ⟨x,H1,I1,r1,q1⟩:=hsl39
 refine wpAny_Slice (thn (hl pins s1 σ H1 _ I1 q1) fun vl s2 ⟨l,H2,I2,pl,q2⟩=>thn (hu pins s2 σ H2 _ I2 q2) fun vu s3 hsl40=>?_)
 obtain ⟨u,H3,I3,pu,q3⟩:=hsl40
 rw [evalPart_none]
 refine Qg ?_
 have I4:Inv X pins σ H3 { s3 with heap:=s3.heap.push { cls:=.type "slice",data:=.fields #[vl,vu,.none] } }:=I3.kept (t':=s3.toks) fun b ob q=>Qf _ q
 obtain ⟨T,id,hT,ht,hg⟩:=hr pins { s3 with heap:=s3.heap.push { cls:=.type "slice",data:=.fields #[vl,vu,.none] } } σ H3 x v vl vu l u s3.heap.objs.size Q I4 r1 (Heap.IsSliceOf.new ..) pl pu q3
 show wpAny (model X.prog X.w) X.A (subscriptTail e (.Slice lo hi none p2) v (.ref s3.heap.objs.size)) (EP X pins σ Q) X.xe { s3 with heap:=s3.heap.push { cls:=.type "slice",data:=.fields #[vl,vu,.none] } }
 exact tail_any (ops:=[.ref s3.heap.objs.size,v]) ht hT hg (by with_unfolding_all rfl)
noncomputable def cutV (xs:List V) (lo hi:Option Int):List V:=(xs.drop (HT.sIx xs.length 0 lo)).take (HT.sIx xs.length xs.length hi-HT.sIx xs.length 0 lo)
theorem cutV_length (xs:List V) (lo hi:Option Int):(cutV xs lo hi).length<=xs.length:=by
 unfold cutV
 rw [QE,List.length_drop]
 omega
end
end L2
namespace L2
open PySem PySem.Spec PyProof.Rows
noncomputable def ixN (n:Nat) (i:Int):Option Nat:=if 0<=i then (if i<n then some i.toNat else none) else if -(n:Int)<=i then some (i+n).toNat else none
noncomputable def atI {α:Type} (xs:List α) (i:Int):Option α:=(ixN xs.length i).bind fun j=>xs[j]?
theorem ixN_seq {n:Nat} {i:Int} {j:Nat} (h:ixN n i=some j):seqIndex? i n=some j/\j<n/\-(n:Int)<=i/\i<n:=by
 unfold ixN at h
 by_cases h0:0<=i
 ·rw [if_pos h0] at h
  by_cases h1:i<n
  ·rw [if_pos h1] at h
   have e:i.toNat=j:=Ql h
   exact ⟨by rw [seqIndex_of h0 h1,e],by omega,by omega,h1⟩
  ·rw [if_neg h1] at h;cases h
 ·rw [if_neg h0] at h
  by_cases h1:-(n:Int)<=i
  ·rw [if_pos h1] at h
   have e:(i+n).toNat=j:=Ql h
   exact ⟨by rw [seqIndex_neg (by omega) h1,e],by omega,h1,by omega⟩
  ·rw [if_neg h1] at h;cases h
theorem atI_get {α:Type} {xs:List α} {i:Int} {v:α} (h:atI xs i=some v):∃ j,seqIndex? i xs.length=some j/\xs[j]?=some v/\j<xs.length/\-(xs.length:Int)<=i/\i<xs.length:=by
 unfold atI at h
 cases e:ixN xs.length i with
 | none=>rw [e] at h;cases h
 | some j =>
  rw [e] at h
  obtain ⟨h1,h2,h3,h4⟩:=ixN_seq e
  exact ⟨j,h1,h,h2,h3,h4⟩
theorem atI_nat {α:Type} {xs:List α} {j:Nat} {v:α} (h:xs[j]?=some v):atI xs (j:Int)=some v:=by
 have hj:j<xs.length:=(Qc h).1
 have e:ixN xs.length (j:Int)=some j:=by
  unfold ixN
  rw [if_pos (by omega),if_pos (by omega)];simp
 unfold atI;rw [e];exact h
theorem atI_last {α:Type} (xs:List α) (v:α):atI (xs++[v]) (-1)=some v:=by
 have hl:(xs++[v]).length=xs.length+1:=by simp
 have e:ixN (xs++[v]).length (-1)=some xs.length:=by
  unfold ixN
  rw [hl,if_neg (by decide),if_pos (by omega)]
  congr 1
  omega
 unfold atI
 rw [e]
 show (xs++[v])[xs.length]?=some v
 simp
noncomputable def PlainIx (b:Expr):Prop:=∀ o i,subscripted b false o i=operate [o,i] (getItem o i)
noncomputable def IxR (X:Cx) (r:R2):Prop :=
 ∀ (value slice:Expr) (pins:List (Addr × Obj)) (s:Shared) (σ:St) (H:Hp) (x y:V) (v u:Value) (Q:VK),Inv X pins σ H s->RelV x v->RelV y u->r x y H Q ->
  subscripted slice false v u=operate [v,u] (getItem v u)->wpAny (model X.prog X.w) X.A (subscriptTail value slice v u) (EP X pins σ Q) X.xe s
noncomputable def MtR (X:Cx) (id:String) (r:V->List V->Hp->VK->Prop):Prop :=
 ∀ (pins:List (Addr × Obj)) (s:Shared) (σ:St) (H:Hp) (x:V) (xs:List V) (v:Value) (us:List Value) (Q:VK),Inv X pins σ H s->RelV x v->Vals xs us->r x xs H Q ->
  wpAny (model X.prog X.w) X.A (call (.builtin id) (v::us)) (EP X pins σ Q) X.xe s
section
variable {X:Cx} {a b:Expr} {ta tb:TE} {pos:Pos}
theorem pe_ix {r:R2} (hr:IxR X r) (ha:PE X a ta) (hb:PE X b tb) (hs:PlainIx b):PE X (.Subscript a b pos) (tOp r ta tb):=by
 intro pins s σ H Q I h
 exact Subscript_ (binT ha hb I h fun v u s2 x y H2 I2 rx ry q=>hr a b pins s2 σ H2 x y v u Q I2 rx ry q (hs _ _))
noncomputable def rIxL (K:PySem.W.Frag):R2:=fun x y H Q=>∃ p xs i v,x=.ref p/\y=.int i/\SqL K H p xs/\atI xs i=some v/\Q v H
noncomputable def rIxT (K:PySem.W.Frag):R2:=fun x y H Q=>∃ p xs i v,x=.ref p/\y=.int i/\SqT K H p xs/\atI xs i=some v/\Q v H
noncomputable def rIxS:R2:=fun x y H Q=>∃ z i c,x=.str z/\y=.int i/\z.length<=sizeLine/\atI z.cps.toList i=some c/\Q (.str ⟨#[c]⟩) H
theorem ix_list:IxR X (rIxL X.K):=by
 intro value slice pins s σ H x y v u Q I rx ry h hs
 obtain ⟨p,xs,i,z,rfl,rfl,hq,he,q⟩:=h
 cases rx
 obtain ⟨t,rfl⟩:=ry
 obtain ⟨its,r,pl,hz⟩:=I.list hq
 obtain ⟨j,h1,h2,h3,h4,h5⟩:=atI_get he
 obtain ⟨w,ew,rw'⟩:=r.get h2
 have hl:=r.length
 have hn:=line63
 have fin:EP X pins σ Q w s:=⟨z,H,I,rw',q⟩
 by_cases h0:0<=i
 ·have hj:i.toNat=j:=by
   rw [seqIndex_of h0 h5] at h1
   exact Ql h1
  exact item_listR pl.isList h0 (by omega) (by rw [hj];simpa using ew) fin hs
 ·have hj:(i+(its.toArray.size:Int)).toNat=j:=by
   rw [seqIndex_neg (by omega) h4] at h1
   rw [Qt,<- hl]
   exact Ql h1
  exact subscriptTail_builtinR (x:=w) pl.isList.typeIs slot_list_getitem.lookup
   (wpAny_getItem_list_neg (Q:=fun r s'=>r=w/\EP X pins σ Q r s') pl.isList (by omega) (by rw [Qt]<;>omega) (by omega) (by rw [hj];simpa using ew) ⟨rfl,fin⟩) hs
theorem ix_tup:IxR X (rIxT X.K):=by
 intro value slice pins s σ H x y v u Q I rx ry h hs
 obtain ⟨p,xs,i,z,rfl,rfl,hq,he,q⟩:=h
 cases rx
 obtain ⟨t,rfl⟩:=ry
 obtain ⟨its,r,pl,hz⟩:=I.tuple hq
 obtain ⟨j,h1,h2,h3,h4,h5⟩:=atI_get he
 obtain ⟨w,ew,rw'⟩:=r.get h2
 have hl:=r.length
 have hn:=line63
 have fin:EP X pins σ Q w s:=⟨z,H,I,rw',q⟩
 exact subscriptTail_builtinR (x:=w) pl.typeIs slot_tuple_getitem.lookup
  (getItem_tuple (j:=j) (Q:=fun r s'=>r=w/\EP X pins σ Q r s') pl (by omega) (by omega) (by rw [Qt,<- hl];exact h1) (by simpa using ew) ⟨rfl,fin⟩) hs
theorem ix_str:IxR X rIxS:=by
 intro value slice pins s σ H x y v u Q I rx ry h hs
 obtain ⟨z,i,c,rfl,rfl,hz,he,q⟩:=h
 obtain ⟨t,rfl⟩:=rx
 obtain ⟨t',rfl⟩:=ry
 obtain ⟨j,h1,h2,h3,h4,h5⟩:=atI_get he
 have hl:z.cps.toList.length=z.length:=by simp [Str.length]
 rw [hl] at h1 h4 h5
 have hn:=line63
 exact tail_any (typeIs_str s z t) slot_str_getitem.lookup (getItem_str (c:=c) (by
  have e1:decide (i < -(2 ^ 63:Int))=false:=Qe (by omega)
  have e2:decide (i ≥ 2 ^ 63)=false:=Qe (by omega)
  rw [e1,e2,Bool.or_false]) (by rw [h1];simpa using h2) ⟨.str ⟨#[c]⟩,H,I.tok _,⟨_,rfl⟩,q⟩) hs
theorem slice_bounds (lo hi:Option Int) (n:Nat):(sliceBounds lo hi none n).1=((HT.sIx n 0 lo:Nat):Int)/\(sliceBounds lo hi none n).2.1=((HT.sIx n n hi:Nat):Int)/\(sliceBounds lo hi none n).2.2=1:=by
 refine ⟨?_,?_,rfl⟩
 ·cases lo with
  | none=>simp [sliceBounds,HT.sIx]
  | some i =>
   simp only [sliceBounds,HT.sIx,Option.getD_none,show (1:Int)>0 by decide,if_true]
   by_cases h:i<0
   ·simp only [h,if_true]<;>omega
   ·simp only [h,if_false]<;>omega
 ·cases hi with
  | none=>simp [sliceBounds,HT.sIx]
  | some i =>
   simp only [sliceBounds,HT.sIx,Option.getD_none,show (1:Int)>0 by decide,if_true]
   by_cases h:i<0
   ·simp only [h,if_true]<;>omega
   ·simp only [h,if_false]<;>omega
theorem slicePick_cut (its:List Value) (lo hi:Option Int):slicePick its.toArray lo hi none=((its.drop (HT.sIx its.length 0 lo)).take (HT.sIx its.length its.length hi-HT.sIx its.length 0 lo)).toArray:=by
 obtain ⟨h1,h2,h3⟩:=slice_bounds lo hi its.toArray.size
 unfold slicePick
 rw [h1,h2,h3]
 simp only [sliceRange_one,pick_run,Qt]<;>rfl
noncomputable def rSlL (K:PySem.W.Frag):V->Option Int->Option Int->Hp->VK->Prop:=fun x lo hi H Q=>∃ a xs,x=.ref a/\SqL K H a xs/\∀ p,H p=none->Q (.ref p) (upd H p (.lst (cutV xs lo hi)))
theorem sl_list:SlR X (rSlL X.K):=by
 intro pins s σ H x v vl vu lo hi sl Q I rx hs pl pu h
 obtain ⟨a,xs,rfl,hx,q⟩:=h
 cases rx
 obtain ⟨its,r,ht,hz⟩:=I.list hx
 have hlen:=r.length
 refine ⟨"list",_,slot_list_getitem.lookup,ht.isList.typeIs,?_⟩
 refine wpAny_getItem_list_slice ht.isList hs pl pu .none (by simp) ?_ (by rw [Qt]<;>omega)
 rw [slicePick_cut,<- hlen]
 refine ⟨.ref s.heap.objs.size,_,I.laid (t':=s.toks) (o:=.lst (cutV xs lo hi)) (fun b ob q=>Qf _ q) (Qh _) ?_,rfl,q _ (I.hok.fresh (Qh _))⟩
 exact ⟨QA (cutV_length xs lo hi) hz,_,0,(r.drop (HT.sIx xs.length 0 lo)).take (HT.sIx xs.length xs.length hi-HT.sIx xs.length 0 lo),Qs _ rfl⟩
noncomputable def flatV:V->Bool
 | .non=>true
 | .bl _=>true
 | .int _=>true
 | .str _=>true
 | _=>false
noncomputable def eqV:V->V->Bool
 | .non,.non=>true
 | .bl a,.bl b=>a == b
 | .bl a,.int b=>(if a then 1 else 0) == b
 | .int a,.bl b=>a == (if b then 1 else 0)
 | .int a,.int b=>a == b
 | .str a,.str b=>a == b
 | _,_=>false
theorem eqAt_V {A:Around} {s:Shared} {y x:V} {u v:Value} (ry:RelV y u) (rx:RelV x v) (fy:flatV y=true) (fx:flatV x=true):SeqAt.EqAt A s u v (eqV y x):=by
 cases y with
 | non =>
  cases ry
  cases x with
  | non=>cases rx;exact SeqAt.EqAt.same _
  | bl b=>cases rx;exact SeqAt.EqAt.none_bool b
  | int b=>obtain ⟨t,rfl⟩:=rx;exact SeqAt.EqAt.none_int b t
  | str b=>obtain ⟨t,rfl⟩:=rx;exact SeqAt.EqAt.none_str b t
  | _=>exact absurd (show false=true from fx) Bool.false_ne_true
 | bl a =>
  cases ry
  cases x with
  | non=>cases rx;exact SeqAt.EqAt.bool_none a
  | bl b=>cases rx;exact SeqAt.EqAt.bool_bool a b
  | int b=>obtain ⟨t,rfl⟩:=rx;exact SeqAt.EqAt.bool_int a b t
  | str b=>obtain ⟨t,rfl⟩:=rx;exact SeqAt.EqAt.bool_str a b t
  | _=>exact absurd (show false=true from fx) Bool.false_ne_true
 | int a =>
  obtain ⟨t',rfl⟩:=ry
  cases x with
  | non=>cases rx;exact SeqAt.EqAt.int_none a t'
  | bl b=>cases rx;exact SeqAt.EqAt.int_bool a t' b
  | int b=>obtain ⟨t,rfl⟩:=rx;exact SeqAt.EqAt.int_int a t' b t
  | str b=>obtain ⟨t,rfl⟩:=rx;exact SeqAt.EqAt.int_str a t' b t
  | _=>exact absurd (show false=true from fx) Bool.false_ne_true
 | str a =>
  obtain ⟨t',rfl⟩:=ry
  cases x with
  | non=>cases rx;exact SeqAt.EqAt.str_none a t'
  | bl b=>cases rx;exact SeqAt.EqAt.str_bool a t' b
  | int b=>obtain ⟨t,rfl⟩:=rx;exact SeqAt.EqAt.str_int a t' b t
  | str b=>obtain ⟨t,rfl⟩:=rx;exact SeqAt.EqAt.str_str a t' b t
  | _=>exact absurd (show false=true from fx) Bool.false_ne_true
 | _=>exact absurd (show false=true from fy) Bool.false_ne_true
noncomputable def eqU (x:V) (u:Value):Bool:=match u with
 | .none=>eqV .non x
 | .bool b=>eqV (.bl b) x
 | .int i _=>eqV (.int i) x
 | .str z _=>eqV (.str z) x
 | _=>false
theorem eqU_of {x y:V} {u:Value} (r:RelV y u) (f:flatV y=true):eqU x u=eqV y x:=by
 cases y with
 | non=>cases r;rfl
 | bl b=>cases r;rfl
 | int i=>obtain ⟨t,rfl⟩:=r;rfl
 | str z=>obtain ⟨t,rfl⟩:=r;rfl
 | _=>exact absurd (show false=true from f) Bool.false_ne_true
theorem any_eqU {x:V}:∀ {xs:List V} {us:List Value},Vals xs us->xs.all flatV=true->us.any (eqU x)=xs.any fun y=>eqV y x
 | _,_,.nil,_=>rfl
 | y::xs,u::us,.cons r t,f=>by
  rw [List.all_cons,Bool.and_eq_true] at f
  rw [List.any_cons,List.any_cons,eqU_of r f.1,any_eqU t f.2]
theorem mem_eqAt {A:Around} {s:Shared} {x:V} {v:Value} (rx:RelV x v) (fx:flatV x=true):∀ {xs:List V} {us:List Value},Vals xs us->xs.all flatV=true->∀ u∈us,SeqAt.EqAt A s u v (eqU x u)
 | _,_,.nil,_=>fun u hu=>by cases hu
 | y::xs,u::us,.cons r t,f=>fun u' hu=>by
  rw [List.all_cons,Bool.and_eq_true] at f
  rcases Qi hu with rfl | hu
  ·rw [eqU_of r f.1];exact eqAt_V r rx f.1 fx
  ·exact mem_eqAt rx fx t f.2 u' hu
noncomputable def inV (x:V) (xs:List V):Bool:=xs.any fun y=>eqV y x
noncomputable def rIn (K:PySem.W.Frag) (neg:Bool):R2:=fun x y H Q=>∃ p xs,y=.ref p/\(SqL K H p xs∨SqT K H p xs)/\flatV x=true/\xs.all flatV=true/\Q (.bl (if neg then !inV x xs else inV x xs)) H
theorem op_in_seq:OpR X (compareOp .In) (rIn X.K false):=by
 intro pins s σ H x y v u Q I rx ry h
 obtain ⟨p,xs,rfl,hq,fx,fs,q⟩:=h
 cases ry
 rcases hq with hq | hq
 ·obtain ⟨its,r,pl,hz⟩:=I.list hq
  refine SeqAt.in_listAt (eqU x) pl.isList (fun w hw=>mem_eqAt rx fx r fs w (by simpa using hw)) ⟨.bl _,H,I,rfl,?_⟩
  rw [show its.toArray.any (eqU x)=its.any (eqU x) by simp,any_eqU r fs]
  exact q
 ·obtain ⟨its,r,pl,hz⟩:=I.tuple hq
  refine SeqAt.in_tupleAt (eqU x) pl (fun w hw=>mem_eqAt rx fx r fs w (by simpa using hw)) ⟨.bl _,H,I,rfl,?_⟩
  rw [show its.toArray.any (eqU x)=its.any (eqU x) by simp,any_eqU r fs]
  exact q
theorem op_notIn_seq:OpR X (compareOp .NotIn) (rIn X.K true):=by
 intro pins s σ H x y v u Q I rx ry h
 obtain ⟨p,xs,rfl,hq,fx,fs,q⟩:=h
 cases ry
 rcases hq with hq | hq
 ·obtain ⟨its,r,pl,hz⟩:=I.list hq
  refine SeqAt.notIn_listAt (eqU x) pl.isList (fun w hw=>mem_eqAt rx fx r fs w (by simpa using hw)) ⟨.bl _,H,I,rfl,?_⟩
  rw [show its.toArray.any (eqU x)=its.any (eqU x) by simp,any_eqU r fs]
  exact q
 ·obtain ⟨its,r,pl,hz⟩:=I.tuple hq
  refine SeqAt.notIn_tupleAt (eqU x) pl (fun w hw=>mem_eqAt rx fx r fs w (by simpa using hw)) ⟨.bl _,H,I,rfl,?_⟩
  rw [show its.toArray.any (eqU x)=its.any (eqU x) by simp,any_eqU r fs]
  exact q
theorem op_notIn_str:OpR X (compareOp .NotIn) (fun x y H Q=>∃ i j,x=.str i/\y=.str j/\Q (.bl (!(!(Builtin.Str.occurrences j i 0 j.length 1).isEmpty))) H):=by
 intro pins s σ H x y v u Q I rx ry h
 obtain ⟨i,j,rfl,rfl,q⟩:=h
 obtain ⟨t,rfl⟩:=rx
 obtain ⟨t',rfl⟩:=ry
 exact notIn_str ⟨.bl _,H,I,rfl,q⟩
theorem call_len_seq:CallR X (.builtin "len") (fun xs H Q=>∃ p ys,xs=[.ref p]/\(SqL X.K H p ys∨SqT X.K H p ys)/\Q (.int ys.length) H):=by
 intro pins s σ H xs us Q I r h
 obtain ⟨p,ys,rfl,hq,q⟩:=h
 obtain ⟨u,rfl,rx⟩:=vals1 r
 cases rx
 have hn:=line63
 rcases hq with hq | hq
 ·obtain ⟨its,r',pl,hz⟩:=I.list hq
  have hlen:=r'.length
  exact Calls.call_len_list pl.isList (by simp only [Qt]<;>omega) ⟨.int ys.length,H,I.tok _,⟨s.toks+1,by rw [Qt,hlen]⟩,q⟩
 ·obtain ⟨its,r',pl,hz⟩:=I.tuple hq
  have hlen:=r'.length
  exact len_tuple pl (by simp only [Qt]<;>omega) ⟨.int ys.length,H,I.tok _,⟨s.toks+1,by rw [Qt,hlen]⟩,q⟩
theorem call_len_str:CallR X (.builtin "len") (fun xs H Q=>∃ z,xs=[.str z]/\z.length<=sizeLine/\Q (.int z.length) H):=by
 intro pins s σ H xs us Q I r h
 obtain ⟨z,rfl,hz,q⟩:=h
 obtain ⟨u,rfl,t,rfl⟩:=vals1 r
 have hn:=line63
 exact len_str (by omega) ⟨.int z.length,H,I.tok _,⟨_,rfl⟩,q⟩
theorem call_tuple_of:CallR X (.type "tuple") (fun xs H Q=>∃ p ys,xs=[.ref p]/\((SqL X.K H p ys/\∀ l,H l=none->Q (.ref l) (upd H l (.tup ys)))∨(SqT X.K H p ys/\Q (.ref p) H))):=by
 intro pins s σ H xs us Q I r h
 obtain ⟨p,ys,rfl,h⟩:=h
 obtain ⟨u,rfl,rx⟩:=vals1 r
 cases rx
 rcases h with ⟨hq,q⟩ | ⟨hq,q⟩
 ·obtain ⟨its,r',pl,hz⟩:=I.list hq
  have hlen:=r'.length
  refine call_tuple_list pl.isList (fun h' kp=>?_) (by simp only [Qt]<;>omega)
  have I1:Inv X pins σ H { s with heap:=h' }:=I.kept (t':=s.toks) kp
  have I2:Inv X pins σ (upd H h'.objs.size (.tup ys)) { s with heap:=h'.push { cls:=.type "tuple",data:=.seq its.toArray } } :=
   I1.laid (t':=s.toks) (fun b o e=>Qf _ e) (Qh _) (show ObjOk X.prog X.w _ _ _ (.tup ys) from ⟨hz,its,r',IsTup.new _ _⟩)
  exact ⟨.ref h'.objs.size,_,I2,rfl,q _ (I1.hok.fresh (Qh _))⟩
 ·obtain ⟨its,r',pl,hz⟩:=I.tuple hq
  exact call_tuple_same pl ⟨.ref p,H,I,rfl,q⟩
noncomputable def tyV (K:PySem.W.Frag) (T:String) (x:V) (H:Hp):Prop:=match x with
 | .str _=>T="str"
 | .int _=>T="int"
 | .ref p=>(T="list"/\∃ xs,SqL K H p xs)∨(T="tuple"/\∃ o,K.lookup p=some o/\o.cls=.type "tuple"/\o.dict=none) ∨
   (T="dict"/\((∃ kvs,H p=some (.dK kvs))∨∃ kvs,H p=some (.dT kvs)))∨(T="set"/\∃ S n,H p=some (.set S n))
 | _=>False
theorem tyV_is {pins:List (Addr × Obj)} {σ:St} {H:Hp} {s:Shared} {T:String} {x:V} {v:Value} (I:Inv X pins σ H s) (r:RelV x v) (ty:tyV X.K T x H) :
  s.TypeIs v T/\∀ a,v=.ref a->∃ ob,s.heap.get? a=some ob/\ob.dict=none:=by
 cases x with
 | str z =>
  obtain ⟨t,rfl⟩:=r
  cases (show T="str" from ty)
  exact ⟨typeIs_str s z t,fun _ e=>nomatch e⟩
 | int i =>
  obtain ⟨t,rfl⟩:=r
  cases (show T="int" from ty)
  exact ⟨typeIs_int s i t,fun _ e=>nomatch e⟩
 | ref p =>
  cases r
  rcases ty with ⟨rfl,xs,hq⟩ | ⟨rfl,o,hk,hc,hd⟩ | ⟨rfl,hk⟩ | ⟨rfl,S,n,hk⟩
  ·obtain ⟨its,_,pl,_⟩:=I.list hq
   refine ⟨pl.isList.typeIs,fun a e=>?_⟩
   cases e
   obtain ⟨o,n,e,c,hd,_⟩:=pl
   exact ⟨o,e,hd⟩
  ·refine ⟨⟨o,I.kIn p o hk,hc⟩,fun a e=>?_⟩
   cases e
   exact ⟨o,I.kIn _ o hk,hd⟩
  ·have z:∃ o,s.heap.get? p=some o/\o.ExactDict:=by
    rcases hk with ⟨kvs,hk⟩ | ⟨kvs,hk⟩
    ·obtain ⟨_,_,_,_,o,_,_,e,ex,_⟩:=I.hok p _ hk
     exact ⟨o,e,ex⟩
    ·obtain ⟨_,_,_,_,o,_,_,e,ex,_⟩:=I.hok p _ hk
     exact ⟨o,e,ex⟩
   obtain ⟨o,e,ex⟩:=z
   refine ⟨⟨o,e,ex.1⟩,fun a e2=>?_⟩
   cases e2
   exact ⟨o,e,ex.2.1⟩
  ·obtain ⟨o,_,_,_,e,ex,_⟩:=I.hok p _ hk
   refine ⟨⟨o,e,ex.1⟩,fun a e2=>?_⟩
   cases e2
   exact ⟨o,e,ex.2.1⟩
 | _=>exact False.elim ty
noncomputable def tBM0 (K:PySem.W.Frag) (T:String) (r:V->List V->Hp->VK->Prop) (to:TE):TE:=fun σ H Q=>to σ H fun x H1=>tyV K T x H1/\r x [] H1 Q
noncomputable def tBM (K:PySem.W.Frag) (T:String) (r:V->List V->Hp->VK->Prop) (to:TE) (t:TA):TE:=fun σ H Q=>to σ H fun x H1=>tyV K T x H1/\t σ H1 fun xs H2=>r x xs H2 Q
variable {o e:Expr} {es:List Expr} {to:TE} {t:TA} {name:Str} {apos cpos:Pos} {T id:String} {r:V->List V->Hp->VK->Prop}
theorem pe_bm0 (pa:PlainAttrs T) (slot:Slot T name id) (hty:typeOf (.builtin id)=pure (.type "method_descriptor")) (hm:MtR X id r) (ho:PE X o to)
  (hbase:attributeBase o name X.env (eval o X.env)=eval o X.env:=by rfl) (hline:(apos.endLine == cpos.line)=true:=by rfl):PE X (.Call (.Attribute o name apos) [] [] cpos) (tBM0 X.K T r to):=by
 intro pins s σ H Q I h
 refine wpAny_Call_method0_late hbase hline (thn (ho pins s σ H _ I h) fun v s1 hsl41=>?_)
 obtain ⟨x,H1,I1,r1,ty,q1⟩:=hsl41
 obtain ⟨h1,h2⟩:=tyV_is I1 r1 ty
 exact ⟨T,id,pa,slot,hty,h1,h2,Calls.callWith_builtin rfl (PySem.evalArgs_none (hm pins s1 σ H1 x [] v [] Q I1 r1 .nil q1))⟩
theorem pe_bm (pa:PlainAttrs T) (slot:Slot T name id) (hty:typeOf (.builtin id)=pure (.type "method_descriptor")) (hm:MtR X id r) (ho:PE X o to) (ha:PA X (e::es) t)
  (hbase:attributeBase o name X.env (eval o X.env)=eval o X.env:=by rfl)
  (hfew:((backTo cpos (starEach (e::es) X.env)).all (fun x=>!x.1)&&(backToKw cpos (keywordEach [] X.env)).all (fun x=>x.1.isSome)
   && decide ((e::es).length+([]:List Keyword).length+(if ([]:List Keyword).isEmpty then 0 else 1)<30))=true:=by rfl)
  (hline:(apos.endLine == cpos.line)=true:=by rfl) (hs:starEach (e::es) X.env=(false,eval e X.env)::starEach es X.env:=by rfl) (hplain:(backTo cpos (starEach es X.env)).any (·.1)=false:=by rfl) :
  PE X (.Call (.Attribute o name apos) (e::es) [] cpos) (tBM X.K T r to t):=by
 intro pins s σ H Q I h
 refine wpAny_Call_method_late hbase hfew hline rfl (thn (ho pins s σ H _ I h) fun v s1 hsl42=>?_)
 obtain ⟨x,H1,I1,r1,ty,q1⟩:=hsl42
 obtain ⟨h1,h2⟩:=tyV_is I1 r1 ty
 refine ⟨T,id,pa,slot,hty,h1,h2,?_⟩
 have hA:=ha cpos pins s1 σ H1 _ I1 q1
 rw [hs] at hA ⊢
 refine Calls.callWith_builtin (by show (false||(backTo cpos (starEach es X.env)).any (·.1))=false;rw [hplain]<;>rfl) (Calls.evalArgs_plain ?_)
 exact thn hA fun us s2 hsl43=>by obtain ⟨vs,H2,I2,r2,q2⟩:=hsl43;exact hm pins s2 σ H2 x vs v us Q I2 r1 r2 q2
end
end L2
namespace L2
open PySem PySem.Spec PyProof.Rows
noncomputable def MtM (X:Cx) (id:String) (r:V->List V->Hp->VK->Prop):Prop :=
 ∀ (pins:List (Addr × Obj)) (s:Shared) (σ:St) (H:Hp) (x:V) (xs:List V) (v:Value) (us:List Value) (Q:VK),Inv X pins σ H s->RelV x v->Vals xs us->r x xs H Q ->
  wpAny (model X.prog X.w) X.A (call (.builtin id) (v::us)) (EP X pins σ Q) X.xe s
theorem Vals.one:∀ {x:V} {us:List Value},Vals [x] us->∃ u,us=[u]/\RelV x u
 | _,_,.cons r .nil=>⟨_,rfl,r⟩
theorem Vals.zero:∀ {us:List Value},Vals [] us->us=[]
 | _,.nil=>rfl
theorem Vals.dropLast {xs:List V} {us:List Value} (h:Vals xs us):Vals xs.dropLast us.dropLast:=by
 induction h with
 | nil=>exact .nil
 | cons r t ih =>
  cases t with
  | nil=>exact .nil
  | cons q t'=>exact .cons r ih
theorem erase_last {α:Type} (l:List α):l.eraseIdx (l.length-1)=l.dropLast:=by
 induction l with
 | nil=>rfl
 | cons a r ih =>
  cases r with
  | nil=>rfl
  | cons b r =>
   have e:(a::b::r).length-1=((b::r).length-1)+1:=by
    have h1:(a::b::r).length=r.length+2:=rfl
    have h2:(b::r).length=r.length+1:=rfl
    omega
   rw [e,List.eraseIdx_cons_succ,ih]
   all_goals rfl
section
variable {X:Cx} {pins:List (Addr × Obj)} {σ:St} {H:Hp} {s:Shared} {l b:Addr} {xs ys zs:List V}
theorem Inv.lset {its its':List Value} {n:Nat} {f:Array Value->Array Value} {t':Nat} (I:Inv X pins σ H s) (hH:H l=some (.lst xs))
  (e:s.heap.get? l=some { cls:=.type "list",data:=.seq its.toArray n }) (hf:f its.toArray=its'.toArray) (hv:Vals ys its') (hz:ys.length<=sizeLine) :
  Inv X pins σ (upd H l (.lst ys)) { s with heap:=s.heap.update l (Obj.mapSeq f),toks:=t' }:=by
 have q:=PySem.IsL.update e f
 rw [hf] at q
 refine I.write (x:=l) (e:=l) (by rw [hH];exact trivial) (.inl rfl) (fun b' u hb hu=>(Heap.get?_update_other s.heap (Obj.mapSeq f) (Ne.symm hb)).trans hu) ⟨_,q⟩ ?_
 exact ⟨hz,its',_,hv,q⟩
theorem Inv.lnew {its:List Value} {t':Nat} (I:Inv X pins σ H s) (hv:Vals ys its) (hz:ys.length<=sizeLine) :
  Inv X pins σ (upd H s.heap.objs.size (.lst ys)) { s with heap:=s.heap.push { cls:=.type "list",data:=.seq its.toArray },toks:=t' } :=
 I.laid (fun _ _ q=>Qf _ q) (Qh _) ⟨hz,its,0,hv,Qs _ rfl⟩
theorem Inv.fresh (I:Inv X pins σ H s):H s.heap.objs.size=none:=I.hok.fresh (Qh _)
theorem Inv.lstM (I:Inv X pins σ H s) (hH:H l=some (.lst xs)):xs.length<=sizeLine/\∃ (its:List Value) (n:Nat),Vals xs its/\xs.length=its.length/\s.heap.get? l=some { cls:=.type "list",data:=.seq its.toArray n }:=by
 obtain ⟨z,its,n,r,e⟩:=I.hok l _ hH
 exact ⟨z,its,n,r,r.length,e⟩
end
section
variable {X:Cx}
noncomputable def rAppend:V->List V->Hp->VK->Prop:=fun x vs H Q=>∃ l xs y,x=.ref l/\vs=[y]/\H l=some (.lst xs)/\xs.length<sizeLine/\Q .non (upd H l (.lst (xs++[y])))
theorem mt_append:MtM X "list.append" rAppend:=by
 intro pins s σ H x vs v us Q I rx rv h
 obtain ⟨l,xs,y,rfl,rfl,hH,hz,q⟩:=h
 cases rx
 obtain ⟨u,rfl,ru⟩:=rv.one
 obtain ⟨z,its,n,r,hl,e⟩:=I.lstM hH
 refine call_meets F.slot_list_append ⟨_,e,rfl⟩ F.entry_list_append (F.args_list_append_2 _ _) (PySem.list_append l its.toArray n u (by rw [Qt];omega)) ⟨e,?_⟩
 refine ⟨.non,_,I.lset (its':=its++[u]) hH e (by simp) (r.append (.cons ru .nil)) ?_,rfl,q⟩
 rw [Qj,QI]
 omega
noncomputable def rPop:V->List V->Hp->VK->Prop:=fun x vs H Q=>∃ l xs y,x=.ref l/\vs=[]/\H l=some (.lst xs)/\xs[xs.length-1]?=some y/\Q y (upd H l (.lst xs.dropLast))
theorem mt_pop:MtM X "list.pop" rPop:=by
 intro pins s σ H x vs v us Q I rx rv h
 obtain ⟨l,xs,y,rfl,rfl,hH,hy,q⟩:=h
 cases rx
 have hus:=rv.zero
 subst hus
 obtain ⟨z,its,n,r,hl,e⟩:=I.lstM hH
 obtain ⟨u,hu,ru⟩:=r.get hy
 have hy':its.toArray[its.toArray.size-1]?=some u:=by
  show its.toArray[its.length-1]?=some u
  rw [<- Array.getElem?_toList,<- hl]
  exact hu
 refine call_meets F.slot_list_pop ⟨_,e,rfl⟩ F.entry_list_pop (F.args_list_pop_1 _) (MeetsSeq.list_pop_last l its.toArray n u hy' (by rw [Qt];omega)) ⟨e,?_⟩
 refine ⟨y,_,I.lset (its':=its.dropLast) hH e ?_ r.dropLast ?_,ru,q⟩
 ·show its.toArray.eraseIdxIfInBounds (its.toArray.size-1)=its.dropLast.toArray
  rw [Qt,List.eraseIdxIfInBounds_toArray,erase_last]
 ·rw [List.length_dropLast]
  omega
noncomputable def rCat:R2:=fun x y H Q=>∃ l b xs zs,x=.ref l/\y=.ref b/\H l=some (.lst xs)/\H b=some (.lst zs)/\xs.length+zs.length<=sizeLine/\∀ p,H p=none->Q (.ref p) (upd H p (.lst (xs++zs)))
theorem op_cat:OpR X (binaryOp .Add) rCat:=by
 intro pins s σ H x y v u Q I rx ry h
 obtain ⟨l,b,xs,zs,rfl,rfl,hH,hB,hz,q⟩:=h
 cases rx
 cases ry
 obtain ⟨z,its,n,r,hl,e⟩:=I.lstM hH
 obtain ⟨z2,its2,n2,r2,hl2,e2⟩:=I.lstM hB
 refine PySem.P.add_list e e2 ?_ (by rw [Qt,Qt];omega)
 have ea:its.toArray++its2.toArray=(its++its2).toArray:=by simp
 rw [ea]
 exact ⟨.ref _,_,I.lnew (t':=s.toks) (r.append r2) (by rw [Qj];omega),rfl,q _ I.fresh⟩
end
section
variable {prog:Program} {w:World} {A:Around} {E:Value->Shared->Prop} {s:Shared}
end
section
variable {X:Cx}
end
end L2
namespace Att
open PySem PySem.W PySem.Calls PyProof.Rows
theorem ints_of_wellAll {P:Params} {h:Heap}:∀ (ns:List Int) (vs:List Value),WellAll P h vs (ns.map WData.int)->IntsAre vs ns:=by
 intro ns
 induction ns with
 | nil =>
  intro vs w
  rw [List.map_nil] at w
  cases w
  exact .nil
 | cons n ns ih =>
  intro vs w
  rw [List.map_cons] at w
  cases w with
  | cons a b =>
   cases a
   exact .cons _ _ (ih _ b)
theorem script_of {l:OpenLaw} {n:Nat} (hn:l.most=some n) {P:Params} {h:Heap} {args:List WData} {vals:List Value}
  (hpre:l.row.toRowW.claim.pre args=true) (hwl:WellAll P h vals args) :
  ∃ a vs ns,vals=[Value.ref a]/\args=[WData.list (ns.map WData.int)]/\h.get? a=some { cls:=.type "list",data:=.seq vs.toArray }/\IntsAre vs ns/\ns.length<=n:=by
 have hsh:WShape.hasAll [] args [.list .int]=true:=(pre_splitW hpre).1
 have hc:l.pre.holds [] { args:=args }=true:=(pre_splitW hpre).2
 obtain ⟨d,r,rfl,h1,h2⟩:=hasAllW_cons hsh
 obtain rfl:=hasAllW_nil h2
 obtain ⟨xs,rfl,h3⟩:=hasW_list h1
 obtain ⟨ns,rfl⟩:=items_int h3
 have hlen:ns.length<=n:=by
  unfold OpenLaw.pre at hc
  have h4:(WTm.not (.lt (.lit (.int (n:Int))) (.len (.arg 0)))).holds [] { args:=[.list (ns.map .int)] }=true:=by
   have h4:=(holds_andW hc).1
   rw [hn] at h4
   exact h4
  have h5:=condW_of h4 (w_not (w_lt w_lit (w_len_list (w_arg rfl))))
  rw [Qd] at h5
  refine Nat.le_of_not_lt fun q=>?_
  have q':(n:Int)<((ns.length:Nat):Int):=by omega
  first
   | (rw [Qo q'] at h5;exact absurd h5 (by decide))
   | (simp at h5;omega)
 cases hwl with
 | cons w1 w2 =>
  cases w2
  cases w1 with
  | list ho hall=>exact ⟨_,_,ns,rfl,rfl,ho,ints_of_wellAll ns _ hall,hlen⟩
theorem post_true (l:OpenLaw) (args:List WData):l.row.toRowW.claim.post args (.bool true) args=true :=
 postW_of (r:=l.row.toRowW) (X:=(true == true))
  (show WShape.has [] (.bool true) .bool=true by first | rfl | decide | simp [WShape.has,WShape.arms,WShape.armsAll])
  (show (WTm.eq .res (.lit (.bool true))).value [] { args:=args,res:=some (.bool true),after:=args }=some (.bool (true == true)) from w_eq_bool (w_res rfl) w_lit) rfl
theorem attach_call {l:OpenLaw} {n:Nat} {q:Program} {loose:List Str} {XP:(Str->Option Value)->Heap->Prop} {YP:World->Heap->Prop} {d:DefRec}
  (hn:l.most=some n) (hdf:d.params.defaults=[])
  (call:∀ (w:World) (s₀ s₁:Shared) (mg mb:Str->Option Value) (fa:Addr) (o:Obj) (pm cd doc:Value) (a:Addr) (vs:List Value) (ns:List Int),
   Ground q loose [] XP w s₀ mg mb s₁.heap->YP w s₁.heap ->
   s₁.heap.get? fa=some o->o.data=.func (docDef d.name d.params d.body d.scope pm cd doc)->s₁.heap.CodeRec cd d.name->mg d.name=some (.ref fa) ->
   s₁.heap.get? a=some { cls:=.type "list",data:=.seq vs.toArray }->IntsAre vs ns->ns.length<=n->s₁.gens=#[] ->
   codeAny (model l.prog w) callerA (.call (.ref fa) ⟨[.ref a],[]⟩) (fun r s'=>r=.ok (.ret (.bool true))/\OldK s₁.heap s'.heap/\s'.os=s₁.os/\AllBare s'.gens) s₁) :
  WalkO q loose XP YP l.row.toRowW d [] (fun f vs=>PySem.call f vs):=by
 intro w s₀ s₁ mg mb G Y fa o pm cd doc dV kV ho hd hcd hD hmg hg args vals as hpre hlay hrd hwl hlo
 obtain rfl:dV=.none:=Dflts.none hD hdf
 obtain rfl:kV=.none:=Dflts.noKw hD
 obtain ⟨a,vs,ns,rfl,rfl,hobj,hints,hlen⟩:=script_of hn hpre hwl
 refine enter_call (codeAny_mono (call w s₀ s₁ mg mb fa o pm cd doc a vs ns G Y ho (fd_plain hd) hcd hmg hobj hints hlen hg) fun r s' hq=>?_)
 obtain ⟨rfl,h2,h3,h4⟩:=hq
 exact ⟨.inl ⟨.bool true,.bool true,[],rfl,fun _=>rfl,.bool true,post_true l _,fun _=>⟨List.Pairwise.nil,fun _ hm=>(nomatch hm)⟩⟩,h2,h3,h4⟩
section
variable {prog:Program} {w:World} {A:Around} {E:Value->Shared->Prop} {s:Shared} {K:Frag}
end
end Att
namespace L2
open PySem PySem.Spec PyProof.Rows
theorem vals_ints:∀ {vs:List Value} {ns:List Int},IntsAre vs ns->Vals (ns.map V.int) vs
 | _,_,.nil=>.nil
 | _,_,.cons n t h=>.cons ⟨t,rfl⟩ (vals_ints h)
noncomputable def Only (H:Hp):Prop:=∀ b,H b=none∨∃ o xs,H b=some (.frz o (.lst xs))
theorem law_call {P:Program} {w:World} {K:PySem.W.Frag} {mg mb:Str->Option Value} {CX:CXT} {k:Nat} {fa a:Addr} {fd:FuncData} {x:Str} {sp:Sp} {s₁:Shared} {vs:List Value} {ns:List Int}
  (KX:K.In s₁.heap) (hns:s₁.heap.Ns mainGlobals mg) (hb:s₁.heap.Ns builtinsNs mb) (hbb:∀ x:Str,x≠"__name__"->mb x=bootBuiltins x) (hlim:s₁.heap.NoLimit) (hg:s₁.gens=#[])
  (ha:s₁.heap.get? a=some { cls:=.type "list",data:=.seq vs.toArray }) (hi:IntsAre vs ns) (hl:ns.length<=sizeLine) (hr:Room k callerA)
  (F:∀ base:Heap,K.In base->base.Ns mainGlobals mg->FnOk P w K mg base CX k fa fd [x] sp) (hbind:∀ (s:Shared) (u:Value),BindsTo s fd ⟨[u],[]⟩ [(x,u)])
  (hsp:∀ H:Hp,Only H->SqL K H a (ns.map V.int)->sp [.ref a] H (fun v _=>v=.bl true) fun _ _ _=>False)
  (hCX:∀ H e s',CX [] H s₁ (fun _ _ _=>False) e s'->False) :
  codeAny (model P w) callerA (.call (.ref fa) ⟨[.ref a],[]⟩) (fun r s'=>r=.ok (.ret (.bool true))/\OldK s₁.heap s'.heap/\s'.os=s₁.os/\AllBare s'.gens) s₁:=by
 have rv:=vals_ints hi
 have lenV:=hi.length
 have core:∀ H:Hp,Only H->SqL K H a (ns.map V.int)->HOk P w H s₁.heap->(∀ b,H b≠none->b=a)->(H a≠none->K.lookup a=none) ->
   codeAny (model P w) callerA (.call (.ref fa) ⟨[.ref a],[]⟩) (fun r s'=>r=.ok (.ret (.bool true))/\OldK s₁.heap s'.heap/\s'.os=s₁.os/\AllBare s'.gens) s₁:=by
  intro H hO hS hok hA hK
  have base_of:∀ {b:Addr} {o:Obj},s₁.heap.get? b=some o->H b=none->(hidT s₁.heap H).get? b=some o:=fun e n=>hidT_get e n
  have noA:∀ {b:Addr} {o:Obj} {es:Array DictEntry} {ep:Nat},s₁.heap.get? b=some o->o.data=.dict es ep->H b=none:=fun {b o es ep} e d=>by
   cases q:H b with
   | none=>rfl
   | some u =>
    have e':b=a:=hA b (by rw [q];simp)
    subst e'
    rw [ha] at e;cases e
    have d':Data.seq vs.toArray _=Data.dict es ep:=d
    cases d'
  have nsK:∀ {b:Addr} {m:Str->Option Value},s₁.heap.Ns b m->(hidT s₁.heap H).Ns b m:=fun {b m} ⟨o,es,ep,e,d,r⟩=>⟨o,es,ep,base_of e (noA e d),d,r⟩
  have hKb:K.In (hidT s₁.heap H):=fun b o e=>base_of (KX b o e) (by
   cases q:H b with
   | none=>rfl
   | some u =>
    have e':b=a:=hA b (by rw [q];simp)
    subst e'
    rw [hK (by rw [q];simp)] at e;cases e)
  have hM:Mod K mg (hidT s₁.heap H):=⟨hKb,nsK hns,⟨mb,nsK hb,hbb⟩,by obtain ⟨mc,h1,h2⟩:=hlim;exact ⟨mc,nsK h1,h2⟩⟩
  have e0:Env0 P w K mg (hidT s₁.heap H) callerA [] s₁ H:=⟨rfl,hM,fun b o e=>of_hidT e,Nat.le_of_eq (hidT_size _ _),trivial,fun b hb=>absurd (show b∈([]:List Addr) from hb) (by simp),hok,.of_eq hg⟩
  refine codeAny_mono ((F _ hKb (nsK hns)).run callerA [] s₁ H ⟨[.ref a],[]⟩ [.ref a] [.ref a] _ _ hr e0 (hbind s₁ (.ref a)) (.cons rfl .nil) (hsp H hO hS)) fun r s' h=>?_
  cases r with
  | error e=>exact (hCX H e s' h).elim
  | ok fl =>
   cases fl with
   | next=>exact False.elim h
   | brk=>exact False.elim h
   | cont=>exact False.elim h
   | ret u =>
    obtain ⟨v,H',os,bare,un,hok',r',q⟩:=h
    have q':v=.bl true:=q
    subst q'
    obtain rfl:u=Value.bool true:=r'
    refine ⟨rfl,OldK.of_keep fun b o e=>?_,os,bare⟩
    cases q:H b with
    | none=>exact un.keep b o e q (by intro z;exact absurd (show b∈([]:List Addr) from z) (by simp)) (by simp)
    | some u =>
     rcases hO b with z | ⟨ob,xs,z⟩
     ·rw [q] at z;cases z
     ·have z2:=un.frzs b ob _ z
      obtain ⟨e1,_⟩:=hok b _ z
      obtain ⟨e2,_⟩:=hok' b _ z2
      rw [e] at e1;cases e1
      exact e2
 cases hk:K.lookup a with
 | some o =>
  have e:=KX a o hk
  rw [ha] at e
  cases e
  refine core (fun _=>none) (fun _=>.inl rfl) (.inr ⟨_,vs.toArray,_,hk,rfl,rfl,rfl,by rw [Qt,lenV];exact hl,by simpa using rv⟩) (fun b u z=>by have z':(none:Option HO)=some u:=z;cases z') (fun b z=>absurd rfl z) fun z=>absurd rfl z
 | none =>
  refine core (fun b=>if b=a then some (.frz { cls:=.type "list",data:=.seq vs.toArray } (.lst (ns.map V.int))) else none) (fun b=>?_) (.inl (.inr ⟨{ cls:=.type "list",data:=.seq vs.toArray },if_pos rfl⟩)) (fun b u z=>?_) (fun b z=>?_) fun _=>hk
  ·by_cases hb:b=a
   ·exact .inr ⟨_,_,if_pos hb⟩
   ·exact .inl (if_neg hb)
  ·by_cases hb:b=a
   ·have z':=(if_pos hb).symm.trans z
    cases z'
    subst hb
    exact ⟨ha,by rw [Qd];exact hl,vs,_,rv,ha⟩
   ·have z':=(if_neg hb).symm.trans z
    cases z'
  ·by_cases hb:b=a
   ·exact hb
   ·exact absurd (if_neg hb) z
end L2
namespace L2
open PySem PySem.Spec PyProof.Rows
theorem walk_of {l:PySem.W.OpenLaw} {n k:Nat} {q:Program} {loose:List Str} {XP:(Str->Option Value)->Heap->Prop} {YP:World->Heap->Prop} {d:DefRec} {K:Params->PySem.W.Frag} {CX:World->CXT} {sp:World->Sp} {x:Str}
  (hn:l.most=some n) (hn2:n<=sizeLine) (hdf:d.params.defaults=[]) (hr:Room k callerA)
  (hY:∀ (w:World) (h:Heap),YP w h->(K w.params).In h)
  (F:∀ (w:World) (mg:Str->Option Value) (fa:Addr) (h:Heap),(K w.params).In h->h.Ns mainGlobals mg->mg d.name=some (.ref fa) ->
   ∃ fd:FuncData,(∀ (s:Shared) (u:Value),BindsTo s fd ⟨[u],[]⟩ [(x,u)]) /\
    ∀ base:Heap,(K w.params).In base->base.Ns mainGlobals mg->FnOk l.prog w (K w.params) mg base (CX w) k fa fd [x] (sp w))
  (hsp:∀ (w:World) (H:Hp) (a:Addr) (ns:List Int),ns.length<=n->Only H->SqL (K w.params) H a (ns.map V.int)->sp w [.ref a] H (fun v _=>v=.bl true) fun _ _ _=>False)
  (hCX:∀ (w:World) (H:Hp) (s:Shared) (e:Value) (s':Shared),CX w [] H s (fun _ _ _=>False) e s'->False) :
  PySem.W.WalkO q loose XP YP l.row.toRowW d [] (fun f vs=>PySem.call f vs):=by
 refine Att.attach_call hn hdf fun w s₀ s₁ mg mb fa o pm cd doc a vs ns G Y ho hd hcd hmg hobj hints hlen hg=>?_
 have KX:=hY w _ Y
 obtain ⟨fd,hb,hF⟩:=F w mg fa _ KX G.T.g hmg
 exact law_call KX G.T.g G.T.b G.T.builtins G.T.nolimit hg hobj hints (QA hlen hn2) hr hF hb (fun H hO hS=>hsp w H a ns hlen hO hS) fun H e s'=>hCX w H s₁ e s'
end L2
namespace L2
open PySem PySem.Spec PyProof.Rows
noncomputable def inClass (s:Stmt) (j:Nat):Stmt:=match s with
 | .ClassDef _ _ _ body _ _ _ _ _ _ _=>body.getD j (.Pass ⟨0,0,0,0⟩)
 | _=>.Pass ⟨0,0,0,0⟩
noncomputable def defArgs (s:Stmt):Arguments:=match s with
 | .FunctionDef _ a _ _ _ _ _ _ _ _=>a
 | _=>{ posonlyargs:=[],args:=[],vararg:=none,kwonlyargs:=[],kw_defaults:=[],kwarg:=none,defaults:=[] }
noncomputable def defBody (s:Stmt):List Stmt:=match s with
 | .FunctionDef _ _ b _ _ _ _ _ _ _=>b
 | _=>[]
noncomputable def defScope (s:Stmt):Scope:=match s with
 | .FunctionDef _ _ _ _ _ _ sc _ _ _=>sc
 | _=>{ kind:=.function,names:=[],isGenerator:=false,isCoroutine:=false }
noncomputable abbrev CX0:CXT:=fun _ _ _ _ _ _=>False
noncomputable abbrev E0:XK:=fun _ _ _=>False
theorem pass0 {X:Cx}:Passes CX0 X E0:=fun _ _ _ _ _ _ _ h=>h.elim
structure Fun (K:PySem.W.Frag) (x qual:Str) (st:Stmt) (f:Addr) (fd:FuncData):Prop where
 ex:∃ (oc:Value) (od:Option Addr) (kV doc pm:Value) (an:Option Addr) (cdv ct:Value) (osl:Array (Option Value)),
  fd=PySem.W.fnOf x qual (defArgs st) (defBody st) (defScope st) .none kV doc pm an cdv ct/\K.lookup f=some ⟨oc,od,.func fd,osl⟩/\PySem.W.codeIn K cdv qual=true
 kp:PySem.W.keepIn K (.ref f)=true
section
variable {P:Program} {w:World} {K:PySem.W.Frag} {mg:Str->Option Value} {base:Heap}
theorem Fun.ok {x qual:Str} {st:Stmt} {f:Addr} {fd:FuncData} {N ps:List Str} {k:Nat} {sp:Sp} (F:Fun K x qual st f fd) (S:FnScope N ps (defScope st)) (len:∀ vs H Q E,sp vs H Q E->vs.length=ps.length)
  (hbody:∀ (cdv:Value) (A:Around) (outer:List Env) (s:Shared) (H:Hp) (vs:List V) (Q:VK) (E:XK),Room k (A.deeper (envOfC qual (defScope st) s.heap.objs.size f cdv))->sp vs H Q E ->
   ∃ t,PSs (cxOf CX0 P w K mg base N qual (defScope st) f cdv A outer s H E).nox (defBody st) t/\t { nx:=fun _ H'=>Q .non H',rt:=Q } (start N vs) H):FnOk P w K mg base CX0 (k+1) f fd ps sp:=by
 obtain ⟨oc,od,kV,doc,pm,an,cdv,ct,osl,rfl,lk,hcd⟩:=F.ex
 refine fn_of lk hcd S len fun A outer s H vs Q E hr hsp=>?_
 obtain ⟨t,h,q⟩:=hbody cdv A outer s H vs Q E hr hsp
 exact ⟨t,h.nox,q⟩
theorem Fun.binds {x qual:Str} {st:Stmt} {f:Addr} {fd:FuncData} {ps:List Str} (F:Fun K x qual st f fd)
  (h:∀ (kV doc pm:Value) (an:Option Addr) (cdv ct:Value) (us:List Value),us.length=ps.length->bindArgs (PySem.W.fnOf x qual (defArgs st) (defBody st) (defScope st) .none kV doc pm an cdv ct) ⟨us,[]⟩=pure (ps.zip us)):Binds K fd ps []:=by
 obtain ⟨oc,od,kV,doc,pm,an,cdv,ct,osl,rfl,lk,hcd⟩:=F.ex
 exact .all (h kV doc pm an cdv ct)
theorem fun_mk {x qual:Str} {st:Stmt} {f:Addr} {oc:Value} {od an:Option Addr} {osl:Array (Option Value)} {kV doc pm cdv ct:Value} (l:K.lookup f=some ⟨oc,od,.func (PySem.W.fnOf x qual (defArgs st) (defBody st) (defScope st) .none kV doc pm an cdv ct),osl⟩)
  (c:PySem.W.codeIn K cdv qual=true) (k:PySem.W.keepIn K (.ref f)=true):Fun K x qual st f (PySem.W.fnOf x qual (defArgs st) (defBody st) (defScope st) .none kV doc pm an cdv ct):=⟨⟨oc,od,kV,doc,pm,an,cdv,ct,osl,rfl,l,c⟩,k⟩
end
theorem hu_of {A:Around} {k:Nat} (hr:Room k A):A.units+1<cLine:=QL (Nat.add_le_add_left (by decide:1<=64) _) hr.units
theorem small1000 {n:Nat} (h:n<=1000):n<sizeLine:=QL h (by decide)
section
variable {X:Cx}
theorem pv (i:Nat) {x:Str} {pos:Pos} (hN:X.N[i]?=some x:=by rfl) (hv:Vis X.env.scope x:=by first | exact Or.inl rfl | exact Or.inr (Or.inl rfl) | exact Or.inr (Or.inr rfl)) (hd:(x == ("__debug__":Str))=false:=by decide)
  (hcd:(x == ("__classdict__":Str))=false:=by decide):PE X (.Name x pos) (tVar i):=pe_var hN hv hd hcd
end
theorem iteF {A B:Prop} (h:B):if false=true then A else B:=by
 rw [if_neg Bool.false_ne_true]
 exact h
theorem iteT {A B:Prop} (h:A):if true=true then A else B:=by
 rw [if_pos rfl]
 exact h
theorem ite2 {c A B:Prop} [Decidable c] (h1:c->A) (h2:¬ c->B):if c then A else B:=by
 by_cases h:c
 ·rw [if_pos h]
  exact h1 h
 ·rw [if_neg h]
  exact h2 h
theorem iteNS {c A B:Prop} [Decidable c] (hc:c) (h:B):if (!decide c)=true then A else B:=by
 rw [Qo hc]
 exact iteF h
noncomputable def Same (H H':Hp):Prop:=∀ b o,H b=some o->H' b=some o
theorem Same.refl (H:Hp):Same H H:=fun _ _ h=>h
theorem Same.trans {H H1 H2:Hp} (a:Same H H1) (b:Same H1 H2):Same H H2:=fun c o h=>b c o (a c o h)
theorem Same.seq {K:PySem.W.Frag} {H H':Hp} {a:Addr} {xs:List V} (e:Same H H') (h:SqL K H a xs):SqL K H' a xs:=by
 rcases h with (h | ⟨o,h⟩) | h
 ·exact .inl (.inl (e _ _ h))
 ·exact .inl (.inr ⟨o,e _ _ h⟩)
 ·exact .inr h
end L2
namespace L2
open PySem PySem.Spec PyProof.Rows
noncomputable abbrev cmpTests (ifs:List Expr) (env:Env):Sem Bool :=
 forIn ifs true fun c r=>if r=true then do let ok <- isTrue c env (eval c env);pure (ForInStep.yield ok) else pure (ForInStep.yield r)
noncomputable def clOf (cells:List (Str × Addr)):List (Str × NameKind)->List (Str × Addr)->List (Str × Addr)
 | [],acc=>acc
 | (n,k)::r,acc=>clOf cells r (if k == .free then (n,(cells.lookup n).getD 0)::acc else acc)
theorem clOf_eq {env:Env}:∀ (ns:List (Str × NameKind)) (acc:List (Str × Addr)),(∀ y∈ns,y.2=.free->∃ c,env.cells.lookup y.1=some c) ->
  (forIn ns acc fun (p:Str × NameKind) (cs:List (Str × Addr))=>(if p.2 == .free then (do let c <- cellOf env p.1;pure (ForInStep.yield ((p.1,c)::cs))) else pure (ForInStep.yield cs):Sem (ForInStep (List (Str × Addr)))))=(pure (clOf env.cells ns acc):Sem (List (Str × Addr)))
 | [],acc,_=>rfl
 | (n,k)::r,acc,h=>by
  rw [List.forIn_cons]
  by_cases hk:k=.free
  ·subst hk
   obtain ⟨c,hc⟩:=h (n,.free) Qp rfl
   have e1:cellOf env n=pure c:=by unfold cellOf;rw [show env.cells.lookup n=some c from hc]
   simp only [beq_self_eq_true,if_true,e1,clOf,hc,Option.getD_some]
   exact clOf_eq r ((n,c)::acc) fun y hy=>h y (Qm _ hy)
  ·have hb:(k == NameKind.free)=false:=by simpa using hk
   simp only [hb,Bool.false_eq_true,if_false,clOf]
   exact clOf_eq r acc fun y hy=>h y (Qm _ hy)
theorem closure_eq {env:Env} {sc:Scope} (h:∀ y∈sc.names,y.2=.free->∃ c,env.cells.lookup y.1=some c):closureFor sc env=pure (clOf env.cells sc.names []):=by
 unfold closureFor
 have q:=clOf_eq (env:=env) sc.names [] h
 have e:(forIn sc.names [] fun (p:Str × NameKind) (cs:List (Str × Addr))=>(match p with | (name,kind)=>if kind == .free then (do let c <- cellOf env name;pure (ForInStep.yield ((name,c)::cs))) else pure (ForInStep.yield cs):Sem (ForInStep (List (Str × Addr)))))=(pure (clOf env.cells sc.names []):Sem (List (Str × Addr))):=q
 simp only [e]
 rfl
theorem clOf_look {cells:List (Str × Addr)}:∀ (ns:List (Str × NameKind)) (acc:List (Str × Addr)),(∀ y∈ns,y.2=.free->∃ c,cells.lookup y.1=some c)->(∀ y c,acc.lookup y=some c->cells.lookup y=some c) ->
  (∀ y c,(clOf cells ns acc).lookup y=some c->cells.lookup y=some c)/\(∀ y,(acc.lookup y).isSome=true->((clOf cells ns acc).lookup y).isSome=true)/\(∀ y,(y,NameKind.free)∈ns->((clOf cells ns acc).lookup y).isSome=true)
 | [],acc,_,h2=>⟨h2,fun _ h=>h,fun _ h=>nomatch h⟩
 | (n,k)::r,acc,h1,h2=>by
  have h1':∀ y∈r,y.2=.free->∃ c,cells.lookup y.1=some c:=fun y hy=>h1 y (Qm _ hy)
  by_cases hk:k=.free
  ·subst hk
   obtain ⟨c,hc⟩:=h1 (n,.free) Qp rfl
   have hc':cells.lookup n=some c:=hc
   have e:clOf cells ((n,.free)::r) acc=clOf cells r ((n,c)::acc):=by simp only [clOf,beq_self_eq_true,if_true,hc',Option.getD_some]
   have ih:=clOf_look (cells:=cells) r ((n,c)::acc) h1' (fun y d hy=>by
    rw [List.lookup_cons] at hy
    cases q:y == n with
    | true=>rw [q] at hy;cases hy;rw [eq_of_beq q];exact hc'
    | false=>rw [q] at hy;exact h2 y d hy)
   rw [e]
   refine ⟨ih.1,fun y hy=>ih.2.1 y ?_,fun y hy=>?_⟩
   ·rw [List.lookup_cons];split
    ·rfl
    ·exact hy
   ·rcases Qi hy with z | z
    ·cases z;exact ih.2.1 n (by rw [List.lookup_cons];simp)
    ·exact ih.2.2 y z
  ·have hb:(k == NameKind.free)=false:=by simpa using hk
   have e:clOf cells ((n,k)::r) acc=clOf cells r acc:=by simp only [clOf,hb,Bool.false_eq_true,if_false]
   have ih:=clOf_look (cells:=cells) r acc h1' h2
   rw [e]
   refine ⟨ih.1,ih.2.1,fun y hy=>?_⟩
   rcases Qi hy with z | z
   ·cases z;exact absurd rfl hk
   ·exact ih.2.2 y z
structure CompSc (scX sc:Scope) (NX:List Str) (x:Str) (fv:List Str) (js:List Nat):Prop where
 kind:sc.kind=.function
 kindX:scX.kind=.function
 cell:∀ y∈sc.names,y.2≠.cell
 own:sc.names.lookup x=some .local
 names:∀ y∈sc.names,y.2=.local->sc.names.lookup y.1=some .local
 free:∀ y∈sc.names,y.2=.free->scX.names.lookup y.1=some .cell
 nd:(x::fv).Nodup
 at':js.map (fun j=>NX[j]?)=fv.map some
 fr:∀ y∈fv,sc.names.lookup y=some .free
theorem relabel_free {env:Env} (hk:env.scope.kind=.function):∀ {ns:List (Str × NameKind)} {y:Str},ns.lookup y=some .free->env.kindOf y=some .cell ->
  (ns.map fun (n,k)=>if (k == NameKind.free&&env.scope.kind == .function&&env.kindOf n == some .cell) then (n,NameKind.cell) else (n,k)).lookup y=some .cell
 | [],_,h,_=>by simp at h
 | (n,k)::r,y,h,hc=>by
  have ih:=@relabel_free env hk r y
  show List.lookup y ((if (k == NameKind.free&&env.scope.kind == .function&&env.kindOf n == some .cell)=true then (n,NameKind.cell) else (n,k))::_)=_
  cases hx:y == n with
  | true =>
   simp only [List.lookup_cons,hx] at h
   cases h
   have e:y=n:=eq_of_beq hx
   subst e
   simp [List.lookup_cons,hc,hk]
  | false =>
   simp only [List.lookup_cons,hx] at h
   split<;>(simp only [List.lookup_cons,hx];exact ih h hc)
theorem relabel_back {env:Env}:∀ {ns:List (Str × NameKind)} {y:Str},(∀ z∈ns,z.2≠.cell) ->
  ((ns.map fun (n,k)=>if (k == NameKind.free&&env.scope.kind == .function&&env.kindOf n == some .cell) then (n,NameKind.cell) else (n,k)).lookup y=some .cell ∨
   (ns.map fun (n,k)=>if (k == NameKind.free&&env.scope.kind == .function&&env.kindOf n == some .cell) then (n,NameKind.cell) else (n,k)).lookup y=some .free)->(y,NameKind.free)∈ns
 | [],_,_,h=>by simp at h
 | (n,k)::r,y,hz,h=>by
  have ih:=@relabel_back env r y fun z hm=>hz z (Qm _ hm)
  have hk:k≠.cell:=hz (n,k) Qp
  rw [List.map_cons] at h
  by_cases hc:(k == NameKind.free&&env.scope.kind == .function&&env.kindOf n == some .cell)=true
  ·have hf:k=.free:=by
    rw [Bool.and_eq_true,Bool.and_eq_true] at hc
    exact eq_of_beq hc.1.1
   simp only [hc,if_true,List.lookup_cons] at h
   cases hx:y == n with
   | true=>rw [eq_of_beq hx,hf];exact Qp
   | false=>rw [hx] at h;exact Qm _ (ih h)
  ·rw [Bool.not_eq_true] at hc
   simp only [hc,Bool.false_eq_true,if_false,List.lookup_cons] at h
   cases hx:y == n with
   | true =>
    rw [hx] at h
    rcases h with h | h
    ·exact absurd (Ql h) hk
    ·have:k=.free:=Ql h
     rw [eq_of_beq hx,this];exact Qp
   | false=>rw [hx] at h;exact Qm _ (ih h)
noncomputable def pick (js:List Nat) (σ:St):St:=js.map fun j=>(σ[j]?).getD none
noncomputable abbrev xc (X:Cx) (sc:Scope) (x:Str) (fv:List Str) (C:Addr) (s0:Shared) (H0:Hp) (ex:List Addr):Cx :=
 { X with N:=x::fv,s₀:=s0,H₀:=H0,env:=compEnvC sc (clOf X.env.cells sc.names []) C X.env,outer:=X.stack,ex:=ex,fn:=fun _=>false,pn:=[],xe:=fun _ _=>False }
noncomputable def PIf (X:Cx) (ifs:List Expr) (t:TT):Prop :=
 ∀ (pins:List (Addr × Obj)) (s:Shared) (σ:St) (H:Hp) (Q:Bool->Hp->Prop),Inv X pins σ H s->t σ H Q->wpAny (model X.prog X.w) X.A (cmpTests ifs X.env) (TP X pins σ Q) X.xe s
noncomputable def tYes:TT:=fun _ H Q=>Q true H
theorem tYes_ok {σ:St} {H:Hp} {Q:Bool->Hp->Prop} (h:Q true H):tYes σ H Q:=h
theorem pif_nil {X:Cx}:PIf X [] tYes:=fun _ _ _ H _ I h=>wpAny_tests_nil ⟨H,I,h⟩
theorem pif_one {X:Cx} {c:Expr} {t:TT} (hc:PT X c t):PIf X [c] t:=fun pins s σ H Q I h=>wpAny_tests_one (hc pins s σ H Q I h)
noncomputable def tCompB (J:It) (js:List Nat) (tt:TT) (te:TE):TE:=fun σ H1 Q=>∃ W:Nat->Nat->List V->Hp->Prop,(∃ m,W 0 m [] H1)/\∀ i m ys H,W i m ys H ->
 (J.stop i H/\∀ p,H p=none->Q (.ref p) (upd H p (.lst ys))) ∨
 (J.go i H/\∃ N:List V->Hp->Prop,(∀ ys' H',N ys' H'->∃ m',m'<m/\W (i+1) m' ys' H') /\
  ∀ x H',J.yld i H x H'->tt (some x::pick js σ) H' fun b H2=>if b=true then te (some x::pick js σ) H2 fun y H3=>ys.length<sizeLine/\N (ys++[y]) H3 else N ys H2)
noncomputable def tComp (wi:TI) (js:List Nat) (tt:TT) (te:TE):TE:=fun σ H Q=>wi σ H fun J H1=>tCompB J js tt te σ H1 Q
section
variable {X:Cx} {pins:List (Addr × Obj)} {σ:St} {H2:Hp} {s2:Shared} {elt iter:Expr} {x:Str} {px:Pos} {ifs:List Expr} {sc scX:Scope} {pos:Pos} {fv:List Str} {js:List Nat} {tt:TT} {te:TE}
theorem comp_range {lo:Int} {n:Nat} {σ:St} {H:Hp} {Q:VK} (Pv:Nat->List V->Hp->Prop) (h0:Pv 0 [] H)
  (hs:∀ i ys H,i<n->Pv i ys H->tt (some (.int (lo+i))::pick js σ) H fun b H2=>if b=true then te (some (.int (lo+i))::pick js σ) H2 fun y H3=>ys.length<sizeLine/\Pv (i+1) (ys++[y]) H3 else Pv (i+1) ys H2)
  (hd:∀ ys H,Pv n ys H->∀ p,H p=none->Q (.ref p) (upd H p (.lst ys))) :
  tCompB (Itr lo n) js tt te σ H Q:=by
 refine ⟨fun i m ys H=>m=n-i/\i<=n/\Pv i ys H,⟨n,by simp,Qr _,h0⟩,?_⟩
 rintro i m ys H ⟨rfl,hi,p⟩
 by_cases hlt:i<n
 ·refine .inr ⟨hlt,Pv (i+1),fun ys' H' p'=>⟨n-(i+1),by omega,rfl,hlt,p'⟩,fun x H' y=>?_⟩
  obtain ⟨e,y⟩:=y
  subst e y
  exact hs i ys _ hlt p
 ·have e:i=n:=by omega
  subst e
  exact .inl ⟨Qh _,hd ys H p⟩
theorem comp_list {K:PySem.W.Frag} {a:Addr} {xs:List V} {σ:St} {H:Hp} {Q:VK} (Pv:Nat->List V->Hp->Prop) (h0:Pv 0 [] H) (hl:∀ i ys H,i<=xs.length->Pv i ys H->SqL K H a xs)
  (hs:∀ i x ys H,xs[i]?=some x->Pv i ys H->tt (some x::pick js σ) H fun b H2=>if b=true then te (some x::pick js σ) H2 fun y H3=>ys.length<sizeLine/\Pv (i+1) (ys++[y]) H3 else Pv (i+1) ys H2)
  (hd:∀ ys H,Pv xs.length ys H->∀ p,H p=none->Q (.ref p) (upd H p (.lst ys))) :
  tCompB (Itl K a) js tt te σ H Q:=by
 refine ⟨fun i m ys H=>m=xs.length-i/\i<=xs.length/\Pv i ys H,⟨xs.length,by simp,Qr _,h0⟩,?_⟩
 rintro i m ys H ⟨rfl,hi,p⟩
 have q:=hl i ys H hi p
 by_cases hlt:i<xs.length
 ·refine .inr ⟨⟨xs,xs[i],q,by simp [hlt]⟩,Pv (i+1),fun ys' H' p'=>⟨xs.length-(i+1),by omega,rfl,hlt,p'⟩,fun x H' y=>?_⟩
  obtain ⟨e,y⟩:=y
  subst e
  exact hs i x ys _ (y xs q) p
 ·have e:i=xs.length:=by omega
  subst e
  exact .inl ⟨⟨xs,q,Qh _⟩,hd ys H p⟩
end
end L2
namespace Mm
open PySem
theorem or_xor_and:∀ (n a b:Nat),a<=n->(a ||| b)=(a ^^^ b)+(a &&& b)
 | 0,a,b,h=>by
  have:a=0:=by omega
  subst this
  simp
 | n+1,a,b,h=>by
  by_cases ha:a=0
  ·subst ha;simp
  ·have ih:=or_xor_and n (a / 2) (b / 2) (by omega)
   have e1:(a ||| b) / 2=a / 2 ||| b / 2:=Nat.or_div_two
   have e2:(a ^^^ b) / 2=a / 2 ^^^ b / 2:=Nat.xor_div_two
   have e3:(a &&& b) / 2=a / 2 &&& b / 2:=Nat.and_div_two
   have m1:(a ||| b) % 2=(a % 2 ||| b % 2):=by simpa using Nat.or_mod_two_pow (a:=a) (b:=b) (n:=1)
   have m2:(a ^^^ b) % 2=(a % 2 ^^^ b % 2):=by simpa using Nat.xor_mod_two_pow (a:=a) (b:=b) (n:=1)
   have m3:(a &&& b) % 2=(a % 2 &&& b % 2):=by simpa using Nat.and_mod_two_pow (a:=a) (b:=b) (n:=1)
   have d:∀ x<2,∀ y<2,(x ||| y)=(x ^^^ y)+(x &&& y):=by decide
   have dd:=d (a % 2) (by omega) (b % 2) (by omega)
   omega
theorem bitAnd_nat (a b:Nat):Builtin.bitAnd (a:Int) (b:Int)=((a &&& b:Nat):Int):=by
 rw [PyProof.Rows.bitAnd_pp (by omega) (by omega)]
 simp
theorem bitOr_nat (a b:Nat):Builtin.bitOr (a:Int) (b:Int)=((a ||| b:Nat):Int):=by
 have ha:¬ 0<=Builtin.bitNot (a:Int):=by unfold Builtin.bitNot;omega
 have hb:¬ 0<=Builtin.bitNot (b:Int):=by unfold Builtin.bitNot;omega
 unfold Builtin.bitOr
 rw [PyProof.Rows.bitAnd_nn ha hb,PyProof.Rows.bitNot_bitNot,PyProof.Rows.bitNot_bitNot,PyProof.Rows.bitNot_bitNot]
 simp
theorem bitXor_nat (a b:Nat):Builtin.bitXor (a:Int) (b:Int)=((a ^^^ b:Nat):Int):=by
 unfold Builtin.bitXor
 rw [bitOr_nat,bitAnd_nat]
 have:=or_xor_and a a b (Qh _)
 omega
theorem bits_nat {a m:Nat} (h:a<2 ^ m):(Builtin.Int.intBits (a:Int):Nat)<=m:=intBits_le_iff.mpr (by simpa using h)
noncomputable def mk (p:Nat->Bool):Nat->Nat
 | 0=>0
 | N+1=>mk p N+(if p N then 2 ^ N else 0)
theorem mk_lt (p:Nat->Bool):∀ N,mk p N<2 ^ N
 | 0=>by simp [mk]
 | N+1=>by
  have ih:=mk_lt p N
  rw [Nat.pow_succ]
  simp only [mk]
  split<;>omega
theorem mk_bit (p:Nat->Bool):∀ (N s:Nat),(mk p N).testBit s=(decide (s<N)&&p s)
 | 0,s=>by simp [mk]
 | N+1,s=>by
  have ih:=mk_bit p N s
  have lt:=mk_lt p N
  simp only [mk]
  have e:mk p N+(if p N then 2 ^ N else 0)=2 ^ N*(if p N then 1 else 0)+mk p N:=by split<;>simp [Nat.add_comm]
  rw [e,Nat.testBit_two_pow_mul_add _ lt]
  by_cases h1:s<N
  ·rw [if_pos h1,ih];simp [h1,Nat.lt_succ_of_lt h1]
  ·rw [if_neg h1]
   by_cases h2:s=N
   ·subst h2
    cases hp:p s<;>simp
   ·have h3:¬ s<N+1:=by omega
    have h4:s-N≠0:=by omega
    have:∀ b:Bool,(if b then 1 else 0:Nat).testBit (s-N)=false:=by
     intro b
     obtain ⟨d,hd⟩:∃ d,s-N=d+1:=⟨s-N-1,by omega⟩
     rw [hd]
     cases b<;>simp [Nat.testBit_succ]
    rw [this];simp [h3]
theorem mk_eq {p:Nat->Bool} {N a:Nat} (h:∀ s,a.testBit s=(decide (s<N)&&p s)):a=mk p N:=Nat.eq_of_testBit_eq fun s=>by rw [h,mk_bit]
theorem testBit_mod (s k:Nat):s.testBit k=decide (s / 2 ^ k % 2=1):=by rw [Nat.testBit_eq_decide_div_mod_eq]
noncomputable def sw (k n:Nat):Nat:=mk (fun s=>s.testBit k) (2 ^ n)
theorem sw_start (k:Nat):(2 ^ 2 ^ k-1)*2 ^ 2 ^ k=mk (fun s=>s.testBit k) (2 ^ (k+1)):=by
 refine mk_eq fun s=>?_
 rw [<- Nat.shiftLeft_eq,Nat.testBit_shiftLeft,Nat.testBit_two_pow_sub_one,testBit_mod]
 have hp:0<2 ^ k:=Nat.two_pow_pos k
 have e:2 ^ (k+1)=2*2 ^ k:=by rw [Nat.pow_succ];omega
 rw [e]
 generalize 2 ^ k=r at hp ⊢
 by_cases h1:s<r
 ·have:s / r=0:=Nat.div_eq_of_lt h1
  have q:decide (s ≥ r)=false:=by simp;omega
  rw [q,this];simp
 ·by_cases h2:s<2*r
  ·have:s / r=1:=by
    have a:s / r<2:=Nat.div_lt_of_lt_mul (by omega)
    have b:1<=s / r:=(Nat.le_div_iff_mul_le hp).mpr (by omega)
    omega
   have q1:decide (s ≥ r)=true:=by simp;omega
   have q2:decide (s-r<r)=true:=by simp;omega
   have q3:decide (s<2*r)=true:=by simp;omega
   rw [q1,q2,q3,this];simp
  ·have q:decide (s<2*r)=false:=by simp;omega
   have q2:decide (s-r<r)=false:=by simp;omega
   rw [q,q2];simp
theorem period (a k c:Nat):(a+2 ^ (k+1)*c).testBit k=a.testBit k:=by
 rw [testBit_mod,testBit_mod]
 have hp:0<2 ^ k:=Nat.two_pow_pos k
 have e:2 ^ (k+1)*c=2 ^ k*(2*c):=by rw [Nat.pow_succ,Nat.mul_assoc]
 rw [e,Nat.add_mul_div_left _ _ hp]
 have:(a / 2 ^ k+2*c) % 2=a / 2 ^ k % 2:=by omega
 rw [this]
theorem sw_step (k c:Nat):(mk (fun s=>s.testBit k) (2 ^ (k+1)*c) ||| mk (fun s=>s.testBit k) (2 ^ (k+1)*c)*2 ^ (2 ^ (k+1)*c))=mk (fun s=>s.testBit k) (2*(2 ^ (k+1)*c)):=by
 refine mk_eq fun s=>?_
 rw [Nat.testBit_or,<- Nat.shiftLeft_eq,Nat.testBit_shiftLeft,mk_bit,mk_bit]
 generalize hw:2 ^ (k+1)*c=w
 by_cases h1:s<w
 ·have:¬ s ≥ w:=by omega
  have h2:s<2*w:=by omega
  simp [h1,this,h2]
 ·have h0:s ≥ w:=by omega
  have e:s.testBit k=(s-w).testBit k:=by
   have:=period (s-w) k c
   rw [hw] at this
   rw [<- this]
   congr 1
   omega
  by_cases h2:s<2*w
  ·have h3:s-w<w:=by omega
   simp [h1,h0,h2,h3,e]
  ·have h3:¬ s-w<w:=by omega
   simp [h1,h2,h3]
theorem sw_bit (k n s:Nat):(sw k n).testBit s=(decide (s<2 ^ n)&&s.testBit k):=mk_bit _ _ _
end Mm
namespace L2
open PySem PySem.Spec PyProof.Rows
section
variable {X:Cx}
noncomputable def CShl (i j:Int):Prop:=0<=j/\∃ m:Nat,i.natAbs<2 ^ m/\(m:Int)+j<=2 ^ 27
theorem op_shlB:OpR X (binaryOp .LShift) (rI CShl fun i j=>.int (i*2 ^ j.toNat)):=opI fun i j _ _ _ _ _ hc q=>by
 obtain ⟨h0,m,hm,hs⟩:=hc
 have hb:(Builtin.Int.intBits i:Nat)<=m:=intBits_le_iff.mpr hm
 exact lshift_int h0 (by omega) q
theorem call_isinst {n:String}:CallR X (.builtin "isinstance") (fun xs H Q=>∃ x t b,xs=[x,.ty n]/\TyOf X.K H x t/\PySem.W.kitOne X.K t (.type n)=some b/\Q (.bl b) H):=by
 intro pins s σ H xs us Q I r h
 obtain ⟨x,t,b,rfl,ty,e,q⟩:=h
 obtain ⟨u,w',rfl,rx,rw'⟩:=vals2 r
 cases (show w'=Value.type n from rw')
 exact isinst_ok I rx ty e fun tk=>⟨.bl b,H,I.tok _,rfl,q⟩
end
theorem bt_len:bootBuiltins "len"=some (.builtin "len"):=by decide +kernel
theorem bt_isi:bootBuiltins "isinstance"=some (.builtin "isinstance"):=by decide +kernel
theorem bt_int:bootBuiltins "int"=some (.type "int"):=by decide +kernel
theorem bt_bool:bootBuiltins "bool"=some (.type "bool"):=by decide +kernel
theorem ix_listK {X:Cx} {K:PySem.W.Frag} (h:X.K=K):IxR X (rIxL K):=by subst h;exact ix_list
theorem pow2 (k:Nat):(2:Int) ^ k=((2 ^ k:Nat):Int):=by simp
theorem shl1 (n:Nat):(1:Int)*2 ^ ((n:Int)).toNat=((2 ^ n:Nat):Int):=by rw [pow2,Int.toNat_natCast];omega
theorem cshl {a n m:Nat} (h:a<2 ^ m) (hs:m+n<=2 ^ 27):CShl (a:Int) (n:Int):=⟨by omega,m,by rw [Int.natAbs_natCast];exact h,by omega⟩
end L2
namespace L2
open PySem PySem.Spec PyProof.Rows
section
variable {X:Cx}
theorem mt_bitlen:MtR X "int.bit_length" (fun x xs H Q=>∃ i,x=.int i/\xs=[]/\Q (.int ((Builtin.Int.intBits i:Nat):Int)) H):=by
 intro pins s σ H x xs v us Q I rx rs h
 obtain ⟨i,rfl,rfl,q⟩:=h
 obtain ⟨t,rfl⟩:=rx
 cases rs
 exact call_int_bit_length ⟨.int _,H,I.tok _,⟨_,rfl⟩,q⟩
theorem all_getD (bs:List Bool):((List.range bs.length).all fun i=>bs.getD i false)=bs.all id:=by
 have:(List.range bs.length).map (fun i=>bs.getD i false)=bs:=by
  apply List.ext_getElem
  ·simp
  ·intro i h1 h2
   simp at h1
   simp [h1]
 calc ((List.range bs.length).all fun i=>bs.getD i false)=((List.range bs.length).map fun i=>bs.getD i false).all id:=by rw [List.all_map];rfl
  _=bs.all id:=by rw [this]
theorem bl_at {bs:List Bool} {its:List Value} (r:Vals (bs.map V.bl) its) {i:Nat} {v:Value} (e:its[i]?=some v):v=.bool (bs.getD i false):=by
 have hl:=r.length
 have hi:i<its.length:=(Qc e).1
 rw [Qd] at hl
 have hb:(bs.map V.bl)[i]?=some (V.bl (bs.getD i false)):=by
  rw [Qk,Qa (by omega)]
  simp [Qu,Qa (show i<bs.length by omega)]
 obtain ⟨u,hu,ru⟩:=r.get hb
 rw [e] at hu
 cases hu
 exact ru
theorem call_allB (hc:X.calm=true):CallR X (.builtin "all") (fun xs H Q=>∃ (p:Addr) (bs:List Bool),xs=[.ref p]/\SqL X.K H p (bs.map V.bl)/\Q (.bl (bs.all id)) H):=by
 intro pins s σ H xs us Q I r h
 obtain ⟨p,bs,rfl,hq,q⟩:=h
 obtain ⟨u,rfl,ru⟩:=vals1 r
 cases (show u=Value.ref p from ru)
 obtain ⟨its,rv,pl,hz⟩:=I.list hq
 have hlen:its.length=bs.length:=by rw [<- rv.length,Qd]
 have hlt:p<s.heap.objs.size:=by obtain ⟨o,n,e,_⟩:=pl;exact Qn e
 refine call_all_walk (wpAny_pyIter_list pl.isList ?_)
 refine ⟨s.heap.objs.size,_,_,_,_,_,fun i=>bs.getD i false,rfl,Walks.list (A:=X.A.in1) (show X.A.in1.handled=none from I.ok.hd hc) _ p (Qw hlt) its.toArray,⟨⟨_,Qs _ rfl,rfl,rfl⟩,Heap.IsList.at pl.isList fun o e=>Qf _ e⟩,?_,fun h' tk hk=>?_⟩
 ·intro i v s' Q' E' hv hq'
  have e:its[i]?=some v:=by simpa using hv
  rw [bl_at rv e]
  exact wpAny_truthy_bool hq'
 ·refine ⟨.bl _,H,I.kept fun b o e=>hk b o ?_ (Qf _ e),rfl,?_⟩
  ·intro z
   have z':b=s.heap.objs.size:=by simpa using z
   exact Nat.lt_irrefl _ (z' ▸ Qn e)
  ·have e:its.toArray.size=bs.length:=by rw [Qt];exact hlen
   rw [e,all_getD]
   exact q
end
theorem bt_all:bootBuiltins "all"=some (.builtin "all"):=by decide +kernel
theorem bt_list:bootBuiltins "list"=some (.type "list"):=by decide +kernel
end L2
namespace L2
open PySem PySem.Spec PyProof.Rows
section
variable {X:Cx}
noncomputable def cutS (z:Str) (lo hi:Option Int):Str:=⟨((z.cps.toList.drop (HT.sIx z.length 0 lo)).take (HT.sIx z.length z.length hi-HT.sIx z.length 0 lo)).toArray⟩
theorem sIx_clip (n d:Nat) (v:Option Int):(match v with | none=>(d:Int) | some i=>max 0 (min (if i<0 then i+(n:Int) else i) (n:Int)))=((HT.sIx n d v:Nat):Int):=by
 cases v with
 | none=>rfl
 | some i =>
  show max 0 (min (if i<0 then i+(n:Int) else i) (n:Int))=(((if i<0 then (i+(n:Int)).toNat else min i.toNat n):Nat):Int)
  by_cases h:i<0
  ·simp only [if_pos h];omega
  ·simp only [if_neg h];omega
theorem sliceIdx (lo hi:Option Int) (n:Nat):Builtin.Str.strSliceIndices lo hi 1 n=(List.range (HT.sIx n n hi-HT.sIx n 0 lo)).map (HT.sIx n 0 lo+·):=by
 rw [<- sliceRange_one]
 have e1:=sIx_clip n 0 lo
 have e2:=sIx_clip n n hi
 rw [<- e1,<- e2]
 rfl
theorem slice_cut (z:Str) (lo hi:Option Int):Txt.slice z lo hi=cutS z lo hi:=by
 have hL:=HT.sIx_le z.length 0 (Qr _) lo
 have hH:=HT.sIx_le z.length z.length (Qh _) hi
 have hz:z.cps.toList.length=z.length:=by simp [Str.length]
 unfold Txt.slice cutS
 rw [sliceIdx]
 split
 ·rename_i h
  have h':HT.sIx z.length z.length hi-HT.sIx z.length 0 lo=z.length:=by simpa using h
  rw [h']
  by_cases h0:HT.sIx z.length 0 lo=0
  ·rw [h0,List.drop_zero,List.take_of_length_le (by omega)]
  ·have:z.length=0:=by omega
   omega
 ·rw [pick_run]
theorem cutS_list (z:Str) (lo hi:Option Int):(cutS z lo hi).cps.toList=(z.cps.toList.drop (HT.sIx z.length 0 lo)).take (HT.sIx z.length z.length hi-HT.sIx z.length 0 lo):=rfl
theorem cutS_from (z:Str) (k:Nat):(cutS z (some (k:Int)) none).cps.toList=z.cps.toList.drop k:=by
 rw [cutS_list,HT.sIx_none,HT.sIx_nat]
 have hz:z.cps.toList.length=z.length:=by simp [Str.length]
 rcases Nat.le_total k z.length with h | h
 ·rw [Nat.min_eq_left h,List.take_of_length_le];rw [List.length_drop];omega
 ·rw [Nat.min_eq_right h,Nat.sub_self,List.take_zero,List.drop_of_length_le (by omega)]
theorem sl_str:SlR X (fun x lo hi H Q=>∃ z,x=.str z/\z.length<=sizeLine/\Q (.str (cutS z lo hi)) H):=by
 intro pins s σ H x v vl vu lo hi sl Q I rx hs pl pu h
 obtain ⟨z,rfl,hz,q⟩:=h
 obtain ⟨t,rfl⟩:=rx
 rw [<- slice_cut] at q
 refine ⟨"str",_,slot_str_getitem.lookup,typeIs_str s z t,?_⟩
 have key:∀ (l u:Option (Int × Tok)),s.heap.IsSliceOf sl (partValue l) (partValue u) .none->l.map (·.1)=lo->u.map (·.1)=hi->wpAny (model X.prog X.w) X.A (getItem (.str z t) (.ref sl)) (EP X pins σ Q) X.xe s:=by
  intro l u hs' hl hu
  subst hl hu
  exact wpAny_getItem_str_slice (l:=l) (u:=u) (st:=none) hs' rfl (post_val_or_str ⟨QA (Txt.slice_le z _ _) hz,fun t' k=>⟨.str (Txt.slice z (l.map (·.1)) (u.map (·.1))),H,I.tok k,⟨t',rfl⟩,q⟩⟩)
 cases pl with
 | none=>cases pu with
  | none=>exact key none none hs rfl rfl
  | int j tj=>exact key none (some (j,tj)) hs rfl rfl
 | int i ti=>cases pu with
  | none=>exact key (some (i,ti)) none hs rfl rfl
  | int j tj=>exact key (some (i,ti)) (some (j,tj)) hs rfl rfl
theorem mt_find:MtR X "str.find" (fun x xs H Q=>∃ a b,x=.str a/\xs=[.str b]/\Q (.int (match Builtin.Str.occurrences a b 0 a.length 1 with | i::_=>(i:Int) | []=>-1)) H):=by
 intro pins s σ H x xs v us Q I rx rs h
 obtain ⟨a,b,rfl,rfl,q⟩:=h
 obtain ⟨t,rfl⟩:=rx
 obtain ⟨u,rfl,ru⟩:=vals1 rs
 obtain ⟨t',rfl⟩:=ru
 exact call_gives PySem.F.slot_str_find (typeIs_str s a t) PySem.F.entry_str_find (PySem.F.args_str_find_2 _ _) (gives_str_find a b t t') ⟨.int _,H,I.tok _,⟨_,rfl⟩,q⟩
noncomputable def ItN (n:Nat) (y:Nat->V):It:=⟨fun i _=>i<n,fun i H x H'=>H'=H/\x=y i,fun i _=>n<=i⟩
theorem for_N {n:Nat} {y:Nat->V} {g:TG} {tb:TS} {D:Ends} {σ:St} {H:Hp} (Pv:Nat->St->Hp->Prop) (h0:Pv 0 σ H)
  (hs:∀ i σ H,i<n->Pv i σ H->g (y i) σ H fun σ2 H2=>tb { D with nx:=Pv (i+1),ct:=Pv (i+1),bk:=D.nx } σ2 H2) (hd:∀ σ H,Pv n σ H->D.nx σ H) :
  ∃ W:Nat->Nat->St->Hp->Prop,(∃ m,W 0 m σ H)/\∀ i m σ H,W i m σ H ->
   ((ItN n y).stop i H/\D.nx σ H)∨((ItN n y).go i H/\∃ N:St->Hp->Prop,(∀ σ' H',N σ' H'->∃ m',m'<m/\W (i+1) m' σ' H')/\∀ x H',(ItN n y).yld i H x H'->g x σ H' fun σ2 H2=>tb { D with nx:=N,ct:=N,bk:=D.nx } σ2 H2):=by
 refine ⟨fun i m σ H=>m=n-i/\i<=n/\Pv i σ H,⟨n,by simp,Qr _,h0⟩,?_⟩
 rintro i m σ H ⟨rfl,hi,p⟩
 by_cases hlt:i<n
 ·refine .inr ⟨hlt,Pv (i+1),fun σ' H' p'=>⟨n-(i+1),by omega,rfl,hlt,p'⟩,fun x H' y=>?_⟩
  obtain ⟨e,y⟩:=y
  subst e y
  exact hs i σ _ hlt p
 ·have e:i=n:=by omega
  subst e
  exact .inl ⟨Qh _,hd σ H p⟩
end
end L2
namespace PySem.F
theorem slot_reversed_init:Slot "reversed" "__init__" "object.__init__" :=
 .of (owner:="object") (n:="__init__") (by rw [typeLookup_type,builtinLookup_eq_fast];kernel_rfl) (by decide +kernel) (by decide +kernel) (by decide +kernel)
  (by first | exact .inl (by decide +kernel) | exact .inr (by decide +kernel)) (by rw [isSubtype_type];kernel_rfl)
theorem called_reversed:TypeCalled "reversed" "reversed.__new__" "object.__init__" :=
 ⟨by decide +kernel,by decide +kernel,⟨_,_,mro_reversed⟩,made_reversed,by decide +kernel,by rw [isSubtype_type];kernel_rfl,slot_reversed_init⟩
theorem owner_reversed:Manifest.owners.lookup (String.ofList ['d','e','s','r','e','v','e','r'].reverse)=some Manifest.sig_reversed:=by kernel_rfl
theorem slot_reversed_next:Slot "reversed" "__next__" "reversed.__next__" :=
 .of (owner:="reversed") (n:="__next__") (by rw [typeLookup_type,builtinLookup_eq_fast];kernel_rfl) (by decide +kernel) (by decide +kernel) (by decide +kernel)
  (by first | exact .inl (by decide +kernel) | exact .inr (by decide +kernel)) (by rw [isSubtype_type];kernel_rfl)
theorem entry_reversed_next:entryFor table "reversed.__next__"=some Builtin.«reversed.__next__»:=entryFor_of_tree (by kernel_rfl)
theorem args_reversed_next_1 (a:Value):argsOk "reversed.__next__" ⟨[a],[]⟩:=by
 unfold argsOk;rw [signature?_of (id:="reversed.__next__") (n:=['_','_','t','x','e','n','_','_']) (o:=['d','e','s','r','e','v','e','r']) (by kernel_rfl) owner_reversed];kernel_rfl
theorem slot_reversed_iter:Slot "reversed" "__iter__" "reversed.__iter__" :=
 .of (owner:="reversed") (n:="__iter__") (by rw [typeLookup_type,builtinLookup_eq_fast];kernel_rfl) (by decide +kernel) (by decide +kernel) (by decide +kernel)
  (by first | exact .inl (by decide +kernel) | exact .inr (by decide +kernel)) (by rw [isSubtype_type];kernel_rfl)
theorem args_reversed_iter_1 (a:Value):argsOk "reversed.__iter__" ⟨[a],[]⟩:=by
 unfold argsOk;rw [signature?_of (id:="reversed.__iter__") (n:=['_','_','r','e','t','i','_','_']) (o:=['d','e','s','r','e','v','e','r']) (by kernel_rfl) owner_reversed];kernel_rfl
theorem entry_reversed_iter:entryFor table "reversed.__iter__"=some Builtin.«dict_keyiterator.__iter__» :=
 entryFor_alias (id':="dict_keyiterator.__iter__") (by kernel_rfl) (by first | rfl | decide +kernel | (unfold String.splitOn;simp +decide [String.splitOnAux])) (by decide +kernel) (by kernel_rfl)
theorem str_no_reversed:typeLookup (.type "str") "__reversed__"=pure none:=by rw [typeLookup_type,builtinLookup_eq_fast];kernel_rfl
end PySem.F
namespace PySem
section
variable {prog:Program} {w:World} {A:Around} {E:Value->Shared->Prop} {s:Shared}
noncomputable def revS (x:Str) (t:Tok) (i:Int):Obj:={ cls:=.type "reversed",data:=.fields #[.str x t,rawInt i] }
noncomputable def Heap.IsRevS (h:Heap) (a:Addr) (x:Str) (t:Tok) (i:Int):Prop:=∃ o,h.get? a=some o/\o.cls=.type "reversed"/\o.data=.fields #[.str x t,rawInt i]
theorem Heap.IsRevS.typeIs {a:Addr} {x:Str} {t:Tok} {i:Int} (y:s.heap.IsRevS a x t i):s.TypeIs (.ref a) "reversed":=by obtain ⟨o,ho,hc,_⟩:=y;exact ⟨o,ho,hc⟩
theorem Heap.IsRevS.at {h h':Heap} {a:Addr} {x:Str} {t:Tok} {i:Int} (y:h.IsRevS a x t i) (e:∀ o,h.get? a=some o->h'.get? a=some o):h'.IsRevS a x t i:=by obtain ⟨o,ho,r⟩:=y;exact ⟨o,e _ ho,r⟩
theorem code_reversed_newS {x:Str} {t:Tok} {Q₁:Value->Shared->Prop} (hz:x.length<=sizeLine)
  (h:∀ tk,Q₁ (.ref s.heap.objs.size) { s with heap:=s.heap.push (revS x t ((x.length:Int)-1)),toks:=tk }) :
  codeAny (model prog w) A (.call (.builtin "reversed.__new__") ⟨[.type "reversed",.str x t],[]⟩) (wants Q₁ E) s:=by
 refine codeAny_of_tree ?_
 show wpAny _ A.in1 (do checkBuiltinCall "reversed.__new__" ⟨[.type "reversed",.str x t],[]⟩;again (.builtin "reversed.__new__" ⟨[.type "reversed",.str x t],[]⟩)) _ _ s
 refine Qb (wpAny_of_eq (F.newCall_reversed_1 _) (Qg ⟨plainId_quiet F.plain_reversed_new _,codeAny_builtin F.entry_reversed_new ?_⟩))
 rw [Around.under_plainId F.plain_reversed_new _]
 unfold Builtin.«reversed.__new__»
 refine Qb (wpAny_of_eq (newClass_reversed _) ?_)
 try dsimp only
 refine Qb (wpAny_of_eq (a:=()) (by first | rfl | kernel_rfl) ?_)
 refine Qb (wpAny_of_eq (a:=()) (by first | rfl | kernel_rfl) ?_)
 try dsimp only
 refine Qb (wpAny_specialOf (typeIs_str s x t) F.str_no_reversed ?_)
 show wpAny _ _ (_ >>= _) _ _ _
 refine Qb (wpAny_of_eq (a:=true) (by kernel_rfl) ?_)
 rw [if_neg (show ¬ ((!true)=true) from Bool.false_ne_true)]
 refine Qb (PyProof.Rows.len_str (by rw [sizeLine_eq] at hz;omega) ?_)
 refine Qb (wpAny_of_eq (a:=some (x.length:Int)) rfl ?_)
 try dsimp only
 refine Qb ?_
 unfold Builtin.SmallTypes.newRecord
 refine wpAny_newObj_type (Qg ?_)
 exact h _
theorem call_reversed_str {x:Str} {t:Tok} {Q:Value->Shared->Prop} (hz:x.length<=sizeLine)
  (h:∀ tk,Q (.ref s.heap.objs.size) { s with heap:=s.heap.push (revS x t ((x.length:Int)-1)),toks:=tk }):wpAny (model prog w) A (call (.type "reversed") [.str x t]) Q E s:=by
 refine callType_codes (Q₁:=fun obj s₁=>obj=.ref s.heap.objs.size/\∃ tk,s₁={ s with heap:=s.heap.push (revS x t ((x.length:Int)-1)),toks:=tk }) F.called_reversed (F.typeCall_reversed_1 _) F.entry_object_init
  (code_reversed_newS hz fun tk=>⟨rfl,tk,rfl⟩) fun obj s₁ h₁=>?_
 obtain ⟨rfl,tk,rfl⟩:=h₁
 have hT:({ s with heap:=s.heap.push (revS x t ((x.length:Int)-1)),toks:=tk }:Shared).TypeIs (.ref s.heap.objs.size) "reversed":=⟨_,Qs _ rfl,rfl⟩
 exact ⟨hT,F.args_object_init_2 _ _,object_init_meets F.called_reversed.init.lookup F.called_reversed.made (by decide) prog w A.in1 _ _ ⟨hT,rfl,h tk⟩⟩
theorem revS_item {it:Addr} {x:Str} {t:Tok} {i:Nat} {c:Nat} {Q:Option Value->Shared->Prop} (hz:x.length<=sizeLine) (hit:s.heap.IsRevS it x t (i:Int)) (hc:x.cps.toList[i]?=some c)
  (hQ:∀ h' tk tc,h'.IsRevS it x t ((i:Int)-1)->Heap.SameBut it s.heap h'->Q (some (.str ⟨#[c]⟩ tc)) { s with heap:=h',toks:=tk }):wpAny (model prog w) A (pyNext (.ref it)) Q E s:=by
 obtain ⟨o,ho,hcl,hd⟩:=id hit
 unfold pyNext
 refine Qb (wpAny_attempt (wpAny_callSpecial?_slot (name:=Str.ofString "__next__") hit.typeIs F.slot_reversed_next
  (wpAny_call_entry F.slot_reversed_next hit.typeIs F.entry_reversed_next ?_ (F.args_reversed_next_1 _))))
 unfold Builtin.«reversed.__next__»
 refine Qb (wpAny_of_eq (a:=(Value.ref it,[])) rfl ?_)
 try dsimp only
 refine Qb (wpAny_field ho hd (x:=.str x t) rfl ?_)
 refine Qb (wpAny_field ho hd (x:=rawInt (i:Int)) rfl ?_)
 show wpAny _ _ (if (i:Int)<0 then _ else _) _ _ s
 rw [if_neg (by omega)]
 refine Qb (wpAny_specialOf (typeIs_str s x t) F.slot_str_getitem.lookup ?_)
 rw [if_neg (show ¬ ((some (Value.builtin "str.__getitem__")).isNone=true) from Bool.false_ne_true)]
 refine Qb (wpAny_mkInt ?_)
 have hil:i<x.length:=by
  have:=(Qc hc).1
  simpa [Str.length] using this
 rw [sizeLine_eq] at hz
 have hsq:(seqIndex? (i:Int) x.length).bind (x.cps[·]?)=some c:=by
  have:seqIndex? (i:Int) x.length=some i:=by
   unfold seqIndex?
   simp only [show ¬ ((i:Int)<0) by omega,if_false]
   simp [hil]
  rw [this]
  simpa using hc
 refine Qb (wpAny_attempt (PyProof.Rows.getItem_str (c:=c) (by
  have e1:decide ((i:Int) < -(2 ^ 63:Int))=false:=Qe (by omega)
  have e2:decide ((i:Int) ≥ 2 ^ 63)=false:=Qe (by omega)
  rw [e1,e2,Bool.or_false]) hsq ?_))
 try dsimp only
 refine Qb (wpAny_field ho hd (x:=rawInt (i:Int)) rfl ?_)
 show wpAny _ _ (setField (.ref it) 1 (rawInt ((i:Int)-1)) >>= _) _ _ _
 refine Qb (wpAny_setField ho hd (by simp) ?_)
 first
 | refine Qg ⟨_,rfl,Qg (hQ _ _ _ ?_ (Heap.SameBut.update ..))⟩
 | refine Qb (Qg (Qg ⟨_,rfl,Qg (hQ _ _ _ ?_ (Heap.SameBut.update ..))⟩))
 exact ⟨_,Heap.get?_update_self _ ho (Obj.isFreed_of_fields (Obj.data_mapFields hd _)),(Obj.cls_mapFields ..).trans hcl,by
  rw [Obj.data_mapFields hd];simp⟩
theorem stop_throws {α:Type} {Q:α->Shared->Prop} {s:Shared} (hh:A.handled=none)
  (h:∀ (h':Heap) (e:Addr),(∀ b o,s.heap.get? b=some o->h'.get? b=some o)->({ s with heap:=h' }:Shared).TypeIs (.ref e) "StopIteration"->E (.ref e) { s with heap:=h' }) :
  wpAny (model prog w) A (Builtin.SmallTypes.stopIteration:Sem α) Q E s:=by
 unfold Builtin.SmallTypes.stopIteration newExc newTuple
 refine Qb (Qb (wpAny_newObj_type ?tup (by size_fits)))
 refine Qb (wpAny_of_eq (a:=Value.none) (by first | rfl | (unfold firstArgMember;rfl)) (wpAny_newObj_type ?exc (by size_fits)))
 unfold raiseNew
 refine Qb (wpAny_handled ?_)
 rw [hh]
 exact Qb (Qg (wpAny_throw (h _ _ (fun b o z=>Qf _ (Qf _ z)) ⟨_,Qs _ rfl,rfl⟩)))
theorem revS_end {it:Addr} {x:Str} {t:Tok} {Q:Option Value->Shared->Prop} (hh:A.handled=none) (hit:s.heap.IsRevS it x t (-1))
  (hQ:∀ h',Heap.ExtBut it s.heap h'->Q none { s with heap:=h' }):wpAny (model prog w) A (pyNext (.ref it)) Q E s:=by
 obtain ⟨o,ho,hcl,hd⟩:=id hit
 unfold pyNext
 refine Qb (wpAny_attempt (wpAny_callSpecial?_slot (name:=Str.ofString "__next__") hit.typeIs F.slot_reversed_next
  (wpAny_call_entry F.slot_reversed_next hit.typeIs F.entry_reversed_next ?_ (F.args_reversed_next_1 _))))
 unfold Builtin.«reversed.__next__»
 refine Qb (wpAny_of_eq (a:=(Value.ref it,[])) rfl ?_)
 try dsimp only
 refine Qb (wpAny_field ho hd (x:=.str x t) rfl ?_)
 refine Qb (wpAny_field ho hd (x:=rawInt (-1)) rfl ?_)
 show wpAny _ _ (if (-1:Int)<0 then _ else _) _ _ s
 rw [if_pos (by decide)]
 refine Qb (wpAny_rule ?_)
 refine Qb ?_
 show wpAny _ _ (setField (.ref it) 1 (rawInt (-1)) >>= fun _=>setField (.ref it) 0 .none) _ _ s
 refine Qb (wpAny_setField ho hd (by simp) ?_)
 have ho2:=Heap.get?_update_self (Obj.mapFields (·.setIfInBounds 1 (rawInt (-1)))) ho (Obj.isFreed_of_fields (Obj.data_mapFields hd _))
 refine wpAny_setField ho2 (Obj.data_mapFields hd _) (by simp) ?_
 have hx:Heap.ExtBut it s.heap ((s.heap.update it (Obj.mapFields (·.setIfInBounds 1 (rawInt (-1))))).update it (Obj.mapFields (·.setIfInBounds 0 Value.none))):=fun b o hb e=>by
  rw [Heap.get?_update_other _ _ (Ne.symm hb),Heap.get?_update_other _ _ (Ne.symm hb)];exact e
 generalize (s.heap.update it (Obj.mapFields (·.setIfInBounds 1 (rawInt (-1))))).update it (Obj.mapFields (·.setIfInBounds 0 Value.none))=h1 at hx
 refine Qb (stop_throws hh fun h2 e k2 hty=>?_)
 exact Qb (wpAny_isInstance hty isSubtype_stop (Qg (hQ h2 fun b o hb z=>k2 b o (hx b o hb z))))
theorem revS_iter {it:Addr} {x:Str} {t:Tok} {i:Int} {Q:Value->Shared->Prop} (hit:s.heap.IsRevS it x t i) (h:Q (.ref it) s):wpAny (model prog w) A (pyIter (.ref it)) Q E s:=by
 refine wpAny_pyIter_slot hit.typeIs F.slot_reversed_iter (wpAny_call_entry F.slot_reversed_iter hit.typeIs F.entry_reversed_iter ?_ (F.args_reversed_iter_1 _))
 show wpAny _ _ (ret (.ref it)) _ _ s
 exact Qg ⟨_,rfl,"reversed",_,hit.typeIs,F.slot_reversed_next.lookup,h⟩
end
end PySem
namespace L2
open PySem PySem.Spec PyProof.Rows
noncomputable def revAt (z:Str) (i:Nat):V:=.str ⟨#[z.cps.toList.getD (z.length-1-i) 0]⟩
theorem turn_revS {P:Program} {w:World} {K:PySem.W.Frag} {tg:Expr} (it:Addr) (z:Str) (t:Tok) (hz:z.length<=sizeLine) :
  Turn P w K tg (ItN z.length (revAt z)) [it] it (fun i h=>i<=z.length/\h.IsRevS it z t ((z.length:Int)-1-(i:Int))) where
 mem:=by simp
 obj:=fun i h st b hb=>by
  have e:b=it:=by simpa using hb
  subst e
  obtain ⟨_,o,e,c,d⟩:=st
  exact ⟨o,e,fun v z=>by rw [d] at z;cases z⟩
 keep:=fun i h h' st k=>⟨st.1,st.2.at fun o e=>k it (by simp) o e⟩
 item:=by
  intro X hP hw hK hc i pins s σ H E I hf st hg
  subst hP hw hK
  have hg:i<z.length:=hg
  obtain ⟨f0,f1,f2,f3,f4,f5⟩:=hf it (by simp)
  have hl:z.cps.toList.length=z.length:=by simp [Str.length]
  have hlt:z.length-1-i<z.cps.toList.length:=by omega
  have hcc:z.cps.toList[z.length-1-i]?=some (z.cps.toList.getD (z.length-1-i) 0):=by
   rw [Qu,Qa hlt];rfl
  have e1:(z.length:Int)-1-(i:Int)=((z.length-1-i:Nat):Int):=by omega
  have hit:=st.2
  rw [e1] at hit
  refine revS_item hz hit hcc fun h' tk tc st' sb=>?_
  have I1:Inv X pins σ H { s with heap:=h',toks:=tk }:=I.turned (fun b o hb e=>(sb.2 b hb).trans e) f0 f1 f3 f4 f5
  have e2:((z.length-1-i:Nat):Int)-1=(z.length:Int)-1-((i+1:Nat):Int):=by omega
  rw [e2] at st'
  obtain ⟨o,e,c,d⟩:=id st'
  exact ⟨_,rfl,go_of (s:={ s with heap:=h',toks:=tk }) e c d (by decide) ⟨revAt z i,H,I1,⟨tc,rfl⟩,⟨rfl,rfl⟩,⟨hg,st'⟩,fun b hb=>(hf b hb).1⟩⟩
 done:=by
  intro X hP hw hK hc i pins s σ H E I hf st hg
  subst hP hw hK
  have hg:z.length<=i:=hg
  obtain ⟨f0,f1,f2,f3,f4,f5⟩:=hf it (by simp)
  have hit:=st.2
  rw [show (z.length:Int)-1-(i:Int)=-1 by have:=st.1;omega] at hit
  exact revS_end (I.ok.hd hc) hit fun h' eb=>⟨rfl,I.turned (t':=s.toks) (fun b o hb e=>eb b o hb e) f0 f1 f3 f4 f5⟩
 self:=fun _ _ _ _ _ st h=>revS_iter st.2 h
section
variable {X:Cx} {tg:Expr}
noncomputable def iRevS (ta:TA):TI:=fun σ H R=>ta σ H fun vs H1=>∃ z:Str,vs=[.str z]/\z.length<=sizeLine/\R (ItN z.length (revAt z)) H1
theorem pi_revstr {a:Expr} {ta:TA} {p pos:Pos} (hg:Gl X "reversed") (hm:X.mg "reversed"=none) (ha:PA X [a] ta) (hs:starEach [a] X.env=[(false,eval a X.env)]:=by rfl):PI X tg (.Call (.Name "reversed" p) [a] [] pos) (iRevS ta):=by
 intro pins s σ H R I h
 refine Call_ (ld_blt I hg hm boot_reversed (PyProof.Rows.callWith_type1 (thn (ha pos pins s σ H _ I h) fun us s1 hsl44=>?_) hs rfl))
 obtain ⟨vs,H1,I1,r1,q1⟩:=hsl44
 obtain ⟨z,e,hz,q⟩:=q1
 subst e
 obtain ⟨u,rfl,t,rfl⟩:=vals1 r1
 refine call_reversed_str hz fun tk=>?_
 have I2:Inv X pins σ H1 { s1 with heap:=s1.heap.push (revS z t ((z.length:Int)-1)),toks:=tk }:=I1.kept fun b o e=>Qf _ e
 have st:(s1.heap.push (revS z t ((z.length:Int)-1))).IsRevS s1.heap.objs.size z t ((z.length:Int)-1-((0:Nat):Int)):=⟨_,Qs _ rfl,rfl,by simp [revS]⟩
 refine revS_iter (s:={ s1 with heap:=s1.heap.push (revS z t ((z.length:Int)-1)),toks:=tk }) st ?_
 refine ⟨s1.heap.objs.size,[s1.heap.objs.size],_,_,H1,rfl,I2,turn_revS _ z t hz,⟨Qr _,st⟩,fun b hb=>?_,q⟩
 have e:b=s1.heap.objs.size:=by simpa using hb
 subst e
 exact I1.fpOk (Qh _) (I1.hok.fresh (Qh _))
end
end L2
namespace L2
open PySem PySem.Spec PyProof.Rows
structure KDict (P:Program) (w:World) (K:PySem.W.Frag) (a:Addr) (kvs:List (Str × Int)):Prop where
 ns:(a == sysModules)=false
 ob:∃ (o:Obj) (vs:List (Key × Value)),K.lookup a=some o/\o.cls=.type "dict"/\o.dict=none/\(∀ h:Heap,h.get? a=some o->h.DictOf (mixKind P w) a vs) /\
  ∀ k:Str,(∀ i,kvs.lookup k=some i->∃ t,valueAt vs (Sum.inr k:Key)=some (.int i t))/\(kvs.lookup k=none->valueAt vs (Sum.inr k:Key)=none)
noncomputable abbrev KE4:=Str × Tok × Int × Tok
noncomputable def kEnt (w:World) (e:KE4):DictEntry:=⟨hashStr w e.1,.str e.1 e.2.1,.int e.2.2.1 e.2.2.2⟩
noncomputable def kPr (e:KE4):Key × Value:=(Sum.inr e.1,.int e.2.2.1 e.2.2.2)
theorem kPairs {P:Program} {w:World}:∀ es:List KE4,Pairs (mixKind P w) (es.map (kEnt w)) (es.map kPr)
 | []=>.nil
 | e::r=>.cons (mixKind_str P w e.1 e.2.1) rfl (kPairs r)
theorem kVal (k:Str):∀ es:List KE4,(∀ i,(es.map fun e=>(e.1,e.2.2.1)).lookup k=some i->∃ t,valueAt (es.map kPr) (Sum.inr k:Key)=some (.int i t))/\((es.map fun e=>(e.1,e.2.2.1)).lookup k=none->valueAt (es.map kPr) (Sum.inr k:Key)=none)
 | []=>⟨fun i h=>by simp at h,fun _=>rfl⟩
 | e::r=>by
  obtain ⟨h1,h2⟩:=kVal k r
  simp only [List.map_cons,List.lookup_cons]
  by_cases hk:k=e.1
  ·subst hk
   simp only [beq_self_eq_true]
   refine ⟨fun i h=>?_,fun h=>nomatch h⟩
   cases h
   exact ⟨e.2.2.2,by simp [valueAt,kPr]⟩
  ·have hb:(k == e.1)=false:=beq_eq_false_iff_ne.mpr hk
   have hn:¬ ((kPr e).1=(Sum.inr k:Key)):=fun z=>hk (by
    have z':(Sum.inr e.1:Key)=Sum.inr k:=z
    injection z' with z'
    exact z'.symm)
   have ev:valueAt (kPr e::r.map kPr) (Sum.inr k:Key)=valueAt (r.map kPr) (Sum.inr k:Key):=by
    unfold valueAt
    rw [List.find?_cons_of_neg (by simpa using hn)]
   rw [hb,ev]
   exact ⟨h1,h2⟩
theorem kdict_mk {P:Program} {w:World} {K:PySem.W.Frag} {a:Addr} {ep:Nat} {es:List KE4} (hs:(a == sysModules)=false)
  (hl:K.lookup a=some ⟨.type "dict",none,.dict (es.map (kEnt w)).toArray ep,#[]⟩) (nd:(es.map (·.1)).Nodup):KDict P w K a (es.map fun e=>(e.1,e.2.2.1)):=by
 refine ⟨hs,_,es.map kPr,hl,rfl,rfl,fun h e=>⟨_,_,_,e,⟨rfl,rfl,rfl⟩,rfl,?_,kPairs es,?_⟩,fun k=>kVal k es⟩
 ·intro x hx
  have hx':x∈es.map (kEnt w):=by simpa using hx
  obtain ⟨y,_,rfl⟩:=Qy hx'
  exact ⟨Sum.inr y.1,mixKind_str P w y.1 y.2.1,rfl⟩
 ·have e1:(es.map kPr).map (·.1)=(es.map (·.1)).map (Sum.inr:Str->Key):=by rw [List.map_map,List.map_map];rfl
  rw [e1]
  refine List.Pairwise.map _ (fun x y hxy hz=>hxy ?_) nd
  injection hz
section
variable {X:Cx} {a:Addr} {kvs:List (Str × Int)} {x:Str} {p pos apos cpos:Pos} {e f:Expr} {ty tx:TE}
theorem KDict.here {pins:List (Addr × Obj)} {σ:St} {H:Hp} {s:Shared} (D:KDict X.prog X.w X.K a kvs) (I:Inv X pins σ H s) :
  ∃ vs:List (Key × Value),s.heap.DictOf (mixKind X.prog X.w) a vs/\(∀ b,Value.ref a=.ref b->∃ ob,s.heap.get? b=some ob/\ob.dict=none) /\
   ∀ k:Str,(∀ i,kvs.lookup k=some i->∃ t,valueAt vs (Sum.inr k:Key)=some (.int i t))/\(kvs.lookup k=none->valueAt vs (Sum.inr k:Key)=none):=by
 obtain ⟨o,vs,hk,hc,hd,hh,hv⟩:=D.ob
 have e:=I.kIn a o hk
 exact ⟨vs,hh _ e,fun b q=>by cases q;exact ⟨o,e,hd⟩,hv⟩
noncomputable def tKGet2 (kvs:List (Str × Int)) (ty tx:TE):TE:=fun σ H Q=>ty σ H fun y H1=>tx σ H1 fun z H2=>∃ (k:Str) (v:V),y=.str k/\((kvs.lookup k).map V.int).getD z=v/\Q v H2
theorem pe_kget2 (D:KDict X.prog X.w X.K a kvs) (hg:Gl X x) (hm:X.mg x=some (.ref a)) (he:PE X e ty) (hf:PE X f tx)
  (hbase:attributeBase (.Name x p) "get" X.env (eval (.Name x p) X.env)=eval (.Name x p) X.env:=by rfl)
  (hfew:((backTo cpos (starEach [e,f] X.env)).all (fun x=>!x.1)&&(backToKw cpos (keywordEach [] X.env)).all (fun x=>x.1.isSome)
   && decide (([e,f]:List Expr).length+([]:List Keyword).length+(if ([]:List Keyword).isEmpty then 0 else 1)<30))=true:=by rfl)
  (hline:(apos.endLine == cpos.line)=true:=by rfl) (htrees:backTo cpos (starEach [e,f] X.env)=[(false,eval e X.env),(false,eval f X.env)]:=by rfl) (hd:(x == ("__debug__":Str))=false:=by decide) :
  PE X (.Call (.Attribute (.Name x p) "get" apos) [e,f] [] cpos) (tKGet2 kvs ty tx):=by
 intro pins s σ H Q I h
 refine wpAny_Call_method hbase hfew hline PySem.F.plainAttrs_dict PySem.F.slot_dict_get PySem.F.type_dict_get (ld_glob I hg hm ?_ hd)
 obtain ⟨vs,dd,hnd,hv⟩:=D.here I
 refine ⟨dd.typeIs,hnd,?_⟩
 rw [htrees]
 refine Calls.callWith_builtin rfl (Calls.evalArgs_plain (Calls.spliced_cons (thn (he pins s σ H _ I h) fun iv s2 ⟨y,H2,I2,ry,q2⟩ =>
  Calls.spliced_cons (thn (hf pins s2 σ H2 _ I2 q2) fun fv s3 ⟨z,H3,I3,rz,k,v,ey,ev,q3⟩=>Calls.spliced_nil ?_))))
 subst ey
 obtain ⟨t,rfl⟩:=ry
 obtain ⟨vs3,dd3,_,hv3⟩:=D.here I3
 refine call_meetsIn PySem.F.slot_dict_get dd3.typeIs PySem.F.entry_dict_get (PySem.F.args_dict_get_3 _ _ _) (meets_dict_get_default (mixKind X.prog X.w) a (k:=Sum.inr k) (mixKind_str _ _ k t) D.ns fv) ⟨_,dd3.mapOf,?_⟩
 refine ⟨v,H3,I3.tok _,?_,q3⟩
 subst ev
 cases hk:kvs.lookup k with
 | none=>rw [(hv3 k).2 hk];exact rz
 | some i =>
  obtain ⟨t',e⟩:=(hv3 k).1 i hk
  rw [e];exact ⟨t',rfl⟩
noncomputable def tKIn (kvs:List (Str × Int)) (ty:TE):TE:=fun σ H Q=>ty σ H fun y H1=>∃ k:Str,y=.str k/\Q (.bl (kvs.lookup k).isSome) H1
theorem pc_kin (D:KDict X.prog X.w X.K a kvs) (hg:Gl X x) (hm:X.mg x=some (.ref a)) (he:PE X e ty) (hd:(x == ("__debug__":Str))=false:=by decide):PC X .In e (.Name x p) (tKIn kvs ty):=by
 intro pins s σ H Q I h
 refine thn (he pins s σ H _ I h) fun iv s1 ⟨y,H1,I1,ry,k,ey,q⟩=>ld_glob I1 hg hm ?_ hd
 subst ey
 obtain ⟨t,rfl⟩:=ry
 obtain ⟨vs,dd,_,hv⟩:=D.here I1
 refine wpAny_in_of (k:=(Sum.inr k:Key)) (mixKind_str _ _ k t) D.ns dd.mapOf ?_
 refine ⟨_,H1,I1.tok _,?_,q⟩
 cases hk:kvs.lookup k with
 | none=>rw [(hv k).2 hk];rfl
 | some i =>
  obtain ⟨t',e⟩:=(hv k).1 i hk
  rw [e];rfl
noncomputable def tKIx (kvs:List (Str × Int)) (ty:TE):TE:=fun σ H Q=>ty σ H fun y H1=>∃ (k:Str) (i:Int),y=.str k/\kvs.lookup k=some i/\Q (.int i) H1
theorem pe_kix (D:KDict X.prog X.w X.K a kvs) (hg:Gl X x) (hm:X.mg x=some (.ref a)) (he:PE X e ty) (hs:PlainIx e) (hd:(x == ("__debug__":Str))=false:=by decide):PE X (.Subscript (.Name x p) e pos) (tKIx kvs ty):=by
 intro pins s σ H Q I h
 refine Subscript_ (ld_glob I hg hm ?_ hd)
 refine thn (he pins s σ H _ I h) fun iv s1 hsl45=>?_
 obtain ⟨y,H1,I1,ry,k,i,ey,hk,q⟩:=hsl45
 subst ey
 obtain ⟨t,rfl⟩:=ry
 obtain ⟨vs,dd,_,hv⟩:=D.here I1
 obtain ⟨t',e⟩:=(hv k).1 i hk
 exact tail_any dd.typeIs PySem.F.slot_dict_getitem.lookup (wpAny_getItem_of (k:=(Sum.inr k:Key)) (mixKind_str _ _ k t) dd.mapOf e ⟨.int i,H1,I1.tok _,⟨t',rfl⟩,q⟩) (hs _ _)
end
end L2
namespace L2
open PySem PySem.Spec PyProof.Rows
section
variable {X:Cx}
end
theorem kit_same (K:PySem.W.Frag) (C:Addr):PySem.W.kitOne K (.ref C) (.ref C)=some true:=by
 unfold PySem.W.kitOne
 rw [if_pos (by simp)]
theorem bt_str:bootBuiltins "str"=some (.type "str"):=by decide +kernel
end L2
namespace L2
open PySem PySem.Spec PyProof.Rows
section
variable {X:Cx}
end
structure Body (X:Cx):Prop where
 ex:X.ex=[]
 stk:X.stack=X.env::X.outer
 frm:X.env.frame=some X.env.locals
 fn:∀ x,X.fn x=true
theorem Body.wish {X:Cx} (b:Body X) (E:Value->Shared->Prop):Body (X.wish E):=⟨b.ex,b.stk,b.frm,b.fn⟩
section
variable {X:Cx} {pins:List (Addr × Obj)} {σ:St} {H H':Hp} {s s':Shared} {B h'':Heap}
theorem Body.frs (b:Body X):frs X.stack=X.env.locals::X.fs:=by
 show List.filterMap _ _=_
 rw [b.stk]
 simp [b.frm,Cx.fs,L2.frs]
theorem Body.old (b:Body X) (I:Inv X pins σ H s) {c:Addr} {o:Obj} (e:X.s₀.heap.get? c=some o) (hc:c∉X.fs):c∉L2.frs X.stack:=by
 rw [b.frs]
 intro hm
 rcases Qi hm with z | z
 ·exact absurd (Nat.lt_of_lt_of_le (Qn e) I.ok.above) (by rw [z];exact Nat.lt_irrefl _)
 ·exact hc z
theorem Body.cell (b:Body X) (I:Inv X pins σ H s) {x:Str} {c:Addr} (e:X.env.cells.lookup x=some c):c∉L2.frs X.stack:=by
 rw [b.frs]
 intro hm
 rcases Qi hm with z | z
 ·exact I.cne x c e z
 ·obtain ⟨o,ho,_⟩:=(I.ok.funs.mem (show c∈X.outer.filterMap (·.frame) from z)).2
  exact absurd (Nat.lt_of_lt_of_le (Qn ho) (I.ok.cab x c (b.fn x) e)) (Nat.lt_irrefl _)
theorem lands (b:Body X) (I:Inv X pins σ H s) (un:Un (L2.frs X.stack) [] H H' s.heap s'.heap) (hok:HOk X.prog X.w H' s'.heap) (os:s'.os=s.os) (bare:AllBare s'.gens)
  (hB1:B.StaysIn s'.heap) (hB2:B.StaysIn h'') (up:s'.heap.UpToSlots h'') (fr:∀ c∈L2.frs X.stack,∃ o,s'.heap.get? c=some o/\∀ vs,o.data≠.fields vs)
  (pres:∀ c o,s.heap.get? c=some o->c∉L2.frs X.stack->∃ o',B.get? c=some o') (trk:∀ a o,H' a=some o->∃ ob,B.get? a=some ob):Inv X pins σ H' { s' with heap:=h'' }:=by
 have I':Inv X pins σ H' s':=I.call' os un hok bare fun c hc=>absurd hc (by simp)
 have same:∀ c o,s'.heap.get? c=some o->(∃ o',B.get? c=some o')->h''.get? c=some o:=fun c o e ⟨o',eb⟩=>by
  have:=hB1 c o' eb
  rw [e] at this
  cases this
  exact hB2 c _ eb
 have inB:∀ c o,X.s₀.heap.get? c=some o->c∉X.fs->∃ o',B.get? c=some o':=fun c o e hc=>by
  obtain ⟨o1,e1⟩:=I.base.there c o e (by rw [b.ex];simp)
  exact pres c o1 e1 (b.old I e hc)
 have fsub:∀ c∈X.fs,c∈L2.frs X.stack:=fun c hc=>by rw [b.frs];exact Qm _ hc
 refine ⟨I'.ok,I'.os,I'.bare,⟨fun c o q n hb hx=>same c o (I'.base.keep c o q n hb hx) (inB c o q hb),fun c o q n hb hx=>?_,I'.base.free,fun c o q hx=>?_,I'.base.tups,I'.base.frzs,I'.base.tbls⟩,?_,fun x c e=>?_,I'.free,I'.freeC,fun p hp=>?_,fun a o e=>?_,I'.len⟩
 ·obtain ⟨sl,e1⟩:=I'.base.slot c o q n hb hx
  obtain ⟨o1,e2,nd⟩:=fr c (fsub c hb)
  rw [e1] at e2
  cases e2
  obtain ⟨sl',e3⟩:=up c _ e1 nd
  exact ⟨sl',e3⟩
 ·by_cases hb:c∈X.fs
  ·obtain ⟨o1,e2,nd⟩:=fr c (fsub c hb)
   obtain ⟨sl',e3⟩:=up c _ e2 nd
   exact ⟨_,e3⟩
  ·obtain ⟨o',eb⟩:=inB c o q hb
   exact ⟨o',hB2 c o' eb⟩
 ·obtain ⟨m,hn,hl⟩:=I'.loc
  refine ⟨m,up.ns hn,fun i x v e1 e2 e3=>?_⟩
  obtain ⟨u,r,lk⟩:=hl i x v e1 e2 e3
  refine ⟨u,r,?_⟩
  rcases lk with z | ⟨k,c,ec,oc,hc,hd⟩
  ·exact .inl z
  ·obtain ⟨v0,o0,ho0,_⟩:=I.cell x c ec
   exact .inr ⟨k,c,ec,oc,same c oc hc (pres c o0 ho0 (b.cell I ec)),hd⟩
 ·obtain ⟨v1,o1,ho1,hd1⟩:=I'.cell x c e
  obtain ⟨v0,o0,ho0,_⟩:=I.cell x c e
  exact ⟨v1,o1,same c o1 ho1 (pres c o0 ho0 (b.cell I e)),hd1⟩
 ·obtain ⟨e,n,ne,nf,d⟩:=I'.pin p hp
  obtain ⟨e0,_⟩:=I.pin p hp
  refine ⟨same p.1 p.2 e (pres p.1 p.2 e0 ?_),n,ne,nf,d⟩
  rw [b.frs]
  intro hm
  rcases Qi hm with z | z
  ·exact ne z
  ·exact nf z
 ·refine (I'.hok a o e).stay (fun c u hc q=>same c u q ?_) (fun _ q=>q) fun _ _ q=>q
  rcases hc with rfl | hc
  ·exact trk _ _ e
  ·exact trk _ _ hc
theorem frames_of {l:List Env} {h:Heap} (f:h.FunFrames B l):∀ c∈L2.frs l,∃ o,h.get? c=some o/\∀ vs,o.data≠.fields vs:=fun c hc=>(f.mem hc).2
end
section
variable {P:Program} {w:World} {K:PySem.W.Frag} {mg:Str->Option Value} {base:Heap} {N:List Str} {qual:Str} {scope:Scope} {f:Addr} {cd:Value} {A:Around} {outer:List Env} {s₀:Shared} {H₀:Hp} {E:XK}
theorem body_cx {CX:CXT}:Body (cxOf CX P w K mg base N qual scope f cd A outer s₀ H₀ E):=⟨rfl,rfl,rfl,fun _=>rfl⟩
theorem obj_is {X:Cx} {pins:List (Addr × Obj)} {σ:St} {H:Hp} {s:Shared} {a:Addr} {o:HO} (I:Inv X pins σ H s) (e:H a=some o):∃ ob,s.heap.get? a=some ob:=by
 have x:=I.hok a o e
 cases o with
 | lst xs=>obtain ⟨_,_,_,_,e⟩:=x;exact ⟨_,e⟩
 | tup xs=>obtain ⟨_,_,_,o,e,_⟩:=x;exact ⟨_,e⟩
 | dK kvs=>obtain ⟨_,_,_,_,o,_,_,e,_⟩:=x;exact ⟨_,e⟩
 | dT kvs=>obtain ⟨_,_,_,_,o,_,_,e,_⟩:=x;exact ⟨_,e⟩
 | set S n=>obtain ⟨o,_,_,_,e,_⟩:=x;exact ⟨_,e⟩
 | ins C dx fs=>obtain ⟨_,_,_,e,_⟩:=x;exact ⟨_,e⟩
 | own y=>exact x
 | xd fs=>obtain ⟨_,⟨_,_,_,e,_⟩,_⟩:=x;exact ⟨_,e⟩
 | rng lo hi=>obtain ⟨_,_,_,e⟩:=x;exact ⟨_,e⟩
 | frz ob u=>exact ⟨_,x.1⟩
 | tbl ps=>exact ⟨_,show s.heap.get? a=some _ from x⟩
 | met f y=>exact ⟨_,show s.heap.get? a=some _ from x⟩
 | ext φ=>exact x.2.1
end
section
variable {X:Cx}
end
end L2
namespace L2
open PySem PySem.Spec PyProof.Rows
section
variable {prog:Program} {w:World} {A:Around} {E:Value->Shared->Prop} {s:Shared} {K:PySem.W.Frag} {x D:Addr} {name:Str}
structure XCls (K:PySem.W.Frag) (D:Addr):Prop where
 hg:PySem.W.findIn K (.ref D) "__getattribute__"=some (some (.builtin "BaseException.__getattribute__"))
 hk:PySem.W.findIn K (.ref D) "__getattr__"=some none
 hb:PySem.W.mroIn K D (.type "BaseException")=some true
 ha:PySem.W.findIn K (.ref D) "__class__"=some (some (.builtin "object.__class__"))
 hn:PySem.W.specialIn K (.builtin "object.__class__") "__get__"=some (some (.builtin "getset_descriptor.__get__"))
 ht:PySem.W.takesIn K (.builtin "object.__class__")=some true
 hm:PySem.W.mroIn K D (.type "object")=some true
theorem XCls.hc (c:XCls K D):(PySem.W.clsIn K D).isSome=true:=by
 have q:=c.hm
 unfold PySem.W.mroIn at q
 cases h:PySem.W.clsIn K D with
 | none=>rw [h] at q;cases q
 | some _=>rfl
noncomputable def HasCls (a:Addr) (cls:Value) (h:Heap):Prop:=∃ o,h.get? a=some o/\o.cls=cls
open PySem.W in
theorem HasCls.type {M:Model} {h:Heap} {cls:Value} (p:HasCls x cls h):Looks M h (typeOf (.ref x)) cls:=by
 obtain ⟨o,h1,h2⟩:=p
 exact h2 ▸ (Looks.ld h1).andThen .now
open PySem.W PySem.Calls Builtin Builtin.ObjectAttr Builtin.Getset_descriptor in
theorem xc_get {R:Result->Shared->Prop} {tp:Value} (X:K.In s.heap) (I:HasCls x (.ref D) s.heap) (hm:mroIn K D (.type "object")=some true)
  (h:R (.ok (.ret (.ref D))) s):codeAny (model prog w) A (.call (.builtin "getset_descriptor.__get__") ⟨[.builtin "object.__class__",.ref x,tp],[]⟩) R s:=by
 obtain ⟨hh,g,dr,t,os⟩:=s
 have L0:=I.type (M:=model prog w)
 have L1:=looks_mroIn (M:=model prog w) X hm
 refine codeAny_call_builtin KF.slot_gs.plain KF.entry_gs (KF.slot_gs.check _ _ _ _ _ _ _ _ KF.type_class (KF.args_gs _ _ _) ?_)
 unfold Builtin.«getset_descriptor.__get__» descrGet
 rw [dga_obj]
 refine Qb (Qg ?_)
 unfold descrGetter descrCheckInstance descrNameAndClass isInstance
 simp only [KF.owner_class]
 repeat lk
 refine ⟨Code.quiet_builtin _ (by decide +kernel),codeAny_builtin KF.entry_class ?_⟩
 unfold Builtin.«object.__class__» shownTypeOf
 repeat lk
 exact h
open PySem.W PySem.Calls Builtin Builtin.ObjectAttr in
theorem xc_entry {tk:Tok} {Q:Fin->Shared->Prop} (c:XCls K D) (X:K.In s.heap) (I:HasCls x (.ref D) s.heap) (hq:Q (.done (.ret (.ref D))) s) :
  wpAny (model prog w) A (Builtin.«object.__getattribute__» ⟨[.ref x,.str "__class__" tk],[]⟩) Q E s:=by
 obtain ⟨hh,gg,d,t,os⟩:=s
 have L0:=I.type (M:=model prog w)
 have L1:Looks (model prog w) hh (find (.ref x) (.ref D) "__class__") (.bind (.builtin "getset_descriptor.__get__") (.builtin "object.__class__")):=by
  have L3:=looks_takesIn (M:=model prog w) X c.ht
  exact (looks_findIn X c.ha).andThen ((show Looks (model prog w) hh (getOf (some (.builtin "object.__class__"))) (some (.builtin "getset_descriptor.__get__")) from looks_specialIn X c.hn).andThen ((show Looks (model prog w) hh (dataDescriptor? (some (.builtin "object.__class__")) (some (.builtin "getset_descriptor.__get__"))) (some (.builtin "getset_descriptor.__get__",.builtin "object.__class__")) from L3.andThen .now).andThen (Looks.tag .now)))
 refine Qb (Qg (Qb (Qg (Qb (L0.at (Qb (L1.at ?_)))))))
 show wpAny _ _ (holding [Value.builtin "object.__class__"] (call (.builtin "getset_descriptor.__get__") [.builtin "object.__class__",.ref x,.ref D]) >>= ret) _ _ _
 exact Qb (wpAny_holding (wpAny_call (xc_get (s:=⟨hh,gg,d,t,os⟩) X I c.hm (Qg hq))))
open PySem.W PySem.Calls in
theorem xc_check {M:Model} {nameV:Value} {Q:Unit->Shared->Prop} (c:XCls K D) (X:K.In s.heap) (I:HasCls x (.ref D) s.heap) (hq:Q () s):wpAny M A (checkBuiltinCall "BaseException.__getattribute__" ⟨[.ref x,nameV],[]⟩) Q E s:=by
 have hk:builtinKind "BaseException.__getattribute__"=some .slot:=by decide +kernel
 have hsplit:splitId "BaseException.__getattribute__"=some ("BaseException","__getattribute__"):=by decide +kernel
 have ha:=F.args_bexc_ga (.ref x) nameV
 obtain ⟨hh,gg,d,t,os⟩:=s
 have L0:=I.type (M:=M)
 have L1:=looks_mroIn (M:=M) X c.hb
 have L2:Looks M hh (isInstance (.ref x) (.type "BaseException")) true:=L0.andThen L1
 simp only [checkBuiltinCall,hk,hsplit]
 refine Qb (L2.at ?_)
 repeat (first | exact hq | wp_step)
open PySem.W PySem.Calls in
theorem xc_class {Q:Option Value->Shared->Prop} (c:XCls K D) (X:K.In s.heap) (I:HasCls x (.ref D) s.heap) (h:Q (some (.ref D)) { s with toks:=s.toks+1 }):wpAny (model prog w) A (getAttr? (.ref x) "__class__") Q E s:=by
 obtain ⟨hh,g,d,t,os⟩:=s
 have L0:=I.type (M:=model prog w)
 have L1:=looks_findIn (M:=model prog w) X c.hg
 have L2:=looks_findIn (M:=model prog w) X c.hk
 unfold getAttr? getAttrBy? getAttrBy
 refine Qb (wpAny_mkText (Qb (wpAny_attempt (wpAny_holding (Qb (L0.at (Qb (L1.at ?_))))))))
 show wpAny _ _ (getAttrByItsOwn _ _ _ _ _ _) _ _ _
 unfold getAttrByItsOwn
 refine Qb ((show Looks (model prog w) hh (hookBefore (.ref D)) none from L2).at ?_)
 refine Qb (wpAny_attempt (wpAny_holding ?_))
 show wpAny _ _ (boundAndCalled _ _ _) _ _ _
 unfold boundAndCalled
 rw [F.excAttr_ValueError.ga.bind]
 refine Qb (Qg ?_)
 refine wpAny_call (codeAny_call_builtin F.excAttr_ValueError.ga.plain F.entry_bexc_ga (xc_check (s:=⟨hh,g,d,t+1,os⟩) c X I (xc_entry (s:=⟨hh,g,d,t+1,os⟩) c X I ?_)))
 refine handed_on rfl ?_
 exact Qg h
open PySem.W in
theorem kitx_exc (c:XCls K D):KitX K (.ref x) (.ref D) (HasCls x (.ref D)) where
 ty:=fun _ _ _ I=>I.type
 it:=fun _ _ X _=>by
  have hcD:=c.hc
  unfold clsIn at hcD
  split at hcD
  ·rename_i c' d' cd' sl' ho
   intro A' Q' E' s' k q
   unfold isType loadHead
   exact Qb (wpAny_loadPart (k _ _ (X _ _ ho)) (Qg q))
  ·cases hcD
 ne:=fun h tp dd its n sl X htp=>by
  have hcD:=c.hc
  refine Bool.eq_false_iff.mpr fun q=>?_
  have e:D=tp:=Value.ref.inj (beq_iff_eq.mp q)
  subst e
  unfold clsIn at hcD
  split at hcD
  ·rename_i c' d' cd' sl' ho
   have z:=(X _ _ ho).symm.trans htp
   cases z
  ·cases hcD
 ca:=fun X I k=>xc_class c X I k
end
section
variable {X:Cx}
end
noncomputable def PEX (CX:CXT) (X:Cx) (e:Expr) (t:XK->TE):Prop :=
 ∀ (E:XK) (xe':Value->Shared->Prop) (pins:List (Addr × Obj)) (s:Shared) (σ:St) (H:Hp) (Q:VK),(∀ H s e s',Inv X pins σ H s->CX X.stack H s E e s'->xe' e s')->Inv X pins σ H s->t E σ H Q ->
  wpAny (model X.prog X.w) X.A (eval e X.env) (EP X pins σ Q) xe' s
section
variable {X:Cx} {CX:CXT} {k:Nat} {f C:Addr} {fd:FuncData} {ps:List Str} {sp:Sp} {dvs:List V} {ds:List Value} {x m:Str} {p pos apos:Pos} {e o:Expr} {es:List Expr} {ta:TE} {t:TA}
theorem run_fnX {xe':Value->Shared->Prop} {E:XK} {pins:List (Addr × Obj)} {σ:St} {H:Hp} {s:Shared} {Q:VK} {us:List Value} {vs:List V} (F:FnOk X.prog X.w X.K X.mg X.base CX k f fd ps sp) (hr:Room k X.A) (hb:Binds X.K fd ps ds) (hd:Vals dvs ds)
  (hx:∀ H s e s',Inv X pins σ H s->CX X.stack H s E e s'->xe' e s')
  (I:Inv X pins σ H s) (r:Vals vs us) (h:sp (vs++dvs) H Q E):wpAny (model X.prog X.w) X.A (call (.ref f) us) (EP X pins σ Q) xe' s:=by
 have r2:Vals (vs++dvs) (us++ds):=r.append hd
 have hl:(us++ds).length=ps.length:=by rw [<- r2.length];exact F.len _ _ _ _ h
 refine wpAny_call (codeAny_mono (F.run X.A X.stack s H ⟨us,[]⟩ (us++ds) (vs++dvs) Q E hr I.env0 (hb s us I.kIn hl) r2 h) fun r s' hq=>?_)
 cases r with
 | error e=>exact hx H s e s' I hq
 | ok fl =>
  cases fl with
  | ret u=>exact I.after hq
  | next=>exact False.elim hq
  | brk=>exact False.elim hq
  | cont=>exact False.elim hq
theorem pex_call (F:FnOk X.prog X.w X.K X.mg X.base CX k f fd ps sp) (hr:Room k X.A) (hg:Gl X x) (hm:X.mg x=some (.ref f)) (hk:PySem.W.keepIn X.K (.ref f)=true) (hb:Binds X.K fd ps ds) (hd:Vals dvs ds)
  (ha:PA X.nox (e::es) t) (hdb:(x == ("__debug__":Str))=false:=by decide) (he:starEach (e::es) X.env=(false,eval e X.env)::starEach es X.env:=by rfl) (hpl:(backTo pos (starEach es X.env)).any (·.1)=false:=by rfl) :
  PEX CX X (.Call (.Name x p) (e::es) [] pos) (fun E=>tCall sp dvs E t):=by
 intro E xe' pins s σ H Q hx I h
 refine wpAny_Call_Name_kw (ld_glob I hg hm ?_ hdb)
 refine PySem.W.callWith_K (h₀:=X.base) I.ok.mod.kin hk (QC (ha pos pins s σ H _ (I.wish _) h) (fun us s1 ⟨vs,H1,I1,r,q⟩=>⟨I1.unwish.kIn,?_⟩) fun _ _ z=>False.elim z) he hpl
 exact run_fnX F hr hb hd hx I1.unwish r q
end
noncomputable abbrev Cx.hnd (X:Cx) (ea:Addr):Cx:={ X with A:=X.A.mark (some (.ref ea)),calm:=false,xe:=fun _ _=>False }
section
variable {X:Cx} {pins:List (Addr × Obj)} {σ:St} {H:Hp} {s:Shared}
theorem Cx.Ok.hnd (ok:X.Ok) (ea:Addr):(X.hnd ea).Ok :=
 ⟨ok.mod,ok.kind,ok.glob,ok.blt,ok.above,ok.inj,ok.has,ok.cab,(fun z=>nomatch z),ok.frames,ok.stk,ok.exf,ok.bs,ok.bsz,ok.noex,ok.exfs,ok.funs,ok.frf⟩
theorem Inv.hnd (I:Inv X pins σ H s) (ea:Addr):Inv (X.hnd ea) pins σ H s:=⟨I.ok.hnd ea,I.os,I.bare,I.base,I.loc,I.cell,I.free,I.freeC,I.pin,I.hok,I.len⟩
theorem Inv.unhnd {ea:Addr} (ok:X.Ok) (I:Inv (X.hnd ea) pins σ H s):Inv X pins σ H s:=⟨ok,I.os,I.bare,I.base,I.loc,I.cell,I.free,I.freeC,I.pin,I.hok,I.len⟩
theorem Inv.track (I:Inv X pins σ H s) {a:Addr} {o:HO} (hn:H a=none) (hs:X.s₀.heap.get? a=none) (hl:a≠X.env.locals) (hc:∀ x c,X.env.cells.lookup x=some c->c≠a) (hp:∀ p∈X.pn++pins,p.1≠a)
  (new:ObjOk X.prog X.w (upd H a o) s.heap a o):Inv X pins σ (upd H a o) s:=by
 have st:∀ b u,H b=some u->upd H a o b=some u:=fun b u e=>by rw [upd_ne (ne_of_none e hn)];exact e
 refine ⟨I.ok,I.os,I.bare,⟨I.base.keep,I.base.slot,fun b ob e n hx=>?_,I.base.there,fun b xs e=>st _ _ (I.base.tups b xs e),fun b ob u e=>st _ _ (I.base.frzs b ob u e),fun b ps e=>?_⟩,I.loc,I.cell,?_,fun x c e=>?_,fun p h=>?_,fun b u e=>?_,I.len⟩
 ·rw [upd_ne (fun z=>by rw [z,hs] at e;cases e)];exact I.base.free b ob e n hx
 ·obtain ⟨m,e1⟩:=I.base.tbls b ps e
  exact ⟨m,st _ _ e1⟩
 ·rw [upd_ne (Ne.symm hl)];exact I.free
 ·rw [upd_ne (hc x c e)];exact I.freeC x c e
 ·obtain ⟨e,n,ne,nf,d⟩:=I.pin p h
  exact ⟨e,by rw [upd_ne (hp p h)];exact n,ne,nf,d⟩
 ·by_cases hb:b=a
  ·subst hb
   rw [upd_same] at e
   cases e
   exact new
  ·rw [upd_ne hb] at e
   exact (I.hok b u e).stay (fun _ _ _ q=>q) (fun c q=>st _ _ q) fun c xs q=>st _ _ q
theorem goes_ok {M:Model} {A:Around} {E:Value->Shared->Prop} {i:Nat} {n:Str} {pos:Pos} {Q:Unit->Shared->Prop} (I:Inv X pins σ H s) (hN:X.N.Nodup) (hi:X.N[i]?=some n) (hk:X.env.scope.names.lookup n=some .local)
  (h:∀ s',Inv X pins (σ.set i none) H s'->Q () s'):wpAny M A (do bindName X.env n .none;unbindBehindTheSuite X.env n pos) Q E s:=by
 refine Qb (wpAny_bindName (store_ok (v:=.non) I hN hi (.inl hk) rfl (fun s1 I1=>?_) (.inr hk)))
 unfold unbindBehindTheSuite
 have hcls:(X.env.scope.kind == .class||(X.env.scope.kind == .module&&X.env.locals != X.env.globals))=false:=by rw [I.ok.kind];rfl
 have hiσ:i<σ.length:=by rw [I.len];exact (Qc hi).1
 obtain ⟨m,hn,hl⟩:=id I1.loc
 obtain ⟨u,_,lk⟩:=hl i n .non hi (List.getElem?_set_self hiσ) (.inl hk)
 have hm:m n=some u:=by
  rcases lk with z | ⟨z | z,_⟩
  ·exact z.2
  ·rw [show X.env.kindOf n=X.env.scope.names.lookup n from rfl,hk] at z;cases z
  ·rw [show X.env.kindOf n=X.env.scope.names.lookup n from rfl,hk] at z;cases z
 obtain ⟨oL,_,_,hoL,_⟩:=id hn
 refine wpAny_onRaise (wpAny_unbindName_local hk hn hm hcls fun h' u' hn' hs=>?_)
 have cne:=I1.cne
 refine h _ ⟨I1.ok,I1.os,I1.bare,⟨fun b o e n hb hx=>?_,fun b o e n hb hx=>?_,I1.base.free,fun b o e hx=>?_,I1.base.tups,I1.base.frzs,I1.base.tbls⟩,⟨_,hn',fun j y v' e1 e2 e3=>?_⟩,fun y c e=>?_,I1.free,I1.freeC,fun p hp=>?_,fun b ob e=>?_,by simpa using I.len⟩
 ·exact (hs.2 b (Qw (Nat.lt_of_lt_of_le (Qn e) I.ok.above))).trans (I1.base.keep b o e n hb hx)
 ·obtain ⟨sl,e1⟩:=I1.base.slot b o e n hb hx
  exact ⟨sl,(hs.2 b (Qw (Nat.lt_of_lt_of_le (Qn e) I.ok.above))).trans e1⟩
 ·obtain ⟨o',e1⟩:=I1.base.there b o e hx
  exact ⟨o',(hs.2 b (Qw (Nat.lt_of_lt_of_le (Qn e) I.ok.above))).trans e1⟩
 ·by_cases hj:j=i
  ·subst hj
   rw [List.getElem?_set_self hiσ] at e2
   cases e2
  ·rw [List.getElem?_set_ne (Ne.symm hj)] at e2
   obtain ⟨u',r',q⟩:=hl j y v' e1 (by rw [List.getElem?_set_ne (Ne.symm hj)];exact e2) e3
   refine ⟨u',r',?_⟩
   rcases q with ⟨k,e⟩ | ⟨k,c,e,z⟩
   ·refine .inl ⟨k,?_⟩
    have:y≠n:=fun e=>hj (nodup_ix hN e1 (e ▸ hi))
    simp [this,e]
   ·exact .inr ⟨k,c,e,z.sameBut hs (cne y c e)⟩
 ·obtain ⟨w',z⟩:=I1.cell y c e
  exact ⟨w',z.sameBut hs (cne y c e)⟩
 ·obtain ⟨e,n,ne,nf,d⟩:=I1.pin p hp
  exact ⟨(hs.2 p.1 ne).trans e,n,ne,nf,d⟩
 ·refine (I1.hok b ob e).stay (fun c w' hc q=>(hs.2 c ?_).trans q) (fun _ q=>q) fun _ _ q=>q
  rintro rfl
  rcases hc with rfl | hc
  ·rw [I1.free] at e;cases e
  ·rw [I1.free] at hc;cases hc
end
noncomputable def Ends.unset (D:Ends) (i:Nat):Ends:={ nx:=fun σ H=>D.nx (σ.set i none) H,rt:=D.rt,bk:=fun σ H=>D.bk (σ.set i none) H,ct:=fun σ H=>D.ct (σ.set i none) H }
section
variable {X:Cx}
end
end L2
namespace L2
open PySem PySem.Spec PyProof.Rows
noncomputable def PSX (CX:CXT) (X:Cx) (sts:List Stmt) (t:XK->TS):Prop :=
 ∀ (E:XK) (xe':Value->Shared->Prop) (pins:List (Addr × Obj)) (s:Shared) (σ:St) (H:Hp) (D:Ends),(∀ H s e s',Inv X pins σ H s->CX X.stack H s E e s'->xe' e s')->Inv X pins σ H s->t E D σ H ->
  wpAny (model X.prog X.w) X.A (execs sts X.env) (SP X pins D) xe' s
section
variable {X:Cx} {CX:CXT} {e:Expr} {te:XK->TE} {pos:Pos}
theorem psx_set {i:Nat} {x:Str} {pos':Pos} (hN:X.N.Nodup) (hi:X.N[i]?=some x) (hx:Loc X.env.scope x) (he:PEX CX X e te) (hs:swapsWith e (some (.Name x pos')) pos.line X.env=pure false:=by rfl)
  (hf:X.fn x=true∨X.env.scope.names.lookup x=some .local:=by first | exact .inl rfl | exact .inr rfl | assumption):PSX CX X [.Assign [.Name x pos'] e pos] (fun E=>tAsg (te E) (gName i)):=by
 intro E xe' pins s σ H D hx' I h
 refine wpAny_execs_cons (wpAny_Assign_Name (thn (he E xe' pins s σ H _ hx' I h) fun v s1 hsl46=>?_) hs)
 obtain ⟨y,H1,I1,r1,q1⟩:=hsl46
 exact store_ok I1 hN hi hx r1 (fun s2 I2=>wpAny_execs_nil ⟨_,H1,I2,q1⟩) hf
end
section
variable {X:Cx} {CX:CXT} {k:Nat} {f C:Addr} {fd:FuncData} {ps:List Str} {sp:Sp} {dvs:List V} {ds:List Value} {x m:Str} {p pos apos:Pos} {e o:Expr} {es:List Expr} {ta:TE} {t:TA}
end
section
variable {X:Cx}
end
end L2
namespace L2
open PySem PySem.Spec PyProof.Rows
theorem dict_mapFields (o:Obj) (f:Array Value->Array Value):(o.mapFields f).dict=o.dict:=by
 obtain ⟨a,b,c,d⟩:=o
 cases c<;>rfl
noncomputable def TrD (h base:Heap) (e:Addr) (cls fl:Value) (dd:Option Addr) (cx:Option Value):Prop :=
 ∃ oe vs T oT ts,h.get? e=some oe/\(oe.cls=cls/\oe.dict=dd/\vs[2]?=cx)/\oe.data=.fields vs/\vs[1]?=some (.ref T)/\base.get? T=none/\T≠e/\h.get? T=some oT/\oT.data=.fields ts/\ts[3]?=some fl
noncomputable def FlyD (base:Heap) (l:List Env) (e:Addr) (cls:Value) (dd:Option Addr) (cx:Option Value) (h:Heap):Prop:=base.StaysIn h/\base.get? e=none/\h.FunFrames base l/\TrD h base e cls .none dd cx
noncomputable def HeldD (base:Heap) (l:List Env) (e:Addr) (cls:Value) (dd:Option Addr) (cx:Option Value) (L:Addr) (h:Heap):Prop:=base.StaysIn h/\base.get? e=none/\h.FunFrames base l/\TrD h base e cls (rawInt L) dd cx
section
variable {M:Model} {A:Around} {E:Value->Shared->Prop} {s:Shared}
theorem noteEntry {base:Heap} {env:Env} {outer:List Env} {L e:Addr} {oe:Obj} {vs:Array Value} {head:Value} {hadNext:Bool} {Q:Unit->Shared->Prop}
  (hfr:A.frames=some (env::outer)) (hl:s.heap.FunFrames base (env::outer)) (hf:env.frame=some L)
  (he:s.heap.get? e=some oe) (hkb:base.StaysIn s.heap) (hen:base.get? e=none) (hd:oe.data=.fields vs) (hsz:1<vs.size)
  (h:∀ h',base.StaysIn h'->h'.FunFrames base (env::outer)->TrD h' base e oe.cls (rawInt L) oe.dict vs[2]?->s.heap.UpToSlots h'->Q () { s with heap:=h' }) :
  wpAny M A (do let a <- frameOf env;let pl <- entryPlaceOf L hadNext;let b <- EntryCells.newEntry head a .none (rawInt L) .none pl;setField (.ref e) 1 b) Q E s:=by
 have hene:e∉(env::outer).filterMap (·.frame):=fun hm=>by
  obtain ⟨_,o,ho,hnf⟩:=hl.mem hm
  rw [he] at ho;injection ho with ho;subst ho;exact hnf vs hd
 refine Qb (wpAny_frameOf_fun hfr hl hf fun h₁ hs₁=>Qb (wpAny_entryPlaceOf fun pl hpl=>?_))
 unfold EntryCells.newEntry newFields
 refine Qb (wpAny_newObj_type ?_ (hpl.sizeOk5 _ _ _ _ _))
 have he₁:h₁.get? e=some oe:=(hs₁.2.1 e hene).trans he
 have kb₁:base.StaysIn h₁:=fun b o hbo=>(hs₁.2.1 b fun hm=>by rw [(hl.mem hm).1] at hbo;cases hbo).trans (hkb b o hbo)
 have hTe:h₁.objs.size≠e:=Nat.ne_of_gt (Qn he₁)
 generalize hot:({ cls:=.type "traceback",dict:=none,data:=.fields ([head,.ref L,.none,rawInt L,.none]++(if pl.isEmpty then List.replicate 6 Value.none else pl)).toArray }:Obj)=ot
 have hotd:∃ ts,ot.data=.fields ts/\ts[3]?=some (rawInt L):=by
  subst hot
  exact ⟨_,rfl,by first | (simp;done) | (rcases hpl with rfl | ⟨_,_,_,_,_,_,_,rfl⟩<;>simp)⟩
 have hofr:ot.isFreed=false:=by subst hot;rfl
 have he₂:=Qf (h:=h₁) ot he₁
 refine wpAny_setField he₂ hd hsz ?_
 have hd₃:=Obj.data_mapFields hd (·.setIfInBounds 1 (Value.ref h₁.objs.size))
 have he₃:=Heap.get?_update_self (Obj.mapFields (·.setIfInBounds 1 (Value.ref h₁.objs.size))) he₂ (Obj.isFreed_of_fields hd₃)
 have hT₃:=(Heap.get?_update_other (h₁.push ot) (Obj.mapFields (·.setIfInBounds 1 (Value.ref h₁.objs.size))) (Ne.symm hTe)).trans (Qs h₁ hofr)
 have keep:∀ b o,b≠e->h₁.get? b=some o->((h₁.push ot).update e (Obj.mapFields (·.setIfInBounds 1 (Value.ref h₁.objs.size)))).get? b=some o :=
  fun b o hbe hb=>by rw [Heap.get?_update_other _ _ (Ne.symm hbe)];exact Qf _ hb
 have rec':∀ b o,s.heap.get? b=some o->(∀ vs,o.data≠.fields vs)->b≠e:=fun b o hb hnf q=>by
  rw [q,he] at hb;injection hb with hb;subst hb;exact hnf vs hd
 obtain ⟨ts,ht1,ht2⟩:=hotd
 refine h _ (fun b o hbo=>keep b o (fun q=>by rw [q,hen] at hbo;cases hbo) (kb₁ b o hbo)) (hl.of_keeps fun b o hb hnf=>?_) ?_ fun b o hb hnf=>?_
 ·obtain ⟨sl,hs⟩:=hs₁.2.2 b o hb
  exact ⟨_,keep b _ (rec' b o hb hnf) hs,rfl⟩
 ·exact ⟨_,_,h₁.objs.size,_,ts,he₃,⟨Obj.cls_mapFields _ _,dict_mapFields _ _,by rw [Array.getElem?_setIfInBounds_ne (by decide)]⟩,hd₃,by simp [hsz],kb₁.fresh,hTe,hT₃,ht1,ht2⟩
 ·obtain ⟨sl,hs⟩:=hs₁.2.2 b o hb
  exact ⟨sl,keep b _ (rec' b o hb hnf) hs⟩
theorem note_first {base:Heap} {env:Env} {outer:List Env} {L e:Addr} {oe:Obj} {vs:Array Value} {Q:Unit->Shared->Prop}
  (hfr:A.frames=some (env::outer)) (hl:s.heap.FunFrames base (env::outer)) (hf:env.frame=some L)
  (he:s.heap.get? e=some oe) (hkb:base.StaysIn s.heap) (hen:base.get? e=none) (hd:oe.data=.fields vs) (h1:vs[1]?=some .none)
  (h:∀ h',HeldD base (env::outer) e oe.cls oe.dict vs[2]? L h'->s.heap.UpToSlots h'->Q () { s with heap:=h' }):wpAny M A (noteFrame (.ref e) env) Q E s:=by
 unfold noteFrame
 simp only [hf]
 refine Qb (wpAny_field he hd h1 ?_)
 rw [if_neg (by decide)]
 exact noteEntry hfr hl hf he hkb hen hd (Array.getElem?_eq_some_iff.mp h1).1 fun h' k1 k2 k3 k4=>h h' ⟨k1,hen,k2,k3⟩ k4
theorem note_on {base:Heap} {env:Env} {outer:List Env} {L e:Addr} {cls:Value} {dd:Option Addr} {cx:Option Value} {Q:Unit->Shared->Prop}
  (hfr:A.frames=some (env::outer)) (hf:env.frame=some L) (hfl:FlyD base (env::outer) e cls dd cx s.heap)
  (h:∀ h',HeldD base (env::outer) e cls dd cx L h'->s.heap.UpToSlots h'->Q () { s with heap:=h' }):wpAny M A (noteFrame (.ref e) env) Q E s:=by
 obtain ⟨hkb,hen,hl,oe,vs,T,oT,ts,he,⟨rfl,rfl,rfl⟩,hd,h1,hnT,hTe,hT,hdT,h3⟩:=hfl
 unfold noteFrame
 simp only [hf]
 refine Qb (wpAny_field he hd h1 ?_)
 rw [if_pos (show (Value.ref T != Value.none)=true from by simp)]
 refine Qb (wpAny_field hT hdT h3 ?_)
 rw [if_neg (show ¬ ((Value.none == rawInt L)=true) from by simp [rawInt])]
 refine Qb (wpAny_setField hT hdT (Array.getElem?_eq_some_iff.mp h3).1 ?_)
 have other:∀ b,b≠T->(s.heap.update T (Obj.mapFields (·.setIfInBounds 3 Value.none))).get? b=s.heap.get? b:=fun b hb=>Heap.get?_update_other _ _ (Ne.symm hb)
 have rec':∀ b o,s.heap.get? b=some o->(∀ vs,o.data≠.fields vs)->b≠T:=fun b o hb hnf q=>by
  rw [q,hT] at hb;injection hb with hb;subst hb;exact hnf ts hdT
 refine noteEntry (s:={ s with heap:=s.heap.update T (Obj.mapFields (·.setIfInBounds 3 Value.none)) }) hfr (hl.of_keeps fun b o hb hnf=>⟨o,(other b (rec' b o hb hnf)).trans hb,rfl⟩) hf ((other e (Ne.symm hTe)).trans he)
  (fun b o hbo=>(other b fun q=>by rw [q,hnT] at hbo;cases hbo).trans (hkb b o hbo)) hen hd (Array.getElem?_eq_some_iff.mp h1).1
  fun h' x1 x2 x3 x4=>h h' ⟨x1,hen,x2,x3⟩ fun b o hb hnf=>x4 b o ((other b (rec' b o hb hnf)).trans hb) hnf
theorem set_down {base:Heap} {l:List Env} {e:Addr} {cls fl:Value} {dd:Option Addr} {cx:Option Value} {Q:Unit->Shared->Prop}
  (hkb:base.StaysIn s.heap) (hen:base.get? e=none) (hl:s.heap.FunFrames base l) (ht:TrD s.heap base e cls fl dd cx)
  (h:∀ h',FlyD base l e cls dd cx h'->s.heap.UpToSlots h'->Q () { s with heap:=h' }):wpAny M A (setFlight (.ref e) none) Q E s:=by
 obtain ⟨oe,vs,T,oT,ts,he,hcls,hd,h1,hnT,hTe,hT,hdT,h3⟩:=ht
 have hsz3:3<ts.size:=(Array.getElem?_eq_some_iff.mp h3).1
 have other:∀ b,b≠T->(s.heap.update T (Obj.mapFields (·.setIfInBounds 3 ((none:Option Addr).elim Value.none fun f=>rawInt f)))).get? b=s.heap.get? b :=
  fun b hb=>Heap.get?_update_other _ _ (Ne.symm hb)
 have rec':∀ b o,s.heap.get? b=some o->(∀ vs,o.data≠.fields vs)->b≠T:=fun b o hb hnf q=>by
  rw [q,hT] at hb;injection hb with hb;subst hb;exact hnf ts hdT
 unfold setFlight
 refine Qb (wpAny_field he hd h1 ?_)
 rw [if_pos (show (Value.ref T != Value.none)=true from by simp)]
 refine wpAny_setField hT hdT hsz3 (h _ ⟨fun b o hbo=>(other b fun q=>by rw [q,hnT] at hbo;cases hbo).trans (hkb b o hbo),hen,
  hl.of_keeps fun b o hb hnf=>⟨o,(other b (rec' b o hb hnf)).trans hb,rfl⟩,?_⟩ fun b o hb hnf=>⟨o.slots,(other b (rec' b o hb hnf)).trans hb⟩)
 exact ⟨oe,vs,T,_,_,(other e (Ne.symm hTe)).trans he,hcls,hd,h1,hnT,hTe,Heap.get?_update_self _ hT (Obj.isFreed_of_fields (Obj.data_mapFields hdT _)),Obj.data_mapFields hdT _,by simp [hsz3]⟩
theorem landsD {base:Heap} {l:List Env} {e L:Addr} {cls:Value} {dd:Option Addr} {cx:Option Value} {Q:Unit->Shared->Prop} (hh:HeldD base l e cls dd cx L s.heap)
  (h:∀ h',FlyD base l e cls dd cx h'->s.heap.UpToSlots h'->Q () { s with heap:=h' }):wpAny M A (setFlight (.ref e) none) Q E s:=set_down hh.1 hh.2.1 hh.2.2.1 hh.2.2.2 h
theorem lands_againD {base:Heap} {l:List Env} {e:Addr} {cls:Value} {dd:Option Addr} {cx:Option Value} {Q:Unit->Shared->Prop} (hh:FlyD base l e cls dd cx s.heap)
  (h:∀ h',FlyD base l e cls dd cx h'->s.heap.UpToSlots h'->Q () { s with heap:=h' }):wpAny M A (setFlight (.ref e) none) Q E s:=set_down hh.1 hh.2.1 hh.2.2.1 hh.2.2.2 h
theorem FlyD.out {base h:Heap} {env:Env} {outer:List Env} {e:Addr} {cls:Value} {dd:Option Addr} {cx:Option Value} (x:FlyD base (env::outer) e cls dd cx h):FlyD base outer e cls dd cx h:=by
 obtain ⟨k1,k2,⟨_,_,k3⟩,k4⟩:=x
 exact ⟨k1,k2,k3,k4⟩
theorem leaves_firstD {base:Heap} {env:Env} {outer:List Env} {L e:Addr} {oe:Obj} {vs:Array Value} {Q:Unit->Shared->Prop}
  (hfr:A.frames=some (env::outer)) (hl:s.heap.FunFrames base (env::outer)) (hf:env.frame=some L)
  (he:s.heap.get? e=some oe) (hkb:base.StaysIn s.heap) (hen:base.get? e=none) (hd:oe.data=.fields vs) (h1:vs[1]?=some .none)
  (h:∀ h',FlyD base outer e oe.cls oe.dict vs[2]? h'->s.heap.UpToSlots h'->Q () { s with heap:=h' }):wpAny M A (leaving env (.ref e)) Q E s:=by
 unfold leaving
 refine Qb (note_first hfr hl hf he hkb hen hd h1 fun h1 hh up=>?_)
 exact landsD (s:={ s with heap:=h1 }) hh fun h2 f2 up2=>h h2 f2.out (up.trans up2)
end
end L2
namespace L2
open PySem PySem.Spec PyProof.Rows
noncomputable abbrev bmVE:List Value:=[.type "ValueError",.type "Exception",.type "BaseException",.type "object"]
noncomputable abbrev bmEX:List Value:=[.type "Exception",.type "BaseException",.type "object"]
noncomputable def refsThen:Nat->List Value->Bool
 | 0,l=>l == bmVE||l == bmEX
 | n+1,.ref _::r=>refsThen n r
 | _+1,_=>false
theorem refuse_exc (self:Value):∀ (n:Nat) (l:List Value),refsThen n l=true->refuseLoop self "__setattr__" l=pure ()
 | 0,l,e=>by
  rcases Bool.or_eq_true_iff.mp e with e | e
  ·rw [show l=bmVE from beq_iff_eq.mp e];exact PySem.F.store_ValueError.passes self
  ·rw [show l=bmEX from beq_iff_eq.mp e];exact PySem.F.store_Exception.passes self
 | n+1,[],e=>by cases e
 | n+1,v::r,e=>by cases v<;>first | (rw [refuseLoop_ref];exact refuse_exc self n r e) | cases e
theorem exc_obj:∀ (n:Nat) (l:List Value),refsThen n l=true->l.contains (.type "object")=true
 | 0,l,e=>by
  rcases Bool.or_eq_true_iff.mp e with e | e
  ·rw [show l=bmVE from beq_iff_eq.mp e];rfl
  ·rw [show l=bmEX from beq_iff_eq.mp e];rfl
 | n+1,[],e=>by cases e
 | n+1,v::r,e=>by cases v<;>first | (rw [List.contains_cons,exc_obj n r e,Bool.or_true]) | cases e
structure ICls (K:PySem.W.Frag) (C:Addr):Prop where
 po:∃ n,(PySem.W.clsIn K C).any (fun cd=>refsThen n cd.mro)=true
 sa:PySem.W.findIn K (.ref C) "__setattr__"=some (some (.builtin "object.__setattr__"))
 hd:PySem.W.hasDictIn K C=true
section
variable {prog:Program} {w:World} {A:Around} {E:Value->Shared->Prop} {s:Shared} {K:PySem.W.Frag} {x C:Addr} {name:Str} {v:Value}
open PySem.W PySem.Calls Builtin Builtin.ObjectAttr in
theorem osa_exc {R:Result->Shared->Prop} {ox:Obj} {od:Option Obj} {tk:Tok} (X:K.In s.heap) (I:PySem.W.InstAt s.heap x ox C od) (c:ICls K C) (ht:takerIn K C name=some none)
  (h:∀ b,wpAny (model prog w) A.in1 (storeInOwnDict (.ref x) (.ref C) (.str name tk) name v b)
   (fun fin s'=>match fin with | .done f=>R (.ok f) s' | .again c'=>c'.quiet=true/\codeAny (model prog w) A c' R s') (fun e s'=>R (.error e) s') s) :
  codeAny (model prog w) A (.call (.builtin "object.__setattr__") ⟨[.ref x,.str name tk,v],[]⟩) R s:=by
 have SF:=PySem.F.store_object
 obtain ⟨pn,hpo⟩:=c.po
 obtain ⟨cd,hc,ho⟩:=any_some hpo
 have ne:cd.mro.isEmpty=false:=by cases q:cd.mro with | nil=>(rw [q] at ho;cases pn<;>cases ho) | cons _ _=>rfl
 have sub:Looks (model prog w) s.heap (isInstance (.ref x) (.type "object")) true:=I.type.andThen (looks_mroIn X (by unfold mroIn;rw [hc,Option.bind_some,if_neg (by rw [ne];decide),exc_obj _ _ ho]))
 refine codeAny_call_builtin SF.slot.plain SF.entry (@check_slot (model prog w) _ _ s "object.__setattr__" "object" "__setattr__" (.ref x) [.str name tk,v] [] _ SF.kind SF.split sub (SF.args (.ref x) (.str name tk) v) ?_)
 obtain ⟨attr,ha,hr⟩:=Option.bind_eq_some_iff.mp ht
 have hm:Looks (model prog w) s.heap (mroOf (.ref C)) cd.mro:=(looks_clsIn X hc).andThen .now
 have L3:Looks (model prog w) s.heap (storeTaker? attr) none:=by
  cases attr with
  | none=>exact .now
  | some a =>
   obtain ⟨b,hb,e⟩:=Option.map_eq_some_iff.mp hr
   refine (looks_takesIn X hb).andThen ?_
   cases b
   ·exact .now
   ·cases e
 rw [osa_eq,refuse_eq]
 refine Qb (Qb (I.type.here (Qb (hm.here ?_))))
 rw [refuse_exc _ _ _ ho]
 refine Qg (Qb (I.type.here (Qb ((looks_findIn X ha).here (Qb (L3.here ?_))))))
 exact h _
noncomputable def ExcN (e C t:Addr) (dd:Option Addr) (h:Heap):Prop:=h.get? e=some { cls:=.ref C,dict:=dd,data:=.fields #[.ref t,.none,.none,.none,.bool false,.none] }
open PySem.W PySem.Calls Builtin Builtin.ObjectAttr in
theorem set_exc1 {t:Addr} {Q:Unit->Shared->Prop} (X:K.In s.heap) (I:ExcN x C t none s.heap) (c:ICls K C) (ht:takerIn K C name=some none)
  (h:∀ h',h'.Ns1 s.heap.objs.size (fun y=>if y=name then some v else none)->ExcN x C t (some s.heap.objs.size) h'->(∀ b o,b≠x->s.heap.get? b=some o->h'.get? b=some o)->Q () { s with heap:=h',toks:=s.toks+2 }) :
  wpAny (model prog w) A (setAttr (.ref x) name v) Q E s:=by
 have J:PySem.W.InstAt s.heap x { cls:=.ref C,dict:=none,data:=.fields #[.ref t,.none,.none,.none,.bool false,.none] } C none:=⟨I,rfl,rfl,True.intro⟩
 refine set_plain X J c.sa (osa_exc (s:={ s with toks:=s.toks+1 }) X J c ht fun b=>?_)
 obtain ⟨cd,hc,hd'⟩:=any_some c.hd
 refine Qb (Qg (Qb (Qb (wpAny_loadPart (s:={ s with toks:=s.toks+1 }) I (Qb (Looks.here (s:={ s with toks:=s.toks+1 }) (looks_clsIn X hc) ?_))))))
 rw [hd']
 rw [if_neg (by decide)]
 dsimp only
 refine Qb (wpAny_alloc ?_)
 have hx:({ s with toks:=s.toks+1 }:Shared).heap.get? x=some { cls:=.ref C,dict:=none,data:=.fields #[.ref t,.none,.none,.none,.bool false,.none] }:=I
 have hx₁:=Qf { cls:=.type "dict",data:=.dict #[] } hx
 refine Qb (wpAny_update hx₁ (Qg ?_))
 have hxs:x≠s.heap.objs.size:=Qw (Qn hx)
 refine Qb (Qg (Qb ?_))
 generalize hfo:(fun o:Obj=>{ cls:=o.cls,dict:=some s.heap.objs.size,data:=o.data,slots:=o.slots:Obj })=fo
 have hgd:((s.heap.push { cls:=.type "dict",data:=.dict #[] }).update x fo).get? s.heap.objs.size=some { cls:=.type "dict",data:=.dict #[] } :=
  (QG _ _ _ _ hxs.symm).trans (Heap.get?_push_at rfl rfl)
 have hnd:((s.heap.push { cls:=.type "dict",data:=.dict #[] }).update x fo).Ns s.heap.objs.size (fun _=>none):=⟨_,#[],_,hgd,rfl,fun e he=>absurd he (by simp),fun _=>rfl⟩
 refine wpAny_nsSet1 (s:={ s with heap:=(s.heap.push { cls:=.type "dict",data:=.dict #[] }).update x fo,toks:=s.toks+1 }) (Heap.Ns1.of_empty hnd) fun h' hn' hs=>?_
 obtain ⟨oD,esD,epD,hoD,hdD,hcD⟩:=hn'.count (Within.cons name v Within.nil)
 refine Qb (wpAny_lookBehind hoD (by rw [hdD];exact pastItsLine_dict (QA hcD (by rw [List.length_cons,List.length_nil,sizeLine_eq];omega))) ?_)
 refine Qg (h h' hn' ?_ fun b o hb q=>?_)
 ·refine (hs.2 x hxs).trans ((Heap.get?_update_self _ hx₁ ?_).trans ?_)
  ·subst hfo;rfl
  ·subst hfo;rfl
 ·exact (hs.2 b (Qw (Qn q))).trans ((QG _ _ _ _ hb).trans (Qf _ q))
open PySem.W PySem.Calls Builtin Builtin.ObjectAttr in
theorem set_exc2 {t dx:Addr} {mA:Str->Option Value} {ns:List Str} {Q:Unit->Shared->Prop} (X:K.In s.heap) (I:ExcN x C t (some dx) s.heap) (N:s.heap.Ns1 dx mA) (ne:dx≠x) (hw:PySem.Within mA ns) (hsz:ns.length<=1000) (c:ICls K C) (ht:takerIn K C name=some none)
  (h:∀ h',h'.Ns1 dx (fun y=>if y=name then some v else mA y)->Heap.SameBut dx s.heap h'->Q () { s with heap:=h',toks:=s.toks+2 }) :
  wpAny (model prog w) A (setAttr (.ref x) name v) Q E s:=by
 obtain ⟨od,ho,_⟩:=lookIn_ns N
 have J:PySem.W.InstAt s.heap x { cls:=.ref C,dict:=some dx,data:=.fields #[.ref t,.none,.none,.none,.bool false,.none] } C (some od):=⟨I,rfl,rfl,ho⟩
 refine set_plain X J c.sa (osa_exc (s:={ s with toks:=s.toks+1 }) X J c ht fun b=>?_)
 obtain ⟨cd,hc,hd'⟩:=any_some c.hd
 refine Qb (Qg (Qb (Qb (wpAny_loadPart (s:={ s with toks:=s.toks+1 }) I (Qb (Looks.here (s:={ s with toks:=s.toks+1 }) (looks_clsIn X hc) ?_))))))
 rw [hd']
 refine Qg (a:=some dx) (Qb (Qg (Qb ?_)))
 refine wpAny_nsSet1 (s:={ s with toks:=s.toks+1 }) N fun h' hn2 hs2=>?_
 obtain ⟨oD,esD,epD,hoD,hdD,hcD⟩:=hn2.count (PySem.Within.cons name v hw)
 refine Qb (wpAny_lookBehind hoD (by rw [hdD];exact pastItsLine_dict (QA hcD (by rw [List.length_cons,sizeLine_eq];omega))) ?_)
 exact Qg (h _ hn2 hs2)
end
theorem ns_some_of {K:PySem.W.Frag} {h:Heap} {N:Addr} {mg:Str->Option Value} {n:Str} {v:Value} (X:K.In h) (G:h.Ns N mg) (e:PySem.W.nsIn K N n=some (some v)):mg n=some v:=by
 obtain ⟨o,es,ep,ho,hd,_,hf⟩:=G
 unfold PySem.W.nsIn at e
 split at e
 case h_2=>cases e
 case h_1 c d es' n' sl q =>
  have:=X _ _ q
  rw [ho] at this
  cases this
  cases hd
  split at e
  case h_1 en he =>
   cases e
   rw [<- hf]
   unfold nsFind findBy
   rw [<- Array.find?_toList,he]
   rfl
  case h_2=>split at e<;>cases e
noncomputable def excInI (K:PySem.W.Frag) (C:Addr) (bmB:List Value) (newId:String) (f:Addr):Bool:=match K.lookup C with
 | some ⟨.type "type",_,.cls cd,sl⟩=>(match cd.mro,sl.toList with
  | .ref C'::bm,[_,_,_,_,some (.builtin n),_]=>C' == C&&n == newId&&!cd.hasDel&&PySem.W.tailIn K bmB bm&&PySem.W.nsOkIn K cd.ns&&PySem.W.nsIn K cd.ns "__init__" == some (some (.ref f))
  | _,_=>false)
 | _=>false
theorem own_of_KI {K:PySem.W.Frag} {h:Heap} {C f:Addr} {bmB:List Value} {newId:String} (X:K.In h) (q:excInI K C bmB newId f=true) :
  ∃ bm N nm q bs hdct sn sub ab col dd k0 k1 k2 k3 k5 mN,h.get? C=some (excClassObj nm q C N bs bm hdct sn sub ab col dd k0 k1 k2 k3 k5 newId)/\h.Ns N mN/\mN "__init__"=some (.ref f)/\OwnTail h bmB bm:=by
 unfold excInI at q
 split at q
 case h_2=>cases q
 case h_1 dd cd sl ho =>
  split at q
  case h_2=>cases q
  case h_1 C' bm k0 k1 k2 k3 n k5 hm hs =>
   simp only [Bool.and_eq_true,beq_iff_eq,Bool.not_eq_true'] at q
   obtain ⟨⟨⟨⟨⟨e1,e2⟩,e3⟩,e4⟩,e5⟩,e6⟩:=q
   cases cd
   cases sl
   simp only at hm hs e3 e5 e6
   subst e1 e2 e3 hm hs
   have G:=Heap.Ns.of_isNs (PySem.W.isNs_of_in X e5)
   exact ⟨_,_,_,_,_,_,_,_,_,_,_,_,_,_,_,_,_,X _ _ ho,G,ns_some_of X G e6,PySem.W.tail_of_in X e4⟩
section
variable {prog:Program} {w:World} {A:Around} {E:Value->Shared->Prop} {h:Heap} {g:Array GenState} {d:Drawn} {t:Nat} {os:OsState}
variable {nm q:Str} {C N:Addr} {bs bm bmB:List Value} {hdct:Bool} {sn:List Str} {sub:List Value} {ab:Bool} {col:Option Bool} {dd:Option Addr} {k0 k1 k2 k3 k5:Option Value} {B newId initId:String}
theorem made_init (F:ExcBaseFacts B newId initId bmB) (T:OwnTail h bmB bm) {mN:Str->Option Value} {rest:List Value} {fI:Addr} {oI:Obj} {Q:Fin->Shared->Prop}
  (hC:h.get? C=some (excClassObj nm q C N bs bm hdct sn sub ab col dd k0 k1 k2 k3 k5 newId)) (hn:h.Ns N mN) (hi:mN "__init__"=some (.ref fI)) (hfI:h.get? fI=some oI) (hfc:oI.cls=.type "function")
  (hq:∀ h' e,Heap.MadeExcOf h h' e (.ref C) rest ->
   wpAny (model prog w) A (call (.ref fI) (.ref e::rest)) (fun r s'=>r=.none/\Q (.done (.ret (.ref e))) s') E ⟨h',g,d,t,os⟩) (hrest:rest.length<=sizeLine) :
  wpAny (model prog w) A (Builtin.«type.__call__» ⟨.ref C::rest,[]⟩) Q E ⟨h,g,d,t,os⟩:=by
 repeat (first | with_reducible refine wpAny_loadPart_at hC ?_ | with_reducible refine wpAny_madeBy_exc hC ?_ | wp_step)
 refine codeAny_call_builtin_code (Code.quiet_builtin _ F.quiet) (wpAny_check_new_subT F T hC ?_)
 refine codeAny_exc_new_subT F T hC ?_ hrest
 show wpAny _ _ _ _ _ _
 have kp:∀ b o,h.get? b=some o->((h.push { cls:=.type "tuple",data:=.seq rest.toArray }).push { cls:=.ref C,data:=.fields #[.ref h.objs.size,.none,.none,.none,.bool false,.none] }).get? b=some o :=
  fun b o e=>Qf _ (Qf _ e)
 have hC₁:=kp _ _ hC
 have hfI₁:=kp _ _ hfI
 have hn₁:=hn.keeps kp
 have hget:((h.push { cls:=.type "tuple",data:=.seq rest.toArray }).push
   { cls:=.ref C,data:=.fields #[.ref h.objs.size,.none,.none,.none,.bool false,.none] }).get? (h.objs.size+1)=some
   { cls:=.ref C,data:=.fields #[.ref h.objs.size,.none,.none,.none,.bool false,.none] }:=by heap_get
 have hcC:(Value.ref C::bm).contains (.ref C)=true:=by simp
 have T₁:=T.keeps kp
 unfold isInstance
 repeat (first | with_reducible refine wpAny_loadPart_at hget ?_ | (with_reducible refine wpAny_isSubtype_exc hC₁ ?_;rw [hcC]) | wp_step)
 show wpAny _ _ (typeLookup (.ref C) _) _ _ _
 refine wpAny_typeLookup_tail hC₁ hn₁ T₁ F.mroIs F.init.lookup ?_
 rw [hi]
 refine wpAny_holding (Qb ?_)
 unfold bindSpecial
 refine Qb (wpAny_typeOf (T:="function") ⟨_,hfI₁,hfc⟩ ?_)
 rw [if_pos (by decide)]
 refine Qg (Qb (QC (hq _ (h.objs.size+1) ⟨kp,Heap.get?_none_of_le (Nat.le_succ _),h.objs.size,hget,Heap.get?_none_of_le (Qh _),?_⟩) (fun r s' hr=>?_) fun _ _ x=>x))
 ·exact Qf _ (Heap.get?_push_at rfl rfl)
 ·obtain ⟨rfl,hQ⟩:=hr
  wp_walk
  exact hQ
theorem call_init (F:ExcBaseFacts B newId initId bmB) (T:OwnTail h bmB bm) {mN:Str->Option Value} {rest:List Value} {fI:Addr} {oI:Obj} {Q:Value->Shared->Prop}
  (hC:h.get? C=some (excClassObj nm q C N bs bm hdct sn sub ab col dd k0 k1 k2 k3 k5 newId)) (hn:h.Ns N mN) (hi:mN "__init__"=some (.ref fI)) (hfI:h.get? fI=some oI) (hfc:oI.cls=.type "function")
  (hq:∀ h' e,Heap.MadeExcOf h h' e (.ref C) rest ->
   wpAny (model prog w) (A.under (.builtin "type.__call__" ⟨.ref C::rest,[]⟩)) (call (.ref fI) (.ref e::rest)) (fun r s'=>r=.none/\Q (.ref e) s') E ⟨h',g,d,t,os⟩) (hrest:rest.length<=sizeLine) :
  wpAny (model prog w) A (call (.ref C) rest) Q E ⟨h,g,d,t,os⟩:=by
 have f1:=tc_lookup
 have f2:=tc_bind (.ref C)
 have hT:(⟨h,g,d,t,os⟩:Shared).TypeIs (.ref C) "type":=⟨_,hC,rfl⟩
 refine wpAny_call (codeAny_of_tree ?_)
 show wpAny _ _ (callAny (.ref C) _) _ _ _
 repeat (any_goals (first | assumption | with_reducible refine wpAny_loadPart_at hC ?_ | wp_step))
 refine ⟨rfl,?_⟩
 refine codeAny_call_builtin_at (Code.quiet_builtin _ (by decide +kernel)) entry_typeCall (wpAny_check_type_call_sub hC (made_init (hrest:=hrest) F T hC hn hi hfI hfc fun h' e hm=>?_))
 exact hq h' e hm
end
section
variable {M:Model} {A:Around} {E:Value->Shared->Prop} {env:Env}
variable {nm q:Str} {C N:Addr} {bs bm:List Value} {hdct:Bool} {sn:List Str} {sub:List Value} {ab:Bool} {col:Option Bool} {dd:Option Addr} {k0 k1 k2 k3 k5:Option Value} {newId:String}
theorem raised_made {s:Shared} {x:Sem Value} {Q:Flow->Shared->Prop} (hbase:bm.contains (.type "BaseException")=true) (hh:A.handled=none)
  (h:wpAny M A x (fun v s₁=>∃ e t ed,v=.ref e/\s₁.heap.get? C=some (excClassObj nm q C N bs bm hdct sn sub ab col dd k0 k1 k2 k3 k5 newId)/\ExcN e C t ed s₁.heap/\E (.ref e) s₁) E s) :
  wpAny M A (raiseStmt env (some x) none) Q E s:=by
 have hcB:(Value.ref C::bm).contains (.type "BaseException")=true:=by rw [List.contains_cons,hbase,Bool.or_true]
 unfold raiseStmt
 refine Qb (QC h (fun v s₁ h₁=>?_) fun _ _ x=>x)
 obtain ⟨e,t,ed,rfl,hC,he,hE⟩:=h₁
 obtain ⟨hp,g,d,tk,os⟩:=s₁
 unfold ExcN at he
 repeat (first | with_reducible refine wpAny_loadPart_at he ?_ | with_reducible refine wpAny_loadPart_at hC ?_ | (with_reducible refine wpAny_isSubtype_exc hC ?_;rw [hcB]) | wp_step)
 exact wpAny_raiseNew_none hh hE
end
end L2
namespace L2
open PySem PySem.Spec PyProof.Rows
section
variable {prog:Program} {w:World} {A:Around} {E:Value->Shared->Prop} {s:Shared} {env:Env}
variable {nm q:Str} {C N:Addr} {bs bm bmB:List Value} {hdct:Bool} {sn:List Str} {sub:List Value} {ab:Bool} {col:Option Bool} {dd:Option Addr} {k0 k1 k2 k3 k5:Option Value} {B newId initId:String}
theorem raise_init (F:ExcBaseFacts B newId initId bmB) {mN:Str->Option Value} {fI:Addr} {x:Str} {np cpos pos:Pos} {args:List Expr} {Q:Flow->Shared->Prop}
  (hbase:bm.contains (.type "BaseException")=true) (hh:A.handled=none) (hplain:(backTo cpos (starEach args env)).any (·.1)=false) (hi:mN "__init__"=some (.ref fI))
  (h:wpAny (model prog w) A (eval (.Name x np) env) (fun f s₁=>f=.ref C/\wpAny (model prog w) A (evalArgs (.ref C) true (backTo cpos (starEach args env)) [])
   (fun a s₂=>a.kw=[]/\a.pos.length<=sizeLine/\s₂.heap.get? C=some (excClassObj nm q C N bs bm hdct sn sub ab col dd k0 k1 k2 k3 k5 newId)/\s₂.heap.Ns N mN/\OwnTail s₂.heap bmB bm/\(∃ oI,s₂.heap.get? fI=some oI/\oI.cls=.type "function") /\
    ∀ h' e,Heap.MadeExcOf s₂.heap h' e (.ref C) a.pos->wpAny (model prog w) (A.under (.builtin "type.__call__" ⟨.ref C::a.pos,[]⟩)) (call (.ref fI) (.ref e::a.pos))
     (fun r s'=>r=.none/\(∃ t ed,s'.heap.get? C=some (excClassObj nm q C N bs bm hdct sn sub ab col dd k0 k1 k2 k3 k5 newId)/\ExcN e C t ed s'.heap)/\E (.ref e) s') E { s₂ with heap:=h' }) E s₁) E s) :
  wpAny (model prog w) A (exec (.Raise (some (.Call (.Name x np) args [] cpos)) none pos) env) Q E s:=by
 rw [arm_exec_Raise]
 refine Qb (wpAny_standAt (raised_made (C:=C) (nm:=nm) (q:=q) (N:=N) (bs:=bs) (bm:=bm) (hdct:=hdct) (sn:=sn) (sub:=sub) (ab:=ab) (col:=col) (dd:=dd) (k0:=k0) (k1:=k1) (k2:=k2) (k3:=k3) (k5:=k5) (newId:=newId) hbase hh (Qb (QC (wpAny_Call_ofName (QC h (fun f s₁ h₁=>?_) fun _ _ x=>x)) (fun v s₃ h₃=>Qb (wpAny_standAt (Qg h₃))) fun _ _ x=>x))))
 obtain ⟨rfl,h₁⟩:=h₁
 unfold callWith
 refine Qb (wpAny_holding (QC h₁ (fun a s₂ h₂=>Qb (wpAny_standAt ?_)) fun _ _ x=>x))
 obtain ⟨apos,akw⟩:=a
 obtain ⟨hkw,hlen,hC,hn,T,⟨oI,ho,hoc⟩,h₂⟩:=h₂
 obtain rfl:akw=[]:=hkw
 obtain ⟨hp,g,d,tk,os⟩:=s₂
 simp only [hplain]
 refine Qb (wpAny_keeperOf_exc hC ?_)
 refine Qb (call_init (hrest:=hlen) F T hC hn hi ho hoc fun h' e hm=>QC (h₂ h' e hm) (fun r s' ⟨hr,⟨t,ed,hC',hx⟩,hE⟩=>⟨hr,Qb (wpAny_holding (wpAny_point (Qg ?_)))⟩) fun _ _ x=>x)
 exact ⟨e,t,ed,rfl,hC',hx,hE⟩
end
noncomputable def CX2 (κ:Option Value->Prop) (P:Program) (w:World):CXT:=fun outer H s E e s'=>∃ (ea:Addr) (cls:Value) (dd:Option Addr) (cx:Option Value) (B:Heap) (H':Hp),e=.ref ea/\κ cx/\FlyD B outer ea cls dd cx s'.heap /\
 (∀ b o,s.heap.get? b=some o->b∉frs outer->∃ o',B.get? b=some o')/\(∀ a o,H' a=some o->∃ ob,B.get? a=some ob)/\s'.os=s.os/\AllBare s'.gens/\Un (frs outer) [] H H' s.heap s'.heap/\HOk P w H' s'.heap/\E cls dd H'
section
variable {X:Cx} {pins:List (Addr × Obj)} {σ:St} {H H':Hp} {s s':Shared} {B h'':Heap}
theorem lands2 (b:Body X) (I:Inv X pins σ H s) (un:Un (L2.frs X.stack) [] H H' s.heap s'.heap) (hok:HOk X.prog X.w H' s'.heap) (os:s'.os=s.os) (bare:AllBare s'.gens)
  (hB1:B.StaysIn s'.heap) (hB2:B.StaysIn h'') (up:s'.heap.UpToSlots h'') (fr:∀ c∈L2.frs X.stack,∃ o,s'.heap.get? c=some o/\∀ vs,o.data≠.fields vs)
  (inB:∀ c o,X.s₀.heap.get? c=some o->c∉X.fs->∃ o',B.get? c=some o') (pres:∀ c o,s.heap.get? c=some o->H c=none->c∉L2.frs X.stack->∃ o',B.get? c=some o') (trk:∀ a o,H' a=some o->∃ ob,B.get? a=some ob):Inv X pins σ H' { s' with heap:=h'' }:=by
 have I':Inv X pins σ H' s':=I.call' os un hok bare fun c hc=>absurd hc (by simp)
 have same:∀ c o,s'.heap.get? c=some o->(∃ o',B.get? c=some o')->h''.get? c=some o:=fun c o e ⟨o',eb⟩=>by
  have:=hB1 c o' eb
  rw [e] at this
  cases this
  exact hB2 c _ eb
 have fsub:∀ c∈X.fs,c∈L2.frs X.stack:=fun c hc=>by rw [b.frs];exact Qm _ hc
 refine ⟨I'.ok,I'.os,I'.bare,⟨fun c o q n hb hx=>same c o (I'.base.keep c o q n hb hx) (inB c o q hb),fun c o q n hb hx=>?_,I'.base.free,fun c o q hx=>?_,I'.base.tups,I'.base.frzs,I'.base.tbls⟩,?_,fun x c e=>?_,I'.free,I'.freeC,fun p hp=>?_,fun a o e=>?_,I'.len⟩
 ·obtain ⟨sl,e1⟩:=I'.base.slot c o q n hb hx
  obtain ⟨o1,e2,nd⟩:=fr c (fsub c hb)
  rw [e1] at e2
  cases e2
  obtain ⟨sl',e3⟩:=up c _ e1 nd
  exact ⟨sl',e3⟩
 ·by_cases hb:c∈X.fs
  ·obtain ⟨o1,e2,nd⟩:=fr c (fsub c hb)
   obtain ⟨sl',e3⟩:=up c _ e2 nd
   exact ⟨_,e3⟩
  ·obtain ⟨o',eb⟩:=inB c o q hb
   exact ⟨o',hB2 c o' eb⟩
 ·obtain ⟨m,hn,hl⟩:=I'.loc
  refine ⟨m,up.ns hn,fun i x v e1 e2 e3=>?_⟩
  obtain ⟨u,r,lk⟩:=hl i x v e1 e2 e3
  refine ⟨u,r,?_⟩
  rcases lk with z | ⟨k,c,ec,oc,hc,hd⟩
  ·exact .inl z
  ·obtain ⟨v0,o0,ho0,_⟩:=I.cell x c ec
   exact .inr ⟨k,c,ec,oc,same c oc hc (pres c o0 ho0 (I.freeC x c ec) (b.cell I ec)),hd⟩
 ·obtain ⟨v1,o1,ho1,hd1⟩:=I'.cell x c e
  obtain ⟨v0,o0,ho0,_⟩:=I.cell x c e
  exact ⟨v1,o1,same c o1 ho1 (pres c o0 ho0 (I.freeC x c e) (b.cell I e)),hd1⟩
 ·obtain ⟨e,n,ne,nf,d⟩:=I'.pin p hp
  obtain ⟨e0,n0,_⟩:=I.pin p hp
  refine ⟨same p.1 p.2 e (pres p.1 p.2 e0 n0 ?_),n,ne,nf,d⟩
  rw [b.frs]
  intro hm
  rcases Qi hm with z | z
  ·exact ne z
  ·exact nf z
 ·refine (I'.hok a o e).stay (fun c u hc q=>same c u q ?_) (fun _ q=>q) fun _ _ q=>q
  rcases hc with rfl | hc
  ·exact trk _ _ e
  ·exact trk _ _ hc
end
noncomputable def del (H:Hp) (a:Addr):Hp:=fun b=>if b=a then none else H b
theorem del_ne {H:Hp} {a b:Addr} (h:b≠a):del H a b=H b:=if_neg h
theorem del_same {H:Hp} {a:Addr}:del H a a=none:=if_pos rfl
noncomputable def excN (e C t:Addr) (dd:Option Addr):HO:=.ext (ExcN e C t dd)
theorem excN_ok {P:Program} {w:World} {H:Hp} {h:Heap} {e C t:Addr} {dd:Option Addr} (p:ExcN e C t dd h):ObjOk P w H h e (excN e C t dd):=⟨p,⟨_,p⟩,fun _ _ q k=>k _ q⟩
noncomputable def XdAt (dx:Addr) (fs:List (Str × V)) (h:Heap):Prop:=∃ mA,h.Ns1 dx mA/\∀ f,RelO (fs.lookup f) (mA f)
noncomputable def xdO (dx:Addr) (fs:List (Str × V)):HO:=.ext (XdAt dx fs)
theorem XdAt.obj {dx:Addr} {fs:List (Str × V)} {h:Heap} (p:XdAt dx fs h):∃ o,h.get? dx=some o:=by obtain ⟨_,⟨o,_,_,e,_⟩,_⟩:=p;exact ⟨o,e⟩
theorem xd_ok {P:Program} {w:World} {H:Hp} {h:Heap} {dx:Addr} {fs:List (Str × V)} (p:XdAt dx fs h):ObjOk P w H h dx (xdO dx fs):=⟨p,p.obj,fun _ _ hsl47 k=>by obtain ⟨mA,n,r⟩:=hsl47;exact ⟨mA,n.at k,r⟩⟩
section
variable {P:Program} {w:World} {K:PySem.W.Frag} {mg:Str->Option Value} {base:Heap} {N:List Str} {qual:Str} {scope:Scope} {f:Addr} {cd:Value} {A:Around} {outer:List Env} {s₀:Shared} {H₀:Hp} {E:XK}
noncomputable def RaiseOk2 (X:Cx) (E:XK):Prop:=∀ (pins:List (Addr × Obj)) (σ:St) (H:Hp) (s:Shared) (ea C t:Addr) (dd:Option Addr),Inv X pins σ H s->H ea=some (excN ea C t dd)->X.s₀.heap.get? ea=none->E (.ref C) dd (del H ea)->X.xe (.ref ea) s
theorem raise2 {κ:Option Value->Prop} (h0:κ (some .none)):RaiseOk2 (cxOf (CX2 κ P w) P w K mg base N qual scope f cd A outer s₀ H₀ E) E:=by
 intro pins σ H s ea C t dd I ha hnew q
 have bd:=body_cx (CX:=CX2 κ P w) (P:=P) (w:=w) (K:=K) (mg:=mg) (base:=base) (N:=N) (qual:=qual) (scope:=scope) (f:=f) (cd:=cd) (A:=A) (outer:=outer) (s₀:=s₀) (H₀:=H₀) (E:=E)
 generalize hX:cxOf (CX2 κ P w) P w K mg base N qual scope f cd A outer s₀ H₀ E=X at I bd hnew
 have px:ExcN ea C t dd s.heap:=(show ObjOk X.prog X.w H s.heap ea (.ext (ExcN ea C t dd)) from I.hok ea _ ha).1
 have nst:ea∉L2.frs X.stack:=fun hm=>by rw [I.stkFree ea hm] at ha;cases ha
 have hin:∀ b o,s.heap.get? b=some o->b≠ea->b∉L2.frs X.stack->(PySem.W.hideAll s.heap (ea::L2.frs X.stack)).get? b=some o:=fun b o e n1 n2=>PySem.W.hideAll_get _ e (by intro z;rcases Qi z with z | z;exact n1 z;exact n2 z)
 have hst:(PySem.W.hideAll s.heap (ea::L2.frs X.stack)).StaysIn s.heap:=fun b o e=>PySem.W.of_hideAll _ e
 have ff:s.heap.FunFrames (PySem.W.hideAll s.heap (ea::L2.frs X.stack)) X.stack:=PySem.W.funFrames_hide I.stack fun env he a hf=>Qm _ (List.mem_filterMap.mpr ⟨env,he,hf⟩)
 have hno:(PySem.W.hideAll s.heap (ea::L2.frs X.stack)).get? ea=none:=PySem.W.hideAll_none _ Qp
 have dl:∀ b o,H b=some o->(∀ φ,o≠.ext φ)->del H ea b=some o:=fun b o e n=>by rw [del_ne (fun z=>n (ExcN ea C t dd) (by rw [z,ha] at e;exact (Ql e).symm))];exact e
 have un:Un (L2.frs X.stack) [] H (del H ea) s.heap s.heap:=by
  refine ⟨fun b o e _ _ _=>e,fun b o e _ _ _=>⟨o.slots,e⟩,fun b o e n _=>?_,fun b o e _=>⟨o,e⟩,fun b xs e=>dl _ _ e (fun _ z=>nomatch z),fun b o u e=>dl _ _ e (fun _ z=>nomatch z),fun b ps e=>⟨#[],by rw [Array.append_empty];exact dl _ _ e (fun _ z=>nomatch z)⟩⟩
  unfold del
  split
  ·rfl
  ·exact n
 have hok:HOk X.prog X.w (del H ea) s.heap:=fun b o e=>by
  have hb:b≠ea:=fun z=>by rw [z,del_same] at e;cases e
  rw [del_ne hb] at e
  exact (I.hok b o e).stay (fun _ _ _ z=>z) (fun c z=>dl _ _ z (fun _ z=>nomatch z)) fun c xs z=>dl _ _ z (fun _ z=>nomatch z)
 have trk:∀ a o,del H ea a=some o->∃ ob,(PySem.W.hideAll s.heap (ea::L2.frs X.stack)).get? a=some ob:=fun a o e=>by
  have hb:a≠ea:=fun z=>by rw [z,del_same] at e;cases e
  rw [del_ne hb] at e
  obtain ⟨ob,hob⟩:=obj_is I e
  exact ⟨ob,hin a ob hob hb fun hm=>by rw [I.stkFree a hm] at e;cases e⟩
 have pres:∀ b o,X.s₀.heap.get? b=some o->b∉X.fs->∃ o',(PySem.W.hideAll s.heap (ea::L2.frs X.stack)).get? b=some o':=fun b o e hb=>by
  obtain ⟨o1,e1⟩:=I.base.there b o e (by rw [bd.ex];simp)
  exact ⟨o1,hin b o1 e1 (fun z=>by rw [z,hnew] at e;cases e) (bd.old I e hb)⟩
 subst hX
 refine leaves_firstD I.ok.frames ff rfl px hst hno rfl rfl fun h'' fl up=>?_
 have J:=lands2 bd I un hok rfl I.bare hst fl.1 up (frames_of ff) pres (fun b o e n hb=>⟨o,hin b o e (fun z=>by rw [z,ha] at n;cases n) hb⟩) trk
 exact ⟨ea,.ref C,dd,some .none,_,del H ea,rfl,h0,fl,pres,trk,J.os,J.bare,J.base,J.hok,q⟩
end
section
variable {X:Cx} {pins:List (Addr × Obj)} {σ:St} {H:Hp} {s:Shared} {a C t dx:Addr} {fs:List (Str × V)} {f:Str} {A:Around} {E:Value->Shared->Prop}
theorem setx1_ok {y:V} {u:Value} {Q:Unit->Shared->Prop} (bd:Body X) (I:Inv X pins σ H s) (e:H a=some (excN a C t none)) (c:ICls X.K C) (n:NoAttr X.K C f) (ry:RelV y u)
  (h:∀ dx s',H dx=none->dx≠a->Inv X pins σ (upd (upd H a (excN a C t (some dx))) dx (xdO dx [(f,y)])) s'->Q () s'):wpAny (model X.prog X.w) A (setAttr (.ref a) f u) Q E s:=by
 have p:ExcN a C t none s.heap:=(show ObjOk X.prog X.w H s.heap a (.ext (ExcN a C t none)) from I.hok a _ e).1
 refine set_exc1 I.kIn p c n.taker fun h' N p' kp=>?_
 have hn:H s.heap.objs.size=none:=I.hok.fresh (Qh _)
 have lt:∀ {b:Addr} {o:Obj},s.heap.get? b=some o->b≠s.heap.objs.size:=fun q=>Qw (Qn q)
 refine h s.heap.objs.size _ hn (lt p).symm ?_
 have I1:Inv X pins σ (upd H a (excN a C t (some s.heap.objs.size))) { s with heap:=h',toks:=s.toks+2 } :=
  I.write (x:=a) (e:=a) (by rw [e];exact True.intro) (.inl rfl) (fun b q hb z=>kp b q hb z) ⟨_,p'⟩ (excN_ok p')
 refine I1.track (by rw [upd_ne (lt p).symm];exact hn) ?_ ?_ (fun x c ec z=>?_) (fun p hp z=>?_) (xd_ok ⟨_,N,fun g=>?_⟩)
 ·cases z:X.s₀.heap.get? s.heap.objs.size with
  | none=>rfl
  | some o =>
   obtain ⟨o1,e1⟩:=I.base.there _ o z (by rw [bd.ex];simp)
   exact absurd rfl (lt e1)
 ·obtain ⟨m,⟨o,_,_,eo,_⟩,_⟩:=I.loc
  exact (lt eo).symm
 ·obtain ⟨_,o0,ho0,_⟩:=I.cell x c ec
  exact lt ho0 z
 ·obtain ⟨e0,_⟩:=I.pin p hp
  exact lt e0 z
 ·show RelO (List.lookup g [(f,y)]) (if g=f then some u else none)
  by_cases q:g=f
  ·rw [if_pos q]
   simp only [List.lookup,beq_iff_eq.mpr q]
   exact ry
  ·rw [if_neg q]
   simp only [List.lookup,beq_eq_false_iff_ne.mpr q]
   exact True.intro
theorem within_of {fs:List (Str × V)} {mA:Str->Option Value} (r:∀ f,RelO (fs.lookup f) (mA f)):PySem.Within mA (fs.map (·.1)):=fun g hg=>by
 cases q:fs.lookup g with
 | none=>exact absurd (RelO.none_of (by rw [<- q];exact r g)) hg
 | some v =>
  clear r hg
  induction fs with
  | nil=>cases q
  | cons p fs ih =>
   simp only [List.lookup] at q
   split at q
   ·rename_i z
    rw [beq_iff_eq.mp z];exact Qp
   ·exact Qm _ (ih q)
theorem setx2_ok {y:V} {u:Value} {Q:Unit->Shared->Prop} (I:Inv X pins σ H s) (e:H a=some (excN a C t (some dx))) (ed:H dx=some (xdO dx fs)) (ne:dx≠a) (hl:fs.length<=1000) (c:ICls X.K C) (n:NoAttr X.K C f) (ry:RelV y u)
  (h:∀ s',Inv X pins σ (upd H dx (xdO dx (putF f y fs))) s'->Q () s'):wpAny (model X.prog X.w) A (setAttr (.ref a) f u) Q E s:=by
 have p:ExcN a C t (some dx) s.heap:=(show ObjOk X.prog X.w H s.heap a (.ext (ExcN a C t (some dx))) from I.hok a _ e).1
 obtain ⟨mA,N,r⟩:XdAt dx fs s.heap:=(show ObjOk X.prog X.w H s.heap dx (.ext (XdAt dx fs)) from I.hok dx _ ed).1
 refine set_exc2 I.kIn p N ne (within_of r) (by rw [Qd];exact hl) c n.taker fun h' N' sb=>h _ ?_
 have xd':XdAt dx (putF f y fs) h':=⟨_,N',fun g=>by
  show RelO ((putF f y fs).lookup g) (if g=f then some u else mA g)
  rw [lookup_putF]
  by_cases q:g=f
  ·rw [if_pos q,if_pos q];exact ry
  ·rw [if_neg q,if_neg q];exact r g⟩
 exact I.write (x:=dx) (e:=dx) (by rw [ed];exact True.intro) (.inl rfl) (fun b q hb z=>(sb.2 b hb).trans z) xd'.obj (xd_ok xd')
end
noncomputable def sXfld (K:PySem.W.Frag) (ta tv:TE) (f:Str):TS:=fun D σ H=>tv σ H fun y H1=>ta σ H1 fun x H2=>∃ (a C t:Addr),x=.ref a/\ICls K C/\NoAttr K C f /\
 ((H2 a=some (excN a C t none)/\∀ dx,H2 dx=none->dx≠a->D.nx σ (upd (upd H2 a (excN a C t (some dx))) dx (xdO dx [(f,y)]))) ∨
  ∃ (dx:Addr) (fs:List (Str × V)),H2 a=some (excN a C t (some dx))/\H2 dx=some (xdO dx fs)/\dx≠a/\fs.length<=1000/\D.nx σ (upd H2 dx (xdO dx (putF f y fs))))
section
variable {X:Cx} {o e value:Expr} {f:Str} {pos pos' tpos:Pos} {ta tv:TE}
theorem ps_xfld (bd:Body X) (ha:PE X o ta) (hv:PE X value tv) (hs:swapsWith value (some (.Attribute o f pos')) pos.line X.env=pure false:=by rfl):PS X (.Assign [.Attribute o f pos'] value pos) (sXfld X.K ta tv f):=by
 intro pins s σ H D I h
 refine plainObj_wpAny_Assign_Attribute (thn (hv pins s σ H _ I h) fun u s1 ⟨y,H1,I1,ry,q⟩=>thn (ha pins s1 σ H1 _ I1 q) fun ov s2 hsl48=>?_) hs
 obtain ⟨x,H2,I2,rx,a,C,t,ex,c,n,q2⟩:=hsl48
 subst ex
 obtain rfl:ov=Value.ref a:=rx
 rcases q2 with ⟨ea,q2⟩ | ⟨dx,fs,ea,ed,ne,hl,q2⟩
 ·exact setx1_ok bd I2 ea c n ry fun dx s3 hn ne I3=>⟨σ,_,I3,q2 dx hn ne⟩
 ·exact setx2_ok I2 ea ed ne hl c n ry fun s3 I3=>⟨σ,_,I3,q2⟩
end
noncomputable def tRaiseI (E:XK) (C:Addr) (sp:Sp) (t:TA):TS:=fun _ σ H=>t σ H fun vs H1=>vs.length<=sizeLine/\∀ e tt,H1 e=none->H1 tt=none->e≠tt ->
 sp (.ref e::vs) (upd H1 e (excN e C tt none)) (fun v H2=>v=.non/\∃ dd,H2 e=some (excN e C tt dd)/\E (.ref C) dd (del H2 e)) E0
structure MkI (K:PySem.W.Frag) (C f:Addr) (bm:List Value) (newId:String):Prop where
 exc:excInI K C bm newId f=true
 fn:PySem.W.isFn K (.ref f)=true
section
variable {X:Cx}
theorem ps_raiseI {E:XK} {x:Str} {C f:Addr} {fd:FuncData} {ps:List Str} {k:Nat} {sp:Sp} {bm:List Value} {newId initId B:String} {e:Expr} {es:List Expr} {t:TA} {np cpos pos:Pos} (bd:Body X) (hR:RaiseOk2 X E) (hc:X.calm=true) (hg:Gl X x) (hm:X.mg x=some (.ref C))
  (M:MkI X.K C f bm newId) (FB:ExcBaseFacts B newId initId bm) (F:FnOk X.prog X.w X.K X.mg X.base CX0 k f fd ps sp) (hr:Room (k+1) X.A) (hb:Binds X.K fd ps []) (ha:PA X (e::es) t) (hdb:(x == ("__debug__":Str))=false:=by decide)
  (he:starEach (e::es) X.env=(false,eval e X.env)::starEach es X.env:=by rfl) (hpl:(backTo cpos (starEach es X.env)).any (·.1)=false:=by rfl):PS X (.Raise (some (.Call (.Name x np) (e::es) [] cpos)) none pos) (tRaiseI E C sp t):=by
 intro pins s σ H D I h
 obtain ⟨tl,N,nm,qn,bs,hdct,sn,sub,ab,col,dd,k0,k1,k2,k3,k5,mN,hC,hN,hni,T⟩:=own_of_KI I.ok.mod.kin M.exc
 refine raise_init (C:=C) (nm:=nm) (q:=qn) (N:=N) (bs:=bs) (bm:=tl) (hdct:=hdct) (sn:=sn) (sub:=sub) (ab:=ab) (col:=col) (dd:=dd) (k0:=k0) (k1:=k1) (k2:=k2) (k3:=k3) (k5:=k5)
  FB (mN:=mN) (T.hasType FB.hasBase) (I.ok.hd hc) (by rw [he];show (false||(backTo cpos (starEach es X.env)).any (·.1))=false;rw [hpl];rfl) hni (ld_glob I hg hm ⟨rfl,?_⟩ hdb)
 have hA:=ha cpos pins s σ H _ I h
 rw [he] at hA ⊢
 refine Calls.evalArgs_plain (thn hA fun us s1 ⟨vs,H1,I1,r1,hl,q1⟩=>⟨rfl,by rw [<- r1.length];exact hl,I1.bk _ _ hC,hN.keeps I1.bk,T.keeps I1.bk,?_,fun h' ea mx=>?_⟩)
 ·have q:=beq_iff_eq.mp M.fn
  obtain ⟨o,ho,hoc⟩:=Option.map_eq_some_iff.mp (show (X.K.lookup f).map (·.cls)=some (.type "function") from q)
  exact ⟨o,I1.kIn _ _ ho,hoc⟩
 ·obtain ⟨tt,ht,htn,htt⟩:=mx.there
  have lt:∀ {b:Addr} {o:Obj},s1.heap.get? b=some o->b≠ea:=fun q z=>by rw [z,mx.new] at q;cases q
  have none_of:∀ b,s1.heap.get? b=none->H1 b=none:=fun b hb=>by
   cases z:H1 b with
   | none=>rfl
   | some o =>
    obtain ⟨ob,hob⟩:=obj_is I1 z
    rw [hb] at hob
    cases hob
  have net:ea≠tt:=fun z=>by
   rw [z,htt] at ht
   cases ht
  have hs0:X.s₀.heap.get? ea=none:=by
   cases z:X.s₀.heap.get? ea with
   | none=>rfl
   | some o =>
    obtain ⟨o1,e1⟩:=I1.base.there _ o z (by rw [bd.ex];simp)
    exact absurd rfl (lt e1)
  have I1':Inv X pins σ H1 { s1 with heap:=h',toks:=s1.toks }:=I1.kept mx.keeps
  have I2:Inv X pins σ (upd H1 ea (excN ea C tt none)) { s1 with heap:=h',toks:=s1.toks }:=by
   refine I1'.track (none_of _ mx.new) hs0 ?_ (fun x c ec z=>?_) (fun p hp z=>?_) (excN_ok ht)
   ·obtain ⟨m,⟨o,_,_,eo,_⟩,_⟩:=I1.loc
    exact (lt eo).symm
   ·obtain ⟨_,o0,ho0,_⟩:=I1.cell x c ec
    exact lt ho0 z
   ·obtain ⟨e0,_⟩:=I1.pin p hp
    exact lt e0 z
  have hq:=q1 ea tt (none_of _ mx.new) (none_of _ htn) net
  have r2:Vals (V.ref ea::vs) (Value.ref ea::us):=.cons rfl r1
  have hl2:((Value.ref ea::us)++([]:List Value)).length=ps.length:=by
   rw [List.append_nil,<- r2.length]
   exact F.len _ _ _ _ hq
  have hbb:=hb { s1 with heap:=h',toks:=s1.toks } (Value.ref ea::us) I2.kIn hl2
  rw [List.append_nil] at hbb
  refine wpAny_call (codeAny_mono (F.run _ X.stack _ _ ⟨Value.ref ea::us,[]⟩ (Value.ref ea::us) _ _ E0 (hr.make C us []) (I2.env0.make C us []) hbb r2 hq) fun r s' hq'=>?_)
  cases r with
  | error e=>exact False.elim hq'
  | ok fl =>
   cases fl with
   | ret u =>
    obtain ⟨v,H',I3,rv,ev,dd',hx,hE⟩:=I2.after hq'
    subst ev
    have px:ExcN ea C tt dd' s'.heap:=(show ObjOk X.prog X.w H' s'.heap ea (.ext (ExcN ea C tt dd')) from I3.hok ea _ hx).1
    exact ⟨rv,⟨tt,dd',I3.bk _ _ hC,px⟩,hR pins σ H' s' ea C tt dd' I3 hx hs0 hE⟩
   | next=>exact False.elim hq'
   | brk=>exact False.elim hq'
   | cont=>exact False.elim hq'
end
end L2
namespace L2
open PySem PySem.Spec PyProof.Rows
section
variable {P:Program} {w:World} {K:PySem.W.Frag} {mg:Str->Option Value} {base:Heap} {N:List Str} {qual:Str} {scope:Scope} {f:Addr} {cd:Value} {A:Around} {outer:List Env} {s₀:Shared} {H₀:Hp} {E:XK}
theorem Fun.ok2 {κ:Option Value->Prop} {x qual:Str} {st:Stmt} {f:Addr} {fd:FuncData} {N ps:List Str} {k:Nat} {sp:Sp} (F:Fun K x qual st f fd) (S:FnScope N ps (defScope st)) (len:∀ vs H Q E,sp vs H Q E->vs.length=ps.length)
  (hbody:∀ (cdv:Value) (A:Around) (outer:List Env) (s:Shared) (H:Hp) (vs:List V) (Q:VK) (E:XK),Room k (A.deeper (envOfC qual (defScope st) s.heap.objs.size f cdv))->sp vs H Q E ->
   ∃ t,PSs (cxOf (CX2 κ P w) P w K mg base N qual (defScope st) f cdv A outer s H E) (defBody st) t/\t { nx:=fun _ H'=>Q .non H',rt:=Q } (start N vs) H):FnOk P w K mg base (CX2 κ P w) (k+1) f fd ps sp:=by
 obtain ⟨oc,od,kV,doc,pm,an,cdv,ct,osl,rfl,lk,hcd⟩:=F.ex
 exact fn_of lk hcd S len fun A outer s H vs Q E hr hsp=>hbody cdv A outer s H vs Q E hr hsp
end
noncomputable def HasD (a:Addr) (cls:Value) (dd:Option Addr) (cx:Option Value) (h:Heap):Prop:=∃ o vs,h.get? a=some o/\o.cls=cls/\o.dict=dd/\o.data=.fields vs/\vs[2]?=cx
noncomputable def excD (a:Addr) (cls:Value) (dd:Option Addr) (cx:Option Value):HO:=.ext (HasD a cls dd cx)
theorem excD_ok {P:Program} {w:World} {H:Hp} {h:Heap} {e:Addr} {cls:Value} {dd:Option Addr} {cx:Option Value} (p:HasD e cls dd cx h):ObjOk P w H h e (excD e cls dd cx) :=
 ⟨p,by obtain ⟨o,_,q,_⟩:=p;exact ⟨o,q⟩,fun _ _ hsl49 k=>by obtain ⟨o,vs,q,r⟩:=hsl49;exact ⟨o,vs,k _ q,r⟩⟩
theorem HasD.cls {a:Addr} {cls:Value} {dd:Option Addr} {cx:Option Value} {h:Heap} (p:HasD a cls dd cx h):HasCls a cls h:=by obtain ⟨o,_,q,r,_⟩:=p;exact ⟨o,q,r⟩
theorem FlyD.has {base h:Heap} {l:List Env} {e:Addr} {cls:Value} {dd:Option Addr} {cx:Option Value} (x:FlyD base l e cls dd cx h):HasD e cls dd cx h:=by
 obtain ⟨_,_,_,oe,vs,_,_,_,he,hc,hd,_⟩:=x
 exact ⟨oe,vs,he,hc.1,hc.2.1,hd,hc.2.2⟩
theorem FlyD.cls {base h:Heap} {l:List Env} {e:Addr} {cls:Value} {dd:Option Addr} {cx:Option Value} (x:FlyD base l e cls dd cx h):HasCls e cls h:=x.has.cls
noncomputable def tTryD (κ:Option Value->Prop) (K:PySem.W.Frag) (C:Addr) (i:Nat) (tb:XK->TS) (ts:TS):TS:=fun D σ H =>
 tb (fun cls dd H1=>PySem.W.exmOne K cls (.ref C)=some true/\∀ ea cx,κ cx->H1 ea=none->ts (D.unset i) (σ.set i (some (.ref ea))) (upd H1 ea (excD ea cls dd cx))) D σ H
section
variable {X:Cx}
theorem ps_tryD {κ:Option Value->Prop} {body:List Stmt} {tb:XK->TS} {x n:Str} {C:Addr} {i:Nat} {b₀:Stmt} {suite:List Stmt} {ts:TS} {np hpos pos:Pos} (bd:Body X) (hx:PSX (CX2 κ X.prog X.w) X body tb) (hg:Gl X x) (hm:X.mg x=some (.ref C))
  (hN:X.N.Nodup) (hi:X.N[i]?=some n) (hk:X.env.scope.names.lookup n=some .local) (hsu:∀ ea,PSs (X.hnd ea) (b₀::suite) ts) (hdb:(x == ("__debug__":Str))=false:=by decide) :
  PS X (.Try body [.ExceptHandler (some (.Name x np)) (some n) (b₀::suite) hpos] [] [] pos) (tTryD κ X.K C i tb ts):=by
 intro pins s σ H D I h
 refine wpAny_Try_except (thn (hx _ _ pins s σ H D ?_ I h) fun f s1 q=>?_)
 case refine_2 =>
  cases f with
  | next=>exact wpAny_execs_nil q
  | ret v=>exact q
  | brk=>exact q
  | cont=>exact q
 intro H0 s0 ev s' I0 hc
 obtain ⟨ea,cls,dd,cx,B,H',rfl,hc0,fl,pres,trk,os,bare,un,hok,hit,q⟩:=hc
 have fr:X.A.frames=some (X.env::X.outer):=by rw [<- bd.stk];exact I0.ok.frames
 have fl0:FlyD B (X.env::X.outer) ea cls dd cx s'.heap:=by rw [<- bd.stk];exact fl
 refine note_on fr bd.frm fl0 fun h1 held up1=>?_
 refine landsD (s:={ s' with heap:=h1 }) held fun h2 fl2 up2=>?_
 have J2:Inv X pins σ H' { s' with heap:=h2 }:=lands bd I0 un hok os bare fl.1 fl2.1 (up1.trans up2) (frames_of fl.2.2.1) pres trk
 refine wpAny_handleBy_cons (codeAny_handlers_test (ld_glob (J2.hnd ea) hg hm ?_ hdb)) (by intro q;cases q)
 have LT:PySem.W.Looks (model X.prog X.w) h2 (typeOf (.ref ea)) cls:=HasCls.type fl2.cls
 refine (PySem.W.exm_one (M:=model X.prog X.w) J2.kIn LT hit).here ?_
 refine codeAny_handlers_suite_as ?_
 refine lands_againD (s:={ s' with heap:=h2 }) fl2 fun h3 fl3 up3=>?_
 have J3:Inv X pins σ H' { s' with heap:=h3 }:=lands bd I0 un hok os bare fl.1 fl3.1 ((up1.trans up2).trans up3) (frames_of fl.2.2.1) pres trk
 have hBn:B.get? ea=none:=fl.2.1
 have nst:ea∉L2.frs X.stack:=fun hm=>by
  obtain ⟨o,ho,nd⟩:=frames_of fl.2.2.1 ea hm
  obtain ⟨oe,vs,_,_,_,he,_,hd,_⟩:=fl.2.2.2
  rw [ho] at he
  cases he
  exact nd _ hd
 have hn:H' ea=none:=by
  cases z:H' ea with
  | none=>rfl
  | some o =>
   obtain ⟨ob,hb⟩:=trk ea o z
   rw [hBn] at hb
   cases hb
 have hs0:s0.heap.get? ea=none:=by
  cases z:s0.heap.get? ea with
  | none=>rfl
  | some o =>
   obtain ⟨ob,hb⟩:=pres ea o z nst
   rw [hBn] at hb
   cases hb
 have hsX:X.s₀.heap.get? ea=none:=by
  cases z:X.s₀.heap.get? ea with
  | none=>rfl
  | some o =>
   obtain ⟨o1,e1⟩:=I0.base.there ea o z (by rw [bd.ex];simp)
   rw [hs0] at e1
   cases e1
 have J4:Inv X pins σ (upd H' ea (excD ea cls dd cx)) { s' with heap:=h3 }:=by
  refine J3.track hn hsX (fun z=>nst ?_) (fun y c e z=>?_) (fun p hp z=>?_) (excD_ok fl3.has)
  ·rw [bd.frs,z];exact Qp
  ·obtain ⟨_,o0,ho0,_⟩:=I0.cell y c e
   rw [z,hs0] at ho0
   cases ho0
  ·obtain ⟨e,_⟩:=I0.pin p hp
   rw [z,hs0] at e
   cases e
 refine store_ok (X:=X.hnd ea) (v:=.ref ea) (J4.hnd ea) hN hi (.inl hk) rfl (fun s5 J5=>?_) (.inr hk)
 refine QC (hsu ea pins s5 _ _ (D.unset i) J5 (q ea cx hc0 hn)) (fun f s6 z=>?_) fun _ _ z=>False.elim z
 cases f with
 | next=>obtain ⟨σ6,H6,J6,q6⟩:=z;exact goes_ok (J6.unhnd I.ok) hN hi hk fun s7 J7=>⟨_,_,J7,q6⟩
 | brk=>obtain ⟨σ6,H6,J6,q6⟩:=z;exact goes_ok (J6.unhnd I.ok) hN hi hk fun s7 J7=>⟨_,_,J7,q6⟩
 | cont=>obtain ⟨σ6,H6,J6,q6⟩:=z;exact goes_ok (J6.unhnd I.ok) hN hi hk fun s7 J7=>⟨_,_,J7,q6⟩
 | ret u=>obtain ⟨v6,σ6,H6,J6,r6,q6⟩:=z;exact goes_ok (J6.unhnd I.ok) hN hi hk fun s7 J7=>⟨_,_,_,J7,r6,q6⟩
theorem excD_has {pins:List (Addr × Obj)} {σ:St} {H:Hp} {s:Shared} {a:Addr} {cls:Value} {dd:Option Addr} {cx:Option Value} (I:Inv X pins σ H s) (e:H a=some (excD a cls dd cx)):HasD a cls dd cx s.heap:=(show ObjOk X.prog X.w H s.heap a (.ext (HasD a cls dd cx)) from I.hok a _ e).1
theorem call_isexD {K:PySem.W.Frag} (hK:X.K=K):CallR X (.builtin "isinstance") (fun xs H Q=>∃ a D C dd cx b,xs=[.ref a,.ref C]/\H a=some (excD a (.ref D) dd cx)/\XCls K D/\PySem.W.kitOne K (.ref D) (.ref C)=some b/\Q (.bl b) H):=by
 subst hK
 intro pins s σ H xs us Q I r h
 obtain ⟨a,D,C,dd,cx,b,rfl,ha,c,e,q⟩:=h
 obtain ⟨u,w',rfl,rx,rw'⟩:=vals2 r
 cases (show w'=Value.ref C from rw')
 cases (show u=Value.ref a from rx)
 exact PySem.W.kia_one (kitx_exc c) I.kIn (excD_has I ha).cls e (fun z=>nomatch z) fun tk=>⟨.bl b,H,I.tok _,rfl,q⟩
end
end L2
namespace L2
open PySem PySem.Spec PyProof.Rows
section
variable {prog:Program} {w:World} {A:Around} {E:Value->Shared->Prop} {s:Shared} {K:PySem.W.Frag} {x D dx:Addr} {name:Str} {v:Value} {mA:Str->Option Value}
theorem HasD.inst {dx:Addr} {cx:Option Value} {h:Heap} (p:HasD x (.ref D) (some dx) cx h) {od:Obj} (ho:h.get? dx=some od):∃ ox,PySem.W.InstAt h x ox D (some od):=by
 obtain ⟨o,vs,q,hc,hd,hv,_⟩:=p
 refine ⟨o,q,hc,?_,?_⟩
 ·obtain ⟨a,b,c,d⟩:=o
  cases hv
  rfl
 ·rw [hd];exact ho
open PySem.W PySem.Calls Builtin Builtin.ObjectAttr in
theorem xc_at {expr:Bool} {cx:Option Value} {Q:Value->Shared->Prop} (c:XCls K D) (hh:PySem.W.hasDictIn K D=true) (na:NoAttr K D name) (X:K.In s.heap) (p:HasD x (.ref D) (some dx) cx s.heap) (N:s.heap.Ns1 dx mA) (hv:mA name=some v) (hv':PySem.W.handedIn v=true)
  (h:Q v { s with toks:=s.toks+1 }):wpAny (model prog w) A (getAttr (.ref x) name expr) Q E s:=by
 obtain ⟨od,ho,hl⟩:=lookIn_ns N
 obtain ⟨ox,J⟩:=p.inst ho
 have LF:=looks_find (M:=model prog w) X J (findObj_own hh na rfl (by rw [hl,hv]))
 obtain ⟨hp,g,d,t,os⟩:=s
 have L0:=p.cls.type (M:=model prog w)
 have L1:=looks_findIn (M:=model prog w) X c.hg
 have L2:=looks_findIn (M:=model prog w) X c.hk
 unfold getAttr getAttrBy
 refine Qb (wpAny_mkText (wpAny_holding (Qb (L0.at (Qb (L1.at ?_))))))
 show wpAny _ _ (getAttrByItsOwn _ _ _ _ _ _) _ _ _
 unfold getAttrByItsOwn
 refine Qb ((show Looks (model prog w) hp (hookBefore (.ref D)) none from L2).at ?_)
 refine Qb (wpAny_attempt (wpAny_holding ?_))
 unfold callGetattribute
 rw [show (expr&&onTheHeap (.builtin "BaseException.__getattribute__"))=false from by cases expr<;>rfl]
 rw [if_neg (by decide)]
 unfold boundAndCalled
 rw [F.excAttr_ValueError.ga.bind]
 refine Qb (Qg ?_)
 refine wpAny_call (codeAny_call_builtin F.excAttr_ValueError.ga.plain F.entry_bexc_ga (xc_check (s:=⟨hp,g,d,t+1,os⟩) c X p.cls ?_))
 refine Qb (Qg (Qb (Qg (Qb (L0.at (Qb (LF.at ?_)))))))
 refine Qg ?_
 show wpAny _ _ (handedOut v) _ _ _
 rw [handedOut_of hv']
 exact Qg h
end
section
variable {X:Cx}
noncomputable def tXfld (K:PySem.W.Frag) (ta:TE) (f:Str):TE:=fun σ H Q=>ta σ H fun x H1=>∃ (a D dx:Addr) (cx:Option Value) (fs:List (Str × V)) (v:V),x=.ref a/\H1 a=some (excD a (.ref D) (some dx) cx)/\H1 dx=some (xdO dx fs)/\XCls K D/\PySem.W.hasDictIn K D=true/\NoAttr K D f/\fs.lookup f=some v/\Q v H1
theorem pe_xfld {e:Expr} {f:Str} {pos:Pos} {ta:TE} (he:PE X e ta) (hb:attributeBase e f X.env (eval e X.env)=eval e X.env):PE X (.Attribute e f pos) (tXfld X.K ta f):=by
 intro pins s σ H Q I h
 refine attr_of hb (thn (he pins s σ H _ I h) fun u s1 hsl50=>?_)
 obtain ⟨x,H1,I1,rx,a,D,dx,cx,fs,v,ex,ea,ed,c,hh,n,l,q⟩:=hsl50
 subst ex
 obtain rfl:u=Value.ref a:=rx
 obtain ⟨mA,N,r⟩:XdAt dx fs s1.heap:=(show ObjOk X.prog X.w H1 s1.heap dx (.ext (XdAt dx fs)) from I1.hok dx _ ed).1
 obtain ⟨u,hu,ru⟩:=RelO.some_of (v:=v) (o:=mA f) (by rw [<- l];exact r f)
 exact xc_at c hh n I1.kIn (excD_has I1 ea) N hu (handed_of ru) ⟨v,H1,I1.tok _,ru,q⟩
end
end L2
namespace L2
open PySem PySem.Spec PyProof.Rows
section
variable {P:Program} {w:World} {K:PySem.W.Frag} {mg:Str->Option Value} {base:Heap}
end
end L2
namespace L2
open PySem PySem.Spec PyProof.Rows
section
variable {prog:Program} {w:World} {A:Around} {E:Value->Shared->Prop} {s:Shared}
end
section
variable {M:Model} {A:Around} {E:Value->Shared->Prop} {s:Shared} {base:Heap} {l outer:List Env} {env:Env} {L e:Addr} {cls:Value} {dd:Option Addr} {cx:Option Value} {Q:Unit->Shared->Prop}
end
section
variable {X:Cx} {pins:List (Addr × Obj)} {σ:St} {H:Hp} {s:Shared}
end
section
variable {P:Program} {w:World} {K:PySem.W.Frag} {mg:Str->Option Value} {base:Heap} {N:List Str} {qual:Str} {scope:Scope} {f:Addr} {cd:Value} {A:Around} {outer:List Env} {s₀:Shared} {H₀:Hp} {E:XK}
end
section
variable {prog:Program} {w:World} {A:Around} {E:Value->Shared->Prop} {env:Env}
variable {nm q:Str} {C N:Addr} {bs bm bmB:List Value} {hdct:Bool} {sn:List Str} {sub:List Value} {ab:Bool} {col:Option Bool} {dd:Option Addr} {k0 k1 k2 k3 k5:Option Value} {B newId initId:String}
end
section
variable {X:Cx}
end
end L2
namespace L2
open PySem PySem.Spec PyProof.Rows
theorem cmp_loop2 {prog:Program} {w:World} {A:Around} {R:Result->Shared->Prop} {s:Shared} {elt iter:Expr} {tg:Expr} {ifs:List Expr} {sc:Scope} {pos:Pos} {it acc:Value} {env:Env} (J:Nat->Shared->Prop)
  (one:∀ k st,J k st->wpAny (model prog w) A (pyNext it) (fun r s₁=>match r with
   | none=>R (.ok .next) s₁
   | some v=>wpAny (model prog w) A (letOwnedTupleGo tg it v) (fun _ sg=>wpAny (model prog w) A (assign tg env v) (fun _ s₂ =>
     wpAny (model prog w) A (cmpTests ifs env) (fun ok s₃ =>
      if ok=true then wpAny (model prog w) A (eval elt env) (fun y s₄=>wpAny (model prog w) A (call (.builtin "list.append") [acc,y]) (fun _ s₅=>∃ m,m<k/\J m s₅) (fun _ _=>False) s₄) (fun _ _=>False) s₃
      else ∃ m,m<k/\J m s₃) (fun _ _=>False) s₂) (fun _ _=>False) sg) (fun _ _=>False) s₁) (fun _ _=>False) st)
  (k0:Nat) (h0:J k0 s):codeAny (model prog w) A (.compLoop (.ListComp elt [⟨tg,iter,ifs,0⟩] sc pos) 0 it acc env) R s:=by
 refine codeAny_loop rfl J (fun k st hk=>?_) k0 h0
 show wpAny _ A ((compTurn (.ListComp elt [⟨tg,iter,ifs,0⟩] sc pos) 0 it acc env).onRaise (fun y=>do noteFrame y env;theTreesLotGoes y)) _ _ st
 refine wpAny_noted ?_
 rw [compTurn_list]
 refine Qb (wpAny_standAt (Qb (QC (one k st hk) (fun r s₁ h₁=>?_) fun _ _ z=>z.elim)))
 cases r with
 | none=>exact Qg h₁
 | some v =>
  refine Qb (QC h₁ (fun _ sg hg=>?_) fun _ _ z=>z.elim)
  refine Qb (QC hg (fun _ s₂ h₂=>?_) fun _ _ z=>z.elim)
  refine Qb (QC h₂ (fun ok s₃ h₃=>?_) fun _ _ z=>z.elim)
  cases ok with
  | false=>exact Qg ⟨rfl,h₃⟩
  | true =>
   refine Qb (Qb (QC h₃ (fun y s₄ h₄=>?_) fun _ _ z=>z.elim))
   exact Qb (QC h₄ (fun _ s₅ h₅=>Qg (Qg ⟨rfl,h₅⟩)) fun _ _ z=>z.elim)
structure CompSc2 (scX sc:Scope) (NX:List Str) (xs:List Str) (fv:List Str) (js:List Nat):Prop where
 kind:sc.kind=.function
 kindX:scX.kind=.function
 cell:∀ y∈sc.names,y.2≠.cell
 own:∀ x∈xs,sc.names.lookup x=some .local
 names:∀ y∈sc.names,y.2=.local->sc.names.lookup y.1=some .local
 free:∀ y∈sc.names,y.2=.free->scX.names.lookup y.1=some .cell
 nd:(xs++fv).Nodup
 at':js.map (fun j=>NX[j]?)=fv.map some
 fr:∀ y∈fv,sc.names.lookup y=some .free
noncomputable abbrev xc2 (X:Cx) (sc:Scope) (xs:List Str) (fv:List Str) (C:Addr) (s0:Shared) (H0:Hp) (ex:List Addr):Cx :=
 { X with N:=xs++fv,s₀:=s0,H₀:=H0,env:=compEnvC sc (clOf X.env.cells sc.names []) C X.env,outer:=X.stack,ex:=ex,fn:=fun _=>false,pn:=[],xe:=fun _ _=>False }
noncomputable def tStep2 (k:Nat) (js:List Nat) (g:TG) (tt:TT) (te:TE) (σ:St) (ys:List V) (N:List V->Hp->Prop) (x:V) (H':Hp):Prop :=
 ∀ os:List (Option V),os.length=k->g x (os++pick js σ) H' fun σ6 H6=>(∃ os':List (Option V),os'.length=k/\σ6=os'++pick js σ) /\
  tt σ6 H6 fun b H2=>if b=true then te σ6 H2 fun y H3=>ys.length<sizeLine/\N (ys++[y]) H3 else N ys H2
noncomputable def tCompB2 (J:It) (k:Nat) (js:List Nat) (g:TG) (tt:TT) (te:TE):TE:=fun σ H1 Q=>∃ W:Nat->Nat->List V->Hp->Prop,(∃ m,W 0 m [] H1)/\∀ i m ys H,W i m ys H ->
 (J.stop i H/\∀ p,H p=none->Q (.ref p) (upd H p (.lst ys))) ∨
 (J.go i H/\∃ N:List V->Hp->Prop,(∀ ys' H',N ys' H'->∃ m',m'<m/\W (i+1) m' ys' H')/\∀ x H',J.yld i H x H'->tStep2 k js g tt te σ ys N x H')
noncomputable def tComp2 (wi:TI) (k:Nat) (js:List Nat) (g:TG) (tt:TT) (te:TE):TE:=fun σ H Q=>wi σ H fun J H1=>tCompB2 J k js g tt te σ H1 Q
section
variable {X:Cx} {pins:List (Addr × Obj)} {σ:St} {H2:Hp} {s2:Shared} {elt iter tg:Expr} {xs:List Str} {ifs:List Expr} {sc scX:Scope} {pos:Pos} {fv:List Str} {js:List Nat} {g:TG} {tt:TT} {te:TE}
theorem comp_core2 (S:CompSc2 scX sc X.N xs fv js) (hsx:X.env.scope=scX) (hcalm:X.calm=true) (hgg:∀ C s0 H0 ex,PG (xc2 X sc xs fv C s0 H0 ex) tg g)
  (ht:∀ C s0 H0 ex,PIf (xc2 X sc xs fv C s0 H0 ex) ifs tt) (he:∀ C s0 H0 ex,PE (xc2 X sc xs fv C s0 H0 ex) elt te)
  {it:Addr} {fp:List Addr} {tn:Nat->Heap->Prop} {J:It} (I2:Inv X pins σ H2 s2) (T:Turn X.prog X.w X.K tg J fp it tn) (st2:tn 0 s2.heap) (f2:∀ b∈fp,FpOk X pins H2 b)
  {Q:VK} {W:Nat->Nat->List V->Hp->Prop} (w0:∃ m,W 0 m [] H2)
  (step:∀ i m ys H,W i m ys H->(J.stop i H/\∀ p,H p=none->Q (.ref p) (upd H p (.lst ys))) ∨
   (J.go i H/\∃ N:List V->Hp->Prop,(∀ ys' H',N ys' H'->∃ m',m'<m/\W (i+1) m' ys' H') /\
    ∀ x H',J.yld i H x H'->tStep2 xs.length js g tt te σ ys N x H'))
  {RR:Value->Addr->Result->Shared->Prop} {E:Value->Shared->Prop}
  (fin:∀ (D C:Addr) (s':Shared) (H':Hp),Inv X pins σ H' s'->Q (.ref D) H'->(∃ m,s'.heap.Ns C m)->FpOk X pins H' C->RR (.ref D) C (.ok .next) s') :
  wpAny (model X.prog X.w) X.A (newList []) (fun acc s₃=>wpAny (model X.prog X.w) X.A (newFunctionEnv sc X.env.globals (clOf X.env.cells sc.names []) [] X.env.qual none .none (some X.env)) (fun cenv s₄ =>
   codeAny (model X.prog X.w) X.A (.compStart (.ListComp elt [⟨tg,iter,ifs,0⟩] sc pos) 0 (.ref it) acc { cenv with scope:=relabel sc X.env }) (RR acc cenv.locals) s₄) E s₃) E s2:=by
 have hfree:∀ y∈sc.names,y.2=.free->∃ c,X.env.cells.lookup y.1=some c:=fun y hy hf=>I2.ok.has y.1 (.inl (by show X.env.scope.names.lookup y.1=_;rw [hsx];exact S.free y hy hf))
 obtain ⟨cl1,_,cl3⟩:=clOf_look (cells:=X.env.cells) sc.names [] hfree (fun y c h=>by simp at h)
 refine wpAny_newObj_type (wpAny_newFunctionEnv S.cell (by intro y hy;simp at hy) (fun h₁ hns₁ hsb₁=>?_) S.kind)
 dsimp only at hns₁ hsb₁ ⊢
 generalize hG:s2.heap.push { cls:=.type "list",dict:=none,data:=.seq ([]:List Value).toArray }=G at hns₁ hsb₁ ⊢
 have hGz:G.objs.size=s2.heap.objs.size+1:=by rw [<- hG,Heap.size_push]
 have upG:∀ b o,s2.heap.get? b=some o->G.get? b=some o:=fun b o e=>hG ▸ Qf _ e
 have upH:∀ b o,G.get? b=some o->h₁.get? b=some o:=fun b o e=>hsb₁.extBut b o (Qw (Qn e)) (Qf _ e)
 have ltD:∀ b o,s2.heap.get? b=some o->b≠s2.heap.objs.size:=fun b o e=>Qw (Qn e)
 have fpo:∀ b∈fp,∃ o,s2.heap.get? b=some o:=fun b hb=>by obtain ⟨o,e,_⟩:=T.obj 0 _ st2 b hb;exact ⟨o,e⟩
 have fpD:∀ b∈fp,b≠s2.heap.objs.size:=fun b hb=>by obtain ⟨o,e⟩:=fpo b hb;exact ltD b o e
 have fpC:∀ b∈fp,b≠G.objs.size:=fun b hb=>by obtain ⟨o,e⟩:=fpo b hb;exact Qw (Qn (upG b o e))
 have cellO:∀ y c,(clOf X.env.cells sc.names []).lookup y=some c->∃ v,s2.heap.IsCell c v:=fun y c e=>I2.cell y c (cl1 y c e)
 have cellD:∀ y c,(clOf X.env.cells sc.names []).lookup y=some c->c≠s2.heap.objs.size:=fun y c e=>by obtain ⟨v,q⟩:=cellO y c e;exact Qw q.lt
 have Dfs:s2.heap.objs.size∉frs X.stack:=fun hb=>by
  rcases Qi (I2.stkSub _ hb) with z | z
  ·exact absurd I2.lt (by rw [<- z];exact Nat.lt_irrefl _)
  ·exact I2.nofs (Qh _) z
 have fpfs:∀ b∈fp,b∉frs X.stack:=fun b hb hz=>by
  obtain ⟨_,f1,f2',_⟩:=f2 b hb
  rcases Qi (I2.stkSub _ hz) with z | z
  ·exact f1 z
  ·exact f2' z
 have HD:H2 s2.heap.objs.size=none:=I2.hok.fresh (Qh _)
 have HC:H2 G.objs.size=none:=I2.hok.fresh (by rw [hGz];exact Nat.le_succ _)
 have DC:s2.heap.objs.size≠G.objs.size:=by rw [hGz];exact Qw (Nat.lt_succ_self _)
 have okC:Cx.Ok (xc2 X sc xs fv G.objs.size { s2 with heap:=G } H2 (s2.heap.objs.size::fp)):=by
  refine ⟨I2.ok.mod,S.kind,I2.ok.glob,I2.ok.blt,Qh _,fun y z c h1 h2=>I2.ok.inj y z c (cl1 _ _ h1) (cl1 _ _ h2),fun y hy=>?_,fun y c hfn _=>(by cases hfn),I2.ok.hd,I2.ok.frames,.inl rfl,fun b hb=>?_,fun b o e=>?_,?_,fun b o e hb=>?_,fun b hb=>?_,?_,I2.stkFree⟩
  ·exact Option.isSome_iff_exists.mp (cl3 y (relabel_back S.cell hy))
  ·rcases Qi hb with z | z
   ·subst z;exact ⟨DC,cellD⟩
   ·refine ⟨fpC b z,fun y c e=>?_⟩
    obtain ⟨_,_,_,_,f4,_⟩:=f2 b z
    exact f4 y c (cl1 y c e)
  ·exact ⟨upG b o (I2.bs b o e).1,(I2.bs b o e).2⟩
  ·show X.base.objs.size<=G.objs.size
   rw [hGz];exact Nat.le_succ_of_le (QA I2.ok.bsz I2.sz)
  ·rcases Qi hb with z | z
   ·exact ltD b o (I2.bk b o e) z
   ·obtain ⟨_,_,_,f3,_⟩:=f2 b z
    rcases f3 with q | q
    ·exact I2.ok.noex b o e q
    ·exact absurd (Nat.lt_of_lt_of_le (Qn e) (QA I2.ok.bsz q)) (Nat.lt_irrefl _)
  ·rcases Qi hb with z | z
   ·subst z;exact Dfs
   ·exact fpfs b z
  ·exact (I2.stack).of_keeps fun b o e _=>⟨o,upG b o e,rfl⟩
 have lenC:∀ os:List (Option V),os.length=xs.length->(os++pick js σ).length=(xs++fv).length:=fun os ho=>by
  have:=congrArg List.length S.at'
  simp only [Qd] at this
  simp [pick,this,ho]
 have hacc:h₁.get? s2.heap.objs.size=some { cls:=.type "list",dict:=none,data:=.seq ([]:List Value).toArray }:=upH _ _ (hG ▸ Qs _ rfl)
 have I4:Inv (xc2 X sc xs fv G.objs.size { s2 with heap:=G } H2 (s2.heap.objs.size::fp)) [(s2.heap.objs.size,{ cls:=.type "list",dict:=none,data:=.seq ([]:List Value).toArray })] (xs.map (fun _=>none)++pick js σ) H2 { s2 with heap:=h₁,toks:=s2.toks+([]:List (Str × Value)).length }:=by
  refine ⟨okC,rfl,I2.bare,Un.kept upH,⟨_,hns₁,fun i y v e1 e2 e3=>?_⟩,fun y c e=>?_,HC,fun y c e=>I2.freeC y c (cl1 y c e),fun p hp=>?_,I2.hok.kept fun b u e=>upH b u (upG b u e),lenC _ (by simp)⟩
  ·by_cases hix:i<xs.length
   ·have:(xs.map (fun _=>(none:Option V))++pick js σ)[i]?=some none:=by
     rw [Qv (by simpa using hix),Qk,Qa hix];rfl
    rw [this] at e2
    cases e2
   ·obtain ⟨i',rfl⟩:∃ i',i=xs.length+i':=⟨i-xs.length,by omega⟩
    have e1':fv[i']?=some y:=by
     have e1a:(xs++fv)[xs.length+i']?=some y:=e1
     rw [Qq (by omega),Nat.add_sub_cancel_left] at e1a
     exact e1a
    have e2':(pick js σ)[i']?=some (some v):=by
     have e2a:=e2
     rw [Qq (by simp),Qd,Nat.add_sub_cancel_left] at e2a
     exact e2a
    have q:=congrArg (fun l=>l[i']?) S.at'
    simp only [Qk,e1',Option.map_some] at q
    cases hj:js[i']? with
    | none=>rw [hj] at q;cases q
    | some j =>
     rw [hj] at q
     have hj':X.N[j]?=some y:=Ql q
     unfold pick at e2'
     rw [Qk,hj] at e2'
     have e2'':(σ[j]?).getD none=some v:=Ql e2'
     have e2b:σ[j]?=some (some v):=by
      cases hh:σ[j]? with
      | none=>rw [hh] at e2'';cases e2''
      | some o=>rw [hh] at e2'';exact congrArg some e2''
     have hm:y∈fv:=Qz e1'
     have hcX:scX.names.lookup y=some .cell:=S.free (y,.free) (PySem.mem_of_lookup (S.fr y hm)) rfl
     have kX:X.env.kindOf y=some .cell:=by show X.env.scope.names.lookup y=_;rw [hsx];exact hcX
     obtain ⟨m,hn,hl⟩:=I2.loc
     obtain ⟨u,r,lk⟩:=hl j y v hj' e2b (.inr (.inl kX))
     refine ⟨u,r,?_⟩
     rcases lk with ⟨k,_⟩ | ⟨_,c,ec,z⟩
     ·rw [kX] at k;cases k
     ·refine .inr ⟨.inl (relabel_free (by rw [hsx];exact S.kindX) (S.fr y hm) kX),c,?_,?_⟩
      ·obtain ⟨c',ec'⟩:=Option.isSome_iff_exists.mp (cl3 y (PySem.mem_of_lookup (S.fr y hm)))
       have:=cl1 y c' ec'
       rw [ec] at this;cases this
       exact ec'
      ·obtain ⟨o,ho,hd⟩:=z
       exact ⟨o,upH c o (upG c o ho),hd⟩
  ·obtain ⟨v,o,ho,hd⟩:=cellO y c e
   exact ⟨v,o,upH c o (upG c o ho),hd⟩
  ·have hp':p=(s2.heap.objs.size,{ cls:=.type "list",dict:=none,data:=.seq ([]:List Value).toArray }):=by simpa using hp
   subst hp'
   exact ⟨hacc,HD,DC,Dfs,fun v z=>by cases z⟩
 have loop:codeAny (model X.prog X.w) X.A (.compLoop (.ListComp elt [⟨tg,iter,ifs,0⟩] sc pos) 0 (.ref it) (.ref s2.heap.objs.size) (compEnvC sc (clOf X.env.cells sc.names []) G.objs.size X.env)) (RR (.ref s2.heap.objs.size) G.objs.size) { s2 with heap:=h₁,toks:=s2.toks+([]:List (Str × Value)).length }:=by
  obtain ⟨m0,w0⟩:=w0
  have fok:∀ {H':Hp} {o:Obj},(∀ b∈fp,H' b=none)->∀ b∈fp,FpOk (xc2 X sc xs fv G.objs.size { s2 with heap:=G } H2 (s2.heap.objs.size::fp)) [(s2.heap.objs.size,o)] H' b:=fun {H' o} hn b hb=>by
   refine ⟨hn b hb,fpC b hb,fpfs b hb,.inl (Qm _ hb),fun y c e=>?_,fun p hp=>?_⟩
   ·obtain ⟨_,_,_,_,f4,_⟩:=f2 b hb
    exact f4 y c (cl1 y c e)
   ·have hp':p=(s2.heap.objs.size,o):=by simpa using hp
    subst hp'
    exact (fpD b hb).symm
  refine cmp_loop2 (fun k st=>∃ (i:Nat) (ys:List V) (its:List Value) (n:Nat) (os:List (Option V)) (H':Hp),os.length=xs.length/\Inv (xc2 X sc xs fv G.objs.size { s2 with heap:=G } H2 (s2.heap.objs.size::fp)) [(s2.heap.objs.size,{ cls:=.type "list",data:=.seq its.toArray n })] (os++pick js σ) H' st /\
   Vals ys its/\ys.length<=sizeLine/\tn i st.heap/\(∀ b∈fp,H' b=none)/\W i k ys H') ?_ m0
   ⟨0,[],[],_,xs.map (fun _=>none),H2,by simp,I4,.nil,Qr _,T.keep _ _ _ st2 fun b _ o e=>upH b o (upG b o e),fun b hb=>(f2 b hb).1,w0⟩
  rintro k s3 ⟨i,ys,its,n,os,H3,hos,I3,rv,hz,st3,fr3,w3⟩
  rcases step i k ys H3 w3 with ⟨stop,q⟩ | ⟨go,N,hN,hgo⟩
  ·refine thn (T.done (xc2 X sc xs fv G.objs.size { s2 with heap:=G } H2 (s2.heap.objs.size::fp)) rfl rfl rfl hcalm i _ s3 _ H3 _ I3 (fok fr3) st3 stop) fun r s4 hsl51=>?_
   obtain ⟨hr,I4⟩:=hsl51
   subst hr
   obtain ⟨pD,pn,_,_,_⟩:=I4.pin _ (List.mem_append_right _ Qp)
   have B:=I4.base
   have nD:∀ b o,s2.heap.get? b=some o->b∉fp->b∉s2.heap.objs.size::fp:=fun b o e hx hm=>(Qi hm).elim (ltD b o e) hx
   have neH:∀ b u,H2 b=some u->b≠s2.heap.objs.size:=fun b u e z=>by rw [z,HD] at e;cases e
   have JX:Inv X pins σ (upd H3 s2.heap.objs.size (.lst ys)) s4:=by
    refine I2.call' (ch:=fp) I4.os ⟨fun b o e hn hb hx=>B.keep b o (upG b o e) hn hb (nD b o e hx),fun b o e hn hb hx=>B.slot b o (upG b o e) hn hb (nD b o e hx),fun b o e hn hx=>?_,fun b o e hx=>B.there b o (upG b o e) (nD b o e hx),fun b xs e=>?_,fun b o u e=>?_,fun b ps e=>?_⟩ (fun b u e=>?_) I4.bare fun b hb=>?_
    ·rw [upd_ne (ltD b o e)];exact B.free b o (upG b o e) hn (nD b o e hx)
    ·rw [upd_ne (neH b _ e)];exact B.tups b xs e
    ·rw [upd_ne (neH b _ e)];exact B.frzs b o u e
    ·rw [upd_ne (neH b _ e)];exact B.tbls b ps e
    ·by_cases hb:b=s2.heap.objs.size
     ·subst hb
      rw [upd_same] at e;cases e
      exact ⟨hz,its,n,rv,pD⟩
     ·rw [upd_ne hb] at e
      exact (I4.hok b u e).stay (fun _ _ _ z=>z) (fun c z=>by rw [upd_ne (ne_of_none z pn)];exact z) fun c xs z=>by rw [upd_ne (ne_of_none z pn)];exact z
    ·obtain ⟨_,f1,_,f3,f4,f5⟩:=f2 b hb
     exact ⟨f3,f1,f4,f5⟩
   refine fin _ _ s4 _ JX (q _ pn) (by obtain ⟨m,hm,_⟩:=I4.loc;exact ⟨m,hm⟩) (I2.fpOk (by rw [hGz];exact Nat.le_succ _) ?_)
   rw [upd_ne DC.symm];exact I4.free
  ·refine thn (T.item (xc2 X sc xs fv G.objs.size { s2 with heap:=G } H2 (s2.heap.objs.size::fp)) rfl rfl rfl hcalm i _ s3 _ H3 _ I3 (fok fr3) st3 go) fun r s4 hsl52=>?_
   obtain ⟨u,hr,h4⟩:=hsl52
   subst hr
   refine thn h4 fun _ s5 hsl53=>?_
   obtain ⟨y,H5,I5,r5,y5,st5,fr5⟩:=hsl53
   have I5':=I5.pinned (fok fr5) (T.obj _ _ st5)
   refine thn (hgg _ _ _ _ _ s5 _ H5 y u _ I5' r5 (hgo y _ y5 os hos)) fun _ s6 hsl54=>?_
   obtain ⟨σ6,H6,I6,⟨os',hos',eσ⟩,q6⟩:=hsl54
   subst eσ
   refine thn (ht _ _ _ _ _ s6 _ _ _ I6 q6) fun b s7 hsl55=>?_
   obtain ⟨H7,I7,q7⟩:=hsl55
   cases b with
   | false =>
    rw [if_neg Bool.false_ne_true] at q7 ⊢
    obtain ⟨m',hm,w7⟩:=hN ys H7 q7
    exact ⟨m',hm,i+1,ys,its,n,os',H7,hos',I7.unpinned,rv,hz,T.keep _ _ _ st5 fun b hb o e=>(I7.pin (b,o) (List.mem_append_right _ (List.mem_append_right _ (mem_pinsAt hb e)))).1,fun b hb=>by
     obtain ⟨o,e,d⟩:=T.obj _ _ st5 b hb
     exact (I7.pin (b,o) (List.mem_append_right _ (List.mem_append_right _ (mem_pinsAt hb e)))).2.1,w7⟩
   | true =>
    rw [if_pos rfl] at q7 ⊢
    refine thn (he _ _ _ _ _ s7 _ H7 _ I7 q7) fun u8 s8 hsl56=>?_
    obtain ⟨y8,H8,I8,r8,hl8,q8⟩:=hsl56
    obtain ⟨m',hm,w8⟩:=hN _ H8 q8
    obtain ⟨pD,pn,pC,pf,_⟩:=I8.pin _ (List.mem_append_right _ (List.mem_append_left _ Qp))
    refine wpAny_list_append_plain (items:=its.toArray) ⟨n,pD⟩ (fun h9 hl9 sb9=>?_) (by rw [Qt,<- rv.length];exact Nat.le_of_lt hl8)
    have pinF:∀ p∈pinsAt fp s5.heap,p∈[(s2.heap.objs.size,({ cls:=.type "list",data:=.seq its.toArray n }:Obj))]++pinsAt fp s5.heap:=fun p hp=>List.mem_append_right _ hp
    have I8a:=I8.pins_of (pins':=pinsAt fp s5.heap) fun p hp=>I8.pin p (List.mem_append_right _ (pinF p hp))
    have I9:=I8a.turned (it:=s2.heap.objs.size) (h':=h9) (t':=s8.toks) (fun b o hb e=>(sb9.2 b hb).trans e) pn DC (.inl Qp) (fun y c e=>cellD y c e) fun p hp=>fpD p.1 (of_pinsAt (by simpa using hp)).1
    obtain ⟨n9,e9⟩:=hl9
    have e9':h9.get? s2.heap.objs.size=some { cls:=.type "list",data:=.seq (its++[u8]).toArray n9 }:=by
     rw [e9,show (its++[u8]).toArray=its.toArray.push u8 by simp]
    refine ⟨m',hm,i+1,ys++[y8],its++[u8],n9,os',H8,hos',I9.pins_of fun p hp=>?_,rv.append (.cons r8 .nil),by rw [Qj];exact hl8,T.keep _ _ _ st5 fun b hb o e=>(I9.pin (b,o) (List.mem_append_right _ (mem_pinsAt hb e))).1,fun b hb=>?_,w8⟩
    ·have hp':p=(s2.heap.objs.size,{ cls:=.type "list",data:=.seq (its++[u8]).toArray n9 }):=by simpa using hp
     subst hp'
     exact ⟨e9',pn,DC,pf,fun v z=>by cases z⟩
    ·obtain ⟨o,e,d⟩:=T.obj _ _ st5 b hb
     exact (I9.pin (b,o) (List.mem_append_right _ (mem_pinsAt hb e))).2.1
 exact codeAny_compStart_list loop (T.self _ 0 _ _ _ (T.keep _ _ _ st2 fun b _ o e=>upH b o (upG b o e)) loop)
theorem pe_comp2 {wi:TI} (scX:Scope) (NX fv:List Str) (js:List Nat) (hNX:X.N=NX) (S:CompSc2 scX sc NX xs fv js) (hsx:X.env.scope=scX) (hcalm:X.calm=true) (hi:PI X tg iter wi) (hgg:∀ C s0 H0 ex,PG (xc2 X sc xs fv C s0 H0 ex) tg g)
  (ht:∀ C s0 H0 ex,PIf (xc2 X sc xs fv C s0 H0 ex) ifs tt) (he:∀ C s0 H0 ex,PE (xc2 X sc xs fv C s0 H0 ex) elt te)
  (hs:∀ v,foldedSetIterable iter X.env v=pure v:=by intro _;rfl):PE X (.ListComp elt [⟨tg,iter,ifs,0⟩] sc pos) (tComp2 wi xs.length js g tt te):=by
 intro pins s σ H Q I h
 rw [<- hNX] at S
 have hfree:∀ y∈sc.names,y.2=.free->∃ c,X.env.cells.lookup y.1=some c:=fun y hy hf=>I.ok.has y.1 (.inl (by show X.env.scope.names.lookup y.1=_;rw [hsx];exact S.free y hy hf))
 rw [eval_ListComp]
 refine wpAny_comprehension_free (use:=none) rfl hs (closure_eq hfree) S.kind S.names (thn (hi pins s σ H _ I h) fun v s1 h1=>thn h1 fun itv s2 h2=>?_)
 obtain ⟨it,fp,tn,J,H2,e,I2,T,st2,f2,W,w0,step⟩:=h2
 subst e
 refine comp_core2 (RR:=fun acc C=>compPost (model X.prog X.w) X.A X.xe none (EP X pins σ Q) acc C) S hsx hcalm hgg ht he I2 T st2 f2 w0 step fun D C s' H' I' q hsl57 hC=>?_
 obtain ⟨m,hm⟩:=hsl57
 obtain ⟨f0,f1,_,f3,f4,f5⟩:=hC
 exact ⟨m,hm,fun h' sb=>⟨.ref D,H',I'.turned (t':=s'.toks) (fun b o hb e=>(sb.2 b hb).trans e) f0 f1 f3 f4 f5,rfl,q⟩⟩
theorem ps_setcomp2 {wi:TI} {i:Nat} {y:Str} {py spos:Pos} (scX:Scope) (NX fv:List Str) (js:List Nat) (hNX:X.N=NX) (S:CompSc2 scX sc NX xs fv js) (hsx:X.env.scope=scX) (hcalm:X.calm=true) (hi:PI X tg iter wi) (hgg:∀ C s0 H0 ex,PG (xc2 X sc xs fv C s0 H0 ex) tg g)
  (ht:∀ C s0 H0 ex,PIf (xc2 X sc xs fv C s0 H0 ex) ifs tt) (he:∀ C s0 H0 ex,PE (xc2 X sc xs fv C s0 H0 ex) elt te)
  (hN:X.N.Nodup) (hy:X.N[i]?=some y) (hl:X.env.scope.names.lookup y=some .local) (hsw:swapsWith (.ListComp elt [⟨tg,iter,ifs,0⟩] sc pos) (some (.Name y py)) spos.line X.env=pure true)
  (hs:∀ v,foldedSetIterable iter X.env v=pure v:=by intro _;rfl):PS X (.Assign [.Name y py] (.ListComp elt [⟨tg,iter,ifs,0⟩] sc pos) spos) (tAsg (tComp2 wi xs.length js g tt te) (gName i)):=by
 intro pins s σ H D I h
 rw [<- hNX] at S
 have hfree:∀ y∈sc.names,y.2=.free->∃ c,X.env.cells.lookup y.1=some c:=fun y hy hf=>I.ok.has y.1 (.inl (by show X.env.scope.names.lookup y.1=_;rw [hsx];exact S.free y hy hf))
 rw [exec_Assign_Name_used _ _ _ _ hsw]
 refine Qb (wpAny_standAt (Qb ?_))
 show wpAny _ _ (do let _ <- comprehension (.ListComp elt [⟨tg,iter,ifs,0⟩] sc pos) sc X.env _ (newList []) false (eval iter X.env) (some (assign (.Name y py) X.env))) _ _ s
 refine Qb (QC (wpAny_comprehension_free (use:=some (assign (.Name y py) X.env)) (Q:=fun _ st=>SP X pins D .next st) rfl hs (closure_eq hfree) S.kind S.names
  (thn (hi pins s σ H _ I h) fun v s1 h1=>thn h1 fun itv s2 h2=>?_)) (fun _ st hq=>Qg (Qg hq)) fun _ _ e=>e)
 obtain ⟨it,fp,tn,J,H2,e,I2,T,st2,f2,W,w0,step⟩:=h2
 subst e
 refine comp_core2 (Q:=fun v H1=>gName i v σ H1 D.nx) (RR:=fun acc C=>compPost (model X.prog X.w) X.A X.xe (some (assign (.Name y py) X.env)) (fun _ st=>SP X pins D .next st) acc C) S hsx hcalm hgg ht he I2 T st2 f2 w0 step fun Dl C s' H' I' q hsl58 hC=>?_
 obtain ⟨m,hm⟩:=hsl58
 obtain ⟨f0,f1,_,f3,f4,f5⟩:=hC
 refine wpAny_assign_Name (store_ok2 I' hN hy (.inl hl) (show RelV (.ref Dl) (.ref Dl) from rfl) (fun s'' I'' hsl59=>?_) (.inr hl))
 obtain ⟨a,sb,ha⟩:=hsl59
 have aC:C≠a:=fun z=>by
  rcases ha with ha | ha
  ·exact f1 (z.trans ha)
  ·exact f4 y a ha z.symm
 refine ⟨m,hm.sameBut sb aC,fun h' sb'=>?_⟩
 exact ⟨_,_,I''.turned (t':=s''.toks) (fun b o hb e=>(sb'.2 b hb).trans e) f0 f1 f3 f4 f5,q⟩
end
theorem CompSc.two {scX sc:Scope} {NX:List Str} {x:Str} {fv:List Str} {js:List Nat} (S:CompSc scX sc NX x fv js):CompSc2 scX sc NX [x] fv js :=
 ⟨S.kind,S.kindX,S.cell,fun y hy=>by rw [List.mem_singleton.mp hy];exact S.own,S.names,S.free,S.nd,S.at',S.fr⟩
section
variable {X:Cx} {pins:List (Addr × Obj)} {σ:St} {H2:Hp} {s2:Shared} {elt iter:Expr} {x:Str} {px:Pos} {ifs:List Expr} {sc scX:Scope} {pos:Pos} {fv:List Str} {js:List Nat} {tt:TT} {te:TE}
theorem comp_core (S:CompSc scX sc X.N x fv js) (hsx:X.env.scope=scX) (hcalm:X.calm=true)
  (ht:∀ C s0 H0 ex,PIf (xc X sc x fv C s0 H0 ex) ifs tt) (he:∀ C s0 H0 ex,PE (xc X sc x fv C s0 H0 ex) elt te)
  {it:Addr} {fp:List Addr} {tn:Nat->Heap->Prop} {J:It} (I2:Inv X pins σ H2 s2) (T:Turn X.prog X.w X.K (.Name x px) J fp it tn) (st2:tn 0 s2.heap) (f2:∀ b∈fp,FpOk X pins H2 b)
  {Q:VK} {W:Nat->Nat->List V->Hp->Prop} (w0:∃ m,W 0 m [] H2)
  (step:∀ i m ys H,W i m ys H->(J.stop i H/\∀ p,H p=none->Q (.ref p) (upd H p (.lst ys))) ∨
   (J.go i H/\∃ N:List V->Hp->Prop,(∀ ys' H',N ys' H'->∃ m',m'<m/\W (i+1) m' ys' H') /\
    ∀ x H',J.yld i H x H'->tt (some x::pick js σ) H' fun b H2=>if b=true then te (some x::pick js σ) H2 fun y H3=>ys.length<sizeLine/\N (ys++[y]) H3 else N ys H2))
  {RR:Value->Addr->Result->Shared->Prop} {E:Value->Shared->Prop}
  (fin:∀ (D C:Addr) (s':Shared) (H':Hp),Inv X pins σ H' s'->Q (.ref D) H'->(∃ m,s'.heap.Ns C m)->FpOk X pins H' C->RR (.ref D) C (.ok .next) s') :
  wpAny (model X.prog X.w) X.A (newList []) (fun acc s₃=>wpAny (model X.prog X.w) X.A (newFunctionEnv sc X.env.globals (clOf X.env.cells sc.names []) [] X.env.qual none .none (some X.env)) (fun cenv s₄ =>
   codeAny (model X.prog X.w) X.A (.compStart (.ListComp elt [⟨.Name x px,iter,ifs,0⟩] sc pos) 0 (.ref it) acc { cenv with scope:=relabel sc X.env }) (RR acc cenv.locals) s₄) E s₃) E s2:=by
 refine comp_core2 (xs:=[x]) (g:=gName 0) (RR:=RR) S.two hsx hcalm (fun C s0 H0 ex=>pg_name S.nd rfl (.inl (lookup_relabel_local S.own)) (.inr (lookup_relabel_local S.own))) ht he I2 T st2 f2 w0 (fun i m ys H w=>?_) fin
 rcases step i m ys H w with h | ⟨go,N,hN,st⟩
 ·exact .inl h
 ·refine .inr ⟨go,N,hN,fun y H' hy os hos=>?_⟩
  obtain ⟨o,rfl⟩:=List.length_eq_one_iff.mp hos
  exact ⟨⟨[some y],rfl,rfl⟩,st y H' hy⟩
theorem pe_comp {wi:TI} (scX:Scope) (NX fv:List Str) (js:List Nat) (hNX:X.N=NX) (S:CompSc scX sc NX x fv js) (hsx:X.env.scope=scX) (hcalm:X.calm=true) (hi:PI X (.Name x px) iter wi)
  (ht:∀ C s0 H0 ex,PIf (xc X sc x fv C s0 H0 ex) ifs tt) (he:∀ C s0 H0 ex,PE (xc X sc x fv C s0 H0 ex) elt te)
  (hs:∀ v,foldedSetIterable iter X.env v=pure v:=by intro _;rfl):PE X (.ListComp elt [⟨.Name x px,iter,ifs,0⟩] sc pos) (tComp wi js tt te):=by
 intro pins s σ H Q I h
 rw [<- hNX] at S
 have hfree:∀ y∈sc.names,y.2=.free->∃ c,X.env.cells.lookup y.1=some c:=fun y hy hf=>I.ok.has y.1 (.inl (by show X.env.scope.names.lookup y.1=_;rw [hsx];exact S.free y hy hf))
 rw [eval_ListComp]
 refine wpAny_comprehension_free (use:=none) rfl hs (closure_eq hfree) S.kind S.names (thn (hi pins s σ H _ I h) fun v s1 h1=>thn h1 fun itv s2 h2=>?_)
 obtain ⟨it,fp,tn,J,H2,e,I2,T,st2,f2,W,w0,step⟩:=h2
 subst e
 refine comp_core (RR:=fun acc C=>compPost (model X.prog X.w) X.A X.xe none (EP X pins σ Q) acc C) S hsx hcalm ht he I2 T st2 f2 w0 step fun D C s' H' I' q hsl60 hC=>?_
 obtain ⟨m,hm⟩:=hsl60
 obtain ⟨f0,f1,_,f3,f4,f5⟩:=hC
 exact ⟨m,hm,fun h' sb=>⟨.ref D,H',I'.turned (t':=s'.toks) (fun b o hb e=>(sb.2 b hb).trans e) f0 f1 f3 f4 f5,rfl,q⟩⟩
theorem ps_setcomp {wi:TI} {i:Nat} {y:Str} {py spos:Pos} (scX:Scope) (NX fv:List Str) (js:List Nat) (hNX:X.N=NX) (S:CompSc scX sc NX x fv js) (hsx:X.env.scope=scX) (hcalm:X.calm=true) (hi:PI X (.Name x px) iter wi)
  (ht:∀ C s0 H0 ex,PIf (xc X sc x fv C s0 H0 ex) ifs tt) (he:∀ C s0 H0 ex,PE (xc X sc x fv C s0 H0 ex) elt te)
  (hN:X.N.Nodup) (hy:X.N[i]?=some y) (hl:X.env.scope.names.lookup y=some .local) (hsw:swapsWith (.ListComp elt [⟨.Name x px,iter,ifs,0⟩] sc pos) (some (.Name y py)) spos.line X.env=pure true)
  (hs:∀ v,foldedSetIterable iter X.env v=pure v:=by intro _;rfl):PS X (.Assign [.Name y py] (.ListComp elt [⟨.Name x px,iter,ifs,0⟩] sc pos) spos) (tAsg (tComp wi js tt te) (gName i)):=by
 intro pins s σ H D I h
 rw [<- hNX] at S
 have hfree:∀ y∈sc.names,y.2=.free->∃ c,X.env.cells.lookup y.1=some c:=fun y hy hf=>I.ok.has y.1 (.inl (by show X.env.scope.names.lookup y.1=_;rw [hsx];exact S.free y hy hf))
 rw [exec_Assign_Name_used _ _ _ _ hsw]
 refine Qb (wpAny_standAt (Qb ?_))
 show wpAny _ _ (do let _ <- comprehension (.ListComp elt [⟨.Name x px,iter,ifs,0⟩] sc pos) sc X.env _ (newList []) false (eval iter X.env) (some (assign (.Name y py) X.env))) _ _ s
 refine Qb (QC (wpAny_comprehension_free (use:=some (assign (.Name y py) X.env)) (Q:=fun _ st=>SP X pins D .next st) rfl hs (closure_eq hfree) S.kind S.names
  (thn (hi pins s σ H _ I h) fun v s1 h1=>thn h1 fun itv s2 h2=>?_)) (fun _ st hq=>Qg (Qg hq)) fun _ _ e=>e)
 obtain ⟨it,fp,tn,J,H2,e,I2,T,st2,f2,W,w0,step⟩:=h2
 subst e
 refine comp_core (Q:=fun v H1=>gName i v σ H1 D.nx) (RR:=fun acc C=>compPost (model X.prog X.w) X.A X.xe (some (assign (.Name y py) X.env)) (fun _ st=>SP X pins D .next st) acc C) S hsx hcalm ht he I2 T st2 f2 w0 step fun Dl C s' H' I' q hsl61 hC=>?_
 obtain ⟨m,hm⟩:=hsl61
 obtain ⟨f0,f1,_,f3,f4,f5⟩:=hC
 refine wpAny_assign_Name (store_ok2 I' hN hy (.inl hl) (show RelV (.ref Dl) (.ref Dl) from rfl) (fun s'' I'' hsl62=>?_) (.inr hl))
 obtain ⟨a,sb,ha⟩:=hsl62
 have aC:C≠a:=fun z=>by
  rcases ha with ha | ha
  ·exact f1 (z.trans ha)
  ·exact f4 y a ha z.symm
 refine ⟨m,hm.sameBut sb aC,fun h' sb'=>?_⟩
 exact ⟨_,_,I''.turned (t':=s''.toks) (fun b o hb e=>(sb'.2 b hb).trans e) f0 f1 f3 f4 f5,q⟩
end
end L2
namespace L2
open PySem PySem.Spec PyProof.Rows
section
variable {κ:Type} [DecidableEq κ]
noncomputable def valV (kvs:List (κ × V)) (k:κ):Option V:=(kvs.find? fun kv=>decide (kv.1=k)).map (·.2)
noncomputable def putK (kvs:List (κ × V)) (k:κ) (v:V):List (κ × V) :=
 if (kvs.any fun kv=>decide (kv.1=k))=true then kvs.map (fun kv=>if kv.1=k then (kv.1,v) else kv) else kvs++[(k,v)]
theorem valV_pos {p:κ × V} {r:List (κ × V)} {k:κ} (e:p.1=k):valV (p::r) k=some p.2:=by simp [valV,List.find?_cons,e]
theorem valV_neg {p:κ × V} {r:List (κ × V)} {k:κ} (e:¬ p.1=k):valV (p::r) k=valV r k:=by simp [valV,List.find?_cons,e]
theorem valV_any (k:κ):∀ kvs:List (κ × V),(kvs.any fun kv=>decide (kv.1=k))=(valV kvs k).isSome
 | []=>rfl
 | p::r=>by
  rw [List.any_cons]
  by_cases e:p.1=k
  ·simp only [valV_pos e,Qo e,Bool.true_or,Option.isSome_some]
  ·rw [valV_neg e,Qe e,Bool.false_or];exact valV_any k r
theorem length_putK (kvs:List (κ × V)) (k:κ) (v:V):(putK kvs k v).length<=kvs.length+1:=by
 unfold putK
 split
 ·rw [Qd];omega
 ·rw [Qj,List.length_cons,List.length_nil];omega
theorem RelO.isSome_eq {o:Option V} {u:Option Value} (r:RelO o u):o.isSome=u.isSome:=by
 cases o with
 | none=>cases u with
  | none=>rfl
  | some _=>exact (show False from r).elim
 | some _=>cases u with
  | none=>exact (show False from r).elim
  | some _=>rfl
theorem RelO.getD {o:Option V} {u:Option Value} {d:V} {d':Value} (r:RelO o u) (rd:RelV d d'):RelV (o.getD d) (u.getD d'):=by
 cases o with
 | none=>cases u with
  | none=>exact rd
  | some _=>exact (show False from r).elim
 | some _=>cases u with
  | none=>exact (show False from r).elim
  | some _=>exact r
theorem KV.val {kvs:List (κ × V)} {vs:List (κ × Value)} (r:KV kvs vs) (k:κ):RelO (valV kvs k) (valueAt vs k):=by
 unfold KV at r
 induction r with
 | nil=>exact True.intro
 | @cons p q ps qs h t ih =>
  obtain ⟨h1,h2⟩:=h
  by_cases e:p.1=k
  ·have e':q.1=k:=h1.symm.trans e
   have b:valueAt (q::qs) k=some q.2:=by simp [valueAt,List.find?_cons,e']
   rw [valV_pos e,b];exact h2
  ·have e':¬ q.1=k:=fun z=>e (h1.trans z)
   have b:valueAt (q::qs) k=valueAt qs k:=by simp [valueAt,List.find?_cons,e']
   rw [valV_neg e,b];exact ih
theorem KV.any {kvs:List (κ × V)} {vs:List (κ × Value)} (r:KV kvs vs) (k:κ):(kvs.any fun kv=>decide (kv.1=k))=vs.any fun kv=>decide (kv.1=k):=by
 unfold KV at r
 induction r with
 | nil=>rfl
 | cons h t ih=>rw [List.any_cons,List.any_cons,ih,h.1]
theorem KV.repl {kvs:List (κ × V)} {vs:List (κ × Value)} (r:KV kvs vs) (k:κ) {y:V} {u:Value} (ry:RelV y u) :
  KV (kvs.map fun kv=>if kv.1=k then (kv.1,y) else kv) (vs.map fun kv=>if kv.1=k then (kv.1,u) else kv):=by
 unfold KV at r ⊢
 induction r with
 | nil=>exact .nil
 | @cons p q ps qs h t ih =>
  rw [List.map_cons,List.map_cons]
  refine .cons ?_ ih
  obtain ⟨h1,h2⟩:=h
  by_cases e:p.1=k
  ·rw [if_pos e,if_pos (h1.symm.trans e)];exact ⟨h1,ry⟩
  ·rw [if_neg e,if_neg (fun z=>e (h1.trans z))];exact ⟨h1,h2⟩
theorem KV.put {kvs:List (κ × V)} {vs:List (κ × Value)} (r:KV kvs vs) (k:κ) {y:V} {u:Value} (ry:RelV y u):KV (putK kvs k y) (stored vs k u):=by
 unfold putK stored
 rw [r.any k]
 by_cases e:(vs.any fun kv=>decide (kv.1=k))=true
 ·rw [if_pos e,if_pos e];exact r.repl k ry
 ·rw [if_neg e,if_neg e];exact Paired.snoc r ⟨rfl,ry⟩
theorem KV.length {kvs:List (κ × V)} {vs:List (κ × Value)} (r:KV kvs vs):kvs.length=vs.length:=Paired.length r
end
theorem kV_is {P:Program} {w:World} {k:Key} {u:Value} (r:RelV (kV k) u):(mixKind P w).is k u=true:=by
 cases k with
 | inl i=>obtain ⟨t,e⟩:=(show ∃ t,u=Value.int i t from r);subst e;exact mixKind_int P w i t
 | inr x=>obtain ⟨t,e⟩:=(show ∃ t,u=Value.str x t from r);subst e;exact mixKind_str P w x t
theorem items_are {P:Program} {w:World}:∀ {ks:List Key} {us:List Value},Vals (ks.map kV) us->ItemsAre (mixKind P w) ks us
 | [],_,r=>by rw [List.map_nil] at r;cases r;exact .nil
 | k::ks,_,r=>by
  rw [List.map_cons] at r
  cases r with
  | cons h t=>exact .cons (kV_is h) (items_are t)
noncomputable abbrev KT (H:Hp):List (List Key × V)->List (List Key × Addr × Value)->Prop:=Paired fun p q=>p.1=q.1/\H q.2.1=some (.tup (p.1.map kV))/\RelV p.2 q.2.2
theorem KT.val {H:Hp} {kvs:List (List Key × V)} {xs:List (List Key × Addr × Value)} (r:KT H kvs xs) (k:List Key):RelO (valV kvs k) ((atKey xs k).map (·.2)):=by
 induction r with
 | nil=>exact True.intro
 | @cons p q ps qs h t ih =>
  obtain ⟨h1,_,h2⟩:=h
  by_cases e:p.1=k
  ·have e':q.1=k:=h1.symm.trans e
   have b:atKey (q::qs) k=some q.2:=by simp [atKey,List.find?_cons,e']
   rw [valV_pos e,b];exact h2
  ·have e':¬ q.1=k:=fun z=>e (h1.trans z)
   have b:atKey (q::qs) k=atKey qs k:=by simp [atKey,List.find?_cons,e']
   rw [valV_neg e,b];exact ih
theorem KT.repl {H:Hp} {kvs:List (List Key × V)} {xs:List (List Key × Addr × Value)} (r:KT H kvs xs) (k:List Key) {y:V} {u:Value} (ry:RelV y u) :
  KT H (kvs.map fun kv=>if kv.1=k then (kv.1,y) else kv) (xs.map (putAt k u)):=by
 induction r with
 | nil=>exact .nil
 | @cons p q ps qs h t ih =>
  rw [List.map_cons,List.map_cons]
  refine .cons ?_ ih
  obtain ⟨h1,h2,h3⟩:=h
  unfold putAt
  by_cases e:p.1=k
  ·rw [if_pos e,if_pos (h1.symm.trans e)];exact ⟨h1,h2,ry⟩
  ·rw [if_neg e,if_neg (fun z=>e (h1.trans z))];exact ⟨h1,h2,h3⟩
theorem KT.put {H:Hp} {kvs:List (List Key × V)} {xs:List (List Key × Addr × Value)} (r:KT H kvs xs) (k:List Key) {b:Addr} {y:V} {u:Value} (hb:H b=some (.tup (k.map kV))) (ry:RelV y u) :
  KT H (putK kvs k y) (storedH xs k b u):=by
 have e:(kvs.any fun kv=>decide (kv.1=k))=(atKey xs k).isSome:=by
  rw [valV_any,(r.val k).isSome_eq,Option.isSome_map]
 unfold putK storedH
 rw [e]
 by_cases q:(atKey xs k).isSome=true
 ·rw [if_pos q,if_pos q];exact r.repl k ry
 ·rw [if_neg q,if_neg q];exact Paired.snoc r ⟨rfl,hb,ry⟩
theorem KT.keeps {H H':Hp} {kvs:List (List Key × V)} {xs:List (List Key × Addr × Value)} (r:KT H kvs xs) (ht:∀ b ys,H b=some (.tup ys)->H' b=some (.tup ys)):KT H' kvs xs :=
 Paired.mapP r fun _ _ z=>⟨z.1,ht _ _ z.2.1,z.2.2⟩
section
variable {P:Program} {w:World} {H:Hp} {h:Heap} {a:Addr}
theorem rd_of {u:HO} (ok:HOk P w H h) (e:Rd H a u):ObjOk P w H h a u:=e.ok ok
theorem dk_rd {kvs:List (Key × V)} (ok:HOk P w H h) (e:Rd H a (.dK kvs)):kvs.length<=sizeLine/\(a == sysModules)=false/\∃ vs,KV kvs vs/\h.DictOf (mixKind P w) a vs :=
 show ObjOk P w H h a (.dK kvs) from rd_of ok e
theorem dk_of {kvs:List (Key × V)} (ok:HOk P w H h) (e:H a=some (.dK kvs)):kvs.length<=sizeLine/\(a == sysModules)=false/\∃ vs,KV kvs vs/\h.DictOf (mixKind P w) a vs:=dk_rd ok (.inl e)
theorem key_of {ks:List Key} (ok:HOk P w H h) (e:H a=some (.tup (ks.map kV))):(tupleKind (mixKind P w)).is h ks a:=by
 obtain ⟨_,its,r,o,h1,h2,n,h3⟩:=(show ObjOk P w H h a (.tup (ks.map kV)) from ok a _ e)
 exact ⟨o,its.toArray,n,h1,h2,h3,by simpa using items_are r⟩
theorem dt_rd {kvs:List (List Key × V)} (ok:HOk P w H h) (e:Rd H a (.dT kvs)):kvs.length<=sizeLine/\(a == sysModules)=false /\
  ∃ xs,KT H kvs xs/\h.DictOfH (tupleKind (mixKind P w)) a xs:=by
 obtain ⟨z,y,xs,r,o,es,ep,h1,h2,h3,h4,h5⟩:=(show ObjOk P w H h a (.dT kvs) from rd_of ok e)
 refine ⟨z,y,xs,r,o,es,ep,h1,h2,h3,h4,fun x hx=>?_,h5⟩
 have all:∀ {l:List (List Key × V)} {m:List (List Key × Addr × Value)},KT H l m->∀ x∈m,(tupleKind (mixKind P w)).is h x.1 x.2.1:=by
  intro l m q
  induction q with
  | nil=>intro x hx;exact nomatch hx
  | @cons p q ps qs hq t ih =>
   intro x hx
   rcases Qi hx with e | hx
   ·subst e
    exact key_of ok (by rw [<- hq.1];exact hq.2.1)
   ·exact ih x hx
 exact all r x hx
theorem dt_of {kvs:List (List Key × V)} (ok:HOk P w H h) (e:H a=some (.dT kvs)):kvs.length<=sizeLine/\(a == sysModules)=false /\
  ∃ xs,KT H kvs xs/\h.DictOfH (tupleKind (mixKind P w)) a xs:=dt_rd ok (.inl e)
end
noncomputable def DGet (H:Hp) (a:Addr) (y:V) (r:Option V):Prop :=
 (∃ kvs k,Rd H a (.dK kvs)/\y=kV k/\r=valV kvs k)∨∃ kvs k b,Rd H a (.dT kvs)/\y=.ref b/\H b=some (.tup (k.map kV))/\r=valV kvs k
noncomputable def DPut (H:Hp) (a:Addr) (y v:V) (H':Hp):Prop :=
 (∃ kvs k,H a=some (.dK kvs)/\y=kV k/\kvs.length<sizeLine/\H'=upd H a (.dK (putK kvs k v))) ∨
 ∃ kvs k b,H a=some (.dT kvs)/\y=.ref b/\H b=some (.tup (k.map kV))/\kvs.length<sizeLine/\H'=upd H a (.dT (putK kvs k v))
theorem DGet.k {H:Hp} {a:Addr} {kvs:List (Key × V)} {k:Key} (e:H a=some (.dK kvs)):DGet H a (kV k) (valV kvs k):=.inl ⟨kvs,k,.inl e,rfl,rfl⟩
theorem DGet.t {H:Hp} {a b:Addr} {kvs:List (List Key × V)} {k:List Key} (e:H a=some (.dT kvs)) (eb:H b=some (.tup (k.map kV))):DGet H a (.ref b) (valV kvs k):=.inr ⟨kvs,k,b,.inl e,rfl,eb,rfl⟩
theorem DPut.k {H:Hp} {a:Addr} {kvs:List (Key × V)} {k:Key} {v:V} (e:H a=some (.dK kvs)) (hl:kvs.length<sizeLine):DPut H a (kV k) v (upd H a (.dK (putK kvs k v))):=.inl ⟨kvs,k,e,rfl,hl,rfl⟩
theorem DPut.t {H:Hp} {a b:Addr} {kvs:List (List Key × V)} {k:List Key} {v:V} (e:H a=some (.dT kvs)) (eb:H b=some (.tup (k.map kV))) (hl:kvs.length<sizeLine) :
  DPut H a (.ref b) v (upd H a (.dT (putK kvs k v))):=.inr ⟨kvs,k,b,e,rfl,eb,hl,rfl⟩
section
variable {X:Cx} {pins:List (Addr × Obj)} {σ:St} {H:Hp} {s:Shared} {a:Addr} {y v:V} {u r:Value} {o:Option V} {A:Around} {E:Value->Shared->Prop}
theorem Inv.big (I:Inv X pins σ H s):sysModules<s.heap.objs.size:=by
 have h:mainGlobals<s.heap.objs.size:=(I.mod.glob.keeps I.bk).lt
 exact Nat.lt_trans (by decide) h
theorem d_getItem {Q:Value->Shared->Prop} (hu:A.units+1<cLine) (I:Inv X pins σ H s) (g:DGet H a y (some v)) (ry:RelV y u) (h:∀ w' s',Inv X pins σ H s'->RelV v w'->Q w' s') :
  wpAny (model X.prog X.w) A (getItem (.ref a) u) Q E s:=by
 rcases g with ⟨kvs,k,e,ey,l⟩ | ⟨kvs,k,b,e,ey,eb,l⟩
 ·subst ey
  obtain ⟨z,hd,vs,rel,dd⟩:=dk_rd I.hok e
  obtain ⟨w',hw,rw'⟩:=RelO.some_of (v:=v) (o:=valueAt vs k) (by rw [l];exact rel.val k)
  exact wpAny_getItem_of (kV_is ry) dd.mapOf hw (h w' _ (I.tok _) rw')
 ·subst ey
  cases (show u=Value.ref b from ry)
  obtain ⟨z,hd,xs,rel,dd⟩:=dt_rd I.hok e
  obtain ⟨w',hw,rw'⟩:=RelO.some_of (v:=v) (o:=(atKey xs k).map (·.2)) (by rw [l];exact rel.val k)
  obtain ⟨p,hp,hp2⟩:=Option.map_eq_some_iff.mp hw
  refine wpAny_getItem_heap (tupleKind_room_in1 hu) (key_of I.hok eb) dd hp ?_
  rw [hp2]
  exact h w' _ (I.tok _) rw'
theorem d_write {h':Heap} {t':Nat} {ob:HO} (I:Inv X pins σ H s) (mu:Mut (H a)) (hs:Heap.SameBut a s.heap h') (he:∃ q,h'.get? a=some q) (new:ObjOk X.prog X.w (upd H a ob) h' a ob) :
  Inv X pins σ (upd H a ob) { s with heap:=h',toks:=t' } :=
 I.write (x:=a) (e:=a) mu (.inl rfl) (fun b q hb z=>(hs.2 b hb).trans z) he new
theorem dk_new {P:Program} {w:World} {H':Hp} {h':Heap} {kvs:List (Key × V)} {vs:List (Key × Value)} (z:kvs.length<=sizeLine) (hd:(a == sysModules)=false) (rel:KV kvs vs) (dd:h'.DictOf (mixKind P w) a vs) :
  ObjOk P w H' h' a (.dK kvs):=⟨z,hd,vs,rel,dd⟩
theorem d_setItem {H':Hp} {Q:Unit->Shared->Prop} (hu:A.units+1<cLine) (I:Inv X pins σ H s) (g:DPut H a y v H') (ry:RelV y u) (rv:RelV v r) (h:∀ s',Inv X pins σ H' s'->Q () s') :
  wpAny (model X.prog X.w) A (setItem (.ref a) u r) Q E s:=by
 rcases g with ⟨kvs,k,e,ey,l,eH⟩ | ⟨kvs,k,b,e,ey,eb,l,eH⟩
 ·subst ey eH
  obtain ⟨z,hd,vs,rel,dd⟩:=dk_of I.hok e
  have hz:vs.length<=sizeLine:=by rw [<- rel.length];exact z
  have hl:(putK kvs k v).length<=sizeLine:=by have:=length_putK kvs k v;omega
  refine wpAny_setItem_pairs (hsz:=hz) (kV_is ry) dd fun h' dd' hs=>h _ ?_
  have he:∃ q,h'.get? a=some q:=by obtain ⟨q,_,_,hq,_⟩:=dd';exact ⟨q,hq⟩
  exact d_write I (by rw [e];exact True.intro) hs he (dk_new hl hd (rel.put k rv) dd')
 ·subst ey eH
  cases (show u=Value.ref b from ry)
  obtain ⟨z,hd,xs,rel,dd⟩:=dt_of I.hok e
  have hz:xs.length<=sizeLine:=by rw [<- Paired.length rel];exact z
  have hl:(putK kvs k v).length<=sizeLine:=by have:=length_putK kvs k v;omega
  refine wpAny_setItem_heap (hsz:=hz) (tupleKind_room_in1 hu) (key_of I.hok eb) dd fun h' dd' hs=>h _ ?_
  obtain ⟨q,es,ep,hq,h2,h3,h4,_,h5⟩:=dd'
  refine d_write I (by rw [e];exact True.intro) hs ⟨q,hq⟩ ⟨hl,hd,_,(rel.put k eb rv).keeps fun c ys ec=>?_,q,es,ep,hq,h2,h3,h4,h5⟩
  rw [upd_ne (ne_of ec e (fun z=>nomatch z))]
  exact ec
end
section
variable {X:Cx} {pins:List (Addr × Obj)} {σ:St} {H:Hp} {s:Shared} {a:Addr} {kvs:List (Key × V)} {k:Key} {u:Value} {A:Around} {E:Value->Shared->Prop}
end
noncomputable def NoSl (i:Expr):Prop:=∀ ov iv,subscripted i false ov iv=operate [ov,iv] (getItem ov iv)
theorem subD_of {prog:Program} {w:World} {A:Around} {E:Value->Shared->Prop} {s:Shared} {env:Env} {value slice:Expr} {pos:Pos} {T id:String} {Q:Value->Shared->Prop}
  (hl:typeLookup (.type T) "__getitem__"=pure (some (.builtin id))) (hs:NoSl slice)
  (h:wpAny (model prog w) A (eval value env) (fun o s₁=>wpAny (model prog w) A (eval slice env) (fun i s₂=>s₂.TypeIs o T/\wpAny (model prog w) A (getItem o i) Q E s₂) E s₁) E s) :
  wpAny (model prog w) A (eval (.Subscript value slice pos) env) Q E s:=by
 refine Subscript_ (QC h (fun o s₁ h₁=>QC h₁ (fun i s₂ h₂=>?_) fun _ _ x=>x) fun _ _ x=>x)
 obtain ⟨hT,h₂⟩:=h₂
 unfold subscriptTail
 refine Qb ?_
 rw [getitemInPython_of_ne hT.not_modules]
 refine Qb (wpAny_specialOf hT hl ?_)
 have fin:wpAny (model prog w) A (subscripted slice false o i) (fun r s₃=>wpAny (model prog w) A (letTemporaryGo value o r >>= fun _=>pure r) Q E s₃) E s₂:=by
  rw [hs o i]
  exact wpAny_operating (QC h₂ (fun r s₃ h₃=>Qb (wpAny_letTemporaryGo (Qg h₃))) fun _ _ x=>x)
 first
  | exact Qg (Qb fin)
  | exact Qb (Qg (Qb fin))
  | exact Qb fin
theorem dict_typeIs {X:Cx} {pins:List (Addr × Obj)} {σ:St} {H:Hp} {s:Shared} {a:Addr} {y:V} {o:Option V} (I:Inv X pins σ H s) (g:DGet H a y o):s.TypeIs (.ref a) "dict":=by
 rcases g with ⟨kvs,k,e,_,_⟩ | ⟨kvs,k,b,e,_,_,_⟩
 ·obtain ⟨_,_,vs,_,dd⟩:=dk_rd I.hok e
  exact dd.typeIs
 ·obtain ⟨_,_,xs,_,dd⟩:=dt_rd I.hok e
  exact dd.typeIs
noncomputable def tDGet (td ty:TE):TE:=fun σ H Q=>td σ H fun x H1=>ty σ H1 fun y H2=>∃ a v,x=.ref a/\DGet H2 a y (some v)/\Q v H2
noncomputable def sDPut (td ty tv:TE):TS:=fun D σ H=>tv σ H fun v H1=>td σ H1 fun x H2=>ty σ H2 fun y H3=>∃ a H4,x=.ref a/\DPut H3 a y v H4/\D.nx σ H4
section
variable {X:Cx} {o i e value:Expr} {pos pos' tpos:Pos} {td ty tv:TE}
theorem pe_dget (hu:X.A.units+1<cLine) (ho:PE X o td) (hi:PE X i ty) (hs:NoSl i):PE X (.Subscript o i pos) (tDGet td ty):=by
 intro pins s σ H Q I h
 refine subD_of PySem.F.slot_dict_getitem.lookup hs (thn (ho pins s σ H _ I h) fun u s1 ⟨x,H1,I1,rx,q1⟩=>thn (hi pins s1 σ H1 _ I1 q1) fun iv s2 hsl63=>?_)
 obtain ⟨y,H2,I2,ry,a,v,ex,g,q2⟩:=hsl63
 subst ex
 obtain rfl:u=Value.ref a:=rx
 exact ⟨dict_typeIs I2 g,d_getItem hu I2 g ry fun w' s3 I3 rw'=>⟨v,H2,I3,rw',q2⟩⟩
theorem ps_dput (hu:X.A.units+1<cLine) (ho:PE X o td) (hi:PE X i ty) (hv:PE X value tv) (hs:swapsWith value (some (.Subscript o i pos')) pos.line X.env=pure false) :
  PS X (.Assign [.Subscript o i pos'] value pos) (sDPut td ty tv):=by
 intro pins s σ H D I h
 refine wpAny_Assign_Subscript (thn (hv pins s σ H _ I h) fun r s1 ⟨v,H1,I1,rv,q1⟩=>thn (ho pins s1 σ H1 _ I1 q1) fun u s2 ⟨x,H2,I2,rx,q2⟩=>thn (hi pins s2 σ H2 _ I2 q2) fun iv s3 hsl64=>?_) hs
 obtain ⟨y,H3,I3,ry,a,H4,ex,g,q3⟩:=hsl64
 subst ex
 obtain rfl:u=Value.ref a:=rx
 exact d_setItem hu I3 g ry rv fun s4 I4=>⟨σ,H4,I4,q3⟩
end
theorem dk_empty {P:Program} {w:World} {H:Hp} (h:Heap) (hb:sysModules<h.objs.size):ObjOk P w H (h.push { cls:=.type "dict",data:=.dict #[] }) h.objs.size (.dK []) :=
 ⟨Qr _,beq_eq_false_iff_ne.mpr (Ne.symm (Qw hb)),[],.nil,Heap.DictOf.new h⟩
theorem dt_empty {P:Program} {w:World} {H:Hp} (h:Heap) (hb:sysModules<h.objs.size):ObjOk P w H (h.push { cls:=.type "dict",data:=.dict #[] }) h.objs.size (.dT []) :=
 ⟨Qr _,beq_eq_false_iff_ne.mpr (Ne.symm (Qw hb)),[],.nil,_,#[],0,Qs _ rfl,⟨rfl,rfl,rfl⟩,rfl,rfl,List.nodup_nil⟩
noncomputable def tDNewK:TE:=fun _ H Q=>∀ p,H p=none->Q (.ref p) (upd H p (.dK []))
noncomputable def tDNewT:TE:=fun _ H Q=>∀ p,H p=none->Q (.ref p) (upd H p (.dT []))
section
variable {X:Cx} {pos:Pos}
theorem pe_dnewK:PE X (.Dict [] [] pos) tDNewK:=fun pins s σ H Q I h =>
 wpAny_Dict_empty ⟨.ref s.heap.objs.size,_,I.laid (a:=s.heap.objs.size) (o:=.dK []) (t':=s.toks) (fun _ _ q=>Qf _ q) (Qh _) (dk_empty s.heap I.big),rfl,h _ (I.hok.fresh (Qh _))⟩
theorem pe_dnewT:PE X (.Dict [] [] pos) tDNewT:=fun pins s σ H Q I h =>
 wpAny_Dict_empty ⟨.ref s.heap.objs.size,_,I.laid (a:=s.heap.objs.size) (o:=.dT []) (t':=s.toks) (fun _ _ q=>Qf _ q) (Qh _) (dt_empty s.heap I.big),rfl,h _ (I.hok.fresh (Qh _))⟩
end
noncomputable def tPairs:List (TE × TE)->St->Hp->(List (V × V)->Hp->Prop)->Prop
 | [],_,H,Q=>Q [] H
 | (tk,tv)::r,σ,H,Q=>tk σ H fun x H1=>tv σ H1 fun y H2=>tPairs r σ H2 fun ps H3=>Q ((x,y)::ps) H3
noncomputable abbrev VV:List (V × V)->List (Value × Value)->Prop:=Paired fun p q=>RelV p.1 q.1/\RelV p.2 q.2
noncomputable def PPs (X:Cx) (pos:Pos) (keys:List (Option Expr)) (values:List Expr) (trs:List (TE × TE)):Prop :=
 ∀ (pins:List (Addr × Obj)) (s:Shared) (σ:St) (H:Hp) (Q:List (V × V)->Hp->Prop),Inv X pins σ H s->tPairs trs σ H Q ->
  wpAny (model X.prog X.w) X.A (evalPairs (pairTrees keys values X.env pos)) (fun vs s'=>∃ ps H',Inv X pins σ H' s'/\VV ps vs/\Q ps H') X.xe s
theorem pps_nil {X:Cx} {pos:Pos}:PPs X pos [] [] []:=fun pins s σ H Q I h=>pairTrees_nil_walk ⟨[],H,I,.nil,h⟩
theorem pps_cons {X:Cx} {pos:Pos} {k v:Expr} {ks:List (Option Expr)} {vs:List Expr} {tk tv:TE} {trs:List (TE × TE)} (hk:PE X k tk) (hv:PE X v tv) (hr:PPs X pos ks vs trs) :
  PPs X pos (some k::ks) (v::vs) ((tk,tv)::trs):=fun pins s σ H Q I h =>
 pairTrees_cons_walk (thn (hk pins s σ H _ I h) fun u s1 ⟨x,H1,I1,rx,q1⟩=>thn (hv pins s1 σ H1 _ I1 q1) fun w2 s2 ⟨y,H2,I2,ry,q2⟩ =>
  thn (hr pins s2 σ H2 _ I2 q2) fun ws s3 hsl65=>by obtain ⟨ps,H3,I3,rel,q3⟩:=hsl65;exact ⟨(x,y)::ps,H3,I3,.cons ⟨rx,ry⟩ rel,q3⟩)
noncomputable def mergeK (kvs more:List (Key × V)):List (Key × V):=more.foldl (fun acc kv=>putK acc kv.1 kv.2) kvs
theorem KV.merge:∀ {more:List (Key × V)} {rs:List (Key × Value)} {kvs:List (Key × V)} {vs:List (Key × Value)},KV more rs->KV kvs vs->KV (mergeK kvs more) (merged vs rs):=by
 intro more rs kvs vs r
 unfold KV at r
 induction r generalizing kvs vs with
 | nil=>intro q;exact q
 | @cons p q ps qs h t ih =>
  intro r0
  have e:KV (putK kvs p.1 p.2) (stored vs q.1 q.2):=by
   have:=r0.put p.1 h.2
   rw [<- h.1];exact this
  exact ih e
theorem length_mergeK:∀ (more kvs:List (Key × V)),(mergeK kvs more).length<=kvs.length+more.length
 | [],kvs=>by show kvs.length<=kvs.length+0;omega
 | p::r,kvs=>by
  have h1:=length_mergeK r (putK kvs p.1 p.2)
  have h2:=length_putK kvs p.1 p.2
  show (mergeK (putK kvs p.1 p.2) r).length<=_
  rw [List.length_cons];omega
theorem carries_of {P:Program} {w:World}:∀ {kvs:List (Key × V)} {ws:List (Value × Value)},VV (kvs.map fun kv=>(kV kv.1,kv.2)) ws->∃ rs,Carries (mixKind P w) ws rs/\KV kvs rs
 | [],_,r=>by rw [List.map_nil] at r;cases r;exact ⟨[],True.intro,.nil⟩
 | p::kvs,_,r=>by
  rw [List.map_cons] at r
  cases r with
  | @cons a b as bs h t =>
   obtain ⟨rs,c,q⟩:=carries_of (P:=P) (w:=w) t
   obtain ⟨b1,b2⟩:=b
   exact ⟨(p.1,b2)::rs,⟨kV_is h.1,rfl,c⟩,.cons ⟨rfl,h.2⟩ q⟩
noncomputable def tDisp (trs:List (TE × TE)):TE:=fun σ H Q=>∀ p,H p=none->tPairs trs σ (upd H p (.dK [])) fun ps H2=>H2 p=some (.dK [])/\∃ kvs:List (Key × V),ps=kvs.map (fun kv=>(kV kv.1,kv.2))/\kvs.length<=15/\Q (.ref p) (upd H2 p (.dK (mergeK [] kvs)))
theorem pe_disp {X:Cx} {pos:Pos} {keys:List (Option Expr)} {values:List Expr} {trs:List (TE × TE)} (h:PPs X pos keys values trs) (hall:keys.all (·.isSome)=true) (hl:keys.length=values.length) (h0:keys≠[])
  (h15:keys.length<=15):PE X (.Dict keys values pos) (tDisp trs):=by
 intro pins s σ H Q I q
 have hn:=I.hok.fresh (Qh s.heap.objs.size)
 have I1:=I.laid (a:=s.heap.objs.size) (o:=.dK []) (h':=s.heap.push { cls:=.type "dict",data:=.dict #[] }) (t':=s.toks) (fun _ _ q=>Qf _ q) (Qh _) (dk_empty s.heap I.big)
 refine wpAny_Dict_walk (knd:=mixKind X.prog X.w) hall hl h0 h15 (thn (h pins _ σ _ _ I1 (q _ hn)) fun ws s2 hsl66=>?_)
 obtain ⟨ps,H2,I2,rel,e,kvs,ep,lk,q2⟩:=hsl66
 subst ep
 obtain ⟨rs,c,rk⟩:=carries_of (P:=X.prog) (w:=X.w) rel
 obtain ⟨z,hd,vs0,r0,dd⟩:=dk_of I2.hok e
 cases r0
 refine ⟨rs,c,dd,fun h' dd' hs=>⟨.ref s.heap.objs.size,_,?_,rfl,q2⟩⟩
 have hz:(mergeK [] kvs).length<=sizeLine:=by
  have h1:=length_mergeK kvs []
  rw [List.length_nil] at h1
  rw [sizeLine_eq];omega
 have he:∃ q,h'.get? s.heap.objs.size=some q:=by obtain ⟨q,_,_,hq,_⟩:=dd';exact ⟨q,hq⟩
 exact d_write I2 (by rw [e];exact True.intro) hs he (dk_new hz hd (rk.merge .nil) dd')
structure M2 (X:Cx) (o:Expr) (m:Str) (apos:Pos) (e f:Expr) (cpos:Pos):Prop where
 base:attributeBase o m X.env (eval o X.env)=eval o X.env
 few:((backTo cpos (starEach [e,f] X.env)).all (fun x=>!x.1)&&(backToKw cpos (keywordEach [] X.env)).all (fun x=>x.1.isSome)
  && decide (([e,f]:List Expr).length+([]:List Keyword).length+(if ([]:List Keyword).isEmpty then 0 else 1)<30))=true
 line:(apos.endLine == cpos.line)=true
 trees:backTo cpos (starEach [e,f] X.env)=[(false,eval e X.env),(false,eval f X.env)]
noncomputable def IsD (H:Hp) (a:Addr):Prop:=(∃ kvs,Rd H a (.dK kvs))∨∃ kvs,Rd H a (.dT kvs)
theorem isD_at {X:Cx} {pins:List (Addr × Obj)} {σ:St} {H:Hp} {s:Shared} {a:Addr} (I:Inv X pins σ H s) (d:IsD H a) :
  s.TypeIs (.ref a) "dict"/\(∀ b,Value.ref a=.ref b->∃ ob,s.heap.get? b=some ob/\ob.dict=none)/\(a == sysModules)=false:=by
 rcases d with ⟨kvs,e⟩ | ⟨kvs,e⟩
 ·obtain ⟨_,hd,vs,_,dd⟩:=dk_rd I.hok e
  refine ⟨dd.typeIs,fun b q=>?_,hd⟩
  cases q
  obtain ⟨ob,_,_,h1,h2,_⟩:=dd
  exact ⟨ob,h1,h2.2.1⟩
 ·obtain ⟨_,hd,xs,_,dd⟩:=dt_rd I.hok e
  refine ⟨dd.typeIs,fun b q=>?_,hd⟩
  cases q
  obtain ⟨ob,_,_,h1,h2,_⟩:=dd
  exact ⟨ob,h1,h2.2.1⟩
section
variable {X:Cx} {pins:List (Addr × Obj)} {σ:St} {H:Hp} {s:Shared} {a:Addr} {y d:V} {u r:Value} {o:Option V} {A:Around} {E:Value->Shared->Prop}
theorem d_get2 {Q:Value->Shared->Prop} (hu:A.units+1<cLine) (I:Inv X pins σ H s) (g:DGet H a y o) (ry:RelV y u) (rd:RelV d r) (h:∀ w' s',Inv X pins σ H s'->RelV (o.getD d) w'->Q w' s') :
  wpAny (model X.prog X.w) A (call (.builtin "dict.get") [.ref a,u,r]) Q E s:=by
 rcases g with ⟨kvs,k,e,ey,l⟩ | ⟨kvs,k,b,e,ey,eb,l⟩
 ·subst ey
  obtain ⟨z,hd,vs,rel,dd⟩:=dk_rd I.hok e
  refine call_meetsIn PySem.F.slot_dict_get dd.typeIs PySem.F.entry_dict_get (PySem.F.args_dict_get_3 _ _ _) (meets_dict_get_default (mixKind X.prog X.w) a (kV_is ry) hd r) ⟨_,dd.mapOf,h _ _ (I.tok _) ?_⟩
  rw [l]
  exact (rel.val k).getD rd
 ·subst ey
  cases (show u=Value.ref b from ry)
  obtain ⟨z,hd,xs,rel,dd⟩:=dt_rd I.hok e
  refine call_meetsIn PySem.F.slot_dict_get dd.typeIs PySem.F.entry_dict_get (PySem.F.args_dict_get_3 _ _ _) (meetsH_dict_get_default (tupleKind (mixKind X.prog X.w)) a b hd r) ⟨tupleKind_room_in1 hu,k,xs,key_of I.hok eb,dd,h _ _ (I.tok _) ?_⟩
  rw [l]
  exact (rel.val k).getD rd
end
noncomputable def tDGet2 (td ty tx:TE):TE:=fun σ H Q=>td σ H fun x H1=>∃ a,x=.ref a/\IsD H1 a/\ty σ H1 fun y H2=>tx σ H2 fun z H3=>∃ o,DGet H3 a y o/\Q (o.getD z) H3
section
variable {X:Cx} {o e f:Expr} {apos cpos:Pos} {td ty tx:TE}
theorem pe_dget2 (hu:X.A.units+1<cLine) (ho:PE X o td) (he:PE X e ty) (hf:PE X f tx) (m:M2 X o "get" apos e f cpos):PE X (.Call (.Attribute o "get" apos) [e,f] [] cpos) (tDGet2 td ty tx):=by
 intro pins s σ H Q I h
 refine wpAny_Call_method m.base m.few m.line PySem.F.plainAttrs_dict PySem.F.slot_dict_get PySem.F.type_dict_get (thn (ho pins s σ H _ I h) fun u s1 hsl67=>?_)
 obtain ⟨x,H1,I1,rx,a,ex,d,q1⟩:=hsl67
 subst ex
 obtain rfl:u=Value.ref a:=rx
 obtain ⟨t1,t2,_⟩:=isD_at I1 d
 refine ⟨t1,t2,?_⟩
 rw [m.trees]
 refine Calls.callWith_builtin rfl (Calls.evalArgs_plain (Calls.spliced_cons (thn (he pins s1 σ H1 _ I1 q1) fun iv s2 ⟨y,H2,I2,ry,q2⟩ =>
  Calls.spliced_cons (thn (hf pins s2 σ H2 _ I2 q2) fun fv s3 ⟨z,H3,I3,rz,ov,g,q3⟩=>Calls.spliced_nil ?_))))
 exact d_get2 hu I3 g ry rz fun w' s4 I4 rw'=>⟨_,H3,I4,rw',q3⟩
end
section
variable {X:Cx} {pins:List (Addr × Obj)} {σ:St} {H:Hp} {s:Shared} {a:Addr} {kvs:List (Key × V)} {A:Around} {E:Value->Shared->Prop}
end
section
variable {X:Cx} {pins:List (Addr × Obj)} {σ:St} {H:Hp} {s:Shared} {a:Addr} {y:V} {u:Value} {A:Around} {E:Value->Shared->Prop}
end
end L2
namespace L2
open PySem PySem.Spec PyProof.Rows
section
variable {X:Cx}
end
section
variable {κ:Type} [DecidableEq κ]
end
end L2
namespace Mm
open PySem
noncomputable def setsOf (m N:Nat):List Nat:=(List.range N).filter fun s=>m.testBit s
theorem high_bit {m B s:Nat} (h:m<2 ^ B) (hs:B<=s):m.testBit s=false:=Nat.testBit_lt_two_pow (Nat.lt_of_lt_of_le h (Nat.pow_le_pow_right (by decide) hs))
theorem sets_ext {m B N:Nat} (h:m<2 ^ B) (hB:B<=N):setsOf m B=setsOf m N:=by
 obtain ⟨d,rfl⟩:∃ d,N=B+d:=⟨N-B,by omega⟩
 unfold setsOf
 rw [List.range_add,QJ]
 have:((List.range d).map (B+·)).filter (fun s=>m.testBit s)=[]:=by
  rw [List.filter_eq_nil_iff]
  intro a ha
  obtain ⟨b,_,rfl⟩:=Qy ha
  rw [high_bit h (by omega)]
  simp
 rw [this,List.append_nil]
theorem sets_lt {m N s:Nat} (h:s∈setsOf m N):s<N:=by
 have:=(List.mem_filter.mp h).1
 simpa using this
theorem sets_len (m N:Nat):(setsOf m N).length<=N:=by
 have:=List.length_filter_le (fun s=>m.testBit s) (List.range N)
 simpa [setsOf] using this
theorem lowest:∀ (n m:Nat),m<=n->m≠0->∃ t q,m=2 ^ (t+1)*q+2 ^ t
 | 0,m,h,h0=>absurd (by omega) h0
 | n+1,m,h,h0=>by
  by_cases hm:m % 2=1
  ·exact ⟨0,m / 2,by simp;omega⟩
  ·obtain ⟨t,q,e⟩:=lowest n (m / 2) (by omega) (by omega)
   refine ⟨t+1,q,?_⟩
   have e1:2 ^ (t+1+1)*q=2*(2 ^ (t+1)*q):=by rw [Nat.pow_succ 2 (t+1),Nat.mul_comm (2 ^ (t+1)) 2,Nat.mul_assoc]
   have e2:2 ^ (t+1)=2*2 ^ t:=by rw [Nat.pow_succ,Nat.mul_comm]
   rw [e1]
   omega
theorem low_bits {t q s:Nat} (h:s<t):(2 ^ (t+1)*q+2 ^ t).testBit s=false:=by
 rw [Nat.testBit_two_pow_mul_add _ (Nat.pow_lt_pow_right (by decide) (by omega)),if_pos (by omega),Nat.testBit_two_pow]
 simp;omega
theorem low_bit (t q:Nat):(2 ^ (t+1)*q+2 ^ t).testBit t=true:=by
 rw [Nat.testBit_two_pow_mul_add _ (Nat.pow_lt_pow_right (by decide) (by omega)),if_pos (by omega),Nat.testBit_two_pow]
 simp
theorem low_xor (t q:Nat):(2 ^ (t+1)*q+2 ^ t) ^^^ (2 ^ (t+1)*q+2 ^ t-1)=2 ^ (t+1)-1:=by
 have hp:=Nat.two_pow_pos t
 have e2:2 ^ (t+1)=2*2 ^ t:=by rw [Nat.pow_succ,Nat.mul_comm]
 have e:2 ^ (t+1)*q+2 ^ t-1=2 ^ (t+1)*q+(2 ^ t-1):=by omega
 rw [e]
 refine Nat.eq_of_testBit_eq fun j=>?_
 rw [Nat.testBit_xor,Nat.testBit_two_pow_mul_add _ (show 2 ^ t<2 ^ (t+1) by omega),Nat.testBit_two_pow_mul_add _ (show 2 ^ t-1<2 ^ (t+1) by omega),Nat.testBit_two_pow_sub_one]
 by_cases hj:j<t+1
 ·rw [if_pos hj,if_pos hj,Nat.testBit_two_pow,Nat.testBit_two_pow_sub_one]
  by_cases hjt:j<t
  ·have:¬ t=j:=by omega
   simp [hj,hjt,this]
  ·have:t=j:=by omega
   subst this
   simp
 ·rw [if_neg hj,if_neg hj]
  simp [hj]
theorem bits_ones (t:Nat):Builtin.Int.intBits ((2 ^ (t+1)-1:Nat):Int)=t+1:=by
 have hp:=Nat.two_pow_pos t
 have e2:2 ^ (t+1)=2*2 ^ t:=by rw [Nat.pow_succ,Nat.mul_comm]
 have h1:Builtin.Int.intBits ((2 ^ (t+1)-1:Nat):Int)<=t+1:=bits_nat (by omega)
 have h2:¬ Builtin.Int.intBits ((2 ^ (t+1)-1:Nat):Int)<=t:=fun h=>by
  have:=intBits_le_iff.mp h
  rw [Int.natAbs_natCast] at this
  omega
 omega
theorem bits_self (m:Nat):m<2 ^ Builtin.Int.intBits (m:Int):=by
 have:=(intBits_le_iff (m:=Builtin.Int.intBits (m:Int)) (x:=(m:Int))).mp (Qh _)
 simpa using this
end Mm
namespace Mm
open PySem L2
theorem ix_tupK {X:Cx} {K:PySem.W.Frag} (h:X.K=K):IxR X (rIxT K):=by subst h;exact ix_tup
theorem bt_tuple:bootBuiltins "tuple"=some (.type "tuple"):=by decide +kernel
theorem comp_tup {js:List Nat} {tt:TT} {te:TE} {K:PySem.W.Frag} {a:Addr} {xs:List V} {σ:St} {H:Hp} {Q:VK} (Pv:Nat->List V->Hp->Prop) (h0:Pv 0 [] H) (hl:∀ i ys H,i<=xs.length->Pv i ys H->SqT K H a xs)
  (hs:∀ i x ys H,xs[i]?=some x->Pv i ys H->tt (some x::pick js σ) H fun b H2=>if b=true then te (some x::pick js σ) H2 fun y H3=>ys.length<sizeLine/\Pv (i+1) (ys++[y]) H3 else Pv (i+1) ys H2)
  (hd:∀ ys H,Pv xs.length ys H->∀ p,H p=none->Q (.ref p) (upd H p (.lst ys))) :
  tCompB (Itt K a) js tt te σ H Q:=by
 refine ⟨fun i m ys H=>m=xs.length-i/\i<=xs.length/\Pv i ys H,⟨xs.length,by simp,Qr _,h0⟩,?_⟩
 rintro i m ys H ⟨rfl,hi,p⟩
 have q:=hl i ys H hi p
 by_cases hlt:i<xs.length
 ·refine .inr ⟨⟨xs,xs[i],q,by simp [hlt]⟩,Pv (i+1),fun ys' H' p'=>⟨xs.length-(i+1),by omega,rfl,hlt,p'⟩,fun x H' y=>?_⟩
  obtain ⟨e,y⟩:=y
  subst e
  exact hs i x ys _ (y xs q) p
 ·have e:i=xs.length:=by omega
  subst e
  exact .inl ⟨⟨xs,q,Qh _⟩,hd ys H p⟩
theorem call_len_seqK {X:Cx} {K:PySem.W.Frag} (hK:X.K=K):CallR X (.builtin "len") (fun xs H Q=>∃ p ys,xs=[.ref p]/\(SqL K H p ys∨SqT K H p ys)/\Q (.int ys.length) H):=by subst hK;exact call_len_seq
theorem pe_bmK {X:Cx} {K:PySem.W.Frag} {o e:Expr} {es:List Expr} {to:TE} {t:TA} {name:Str} {apos cpos:Pos} {T id:String} {r:V->List V->Hp->VK->Prop} (hK:X.K=K) (pa:PlainAttrs T) (slot:Slot T name id) (hty:typeOf (.builtin id)=pure (.type "method_descriptor")) (hm:MtR X id r) (ho:PE X o to) (ha:PA X (e::es) t)
  (hbase:attributeBase o name X.env (eval o X.env)=eval o X.env:=by rfl)
  (hfew:((backTo cpos (starEach (e::es) X.env)).all (fun x=>!x.1)&&(backToKw cpos (keywordEach [] X.env)).all (fun x=>x.1.isSome)
   && decide ((e::es).length+([]:List Keyword).length+(if ([]:List Keyword).isEmpty then 0 else 1)<30))=true:=by rfl)
  (hline:(apos.endLine == cpos.line)=true:=by rfl) (hs:starEach (e::es) X.env=(false,eval e X.env)::starEach es X.env:=by rfl) (hplain:(backTo cpos (starEach es X.env)).any (·.1)=false:=by rfl) :
  PE X (.Call (.Attribute o name apos) (e::es) [] cpos) (tBM K T r to t):=by
 subst hK
 exact pe_bm pa slot hty hm ho ha hbase hfew hline hs hplain
theorem seq_c {v:V} {i:Nat} {b:TS} {D:Ends} {σ:St} {H:Hp} (h:b D (σ.set i (some v)) H):tSeq (tAsg (tC v) (gName i)) b D σ H:=h
theorem cut_for {wi:TI} {g:TG} {tb b:TS} {D:Ends} {σ:St} {H:Hp} (P:St->Hp->Prop) (h1:∀ R:St->Hp->Prop,(∀ σ' H',P σ' H'->R σ' H')->tFor wi g tb { D with nx:=R } σ H) (h2:∀ σ' H',P σ' H'->b D σ' H'):tSeq (tFor wi g tb) b D σ H:=h1 (b D) h2
theorem cut_while {c:TT} {tb b:TS} {D:Ends} {σ:St} {H:Hp} (P:St->Hp->Prop) (h1:∀ R:St->Hp->Prop,(∀ σ' H',P σ' H'->R σ' H')->tWhile c tb { D with nx:=R } σ H) (h2:∀ σ' H',P σ' H'->b D σ' H'):tSeq (tWhile c tb) b D σ H:=h1 (b D) h2
end Mm
namespace L2
open PySem PySem.Spec PyProof.Rows
section
variable {X:Cx}
theorem vals_strs:∀ {l:List (Str × Tok)},Vals ((l.map (·.1)).map V.str) (strValues l)
 | []=>.nil
 | (x,t)::r=>.cons ⟨t,rfl⟩ (vals_strs (l:=r))
noncomputable def rSplit:V->List V->Hp->VK->Prop:=fun x vs H Q=>∃ a b:Str,x=.str a/\vs=[.str b]/\(b.length == 0)=false/\a.length+2<=sizeLine/\∀ p,H p=none->Q (.ref p) (upd H p (.lst ((Txt.split a b).map V.str)))
theorem mt_split:MtM X "str.split" rSplit:=by
 intro pins s σ H x vs v us Q I rx rv h
 obtain ⟨a,b,rfl,rfl,hb,hz,q⟩:=h
 obtain ⟨t,rfl⟩:=rx
 obtain ⟨u,rfl,u',rfl⟩:=rv.one
 have hs:=split_le a b
 have fin:∀ (l:List (Str × Tok)) (tk:Nat),l.map (·.1)=Txt.split a b->EP X pins σ Q (.ref s.heap.objs.size) { s with heap:=s.heap.push { cls:=.type "list",data:=.seq (strValues l).toArray },toks:=tk }:=fun l tk e =>
  ⟨.ref s.heap.objs.size,_,I.lnew (ys:=(Txt.split a b).map V.str) (by rw [<- e];exact vals_strs) (by rw [Qd];omega),rfl,q _ I.fresh⟩
 cases h1:(decide (a.length<b.length)||decide (Builtin.Str.strKind a<Builtin.Str.strKind b))
 ·cases hf:(Builtin.Str.occurrences a b 0 a.length (a.length+1)).isEmpty
  ·have e:Txt.split a b=Builtin.Str.partsBetween a (Builtin.Str.occurrences a b 0 a.length (a.length+1)) b.length:=(if_neg (ne_true_of_eq_false h1)).trans (if_neg (ne_true_of_eq_false hf))
   refine call_meets F.slot_str_split (typeIs_str _ _ _) F.entry_str_split (F.args_str_split_2 _ _) (meets_str_split_sep a b t u' h1 hb hf (by omega) (by rw [<- e];omega)) ?_
   rw [strsFrom_eq]
   exact fin (numbered s.toks _) _ ((numbered_texts _ _).trans e.symm)
  ·exact call_meets F.slot_str_split (typeIs_str _ _ _) F.entry_str_split (F.args_str_split_2 _ _) (meets_str_split_not_found a b t u' h1 hb hf) (fin [(a,t)] _ ((if_neg (ne_true_of_eq_false h1)).trans (if_pos hf)).symm)
 ·exact call_meets F.slot_str_split (typeIs_str _ _ _) F.entry_str_split (F.args_str_split_2 _ _) (meets_str_split_cannot_occur a b t u' h1) (fin [(a,t)] _ (if_pos h1).symm)
theorem mt_starts:MtR X "str.startswith" (fun x xs H Q=>∃ a b,x=.str a/\xs=[.str b]/\Q (.bl (0+b.length<=a.length&&Builtin.Str.subAt a b 0)) H):=by
 intro pins s σ H x xs v us Q I rx rs h
 obtain ⟨a,b,rfl,rfl,q⟩:=h
 obtain ⟨t,rfl⟩:=rx
 obtain ⟨u,rfl,t',rfl⟩:=vals1 rs
 exact call_gives PySem.F.slot_str_startswith (typeIs_str s a t) PySem.F.entry_str_startswith (PySem.F.args_str_startswith_2 _ _) (gives_str_startswith a b t t') ⟨.bl _,H,I,rfl,q⟩
theorem strs_of:∀ {zs:List Str} {us:List Value},Vals (zs.map V.str) us->StrsAre us zs
 | [],_,r=>by cases r;exact .nil
 | z::zs,_,r=>by
  cases r with
  | cons h t=>obtain ⟨k,rfl⟩:=h;exact .cons _ _ (strs_of t)
theorem mt_join {K:PySem.W.Frag} (hK:X.K=K):MtM X "str.join" (fun x xs H Q=>∃ (a:Str) (l:Addr) (zs:List Str),x=.str a/\xs=[.ref l]/\SqL K H l (zs.map V.str)/\a.length<=16/\(zs.map (·.length)).sum+zs.length<=1048576/\Q (.str (Str.join a zs)) H):=by
 intro pins s σ H x xs v us Q I rx rs h
 obtain ⟨a,l,zs,rfl,rfl,hq,ha,hw,q⟩:=h
 subst hK
 obtain ⟨t,rfl⟩:=rx
 obtain ⟨u,rfl,ru⟩:=rs.one
 cases ru
 obtain ⟨its,rv,p,hz⟩:=I.list hq
 refine join_listW (items:=its.toArray) p.isList (by simpa using strs_of rv) ha hw fun t' k=>?_
 exact ⟨.str _,H,I.tok _,⟨t',rfl⟩,by rw [show Txt.join a zs=Str.join a zs from StrLaws.glued_eq_join a zs];exact q⟩
theorem ps_tryok {body:List Stmt} {h₀:ExceptHandler} {hs:List ExceptHandler} {t:TS} {pos:Pos} (h:PSs X.nox body t):PS X (.Try body (h₀::hs) [] [] pos) t:=by
 intro pins s σ H D I q
 refine wpAny_Try_except (QC (h pins s σ H D (I.wish _) q) (fun f s1 z=>?_) fun _ _ z=>False.elim z)
 cases f with
 | next=>obtain ⟨σ1,H1,I1,q1⟩:=z;exact wpAny_execs_nil ⟨σ1,H1,I1.unwish,q1⟩
 | ret v=>obtain ⟨x,σ1,H1,I1,r,q1⟩:=z;exact ⟨x,σ1,H1,I1.unwish,r,q1⟩
 | brk=>obtain ⟨σ1,H1,I1,q1⟩:=z;exact ⟨σ1,H1,I1.unwish,q1⟩
 | cont=>obtain ⟨σ1,H1,I1,q1⟩:=z;exact ⟨σ1,H1,I1.unwish,q1⟩
end
end L2
namespace L2
open PySem PySem.Spec PyProof.Rows
noncomputable def Ite (K:PySem.W.Frag) (a:Addr):It:=⟨fun i H=>∃ xs x,SqL K H a xs/\xs[i]?=some x,fun i H x H'=>∃ (t:Addr) (y:V),(∀ xs,SqL K H a xs->xs[i]?=some y)/\H t=none/\x=.ref t/\H'=upd H t (.tup [.int ((i:Nat):Int),y]),fun i H=>∃ xs,SqL K H a xs/\xs.length<=i⟩
theorem turn_enum {P:Program} {w:World} {K:PySem.W.Frag} {elts:List Expr} {k:Nat} {tpos:Pos} (a e it:Addr) (hei:e≠it) :
  Turn P w K (.Tuple elts k tpos) (Ite K a) [e,it] e (fun i h=>(∃ old,IsEnum h e it i old)/\h.IsListIter it a i) where
 mem:=by simp
 obj:=fun i h st b hb=>by
  rcases (show b=e∨b=it by simpa using hb) with z | z
  ·subst z
   obtain ⟨⟨old,he⟩,_⟩:=st
   exact ⟨_,he,fun v z=>by cases z⟩
  ·subst z
   obtain ⟨_,o,e,c,d⟩:=st
   exact ⟨o,e,fun v z=>by rw [d] at z;cases z⟩
 keep:=fun i h h' st kk=>⟨by obtain ⟨old,he⟩:=st.1;exact ⟨old,kk e (by simp) _ he⟩,st.2.at fun o q=>kk it (by simp) o q⟩
 item:=by
  intro X hP hw hK hc i pins s σ H E I hf st hg
  subst hP hw hK
  obtain ⟨xs,x,hq,hx⟩:=hg
  obtain ⟨its,rv,p,hz⟩:=I.list hq
  obtain ⟨u,hu,ru⟩:=rv.get hx
  obtain ⟨⟨old,he⟩,hit⟩:=st
  obtain ⟨e0,e1,e2,e3,e4,e5⟩:=hf e (by simp)
  obtain ⟨f0,f1,f2,f3,f4,f5⟩:=hf it (by simp)
  refine wpAny_pyNext_enum_item he hit p.isList (x:=u) (by simpa using hu) hei fun h1 ho hit1 ht hsz kk=>?_
  refine ⟨_,rfl,?_⟩
  have hel:e<s.heap.objs.size:=Qn he
  have hil:it<s.heap.objs.size:=by obtain ⟨_,q,_⟩:=hit;exact Qn q
  refine wpAny_letOwnedTupleGo_enum (s:={ s with heap:=h1,toks:=s.toks+1 }) ho fun h2 he2 hs2=>?_
  have hs2:Heap.SameBut e h1 h2:=hs2
  have kk2:∀ b o,b≠e->b≠it->s.heap.get? b=some o->h2.get? b=some o:=fun b o q1 q2 q=>(hs2.2 b q1).trans (kk b o q1 q2 q)
  have ht2:h2.get? s.heap.objs.size=some { cls:=.type "tuple",data:=.seq #[.int i s.toks,u] }:=(hs2.2 _ (Nat.ne_of_gt hel)).trans ht
  have hT:H s.heap.objs.size=none:=I.fresh
  have I2:Inv X pins σ (upd H s.heap.objs.size (.tup [.int ((i:Nat):Int),x])) { s with heap:=h2,toks:=s.toks+1 }:=by
   refine I.call' (ch:=[e,it]) rfl ⟨fun b o q hn hb hx=>?_,fun b o q hn hb hx=>?_,fun b o q hn hx=>?_,fun b o q hx=>?_,fun b ys q=>?_,fun b o v q=>?_,fun b ps q=>?_⟩ (fun b v q=>?_) I.bare fun b hb=>?_
   ·exact kk2 b o (fun z=>hx (by simp [z])) (fun z=>hx (by simp [z])) q
   ·exact ⟨o.slots,kk2 b o (fun z=>hx (by simp [z])) (fun z=>hx (by simp [z])) q⟩
   ·rw [upd_ne (Qw (Qn q))];exact hn
   ·exact ⟨o,kk2 b o (fun z=>hx (by simp [z])) (fun z=>hx (by simp [z])) q⟩
   ·rw [upd_ne (ne_of_none q hT)];exact q
   ·rw [upd_ne (ne_of_none q hT)];exact q
   ·exact ⟨#[],by rw [upd_ne (ne_of_none q hT)];simpa using q⟩
   ·by_cases hb:b=s.heap.objs.size
    ·subst hb
     rw [upd_same] at q
     cases q
     exact ⟨(by show 2<=sizeLine;decide),[.int i s.toks,u],.cons ⟨_,rfl⟩ (.cons ru .nil),_,ht2,rfl,_,rfl⟩
    ·rw [upd_ne hb] at q
     have hne:b≠e:=fun z=>by rw [z,e0] at q;cases q
     have hni:b≠it:=fun z=>by rw [z,f0] at q;cases q
     refine (I.hok b v q).stay (fun c o hcb z=>kk2 c o (fun y=>?_) (fun y=>?_) z) (fun c z=>by rw [upd_ne (ne_of_none z hT)];exact z) fun c ys z=>by rw [upd_ne (ne_of_none z hT)];exact z
     ·rcases hcb with r | r
      ·exact hne (r ▸ y)
      ·rw [y,e0] at r;cases r
     ·rcases hcb with r | r
      ·exact hni (r ▸ y)
      ·rw [y,f0] at r;cases r
   ·rcases (show b=e∨b=it by simpa using hb) with z | z
    ·subst z;exact ⟨e3,e1,e4,e5⟩
    ·subst z;exact ⟨f3,f1,f4,f5⟩
  refine ⟨.ref s.heap.objs.size,_,I2,rfl,⟨_,x,fun ys hy=>by rw [I.list_inj hy hq];exact hx,hT,rfl,rfl⟩,⟨⟨u,by simpa using he2⟩,hit1.at fun o q=>(hs2.2 it hei.symm).trans q⟩,fun b hb=>?_⟩
  rcases (show b=e∨b=it by simpa using hb) with z | z
  ·subst z;rw [upd_ne (Qw hel)];exact e0
  ·subst z;rw [upd_ne (Qw hil)];exact f0
 done:=by
  intro X hP hw hK hc i pins s σ H E I hf st hg
  subst hP hw hK
  obtain ⟨xs,hq,hx⟩:=hg
  obtain ⟨its,rv,p,hz⟩:=I.list hq
  obtain ⟨f0,f1,f2,f3,f4,f5⟩:=hf it (by simp)
  obtain ⟨⟨old,he⟩,hit⟩:=st
  have hl:=rv.length
  exact wpAny_pyNext_enum_end (I.ok.hd hc) he hit p.isList (by simp;omega) fun h' eb=>⟨rfl,I.turned (t':=s.toks) (fun b o hb q=>eb b o hb q) f0 f1 f3 f4 f5⟩
 self:=fun _ _ _ _ _ st h=>by obtain ⟨⟨old,he⟩,_⟩:=st;exact wpAny_pyIter_enum he h
section
variable {X:Cx}
noncomputable def iEnum (K:PySem.W.Frag) (ta:TA):TI:=fun σ H R=>ta σ H fun vs H1=>∃ a xs,vs=[.ref a]/\SqL K H1 a xs/\R (Ite K a) H1
theorem pi_enum {a:Expr} {ta:TA} {p pos tpos:Pos} {elts:List Expr} {k:Nat} (hg:Gl X "enumerate") (hm:X.mg "enumerate"=none) (ha:PA X [a] ta) (hs:starEach [a] X.env=[(false,eval a X.env)]:=by rfl) :
  PI X (.Tuple elts k tpos) (.Call (.Name "enumerate" p) [a] [] pos) (iEnum X.K ta):=by
 intro pins s σ H R I h
 refine Call_ (ld_blt I hg hm boot_enumerate (PyProof.Rows.callWith_type1 (thn (ha pos pins s σ H _ I h) fun us s1 hsl68=>?_) hs rfl))
 obtain ⟨vs,H1,I1,r1,q1⟩:=hsl68
 obtain ⟨l,xs,e,hq,q⟩:=q1
 subst e
 obtain ⟨u,rfl,ru⟩:=vals1 r1
 cases ru
 obtain ⟨its,rv,pp,hz⟩:=I1.list hq
 refine call_enumerate_list pp.isList fun h' he hit hsz kk=>?_
 refine wpAny_pyIter_enum (s:={ s1 with heap:=h' }) he ?_
 refine ⟨s1.heap.objs.size+1,[s1.heap.objs.size+1,s1.heap.objs.size],_,_,H1,rfl,I1.kept (t':=s1.toks) kk,turn_enum l _ _ (Nat.succ_ne_self _),⟨⟨_,he⟩,hit⟩,fun b hb=>?_,q⟩
 rcases (show b=s1.heap.objs.size+1∨b=s1.heap.objs.size by simpa using hb) with z | z
 ·subst z;exact I1.fpOk (Nat.le_succ _) (I1.hok.fresh (Nat.le_succ _))
 ·subst z;exact I1.fpOk (Qh _) (I1.hok.fresh (Qh _))
end
theorem pg_tupK {X:Cx} {K:PySem.W.Frag} {es:List Expr} {k:Nat} {pos:Pos} {t:TGs} {n:Nat} (hK:X.K=K) (hc:X.calm=true) (h:PGs X es t)
  (hn:(assignEach es X.env).length=n:=by rfl) (hst:(assignEach es X.env).findIdx? (·.1)=none:=by rfl):PG X (.Tuple es k pos) (gTup K n t):=by
 subst hK
 exact pg_tup hc h hn hst
section
variable {k:Nat} {js:List Nat} {g:TG} {tt:TT} {te:TE}
theorem comp2_list {K:PySem.W.Frag} {a:Addr} {xs:List V} {σ:St} {H:Hp} {Q:VK} (Pv:Nat->List V->Hp->Prop) (h0:Pv 0 [] H) (hl:∀ i ys H,i<=xs.length->Pv i ys H->SqL K H a xs)
  (hs:∀ i x ys H,xs[i]?=some x->Pv i ys H->tStep2 k js g tt te σ ys (Pv (i+1)) x H)
  (hd:∀ ys H,Pv xs.length ys H->∀ p,H p=none->Q (.ref p) (upd H p (.lst ys))):tCompB2 (Itl K a) k js g tt te σ H Q:=by
 refine ⟨fun i m ys H=>m=xs.length-i/\i<=xs.length/\Pv i ys H,⟨xs.length,by simp,Qr _,h0⟩,?_⟩
 rintro i m ys H ⟨rfl,hi,p⟩
 have q:=hl i ys H hi p
 by_cases hlt:i<xs.length
 ·refine .inr ⟨⟨xs,xs[i],q,by simp [hlt]⟩,Pv (i+1),fun ys' H' p'=>⟨xs.length-(i+1),by omega,rfl,hlt,p'⟩,fun x H' y=>?_⟩
  obtain ⟨e,y⟩:=y
  subst e
  exact hs i x ys _ (y xs q) p
 ·have e:i=xs.length:=by omega
  subst e
  exact .inl ⟨⟨xs,q,Qh _⟩,hd ys H p⟩
theorem comp2_enum {K:PySem.W.Frag} {a:Addr} {xs:List V} {σ:St} {H:Hp} {Q:VK} (Pv:Nat->List V->Hp->Prop) (h0:Pv 0 [] H) (hl:∀ i ys H,i<=xs.length->Pv i ys H->SqL K H a xs)
  (hs:∀ i x ys H t,xs[i]?=some x->Pv i ys H->H t=none->tStep2 k js g tt te σ ys (Pv (i+1)) (.ref t) (upd H t (.tup [.int ((i:Nat):Int),x])))
  (hd:∀ ys H,Pv xs.length ys H->∀ p,H p=none->Q (.ref p) (upd H p (.lst ys))):tCompB2 (Ite K a) k js g tt te σ H Q:=by
 refine ⟨fun i m ys H=>m=xs.length-i/\i<=xs.length/\Pv i ys H,⟨xs.length,by simp,Qr _,h0⟩,?_⟩
 rintro i m ys H ⟨rfl,hi,p⟩
 have q:=hl i ys H hi p
 by_cases hlt:i<xs.length
 ·refine .inr ⟨⟨xs,xs[i],q,by simp [hlt]⟩,Pv (i+1),fun ys' H' p'=>⟨xs.length-(i+1),by omega,rfl,hlt,p'⟩,fun x H' y=>?_⟩
  obtain ⟨t,y,hy,hn,rfl,rfl⟩:=y
  exact hs i y ys _ t (hy xs q) p hn
 ·have e:i=xs.length:=by omega
  subst e
  exact .inl ⟨⟨xs,q,Qh _⟩,hd ys H p⟩
end
end L2
namespace L2
open PySem PySem.Spec PyProof.Rows
theorem noteFrame_frame {e:Value} {env env':Env} (h:env.frame=env'.frame):noteFrame e env=noteFrame e env':=by
 unfold noteFrame PySem.frameOf
 rw [h]
section
variable {M:Model} {A:Around} {E:Value->Shared->Prop} {s:Shared}
theorem note_any {base:Heap} {env:Env} {outer:List Env} {L e:Addr} {cls fl:Value} {dd:Option Addr} {cx:Option Value} {Q:Unit->Shared->Prop}
  (hfr:A.frames=some (env::outer)) (hf:env.frame=some L) (hkb:base.StaysIn s.heap) (hen:base.get? e=none) (hl:s.heap.FunFrames base (env::outer)) (ht:TrD s.heap base e cls fl dd cx)
  (h:∀ h',HeldD base (env::outer) e cls dd cx L h'->s.heap.UpToSlots h'->Q () { s with heap:=h' }):wpAny M A (noteFrame (.ref e) env) Q E s:=by
 by_cases hfl:fl=rawInt L
 ·subst hfl
  have ht0:=ht
  obtain ⟨oe,vs,T,oT,ts,he,_,hd,h1,hnT,hTe,hT,hdT,h3⟩:=ht
  unfold noteFrame
  simp only [hf]
  refine Qb (wpAny_field he hd h1 ?_)
  rw [if_pos (show (Value.ref T != Value.none)=true from by simp)]
  refine Qb (wpAny_field hT hdT h3 ?_)
  rw [if_pos (show ((rawInt L == rawInt L)=true) from by simp)]
  exact Qg (h s.heap ⟨hkb,hen,hl,ht0⟩ (Heap.UpToSlots.refl _))
 obtain ⟨oe,vs,T,oT,ts,he,⟨rfl,rfl,rfl⟩,hd,h1,hnT,hTe,hT,hdT,h3⟩:=ht
 unfold noteFrame
 simp only [hf]
 refine Qb (wpAny_field he hd h1 ?_)
 rw [if_pos (show (Value.ref T != Value.none)=true from by simp)]
 refine Qb (wpAny_field hT hdT h3 ?_)
 rw [if_neg (show ¬ ((fl == rawInt L)=true) from by simpa using hfl)]
 refine Qb (wpAny_setField hT hdT (Array.getElem?_eq_some_iff.mp h3).1 ?_)
 have other:∀ b,b≠T->(s.heap.update T (Obj.mapFields (·.setIfInBounds 3 Value.none))).get? b=s.heap.get? b:=fun b hb=>Heap.get?_update_other _ _ (Ne.symm hb)
 have rec':∀ b o,s.heap.get? b=some o->(∀ vs,o.data≠.fields vs)->b≠T:=fun b o hb hnf q=>by
  rw [q,hT] at hb;injection hb with hb;subst hb;exact hnf ts hdT
 refine noteEntry (s:={ s with heap:=s.heap.update T (Obj.mapFields (·.setIfInBounds 3 Value.none)) }) hfr (hl.of_keeps fun b o hb hnf=>⟨o,(other b (rec' b o hb hnf)).trans hb,rfl⟩) hf ((other e (Ne.symm hTe)).trans he)
  (fun b o hbo=>(other b fun q=>by rw [q,hnT] at hbo;cases hbo).trans (hkb b o hbo)) hen hd (Array.getElem?_eq_some_iff.mp h1).1
  fun h' x1 x2 x3 x4=>h h' ⟨x1,hen,x2,x3⟩ fun b o hb hnf=>x4 b o ((other b (rec' b o hb hnf)).trans hb) hnf
theorem leaves_anyD {base:Heap} {env:Env} {outer:List Env} {L e:Addr} {cls fl:Value} {dd:Option Addr} {cx:Option Value} {Q:Unit->Shared->Prop}
  (hfr:A.frames=some (env::outer)) (hf:env.frame=some L) (hkb:base.StaysIn s.heap) (hen:base.get? e=none) (hl:s.heap.FunFrames base (env::outer)) (ht:TrD s.heap base e cls fl dd cx)
  (h:∀ h',FlyD base outer e cls dd cx h'->s.heap.UpToSlots h'->Q () { s with heap:=h' }):wpAny M A (leaving env (.ref e)) Q E s:=by
 unfold leaving
 refine Qb (note_any hfr hf hkb hen hl ht fun h1 hh up=>?_)
 exact landsD (s:={ s with heap:=h1 }) hh fun h2 f2 up2=>h h2 f2.out (up.trans up2)
theorem set_flightD {base:Heap} {l:List Env} {e:Addr} {cls fl:Value} {dd:Option Addr} {cx:Option Value} {fr:Option Addr} {Q:Unit->Shared->Prop}
  (hkb:base.StaysIn s.heap) (hen:base.get? e=none) (hl:s.heap.FunFrames base l) (ht:TrD s.heap base e cls fl dd cx)
  (h:∀ h',base.StaysIn h'->h'.FunFrames base l->TrD h' base e cls (fr.elim .none fun f=>rawInt f) dd cx->s.heap.UpToSlots h'->Q () { s with heap:=h' }):wpAny M A (setFlight (.ref e) fr) Q E s:=by
 obtain ⟨oe,vs,T,oT,ts,he,hcls,hd,h1,hnT,hTe,hT,hdT,h3⟩:=ht
 have hsz3:3<ts.size:=(Array.getElem?_eq_some_iff.mp h3).1
 have other:∀ b,b≠T->(s.heap.update T (Obj.mapFields (·.setIfInBounds 3 (fr.elim Value.none fun f=>rawInt f)))).get? b=s.heap.get? b :=
  fun b hb=>Heap.get?_update_other _ _ (Ne.symm hb)
 have rec':∀ b o,s.heap.get? b=some o->(∀ vs,o.data≠.fields vs)->b≠T:=fun b o hb hnf q=>by
  rw [q,hT] at hb;injection hb with hb;subst hb;exact hnf ts hdT
 unfold setFlight
 refine Qb (wpAny_field he hd h1 ?_)
 rw [if_pos (show (Value.ref T != Value.none)=true from by simp)]
 refine wpAny_setField hT hdT hsz3 (h _ (fun b o hbo=>(other b fun q=>by rw [q,hnT] at hbo;cases hbo).trans (hkb b o hbo))
  (hl.of_keeps fun b o hb hnf=>⟨o,(other b (rec' b o hb hnf)).trans hb,rfl⟩) ?_ fun b o hb hnf=>⟨o.slots,(other b (rec' b o hb hnf)).trans hb⟩)
 exact ⟨oe,vs,T,_,_,(other e (Ne.symm hTe)).trans he,hcls,hd,h1,hnT,hTe,Heap.get?_update_self _ hT (Obj.isFreed_of_fields (Obj.data_mapFields hdT _)),Obj.data_mapFields hdT _,by simp [hsz3]⟩
theorem ff_but {h h' B B':Heap} {C:Addr} (sb:∀ b,b≠C->h'.get? b=h.get? b) (hB:∀ b,B.get? b=none->B'.get? b=none):∀ {l:List Env},h.FunFrames B l->C∉L2.frs l->h'.FunFrames B' l
 | [],_,_=>trivial
 | env::r,⟨hk,⟨L,o,hf,hn,ho,hd⟩,hr⟩,hc=>by
  have hc':C≠L/\C∉L2.frs r:=by
   refine ⟨fun z=>hc ?_,fun z=>hc ?_⟩
   ·show C∈List.filterMap _ _
    rw [z];simp [hf]
   ·show C∈List.filterMap _ _
    rw [List.filterMap_cons,hf]
    exact Qm _ z
  exact ⟨hk,⟨L,o,hf,hB _ hn,(sb L (Ne.symm hc'.1)).trans ho,hd⟩,ff_but sb hB hr hc'.2⟩
end
section
variable {X:Cx} {pins:List (Addr × Obj)} {σ:St} {H H':Hp} {s s':Shared} {B h'':Heap}
theorem lands3 (b:Body X) (I':Inv X pins σ H' s') (hB1:B.StaysIn s'.heap) (hB2:B.StaysIn h'') (up:s'.heap.UpToSlots h'') (fr:∀ c∈L2.frs X.stack,∃ o,s'.heap.get? c=some o/\∀ vs,o.data≠.fields vs)
  (inB:∀ c o,X.s₀.heap.get? c=some o->c∉X.fs->∃ o',B.get? c=some o') (inC:∀ x c,X.env.cells.lookup x=some c->∃ o',B.get? c=some o') (inP:∀ p∈X.pn++pins,∃ o',B.get? p.1=some o')
  (trk:∀ a o,H' a=some o->∃ ob,B.get? a=some ob):Inv X pins σ H' { s' with heap:=h'' }:=by
 have same:∀ c o,s'.heap.get? c=some o->(∃ o',B.get? c=some o')->h''.get? c=some o:=fun c o e ⟨o',eb⟩=>by
  have:=hB1 c o' eb
  rw [e] at this
  cases this
  exact hB2 c _ eb
 have fsub:∀ c∈X.fs,c∈L2.frs X.stack:=fun c hc=>by rw [b.frs];exact Qm _ hc
 refine ⟨I'.ok,I'.os,I'.bare,⟨fun c o q n hb hx=>same c o (I'.base.keep c o q n hb hx) (inB c o q hb),fun c o q n hb hx=>?_,I'.base.free,fun c o q hx=>?_,I'.base.tups,I'.base.frzs,I'.base.tbls⟩,?_,fun x c e=>?_,I'.free,I'.freeC,fun p hp=>?_,fun a o e=>?_,I'.len⟩
 ·obtain ⟨sl,e1⟩:=I'.base.slot c o q n hb hx
  obtain ⟨o1,e2,nd⟩:=fr c (fsub c hb)
  rw [e1] at e2
  cases e2
  obtain ⟨sl',e3⟩:=up c _ e1 nd
  exact ⟨sl',e3⟩
 ·by_cases hb:c∈X.fs
  ·obtain ⟨o1,e2,nd⟩:=fr c (fsub c hb)
   obtain ⟨sl',e3⟩:=up c _ e2 nd
   exact ⟨_,e3⟩
  ·obtain ⟨o',eb⟩:=inB c o q hb
   exact ⟨o',hB2 c o' eb⟩
 ·obtain ⟨m,hn,hl⟩:=I'.loc
  refine ⟨m,up.ns hn,fun i x v e1 e2 e3=>?_⟩
  obtain ⟨u,r,lk⟩:=hl i x v e1 e2 e3
  refine ⟨u,r,?_⟩
  rcases lk with z | ⟨k,c,ec,oc,hc,hd⟩
  ·exact .inl z
  ·exact .inr ⟨k,c,ec,oc,same c oc hc (inC x c ec),hd⟩
 ·obtain ⟨v1,o1,ho1,hd1⟩:=I'.cell x c e
  exact ⟨v1,o1,same c o1 ho1 (inC x c e),hd1⟩
 ·obtain ⟨e,n,ne,nf,d⟩:=I'.pin p hp
  exact ⟨same p.1 p.2 e (inP p hp),n,ne,nf,d⟩
 ·refine (I'.hok a o e).stay (fun c u hc q=>same c u q ?_) (fun _ q=>q) fun _ _ q=>q
  rcases hc with rfl | hc
  ·exact trk _ _ e
  ·exact trk _ _ hc
end
noncomputable def XOk (κ:Option Value->Prop) (X:Cx) (E:XK):Prop:=∀ (pins:List (Addr × Obj)) (σ:St) (H':Hp) (s':Shared) (ea:Addr) (cls:Value) (dd:Option Addr) (cx:Option Value) (B:Heap) (fl:Value),Inv X pins σ H' s'->κ cx ->
 B.StaysIn s'.heap->B.get? ea=none->s'.heap.FunFrames B X.stack->TrD s'.heap B ea cls fl dd cx->(∀ c o,X.s₀.heap.get? c=some o->c∉X.fs->∃ o',B.get? c=some o')->(∀ x c,X.env.cells.lookup x=some c->∃ o',B.get? c=some o') ->
 (∀ p∈X.pn++pins,∃ o',B.get? p.1=some o')->(∀ a o,H' a=some o->∃ ob,B.get? a=some ob)->E cls dd H'->X.xe (.ref ea) s'
section
variable {P:Program} {w:World} {K:PySem.W.Frag} {mg:Str->Option Value} {base:Heap} {N:List Str} {qual:Str} {scope:Scope} {f:Addr} {cd:Value} {A:Around} {outer:List Env} {s₀:Shared} {H₀:Hp} {E:XK}
theorem xok2 {κ:Option Value->Prop}:XOk κ (cxOf (CX2 κ P w) P w K mg base N qual scope f cd A outer s₀ H₀ E) E:=by
 intro pins σ H' s' ea cls dd cx B fl I hc hst hno ff tr inB inC inP trk q
 have bd:=body_cx (CX:=CX2 κ P w) (P:=P) (w:=w) (K:=K) (mg:=mg) (base:=base) (N:=N) (qual:=qual) (scope:=scope) (f:=f) (cd:=cd) (A:=A) (outer:=outer) (s₀:=s₀) (H₀:=H₀) (E:=E)
 refine leaves_anyD I.ok.frames rfl hst hno ff tr fun h'' fl'' up=>?_
 have J:=lands3 bd I hst fl''.1 up (frames_of ff) inB inC inP trk
 exact ⟨ea,cls,dd,cx,B,H',rfl,hc,fl'',inB,trk,J.os,J.bare,J.base,J.hok,q⟩
end
theorem cmp_loop2X {prog:Program} {w:World} {A:Around} {R:Result->Shared->Prop} {s:Shared} {elt iter:Expr} {tg:Expr} {ifs:List Expr} {sc:Scope} {pos:Pos} {it acc:Value} {env:Env} (J:Nat->Shared->Prop)
  (one:∀ k st,J k st->wpAny (model prog w) A (pyNext it) (fun r s₁=>match r with
   | none=>R (.ok .next) s₁
   | some v=>wpAny (model prog w) A (letOwnedTupleGo tg it v) (fun _ sg=>wpAny (model prog w) A (assign tg env v) (fun _ s₂ =>
     wpAny (model prog w) A (cmpTests ifs env) (fun ok s₃ =>
      if ok=true then wpAny (model prog w) A (eval elt env) (fun y s₄=>wpAny (model prog w) A (call (.builtin "list.append") [acc,y]) (fun _ s₅=>∃ m,m<k/\J m s₅) (fun _ _=>False) s₄) (notedBy (model prog w) A env fun e s'=>R (.error e) s') s₃
      else ∃ m,m<k/\J m s₃) (fun _ _=>False) s₂) (fun _ _=>False) sg) (fun _ _=>False) s₁) (fun _ _=>False) st)
  (k0:Nat) (h0:J k0 s):codeAny (model prog w) A (.compLoop (.ListComp elt [⟨tg,iter,ifs,0⟩] sc pos) 0 it acc env) R s:=by
 refine codeAny_loop rfl J (fun k st hk=>?_) k0 h0
 show wpAny _ A ((compTurn (.ListComp elt [⟨tg,iter,ifs,0⟩] sc pos) 0 it acc env).onRaise (fun y=>do noteFrame y env;theTreesLotGoes y)) _ _ st
 refine wpAny_noted ?_
 rw [compTurn_list]
 refine Qb (wpAny_standAt (Qb (QC (one k st hk) (fun r s₁ h₁=>?_) fun _ _ z=>z.elim)))
 cases r with
 | none=>exact Qg h₁
 | some v =>
  refine Qb (QC h₁ (fun _ sg hg=>?_) fun _ _ z=>z.elim)
  refine Qb (QC hg (fun _ s₂ h₂=>?_) fun _ _ z=>z.elim)
  refine Qb (QC h₂ (fun ok s₃ h₃=>?_) fun _ _ z=>z.elim)
  cases ok with
  | false=>exact Qg ⟨rfl,h₃⟩
  | true =>
   refine Qb (Qb (QC h₃ (fun y s₄ h₄=>?_) fun _ _ z=>z))
   exact Qb (QC h₄ (fun _ s₅ h₅=>Qg (Qg ⟨rfl,h₅⟩)) fun _ _ z=>z.elim)
section
variable {X:Cx} {pins:List (Addr × Obj)} {σ:St} {H2:Hp} {s2:Shared} {elt iter tg:Expr} {xs:List Str} {ifs:List Expr} {sc scX:Scope} {pos:Pos} {fv:List Str} {js:List Nat} {g:TG} {tt:TT}
theorem comp_core2X {κ:Option Value->Prop} {te:XK->TE} {E:XK} (bd:Body X) (hX:XOk κ X E) (S:CompSc2 scX sc X.N xs fv js) (hsx:X.env.scope=scX) (hcalm:X.calm=true) (hgg:∀ C s0 H0 ex,PG (xc2 X sc xs fv C s0 H0 ex) tg g)
  (ht:∀ C s0 H0 ex,PIf (xc2 X sc xs fv C s0 H0 ex) ifs tt) (he:∀ C s0 H0 ex,PEX (CX2 κ X.prog X.w) (xc2 X sc xs fv C s0 H0 ex) elt te)
  {it:Addr} {fp:List Addr} {tn:Nat->Heap->Prop} {J:It} (I2:Inv X pins σ H2 s2) (T:Turn X.prog X.w X.K tg J fp it tn) (st2:tn 0 s2.heap) (f2:∀ b∈fp,FpOk X pins H2 b)
  {Q:VK} {W:Nat->Nat->List V->Hp->Prop} (w0:∃ m,W 0 m [] H2)
  (step:∀ i m ys H,W i m ys H->(J.stop i H/\∀ p,H p=none->Q (.ref p) (upd H p (.lst ys))) ∨
   (J.go i H/\∃ N:List V->Hp->Prop,(∀ ys' H',N ys' H'->∃ m',m'<m/\W (i+1) m' ys' H') /\
    ∀ x H',J.yld i H x H'->tStep2 xs.length js g tt (te E) σ ys N x H'))
  {RR:Value->Addr->Result->Shared->Prop} {E':Value->Shared->Prop}
  (fin:∀ (D C:Addr) (s':Shared) (H':Hp),Inv X pins σ H' s'->Q (.ref D) H'->(∃ m,s'.heap.Ns C m)->FpOk X pins H' C->RR (.ref D) C (.ok .next) s')
  (xfin:∀ (D C:Addr) (e:Value) (s':Shared),(∃ m,s'.heap.Ns C m/\∀ h',Heap.SameBut C s'.heap h'->∀ cenv:Env,cenv.locals=C->wpAny (model X.prog X.w) X.A (PySem.passOn "comprehension.variables-let-go" e cenv:Sem Value) (fun _ _=>False) X.xe { s' with heap:=h' })->RR (.ref D) C (.error e) s') :
  wpAny (model X.prog X.w) X.A (newList []) (fun acc s₃=>wpAny (model X.prog X.w) X.A (newFunctionEnv sc X.env.globals (clOf X.env.cells sc.names []) [] X.env.qual none .none (some X.env)) (fun cenv s₄ =>
   codeAny (model X.prog X.w) X.A (.compStart (.ListComp elt [⟨tg,iter,ifs,0⟩] sc pos) 0 (.ref it) acc { cenv with scope:=relabel sc X.env }) (RR acc cenv.locals) s₄) E' s₃) E' s2:=by
 have hfree:∀ y∈sc.names,y.2=.free->∃ c,X.env.cells.lookup y.1=some c:=fun y hy hf=>I2.ok.has y.1 (.inl (by show X.env.scope.names.lookup y.1=_;rw [hsx];exact S.free y hy hf))
 obtain ⟨cl1,_,cl3⟩:=clOf_look (cells:=X.env.cells) sc.names [] hfree (fun y c h=>by simp at h)
 refine wpAny_newObj_type (wpAny_newFunctionEnv S.cell (by intro y hy;simp at hy) (fun h₁ hns₁ hsb₁=>?_) S.kind)
 dsimp only at hns₁ hsb₁ ⊢
 generalize hG:s2.heap.push { cls:=.type "list",dict:=none,data:=.seq ([]:List Value).toArray }=G at hns₁ hsb₁ ⊢
 have hGz:G.objs.size=s2.heap.objs.size+1:=by rw [<- hG,Heap.size_push]
 have upG:∀ b o,s2.heap.get? b=some o->G.get? b=some o:=fun b o e=>hG ▸ Qf _ e
 have upH:∀ b o,G.get? b=some o->h₁.get? b=some o:=fun b o e=>hsb₁.extBut b o (Qw (Qn e)) (Qf _ e)
 have ltD:∀ b o,s2.heap.get? b=some o->b≠s2.heap.objs.size:=fun b o e=>Qw (Qn e)
 have fpo:∀ b∈fp,∃ o,s2.heap.get? b=some o:=fun b hb=>by obtain ⟨o,e,_⟩:=T.obj 0 _ st2 b hb;exact ⟨o,e⟩
 have fpD:∀ b∈fp,b≠s2.heap.objs.size:=fun b hb=>by obtain ⟨o,e⟩:=fpo b hb;exact ltD b o e
 have fpC:∀ b∈fp,b≠G.objs.size:=fun b hb=>by obtain ⟨o,e⟩:=fpo b hb;exact Qw (Qn (upG b o e))
 have cellO:∀ y c,(clOf X.env.cells sc.names []).lookup y=some c->∃ v,s2.heap.IsCell c v:=fun y c e=>I2.cell y c (cl1 y c e)
 have cellD:∀ y c,(clOf X.env.cells sc.names []).lookup y=some c->c≠s2.heap.objs.size:=fun y c e=>by obtain ⟨v,q⟩:=cellO y c e;exact Qw q.lt
 have Dfs:s2.heap.objs.size∉frs X.stack:=fun hb=>by
  rcases Qi (I2.stkSub _ hb) with z | z
  ·exact absurd I2.lt (by rw [<- z];exact Nat.lt_irrefl _)
  ·exact I2.nofs (Qh _) z
 have fpfs:∀ b∈fp,b∉frs X.stack:=fun b hb hz=>by
  obtain ⟨_,f1,f2',_⟩:=f2 b hb
  rcases Qi (I2.stkSub _ hz) with z | z
  ·exact f1 z
  ·exact f2' z
 have HD:H2 s2.heap.objs.size=none:=I2.hok.fresh (Qh _)
 have HC:H2 G.objs.size=none:=I2.hok.fresh (by rw [hGz];exact Nat.le_succ _)
 have DC:s2.heap.objs.size≠G.objs.size:=by rw [hGz];exact Qw (Nat.lt_succ_self _)
 have okC:Cx.Ok (xc2 X sc xs fv G.objs.size { s2 with heap:=G } H2 (s2.heap.objs.size::fp)):=by
  refine ⟨I2.ok.mod,S.kind,I2.ok.glob,I2.ok.blt,Qh _,fun y z c h1 h2=>I2.ok.inj y z c (cl1 _ _ h1) (cl1 _ _ h2),fun y hy=>?_,fun y c hfn _=>(by cases hfn),I2.ok.hd,I2.ok.frames,.inl rfl,fun b hb=>?_,fun b o e=>?_,?_,fun b o e hb=>?_,fun b hb=>?_,?_,I2.stkFree⟩
  ·exact Option.isSome_iff_exists.mp (cl3 y (relabel_back S.cell hy))
  ·rcases Qi hb with z | z
   ·subst z;exact ⟨DC,cellD⟩
   ·refine ⟨fpC b z,fun y c e=>?_⟩
    obtain ⟨_,_,_,_,f4,_⟩:=f2 b z
    exact f4 y c (cl1 y c e)
  ·exact ⟨upG b o (I2.bs b o e).1,(I2.bs b o e).2⟩
  ·show X.base.objs.size<=G.objs.size
   rw [hGz];exact Nat.le_succ_of_le (QA I2.ok.bsz I2.sz)
  ·rcases Qi hb with z | z
   ·exact ltD b o (I2.bk b o e) z
   ·obtain ⟨_,_,_,f3,_⟩:=f2 b z
    rcases f3 with q | q
    ·exact I2.ok.noex b o e q
    ·exact absurd (Nat.lt_of_lt_of_le (Qn e) (QA I2.ok.bsz q)) (Nat.lt_irrefl _)
  ·rcases Qi hb with z | z
   ·subst z;exact Dfs
   ·exact fpfs b z
  ·exact (I2.stack).of_keeps fun b o e _=>⟨o,upG b o e,rfl⟩
 have lenC:∀ os:List (Option V),os.length=xs.length->(os++pick js σ).length=(xs++fv).length:=fun os ho=>by
  have:=congrArg List.length S.at'
  simp only [Qd] at this
  simp [pick,this,ho]
 have hacc:h₁.get? s2.heap.objs.size=some { cls:=.type "list",dict:=none,data:=.seq ([]:List Value).toArray }:=upH _ _ (hG ▸ Qs _ rfl)
 have I4:Inv (xc2 X sc xs fv G.objs.size { s2 with heap:=G } H2 (s2.heap.objs.size::fp)) [(s2.heap.objs.size,{ cls:=.type "list",dict:=none,data:=.seq ([]:List Value).toArray })] (xs.map (fun _=>none)++pick js σ) H2 { s2 with heap:=h₁,toks:=s2.toks+([]:List (Str × Value)).length }:=by
  refine ⟨okC,rfl,I2.bare,Un.kept upH,⟨_,hns₁,fun i y v e1 e2 e3=>?_⟩,fun y c e=>?_,HC,fun y c e=>I2.freeC y c (cl1 y c e),fun p hp=>?_,I2.hok.kept fun b u e=>upH b u (upG b u e),lenC _ (by simp)⟩
  ·by_cases hix:i<xs.length
   ·have:(xs.map (fun _=>(none:Option V))++pick js σ)[i]?=some none:=by
     rw [Qv (by simpa using hix),Qk,Qa hix];rfl
    rw [this] at e2
    cases e2
   ·obtain ⟨i',rfl⟩:∃ i',i=xs.length+i':=⟨i-xs.length,by omega⟩
    have e1':fv[i']?=some y:=by
     have e1a:(xs++fv)[xs.length+i']?=some y:=e1
     rw [Qq (by omega),Nat.add_sub_cancel_left] at e1a
     exact e1a
    have e2':(pick js σ)[i']?=some (some v):=by
     have e2a:=e2
     rw [Qq (by simp),Qd,Nat.add_sub_cancel_left] at e2a
     exact e2a
    have q:=congrArg (fun l=>l[i']?) S.at'
    simp only [Qk,e1',Option.map_some] at q
    cases hj:js[i']? with
    | none=>rw [hj] at q;cases q
    | some j =>
     rw [hj] at q
     have hj':X.N[j]?=some y:=Ql q
     unfold pick at e2'
     rw [Qk,hj] at e2'
     have e2'':(σ[j]?).getD none=some v:=Ql e2'
     have e2b:σ[j]?=some (some v):=by
      cases hh:σ[j]? with
      | none=>rw [hh] at e2'';cases e2''
      | some o=>rw [hh] at e2'';exact congrArg some e2''
     have hm:y∈fv:=Qz e1'
     have hcX:scX.names.lookup y=some .cell:=S.free (y,.free) (PySem.mem_of_lookup (S.fr y hm)) rfl
     have kX:X.env.kindOf y=some .cell:=by show X.env.scope.names.lookup y=_;rw [hsx];exact hcX
     obtain ⟨m,hn,hl⟩:=I2.loc
     obtain ⟨u,r,lk⟩:=hl j y v hj' e2b (.inr (.inl kX))
     refine ⟨u,r,?_⟩
     rcases lk with ⟨k,_⟩ | ⟨_,c,ec,z⟩
     ·rw [kX] at k;cases k
     ·refine .inr ⟨.inl (relabel_free (by rw [hsx];exact S.kindX) (S.fr y hm) kX),c,?_,?_⟩
      ·obtain ⟨c',ec'⟩:=Option.isSome_iff_exists.mp (cl3 y (PySem.mem_of_lookup (S.fr y hm)))
       have:=cl1 y c' ec'
       rw [ec] at this;cases this
       exact ec'
      ·obtain ⟨o,ho,hd⟩:=z
       exact ⟨o,upH c o (upG c o ho),hd⟩
  ·obtain ⟨v,o,ho,hd⟩:=cellO y c e
   exact ⟨v,o,upH c o (upG c o ho),hd⟩
  ·have hp':p=(s2.heap.objs.size,{ cls:=.type "list",dict:=none,data:=.seq ([]:List Value).toArray }):=by simpa using hp
   subst hp'
   exact ⟨hacc,HD,DC,Dfs,fun v z=>by cases z⟩
 have loop:codeAny (model X.prog X.w) X.A (.compLoop (.ListComp elt [⟨tg,iter,ifs,0⟩] sc pos) 0 (.ref it) (.ref s2.heap.objs.size) (compEnvC sc (clOf X.env.cells sc.names []) G.objs.size X.env)) (RR (.ref s2.heap.objs.size) G.objs.size) { s2 with heap:=h₁,toks:=s2.toks+([]:List (Str × Value)).length }:=by
  obtain ⟨m0,w0⟩:=w0
  have fok:∀ {H':Hp} {o:Obj},(∀ b∈fp,H' b=none)->∀ b∈fp,FpOk (xc2 X sc xs fv G.objs.size { s2 with heap:=G } H2 (s2.heap.objs.size::fp)) [(s2.heap.objs.size,o)] H' b:=fun {H' o} hn b hb=>by
   refine ⟨hn b hb,fpC b hb,fpfs b hb,.inl (Qm _ hb),fun y c e=>?_,fun p hp=>?_⟩
   ·obtain ⟨_,_,_,_,f4,_⟩:=f2 b hb
    exact f4 y c (cl1 y c e)
   ·have hp':p=(s2.heap.objs.size,o):=by simpa using hp
    subst hp'
    exact (fpD b hb).symm
  refine cmp_loop2X (fun k st=>∃ (i:Nat) (ys:List V) (its:List Value) (n:Nat) (os:List (Option V)) (H':Hp),os.length=xs.length/\Inv (xc2 X sc xs fv G.objs.size { s2 with heap:=G } H2 (s2.heap.objs.size::fp)) [(s2.heap.objs.size,{ cls:=.type "list",data:=.seq its.toArray n })] (os++pick js σ) H' st /\
   Vals ys its/\ys.length<=sizeLine/\tn i st.heap/\(∀ b∈fp,H' b=none)/\W i k ys H') ?_ m0
   ⟨0,[],[],_,xs.map (fun _=>none),H2,by simp,I4,.nil,Qr _,T.keep _ _ _ st2 fun b _ o e=>upH b o (upG b o e),fun b hb=>(f2 b hb).1,w0⟩
  rintro k s3 ⟨i,ys,its,n,os,H3,hos,I3,rv,hz,st3,fr3,w3⟩
  rcases step i k ys H3 w3 with ⟨stop,q⟩ | ⟨go,N,hN,hgo⟩
  ·refine thn (T.done (xc2 X sc xs fv G.objs.size { s2 with heap:=G } H2 (s2.heap.objs.size::fp)) rfl rfl rfl hcalm i _ s3 _ H3 _ I3 (fok fr3) st3 stop) fun r s4 hsl69=>?_
   obtain ⟨hr,I4⟩:=hsl69
   subst hr
   obtain ⟨pD,pn,_,_,_⟩:=I4.pin _ (List.mem_append_right _ Qp)
   have B:=I4.base
   have nD:∀ b o,s2.heap.get? b=some o->b∉fp->b∉s2.heap.objs.size::fp:=fun b o e hx hm=>(Qi hm).elim (ltD b o e) hx
   have neH:∀ b u,H2 b=some u->b≠s2.heap.objs.size:=fun b u e z=>by rw [z,HD] at e;cases e
   have JX:Inv X pins σ (upd H3 s2.heap.objs.size (.lst ys)) s4:=by
    refine I2.call' (ch:=fp) I4.os ⟨fun b o e hn hb hx=>B.keep b o (upG b o e) hn hb (nD b o e hx),fun b o e hn hb hx=>B.slot b o (upG b o e) hn hb (nD b o e hx),fun b o e hn hx=>?_,fun b o e hx=>B.there b o (upG b o e) (nD b o e hx),fun b xs e=>?_,fun b o u e=>?_,fun b ps e=>?_⟩ (fun b u e=>?_) I4.bare fun b hb=>?_
    ·rw [upd_ne (ltD b o e)];exact B.free b o (upG b o e) hn (nD b o e hx)
    ·rw [upd_ne (neH b _ e)];exact B.tups b xs e
    ·rw [upd_ne (neH b _ e)];exact B.frzs b o u e
    ·rw [upd_ne (neH b _ e)];exact B.tbls b ps e
    ·by_cases hb:b=s2.heap.objs.size
     ·subst hb
      rw [upd_same] at e;cases e
      exact ⟨hz,its,n,rv,pD⟩
     ·rw [upd_ne hb] at e
      exact (I4.hok b u e).stay (fun _ _ _ z=>z) (fun c z=>by rw [upd_ne (ne_of_none z pn)];exact z) fun c xs z=>by rw [upd_ne (ne_of_none z pn)];exact z
    ·obtain ⟨_,f1,_,f3,f4,f5⟩:=f2 b hb
     exact ⟨f3,f1,f4,f5⟩
   refine fin _ _ s4 _ JX (q _ pn) (by obtain ⟨m,hm,_⟩:=I4.loc;exact ⟨m,hm⟩) (I2.fpOk (by rw [hGz];exact Nat.le_succ _) ?_)
   rw [upd_ne DC.symm];exact I4.free
  ·refine thn (T.item (xc2 X sc xs fv G.objs.size { s2 with heap:=G } H2 (s2.heap.objs.size::fp)) rfl rfl rfl hcalm i _ s3 _ H3 _ I3 (fok fr3) st3 go) fun r s4 hsl70=>?_
   obtain ⟨u,hr,h4⟩:=hsl70
   subst hr
   refine thn h4 fun _ s5 hsl71=>?_
   obtain ⟨y,H5,I5,r5,y5,st5,fr5⟩:=hsl71
   have I5':=I5.pinned (fok fr5) (T.obj _ _ st5)
   refine thn (hgg _ _ _ _ _ s5 _ H5 y u _ I5' r5 (hgo y _ y5 os hos)) fun _ s6 hsl72=>?_
   obtain ⟨σ6,H6,I6,⟨os',hos',eσ⟩,q6⟩:=hsl72
   subst eσ
   refine thn (ht _ _ _ _ _ s6 _ _ _ I6 q6) fun b s7 hsl73=>?_
   obtain ⟨H7,I7,q7⟩:=hsl73
   cases b with
   | false =>
    rw [if_neg Bool.false_ne_true] at q7 ⊢
    obtain ⟨m',hm,w7⟩:=hN ys H7 q7
    exact ⟨m',hm,i+1,ys,its,n,os',H7,hos',I7.unpinned,rv,hz,T.keep _ _ _ st5 fun b hb o e=>(I7.pin (b,o) (List.mem_append_right _ (List.mem_append_right _ (mem_pinsAt hb e)))).1,fun b hb=>by
     obtain ⟨o,e,d⟩:=T.obj _ _ st5 b hb
     exact (I7.pin (b,o) (List.mem_append_right _ (List.mem_append_right _ (mem_pinsAt hb e)))).2.1,w7⟩
   | true =>
    rw [if_pos rfl] at q7 ⊢
    refine QC (he _ _ _ _ E _ _ s7 _ H7 _ (fun Ha sa ev s' Ia hc=>?_) I7 q7) (fun u8 s8 ⟨y8,H8,I8,r8,hl8,q8⟩=>?_) fun _ _ z=>z
    ·obtain ⟨ea,cls,dd,cx,B,H',rfl,hκ,fl,pres,trk,os,bare,un,hok,q⟩:=hc
     have Bb:=Ia.base
     have nD:∀ b o,s2.heap.get? b=some o->b∉fp->b∉s2.heap.objs.size::fp:=fun b o e hx hm=>(Qi hm).elim (ltD b o e) hx
     have JX:Inv X pins σ Ha sa:=by
      refine I2.call' (ch:=fp) Ia.os ⟨fun b o e hn hb hx=>Bb.keep b o (upG b o e) hn hb (nD b o e hx),fun b o e hn hb hx=>Bb.slot b o (upG b o e) hn hb (nD b o e hx),fun b o e hn hx=>Bb.free b o (upG b o e) hn (nD b o e hx),fun b o e hx=>Bb.there b o (upG b o e) (nD b o e hx),Bb.tups,Bb.frzs,Bb.tbls⟩ Ia.hok Ia.bare fun b hb=>?_
      obtain ⟨_,f1,_,f3,f4,f5⟩:=f2 b hb
      exact ⟨f3,f1,f4,f5⟩
     have J8:Inv X pins σ H' s':=JX.call' os un hok bare fun c hc=>absurd hc (by simp)
     have Ic:=Ia.call' os un hok bare fun c hc=>absurd hc (by simp)
     have Cfs:G.objs.size∉L2.frs X.stack:=fun hb=>by
      rcases Qi (I2.stkSub _ hb) with z | z
      ·exact absurd I2.lt (by rw [<- z,hGz];exact Nat.not_lt.mpr (Nat.le_succ _))
      ·exact I2.nofs (by rw [hGz];exact Nat.le_succ _) z
     have CB:∃ o',B.get? G.objs.size=some o':=by
      obtain ⟨m,⟨o,_,_,eo,_⟩,_⟩:=Ia.loc
      exact pres _ o eo Cfs
     have inB:∀ c o,X.s₀.heap.get? c=some o->c∉X.fs->∃ o',B.get? c=some o':=fun c o e hc=>by
      obtain ⟨o1,e1⟩:=JX.base.there c o e (by rw [bd.ex];simp)
      exact pres c o1 e1 (bd.old JX e hc)
     have inC:∀ x c,X.env.cells.lookup x=some c->∃ o',B.get? c=some o':=fun x c e=>by
      obtain ⟨_,o0,ho0,_⟩:=JX.cell x c e
      exact pres c o0 ho0 (bd.cell JX e)
     have inP:∀ p∈X.pn++pins,∃ o',B.get? p.1=some o':=fun p hp=>by
      obtain ⟨e0,_,ne,nf,_⟩:=JX.pin p hp
      refine pres p.1 p.2 e0 ?_
      rw [bd.frs]
      intro hm
      rcases Qi hm with z | z
      ·exact ne z
      ·exact nf z
     have fr:X.A.frames=some (X.env::X.outer):=by rw [<- bd.stk];exact I2.ok.frames
     have fl0:FlyD B (X.env::X.outer) ea cls dd cx s'.heap:=by rw [<- bd.stk];exact fl
     show wpAny _ _ (noteFrame (.ref ea) (compEnvC sc (clOf X.env.cells sc.names []) G.objs.size X.env)) _ _ s'
     rw [noteFrame_frame (env:=compEnvC sc (clOf X.env.cells sc.names []) G.objs.size X.env) (env':=X.env) rfl]
     refine note_on fr bd.frm fl0 fun h1 held up1=>?_
     have J9:=lands3 bd J8 fl.1 held.1 up1 (frames_of fl.2.2.1) inB inC inP trk
     refine xfin _ _ _ _ ?_
     obtain ⟨m,hm,_⟩:=Ic.loc
     refine ⟨m,up1.ns hm,fun h' sb cenv _=>?_⟩
     have HC':H' G.objs.size=none:=Ic.free
     obtain ⟨f0,f1,_,f3,f4,f5⟩:=I2.fpOk (H':=H') (b:=G.objs.size) (by rw [hGz];exact Nat.le_succ _) HC'
     have J10:=J9.turned (it:=G.objs.size) (h':=h') (t':=s'.toks) (fun b o hb e=>(sb.2 b hb).trans e) f0 f1 f3 f4 f5
     obtain ⟨oC,hoC⟩:=CB
     have toB:∀ b o,b≠G.objs.size->B.get? b=some o->(PySem.W.hideAll B [G.objs.size]).get? b=some o:=fun b o hb e=>PySem.W.hideAll_get _ e (by simpa using hb)
     have ofB:∀ b o,(PySem.W.hideAll B [G.objs.size]).get? b=some o->b≠G.objs.size/\B.get? b=some o:=fun b o e=>⟨fun z=>(by rw [z,PySem.W.hideAll_none _ Qp] at e;cases e),PySem.W.of_hideAll _ e⟩
     have noB:∀ b,B.get? b=none->(PySem.W.hideAll B [G.objs.size]).get? b=none:=fun b hb=>by
      cases z:(PySem.W.hideAll B [G.objs.size]).get? b with
      | none=>rfl
      | some o=>have:=(ofB b o z).2;rw [hb] at this;cases this
     have neB:∀ b,B.get? b=none->b≠G.objs.size:=fun b hb z=>by rw [z,hoC] at hb;cases hb
     have st':(PySem.W.hideAll B [G.objs.size]).StaysIn h':=fun b o e=>(sb.2 b (ofB b o e).1).trans (held.1 b o (ofB b o e).2)
     have ff':h'.FunFrames (PySem.W.hideAll B [G.objs.size]) X.stack:=ff_but (fun b hb=>sb.2 b hb) noB (by rw [bd.stk];exact held.2.2.1) Cfs
     have tr':TrD h' (PySem.W.hideAll B [G.objs.size]) ea cls (rawInt X.env.locals) dd cx:=by
      obtain ⟨oe,vs,T,oT,ts,he,hcls,hd,h1',hnT,hTe,hT,hdT,h3⟩:=held.2.2.2
      exact ⟨oe,vs,T,oT,ts,(sb.2 _ (neB _ held.2.1)).trans he,hcls,hd,h1',noB _ hnT,hTe,(sb.2 _ (neB _ hnT)).trans hT,hdT,h3⟩
     have inB':∀ c o,X.s₀.heap.get? c=some o->c∉X.fs->∃ o',(PySem.W.hideAll B [G.objs.size]).get? c=some o':=fun c o e hc=>by
      obtain ⟨o',e'⟩:=inB c o e hc
      obtain ⟨o2,e2⟩:=I2.base.there c o e (by rw [bd.ex];simp)
      exact ⟨o',toB c o' (by have:=Qn e2;rw [hGz];exact Qw (Nat.lt_succ_of_lt this)) e'⟩
     have inC':∀ x c,X.env.cells.lookup x=some c->∃ o',(PySem.W.hideAll B [G.objs.size]).get? c=some o':=fun x c e=>by
      obtain ⟨o',e'⟩:=inC x c e
      exact ⟨o',toB c o' (f4 x c e) e'⟩
     have inP':∀ p∈X.pn++pins,∃ o',(PySem.W.hideAll B [G.objs.size]).get? p.1=some o':=fun p hp=>by
      obtain ⟨o',e'⟩:=inP p hp
      exact ⟨o',toB p.1 o' (f5 p hp) e'⟩
     have trk':∀ a o,H' a=some o->∃ ob,(PySem.W.hideAll B [G.objs.size]).get? a=some ob:=fun a o e=>by
      obtain ⟨o',e'⟩:=trk a o e
      exact ⟨o',toB a o' (fun z=>by rw [z,HC'] at e;cases e) e'⟩
     have trx:=tr'
     obtain ⟨oe,vs,T,oT,ts,he,hcls,hd,h1',hnT,hTe,hT,hdT,h3⟩:=trx
     unfold PySem.passOn
     refine Qb (wpAny_field he hd h1' ?_)
     rw [if_neg (show ¬ ((Value.ref T == Value.none)=true) from by simp)]
     refine Qb (set_flightD (s:={ s' with heap:=h' }) st' (noB _ held.2.1) ff' tr' fun h3 st3 ff3 tr3 up3=>wpAny_throw ?_)
     have J11:=lands3 bd J10 st' st3 up3 (frames_of ff') inB' inC' inP' trk'
     exact hX pins σ H' _ ea cls dd cx _ _ J11 hκ st3 (noB _ held.2.1) ff3 tr3 inB' inC' inP' trk' q
    obtain ⟨m',hm,w8⟩:=hN _ H8 q8
    obtain ⟨pD,pn,pC,pf,_⟩:=I8.pin _ (List.mem_append_right _ (List.mem_append_left _ Qp))
    refine wpAny_list_append_plain (items:=its.toArray) ⟨n,pD⟩ (fun h9 hl9 sb9=>?_) (by rw [Qt,<- rv.length];exact Nat.le_of_lt hl8)
    have pinF:∀ p∈pinsAt fp s5.heap,p∈[(s2.heap.objs.size,({ cls:=.type "list",data:=.seq its.toArray n }:Obj))]++pinsAt fp s5.heap:=fun p hp=>List.mem_append_right _ hp
    have I8a:=I8.pins_of (pins':=pinsAt fp s5.heap) fun p hp=>I8.pin p (List.mem_append_right _ (pinF p hp))
    have I9:=I8a.turned (it:=s2.heap.objs.size) (h':=h9) (t':=s8.toks) (fun b o hb e=>(sb9.2 b hb).trans e) pn DC (.inl Qp) (fun y c e=>cellD y c e) fun p hp=>fpD p.1 (of_pinsAt (by simpa using hp)).1
    obtain ⟨n9,e9⟩:=hl9
    have e9':h9.get? s2.heap.objs.size=some { cls:=.type "list",data:=.seq (its++[u8]).toArray n9 }:=by
     rw [e9,show (its++[u8]).toArray=its.toArray.push u8 by simp]
    refine ⟨m',hm,i+1,ys++[y8],its++[u8],n9,os',H8,hos',I9.pins_of fun p hp=>?_,rv.append (.cons r8 .nil),by rw [Qj];exact hl8,T.keep _ _ _ st5 fun b hb o e=>(I9.pin (b,o) (List.mem_append_right _ (mem_pinsAt hb e))).1,fun b hb=>?_,w8⟩
    ·have hp':p=(s2.heap.objs.size,{ cls:=.type "list",data:=.seq (its++[u8]).toArray n9 }):=by simpa using hp
     subst hp'
     exact ⟨e9',pn,DC,pf,fun v z=>by cases z⟩
    ·obtain ⟨o,e,d⟩:=T.obj _ _ st5 b hb
     exact (I9.pin (b,o) (List.mem_append_right _ (mem_pinsAt hb e))).2.1
 exact codeAny_compStart_list loop (T.self _ 0 _ _ _ (T.keep _ _ _ st2 fun b _ o e=>upH b o (upG b o e)) loop)
end
end L2
namespace L2
open PySem PySem.Spec PyProof.Rows
section
variable {X:Cx} {elt iter tg:Expr} {xs:List Str} {ifs:List Expr} {sc:Scope} {pos:Pos} {g:TG} {tt:TT}
theorem ps_setcomp2X {κ:Option Value->Prop} {te:XK->TE} {E:XK} {wi:TI} {i:Nat} {y:Str} {py spos:Pos} (bd:Body X) (hX:XOk κ X E) (scX:Scope) (NX fv:List Str) (js:List Nat) (hNX:X.N=NX) (S:CompSc2 scX sc NX xs fv js) (hsx:X.env.scope=scX) (hcalm:X.calm=true) (hi:PI X tg iter wi) (hgg:∀ C s0 H0 ex,PG (xc2 X sc xs fv C s0 H0 ex) tg g)
  (ht:∀ C s0 H0 ex,PIf (xc2 X sc xs fv C s0 H0 ex) ifs tt) (he:∀ C s0 H0 ex,PEX (CX2 κ X.prog X.w) (xc2 X sc xs fv C s0 H0 ex) elt te)
  (hN:X.N.Nodup) (hy:X.N[i]?=some y) (hl:X.env.scope.names.lookup y=some .local) (hsw:swapsWith (.ListComp elt [⟨tg,iter,ifs,0⟩] sc pos) (some (.Name y py)) spos.line X.env=pure true)
  (hs:∀ v,foldedSetIterable iter X.env v=pure v:=by intro _;rfl):PS X (.Assign [.Name y py] (.ListComp elt [⟨tg,iter,ifs,0⟩] sc pos) spos) (tAsg (tComp2 wi xs.length js g tt (te E)) (gName i)):=by
 intro pins s σ H D I h
 rw [<- hNX] at S
 have hfree:∀ y∈sc.names,y.2=.free->∃ c,X.env.cells.lookup y.1=some c:=fun y hy hf=>I.ok.has y.1 (.inl (by show X.env.scope.names.lookup y.1=_;rw [hsx];exact S.free y hy hf))
 rw [exec_Assign_Name_used _ _ _ _ hsw]
 refine Qb (wpAny_standAt (Qb ?_))
 show wpAny _ _ (do let _ <- comprehension (.ListComp elt [⟨tg,iter,ifs,0⟩] sc pos) sc X.env _ (newList []) false (eval iter X.env) (some (assign (.Name y py) X.env))) _ _ s
 refine Qb (QC (wpAny_comprehension_free (use:=some (assign (.Name y py) X.env)) (Q:=fun _ st=>SP X pins D .next st) rfl hs (closure_eq hfree) S.kind S.names
  (thn (hi pins s σ H _ I h) fun v s1 h1=>thn h1 fun itv s2 h2=>?_)) (fun _ st hq=>Qg (Qg hq)) fun _ _ e=>e)
 obtain ⟨it,fp,tn,J,H2,e,I2,T,st2,f2,W,w0,step⟩:=h2
 subst e
 refine comp_core2X (E':=X.xe) bd hX (Q:=fun v H1=>gName i v σ H1 D.nx) (RR:=fun acc C=>compPost (model X.prog X.w) X.A X.xe (some (assign (.Name y py) X.env)) (fun _ st=>SP X pins D .next st) acc C) S hsx hcalm hgg ht he I2 T st2 f2 w0 step (fun Dl C s' H' I' q hsl74 hC=>?_) fun D C e s' h=>h
 obtain ⟨m,hm⟩:=hsl74
 obtain ⟨f0,f1,_,f3,f4,f5⟩:=hC
 refine wpAny_assign_Name (store_ok2 I' hN hy (.inl hl) (show RelV (.ref Dl) (.ref Dl) from rfl) (fun s'' I'' hsl75=>?_) (.inr hl))
 obtain ⟨a,sb,ha⟩:=hsl75
 have aC:C≠a:=fun z=>by
  rcases ha with ha | ha
  ·exact f1 (z.trans ha)
  ·exact f4 y a ha z.symm
 refine ⟨m,hm.sameBut sb aC,fun h' sb'=>?_⟩
 exact ⟨_,_,I''.turned (t':=s''.toks) (fun b o hb e=>(sb'.2 b hb).trans e) f0 f1 f3 f4 f5,q⟩
end
end L2
namespace L2
open PySem PySem.Spec PyProof.Rows
section
variable {prog:Program} {w:World} {K:Type} [DecidableEq K] {knd:HeapKind prog w K} {A:Around} {E:Value->Shared->Prop} {s:Shared} {d:Addr} {xs:List (K × Addr × Value)}
theorem meets_lenH (knd:HeapKind prog w K) (d:Addr) (hd:(d == sysModules)=false) :
  MeetsIn prog w (Builtin.«dict.__len__» ⟨[.ref d],[]⟩) (fun _ R s=>∃ xs,s.heap.DictOfH knd d xs/\R (.ok (.ret (.int xs.length s.toks))) { s with toks:=s.toks+1 }) :=
 .of_wp fun A R s ⟨xs,hm,h⟩=>by
  obtain ⟨o,es,ep,ho,hc,hdat,he,_⟩:=hm
  show wpAny _ _ (dictSize d >>= _) _ _ s
  unfold dictSize
  refine Qb (Qb (wpAny_dictEntries ho hdat (Qg ?_)))
  show wpAny _ _ (Builtin.Dict.pendingCount d >>= _) _ _ s
  refine Qb (wpAny_pendingCount_other hd ?_)
  refine wpAny_ret_mkInt ?_
  rw [Nat.add_zero,size_of_entries he];exact h
theorem len_bodyH {Q:Value->Shared->Prop} (hd:(d == sysModules)=false) (hm:s.heap.DictOfH knd d xs) (hfit:(xs.length:Int)<2 ^ 63)
  (h:Q (.int xs.length (s.toks+1)) { s with toks:=s.toks+1+1 }):wpAny (model prog w) A (Builtin.«len» ⟨[.ref d],[]⟩) (fun fin s'=>∃ r,fin=.done (.ret r)/\Q r s') E s:=by
 unfold Builtin.«len»
 refine Qb (Qg ?_)
 refine Qb (m:=callSpecial? (.ref d) (Str.ofString "__len__")) (wpAny_callSpecial?_slot (name:=Str.ofString "__len__") hm.typeIs F.slot_dict_len
  (call_meetsIn F.slot_dict_len hm.typeIs F.entry_dict_len (F.args_dict_len_1 _) (meets_lenH knd d hd) ⟨xs,hm,?_⟩))
 show wpAny _ _ _ _ _ { s with toks:=s.toks+1 }
 refine Qb (wpAny_holding (Qg ?_))
 refine Qb (wpAny_letGo ?_)
 show wpAny _ _ (if ((xs.length:Nat):Int)<0 then _ else _) _ _ _
 rw [if_neg (by omega)]
 show wpAny _ _ (if ((xs.length:Nat):Int) ≥ 2 ^ 63 then _ else _) _ _ _
 rw [if_neg (by omega)]
 exact Qb (wpAny_mkInt (Qg ⟨_,rfl,h⟩))
end
section
variable {X:Cx}
theorem call_lenT:CallR X (.builtin "len") (fun xs H Q=>∃ a kvs,xs=[V.ref a]/\H a=some (.dT kvs)/\Q (.int kvs.length) H):=by
 intro pins s σ H xs us Q I r h
 obtain ⟨a,kvs,rfl,ha,q⟩:=h
 obtain ⟨u,rfl,ru⟩:=vals1 r
 cases ru
 obtain ⟨z,hd,xs,rel,dd⟩:=dt_of I.hok ha
 have e:kvs.length=xs.length:=Paired.length rel
 refine Calls.call_function_entry kind_len plain_len entry_len (args_len1 _) (len_bodyH hd dd (by rw [<- e];rw [sizeLine_eq] at z;omega) ?_)
 exact ⟨.int kvs.length,H,(I.tok _),⟨_,by rw [e]⟩,q⟩
end
end L2
namespace L2
open PySem PySem.Spec PyProof.Rows
theorem mix_key {P:Program} {w:World} {k:Key} {u:Value} (h:(mixKind P w).is k u=true):RelV (kV k) u:=by
 cases k with
 | inl n=>exact Value.isInt_shape h
 | inr z=>exact Value.isStrOf_shape h
noncomputable def tLItems (td:TE):TE:=fun σ H Q=>td σ H fun x H1=>∃ (d:Addr) (k:Key) (v:V),x=.ref d/\H1 d=some (.dK [(k,v)])/\∀ t l,H1 t=none->H1 l=none->l≠t->Q (.ref l) (upd (upd H1 l (.lst [.ref t])) t (.tup [kV k,v]))
section
variable {X:Cx}
theorem pe_litems {o:Expr} {apos cpos p1 pos1:Pos} {td:TE} (hc:X.calm=true) (hg:Gl X "list") (hm:X.mg "list"=none) (ho:PE X o td)
  (hs1:starEach [Expr.Call (.Attribute o "items" apos) [] [] cpos] X.env=[(false,eval (Expr.Call (.Attribute o "items" apos) [] [] cpos) X.env)]:=by rfl)
  (hbase:attributeBase o "items" X.env (eval o X.env)=eval o X.env:=by rfl) (hline:(apos.endLine == cpos.line)=true:=by rfl) :
  PE X (.Call (.Name "list" p1) [.Call (.Attribute o "items" apos) [] [] cpos] [] pos1) (tLItems td):=by
 intro pins s σ H Q I h
 refine wpAny_Call_Name_kw (ld_blt I hg hm bt_list ?_)
 refine PyProof.Rows.callWith_type1 ?_ hs1 rfl
 rw [hs1]
 show wpAny _ _ (spliced ((false,eval (Expr.Call (.Attribute o "items" apos) [] [] cpos) X.env)::backTo pos1 [])) _ _ s
 refine Calls.spliced_cons ?_
 refine wpAny_Call_method0_late hbase hline (thn (ho pins s σ H _ I h) fun v s1 hsl76=>?_)
 obtain ⟨x,H1,I1,r1,d,k,y,ex,hd,q⟩:=hsl76
 subst ex
 cases (show v=Value.ref d from r1)
 obtain ⟨t1,t2,hsm⟩:=isD_at I1 (.inl ⟨_,.inl hd⟩)
 refine ⟨"dict","dict.items",PySem.F.plainAttrs_dict,PySem.F.slot_dict_items,PySem.F.type_dict_items,t1,t2,Calls.callWith_builtin rfl (PySem.evalArgs_none ?_)⟩
 obtain ⟨_,_,vs,rel,dd⟩:=dk_of I1.hok hd
 refine wpAny_call_entry PySem.F.slot_dict_items t1 PySem.F.entry_dict_items ?_ (PySem.F.args_dict_items_1 _)
 unfold Builtin.«dict.items»
 refine Qb ?_
 unfold Builtin.Dict.noArgs
 refine Qb (wpAny_notOrdered_dict t1 ?_)
 show wpAny _ _ (pure d) _ _ s1
 refine Qg ?_
 show wpAny _ _ (Builtin.Dict.showsAll d >>= _) _ _ s1
 unfold Builtin.Dict.showsAll
 rw [if_neg (show ¬ (d == sysModules)=true by rw [hsm];decide)]
 refine Qb (Qg (Qb (wpAny_newObj_type (Qg ⟨_,rfl,?_⟩))))
 refine Calls.spliced_nil ?_
 have I2:Inv X pins σ H1 { s1 with heap:=s1.heap.push { cls:=.type "dict_items",data:=.fields #[.ref d] } }:=I1.kept (t':=s1.toks) fun b o e=>Qf _ e
 have hv:(s1.heap.push { cls:=.type "dict_items",data:=.fields #[.ref d] }).IsItemsView s1.heap.objs.size d:=⟨_,Qs _ rfl,rfl,rfl⟩
 obtain ⟨ep,dat⟩:=dd.dictAt
 have dat2:=dat.push { cls:=.type "dict_items",data:=.fields #[.ref d] }
 generalize s1.heap.push { cls:=.type "dict_items",data:=.fields #[.ref d] }=h2 at I2 hv dat2
 cases rel with
 | @cons _ p2 _ _ hr rt =>
 cases rt
 obtain ⟨ek,rv⟩:=hr
 obtain ⟨k',u⟩:=p2
 cases (show k=k' from ek)
 refine PySem.W.kdx_call (s:={ s1 with heap:=h2 }) (knd:=mixKind X.prog X.w) (kvs:=[(k,u)]) (ep:=ep) (I1.ok.hd hc) hv dat2 (by show 1<=sizeLine;decide) fun h' tk acc c as hk hS hal hG hacc=>?_
 obtain ⟨t,rfl⟩:∃ t,as=[t]:=by
  match as,hal with
  | [t],_=>exact ⟨t,rfl⟩
 obtain ⟨key,k2,x2,e1,e2,e3⟩:=hG.pairs 0 t rfl
 cases e1
 have hlt:h2.objs.size<t:=hG.above t (List.mem_singleton.mpr rfl)
 have hac:acc=#[Value.ref t]:=by rw [<- Array.toList_inj];exact hacc
 subst hac
 have ht0:H1 t=none:=I2.hok.fresh (Nat.le_of_lt hlt)
 have hl0:H1 h2.objs.size=none:=I2.hok.fresh (Qh _)
 have hne:h2.objs.size≠t:=Qw hlt
 have hpu:∀ b ob,(h2.push { cls:=.type "list",data:=.seq #[Value.ref t] c }).get? b=some ob->h'.get? b=some ob:=fun b ob e=>by
  rcases Heap.get?_push_cases e with ⟨rfl,rfl⟩ | e
  ·exact hS
  ·exact hk b ob e
 have I3:Inv X pins σ (upd H1 h2.objs.size (.lst [.ref t])) { s1 with heap:=h2.push { cls:=.type "list",data:=.seq #[Value.ref t] c },toks:=tk } :=
  I2.laid (a:=h2.objs.size) (o:=.lst [.ref t]) (t':=tk) (fun b o e=>Qf _ e) (Qh _) ⟨(by show 1<=sizeLine;decide),[Value.ref t],c,.cons rfl .nil,Qs _ rfl⟩
 have I4:Inv X pins σ (upd (upd H1 h2.objs.size (.lst [.ref t])) t (.tup [kV k,y])) { s1 with heap:=h',toks:=tk } :=
  I3.laid (a:=t) (o:=.tup [kV k,y]) (t':=tk) (h':=h') hpu (by show (h2.push _).objs.size<=t;rw [Heap.size_push];exact hlt) ⟨(by show 2<=sizeLine;decide),[key,u],.cons (mix_key e2) (.cons rv .nil),_,e3,rfl,_,rfl⟩
 exact ⟨.ref h2.objs.size,_,I4,rfl,q t h2.objs.size ht0 hl0 hne⟩
end
noncomputable def ItmK (d:Addr) (od:Obj) (kvs:List (Key × V)):It:=⟨fun i H=>H d=some (.frz od (.dK kvs))/\i<kvs.length,
 fun i H x H'=>∃ (t:Addr) (kv:Key × V),kvs[i]?=some kv/\H t=none/\x=.ref t/\H'=upd H t (.tup [kV kv.1,kv.2]),
 fun i H=>H d=some (.frz od (.dK kvs))/\kvs.length<=i⟩
theorem kv_at {kvs:List (Key × V)} {vs:List (Key × Value)} (h:KV kvs vs):∀ {i:Nat} {q:Key × Value},vs[i]?=some q->∃ p,kvs[i]?=some p/\p.1=q.1/\RelV p.2 q.2:=by
 induction h with
 | nil=>intro i q e;simp at e
 | cons r _ ih =>
  intro i q e
  cases i with
  | zero=>simp at e;subst e;exact ⟨_,rfl,r⟩
  | succ i=>obtain ⟨p,a,b⟩:=ih (i:=i) (q:=q) (by simpa using e);exact ⟨p,by simpa using a,b⟩
theorem frzK {P:Program} {w:World} {H:Hp} {h:Heap} {d:Addr} {od:Obj} {kvs:List (Key × V)} {es:Array DictEntry} {ep:Nat} (ok:HOk P w H h) (e:H d=some (.frz od (.dK kvs))) (hdd:od.data=.dict es ep):∃ vs,KV kvs vs/\vs.length=kvs.length/\h.DictAt (mixKind P w) d vs ep:=by
 obtain ⟨ho,_,_,vs,rel,o,es2,ep2,ho2,x1,hd2,x2⟩:=(show ObjOk P w H h d (.frz od (.dK kvs)) from ok d _ e)
 rw [ho] at ho2
 cases ho2
 have hd3:=hd2
 rw [hdd] at hd3
 cases hd3
 exact ⟨vs,rel,(Paired.length rel).symm,od,es,ho,x1,hd2,x2⟩
theorem turn_ditemK {P:Program} {w:World} {K:PySem.W.Frag} {elts:List Expr} {k:Nat} {tpos:Pos} (d it:Addr) {od:Obj} {kvs:List (Key × V)} {es:Array DictEntry} {ep:Nat} (hdd:od.data=.dict es ep) :
  Turn P w K (.Tuple elts k tpos) (ItmK d od kvs) [it] it (fun i h=>∃ ok ov,IsItemIter h it d i kvs.length ep ok ov) where
 mem:=by simp
 obj:=fun i h st b hb=>by
  have e:b=it:=by simpa using hb
  subst e
  obtain ⟨ok,ov,e⟩:=st
  exact ⟨_,e,fun v z=>by cases z⟩
 keep:=fun i h h' st kk=>by obtain ⟨ok,ov,e⟩:=st;exact ⟨ok,ov,kk it (by simp) _ e⟩
 item:=by
  intro X hP hw hK hc i pins s σ H E I hf st hg
  subst hP hw hK
  obtain ⟨he,hi⟩:=hg
  obtain ⟨vs,rel,hvl,dat⟩:=frzK I.hok he hdd
  obtain ⟨ok,ov,hit⟩:=st
  rw [<- hvl] at hit
  obtain ⟨f0,f1,f2,f3,f4,f5⟩:=hf it (by simp)
  have hiv:i<vs.length:=by omega
  obtain ⟨p,hp,ek,rv⟩:=kv_at rel (Qa hiv)
  refine wpAny_pyNext_items_item hit dat (Qa hiv) fun key h1 ik ho ht hz kk=>⟨_,rfl,?_⟩
  have hil:it<s.heap.objs.size:=Qn hit
  refine wpAny_letOwnedTupleGo_items (s:={ s with heap:=h1 }) ho fun h2 he2 hs2=>?_
  have hs2:Heap.SameBut it h1 h2:=hs2
  have kk2:∀ b o,b≠it->s.heap.get? b=some o->h2.get? b=some o:=fun b o q1 q=>(hs2.2 b q1).trans (kk b o q1 q)
  have ht2:h2.get? s.heap.objs.size=some { cls:=.type "tuple",data:=.seq #[key,vs[i].2] }:=(hs2.2 _ (Nat.ne_of_gt hil)).trans ht
  have hT:H s.heap.objs.size=none:=I.fresh
  have I2:Inv X pins σ (upd H s.heap.objs.size (.tup [kV p.1,p.2])) { s with heap:=h2 }:=by
   refine I.call' (ch:=[it]) rfl ⟨fun b o q hn hb hx=>?_,fun b o q hn hb hx=>?_,fun b o q hn hx=>?_,fun b o q hx=>?_,fun b ys q=>?_,fun b o v q=>?_,fun b ps q=>?_⟩ (fun b v q=>?_) I.bare fun b hb=>?_
   ·exact kk2 b o (fun z=>hx (by simp [z])) q
   ·exact ⟨o.slots,kk2 b o (fun z=>hx (by simp [z])) q⟩
   ·rw [upd_ne (Qw (Qn q))];exact hn
   ·exact ⟨o,kk2 b o (fun z=>hx (by simp [z])) q⟩
   ·rw [upd_ne (ne_of_none q hT)];exact q
   ·rw [upd_ne (ne_of_none q hT)];exact q
   ·exact ⟨#[],by rw [upd_ne (ne_of_none q hT)];simpa using q⟩
   ·by_cases hb:b=s.heap.objs.size
    ·subst hb
     rw [upd_same] at q
     cases q
     refine ⟨(by show 2<=sizeLine;decide),[key,vs[i].2],?_,_,ht2,rfl,_,rfl⟩
     refine .cons ?_ (.cons ?_ .nil)
     ·rw [ek];exact mix_key ik
     ·exact rv
    ·rw [upd_ne hb] at q
     have hni:b≠it:=fun z=>by rw [z,f0] at q;cases q
     refine (I.hok b v q).stay (fun c o hcb z=>kk2 c o (fun y=>?_) z) (fun c z=>by rw [upd_ne (ne_of_none z hT)];exact z) fun c ys z=>by rw [upd_ne (ne_of_none z hT)];exact z
     rcases hcb with r | r
     ·exact hni (r ▸ y)
     ·rw [y,f0] at r;cases r
   ·have e:b=it:=by simpa using hb
    subst e
    exact ⟨f3,f1,f4,f5⟩
  refine ⟨.ref s.heap.objs.size,_,I2,rfl,⟨_,p,hp,hT,rfl,rfl⟩,⟨_,_,by rw [<- hvl];exact he2⟩,fun b hb=>?_⟩
  have e:b=it:=by simpa using hb
  subst e
  rw [upd_ne (Qw hil)];exact f0
 done:=by
  intro X hP hw hK hc i pins s σ H E I hf st hg
  subst hP hw hK
  obtain ⟨he,hi⟩:=hg
  obtain ⟨vs,rel,hvl,dat⟩:=frzK I.hok he hdd
  obtain ⟨ok,ov,hit⟩:=st
  rw [<- hvl] at hit
  obtain ⟨f0,f1,f2,f3,f4,f5⟩:=hf it (by simp)
  exact wpAny_pyNext_items_end (I.ok.hd hc) hit dat (List.getElem?_eq_none (by omega)) fun h' eb=>⟨rfl,I.turned (t':=s.toks) (fun b o hb e=>eb b o hb e) f0 f1 f3 f4 f5⟩
 self:=fun _ _ _ _ _ st h=>by obtain ⟨ok,ov,e⟩:=st;exact PySem.W.kcp_self e h
noncomputable def iDItemK (td:TE):TI:=fun σ H R=>td σ H fun x H1=>∃ d kvs,x=.ref d/\H1 d=some (.dK kvs)/\∀ od,R (ItmK d od kvs) (upd H1 d (.frz od (.dK kvs)))
section
variable {X:Cx}
theorem Inv.freezeK {pins:List (Addr × Obj)} {σ:St} {H:Hp} {s:Shared} {d:Addr} {kvs:List (Key × V)} {od:Obj} (I:Inv X pins σ H s) (e:H d=some (.dK kvs)) (ho:s.heap.get? d=some od):Inv X pins σ (upd H d (.frz od (.dK kvs))) s:=by
 have h0:∀ {t:Nat},Inv X pins σ (upd H d (.frz od (.dK kvs))) { s with heap:=s.heap,toks:=t }:=by
  intro t
  exact I.write (x:=d) (e:=d) (by rw [e];exact True.intro) (.inl rfl) (fun b q hb z=>z) ⟨_,ho⟩ ⟨ho,I.hok d _ e⟩
 exact h0 (t:=s.toks)
theorem pi_ditemK {o:Expr} {apos cpos:Pos} {td:TE} {elts:List Expr} {k:Nat} {tpos:Pos} (ho:PE X o td)
  (hbase:attributeBase o "items" X.env (eval o X.env)=eval o X.env:=by rfl) (hline:(apos.endLine == cpos.line)=true:=by rfl):PI X (.Tuple elts k tpos) (.Call (.Attribute o "items" apos) [] [] cpos) (iDItemK td):=by
 intro pins s σ H R I h
 refine wpAny_Call_method0_late hbase hline (thn (ho pins s σ H _ I h) fun v s1 hsl77=>?_)
 obtain ⟨x,H1,I1,r1,d,kvs,ex,hd,q⟩:=hsl77
 subst ex
 cases (show v=Value.ref d from r1)
 obtain ⟨t1,t2,hsm⟩:=isD_at I1 (.inl ⟨_,.inl hd⟩)
 refine ⟨"dict","dict.items",PySem.F.plainAttrs_dict,PySem.F.slot_dict_items,PySem.F.type_dict_items,t1,t2,Calls.callWith_builtin rfl (PySem.evalArgs_none ?_)⟩
 obtain ⟨_,_,vs,rel,od,es,ep,hod,x1,hdd,x2⟩:=dk_of I1.hok hd
 refine wpAny_call_entry PySem.F.slot_dict_items t1 PySem.F.entry_dict_items ?_ (PySem.F.args_dict_items_1 _)
 unfold Builtin.«dict.items»
 refine Qb ?_
 unfold Builtin.Dict.noArgs
 refine Qb (wpAny_notOrdered_dict t1 ?_)
 show wpAny _ _ (pure d) _ _ s1
 refine Qg ?_
 show wpAny _ _ (Builtin.Dict.showsAll d >>= _) _ _ s1
 unfold Builtin.Dict.showsAll
 rw [if_neg (show ¬ (d == sysModules)=true by rw [hsm];decide)]
 refine Qb (Qg (Qb (wpAny_newObj_type (Qg ⟨_,rfl,?_⟩))))
 have I2:Inv X pins σ H1 { s1 with heap:=s1.heap.push { cls:=.type "dict_items",data:=.fields #[.ref d] } }:=I1.kept (t':=s1.toks) fun b o e=>Qf _ e
 have hod2:=Qf { cls:=.type "dict_items",data:=.fields #[.ref d] } hod
 have hv:(s1.heap.push { cls:=.type "dict_items",data:=.fields #[.ref d] }).IsItemsView s1.heap.objs.size d:=⟨_,Qs _ rfl,rfl,rfl⟩
 have I3:=I2.freezeK hd hod2
 generalize s1.heap.push { cls:=.type "dict_items",data:=.fields #[.ref d] }=h2 at I3 hod2 hv
 refine wpAny_pyIter_items (s:={ s1 with heap:=h2 }) (knd:=mixKind X.prog X.w) (kvs:=vs) hv ⟨od,es,hod2,x1,hdd,x2⟩ ?_
 rw [<- Paired.length rel]
 refine ⟨h2.objs.size,[h2.objs.size],_,_,_,rfl,I3.kept (t':=s1.toks) fun b o e=>Qf _ e,turn_ditemK d _ hdd,⟨_,_,Qs _ rfl⟩,fun b hb=>?_,q od⟩
 have e:b=h2.objs.size:=by simpa using hb
 subst e
 exact I3.fpOk (Qh _) (I3.hok.fresh (Qh _))
end
theorem for_ditemK {d:Addr} {od:Obj} {kvs:List (Key × V)} {g:TG} {tb:TS} {D:Ends} {σ:St} {H:Hp} (Pv:Nat->St->Hp->Prop) (h0:Pv 0 σ H) (hl:∀ i σ H,i<=kvs.length->Pv i σ H->H d=some (.frz od (.dK kvs)))
  (hs:∀ i kv t σ H,kvs[i]?=some kv->H t=none->Pv i σ H->g (.ref t) σ (upd H t (.tup [kV kv.1,kv.2])) fun σ2 H2=>tb { D with nx:=Pv (i+1),ct:=Pv (i+1),bk:=D.nx } σ2 H2) (hd:∀ σ H,Pv kvs.length σ H->D.nx σ H) :
  ∃ W:Nat->Nat->St->Hp->Prop,(∃ m,W 0 m σ H)/\∀ i m σ H,W i m σ H ->
   ((ItmK d od kvs).stop i H/\D.nx σ H)∨((ItmK d od kvs).go i H/\∃ N:St->Hp->Prop,(∀ σ' H',N σ' H'->∃ m',m'<m/\W (i+1) m' σ' H')/\∀ x H',(ItmK d od kvs).yld i H x H'->g x σ H' fun σ2 H2=>tb { D with nx:=N,ct:=N,bk:=D.nx } σ2 H2):=by
 refine ⟨fun i m σ H=>m=kvs.length-i/\i<=kvs.length/\Pv i σ H,⟨kvs.length,by simp,Qr _,h0⟩,?_⟩
 rintro i m σ H ⟨rfl,hi,p⟩
 have q:=hl i σ H hi p
 by_cases hlt:i<kvs.length
 ·refine .inr ⟨⟨q,hlt⟩,Pv (i+1),fun σ' H' p'=>⟨kvs.length-(i+1),by omega,rfl,hlt,p'⟩,fun x H' y=>?_⟩
  obtain ⟨t,kv,hk,hn,rfl,rfl⟩:=y
  exact hs i kv t σ _ hk hn p
 ·have e:i=kvs.length:=by omega
  subst e
  exact .inl ⟨⟨q,Qh _⟩,hd σ H p⟩
end L2
namespace L2
open PySem PySem.Spec PyProof.Rows
mutual
inductive Rdv (K:PySem.W.Frag) (H:Hp):V->PyData->Prop
 | non:Rdv K H .non .none
 | bl (b:Bool):Rdv K H (.bl b) (.bool b)
 | int (i:Int):Rdv K H (.int i) (.int i)
 | str (x:Str):Rdv K H (.str x) (.str x)
 | lst {a:Addr} {xs:List V} {ds:List PyData}:SqL K H a xs->RdvA K H xs ds->Rdv K H (.ref a) (.list ds)
 | tup {a:Addr} {xs:List V} {ds:List PyData}:SqT K H a xs->RdvA K H xs ds->Rdv K H (.ref a) (.tuple ds)
inductive RdvA (K:PySem.W.Frag) (H:Hp):List V->List PyData->Prop
 | nil:RdvA K H [] []
 | cons {x:V} {d:PyData} {xs:List V} {ds:List PyData}:Rdv K H x d->RdvA K H xs ds->RdvA K H (x::xs) (d::ds)
end
section
variable {X:Cx} {pins:List (Addr × Obj)} {σ:St} {H:Hp} {s:Shared}
mutual
theorem Rdv.reads (I:Inv X pins σ H s):∀ {x:V} {d:PyData} {u:Value},Rdv X.K H x d->RelV x u->∃ as,Reads s.heap u d as
 | _,_,_,.non,r=>by cases r;exact ⟨_,.none⟩
 | _,_,_,.bl b,r=>by cases r;exact ⟨_,.bool b⟩
 | _,_,_,.int i,r=>by obtain ⟨t,rfl⟩:=r;exact ⟨_,.int i t⟩
 | _,_,_,.str x,r=>by obtain ⟨t,rfl⟩:=r;exact ⟨_,.str x t⟩
 | _,_,_,.lst hq ha,r=>by
  cases r
  obtain ⟨its,rv,p,_⟩:=I.list hq
  obtain ⟨as,ra⟩:=RdvA.reads I ha rv
  obtain ⟨o,ho,hc,n,hd⟩:=p.isList
  exact ⟨_,.list ho hc hd (by simpa using ra)⟩
 | _,_,_,.tup hq ha,r=>by
  cases r
  obtain ⟨its,rv,p,_⟩:=I.tuple hq
  obtain ⟨as,ra⟩:=RdvA.reads I ha rv
  obtain ⟨o,ho,hc,n,hd⟩:=p
  exact ⟨_,.tuple ho hc hd (by simpa using ra)⟩
theorem RdvA.reads (I:Inv X pins σ H s):∀ {xs:List V} {ds:List PyData} {us:List Value},RdvA X.K H xs ds->Vals xs us->∃ as,ReadsAll s.heap us ds as
 | _,_,_,.nil,r=>by cases r;exact ⟨_,.nil⟩
 | _,_,_,.cons h t,r=>by
  cases r with
  | cons r1 r2 =>
   obtain ⟨as,ra⟩:=Rdv.reads I h r1
   obtain ⟨bs,rb⟩:=RdvA.reads I t r2
   exact ⟨_,.cons ra rb⟩
end
end
section
variable {X:Cx}
theorem op_eqD {K:PySem.W.Frag} (hK:X.K=K) (hu:X.A.units+64<cLine):OpR X (compareOp .Eq) (fun x y H Q=>∃ d e,Rdv K H x d/\Rdv K H y e/\SeqAt.shaped d=true/\SeqAt.shaped e=true/\Q (.bl (PyData.eqv d e)) H):=by
 intro pins s σ H x y v u Q I rx ry h
 subst hK
 obtain ⟨d,e,h1,h2,s1,s2,q⟩:=h
 obtain ⟨as,ra⟩:=h1.reads I rx
 obtain ⟨bs,rb⟩:=h2.reads I ry
 exact eq_dataH ra rb s1 s2 hu ⟨.bl _,H,I,rfl,q⟩
theorem op_neD {K:PySem.W.Frag} (hK:X.K=K) (hu:X.A.units+64<cLine):OpR X (compareOp .NotEq) (fun x y H Q=>∃ d e,Rdv K H x d/\Rdv K H y e/\SeqAt.shaped d=true/\SeqAt.shaped e=true/\Q (.bl (!PyData.eqv d e)) H):=by
 intro pins s σ H x y v u Q I rx ry h
 subst hK
 obtain ⟨d,e,h1,h2,s1,s2,q⟩:=h
 obtain ⟨as,ra⟩:=h1.reads I rx
 obtain ⟨bs,rb⟩:=h2.reads I ry
 exact ne_dataH ra rb s1 s2 hu ⟨.bl _,H,I,rfl,q⟩
end
section
variable {X:Cx}
end
noncomputable def Shd (n:Nat) (d:PyData):Prop:=d.canLay0=true/\d.depth<=n
theorem Shd.int (i:Int):Shd 0 (.int i):=⟨rfl,Qh _⟩
theorem Shd.bl (i:Bool):Shd 0 (.bool i):=⟨rfl,Qh _⟩
theorem Shd.str {z:Str} (h:∀ c∈z.cps.toList,c<128):Shd 0 (.str z):=⟨by
 show PyData.strOk z=true
 unfold PyData.strOk
 rw [Array.all_eq_true]
 intro i hi
 have:=h z.cps[i] (by simp)
 simp only [decide_eq_true_eq]
 omega,Qh _⟩
theorem shd_all {n:Nat}:∀ {ds:List PyData},(∀ d∈ds,Shd n d)->PyData.canLayAll0 ds=true/\PyData.depthAll ds<=n
 | [],_=>⟨rfl,Qr _⟩
 | d::r,h=>by
  obtain ⟨a,b⟩:=h d Qp
  obtain ⟨c,e⟩:=shd_all (ds:=r) fun x hx=>h x (Qm _ hx)
  exact ⟨by simp only [PyData.canLayAll0];rw [a,c];rfl,by simp only [PyData.depthAll];omega⟩
theorem Shd.list {n:Nat} {ds:List PyData} (h:∀ d∈ds,Shd n d):Shd (n+1) (.list ds):=⟨by simp only [PyData.canLay0];exact (shd_all h).1,by simp only [PyData.depth];have:=(shd_all h).2;omega⟩
theorem Shd.tuple {n:Nat} {ds:List PyData} (h:∀ d∈ds,Shd n d):Shd (n+1) (.tuple ds):=⟨by simp only [PyData.canLay0];exact (shd_all h).1,by simp only [PyData.depth];have:=(shd_all h).2;omega⟩
theorem Shd.ok {n:Nat} {d:PyData} (h:Shd n d) (hn:n<=64):SeqAt.shaped d=true:=by
 show (d.canLay0&&decide (d.depth<=64))=true
 rw [h.1,Qo (QA h.2 hn)];rfl
theorem Shd.refl {n:Nat} {d:PyData} (h:Shd n d):PyData.eqv d d=true:=SeqAt.eqv_refl d h.1
theorem RdvA.map {α:Type} {K:PySem.W.Frag} {H:Hp} {f:α->V} {g:α->PyData}:∀ {l:List α},(∀ x∈l,Rdv K H (f x) (g x))->RdvA K H (l.map f) (l.map g)
 | [],_=>.nil
 | x::r,h=>.cons (h x Qp) (RdvA.map fun y hy=>h y (Qm _ hy))
theorem Rdv.strs {K:PySem.W.Frag} {H:Hp} {a:Addr} {zs:List Str} (h:SqL K H a (zs.map V.str)):Rdv K H (.ref a) (.list (zs.map PyData.str)):=.lst h (RdvA.map fun x _=>.str x)
end L2
namespace L2
open PySem PySem.Spec PyProof.Rows
theorem args_lsort_key (a v:Value):argsOk "list.sort" ⟨[a],[(Str.ofString "key",v)]⟩:=by unfold argsOk;kernel_rfl
theorem args_sorted_key (a v:Value):argsOk "sorted" ⟨[a],[(Str.ofString "key",v)]⟩:=by unfold argsOk;kernel_rfl
theorem lsort_key (a f:Addr):Builtin.«list.sort» ⟨[.ref a],[(Str.ofString "key",.ref f)]⟩=(do
  let items <- Builtin.List.listItems (.ref a)
  Builtin.List.listUpdate (.ref a) fun _=>#[]
  let before <- seqEpoch a
  let held <- newTuple items.toList
  let keyStore <- newList []
  holding [held,keyStore] do
   rule "list.sort.key"
   for x in items do
    match <- (call (.ref f) [x]).attempt with
    | .ok k=>Builtin.List.listUpdate keyStore (·.push k)
    | .error e =>
     rule "list.sort.key-raised"
     let made <- Builtin.List.listItems keyStore
     Builtin.List.listUpdate keyStore fun _=>#[]
     letGo made.toList.reverse [e]
     Builtin.List.listUpdate (.ref a) fun _=>items;throw e
   let keys <- Builtin.List.listItems keyStore
   let kind <- if items.size<2 then pure general' else keyKind' keys
   let ((),s) <- (if items.size<2 then pure () else sortRuns').run (SortSt.mk' kind (keys.zip items) #[] 7 none)
   let sorted:=(arrOf s).map (·.2)
   Builtin.List.listUpdate keyStore fun _=>#[]
   letGo ((arrOf s).map (·.1)).toList (failedOf s).toList
   let touched:=(<- seqEpoch a) != before
   Builtin.List.listUpdate (.ref a) fun _=>sorted
   if let some e:=failedOf s then rule "list.sort.comparison-raised";throw e
   if touched then rule "list.sort.modified";raiseError "ValueError" "list modified during sort"
   ret .none):=by
 first | rfl | (fail "not by rfl")
theorem Inv.adopt {X:Cx} {pins:List (Addr × Obj)} {σ:St} {H:Hp} {s:Shared} {a:Addr} {o:HO} (I:Inv X pins σ H s) (f:FpOk X pins H a) (new:ObjOk X.prog X.w (upd H a o) s.heap a o):Inv X pins σ (upd H a o) s:=by
 obtain ⟨f0,f1,f2,f3,f4,f5⟩:=f
 have ne:∀ b u,H b=some u->b≠a:=fun b u e=>ne_of_none e f0
 have hok:HOk X.prog X.w (upd H a o) s.heap:=fun b u e=>by
  by_cases hb:b=a
  ·subst hb;rw [upd_same] at e;cases e;exact new
  ·rw [upd_ne hb] at e
   exact (I.hok b u e).stay (fun c v _ q=>q) (fun c q=>by rw [upd_ne (ne c _ q)];exact q) fun c xs q=>by rw [upd_ne (ne c _ q)];exact q
 have nc:∀ {b:Addr},b∉[a]->b≠a:=fun h z=>h (by simp [z])
 exact I.step (g':=s.gens) (d':=s.drawn) (t':=s.toks) (h':=s.heap) (ch:=[a]) (fun b hb=>by
   have e:b=a:=by simpa using hb
   subst e
   exact ⟨f3,f1,f4,f5⟩)
  (fun b o _ _ _ e _=>e) (fun b o _ _ _ e _=>⟨o.slots,e⟩) (fun b o hc e n=>by rw [upd_ne (nc hc)];exact n) (fun b o _ e=>⟨o,e⟩)
  (fun b xs e=>by rw [upd_ne (ne b _ e)];exact e) (fun b o u e=>by rw [upd_ne (ne b _ e)];exact e) (fun b ps e=>⟨#[],by rw [upd_ne (ne b _ e),e];simp⟩) (fun m hm=>hm) hok I.bare
section
variable {X:Cx} {k:Nat} {f:Addr} {fd:FuncData} {ps:List Str} {sp:Sp} {dvs:List V} {ds:List Value} {pins:List (Addr × Obj)} {σ:St} {H:Hp} {s:Shared} {xs:List V} {ks:List Int}
end
end L2
namespace L2
open PySem PySem.Spec PyProof.Rows PySem.W
noncomputable def Ent (n:Nat) (p:Array Nat):Prop:=∀ x∈p.toList,x<n
theorem Ent.at {n:Nat} {p:Array Nat} (h0:0<n) (h:Ent n p) (k:Nat):p.getD k 0<n:=by
 rw [Array.getD_eq_getD_getElem?]
 cases e:p[k]? with
 | none=>exact h0
 | some x =>
  refine h x ?_
  rw [<- Array.getElem?_toList] at e
  exact Qz e
end L2
namespace L2
open PySem PySem.Spec PyProof.Rows PySem.W
structure SEv where
 κ:SortKind
 it:Array Keyed
noncomputable def EvOk (n:Nat) (lt:Nat->Nat->Bool) (e:SEv) (prog:Program) (w:World) (A:Around) (s:Shared):Prop :=
 ∀ i j,i<n->j<n->∀ C:Bool->Shared->Prop,C (lt i j) s->kas_cmp prog w A e.κ e.it i j C s
noncomputable def Det (n:Nat) (lt:Nat->Nat->Bool) {α:Type} (m:SEv->StateT SortSt Sem α) (x:SEv->SortSt) (R:(SEv->α)->(SEv->SortSt)->Prop):Prop :=
 ∃ (a:SEv->α) (y:SEv->SortSt),R a y/\∀ (e:SEv) (prog:Program) (w:World) (A:Around) (E:Value->Shared->Prop) (s:Shared),EvOk n lt e prog w A s ->
  ∀ Q:α->SortSt->Shared->Prop,Q (a e) (y e) s->kasC (model prog w) A E (m e) Q (x e) s
section
variable {n:Nat} {lt:Nat->Nat->Bool} {α β:Type} {x:SEv->SortSt}
theorem det_pure {a:SEv->α} {R:(SEv->α)->(SEv->SortSt)->Prop} (h:R a x):Det n lt (fun e=>pure (a e)) x R :=
 ⟨a,x,h,fun e prog w A E s _ Q q=>kasC_pure q⟩
theorem det_bind {m:SEv->StateT SortSt Sem α} {f:SEv->α->StateT SortSt Sem β} {R:(SEv->β)->(SEv->SortSt)->Prop} (h:Det n lt m x (fun a y=>Det n lt (fun e=>f e (a e)) y R)):Det n lt (fun e=>m e >>= f e) x R:=by
 obtain ⟨a,y,⟨b,z,r,h2⟩,h1⟩:=h
 exact ⟨b,z,r,fun e prog w A E s ho Q q=>kasC_bind (h1 e prog w A E s ho _ (h2 e prog w A E s ho Q q))⟩
theorem Det.mono {m:SEv->StateT SortSt Sem α} {R R':(SEv->α)->(SEv->SortSt)->Prop} (h:Det n lt m x R) (hr:∀ a y,R a y->R' a y):Det n lt m x R':=by
 obtain ⟨a,y,r,h1⟩:=h
 exact ⟨a,y,hr a y r,h1⟩
theorem det_get {R:(SEv->SortSt)->(SEv->SortSt)->Prop} (h:R x x):Det n lt (fun _=>(get:StateT SortSt Sem SortSt)) x R :=
 ⟨x,x,h,fun e prog w A E s _ Q q=>kasC_get q⟩
theorem det_modify {f:SEv->SortSt->SortSt} {R:(SEv->PUnit)->(SEv->SortSt)->Prop} (h:R (fun _=>⟨⟩) (fun e=>f e (x e))):Det n lt (fun e=>(modify (f e):StateT SortSt Sem PUnit)) x R :=
 ⟨_,_,h,fun e prog w A E s _ Q q=>kasC_modify q⟩
theorem det_ite {c:Prop} {inst:SEv->Decidable c} {p q:SEv->StateT SortSt Sem α} {R:(SEv->α)->(SEv->SortSt)->Prop} (h1:c->Det n lt p x R) (h2:¬c->Det n lt q x R):Det n lt (fun e=>@ite _ c (inst e) (p e) (q e)) x R:=by
 by_cases h:c
 ·simp only [if_pos h];exact h1 h
 ·simp only [if_neg h];exact h2 h
theorem det_for_list {β:Type} {f:SEv->Nat->β->StateT SortSt Sem (ForInStep β)} (I:List Nat->(SEv->β)->(SEv->SortSt)->Prop) (Q:(SEv->β)->(SEv->SortSt)->Prop)
  (hstep:∀ i l c y,I (i::l) c y->Det n lt (fun e=>f e i (c e)) y (fun r z=>(∃ c',r=(fun e=>.done (c' e))/\Q c' z)∨(∃ c',r=(fun e=>.yield (c' e))/\I l c' z)))
  (hend:∀ c y,I [] c y->Q c y):∀ (l:List Nat) (c:SEv->β) (x:SEv->SortSt),I l c x->Det n lt (fun e=>forIn l (c e) (f e)) x Q
 | [],c,x,h=>⟨c,x,hend c x h,fun e prog w A E s _ Q q=>kasC_nil q⟩
 | i::l,c,x,h=>by
  obtain ⟨r,z,hr,h1⟩:=hstep i l c x h
  rcases hr with ⟨c',rfl,hq⟩ | ⟨c',rfl,hi⟩
  ·exact ⟨c',z,hq,fun e prog w A E s ho Q q=>kasC_cons (h1 e prog w A E s ho _ q)⟩
  ·obtain ⟨b,y,r,h2⟩:=det_for_list I Q hstep hend l c' z hi
   exact ⟨b,y,r,fun e prog w A E s ho Q q=>kasC_cons (h1 e prog w A E s ho _ (h2 e prog w A E s ho Q q))⟩
theorem det_for {β:Type} {a b:Nat} {c:SEv->β} {f:SEv->Nat->β->StateT SortSt Sem (ForInStep β)} (I:Nat->(SEv->β)->(SEv->SortSt)->Prop) (Q:(SEv->β)->(SEv->SortSt)->Prop)
  (hstep:∀ i c y,a<=i->i<b->I i c y->Det n lt (fun e=>f e i (c e)) y (fun r z=>(∃ c',r=(fun e=>.done (c' e))/\Q c' z)∨(∃ c',r=(fun e=>.yield (c' e))/\I (i+1) c' z)))
  (hend:∀ c y,I (max a b) c y->Q c y) (h:I a c x):Det n lt (fun e=>forIn [a:b] (c e) (f e)) x Q:=by
 have key:Det n lt (fun e=>forIn (List.range' a (b-a)) (c e) (f e)) x Q:=by
  refine det_for_list (fun l c y=>∃ i,a<=i/\i<=max a b/\l=List.range' i (max a b-i) 1/\I i c y) Q ?_ ?_ _ c x ⟨a,Qh _,by omega,by congr 1;omega,h⟩
  ·rintro j l c y ⟨i,hai,hib,hl,hI⟩
   have hlt:i<max a b:=by
    rcases Nat.lt_or_ge i (max a b) with h' | h'
    ·exact h'
    ·rw [show max a b-i=0 by omega] at hl;simp at hl
   obtain ⟨k,hk⟩:∃ k,max a b-i=k+1:=⟨max a b-i-1,by omega⟩
   rw [hk,List.range'_succ] at hl
   obtain ⟨rfl,rfl⟩:=List.cons.inj hl
   refine (hstep j c y hai (by omega) hI).mono fun r z hr=>?_
   rcases hr with hr | ⟨c',e',h'⟩
   ·exact .inl hr
   ·exact .inr ⟨c',e',j+1,by omega,by omega,by congr 1;omega,h'⟩
  ·rintro c y ⟨i,hai,hib,hl,hI⟩
   have:i=max a b:=by
    rcases Nat.lt_or_ge i (max a b) with h' | h'
    ·obtain ⟨k,hk⟩:∃ k,max a b-i=k+1:=⟨max a b-i-1,by omega⟩
     rw [hk,List.range'_succ] at hl;simp at hl
    ·omega
   subst this
   exact hend _ _ hI
 obtain ⟨b',y,r,h1⟩:=key
 exact ⟨b',y,r,fun e prog w A E s ho Q q=>kasC_range (h1 e prog w A E s ho Q q)⟩
end
noncomputable def itm (e:SEv) (i:Nat):Keyed:=kas_item e.it i
noncomputable def itms (e:SEv) (p:Array Nat):Array Keyed:=p.map (itm e)
noncomputable def conc (p:Array Nat) (pend:Array (Nat × Nat × Nat)) (g:Nat):SEv->SortSt:=fun e=>SortSt.mk' e.κ (itms e p) pend g none
theorem itms_size {e:SEv} {p:Array Nat}:(itms e p).size=p.size:=Array.size_map ..
section
variable {n:Nat} {lt:Nat->Nat->Bool} {p:Array Nat} {pend:Array (Nat × Nat × Nat)} {g:Nat}
theorem itms_get {e:SEv} {i:Nat} (hi:i<p.size):(itms e p)[i]?=some (itm e (p.getD i 0)):=by
 have e1:p.getD i 0=p[i]:=by simp [Array.getD,hi]
 rw [e1]
 simp [itms,hi]
theorem det_elem {i:Nat} {x:SEv->SortSt} {R:(SEv->Keyed)->(SEv->SortSt)->Prop} (hi:i<p.size) (h:R (fun e=>itm e (p.getD i 0)) x):Det n lt (fun e=>elem' (itms e p) i) x R:=by
 refine ⟨_,_,h,fun e prog w A E s _ Q q=>?_⟩
 show kasC _ _ _ (elem' (itms e p) i) _ _ _
 rw [elem'_eq,itms_get hi]
 exact kasC_pure q
theorem det_lt {i j:Nat} {R:(SEv->Option Bool)->(SEv->SortSt)->Prop} (hi:i<n) (hj:j<n) (h:R (fun _=>some (lt i j)) (conc p pend g)):Det n lt (fun e=>lt' (itm e i) (itm e j)) (conc p pend g) R:=by
 refine ⟨_,_,h,fun e prog w A E s ho Q q=>?_⟩
 show kasC _ _ _ (lt' (itm e i) (itm e j)) _ _ _
 rw [lt'_eq]
 refine kasC_bind (kasC_get ?_)
 refine kasC_bind (kasC_lift (wpAny_attempt (QC (ho i j hi hj (fun b s'=>b=lt i j/\s'=s) ⟨rfl,rfl⟩) (fun c s' hc=>?_) fun _ _ hF=>hF.elim)))
 obtain ⟨rfl,rfl⟩:=hc
 exact kasC_pure q
theorem det_ltAt {i j:Nat} {R:(SEv->Option Bool)->(SEv->SortSt)->Prop} (h0:0<n) (hp:Ent n p) (hi:i<p.size) (hj:j<p.size) (h:R (fun _=>some (lt (p.getD i 0) (p.getD j 0))) (conc p pend g)):Det n lt (fun _=>ltAt' i j) (conc p pend g) R:=by
 refine det_bind (det_get ?_)
 refine det_bind (det_elem (p:=p) hi ?_)
 refine det_bind (det_elem (p:=p) hj ?_)
 exact det_lt (hp.at h0 _) (hp.at h0 _) h
end
section
variable {n:Nat} {lt:Nat->Nat->Bool} {α:Type} {x:SEv->SortSt} {p P:Array Nat} {pend:Array (Nat × Nat × Nat)} {g:Nat}
theorem det_beq {a b:Nat} {inst:SEv->Decidable ((a == b)=true)} {p q:SEv->StateT SortSt Sem α} {R:(SEv->α)->(SEv->SortSt)->Prop} (h1:a=b->Det n lt p x R) (h2:a≠b->Det n lt q x R):Det n lt (fun e=>@ite _ ((a == b)=true) (inst e) (p e) (q e)) x R :=
 det_ite (fun h=>h1 (by simpa using h)) (fun h=>h2 (by simpa using h))
theorem det_getC {γ:Type} {f:SEv->SortSt->StateT SortSt Sem γ} {R:(SEv->γ)->(SEv->SortSt)->Prop} (h:Det n lt (fun e=>f e (SortSt.mk' e.κ (itms e P) pend g none)) (conc P pend g) R):Det n lt (fun e=>get >>= f e) (conc P pend g) R:=det_bind (det_get h)
theorem det_ppush {v:Nat × Nat × Nat} {R:(SEv->PUnit)->(SEv->SortSt)->Prop} (h:R (fun _=>⟨⟩) (conc p (pend.push v) g)):Det n lt (fun _=>(modify fun s=>setPending s ((pendingOf s).push v):StateT SortSt Sem PUnit)) (conc p pend g) R:=det_modify h
noncomputable abbrev rg (n:Nat):Array Nat:=List.toArray (List.range n)
noncomputable def AscN (n:Nat) (lt:Nat->Nat->Bool):Prop:=∀ i,i+1<n->lt (i+1) i=false
theorem rg_ent (n:Nat):Ent n (rg n):=fun x hx=>by simpa using hx
theorem rg_size (n:Nat):(rg n).size=n:=by simp
theorem rg_at {i:Nat} (h:i<n):(rg n).getD i 0=i:=by simp [Array.getD,h]
theorem det_count_asc {R:(SEv->Option Nat)->(SEv->SortSt)->Prop} (h0:0<n) (hA:AscN n lt) (h:R (fun _=>some n) (conc (rg n) pend g)) :
  Det n lt (fun _=>countRun' 0 n) (conc (rg n) pend g) R:=by
 refine det_bind (Det.mono (det_for (fun i c y=>1<=i/\i<=n/\c=(fun _=>(none,i))/\y=conc (rg n) pend g) (fun c y=>c=(fun _=>(none,n))/\y=conc (rg n) pend g) ?_ ?_ ⟨Qh _,h0,rfl,rfl⟩) ?_)
 ·rintro i _ _ _ hi ⟨h1,h2,rfl,rfl⟩
  refine det_bind (det_ltAt h0 (rg_ent n) (by dsimp only;rw [rg_size];omega) (by dsimp only;rw [rg_size];omega) ?_)
  dsimp only
  have e:lt ((rg n).getD (0+i) 0) ((rg n).getD (0+i-1) 0)=false:=by
   rw [rg_at (by omega),rg_at (by omega)]
   have:=hA (i-1) (by omega)
   rw [Nat.sub_add_cancel h1] at this
   rw [Nat.zero_add]
   exact this
  refine det_ite (fun z=>absurd z (by rw [e];decide)) (fun _=>det_pure (.inr ⟨_,rfl,by omega,by omega,rfl,rfl⟩))
 ·rintro _ _ ⟨h1,h2,rfl,rfl⟩
  have:max 1 n=n:=by omega
  exact ⟨by rw [this],rfl⟩
 rintro _ _ ⟨rfl,rfl⟩
 dsimp only
 exact det_beq (fun _=>det_pure h) fun hne=>absurd rfl hne
theorem minRun_le:∀ (f m r:Nat),1<=m->r<=1->(sortPriv% PySem.Builtin.minRun) f m r<=m+r:=by
 intro f
 induction f with
 | zero=>intro m r _ _;exact Qh _
 | succ f ih =>
  intro m r h1 h2
  show (if m<64 then m+r else (sortPriv% PySem.Builtin.minRun) f (m / 2) (max r (m % 2)))<=m+r
  split
  ·exact Qh _
  ·have:=ih (m / 2) (max r (m % 2)) (by omega) (by omega)
   omega
theorem det_runs_asc {R:(SEv->Unit)->(SEv->SortSt)->Prop} (h0:0<n) (hA:AscN n lt) (h:∀ pend',R (fun _=>()) (conc (rg n) pend' g)):Det n lt (fun _=>sortRuns') (conc (rg n) #[] g) R:=by
 refine det_getC ?_
 dsimp only
 simp only [itms_size,rg_size]
 refine det_bind (Det.mono (det_for (fun i c y=>(i=0/\c=(fun _=>(none,0))/\y=conc (rg n) #[] g)∨(1<=i/\c=(fun _=>(none,n))/\∃ v,y=conc (rg n) #[v] g)) (fun c y=>c=(fun _=>(none,n))/\∃ v,y=conc (rg n) #[v] g) ?_ ?_ (.inl ⟨rfl,rfl,rfl⟩)) ?_)
 ·rintro i _ _ _ _ (⟨rfl,rfl,rfl⟩ | ⟨h1,rfl,v,rfl⟩)
  ·dsimp only
   refine det_ite (fun z=>absurd z (by omega)) (fun hlt=>?_)
   refine det_bind (det_count_asc h0 hA ?_)
   dsimp only
   have hm:=minRun_le n n 0 h0 (by omega)
   refine det_ite (fun hmr=>absurd hmr (by omega)) (fun _=>?_)
   refine det_getC ?_
   dsimp only
   simp only [Array.back?_empty]
   exact det_bind (det_ppush (det_pure (.inr ⟨_,rfl,.inr ⟨by omega,by rw [Nat.zero_add],_,rfl⟩⟩)))
  ·dsimp only
   exact det_ite (fun _=>det_pure (.inl ⟨_,rfl,rfl,v,rfl⟩)) (fun hlt=>absurd (Qh n) hlt)
 ·rintro _ _ (⟨hm,_⟩ | ⟨_,rfl,v,rfl⟩)
  ·omega
  ·exact ⟨rfl,v,rfl⟩
 rintro _ _ ⟨rfl,v,rfl⟩
 dsimp only
 refine det_bind (Det.mono (det_for (fun _ c y=>c=(fun _=>(none,()))/\y=conc (rg n) #[v] g) (fun c y=>c=(fun _=>(none,()))/\y=conc (rg n) #[v] g) ?_ (fun _ _ z=>z) ⟨rfl,rfl⟩) ?_)
 ·rintro j _ _ _ _ ⟨rfl,rfl⟩
  refine det_getC ?_
  dsimp +instances only
  exact det_ite (fun _=>det_pure (.inl ⟨_,rfl,rfl,rfl⟩)) (fun hz=>absurd (show (#[v]:Array (Nat × Nat × Nat)).size<=1 from Qh _) hz)
 ·rintro _ _ ⟨rfl,rfl⟩
  exact det_pure (h _)
end
end L2
namespace L2
open PySem PySem.Spec PyProof.Rows PySem.W
noncomputable def isI:Key->Bool
 | .inl _=>true
 | .inr _=>false
noncomputable def ltK:Key->Key->Bool
 | .inl i,.inl j=>decide (i<j)
 | .inr a,.inr c=>decide (a.cps.toList<c.cps.toList)
 | _,_=>false
noncomputable def ltT:List Key->List Key->Bool
 | a::r,b::q=>if a=b then ltT r q else ltK a b
 | _,_=>false
theorem oneLt_ok {prog:Program} {w:World} {A:Around} {E:Value->Shared->Prop} {fl:Bool} {Q:Bool->Shared->Prop} {s:Shared} {a b:Key} {u v:Value} (ra:RelV (kV a) u) (rb:RelV (kV b) v) (h:isI a=isI b) (q:Q (ltK a b) s):wpAny (model prog w) A (oneLt' fl u v) Q E s:=by
 cases a with
 | inl i =>
  cases b with
  | inr y=>cases h
  | inl j =>
   obtain ⟨t,rfl⟩:=(show ∃ t,u=Value.int i t from ra)
   obtain ⟨t',rfl⟩:=(show ∃ t,v=Value.int j t from rb)
   cases fl with
   | true=>exact kat_lt_int q
   | false=>exact kat_one _ _ (lt_int q)
 | inr x =>
  cases b with
  | inl j=>cases h
  | inr y =>
   obtain ⟨t,rfl⟩:=(show ∃ t,u=Value.str x t from ra)
   obtain ⟨t',rfl⟩:=(show ∃ t,v=Value.str y t from rb)
   cases fl with
   | true=>exact kas_lt_str q
   | false=>exact kat_one _ _ (lt_str q)
theorem katLex_ok {prog:Program} {w:World} {A:Around} {fl:Bool} {Q:Bool->Shared->Prop} {s:Shared}:∀ {a b:List Key} {us vs:List Value} (i:Nat),Vals (a.map kV) us->Vals (b.map kV) vs->a.map isI=b.map isI->Q (ltT a b) s->KatLex prog w A fl false Q (us.zip vs) i s
 | [],[],us,vs,i,ra,rb,h,q=>by cases ra;cases rb;unfold KatLex;exact q
 | [],_::_,us,vs,i,ra,rb,h,q=>by cases h
 | _::_,[],us,vs,i,ra,rb,h,q=>by cases h
 | a::r,b::t,us,vs,i,ra,rb,h,q=>by
  cases ra with
  | @cons _ u _ us ra1 ra2 =>
   cases rb with
   | @cons _ v _ vs rb1 rb2 =>
    simp only [List.map_cons,List.cons.injEq] at h
    show KatLex prog w A fl false Q ((u,v)::us.zip vs) i s
    unfold KatLex
    refine (mixKind prog w).eqBool (kV_is ra1) (kV_is rb1) ?_
    unfold ltT at q
    by_cases e:a=b
    ·rw [if_pos e] at q
     rw [if_pos (Qo e)]
     exact katLex_ok (i+1) ra2 rb2 h.2 q
    ·rw [if_neg e] at q
     rw [if_neg (by rw [Qe e];exact Bool.false_ne_true)]
     exact oneLt_ok ra1 rb1 h.1 q
noncomputable def ordN (ds:List (List Key)) (i j:Nat):Bool:=ltT (ds.getD i []) (ds.getD j [])
noncomputable def pickN (n:Nat) (lt:Nat->Nat->Bool):Array Nat:=rg n
theorem pickN_ent {n:Nat} (lt:Nat->Nat->Bool) (h0:0<n):Ent n (pickN n lt):=rg_ent n
theorem sort_any {prog:Program} {w:World} {A:Around} {E:Value->Shared->Prop} {κ:SortKind} {ks vs:List Value} {lt:Nat->Nat->Bool} {s:Shared} (hl:ks.length=vs.length) (h2:2<=vs.length) (hA:AscN vs.length lt)
  (hc:∀ i j,i<vs.length->j<vs.length->∀ C:Bool->Shared->Prop,C (lt i j) s->kas_ask prog w A κ ks i j C s) :
  wpAny (model prog w) A ((sortRuns').run (SortSt.mk' κ (ks.toArray.zip vs.toArray) #[] 7 none)) (fun r s'=>s'=s/\failedOf r.2=none/\(arrOf r.2).size=vs.length/\arrOf r.2=Array.map (kas_item (ks.toArray.zip vs.toArray)) (pickN vs.length lt)) E s:=by
 unfold pickN
 have est:SortSt.mk' κ (ks.toArray.zip vs.toArray) #[] 7 none=conc (List.toArray (List.range vs.length)) #[] 7 ⟨κ,ks.toArray.zip vs.toArray⟩:=by
  have e:=kas_range (ks.toArray.zip vs.toArray)
  rw [show (ks.toArray.zip vs.toArray).size=vs.length by simp [hl]] at e
  exact congrArg (fun a=>SortSt.mk' κ a #[] 7 none) e.symm
 rw [est]
 rw [kat_ask_eq hl] at hc
 obtain ⟨a,y,⟨pend,rfl⟩,run⟩:=det_runs_asc (n:=vs.length) (lt:=lt) (g:=7) (R:=fun _ y=>∃ pend,y=conc (rg vs.length) pend 7) (by omega) hA fun pend=>⟨pend,rfl⟩
 exact run ⟨κ,ks.toArray.zip vs.toArray⟩ prog w A E s hc (fun r st' s'=>s'=s/\failedOf st'=none/\(arrOf st').size=vs.length/\arrOf st'=Array.map (kas_item (ks.toArray.zip vs.toArray)) (rg vs.length)) ⟨rfl,rfl,by show (Array.map _ _).size=_;rw [Array.size_map];exact rg_size _,rfl⟩
noncomputable def srtI (ds:List (List Key)):List Nat:=if ds.length<2 then List.range ds.length else (pickN ds.length (ordN ds)).toList
noncomputable def srt (ds:List (List Key)) (xs:List V):List V:=(srtI ds).map fun i=>xs.getD i .non
noncomputable def TupsAt (H:Hp) (xs:List V) (ds:List (List Key)):Prop:=xs.length=ds.length/\∀ (i:Nat) (x:V) (d:List Key),xs[i]?=some x->ds[i]?=some d->∃ t,x=.ref t/\H t=some (.tup (d.map kV))
theorem tups_heap {X:Cx} {pins:List (Addr × Obj)} {σ:St} {H:Hp} {s:Shared} (I:Inv X pins σ H s) {t:Addr} {d:List Key} (h:H t=some (.tup (d.map kV))):∃ (o:Obj) (vs:List Value) (n:Nat),s.heap.get? t=some o/\o.cls=.type "tuple"/\o.data=.seq vs.toArray n/\Vals (d.map kV) vs:=by
 obtain ⟨_,its,rv,o,ho,hc,n,hd⟩:=I.hok t _ h
 exact ⟨o,its,n,ho,hc,hd,rv⟩
theorem katTups_of {X:Cx} {pins:List (Addr × Obj)} {σ:St} {H:Hp} {s:Shared} (I:Inv X pins σ H s):∀ {xs:List V} {ds:List (List Key)} {its:List Value},Vals xs its->TupsAt H xs ds->(∀ d∈ds,d≠[])->∃ fs:List Value,KatTups s.heap its fs/\fs.length=ds.length/\∀ (i:Nat) (f:Value) (d:List Key),fs[i]?=some f->ds[i]?=some d->∃ k r,d=k::r/\RelV (kV k) f
 | [],[],_,rv,h,_=>by cases rv;exact ⟨[],KatTups.nil,rfl,fun i f d h=>by simp at h⟩
 | [],_::_,_,_,h,_=>by simp [TupsAt] at h
 | _::_,[],_,_,h,_=>by simp [TupsAt] at h
 | x::xs,d::ds,_,rv,h,hn=>by
  cases rv with
  | @cons _ u _ us r1 r2 =>
   obtain ⟨t,rfl,ht⟩:=h.2 0 x d rfl rfl
   cases (show u=Value.ref t from r1)
   obtain ⟨o,vs,n,ho,hc,hd,rd⟩:=tups_heap I ht
   obtain ⟨fs,k1,k2,k3⟩:=katTups_of I r2 (ds:=ds) ⟨by simpa using h.1,fun i y e a b=>h.2 (i+1) y e a b⟩ fun e he=>hn e (Qm _ he)
   cases d with
   | nil=>exact absurd rfl (hn [] (by simp))
   | cons k r =>
    cases rd with
    | @cons _ f _ gs q1 q2 =>
     refine ⟨f::fs,KatTups.cons ho hc hd (by simp) k1,by simp [k2],fun i g e a b=>?_⟩
     cases i with
     | zero =>
      have e1:f=g:=by simpa using a
      have e2:k::r=e:=by simpa using b
      subst e1 e2
      exact ⟨k,r,rfl,q1⟩
     | succ i=>exact k3 i g e a b
theorem vals_getD:∀ {xs:List V} {vs:List Value},Vals xs vs->∀ i,i<xs.length->RelV (xs.getD i .non) (vs.getD i Value.none)
 | _,_,.nil,i,h=>by simp at h
 | _,_,.cons r1 r2,0,_=>r1
 | _,_,.cons r1 r2,i+1,h=>vals_getD r2 i (by simpa using h)
theorem vals_pick {xs:List V} {vs:List Value} (r:Vals xs vs):∀ p:List Nat,(∀ i∈p,i<xs.length)->Vals (p.map fun i=>xs.getD i .non) (p.map fun i=>vs.getD i Value.none)
 | [],_=>.nil
 | i::p,h=>.cons (vals_getD r i (h i (by simp))) (vals_pick r p fun j hj=>h j (Qm _ hj))
theorem range_pick {α:Type} (d:α):∀ xs:List α,(List.range xs.length).map (fun i=>xs.getD i d)=xs:=by
 intro xs
 refine List.ext_getElem (by simp) fun i h1 h2=>?_
 simp [Qa h2]
section
variable {X:Cx} {pins:List (Addr × Obj)} {σ:St} {H:Hp} {s:Shared} {xs:List V} {ds:List (List Key)} {sh:List Bool}
theorem lsortT {A:Around} {E:Value->Shared->Prop} {a:Addr} {its:List Value} {n:Nat} {P:Fin->Shared->Prop}
  (I:Inv X pins σ H s) (fa:FpOk X pins H a) (ho:s.heap.get? a=some (seqObj "list" its.toArray n)) (rv:Vals xs its) (hz:xs.length<=sizeLine) (hA:AscN ds.length (ordN ds)) (ht:TupsAt H xs ds) (hsh:∀ d∈ds,d.map isI=sh) (hne:sh≠[])
  (fin:∀ (s':Shared) (out:Array Value) (n':Nat),Inv X pins σ H s'->s'.heap.get? a=some (seqObj "list" out n')->out.size<=sizeLine->Vals (srt ds xs) out.toList->P (.done (.ret .none)) s') :
  wpAny (model X.prog X.w) A (Builtin.«list.sort» ⟨[.ref a],[]⟩) P E s:=by
 have hil:its.length=xs.length:=rv.length.symm
 rw [<- hil] at hz
 obtain ⟨f0,f1,f2,f3,f4,f5⟩:=id fa
 rw [list_sort_plain]
 refine Qb (listItems_at ho rfl ?_)
 refine Qb (listUpdate_at ho rfl ?_ (by rw [Qt];exact hz) (by show (#[]:Array Value).size<=_;simp))
 obtain ⟨e1,ho1⟩:∃ e1,(s.heap.update a (Obj.mapSeq fun _=>#[])).get? a=some (seqObj "list" #[] e1):=⟨_,get?_update_seq ho (fun _=>#[])⟩
 have I1:Inv X pins σ H { s with heap:=s.heap.update a (Obj.mapSeq fun _=>#[]) }:=I.turned (t':=s.toks) (fun b o hb e=>by rw [QG _ _ _ _ hb];exact e) f0 f1 f3 f4 f5
 generalize s.heap.update a (Obj.mapSeq fun _=>#[])=h1 at ho1 I1
 refine Qb (seqEpoch_at (s:={ s with heap:=h1 }) ho1 rfl ?_)
 refine Qb (wpAny_newTuple (s:={ s with heap:=h1 }) ?_ (by simpa using hz))
 have ho2:=Qf (seqObj "tuple" its.toArray.toList.toArray 0) ho1
 have I2:Inv X pins σ H { s with heap:=h1.push (seqObj "tuple" its.toArray.toList.toArray 0) }:=I1.kept (t':=s.toks) fun b o e=>Qf _ e
 change wpAny _ _ _ _ _ { s with heap:=h1.push (seqObj "tuple" its.toArray.toList.toArray 0) }
 generalize h1.push (seqObj "tuple" its.toArray.toList.toArray 0)=h2 at ho2 I2
 refine Qb (wpAny_newList (s:={ s with heap:=h2 }) ?_ (by simp))
 have ho3:=Qf (seqObj "list" #[] 0) ho2
 have I3:Inv X pins σ H { s with heap:=h2.push (seqObj "list" #[] 0) }:=I2.kept (t':=s.toks) fun b o e=>Qf _ e
 change wpAny _ _ _ _ _ { s with heap:=h2.push (seqObj "list" #[] 0) }
 generalize h2.push (seqObj "list" #[] 0)=h3 at ho3 I3
 dsimp only
 refine wpAny_holding ?_
 have ho3:({ s with heap:=h3 }:Shared).heap.get? a=some (seqObj "list" #[] e1):=ho3
 generalize { s with heap:=h3 }=s3 at I3 ho3 ⊢
 have last:∀ st':SortSt,failedOf st'=none->((arrOf st').map (·.2)).size<=sizeLine->Vals (srt ds xs) ((arrOf st').map (·.2)).toList->wpAny (model X.prog X.w) A (do
   let __do_lift <- seqEpoch a
   Builtin.List.listUpdate (Value.ref a) fun x=>Array.map (fun x=>x.snd) (arrOf st')
   match failedOf st' with
    | some e=>do
     rule "list.sort.comparison-raised"
     throw e
     if (__do_lift != e1)=true then do
         rule "list.sort.modified"
         raiseErrorWords "ValueError" "list modified during sort"
         ret Value.none
      else ret Value.none
    | x =>
     if (__do_lift != e1)=true then do
      rule "list.sort.modified"
      raiseErrorWords "ValueError" "list modified during sort"
      ret Value.none
     else ret Value.none) P E s3:=by
  intro st' hf hsz hv
  refine Qb (seqEpoch_at ho3 rfl ?_)
  refine Qb (listUpdate_at ho3 rfl ?_ (by simp) (Nat.le_succ_of_le hsz))
  rw [hf]
  simp only [bne_self_eq_false,Bool.false_eq_true,if_false]
  exact Qg (fin _ _ _ (I3.turned (t':=s3.toks) (fun b o hb e=>by rw [QG _ _ _ _ hb];exact e) f0 f1 f3 f4 f5) (get?_update_seq ho3 (fun _=>(arrOf st').map (·.2))) hsz hv)
 have hdl:ds.length=its.length:=by rw [hil];exact ht.1.symm
 by_cases h2:its.toArray.size<2
 ·rw [if_pos h2]
  refine Qb (Qg ?_)
  rw [if_pos h2,StateT.run_pure]
  refine Qb (Qg ?_)
  have e:((arrOf (SortSt.mk' general' (its.toArray.zip its.toArray) #[] 7 none)).map (·.2))=its.toArray:=by
   show (its.toArray.zip its.toArray).map (·.2)=its.toArray
   rw [<- Array.toList_inj]
   simp [List.map_snd_zip]
  refine last _ rfl (by rw [e,Qt];exact hz) ?_
  rw [e]
  rw [Qt] at h2
  unfold srt srtI
  rw [if_pos (by rw [hdl];exact h2),hdl,hil,range_pick]
  exact rv
 ·rw [if_neg h2]
  rw [Qt] at h2
  have hnn:∀ d∈ds,d≠[]:=fun d hd z=>hne (by rw [<- hsh d hd,z];rfl)
  obtain ⟨fs,kt,kl,kf⟩:=katTups_of I3 rv ht hnn
  have hds:2<=its.length:=by omega
  obtain ⟨b0,sh',rfl⟩:∃ b r,sh=b::r:=by
   cases sh with
   | nil=>exact absurd rfl hne
   | cons b r=>exact ⟨b,r,rfl⟩
  refine Qb (kat_kind (T:=if b0=true then Value.type "int" else Value.type "str") kt (by rw [kl,hdl];omega) (fun v hv=>?_) (by cases b0<;>rfl) ?_)
  ·obtain ⟨i,hi⟩:=List.mem_iff_getElem?.mp hv
   have hil2:=(Qc hi).1
   have hid:i<ds.length:=by rw [<- kl];exact hil2
   obtain ⟨k,r,ed,rk⟩:=kf i v ds[i] hi (Qa hid)
   have hs:=hsh ds[i] (QB hid)
   rw [ed,List.map_cons] at hs
   have hb:isI k=b0:=(List.cons.inj hs).1
   cases k with
   | inl m =>
    obtain ⟨t,rfl⟩:=(show ∃ t,v=Value.int m t from rk)
    rw [<- hb]
    exact fun A Q E s _ q=>Qg q
   | inr z =>
    obtain ⟨t,rfl⟩:=(show ∃ t,v=Value.str z t from rk)
    rw [<- hb]
    exact fun A Q E s _ q=>Qg q
  rw [if_neg (by rw [Qt];exact h2)]
  refine Qb (QC (sort_any (vs:=its) (ks:=its) (lt:=ordN ds) rfl hds (hdl ▸ hA) fun i j hi hj C hC=>?_) ?_ fun _ _ e=>e)
  ·have one:∀ i,i<its.length->∃ (t:Addr) (o:Obj) (vs:List Value) (m:Nat),its.getD i Value.none=.ref t/\s3.heap.get? t=some o/\o.data=.seq vs.toArray m/\Vals ((ds.getD i []).map kV) vs/\(ds.getD i []).map isI=b0::sh':=fun i hi=>by
    have hix:i<xs.length:=by rw [<- hil];exact hi
    have hid:i<ds.length:=by rw [hdl];exact hi
    obtain ⟨t,ex,hH⟩:=ht.2 i xs[i] ds[i] (Qa hix) (Qa hid)
    obtain ⟨o,vs,m,ho,hc,hd,rd⟩:=tups_heap I3 hH
    have rg:=vals_getD rv i hix
    have e1:xs.getD i .non=.ref t:=by rw [Qu,Qa hix,ex];rfl
    have e2:ds.getD i []=ds[i]:=by rw [Qu,Qa hid];rfl
    rw [e1] at rg
    exact ⟨t,o,vs,m,rg,ho,hd,by rw [e2];exact rd,by rw [e2];exact hsh _ (QB hid)⟩
   obtain ⟨t1,o1,v1,m1,a1,a2,a3,a4,a5⟩:=one i hi
   obtain ⟨t2,o2,v2,m2,c1,c2,c3,c4,c5⟩:=one j hj
   show wpAny (model X.prog X.w) A (keyLt' _ (its.getD i Value.none) (its.getD j Value.none)) C _ s3
   rw [a1,c1]
   have hl:v1.length=v2.length:=by
    have q1:=a4.length
    have q2:=c4.length
    have q3:=congrArg List.length (a5.trans c5.symm)
    simp only [Qd] at q1 q2 q3
    omega
   refine kat_lt a2 a3 c2 c3 ?_
   rw [Qe (by simp [hl])]
   exact katLex_ok 0 a4 c4 (a5.trans c5.symm) hC
  rintro ⟨⟨⟩,st'⟩ s2 ⟨rfl,hf,hsz,ha⟩
  have hp:Ent its.length (pickN its.length (ordN ds)):=pickN_ent _ (by omega)
  have em:((arrOf st').map (·.2)).toList=(pickN its.length (ordN ds)).toList.map fun i=>its.getD i Value.none:=by
   rw [ha,Array.toList_map,Array.toList_map,List.map_map]
   refine QM fun i _=>?_
   show (kas_item (its.toArray.zip its.toArray) i).2=_
   rw [kat_item rfl]
  refine last st' hf ?_ ?_
  ·rw [Array.size_map,hsz];exact hz
  ·rw [em]
   unfold srt srtI
   rw [if_neg (by rw [hdl];exact h2),hdl]
   exact vals_pick rv _ fun i hi=>by rw [<- hil];exact hp i hi
end
theorem srt_id {ds:List (List Key)} {xs:List V} (h:ds.length=xs.length):srt ds xs=xs:=by
 unfold srt srtI pickN
 split
 ·rw [h,range_pick]
 ·show (List.range ds.length).map _=_
  rw [h,range_pick]
end L2
namespace L2
open PySem PySem.Spec PyProof.Rows
section
variable {prog:Program} {w:World} {A:Around} {E:Value->Shared->Prop} {s:Shared} {it d:Addr} {i ep:Nat} {es:Array DictEntry} {od:Obj}
theorem dkey_next {Q:Option Value->Shared->Prop} (hit:s.heap.IsKeyIter it d i es.size ep) (hod:s.heap.get? d=some od) (hdd:od.data=.dict es ep) (hlt:i<es.size)
  (hQ:∀ h',h'.IsKeyIter it d (i+1) es.size ep->Heap.SameBut it s.heap h'->Q (some es[i].key) { s with heap:=h' }):wpAny (model prog w) A (pyNext (.ref it)) Q E s:=by
 have hT:=hit.typeIs
 obtain ⟨o,ho,hc,hd⟩:=hit
 unfold pyNext
 refine Qb (wpAny_attempt (wpAny_callSpecial?_slot (name:=Str.ofString "__next__") hT F.slot_dict_keyiterator_next (wpAny_call_entry F.slot_dict_keyiterator_next hT F.entry_dict_keyiterator_next ?_ (F.args_dict_keyiterator_next_1 _))))
 refine Qb (Qg (Qb (Qb ?_)))
 first | refine Qb (wpAny_typeNameOfWhole_keyiter hT (Qg (Qb (wpAny_fieldsOf ho hd ?_)))) | refine Qb (wpAny_typeNameOf_keyiter hT (Qg (Qb (wpAny_fieldsOf ho hd ?_))))
 simp only [show Builtin.Dict_items.ownsTuple "dict_keyiterator"=false by decide,Bool.false_eq_true,if_false]
 show wpAny _ _ (if (Value.ref d == Value.none)=true then _ else _) _ _ _
 rw [if_neg (show ¬ (Value.ref d == Value.none)=true from fun z=>by cases z)]
 refine Qb (Qg (Qb (wpAny_dictEntries hod hdd ?_)))
 rw [if_neg (by simp)]
 refine Qb (Qg (Qb (wpAny_dictEpoch hod hdd ?_)))
 rw [if_neg (by simp)]
 refine Qg ?_
 simp only [show ¬ ((i:Int)<0) by omega,if_false,Int.toNat_natCast,Array.getElem?_eq_getElem hlt]
 refine Qb ?_
 first | refine Qb (wpAny_typeNameOfWhole_keyiter hT (Qg (Qb (wpAny_isOneOf_keyiter hT ?_)))) | refine Qb (wpAny_typeNameOf_keyiter hT (Qg (Qb (wpAny_isOneOf_keyiter hT ?_))))
 show wpAny _ _ (setField (.ref it) 1 (rawInt ((i:Int)+1)) >>= _) _ _ _
 refine Qb (wpAny_setField ho hd (by simp) (Qb (wpAny_holding ?_)))
 have hi2:(s.heap.update it (Obj.mapFields (·.setIfInBounds 1 (rawInt ((i:Int)+1))))).IsKeyIter it d (i+1) es.size ep:=by
  refine ⟨_,Heap.get?_update_self _ ho (Obj.isFreed_of_fields (Obj.data_mapFields hd _)),(Obj.cls_mapFields ..).trans hc,?_⟩
  rw [Obj.data_mapFields hd]
  simp [rawInt]
 refine Qb (wpAny_isOneOf_keyiter (s:={ s with heap:=s.heap.update it (Obj.mapFields (·.setIfInBounds 1 (rawInt ((i:Int)+1)))) }) hi2.typeIs ?_)
 show wpAny _ _ (pure es[i].key) _ _ _
 exact Qg (Qg ⟨_,rfl,Qg (hQ _ hi2 (Heap.SameBut.update ..))⟩)
theorem dkey_end {Q:Option Value->Shared->Prop} (hh:A.handled=none) (hit:s.heap.IsKeyIter it d i es.size ep) (hod:s.heap.get? d=some od) (hdd:od.data=.dict es ep) (hge:es.size<=i)
  (hQ:∀ h',Heap.ExtBut it s.heap h'->Q none { s with heap:=h' }):wpAny (model prog w) A (pyNext (.ref it)) Q E s:=by
 have hT:=hit.typeIs
 obtain ⟨o,ho,hc,hd⟩:=hit
 unfold pyNext
 refine Qb (wpAny_attempt (wpAny_callSpecial?_slot (name:=Str.ofString "__next__") hT F.slot_dict_keyiterator_next (wpAny_call_entry F.slot_dict_keyiterator_next hT F.entry_dict_keyiterator_next ?_ (F.args_dict_keyiterator_next_1 _))))
 refine Qb (Qg (Qb (Qb ?_)))
 first | refine Qb (wpAny_typeNameOfWhole_keyiter hT (Qg (Qb (wpAny_fieldsOf ho hd ?_)))) | refine Qb (wpAny_typeNameOf_keyiter hT (Qg (Qb (wpAny_fieldsOf ho hd ?_))))
 simp only [show Builtin.Dict_items.ownsTuple "dict_keyiterator"=false by decide,Bool.false_eq_true,if_false]
 show wpAny _ _ (if (Value.ref d == Value.none)=true then _ else _) _ _ _
 rw [if_neg (show ¬ (Value.ref d == Value.none)=true from fun z=>by cases z)]
 refine Qb (Qg (Qb (wpAny_dictEntries hod hdd ?_)))
 rw [if_neg (by simp)]
 refine Qb (Qg (Qb (wpAny_dictEpoch hod hdd ?_)))
 rw [if_neg (by simp)]
 refine Qg ?_
 simp only [show ¬ ((i:Int)<0) by omega,if_false,Int.toNat_natCast,Array.getElem?_eq_none hge]
 refine Qb ?_
 first | refine Qb (wpAny_typeNameOfWhole_keyiter hT (Qg ?_)) | refine Qb (wpAny_typeNameOf_keyiter hT (Qg ?_))
 show wpAny _ _ (setField (.ref it) 0 .none >>= _) _ _ _
 refine Qb (wpAny_setField ho hd (by simp) ?_)
 show wpAny _ _ (newExc (.type "StopIteration") [] >>= _) _ _ _
 refine Qb ?_
 simp only [newExc,newTuple]
 refine Qb (wpAny_newObj_type (Qb (m:=firstArgMember _ _) (wpAny_of_eq (a:=Value.none) (by first | rfl | (simp only [firstArgMember];rfl)) (wpAny_newObj_type ?_ (by size_fits)))) (by size_fits))
 simp only [raiseNew]
 refine Qb (wpAny_handled ?_)
 rw [show A.in1.handled=none from hh]
 refine (Qb (Qg (wpAny_throw ?_)))
 refine (Qb (wpAny_isInstance (T:="StopIteration") (b:=true) ⟨_,Qs _ rfl,rfl⟩ isSubtype_stop (Qg (hQ _ ?_))))
 exact ((Heap.SameBut.update ..).extBut.push _).push _
theorem dkey_iter {Q:Value->Shared->Prop} (hT:s.TypeIs (.ref d) "dict") (hd:(d == sysModules)=false) (hod:s.heap.get? d=some od) (hdd:od.data=.dict es ep)
  (hQ:Q (.ref s.heap.objs.size) { s with heap:=s.heap.push { cls:=.type "dict_keyiterator",data:=.fields #[.ref d,.int 0 0,.int es.size 0,.int ep 0] } }):wpAny (model prog w) A (pyIter (.ref d)) Q E s:=by
 refine wpAny_pyIter_slot hT F.slot_dict_iter (wpAny_call_entry F.slot_dict_iter hT F.entry_dict_iter ?_ (F.args_dict_iter_1 _))
 unfold Builtin.«dict.__iter__» Builtin.Dict.dictSlotNone
 refine Qb (Qb (wpAny_notOrdered_dict hT ?_))
 show wpAny _ _ (pure (Value.ref d)) _ _ _
 refine Qg ?_
 show wpAny _ _ (Builtin.Dict.showsAll d >>= _) _ _ _
 unfold Builtin.Dict.showsAll
 rw [if_neg (show ¬ (d == sysModules)=true by rw [hd];decide)]
 refine Qb (Qg (Qb (wpAny_dictEntries hod hdd (Qb (wpAny_dictEpoch hod hdd ?_)))))
 refine Qb (wpAny_newObj_type (Qg ⟨_,rfl,"dict_keyiterator",_,⟨_,Qs _ rfl,rfl⟩,F.slot_dict_keyiterator_next.lookup,?_⟩))
 simpa [rawInt] using hQ
end
noncomputable def Itk (d:Addr) (od:Obj):It:=⟨fun i H=>∃ kvs kv,H d=some (.frz od (.dT kvs))/\kvs[i]?=some kv,
 fun i H x H'=>H'=H/\∃ b,x=.ref b/\∀ kvs kv,H d=some (.frz od (.dT kvs))->kvs[i]?=some kv->H b=some (.tup (kv.1.map kV)),fun i H=>∃ kvs,H d=some (.frz od (.dT kvs))/\kvs.length<=i⟩
theorem dt_frz {P:Program} {w:World} {H:Hp} {h:Heap} {d:Addr} {od:Obj} {kvs:List (List Key × V)} {es:Array DictEntry} {ep:Nat} (ok:HOk P w H h) (e:H d=some (.frz od (.dT kvs))) (hdd:od.data=.dict es ep) :
  h.get? d=some od/\es.size=kvs.length/\∀ (i:Nat) (hi:i<es.size) kv,kvs[i]?=some kv->∃ b,es[i].key=.ref b/\H b=some (.tup (kv.1.map kV)):=by
 obtain ⟨hod,_,_,xs,r,o,es',ep',h1,_,h3,h4,_⟩:=(show ObjOk P w H h d (.frz od (.dT kvs)) from ok d _ e)
 rw [hod] at h1
 cases h1
 rw [hdd] at h3
 cases h3
 have hl:es.size=xs.length:=by rw [<- Array.length_toList,h4,Qd]
 refine ⟨hod,by rw [hl];exact (Paired.length r).symm,fun i hi kv hk=>?_⟩
 have hix:i<xs.length:=by omega
 have ek:es[i]=entryOfKey (tupleKind (mixKind P w)) xs[i]:=by
  have:=congrArg (fun l=>l[i]?) h4
  simp only [Qk,Qa hix] at this
  rw [Array.getElem?_toList,Array.getElem?_eq_getElem hi] at this
  exact Ql this
 have pr:∀ {l:List (List Key × V)} {m:List (List Key × Addr × Value)},Paired (fun (p:List Key × V) (q:List Key × Addr × Value)=>p.1=q.1/\H q.2.1=some (.tup (p.1.map kV))/\RelV p.2 q.2.2) l m->∀ (i:Nat) p q,l[i]?=some p->m[i]?=some q->H q.2.1=some (.tup (p.1.map kV)):=by
  intro l m pq
  induction pq with
  | nil=>intro i p q h;simp at h
  | cons hq _ ih =>
   intro i p q h1 h2
   cases i with
   | zero =>
    simp only [List.getElem?_cons_zero,Option.some.injEq] at h1 h2
    subst h1 h2
    exact hq.2.1
   | succ j =>
    simp only [List.getElem?_cons_succ] at h1 h2
    exact ih j p q h1 h2
 exact ⟨xs[i].2.1,by rw [ek];rfl,pr r i kv xs[i] hk (Qa hix)⟩
theorem turn_dkey {P:Program} {w:World} {K:PySem.W.Frag} {tg:Expr} (d it:Addr) {od:Obj} {es:Array DictEntry} {ep:Nat} (hdd:od.data=.dict es ep):Turn P w K tg (Itk d od) [it] it (fun i h=>h.IsKeyIter it d i es.size ep) where
 mem:=by simp
 obj:=fun i h st b hb=>by
  have e:b=it:=by simpa using hb
  subst e
  obtain ⟨o,e,c,dd⟩:=st
  exact ⟨o,e,fun v z=>by rw [dd] at z;cases z⟩
 keep:=fun i h h' st k=>st.at fun o e=>k it (by simp) o e
 item:=by
  intro X hP hw hK hc i pins s σ H E I hf st hg
  subst hP hw hK
  obtain ⟨kvs,kv,he,hk⟩:=hg
  obtain ⟨hod,hsz,hat⟩:=dt_frz I.hok he hdd
  have hlt:i<es.size:=by rw [hsz];exact (Qc hk).1
  obtain ⟨b,eb,hb⟩:=hat i hlt kv hk
  obtain ⟨f0,f1,f2,f3,f4,f5⟩:=hf it (by simp)
  refine dkey_next st hod hdd hlt fun h' st' sb=>?_
  have I1:Inv X pins σ H { s with heap:=h' }:=I.turned (t':=s.toks) (fun b o hb e=>(sb.2 b hb).trans e) f0 f1 f3 f4 f5
  obtain ⟨o,e,c,dd⟩:=id st'
  rw [eb]
  exact ⟨_,rfl,go_of (s:={ s with heap:=h' }) e c dd (by decide) ⟨.ref b,H,I1,rfl,⟨rfl,b,rfl,fun kvs' kv' h1 h2=>by rw [he] at h1;cases h1;rw [hk] at h2;cases h2;exact hb⟩,st',fun b hb=>(hf b hb).1⟩⟩
 done:=by
  intro X hP hw hK hc i pins s σ H E I hf st hg
  subst hP hw hK
  obtain ⟨kvs,he,hx⟩:=hg
  obtain ⟨hod,hsz,_⟩:=dt_frz I.hok he hdd
  obtain ⟨f0,f1,f2,f3,f4,f5⟩:=hf it (by simp)
  exact dkey_end (I.ok.hd hc) st hod hdd (by omega) fun h' eb=>⟨rfl,I.turned (t':=s.toks) (fun b o hb e=>eb b o hb e) f0 f1 f3 f4 f5⟩
 self:=fun _ _ _ _ _ st h=>wpAny_pyIter_keyiter st h
noncomputable def iDKey (tl:TE):TI:=fun σ H R=>tl σ H fun x H1=>∃ d kvs,x=.ref d/\H1 d=some (.dT kvs)/\∀ od,R (Itk d od) (upd H1 d (.frz od (.dT kvs)))
section
variable {X:Cx} {tg:Expr}
theorem Inv.freeze {pins:List (Addr × Obj)} {σ:St} {H:Hp} {s:Shared} {d:Addr} {kvs:List (List Key × V)} {od:Obj} (I:Inv X pins σ H s) (e:H d=some (.dT kvs)) (ho:s.heap.get? d=some od):Inv X pins σ (upd H d (.frz od (.dT kvs))) s:=by
 have h0:∀ {t:Nat},Inv X pins σ (upd H d (.frz od (.dT kvs))) { s with heap:=s.heap,toks:=t }:=by
  intro t
  refine I.write (x:=d) (e:=d) (by rw [e];trivial) (.inl rfl) (fun b q hb z=>z) ⟨_,ho⟩ ⟨ho,?_⟩
  have q:=I.hok d _ e
  exact q.stay (fun _ _ _ z=>z) (fun c z=>by rw [upd_ne (fun y=>by rw [y,e] at z;cases z)];exact z) fun c xs z=>by rw [upd_ne (fun y=>by rw [y,e] at z;cases z)];exact z
 exact h0 (t:=s.toks)
theorem pi_dkey {l:Expr} {tl:TE} (hl:PE X l tl):PI X tg l (iDKey tl):=by
 intro pins s σ H R I h
 refine thn (hl pins s σ H _ I h) fun v s1 hsl78=>?_
 obtain ⟨x,H1,I1,r1,q1⟩:=hsl78
 obtain ⟨d,kvs,e,hd,q⟩:=q1
 subst e
 cases r1
 obtain ⟨z,hs,xs,rel,dd⟩:=dt_of I1.hok hd
 have hT:=dd.typeIs
 obtain ⟨od,es,ep,ho,_,hdat,_⟩:=dd
 have I2:=I1.freeze hd ho
 refine dkey_iter hT hs ho hdat ?_
 refine ⟨s1.heap.objs.size,[s1.heap.objs.size],_,_,_,rfl,I2.kept (t':=s1.toks) fun b o e=>Qf _ e,turn_dkey d _ hdat,⟨_,Qs _ rfl,rfl,rfl⟩,fun b hb=>?_,q od⟩
 have e:b=s1.heap.objs.size:=by simpa using hb
 subst e
 exact I2.fpOk (Qh _) (I2.hok.fresh (Qh _))
end
theorem comp_dkey {js:List Nat} {tt:TT} {te:TE} {d:Addr} {od:Obj} {kvs:List (List Key × V)} {σ:St} {H:Hp} {Q:VK} (Pv:Nat->List V->Hp->Prop) (h0:Pv 0 [] H) (hl:∀ i ys H,i<=kvs.length->Pv i ys H->H d=some (.frz od (.dT kvs)))
  (hs:∀ i kv b ys H,kvs[i]?=some kv->Pv i ys H->H b=some (.tup (kv.1.map kV))->tt (some (.ref b)::pick js σ) H fun c H2=>if c=true then te (some (.ref b)::pick js σ) H2 fun y H3=>ys.length<sizeLine/\Pv (i+1) (ys++[y]) H3 else Pv (i+1) ys H2)
  (hd:∀ ys H,Pv kvs.length ys H->∀ p,H p=none->Q (.ref p) (upd H p (.lst ys))):tCompB (Itk d od) js tt te σ H Q:=by
 refine ⟨fun i m ys H=>m=kvs.length-i/\i<=kvs.length/\Pv i ys H,⟨kvs.length,by simp,Qr _,h0⟩,?_⟩
 rintro i m ys H ⟨rfl,hi,p⟩
 have q:=hl i ys H hi p
 by_cases hlt:i<kvs.length
 ·refine .inr ⟨⟨kvs,kvs[i],q,by simp [hlt]⟩,Pv (i+1),fun ys' H' p'=>⟨kvs.length-(i+1),by omega,rfl,hlt,p'⟩,fun x H' y=>?_⟩
  obtain ⟨e,b,rfl,y⟩:=y
  subst e
  exact hs i kvs[i] b ys _ (Qa hlt) p (y kvs kvs[i] q (Qa hlt))
 ·have e:i=kvs.length:=by omega
  subst e
  exact .inl ⟨⟨kvs,q,Qh _⟩,hd ys H p⟩
end L2
namespace L2
open PySem PySem.Spec PyProof.Rows PySem.W
theorem kdl_raw {prog:Program} {w:World} {d:Addr} {od:Obj} {es:Array DictEntry} {ep:Nat} (hc:od.cls=.type "dict") (hdd:od.data=.dict es ep) (hs:(d == sysModules)=false) :
  KdlSrc prog w "dict" d d es.size (fun i v=>∃ h:i<es.size,v=es[i].key) (fun h=>h.get? d=some od) where
 type:=fun s h=>⟨od,h,hc⟩
 there:=fun h e=>⟨Qn e,Qn e⟩
 keep:=fun h h' e k=>k d (.inl rfl) _ e
 notList:=by decide
 notTuple:=by decide
 hint:=fun A E s Q h q=>kdl_hint_dict ⟨od,h,hc⟩ q
 iter:=fun A s hh h=>by
  refine ⟨_,fun i h'=>h'.IsKeyIter s.heap.objs.size d i es.size ep/\h'.get? d=some od,fun E Q q=>dkey_iter ⟨od,h,hc⟩ hs h hdd q,?_,?_⟩
  ·have hne:d≠s.heap.objs.size:=Qw (Qn h)
   refine ⟨fun b hb=>List.mem_cons.mpr (.inl (by simpa using hb)),fun i h1 h2 st k=>⟨st.1.at fun o e=>k _ (by simp) o e,k d (by simp) _ st.2⟩,?_,?_,?_⟩
   ·intro i s1 Q E hi st q
    refine dkey_next st.1 st.2 hdd hi fun h' st' sb=>?_
    exact q _ h' s1.toks ⟨hi,rfl⟩ ⟨st',(sb.2 d hne).trans st.2⟩ fun b o hb e=>(sb.2 b (by simpa using hb)).trans e
   ·intro s1 Q E st q
    refine dkey_end hh st.1 st.2 hdd (Qh _) fun h' eb=>?_
    exact q h' s1.toks fun b o hb e=>eb b o (by simpa using hb) e
   ·intro i s1 Q E st q
    exact wpAny_pyIter_keyiter st.1 q
  ·exact ⟨⟨_,Qs _ rfl,rfl,rfl⟩,Qf _ h⟩
section
variable {X:Cx}
theorem call_sortedD (hc:X.calm=true):CallR X (.builtin "sorted") (fun as H Q=>∃ (d:Addr) (kvs:List (List Key × V)) (sh:List Bool),as=[.ref d]/\H d=some (.dT kvs)/\kvs.length<1000/\AscN (kvs.map (·.1)).length (ordN (kvs.map (·.1)))/\(∀ kv∈kvs,kv.1.map isI=sh)/\sh≠[] /\
  ∀ p xs,H p=none->TupsAt H xs (kvs.map (·.1))->Q (.ref p) (upd H p (.lst (srt (kvs.map (·.1)) xs)))):=by
 intro pins s σ H as us Q I r h
 obtain ⟨d,kvs,sh,rfl,hd,h64,hA,hsh,hne,q⟩:=h
 obtain ⟨u,rfl,ru⟩:=vals1 r
 cases (show u=Value.ref d from ru)
 obtain ⟨z,hs,ys,rel,dd⟩:=dt_of I.hok hd
 have hT:=dd.typeIs
 obtain ⟨od,es,ep,ho,hcl,hdat,_⟩:=dd
 have hcl:od.cls=.type "dict":=by
  obtain ⟨o,e,c⟩:=hT
  rw [ho] at e
  cases e
  exact c
 have If:=I.freeze hd ho
 obtain ⟨_,hsz,hat⟩:=dt_frz If.hok upd_same hdat
 refine Calls.call_function_entry kind_sorted plain_sorted entry_sorted (args_sorted1 _) ?_
 unfold Builtin.«sorted»
 refine Qb (m:=checkCount "sorted" 1 1 _) (Qg ?_)
 refine Qb (kdu_collect (kdl_raw hcl hdat hs) (I.ok.hd hc) ho (by rw [hsz,sizeLine_eq];omega) fun h1 tk acc hk hacc=>?_)
 obtain ⟨hal,hav⟩:=hacc
 have I1:Inv X pins σ H { s with heap:=h1,toks:=tk }:=I.kept (t':=tk) hk
 have each:∀ (i:Nat) (v:Value),acc.toList[i]?=some v->∃ b kv,v=.ref b/\kvs[i]?=some kv/\H b=some (.tup (kv.1.map kV)):=fun i v hv=>by
  rw [Array.getElem?_toList] at hv
  obtain ⟨hi,rfl⟩:=hav i v hv
  have hik:i<kvs.length:=by rw [<- hsz];exact hi
  obtain ⟨b,e1,e2⟩:=hat i hi kvs[i] (Qa hik)
  have hbd:b≠d:=fun z=>by rw [z,upd_same] at e2;cases e2
  rw [upd_ne hbd] at e2
  exact ⟨b,kvs[i],e1,Qa hik,e2⟩
 obtain ⟨xs,rv,hxt⟩:∃ xs:List V,Vals xs acc.toList/\∀ (i:Nat) (x:V),xs[i]?=some x->∃ b kv,x=.ref b/\kvs[i]?=some kv/\H b=some (.tup (kv.1.map kV)):=by
  have go:∀ (vs:List Value) (f:Nat->Option (List Key × V)),(∀ (i:Nat) (v:Value),vs[i]?=some v->∃ b kv,v=.ref b/\f i=some kv/\H b=some (.tup (kv.1.map kV)))->∃ xs:List V,Vals xs vs/\∀ (i:Nat) (x:V),xs[i]?=some x->∃ b kv,x=.ref b/\f i=some kv/\H b=some (.tup (kv.1.map kV)):=by
   intro vs
   induction vs with
   | nil=>intro f _;exact ⟨[],.nil,fun i x h=>by simp at h⟩
   | cons v vs ih =>
    intro f h
    obtain ⟨b,kv,rfl,e2,e3⟩:=h 0 v rfl
    obtain ⟨xs,r1,r2⟩:=ih (fun i=>f (i+1)) fun i v hv=>h (i+1) v hv
    refine ⟨.ref b::xs,.cons rfl r1,fun i x hx=>?_⟩
    cases i with
    | zero =>
     have:V.ref b=x:=by simpa using hx
     subst this
     exact ⟨b,kv,rfl,e2,e3⟩
    | succ i=>exact r2 i x hx
  exact go acc.toList (fun i=>kvs[i]?) each
 have hxl:xs.length=kvs.length:=by rw [rv.length,Array.length_toList,hal,hsz]
 have ht:TupsAt H xs (kvs.map (·.1)):=⟨by rw [hxl,Qd],fun i x k hx hk=>by
  obtain ⟨b,kv,e1,e2,e3⟩:=hxt i x hx
  rw [Qk,e2] at hk
  have:kv.1=k:=by simpa using hk
  exact ⟨b,e1,by rw [<- this];exact e3⟩⟩
 have hsh2:∀ k∈kvs.map (·.1),k.map isI=sh:=fun k hk=>by
  obtain ⟨kv,h1,rfl⟩:=Qy hk
  exact hsh kv h1
 have h64x:xs.length<1000:=by rw [hxl];exact h64
 generalize acc.toList=its at rv
 have hil:its.length=xs.length:=rv.length.symm
 have hz:its.length<=sizeLine:=by rw [sizeLine_eq];omega
 refine Qb (wpAny_newList (s:={ s with heap:=h1,toks:=tk }) ?_ hz)
 have hoL:(h1.push (seqObj "list" its.toArray 0)).get? h1.objs.size=some (seqObj "list" its.toArray 0):=Qs _ rfl
 have I2:Inv X pins σ H { s with heap:=h1.push (seqObj "list" its.toArray 0),toks:=tk }:=I1.kept (t':=tk) fun b o e=>Qf _ e
 have fL:FpOk X pins H h1.objs.size:=I1.fpOk (Qh _) (I1.hok.fresh (Qh _))
 change wpAny _ _ _ _ _ { s with heap:=h1.push (seqObj "list" its.toArray 0),toks:=tk }
 dsimp only
 generalize h1.push (seqObj "list" its.toArray 0)=h2 at hoL I2
 generalize h1.objs.size=L at hoL fL
 refine Qb (wpAny_holding (wpAny_call_entry (s:={ s with heap:=h2,toks:=tk }) slot_list_sort ⟨_,hoL,rfl⟩ entry_list_sort (lsortT I2 fL hoL rv (by rw [<- hil];exact hz) hA ht hsh2 hne fun s' out n' I' hoa hos vy=>⟨_,rfl,?_⟩) (args_list_sort _)))
 refine Qg ⟨_,rfl,.ref L,upd H L (.lst (srt (kvs.map (·.1)) xs)),I'.adopt fL ?_,rfl,q L xs fL.1 ht⟩
 have hyl:(srt (kvs.map (·.1)) xs).length<=sizeLine:=by rw [vy.length,Array.length_toList];exact hos
 exact ⟨hyl,out.toList,n',vy,by simpa using hoa⟩
end
end L2
namespace L2
open PySem PySem.Spec PyProof.Rows PySem.W
section
variable {X:Cx} {k:Nat} {f:Addr} {fd:FuncData} {ps:List Str} {sp:Sp} {dvs:List V} {ds:List Value} {pins:List (Addr × Obj)} {σ:St} {H:Hp} {s:Shared} {xs:List V} {ds':List (List Key)} {sh:List Bool}
theorem lsort_treeT {A:Around} {E:Value->Shared->Prop} {a:Addr} {its:List Value} {n:Nat} {P:Fin->Shared->Prop} (F:FnOk X.prog X.w X.K X.mg X.base CX0 k f fd ps sp) (hr:Room k A)
  (hA:∀ s H,Env0 X.prog X.w X.K X.mg X.base X.A X.stack s H->Env0 X.prog X.w X.K X.mg X.base A X.stack s H) (hb:Binds X.K fd ps ds) (hd:Vals dvs ds)
  (I:Inv X pins σ H s) (fa:FpOk X pins H a) (ho:s.heap.get? a=some (seqObj "list" its.toArray n)) (rv:Vals xs its) (h64:xs.length<1000) (hAs:AscN ds'.length (ordN ds')) (hl:ds'.length=xs.length) (hsh:∀ d∈ds',d.map isI=sh) (hne:sh≠[])
  (hk:∀ (i:Nat) (x:V) (d:List Key) (H':Hp),Same H H'->xs[i]?=some x->ds'[i]?=some d->∀ Q':VK,(∀ t H2,Same H' H2->H2 t=some (.tup (d.map kV))->Q' (.ref t) H2)->sp ([x]++dvs) H' Q' E0)
  (fin:∀ (s':Shared) (H':Hp) (out:Array Value) (n':Nat),Same H H'->H' a=none->Inv X pins σ H' s'->s'.heap.get? a=some (seqObj "list" out n')->out.size<=sizeLine->Vals (srt ds' xs) out.toList->P (.done (.ret .none)) s') :
  wpAny (model X.prog X.w) A (Builtin.«list.sort» ⟨[.ref a],[(Str.ofString "key",.ref f)]⟩) P E s:=by
 have hil:its.length=xs.length:=rv.length.symm
 have hz:its.length<=sizeLine:=by rw [sizeLine_eq];omega
 obtain ⟨f0,f1,f2,f3,f4,f5⟩:=id fa
 rw [lsort_key]
 refine Qb (listItems_at ho rfl ?_)
 refine Qb (listUpdate_at ho rfl ?_ (by rw [Qt];exact hz) (by show (#[]:Array Value).size<=_;simp))
 obtain ⟨e1,ho1⟩:∃ e1,(s.heap.update a (Obj.mapSeq fun _=>#[])).get? a=some (seqObj "list" #[] e1):=⟨_,get?_update_seq ho (fun _=>#[])⟩
 have I1:Inv X pins σ H { s with heap:=s.heap.update a (Obj.mapSeq fun _=>#[]) }:=I.turned (t':=s.toks) (fun b o hb e=>by rw [QG _ _ _ _ hb];exact e) f0 f1 f3 f4 f5
 generalize s.heap.update a (Obj.mapSeq fun _=>#[])=h1 at ho1 I1
 refine Qb (seqEpoch_at (s:={ s with heap:=h1 }) ho1 rfl ?_)
 refine Qb (wpAny_newTuple (s:={ s with heap:=h1 }) ?_ (by simpa using hz))
 have ho2:=Qf (seqObj "tuple" its.toArray.toList.toArray 0) ho1
 have I2:Inv X pins σ H { s with heap:=h1.push (seqObj "tuple" its.toArray.toList.toArray 0) }:=I1.kept (t':=s.toks) fun b o e=>Qf _ e
 change wpAny _ _ _ _ _ { s with heap:=h1.push (seqObj "tuple" its.toArray.toList.toArray 0) }
 generalize h1.push (seqObj "tuple" its.toArray.toList.toArray 0)=h2 at ho2 I2
 refine Qb (wpAny_newList (s:={ s with heap:=h2 }) ?_ (by simp))
 have ho3:=Qf (seqObj "list" #[] 0) ho2
 have hK3:(h2.push (seqObj "list" #[] 0)).get? h2.objs.size=some (seqObj "list" #[] 0):=Qs _ rfl
 have fK:FpOk X pins H h2.objs.size:=I2.fpOk (Qh _) (I2.hok.fresh (Qh _))
 have naK:a≠h2.objs.size:=Qw (Qn ho2)
 have I3:Inv X pins σ H { s with heap:=h2.push (seqObj "list" #[] 0) }:=I2.kept (t':=s.toks) fun b o e=>Qf _ e
 change wpAny _ _ _ _ _ { s with heap:=h2.push (seqObj "list" #[] 0) }
 generalize h2.push (seqObj "list" #[] 0)=h3 at ho3 hK3 I3
 dsimp only
 generalize h2.objs.size=K at hK3 fK naK
 obtain ⟨g0,g1,g2,g3,g4,g5⟩:=id fK
 refine wpAny_holding ?_
 refine Qb (wpAny_rule ?_)
 refine Qb ?_
 rw [<- Array.forIn_toList]
 refine wpAny_forIn_list _ (fun rest _ s'=>∃ (i:Nat) (kv:List Value) (kx:List V) (n':Nat) (H':Hp),rest=its.drop i/\Same H H'/\H' a=none/\H' K=none/\Inv X pins σ H' s'/\s'.heap.get? a=some (seqObj "list" #[] e1)/\s'.heap.get? K=some (seqObj "list" kv.toArray n')/\Vals kx kv/\TupsAt H' kx (ds'.take i)/\i<=its.length) _ ?_ ?_ _ _
  ⟨0,[],[],0,H,by simp,Same.refl _,f0,g0,I3,ho3,hK3,.nil,⟨by simp,fun i x d h=>by simp at h⟩,Qr _⟩
 ·rintro x rest b s' ⟨i,kv,kx,n',H1,er,sm,na1,nK1,I',hoa,hoK,rk,tk,hi⟩
  have hlt:i<its.length:=by
   have:=congrArg List.length er
   simp at this
   omega
  have e2:its[i]?=some x/\its.drop (i+1)=rest:=by
   rw [List.drop_eq_getElem_cons hlt] at er
   obtain ⟨z1,z2⟩:=List.cons.inj er
   exact ⟨by rw [Qa hlt,z1],z2.symm⟩
  have hix:i<xs.length:=by omega
  have hik:i<ds'.length:=by omega
  obtain ⟨u,eu,ru⟩:=rv.get (Qa hix)
  rw [e2.1] at eu
  cases eu
  have r1:Vals ([xs[i]]++dvs) ([x]++ds):=Vals.append (.cons ru .nil) hd
  have hsp:=hk i xs[i] ds'[i] H1 sm (Qa hix) (Qa hik) (fun v H2=>∃ t,v=.ref t/\Same H1 H2/\H2 t=some (.tup (ds'[i].map kV))) fun t H2 a b=>⟨t,rfl,a,b⟩
  have hlen:([x]++ds).length=ps.length:=by rw [<- r1.length];exact F.len _ _ _ _ hsp
  have ho2':∀ b∈[a,K],∃ o,s'.heap.get? b=some o/\∀ v,o.data≠.cell v:=by
   intro b hb
   rcases Qi hb with z | z
   ·subst z;exact ⟨_,hoa,fun v z=>nomatch z⟩
   ·have z:b=K:=by simpa using z
    subst z;exact ⟨_,hoK,fun v z=>nomatch z⟩
  have hf2:∀ b∈[a,K],FpOk X pins H1 b:=by
   intro b hb
   rcases Qi hb with z | z
   ·subst z;exact ⟨na1,fa.2⟩
   ·have z:b=K:=by simpa using z
    subst z;exact ⟨nK1,fK.2⟩
  have Ip:=I'.pinned hf2 ho2'
  refine Qb (wpAny_attempt ?_)
  refine wpAny_call (codeAny_mono (F.run A X.stack s' H1 ⟨[x],[]⟩ ([x]++ds) ([xs[i]]++dvs) _ E0 hr (hA _ _ I'.env0) (hb s' [x] I'.kIn hlen) r1 hsp) fun r s2 hq=>?_)
  cases r with
  | error e=>exact False.elim hq
  | ok fl =>
   cases fl with
   | next=>exact False.elim hq
   | brk=>exact False.elim hq
   | cont=>exact False.elim hq
   | ret u =>
    obtain ⟨v,H2,os,bare,un,hok,rr,t,ev,sm2,ht2⟩:=(show CE X.stack X.prog X.w H1 s' _ u s2 from hq)
    subst ev
    cases (show u=Value.ref t from rr)
    have I2':=Ip.call' os un hok bare (fun b z=>absurd z (by simp))
    have pa:=I2'.pin (a,_) (List.mem_append_right _ (List.mem_append_right _ (mem_pinsAt (by simp) hoa)))
    have pK:=I2'.pin (K,_) (List.mem_append_right _ (List.mem_append_right _ (mem_pinsAt (by simp) hoK)))
    have hoa2:=pa.1
    have hoK2:=pK.1
    have I3':=I2'.unpinned
    have hxl:kx.length=i:=by
     have:=tk.1
     rw [QE] at this
     omega
    have hkl:kv.length<=1000:=by
     have:=rk.length
     omega
    dsimp only
    refine Qb (listUpdate_at hoK2 rfl ?_ (by rw [Qt,sizeLine_eq];omega) (by rw [Array.size_push,Qt,sizeLine_eq];omega))
    obtain ⟨n2,hn2⟩:∃ n2,(s2.heap.update K (Obj.mapSeq (·.push (Value.ref t)))).get? K=some (seqObj "list" (kv++[Value.ref t]).toArray n2):=⟨_,(get?_update_seq hoK2 (·.push (Value.ref t))).trans (by rw [List.push_toArray])⟩
    refine Qg ⟨i+1,kv++[Value.ref t],kx++[.ref t],n2,H2,e2.2.symm,sm.trans sm2,pa.2.1,pK.2.1,I3'.turned (t':=s2.toks) (fun b o hb e=>by rw [QG _ _ _ _ hb];exact e) pK.2.1 g1 g3 g4 g5,?_,hn2,rk.append (.cons (show RelV (.ref t) (Value.ref t) from rfl) .nil),?_,hlt⟩
    ·show (s2.heap.update K _).get? a=_
     rw [QG _ _ _ _ naK];exact hoa2
    ·rw [QF hik]
     refine ⟨by simp only [Qj,QE,List.length_cons,List.length_nil];omega,fun j y d hy hd'=>?_⟩
     by_cases hj:j<i
     ·rw [Qv (by omega)] at hy
      rw [Qv (by rw [QE];omega)] at hd'
      obtain ⟨t',a1,a2⟩:=tk.2 j y d hy hd'
      exact ⟨t',a1,sm2 _ _ a2⟩
     ·rw [Qq (by omega)] at hy
      rw [Qq (by rw [QE];omega)] at hd'
      have hj2:=(Qc hy).1
      have hji:j-kx.length=0:=by simp at hj2;omega
      rw [hji] at hy
      rw [show j-(List.take i ds').length=0 by rw [QE];omega] at hd'
      have y1:V.ref t=y:=by simpa using hy
      have d1:ds'[i]=d:=by simpa using hd'
      exact ⟨t,y1.symm,by rw [<- d1];exact ht2⟩
 ·rintro b s' ⟨i,kv,kx,n',H1,er,sm,na1,nK1,I',hoa,hoK,rk,tk,hi⟩
  have hi':i=its.length:=by
   have:=congrArg List.length er
   simp at this
   omega
  have tk':TupsAt H1 kx ds':=by
   rw [hi',List.take_of_length_le (by omega)] at tk
   exact tk
  have hkl:kv.length=its.length:=by rw [<- rk.length,tk'.1];omega
  clear tk er hi hi'
  have hdl:ds'.length=its.length:=by omega
  refine Qb (listItems_at hoK rfl ?_)
  have last:∀ st':SortSt,failedOf st'=none->((arrOf st').map (·.2)).size=its.length->Vals (srt ds' xs) ((arrOf st').map (·.2)).toList->wpAny (model X.prog X.w) A (do
    Builtin.List.listUpdate (.ref K) fun _=>#[]
    letGo ((arrOf st').map (·.1)).toList (failedOf st').toList
    let touched:=(<- seqEpoch a) != e1
    Builtin.List.listUpdate (.ref a) fun _=>(arrOf st').map (·.2)
    if let some e:=failedOf st' then rule "list.sort.comparison-raised";throw e
    if touched then rule "list.sort.modified";raiseError "ValueError" "list modified during sort"
    ret .none) P E s':=by
   intro st' hf hsz vy
   refine Qb (listUpdate_at hoK rfl ?_ (by rw [Qt];omega) (by show (#[]:Array Value).size<=_;simp))
   refine Qb (wpAny_letGo ?_)
   have hoa2:(s'.heap.update K (Obj.mapSeq fun _=>#[])).get? a=some (seqObj "list" #[] e1):=by rw [QG _ _ _ _ naK];exact hoa
   have I2:Inv X pins σ H1 { s' with heap:=s'.heap.update K (Obj.mapSeq fun _=>#[]) }:=I'.turned (t':=s'.toks) (fun b o hb e=>by rw [QG _ _ _ _ hb];exact e) nK1 g1 g3 g4 g5
   refine Qb (seqEpoch_at (s:={ s' with heap:=s'.heap.update K (Obj.mapSeq fun _=>#[]) }) hoa2 rfl ?_)
   refine Qb (listUpdate_at (s:={ s' with heap:=s'.heap.update K (Obj.mapSeq fun _=>#[]) }) hoa2 rfl ?_ (by simp) (by rw [hsz];omega))
   rw [hf]
   simp only [bne_self_eq_false,Bool.false_eq_true,if_false]
   exact Qg (fin _ H1 _ _ sm na1 (I2.turned (t':=s'.toks) (fun b o hb e=>by rw [QG _ _ _ _ hb];exact e) na1 f1 f3 f4 f5) (get?_update_seq hoa2 (fun _=>(arrOf st').map (·.2))) (by show ((arrOf st').map (·.2)).size<=_;rw [hsz];exact hz) vy)
  by_cases h2:its.toArray.size<2
  ·rw [if_pos h2,if_pos h2]
   refine Qb (Qg ?_)
   rw [StateT.run_pure]
   refine Qb (Qg ?_)
   have e:((arrOf (SortSt.mk' general' (kv.toArray.zip its.toArray) #[] 7 none)).map (·.2))=its.toArray:=by
    show (kv.toArray.zip its.toArray).map (·.2)=its.toArray
    rw [<- Array.toList_inj]
    simp [List.map_snd_zip,hkl]
   refine last _ rfl (by rw [e,Qt]) ?_
   rw [e]
   rw [Qt] at h2
   unfold srt srtI
   rw [if_pos (by rw [hdl];exact h2),hdl,hil,range_pick]
   exact rv
  ·rw [if_neg h2,if_neg h2]
   rw [Qt] at h2
   have hnn:∀ d∈ds',d≠[]:=fun d hd z=>hne (by rw [<- hsh d hd,z];rfl)
   obtain ⟨fs,kt,kl,kf⟩:=katTups_of I' rk tk' hnn
   have hds:2<=its.length:=by omega
   obtain ⟨b0,sh',rfl⟩:∃ b r,sh=b::r:=by
    cases sh with
    | nil=>exact absurd rfl hne
    | cons b r=>exact ⟨b,r,rfl⟩
   refine Qb (kat_kind (T:=if b0=true then Value.type "int" else Value.type "str") kt (by rw [kl,hdl];omega) (fun v hv=>?_) (by cases b0<;>rfl) ?_)
   ·obtain ⟨i,hi⟩:=List.mem_iff_getElem?.mp hv
    have hil2:=(Qc hi).1
    have hid:i<ds'.length:=by rw [<- kl];exact hil2
    obtain ⟨k,r,ed,rk⟩:=kf i v ds'[i] hi (Qa hid)
    have hs:=hsh ds'[i] (QB hid)
    rw [ed,List.map_cons] at hs
    have hb:isI k=b0:=(List.cons.inj hs).1
    cases k with
    | inl m =>
     obtain ⟨t,rfl⟩:=(show ∃ t,v=Value.int m t from rk)
     rw [<- hb]
     exact fun A Q E s _ q=>Qg q
    | inr z =>
     obtain ⟨t,rfl⟩:=(show ∃ t,v=Value.str z t from rk)
     rw [<- hb]
     exact fun A Q E s _ q=>Qg q
   refine Qb (QC (sort_any (vs:=its) (ks:=kv) (lt:=ordN ds') hkl hds (hdl ▸ hAs) fun i j hi hj C hC=>?_) ?_ fun _ _ e=>e)
   ·have one:∀ i,i<its.length->∃ (t:Addr) (o:Obj) (vs:List Value) (m:Nat),kv.getD i Value.none=.ref t/\s'.heap.get? t=some o/\o.data=.seq vs.toArray m/\Vals ((ds'.getD i []).map kV) vs/\(ds'.getD i []).map isI=b0::sh':=fun i hi=>by
     have hix:i<kx.length:=by rw [tk'.1,hdl];exact hi
     have hid:i<ds'.length:=by rw [hdl];exact hi
     obtain ⟨t,ex,hH⟩:=tk'.2 i kx[i] ds'[i] (Qa hix) (Qa hid)
     obtain ⟨o,vs,m,ho,hc,hd,rd⟩:=tups_heap I' hH
     have rg:=vals_getD rk i hix
     have e1:kx.getD i .non=.ref t:=by rw [Qu,Qa hix,ex];rfl
     have e2:ds'.getD i []=ds'[i]:=by rw [Qu,Qa hid];rfl
     rw [e1] at rg
     exact ⟨t,o,vs,m,rg,ho,hd,by rw [e2];exact rd,by rw [e2];exact hsh _ (QB hid)⟩
    obtain ⟨t1,o1,v1,m1,a1,a2,a3,a4,a5⟩:=one i hi
    obtain ⟨t2,o2,v2,m2,c1,c2,c3,c4,c5⟩:=one j hj
    show wpAny (model X.prog X.w) A (keyLt' _ (kv.getD i Value.none) (kv.getD j Value.none)) C _ s'
    rw [a1,c1]
    have hl:v1.length=v2.length:=by
     have q1:=a4.length
     have q2:=c4.length
     have q3:=congrArg List.length (a5.trans c5.symm)
     simp only [Qd] at q1 q2 q3
     omega
    refine kat_lt a2 a3 c2 c3 ?_
    rw [Qe (by simp [hl])]
    exact katLex_ok 0 a4 c4 (a5.trans c5.symm) hC
   rintro ⟨⟨⟩,st'⟩ s2 ⟨rfl,hf,hsz,ha⟩
   have hp:Ent its.length (pickN its.length (ordN ds')):=pickN_ent _ (by omega)
   have em:((arrOf st').map (·.2)).toList=(pickN its.length (ordN ds')).toList.map fun i=>its.getD i Value.none:=by
    rw [ha,Array.toList_map,Array.toList_map,List.map_map]
    refine QM fun i _=>?_
    show (kas_item (kv.toArray.zip its.toArray) i).2=_
    rw [kat_item hkl]
   refine last st' hf (by rw [Array.size_map,hsz]) ?_
   rw [em]
   unfold srt srtI
   rw [if_neg (by rw [hdl];exact h2),hdl]
   exact vals_pick rv _ fun i hi=>by rw [<- hil];exact hp i hi
theorem call_sortedKT {Q:VK} {l:Addr} (F:FnOk X.prog X.w X.K X.mg X.base CX0 k f fd ps sp) (hr:Room (k+2) X.A) (hb:Binds X.K fd ps ds) (hd:Vals dvs ds)
  (I:Inv X pins σ H s) (hq:SqL X.K H l xs) (h64:xs.length<1000) (hAs:AscN ds'.length (ordN ds')) (hl:ds'.length=xs.length) (hsh:∀ d∈ds',d.map isI=sh) (hne:sh≠[])
  (hk:∀ (i:Nat) (x:V) (d:List Key) (H':Hp),Same H H'->xs[i]?=some x->ds'[i]?=some d->∀ Q':VK,(∀ t H2,Same H' H2->H2 t=some (.tup (d.map kV))->Q' (.ref t) H2)->sp ([x]++dvs) H' Q' E0)
  (q:∀ p H',Same H H'->H' p=none->Q (.ref p) (upd H' p (.lst (srt ds' xs)))) :
  wpAny (model X.prog X.w) X.A (call (.builtin "sorted") [.ref l] [(Str.ofString "key",.ref f)]) (EP X pins σ Q) X.xe s:=by
 obtain ⟨its,rv,pl,hz⟩:=I.list hq
 have hil:its.length=xs.length:=rv.length.symm
 refine call_function_entry_kw kind_sorted plain_sorted entry_sorted (args_sorted_key _ _) ?_
 unfold Builtin.«sorted»
 refine Qb (m:=checkCount "sorted" 1 1 _) (Qg ?_)
 refine Qb (collect_list pl.isList ?_ (by rw [hil];exact hz))
 have I1:Inv X pins σ H { s with heap:=(s.heap.push (seqObj "list" #[] 0)).update s.heap.objs.size (Obj.mapSeq (·++its.toArray)) }:=I.kept (t':=s.toks) fun b o e=>by
  rw [QG _ _ _ _ (Qw (Qn e))]
  exact Qf _ e
 generalize (s.heap.push (seqObj "list" #[] 0)).update s.heap.objs.size (Obj.mapSeq (·++its.toArray))=h1 at I1
 refine Qb (wpAny_newList (s:={ s with heap:=h1 }) ?_ (by rw [hil];exact hz))
 have hoL:(h1.push (seqObj "list" its.toArray 0)).get? h1.objs.size=some (seqObj "list" its.toArray 0):=Qs _ rfl
 have I2:Inv X pins σ H { s with heap:=h1.push (seqObj "list" its.toArray 0) }:=I1.kept (t':=s.toks) fun b o e=>Qf _ e
 have fL:FpOk X pins H h1.objs.size:=I1.fpOk (Qh _) (I1.hok.fresh (Qh _))
 change wpAny _ _ _ _ _ { s with heap:=h1.push (seqObj "list" its.toArray 0) }
 dsimp only
 generalize h1.push (seqObj "list" its.toArray 0)=h2 at hoL I2
 generalize h1.objs.size=L at hoL fL
 have hr2:Room k X.A.in1.in1:=(Room.in1 (k:=k+1) hr).in1
 refine Qb (wpAny_holding (wpAny_call_entry_kw (s:={ s with heap:=h2 }) slot_list_sort ⟨_,hoL,rfl⟩ entry_list_sort (lsort_treeT F hr2 (fun _ _ e=>e.in1.in1) hb hd I2 fL hoL rv h64 hAs hl hsh hne hk fun s' H' out n' sm nL I' hoa hos vy=>⟨_,rfl,?_⟩) (args_lsort_key _ _)))
 refine Qg ⟨_,rfl,.ref L,upd H' L (.lst (srt ds' xs)),I'.adopt ⟨nL,fL.2⟩ ?_,rfl,q L H' sm nL⟩
 have hyl:(srt ds' xs).length<=sizeLine:=by rw [vy.length,Array.length_toList];exact hos
 exact ⟨hyl,out.toList,n',vy,by simpa using hoa⟩
end
noncomputable def tSortKT (sp:Sp) (dvs:List V) (K:PySem.W.Frag) (t:TE):TE:=fun σ H Q=>t σ H fun x H1=>∃ (l:Addr) (xs:List V) (ds':List (List Key)) (sh:List Bool),x=.ref l/\SqL K H1 l xs/\xs.length<1000/\AscN ds'.length (ordN ds')/\ds'.length=xs.length/\(∀ d∈ds',d.map isI=sh)/\sh≠[] /\
 (∀ (i:Nat) (x:V) (d:List Key) (H':Hp),Same H1 H'->xs[i]?=some x->ds'[i]?=some d->∀ Q':VK,(∀ t H2,Same H' H2->H2 t=some (.tup (d.map kV))->Q' (.ref t) H2)->sp ([x]++dvs) H' Q' E0)/\∀ p H',Same H1 H'->H' p=none->Q (.ref p) (upd H' p (.lst (srt ds' xs)))
theorem pe_sortKT {X:Cx} {k:Nat} {f:Addr} {fd:FuncData} {ps:List Str} {sp:Sp} {dvs:List V} {ds:List Value} {K:PySem.W.Frag} {e:Expr} {t:TE} {y:Str} {p p2 p3 pos:Pos} (hK:X.K=K) (F:FnOk X.prog X.w X.K X.mg X.base CX0 k f fd ps sp) (hr:Room (k+2) X.A) (hb:Binds X.K fd ps ds) (hd:Vals dvs ds)
  (hg:Gl X "sorted") (hm:X.mg "sorted"=none) (hgf:Gl X y) (hmf:X.mg y=some (.ref f)) (he:PE X e t) (hy:(y == ("__debug__":Str))=false:=by decide)
  (hs:starEach [e] X.env=(false,eval e X.env)::starEach [] X.env:=by rfl) :
  PE X (.Call (.Name "sorted" p) [e] [⟨some "key",.Name y p2,p3⟩] pos) (tSortKT sp dvs K t):=by
 intro pins s σ H Q I h
 subst hK
 refine wpAny_Call_Name_kw (ld_blt I hg hm (show bootBuiltins "sorted"=some (.builtin "sorted") from by decide +kernel) ?_)
 refine callWith_kw ?_ (by rw [hs];rfl) (by rw [hs];rfl)
 rw [hs]
 show wpAny _ _ (spliced ((false,eval e X.env)::backTo pos (starEach [] X.env))) _ _ s
 refine Calls.spliced_cons (thn (he pins s σ H _ I h) fun u s1 ⟨x,H1,I1,r1,q1⟩=>Calls.spliced_nil ?_)
 obtain ⟨l,xs,ds',sh,e1,hq,h64,hAs,hl,hsh,hne,hk,q⟩:=q1
 subst e1
 cases (show u=Value.ref l from r1)
 refine thn ((pk_cons (te:=fun _ H Q=>Q (.ref f) H) (fun pins s σ H Q I h=>ld_glob I hgf hmf ⟨.ref f,H,I,rfl,h⟩ hy) pk_nil) pos pins s1 σ H1 (fun zs H2=>zs=[.ref f]/\H2=H1) I1 ⟨rfl,rfl⟩) fun ws s2 hsl79=>?_
 obtain ⟨zs,H2,I2,rz,ez,eH⟩:=hsl79
 subst ez eH
 obtain ⟨u,rfl,ru⟩:=vals1 rz
 cases (show u=Value.ref f from ru)
 exact call_sortedKT F hr hb hd I2 hq h64 hAs hl hsh hne hk q
end L2
namespace L2
open PySem PySem.Spec PyProof.Rows
theorem for_enum {K:PySem.W.Frag} {a:Addr} {xs:List V} {g:TG} {tb:TS} {D:Ends} {σ:St} {H:Hp} (Pv:Nat->St->Hp->Prop) (h0:Pv 0 σ H) (hl:∀ i σ H,i<=xs.length->Pv i σ H->SqL K H a xs)
  (hs:∀ i x σ H t,xs[i]?=some x->Pv i σ H->H t=none->g (.ref t) σ (upd H t (.tup [.int ((i:Nat):Int),x])) fun σ2 H2=>tb { D with nx:=Pv (i+1),ct:=Pv (i+1),bk:=D.nx } σ2 H2) (hd:∀ σ H,Pv xs.length σ H->D.nx σ H) :
  ∃ W:Nat->Nat->St->Hp->Prop,(∃ m,W 0 m σ H)/\∀ i m σ H,W i m σ H ->
   ((Ite K a).stop i H/\D.nx σ H)∨((Ite K a).go i H/\∃ N:St->Hp->Prop,(∀ σ' H',N σ' H'->∃ m',m'<m/\W (i+1) m' σ' H')/\∀ x H',(Ite K a).yld i H x H'->g x σ H' fun σ2 H2=>tb { D with nx:=N,ct:=N,bk:=D.nx } σ2 H2):=by
 refine ⟨fun i m σ H=>m=xs.length-i/\i<=xs.length/\Pv i σ H,⟨xs.length,by simp,Qr _,h0⟩,?_⟩
 rintro i m σ H ⟨rfl,hi,p⟩
 have q:=hl i σ H hi p
 by_cases hlt:i<xs.length
 ·refine .inr ⟨⟨xs,xs[i],q,by simp [hlt]⟩,Pv (i+1),fun σ' H' p'=>⟨xs.length-(i+1),by omega,rfl,hlt,p'⟩,fun x H' y=>?_⟩
  obtain ⟨t,y,hy,hn,rfl,rfl⟩:=y
  exact hs i y σ _ t (hy xs q) p hn
 ·have e:i=xs.length:=by omega
  subst e
  exact .inl ⟨⟨xs,q,Qh _⟩,hd σ H p⟩
end L2
namespace L2
open PySem PySem.Spec PyProof.Rows
section
variable {X:Cx}
theorem try_cut {κ:Option Value->Prop} {K:PySem.W.Frag} {C:Addr} {i:Nat} {tb:XK->TS} {ts:TS} {D:Ends} {σ:St} {H:Hp} (B:Value->Option Addr->Hp->Prop) (h1:∀ E:XK,(∀ c dd H1,B c dd H1->E c dd H1)->tb E D σ H)
  (h2:∀ c dd H1,B c dd H1->PySem.W.exmOne K c (.ref C)=some true/\∀ ea cx,κ cx->H1 ea=none->ts (D.unset i) (σ.set i (some (.ref ea))) (upd H1 ea (excD ea c dd cx))):tTryD κ K C i tb ts D σ H:=h1 _ h2
end
end L2
namespace L2
open PySem PySem.Spec PyProof.Rows
theorem call_isinstK {X:Cx} {K:PySem.W.Frag} {n:String} (hK:X.K=K):CallR X (.builtin "isinstance") (fun xs H Q=>∃ x t b,xs=[x,.ty n]/\TyOf K H x t/\PySem.W.kitOne K t (.type n)=some b/\Q (.bl b) H):=by subst hK;exact call_isinst
end L2
namespace Mm
inductive W where
 | c0 | c1 | sw (k:Nat) | no (a:W) | an (a b:W) | orr (a b:W) | xo (a b:W) | ch (k:Nat) (a b:W)
noncomputable def W.signs:W->List Nat
 | .c0=>[48]
 | .c1=>[49]
 | .sw k=>[97+k]
 | .no a=>33::a.signs
 | .an a b=>38::(a.signs++b.signs)
 | .orr a b=>124::(a.signs++b.signs)
 | .xo a b=>94::(a.signs++b.signs)
 | .ch k a b=>63::(97+k)::(a.signs++b.signs)
noncomputable def W.ok (n:Nat):W->Prop
 | .c0=>True
 | .c1=>True
 | .sw k=>k<n
 | .no a=>a.ok n
 | .an a b=>a.ok n/\b.ok n
 | .orr a b=>a.ok n/\b.ok n
 | .xo a b=>a.ok n/\b.ok n
 | .ch k a b=>k<n/\a.ok n/\b.ok n
noncomputable def needs (c:Nat):Nat:=if c=33 then 1 else if c=38 then 2 else if c=124 then 2 else if c=94 then 2 else if c=63 then 3 else 0
noncomputable def isL (c:Nat):Bool:=decide (97<=c)&&decide (c<107)
noncomputable def putR (full c:Nat) (ps:List Nat):Nat :=
 if c=33 then full ^^^ ps.getD 0 0 else if c=38 then ps.getD 0 0 &&& ps.getD 1 0 else if c=124 then ps.getD 0 0 ||| ps.getD 1 0
 else if c=94 then ps.getD 0 0 ^^^ ps.getD 1 0 else (ps.getD 0 0 &&& ps.getD 1 0) ||| ((full ^^^ ps.getD 0 0) &&& ps.getD 2 0)
noncomputable def valR (sws:List Nat) (full c:Nat):Option Nat:=if c=48 then some 0 else if c=49 then some full else if isL c=true then sws[c-97]? else none
noncomputable def hdL:List Nat->Bool
 | []=>true
 | c::_=>isL c
noncomputable def stepR (sws:List Nat) (full c:Nat) (rest:List Nat) (st:List Nat):Option (List Nat) :=
 if st.length<needs c then none else if c=63/\hdL rest=false then none
 else if 0<needs c then some (putR full c (st.take (needs c))::st.drop (needs c)) else (valR sws full c).map (·::st)
noncomputable def runR (sws:List Nat) (full:Nat):List Nat->Option (List Nat)
 | []=>some []
 | c::rest=>(runR sws full rest).bind fun st=>stepR sws full c rest st
noncomputable def W.val (sws:List Nat) (full:Nat):W->Nat
 | .c0=>0
 | .c1=>full
 | .sw k=>sws.getD k 0
 | .no a=>full ^^^ a.val sws full
 | .an a b=>a.val sws full &&& b.val sws full
 | .orr a b=>a.val sws full ||| b.val sws full
 | .xo a b=>a.val sws full ^^^ b.val sws full
 | .ch k a b=>(sws.getD k 0 &&& a.val sws full) ||| ((full ^^^ sws.getD k 0) &&& b.val sws full)
theorem isL_of {k:Nat} (h:k<10):isL (97+k)=true:=by simp [isL];omega
theorem run_letter {sws:List Nat} {full k:Nat} {rest st:List Nat} (hk:k<sws.length) (h10:k<10) (h:runR sws full rest=some st):runR sws full ((97+k)::rest)=some (sws.getD k 0::st):=by
 have n0:needs (97+k)=0:=by unfold needs;rw [if_neg (by omega),if_neg (by omega),if_neg (by omega),if_neg (by omega),if_neg (by omega)]
 have hv:valR sws full (97+k)=some (sws.getD k 0):=by
  unfold valR
  rw [if_neg (by omega),if_neg (by omega),if_pos (isL_of h10),show 97+k-97=k by omega]
  simp [Qu,Qa hk]
 simp only [runR,h,Option.bind_some]
 unfold stepR
 rw [n0,if_neg (by omega),if_neg (by omega),if_neg (by omega),hv]
 rfl
theorem run_signs {sws:List Nat} {full n:Nat} (hn:n<=sws.length) (h10:n<=10):∀ (w:W) (rest st:List Nat),w.ok n->runR sws full rest=some st->runR sws full (w.signs++rest)=some (w.val sws full::st):=by
 intro w
 induction w with
 | c0=>intro rest st _ h;simp [W.signs,W.val,runR,h,stepR,needs,valR]
 | c1=>intro rest st _ h;simp [W.signs,W.val,runR,h,stepR,needs,valR]
 | sw k=>intro rest st hk h;exact run_letter (Nat.lt_of_lt_of_le hk hn) (Nat.lt_of_lt_of_le hk h10) h
 | no a ih =>
  intro rest st hk h
  have e:=ih rest st hk h
  simp [W.signs,W.val,runR,e,stepR,needs,putR]
 | an a b iha ihb =>
  intro rest st hk h
  have e:=iha _ _ hk.1 (ihb rest st hk.2 h)
  simp [W.signs,W.val,runR,e,stepR,needs,putR,QK]
 | orr a b iha ihb =>
  intro rest st hk h
  have e:=iha _ _ hk.1 (ihb rest st hk.2 h)
  simp [W.signs,W.val,runR,e,stepR,needs,putR,QK]
 | xo a b iha ihb =>
  intro rest st hk h
  have e:=iha _ _ hk.1 (ihb rest st hk.2 h)
  simp [W.signs,W.val,runR,e,stepR,needs,putR,QK]
 | ch k a b iha ihb =>
  intro rest st hk h
  have e:=iha _ _ hk.2.1 (ihb rest st hk.2.2 h)
  have e2:=run_letter (sws:=sws) (full:=full) (Nat.lt_of_lt_of_le hk.1 hn) (Nat.lt_of_lt_of_le hk.1 h10) e
  have hl:isL (97+k)=true:=isL_of (Nat.lt_of_lt_of_le hk.1 h10)
  have e3:(W.ch k a b).signs++rest=63::((97+k)::(a.signs++(b.signs++rest))):=by simp [W.signs,QK]
  rw [e3]
  simp only [runR] at e2 ⊢
  rw [e2,Option.bind_some]
  simp [stepR,needs,hdL,hl,putR,W.val]
theorem run_wish {sws:List Nat} {full n:Nat} {w:W} (hn:n<=sws.length) (h10:n<=10) (h:w.ok n):runR sws full w.signs=some [w.val sws full]:=by
 have:=run_signs (full:=full) hn h10 w [] [] h rfl
 simpa using this
theorem run_rest {sws:List Nat} {full c:Nat} {rest st:List Nat} (h:runR sws full (c::rest)=some st):∃ st',runR sws full rest=some st'/\stepR sws full c rest st'=some st:=by
 simp only [runR] at h
 cases e:runR sws full rest with
 | none=>rw [e] at h;cases h
 | some st'=>rw [e] at h;exact ⟨st',rfl,h⟩
theorem run_drop {sws:List Nat} {full:Nat}:∀ (i:Nat) {l st:List Nat},runR sws full l=some st->∃ st',runR sws full (l.drop i)=some st'
 | 0,_,st,h=>⟨st,h⟩
 | i+1,[],st,h=>⟨[],rfl⟩
 | i+1,c::l,st,h=>by
  obtain ⟨st',h',_⟩:=run_rest h
  exact run_drop i h'
noncomputable def W.ev (s:Nat):W->Bool
 | .c0=>false
 | .c1=>true
 | .sw k=>s.testBit k
 | .no a=>!a.ev s
 | .an a b=>a.ev s&&b.ev s
 | .orr a b=>a.ev s||b.ev s
 | .xo a b=>a.ev s != b.ev s
 | .ch k a b=>if s.testBit k then a.ev s else b.ev s
theorem val_bit {sws:List Nat} {full n s p:Nat} (hf:full.testBit p=true) (hs:∀ k,k<n->(sws.getD k 0).testBit p=s.testBit k):∀ w:W,w.ok n->(w.val sws full).testBit p=w.ev s:=by
 intro w
 induction w with
 | c0=>intro _;simp [W.val,W.ev]
 | c1=>intro _;exact hf
 | sw k=>intro h;exact hs k h
 | no a ih=>intro h;simp only [W.val,W.ev,Nat.testBit_xor,hf,ih h,Bool.true_xor]
 | an a b iha ihb=>intro h;simp only [W.val,W.ev,Nat.testBit_and,iha h.1,ihb h.2]
 | orr a b iha ihb=>intro h;simp only [W.val,W.ev,Nat.testBit_or,iha h.1,ihb h.2]
 | xo a b iha ihb =>
  intro h
  simp only [W.val,W.ev,Nat.testBit_xor,iha h.1,ihb h.2]
 | ch k a b iha ihb =>
  intro h
  simp only [W.val,W.ev,Nat.testBit_or,Nat.testBit_and,Nat.testBit_xor,hf,hs k h.1,iha h.2.1,ihb h.2.2]
  cases s.testBit k<;>cases a.ev s<;>cases b.ev s<;>rfl
end Mm
namespace Mm
open PySem L2 PyProof.Rows
theorem str_ext {a b:Str} (h:a.cps.toList=b.cps.toList):a=b:=by
 cases a;cases b
 congr 1
 exact Array.toList_inj.mp h
theorem str_len (z:Str):z.length=z.cps.toList.length:=by simp [Str.length]
theorem str_app (a b:Str):(a++b).cps.toList=a.cps.toList++b.cps.toList:=Array.toList_append ..
noncomputable def jl (c:Nat):List (List Nat)->List Nat
 | []=>[]
 | [a]=>a
 | a::b::r=>a++c::jl c (b::r)
theorem join_list (c:Nat):∀ zs:List Str,(Str.join ⟨#[c]⟩ zs).cps.toList=jl c (zs.map (·.cps.toList))
 | []=>rfl
 | [a]=>rfl
 | a::b::r=>by
  show (a++⟨#[c]⟩++Str.join ⟨#[c]⟩ (b::r)).cps.toList=a.cps.toList++c::jl c ((b::r).map (·.cps.toList))
  rw [str_app,str_app,join_list c (b::r)]
  simp
theorem cut_at {c:Nat}:∀ {a b x y:List Nat},c∉a->c∉b->a++c::x=b++c::y->a=b/\x=y
 | [],[],_,_,_,_,h=>by simpa using h
 | [],q::b,x,y,_,hb,h=>by
  have:c=q:=by simpa using (List.cons.inj h).1
  exact absurd (by rw [this];exact Qp) hb
 | p::a,[],x,y,ha,_,h=>by
  have:p=c:=by simpa using (List.cons.inj h).1
  exact absurd (by rw [<- this];exact Qp) ha
 | p::a,q::b,x,y,ha,hb,h=>by
  obtain ⟨e1,e2⟩:=List.cons.inj (show p::(a++c::x)=q::(b++c::y) from h)
  obtain ⟨e3,e4⟩:=cut_at (fun z=>ha (Qm _ z)) (fun z=>hb (Qm _ z)) e2
  exact ⟨by rw [e1,e3],e4⟩
theorem jl_inj {c:Nat}:∀ {ps qs:List (List Nat)},ps≠[]->qs≠[]->(∀ p∈ps,c∉p)->(∀ q∈qs,c∉q)->jl c ps=jl c qs->ps=qs
 | [],_,h,_,_,_,_=>absurd rfl h
 | _,[],_,h,_,_,_=>absurd rfl h
 | [a],[b],_,_,_,_,h=>by rw [show a=b from h]
 | [a],b::b'::r,_,_,h1,_,h=>absurd (show c∈a by rw [show a=b++c::jl c (b'::r) from h];simp) (h1 a Qp)
 | a::a'::r,[b],_,_,_,h2,h=>absurd (show c∈b by rw [<- show a++c::jl c (a'::r)=b from h];simp) (h2 b Qp)
 | a::a'::r,b::b'::r',_,_,h1,h2,h=>by
  obtain ⟨e1,e2⟩:=cut_at (h1 a Qp) (h2 b Qp) (show a++c::jl c (a'::r)=b++c::jl c (b'::r') from h)
  have ih:=jl_inj (by simp) (by simp) (fun p hp=>h1 p (Qm _ hp)) (fun q hq=>h2 q (Qm _ hq)) e2
  rw [e1,ih]
theorem jl_mem {c d:Nat}:∀ {ls:List (List Nat)},d∈jl c ls->d=c∨∃ l∈ls,d∈l
 | [],h=>nomatch h
 | [a],h=>.inr ⟨a,Qp,h⟩
 | a::b::r,h=>by
  rcases Qx (show d∈a++c::jl c (b::r) from h) with h | h
  ·exact .inr ⟨a,Qp,h⟩
  ·rcases Qi h with h | h
   ·exact .inl h
   ·rcases jl_mem h with h | ⟨l,hl,hd⟩
    ·exact .inl h
    ·exact .inr ⟨l,Qm _ hl,hd⟩
theorem jl_len {c:Nat}:∀ ls:List (List Nat),(jl c ls).length<=(ls.map List.length).sum+ls.length
 | []=>Qr _
 | [a]=>by simp [jl]
 | a::b::r=>by
  have:=jl_len (c:=c) (b::r)
  simp [jl] at this ⊢
  omega
theorem jl_ne {c:Nat}:∀ {ls:List (List Nat)},ls≠[]->(∀ l∈ls,l≠[])->jl c ls≠[]
 | [],h,_=>absurd rfl h
 | [a],_,h=>h a Qp
 | a::b::r,_,_=>by simp [jl]
theorem split_join {c:Nat} {zs:List Str} (h0:zs≠[]) (h:∀ z∈zs,c∉z.cps.toList):Txt.split (Str.join ⟨#[c]⟩ zs) ⟨#[c]⟩=zs:=by
 have e1:=StrLaws.join_split (Str.join ⟨#[c]⟩ zs) ⟨#[c]⟩
 have e2:=StrLaws.split_free (Str.join ⟨#[c]⟩ zs) c
 have e3:=split_pos (Str.join ⟨#[c]⟩ zs) ⟨#[c]⟩
 generalize Txt.split (Str.join ⟨#[c]⟩ zs) ⟨#[c]⟩=ps at e1 e2 e3
 have e4:=congrArg (fun z:Str=>z.cps.toList) e1
 simp only [join_list] at e4
 have e5:=jl_inj (c:=c) (by intro z;rw [List.map_eq_nil_iff] at z;rw [z] at e3;simp at e3) (by intro z;rw [List.map_eq_nil_iff] at z;exact h0 z) (by
  intro p hp
  obtain ⟨z,hz,rfl⟩:=Qy hp
  exact e2 z hz) (by
  intro p hp
  obtain ⟨z,hz,rfl⟩:=Qy hp
  exact h z hz) e4
 have inj:∀ {as bs:List Str},as.map (fun z=>z.cps.toList)=bs.map (fun z=>z.cps.toList)->as=bs:=by
  intro as
  induction as with
  | nil=>intro bs hb;cases bs with
   | nil=>rfl
   | cons _ _=>simp at hb
  | cons a r ih=>intro bs hb;cases bs with
   | nil=>simp at hb
   | cons b q =>
    rw [List.map_cons,List.map_cons] at hb
    obtain ⟨h1,h2⟩:=List.cons.inj hb
    rw [str_ext h1,ih h2]
 exact inj e5
inductive Ev where
 | op (v:W) | cl | pl (z:Str)
structure Pl (z:Str):Prop where
 sg:∀ c∈z.cps.toList,33<=c/\c<=126
 hd:∃ c r,z.cps.toList=c::r/\c≠60
 gt:z≠⟨#[62]⟩
noncomputable def wst (v:W):Str:=⟨v.signs.toArray⟩
noncomputable def wd:Ev->Str
 | .op v=>⟨(60::v.signs).toArray⟩
 | .cl=>⟨#[62]⟩
 | .pl z=>z
noncomputable abbrev RSt:=List (Str × List W) × List W
noncomputable def stp (st:RSt):Ev->RSt
 | .op v=>(st.1,st.2++[v])
 | .cl=>(st.1,st.2.dropLast)
 | .pl z=>(st.1++[(z,st.2)],st.2)
noncomputable def rn (evs:List Ev):RSt:=evs.foldl stp ([],[])
noncomputable def evok (n:Nat) (ar:List W):Ev->Prop
 | .op v=>v.ok n/\v.signs.length<=9/\ar.length<5
 | .cl=>ar≠[]
 | .pl z=>Pl z/\z.length<=5
noncomputable def Gev (n:Nat) (evs:List Ev):Prop:=∀ i e,evs[i]?=some e->evok n (rn (evs.take i)).2 e
theorem rn_snoc (evs:List Ev) (e:Ev):rn (evs++[e])=stp (rn evs) e:=by simp [rn]
theorem rn_take {evs:List Ev} {i:Nat} {e:Ev} (h:evs[i]?=some e):rn (evs.take (i+1))=stp (rn (evs.take i)) e:=by
 rw [List.take_succ,h];exact rn_snoc _ _
theorem Gev.nil (n:Nat):Gev n []:=fun i e h=>by simp at h
theorem Gev.snoc {n:Nat} {evs:List Ev} {e:Ev} (g:Gev n evs) (h:evok n (rn evs).2 e):Gev n (evs++[e]):=fun i e' hi=>by
 by_cases hl:i<evs.length
 ·rw [Qv hl] at hi
  rw [List.take_append_of_le_length (by omega)]
  exact g i e' hi
 ·rw [Qq (by omega)] at hi
  have h0:i-evs.length=0:=by
   cases hh:i-evs.length with
   | zero=>rfl
   | succ m=>rw [hh] at hi;simp at hi
  rw [h0] at hi
  have e1:e=e':=by simpa using hi
  have e2:i=evs.length:=by omega
  subst e1 e2
  rw [List.take_append_of_le_length (Qh _),QH]
  exact h
theorem signs_range {n:Nat} (hn:n<=10):∀ v:W,v.ok n->∀ c∈v.signs,33<=c/\c<=126:=by
 intro v
 induction v with
 | c0=>intro _ c h;simp [W.signs] at h;omega
 | c1=>intro _ c h;simp [W.signs] at h;omega
 | sw k=>intro hk c h;have hk':k<n:=hk;simp [W.signs] at h;omega
 | no a ih =>
  intro hk c h
  rcases Qi h with e | e
  ·omega
  ·exact ih hk c e
 | an a b iha ihb =>
  intro hk c h
  rcases Qi h with e | e
  ·omega
  ·rcases Qx e with e | e
   ·exact iha hk.1 c e
   ·exact ihb hk.2 c e
 | orr a b iha ihb =>
  intro hk c h
  rcases Qi h with e | e
  ·omega
  ·rcases Qx e with e | e
   ·exact iha hk.1 c e
   ·exact ihb hk.2 c e
 | xo a b iha ihb =>
  intro hk c h
  rcases Qi h with e | e
  ·omega
  ·rcases Qx e with e | e
   ·exact iha hk.1 c e
   ·exact ihb hk.2 c e
 | ch k a b iha ihb =>
  intro hk c h
  have hk':k<n:=hk.1
  rcases Qi h with e | e
  ·omega
  ·rcases Qi e with e | e
   ·omega
   ·rcases Qx e with e | e
    ·exact iha hk.2.1 c e
    ·exact ihb hk.2.2 c e
theorem evok_wd {n:Nat} (hn:n<=10) {ar:List W} {e:Ev} (h:evok n ar e):(∀ c∈(wd e).cps.toList,33<=c/\c<=126)/\(wd e).cps.toList≠[]/\(wd e).length<=10:=by
 cases e with
 | op v =>
  obtain ⟨h1,h2,_⟩:=h
  refine ⟨fun c hc=>?_,by simp [wd],by simp [wd,Str.length];omega⟩
  rcases Qi (show c∈60::v.signs by simpa [wd] using hc) with z | z
  ·omega
  ·exact signs_range hn v h1 c z
 | cl=>exact ⟨fun c hc=>by have:c=62:=by simpa [wd] using hc
                           omega,by simp [wd],by decide⟩
 | pl z =>
  obtain ⟨h1,h2⟩:=h
  obtain ⟨c,r,e,_⟩:=h1.hd
  exact ⟨h1.sg,by show z.cps.toList≠[];rw [e];simp,by show z.length<=10;omega⟩
theorem Gev.wd {n:Nat} (hn:n<=10) {evs:List Ev} (g:Gev n evs):∀ z∈evs.map wd,(∀ c∈z.cps.toList,33<=c/\c<=126)/\z.cps.toList≠[]/\z.length<=10:=fun z hz=>by
 obtain ⟨e,he,rfl⟩:=Qy hz
 obtain ⟨i,hi⟩:=List.mem_iff_getElem?.mp he
 exact evok_wd hn (g i e hi)
theorem sum_le {l:List Nat} {b:Nat} (h:∀ x∈l,x<=b):l.sum<=l.length*b:=by
 induction l with
 | nil=>simp
 | cons a r ih =>
  have h1:=h a Qp
  have h2:=ih fun x hx=>h x (Qm _ hx)
  simp only [List.sum_cons,List.length_cons,Nat.add_mul,Nat.one_mul]
  omega
noncomputable def rowT (evs:List Ev):Str:=Str.join ⟨#[32]⟩ (evs.map Mm.wd)
theorem rowT_len {n:Nat} (hn:n<=10) {evs:List Ev} (g:Gev n evs):(rowT evs).length<=evs.length*11:=by
 rw [str_len,rowT,join_list]
 refine QA (jl_len _) ?_
 have:=sum_le (l:=((evs.map Mm.wd).map fun z=>z.cps.toList).map List.length) (b:=10) (fun x hx=>by
  obtain ⟨l,hl,rfl⟩:=Qy hx
  obtain ⟨z,hz,rfl⟩:=Qy hl
  have:=(g.wd hn z hz).2.2
  rw [str_len] at this
  exact this)
 simp only [Qd] at this ⊢
 omega
theorem rowT_sg {n:Nat} (hn:n<=10) {evs:List Ev} (g:Gev n evs):∀ c∈(rowT evs).cps.toList,c=32∨(33<=c/\c<=126):=fun c hc=>by
 rw [rowT,join_list] at hc
 rcases jl_mem hc with h | ⟨l,hl,hd⟩
 ·exact .inl h
 ·obtain ⟨z,hz,rfl⟩:=Qy hl
  exact .inr ((g.wd hn z hz).1 c hd)
theorem rowT_nil {n:Nat} (hn:n<=10) {evs:List Ev} (g:Gev n evs) (h:evs≠[]):(rowT evs).cps.toList≠[]:=by
 rw [rowT,join_list]
 refine jl_ne (by simpa using h) fun l hl=>?_
 obtain ⟨z,hz,rfl⟩:=Qy hl
 exact (g.wd hn z hz).2.1
theorem rowT_split {n:Nat} (hn:n<=10) {evs:List Ev} (g:Gev n evs) (h:evs≠[]):Txt.split (rowT evs) ⟨#[32]⟩=evs.map Mm.wd :=
 split_join (by simpa using h) fun z hz hc=>by have:=(g.wd hn z hz).1 32 hc;omega
end Mm
namespace L2
open PySem PySem.Spec PyProof.Rows
noncomputable def chAt (z:Str) (i:Nat):V:=.str ⟨#[z.cps.toList.getD i 0]⟩
theorem turn_str {P:Program} {w:World} {K:PySem.W.Frag} {tg:Expr} (it:Addr) (z:Str) (t:Tok) :
  Turn P w K tg (ItN z.length (chAt z)) [it] it (fun i h=>i<=z.length/\h.IsStrIter it "str_ascii_iterator" z t i) where
 mem:=by simp
 obj:=fun i h st b hb=>by
  have e:b=it:=by simpa using hb
  subst e
  obtain ⟨_,o,e,c,d⟩:=st
  exact ⟨o,e,fun v z=>by rw [d] at z;cases z⟩
 keep:=fun i h h' st k=>⟨st.1,by obtain ⟨o,e,r⟩:=st.2;exact ⟨o,k it (by simp) o e,r⟩⟩
 item:=by
  intro X hP hw hK hc i pins s σ H E I hf st hg
  subst hP hw hK
  have hg:i<z.length:=hg
  obtain ⟨f0,f1,f2,f3,f4,f5⟩:=hf it (by simp)
  have hl:z.cps.toList.length=z.length:=by simp [Str.length]
  have hcc:z.cps[i]?=some (z.cps.toList.getD i 0):=by
   rw [Qu,Qa (by omega),<- Array.getElem?_toList,Qa (by omega)];rfl
  refine wpAny_pyNext_ascii_item st.2 hcc fun h' st' sb=>?_
  have I1:Inv X pins σ H { s with heap:=h',toks:=s.toks+1 }:=I.turned (fun b o hb e=>(sb.2 b hb).trans e) f0 f1 f3 f4 f5
  obtain ⟨o,e,c,d⟩:=id st'
  exact ⟨_,rfl,go_of (s:={ s with heap:=h',toks:=s.toks+1 }) e c d (by decide) ⟨chAt z i,H,I1,⟨s.toks,rfl⟩,⟨rfl,rfl⟩,⟨hg,st'⟩,fun b hb=>(hf b hb).1⟩⟩
 done:=by
  intro X hP hw hK hc i pins s σ H E I hf st hg
  subst hP hw hK
  have hg:z.length<=i:=hg
  obtain ⟨f0,f1,f2,f3,f4,f5⟩:=hf it (by simp)
  exact wpAny_pyNext_ascii_end (I.ok.hd hc) st.2 (Array.getElem?_eq_none (by show z.length<=i;exact hg)) fun h' eb=>⟨rfl,I.turned (t':=s.toks) (fun b o hb e=>eb b o hb e) f0 f1 f3 f4 f5⟩
 self:=fun _ _ _ _ _ st h=>wpAny_pyIter_striter_ascii st.2 h
section
variable {X:Cx} {tg:Expr}
noncomputable def iStr (te:TE):TI:=fun σ H R=>te σ H fun x H1=>∃ z:Str,x=.str z/\z.cps.all (·<128)=true/\R (ItN z.length (chAt z)) H1
theorem pi_str {e:Expr} {te:TE} (he:PE X e te):PI X tg e (iStr te):=by
 intro pins s σ H R I h
 refine thn (he pins s σ H _ I h) fun v s1 hsl80=>?_
 obtain ⟨x,H1,I1,r1,q1⟩:=hsl80
 obtain ⟨z,e,ha,q⟩:=q1
 subst e
 obtain ⟨t,rfl⟩:=r1
 refine wpAny_pyIter_ascii ha ?_
 refine ⟨s1.heap.objs.size,[s1.heap.objs.size],_,_,H1,rfl,I1.kept (t':=s1.toks) fun b o e=>Qf _ e,turn_str _ z t,⟨Qr _,_,Qs _ rfl,rfl,rfl⟩,fun b hb=>?_,q⟩
 have e:b=s1.heap.objs.size:=by simpa using hb
 subst e
 exact I1.fpOk (Qh _) (I1.hok.fresh (Qh _))
end
end L2
namespace L2
open PySem PySem.Spec PyProof.Rows
section
variable {X:Cx}
theorem call_intS:CallR X (.type "int") (fun xs H Q=>∃ z n,xs=[.str z]/\PySem.intText? z=some n/\z.length<=640/\Q (.int n) H):=by
 intro pins s σ H xs us Q I r h
 obtain ⟨z,n,rfl,hn,hl,q⟩:=h
 obtain ⟨u,rfl,t,rfl⟩:=vals1 r
 exact PySem.W.KIN.call_text hn hl ⟨.int n,H,I.tok _,⟨_,rfl⟩,q⟩
theorem call_strI:CallR X (.type "str") (fun xs H Q=>∃ i:Int,xs=[.int i]/\i.natAbs.log2<1920/\Q (.str (toString i)) H):=by
 intro pins s σ H xs us Q I r h
 obtain ⟨i,rfl,hl,q⟩:=h
 obtain ⟨u,rfl,t,rfl⟩:=vals1 r
 exact PySem.P.str_of_int hl ⟨.str _,H,I.tok _,⟨_,rfl⟩,q⟩
theorem op_in_seqK {K:PySem.W.Frag} (hK:X.K=K):OpR X (compareOp .In) (rIn K false):=by subst hK;exact op_in_seq
theorem op_notIn_seqK {K:PySem.W.Frag} (hK:X.K=K):OpR X (compareOp .NotIn) (rIn K true):=by subst hK;exact op_notIn_seq
end
section
variable {js:List Nat} {tt:TT} {te:TE}
theorem comp_N {n:Nat} {y:Nat->V} {σ:St} {H:Hp} {Q:VK} (Pv:Nat->List V->Hp->Prop) (h0:Pv 0 [] H)
  (hs:∀ i ys H,i<n->Pv i ys H->tt (some (y i)::pick js σ) H fun b H2=>if b=true then te (some (y i)::pick js σ) H2 fun z H3=>ys.length<sizeLine/\Pv (i+1) (ys++[z]) H3 else Pv (i+1) ys H2)
  (hd:∀ ys H,Pv n ys H->∀ p,H p=none->Q (.ref p) (upd H p (.lst ys))):tCompB (ItN n y) js tt te σ H Q:=by
 refine ⟨fun i m ys H=>i+m=n/\Pv i ys H,⟨n,by simp,h0⟩,?_⟩
 rintro i m ys H1 ⟨e,q⟩
 rcases Nat.lt_or_ge i n with hlt | hge
 ·refine .inr ⟨hlt,fun ys' H'=>Pv (i+1) ys' H',fun ys' H' q'=>⟨m-1,by omega,by omega,q'⟩,?_⟩
  rintro x H' ⟨rfl,rfl⟩
  exact hs i ys _ hlt q
 ·have:i=n:=by omega
  subst this
  exact .inl ⟨hge,hd ys H1 q⟩
end
end L2
namespace Mm
open PySem L2 PyProof.Rows
noncomputable def lws:List Str:=["kind","def","set","tell","give","if","else","while","end","num","truth","yes","no","less","same","and","or","not","do","new","of","+","-","*","."]
noncomputable def ops7:List Str:=["+","-","*","less","same","and","or"]
noncomputable def isLo (c:Nat):Bool:=decide (97<=c/\c<=122)
noncomputable def isFig (c:Nat):Bool:=decide (48<=c/\c<=57)
theorem occLo:∀ c:Nat,c<128->(Builtin.Str.occurrences ("abcdefghijklmnopqrstuvwxyz":Str) ⟨#[c]⟩ 0 ("abcdefghijklmnopqrstuvwxyz":Str).length 1).isEmpty=!(isLo c):=by decide +kernel
theorem occFig:∀ c:Nat,c<128->(Builtin.Str.occurrences ("0123456789":Str) ⟨#[c]⟩ 0 ("0123456789":Str).length 1).isEmpty=!(isFig c):=by decide +kernel
noncomputable def madeOf (f:Nat->Bool) (z:Str) (m:Nat):Bool:=!decide (z="")&&(decide (z.length<=m)&&z.cps.toList.all f)
noncomputable def isName (z:Str):Bool:=madeOf isLo z 8&&!decide (z∈lws)
noncomputable def isNum (z:Str):Bool:=decide (z="0")||(madeOf isFig z 18&&!decide (z.cps.toList.getD 0 0=48))
noncomputable def numV (z:Str):Int:=(PySem.intText? z).getD 0
noncomputable def TupS (H H':Hp):Prop:=∀ b xs,H b=some (.tup xs)->H' b=some (.tup xs)
noncomputable def ButO (o:Addr) (H H':Hp):Prop:=∀ b u,H b=some u->b≠o->H' b=some u
theorem ButO.trans {o:Addr} {H H1 H2:Hp} (a:ButO o H H1) (b:ButO o H1 H2):ButO o H H2:=fun _ _ h n=>b _ _ (a _ _ h n) n
theorem _root_.L2.Same.but {o:Addr} {H H':Hp} (s:Same H H'):ButO o H H':=fun _ _ h _=>s _ _ h
theorem ButO.upd (o:Addr) (H:Hp) (x:HO):ButO o H (upd H o x):=fun b u h n=>by rw [upd_ne n];exact h
noncomputable def WsOk (ws:List Str):Prop:=∀ z∈ws,z.length<=100/\∀ c∈z.cps.toList,c<128
end Mm
namespace L2
theorem len1 {α:Type}:∀ {us:List α},us.length=1->∃ a,us=[a]
 | [a],_=>⟨a,rfl⟩
theorem lenS {α:Type} {n:Nat}:∀ {us:List α},us.length=n+1->∃ a r,us=a::r/\r.length=n
 | a::r,h=>⟨a,r,rfl,Nat.succ.inj h⟩
theorem len2 {α:Type} {us:List α} (h:us.length=2):∃ a b,us=[a,b]:=by
 obtain ⟨a,r,rfl,k⟩:=lenS h
 obtain ⟨b,rfl⟩:=len1 k
 exact ⟨a,b,rfl⟩
theorem len3 {α:Type} {us:List α} (h:us.length=3):∃ a b c,us=[a,b,c]:=by
 obtain ⟨a,r,rfl,k⟩:=lenS h
 obtain ⟨b,c,rfl⟩:=len2 k
 exact ⟨a,b,c,rfl⟩
theorem len4 {α:Type} {us:List α} (h:us.length=4):∃ a b c d,us=[a,b,c,d]:=by
 obtain ⟨a,r,rfl,k⟩:=lenS h
 obtain ⟨b,c,d,rfl⟩:=len3 k
 exact ⟨a,b,c,d,rfl⟩
theorem len5 {α:Type} {us:List α} (h:us.length=5):∃ a b c d e,us=[a,b,c,d,e]:=by
 obtain ⟨a,r,rfl,k⟩:=lenS h
 obtain ⟨b,c,d,e,rfl⟩:=len4 k
 exact ⟨a,b,c,d,e,rfl⟩
end L2
namespace Mm
end Mm
namespace L2
open PySem PySem.Spec PyProof.Rows
section
variable {X:Cx}
end
end L2
namespace Mm
open PySem L2 PyProof.Rows
end Mm
namespace L2
open PySem PySem.Spec PyProof.Rows
section
variable {X:Cx}
end
theorem pe_xfldK {X:Cx} {K:PySem.W.Frag} {e:Expr} {f:Str} {pos:Pos} {ta:TE} (hK:X.K=K) (he:PE X e ta) (hb:attributeBase e f X.env (eval e X.env)=eval e X.env):PE X (.Attribute e f pos) (tXfld K ta f):=by
 subst hK
 exact pe_xfld he hb
noncomputable def ErrAt (E:XK) (C:Addr) (x:V) (H:Hp):Prop:=∀ dx H',Same H H'->H' dx=some (xdO dx [("at",x)])->E (.ref C) (some dx) H'
theorem ErrAt.same {E:XK} {C:Addr} {x:V} {H H1:Hp} (h:ErrAt E C x H) (s:Same H H1):ErrAt E C x H1:=fun dx H' s' e=>h dx H' (s.trans s') e
end L2
namespace L2
open PySem PySem.Spec PyProof.Rows
structure FunD (K:PySem.W.Frag) (x qual:Str) (st:Stmt) (f T:Addr) (items:List Value) (fd:FuncData):Prop where
 ex:∃ (oc:Value) (od:Option Addr) (kV doc pm:Value) (an:Option Addr) (cdv ct:Value) (osl:Array (Option Value)),
  fd=PySem.W.fnOf x qual (defArgs st) (defBody st) (defScope st) (.ref T) kV doc pm an cdv ct/\K.lookup f=some ⟨oc,od,.func fd,osl⟩/\PySem.W.codeIn K cdv qual=true
 df:∃ (o:Obj) (n:Nat),K.lookup T=some o/\o.data=.seq items.toArray n
section
variable {P:Program} {w:World} {K:PySem.W.Frag} {mg:Str->Option Value} {base:Heap}
theorem FunD.ok2 {κ:Option Value->Prop} {x qual:Str} {st:Stmt} {f T:Addr} {items:List Value} {fd:FuncData} {N ps:List Str} {k:Nat} {sp:Sp} (F:FunD K x qual st f T items fd) (S:FnScope N ps (defScope st)) (len:∀ vs H Q E,sp vs H Q E->vs.length=ps.length)
  (hbody:∀ (cdv:Value) (A:Around) (outer:List Env) (s:Shared) (H:Hp) (vs:List V) (Q:VK) (E:XK),Room k (A.deeper (envOfC qual (defScope st) s.heap.objs.size f cdv))->sp vs H Q E ->
   ∃ t,PSs (cxOf (CX2 κ P w) P w K mg base N qual (defScope st) f cdv A outer s H E) (defBody st) t/\t { nx:=fun _ H'=>Q .non H',rt:=Q } (start N vs) H):FnOk P w K mg base (CX2 κ P w) (k+1) f fd ps sp:=by
 obtain ⟨oc,od,kV,doc,pm,an,cdv,ct,osl,rfl,lk,hcd⟩:=F.ex
 exact fn_of lk hcd S len fun A outer s H vs Q E hr hsp=>hbody cdv A outer s H vs Q E hr hsp
theorem FunD.binds {x qual:Str} {st:Stmt} {f T:Addr} {items ds:List Value} {fd:FuncData} {ps:List Str} (F:FunD K x qual st f T items fd)
  (h:∀ (kV doc pm:Value) (an:Option Addr) (cdv ct:Value) (us:List Value),(us++ds).length=ps.length ->
   ∃ k,bindArgs (PySem.W.fnOf x qual (defArgs st) (defBody st) (defScope st) (.ref T) kV doc pm an cdv ct) ⟨us,[]⟩=seqItems? (.ref T) >>= k/\k (some items.toArray)=pure (ps.zip (us++ds))):Binds K fd ps ds:=by
 obtain ⟨oc,od,kV,doc,pm,an,cdv,ct,osl,rfl,lk,hcd⟩:=F.ex
 obtain ⟨o,n,hT,hd⟩:=F.df
 intro s us KX hl
 obtain ⟨k,h1,h2⟩:=h kV doc pm an cdv ct us hl
 exact .of_defaults (T:=T) rfl (KX _ _ hT) hd h1 h2
theorem funD_mk {x qual:Str} {st:Stmt} {f T:Addr} {items:List Value} {oc:Value} {od an:Option Addr} {osl:Array (Option Value)} {kV doc pm cdv ct:Value} {o:Obj} {n:Nat} (l:K.lookup f=some ⟨oc,od,.func (PySem.W.fnOf x qual (defArgs st) (defBody st) (defScope st) (.ref T) kV doc pm an cdv ct),osl⟩)
  (c:PySem.W.codeIn K cdv qual=true) (hT:K.lookup T=some o) (hd:o.data=.seq items.toArray n):FunD K x qual st f T items (PySem.W.fnOf x qual (defArgs st) (defBody st) (defScope st) (.ref T) kV doc pm an cdv ct):=⟨⟨oc,od,kV,doc,pm,an,cdv,ct,osl,rfl,l,c⟩,⟨o,n,hT,hd⟩⟩
end
section
variable {X:Cx}
theorem op_notInD {K:PySem.W.Frag} (hK:X.K=K) (hu:X.A.units+65<cLine):OpR X (compareOp .NotIn) (fun x y H Q=>∃ d ds,Rdv K H x d/\Rdv K H y (.list ds)/\SeqAt.shaped d=true/\SeqAt.shaped (.list ds)=true/\Q (.bl (!(ds.any fun e=>PyData.eqv e d))) H):=by
 intro pins s σ H x y v u Q I rx ry h
 subst hK
 obtain ⟨d,ds,h1,h2,s1,s2,q⟩:=h
 obtain ⟨as,ra⟩:=h1.reads I rx
 obtain ⟨bs,rb⟩:=h2.reads I ry
 exact SeqAt.notIn_list_reads rb ra (SeqAt.canLay_of_shaped s2) (SeqAt.canLay_of_shaped s1) (room_in_shaped s1 hu) ⟨.bl _,H,I,rfl,q⟩
end
section
variable {X:Cx}
end
end L2
namespace Mm
open PySem L2
noncomputable abbrev WK:=List Str × Nat
noncomputable def kOf (ws:List Str):List Key:=ws.map Sum.inr
noncomputable def kvOf (m:List WK):List (List Key × V):=m.map fun p=>(kOf p.1,V.int ((p.2:Nat):Int))
noncomputable def getM (m:List WK) (ws:List Str):Nat:=((m.find? fun p=>decide (p.1=ws)).map (·.2)).getD 0
noncomputable def putM (m:List WK) (ws:List Str) (x:Nat):List WK:=if (m.any fun p=>decide (p.1=ws))=true then m.map (fun p=>if p.1=ws then (p.1,x) else p) else m++[(ws,x)]
theorem kOf_inj {a b:List Str} (h:kOf a=kOf b):a=b:=List.map_inj_right (f:=Sum.inr) (fun _ _ z=>Sum.inr.inj z) |>.mp h
theorem kOf_dec (a b:List Str):decide (kOf a=kOf b)=decide (a=b):=by
 by_cases h:a=b
 ·rw [h];simp
 ·rw [Qe h,Qe fun z=>h (kOf_inj z)]
theorem kOf_kV (ws:List Str):(kOf ws).map kV=ws.map V.str:=by
 unfold kOf
 rw [List.map_map]
 rfl
theorem val_kv (ws:List Str):∀ m:List WK,valV (kvOf m) (kOf ws)=(m.find? fun p=>decide (p.1=ws)).map fun p=>V.int ((p.2:Nat):Int)
 | []=>rfl
 | p::r=>by
  by_cases h:p.1=ws
  ·rw [show kvOf (p::r)=(kOf p.1,V.int ((p.2:Nat):Int))::kvOf r from rfl,valV_pos (by rw [h]),List.find?_cons,Qo h];rfl
  ·rw [show kvOf (p::r)=(kOf p.1,V.int ((p.2:Nat):Int))::kvOf r from rfl,valV_neg (fun z=>h (kOf_inj z)),val_kv ws r,List.find?_cons,Qe h]
theorem get_kv (m:List WK) (ws:List Str):(valV (kvOf m) (kOf ws)).getD (V.int 0)=V.int ((getM m ws:Nat):Int):=by
 rw [val_kv]
 unfold getM
 cases m.find? fun p=>decide (p.1=ws) with
 | none=>rfl
 | some p=>rfl
theorem put_kv (m:List WK) (ws:List Str) (x:Nat):putK (kvOf m) (kOf ws) (V.int ((x:Nat):Int))=kvOf (putM m ws x):=by
 unfold putK putM
 have e:((kvOf m).any fun kv=>decide (kv.1=kOf ws))=(m.any fun p=>decide (p.1=ws)):=by
  unfold kvOf
  rw [List.any_map]
  congr 1
  funext p
  exact kOf_dec _ _
 rw [e]
 split
 ·unfold kvOf
  rw [List.map_map,List.map_map]
  refine QM fun p _=>?_
  by_cases h:p.1=ws
  ·simp [h]
  ·have h':¬ kOf p.1=kOf ws:=fun z=>h (kOf_inj z)
   simp [h,h']
 ·unfold kvOf
  rw [QD]
  rfl
noncomputable def vstep (c:Nat->List Str) (m:List WK) (s:Nat):List WK:=putM m (c s) (getM m (c s) ||| 2 ^ s)
noncomputable def vrun (c:Nat->List Str) (ss:List Nat):List WK:=ss.foldl (vstep c) []
theorem vrun_snoc (c:Nat->List Str) (ss:List Nat) (s:Nat):vrun c (ss++[s])=vstep c (vrun c ss) s:=by simp [vrun]
noncomputable abbrev keys (m:List WK):List (List Str):=m.map (·.1)
theorem any_keys (m:List WK) (ws:List Str):(m.any fun p=>decide (p.1=ws))=true↔ws∈keys m:=by
 rw [List.any_eq_true]
 constructor
 ·rintro ⟨p,hp,h⟩
  exact List.mem_map.mpr ⟨p,hp,of_decide_eq_true h⟩
 ·intro h
  obtain ⟨p,hp,e⟩:=Qy h
  exact ⟨p,hp,Qo e⟩
theorem get_at:∀ {m:List WK} {p:WK},(keys m).Nodup->p∈m->getM m p.1=p.2
 | [],_,_,h=>nomatch h
 | q::r,p,hn,h=>by
  have hn:q.1∉keys r/\(keys r).Nodup:=List.nodup_cons.mp hn
  unfold getM
  rw [List.find?_cons]
  by_cases e:q.1=p.1
  ·rw [Qo e]
   rcases Qi h with z | z
   ·rw [z];rfl
   ·exact absurd (List.mem_map.mpr ⟨p,z,rfl⟩:p.1∈keys r) (by rw [<- e];exact hn.1)
  ·rw [Qe e]
   rcases Qi h with z | z
   ·exact absurd (by rw [z]) e
   ·exact get_at hn.2 z
theorem find_at:∀ {m:List WK} {p:WK},(keys m).Nodup->p∈m->(m.find? fun q=>decide (q.1=p.1))=some p
 | [],_,_,h=>nomatch h
 | q::r,p,hn,h=>by
  have hn:q.1∉keys r/\(keys r).Nodup:=List.nodup_cons.mp hn
  rw [List.find?_cons]
  by_cases e:q.1=p.1
  ·rw [Qo e]
   rcases Qi h with z | z
   ·rw [z]
   ·exact absurd (List.mem_map.mpr ⟨p,z,rfl⟩:p.1∈keys r) (by rw [<- e];exact hn.1)
  ·rw [Qe e]
   rcases Qi h with z | z
   ·exact absurd (by rw [z]) e
   ·exact find_at hn.2 z
theorem get_none {m:List WK} {ws:List Str} (h:ws∉keys m):getM m ws=0:=by
 unfold getM
 rw [List.find?_eq_none.mpr]
 ·rfl
 ·intro p hp hd
  exact h (List.mem_map.mpr ⟨p,hp,of_decide_eq_true hd⟩)
noncomputable def orB (ws:List Str) (s:Nat) (p:WK):WK:=if p.1=ws then (p.1,p.2 ||| 2 ^ s) else p
theorem vstep_old {c:Nat->List Str} {m:List WK} {s:Nat} (hn:(keys m).Nodup) (h:c s∈keys m):vstep c m s=m.map (orB (c s) s):=by
 unfold vstep putM
 rw [if_pos ((any_keys m _).mpr h)]
 refine QM fun p hp=>?_
 unfold orB
 by_cases e:p.1=c s
 ·rw [if_pos e,if_pos e,<- e,get_at hn hp]
 ·rw [if_neg e,if_neg e]
theorem vstep_new {c:Nat->List Str} {m:List WK} {s:Nat} (h:c s∉keys m):vstep c m s=m++[(c s,2 ^ s)]:=by
 unfold vstep putM
 rw [if_neg (fun z=>h ((any_keys m _).mp z)),get_none h,Nat.zero_or]
theorem orB_fst (ws:List Str) (s:Nat) (p:WK):(orB ws s p).1=p.1:=by unfold orB;split<;>rfl
theorem keys_orB (ws:List Str) (s:Nat) (m:List WK):keys (m.map (orB ws s))=keys m:=by
 unfold keys
 rw [List.map_map]
 exact QM fun p _=>orB_fst ws s p
structure VI (c:Nat->List Str) (ss:List Nat) (m:List WK):Prop where
 nd:(keys m).Nodup
 bit:∀ p∈m,∀ s,p.2.testBit s=true↔s∈ss/\c s=p.1
 cov:∀ s∈ss,c s∈keys m
 ex:∀ p∈m,∃ s,p.2.testBit s=true
 ord:∀ (i j:Nat) (p q:WK),i<j->m[i]?=some p->m[j]?=some q->∃ s,p.2.testBit s=true/\∀ t,q.2.testBit t=true->s<t
theorem orB_bit (ws:List Str) (s:Nat) (p:WK) (t:Nat):(orB ws s p).2.testBit t=true↔p.2.testBit t=true∨(p.1=ws/\t=s):=by
 unfold orB
 by_cases e:p.1=ws
 ·rw [if_pos e]
  simp only [Nat.testBit_or,Bool.or_eq_true,Nat.testBit_two_pow,decide_eq_true_eq]
  constructor
  ·rintro (h | h)
   ·exact .inl h
   ·exact .inr ⟨e,h.symm⟩
  ·rintro (h | ⟨_,h⟩)
   ·exact .inl h
   ·exact .inr h.symm
 ·rw [if_neg e]
  exact ⟨.inl,fun h=>h.elim id fun z=>absurd z.1 e⟩
theorem VI.step {c:Nat->List Str} {ss:List Nat} {m:List WK} {s:Nat} (h:VI c ss m) (hs:∀ t∈ss,t<s):VI c (ss++[s]) (vstep c m s):=by
 have mem:∀ t,t∈ss++[s]↔t∈ss∨t=s:=fun t=>by simp
 by_cases hk:c s∈keys m
 ·rw [vstep_old h.nd hk]
  refine ⟨by rw [keys_orB];exact h.nd,fun p hp t=>?_,fun t ht=>?_,fun p hp=>?_,fun i j p q hij hi hj=>?_⟩
  ·obtain ⟨q,hq,rfl⟩:=Qy hp
   rw [orB_bit,h.bit q hq,orB_fst,mem]
   constructor
   ·rintro (⟨h1,h2⟩ | ⟨h1,rfl⟩)
    ·exact ⟨.inl h1,h2⟩
    ·exact ⟨.inr rfl,h1.symm⟩
   ·rintro ⟨h1 | rfl,h2⟩
    ·exact .inl ⟨h1,h2⟩
    ·exact .inr ⟨h2.symm,rfl⟩
  ·rw [keys_orB]
   rcases (mem t).mp ht with h1 | rfl
   ·exact h.cov t h1
   ·exact hk
  ·obtain ⟨q,hq,rfl⟩:=Qy hp
   obtain ⟨t,ht⟩:=h.ex q hq
   exact ⟨t,(orB_bit ..).mpr (.inl ht)⟩
  ·rw [Qk] at hi hj
   obtain ⟨p0,hp0,rfl⟩:=Option.map_eq_some_iff.mp hi
   obtain ⟨q0,hq0,rfl⟩:=Option.map_eq_some_iff.mp hj
   obtain ⟨t,ht,hl⟩:=h.ord i j p0 q0 hij hp0 hq0
   refine ⟨t,(orB_bit ..).mpr (.inl ht),fun u hu=>?_⟩
   rcases (orB_bit ..).mp hu with z | ⟨_,rfl⟩
   ·exact hl u z
   ·exact hs t ((h.bit p0 (Qz hp0) t).mp ht).1
 ·rw [vstep_new hk]
  refine ⟨?_,fun p hp t=>?_,fun t ht=>?_,fun p hp=>?_,fun i j p q hij hi hj=>?_⟩
  ·unfold keys
   rw [QD]
   refine List.nodup_append.mpr ⟨h.nd,by simp,?_⟩
   intro a ha b hb e
   have:b=c s:=by simpa using hb
   exact hk (by rw [<- this,<- e];exact ha)
  ·rcases Qx hp with hpm | hp
   ·rw [h.bit p hpm,mem]
    constructor
    ·rintro ⟨h1,h2⟩
     exact ⟨.inl h1,h2⟩
    ·rintro ⟨h1 | rfl,h2⟩
     ·exact ⟨h1,h2⟩
     ·exact absurd (by rw [h2];exact List.mem_map.mpr ⟨p,hpm,rfl⟩) hk
   ·have e:p=(c s,2 ^ s):=by simpa using hp
    subst e
    rw [mem]
    simp only [Nat.testBit_two_pow,decide_eq_true_eq]
    constructor
    ·rintro rfl
     exact ⟨.inr rfl,rfl⟩
    ·rintro ⟨h1 | rfl,h2⟩
     ·exact absurd (by rw [<- h2];exact h.cov t h1) hk
     ·rfl
  ·unfold keys
   rw [QD]
   rcases (mem t).mp ht with h1 | rfl
   ·exact List.mem_append_left _ (h.cov t h1)
   ·exact List.mem_append_right _ (by simp)
  ·rcases Qx hp with hp | hp
   ·exact h.ex p hp
   ·have e:p=(c s,2 ^ s):=by simpa using hp
    subst e
    exact ⟨s,by simp⟩
  ·have hil:i<m.length:=by
    have:=(Qc hj).1
    simp at this
    omega
   rw [Qv hil] at hi
   by_cases hjl:j<m.length
   ·rw [Qv hjl] at hj
    exact h.ord i j p q hij hi hj
   ·have ej:j=m.length:=by
     have:=(Qc hj).1
     simp at this
     omega
    subst ej
    have e:q=(c s,2 ^ s):=by
     rw [Qq (Qh _)] at hj
     simpa using hj.symm
    subst e
    obtain ⟨t,ht⟩:=h.ex p (Qz hi)
    refine ⟨t,ht,fun u hu=>?_⟩
    have eu:s=u:=by simpa [Nat.testBit_two_pow] using hu
    rw [<- eu]
    exact hs t ((h.bit p (Qz hi) t).mp ht).1
theorem VI.nil (c:Nat->List Str):VI c [] []:=⟨by simp [keys],fun p hp=>(nomatch hp),fun s hs=>(nomatch hs),fun p hp=>(nomatch hp),fun i j p q _ h=>by simp at h⟩
theorem vi_take {c:Nat->List Str} {ss:List Nat} (hp:ss.Pairwise (·<·)):∀ i,i<=ss.length->VI c (ss.take i) (vrun c (ss.take i))
 | 0,_=>VI.nil c
 | i+1,hi=>by
  have ih:=vi_take (c:=c) hp i (by omega)
  rw [QF (by omega),vrun_snoc]
  refine ih.step fun t ht=>?_
  obtain ⟨j,hj,e⟩:=List.getElem_of_mem ht
  rw [QE] at hj
  rw [List.getElem_take] at e
  rw [<- e]
  exact List.pairwise_iff_getElem.mp hp j i (by omega) (by omega) (by omega)
theorem vi_all {c:Nat->List Str} {ss:List Nat} (hp:ss.Pairwise (·<·)):VI c ss (vrun c ss):=by
 have:=vi_take (c:=c) hp ss.length (Qh _)
 rwa [QH] at this
theorem vstep_le (c:Nat->List Str) (m:List WK) (s:Nat):m.length<=(vstep c m s).length:=by
 unfold vstep putM
 split
 ·rw [Qd];exact Qh _
 ·rw [Qj];omega
theorem vrun_mono (c:Nat->List Str) (ss:List Nat):∀ i,(vrun c (ss.take i)).length<=(vrun c ss).length:=by
 intro i
 have:∀ (l:List Nat) (m:List WK),m.length<=(l.foldl (vstep c) m).length:=by
  intro l
  induction l with
  | nil=>intro m;exact Qh _
  | cons a r ih=>intro m;exact QA (vstep_le c m a) (ih _)
 have h:=this (ss.drop i) (vrun c (ss.take i))
 have e:(ss.drop i).foldl (vstep c) (vrun c (ss.take i))=vrun c ss:=by
  unfold vrun
  rw [<- List.foldl_append,List.take_append_drop]
 rw [e] at h
 exact h
theorem vstep_ge (c:Nat->List Str) (m:List WK) (s:Nat):(vstep c m s).length<=m.length+1:=by
 unfold vstep putM
 split
 ·rw [Qd];omega
 ·rw [Qj];simp
theorem vrun_len (c:Nat->List Str) (ss:List Nat):(vrun c ss).length<=ss.length:=by
 have:∀ (l:List Nat) (m:List WK),(l.foldl (vstep c) m).length<=m.length+l.length:=by
  intro l
  induction l with
  | nil=>intro m;exact Qh _
  | cons a r ih =>
   intro m
   have h1:=ih (vstep c m a)
   have h2:=vstep_ge c m a
   simp only [List.foldl_cons,List.length_cons]
   omega
 simpa [vrun] using this ss []
theorem keys_step (c:Nat->List Str) (m:List WK) (s:Nat):keys (vstep c m s)=if c s∈keys m then keys m else keys m++[c s]:=by
 unfold vstep putM
 by_cases h:c s∈keys m
 ·rw [if_pos ((any_keys m _).mpr h),if_pos h]
  unfold keys
  rw [List.map_map]
  refine QM fun p _=>?_
  show (if p.1=c s then (p.1,_) else p).1=p.1
  split<;>rfl
 ·rw [if_neg (fun z=>h ((any_keys m _).mp z)),if_neg h]
  unfold keys
  rw [QD]
  rfl
noncomputable def insd (x:Nat):List Nat:=setsOf x (Builtin.Int.intBits (x:Int))
theorem sets_pw (m N:Nat):(setsOf m N).Pairwise (·<·):=List.pairwise_lt_range.filter _
theorem mem_insd (x s:Nat):s∈insd x↔x.testBit s=true:=by
 unfold insd setsOf
 rw [List.mem_filter,List.mem_range]
 refine ⟨fun h=>h.2,fun h=>⟨?_,h⟩⟩
 refine Decidable.byContradiction fun z=>?_
 rw [high_bit (bits_self x) (by omega)] at h
 cases h
noncomputable def lst (x:Nat):Nat:=(insd x).headD 0
theorem lst_head {x:Nat} {s:Nat} (h:x.testBit s=true):∃ r,insd x=lst x::r/\x.testBit (lst x)=true:=by
 have hm:=(mem_insd x s).mpr h
 unfold lst
 cases e:insd x with
 | nil=>rw [e] at hm;cases hm
 | cons a r=>exact ⟨r,rfl,(mem_insd x a).mp (by rw [e];exact Qp)⟩
theorem lst_le {x s:Nat} (h:x.testBit s=true):lst x<=s:=by
 obtain ⟨r,e,_⟩:=lst_head h
 have hm:=(mem_insd x s).mpr h
 have hp:=sets_pw x (Builtin.Int.intBits (x:Int))
 rw [show setsOf x (Builtin.Int.intBits (x:Int))=insd x from rfl,e,List.pairwise_cons] at hp
 rw [e] at hm
 rcases Qi hm with z | z
 ·omega
 ·have:=hp.1 s z
  omega
noncomputable def seenU (m:List WK):Nat:=m.foldl (fun a p=>a ||| p.2) 0
theorem seenU_snoc (m:List WK) (p:WK):seenU (m++[p])=seenU m ||| p.2:=by simp [seenU]
theorem seenU_bit (m:List WK) (s:Nat):(seenU m).testBit s=true↔∃ p∈m,p.2.testBit s=true:=by
 have:∀ (l:List WK) (a:Nat),(l.foldl (fun a p=>a ||| p.2) a).testBit s=true↔a.testBit s=true∨∃ p∈l,p.2.testBit s=true:=by
  intro l
  induction l with
  | nil=>intro a;simp
  | cons q r ih =>
   intro a
   rw [List.foldl_cons,ih]
   simp only [Nat.testBit_or,Bool.or_eq_true,List.mem_cons,exists_eq_or_imp]
   rw [or_assoc]
 rw [seenU,this]
 simp
section
variable {c:Nat->List Str} {ss:List Nat} {m:List WK}
theorem VI.whole (h:VI c ss m) {a:Nat} (ha:∀ s,a.testBit s=true↔s∈ss):seenU m=a:=by
 refine Nat.eq_of_testBit_eq fun s=>?_
 rw [Bool.eq_iff_iff,seenU_bit,ha]
 constructor
 ·rintro ⟨p,hp,hb⟩
  exact ((h.bit p hp s).mp hb).1
 ·intro hs
  obtain ⟨p,hp,e⟩:=Qy (h.cov s hs)
  exact ⟨p,hp,(h.bit p hp s).mpr ⟨hs,e.symm⟩⟩
end
end Mm
namespace K28
open PySem L2 Mm
noncomputable def top (i:Nat):Stmt:=PySem.Challenge.pw_manymakes_k28_too_many_cuts.main.body.getD i (.Pass ⟨0,0,0,0⟩)
noncomputable abbrev st_ZW:Stmt:=top 1
noncomputable abbrev st_Zq:Stmt:=top 2
noncomputable abbrev st_has:Stmt:=top 3
noncomputable abbrev st_ZH:Stmt:=top 4
noncomputable abbrev st_ZX:Stmt:=top 5
noncomputable abbrev st_ZV:Stmt:=top 6
noncomputable abbrev st_Zx:Stmt:=top 7
noncomputable abbrev st_ZB:Stmt:=top 9
noncomputable abbrev st_Zf:Stmt:=top 10
noncomputable abbrev st_Zh:Stmt:=top 11
noncomputable abbrev st_ZR:Stmt:=top 27
noncomputable abbrev st_ZS:Stmt:=top 28
noncomputable abbrev st_ZC:Stmt:=top 29
noncomputable abbrev st_ZI:Stmt:=top 31
noncomputable abbrev st_ZD:Stmt:=top 32
noncomputable abbrev st_Zr:Stmt:=top 35
noncomputable abbrev st_Zj:Stmt:=top 36
noncomputable abbrev st_ZJ:Stmt:=top 37
noncomputable abbrev st_ZE:Stmt:=top 41
noncomputable abbrev st_Zk:Stmt:=top 42
noncomputable abbrev st_ZK:Stmt:=top 43
noncomputable abbrev st_ZY:Stmt:=top 44
noncomputable abbrev st_ZL:Stmt:=top 45
noncomputable abbrev st_Zl:Stmt:=top 46
noncomputable abbrev st_ZF:Stmt:=top 50
noncomputable abbrev st_Zy:Stmt:=top 51
noncomputable abbrev st_ZM:Stmt:=top 52
noncomputable abbrev st_Zz:Stmt:=top 53
noncomputable abbrev st_ZT:Stmt:=top 54
noncomputable abbrev st_ZN:Stmt:=top 55
noncomputable abbrev st_ZO:Stmt:=top 60
noncomputable abbrev st_Zs:Stmt:=top 61
noncomputable abbrev st_Zt:Stmt:=top 63
noncomputable abbrev st_ZA:Stmt:=top 64
noncomputable abbrev st_ZU:Stmt:=top 65
noncomputable abbrev st_ZP:Stmt:=top 66
noncomputable abbrev st_ZQ:Stmt:=top 67
noncomputable abbrev st_Zu:Stmt:=inClass (top 30) 0
noncomputable abbrev st_Zm:Stmt:=inClass (top 30) 1
noncomputable abbrev st_Zv:Stmt:=inClass (top 30) 2
noncomputable abbrev st_Zc:Stmt:=inClass (top 30) 3
noncomputable abbrev st_Zd:Stmt:=inClass (top 30) 9
noncomputable abbrev st_Za:Stmt:=inClass (top 30) 10
noncomputable abbrev st_Zb:Stmt:=inClass (top 30) 11
noncomputable abbrev st_ZG:Stmt:=inClass (top 58) 0
noncomputable abbrev st_Zn:Stmt:=inClass (top 59) 0
noncomputable abbrev st_Ze:Stmt:=inClass (top 59) 1
noncomputable abbrev st_Zi:Stmt:=inClass (top 59) 2
noncomputable abbrev st_Zo:Stmt:=inClass (top 59) 3
noncomputable abbrev st_Zw:Stmt:=inClass (top 59) 4
noncomputable abbrev st_Zg:Stmt:=inClass (top 59) 5
noncomputable abbrev st_Zp:Stmt:=inClass (top 16) 0
noncomputable abbrev st_law:Stmt:=top 68
structure Adr where
 ZW:Addr
 Zq:Addr
 has:Addr
 ZH:Addr
 ZX:Addr
 ZV:Addr
 Zx:Addr
 ZB:Addr
 Zf:Addr
 Zh:Addr
 ZR:Addr
 ZS:Addr
 ZC:Addr
 ZI:Addr
 ZD:Addr
 Zr:Addr
 Zj:Addr
 ZJ:Addr
 ZE:Addr
 Zk:Addr
 ZK:Addr
 ZY:Addr
 ZL:Addr
 Zl:Addr
 ZF:Addr
 Zy:Addr
 ZM:Addr
 Zz:Addr
 ZT:Addr
 ZN:Addr
 ZO:Addr
 Zs:Addr
 Zt:Addr
 ZA:Addr
 ZU:Addr
 ZP:Addr
 ZQ:Addr
 Zu:Addr
 Zm:Addr
 Zv:Addr
 Zc:Addr
 Zd:Addr
 Za:Addr
 Zb:Addr
 ZG:Addr
 Zn:Addr
 Ze:Addr
 Zi:Addr
 Zo:Addr
 Zw:Addr
 Zg:Addr
 Zp:Addr
 t_ZN:Addr
 c_Phrase:Addr
 c_Spot:Addr
 c_Reading:Addr
 d_NEEDS:Addr
 x_MakesError:Addr
 x_NoGroup:Addr
 x_TooMany:Addr
 q_LANGUAGE_WORDS:Addr
 q_OPERATORS:Addr
structure Fds where
 ZW:FuncData
 Zq:FuncData
 has:FuncData
 ZH:FuncData
 ZX:FuncData
 ZV:FuncData
 Zx:FuncData
 ZB:FuncData
 Zf:FuncData
 Zh:FuncData
 ZR:FuncData
 ZS:FuncData
 ZC:FuncData
 ZI:FuncData
 ZD:FuncData
 Zr:FuncData
 Zj:FuncData
 ZJ:FuncData
 ZE:FuncData
 Zk:FuncData
 ZK:FuncData
 ZY:FuncData
 ZL:FuncData
 Zl:FuncData
 ZF:FuncData
 Zy:FuncData
 ZM:FuncData
 Zz:FuncData
 ZT:FuncData
 ZN:FuncData
 ZO:FuncData
 Zs:FuncData
 Zt:FuncData
 ZA:FuncData
 ZU:FuncData
 ZP:FuncData
 ZQ:FuncData
 Zu:FuncData
 Zm:FuncData
 Zv:FuncData
 Zc:FuncData
 Zd:FuncData
 Za:FuncData
 Zb:FuncData
 ZG:FuncData
 Zn:FuncData
 Ze:FuncData
 Zi:FuncData
 Zo:FuncData
 Zw:FuncData
 Zg:FuncData
 Zp:FuncData
structure All (P:Program) (w:World) (K:W.Frag) (mg:Str->Option Value) (A:Adr) (D:Fds):Prop where
 m_ZW:mg "every"=some (.ref A.ZW)
 k_ZW:W.keepIn K (.ref A.ZW)=true
 F_ZW:Fun K "every" "every" st_ZW A.ZW D.ZW
 b_ZW:Binds K D.ZW ["n"] []
 m_Zq:mg "switch_mask"=some (.ref A.Zq)
 k_Zq:W.keepIn K (.ref A.Zq)=true
 F_Zq:Fun K "switch_mask" "switch_mask" st_Zq A.Zq D.Zq
 b_Zq:Binds K D.Zq ["k","n"] []
 m_has:mg "has"=some (.ref A.has)
 k_has:W.keepIn K (.ref A.has)=true
 F_has:Fun K "has" "has" st_has A.has D.has
 b_has:Binds K D.has ["mask","s"] []
 m_ZH:mg "settings"=some (.ref A.ZH)
 k_ZH:W.keepIn K (.ref A.ZH)=true
 F_ZH:Fun K "settings" "settings" st_ZH A.ZH D.ZH
 b_ZH:Binds K D.ZH ["mask"] []
 m_ZX:mg "least"=some (.ref A.ZX)
 k_ZX:W.keepIn K (.ref A.ZX)=true
 F_ZX:Fun K "least" "least" st_ZX A.ZX D.ZX
 b_ZX:Binds K D.ZX ["mask"] []
 m_ZV:mg "add_to"=some (.ref A.ZV)
 k_ZV:W.keepIn K (.ref A.ZV)=true
 F_ZV:Fun K "add_to" "add_to" st_ZV A.ZV D.ZV
 b_ZV:Binds K D.ZV ["found","key","mask"] []
 m_Zx:mg "with_masks"=some (.ref A.Zx)
 k_Zx:W.keepIn K (.ref A.Zx)=true
 F_Zx:Fun K "with_masks" "with_masks" st_Zx A.Zx D.Zx
 b_Zx:Binds K D.Zx ["found"] []
 m_ZB:mg "kept_tree"=some (.ref A.ZB)
 k_ZB:W.keepIn K (.ref A.ZB)=true
 F_ZB:Fun K "kept_tree" "kept_tree" st_ZB A.ZB D.ZB
 b_ZB:Binds K D.ZB ["tree","mask"] []
 m_Zf:mg "kept_statement"=some (.ref A.Zf)
 k_Zf:W.keepIn K (.ref A.Zf)=true
 F_Zf:Fun K "kept_statement" "kept_statement" st_Zf A.Zf D.Zf
 b_Zf:Binds K D.Zf ["one","mask"] []
 m_Zh:mg "row_and_least"=some (.ref A.Zh)
 k_Zh:W.keepIn K (.ref A.Zh)=true
 F_Zh:Fun K "row_and_least" "row_and_least" st_Zh A.Zh D.Zh
 b_Zh:Binds K D.Zh ["pair"] []
 m_ZR:mg "made_of"=some (.ref A.ZR)
 k_ZR:W.keepIn K (.ref A.ZR)=true
 F_ZR:Fun K "made_of" "made_of" st_ZR A.ZR D.ZR
 b_ZR:Binds K D.ZR ["word","signs","most"] []
 m_ZS:mg "is_name"=some (.ref A.ZS)
 k_ZS:W.keepIn K (.ref A.ZS)=true
 F_ZS:Fun K "is_name" "is_name" st_ZS A.ZS D.ZS
 b_ZS:Binds K D.ZS ["word"] []
 m_ZC:mg "is_number"=some (.ref A.ZC)
 k_ZC:W.keepIn K (.ref A.ZC)=true
 F_ZC:Fun K "is_number" "is_number" st_ZC A.ZC D.ZC
 b_ZC:Binds K D.ZC ["word"] []
 m_ZI:mg "read_row"=some (.ref A.ZI)
 k_ZI:W.keepIn K (.ref A.ZI)=true
 F_ZI:Fun K "read_row" "read_row" st_ZI A.ZI D.ZI
 b_ZI:Binds K D.ZI ["words","at"] []
 m_ZD:mg "read_head"=some (.ref A.ZD)
 k_ZD:W.keepIn K (.ref A.ZD)=true
 F_ZD:Fun K "read_head" "read_head" st_ZD A.ZD D.ZD
 b_ZD:Binds K D.ZD ["phrase","word"] []
 m_Zr:mg "place_fault"=some (.ref A.Zr)
 k_Zr:W.keepIn K (.ref A.Zr)=true
 F_Zr:Fun K "place_fault" "place_fault" st_Zr A.Zr D.Zr
 b_Zr:Binds K D.Zr ["word","within"] []
 m_Zj:mg "is_misplaced"=some (.ref A.Zj)
 k_Zj:W.keepIn K (.ref A.Zj)=true
 F_Zj:Fun K "is_misplaced" "is_misplaced" st_Zj A.Zj D.Zj
 b_Zj:Binds K D.Zj ["word","within"] []
 m_ZJ:mg "is_stray"=some (.ref A.ZJ)
 k_ZJ:W.keepIn K (.ref A.ZJ)=true
 F_ZJ:Fun K "is_stray" "is_stray" st_ZJ A.ZJ D.ZJ
 b_ZJ:Binds K D.ZJ ["word","within"] []
 m_ZE:mg "read_wish"=some (.ref A.ZE)
 k_ZE:W.keepIn K (.ref A.ZE)=true
 F_ZE:Fun K "read_wish" "read_wish" st_ZE A.ZE D.ZE
 b_ZE:Binds K D.ZE ["text","n"] []
 m_Zk:mg "mask_of_text"=some (.ref A.Zk)
 k_Zk:W.keepIn K (.ref A.Zk)=true
 F_Zk:Fun K "mask_of_text" "mask_of_text" st_Zk A.Zk D.Zk
 b_Zk:Binds K D.Zk ["text","n"] []
 m_ZK:mg "reckoned"=some (.ref A.ZK)
 k_ZK:W.keepIn K (.ref A.ZK)=true
 F_ZK:Fun K "reckoned" "reckoned" st_ZK A.ZK D.ZK
 b_ZK:Binds K D.ZK ["text","switches","full"] []
 m_ZY:mg "taken"=some (.ref A.ZY)
 k_ZY:W.keepIn K (.ref A.ZY)=true
 F_ZY:Fun K "taken" "taken" st_ZY A.ZY D.ZY
 b_ZY:Binds K D.ZY ["found","many"] []
 m_ZL:mg "value_of"=some (.ref A.ZL)
 k_ZL:W.keepIn K (.ref A.ZL)=true
 F_ZL:Fun K "value_of" "value_of" st_ZL A.ZL D.ZL
 b_ZL:Binds K D.ZL ["sign","switches","full"] []
 m_Zl:mg "put_together"=some (.ref A.Zl)
 k_Zl:W.keepIn K (.ref A.Zl)=true
 F_Zl:Fun K "put_together" "put_together" st_Zl A.Zl D.Zl
 b_Zl:Binds K D.Zl ["sign","parts","full"] []
 m_ZF:mg "read_rows"=some (.ref A.ZF)
 k_ZF:W.keepIn K (.ref A.ZF)=true
 F_ZF:Fun K "read_rows" "read_rows" st_ZF A.ZF D.ZF
 b_ZF:Binds K D.ZF ["text","n"] []
 m_Zy:mg "read_words"=some (.ref A.Zy)
 k_Zy:W.keepIn K (.ref A.Zy)=true
 F_Zy:Fun K "read_words" "read_words" st_Zy A.Zy D.Zy
 b_Zy:Binds K D.Zy ["row","n","at"] []
 m_ZM:mg "words_of"=some (.ref A.ZM)
 k_ZM:W.keepIn K (.ref A.ZM)=true
 F_ZM:Fun K "words_of" "words_of" st_ZM A.ZM D.ZM
 b_ZM:Binds K D.ZM ["row"] []
 m_Zz:mg "group_mask"=some (.ref A.Zz)
 k_Zz:W.keepIn K (.ref A.Zz)=true
 F_Zz:Fun K "group_mask" "group_mask" st_Zz A.Zz D.Zz
 b_Zz:Binds K D.Zz ["word","n","at"] []
 m_ZT:mg "cut_row"=some (.ref A.ZT)
 k_ZT:W.keepIn K (.ref A.ZT)=true
 F_ZT:Fun K "cut_row" "cut_row" st_ZT A.ZT D.ZT
 b_ZT:Binds K D.ZT ["row","s"] []
 m_ZN:mg "variants"=some (.ref A.ZN)
 k_ZN:W.keepIn K (.ref A.ZN)=true
 F_ZN:∃ t,FunD K "variants" "variants" st_ZN A.ZN A.t_ZN [.int 0 t] D.ZN/\Binds K D.ZN ["row","mask","at"] []/\Binds K D.ZN ["row","mask","at"] [.int 0 t]
 m_ZO:mg "read_cut"=some (.ref A.ZO)
 k_ZO:W.keepIn K (.ref A.ZO)=true
 F_ZO:Fun K "read_cut" "read_cut" st_ZO A.ZO D.ZO
 b_ZO:Binds K D.ZO ["words","at"] []
 m_Zs:mg "read_shared"=some (.ref A.Zs)
 k_Zs:W.keepIn K (.ref A.Zs)=true
 F_Zs:Fun K "read_shared" "read_shared" st_Zs A.Zs D.Zs
 b_Zs:Binds K D.Zs ["rows","mask"] []
 m_Zt:mg "_law_cell_at"=some (.ref A.Zt)
 k_Zt:W.keepIn K (.ref A.Zt)=true
 F_Zt:Fun K "_law_cell_at" "_law_cell_at" st_Zt A.Zt D.Zt
 b_Zt:Binds K D.Zt ["_law_script","_law_k"] []
 m_ZA:mg "_law_stream"=some (.ref A.ZA)
 k_ZA:W.keepIn K (.ref A.ZA)=true
 F_ZA:Fun K "_law_stream" "_law_stream" st_ZA A.ZA D.ZA
 b_ZA:Binds K D.ZA ["_law_cell","_law_size"] []
 m_ZU:mg "_law_row"=some (.ref A.ZU)
 k_ZU:W.keepIn K (.ref A.ZU)=true
 F_ZU:Fun K "_law_row" "_law_row" st_ZU A.ZU D.ZU
 b_ZU:Binds K D.ZU ["_law_number","_law_n"] []
 m_ZP:mg "_law_mask"=some (.ref A.ZP)
 k_ZP:W.keepIn K (.ref A.ZP)=true
 F_ZP:Fun K "_law_mask" "_law_mask" st_ZP A.ZP D.ZP
 b_ZP:Binds K D.ZP ["_law_cell","_law_n"] []
 m_ZQ:mg "_law_cuts"=some (.ref A.ZQ)
 k_ZQ:W.keepIn K (.ref A.ZQ)=true
 F_ZQ:Fun K "_law_cuts" "_law_cuts" st_ZQ A.ZQ D.ZQ
 b_ZQ:Binds K D.ZQ ["_law_row_here","_law_mask_here","_law_n"] []
 M_Phrase:Mk K A.c_Phrase A.Zu
 k_Zu:W.keepIn K (.ref A.Zu)=true
 F_Zu:Fun K "__init__" "Phrase.__init__" st_Zu A.Zu D.Zu
 b_Zu:Binds K D.Zu ["self","words","at"] []
 M_Zm:Meth K A.c_Phrase "ended" A.Zm
 k_Zm:W.keepIn K (.ref A.Zm)=true
 F_Zm:Fun K "ended" "Phrase.ended" st_Zm A.Zm D.Zm
 b_Zm:Binds K D.Zm ["self"] []
 M_Zv:Meth K A.c_Phrase "take" A.Zv
 k_Zv:W.keepIn K (.ref A.Zv)=true
 F_Zv:Fun K "take" "Phrase.take" st_Zv A.Zv D.Zv
 b_Zv:Binds K D.Zv ["self"] []
 M_Zc:Meth K A.c_Phrase "take_name" A.Zc
 k_Zc:W.keepIn K (.ref A.Zc)=true
 F_Zc:Fun K "take_name" "Phrase.take_name" st_Zc A.Zc D.Zc
 b_Zc:Binds K D.Zc ["self"] []
 M_Zd:Meth K A.c_Phrase "take_expr" A.Zd
 k_Zd:W.keepIn K (.ref A.Zd)=true
 F_Zd:Fun K "take_expr" "Phrase.take_expr" st_Zd A.Zd D.Zd
 b_Zd:Binds K D.Zd ["self","deep"] []
 M_Za:Meth K A.c_Phrase "take_named" A.Za
 k_Za:W.keepIn K (.ref A.Za)=true
 F_Za:Fun K "take_named" "Phrase.take_named" st_Za A.Za D.Za
 b_Za:Binds K D.Za ["self","word","deep"] []
 M_Zb:Meth K A.c_Phrase "take_exprs" A.Zb
 k_Zb:W.keepIn K (.ref A.Zb)=true
 F_Zb:Fun K "take_exprs" "Phrase.take_exprs" st_Zb A.Zb D.Zb
 b_Zb:Binds K D.Zb ["self","deep"] []
 M_Spot:Mk K A.c_Spot A.ZG
 k_ZG:W.keepIn K (.ref A.ZG)=true
 F_ZG:Fun K "__init__" "Spot.__init__" st_ZG A.ZG D.ZG
 b_ZG:Binds K D.ZG ["self","number","within","outer","other"] []
 M_Reading:Mk K A.c_Reading A.Zn
 k_Zn:W.keepIn K (.ref A.Zn)=true
 F_Zn:Fun K "__init__" "Reading.__init__" st_Zn A.Zn D.Zn
 b_Zn:Binds K D.Zn ["self","mask"] []
 M_Ze:Meth K A.c_Reading "new_spot" A.Ze
 k_Ze:W.keepIn K (.ref A.Ze)=true
 F_Ze:Fun K "new_spot" "Reading.new_spot" st_Ze A.Ze D.Ze
 b_Ze:Binds K D.Ze ["self","within","outer","other"] []
 M_Zi:Meth K A.c_Reading "go_on" A.Zi
 k_Zi:W.keepIn K (.ref A.Zi)=true
 F_Zi:Fun K "go_on" "Reading.go_on" st_Zi A.Zi D.Zi
 b_Zi:Binds K D.Zi ["self","at","cuts"] []
 M_Zo:Meth K A.c_Reading "step" A.Zo
 k_Zo:W.keepIn K (.ref A.Zo)=true
 F_Zo:Fun K "step" "Reading.step" st_Zo A.Zo D.Zo
 b_Zo:Binds K D.Zo ["self","mask","at","said","spot"] []
 M_Zw:Meth K A.c_Reading "led" A.Zw
 k_Zw:W.keepIn K (.ref A.Zw)=true
 F_Zw:Fun K "led" "Reading.led" st_Zw A.Zw D.Zw
 b_Zw:Binds K D.Zw ["self","mask","said","spot"] []
 M_Zg:Meth K A.c_Reading "end_at" A.Zg
 k_Zg:W.keepIn K (.ref A.Zg)=true
 F_Zg:Fun K "end_at" "Reading.end_at" st_Zg A.Zg D.Zg
 b_Zg:Binds K D.Zg ["self","at"] []
 M_TooMany:MkI K A.x_TooMany A.Zp bmVE "ValueError.__new__"
 ic_TooMany:ICls K A.x_TooMany
 na_TooMany_at:NoAttr K A.x_TooMany "at"
 k_Zp:W.keepIn K (.ref A.Zp)=true
 F_Zp:Fun K "__init__" "TooMany.__init__" st_Zp A.Zp D.Zp
 b_Zp:Binds K D.Zp ["self","at"] []
 m_Phrase:mg "Phrase"=some (.ref A.c_Phrase)
 cl_Phrase:Cls K A.c_Phrase
 na_Phrase_words:NoAttr K A.c_Phrase "words"
 na_Phrase_at:NoAttr K A.c_Phrase "at"
 na_Phrase_place:NoAttr K A.c_Phrase "place"
 ty_Phrase:∀ (H:Hp) (a dx:Addr) (fs:List (Str × V)),H a=some (.ins A.c_Phrase dx fs)->TyOf K H (.ref a) (.ref A.c_Phrase)
 is_Phrase:W.kitOne K (.ref A.c_Phrase) (.ref A.c_Phrase)=some true
 m_Spot:mg "Spot"=some (.ref A.c_Spot)
 cl_Spot:Cls K A.c_Spot
 na_Spot_number:NoAttr K A.c_Spot "number"
 na_Spot_within:NoAttr K A.c_Spot "within"
 na_Spot_outer:NoAttr K A.c_Spot "outer"
 na_Spot_other:NoAttr K A.c_Spot "other"
 na_Spot_body:NoAttr K A.c_Spot "body"
 ty_Spot:∀ (H:Hp) (a dx:Addr) (fs:List (Str × V)),H a=some (.ins A.c_Spot dx fs)->TyOf K H (.ref a) (.ref A.c_Spot)
 is_Spot:W.kitOne K (.ref A.c_Spot) (.ref A.c_Spot)=some true
 m_Reading:mg "Reading"=some (.ref A.c_Reading)
 cl_Reading:Cls K A.c_Reading
 na_Reading_spots:NoAttr K A.c_Reading "spots"
 na_Reading_standing:NoAttr K A.c_Reading "standing"
 na_Reading_faults:NoAttr K A.c_Reading "faults"
 ty_Reading:∀ (H:Hp) (a dx:Addr) (fs:List (Str × V)),H a=some (.ins A.c_Reading dx fs)->TyOf K H (.ref a) (.ref A.c_Reading)
 is_Reading:W.kitOne K (.ref A.c_Reading) (.ref A.c_Reading)=some true
 v_LETTERS:∃ t,mg "LETTERS"=some (.str "abcdefghij" t)
 v_DEEPEST_GROUP:∃ t,mg "DEEPEST_GROUP"=some (.int 5 t)
 v_MOST_VARIANTS:∃ t,mg "MOST_VARIANTS"=some (.int 16 t)
 v_SMALL_LETTERS:∃ t,mg "SMALL_LETTERS"=some (.str "abcdefghijklmnopqrstuvwxyz" t)
 v_FIGURES:∃ t,mg "FIGURES"=some (.str "0123456789" t)
 v_LONGEST_NAME:∃ t,mg "LONGEST_NAME"=some (.int 8 t)
 v_LONGEST_NUMBER:∃ t,mg "LONGEST_NUMBER"=some (.int 18 t)
 v_DEEPEST_EXPR:∃ t,mg "DEEPEST_EXPR"=some (.int 6 t)
 v_MOST_BLOCKS:∃ t,mg "MOST_BLOCKS"=some (.int 4 t)
 v_TOP:∃ t,mg "TOP"=some (.int 0 t)
 m_NEEDS:mg "NEEDS"=some (.ref A.d_NEEDS)
 D_NEEDS:KDict P w K A.d_NEEDS [("!",1),("&",2),("|",2),("^",2),("?",3)]
 m_LANGUAGE_WORDS:mg "LANGUAGE_WORDS"=some (.ref A.q_LANGUAGE_WORDS)
 Q_LANGUAGE_WORDS:∀ H,SqT K H A.q_LANGUAGE_WORDS [.str "kind",.str "def",.str "set",.str "tell",.str "give",.str "if",.str "else",.str "while",.str "end",.str "num",.str "truth",.str "yes",.str "no",.str "less",.str "same",.str "and",.str "or",.str "not",.str "do",.str "new",.str "of",.str "+",.str "-",.str "*",.str "."]
 m_OPERATORS:mg "OPERATORS"=some (.ref A.q_OPERATORS)
 Q_OPERATORS:∀ H,SqT K H A.q_OPERATORS [.str "+",.str "-",.str "*",.str "less",.str "same",.str "and",.str "or"]
 m_MakesError:mg "MakesError"=some (.ref A.x_MakesError)
 xc_MakesError:XCls K A.x_MakesError
 m_NoGroup:mg "NoGroup"=some (.ref A.x_NoGroup)
 xc_NoGroup:XCls K A.x_NoGroup
 m_TooMany:mg "TooMany"=some (.ref A.x_TooMany)
 xc_TooMany:XCls K A.x_TooMany
 em_TooMany_TooMany:W.exmOne K (.ref A.x_TooMany) (.ref A.x_TooMany)=some true
 ki_TooMany_MakesError:W.kitOne K (.ref A.x_TooMany) (.ref A.x_MakesError)=some true
 ki_TooMany_NoGroup:W.kitOne K (.ref A.x_TooMany) (.ref A.x_NoGroup)=some false
 n_len:mg "len"=none
 n_range:mg "range"=none
 n_int:mg "int"=none
 n_bool:mg "bool"=none
 n_min:mg "min"=none
 n_list:mg "list"=none
 n_reversed:mg "reversed"=none
 n_enumerate:mg "enumerate"=none
 n_isinstance:mg "isinstance"=none
 n_tuple:mg "tuple"=none
 n_sorted:mg "sorted"=none
 n_str:mg "str"=none
 n_all:mg "all"=none
noncomputable def swl (n:Nat):List Nat:=(List.range n).map fun k=>sw k n
noncomputable def fulln (n:Nat):Nat:=2 ^ 2 ^ n-1
noncomputable def iv (l:List Nat):List V:=l.map fun x=>V.int ((x:Nat):Int)
noncomputable def spEvery:Sp:=fun vs H Q _=>∃ n:Nat,vs=[.int n]/\n<=10/\Q (.int (fulln n:Nat)) H
noncomputable def spSwitch:Sp:=fun vs H Q _=>∃ k n:Nat,vs=[.int k,.int n]/\k<n/\n<=10/\Q (.int (sw k n:Nat)) H
noncomputable def spTaken:Sp:=fun vs H Q _=>∃ (l:Addr) (st:List V) (m:Nat),vs=[.ref l,.int m]/\H l=some (.lst st.reverse)/\m<=st.length/\st.length<=4000 /\
 ∀ p H',H p=none->H' p=some (.lst (st.take m))->H' l=some (.lst (st.drop m).reverse)->(∀ b o,H b=some o->b≠l->H' b=some o)->Q (.ref p) H'
noncomputable def spPut (K:W.Frag):Sp:=fun vs H Q _=>∃ (c:Nat) (p:Addr) (ps:List Nat) (full:Nat),vs=[.str ⟨#[c]⟩,.ref p,.int full]/\SqL K H p (iv ps)/\0<needs c/\ps.length=needs c/\Q (.int (putR full c ps:Nat)) H
noncomputable def spValue (K:W.Frag):Sp:=fun vs H Q _=>∃ (c:Nat) (l:Addr) (sws:List Nat) (full v:Nat),vs=[.str ⟨#[c]⟩,.ref l,.int full]/\SqL K H l (iv sws)/\c<128/\valR sws full c=some v/\Q (.int v) H
noncomputable def spReck (K:W.Frag):Sp:=fun vs H Q _=>∃ (z:Str) (l:Addr) (sws:List Nat) (full v:Nat),vs=[.str z,.ref l,.int full]/\SqL K H l (iv sws)/\(∀ c∈z.cps.toList,c<128)/\z.length<=4000 /\
 runR sws full z.cps.toList=some [v]/\∀ H',Same H H'->Q (.int v) H'
noncomputable def spMaskOf:Sp:=fun vs H Q _=>∃ (z:Str) (n v:Nat),vs=[.str z,.int n]/\n<=10/\(∀ c∈z.cps.toList,c<128)/\z.length<=4000/\runR (swl n) (fulln n) z.cps.toList=some [v]/\∀ H',Same H H'->Q (.int v) H'
theorem two_le {n:Nat} (h:n<=10):(2:Nat) ^ n<=1024:=Nat.pow_le_pow_right (by decide) h
theorem one_shl {n:Nat} (h:n<=1024):CShl 1 (n:Int):=⟨by omega,1,by decide,by omega⟩
theorem same_upd {H:Hp} {p:Addr} {o:HO} (h:H p=none):Same H (upd H p o):=fun b u e=>by rw [upd_ne (ne_of_none e h)];exact e
theorem small5k {n:Nat} (h:n<=5000):n<sizeLine:=QL h (by decide)
theorem iv_len (l:List Nat):(iv l).length=l.length:=Qd ..
theorem iv_cons (x:Nat) (l:List Nat):iv (x::l)=V.int (x:Nat)::iv l:=rfl
theorem iv_snoc (l:List Nat) (x:Nat):iv (l++[x])=iv l++[V.int ((x:Nat):Int)]:=by simp [iv]
theorem iv_take (l:List Nat) (n:Nat):(iv l).take n=iv (l.take n):=by simp [iv,List.map_take]
theorem iv_drop (l:List Nat) (n:Nat):(iv l).drop n=iv (l.drop n):=by simp [iv,List.map_drop]
theorem atI_iv {ps:List Nat} {j:Nat} (h:j<ps.length):atI (iv ps) (j:Int)=some (.int (ps.getD j 0:Nat)) :=
 atI_nat (by rw [iv,Qk,Qa h];simp [Qu,Qa h])
theorem sg {c d:Nat} {x:Str} (hx:x=⟨#[d]⟩):decide (V.str ⟨#[c]⟩=V.str x)=decide (c=d):=by
 subst hx
 by_cases h:c=d
 ·subst h;simp
 ·have:¬ (V.str ⟨#[c]⟩=V.str ⟨#[d]⟩):=fun z=>by
   injection z with z
   injection z with z
   exact h (by simpa using z)
  rw [Qe this,Qe h]
theorem needs_pos {c:Nat} (h:0<needs c):c=33∨c=38∨c=124∨c=94∨c=63:=by
 unfold needs at h
 repeat' split at h
 all_goals omega
noncomputable abbrev needsD:List (Str × Int):=[("!",1),("&",2),("|",2),("^",2),("?",3)]
theorem s33:("!":Str)=⟨#[33]⟩:=by decide +kernel
theorem s38:("&":Str)=⟨#[38]⟩:=by decide +kernel
theorem s124:("|":Str)=⟨#[124]⟩:=by decide +kernel
theorem s94:("^":Str)=⟨#[94]⟩:=by decide +kernel
theorem s63:("?":Str)=⟨#[63]⟩:=by decide +kernel
theorem s48:("0":Str)=⟨#[48]⟩:=by decide +kernel
theorem s49:("1":Str)=⟨#[49]⟩:=by decide +kernel
theorem beqS (c d:Nat):((⟨#[c]⟩:Str) == ⟨#[d]⟩)=(c == d):=by
 by_cases h:c=d
 ·subst h;simp
 ·have:(⟨#[c]⟩:Str)≠⟨#[d]⟩:=fun z=>by
   injection z with z
   exact h (by simpa using z)
  rw [beq_eq_false_iff_ne.mpr this,beq_eq_false_iff_ne.mpr h]
theorem look_needs (c:Nat):needsD.lookup (⟨#[c]⟩:Str)=if 0<needs c then some ((needs c:Nat):Int) else none:=by
 unfold needsD
 rw [s33,s38,s124,s94,s63]
 simp only [List.lookup_cons,beqS,List.lookup_nil]
 unfold needs
 by_cases h1:c=33
 ·subst h1;rfl
 by_cases h2:c=38
 ·subst h2;rfl
 by_cases h3:c=124
 ·subst h3;rfl
 by_cases h4:c=94
 ·subst h4;rfl
 by_cases h5:c=63
 ·subst h5;rfl
 rw [beq_eq_false_iff_ne.mpr h1,beq_eq_false_iff_ne.mpr h2,beq_eq_false_iff_ne.mpr h3,beq_eq_false_iff_ne.mpr h4,beq_eq_false_iff_ne.mpr h5,if_neg h1,if_neg h2,if_neg h3,if_neg h4,if_neg h5]
 rfl
theorem occL:∀ c,c<128->Builtin.Str.occurrences ("abcdefghij":Str) ⟨#[c]⟩ 0 ("abcdefghij":Str).length 1=if isL c=true then [c-97] else []:=by decide +kernel
theorem isL_128 {c:Nat} (h:isL c=true):c<128:=by
 unfold isL at h
 simp at h
 omega
theorem shl_n (n:Nat):(1:Int)*2 ^ ((n:Int)).toNat=((2 ^ n:Nat):Int):=by rw [pow2,Int.toNat_natCast];omega
theorem signs_128 {n:Nat} (hn:n<=10):∀ v:W,v.ok n->∀ c∈v.signs,c<128:=by
 intro v
 induction v with
 | c0=>intro _ c h;simp [W.signs] at h;omega
 | c1=>intro _ c h;simp [W.signs] at h;omega
 | sw k=>intro hk c h;have hk':k<n:=hk;simp [W.signs] at h;omega
 | no a ih =>
  intro hk c h
  rcases Qi h with e | e
  ·omega
  ·exact ih hk c e
 | an a b iha ihb =>
  intro hk c h
  rcases Qi h with e | e
  ·omega
  ·rcases Qx e with e | e
   ·exact iha hk.1 c e
   ·exact ihb hk.2 c e
 | orr a b iha ihb =>
  intro hk c h
  rcases Qi h with e | e
  ·omega
  ·rcases Qx e with e | e
   ·exact iha hk.1 c e
   ·exact ihb hk.2 c e
 | xo a b iha ihb =>
  intro hk c h
  rcases Qi h with e | e
  ·omega
  ·rcases Qx e with e | e
   ·exact iha hk.1 c e
   ·exact ihb hk.2 c e
 | ch k a b iha ihb =>
  intro hk c h
  have hk':k<n:=hk.1
  rcases Qi h with e | e
  ·omega
  ·rcases Qi e with e | e
   ·omega
   ·rcases Qx e with e | e
    ·exact iha hk.2.1 c e
    ·exact ihb hk.2.2 c e
theorem swl_len' (n:Nat):(swl n).length=n:=by simp [swl]
theorem swl_at {n k:Nat} (h:k<n):(swl n).getD k 0=sw k n:=by simp [swl,Qu,h]
theorem mask_bit {n s:Nat} (hs:s<2 ^ n) {v:W} (hv:v.ok n):(v.val (swl n) (fulln n)).testBit s=v.ev s :=
 val_bit (by unfold fulln;rw [Nat.testBit_two_pow_sub_one];simpa using hs) (fun k hk=>by rw [swl_at hk,sw_bit];simp [hs]) v hv
section
variable {P:Program} {w:World} {K:W.Frag} {mg:Str->Option Value} {base:Heap} {AA:Adr} {DD:Fds}
theorem scE:FnScope ["n"] ["n"] (defScope st_ZW):=⟨rfl,rfl,rfl,by decide +kernel,rfl,by decide +kernel,by decide +kernel⟩
theorem ok_ZW (T:All P w K mg AA DD):FnOk P w K mg base CX0 1 AA.ZW DD.ZW ["n"] spEvery:=by
 refine T.F_ZW.ok scE (fun vs H Q E h=>?_) (fun cdv A outer s H vs Q E hr h=>?_)
 ·obtain ⟨n,rfl,_⟩:=h
  rfl
 ·obtain ⟨n,rfl,hn,k⟩:=h
  refine ⟨_,pss_one (ps_ret (pe_op op_sub (pe_op op_shlB pe_int (pe_op op_shlB pe_int (pv 0))) pe_int)),?_⟩
  have e1:(1:Int)*2 ^ ((n:Int)).toNat=((2 ^ n:Nat):Int):=by rw [pow2,Int.toNat_natCast];omega
  refine ⟨_,rfl,_,_,rfl,rfl,one_shl (by omega),_,_,rfl,rfl,?_,_,_,rfl,rfl,?_⟩
  ·rw [e1];exact one_shl (two_le hn)
  ·dsimp only
   rw [e1,pow2,Int.toNat_natCast]
   have e2:(1:Int)*((2 ^ 2 ^ n:Nat):Int)-1=((2 ^ 2 ^ n-1:Nat):Int):=by
    have:=Nat.two_pow_pos (2 ^ n)
    omega
   rw [e2]
   exact k
theorem scS:FnScope ["k","n","run","mask","width"] ["k","n"] (defScope st_Zq):=⟨rfl,rfl,rfl,by decide +kernel,rfl,by decide +kernel,by decide +kernel⟩
theorem ok_switch (T:All P w K mg AA DD):FnOk P w K mg base CX0 1 AA.Zq DD.Zq ["k","n"] spSwitch:=by
 refine T.F_Zq.ok scS (fun vs H Q E h=>?_) (fun cdv A outer s H vs Q E hr h=>?_)
 ·obtain ⟨k,n,rfl,_⟩:=h
  rfl
 ·obtain ⟨k,n,rfl,hk,hn,q⟩:=h
  refine ⟨_,pss_cons (ps_set (i:=2) scS.nd rfl (Or.inl rfl) (pe_op op_shlB pe_int (pv 0)))
   (pss_cons (ps_set (i:=3) scS.nd rfl (Or.inl rfl) (pe_op op_shlB (pe_op op_sub (pe_op op_shlB pe_int (pv 2)) pe_int) (pv 2)))
   (pss_cons (ps_set (i:=4) scS.nd rfl (Or.inl rfl) (pe_op op_mul pe_int (pv 2)))
   (pss_cons (ps_while PassesOwn.never (pt_cmpR op_lt (pv 4) (pe_op op_shlB pe_int (pv 1)) (nomark _))
    (pss_cons (ps_set (i:=3) scS.nd rfl (Or.inl rfl) (pe_op op_or (pv 3) (pe_op op_shlB (pv 3) (pv 4))))
    (pss_one (ps_set (i:=4) scS.nd rfl (Or.inl rfl) (pe_op op_mul pe_int (pv 4))))))
   (pss_one (ps_ret (pv 3)))))),?_⟩
  have hk2:(2:Nat) ^ k<=1024:=two_le (by omega)
  have e1:(1:Int)*2 ^ ((k:Int)).toNat=((2 ^ k:Nat):Int):=by rw [pow2,Int.toNat_natCast];omega
  refine ⟨_,rfl,_,_,rfl,rfl,one_shl (by omega),?_⟩
  dsimp only
  rw [e1]
  refine ⟨_,rfl,_,_,rfl,rfl,one_shl hk2,_,_,rfl,rfl,_,rfl,_,_,rfl,rfl,?_,?_⟩
  ·show CShl ((1:Int)*2 ^ (((2 ^ k:Nat):Int)).toNat-1) ((2 ^ k:Nat):Int)
   have hp:=Nat.two_pow_pos (2 ^ k)
   rw [shl1,show ((2 ^ 2 ^ k:Nat):Int)-1=((2 ^ 2 ^ k-1:Nat):Int) by omega]
   exact cshl (m:=2 ^ k) (by omega) (by omega)
  ·have e2:((1:Int)*2 ^ (((2 ^ k:Nat):Int)).toNat-1)*2 ^ (((2 ^ k:Nat):Int)).toNat=((mk (fun s=>s.testBit k) (2 ^ (k+1)*2 ^ 0):Nat):Int):=by
    have q0:=sw_start k
    rw [Nat.pow_zero,Nat.mul_one,<- q0,pow2,Int.toNat_natCast]
    have hp:=Nat.two_pow_pos (2 ^ k)
    rw [Int.natCast_mul]
    congr 1
    omega
   dsimp only
   rw [e2]
   refine ⟨_,rfl,_,_,rfl,rfl,.inl ⟨by decide,by decide⟩,?_⟩
   have e3:(2:Int)*((2 ^ k:Nat):Int)=((2 ^ (k+1)*2 ^ 0:Nat):Int):=by
    rw [Nat.pow_zero,Nat.mul_one,Nat.pow_succ];omega
   dsimp only
   rw [e3]
   refine while_by (fun σ H'=>∃ j:Nat,k+1+j<=n/\H'=H/\σ=[some (.int (k:Nat)),some (.int (n:Nat)),some (.int ((2 ^ k:Nat):Int)),some (.int ((mk (fun s=>s.testBit k) (2 ^ (k+1)*2 ^ j):Nat):Int)),some (.int ((2 ^ (k+1)*2 ^ j:Nat):Int))])
    (fun (σ:St) (_:Hp)=>match σ[4]? with | some (some (V.int z))=>2 ^ n-z.toNat | _=>0) ⟨0,by omega,rfl,rfl⟩ ?_ ?_
   ·rintro σ H' ⟨j,hj,rfl,rfl⟩
    have e4:(1:Int)*2 ^ ((n:Int)).toNat=((2 ^ n:Nat):Int):=by rw [pow2,Int.toNat_natCast];omega
    refine ⟨_,rfl,_,rfl,_,_,rfl,rfl,one_shl (by omega),_,_,rfl,rfl,_,rfl,?_⟩
    dsimp only
    rw [e4]
    have ew:2 ^ (k+1)*2 ^ j=2 ^ (k+1+j):=by rw [<- Nat.pow_add]
    refine ite2 (fun hlt=>?_) (fun hge=>?_)
    ·have hlt:((2 ^ (k+1)*2 ^ j:Nat):Int)<((2 ^ n:Nat):Int):=of_decide_eq_true hlt
     have hlt':2 ^ (k+1+j)<2 ^ n:=by rw [<- ew];exact Int.ofNat_lt.mp hlt
     have hjn:k+1+j<n:=(Nat.pow_lt_pow_iff_right (by decide)).mp hlt'
     have hw:2 ^ (k+1)*2 ^ j<=1024:=by rw [ew];exact two_le (by omega)
     refine ⟨_,rfl,_,rfl,_,rfl,_,_,rfl,rfl,⟨by omega,2 ^ (k+1)*2 ^ j,?_,by omega⟩,_,_,rfl,rfl,?_⟩
     ·rw [Int.natAbs_natCast];exact mk_lt _ _
     ·have e5:Builtin.bitOr ((mk (fun s=>s.testBit k) (2 ^ (k+1)*2 ^ j):Nat):Int) (((mk (fun s=>s.testBit k) (2 ^ (k+1)*2 ^ j):Nat):Int)*2 ^ (((2 ^ (k+1)*2 ^ j:Nat):Int)).toNat)=((mk (fun s=>s.testBit k) (2 ^ (k+1)*2 ^ (j+1)):Nat):Int):=by
       rw [Int.toNat_natCast,pow2,<- Int.natCast_mul,bitOr_nat,sw_step,show 2*(2 ^ (k+1)*2 ^ j)=2 ^ (k+1)*2 ^ (j+1) by rw [Nat.pow_succ 2 j,Nat.mul_left_comm,Nat.mul_comm 2 (2 ^ j)]]
      dsimp only
      rw [e5]
      refine ⟨_,rfl,_,_,rfl,rfl,.inl ⟨by decide,by decide⟩,?_⟩
      have e6:(2:Int)*((2 ^ (k+1)*2 ^ j:Nat):Int)=((2 ^ (k+1)*2 ^ (j+1):Nat):Int):=by
       rw [Nat.pow_succ 2 j,<- Nat.mul_assoc];omega
      dsimp only
      rw [e6]
      refine ⟨⟨j+1,by omega,rfl,rfl⟩,?_⟩
      show 2 ^ n-(((2 ^ (k+1)*2 ^ (j+1):Nat):Int)).toNat<2 ^ n-(((2 ^ (k+1)*2 ^ j:Nat):Int)).toNat
      rw [Int.toNat_natCast,Int.toNat_natCast,Nat.pow_succ 2 j,<- Nat.mul_assoc]
      have hp:0<2 ^ (k+1)*2 ^ j:=Nat.mul_pos (Nat.two_pow_pos _) (Nat.two_pow_pos _)
      rw [<- ew] at hlt'
      omega
    ·have hge:¬ ((2 ^ (k+1)*2 ^ j:Nat):Int)<((2 ^ n:Nat):Int):=fun z=>hge (Qo z)
     have hge':2 ^ n<=2 ^ (k+1+j):=by rw [<- ew];omega
     have hjn:n<=k+1+j:=(Nat.pow_le_pow_iff_right (by decide)).mp hge'
     have e7:2 ^ (k+1)*2 ^ j=2 ^ n:=by rw [ew];congr 1;omega
     refine ⟨_,rfl,?_⟩
     rw [e7]
     exact q
   ·rintro σ H' Q1 Q2 hq ⟨v,h1,u,h2,i,j,e1,e2,C,i',j',e3,e4,b,eb,qq⟩
    exact ⟨v,h1,u,h2,i,j,e1,e2,C,i',j',e3,e4,b,eb,hq _ _ qq⟩
theorem sc_ZY:FnScope ["found","many","parts","k"] ["found","many"] (defScope st_ZY):=⟨rfl,rfl,rfl,by decide +kernel,rfl,by decide +kernel,by decide +kernel⟩
theorem ok_ZY (T:All P w K mg AA DD):FnOk P w K mg base CX0 1 AA.ZY DD.ZY ["found","many"] spTaken:=by
 refine T.F_ZY.ok sc_ZY (fun vs H Q E h=>?_) (fun cdv A outer s H vs Q E hr h=>?_)
 ·obtain ⟨l,st,m,rfl,_⟩:=h
  rfl
 ·obtain ⟨l,st,m,rfl,hl,hm,hz,k⟩:=h
  have nd:=sc_ZY.nd
  refine ⟨_,pss_cons (ps_set (i:=2) nd rfl (Or.inl rfl) (pe_lst pa_nil))
   (pss_cons (ps_for PassesOwn.never rfl (pi_range1 rfl T.n_range (pa_cons (pv 1) pa_nil)) (pg_name (i:=3) nd rfl (Or.inl rfl))
    (pss_one (ps_expr (pe_bm PySem.F.plainAttrs_list PySem.F.slot_list_append PySem.F.type_list_append mt_append (pv 2) (pa_cons (pe_bm0 PySem.F.plainAttrs_list PySem.F.slot_list_pop PySem.F.type_list_pop mt_pop (pv 0)) pa_nil)))))
   (pss_one (ps_ret (pv 2)))),?_⟩
  refine ⟨Qr _,fun p hp=>?_⟩
  have npl:l≠p:=ne_of_none hl hp
  refine ⟨_,rfl,_,rfl,by omega,by omega,?_⟩
  rw [Int.toNat_natCast]
  refine for_range (fun i σ H'=>i<=m/\(∃ s3:Option V,σ=[some (.ref l),some (.int (m:Nat)),some (.ref p),s3])/\H' l=some (.lst (st.drop i).reverse)/\H' p=some (.lst (st.take i))/\∀ b o,H b=some o->b≠l->H' b=some o)
   ⟨Qr _,⟨none,rfl⟩,by rw [upd_ne npl];exact hl,upd_same,fun b o e _=>by rw [upd_ne (ne_of_none e hp)];exact e⟩ ?_ ?_
  ·rintro i σ H' hi ⟨_,⟨s3,rfl⟩,h1,h2,h3⟩
   have hin:i<st.length:=by omega
   have ed:(st.drop i).reverse=(st.drop (i+1)).reverse++[st[i]]:=by rw [List.drop_eq_getElem_cons hin,List.reverse_cons]
   refine ⟨_,rfl,.inl ⟨rfl,_,SqL.of h2⟩,_,rfl,.inl ⟨rfl,_,SqL.of h1⟩,l,_,st[i],rfl,rfl,h1,?_,p,_,_,rfl,rfl,(by rw [upd_ne npl.symm];exact h2),?_,?_⟩
   ·rw [ed];simp
   ·rw [QE];exact small5k (by omega)
   ·refine ⟨hi,⟨_,rfl⟩,?_,?_,fun b o e hb=>?_⟩
    ·rw [upd_ne npl,upd_same,ed,List.dropLast_concat]
    ·rw [upd_same,List.take_add_one,Qa hin];rfl
    ·rw [upd_ne (ne_of_none e hp),upd_ne hb];exact h3 b o e hb
  ·rintro σ H' ⟨_,⟨s3,rfl⟩,h1,h2,h3⟩
   exact ⟨_,rfl,k p H' hp h2 h1 h3⟩
theorem sc_put:FnScope ["sign","parts","full"] ["sign","parts","full"] (defScope st_Zl):=⟨rfl,rfl,rfl,by decide +kernel,rfl,by decide +kernel,by decide +kernel⟩
theorem ok_put (T:All P w K mg AA DD):FnOk P w K mg base CX0 1 AA.Zl DD.Zl ["sign","parts","full"] (spPut K):=by
 refine T.F_Zl.ok sc_put (fun vs H Q E h=>?_) (fun cdv A outer s H vs Q E hr h=>?_)
 ·obtain ⟨c,p,ps,full,rfl,_⟩:=h
  rfl
 ·obtain ⟨c,p,ps,full,rfl,hS,hc,hl,k⟩:=h
  refine ⟨_,pss_cons (ps_if (pt_cmpR op_eq (pv 0) pe_str (nomark _)) (pss_one (ps_ret (pe_op op_xor (pv 2) (pe_ix ix_list (pv 1) pe_int (fun _ _=>rfl))))) pss_nil)
   (pss_cons (ps_if (pt_cmpR op_eq (pv 0) pe_str (nomark _)) (pss_one (ps_ret (pe_op op_and (pe_ix ix_list (pv 1) pe_int (fun _ _=>rfl)) (pe_ix ix_list (pv 1) pe_int (fun _ _=>rfl))))) pss_nil)
   (pss_cons (ps_if (pt_cmpR op_eq (pv 0) pe_str (nomark _)) (pss_one (ps_ret (pe_op op_or (pe_ix ix_list (pv 1) pe_int (fun _ _=>rfl)) (pe_ix ix_list (pv 1) pe_int (fun _ _=>rfl))))) pss_nil)
   (pss_cons (ps_if (pt_cmpR op_eq (pv 0) pe_str (nomark _)) (pss_one (ps_ret (pe_op op_xor (pe_ix ix_list (pv 1) pe_int (fun _ _=>rfl)) (pe_ix ix_list (pv 1) pe_int (fun _ _=>rfl))))) pss_nil)
   (pss_one (ps_ret (pe_op op_or (pe_op op_and (pe_ix ix_list (pv 1) pe_int (fun _ _=>rfl)) (pe_ix ix_list (pv 1) pe_int (fun _ _=>rfl)))
    (pe_op op_and (pe_op op_xor (pv 2) (pe_ix ix_list (pv 1) pe_int (fun _ _=>rfl))) (pe_ix ix_list (pv 1) pe_int (fun _ _=>rfl))))))))),?_⟩
  have a0:∀ j,j<needs c->atI (iv ps) ((j:Nat):Int)=some (.int (ps.getD j 0:Nat)):=fun j hj=>atI_iv (by omega)
  refine ⟨_,rfl,rfl,_,rfl,?_⟩
  rw [sg s33]
  rcases needs_pos hc with rfl | rfl | rfl | rfl | rfl
  ·refine iteT ?_
   refine ⟨_,rfl,_,rfl,p,_,_,_,rfl,rfl,hS,a0 0 (by decide),_,_,rfl,rfl,?_⟩
   dsimp only
   rw [bitXor_nat]
   exact k
  ·refine iteF ?_
   refine ⟨_,rfl,rfl,_,rfl,?_⟩
   rw [sg s38]
   refine iteT ?_
   refine ⟨_,rfl,p,_,_,_,rfl,rfl,hS,a0 0 (by decide),_,rfl,p,_,_,_,rfl,rfl,hS,a0 1 (by decide),_,_,rfl,rfl,?_⟩
   dsimp only
   rw [bitAnd_nat]
   exact k
  ·refine iteF ?_
   refine ⟨_,rfl,rfl,_,rfl,?_⟩
   rw [sg s38]
   refine iteF ?_
   refine ⟨_,rfl,rfl,_,rfl,?_⟩
   rw [sg s124]
   refine iteT ?_
   refine ⟨_,rfl,p,_,_,_,rfl,rfl,hS,a0 0 (by decide),_,rfl,p,_,_,_,rfl,rfl,hS,a0 1 (by decide),_,_,rfl,rfl,?_⟩
   dsimp only
   rw [bitOr_nat]
   exact k
  ·refine iteF ?_
   refine ⟨_,rfl,rfl,_,rfl,?_⟩
   rw [sg s38]
   refine iteF ?_
   refine ⟨_,rfl,rfl,_,rfl,?_⟩
   rw [sg s124]
   refine iteF ?_
   refine ⟨_,rfl,rfl,_,rfl,?_⟩
   rw [sg s94]
   refine iteT ?_
   refine ⟨_,rfl,p,_,_,_,rfl,rfl,hS,a0 0 (by decide),_,rfl,p,_,_,_,rfl,rfl,hS,a0 1 (by decide),_,_,rfl,rfl,?_⟩
   dsimp only
   rw [bitXor_nat]
   exact k
  ·refine iteF ?_
   refine ⟨_,rfl,rfl,_,rfl,?_⟩
   rw [sg s38]
   refine iteF ?_
   refine ⟨_,rfl,rfl,_,rfl,?_⟩
   rw [sg s124]
   refine iteF ?_
   refine ⟨_,rfl,rfl,_,rfl,?_⟩
   rw [sg s94]
   refine iteF ?_
   refine ⟨_,rfl,p,_,_,_,rfl,rfl,hS,a0 0 (by decide),_,rfl,p,_,_,_,rfl,rfl,hS,a0 1 (by decide),_,_,rfl,rfl,_,rfl,_,rfl,p,_,_,_,rfl,rfl,hS,a0 0 (by decide),_,_,rfl,rfl,
    _,rfl,p,_,_,_,rfl,rfl,hS,a0 2 (by decide),_,_,rfl,rfl,_,_,rfl,rfl,?_⟩
   dsimp only
   rw [bitXor_nat,bitAnd_nat,bitAnd_nat,bitOr_nat]
   exact k
theorem sc_value:FnScope ["sign","switches","full","k"] ["sign","switches","full"] (defScope st_ZL):=⟨rfl,rfl,rfl,by decide +kernel,rfl,by decide +kernel,by decide +kernel⟩
theorem ok_value (T:All P w K mg AA DD):FnOk P w K mg base CX0 1 AA.ZL DD.ZL ["sign","switches","full"] (spValue K):=by
 refine T.F_ZL.ok sc_value (fun vs H Q E h=>?_) (fun cdv A outer s H vs Q E hr h=>?_)
 ·obtain ⟨c,l,sws,full,v,rfl,_⟩:=h
  rfl
 ·obtain ⟨c,l,sws,full,v,rfl,hS,hc,hv,k⟩:=h
  have nd:=sc_value.nd
  obtain ⟨tL,hL⟩:=T.v_LETTERS
  refine ⟨_,pss_cons (ps_if (pt_cmpR op_eq (pv 0) pe_str (nomark _)) (pss_one (ps_ret pe_int)) pss_nil)
   (pss_cons (ps_if (pt_cmpR op_eq (pv 0) pe_str (nomark _)) (pss_one (ps_ret (pv 2))) pss_nil)
   (pss_cons (ps_set (i:=3) nd rfl (Or.inl rfl) (pe_bm PySem.F.plainAttrs_str PySem.F.slot_str_find PySem.F.type_str_find mt_find (pe_glob (v:=.str "abcdefghij") rfl hL ⟨_,rfl⟩) (pa_cons (pv 0) pa_nil)))
   (pss_cons (ps_if (PW.pt (pw_or (pt_cmpR op_lt (pv 3) pe_int (nomark _)) (pw_or1 (pt_cmpR op_ge (pv 3) (pe_callB call_len_seq rfl T.n_len bt_len (pa_cons (pv 1) pa_nil)) (nomark _))))) pss_never pss_nil)
   (pss_one (ps_ret (pe_ix ix_list (pv 1) (pv 3) (fun _ _=>rfl))))))),?_⟩
  unfold valR at hv
  refine ⟨_,rfl,rfl,_,rfl,?_⟩
  rw [sg s48]
  by_cases h0:c=48
  ·rw [if_pos h0] at hv
   cases hv
   rw [Qo h0]
   exact iteT k
  rw [if_neg h0] at hv
  rw [Qe h0]
  refine iteF ?_
  refine ⟨_,rfl,rfl,_,rfl,?_⟩
  rw [sg s49]
  by_cases h1:c=49
  ·rw [if_pos h1] at hv
   cases hv
   rw [Qo h1]
   exact iteT ⟨_,rfl,k⟩
  rw [if_neg h1] at hv
  rw [Qe h1]
  refine iteF ?_
  by_cases hl:isL c=true
  ·rw [if_pos hl] at hv
   have hk:c-97<sws.length:=(Qc hv).1
   refine ⟨rfl,_,rfl,_,_,rfl,rfl,?_⟩
   rw [occL c hc,if_pos hl]
   dsimp only
   refine ⟨_,rfl,_,_,rfl,rfl,_,rfl,?_⟩
   rw [Qe (by omega)]
   refine iteF ?_
   refine ⟨_,rfl,_,rfl,l,_,rfl,.inl hS,_,_,rfl,rfl,_,rfl,?_⟩
   rw [iv_len,Qe (by omega)]
   refine iteF ?_
   refine ⟨_,rfl,_,rfl,l,_,_,_,rfl,rfl,hS,atI_iv hk,?_⟩
   rw [Qu,hv]
   exact k
  ·rw [if_neg hl] at hv
   cases hv
noncomputable def spHas:Sp:=fun vs H Q _=>∃ m s:Nat,vs=[.int m,.int s]/\Q (.bl (m.testBit s)) H
noncomputable def bl (m:Nat):Nat:=Builtin.Int.intBits (m:Int)
noncomputable def asInts (l:List Nat):List Int:=l.map fun (s:Nat)=>(s:Int)
noncomputable def spSettings:Sp:=fun vs H Q _=>∃ m:Nat,vs=[.int m]/\m<2 ^ 1024/\∀ p,H p=none->Q (.ref p) (upd H p (.lst ((asInts (setsOf m (bl m))).map V.int)))
theorem shr_nat (m s:Nat):(m:Int) / 2 ^ ((s:Int)).toNat=((m / 2 ^ s:Nat):Int):=by rw [Int.toNat_natCast,pow2];rfl
theorem has_val (m s:Nat):decide (V.int (Builtin.bitAnd ((m:Int) / 2 ^ ((s:Int)).toNat) 1)=V.int 1)=m.testBit s:=by
 rw [dec_int,shr_nat,show (1:Int)=((1:Nat):Int) from rfl,bitAnd_nat,Nat.and_one_is_mod,testBit_mod]
 by_cases h:m / 2 ^ s % 2=1
 ·rw [h];rfl
 ·have h0:m / 2 ^ s % 2=0:=by omega
  rw [h0];rfl
theorem sets_succ (m i:Nat):setsOf m (i+1)=if m.testBit i then setsOf m i++[i] else setsOf m i:=by
 unfold setsOf
 rw [List.range_succ,QJ]
 cases h:m.testBit i<;>simp [h]
theorem snocInts (l:List Nat) (i:Nat):asInts (l++[i])=asInts l++[(i:Int)]:=by simp [asInts]
theorem bl_le {m N:Nat} (h:m<2 ^ N):bl m<=N:=bits_nat h
theorem sets_bl {m N:Nat} (h:m<2 ^ N):setsOf m (bl m)=setsOf m N:=sets_ext (bits_self m) (bl_le h)
theorem sc_has:FnScope ["mask","s"] ["mask","s"] (defScope st_has):=⟨rfl,rfl,rfl,by decide +kernel,rfl,by decide +kernel,by decide +kernel⟩
theorem ok_has (T:All P w K mg AA DD):FnOk P w K mg base CX0 1 AA.has DD.has ["mask","s"] spHas:=by
 refine T.F_has.ok sc_has (fun vs H Q E h=>?_) (fun cdv A outer s H vs Q E hr h=>?_)
 ·obtain ⟨m,t,rfl,_⟩:=h
  rfl
 ·obtain ⟨m,t,rfl,k⟩:=h
  refine ⟨_,pss_one (ps_ret (pe_cmpR op_eq (pe_op op_and (pe_op op_shr (pv 0) (pv 1)) pe_int) pe_int (nomark _))),?_⟩
  refine ⟨_,rfl,_,rfl,_,_,rfl,rfl,by omega,_,_,rfl,rfl,rfl,?_⟩
  rw [has_val]
  exact k
theorem sc_ZH:FnScope ["mask"] ["mask"] (defScope st_ZH):=⟨rfl,rfl,rfl,by decide +kernel,rfl,by decide +kernel,by decide +kernel⟩
theorem ok_ZH (T:All P w K mg AA DD):FnOk P w K mg base CX0 2 AA.ZH DD.ZH ["mask"] spSettings:=by
 have G0:=ok_has (base:=base) T
 refine T.F_ZH.ok sc_ZH (fun vs H Q E h=>?_) (fun cdv A outer s H vs Q E hr h=>?_)
 ·obtain ⟨m,rfl,_⟩:=h
  rfl
 ·obtain ⟨m,rfl,hm,k⟩:=h
  refine ⟨_,pss_one (ps_ret (pe_comp (defScope st_ZH) ["mask"] ["mask"] [0] rfl (by exact ⟨rfl,rfl,by decide +kernel,rfl,by decide +kernel,by decide +kernel,by decide +kernel,rfl,by decide +kernel⟩) rfl rfl
   (pi_range1 rfl T.n_range (pa_cons (pe_bm0 PySem.F.plainAttrs_int PySem.F.slot_int_bit_length PySem.F.type_int_bit_length mt_bitlen (pv 0)) pa_nil))
   (fun _ _ _ _=>pif_one (pt_val (pe_call G0 hr rfl T.m_has T.k_has T.b_has .nil pass0 (pa_cons (pv 1) (pa_cons (pv 0) pa_nil))))) (fun _ _ _ _=>pv 0))),?_⟩
  have hb:bl m<=1024:=bl_le hm
  refine ⟨_,rfl,rfl,_,rfl,rfl,_,rfl,?_,?_,?_⟩
  ·show -(2 ^ 62)<=((bl m:Nat):Int);omega
  ·show ((bl m:Nat):Int)<2 ^ 62;omega
  show ∃ W:Nat->Nat->List V->Hp->Prop,_
  rw [show (((Builtin.Int.intBits (m:Int):Nat):Int)).toNat=bl m from Int.toNat_natCast _]
  refine comp_range (fun i ys H'=>H'=H/\i<=bl m/\ys=(asInts (setsOf m i)).map V.int) ⟨rfl,Qr _,rfl⟩ ?_ ?_
  ·rintro i ys H' hi ⟨rfl,_,rfl⟩
   refine ⟨_,rfl,_,rfl,m,i,by simp,_,rfl,?_⟩
   have hs:=sets_succ m i
   cases hb:m.testBit i with
   | true =>
    rw [hb,if_pos rfl] at hs
    refine iteT ?_
    refine ⟨_,rfl,?_,rfl,hi,?_⟩
    ·rw [Qd,asInts,Qd]
     have:=sets_len m i
     exact small5k (by omega)
    ·rw [hs,snocInts,QD,Int.zero_add];rfl
   | false =>
    rw [hb,if_neg Bool.false_ne_true] at hs
    refine iteF ?_
    exact ⟨rfl,hi,by rw [hs]⟩
  ·rintro ys H' ⟨rfl,_,rfl⟩ p hp
   exact k p hp
end
section
variable {P:Program} {w:World} {K:W.Frag} {mg:Str->Option Value} {base:Heap} {AA:Adr} {DD:Fds}
noncomputable abbrev NR:List Str:=["text","switches","full","found","behind","sign","parts"]
theorem sc_reck:FnScope NR ["text","switches","full"] (defScope st_ZK):=⟨rfl,rfl,rfl,by decide +kernel,rfl,by decide +kernel,by decide +kernel⟩
theorem ok_reck (T:All P w K mg AA DD):FnOk P w K mg base CX0 2 AA.ZK DD.ZK ["text","switches","full"] (spReck K):=by
 have GT:=ok_ZY (base:=base) T
 have GP:=ok_put (base:=base) T
 have GV:=ok_value (base:=base) T
 refine T.F_ZK.ok sc_reck (fun vs H Q E h=>?_) (fun cdv A outer s H vs Q E hr h=>?_)
 ·obtain ⟨z,l,sws,full,v,rfl,_⟩:=h
  rfl
 ·obtain ⟨z,l,sws,full,v,rfl,hS,hcs,hz,hrun,k⟩:=h
  have nd:=sc_reck.nd
  obtain ⟨tL,hL⟩:=T.v_LETTERS
  refine ⟨_,pss_cons (ps_set (i:=3) nd rfl (Or.inl rfl) (pe_lst pa_nil))
   (pss_cons (ps_set (i:=4) nd rfl (Or.inl rfl) pe_str)
   (pss_cons (ps_for PassesOwn.never rfl (pi_revstr rfl T.n_reversed (pa_cons (pv 0) pa_nil)) (pg_name (i:=5) nd rfl (Or.inl rfl))
    (pss_cons (ps_if (pt_cmpR op_lt (pe_callB call_len_seq rfl T.n_len bt_len (pa_cons (pv 3) pa_nil)) (pe_kget2 T.D_NEEDS rfl T.m_NEEDS (pv 5) pe_int) (nomark _)) pss_never pss_nil)
    (pss_cons (ps_if (PW.pt (pw_and (pt_cmpR op_eq (pv 5) pe_str (nomark _)) (pw_and1 (pt_cmpR op_notIn_str (pv 4) (pe_glob (v:=.str "abcdefghij") rfl hL ⟨_,rfl⟩) rfl)))) pss_never pss_nil)
    (pss_cons (ps_if (pt_cmp (pc_kin T.D_NEEDS rfl T.m_NEEDS (pv 5)))
     (pss_cons (ps_set (i:=6) nd rfl (Or.inl rfl) (pe_call GT hr rfl T.m_ZY T.k_ZY T.b_ZY .nil pass0 (pa_cons (pv 3) (pa_cons (pe_kix T.D_NEEDS rfl T.m_NEEDS (pv 5) (fun _ _=>rfl)) pa_nil))))
     (pss_one (ps_expr (pe_bm PySem.F.plainAttrs_list PySem.F.slot_list_append PySem.F.type_list_append mt_append (pv 3) (pa_cons (pe_call GP hr rfl T.m_Zl T.k_Zl T.b_Zl .nil pass0 (pa_cons (pv 5) (pa_cons (pv 6) (pa_cons (pv 2) pa_nil)))) pa_nil)))))
     (pss_one (ps_expr (pe_bm PySem.F.plainAttrs_list PySem.F.slot_list_append PySem.F.type_list_append mt_append (pv 3) (pa_cons (pe_call GV hr rfl T.m_ZL T.k_ZL T.b_ZL .nil pass0 (pa_cons (pv 5) (pa_cons (pv 1) (pa_cons (pv 2) pa_nil)))) pa_nil)))))
    (pss_one (ps_set (i:=4) nd rfl (Or.inl rfl) (pv 5)))))))
   (pss_cons (ps_if (pt_cmpR op_ne (pe_callB call_len_seq rfl T.n_len bt_len (pa_cons (pv 3) pa_nil)) pe_int (nomark _)) pss_never pss_nil)
   (pss_one (ps_ret (pe_ix ix_list (pv 3) pe_int (fun _ _=>rfl))))))),?_⟩
  generalize ht:z.cps.toList=t at hcs hrun
  have hlen:t.length=z.length:=by rw [<- ht];simp [Str.length]
  refine ⟨Qr _,fun p hp=>?_⟩
  refine ⟨_,rfl,z,rfl,Nat.le_of_lt (small5k (by omega)),?_⟩
  refine for_N (fun i σ H'=>i<=z.length/\Same H H'/\∃ (st:List Nat) (bh:Str) (s5 s6:Option V),runR sws full (t.drop (z.length-i))=some st/\(∀ c r,t.drop (z.length-i)=c::r->bh=⟨#[c]⟩) /\
    st.length<=i/\H' p=some (.lst (iv st).reverse)/\σ=[some (.str z),some (.ref l),some (.int (full:Nat)),some (.ref p),some (.str bh),s5,s6])
   ⟨Qr _,same_upd hp,[],_,none,none,(by rw [Nat.sub_zero,List.drop_of_length_le (by omega)];rfl),(by rw [Nat.sub_zero,List.drop_of_length_le (by omega)];intro c r e;cases e),Qh _,upd_same,rfl⟩ ?_ ?_
  ·rintro i σ H' hi ⟨_,hsm,st,bh,s5,s6,hst,hbh,hsl,hH,rfl⟩
   obtain ⟨st',h'⟩:=run_drop (z.length-(i+1)) hrun
   have hlt:z.length-(i+1)<t.length:=by omega
   have ed:t.drop (z.length-(i+1))=t[z.length-(i+1)]::t.drop (z.length-i):=by
    rw [List.drop_eq_getElem_cons hlt,show z.length-(i+1)+1=z.length-i by omega]
   have ec:(revAt z i)=V.str ⟨#[t[z.length-(i+1)]]⟩:=by
    unfold revAt
    rw [ht,Qu,show z.length-1-i=z.length-(i+1) by omega,Qa hlt]
    rfl
   rw [ec]
   generalize hcc:t[z.length-(i+1)]=c at ed
   have hc128:c<128:=by rw [<- hcc];exact hcs _ (QB _)
   rw [ed] at h'
   obtain ⟨st2,h2,hstep⟩:=run_rest h'
   rw [hst] at h2
   cases h2
   have hpl:p≠l∨True:=.inr trivial
   have hSl:SqL K H' l (iv sws):=hsm.seq hS
   unfold stepR at hstep
   by_cases hn:st.length<needs c
   ·rw [if_pos hn] at hstep;cases hstep
   rw [if_neg hn] at hstep
   by_cases hq:c=63/\hdL (t.drop (z.length-i))=false
   ·rw [if_pos hq] at hstep;cases hstep
   rw [if_neg hq] at hstep
   refine ⟨_,rfl,p,_,rfl,.inl (SqL.of hH),_,rfl,⟨#[c]⟩,.int (needs c:Nat),rfl,?_,_,_,rfl,rfl,_,rfl,?_⟩
   ·show ((needsD.lookup (⟨#[c]⟩:Str)).map V.int).getD (V.int 0)=_
    rw [look_needs]
    by_cases h0:0<needs c
    ·rw [if_pos h0];rfl
    ·rw [if_neg h0,show needs c=0 by omega];rfl
   rw [List.length_reverse,iv_len,Qe (by omega)]
   refine iteF ?_
   refine ⟨_,rfl,rfl,_,rfl,?_⟩
   rw [sg s63]
   have go:∀ (D:Ends) (t1:TS) (u1:TS) (σ':St),u1 D σ' H'->(if decide (c=63)=true then (tTest (tOp (fun x y H Q=>∃ i j,x=.str i/\y=.str j/\Q (.bl (!(!(Builtin.Str.occurrences j i 0 j.length 1).isEmpty))) H) (tVar 4) (tC (.str "abcdefghij")))) [some (.str z),some (.ref l),some (.int (full:Nat)),some (.ref p),some (.str bh),some (.str ⟨#[c]⟩),s6] H' (fun b H1=>if b=true then t1 D σ' H1 else u1 D σ' H1) else (if false=true then t1 D σ' H' else u1 D σ' H')):=by
    intro D t1 u1 σ' hu1
    by_cases h63:c=63
    ·rw [Qo h63]
     refine iteT ?_
     have hd:hdL (t.drop (z.length-i))=true:=by
      cases hh:hdL (t.drop (z.length-i)) with
      | true=>rfl
      | false=>exact absurd ⟨h63,hh⟩ hq
     cases er:t.drop (z.length-i) with
     | nil =>
      exfalso
      rw [er] at hst
      cases hst
      subst h63
      exact hn (by decide)
     | cons d r =>
      rw [er] at hd
      have hbd:=hbh d r er
      subst hbd
      have hLd:isL d=true:=hd
      refine ⟨_,rfl,_,_,rfl,rfl,_,rfl,?_⟩
      rw [occL d (isL_128 hLd),if_pos hLd]
      exact iteF hu1
    ·rw [Qe h63]
     exact iteF (iteF hu1)
   refine go _ _ _ _ ?_
   refine ⟨_,rfl,⟨#[c]⟩,rfl,_,rfl,?_⟩
   rw [look_needs]
   by_cases h0:0<needs c
   ·rw [if_pos h0] at hstep ⊢
    cases hstep
    refine iteT ?_
    refine ⟨_,rfl,_,rfl,⟨#[c]⟩,((needs c:Nat):Int),rfl,by rw [look_needs,if_pos h0],p,iv st,needs c,rfl,hH,by rw [iv_len];omega,by rw [iv_len];omega,fun p2 H2 np2 h2p h2l hk=>?_⟩
    have n2:p2≠p:=(ne_of_none hH np2).symm
    refine ⟨_,rfl,.inl ⟨rfl,_,SqL.of h2l⟩,_,rfl,_,rfl,_,rfl,c,p2,st.take (needs c),full,rfl,SqL.of (by rw [h2p,iv_take]),h0,by rw [QE];omega,p,_,_,rfl,rfl,h2l,?_,?_⟩
    ·rw [List.length_reverse,List.length_drop,iv_len];exact small5k (by omega)
    ·refine ⟨_,rfl,hi,?_,_,_,_,_,(by rw [ed];exact h'),?_,?_,?_,rfl⟩
     ·intro b o e
      have hb:b≠p:=ne_of_none e hp
      rw [upd_ne hb]
      exact hk b o (hsm b o e) hb
     ·rw [ed]
      intro c' r' e'
      cases e'
      rfl
     ·rw [List.length_cons,List.length_drop];omega
     ·rw [upd_same,iv_cons,List.reverse_cons,iv_drop]
   ·rw [if_neg h0] at hstep ⊢
    refine iteF ?_
    cases hv:valR sws full c with
    | none=>rw [hv] at hstep;cases hstep
    | some v' =>
     rw [hv] at hstep
     cases hstep
     refine ⟨_,rfl,.inl ⟨rfl,_,SqL.of hH⟩,_,rfl,_,rfl,_,rfl,c,l,sws,full,v',rfl,hSl,hc128,hv,p,_,_,rfl,rfl,hH,?_,?_⟩
     ·rw [List.length_reverse,iv_len];exact small5k (by omega)
     ·refine ⟨_,rfl,hi,?_,_,_,_,_,(by rw [ed];exact h'),?_,?_,?_,rfl⟩
      ·intro b o e
       rw [upd_ne (ne_of_none e hp)]
       exact hsm b o e
      ·rw [ed]
       intro c' r' e'
       cases e'
       rfl
      ·rw [List.length_cons];omega
      ·rw [upd_same,iv_cons,List.reverse_cons]
  ·rintro σ H' ⟨_,hsm,st,bh,s5,s6,hst,hbh,hsl,hH,rfl⟩
   rw [Nat.sub_self,List.drop_zero,hrun] at hst
   cases hst
   refine ⟨_,rfl,p,_,rfl,.inl (SqL.of hH),rfl,_,rfl,?_⟩
   refine iteNS rfl ?_
   exact ⟨_,rfl,p,_,_,_,rfl,rfl,SqL.of hH,atI_nat (j:=0) rfl,k _ hsm⟩
theorem sc_maskof:FnScope ["text","n"] ["text","n"] (defScope st_Zk):=⟨rfl,rfl,rfl,by decide +kernel,rfl,by decide +kernel,by decide +kernel⟩
theorem ok_maskof (T:All P w K mg AA DD):FnOk P w K mg base CX0 3 AA.Zk DD.Zk ["text","n"] spMaskOf:=by
 have GE:=ok_ZW (base:=base) T
 have GS:=ok_switch (base:=base) T
 have GR:=ok_reck (base:=base) T
 refine T.F_Zk.ok sc_maskof (fun vs H Q E h=>?_) (fun cdv A outer s H vs Q E hr h=>?_)
 ·obtain ⟨z,n,v,rfl,_⟩:=h
  rfl
 ·obtain ⟨z,n,v,rfl,hn,hcs,hz,hrun,k⟩:=h
  have hr1:Room 1 _:=hr.mono (by decide)
  refine ⟨_,pss_one (ps_ret (pe_call GR hr rfl T.m_ZK T.k_ZK T.b_ZK .nil pass0 (pa_cons (pv 0) (pa_cons
   (pe_comp (defScope st_Zk) ["text","n"] ["n"] [1] rfl (by exact ⟨rfl,rfl,by decide +kernel,rfl,by decide +kernel,by decide +kernel,by decide +kernel,rfl,by decide +kernel⟩) rfl rfl
    (pi_range1 rfl T.n_range (pa_cons (pv 1) pa_nil)) (fun _ _ _ _=>pif_nil) (fun _ _ _ _=>pe_call GS hr1 rfl T.m_Zq T.k_Zq T.b_Zq .nil pass0 (pa_cons (pv 0) (pa_cons (pv 1) pa_nil))))
   (pa_cons (pe_call GE hr1 rfl T.m_ZW T.k_ZW T.b_ZW .nil pass0 (pa_cons (pv 1) pa_nil)) pa_nil))))),?_⟩
  refine ⟨_,rfl,_,rfl,_,rfl,by omega,by omega,?_⟩
  rw [Int.toNat_natCast]
  refine comp_range (fun i ys H'=>H'=H/\ys=iv ((List.range i).map fun k=>sw k n)) ⟨rfl,rfl⟩ ?_ ?_
  ·rintro i ys H' hi ⟨rfl,rfl⟩
   refine tYes_ok ?_
   rw [if_pos rfl]
   refine ⟨_,rfl,_,rfl,i,n,by simp,hi,hn,?_,rfl,?_⟩
   ·rw [iv_len,Qd,List.length_range];exact small5k (by omega)
   ·rw [List.range_succ,QD,List.map_singleton,iv_snoc]
  ·rintro ys H' ⟨rfl,rfl⟩ p hp
   refine ⟨_,rfl,n,rfl,hn,z,p,swl n,fulln n,v,rfl,SqL.of upd_same,hcs,hz,hrun,fun H2 hs=>k H2 ((same_upd hp).trans hs)⟩
theorem sc_read:FnScope ["text","n"] ["text","n"] (defScope st_ZE):=⟨rfl,rfl,rfl,by decide +kernel,rfl,by decide +kernel,by decide +kernel⟩
theorem ok_read (T:All P w K mg AA DD):FnOk P w K mg base CX0 4 AA.ZE DD.ZE ["text","n"] spMaskOf:=by
 have GM:=ok_maskof (base:=base) T
 refine T.F_ZE.ok sc_read (fun vs H Q E h=>?_) (fun cdv A outer s H vs Q E hr h=>?_)
 ·obtain ⟨z,n,v,rfl,_⟩:=h
  rfl
 ·obtain ⟨z,n,v,rfl,h⟩:=h
  refine ⟨_,pss_one (ps_ret (pe_call GM hr rfl T.m_Zk T.k_Zk T.b_Zk .nil pass0 (pa_cons (pv 0) (pa_cons (pv 1) pa_nil)))),?_⟩
  exact ⟨_,rfl,_,rfl,z,n,v,rfl,h⟩
end
section
variable {P:Program} {w:World} {K:PySem.W.Frag} {mg:Str->Option Value} {base:Heap} {AA:Adr} {DD:Fds}
noncomputable def mka (n:Nat) (ar:List W):Nat:=ar.foldl (fun m v=>m &&& v.val (swl n) (fulln n)) (fulln n)
noncomputable def rowD (n:Nat) (fs:List (Str × List W)):List (Str × Nat):=fs.map fun p=>(p.1,mka n p.2)
noncomputable def stk (n:Nat) (ar:List W):List Nat:=(List.range (ar.length+1)).map fun i=>mka n (ar.take i)
theorem mka_snoc (n:Nat) (ar:List W) (v:W):mka n (ar++[v])=mka n ar &&& v.val (swl n) (fulln n):=by simp [mka]
theorem mka_bit {n s:Nat} (hs:s<2 ^ n) (ar:List W) (h:∀ v∈ar,v.ok n):(mka n ar).testBit s=ar.all (fun v=>v.ev s):=by
 have:∀ (l:List W) (m:Nat),(∀ v∈l,v.ok n)->(l.foldl (fun m v=>m &&& v.val (swl n) (fulln n)) m).testBit s=(m.testBit s&&l.all (fun v=>v.ev s)):=by
  intro l
  induction l with
  | nil=>intro m _;simp
  | cons v r ih =>
   intro m h
   show (r.foldl _ (m &&& _)).testBit s=_
   rw [ih _ (fun x hx=>h x (Qm _ hx)),Nat.testBit_and,mask_bit hs (h v Qp),List.all_cons,Bool.and_assoc]
 rw [mka,this ar _ h]
 have:(fulln n).testBit s=true:=by unfold fulln;rw [Nat.testBit_two_pow_sub_one];simpa using hs
 rw [this,Bool.true_and]
theorem stk_len (n:Nat) (ar:List W):(stk n ar).length=ar.length+1:=by simp [stk]
theorem stk_snoc (n:Nat) (ar:List W) (v:W):stk n (ar++[v])=stk n ar++[mka n (ar++[v])]:=by
 unfold stk
 rw [Qj,QI,List.range_succ,QD]
 congr 1
 ·refine QM fun i hi=>?_
  have:=List.mem_range.mp hi
  rw [List.take_append_of_le_length (by omega)]
 ·rw [List.map_singleton,List.take_of_length_le (by simp)]
theorem stk_drop (n:Nat) {ar:List W} (h:ar≠[]):(stk n ar).dropLast=stk n ar.dropLast:=by
 obtain ⟨a,v,rfl⟩:∃ a v,ar=a++[v]:=⟨ar.dropLast,ar.getLast h,(List.dropLast_concat_getLast h).symm⟩
 rw [stk_snoc,List.dropLast_concat,List.dropLast_concat]
theorem stk_at (n:Nat) (ar:List W):atI (iv (stk n ar)) (-1)=some (.int ((mka n ar:Nat):Int)):=by
 rcases List.eq_nil_or_concat ar with rfl | ⟨a,v,rfl⟩
 ·exact atI_last [] _
 ·rw [List.concat_eq_append,stk_snoc,iv_snoc];exact atI_last _ _
theorem stk_last (n:Nat) (ar:List W):(stk n ar)[ar.length]?=some (mka n ar):=by
 unfold stk
 rw [Qk,List.getElem?_range (by omega)]
 simp
noncomputable def TupL (H:Hp) (ts:List Addr) (r:List (Str × Nat)):Prop:=ts.length=r.length/\∀ (i:Nat) (t:Addr) (w:Str × Nat),ts[i]?=some t->r[i]?=some w->H t=some (.tup [.str w.1,.int ((w.2:Nat):Int)])
theorem TupL.nil (H:Hp):TupL H [] []:=⟨rfl,fun i t w h=>by simp at h⟩
theorem TupL.same {H H':Hp} {ts:List Addr} {r:List (Str × Nat)} (h:TupL H ts r) (s:Same H H'):TupL H' ts r:=⟨h.1,fun i t w a b=>s _ _ (h.2 i t w a b)⟩
theorem TupL.lst {H:Hp} {ts:List Addr} {r:List (Str × Nat)} {l:Addr} {xs ys:List V} (h:TupL H ts r) (hl:H l=some (.lst xs)):TupL (upd H l (.lst ys)) ts r :=
 ⟨h.1,fun i t w a b=>by rw [upd_ne (ne_of (h.2 i t w a b) hl (by intro z;cases z))];exact h.2 i t w a b⟩
theorem TupL.snoc {H:Hp} {ts:List Addr} {r:List (Str × Nat)} {t:Addr} {w:Str × Nat} (h:TupL H ts r) (ht:H t=some (.tup [.str w.1,.int ((w.2:Nat):Int)])):TupL H (ts++[t]) (r++[w]):=by
 refine ⟨by simp [h.1],fun i u q h1 h2=>?_⟩
 have hl:=h.1
 by_cases hi:i<ts.length
 ·rw [Qv hi] at h1
  rw [Qv (by omega)] at h2
  exact h.2 i u q h1 h2
 ·rw [Qq (by omega)] at h1
  rw [Qq (by omega)] at h2
  have hi0:i-ts.length=0:=by
   cases hh:i-ts.length with
   | zero=>rfl
   | succ m=>rw [hh] at h1;simp at h1
  rw [<- hl,hi0] at h2
  rw [hi0] at h1
  have e1:t=u:=by simpa using h1
  have e2:w=q:=by simpa using h2
  subst e1;subst e2
  exact ht
noncomputable def RowAt (H:Hp) (l:Addr) (r:List (Str × Nat)):Prop:=∃ ts:List Addr,H l=some (.lst (ts.map V.ref))/\TupL H ts r
theorem RowAt.same {H H':Hp} {l:Addr} {r:List (Str × Nat)} (h:RowAt H l r) (s:Same H H'):RowAt H' l r:=by obtain ⟨ts,a,b⟩:=h;exact ⟨ts,s _ _ a,b.same s⟩
noncomputable def spGroup:Sp:=fun vs H Q _=>∃ (v:W) (n:Nat) (x:V),vs=[.str (wd (.op v)),.int n,x]/\n<=10/\v.ok n/\v.signs.length<=9/\∀ H',Same H H'->Q (.int (v.val (swl n) (fulln n):Nat)) H'
noncomputable def spWords:Sp:=fun vs H Q _=>∃ (evs:List Ev) (n:Nat),vs=[.str (rowT evs)]/\n<=10/\Gev n evs/\evs.length<=1000/\∀ p,H p=none->Q (.ref p) (upd H p (.lst ((evs.map wd).map V.str)))
noncomputable def spReadW:Sp:=fun vs H Q _=>∃ (evs:List Ev) (n:Nat) (x:V),vs=[.str (rowT evs),.int n,x]/\n<=10/\Gev n evs/\(rn evs).2=[]/\evs.length<=1000/\∀ p H',H p=none->Same H H'->RowAt H' p (rowD n (rn evs).1)->Q (.ref p) H'
theorem e_:("":Str)=⟨#[]⟩:=by decide +kernel
theorem e_gt:(">":Str)=⟨#[62]⟩:=by decide +kernel
theorem e_lt:("<":Str)=⟨#[60]⟩:=by decide +kernel
theorem e_sp:(" ":Str)=⟨#[32]⟩:=by decide +kernel
theorem dec_str (a b:Str):decide (V.str a=V.str b)=decide (a=b):=by
 by_cases h:a=b
 ·subst h;simp
 ·rw [Qe h];exact Qe fun z=>h (by injection z)
theorem starts_op (v:W):(0+("<":Str).length<=(wd (.op v)).length&&Builtin.Str.subAt (wd (.op v)) "<" 0)=true:=by
 rw [e_lt]
 have:(⟨#[60]⟩:Str).length=1:=rfl
 simp [wd,Builtin.Str.subAt,Str.length]
noncomputable abbrev N_ZM:List Str:=["row"]
theorem sc_ZM:FnScope N_ZM ["row"] (defScope st_ZM):=⟨rfl,rfl,rfl,by decide +kernel,rfl,by decide +kernel,by decide +kernel⟩
theorem ok_words (T:All P w K mg AA DD):FnOk P w K mg base CX0 1 AA.ZM DD.ZM ["row"] spWords:=by
 refine T.F_ZM.ok sc_ZM (fun vs H Q E h=>?_) (fun cdv A outer s H vs Q E hr h=>?_)
 ·obtain ⟨evs,n,rfl,_⟩:=h
  rfl
 ·obtain ⟨evs,n,rfl,hn,g,hl,k⟩:=h
  refine ⟨_,(@pss_cons _ _ _ _ _ (@ps_if _ _ _ _ _ _ _ _ (@pt_cmpR _ _ _ _ _ _ _ _ op_eq (pv 0) pe_str (nomark _)) (@pss_one _ _ _ (@ps_ret _ _ _ _ (@pe_lst _ _ _ _ pa_nil))) pss_nil) (@pss_one _ _ _ (@ps_ret _ _ _ _ (pe_bmK (K:=K) rfl PySem.F.plainAttrs_str PySem.F.slot_str_split PySem.F.type_str_split mt_split (pv 0) (@pa_cons _ _ _ _ _ pe_str pa_nil (by rfl)))))),?_⟩
  refine ⟨_,rfl,rfl,_,rfl,?_⟩
  rw [dec_str]
  by_cases h0:evs=[]
  ·subst h0
   rw [Qo (show rowT []="" by rw [e_];rfl)]
   refine iteT ?_
   exact ⟨(by decide),fun p hp=>k p hp⟩
  ·rw [Qe (show ¬ rowT evs="" from fun z=>rowT_nil hn g h0 (by rw [z,e_]))]
   refine iteF ?_
   have hlen:=rowT_len hn g
   refine ⟨_,rfl,rfl,_,_,rfl,rfl,(by rw [e_sp];rfl),Nat.le_of_lt (Nat.lt_of_lt_of_le (QL (Nat.add_le_add_right hlen 2) (show evs.length*11+2<16777216 by omega)) (by decide)),fun p hp=>?_⟩
   rw [e_sp,rowT_split hn g h0]
   exact k p hp
noncomputable abbrev N_Zz:List Str:=["word","n","at"]
theorem sc_Zz:FnScope N_Zz ["word","n","at"] (defScope st_Zz):=⟨rfl,rfl,rfl,by decide +kernel,rfl,by decide +kernel,by decide +kernel⟩
theorem ok_group (T:All P w K mg AA DD):FnOk P w K mg base CX0 5 AA.Zz DD.Zz ["word","n","at"] spGroup:=by
 have GR:=ok_read (base:=base) T
 refine T.F_Zz.ok sc_Zz (fun vs H Q E h=>?_) (fun cdv A outer s H vs Q E hr h=>?_)
 ·obtain ⟨v,n,x,rfl,_⟩:=h
  rfl
 ·obtain ⟨v,n,x,rfl,hn,hv,hl,k⟩:=h
  have hr4:Room 4 _:=hr.mono (by decide)
  refine ⟨_,(@pss_one _ _ _ (ps_tryok (@pss_one _ _ _ (@ps_ret _ _ _ _ (pe_call GR hr4 rfl T.m_ZE T.k_ZE T.b_ZE .nil pass0 (@pa_cons _ _ _ _ _ (pe_slice sl_str (pv 0) (po_some pe_int) po_none) (@pa_cons _ _ _ _ _ (pv 1) pa_nil (by rfl)) (by rfl))))))),?_⟩
  have hwl:(wd (.op v)).length<=sizeLine:=Nat.le_of_lt (small1000 (by simp [wd,Str.length];omega))
  have ec:cutS (wd (.op v)) (some 1) none=wst v:=str_ext (by rw [show (1:Int)=((1:Nat):Int) from rfl,cutS_from];rfl)
  refine ⟨_,rfl,_,rfl,_,rfl,hwl,?_⟩
  rw [ec]
  refine ⟨_,rfl,wst v,n,v.val (swl n) (fulln n),rfl,hn,signs_128 hn v hv,(by show v.signs.toArray.size<=4000;simp;omega),run_wish (by rw [swl_len'];exact Qh _) hn hv,fun H' hs=>k H' hs⟩
noncomputable abbrev N_Zy:List Str:=["row","n","at","plain","masks","word"]
theorem sc_Zy:FnScope N_Zy ["row","n","at"] (defScope st_Zy):=⟨rfl,rfl,rfl,by decide +kernel,rfl,by decide +kernel,by decide +kernel⟩
theorem ok_readw (T:All P w K mg AA DD):FnOk P w K mg base CX0 6 AA.Zy DD.Zy ["row","n","at"] spReadW:=by
 have GE:=ok_ZW (base:=base) T
 have GO:=ok_words (base:=base) T
 have GG:=ok_group (base:=base) T
 refine T.F_Zy.ok sc_Zy (fun vs H Q E h=>?_) (fun cdv A outer s H vs Q E hr h=>?_)
 ·obtain ⟨evs,n,x,rfl,_⟩:=h
  rfl
 ·obtain ⟨evs,n,x,rfl,hn,g,hend,hle,k⟩:=h
  have nd:=sc_Zy.nd
  have hr1:Room 1 _:=hr.mono (by decide)
  have hr5:Room 5 _:=hr.mono (by decide)
  obtain ⟨tD,hDEEPEST_GROUP⟩:=T.v_DEEPEST_GROUP
  refine ⟨_,(@pss_cons _ _ _ _ _ (@ps_set _ _ 3 _ _ _ _ nd rfl (Or.inl rfl) (@pe_lst _ _ _ _ pa_nil) (by rfl) (by first | exact .inl rfl | exact .inr rfl | assumption)) (@pss_cons _ _ _ _ _ (@ps_set _ _ 4 _ _ _ _ nd rfl (Or.inl rfl) (@pe_lst _ _ _ _ (@pa_cons _ _ _ _ _ (pe_call GE hr1 rfl T.m_ZW T.k_ZW T.b_ZW .nil pass0 (@pa_cons _ _ _ _ _ (pv 1) pa_nil (by rfl))) pa_nil (by rfl))) (by rfl) (by first | exact .inl rfl | exact .inr rfl | assumption)) (@pss_cons _ _ _ _ _ (@ps_for _ _ _ _ _ _ _ _ PassesOwn.never rfl (pi_list (pe_call GO hr1 rfl T.m_ZM T.k_ZM T.b_ZM .nil pass0 (@pa_cons _ _ _ _ _ (pv 0) pa_nil (by rfl)))) (pg_name (i:=5) nd rfl (Or.inl rfl)) (@pss_cons _ _ _ _ _ (@ps_if _ _ _ _ _ _ _ _ (@pt_cmpR _ _ _ _ _ _ _ _ op_eq (pv 5) pe_str (nomark _)) pss_never pss_nil) (@pss_one _ _ _ (@ps_if _ _ _ _ _ _ _ _ (@pt_cmpR _ _ _ _ _ _ _ _ op_eq (pv 5) pe_str (nomark _)) (@pss_cons _ _ _ _ _ (@ps_expr _ _ _ _ (pe_bm0 PySem.F.plainAttrs_list PySem.F.slot_list_pop PySem.F.type_list_pop mt_pop (pv 4)) (by rfl)) (@pss_one _ _ _ (@ps_if _ _ _ _ _ _ _ _ (@pt_cmpR _ _ _ _ _ _ _ _ op_eq (pe_callB call_len_seq rfl T.n_len bt_len (@pa_cons _ _ _ _ _ (pv 4) pa_nil (by rfl))) pe_int (nomark _)) pss_never pss_nil))) (@pss_one _ _ _ (@ps_if _ _ _ _ _ _ _ _ (pt_val (pe_bmK (K:=K) rfl PySem.F.plainAttrs_str PySem.F.slot_str_startswith PySem.F.type_str_startswith mt_starts (pv 5) (@pa_cons _ _ _ _ _ pe_str pa_nil (by rfl)))) (@pss_cons _ _ _ _ _ (@ps_if _ _ _ _ _ _ _ _ (@pt_cmpR _ _ _ _ _ _ _ _ op_gt (pe_callB call_len_seq rfl T.n_len bt_len (@pa_cons _ _ _ _ _ (pv 4) pa_nil (by rfl))) (pe_glob (v:=.int 5) rfl hDEEPEST_GROUP ⟨_,rfl⟩) (nomark _)) pss_never pss_nil) (@pss_one _ _ _ (@ps_expr _ _ _ _ (pe_bm PySem.F.plainAttrs_list PySem.F.slot_list_append PySem.F.type_list_append mt_append (pv 4) (@pa_cons _ _ _ _ _ (@pe_op _ _ _ _ _ _ _ _ op_and (@pe_ix _ _ _ _ _ _ _ (ix_listK (K:=K) rfl) (pv 4) (pe_un un_neg pe_int) (fun _ _=>rfl)) (pe_call GG hr5 rfl T.m_Zz T.k_Zz T.b_Zz .nil pass0 (@pa_cons _ _ _ _ _ (pv 5) (@pa_cons _ _ _ _ _ (pv 1) (@pa_cons _ _ _ _ _ (pv 2) pa_nil (by rfl)) (by rfl)) (by rfl)))) pa_nil (by rfl))) (by rfl)))) (@pss_one _ _ _ (@ps_expr _ _ _ _ (pe_bm PySem.F.plainAttrs_list PySem.F.slot_list_append PySem.F.type_list_append mt_append (pv 3) (@pa_cons _ _ _ _ _ (@pe_tup _ _ _ _ _ (@pa_cons _ _ _ _ _ (pv 5) (@pa_cons _ _ _ _ _ (@pe_ix _ _ _ _ _ _ _ (ix_listK (K:=K) rfl) (pv 4) (pe_un un_neg pe_int) (fun _ _=>rfl)) pa_nil (by rfl)) (by rfl))) pa_nil (by rfl))) (by rfl)))))))) (by intro _;rfl)) (@pss_cons _ _ _ _ _ (@ps_if _ _ _ _ _ _ _ _ (@pt_cmpR _ _ _ _ _ _ _ _ op_gt (pe_callB call_len_seq rfl T.n_len bt_len (@pa_cons _ _ _ _ _ (pv 4) pa_nil (by rfl))) pe_int (nomark _)) pss_never pss_nil) (@pss_one _ _ _ (@ps_ret _ _ _ _ (pv 3))))))),?_⟩
  refine ⟨Qr _,fun pp hpp=>?_⟩
  refine ⟨_,rfl,n,rfl,hn,(by show 1<=sizeLine;decide),fun pm hpm=>?_⟩
  have npm:pp≠pm:=ne_of_none upd_same hpm
  dsimp only [gName]
  refine cut_for (fun σ' H'=>Same H H'/\∃ s5:Option V,RowAt H' pp (rowD n (rn evs).1)/\H' pm=some (.lst (iv (stk n (rn evs).2)))/\σ'=[some (.str (rowT evs)),some (.int (n:Nat)),some x,some (.ref pp),some (.ref pm),s5]) (fun R hR=>?_) ?_
  ·refine ⟨_,rfl,evs,n,rfl,hn,g,hle,fun pw hpw=>?_⟩
   have s0:Same H (upd (upd (upd H pp (.lst [])) pm (.lst [.int ((fulln n:Nat):Int)])) pw (.lst ((evs.map wd).map V.str))):=((same_upd hpp).trans (same_upd hpm)).trans (same_upd hpw)
   have npw:pp≠pw:=ne_of_none (show upd (upd H pp _) pm _ pp=some _ by rw [upd_ne npm,upd_same]) hpw
   have nmw:pm≠pw:=ne_of_none upd_same hpw
   have hpp0:H pp=none:=hpp
   have hpm0:H pm=none:=by rw [upd_ne (Ne.symm npm)] at hpm;exact hpm
   refine ⟨pw,rfl,⟨_,SqL.of upd_same⟩,?_⟩
   refine for_list (K:=K) (a:=pw) (xs:=(evs.map wd).map V.str) (fun i σ' H'=>Same H H'/\H' pw=some (.lst ((evs.map wd).map V.str))/\∃ s5:Option V,RowAt H' pp (rowD n (rn (evs.take i)).1)/\H' pm=some (.lst (iv (stk n (rn (evs.take i)).2))) /\
     σ'=[some (.str (rowT evs)),some (.int (n:Nat)),some x,some (.ref pp),some (.ref pm),s5])
    ⟨s0,upd_same,none,⟨[],by rw [upd_ne npw,upd_ne npm,upd_same];rfl,TupL.nil _⟩,by rw [upd_ne nmw,upd_same];rfl,rfl⟩ (fun i σ' H' _ hsl81=>by obtain ⟨_,e,_⟩:=hsl81;exact SqL.of e) ?_ ?_
   ·rintro i y σ' H1 hy ⟨sm,hpw1,s5,⟨ts,hts,htl⟩,hst,rfl⟩
    have hil:i<evs.length:=by
     have:=(Qc hy).1
     simpa using this
    obtain ⟨e,he⟩:∃ e,evs[i]?=some e:=⟨_,Qa hil⟩
    have ey:y=V.str (wd e):=by
     rw [Qk,Qk,he] at hy
     exact (Ql hy).symm
    subst ey
    have hok:=g i e he
    have hrn:=rn_take he
    obtain ⟨hsg,hne,hl10⟩:=evok_wd hn hok
    generalize hgo:rn (evs.take i)=st at hok hrn htl hst
    obtain ⟨fs,ar⟩:=st
    have hfl:fs.length<=1000/\ts.length=fs.length:=by
     refine ⟨?_,by rw [htl.1];simp [rowD]⟩
     have:∀ l:List Ev,(rn l).1.length<=l.length:=by
      intro l
      have:∀ (l:List Ev) (st:RSt),(l.foldl stp st).1.length<=st.1.length+l.length:=by
       intro l
       induction l with
       | nil=>intro st;exact Qh _
       | cons e r ih =>
        intro st
        have h1:=ih (stp st e)
        have h2:(stp st e).1.length<=st.1.length+1:=by cases e<;>simp [stp]
        simp only [List.foldl_cons,List.length_cons]
        omega
      simpa [rn] using this l ([],[])
     have h3:=this (evs.take i)
     rw [hgo] at h3
     rw [QE] at h3
     show fs.length<=1000
     have:fs.length<=min i evs.length:=h3
     omega
    refine ⟨_,rfl,rfl,_,rfl,?_⟩
    rw [dec_str,Qe (show ¬ wd e="" from fun z=>hne (by rw [z,e_]))]
    refine iteF ?_
    refine ⟨_,rfl,rfl,_,rfl,?_⟩
    rw [dec_str,e_gt]
    have nwm:pw≠pm:=Ne.symm nmw
    cases e with
    | cl =>
     rw [Qo (show wd .cl=⟨#[62]⟩ from rfl)]
     refine iteT ?_
     have har:ar≠[]:=hok
     have hal:0<ar.length:=List.length_pos_iff.mpr har
     refine ⟨_,rfl,.inl ⟨rfl,_,SqL.of hst⟩,pm,_,_,rfl,rfl,hst,(by rw [iv_len,stk_len,Nat.add_sub_cancel];rw [iv,Qk,stk_last];rfl),?_⟩
     have h2:(iv (stk n ar)).dropLast=iv (stk n ar.dropLast):=by rw [<- stk_drop n har];simp [iv,List.map_dropLast]
     rw [h2]
     refine ⟨_,rfl,pm,_,rfl,.inl (SqL.of upd_same),rfl,_,rfl,?_⟩
     rw [iv_len,stk_len,dec_int,beq_eq_false_iff_ne.mpr (show ¬ ((ar.dropLast.length+1:Nat):Int)=0 by omega)]
     refine iteF ?_
     refine ⟨fun b u e=>?_,?_,_,⟨ts,?_,?_⟩,?_,rfl⟩
     ·rw [upd_ne (ne_of_none e hpm0)];exact sm b u e
     ·rw [upd_ne nwm];exact hpw1
     ·rw [upd_ne npm];exact hts
     ·rw [hrn];exact htl.lst hst
     ·rw [upd_same,hrn];rfl
    | op v =>
     obtain ⟨hv,hl9,h5⟩:=hok
     have h5:ar.length<5:=h5
     rw [Qe (show ¬ wd (.op v)=⟨#[62]⟩ from fun z=>by
      have:=congrArg (fun z:Str=>z.cps.toList) z
      simp [wd] at this)]
     refine iteF ?_
     refine ⟨_,rfl,rfl,_,_,rfl,rfl,_,rfl,?_⟩
     rw [starts_op]
     refine iteT ?_
     refine ⟨_,rfl,pm,_,rfl,.inl (SqL.of hst),_,_,rfl,rfl,_,rfl,?_⟩
     rw [iv_len,stk_len,Qe (show ¬ (5:Int)<((ar.length+1:Nat):Int) by omega)]
     refine iteF ?_
     refine ⟨_,rfl,.inl ⟨rfl,_,SqL.of hst⟩,_,rfl,_,rfl,pm,_,_,.int (mka n ar:Nat),rfl,rfl,SqL.of hst,?_,?_⟩
     ·exact stk_at n ar
     refine ⟨_,rfl,_,rfl,_,rfl,v,n,x,rfl,hn,hv,hl9,fun H2 hs2=>⟨_,_,rfl,rfl,?_⟩⟩
     have hst2:=hs2 _ _ hst
     refine ⟨pm,_,_,rfl,rfl,hst2,(by rw [iv_len,stk_len];exact small1000 (by omega)),?_⟩
     refine ⟨fun b u e=>?_,?_,_,⟨ts,?_,?_⟩,?_,rfl⟩
     ·rw [upd_ne (ne_of_none e hpm0)];exact hs2 _ _ (sm b u e)
     ·rw [upd_ne nwm];exact hs2 _ _ hpw1
     ·rw [upd_ne npm];exact hs2 _ _ hts
     ·rw [hrn];exact (htl.same hs2).lst hst2
     ·rw [upd_same,hrn]
      dsimp only
      rw [bitAnd_nat,<- mka_snoc]
      show some (HO.lst (iv (stk n ar)++[V.int ((mka n (ar++[v]):Nat):Int)]))=some (HO.lst (iv (stk n (ar++[v]))))
      rw [stk_snoc,iv_snoc]
    | pl z =>
     obtain ⟨hP,hz5⟩:=hok
     rw [Qe (show ¬ wd (.pl z)=⟨#[62]⟩ from hP.gt)]
     refine iteF ?_
     refine ⟨_,rfl,rfl,_,_,rfl,rfl,_,rfl,?_⟩
     have hns:(0+("<":Str).length<=(wd (.pl z)).length&&Builtin.Str.subAt (wd (.pl z)) "<" 0)=false:=by
      obtain ⟨c,r,hzc,hc60⟩:=hP.hd
      rw [e_lt]
      show (0+1<=z.length&&Builtin.Str.subAt z ⟨#[60]⟩ 0)=false
      have hx:(z.cps.extract 0 (⟨#[60]⟩:Str).length).toList=[c]:=by
       rw [Array.toList_extract,hzc];rfl
      simp [Builtin.Str.subAt]
      intro _ h2
      have h3:=congrArg Array.toList h2
      rw [hx] at h3
      simp at h3
      exact hc60 h3
     rw [hns]
     refine iteF ?_
     refine ⟨_,rfl,.inl ⟨rfl,_,SqL.of hts⟩,_,rfl,_,rfl,_,rfl,pm,_,_,.int (mka n ar:Nat),rfl,rfl,SqL.of hst,?_,(by show 2<=sizeLine;decide),fun t ht=>?_⟩
     ·exact stk_at n ar
     have s2:=same_upd (o:=.tup [.str z,.int ((mka n ar:Nat):Int)]) ht
     refine ⟨pp,_,_,rfl,rfl,s2 _ _ hts,(by rw [Qd];exact small1000 (by omega)),?_⟩
     refine ⟨fun b u e=>?_,?_,_,⟨ts++[t],?_,?_⟩,?_,rfl⟩
     ·rw [upd_ne (ne_of_none e hpp0)];exact s2 _ _ (sm b u e)
     ·rw [upd_ne (Ne.symm npw)];exact s2 _ _ hpw1
     ·rw [upd_same,QD];rfl
     ·rw [hrn]
      show TupL _ (ts++[t]) (rowD n (fs++[(z,ar)]))
      rw [show rowD n (fs++[(z,ar)])=rowD n fs++[(z,mka n ar)] by simp [rowD]]
      exact ((htl.same s2).snoc upd_same).lst (s2 _ _ hts)
     ·rw [upd_ne (Ne.symm npm),hrn];exact s2 _ _ hst
   ·rintro σ' H1 ⟨sm,_,s5,hrow,hst,rfl⟩
    have e:((evs.map wd).map V.str).length=evs.length:=by simp
    rw [e,QH] at hrow hst
    exact hR _ _ ⟨sm,s5,hrow,hst,rfl⟩
  rintro σ' H1 ⟨sm,s5,hrow,hst,rfl⟩
  refine ⟨_,rfl,pm,_,rfl,.inl (SqL.of hst),_,_,rfl,rfl,_,rfl,?_⟩
  rw [iv_len,stk_len,hend,Qe (show ¬ (1:Int)<((([]:List W).length+1:Nat):Int) by decide)]
  refine iteF ?_
  exact ⟨_,rfl,k pp H1 hpp sm hrow⟩
end
section
variable {P:Program} {w:World} {K:W.Frag} {mg:Str->Option Value} {base:Heap} {AA:Adr} {DD:Fds}
noncomputable def textT (rws:List (List Ev)):Str:=Str.join ⟨#[10]⟩ (rws.map rowT)
noncomputable def RowsAt (H:Hp) (p:Addr) (ls:List Addr) (rows:List (List (Str × Nat))):Prop:=H p=some (.lst (ls.map V.ref))/\ls.length=rows.length/\∀ (i:Nat) (l:Addr) (r:List (Str × Nat)),ls[i]?=some l->rows[i]?=some r->RowAt H l r
noncomputable def Grs (n:Nat) (rws:List (List Ev)):Prop:=rws≠[]/\rws.length<=60/\∀ evs∈rws,Gev n evs/\(rn evs).2=[]/\evs.length<=100
noncomputable def rowsD (n:Nat) (rws:List (List Ev)):List (List (Str × Nat)):=rws.map fun evs=>rowD n (rn evs).1
noncomputable def spReadR:Sp:=fun vs H Q _=>∃ (rws:List (List Ev)) (n:Nat),vs=[.str (textT rws),.int n]/\n<=10/\Grs n rws/\∀ p ls H',H p=none->Same H H'->RowsAt H' p ls (rowsD n rws)->Q (.ref p) H'
theorem e_nl:("\n":Str)=⟨#[10]⟩:=by decide +kernel
theorem textT_split {n:Nat} (hn:n<=10) {rws:List (List Ev)} (g:Grs n rws):Txt.split (textT rws) ⟨#[10]⟩=rws.map rowT :=
 split_join (by simpa using g.1) fun z hz hc=>by
  obtain ⟨evs,he,rfl⟩:=Qy hz
  have:=rowT_sg hn (g.2.2 evs he).1 10 hc
  omega
theorem textT_len {n:Nat} (hn:n<=10) {rws:List (List Ev)} (g:Grs n rws):(textT rws).length<=70000:=by
 rw [str_len,textT,join_list]
 refine QA (jl_len _) ?_
 have:=sum_le (l:=((rws.map rowT).map fun z=>z.cps.toList).map List.length) (b:=1100) (fun x hx=>by
  obtain ⟨l,hl,rfl⟩:=Qy hx
  obtain ⟨z,hz,rfl⟩:=Qy hl
  obtain ⟨evs,he,rfl⟩:=Qy hz
  have h1:=rowT_len hn (g.2.2 evs he).1
  have h2:=(g.2.2 evs he).2.2
  rw [str_len] at h1
  omega)
 have h60:=g.2.1
 simp only [Qd] at this ⊢
 omega
noncomputable abbrev N_ZF:List Str:=["text","n"]
theorem sc_ZF:FnScope N_ZF ["text","n"] (defScope st_ZF):=⟨rfl,rfl,rfl,by decide +kernel,rfl,by decide +kernel,by decide +kernel⟩
theorem ok_readr (T:All P w K mg AA DD):FnOk P w K mg base CX0 7 AA.ZF DD.ZF ["text","n"] spReadR:=by
 have GX:=ok_readw (base:=base) T
 refine T.F_ZF.ok sc_ZF (fun vs H Q E h=>?_) (fun cdv A outer s H vs Q E hr h=>?_)
 ·obtain ⟨rws,n,rfl,_⟩:=h
  rfl
 ·obtain ⟨rws,n,rfl,hn,g,k⟩:=h
  have hr6:Room 6 _:=hr.mono (by decide)
  refine ⟨_,(@pss_one _ _ _ (@ps_ret _ _ _ _ (pe_comp2 (xs:=["at","row"]) (defScope st_ZF) N_ZF ["n"] [1] rfl (by exact ⟨rfl,rfl,by decide +kernel,by decide +kernel,by decide +kernel,by decide +kernel,by decide +kernel,rfl,by decide +kernel⟩) rfl rfl (pi_enum rfl T.n_enumerate (@pa_cons _ _ _ _ _ (pe_bmK (K:=K) rfl PySem.F.plainAttrs_str PySem.F.slot_str_split PySem.F.type_str_split mt_split (pv 0) (@pa_cons _ _ _ _ _ pe_str pa_nil (by rfl))) pa_nil (by rfl))) (fun _ _ _ _=>(pg_tupK (K:=K) (n:=2) rfl rfl (pgs_cons (pg_name (i:=0) (show (["at","row","n"]:List Str).Nodup by decide +kernel) rfl (Or.inl rfl)) (pgs_cons (pg_name (i:=1) (show (["at","row","n"]:List Str).Nodup by decide +kernel) rfl (Or.inl rfl)) pgs_nil)))) (fun _ _ _ _=>pif_nil) (fun _ _ _ _=>(pe_call GX hr6 rfl T.m_Zy T.k_Zy T.b_Zy .nil pass0 (@pa_cons _ _ _ _ _ (pv 1) (@pa_cons _ _ _ _ _ (pv 2) (@pa_cons _ _ _ _ _ (pv 0) pa_nil (by rfl)) (by rfl)) (by rfl))))))),?_⟩
  have hlen:=textT_len hn g
  refine ⟨_,rfl,rfl,_,_,rfl,rfl,(by rw [e_nl];rfl),Nat.le_of_lt (QL (Nat.add_le_add_right hlen 2) (by decide)),fun pl hpl=>?_⟩
  rw [e_nl,textT_split hn g]
  have h60:=g.2.1
  refine ⟨pl,_,rfl,SqL.of upd_same,?_⟩
  have s0:=same_upd (o:=.lst ((rws.map rowT).map V.str)) hpl
  refine comp2_enum (K:=K) (a:=pl) (xs:=(rws.map rowT).map V.str) (fun i ys H'=>i<=60/\Same H H'/\H' pl=some (.lst ((rws.map rowT).map V.str))/\∃ ls:List Addr,ys=ls.map V.ref/\ls.length=i /\
    ∀ (j:Nat) (l:Addr) (r:List (Str × Nat)),ls[j]?=some l->(rowsD n rws)[j]?=some r->RowAt H' l r) ⟨Qr _,s0,upd_same,[],rfl,rfl,fun j l r h=>by simp at h⟩ (fun i ys H' _ hsl82=>by obtain ⟨_,_,e,_⟩:=hsl82;exact SqL.of e) ?_ ?_
  ·rintro i x ys H1 t hx ⟨_,sm,hpl1,ls,rfl,hil,hrow⟩ ht
   have hi:i<rws.length:=by
    have:=(Qc hx).1
    simpa using this
   have ex:x=V.str (rowT rws[i]):=by
    rw [Qk,Qk,Qa hi] at hx
    exact (Ql hx).symm
   subst ex
   intro os hos
   obtain ⟨a,b,rfl⟩:∃ a b,os=[a,b]:=by
    match os,hos with
    | [a,b],_=>exact ⟨a,b,rfl⟩
   refine ⟨t,_,rfl,SqT.of upd_same,rfl,_,_,rfl,_,_,rfl,rfl,⟨[_,_],rfl,rfl⟩,tYes_ok ?_⟩
   rw [if_pos rfl]
   obtain ⟨g1,g2,g3⟩:=g.2.2 rws[i] (QB hi)
   have st:=same_upd (o:=.tup [.int ((i:Nat):Int),.str (rowT rws[i])]) ht
   refine ⟨_,rfl,_,rfl,_,rfl,rws[i],n,_,rfl,hn,g1,g2,by omega,fun p H2 hp s2 hr2=>?_⟩
   have s12:=st.trans s2
   refine ⟨by rw [Qd];exact small1000 (by omega),by omega,sm.trans s12,s12 _ _ hpl1,ls++[p],by simp,by simp [hil],fun j l r h1 h2=>?_⟩
   by_cases hj:j<ls.length
   ·rw [Qv hj] at h1
    exact (hrow j l r h1 h2).same s12
   ·rw [Qq (by omega)] at h1
    have h0:j-ls.length=0:=by
     cases hh:j-ls.length with
     | zero=>rfl
     | succ m=>rw [hh] at h1;simp at h1
    rw [h0] at h1
    have e1:p=l:=by simpa using h1
    have ej:j=i:=by omega
    subst e1 ej
    have e2:rowD n (rn rws[j]).1=r:=by
     rw [rowsD,Qk,Qa hi] at h2
     exact Ql h2
    rw [<- e2]
    exact hr2
  ·rintro ys H1 ⟨_,sm,hpl1,ls,rfl,hil,hrow⟩ p hp
   refine k p ls _ (by
    cases e:H p with
    | none=>rfl
    | some o=>rw [sm _ _ e] at hp;cases hp) (sm.trans (same_upd hp)) ⟨upd_same,?_,fun j l r h1 h2=>(hrow j l r h1 h2).same (same_upd hp)⟩
   rw [hil];simp [rowsD]
end
section
variable {P:Program} {w:World} {K:W.Frag} {mg:Str->Option Value} {base:Heap} {AA:Adr} {DD:Fds}
noncomputable def spXInit_TooMany (C:Addr):Sp:=fun vs H Q _=>∃ (e tt:Addr) (v:V),vs=[.ref e,v]/\H e=some (excN e C tt none)/\∀ dx,H dx=none->dx≠e->Q .non (upd (upd H e (excN e C tt (some dx))) dx (xdO dx [("at",v)]))
noncomputable abbrev N_Zp:List Str:=["self","at"]
theorem sc_Zp:FnScope N_Zp ["self","at"] (defScope st_Zp):=⟨rfl,rfl,rfl,by decide +kernel,rfl,by decide +kernel,by decide +kernel⟩
theorem ok_Zp (T:All P w K mg AA DD):FnOk P w K mg base CX0 1 AA.Zp DD.Zp ["self","at"] (spXInit_TooMany AA.x_TooMany):=by
 refine T.F_Zp.ok sc_Zp (fun vs H Q E h=>?_) (fun cdv A outer s H vs Q E hr h=>?_)
 ·obtain ⟨e,tt,v,rfl,_⟩:=h
  rfl
 ·obtain ⟨e,tt,v,rfl,he,k⟩:=h
  refine ⟨_,(@pss_one _ _ _ (ps_xfld (body_cx.wish _) (pv 0) (pv 1))),?_⟩
  exact ⟨v,rfl,_,rfl,e,AA.x_TooMany,tt,rfl,T.ic_TooMany,T.na_TooMany_at,.inl ⟨he,k⟩⟩
theorem raise_TooMany {C:Addr} {E:XK} {H:Hp} {v:V} (h:∀ dx H',Same H H'->H' dx=some (xdO dx [("at",v)])->E (.ref C) (some dx) H') (e tt:Addr) (he:H e=none) :
  spXInit_TooMany C [.ref e,v] (upd H e (excN e C tt none)) (fun x H2=>x=.non/\∃ dd,H2 e=some (excN e C tt dd)/\E (.ref C) dd (del H2 e)) E0:=by
 refine ⟨e,tt,v,rfl,upd_same,fun dx hd ne=>⟨rfl,some dx,by rw [upd_ne ne.symm,upd_same],h dx _ (fun b u q=>?_) (by rw [del_ne ne,upd_same])⟩⟩
 have hb:b≠e:=ne_of_none q he
 have hbd:b≠dx:=ne_of_none (show upd H e _ b=some u by rw [upd_ne hb];exact q) hd
 rw [del_ne hb,upd_ne hbd,upd_ne hb,upd_ne hb]
 exact q
noncomputable def cutR (s:Nat) (r:List (Str × Nat)):List Str:=(r.filter fun w=>w.2.testBit s).map (·.1)
noncomputable def spCutR:Sp:=fun vs H Q _=>∃ (l:Addr) (r:List (Str × Nat)) (s:Nat),vs=[.ref l,.int s]/\RowAt H l r/\r.length<=1000/\∀ p,H p=none->Q (.ref p) (upd H p (.lst ((cutR s r).map V.str)))
noncomputable abbrev N_ZT:List Str:=["row","s"]
theorem sc_ZT:FnScope N_ZT ["row","s"] (defScope st_ZT):=⟨rfl,rfl,rfl,by decide +kernel,rfl,by decide +kernel,by decide +kernel⟩
theorem ok_cutr (T:All P w K mg AA DD):FnOk P w K mg base CX0 2 AA.ZT DD.ZT ["row","s"] spCutR:=by
 have GH:=ok_has (base:=base) T
 refine T.F_ZT.ok sc_ZT (fun vs H Q E h=>?_) (fun cdv A outer s H vs Q E hr h=>?_)
 ·obtain ⟨l,r,s,rfl,_⟩:=h
  rfl
 ·obtain ⟨l,r,s,rfl,⟨ts,hts,htl⟩,hrl,k⟩:=h
  have hr1:Room 1 _:=hr.mono (by decide)
  refine ⟨_,(@pss_one _ _ _ (@ps_ret _ _ _ _ (pe_comp2 (xs:=["word","mask"]) (defScope st_ZT) N_ZT ["s"] [1] rfl (by exact ⟨rfl,rfl,by decide +kernel,by decide +kernel,by decide +kernel,by decide +kernel,by decide +kernel,rfl,by decide +kernel⟩) rfl rfl (pi_list (pv 0)) (fun _ _ _ _=>(pg_tupK (K:=K) (n:=2) rfl rfl (pgs_cons (pg_name (i:=0) (show (["word","mask","s"]:List Str).Nodup by decide +kernel) rfl (Or.inl rfl)) (pgs_cons (pg_name (i:=1) (show (["word","mask","s"]:List Str).Nodup by decide +kernel) rfl (Or.inl rfl)) pgs_nil)))) (fun _ _ _ _=>pif_one (pt_val (pe_call GH hr1 rfl T.m_has T.k_has T.b_has .nil pass0 (pa_cons (pv 1) (pa_cons (pv 2) pa_nil))))) (fun _ _ _ _=>(pv 0))))),?_⟩
  have h1:=htl.1
  refine ⟨_,rfl,l,rfl,⟨_,SqL.of hts⟩,?_⟩
  refine comp2_list (K:=K) (a:=l) (xs:=ts.map V.ref) (fun i ys H'=>H'=H/\i<=1000/\ys=(cutR s (r.take i)).map V.str) ⟨rfl,Qr _,rfl⟩ (fun i ys H' _ hsl83=>by obtain ⟨e,_⟩:=hsl83;rw [e];exact SqL.of hts) ?_ ?_
  ·rintro i x ys H1 hx ⟨rfl,_,rfl⟩
   have hi:i<ts.length:=by
    have:=(Qc hx).1
    rw [Qd] at this;exact this
   have hir:i<r.length:=by omega
   have ex:x=V.ref ts[i]:=by rw [Qk,Qa hi] at hx;exact (Ql hx).symm
   subst ex
   have htu:=htl.2 i ts[i] r[i] (Qa hi) (Qa hir)
   intro os hos
   obtain ⟨a,b,rfl⟩:∃ a b,os=[a,b]:=by
    match os,hos with
    | [a,b],_=>exact ⟨a,b,rfl⟩
   refine ⟨ts[i],_,rfl,SqT.of htu,rfl,_,_,rfl,_,_,rfl,rfl,⟨[_,_],rfl,rfl⟩,?_⟩
   refine ⟨_,rfl,_,rfl,r[i].2,s,rfl,_,rfl,?_⟩
   have hl:((cutR s (r.take i)).map V.str).length<sizeLine:=by
    have:=List.length_filter_le (fun w:Str × Nat=>w.2.testBit s) (r.take i)
    rw [QE] at this
    rw [Qd,cutR,Qd]
    exact small5k (by omega)
   have et:cutR s (r.take (i+1))=if r[i].2.testBit s=true then cutR s (r.take i)++[r[i].1] else cutR s (r.take i):=by
    rw [QF hir]
    unfold cutR
    rw [QJ]
    cases hb:r[i].2.testBit s<;>simp [hb]
   cases hb:r[i].2.testBit s with
   | true =>
    refine iteT ?_
    refine ⟨_,rfl,hl,rfl,by omega,?_⟩
    rw [et,if_pos hb,QD]
    rfl
   | false =>
    refine iteF ?_
    exact ⟨rfl,by omega,by rw [et,if_neg (by simp [hb])]⟩
  ·rintro ys H1 ⟨rfl,_,rfl⟩ p hp
   rw [Qd,h1,QH]
   exact k p hp
structure VarAt (H:Hp) (p:Addr) (m:List WK):Prop where
 ex:∃ ts:List Addr,H p=some (.lst (ts.map V.ref))/\ts.length=m.length/\∀ (i:Nat) (t:Addr) (q:WK),ts[i]?=some t->m[i]?=some q->∃ b,H t=some (.tup [.int ((q.2:Nat):Int),.ref b])/\H b=some (.tup (q.1.map V.str))
theorem VarAt.same {H H':Hp} {p:Addr} {m:List WK} (h:VarAt H p m) (s:Same H H'):VarAt H' p m:=by
 obtain ⟨ts,h1,h2,h3⟩:=h.ex
 exact ⟨ts,s _ _ h1,h2,fun i t q a b=>by obtain ⟨c,x,y⟩:=h3 i t q a b;exact ⟨c,s _ _ x,s _ _ y⟩⟩
noncomputable def varsOf (r:List (Str × Nat)) (m:Nat):List WK:=vrun (fun s=>cutR s r) (insd m)
noncomputable def spVar (C:Addr):Sp:=fun vs H Q E=>∃ (l:Addr) (r:List (Str × Nat)) (m:Nat) (x:V),vs=[.ref l,.int m,x]/\RowAt H l r/\r.length<=1000/\m<2 ^ 1024 /\
 ((varsOf r m).length<=16->∀ p H',H p=none->Same H H'->VarAt H' p (varsOf r m)->Q (.ref p) H')/\(16<(varsOf r m).length->ErrAt E C x H)
noncomputable abbrev N_ZN:List Str:=["row","mask","at","found","s","words"]
theorem sc_ZN:FnScope N_ZN ["row","mask","at"] (defScope st_ZN):=⟨rfl,rfl,rfl,by decide +kernel,rfl,by decide +kernel,by decide +kernel⟩
theorem ok_ZN (T:All P w K mg AA DD):FnOk P w K mg base (CX2 (fun _=>True) P w) 3 AA.ZN DD.ZN ["row","mask","at"] (spVar AA.x_TooMany):=by
 have GT:=ok_ZH (base:=base) T
 have GC:=ok_cutr (base:=base) T
 have GI:=ok_Zp (base:=base) T
 obtain ⟨t0,FD,_,_⟩:=T.F_ZN
 refine FD.ok2 sc_ZN (fun vs H Q E h=>?_) (fun cdv A outer s H vs Q E hr h=>?_)
 ·obtain ⟨l,r,m,x,rfl,_⟩:=h
  rfl
 ·obtain ⟨l,r,m,x,rfl,hR,hrl,hm,kq,kx⟩:=h
  have nd:=sc_ZN.nd
  have hu:=hu_of hr
  have hr2:Room 2 _:=hr
  obtain ⟨tM,hMOST_VARIANTS⟩:=T.v_MOST_VARIANTS
  refine ⟨_,(@pss_cons _ _ _ _ _ (@ps_set _ _ 3 _ _ _ _ nd rfl (Or.inr rfl) (pe_dnewT) (by rfl) (by first | exact .inl rfl | exact .inr rfl | assumption)) (@pss_cons _ _ _ _ _ (@ps_for _ _ _ _ _ _ _ _ PassesOwn.leaving rfl (pi_list (pe_call GT hr2 rfl T.m_ZH T.k_ZH T.b_ZH .nil pass0 (@pa_cons _ _ _ _ _ (pv 1) pa_nil (by rfl)))) (pg_name (i:=4) nd rfl (Or.inl rfl)) (@pss_cons _ _ _ _ _ (@ps_set _ _ 5 _ _ _ _ nd rfl (Or.inl rfl) (pe_callTy call_tuple_of rfl T.n_tuple bt_tuple (@pa_cons _ _ _ _ _ (pe_call GC hr2 rfl T.m_ZT T.k_ZT T.b_ZT .nil pass0 (@pa_cons _ _ _ _ _ (pv 0) (@pa_cons _ _ _ _ _ (pv 4) pa_nil (by rfl)) (by rfl))) pa_nil (by rfl))) (by rfl) (by first | exact .inl rfl | exact .inr rfl | assumption)) (@pss_cons _ _ _ _ _ (ps_dput hu (pv 3) (pv 5) (@pe_op _ _ _ _ _ _ _ _ op_or (pe_dget2 hu (pv 3) (pv 5) pe_int ⟨by rfl,by rfl,by rfl,by rfl⟩) (@pe_op _ _ _ _ _ _ _ _ op_shlB pe_int (pv 4))) rfl) (@pss_one _ _ _ (@ps_if _ _ _ _ _ _ _ _ (@pt_cmpR _ _ _ _ _ _ _ _ op_gt (pe_callB call_lenT rfl T.n_len bt_len (@pa_cons _ _ _ _ _ (pv 3) pa_nil (by rfl))) (pe_glob (v:=.int 16) rfl hMOST_VARIANTS ⟨_,rfl⟩) (nomark _)) (@pss_one _ _ _ (ps_raiseI body_cx (raise2 trivial) rfl rfl T.m_TooMany T.M_TooMany PySem.F.excBase_ValueError GI hr2 T.b_Zp (@pa_cons _ _ _ _ _ (pv 2) pa_nil (by rfl)))) pss_nil)))) (by intro _;rfl)) (@pss_one _ _ _ (@ps_ret _ _ _ _ (pe_comp (defScope st_ZN) N_ZN ["found"] [3] rfl (by exact ⟨rfl,rfl,by decide +kernel,rfl,by decide +kernel,by decide +kernel,by decide +kernel,rfl,by decide +kernel⟩) rfl rfl (pi_dkey (pv 3)) (fun _ _ _ _=>pif_nil) (fun _ _ _ _=>(@pe_tup _ _ _ _ _ (@pa_cons _ _ _ _ _ (pe_dget hu (pv 1) (pv 0) (fun _ _=>rfl)) (@pa_cons _ _ _ _ _ (pv 0) pa_nil (by rfl)) (by rfl))))))))),?_⟩
  have hb:bl m<=1024:=bl_le hm
  have hil:(insd m).length<=1024:=QA (sets_len m (bl m)) hb
  have hpw:(insd m).Pairwise (·<·):=sets_pw m (bl m)
  refine fun pf hpf=>?_
  dsimp only [gName]
  refine cut_for (fun σ' H'=>Same H H'/\(varsOf r m).length<=16/\∃ s4 s5:Option V,H' pf=some (.dT (kvOf (varsOf r m)))/\σ'=[some (.ref l),some (.int (m:Nat)),some x,some (.ref pf),s4,s5]) (fun R hRR=>?_) ?_
  ·refine ⟨_,rfl,m,rfl,hm,fun ps hps=>?_⟩
   rw [show setsOf m (bl m)=insd m from rfl]
   have nps:pf≠ps:=ne_of_none upd_same hps
   refine ⟨ps,rfl,⟨_,SqL.of upd_same⟩,?_⟩
   refine for_list (K:=K) (a:=ps) (xs:=(asInts (insd m)).map V.int) (fun i σ' H'=>Same H H'/\H' ps=some (.lst ((asInts (insd m)).map V.int))/\i<=1024/\(vrun (fun s=>cutR s r) ((insd m).take i)).length<=16 /\
     ∃ s4 s5:Option V,H' pf=some (.dT (kvOf (vrun (fun s=>cutR s r) ((insd m).take i))))/\σ'=[some (.ref l),some (.int (m:Nat)),some x,some (.ref pf),s4,s5])
    ⟨(same_upd hpf).trans (same_upd hps),upd_same,Qr _,by simp [vrun],none,none,by rw [upd_ne nps,upd_same];rfl,rfl⟩ (fun i σ' H' _ hsl84=>by obtain ⟨_,e,_⟩:=hsl84;exact SqL.of e) ?_ ?_
   ·rintro i y σ' H1 hy ⟨sm,hps1,_,hle,s4,s5,hF,rfl⟩
    have hi:i<(insd m).length:=by
     have:=(Qc hy).1
     simpa [asInts] using this
    have ey:y=V.int (((insd m)[i]:Nat):Int):=by
     rw [Qk,asInts,Qk,Qa hi] at hy
     exact (Ql hy).symm
    subst ey
    have hst:(insd m)[i]<1024:=Nat.lt_of_lt_of_le (sets_lt (QB hi:(insd m)[i]∈setsOf m (bl m))) hb
    have evs:vrun (fun s=>cutR s r) ((insd m).take (i+1))=vstep (fun s=>cutR s r) (vrun (fun s=>cutR s r) ((insd m).take i)) (insd m)[i]:=by rw [QF hi,vrun_snoc]
    generalize (insd m)[i]=t at hst evs
    generalize vrun (fun s=>cutR s r) ((insd m).take i)=M at hF hle evs
    refine ⟨_,rfl,_,rfl,l,r,t,rfl,hR.same sm,hrl,fun pl hpl=>?_⟩
    refine ⟨pl,_,rfl,.inl ⟨SqL.of upd_same,fun pw hpw=>?_⟩⟩
    dsimp only [gName]
    have s2:=(same_upd (o:=.lst ((cutR t r).map V.str)) hpl).trans (same_upd (o:=.tup ((cutR t r).map V.str)) hpw)
    have hF2:=s2 _ _ hF
    have hps2:=s2 _ _ hps1
    have hW:upd (upd H1 pl (.lst ((cutR t r).map V.str))) pw (.tup ((cutR t r).map V.str)) pw=some (.tup ((kOf (cutR t r)).map kV)):=by rw [upd_same,kOf_kV]
    have sm2:=sm.trans s2
    generalize upd (upd H1 pl (.lst ((cutR t r).map V.str))) pw (.tup ((cutR t r).map V.str))=H2 at hF2 hps2 hW sm2 ⊢
    refine ⟨_,rfl,pf,rfl,.inr ⟨_,.inl hF2⟩,_,rfl,_,DGet.t hF2 hW,?_⟩
    rw [get_kv]
    refine ⟨_,rfl,_,_,rfl,rfl,one_shl (by omega),_,_,rfl,rfl,?_⟩
    dsimp only
    rw [shl_n,bitOr_nat]
    refine ⟨_,rfl,_,rfl,pf,_,rfl,DPut.t hF2 hW (by show (kvOf M).length<sizeLine;rw [show (kvOf M).length=M.length from Qd ..];exact small1000 (by omega)),?_⟩
    rw [put_kv,show putM M (cutR t r) (getM M (cutR t r) ||| 2 ^ t)=vstep (fun s=>cutR s r) M t from rfl,<- evs]
    have sm3:Same H (upd H2 pf (.dT (kvOf (vrun (fun s=>cutR s r) ((insd m).take (i+1)))))):=fun b u e=>by rw [upd_ne (ne_of_none e hpf)];exact sm2 b u e
    refine ⟨_,rfl,pf,_,rfl,upd_same,_,_,rfl,rfl,_,rfl,?_⟩
    rw [show (kvOf (vrun (fun s=>cutR s r) ((insd m).take (i+1)))).length=(vrun (fun s=>cutR s r) ((insd m).take (i+1))).length from Qd ..]
    by_cases h16:16<(vrun (fun s=>cutR s r) ((insd m).take (i+1))).length
    ·rw [Qo (by omega)]
     refine iteT ?_
     have hx:=kx (Nat.lt_of_lt_of_le h16 (vrun_mono _ _ _))
     exact ⟨_,rfl,(by show 1<=sizeLine;decide),fun e tt he _ _=>raise_TooMany (hx.same sm3) e tt he⟩
    ·rw [Qe (by omega)]
     refine iteF ?_
     exact ⟨sm3,by rw [upd_ne nps.symm];exact hps2,by omega,by omega,_,_,upd_same,rfl⟩
   ·rintro σ' H1 ⟨sm,_,_,hle,s4,s5,hF,rfl⟩
    rw [show ((asInts (insd m)).map V.int).length=(insd m).length by simp [asInts],QH] at hle hF
    exact hRR _ _ ⟨sm,hle,s4,s5,hF,rfl⟩
  rintro σ' H1 ⟨sm,hle,s4,s5,hF,rfl⟩
  have vi:VI (fun s=>cutR s r) (insd m) (varsOf r m):=vi_all hpw
  have k:=kq hle
  generalize varsOf r m=M at hF hle vi k
  refine ⟨_,rfl,pf,_,rfl,hF,fun od=>?_⟩
  have sm2:Same H (upd H1 pf (.frz od (.dT (kvOf M)))):=fun b u e=>by rw [upd_ne (ne_of_none e hpf)];exact sm b u e
  have hFz:upd H1 pf (.frz od (.dT (kvOf M))) pf=some (.frz od (.dT (kvOf M))):=upd_same
  generalize upd H1 pf (.frz od (.dT (kvOf M)))=H2 at sm2 hFz
  refine comp_dkey (d:=pf) (od:=od) (kvs:=kvOf M) (fun i ys H'=>Same H2 H'/\i<=16/\∃ ts:List Addr,ys=ts.map V.ref/\ts.length=i/\∀ (j:Nat) (t:Addr) (q:WK),ts[j]?=some t->M[j]?=some q->∃ b,H' t=some (.tup [.int ((q.2:Nat):Int),.ref b])/\H' b=some (.tup (q.1.map V.str)))
   ⟨Same.refl _,Qr _,[],rfl,rfl,fun j t q h=>by simp at h⟩ (fun i ys H' _ hsl85=>by obtain ⟨e,_⟩:=hsl85;exact e _ _ hFz) ?_ ?_
  ·rintro i kv b ys H3 hk ⟨s3,_,ts,rfl,htl,hts⟩ hbt
   have hi:i<M.length:=by
    have:=(Qc hk).1
    simpa [kvOf] using this
   have ekv:kv=(kOf M[i].1,V.int ((M[i].2:Nat):Int)):=by
    rw [kvOf,Qk,Qa hi] at hk
    exact (Ql hk).symm
   subst ekv
   refine tYes_ok ?_
   rw [if_pos rfl]
   have hv:valV (kvOf M) (kOf M[i].1)=some (V.int ((M[i].2:Nat):Int)):=by rw [val_kv,find_at vi.nd (QB hi)];rfl
   refine ⟨_,rfl,_,rfl,pf,_,rfl,.inr ⟨_,_,b,.inr ⟨od,s3 _ _ hFz⟩,rfl,hbt,hv.symm⟩,_,rfl,(by show 2<=sizeLine;decide),fun t ht=>?_⟩
   have s4':=same_upd (o:=.tup [.int ((M[i].2:Nat):Int),.ref b]) ht
   refine ⟨by rw [Qd];exact small1000 (by omega),s3.trans s4',by omega,ts++[t],by simp,by simp [htl],fun j t' q e1 e2=>?_⟩
   by_cases hj:j<ts.length
   ·rw [Qv hj] at e1
    obtain ⟨c,h1,h2⟩:=hts j t' q e1 e2
    exact ⟨c,s4' _ _ h1,s4' _ _ h2⟩
   ·have hjl:=(Qc e1).1
    rw [Qj,QI] at hjl
    have ej:j=i:=by omega
    subst ej
    rw [Qq (by omega),htl,Nat.sub_self] at e1
    have et:t=t':=by simpa using e1
    have eq:M[j]=q:=by rw [Qa hi] at e2;exact Ql e2
    subst et eq
    exact ⟨b,upd_same,s4' _ _ (by rw [<- kOf_kV];exact hbt)⟩
  ·rintro ys H3 ⟨s3,_,ts,rfl,htl,hts⟩ p hp
   have s4':=same_upd (o:=.lst (ts.map V.ref)) hp
   refine k p _ ?_ ((sm2.trans s3).trans s4') ⟨ts,upd_same,by rw [htl];simp [kvOf],fun i t q a b=>?_⟩
   ·cases e:H p with
    | none=>rfl
    | some o=>rw [(sm2.trans s3) _ _ e] at hp;cases hp
   ·obtain ⟨c,h1,h2⟩:=hts i t q a b
    exact ⟨c,s4' _ _ h1,s4' _ _ h2⟩
end
section
variable {P:Program} {w:World} {K:W.Frag} {mg:Str->Option Value} {base:Heap} {AA:Adr} {DD:Fds}
noncomputable def spMade:Sp:=fun vs H Q _=>∃ (z s:Str) (m:Nat) (f:Nat->Bool),vs=[.str z,.str s,.int m]/\(∀ c:Nat,c<128->(Builtin.Str.occurrences s ⟨#[c]⟩ 0 s.length 1).isEmpty=!(f c))/\z.length<=100/\(∀ c∈z.cps.toList,c<128)/\∀ H',Same H H'->Q (.bl (madeOf f z m)) H'
noncomputable abbrev N_ZR:List Str:=["word","signs","most"]
theorem sc_ZR:FnScope N_ZR ["word","signs","most"] (defScope st_ZR):=⟨rfl,rfl,rfl,by decide +kernel,rfl,by decide +kernel,by decide +kernel⟩
theorem ok_madeof (T:All P w K mg AA DD):FnOk P w K mg base CX0 1 AA.ZR DD.ZR ["word","signs","most"] spMade:=by
 refine T.F_ZR.ok sc_ZR (fun vs H Q E h=>?_) (fun cdv A outer s H vs Q E hr h=>?_)
 ·obtain ⟨z,s,m,f,rfl,_⟩:=h
  rfl
 ·obtain ⟨z,s,m,f,rfl,hf,hl,hc,k⟩:=h
  refine ⟨_,(@pss_one _ _ _ (@ps_ret _ _ _ _ (pe_and (@pe_cmpR _ _ _ _ _ _ _ _ op_ne (pv 0) pe_str (nomark _)) (pe_and (@pe_cmpR _ _ _ _ _ _ _ _ op_le (pe_callB call_len_str rfl T.n_len bt_len (@pa_cons _ _ _ _ _ (pv 0) pa_nil (by rfl))) (pv 2) (nomark _)) (pe_one (pe_callB (call_allB rfl) rfl T.n_all bt_all (@pa_cons _ _ _ _ _ (pe_comp (defScope st_ZR) N_ZR ["signs"] [1] rfl (by exact ⟨rfl,rfl,by decide +kernel,rfl,by decide +kernel,by decide +kernel,by decide +kernel,rfl,by decide +kernel⟩) rfl rfl (pi_str (pv 0)) (fun _ _ _ _=>pif_nil) (fun _ _ _ _=>(@pe_cmpR _ _ _ _ _ _ _ _ op_in_str (pv 0) (pv 1) rfl))) pa_nil (by rfl)))))))),?_⟩
  refine ⟨_,rfl,rfl,_,rfl,?_⟩
  unfold madeOf at k
  by_cases h0:z=""
  ·rw [Qo (show V.str z=V.str "" by rw [h0])]
   refine iteF ?_
   have:=k H (Same.refl _)
   rw [Qo h0] at this
   exact this
  rw [Qe (fun e=>h0 (by injection e)),show (!false)=true from rfl]
  refine iteT ?_
  refine ⟨_,rfl,z,rfl,QA hl (by decide),_,rfl,_,_,rfl,rfl,_,rfl,?_⟩
  by_cases h1:z.length<=m
  ·rw [Qo (by omega)]
   refine iteT ?_
   have hca:z.cps.all (·<128)=true:=by
    rw [<- Array.all_toList,List.all_eq_true]
    exact fun c h=>Qo (hc c h)
   refine ⟨_,rfl,z,rfl,hca,?_⟩
   refine comp_N (fun i ys H'=>H'=H/\i<=z.length/\ys=((z.cps.toList.take i).map f).map V.bl) ⟨rfl,Qr _,rfl⟩ ?_ ?_
   ·rintro i ys H1 hi ⟨rfl,_,rfl⟩
    refine tYes_ok ?_
    rw [if_pos rfl]
    have hil:i<z.cps.toList.length:=by rw [<- str_len];exact hi
    have hci:=hc z.cps.toList[i] (QB hil)
    have ech:chAt z i=V.str ⟨#[z.cps.toList[i]]⟩:=by unfold chAt;rw [Qu,Qa hil];rfl
    rw [ech]
    refine ⟨_,rfl,_,rfl,_,_,rfl,rfl,by simp;exact small1000 (by omega),rfl,by omega,?_⟩
    rw [hf _ hci,Bool.not_not,QF hil,QD,QD]
    rfl
   ·rintro ys H1 ⟨rfl,_,rfl⟩ p hp
    refine ⟨p,_,rfl,SqL.of upd_same,?_⟩
    rw [str_len,QH]
    have:=k _ (same_upd (o:=.lst ((z.cps.toList.map f).map V.bl)) hp)
    rw [Qe h0,Qo h1,show (!false&&(true&&z.cps.toList.all f))=z.cps.toList.all f from rfl] at this
    rw [List.all_map]
    exact this
  ·rw [Qe (by omega)]
   refine iteF ?_
   have:=k H (Same.refl _)
   rw [Qe h0,Qe h1] at this
   exact this
noncomputable def spIsName:Sp:=fun vs H Q _=>∃ z:Str,vs=[.str z]/\z.length<=100/\(∀ c∈z.cps.toList,c<128)/\∀ H',Same H H'->Q (.bl (isName z)) H'
theorem inV_strs (z:Str) (l:List Str):inV (.str z) (l.map V.str)=decide (z∈l):=by
 induction l with
 | nil=>rfl
 | cons a r ih =>
  show ((a == z)||inV (.str z) (r.map V.str))=_
  rw [ih]
  by_cases h:a=z
  ·subst h;simp
  ·have:¬ z=a:=fun e=>h e.symm
   simp [h,this]
noncomputable abbrev N_ZS:List Str:=["word"]
theorem sc_ZS:FnScope N_ZS ["word"] (defScope st_ZS):=⟨rfl,rfl,rfl,by decide +kernel,rfl,by decide +kernel,by decide +kernel⟩
theorem ok_isname (T:All P w K mg AA DD):FnOk P w K mg base CX0 2 AA.ZS DD.ZS ["word"] spIsName:=by
 have GM:=ok_madeof (base:=base) T
 refine T.F_ZS.ok sc_ZS (fun vs H Q E h=>?_) (fun cdv A outer s H vs Q E hr h=>?_)
 ·obtain ⟨z,rfl,_⟩:=h
  rfl
 ·obtain ⟨z,rfl,hl,hc,k⟩:=h
  have hr1:Room 1 _:=hr
  obtain ⟨t1,hSMALL_LETTERS⟩:=T.v_SMALL_LETTERS
  obtain ⟨t2,hLONGEST_NAME⟩:=T.v_LONGEST_NAME
  refine ⟨_,(@pss_one _ _ _ (@ps_ret _ _ _ _ (pe_and (pe_call GM hr1 rfl T.m_ZR T.k_ZR T.b_ZR .nil pass0 (@pa_cons _ _ _ _ _ (pv 0) (@pa_cons _ _ _ _ _ (pe_glob (v:=.str "abcdefghijklmnopqrstuvwxyz") rfl hSMALL_LETTERS ⟨_,rfl⟩) (@pa_cons _ _ _ _ _ (pe_glob (v:=.int 8) rfl hLONGEST_NAME ⟨_,rfl⟩) pa_nil (by rfl)) (by rfl)) (by rfl))) (pe_one (@pe_cmpR _ _ _ _ _ _ _ _ (op_notIn_seqK (K:=K) rfl) (pv 0) (pe_glob (v:=.ref AA.q_LANGUAGE_WORDS) rfl T.m_LANGUAGE_WORDS rfl) rfl))))),?_⟩
  refine ⟨_,rfl,z,_,8,isLo,rfl,occLo,hl,hc,fun H1 s1=>?_⟩
  refine ⟨_,rfl,?_⟩
  have k:=k H1 s1
  unfold isName at k
  cases hm:madeOf isLo z 8 with
  | false=>rw [hm] at k;exact iteF k
  | true =>
   rw [hm] at k
   refine iteT ?_
   refine ⟨_,rfl,AA.q_LANGUAGE_WORDS,lws.map V.str,rfl,.inr (T.Q_LANGUAGE_WORDS H1),rfl,rfl,?_⟩
   rw [inV_strs]
   exact k
noncomputable def spIsNum:Sp:=fun vs H Q _=>∃ z:Str,vs=[.str z]/\z.length<=100/\(∀ c∈z.cps.toList,c<128)/\∀ H',Same H H'->Q (.bl (isNum z)) H'
noncomputable abbrev N_ZC:List Str:=["word"]
theorem sc_ZC:FnScope N_ZC ["word"] (defScope st_ZC):=⟨rfl,rfl,rfl,by decide +kernel,rfl,by decide +kernel,by decide +kernel⟩
theorem ok_isnum (T:All P w K mg AA DD):FnOk P w K mg base CX0 2 AA.ZC DD.ZC ["word"] spIsNum:=by
 have GM:=ok_madeof (base:=base) T
 refine T.F_ZC.ok sc_ZC (fun vs H Q E h=>?_) (fun cdv A outer s H vs Q E hr h=>?_)
 ·obtain ⟨z,rfl,_⟩:=h
  rfl
 ·obtain ⟨z,rfl,hl,hc,k⟩:=h
  have hr1:Room 1 _:=hr
  obtain ⟨t1,hFIGURES⟩:=T.v_FIGURES
  obtain ⟨t2,hLONGEST_NUMBER⟩:=T.v_LONGEST_NUMBER
  refine ⟨_,(@pss_one _ _ _ (@ps_ret _ _ _ _ (pe_or (@pe_cmpR _ _ _ _ _ _ _ _ op_eq (pv 0) pe_str (nomark _)) (pe_one (pe_and (pe_call GM hr1 rfl T.m_ZR T.k_ZR T.b_ZR .nil pass0 (@pa_cons _ _ _ _ _ (pv 0) (@pa_cons _ _ _ _ _ (pe_glob (v:=.str "0123456789") rfl hFIGURES ⟨_,rfl⟩) (@pa_cons _ _ _ _ _ (pe_glob (v:=.int 18) rfl hLONGEST_NUMBER ⟨_,rfl⟩) pa_nil (by rfl)) (by rfl)) (by rfl))) (pe_one (@pe_cmpR _ _ _ _ _ _ _ _ op_ne (@pe_ix _ _ _ _ _ _ _ ix_str (pv 0) pe_int (fun _ _=>rfl)) pe_str (nomark _)))))))),?_⟩
  unfold isNum at k
  refine ⟨_,rfl,rfl,_,rfl,?_⟩
  by_cases h0:z="0"
  ·rw [Qo (show V.str z=V.str "0" by rw [h0])]
   refine iteT ?_
   have:=k H (Same.refl _)
   rw [Qo h0] at this
   exact this
  rw [Qe (fun e=>h0 (by injection e))]
  refine iteF ?_
  refine ⟨_,rfl,z,_,18,isFig,rfl,occFig,hl,hc,fun H1 s1=>?_⟩
  refine ⟨_,rfl,?_⟩
  have k:=k H1 s1
  rw [Qe h0,Bool.false_or] at k
  cases hm:madeOf isFig z 18 with
  | false=>rw [hm] at k;exact iteF k
  | true =>
   rw [hm] at k
   refine iteT ?_
   have hz:0<z.cps.toList.length:=by
    rw [<- str_len]
    unfold madeOf at hm
    refine Nat.pos_of_ne_zero fun e=>?_
    have hz0:z="":=by
     have e1:z.cps.toList=[]:=List.eq_nil_of_length_eq_zero (by rw [<- str_len];exact e)
     obtain ⟨a⟩:=z
     have:a=#[]:=Array.toList_eq_nil_iff.mp e1
     rw [this]
     decide +kernel
    rw [Qo hz0] at hm
    cases hm
   refine ⟨_,rfl,z,_,z.cps.toList[0],rfl,rfl,QA hl (by decide),atI_nat (j:=0) (Qa hz),rfl,?_⟩
   rw [Qu,Qa hz] at k
   have e1:decide (V.str ⟨#[z.cps.toList[0]]⟩=V.str "0")=decide (z.cps.toList[0]=48):=by
    rw [dec_str]
    refine decide_eq_decide.mpr ⟨fun h=>?_,fun h=>by rw [h];decide +kernel⟩
    have:=congrArg (fun s:Str=>s.cps.toList) h
    have e2:("0":Str).cps.toList=[48]:=by decide +kernel
    rw [e2] at this
    simpa using this
   rw [e1]
   exact k
noncomputable def phF (wa:Addr) (x:V) (i:Nat):List (Str × V):=[("words",.ref wa),("at",x),("place",.int ((i:Nat):Int))]
structure Ph (C:Addr) (H:Hp) (o dx wa:Addr) (ws:List Str) (x:V) (i:Nat):Prop where
 ins:H o=some (.ins C dx (phF wa x i))
 wds:H wa=some (.tup (ws.map V.str))
 ok:WsOk ws
 le:i<=ws.length
 few:ws.length<=900
theorem Ph.ne {C:Addr} {H:Hp} {o dx wa:Addr} {ws:List Str} {x:V} {i:Nat} (h:Ph C H o dx wa ws x i):wa≠o:=fun e=>by
 have a:=h.wds
 rw [e,h.ins] at a
 cases a
theorem Ph.step {C:Addr} {H:Hp} {o dx wa:Addr} {ws:List Str} {x:V} {i:Nat} (h:Ph C H o dx wa ws x i) {j:Nat} (hj:j<=ws.length):Ph C (upd H o (.ins C dx (phF wa x j))) o dx wa ws x j :=
 ⟨upd_same,by rw [upd_ne h.ne];exact h.wds,h.ok,hj,h.few⟩
theorem Ph.same {C:Addr} {H H':Hp} {o dx wa:Addr} {ws:List Str} {x:V} {i:Nat} (h:Ph C H o dx wa ws x i) (s:Same H H'):Ph C H' o dx wa ws x i :=
 ⟨s _ _ h.ins,s _ _ h.wds,h.ok,h.le,h.few⟩
noncomputable def spPInit (C:Addr):Sp:=fun vs H Q _=>∃ (o dx wa:Addr) (x:V),vs=[.ref o,.ref wa,x]/\H o=some (.ins C dx [])/\Q .non (upd (upd (upd H o (.ins C dx [("words",.ref wa)])) o (.ins C dx [("words",.ref wa),("at",x)])) o (.ins C dx (phF wa x 0)))
noncomputable abbrev N_Zu:List Str:=["self","words","at"]
theorem sc_Zu:FnScope N_Zu ["self","words","at"] (defScope st_Zu):=⟨rfl,rfl,rfl,by decide +kernel,rfl,by decide +kernel,by decide +kernel⟩
theorem ok_pinit (T:All P w K mg AA DD):FnOk P w K mg base CX0 1 AA.Zu DD.Zu ["self","words","at"] (spPInit AA.c_Phrase):=by
 refine T.F_Zu.ok sc_Zu (fun vs H Q E h=>?_) (fun cdv A outer s H vs Q E hr h=>?_)
 ·obtain ⟨o,dx,wa,x,rfl,_⟩:=h
  rfl
 ·obtain ⟨o,dx,wa,x,rfl,ho,k⟩:=h
  refine ⟨_,(@pss_cons _ _ _ _ _ (ps_fld (pv 0) (pv 1) rfl) (@pss_cons _ _ _ _ _ (ps_fld (pv 0) (pv 2) rfl) (@pss_one _ _ _ (ps_fld (pv 0) pe_int rfl)))),?_⟩
  refine ⟨_,rfl,_,rfl,o,AA.c_Phrase,dx,_,rfl,ho,T.cl_Phrase,T.na_Phrase_words,(by show 0<1000;decide),?_⟩
  refine ⟨_,rfl,_,rfl,o,AA.c_Phrase,dx,_,rfl,upd_same,T.cl_Phrase,T.na_Phrase_at,(by show 1<1000;decide),?_⟩
  exact ⟨_,rfl,o,AA.c_Phrase,dx,_,rfl,upd_same,T.cl_Phrase,T.na_Phrase_place,(by show 2<1000;decide),k⟩
noncomputable def spEnded (C:Addr):Sp:=fun vs H Q _=>∃ (o dx wa:Addr) (ws:List Str) (x:V) (i:Nat),vs=[.ref o]/\Ph C H o dx wa ws x i/\Q (.bl (decide (i=ws.length))) H
theorem dec_nat (a b:Nat):decide (V.int (a:Int)=V.int (b:Int))=decide (a=b):=decide_eq_decide.mpr ⟨fun h=>by injection h with h;omega,fun h=>by rw [h]⟩
noncomputable abbrev N_Zm:List Str:=["self"]
theorem sc_Zm:FnScope N_Zm ["self"] (defScope st_Zm):=⟨rfl,rfl,rfl,by decide +kernel,rfl,by decide +kernel,by decide +kernel⟩
theorem ok_ended (T:All P w K mg AA DD):FnOk P w K mg base CX0 1 AA.Zm DD.Zm ["self"] (spEnded AA.c_Phrase):=by
 refine T.F_Zm.ok sc_Zm (fun vs H Q E h=>?_) (fun cdv A outer s H vs Q E hr h=>?_)
 ·obtain ⟨o,dx,wa,ws,x,i,rfl,_⟩:=h
  rfl
 ·obtain ⟨o,dx,wa,ws,x,i,rfl,h,k⟩:=h
  refine ⟨_,(@pss_one _ _ _ (@ps_ret _ _ _ _ (@pe_cmpR _ _ _ _ _ _ _ _ op_eq (pe_fld (pv 0) rfl) (pe_callB call_len_seq rfl T.n_len bt_len (@pa_cons _ _ _ _ _ (pe_fld (pv 0) rfl) pa_nil (by rfl))) (nomark _)))),?_⟩
  refine ⟨_,rfl,o,AA.c_Phrase,dx,_,_,rfl,h.ins,T.cl_Phrase,T.na_Phrase_place,rfl,_,rfl,o,AA.c_Phrase,dx,_,_,rfl,h.ins,T.cl_Phrase,T.na_Phrase_words,rfl,wa,_,rfl,.inr (SqT.of h.wds),rfl,?_⟩
  rw [Qd,dec_nat]
  exact k
noncomputable def spTake (C:Addr):Sp:=fun vs H Q _=>∃ (o dx wa:Addr) (ws:List Str) (x:V) (i:Nat) (z:Str),vs=[.ref o]/\Ph C H o dx wa ws x i/\ws[i]?=some z/\Q (.str z) (upd H o (.ins C dx (phF wa x (i+1))))
noncomputable abbrev N_Zv:List Str:=["self","word"]
theorem sc_Zv:FnScope N_Zv ["self"] (defScope st_Zv):=⟨rfl,rfl,rfl,by decide +kernel,rfl,by decide +kernel,by decide +kernel⟩
theorem ok_take (T:All P w K mg AA DD):FnOk P w K mg base CX0 2 AA.Zv DD.Zv ["self"] (spTake AA.c_Phrase):=by
 have GE:=ok_ended (base:=base) T
 refine T.F_Zv.ok sc_Zv (fun vs H Q E h=>?_) (fun cdv A outer s H vs Q E hr h=>?_)
 ·obtain ⟨o,dx,wa,ws,x,i,z,rfl,_⟩:=h
  rfl
 ·obtain ⟨o,dx,wa,ws,x,i,z,rfl,h,hz,kq⟩:=h
  have nd:=sc_Zv.nd
  have hr1:Room 1 _:=hr
  refine ⟨_,(@pss_cons _ _ _ _ _ (@ps_if _ _ _ _ _ _ _ _ (pt_val (pe_meth0 (pv 0) T.cl_Phrase T.M_Zm GE hr1 T.b_Zm .nil pass0)) pss_never pss_nil) (@pss_cons _ _ _ _ _ (@ps_set _ _ 1 _ _ _ _ nd rfl (Or.inl rfl) (@pe_ix _ _ _ _ _ _ _ (ix_tupK (K:=K) rfl) (pe_fld (pv 0) rfl) (pe_fld (pv 0) rfl) (fun _ _=>rfl)) (by rfl) (by first | exact .inl rfl | exact .inr rfl | assumption)) (@pss_cons _ _ _ _ _ (ps_fld (pv 0) (@pe_op _ _ _ _ _ _ _ _ op_add (pe_fld (pv 0) rfl) pe_int) rfl) (@pss_one _ _ _ (@ps_ret _ _ _ _ (pv 1)))))),?_⟩
  refine ⟨_,rfl,o,dx,_,rfl,h.ins,rfl,o,dx,wa,ws,x,i,rfl,h,_,rfl,?_⟩
  have hi:=(Qc hz).1
  rw [Qe (show ¬ i=ws.length by omega)]
  refine iteF ?_
  refine ⟨_,rfl,o,AA.c_Phrase,dx,_,_,rfl,h.ins,T.cl_Phrase,T.na_Phrase_words,rfl,_,rfl,o,AA.c_Phrase,dx,_,_,rfl,h.ins,T.cl_Phrase,T.na_Phrase_place,rfl,wa,_,_,_,rfl,rfl,SqT.of h.wds,atI_nat (by rw [Qk,hz];rfl),?_⟩
  refine ⟨_,rfl,o,AA.c_Phrase,dx,_,_,rfl,h.ins,T.cl_Phrase,T.na_Phrase_place,rfl,_,_,rfl,rfl,_,rfl,o,AA.c_Phrase,dx,_,rfl,h.ins,T.cl_Phrase,T.na_Phrase_place,(by show 3<1000;decide),?_⟩
  exact ⟨_,rfl,kq⟩
noncomputable def spTN (C:Addr):Sp:=fun vs H Q _=>∃ (o dx wa:Addr) (ws:List Str) (x:V) (i:Nat) (z:Str),vs=[.ref o]/\Ph C H o dx wa ws x i/\ws[i]?=some z/\isName z=true/\∀ H',ButO o H H'->Ph C H' o dx wa ws x (i+1)->Q (.str z) H'
noncomputable abbrev N_Zc:List Str:=["self","word"]
theorem sc_Zc:FnScope N_Zc ["self"] (defScope st_Zc):=⟨rfl,rfl,rfl,by decide +kernel,rfl,by decide +kernel,by decide +kernel⟩
theorem ok_takename (T:All P w K mg AA DD):FnOk P w K mg base CX0 3 AA.Zc DD.Zc ["self"] (spTN AA.c_Phrase):=by
 have GT:=ok_take (base:=base) T
 have GN:=ok_isname (base:=base) T
 refine T.F_Zc.ok sc_Zc (fun vs H Q E h=>?_) (fun cdv A outer s H vs Q E hr h=>?_)
 ·obtain ⟨o,dx,wa,ws,x,i,z,rfl,_⟩:=h
  rfl
 ·obtain ⟨o,dx,wa,ws,x,i,z,rfl,h,hz,hm,kq⟩:=h
  have nd:=sc_Zc.nd
  have hr2:Room 2 _:=hr
  refine ⟨_,(@pss_cons _ _ _ _ _ (@ps_set _ _ 1 _ _ _ _ nd rfl (Or.inl rfl) (pe_meth0 (pv 0) T.cl_Phrase T.M_Zv GT hr2 T.b_Zv .nil pass0) (by rfl) (by first | exact .inl rfl | exact .inr rfl | assumption)) (@pss_cons _ _ _ _ _ (@ps_if _ _ _ _ _ _ _ _ (pt_not (pt_val (pe_call GN hr2 rfl T.m_ZS T.k_ZS T.b_ZS .nil pass0 (@pa_cons _ _ _ _ _ (pv 1) pa_nil (by rfl))))) pss_never pss_nil) (@pss_one _ _ _ (@ps_ret _ _ _ _ (pv 1))))),?_⟩
  refine ⟨_,rfl,o,dx,_,rfl,h.ins,rfl,o,dx,wa,ws,x,i,z,rfl,h,hz,?_⟩
  have hi:=(Qc hz).1
  have hs:=h.step (j:=i+1) hi
  obtain ⟨h100,h128⟩:=h.ok z (Qz hz)
  have hb:=ButO.upd o H (.ins AA.c_Phrase dx (phF wa x (i+1)))
  dsimp only [gName]
  refine ⟨_,rfl,z,rfl,h100,h128,fun H1 s1=>⟨_,rfl,?_⟩⟩
  rw [hm]
  refine iteF ?_
  exact ⟨_,rfl,kq _ (hb.trans s1.but) (hs.same s1)⟩
noncomputable def Lf (z:Str):Prop:=isNum z=true∨(isNum z=false/\z∉(["yes","no"]:List Str)/\isName z=true)
noncomputable def spLf (C:Addr):Sp:=fun vs H Q _=>∃ (o dx wa:Addr) (ws:List Str) (x:V) (i:Nat) (z:Str) (d:Nat),vs=[.ref o,.int (((d+1:Nat)):Int)]/\Ph C H o dx wa ws x i/\ws[i]?=some z/\Lf z/\∀ t xs H',ButO o H H'->Ph C H' o dx wa ws x (i+1)->H' t=some (.tup xs)->Q (.ref t) H'
theorem num_val {z:Str} (h:isNum z=true):PySem.intText? z=some (numV z):=by
 have hd:PySem.NumText.AllDigits z.cps.toList/\z.cps.toList≠[]/\z.length<=18:=by
  unfold isNum at h
  by_cases h0:z="0"
  ·subst h0
   have e:("0":Str).cps.toList=[48]:=by decide +kernel
   refine ⟨fun c hc=>?_,by rw [e];simp,by decide +kernel⟩
   rw [e] at hc
   have:c=48:=by simpa using hc
   omega
  ·rw [Qe h0,Bool.false_or,Bool.and_eq_true] at h
   have h:=h.1
   unfold madeOf at h
   rw [Bool.and_eq_true,Bool.and_eq_true,List.all_eq_true] at h
   obtain ⟨a,b,c⟩:=h
   refine ⟨fun d hd=>of_decide_eq_true (c d hd),fun e=>?_,of_decide_eq_true b⟩
   obtain ⟨arr⟩:=z
   have:arr=#[]:=Array.toList_eq_nil_iff.mp e
   subst this
   revert a
   decide +kernel
 have e:=PySem.intText_digits hd.1 hd.2.1 (QA hd.2.2 (by decide))
 rw [numV,e]
 rfl
noncomputable abbrev N_Zd:List Str:=["self","deep","word","left"]
theorem sc_Zd:FnScope N_Zd ["self","deep"] (defScope st_Zd):=⟨rfl,rfl,rfl,by decide +kernel,rfl,by decide +kernel,by decide +kernel⟩
theorem ok_leaf (T:All P w K mg AA DD):FnOk P w K mg base CX0 3 AA.Zd DD.Zd ["self","deep"] (spLf AA.c_Phrase):=by
 have GT:=ok_take (base:=base) T
 have GB:=ok_isnum (base:=base) T
 have GN:=ok_isname (base:=base) T
 refine T.F_Zd.ok sc_Zd (fun vs H Q E h=>?_) (fun cdv A outer s H vs Q E hr h=>?_)
 ·obtain ⟨o,dx,wa,ws,x,i,z,d,rfl,_⟩:=h
  rfl
 ·obtain ⟨o,dx,wa,ws,x,i,z,d,rfl,h,hz,hlf,kq⟩:=h
  have nd:=sc_Zd.nd
  have hr2:Room 2 _:=hr
  refine ⟨_,(@pss_cons _ _ _ _ _ (@ps_if _ _ _ _ _ _ _ _ (@pt_cmpR _ _ _ _ _ _ _ _ op_eq (pv 1) pe_int (nomark _)) pss_never pss_nil) (@pss_cons _ _ _ _ _ (@ps_set _ _ 2 _ _ _ _ nd rfl (Or.inl rfl) (pe_meth0 (pv 0) T.cl_Phrase T.M_Zv GT hr2 T.b_Zv .nil pass0) (by rfl) (by first | exact .inl rfl | exact .inr rfl | assumption)) (@pss_cons _ _ _ _ _ (@ps_if _ _ _ _ _ _ _ _ (pt_val (pe_call GB hr2 rfl T.m_ZC T.k_ZC T.b_ZC .nil pass0 (@pa_cons _ _ _ _ _ (pv 2) pa_nil (by rfl)))) (@pss_one _ _ _ (@ps_ret _ _ _ _ (@pe_tup _ _ _ _ _ (@pa_cons _ _ _ _ _ pe_str (@pa_cons _ _ _ _ _ (pe_callTy call_intS rfl T.n_int bt_int (@pa_cons _ _ _ _ _ (pv 2) pa_nil (by rfl))) pa_nil (by rfl)) (by rfl))))) pss_nil) (@pss_cons _ _ _ _ _ (@ps_if _ _ _ _ _ _ _ _ (@pt_cmpR _ _ _ _ _ _ _ _ (op_in_seqK (K:=K) rfl) (pv 2) (@pe_tup _ _ _ _ _ (@pa_cons _ _ _ _ _ pe_str (@pa_cons _ _ _ _ _ pe_str pa_nil (by rfl)) (by rfl))) rfl) (@pss_one _ _ _ (@ps_ret _ _ _ _ (@pe_tup _ _ _ _ _ (@pa_cons _ _ _ _ _ pe_str (@pa_cons _ _ _ _ _ (pv 2) pa_nil (by rfl)) (by rfl))))) pss_nil) (@pss_cons _ _ _ _ _ (@ps_if _ _ _ _ _ _ _ _ (pt_val (pe_call GN hr2 rfl T.m_ZS T.k_ZS T.b_ZS .nil pass0 (@pa_cons _ _ _ _ _ (pv 2) pa_nil (by rfl)))) (@pss_one _ _ _ (@ps_ret _ _ _ _ (@pe_tup _ _ _ _ _ (@pa_cons _ _ _ _ _ pe_str (@pa_cons _ _ _ _ _ (pv 2) pa_nil (by rfl)) (by rfl))))) pss_nil) pss_never))))),?_⟩
  refine ⟨_,rfl,rfl,_,rfl,?_⟩
  rw [Qe (fun e=>by injection e with e;omega)]
  refine iteF ?_
  refine ⟨_,rfl,o,dx,_,rfl,h.ins,rfl,o,dx,wa,ws,x,i,z,rfl,h,hz,?_⟩
  have hi:=(Qc hz).1
  have h1:=h.step (j:=i+1) hi
  obtain ⟨h100,h128⟩:=h.ok z (Qz hz)
  have b1:=ButO.upd o H (.ins AA.c_Phrase dx (phF wa x (i+1)))
  dsimp only [gName]
  generalize upd H o (.ins AA.c_Phrase dx (phF wa x (i+1)))=H1 at h1 b1 ⊢
  refine ⟨_,rfl,z,rfl,h100,h128,fun H2 s2=>⟨_,rfl,?_⟩⟩
  have h2:=h1.same s2
  have b2:=b1.trans s2.but
  rcases hlf with hm | ⟨hm,hy,hn⟩
  ·rw [hm]
   refine iteT ?_
   refine ⟨_,rfl,z,_,rfl,num_val hm,by omega,(by show 2<=sizeLine;decide),fun pr hpr=>?_⟩
   have s3:=same_upd (o:=.tup [.str "num",.int (numV z)]) hpr
   exact kq _ _ _ (b2.trans s3.but) (h2.same s3) upd_same
  ·rw [hm]
   refine iteF ?_
   refine ⟨_,rfl,(by show 2<=sizeLine;decide),fun pt hpt=>⟨pt,(["yes","no"]:List Str).map V.str,rfl,.inr (SqT.of upd_same),rfl,rfl,_,rfl,?_⟩⟩
   have s3:=same_upd (o:=.tup [.str "yes",.str "no"]) hpt
   have h3:=h2.same s3
   have b3:=b2.trans s3.but
   generalize upd H2 pt (.tup [.str "yes",.str "no"])=H3 at s3 h3 b3 ⊢
   rw [show (if false=true then !inV (V.str z) ((["yes","no"]:List Str).map V.str) else inV (V.str z) ((["yes","no"]:List Str).map V.str))=decide (z∈(["yes","no"]:List Str)) from inV_strs _ _]
   rw [Qe hy]
   refine iteF ?_
   refine ⟨_,rfl,z,rfl,h100,h128,fun H4 s4=>⟨_,rfl,?_⟩⟩
   rw [hn]
   refine iteT ?_
   refine ⟨_,rfl,(by show 2<=sizeLine;decide),fun pr hpr=>?_⟩
   have s5:=same_upd (o:=.tup [.str "name",.str z]) hpr
   exact kq _ _ _ ((b3.trans s4.but).trans s5.but) ((h3.same s4).same s5) upd_same
end
section
variable {P:Program} {w:World} {K:W.Frag} {mg:Str->Option Value} {base:Heap} {AA:Adr} {DD:Fds}
noncomputable def spMn (C:Addr):Sp:=fun vs H Q _=>∃ (o dx wa:Addr) (ws:List Str) (x:V) (i m d:Nat),vs=[.ref o,.int (((d+1:Nat)):Int)]/\Ph C H o dx wa ws x i/\i<=m/\ws[m]?=some (".":Str)/\(∀ (j:Nat) (z:Str),i<=j->j<m->ws[j]?=some z->Lf z/\z≠".") /\
 ∀ t xs H',ButO o H H'->Ph C H' o dx wa ws x (m+1)->H' t=some (.tup xs)->Q (.ref t) H'
noncomputable abbrev N_Zb:List Str:=["self","deep","found"]
theorem sc_Zb:FnScope N_Zb ["self","deep"] (defScope st_Zb):=⟨rfl,rfl,rfl,by decide +kernel,rfl,by decide +kernel,by decide +kernel⟩
theorem ok_exprs (T:All P w K mg AA DD):FnOk P w K mg base CX0 4 AA.Zb DD.Zb ["self","deep"] (spMn AA.c_Phrase):=by
 have GT:=ok_take (base:=base) T
 have GE:=ok_ended (base:=base) T
 have GX:=ok_leaf (base:=base) T
 refine T.F_Zb.ok sc_Zb (fun vs H Q E h=>?_) (fun cdv A outer s H vs Q E hr h=>?_)
 ·obtain ⟨o,dx,wa,ws,x,i,m,d,rfl,_⟩:=h
  rfl
 ·obtain ⟨o,dx,wa,ws,x,i,m,d,rfl,h,him,hm,hlf,kq⟩:=h
  have nd:=sc_Zb.nd
  have hr1:Room 1 _:=hr.mono (by decide)
  have hr2:Room 2 _:=hr.mono (by decide)
  have hr3:Room 3 _:=hr
  refine ⟨_,(@pss_cons _ _ _ _ _ (@ps_set _ _ 2 _ _ _ _ nd rfl (Or.inl rfl) (@pe_lst _ _ _ _ pa_nil) (by rfl) (by first | exact .inl rfl | exact .inr rfl | assumption)) (@pss_cons _ _ _ _ _ (@ps_while _ _ _ _ _ _ PassesOwn.never (PW.pt (pw_or (pt_val (pe_meth0 (pv 0) T.cl_Phrase T.M_Zm GE hr1 T.b_Zm .nil pass0)) (pw_or1 (@pt_cmpR _ _ _ _ _ _ _ _ op_ne (@pe_ix _ _ _ _ _ _ _ (ix_tupK (K:=K) rfl) (pe_fld (pv 0) rfl) (pe_fld (pv 0) rfl) (fun _ _=>rfl)) pe_str (nomark _))))) (@pss_one _ _ _ (@ps_expr _ _ _ _ (pe_bm PySem.F.plainAttrs_list PySem.F.slot_list_append PySem.F.type_list_append mt_append (pv 2) (@pa_cons _ _ _ _ _ (pe_meth (pv 0) T.cl_Phrase T.M_Zd GX hr3 T.b_Zd .nil pass0 (@pa_cons _ _ _ _ _ (pv 1) pa_nil (by rfl))) pa_nil (by rfl))) (by rfl)))) (@pss_cons _ _ _ _ _ (@ps_expr _ _ _ _ (pe_meth0 (pv 0) T.cl_Phrase T.M_Zv GT hr2 T.b_Zv .nil pass0) (by rfl)) (@pss_one _ _ _ (@ps_ret _ _ _ _ (pe_callTy call_tuple_of rfl T.n_tuple bt_tuple (@pa_cons _ _ _ _ _ (pv 2) pa_nil (by rfl)))))))),?_⟩
  refine ⟨Qr _,fun pf hpf=>?_⟩
  have npo:pf≠o:=fun e=>by rw [e,h.ins] at hpf;cases hpf
  have npw:pf≠wa:=fun e=>by rw [e,h.wds] at hpf;cases hpf
  have hml:=(Qc hm).1
  dsimp only [gName]
  refine cut_while (fun σ' H'=>∃ vs:List V,σ'=[some (.ref o),some (.int (((d+1:Nat)):Int)),some (.ref pf)]/\ButO o H H'/\Ph AA.c_Phrase H' o dx wa ws x m/\H' pf=some (.lst vs)) (fun R hRR=>?_) ?_
  ·refine ⟨fun k σ' H'=>∃ (j:Nat) (vs:List V),k=m-j/\i<=j/\j<=m/\σ'=[some (.ref o),some (.int (((d+1:Nat)):Int)),some (.ref pf)]/\ButO o H H'/\Ph AA.c_Phrase H' o dx wa ws x j/\H' pf=some (.lst vs)/\vs.length<=j,⟨_,i,[],rfl,Qh _,him,rfl,(same_upd hpf).but,h.same (same_upd hpf),upd_same,Qr _⟩,?_⟩
   rintro k σ' H1 ⟨j,vs,rfl,hij,hjm,rfl,hb,h1,hp1,hvl⟩
   have hjl:j<ws.length:=by omega
   have h900:=h1.few
   refine ⟨_,rfl,o,dx,_,rfl,h1.ins,rfl,o,dx,wa,ws,x,j,rfl,h1,_,rfl,?_⟩
   rw [Qe (show ¬ j=ws.length by omega)]
   refine iteF ?_
   refine ⟨_,rfl,o,AA.c_Phrase,dx,_,_,rfl,h1.ins,T.cl_Phrase,T.na_Phrase_words,rfl,_,rfl,o,AA.c_Phrase,dx,_,_,rfl,h1.ins,T.cl_Phrase,T.na_Phrase_place,rfl,wa,_,_,_,rfl,rfl,SqT.of h1.wds,atI_nat (by rw [Qk,Qa hjl];rfl),rfl,_,rfl,?_⟩
   rw [dec_str]
   by_cases hd:j=m
   ·subst hd
    have ed:ws[j]=".":=by rw [Qa hjl] at hm;exact Ql hm
    rw [Qo ed]
    refine iteF ?_
    exact hRR _ _ ⟨vs,rfl,hb,h1,hp1⟩
   ·obtain ⟨hl,hne⟩:=hlf j ws[j] hij (by omega) (Qa hjl)
    rw [Qe hne]
    refine iteT ?_
    refine ⟨_,fun _ _ h=>h,?_⟩
    refine ⟨_,rfl,.inl ⟨rfl,_,SqL.of hp1⟩,_,rfl,o,dx,_,rfl,h1.ins,rfl,_,rfl,o,dx,wa,ws,x,j,ws[j],d,rfl,h1,Qa hjl,hl,fun t xs H2 hb2 h2 ht=>?_⟩
    have hp2:=hb2 _ _ hp1 npo
    refine ⟨pf,_,_,rfl,rfl,hp2,small1000 (by omega),m-(j+1),by omega,j+1,vs++[.ref t],rfl,by omega,by omega,rfl,fun b u eb nb=>?_,⟨?_,?_,h2.ok,h2.le,h2.few⟩,upd_same,by simp;omega⟩
    ·rw [upd_ne (fun z=>by rw [z,hpf] at eb;cases eb)]
     exact hb2 _ _ (hb _ _ eb nb) nb
    ·rw [upd_ne (Ne.symm npo)];exact h2.ins
    ·rw [upd_ne (Ne.symm npw)];exact h2.wds
  rintro σ' H1 ⟨vs,rfl,hb,h1,hp1⟩
  have nd1:ButO o H1 (upd H1 o (.ins AA.c_Phrase dx (phF wa x (m+1)))):=ButO.upd _ _ _
  refine ⟨_,rfl,o,dx,_,rfl,h1.ins,rfl,o,dx,wa,ws,x,m,".",rfl,h1,hm,?_⟩
  have h2:=h1.step (j:=m+1) hml
  have hp2:=nd1 _ _ hp1 npo
  refine ⟨_,rfl,pf,_,rfl,.inl ⟨SqL.of hp2,fun pt hpt=>?_⟩⟩
  have s3:=same_upd (o:=.tup vs) hpt
  exact kq pt vs _ ((hb.trans nd1).trans s3.but) (h2.same s3) upd_same
structure DoAt (ws:List Str) (i m:Nat):Prop where
 nm:∃ n,ws[i]?=some n/\isName n=true
 le:i+1<=m
 pt:ws[m]?=some (".":Str)
 lf:∀ (j:Nat) (z:Str),i+1<=j->j<m->ws[j]?=some z->Lf z/\z≠"."
theorem less1 (k:Nat) (o:Addr):[V.ref o,V.int ((((k+1:Nat)):Int)-1)]=[V.ref o,V.int ((k:Nat):Int)]:=by rw [show ((((k+1:Nat)):Int)-1)=((k:Nat):Int) by omega]
noncomputable def spNd (C:Addr):Sp:=fun vs H Q _=>∃ (o dx wa:Addr) (ws:List Str) (x:V) (i m d:Nat),vs=[.ref o,.str "do",.int (((d+2:Nat)):Int)]/\Ph C H o dx wa ws x i/\DoAt ws i m /\
 ∀ t xs H',ButO o H H'->Ph C H' o dx wa ws x (m+1)->H' t=some (.tup xs)->Q (.ref t) H'
noncomputable abbrev N_Za:List Str:=["self","word","deep","name"]
theorem sc_Za:FnScope N_Za ["self","word","deep"] (defScope st_Za):=⟨rfl,rfl,rfl,by decide +kernel,rfl,by decide +kernel,by decide +kernel⟩
theorem ok_named (T:All P w K mg AA DD):FnOk P w K mg base CX0 5 AA.Za DD.Za ["self","word","deep"] (spNd AA.c_Phrase):=by
 have GA:=ok_takename (base:=base) T
 have GS:=ok_exprs (base:=base) T
 refine T.F_Za.ok sc_Za (fun vs H Q E h=>?_) (fun cdv A outer s H vs Q E hr h=>?_)
 ·obtain ⟨o,dx,wa,ws,x,i,m,d,rfl,_⟩:=h
  rfl
 ·obtain ⟨o,dx,wa,ws,x,i,m,d,rfl,h,⟨⟨n,hn,hnm⟩,hle,hpo,hlf⟩,kq⟩:=h
  have nd:=sc_Za.nd
  have hr3:Room 3 _:=hr.mono (by decide)
  have hr4:Room 4 _:=hr
  refine ⟨_,(@pss_cons _ _ _ _ _ (@ps_if _ _ _ _ _ _ _ _ (@pt_cmpR _ _ _ _ _ _ _ _ (op_notIn_seqK (K:=K) rfl) (pv 1) (@pe_tup _ _ _ _ _ (@pa_cons _ _ _ _ _ pe_str (@pa_cons _ _ _ _ _ pe_str (@pa_cons _ _ _ _ _ pe_str pa_nil (by rfl)) (by rfl)) (by rfl))) rfl) pss_never pss_nil) (@pss_cons _ _ _ _ _ (@ps_set _ _ 3 _ _ _ _ nd rfl (Or.inl rfl) (pe_meth0 (pv 0) T.cl_Phrase T.M_Zc GA hr3 T.b_Zc .nil pass0) (by rfl) (by first | exact .inl rfl | exact .inr rfl | assumption)) (@pss_cons _ _ _ _ _ (@ps_if _ _ _ _ _ _ _ _ (@pt_cmpR _ _ _ _ _ _ _ _ op_eq (pv 1) pe_str (nomark _)) pss_never pss_nil) (@pss_one _ _ _ (@ps_ret _ _ _ _ (@pe_tup _ _ _ _ _ (@pa_cons _ _ _ _ _ (pv 1) (@pa_cons _ _ _ _ _ (pv 3) (@pa_cons _ _ _ _ _ (pe_meth (pv 0) T.cl_Phrase T.M_Zb GS hr4 T.b_Zb .nil pass0 (@pa_cons _ _ _ _ _ (@pe_op _ _ _ _ _ _ _ _ op_sub (pv 2) pe_int) pa_nil (by rfl))) pa_nil (by rfl)) (by rfl)) (by rfl)))))))),?_⟩
  refine ⟨_,rfl,(by show 3<=sizeLine;decide),fun pt hpt=>⟨pt,(["do","new","of"]:List Str).map V.str,rfl,.inr (SqT.of upd_same),rfl,rfl,_,rfl,?_⟩⟩
  rw [inV_strs,Qo (show ("do":Str)∈(["do","new","of"]:List Str) by simp)]
  refine iteF ?_
  have s0:=same_upd (o:=.tup ((["do","new","of"]:List Str).map V.str)) hpt
  have h0:=h.same s0
  refine ⟨_,rfl,o,dx,_,rfl,h0.ins,rfl,o,dx,wa,ws,x,i,n,rfl,h0,hn,hnm,fun H1 hb1 h1=>?_⟩
  have b1:=s0.but.trans hb1
  dsimp only [gName]
  refine ⟨_,rfl,rfl,_,rfl,?_⟩
  rw [dec_str,Qe (show ¬ ("do":Str)="of" by decide +kernel)]
  refine iteF ?_
  refine ⟨_,rfl,_,rfl,_,rfl,o,dx,_,rfl,h1.ins,rfl,_,rfl,_,_,rfl,rfl,?_⟩
  refine ⟨o,dx,wa,ws,x,i+1,m,d,less1 (d+1) o,h1,hle,hpo,hlf,fun t xs H2 hb2 h2 ht=>⟨(by show 3<=sizeLine;decide),fun pr hpr=>?_⟩⟩
  have s3:=same_upd (o:=.tup [.str "do",.str n,.ref t]) hpr
  exact kq _ _ _ ((b1.trans hb2).trans s3.but) (h2.same s3) upd_same
noncomputable def spDo (C:Addr):Sp:=fun vs H Q _=>∃ (o dx wa:Addr) (ws:List Str) (x:V) (i m:Nat),vs=[.ref o,.int 6]/\Ph C H o dx wa ws x i/\ws[i]?=some ("do":Str)/\DoAt ws (i+1) m /\
 ∀ t xs H',ButO o H H'->Ph C H' o dx wa ws x (m+1)->H' t=some (.tup xs)->Q (.ref t) H'
theorem do_no:isNum "do"=false/\isName "do"=false:=by decide +kernel
theorem ok_do (T:All P w K mg AA DD):FnOk P w K mg base CX0 6 AA.Zd DD.Zd ["self","deep"] (spDo AA.c_Phrase):=by
 have GT:=ok_take (base:=base) T
 have GB:=ok_isnum (base:=base) T
 have GN:=ok_isname (base:=base) T
 have GD:=ok_named (base:=base) T
 refine T.F_Zd.ok sc_Zd (fun vs H Q E h=>?_) (fun cdv A outer s H vs Q E hr h=>?_)
 ·obtain ⟨o,dx,wa,ws,x,i,m,rfl,_⟩:=h
  rfl
 ·obtain ⟨o,dx,wa,ws,x,i,m,rfl,h,hz,hD,kq⟩:=h
  have nd:=sc_Zd.nd
  have hr2:Room 2 _:=hr.mono (by decide)
  have hr5:Room 5 _:=hr
  refine ⟨_,(@pss_cons _ _ _ _ _ (@ps_if _ _ _ _ _ _ _ _ (@pt_cmpR _ _ _ _ _ _ _ _ op_eq (pv 1) pe_int (nomark _)) pss_never pss_nil) (@pss_cons _ _ _ _ _ (@ps_set _ _ 2 _ _ _ _ nd rfl (Or.inl rfl) (pe_meth0 (pv 0) T.cl_Phrase T.M_Zv GT hr2 T.b_Zv .nil pass0) (by rfl) (by first | exact .inl rfl | exact .inr rfl | assumption)) (@pss_cons _ _ _ _ _ (@ps_if _ _ _ _ _ _ _ _ (pt_val (pe_call GB hr2 rfl T.m_ZC T.k_ZC T.b_ZC .nil pass0 (@pa_cons _ _ _ _ _ (pv 2) pa_nil (by rfl)))) pss_never pss_nil) (@pss_cons _ _ _ _ _ (@ps_if _ _ _ _ _ _ _ _ (@pt_cmpR _ _ _ _ _ _ _ _ (op_in_seqK (K:=K) rfl) (pv 2) (@pe_tup _ _ _ _ _ (@pa_cons _ _ _ _ _ pe_str (@pa_cons _ _ _ _ _ pe_str pa_nil (by rfl)) (by rfl))) rfl) pss_never pss_nil) (@pss_cons _ _ _ _ _ (@ps_if _ _ _ _ _ _ _ _ (pt_val (pe_call GN hr2 rfl T.m_ZS T.k_ZS T.b_ZS .nil pass0 (@pa_cons _ _ _ _ _ (pv 2) pa_nil (by rfl)))) pss_never pss_nil) (@pss_cons _ _ _ _ _ (@ps_if _ _ _ _ _ _ _ _ (@pt_cmpR _ _ _ _ _ _ _ _ op_eq (pv 2) pe_str (nomark _)) pss_never pss_nil) (@pss_cons _ _ _ _ _ (@ps_if _ _ _ _ _ _ _ _ (@pt_cmpR _ _ _ _ _ _ _ _ (op_in_seqK (K:=K) rfl) (pv 2) (pe_glob (v:=.ref AA.q_OPERATORS) rfl T.m_OPERATORS rfl) rfl) pss_never pss_nil) (@pss_one _ _ _ (@ps_ret _ _ _ _ (pe_meth (pv 0) T.cl_Phrase T.M_Za GD hr5 T.b_Za .nil pass0 (@pa_cons _ _ _ _ _ (pv 2) (@pa_cons _ _ _ _ _ (pv 1) pa_nil (by rfl)) (by rfl)))))))))))),?_⟩
  refine ⟨_,rfl,rfl,_,rfl,?_⟩
  refine iteF ?_
  refine ⟨_,rfl,o,dx,_,rfl,h.ins,rfl,o,dx,wa,ws,x,i,"do",rfl,h,hz,?_⟩
  have hi:=(Qc hz).1
  have h1:=h.step (j:=i+1) hi
  obtain ⟨h100,h128⟩:=h.ok _ (Qz hz)
  have b1:=ButO.upd o H (.ins AA.c_Phrase dx (phF wa x (i+1)))
  dsimp only [gName]
  generalize upd H o (.ins AA.c_Phrase dx (phF wa x (i+1)))=H1 at h1 b1 ⊢
  refine ⟨_,rfl,_,rfl,h100,h128,fun H2 s2=>⟨_,rfl,?_⟩⟩
  have h2:=h1.same s2
  have b2:=b1.trans s2.but
  rw [do_no.1]
  refine iteF ?_
  refine ⟨_,rfl,(by show 2<=sizeLine;decide),fun pt hpt=>⟨pt,(["yes","no"]:List Str).map V.str,rfl,.inr (SqT.of upd_same),rfl,rfl,_,rfl,?_⟩⟩
  have s3:=same_upd (o:=.tup [.str "yes",.str "no"]) hpt
  have h3:=h2.same s3
  have b3:=b2.trans s3.but
  generalize upd H2 pt (.tup [.str "yes",.str "no"])=H3 at s3 h3 b3 ⊢
  rw [show (if false=true then !inV (V.str "do") ((["yes","no"]:List Str).map V.str) else inV (V.str "do") ((["yes","no"]:List Str).map V.str))=false by rw [if_neg (by decide),inV_strs];exact Qe (by decide +kernel)]
  refine iteF ?_
  refine ⟨_,rfl,_,rfl,h100,h128,fun H4 s4=>⟨_,rfl,?_⟩⟩
  have h4:=h3.same s4
  have b4:=b3.trans s4.but
  rw [do_no.2]
  refine iteF ?_
  refine ⟨_,rfl,rfl,_,rfl,?_⟩
  rw [dec_str,Qe (show ¬ ("do":Str)="not" by decide +kernel)]
  refine iteF ?_
  refine ⟨_,rfl,AA.q_OPERATORS,ops7.map V.str,rfl,.inr (T.Q_OPERATORS H4),rfl,rfl,_,rfl,?_⟩
  rw [show (if false=true then !inV (V.str "do") (ops7.map V.str) else inV (V.str "do") (ops7.map V.str))=false by rw [if_neg (by decide),inV_strs];exact Qe (by decide +kernel)]
  refine iteF ?_
  refine ⟨_,rfl,o,dx,_,rfl,h4.ins,rfl,_,rfl,_,rfl,?_⟩
  exact ⟨o,dx,wa,ws,x,i+1,m,4,rfl,h4,hD,fun t xs H5 hb5 h5 ht=>kq t xs H5 (b4.trans hb5) h5 ht⟩
noncomputable def spHd (C:Addr):Sp:=fun vs H Q _=>∃ (o dx wa:Addr) (ws:List Str) (x:V) (i m:Nat),vs=[.ref o,.str "tell"]/\Ph C H o dx wa ws x i/\ws[i]?=some ("do":Str)/\DoAt ws (i+1) m /\
 ∀ t e xs H',ButO o H H'->Ph C H' o dx wa ws x (m+1)->H' t=some (.tup [.str "tell",x,.ref e])->H' e=some (.tup xs)->Q (.ref t) H'
noncomputable abbrev N_ZD:List Str:=["phrase","word","at","name","kind"]
theorem sc_ZD:FnScope N_ZD ["phrase","word"] (defScope st_ZD):=⟨rfl,rfl,rfl,by decide +kernel,rfl,by decide +kernel,by decide +kernel⟩
theorem ok_head (T:All P w K mg AA DD):FnOk P w K mg base CX0 7 AA.ZD DD.ZD ["phrase","word"] (spHd AA.c_Phrase):=by
 have GX:=ok_do (base:=base) T
 obtain ⟨tD,hDEEPEST_EXPR⟩:=T.v_DEEPEST_EXPR
 refine T.F_ZD.ok sc_ZD (fun vs H Q E h=>?_) (fun cdv A outer s H vs Q E hr h=>?_)
 ·obtain ⟨o,dx,wa,ws,x,i,m,rfl,_⟩:=h
  rfl
 ·obtain ⟨o,dx,wa,ws,x,i,m,rfl,h,hz,hD,kq⟩:=h
  have nd:=sc_ZD.nd
  have hr3:Room 6 _:=hr
  refine ⟨_,(@pss_cons _ _ _ _ _ (@ps_set _ _ 2 _ _ _ _ nd rfl (Or.inl rfl) (pe_fld (pv 0) rfl) (by rfl) (by first | exact .inl rfl | exact .inr rfl | assumption)) (@pss_cons _ _ _ _ _ (@ps_if _ _ _ _ _ _ _ _ (@pt_cmpR _ _ _ _ _ _ _ _ (op_in_seqK (K:=K) rfl) (pv 1) (@pe_tup _ _ _ _ _ (@pa_cons _ _ _ _ _ pe_str (@pa_cons _ _ _ _ _ pe_str pa_nil (by rfl)) (by rfl))) rfl) pss_never pss_nil) (@pss_cons _ _ _ _ _ (@ps_if _ _ _ _ _ _ _ _ (@pt_cmpR _ _ _ _ _ _ _ _ (op_in_seqK (K:=K) rfl) (pv 1) (@pe_tup _ _ _ _ _ (@pa_cons _ _ _ _ _ pe_str (@pa_cons _ _ _ _ _ pe_str (@pa_cons _ _ _ _ _ pe_str (@pa_cons _ _ _ _ _ pe_str pa_nil (by rfl)) (by rfl)) (by rfl)) (by rfl))) rfl) (@pss_one _ _ _ (@ps_ret _ _ _ _ (@pe_tup _ _ _ _ _ (@pa_cons _ _ _ _ _ (pv 1) (@pa_cons _ _ _ _ _ (pv 2) (@pa_cons _ _ _ _ _ (pe_meth (pv 0) T.cl_Phrase T.M_Zd GX hr3 T.b_Zd .nil pass0 (@pa_cons _ _ _ _ _ (pe_glob (v:=.int 6) rfl hDEEPEST_EXPR ⟨_,rfl⟩) pa_nil (by rfl))) pa_nil (by rfl)) (by rfl)) (by rfl))))) pss_nil) pss_never))),?_⟩
  refine ⟨_,rfl,o,AA.c_Phrase,dx,_,_,rfl,h.ins,T.cl_Phrase,T.na_Phrase_at,rfl,?_⟩
  dsimp only [gName]
  refine ⟨_,rfl,(by show 2<=sizeLine;decide),fun pt hpt=>⟨pt,(["else","end"]:List Str).map V.str,rfl,.inr (SqT.of upd_same),rfl,rfl,_,rfl,?_⟩⟩
  have s1:=same_upd (o:=.tup [.str "else",.str "end"]) hpt
  have h1:=h.same s1
  have b1:=s1.but (o:=o)
  generalize upd H pt (.tup [.str "else",.str "end"])=H1 at s1 h1 b1 ⊢
  rw [show (if false=true then !inV (V.str "tell") ((["else","end"]:List Str).map V.str) else inV (V.str "tell") ((["else","end"]:List Str).map V.str))=false by rw [if_neg (by decide),inV_strs];exact Qe (by decide +kernel)]
  refine iteF ?_
  refine ⟨_,rfl,(by show 4<=sizeLine;decide),fun pt2 hpt2=>⟨pt2,(["tell","give","if","while"]:List Str).map V.str,rfl,.inr (SqT.of upd_same),rfl,rfl,_,rfl,?_⟩⟩
  have s2:=same_upd (o:=.tup [.str "tell",.str "give",.str "if",.str "while"]) hpt2
  have h2:=h1.same s2
  have b2:=b1.trans s2.but
  generalize upd H1 pt2 (.tup [.str "tell",.str "give",.str "if",.str "while"])=H2 at s2 h2 b2 ⊢
  rw [show (if false=true then !inV (V.str "tell") ((["tell","give","if","while"]:List Str).map V.str) else inV (V.str "tell") ((["tell","give","if","while"]:List Str).map V.str))=true by rw [if_neg (by decide),inV_strs];exact Qo (by simp)]
  refine iteT ?_
  refine ⟨_,rfl,_,rfl,_,rfl,o,dx,_,rfl,h2.ins,rfl,o,dx,wa,ws,x,i,m,rfl,h2,hz,hD,fun t xs H5 hb5 h5 ht=>⟨(by show 3<=sizeLine;decide),fun pr hpr=>?_⟩⟩
  have s6:=same_upd (o:=.tup [.str "tell",x,.ref t]) hpr
  exact kq _ _ _ _ ((b2.trans hb5).trans s6.but) (h5.same s6) upd_same (s6 _ _ ht)
structure Tell (ws:List Str):Prop where
 w0:ws[0]?=some ("tell":Str)
 w1:ws[1]?=some ("do":Str)
 rest:∃ m,m+1=ws.length/\DoAt ws 2 m
noncomputable def SaidAt (H:Hp) (x:V) (t:Addr):Prop:=∃ e xs,H t=some (.tup [.str "tell",x,.ref e])/\H e=some (.tup xs)
theorem SaidAt.same {H H':Hp} {x:V} {t:Addr} (h:SaidAt H x t) (s:Same H H'):SaidAt H' x t:=by obtain ⟨e,xs,a,b⟩:=h;exact ⟨e,xs,s _ _ a,s _ _ b⟩
noncomputable def spRow:Sp:=fun vs H Q _=>∃ (wa:Addr) (ws:List Str) (x:V),vs=[.ref wa,x]/\H wa=some (.tup (ws.map V.str))/\WsOk ws/\ws.length<=900/\(ws=[]->Q .non H)/\(ws≠[]->Tell ws/\∀ t H',Same H H'->SaidAt H' x t->Q (.ref t) H')
noncomputable abbrev N_ZI:List Str:=["words","at","phrase","head"]
theorem sc_ZI:FnScope N_ZI ["words","at"] (defScope st_ZI):=⟨rfl,rfl,rfl,by decide +kernel,rfl,by decide +kernel,by decide +kernel⟩
theorem ok_row (T:All P w K mg AA DD):FnOk P w K mg base CX0 8 AA.ZI DD.ZI ["words","at"] spRow:=by
 have GP:=ok_pinit (base:=base) T
 have GH:=ok_head (base:=base) T
 have GT:=ok_take (base:=base) T
 have GE:=ok_ended (base:=base) T
 refine T.F_ZI.ok sc_ZI (fun vs H Q E h=>?_) (fun cdv A outer s H vs Q E hr h=>?_)
 ·obtain ⟨wa,ws,x,rfl,_⟩:=h
  rfl
 ·obtain ⟨wa,ws,x,rfl,hw,hok,h9,k0,k1⟩:=h
  have nd:=sc_ZI.nd
  have hr7:Room 7 _:=hr
  have hr1:Room 1 _:=hr.mono (by decide)
  have hr2:Room 2 _:=hr.mono (by decide)
  refine ⟨_,(@pss_cons _ _ _ _ _ (@ps_if _ _ _ _ _ _ _ _ (@pt_cmpR _ _ _ _ _ _ _ _ op_eq (pe_callB call_len_seq rfl T.n_len bt_len (@pa_cons _ _ _ _ _ (pv 0) pa_nil (by rfl))) pe_int (nomark _)) (@pss_one _ _ _ (@ps_ret _ _ _ _ pe_non)) pss_nil) (@pss_cons _ _ _ _ _ (@ps_set _ _ 2 _ _ _ _ nd rfl (Or.inl rfl) (pe_make T.M_Phrase GP hr2 rfl T.m_Phrase T.b_Zu .nil pass0 (@pa_cons _ _ _ _ _ (pv 0) (@pa_cons _ _ _ _ _ (pv 1) pa_nil (by rfl)) (by rfl))) (by rfl) (by first | exact .inl rfl | exact .inr rfl | assumption)) (@pss_cons _ _ _ _ _ (@ps_set _ _ 3 _ _ _ _ nd rfl (Or.inl rfl) (pe_call GH hr7 rfl T.m_ZD T.k_ZD T.b_ZD .nil pass0 (@pa_cons _ _ _ _ _ (pv 2) (@pa_cons _ _ _ _ _ (pe_meth0 (pv 2) T.cl_Phrase T.M_Zv GT hr2 T.b_Zv .nil pass0) pa_nil (by rfl)) (by rfl))) (by rfl) (by first | exact .inl rfl | exact .inr rfl | assumption)) (@pss_cons _ _ _ _ _ (@ps_if _ _ _ _ _ _ _ _ (pt_not (pt_val (pe_meth0 (pv 2) T.cl_Phrase T.M_Zm GE hr1 T.b_Zm .nil pass0))) pss_never pss_nil) (@pss_one _ _ _ (@ps_ret _ _ _ _ (pv 3))))))),?_⟩
  refine ⟨_,rfl,wa,_,rfl,.inr (SqT.of hw),rfl,_,rfl,?_⟩
  rw [Qd]
  by_cases h0:ws=[]
  ·subst h0
   refine iteT ?_
   exact k0 rfl
  rw [Qe (fun e=>h0 (List.eq_nil_of_length_eq_zero (by injection e with e;omega)))]
  refine iteF ?_
  obtain ⟨⟨w0,w1,m,hm,hD⟩,kq⟩:=k1 h0
  refine ⟨_,rfl,_,rfl,fun o dx ho hdx hne=>?_⟩
  refine ⟨o,dx,wa,x,rfl,upd_same,rfl,?_⟩
  dsimp only [gName]
  rw [upd_upd,upd_upd,upd_upd]
  have nwo:wa≠o:=ne_of_none hw ho
  have nwd:wa≠dx:=ne_of_none hw hdx
  have ho2:upd H dx (.own o) o=none:=by rw [upd_ne (Ne.symm hne)];exact ho
  have s1:=(same_upd (o:=.own o) hdx).trans (same_upd (o:=.ins AA.c_Phrase dx (phF wa x 0)) ho2)
  have hP:Ph AA.c_Phrase (upd (upd H dx (.own o)) o (.ins AA.c_Phrase dx (phF wa x 0))) o dx wa ws x 0:=⟨upd_same,s1 _ _ hw,hok,Qr _,h9⟩
  generalize upd (upd H dx (.own o)) o (.ins AA.c_Phrase dx (phF wa x 0))=H1 at s1 hP ⊢
  have sB:∀ {H':Hp},ButO o H1 H'->Same H H':=fun b u a e=>b _ _ (s1 _ _ e) (ne_of_none e ho)
  have hwl:0<ws.length:=List.length_pos_iff.mpr h0
  refine ⟨_,rfl,_,rfl,o,dx,_,rfl,hP.ins,rfl,o,dx,wa,ws,x,0,"tell",rfl,hP,w0,?_⟩
  have hP2:=hP.step (j:=0+1) hwl
  have b12:=ButO.upd o H1 (.ins AA.c_Phrase dx (phF wa x (0+1)))
  generalize upd H1 o (.ins AA.c_Phrase dx (phF wa x (0+1)))=H2 at hP2 b12 ⊢
  refine ⟨o,dx,wa,ws,x,1,m,rfl,hP2,w1,hD,fun t e xs H3 b3 h3 ht he=>?_⟩
  dsimp only [gName]
  refine ⟨_,rfl,o,dx,_,rfl,h3.ins,rfl,o,dx,wa,ws,x,m+1,rfl,h3,_,rfl,?_⟩
  rw [Qo hm]
  refine iteF ?_
  exact ⟨_,rfl,kq t H3 (sB (b12.trans b3)) ⟨e,xs,ht,he⟩⟩
noncomputable def SdAt (H:Hp) (x:V) (t:Addr):Bool->Prop
 | true=>H t=some (.tup [.str ""])
 | false=>SaidAt H x t
noncomputable def spRC:Sp:=fun vs H Q _=>∃ (wa:Addr) (ws:List Str) (x:V),vs=[.ref wa,x]/\H wa=some (.tup (ws.map V.str))/\WsOk ws/\ws.length<=900/\(ws≠[]->Tell ws)/\∀ t H',Same H H'->SdAt H' x t ws.isEmpty->Q (.ref t) H'
noncomputable abbrev N_ZO:List Str:=["words","at","head"]
theorem sc_ZO:FnScope N_ZO ["words","at"] (defScope st_ZO):=⟨rfl,rfl,rfl,by decide +kernel,rfl,by decide +kernel,by decide +kernel⟩
theorem ok_rcut (T:All P w K mg AA DD):FnOk P w K mg base CX0 9 AA.ZO DD.ZO ["words","at"] spRC:=by
 have GW:=ok_row (base:=base) T
 refine T.F_ZO.ok sc_ZO (fun vs H Q E h=>?_) (fun cdv A outer s H vs Q E hr h=>?_)
 ·obtain ⟨wa,ws,x,rfl,_⟩:=h
  rfl
 ·obtain ⟨wa,ws,x,rfl,hw,hok,h9,k0,k1⟩:=h
  have nd:=sc_ZO.nd
  have hr8:Room 8 _:=hr
  refine ⟨_,(@pss_cons _ _ _ _ _ (ps_tryok (@pss_one _ _ _ (@ps_set _ _ 2 _ _ _ _ nd rfl (Or.inl rfl) (pe_call GW hr8 rfl T.m_ZI T.k_ZI T.b_ZI .nil pass0 (@pa_cons _ _ _ _ _ (pv 0) (@pa_cons _ _ _ _ _ (pv 1) pa_nil (by rfl)) (by rfl))) (by rfl) (by first | exact .inl rfl | exact .inr rfl | assumption)))) (@pss_one _ _ _ (@ps_ret _ _ _ _ (pe_ifExp (pt_cmp (pc_isN (pv 2))) (@pe_tup _ _ _ _ _ (@pa_cons _ _ _ _ _ pe_str pa_nil (by rfl))) (pv 2))))),?_⟩
  refine ⟨_,rfl,_,rfl,wa,ws,x,rfl,hw,hok,h9,fun e=>?_,fun e=>?_⟩
  ·refine ⟨_,rfl,_,rfl,iteT ?_⟩
   exact ⟨(by show 1<=sizeLine;decide),fun t ht=>k1 t _ (same_upd ht) (by rw [e];exact upd_same)⟩
  ·refine ⟨k0 e,fun t H' s hS=>⟨_,rfl,_,rfl,iteF ?_⟩⟩
   exact ⟨_,rfl,k1 t H' s (by
    have:ws.isEmpty=false:=by cases ws with | nil=>exact absurd rfl e | cons a r=>rfl
    rw [this];exact hS)⟩
end
section
variable {P:Program} {w:World} {K:W.Frag} {mg:Str->Option Value} {base:Heap} {AA:Adr} {DD:Fds}
theorem iteFb {c:Bool} {a b:Prop} (h:c=false) (k:b):if c=true then a else b:=by rw [h];exact k
theorem iteTb {c:Bool} {a b:Prop} (h:c=true) (k:a):if c=true then a else b:=by rw [h];exact k
theorem pe_no {X:Cx} {e:Expr}:PE X e (fun _ _ _=>False):=fun _ _ _ _ _ _ h=>h.elim
noncomputable def Pln (z:Str):Prop:=z="tell"∨z=""
theorem Pln.no {z:Str} (h:Pln z) {l:List Str} (h1:("tell":Str)∉l) (h2:("":Str)∉l):z∉l:=by
 rcases h with rfl | rfl
 ·exact h1
 ·exact h2
theorem Pln.ne {z:Str} (h:Pln z) {y:Str} (h1:("tell":Str)≠y) (h2:("":Str)≠y):z≠y:=by
 rcases h with rfl | rfl
 ·exact h1
 ·exact h2
theorem in_strs (z:Str) (l:List Str):(if false=true then !inV (V.str z) (l.map V.str) else inV (V.str z) (l.map V.str))=decide (z∈l):=inV_strs z l
noncomputable def spMis:Sp:=fun vs H Q _=>∃ (z:Str) (v:V),vs=[.str z,v]/\Pln z/\∀ H',Same H H'->Q (.bl false) H'
noncomputable abbrev N_Zj:List Str:=["word","within"]
theorem sc_Zj:FnScope N_Zj ["word","within"] (defScope st_Zj):=⟨rfl,rfl,rfl,by decide +kernel,rfl,by decide +kernel,by decide +kernel⟩
theorem ok_mis (T:All P w K mg AA DD):FnOk P w K mg base CX0 1 AA.Zj DD.Zj ["word","within"] spMis:=by
 refine T.F_Zj.ok sc_Zj (fun vs H Q E h=>?_) (fun cdv A outer s H vs Q E hr h=>?_)
 ·obtain ⟨z,v,rfl,_⟩:=h
  rfl
 ·obtain ⟨z,v,rfl,hz,k⟩:=h
  refine ⟨_,(@pss_cons _ _ _ _ _ (@ps_if _ _ _ _ _ _ _ _ (@pt_cmpR _ _ _ _ _ _ _ _ (op_in_seqK (K:=K) rfl) (pv 0) (@pe_tup _ _ _ _ _ (@pa_cons _ _ _ _ _ pe_str (@pa_cons _ _ _ _ _ pe_str pa_nil (by rfl)) (by rfl))) rfl) pss_never pss_nil) (@pss_cons _ _ _ _ _ (@ps_if _ _ _ _ _ _ _ _ (@pt_cmpR _ _ _ _ _ _ _ _ (op_in_seqK (K:=K) rfl) (pv 0) (@pe_tup _ _ _ _ _ (@pa_cons _ _ _ _ _ pe_str (@pa_cons _ _ _ _ _ pe_str pa_nil (by rfl)) (by rfl))) rfl) pss_never pss_nil) (@pss_one _ _ _ (@ps_ret _ _ _ _ (pe_and (@pe_cmpR _ _ _ _ _ _ _ _ op_eq (pv 0) pe_str (nomark _)) (pe_one (@pe_cmpR _ _ _ _ _ _ _ _ (op_notIn_seqK (K:=K) rfl) pe_str (pv 1) rfl))))))),?_⟩
  refine ⟨_,rfl,(by show 2<=sizeLine;decide),fun pt hpt=>⟨pt,(["kind","def"]:List Str).map V.str,rfl,.inr (SqT.of upd_same),rfl,rfl,_,rfl,?_⟩⟩
  have s1:=same_upd (o:=.tup [.str "kind",.str "def"]) hpt
  rw [in_strs,Qe (hz.no (by decide +kernel) (by decide +kernel))]
  refine iteF ?_
  refine ⟨_,rfl,(by show 2<=sizeLine;decide),fun pu hpu=>⟨pu,(["if","while"]:List Str).map V.str,rfl,.inr (SqT.of upd_same),rfl,rfl,_,rfl,?_⟩⟩
  have s2:=s1.trans (same_upd (o:=.tup [.str "if",.str "while"]) hpu)
  rw [in_strs,Qe (hz.no (by decide +kernel) (by decide +kernel))]
  refine iteF ?_
  refine ⟨_,rfl,rfl,_,rfl,?_⟩
  rw [dec_str,Qe (hz.ne (by decide +kernel) (by decide +kernel))]
  exact iteF (k _ s2)
noncomputable abbrev N_ZJ:List Str:=["word","within"]
theorem sc_ZJ:FnScope N_ZJ ["word","within"] (defScope st_ZJ):=⟨rfl,rfl,rfl,by decide +kernel,rfl,by decide +kernel,by decide +kernel⟩
theorem ok_stray (T:All P w K mg AA DD):FnOk P w K mg base CX0 1 AA.ZJ DD.ZJ ["word","within"] spMis:=by
 refine T.F_ZJ.ok sc_ZJ (fun vs H Q E h=>?_) (fun cdv A outer s H vs Q E hr h=>?_)
 ·obtain ⟨z,v,rfl,_⟩:=h
  rfl
 ·obtain ⟨z,v,rfl,hz,k⟩:=h
  refine ⟨_,(@pss_cons _ _ _ _ _ (@ps_if _ _ _ _ _ _ _ _ (@pt_cmpR _ _ _ _ _ _ _ _ op_eq (pv 0) pe_str (nomark _)) pss_never pss_nil) (@pss_one _ _ _ (@ps_ret _ _ _ _ (pe_and (@pe_cmpR _ _ _ _ _ _ _ _ op_eq (pv 0) pe_str (nomark _)) (pe_one (@pe_cmpR _ _ _ _ _ _ _ _ op_eq (pe_callB call_len_seq rfl T.n_len bt_len (@pa_cons _ _ _ _ _ (pv 1) pa_nil (by rfl))) pe_int (nomark _))))))),?_⟩
  refine ⟨_,rfl,rfl,_,rfl,?_⟩
  rw [dec_str,Qe (hz.ne (by decide +kernel) (by decide +kernel))]
  refine iteF ?_
  refine ⟨_,rfl,rfl,_,rfl,?_⟩
  rw [dec_str,Qe (hz.ne (by decide +kernel) (by decide +kernel))]
  exact iteF (k _ (Same.refl _))
noncomputable def spFault:Sp:=fun vs H Q _=>∃ (z:Str) (v:V),vs=[.str z,v]/\Pln z/\∀ H',Same H H'->Q .non H'
noncomputable abbrev N_Zr:List Str:=["word","within"]
theorem sc_Zr:FnScope N_Zr ["word","within"] (defScope st_Zr):=⟨rfl,rfl,rfl,by decide +kernel,rfl,by decide +kernel,by decide +kernel⟩
theorem ok_fault (T:All P w K mg AA DD):FnOk P w K mg base CX0 2 AA.Zr DD.Zr ["word","within"] spFault:=by
 have GL:=ok_mis (base:=base) T
 have GR:=ok_stray (base:=base) T
 refine T.F_Zr.ok sc_Zr (fun vs H Q E h=>?_) (fun cdv A outer s H vs Q E hr h=>?_)
 ·obtain ⟨z,v,rfl,_⟩:=h
  rfl
 ·obtain ⟨z,v,rfl,hz,k⟩:=h
  have hr1:Room 1 _:=hr
  refine ⟨_,(@pss_cons _ _ _ _ _ (@ps_if _ _ _ _ _ _ _ _ (pt_val (pe_call GL hr1 rfl T.m_Zj T.k_Zj T.b_Zj .nil pass0 (@pa_cons _ _ _ _ _ (pv 0) (@pa_cons _ _ _ _ _ (pv 1) pa_nil (by rfl)) (by rfl)))) (@pss_one _ _ _ (@ps_ret _ _ _ _ pe_str)) pss_nil) (@pss_cons _ _ _ _ _ (@ps_if _ _ _ _ _ _ _ _ (pt_val (pe_call GR hr1 rfl T.m_ZJ T.k_ZJ T.b_ZJ .nil pass0 (@pa_cons _ _ _ _ _ (pv 0) (@pa_cons _ _ _ _ _ (pv 1) pa_nil (by rfl)) (by rfl)))) (@pss_one _ _ _ (@ps_ret _ _ _ _ pe_str)) pss_nil) (@pss_one _ _ _ (@ps_ret _ _ _ _ pe_non)))),?_⟩
  refine ⟨_,rfl,_,rfl,z,v,rfl,hz,fun H1 s1=>⟨_,rfl,iteF ?_⟩⟩
  refine ⟨_,rfl,_,rfl,z,v,rfl,hz,fun H2 s2=>⟨_,rfl,iteF ?_⟩⟩
  exact k H2 (s1.trans s2)
noncomputable def stK (a:Nat):List (Key × V):=if a=0 then [] else [(.inl 0,.int ((a:Nat):Int))]
theorem stK_val (a:Nat):(valV (stK a) (.inl 0:Key)).getD (V.int 0)=V.int ((a:Nat):Int):=by
 unfold stK
 split
 ·rename_i h;subst h;rfl
 ·rfl
theorem stK_put {a m:Nat} (h:m≠0):putK (stK a) (.inl 0:Key) (V.int (((a ||| m:Nat)):Int))=stK (a ||| m):=by
 have hne:a ||| m≠0:=fun e=>h (Nat.or_eq_zero_iff.mp e).2
 unfold stK
 rw [if_neg hne]
 split<;>rfl
noncomputable def spAdd:Sp:=fun vs H Q _=>∃ (d:Addr) (a m:Nat),vs=[.ref d,.int 0,.int ((m:Nat):Int)]/\H d=some (.dK (stK a))/\m≠0/\Q .non (upd H d (.dK (stK (a ||| m))))
noncomputable abbrev N_ZV:List Str:=["found","key","mask"]
theorem sc_ZV:FnScope N_ZV ["found","key","mask"] (defScope st_ZV):=⟨rfl,rfl,rfl,by decide +kernel,rfl,by decide +kernel,by decide +kernel⟩
theorem ok_add (T:All P w K mg AA DD):FnOk P w K mg base CX0 1 AA.ZV DD.ZV ["found","key","mask"] spAdd:=by
 refine T.F_ZV.ok sc_ZV (fun vs H Q E h=>?_) (fun cdv A outer s H vs Q E hr h=>?_)
 ·obtain ⟨d,a,m,rfl,_⟩:=h
  rfl
 ·obtain ⟨d,a,m,rfl,hd,hm,k⟩:=h
  have nd:=sc_ZV.nd
  have hu:_+1<cLine:=QL (Nat.add_le_add_left (show 1<=16*0+200 by decide) _) (by have:=hr.un;omega)
  refine ⟨_,(@pss_one _ _ _ (@ps_if _ _ _ _ _ _ _ _ (@pt_cmpR _ _ _ _ _ _ _ _ op_ne (pv 2) pe_int (nomark _)) (@pss_one _ _ _ (ps_dput hu (pv 0) (pv 1) (@pe_op _ _ _ _ _ _ _ _ op_or (pe_dget2 hu (pv 0) (pv 1) pe_int ⟨by rfl,by rfl,by rfl,by rfl⟩) (pv 2)) rfl)) pss_nil)),?_⟩
  refine ⟨_,rfl,rfl,_,rfl,?_⟩
  rw [Qe (show ¬ V.int ((m:Nat):Int)=V.int 0 from fun e=>hm (by injection e with e;omega))]
  refine iteT ?_
  refine ⟨_,rfl,d,rfl,.inl ⟨_,.inl hd⟩,_,rfl,_,DGet.k (k:=.inl 0) hd,?_⟩
  rw [stK_val]
  refine ⟨_,rfl,_,_,rfl,rfl,?_⟩
  dsimp only
  rw [bitOr_nat]
  refine ⟨_,rfl,_,rfl,d,_,rfl,DPut.k (k:=.inl 0) hd (by unfold stK;split;exact (by decide:0<sizeLine);exact (by decide:1<sizeLine)),?_⟩
  rw [stK_put hm]
  exact k
noncomputable def spF (wi bd:Addr):List (Str × V):=[("number",.int 0),("within",.ref wi),("outer",.non),("other",.non),("body",.ref bd)]
noncomputable def spSInit (C:Addr):Sp:=fun vs H Q _=>∃ (o dx wi:Addr),vs=[.ref o,.int 0,.ref wi,.non,.non]/\H o=some (.ins C dx [])/\∀ bd H',H bd=none->ButO o H H'->H' o=some (.ins C dx (spF wi bd))->H' bd=some (.lst [])->Q .non H'
noncomputable abbrev N_ZG:List Str:=["self","number","within","outer","other"]
theorem sc_ZG:FnScope N_ZG ["self","number","within","outer","other"] (defScope st_ZG):=⟨rfl,rfl,rfl,by decide +kernel,rfl,by decide +kernel,by decide +kernel⟩
theorem ok_sinit (T:All P w K mg AA DD):FnOk P w K mg base CX0 1 AA.ZG DD.ZG ["self","number","within","outer","other"] (spSInit AA.c_Spot):=by
 refine T.F_ZG.ok sc_ZG (fun vs H Q E h=>?_) (fun cdv A outer s H vs Q E hr h=>?_)
 ·obtain ⟨o,dx,wi,rfl,_⟩:=h
  rfl
 ·obtain ⟨o,dx,wi,rfl,ho,k⟩:=h
  refine ⟨_,(@pss_cons _ _ _ _ _ (ps_fld (pv 0) (pv 1) rfl) (@pss_cons _ _ _ _ _ (ps_fld (pv 0) (pv 2) rfl) (@pss_cons _ _ _ _ _ (ps_fld (pv 0) (pv 3) rfl) (@pss_cons _ _ _ _ _ (ps_fld (pv 0) (pv 4) rfl) (@pss_one _ _ _ (ps_fld (pv 0) (@pe_lst _ _ _ _ pa_nil) rfl)))))),?_⟩
  refine ⟨_,rfl,_,rfl,o,AA.c_Spot,dx,_,rfl,ho,T.cl_Spot,T.na_Spot_number,(by show 0<1000;decide),?_⟩
  refine ⟨_,rfl,_,rfl,o,AA.c_Spot,dx,_,rfl,upd_same,T.cl_Spot,T.na_Spot_within,(by show 1<1000;decide),?_⟩
  refine ⟨_,rfl,_,rfl,o,AA.c_Spot,dx,_,rfl,upd_same,T.cl_Spot,T.na_Spot_outer,(by show 2<1000;decide),?_⟩
  refine ⟨_,rfl,_,rfl,o,AA.c_Spot,dx,_,rfl,upd_same,T.cl_Spot,T.na_Spot_other,(by show 3<1000;decide),?_⟩
  refine ⟨Qr _,fun bd hbd=>⟨_,rfl,o,AA.c_Spot,dx,_,rfl,(upd_ne (fun e=>by rw [<- e,upd_same] at hbd;cases hbd)).trans upd_same,T.cl_Spot,T.na_Spot_body,(by show 4<1000;decide),?_⟩⟩
  ·rw [upd_upd,upd_upd,upd_upd] at hbd ⊢
   have nbo:bd≠o:=fun e=>by rw [e,upd_same] at hbd;cases hbd
   have hb0:H bd=none:=by rw [upd_ne nbo] at hbd;exact hbd
   refine k bd _ hb0 (fun b u e n=>?_) upd_same (by rw [upd_ne nbo,upd_same])
   rw [upd_ne n,upd_ne (ne_of_none e hb0),upd_ne n]
   exact e
noncomputable def spNS (C CS:Addr):Sp:=fun vs H Q _=>∃ (o dx sp wi:Addr),vs=[.ref o,.ref wi,.non,.non]/\H o=some (.ins C dx [("spots",.ref sp)])/\H sp=some (.lst []) /\
 ∀ so sx bd H',H so=none->H bd=none->H' so=some (.ins CS sx (spF wi bd))->H' bd=some (.lst [])->H' sp=some (.lst [.ref so])->(∀ b u,H b=some u->b≠sp->H' b=some u)->Q (.ref so) H'
noncomputable abbrev N_Ze:List Str:=["self","within","outer","other","spot"]
theorem sc_Ze:FnScope N_Ze ["self","within","outer","other"] (defScope st_Ze):=⟨rfl,rfl,rfl,by decide +kernel,rfl,by decide +kernel,by decide +kernel⟩
theorem ok_nspot (T:All P w K mg AA DD):FnOk P w K mg base CX0 3 AA.Ze DD.Ze ["self","within","outer","other"] (spNS AA.c_Reading AA.c_Spot):=by
 have GS:=ok_sinit (base:=base) T
 refine T.F_Ze.ok sc_Ze (fun vs H Q E h=>?_) (fun cdv A outer s H vs Q E hr h=>?_)
 ·obtain ⟨o,dx,sp,wi,rfl,_⟩:=h
  rfl
 ·obtain ⟨o,dx,sp,wi,rfl,ho,hsp,k⟩:=h
  have nd:=sc_Ze.nd
  have hr2:Room 2 _:=hr
  refine ⟨_,(@pss_cons _ _ _ _ _ (@ps_set _ _ 4 _ _ _ _ nd rfl (Or.inl rfl) (pe_make T.M_Spot GS hr2 rfl T.m_Spot T.b_ZG .nil pass0 (@pa_cons _ _ _ _ _ (pe_callB call_len_seq rfl T.n_len bt_len (@pa_cons _ _ _ _ _ (pe_fld (pv 0) rfl) pa_nil (by rfl))) (@pa_cons _ _ _ _ _ (pv 1) (@pa_cons _ _ _ _ _ (pv 2) (@pa_cons _ _ _ _ _ (pv 3) pa_nil (by rfl)) (by rfl)) (by rfl)) (by rfl))) (by rfl) (by first | exact .inl rfl | exact .inr rfl | assumption)) (@pss_cons _ _ _ _ _ (@ps_expr _ _ _ _ (pe_bm PySem.F.plainAttrs_list PySem.F.slot_list_append PySem.F.type_list_append mt_append (pe_fld (pv 0) rfl) (@pa_cons _ _ _ _ _ (pv 4) pa_nil (by rfl))) (by rfl)) (@pss_one _ _ _ (@ps_ret _ _ _ _ (pv 4))))),?_⟩
  refine ⟨_,rfl,o,AA.c_Reading,dx,_,_,rfl,ho,T.cl_Reading,T.na_Reading_spots,rfl,sp,_,rfl,.inl (SqL.of hsp),?_⟩
  refine ⟨_,rfl,_,rfl,_,rfl,fun so sx hso hsx hne=>?_⟩
  refine ⟨so,sx,wi,rfl,upd_same,fun bd H1 hbd hB h1 h2=>⟨rfl,?_⟩⟩
  have nso:∀ {b u},H b=some u->b≠so:=fun e=>ne_of_none e hso
  have nsx:∀ {b u},H b=some u->b≠sx:=fun e=>ne_of_none e hsx
  have keep:∀ b u,H b=some u->H1 b=some u:=fun b u e=>hB b u (by rw [upd_ne (nso e),upd_ne (nsx e)];exact e) (nso e)
  have nbso:bd≠so:=fun e=>by rw [e,upd_same] at hbd;cases hbd
  have nbsx:bd≠sx:=fun e=>by rw [e,upd_ne hne,upd_same] at hbd;cases hbd
  have hb0:H bd=none:=by rw [upd_ne nbso,upd_ne nbsx] at hbd;exact hbd
  dsimp only [gName]
  refine ⟨_,rfl,o,AA.c_Reading,dx,_,_,rfl,keep _ _ ho,T.cl_Reading,T.na_Reading_spots,rfl,.inl ⟨rfl,_,SqL.of (keep _ _ hsp)⟩,_,rfl,sp,_,_,rfl,rfl,keep _ _ hsp,(by show 0<sizeLine;decide),?_⟩
  have nb:bd≠sp:=fun e=>by rw [e,hsp] at hb0;cases hb0
  have ns:so≠sp:=fun e=>by rw [e,hsp] at hso;cases hso
  exact ⟨_,rfl,k so sx bd _ hso hb0 (by rw [upd_ne ns];exact h1) (by rw [upd_ne nb];exact h2) upd_same fun b u e n=>by rw [upd_ne n];exact keep b u e⟩
structure RdAt (C CS:Addr) (H:Hp) (o so bd st fl:Addr) (a:Nat) (bs:List V):Prop where
 ex:∃ dx sp sx wi,H o=some (.ins C dx [("spots",.ref sp),("standing",.ref st),("faults",.ref fl)])/\H sp=some (.lst [.ref so])/\H so=some (.ins CS sx (spF wi bd))/\sp≠bd
 std:H st=some (.dK (stK a))
 flt:H fl=some (.dT [])
 bod:H bd=some (.lst bs)
noncomputable def spRInit (C CS:Addr):Sp:=fun vs H Q _=>∃ (o dx:Addr) (m:Nat),vs=[.ref o,.int ((m:Nat):Int)]/\H o=some (.ins C dx [])/\m≠0/\∀ so bd st fl H',ButO o H H'->H bd=none->H st=none->RdAt C CS H' o so bd st fl m []->Q .non H'
noncomputable abbrev N_Zn:List Str:=["self","mask"]
theorem sc_Zn:FnScope N_Zn ["self","mask"] (defScope st_Zn):=⟨rfl,rfl,rfl,by decide +kernel,rfl,by decide +kernel,by decide +kernel⟩
theorem ok_rinit (T:All P w K mg AA DD):FnOk P w K mg base CX0 4 AA.Zn DD.Zn ["self","mask"] (spRInit AA.c_Reading AA.c_Spot):=by
 have GN:=ok_nspot (base:=base) T
 obtain ⟨tT,hTOP⟩:=T.v_TOP
 refine T.F_Zn.ok sc_Zn (fun vs H Q E h=>?_) (fun cdv A outer s H vs Q E hr h=>?_)
 ·obtain ⟨o,dx,m,rfl,_⟩:=h
  rfl
 ·obtain ⟨o,dx,m,rfl,ho,hm,k⟩:=h
  have hr3:Room 3 _:=hr
  refine ⟨_,(@pss_cons _ _ _ _ _ (ps_fld (pv 0) (@pe_lst _ _ _ _ pa_nil) rfl) (@pss_cons _ _ _ _ _ (@ps_expr _ _ _ _ (pe_meth (pv 0) T.cl_Reading T.M_Ze GN hr3 T.b_Ze .nil pass0 (@pa_cons _ _ _ _ _ (@pe_tup _ _ _ _ _ pa_nil) (@pa_cons _ _ _ _ _ pe_non (@pa_cons _ _ _ _ _ pe_non pa_nil (by rfl)) (by rfl)) (by rfl))) (by rfl)) (@pss_cons _ _ _ _ _ (ps_fld (pv 0) (pe_disp (pps_cons (pe_glob (v:=.int 0) rfl hTOP ⟨_,rfl⟩) (pv 1) pps_nil) rfl rfl (by simp) (by decide)) rfl) (@pss_one _ _ _ (ps_fld (pv 0) (pe_dnewT) rfl))))),?_⟩
  refine ⟨Qr _,fun sp hsp=>?_⟩
  have nsp:o≠sp:=ne_of_none ho hsp
  refine ⟨_,rfl,o,AA.c_Reading,dx,_,rfl,by rw [upd_ne nsp];exact ho,T.cl_Reading,T.na_Reading_spots,(by show 0<1000;decide),?_⟩
  have b0:ButO o H (upd (upd H sp (.lst [])) o (.ins AA.c_Reading dx [("spots",.ref sp)])):=fun b u e n=>by rw [upd_ne n,upd_ne (ne_of_none e hsp)];exact e
  have e1:upd (upd H sp (.lst [])) o (.ins AA.c_Reading dx (putF "spots" (.ref sp) [])) sp=some (.lst []):=by rw [upd_ne (Ne.symm nsp),upd_same]
  have e2:upd (upd H sp (.lst [])) o (.ins AA.c_Reading dx (putF "spots" (.ref sp) [])) o=some (.ins AA.c_Reading dx [("spots",.ref sp)]):=upd_same
  change ButO o H (upd (upd H sp (.lst [])) o (.ins AA.c_Reading dx (putF "spots" (.ref sp) []))) at b0
  generalize upd (upd H sp (.lst [])) o (.ins AA.c_Reading dx (putF "spots" (.ref sp) []))=H1 at e1 e2 b0
  refine ⟨_,rfl,o,dx,_,rfl,e2,rfl,Qr _,fun wi hwi=>?_⟩
  have n1:o≠wi:=ne_of_none e2 hwi
  have n2:sp≠wi:=ne_of_none e1 hwi
  have s1:=same_upd (o:=.tup []) hwi
  refine ⟨o,dx,sp,wi,rfl,s1 _ _ e2,s1 _ _ e1,fun so sx bd H2 hso hbd f1 f2 f3 f4=>?_⟩
  have keep:∀ b u,H1 b=some u->b≠sp->H2 b=some u:=fun b u e n=>f4 b u (s1 _ _ e) n
  have ho2:=keep _ _ e2 nsp
  refine fun st hst=>?_
  have n3:o≠st:=ne_of_none ho2 hst
  refine ⟨_,rfl,upd_same,[(.inl 0,.int ((m:Nat):Int))],rfl,(by show 1<=15;decide),?_⟩
  rw [upd_upd,show mergeK [] [((.inl 0:Key),V.int ((m:Nat):Int))]=stK m by unfold stK;rw [if_neg hm];rfl]
  have s2:=same_upd (o:=.dK (stK m)) hst
  refine ⟨_,rfl,o,AA.c_Reading,dx,_,rfl,s2 _ _ ho2,T.cl_Reading,T.na_Reading_standing,(by show 1<1000;decide),fun fl hfl=>?_⟩
  have n4:o≠fl:=fun e=>by rw [<- e,upd_same] at hfl;cases hfl
  have n5:st≠fl:=fun e=>by rw [<- e,upd_ne (Ne.symm n3),upd_same] at hfl;cases hfl
  have hfl2:H2 fl=none:=by rw [upd_ne (Ne.symm n4),upd_ne (Ne.symm n5)] at hfl;exact hfl
  refine ⟨_,rfl,o,AA.c_Reading,dx,_,rfl,(upd_ne n4).trans upd_same,T.cl_Reading,T.na_Reading_faults,(by show 2<1000;decide),?_⟩
  have keep2:∀ b u,H2 b=some u->b≠o->upd (upd (upd (upd H2 st (.dK (stK m))) o (.ins AA.c_Reading dx (putF "standing" (.ref st) [("spots",.ref sp)]))) fl (.dT [])) o (.ins AA.c_Reading dx (putF "faults" (.ref fl) (putF "standing" (.ref st) [("spots",.ref sp)]))) b=some u:=fun b u e n=>by
   rw [upd_ne n,upd_ne (ne_of_none e hfl2),upd_ne n];exact s2 _ _ e
  have hw1:∀ {b},upd H1 wi (.tup []) b=none->H1 b=none:=fun {b} e=>by
   cases eb:H1 b with
   | none=>rfl
   | some u=>rw [s1 _ _ eb] at e;cases e
  have h1n:∀ {b},H1 b=none->H b=none:=fun {b} e=>by
   cases eb:H b with
   | none=>rfl
   | some u=>rw [b0 _ _ eb (fun z=>by rw [z,e2] at e;cases e)] at e;cases e
  have no1:∀ {b},H1 b=none->b≠o:=fun e z=>by rw [z,e2] at e;cases e
  have ns1:∀ {b},H1 b=none->b≠sp:=fun e z=>by rw [z,e1] at e;cases e
  have hbd1:=hw1 hbd
  have hso1:=hw1 hso
  have hst1:H1 st=none:=by
   cases eb:H1 st with
   | none=>rfl
   | some u=>rw [keep _ _ eb (fun z=>by rw [z,f3] at hst;cases hst)] at hst;cases hst
  refine k so bd st fl _ (fun b u e n=>keep2 b u (keep b u (b0 _ _ e n) (ne_of_none e hsp)) n) (h1n hbd1) (h1n hst1) ⟨⟨dx,sp,sx,wi,upd_same,keep2 _ _ f3 (Ne.symm nsp),keep2 _ _ f1 (no1 hso1),Ne.symm (ns1 hbd1)⟩,?_,?_,keep2 _ _ f2 (no1 hbd1)⟩
  ·rw [upd_ne (Ne.symm n3),upd_ne n5,upd_ne (Ne.symm n3),upd_same]
  ·rw [upd_ne (Ne.symm n4),upd_same]
end
section
variable {P:Program} {w:World} {K:W.Frag} {mg:Str->Option Value} {base:Heap} {AA:Adr} {DD:Fds}
theorem RdAt.same {C CS:Addr} {H H':Hp} {o so bd st fl:Addr} {a:Nat} {bs:List V} (h:RdAt C CS H o so bd st fl a bs) (s:Same H H'):RdAt C CS H' o so bd st fl a bs :=
 let ⟨dx,sp,sx,wi,h1,h2,h3,h4⟩:=h.ex
 ⟨⟨dx,sp,sx,wi,s _ _ h1,s _ _ h2,s _ _ h3,h4⟩,s _ _ h.std,s _ _ h.flt,s _ _ h.bod⟩
theorem SdAt.same {H H':Hp} {x:V} {t:Addr} {e:Bool} (h:SdAt H x t e) (s:Same H H'):SdAt H' x t e:=by
 cases e with
 | true=>exact s _ _ h
 | false=>exact SaidAt.same h s
theorem SdAt.hd {H:Hp} {x:V} {t:Addr} {e:Bool} (h:SdAt H x t e):∃ (z:Str) (r:List V),H t=some (.tup (.str z::r))/\Pln z/\(e=true->z="")/\(e=false->z="tell"):=by
 cases e with
 | true=>exact ⟨"",[],h,.inr rfl,fun _=>rfl,(fun z=>by cases z)⟩
 | false =>
  obtain ⟨u,xs,a,b⟩:=h
  exact ⟨"tell",_,a,.inl rfl,(fun z=>by cases z),fun _=>rfl⟩
noncomputable def spLed (CS:Addr):Sp:=fun vs H Q _=>∃ (o so sx wi bd t:Addr) (m:Nat) (bs:List V) (x:V) (e:Bool),vs=[.ref o,.int ((m:Nat):Int),.ref t,.ref so]/\H so=some (.ins CS sx (spF wi bd))/\H bd=some (.lst bs)/\bs.length<=900/\SdAt H x t e /\
 (e=true->Q (.ref so) H)/\(e=false->∀ (q:Addr) (H1:Hp),Same H H1->H1 q=none->Q (.ref so) (upd (upd H1 q (.tup [.int ((m:Nat):Int),.ref t])) bd (.lst (bs++[.ref q]))))
noncomputable abbrev N_Zw:List Str:=["self","mask","said","spot","word","other","then","inner"]
theorem sc_Zw:FnScope N_Zw ["self","mask","said","spot"] (defScope st_Zw):=⟨rfl,rfl,rfl,by decide +kernel,rfl,by decide +kernel,by decide +kernel⟩
theorem ok_led (T:All P w K mg AA DD):FnOk P w K mg base CX0 1 AA.Zw DD.Zw ["self","mask","said","spot"] (spLed AA.c_Spot):=by
 refine T.F_Zw.ok sc_Zw (fun vs H Q E h=>?_) (fun cdv A outer s H vs Q E hr h=>?_)
 ·obtain ⟨o,so,sx,wi,bd,t,m,bs,x,e,rfl,_⟩:=h
  rfl
 ·obtain ⟨o,so,sx,wi,bd,t,m,bs,x,e,rfl,hso,hbd,h9,hS,k1,k2⟩:=h
  have nd:=sc_Zw.nd
  obtain ⟨z,r,ht,hz,z1,z2⟩:=hS.hd
  refine ⟨_,(@pss_cons _ _ _ _ _ (@ps_set _ _ 4 _ _ _ _ nd rfl (Or.inl rfl) (@pe_ix _ _ _ _ _ _ _ (ix_tupK (K:=K) rfl) (pv 2) pe_int (fun _ _=>rfl)) (by rfl) (by first | exact .inl rfl | exact .inr rfl | assumption)) (@pss_cons _ _ _ _ _ (@ps_if _ _ _ _ _ _ _ _ (@pt_cmpR _ _ _ _ _ _ _ _ op_eq (pv 4) pe_str (nomark _)) (@pss_one _ _ _ (@ps_ret _ _ _ _ (pv 3))) pss_nil) (@pss_cons _ _ _ _ _ (@ps_if _ _ _ _ _ _ _ _ (@pt_cmpR _ _ _ _ _ _ _ _ op_eq (pv 4) pe_str (nomark _)) pss_never pss_nil) (@pss_cons _ _ _ _ _ (@ps_if _ _ _ _ _ _ _ _ (@pt_cmpR _ _ _ _ _ _ _ _ op_eq (pv 4) pe_str (nomark _)) pss_never pss_nil) (@pss_cons _ _ _ _ _ (@ps_if _ _ _ _ _ _ _ _ (@pt_cmpR _ _ _ _ _ _ _ _ op_eq (pv 4) pe_str (nomark _)) pss_never pss_nil) (@pss_cons _ _ _ _ _ (@ps_if _ _ _ _ _ _ _ _ (@pt_cmpR _ _ _ _ _ _ _ _ (op_in_seqK (K:=K) rfl) (pv 4) (@pe_tup _ _ _ _ _ (@pa_cons _ _ _ _ _ pe_str (@pa_cons _ _ _ _ _ pe_str pa_nil (by rfl)) (by rfl))) rfl) pss_never pss_nil) (@pss_cons _ _ _ _ _ (@ps_expr _ _ _ _ (pe_bm PySem.F.plainAttrs_list PySem.F.slot_list_append PySem.F.type_list_append mt_append (pe_fld (pv 3) rfl) (@pa_cons _ _ _ _ _ (@pe_tup _ _ _ _ _ (@pa_cons _ _ _ _ _ (pv 1) (@pa_cons _ _ _ _ _ (pv 2) pa_nil (by rfl)) (by rfl))) pa_nil (by rfl))) (by rfl)) (@pss_one _ _ _ (@ps_ret _ _ _ _ (pv 3)))))))))),?_⟩
  refine ⟨_,rfl,t,_,_,_,rfl,rfl,SqT.of ht,atI_nat (j:=0) rfl,?_⟩
  dsimp only [gName]
  refine ⟨_,rfl,rfl,_,rfl,?_⟩
  rw [dec_str]
  cases e with
  | true =>
   rw [z1 rfl,Qo rfl]
   refine iteT ?_
   exact ⟨_,rfl,k1 rfl⟩
  | false =>
   have ez:=z2 rfl
   subst ez
   rw [Qe (show ¬ ("tell":Str)="" by decide +kernel)]
   refine iteF ?_
   refine ⟨_,rfl,rfl,_,rfl,?_⟩
   rw [dec_str,Qe (show ¬ ("tell":Str)="end" by decide +kernel)]
   refine iteF ?_
   refine ⟨_,rfl,rfl,_,rfl,?_⟩
   rw [dec_str,Qe (show ¬ ("tell":Str)="else" by decide +kernel)]
   refine iteF ?_
   refine ⟨_,rfl,rfl,_,rfl,?_⟩
   rw [dec_str,Qe (show ¬ ("tell":Str)="if" by decide +kernel)]
   refine iteF ?_
   refine ⟨_,rfl,(by show 2<=sizeLine;decide),fun pt hpt=>⟨pt,(["def","while"]:List Str).map V.str,rfl,.inr (SqT.of upd_same),rfl,rfl,_,rfl,?_⟩⟩
   have s1:=same_upd (o:=.tup [.str "def",.str "while"]) hpt
   rw [in_strs,Qe (hz.no (by decide +kernel) (by decide +kernel))]
   refine iteF ?_
   refine ⟨_,rfl,so,AA.c_Spot,sx,_,_,rfl,s1 _ _ hso,T.cl_Spot,T.na_Spot_body,rfl,.inl ⟨rfl,_,SqL.of (s1 _ _ hbd)⟩,_,rfl,_,rfl,(by show 2<=sizeLine;decide),fun q hq=>?_⟩
   have s2:=same_upd (o:=.tup [.int ((m:Nat):Int),.ref t]) hq
   refine ⟨bd,_,_,rfl,rfl,s2 _ _ (s1 _ _ hbd),small1000 (by omega),?_⟩
   exact ⟨_,rfl,k2 rfl q _ s1 hq⟩
noncomputable def Fr (st bd:Addr) (H H':Hp):Prop:=∀ b u,H b=some u->b≠st->b≠bd->H' b=some u
noncomputable def spStep (C CS:Addr):Sp:=fun vs H Q _=>∃ (o so bd st fl t:Addr) (a m:Nat) (bs:List V) (x:V) (e:Bool),vs=[.ref o,.int ((m:Nat):Int),x,.ref t,.ref so]/\RdAt C CS H o so bd st fl a bs/\m≠0/\bs.length<=900/\SdAt H x t e /\
 (e=true->∀ H',Fr st bd H H'->RdAt C CS H' o so bd st fl (a ||| m) bs->Q .non H')/\(e=false->∀ q H',Fr st bd H H'->H' q=some (.tup [.int ((m:Nat):Int),.ref t])->RdAt C CS H' o so bd st fl (a ||| m) (bs++[.ref q])->Q .non H')
theorem rd_st {C CS:Addr} {H:Hp} {o so bd st fl:Addr} {a:Nat} {bs:List V} (h:RdAt C CS H o so bd st fl a bs) (a':Nat):RdAt C CS (upd H st (.dK (stK a'))) o so bd st fl a' bs:=by
 obtain ⟨dx,sp,sx,wi,h1,h2,h3,h4⟩:=h.ex
 have n:∀ {b u},H b=some u->u≠.dK (stK a)->b≠st:=fun e n z=>by rw [z,h.std] at e;exact n (Ql e).symm
 refine ⟨⟨dx,sp,sx,wi,?_,?_,?_,h4⟩,upd_same,?_,?_⟩
 ·rw [upd_ne (n h1 (fun z=>by cases z))];exact h1
 ·rw [upd_ne (n h2 (fun z=>by cases z))];exact h2
 ·rw [upd_ne (n h3 (fun z=>by cases z))];exact h3
 ·rw [upd_ne (n h.flt (fun z=>by cases z))];exact h.flt
 ·rw [upd_ne (n h.bod (fun z=>by cases z))];exact h.bod
theorem rd_bd {C CS:Addr} {H:Hp} {o so bd st fl:Addr} {a:Nat} {bs:List V} (h:RdAt C CS H o so bd st fl a bs) (bs':List V):RdAt C CS (upd H bd (.lst bs')) o so bd st fl a bs':=by
 obtain ⟨dx,sp,sx,wi,h1,h2,h3,h4⟩:=h.ex
 have n:∀ {b u},H b=some u->(∀ l,u≠.lst l)->b≠bd:=fun e n z=>by rw [z,h.bod] at e;exact n _ (Ql e).symm
 refine ⟨⟨dx,sp,sx,wi,?_,?_,?_,h4⟩,?_,?_,upd_same⟩
 ·rw [upd_ne (n h1 (fun l z=>by cases z))];exact h1
 ·rw [upd_ne h4];exact h2
 ·rw [upd_ne (n h3 (fun l z=>by cases z))];exact h3
 ·rw [upd_ne (n h.std (fun l z=>by cases z))];exact h.std
 ·rw [upd_ne (n h.flt (fun l z=>by cases z))];exact h.flt
noncomputable abbrev N_Zo:List Str:=["self","mask","at","said","spot","word","what"]
theorem sc_Zo:FnScope N_Zo ["self","mask","at","said","spot"] (defScope st_Zo):=⟨rfl,rfl,rfl,by decide +kernel,rfl,by decide +kernel,by decide +kernel⟩
theorem ok_step (T:All P w K mg AA DD):FnOk P w K mg base CX0 3 AA.Zo DD.Zo ["self","mask","at","said","spot"] (spStep AA.c_Reading AA.c_Spot):=by
 have GF:=ok_fault (base:=base) T
 have GL:=ok_led (base:=base) T
 have GD:=ok_add (base:=base) T
 refine T.F_Zo.ok sc_Zo (fun vs H Q E h=>?_) (fun cdv A outer s H vs Q E hr h=>?_)
 ·obtain ⟨o,so,bd,st,fl,t,a,m,bs,x,e,rfl,_⟩:=h
  rfl
 ·obtain ⟨o,so,bd,st,fl,t,a,m,bs,x,e,rfl,hR,hm,h9,hS,k1,k2⟩:=h
  have nd:=sc_Zo.nd
  have hr1:Room 1 _:=hr.mono (by decide)
  have hr2:Room 2 _:=hr
  obtain ⟨z,r,ht,hz,z1,z2⟩:=hS.hd
  refine ⟨_,(@pss_cons _ _ _ _ _ (@ps_set _ _ 5 _ _ _ _ nd rfl (Or.inl rfl) (@pe_ix _ _ _ _ _ _ _ (ix_tupK (K:=K) rfl) (pv 3) pe_int (fun _ _=>rfl)) (by rfl) (by first | exact .inl rfl | exact .inr rfl | assumption)) (@pss_cons _ _ _ _ _ (@ps_set _ _ 6 _ _ _ _ nd rfl (Or.inl rfl) (pe_ifExp (@pt_cmpR _ _ _ _ _ _ _ _ op_eq (pv 5) pe_str (nomark _)) pe_str (pe_call GF hr2 rfl T.m_Zr T.k_Zr T.b_Zr .nil pass0 (@pa_cons _ _ _ _ _ (pv 5) (@pa_cons _ _ _ _ _ (pe_fld (pv 4) rfl) pa_nil (by rfl)) (by rfl)))) (by rfl) (by first | exact .inl rfl | exact .inr rfl | assumption)) (@pss_one _ _ _ (@ps_if _ _ _ _ _ _ _ _ (pt_cmp (pc_isN (pv 6))) (@pss_one _ _ _ (@ps_expr _ _ _ _ (pe_call GD hr1 rfl T.m_ZV T.k_ZV T.b_ZV .nil pass0 (@pa_cons _ _ _ _ _ (pe_fld (pv 0) rfl) (@pa_cons _ _ _ _ _ (pe_fld (pe_meth (pv 0) T.cl_Reading T.M_Zw GL hr1 T.b_Zw .nil pass0 (@pa_cons _ _ _ _ _ (pv 1) (@pa_cons _ _ _ _ _ (pv 3) (@pa_cons _ _ _ _ _ (pv 4) pa_nil (by rfl)) (by rfl)) (by rfl))) rfl) (@pa_cons _ _ _ _ _ (pv 1) pa_nil (by rfl)) (by rfl)) (by rfl))) (by rfl))) (@pss_one _ _ _ (@ps_expr _ _ _ _ (pe_no) (by rfl))))))),?_⟩
  refine ⟨_,rfl,t,_,_,_,rfl,rfl,SqT.of ht,atI_nat (j:=0) rfl,?_⟩
  dsimp only [gName]
  obtain ⟨dx,sp,sx,wi,h1,h2,h3,h4⟩:=hR.ex
  refine ⟨_,rfl,rfl,_,rfl,?_⟩
  rw [dec_str,Qe (hz.ne (by decide +kernel) (by decide +kernel))]
  refine iteF ?_
  refine ⟨_,rfl,_,rfl,so,AA.c_Spot,sx,_,_,rfl,h3,T.cl_Spot,T.na_Spot_within,rfl,z,_,rfl,hz,fun H1 s1=>?_⟩
  dsimp only [gName]
  refine ⟨_,rfl,_,rfl,iteT ?_⟩
  have hR1:=hR.same s1
  refine ⟨_,rfl,o,AA.c_Reading,dx,_,_,rfl,s1 _ _ h1,T.cl_Reading,T.na_Reading_standing,rfl,?_⟩
  refine ⟨_,rfl,o,dx,_,rfl,s1 _ _ h1,rfl,_,rfl,_,rfl,_,rfl,?_⟩
  refine ⟨o,so,sx,wi,bd,t,m,bs,x,e,rfl,s1 _ _ h3,hR1.bod,h9,hS.same s1,fun ee=>?_,fun ee q H2 s2 hq=>?_⟩
  ·refine ⟨so,AA.c_Spot,sx,_,_,rfl,s1 _ _ h3,T.cl_Spot,T.na_Spot_number,rfl,_,rfl,?_⟩
   refine ⟨st,a,m,rfl,hR1.std,hm,?_⟩
   exact k1 ee _ (fun b u eb n1 n2=>by rw [upd_ne n1];exact s1 _ _ eb) (rd_st hR1 _)
  ·have s12:=s1.trans s2
   have s3:=same_upd (o:=.tup [.int ((m:Nat):Int),.ref t]) hq
   have hR3:=rd_bd ((hR.same s12).same s3) (bs++[.ref q])
   obtain ⟨dx',sp',sx',wi',g1,g2,g3,g4⟩:=hR3.ex
   refine ⟨so,AA.c_Spot,_,_,_,rfl,g3,T.cl_Spot,T.na_Spot_number,rfl,_,rfl,?_⟩
   refine ⟨st,a,m,rfl,hR3.std,hm,?_⟩
   have nqb:q≠bd:=fun ez=>by rw [ez,(hR.same s12).bod] at hq;cases hq
   have nqs:q≠st:=fun ez=>by rw [ez,(hR.same s12).std] at hq;cases hq
   refine k2 ee q _ (fun b u eb n1 n2=>by rw [upd_ne n1,upd_ne n2];exact s3 _ _ (s12 _ _ eb)) ?_ (rd_st hR3 _)
   rw [upd_ne nqs,upd_ne nqb,upd_same]
noncomputable def StAt (H:Hp) (v:V) (p:Nat × Nat):Prop:=∃ q t,v=.ref q/\H q=some (.tup [.int ((p.2:Nat):Int),.ref t])/\SaidAt H (.int ((p.1:Nat):Int)) t
noncomputable def BdAt (H:Hp):List V->List (Nat × Nat)->Prop:=Paired (StAt H)
theorem StAt.kept {H H':Hp} {v:V} {p:Nat × Nat} (h:StAt H v p) (s:TupS H H'):StAt H' v p:=by
 obtain ⟨q,t,rfl,h1,e,xs,h2,h3⟩:=h
 exact ⟨q,t,rfl,s _ _ h1,e,xs,s _ _ h2,s _ _ h3⟩
theorem BdAt.kept {H H':Hp} {vs:List V} {ps:List (Nat × Nat)} (h:BdAt H vs ps) (s:TupS H H'):BdAt H' vs ps:=Paired.mapP h fun _ _ x=>x.kept s
theorem BdAt.app {H:Hp} {ws:List V} {qs:List (Nat × Nat)} (h2:BdAt H ws qs):∀ {vs:List V} {ps:List (Nat × Nat)},BdAt H vs ps->BdAt H (vs++ws) (ps++qs)
 | _,_,.nil=>h2
 | _,_,.cons a b=>.cons a (BdAt.app h2 b)
noncomputable def newI (at_:Nat) (vars:List WK):List (Nat × Nat):=(vars.filter fun p=>!p.1.isEmpty).map fun p=>(at_,p.2)
theorem newI_snoc (at_:Nat) (vars:List WK) (p:WK):newI at_ (vars++[p])=newI at_ vars++(if p.1=[] then [] else [(at_,p.2)]):=by
 unfold newI
 rw [QJ,QD]
 congr 1
 cases e:p.1 with
 | nil=>simp [e]
 | cons a r=>simp [e]
theorem Fr.tups {C CS:Addr} {H H':Hp} {o so bd st fl:Addr} {a:Nat} {bs:List V} (f:Fr st bd H H') (h:RdAt C CS H o so bd st fl a bs):TupS H H':=fun b xs e=>f _ _ e (fun z=>by rw [z,h.std] at e;cases e) fun z=>by rw [z,h.bod] at e;cases e
structure VsOk (M:Nat) (vars:List WK):Prop where
 few:vars.length<=16
 ms:∀ p∈vars,p.2≠0/\p.2 &&& M=p.2
 ws:∀ p∈vars,WsOk p.1/\p.1.length<=900/\(p.1≠[]->Tell p.1)
noncomputable def spGo (C CS:Addr):Sp:=fun vs H Q _=>∃ (o so bd st fl cl:Addr) (M at_:Nat) (bs:List V) (vars:List WK),vs=[.ref o,.int ((at_:Nat):Int),.ref cl]/\RdAt C CS H o so bd st fl M bs/\M≠0/\bs.length<=800/\cl≠bd/\VarAt H cl vars/\VsOk M vars /\
 ∀ st' ns H',H st'=none->(∀ b u,H b=some u->b≠o->b≠bd->H' b=some u)->RdAt C CS H' o so bd st' fl (seenU vars) (bs++ns)->BdAt H' ns (newI at_ vars)->Q .non H'
noncomputable abbrev N_Zi:List Str:=["self","at","cuts","before","mask","words","said","number","there"]
theorem sc_Zi:FnScope N_Zi ["self","at","cuts"] (defScope st_Zi):=⟨rfl,rfl,rfl,by decide +kernel,rfl,by decide +kernel,by decide +kernel⟩
theorem ok_go (T:All P w K mg AA DD):FnOk P w K mg base CX0 10 AA.Zi DD.Zi ["self","at","cuts"] (spGo AA.c_Reading AA.c_Spot):=by
 have GC:=ok_rcut (base:=base) T
 have GT:=ok_step (base:=base) T
 refine T.F_Zi.ok sc_Zi (fun vs H Q E h=>?_) (fun cdv A outer s H vs Q E hr h=>?_)
 ·obtain ⟨o,so,bd,st,fl,cl,M,at_,bs,vars,rfl,_⟩:=h
  rfl
 ·obtain ⟨o,so,bd,st,fl,cl,M,at_,bs,vars,rfl,hR,hM,h8,ncb,hV,hvo,kq⟩:=h
  have nd:=sc_Zi.nd
  have hr9:Room 9 _:=hr
  have hr3:Room 3 _:=hr.mono (by decide)
  obtain ⟨dx,sp,sx,wi,h1,h2,h3,h4⟩:=hR.ex
  refine ⟨_,(@pss_cons _ _ _ _ _ (@ps_set _ _ 3 _ _ _ _ nd rfl (Or.inl rfl) (pe_litems rfl rfl T.n_list (pe_fld (pv 0) rfl)) (by rfl) (by first | exact .inl rfl | exact .inr rfl | assumption)) (@pss_cons _ _ _ _ _ (ps_fld (pv 0) pe_dnewK rfl) (@pss_one _ _ _ (@ps_for _ _ _ _ _ _ _ _ PassesOwn.never rfl (pi_list (pv 2)) (pg_tup rfl (pgs_cons (pg_name (i:=4) nd rfl (Or.inl rfl)) (pgs_cons (pg_name (i:=5) nd rfl (Or.inl rfl)) pgs_nil))) (@pss_cons _ _ _ _ _ (@ps_set _ _ 6 _ _ _ _ nd rfl (Or.inl rfl) (pe_call GC hr9 rfl T.m_ZO T.k_ZO T.b_ZO .nil pass0 (@pa_cons _ _ _ _ _ (pv 5) (@pa_cons _ _ _ _ _ (pv 1) pa_nil (by rfl)) (by rfl))) (by rfl) (by first | exact .inl rfl | exact .inr rfl | assumption)) (@pss_one _ _ _ (@ps_for _ _ _ _ _ _ _ _ PassesOwn.never rfl (pi_list (pv 3)) (pg_tup rfl (pgs_cons (pg_name (i:=7) nd rfl (Or.inl rfl)) (pgs_cons (pg_name (i:=8) nd rfl (Or.inl rfl)) pgs_nil))) (@pss_one _ _ _ (@ps_if _ _ _ _ _ _ _ _ (@pt_cmpR _ _ _ _ _ _ _ _ op_ne (@pe_op _ _ _ _ _ _ _ _ op_and (pv 4) (pv 8)) pe_int (nomark _)) (@pss_one _ _ _ (@ps_expr _ _ _ _ (pe_meth (pv 0) T.cl_Reading T.M_Zo GT hr3 T.b_Zo .nil pass0 (@pa_cons _ _ _ _ _ (@pe_op _ _ _ _ _ _ _ _ op_and (pv 4) (pv 8)) (@pa_cons _ _ _ _ _ (pv 1) (@pa_cons _ _ _ _ _ (pv 6) (@pa_cons _ _ _ _ _ (@pe_ix _ _ _ _ _ _ _ (ix_listK (K:=K) rfl) (pe_fld (pv 0) rfl) (pv 7) (fun _ _=>rfl)) pa_nil (by rfl)) (by rfl)) (by rfl)) (by rfl))) (by rfl))) pss_nil)) (by intro _;rfl)))) (by intro _;rfl))))),?_⟩
  have hst:H st=some (.dK [((.inl 0:Key),V.int ((M:Nat):Int))]):=by rw [hR.std];unfold stK;rw [if_neg hM]
  refine ⟨_,rfl,o,AA.c_Reading,dx,_,_,rfl,h1,T.cl_Reading,T.na_Reading_standing,rfl,st,.inl 0,_,rfl,hst,fun t0 l0 ht0 hl0 nlt=>?_⟩
  dsimp only [gName]
  have s0:Same H (upd (upd H l0 (.lst [.ref t0])) t0 (.tup [kV (.inl 0),.int ((M:Nat):Int)])):=(same_upd hl0).trans (same_upd (by rw [upd_ne (Ne.symm nlt)];exact ht0))
  have hl1:upd (upd H l0 (.lst [.ref t0])) t0 (.tup [kV (.inl 0),.int ((M:Nat):Int)]) l0=some (.lst [.ref t0]):=by rw [upd_ne nlt,upd_same]
  have ht1:upd (upd H l0 (.lst [.ref t0])) t0 (.tup [kV (.inl 0),.int ((M:Nat):Int)]) t0=some (.tup [.int 0,.int ((M:Nat):Int)]):=upd_same
  generalize upd (upd H l0 (.lst [.ref t0])) t0 (.tup [kV (.inl 0),.int ((M:Nat):Int)])=H1 at s0 hl1 ht1 ⊢
  refine fun st2 hst2=>?_
  have no2:o≠st2:=ne_of_none (s0 _ _ h1) hst2
  refine ⟨_,rfl,o,AA.c_Reading,dx,_,rfl,(upd_ne no2).trans (s0 _ _ h1),T.cl_Reading,T.na_Reading_standing,(by show 3<1000;decide),?_⟩
  have nl0:l0≠bd:=Ne.symm (ne_of_none hR.bod hl0)
  have fr0:∀ b u,H1 b=some u->b≠o->upd (upd H1 st2 (.dK [])) o (.ins AA.c_Reading dx (putF "standing" (.ref st2) [("spots",.ref sp),("standing",.ref st),("faults",.ref fl)])) b=some u:=fun b u e n=>by rw [upd_ne n,upd_ne (ne_of_none e hst2)];exact e
  have no:∀ {b u},H1 b=some u->(∀ c d f,u≠.ins c d f)->b≠o:=fun e n z=>by rw [z,s0 _ _ h1] at e;exact n _ _ _ (Ql e).symm
  have hR2:RdAt AA.c_Reading AA.c_Spot (upd (upd H1 st2 (.dK [])) o (.ins AA.c_Reading dx (putF "standing" (.ref st2) [("spots",.ref sp),("standing",.ref st),("faults",.ref fl)]))) o so bd st2 fl 0 bs :=
   ⟨⟨dx,sp,sx,wi,upd_same,fr0 _ _ (s0 _ _ h2) (no (s0 _ _ h2) (fun _ _ _ z=>by cases z)),fr0 _ _ (s0 _ _ h3) (fun z=>by
     have:=h3;rw [z,h1] at this;exact absurd (congrArg (fun z=>match z with | some (HO.ins _ _ fs)=>List.length fs | _=>0) this) (by show ¬ (3=5);decide)),h4⟩,by rw [upd_ne (Ne.symm no2),upd_same];rfl,fr0 _ _ (s0 _ _ hR.flt) (no (s0 _ _ hR.flt) (fun _ _ _ z=>by cases z)),fr0 _ _ (s0 _ _ hR.bod) (no (s0 _ _ hR.bod) (fun _ _ _ z=>by cases z))⟩
  have hl2:=fr0 _ _ hl1 (no hl1 (fun _ _ _ z=>by cases z))
  have ht2:=fr0 _ _ ht1 (no ht1 (fun _ _ _ z=>by cases z))
  have fr1:∀ b u,H b=some u->b≠o->upd (upd H1 st2 (.dK [])) o (.ins AA.c_Reading dx (putF "standing" (.ref st2) [("spots",.ref sp),("standing",.ref st),("faults",.ref fl)])) b=some u:=fun b u e n=>fr0 _ _ (s0 _ _ e) n
  generalize upd (upd H1 st2 (.dK [])) o (.ins AA.c_Reading dx (putF "standing" (.ref st2) [("spots",.ref sp),("standing",.ref st),("faults",.ref fl)]))=H2 at hR2 hl2 ht2 fr1 ⊢
  obtain ⟨ts,hcl,htl,hts⟩:=hV.ex
  have nco:cl≠o:=fun z=>by rw [z,h1] at hcl;cases hcl
  have nTo:∀ {b xs},H b=some (.tup xs)->b≠o:=fun e z=>by rw [z,h1] at e;cases e
  have nTb:∀ {b xs},H b=some (.tup xs)->b≠bd:=fun e z=>by rw [z,hR.bod] at e;cases e
  have h16:=hvo.few
  refine ⟨_,rfl,cl,rfl,⟨_,SqL.of (fr1 _ _ hcl nco)⟩,?_⟩
  refine for_list (K:=K) (a:=cl) (xs:=ts.map V.ref) (fun i σ' H'=>∃ (s4 s5 s6 s7 s8:Option V) (ns:List V),σ'=[some (.ref o),some (.int ((at_:Nat):Int)),some (.ref cl),some (.ref l0),s4,s5,s6,s7,s8]/\(∀ b u,H b=some u->b≠o->b≠bd->H' b=some u)/\H' l0=some (.lst [.ref t0])/\H' t0=some (.tup [.int 0,.int ((M:Nat):Int)])/\RdAt AA.c_Reading AA.c_Spot H' o so bd st2 fl (seenU (vars.take i)) (bs++ns)/\BdAt H' ns (newI at_ (vars.take i))/\ns.length<=i)
   ⟨none,none,none,none,none,[],rfl,fun b u e n _=>fr1 b u e n,hl2,ht2,by rw [List.append_nil];exact hR2,.nil,Qh _⟩ (fun i σ' H' _ hsl86=>by obtain ⟨_,_,_,_,_,_,_,e,_⟩:=hsl86;exact SqL.of (e _ _ hcl nco ncb)) ?_ ?_
  ·rintro i y σ' H3 hy ⟨s4,s5,s6,s7,s8,ns,rfl,hfr,hl3,ht3,hR3,hB3,hnl⟩
   have hi:i<ts.length:=by
    have:=(Qc hy).1
    simpa using this
   have hiv:i<vars.length:=by omega
   have ey:y=V.ref ts[i]:=by rw [Qk,Qa hi] at hy;exact (Ql hy).symm
   subst ey
   obtain ⟨b,htu,hbw⟩:=hts i ts[i] vars[i] (Qa hi) (Qa hiv)
   obtain ⟨hp0,hpM⟩:=hvo.ms vars[i] (QB hiv)
   obtain ⟨hwo,hwl,hwt⟩:=hvo.ws vars[i] (QB hiv)
   have etk:vars.take (i+1)=vars.take i++[vars[i]]:=QF hiv
   generalize vars[i]=p at htu hbw hp0 hpM hwo hwl hwt etk
   refine ⟨ts[i],_,rfl,SqT.of (hfr _ _ htu (nTo htu) (nTb htu)),rfl,_,_,rfl,_,_,rfl,rfl,?_⟩
   refine ⟨_,rfl,_,rfl,b,p.1,_,rfl,hfr _ _ hbw (nTo hbw) (nTb hbw),hwo,hwl,hwt,fun t H4 s34 hS4=>?_⟩
   dsimp only [gName]
   refine ⟨_,rfl,l0,rfl,⟨_,SqL.of (s34 _ _ hl3)⟩,?_⟩
   have hR4:=hR3.same s34
   obtain ⟨dx4,sp4,sx4,wi4,g1,g2,g3,g4⟩:=hR4.ex
   refine for_list (K:=K) (a:=l0) (xs:=[.ref t0]) (fun j σ' H'=>(j=0/\σ'=[some (.ref o),some (.int ((at_:Nat):Int)),some (.ref cl),some (.ref l0),some (.int ((p.2:Nat):Int)),some (.ref b),some (.ref t),s7,s8]/\H'=H4)∨(j=1/\∃ (s4 s5 s6 s7 s8:Option V) (ns:List V),σ'=[some (.ref o),some (.int ((at_:Nat):Int)),some (.ref cl),some (.ref l0),s4,s5,s6,s7,s8]/\(∀ b u,H b=some u->b≠o->b≠bd->H' b=some u)/\H' l0=some (.lst [.ref t0])/\H' t0=some (.tup [.int 0,.int ((M:Nat):Int)])/\RdAt AA.c_Reading AA.c_Spot H' o so bd st2 fl (seenU (vars.take (i+1))) (bs++ns)/\BdAt H' ns (newI at_ (vars.take (i+1)))/\ns.length<=i+1))
    (.inl ⟨rfl,rfl,rfl⟩) ?_ ?_ ?_
   ·rintro j σ' H' _ (⟨_,_,rfl⟩ | ⟨_,_,_,_,_,_,_,_,_,e,_⟩)
    ·exact SqL.of (s34 _ _ hl3)
    ·exact SqL.of e
   ·rintro j y σ' H5 hy (⟨rfl,rfl,rfl⟩ | ⟨rfl,_⟩)
    ·have ey:y=V.ref t0:=(Ql (show some (V.ref t0)=some y from hy)).symm
     subst ey
     refine ⟨t0,_,rfl,SqT.of (s34 _ _ ht3),rfl,_,_,rfl,_,_,rfl,rfl,?_⟩
     refine ⟨_,rfl,_,rfl,_,_,rfl,rfl,rfl,_,rfl,?_⟩
     refine iteTb (by
      show (!decide (V.int (Builtin.bitAnd ((p.2:Nat):Int) ((M:Nat):Int))=V.int 0))=true
      rw [bitAnd_nat,hpM,Qe (show ¬ V.int ((p.2:Nat):Int)=V.int 0 from fun e=>hp0 (by injection e with e;omega))];rfl) ?_
     refine ⟨_,rfl,o,dx4,_,rfl,g1,rfl,_,rfl,_,rfl,_,_,rfl,rfl,_,rfl,_,rfl,?_⟩
     refine ⟨_,rfl,o,AA.c_Reading,dx4,_,_,rfl,g1,T.cl_Reading,T.na_Reading_spots,rfl,_,rfl,sp4,_,_,_,rfl,rfl,SqL.of g2,atI_nat (j:=0) rfl,?_⟩
     dsimp only
     rw [bitAnd_nat,hpM]
     have nst:∀ {b u},H b=some u->b≠o->b≠bd->b≠st2:=fun {b u} e n1 n2 z=>by
      have:=ne_of_none (s0 _ _ e) hst2
      exact this z
     refine ⟨o,so,bd,st2,fl,t,_,p.2,_,_,p.1.isEmpty,rfl,hR4,hp0,by rw [Qj];omega,hS4,fun ee H6 f6 hR6=>?_,fun ee q H6 f6 hq6 hR6=>?_⟩
     ·have hpe:p.1=[]:=by
       cases e:p.1 with
       | nil=>rfl
       | cons a r=>rw [e] at ee;cases ee
      have t6:=f6.tups hR4
      refine .inr ⟨rfl,_,_,_,_,_,ns,rfl,fun b u e n1 n2=>f6 _ _ (s34 _ _ (hfr b u e n1 n2)) (nst e n1 n2) n2,f6 _ _ (s34 _ _ hl3) ?_ nl0,t6 _ _ (s34 _ _ ht3),?_,?_,by omega⟩
      ·exact fun z=>by have:=s34 _ _ hl3;rw [z,hR4.std] at this;cases this
      ·rw [etk,seenU_snoc];exact hR6
      ·rw [etk,newI_snoc,if_pos hpe,List.append_nil]
       exact (hB3.kept (fun b xs e=>s34 _ _ e)).kept t6
     ·have hpe:¬ p.1=[]:=fun e=>by rw [e] at ee;cases ee
      have t6:=f6.tups hR4
      refine .inr ⟨rfl,_,_,_,_,_,ns++[.ref q],rfl,fun b u e n1 n2=>f6 _ _ (s34 _ _ (hfr b u e n1 n2)) (nst e n1 n2) n2,f6 _ _ (s34 _ _ hl3) ?_ nl0,t6 _ _ (s34 _ _ ht3),?_,?_,by rw [Qj];exact Nat.succ_le_succ hnl⟩
      ·exact fun z=>by have:=s34 _ _ hl3;rw [z,hR4.std] at this;cases this
      ·rw [etk,seenU_snoc,<- QK];exact hR6
      ·rw [etk,newI_snoc,if_neg hpe]
       refine BdAt.app (.cons ⟨q,t,rfl,hq6,?_⟩ .nil) ((hB3.kept (fun b xs e=>s34 _ _ e)).kept t6)
       rw [ee] at hS4
       obtain ⟨u,xs,a1,a2⟩:=hS4
       exact ⟨u,xs,t6 _ _ a1,t6 _ _ a2⟩
    ·exact absurd hy (by simp)
   ·rintro σ' H5 (⟨e,_⟩ | ⟨_,h5⟩)
    ·cases e
    ·exact h5
  ·rintro σ' H3 ⟨s4,s5,s6,s7,s8,ns,rfl,hfr,hl3,ht3,hR3,hB3,hnl⟩
   have el:(ts.map V.ref).length=vars.length:=by rw [Qd,htl]
   rw [el,QH] at hR3 hB3
   exact kq st2 ns H3 (by
    cases e:H st2 with
    | none=>rfl
    | some u=>rw [s0 _ _ e] at hst2;cases hst2) hfr hR3 hB3
end
section
variable {P:Program} {w:World} {K:W.Frag} {mg:Str->Option Value} {base:Heap} {AA:Adr} {DD:Fds}
noncomputable def spLeast:Sp:=fun vs H Q _=>∃ m:Nat,vs=[.int m]/\m≠0/\Q (.int ((lst m:Nat):Int)) H
theorem low_is {m t q:Nat} (e:m=2 ^ (t+1)*q+2 ^ t):lst m=t:=by
 have hb:m.testBit t=true:=by rw [e];exact low_bit t q
 obtain ⟨_,_,h2⟩:=lst_head hb
 rcases Nat.lt_or_ge (lst m) t with z | z
 ·rw [e] at h2 z;rw [low_bits z] at h2;cases h2
 ·exact Nat.le_antisymm (lst_le hb) z
noncomputable abbrev N_ZX:List Str:=["mask"]
theorem sc_ZX:FnScope N_ZX ["mask"] (defScope st_ZX):=⟨rfl,rfl,rfl,by decide +kernel,rfl,by decide +kernel,by decide +kernel⟩
theorem ok_ZX (T:All P w K mg AA DD):FnOk P w K mg base CX0 1 AA.ZX DD.ZX ["mask"] spLeast:=by
 refine T.F_ZX.ok sc_ZX (fun vs H Q E h=>?_) (fun cdv A outer s H vs Q E hr h=>?_)
 ·obtain ⟨m,rfl,_⟩:=h
  rfl
 ·obtain ⟨m,rfl,h',k⟩:=h
  have nd:=sc_ZX.nd
  refine ⟨_,(@pss_cons _ _ _ _ _ (@ps_if _ _ _ _ _ _ _ _ (@pt_cmpR _ _ _ _ _ _ _ _ op_eq (pv 0) pe_int (nomark _)) (@pss_one _ _ _ (@ps_ret _ _ _ _ pe_non)) pss_nil) (@pss_one _ _ _ (@ps_ret _ _ _ _ (@pe_op _ _ _ _ _ _ _ _ op_sub (pe_bm0 PySem.F.plainAttrs_int PySem.F.slot_int_bit_length PySem.F.type_int_bit_length mt_bitlen (@pe_op _ _ _ _ _ _ _ _ op_xor (pv 0) (@pe_op _ _ _ _ _ _ _ _ op_sub (pv 0) pe_int))) pe_int)))),?_⟩
  refine ⟨_,rfl,rfl,_,rfl,?_⟩
  rw [Qe (fun z=>h' (by injection z with z;omega))]
  refine iteF ?_
  obtain ⟨t,q,e⟩:=lowest m m (Qh _) h'
  refine ⟨_,rfl,_,rfl,_,_,rfl,rfl,_,_,rfl,rfl,rfl,_,rfl,rfl,_,_,rfl,rfl,?_⟩
  have hp:=Nat.two_pow_pos t
  have e1:(m:Int)-1=((m-1:Nat):Int):=by omega
  have e2:Builtin.bitXor (m:Int) ((m:Int)-1)=((2 ^ (t+1)-1:Nat):Int):=by rw [e1,bitXor_nat,e,low_xor]
  rw [e2,bits_ones]
  have e3:(((t+1:Nat):Int))-1=(t:Int):=by omega
  dsimp only
  rw [e3]
  rw [low_is e] at k
  exact k
noncomputable def keyOf (p:Nat × Nat):List Key:=[.inl ((p.1:Nat):Int),.inl ((lst p.2:Nat):Int)]
noncomputable def spRL:Sp:=fun vs H Q _=>∃ (v:V) (p:Nat × Nat),vs=[v]/\StAt H v p/\p.2≠0/\∀ q H',Same H H'->H' q=some (.tup ((keyOf p).map kV))->Q (.ref q) H'
noncomputable abbrev N_Zh:List Str:=["pair"]
theorem sc_Zh:FnScope N_Zh ["pair"] (defScope st_Zh):=⟨rfl,rfl,rfl,by decide +kernel,rfl,by decide +kernel,by decide +kernel⟩
theorem ok_rl (T:All P w K mg AA DD):FnOk P w K mg base CX0 2 AA.Zh DD.Zh ["pair"] spRL:=by
 have GL:=ok_ZX (base:=base) T
 refine T.F_Zh.ok sc_Zh (fun vs H Q E h=>?_) (fun cdv A outer s H vs Q E hr h=>?_)
 ·obtain ⟨v,p,rfl,_⟩:=h
  rfl
 ·obtain ⟨v,p,rfl,⟨q,t,rfl,hq,e,xs,ht,he⟩,hp,k⟩:=h
  have nd:=sc_Zh.nd
  have hr1:Room 1 _:=hr
  refine ⟨_,(@pss_one _ _ _ (@ps_ret _ _ _ _ (@pe_tup _ _ _ _ _ (@pa_cons _ _ _ _ _ (@pe_ix _ _ _ _ _ _ _ (ix_tupK (K:=K) rfl) (@pe_ix _ _ _ _ _ _ _ (ix_tupK (K:=K) rfl) (pv 0) pe_int (fun _ _=>rfl)) pe_int (fun _ _=>rfl)) (@pa_cons _ _ _ _ _ (pe_call GL hr1 rfl T.m_ZX T.k_ZX T.b_ZX .nil pass0 (@pa_cons _ _ _ _ _ (@pe_ix _ _ _ _ _ _ _ (ix_tupK (K:=K) rfl) (pv 0) pe_int (fun _ _=>rfl)) pa_nil (by rfl))) pa_nil (by rfl)) (by rfl))))),?_⟩
  refine ⟨_,rfl,q,_,_,_,rfl,rfl,SqT.of hq,rfl,?_⟩
  refine ⟨t,_,_,_,rfl,rfl,SqT.of ht,atI_nat (j:=1) rfl,?_⟩
  refine ⟨_,rfl,q,_,_,_,rfl,rfl,SqT.of hq,rfl,?_⟩
  refine ⟨p.2,rfl,hp,(by show 2<=sizeLine;decide),fun r hr=>?_⟩
  exact k r _ (same_upd hr) upd_same
theorem kit_sl (K:W.Frag):W.kitOne K (.type "str") (.type "list")=some false:=by rfl
theorem kit_il (K:W.Frag):W.kitOne K (.type "int") (.type "list")=some false:=by rfl
theorem kit_tl (K:W.Frag):W.kitOne K (.type "tuple") (.type "list")=some false:=by rfl
noncomputable def spKS:Sp:=fun vs H Q _=>∃ (t:Addr) (n:Int) (M:V),vs=[.ref t,M]/\SaidAt H (.int n) t/\∀ t' H',Same H H'->SaidAt H' (.int n) t'->Q (.ref t') H'
noncomputable abbrev N_Zf:List Str:=["one","mask"]
theorem sc_Zf:FnScope N_Zf ["one","mask"] (defScope st_Zf):=⟨rfl,rfl,rfl,by decide +kernel,rfl,by decide +kernel,by decide +kernel⟩
theorem ok_kst (T:All P w K mg AA DD):FnOk P w K mg base CX0 1 AA.Zf DD.Zf ["one","mask"] spKS:=by
 refine T.F_Zf.ok sc_Zf (fun vs H Q E h=>?_) (fun cdv A outer s H vs Q E hr h=>?_)
 ·obtain ⟨t,n,M,rfl,_⟩:=h
  rfl
 ·obtain ⟨t,n,M,rfl,⟨e,xs,ht,he⟩,kq⟩:=h
  have nd:=sc_Zf.nd
  refine ⟨_,(@pss_one _ _ _ (@ps_ret _ _ _ _ (pe_callTy call_tuple_of rfl T.n_tuple bt_tuple (@pa_cons _ _ _ _ _ (pe_comp (defScope st_Zf) N_Zf ["mask"] [1] rfl (by exact ⟨rfl,rfl,by decide +kernel,rfl,by decide +kernel,by decide +kernel,by decide +kernel,rfl,by decide +kernel⟩) rfl rfl (pi_tup (pv 0)) (fun _ _ _ _=>pif_nil) (fun _ _ _ _=>(pe_ifExp (pt_val (pe_callB (call_isinstK (K:=K) (n:="list") rfl) rfl T.n_isinstance bt_isi (@pa_cons _ _ _ _ _ (pv 0) (@pa_cons _ _ _ _ _ (pe_bltn (v:=.ty "list") rfl T.n_list bt_list rfl) pa_nil (by rfl)) (by rfl)))) (pe_no) (pv 0)))) pa_nil (by rfl))))),?_⟩
  refine ⟨_,rfl,t,rfl,⟨_,SqT.of ht⟩,?_⟩
  refine comp_tup (K:=K) (a:=t) (xs:=[.str "tell",.int n,.ref e]) (fun i ys H'=>H'=H/\i<=3/\ys=([.str "tell",.int n,.ref e]:List V).take i) ⟨rfl,Qr _,rfl⟩ (fun i ys H' _ h=>by rw [h.1];exact SqT.of ht) ?_ ?_
  ·rintro i x ys H1 hx ⟨rfl,hi,rfl⟩
   have hil:i<3:=(Qc hx).1
   refine tYes_ok ?_
   rw [if_pos rfl]
   have ty:∃ ty,TyOf K H1 x ty/\W.kitOne K ty (.type "list")=some false:=by
    rcases i with _ | _ | _ | i
    ·cases (show some (V.str "tell")=some x from hx);exact ⟨_,.str _,kit_sl K⟩
    ·cases (show some (V.int n)=some x from hx);exact ⟨_,.int _,kit_il K⟩
    ·cases (show some (V.ref e)=some x from hx);exact ⟨_,.tup he,kit_tl K⟩
    ·omega
   obtain ⟨ty0,ty,kb⟩:=ty
   refine ⟨_,rfl,_,_,false,rfl,ty,kb,_,rfl,iteF ?_⟩
   refine ⟨_,rfl,small1000 (by rw [QE];show min i 3<=_;omega),rfl,hil,?_⟩
   rw [List.take_succ,hx]
   rfl
  ·rintro ys H1 ⟨rfl,_,rfl⟩ p hp
   have s1:=same_upd (o:=.lst [.str "tell",.int n,.ref e]) hp
   refine ⟨p,_,rfl,.inl ⟨SqL.of upd_same,fun l hl=>?_⟩⟩
   have s2:=same_upd (o:=.tup [.str "tell",.int n,.ref e]) hl
   exact kq l _ (s1.trans s2) ⟨e,xs,upd_same,(s1.trans s2) _ _ he⟩
noncomputable def Before (p q:Nat × Nat):Prop:=p.1<q.1∨(p.1=q.1/\lst p.2<lst q.2)
theorem lt_before {p q:Nat × Nat} (h:Before p q):ltT (keyOf q) (keyOf p)=false:=by
 show (if (Sum.inl ((q.1:Nat):Int):Key)=Sum.inl ((p.1:Nat):Int) then (if (Sum.inl ((lst q.2:Nat):Int):Key)=Sum.inl ((lst p.2:Nat):Int) then false else decide (((lst q.2:Nat):Int)<((lst p.2:Nat):Int))) else decide (((q.1:Nat):Int)<((p.1:Nat):Int)))=false
 rcases h with h | ⟨h,h2⟩
 ·rw [if_neg (fun z=>by injection z with z;omega)]
  exact Qe (by omega)
 ·rw [if_pos (by rw [h]),if_neg (fun z=>by injection z with z;omega)]
  exact Qe (by omega)
noncomputable def spKT:Sp:=fun vs H Q _=>∃ (l:Addr) (bs:List V) (its:List (Nat × Nat)) (M:Nat),vs=[.ref l,.int ((M:Nat):Int)]/\H l=some (.lst bs)/\BdAt H bs its/\its.length<=900/\(∀ p∈its,p.2≠0/\p.2 &&& M=p.2)/\(∀ i (p q:Nat × Nat),its[i]?=some p->its[i+1]?=some q->Before p q) /\
 ∀ p ys H',Same H H'->H' p=some (.lst ys)->BdAt H' ys its->Q (.ref p) H'
theorem BdAt.get {H:Hp}:∀ {vs:List V} {ps:List (Nat × Nat)},BdAt H vs ps->∀ {i:Nat} {v:V},vs[i]?=some v->∃ p,ps[i]?=some p/\StAt H v p
 | _,_,.nil,i,v,h=>by simp at h
 | _,_,.cons a b,0,v,h=>by cases (show some _=some v from h);exact ⟨_,rfl,a⟩
 | _,_,.cons a b,i+1,v,h=>BdAt.get b h
noncomputable abbrev N_ZB:List Str:=["tree","mask","kept"]
theorem sc_ZB:FnScope N_ZB ["tree","mask"] (defScope st_ZB):=⟨rfl,rfl,rfl,by decide +kernel,rfl,by decide +kernel,by decide +kernel⟩
theorem ok_kt (T:All P w K mg AA DD):FnOk P w K mg base CX0 5 AA.ZB DD.ZB ["tree","mask"] spKT:=by
 have GR:=ok_rl (base:=base) T
 have GS:=ok_kst (base:=base) T
 refine T.F_ZB.ok sc_ZB (fun vs H Q E h=>?_) (fun cdv A outer s H vs Q E hr h=>?_)
 ·obtain ⟨l,bs,its,M,rfl,_⟩:=h
  rfl
 ·obtain ⟨l,bs,its,M,rfl,hl,hB,h9,hms,hasc,kq⟩:=h
  have nd:=sc_ZB.nd
  have hr1:Room 1 _:=hr.mono (by decide)
  have hr4:Room 4 _:=hr
  refine ⟨_,(@pss_cons _ _ _ _ _ (ps_setcomp2 (i:=2) (xs:=["there","one"]) (defScope st_ZB) N_ZB ["mask"] [1] rfl (by exact ⟨rfl,rfl,by decide +kernel,by decide +kernel,by decide +kernel,by decide +kernel,by decide +kernel,rfl,by decide +kernel⟩) rfl rfl (pi_list (pv 0)) (fun _ _ _ _=>(pg_tupK (K:=K) (n:=2) rfl rfl (pgs_cons (pg_name (i:=0) (show (["there","one","mask"]:List Str).Nodup by decide +kernel) rfl (Or.inl rfl)) (pgs_cons (pg_name (i:=1) (show (["there","one","mask"]:List Str).Nodup by decide +kernel) rfl (Or.inl rfl)) pgs_nil)))) (fun _ _ _ _=>pif_one (pt_cmpR op_ne (pe_op op_and (pv 0) (pv 2)) pe_int (nomark _))) (fun _ _ _ _=>(@pe_tup _ _ _ _ _ (@pa_cons _ _ _ _ _ (@pe_op _ _ _ _ _ _ _ _ op_and (pv 0) (pv 2)) (@pa_cons _ _ _ _ _ (pe_call GS hr1 rfl T.m_Zf T.k_Zf T.b_Zf .nil pass0 (@pa_cons _ _ _ _ _ (pv 1) (@pa_cons _ _ _ _ _ (pv 2) pa_nil (by rfl)) (by rfl))) pa_nil (by rfl)) (by rfl)))) nd rfl rfl rfl) (@pss_one _ _ _ (@ps_ret _ _ _ _ (pe_sortKT (K:=K) rfl GR hr4 T.b_Zh .nil rfl T.n_sorted rfl T.m_Zh (pv 2))))),?_⟩
  refine ⟨_,rfl,l,rfl,⟨_,SqL.of hl⟩,?_⟩
  have hbl:bs.length=its.length:=Paired.length hB
  refine comp2_list (K:=K) (a:=l) (xs:=bs) (fun i ys H'=>Same H H'/\i<=bs.length/\BdAt H' ys (its.take i)) ⟨Same.refl _,Qr _,.nil⟩ (fun i ys H' _ h=>SqL.of (h.1 _ _ hl)) ?_ ?_
  ·rintro i x ys H1 hx ⟨sm,hi,hys⟩
   obtain ⟨p,hp,hSt⟩:=hB.get hx
   obtain ⟨q,t,rfl,hq,hS⟩:=hSt.kept (fun b xs e=>sm _ _ e)
   have hil:=(Qc hp).1
   have hyl:ys.length=_:=Paired.length hys
   rw [QE] at hyl
   have htk:its.take (i+1)=its.take i++[p]:=by
    rw [QF hil]
    rw [Qa hil] at hp
    rw [Ql hp]
   obtain ⟨hp0,hpM⟩:=hms p (Qz hp)
   intro os hos
   obtain ⟨a,b,rfl⟩:∃ a b,os=[a,b]:=by
    match os,hos with
    | [a,b],_=>exact ⟨a,b,rfl⟩
   refine ⟨q,_,rfl,SqT.of hq,rfl,_,_,rfl,_,_,rfl,rfl,⟨[_,_],rfl,rfl⟩,?_⟩
   refine ⟨_,rfl,_,rfl,_,_,rfl,rfl,rfl,_,rfl,?_⟩
   refine iteTb (by
     show (!decide (V.int (Builtin.bitAnd ((p.2:Nat):Int) ((M:Nat):Int))=V.int 0))=true
     rw [bitAnd_nat,hpM,Qe (show ¬ V.int ((p.2:Nat):Int)=V.int 0 from fun e=>hp0 (by injection e with e;omega))];rfl) ?_
   refine ⟨_,rfl,_,rfl,_,_,rfl,rfl,_,rfl,_,rfl,t,_,_,rfl,hS,fun t2 H2 s2 hS2=>?_⟩
   refine ⟨(by show 2<=sizeLine;decide),fun q2 hq2=>?_⟩
   dsimp only
   rw [bitAnd_nat,hpM]
   have s3:=same_upd (o:=.tup [.int ((p.2:Nat):Int),.ref t2]) hq2
   refine ⟨small1000 (by omega),(sm.trans s2).trans s3,by have:=(Qc hx).1;omega,?_⟩
   rw [htk]
   exact BdAt.app (.cons ⟨q2,t2,rfl,upd_same,hS2.same s3⟩ .nil) (hys.kept (fun b xs e=>(s2.trans s3) _ _ e))
  ·rintro ys H1 ⟨sm,hi,hys⟩ p hp
   have s1:=same_upd (o:=.lst ys) hp
   rw [hbl,QH] at hys
   have hyl:ys.length=its.length:=Paired.length hys
   have hys1:=hys.kept (fun b xs e=>s1 _ _ e)
   refine ⟨_,rfl,p,ys,its.map keyOf,[true,true],rfl,SqL.of upd_same,by omega,?_,by simp [hyl],fun d hd=>?_,by simp,fun i x d H' s2 hx hd Q' kQ=>?_,fun q H' s2 hq=>?_⟩
   ·intro i hi
    rw [Qd] at hi
    have hi':i<its.length:=by omega
    show ltT ((its.map keyOf).getD (i+1) []) ((its.map keyOf).getD i [])=false
    have e1:(its.map keyOf).getD (i+1) []=keyOf its[i+1]:=by simp [Qu,hi]
    have e2:(its.map keyOf).getD i []=keyOf its[i]:=by simp [Qu,hi']
    rw [e1,e2]
    exact lt_before (hasc i _ _ (Qa hi') (Qa hi))
   ·obtain ⟨t,_,rfl⟩:=Qy hd
    rfl
   ·obtain ⟨r,hr,hSt⟩:=hys1.get hx
    rw [Qk,hr] at hd
    cases (show some (keyOf r)=some d from hd)
    exact ⟨x,r,rfl,hSt.kept (fun b xs e=>s2 _ _ e),(hms r (Qz hr)).1,fun q H2 s3 hq=>kQ q H2 s3 hq⟩
   ·rw [srt_id (by rw [Qd,hyl])]
    have s3:=same_upd (o:=.lst ys) hq
    exact kq q ys _ (((sm.trans s1).trans s2).trans s3) upd_same (hys1.kept (fun b xs e=>(s2.trans s3) _ _ e))
theorem bt_sorted:bootBuiltins "sorted"=some (.builtin "sorted"):=by decide +kernel
noncomputable def spWM:Sp:=fun vs H Q _=>∃ d:Addr,vs=[.ref d]/\H d=some (.dT [])/\∀ p H',Same H H'->H' p=some (.lst [])->Q (.ref p) H'
noncomputable abbrev N_Zx:List Str:=["found"]
theorem sc_Zx:FnScope N_Zx ["found"] (defScope st_Zx):=⟨rfl,rfl,rfl,by decide +kernel,rfl,by decide +kernel,by decide +kernel⟩
theorem ok_wm (T:All P w K mg AA DD):FnOk P w K mg base CX0 1 AA.Zx DD.Zx ["found"] spWM:=by
 refine T.F_Zx.ok sc_Zx (fun vs H Q E h=>?_) (fun cdv A outer s H vs Q E hr h=>?_)
 ·obtain ⟨d,rfl,_⟩:=h
  rfl
 ·obtain ⟨d,rfl,hd,kq⟩:=h
  have nd:=sc_Zx.nd
  refine ⟨_,(@pss_one _ _ _ (@ps_ret _ _ _ _ (pe_comp (defScope st_Zx) N_Zx ["found"] [0] rfl (by exact ⟨rfl,rfl,by decide +kernel,rfl,by decide +kernel,by decide +kernel,by decide +kernel,rfl,by decide +kernel⟩) rfl rfl (pi_list (pe_callB (call_sortedD rfl) rfl T.n_sorted bt_sorted (@pa_cons _ _ _ _ _ (pv 0) pa_nil (by rfl)))) (fun _ _ _ _=>pif_nil) (fun _ _ _ _=>(pe_no))))),?_⟩
  refine ⟨_,rfl,d,[],[true],rfl,hd,(by show 0<1000;decide),(fun i hi=>absurd hi (by simp)),(fun kv hkv=>nomatch hkv),by simp,fun p xs hp hT=>?_⟩
  have hx:xs=[]:=List.eq_nil_of_length_eq_zero hT.1
  subst hx
  rw [srt_id rfl]
  have s1:=same_upd (o:=.lst []) hp
  refine ⟨p,rfl,⟨_,SqL.of upd_same⟩,?_⟩
  refine comp_list (K:=K) (a:=p) (xs:=[]) (fun i ys H'=>H'=upd H p (.lst [])/\ys=[]) ⟨rfl,rfl⟩ (fun i ys H' _ h=>by rw [h.1];exact SqL.of upd_same) (fun i x ys H1 hx=>by simp at hx) ?_
  rintro ys H1 ⟨rfl,rfl⟩ q hq
  exact kq q _ (s1.trans (same_upd hq)) upd_same
end
section
variable {P:Program} {w:World} {K:W.Frag} {mg:Str->Option Value} {base:Heap} {AA:Adr} {DD:Fds}
noncomputable def spEnd (C CS:Addr):Sp:=fun vs H Q _=>∃ (o so bd st fl:Addr) (a:Nat) (bs:List V) (x:V),vs=[.ref o,x]/\RdAt C CS H o so bd st fl a bs/\∀ H',(∀ b u,H b=some u->b≠st->H' b=some u)->Rd H' st (.dK (stK a))->Q .non H'
noncomputable abbrev N_Zg:List Str:=["self","at","number","mask"]
theorem sc_Zg:FnScope N_Zg ["self","at"] (defScope st_Zg):=⟨rfl,rfl,rfl,by decide +kernel,rfl,by decide +kernel,by decide +kernel⟩
theorem ok_end (T:All P w K mg AA DD):FnOk P w K mg base CX0 1 AA.Zg DD.Zg ["self","at"] (spEnd AA.c_Reading AA.c_Spot):=by
 obtain ⟨tT,hTOP⟩:=T.v_TOP
 refine T.F_Zg.ok sc_Zg (fun vs H Q E h=>?_) (fun cdv A outer s H vs Q E hr h=>?_)
 ·obtain ⟨o,so,bd,st,fl,a,bs,x,rfl,_⟩:=h
  rfl
 ·obtain ⟨o,so,bd,st,fl,a,bs,x,rfl,hR,kq⟩:=h
  have nd:=sc_Zg.nd
  obtain ⟨dx,sp,sx,wi,h1,h2,h3,h4⟩:=hR.ex
  refine ⟨_,(@pss_one _ _ _ (@ps_for _ _ _ _ _ _ _ _ PassesOwn.never rfl (pi_ditemK (pe_fld (pv 0) rfl)) (pg_tup rfl (pgs_cons (pg_name (i:=2) nd rfl (Or.inl rfl)) (pgs_cons (pg_name (i:=3) nd rfl (Or.inl rfl)) pgs_nil))) (@pss_one _ _ _ (@ps_if _ _ _ _ _ _ _ _ (@pt_cmpR _ _ _ _ _ _ _ _ op_ne (pv 2) (pe_glob (v:=.int 0) rfl hTOP ⟨_,rfl⟩) (nomark _)) (@pss_one _ _ _ (@ps_expr _ _ _ _ (pe_no) (by rfl))) pss_nil)) (by intro _;rfl))),?_⟩
  refine ⟨_,rfl,o,AA.c_Reading,dx,_,_,rfl,h1,T.cl_Reading,T.na_Reading_standing,rfl,st,stK a,rfl,hR.std,fun od=>?_⟩
  refine for_ditemK (d:=st) (od:=od) (kvs:=stK a) (fun i σ' H'=>(∀ b u,H b=some u->b≠st->H' b=some u)/\H' st=some (.frz od (.dK (stK a)))/\∃ s2 s3:Option V,σ'=[some (.ref o),some x,s2,s3]) ⟨fun b u e n=>by rw [upd_ne n];exact e,upd_same,none,none,rfl⟩ (fun i σ' H' _ h=>h.2.1) ?_ ?_
  ·rintro i kv t σ' H1 hk ht ⟨hf,hz,s2,s3,rfl⟩
   have hkv:kv=((.inl 0:Key),V.int ((a:Nat):Int)):=by
    unfold stK at hk
    split at hk
    ·simp at hk
    ·have:=Qz hk
     simpa using this
   subst hkv
   refine ⟨t,_,rfl,SqT.of upd_same,rfl,_,_,rfl,_,_,rfl,rfl,?_⟩
   refine ⟨_,rfl,rfl,_,rfl,?_⟩
   refine iteF ?_
   have s1:=same_upd (o:=.tup [kV (.inl 0),.int ((a:Nat):Int)]) ht
   exact ⟨fun b u e n=>s1 _ _ (hf b u e n),s1 _ _ hz,_,_,rfl⟩
  ·rintro σ' H1 ⟨hf,hz,s2,s3,rfl⟩
   exact kq H1 hf (.inr ⟨od,hz⟩)
noncomputable def itsOf (rows:List (List (Str × Nat))) (M:Nat):Nat->List (Nat × Nat)
 | 0=>[]
 | n+1=>itsOf rows M n++newI n (varsOf (rows.getD n []) M)
noncomputable def Fine (r:List (Str × Nat)):Prop:=r.length<=900/\∀ s,WsOk (cutR s r)/\(cutR s r≠[]->Tell (cutR s r))
theorem vars_ok {r:List (Str × Nat)} {M:Nat} (hf:Fine r) (hl:(varsOf r M).length<=16):VsOk M (varsOf r M):=by
 have vi:VI (fun s=>cutR s r) (insd M) (varsOf r M):=vi_all (sets_pw M _)
 refine ⟨hl,fun p hp=>?_,fun p hp=>?_⟩
 ·obtain ⟨s,hs⟩:=vi.ex p hp
  refine ⟨fun e=>by rw [e] at hs;simp at hs,Nat.eq_of_testBit_eq fun t=>?_⟩
  rw [Nat.testBit_and]
  cases ht:p.2.testBit t with
  | false=>rfl
  | true=>rw [(mem_insd M t).mp ((vi.bit p hp t).mp ht).1];rfl
 ·obtain ⟨s,hs⟩:=vi.ex p hp
  have e:cutR s r=p.1:=((vi.bit p hp s).mp hs).2
  obtain ⟨h1,h2⟩:=hf.2 s
  rw [<- e]
  refine ⟨h1,?_,h2⟩
  have:=List.length_filter_le (fun w:Str × Nat=>w.2.testBit s) r
  rw [cutR,Qd]
  exact QA this hf.1
theorem vars_seen (r:List (Str × Nat)) (M:Nat):seenU (varsOf r M)=M:=VI.whole (c:=fun s=>cutR s r) (vi_all (sets_pw M _)) fun s=>(mem_insd M s).symm
theorem vars_pw (r:List (Str × Nat)) (M:Nat):(varsOf r M).Pairwise fun p q=>lst p.2<lst q.2:=by
 have vi:VI (fun s=>cutR s r) (insd M) (varsOf r M):=vi_all (sets_pw M _)
 refine List.pairwise_iff_getElem.mpr fun i j hi hj hij=>?_
 obtain ⟨s,hs,hl⟩:=vi.ord i j _ _ hij (Qa hi) (Qa hj)
 obtain ⟨t,ht⟩:=vi.ex _ (QB hj)
 obtain ⟨_,_,hb⟩:=lst_head ht
 exact QL (lst_le hs) (hl _ hb)
theorem its_mem {rows:List (List (Str × Nat))} {M:Nat}:∀ {n:Nat} {p:Nat × Nat},p∈itsOf rows M n->∃ k q,k<n/\q∈varsOf (rows.getD k []) M/\p=(k,q.2)
 | 0,p,h=>by cases h
 | n+1,p,h=>by
  rcases Qx h with h | h
  ·obtain ⟨k,q,a,b⟩:=its_mem h
   exact ⟨k,q,by omega,b⟩
  ·obtain ⟨q,hq,rfl⟩:=Qy h
   exact ⟨n,q,by omega,(List.mem_filter.mp hq).1,rfl⟩
theorem its_pw (rows:List (List (Str × Nat))) (M:Nat):∀ n,(itsOf rows M n).Pairwise Before
 | 0=>.nil
 | n+1=>by
  refine List.pairwise_append.mpr ⟨its_pw rows M n,?_,fun p hp q hq=>?_⟩
  ·refine List.pairwise_map.mpr ((vars_pw _ M).filter _ |>.imp fun h=>?_)
   exact .inr ⟨rfl,h⟩
  ·obtain ⟨k,_,hk,_,rfl⟩:=its_mem hp
   obtain ⟨u,_,rfl⟩:=Qy hq
   exact .inl hk
theorem newI_len (n:Nat) (vars:List WK):(newI n vars).length<=vars.length:=by
 unfold newI
 rw [Qd]
 exact List.length_filter_le _ _
noncomputable def spSh (X:Addr):Sp:=fun vs H Q E=>∃ (rp:Addr) (ls:List Addr) (rows:List (List (Str × Nat))) (M:Nat),vs=[.ref rp,.int ((M:Nat):Int)]/\RowsAt H rp ls rows/\M≠0/\M<2 ^ 1024/\rows.length<=20/\(∀ r∈rows,Fine r) /\
 ((∀ r∈rows,(varsOf r M).length<=16)->∀ p tr fl ys H',Same H H'->H' p=some (.tup [.ref tr,.ref fl])->H' tr=some (.lst ys)->BdAt H' ys (itsOf rows M rows.length)->H' fl=some (.lst [])->Q (.ref p) H') /\
 (∀ at_ r,rows[at_]?=some r->16<(varsOf r M).length->(∀ i q,i<at_->rows[i]?=some q->(varsOf q M).length<=16)->ErrAt E X (.int ((at_:Nat):Int)) H)
noncomputable abbrev N_Zs:List Str:=["rows","mask","cuts","reading","at","found","tree"]
theorem sc_Zs:FnScope N_Zs ["rows","mask"] (defScope st_Zs):=⟨rfl,rfl,rfl,by decide +kernel,rfl,by decide +kernel,by decide +kernel⟩
theorem ok_shared (T:All P w K mg AA DD):FnOk P w K mg base (CX2 (fun _=>True) P w) 12 AA.Zs DD.Zs ["rows","mask"] (spSh AA.x_TooMany):=by
 have GV:=ok_ZN (base:=base) T
 have GR:=ok_rinit (base:=base) T
 have GG:=ok_go (base:=base) T
 have GE:=ok_end (base:=base) T
 have GK:=ok_kt (base:=base) T
 have GW:=ok_wm (base:=base) T
 obtain ⟨tT,hTOP⟩:=T.v_TOP
 refine T.F_Zs.ok2 sc_Zs (fun vs H Q E h=>?_) (fun cdv A outer s H vs Q E hr h=>?_)
 ·obtain ⟨rp,ls,rows,M,rfl,_⟩:=h
  rfl
 ·obtain ⟨rp,ls,rows,M,rfl,hRw,hM,hM2,h20,hfi,kq,kx⟩:=h
  have nd:=sc_Zs.nd
  have hu:=hu_of hr
  have hr3:Room 3 _:=hr.mono (by decide)
  have hr5:Room 5 _:=hr.mono (by decide)
  have hr10:Room 10 _:=hr.mono (by decide)
  have hr1:Room 1 _:=hr.mono (by decide)
  refine ⟨_,(@pss_cons _ _ _ _ _ (ps_setcomp2X (κ:=fun _=>True) (i:=2) body_cx xok2 (xs:=["at","row"]) (defScope st_Zs) N_Zs ["mask"] [1] rfl (by exact ⟨rfl,rfl,by decide +kernel,by decide +kernel,by decide +kernel,by decide +kernel,by decide +kernel,rfl,by decide +kernel⟩) rfl rfl (pi_enum rfl T.n_enumerate (@pa_cons _ _ _ _ _ (pv 0) pa_nil (by rfl))) (fun _ _ _ _=>(pg_tupK (K:=K) (n:=2) rfl rfl (pgs_cons (pg_name (i:=0) (show (["at","row","mask"]:List Str).Nodup by decide +kernel) rfl (Or.inl rfl)) (pgs_cons (pg_name (i:=1) (show (["at","row","mask"]:List Str).Nodup by decide +kernel) rfl (Or.inl rfl)) pgs_nil)))) (fun _ _ _ _=>pif_nil) (fun _ _ _ _=>(pex_call GV hr3 rfl T.m_ZN T.k_ZN (T.F_ZN.choose_spec.2.1) .nil (@pa_cons _ _ _ _ _ (pv 1) (@pa_cons _ _ _ _ _ (pv 2) (@pa_cons _ _ _ _ _ (pv 0) pa_nil (by rfl)) (by rfl)) (by rfl)))) nd rfl rfl rfl) (@pss_cons _ _ _ _ _ (@ps_set _ _ 3 _ _ _ _ nd rfl (Or.inl rfl) (pe_make T.M_Reading GR hr5 rfl T.m_Reading T.b_Zn .nil pass0 (@pa_cons _ _ _ _ _ (pv 1) pa_nil (by rfl))) (by rfl) (by first | exact .inl rfl | exact .inr rfl | assumption)) (@pss_cons _ _ _ _ _ (@ps_for _ _ _ _ _ _ _ _ PassesOwn.leaving rfl (pi_enum rfl T.n_enumerate (@pa_cons _ _ _ _ _ (pv 2) pa_nil (by rfl))) (pg_tup rfl (pgs_cons (pg_name (i:=4) nd rfl (Or.inl rfl)) (pgs_cons (pg_name (i:=5) nd rfl (Or.inl rfl)) pgs_nil))) (@pss_one _ _ _ (@ps_expr _ _ _ _ (pe_meth (pv 3) T.cl_Reading T.M_Zi GG hr10 T.b_Zi .nil pass0 (@pa_cons _ _ _ _ _ (pv 4) (@pa_cons _ _ _ _ _ (pv 5) pa_nil (by rfl)) (by rfl))) (by rfl))) (by intro _;rfl)) (@pss_cons _ _ _ _ _ (@ps_expr _ _ _ _ (pe_meth (pv 3) T.cl_Reading T.M_Zg GE hr1 T.b_Zg .nil pass0 (@pa_cons _ _ _ _ _ (pe_callB call_len_seq rfl T.n_len bt_len (@pa_cons _ _ _ _ _ (pv 0) pa_nil (by rfl))) pa_nil (by rfl))) (by rfl)) (@pss_cons _ _ _ _ _ (@ps_set _ _ 6 _ _ _ _ nd rfl (Or.inl rfl) (pe_call GK hr5 rfl T.m_ZB T.k_ZB T.b_ZB .nil pass0 (@pa_cons _ _ _ _ _ (pe_fld (@pe_ix _ _ _ _ _ _ _ (ix_listK (K:=K) rfl) (pe_fld (pv 3) rfl) (pe_glob (v:=.int 0) rfl hTOP ⟨_,rfl⟩) (fun _ _=>rfl)) rfl) (@pa_cons _ _ _ _ _ (pe_dget2 hu (pe_fld (pv 3) rfl) (pe_glob (v:=.int 0) rfl hTOP ⟨_,rfl⟩) pe_int ⟨by rfl,by rfl,by rfl,by rfl⟩) pa_nil (by rfl)) (by rfl))) (by rfl) (by first | exact .inl rfl | exact .inr rfl | assumption)) (@pss_one _ _ _ (@ps_ret _ _ _ _ (@pe_tup _ _ _ _ _ (@pa_cons _ _ _ _ _ (pv 6) (@pa_cons _ _ _ _ _ (pe_call GW hr1 rfl T.m_Zx T.k_Zx T.b_Zx .nil pass0 (@pa_cons _ _ _ _ _ (pe_fld (pv 3) rfl) pa_nil (by rfl))) pa_nil (by rfl)) (by rfl)))))))))),?_⟩
  have s_of:∀ {i r},rows[i]?=some r->rows.getD i []=r:=fun h=>by rw [Qu,h];rfl
  have hll:=hRw.2.1
  refine ⟨_,rfl,rp,_,rfl,SqL.of hRw.1,?_⟩
  refine comp2_enum (K:=K) (a:=rp) (xs:=ls.map V.ref) (fun i ys H'=>i<=20/\Same H H'/\(∀ (j:Nat) (q:List (Str × Nat)),j<i->rows[j]?=some q->(varsOf q M).length<=16)/\∃ vs:List Addr,ys=vs.map V.ref/\vs.length=i/\∀ (j:Nat) (v:Addr) (r:List (Str × Nat)),vs[j]?=some v->rows[j]?=some r->VarAt H' v (varsOf r M)) ⟨Qr _,Same.refl _,fun j q h=>by omega,[],rfl,rfl,fun j v r h=>by simp at h⟩ (fun i ys H' _ hsl87=>by obtain ⟨_,e,_⟩:=hsl87;exact SqL.of (e _ _ hRw.1)) ?_ ?_
  ·rintro i x ys H1 t hx ⟨_,sm,hle,vs,rfl,hvl,hva⟩ ht
   have hi:i<ls.length:=by
    have:=(Qc hx).1
    simpa using this
   have hir:i<rows.length:=by omega
   have ex:x=V.ref ls[i]:=by rw [Qk,Qa hi] at hx;exact (Ql hx).symm
   subst ex
   have hrow:=hRw.2.2 i ls[i] rows[i] (Qa hi) (Qa hir)
   have hfr:=hfi rows[i] (QB hir)
   intro os hos
   obtain ⟨a,b,rfl⟩:∃ a b,os=[a,b]:=by
    match os,hos with
    | [a,b],_=>exact ⟨a,b,rfl⟩
   have st:=same_upd (o:=.tup [.int ((i:Nat):Int),.ref ls[i]]) ht
   refine ⟨t,_,rfl,SqT.of upd_same,rfl,_,_,rfl,_,_,rfl,rfl,⟨[_,_],rfl,rfl⟩,tYes_ok ?_⟩
   rw [if_pos rfl]
   refine ⟨_,rfl,_,rfl,_,rfl,ls[i],rows[i],M,_,rfl,hrow.same (sm.trans st),QA hfr.1 (by decide),hM2,fun h16 p H2 hp s2 hV=>?_,fun h16=>?_⟩
   ·have s12:=st.trans s2
    refine ⟨by rw [Qd];exact small1000 (by omega),by omega,sm.trans s12,fun j q hj hq=>?_,vs++[p],by simp,by simp [hvl],fun j v r h1 h2=>?_⟩
    ·by_cases hji:j<i
     ·exact hle j q hji hq
     ·have:j=i:=by omega
      subst this
      rw [Qa hir] at hq
      rw [<- Ql hq];exact h16
    ·by_cases hj:j<vs.length
     ·rw [Qv hj] at h1
      exact (hva j v r h1 h2).same s12
     ·have hjl:=(Qc h1).1
      rw [Qj,QI] at hjl
      have ej:j=i:=by omega
      subst ej
      rw [Qq (by omega),hvl,Nat.sub_self] at h1
      have e1:p=v:=by simpa using h1
      rw [Qa hir] at h2
      rw [<- e1,<- Ql h2];exact hV
   ·exact (kx i rows[i] (Qa hir) h16 hle).same (sm.trans st)
  rintro ys H1 ⟨_,sm,hle,vs,rfl,hvl,hva⟩ cl hcl
  rw [Qd,hll] at hvl hle
  have s1:=sm.trans (same_upd (o:=.lst (vs.map V.ref)) hcl)
  have hva2:∀ (j:Nat) (v:Addr) (r:List (Str × Nat)),vs[j]?=some v->rows[j]?=some r->VarAt (upd H1 cl (.lst (vs.map V.ref))) v (varsOf r M):=fun j v r a b=>(hva j v r a b).same (same_upd hcl)
  have hcl2:upd H1 cl (.lst (vs.map V.ref)) cl=some (.lst (vs.map V.ref)):=upd_same
  generalize upd H1 cl (.lst (vs.map V.ref))=H2 at s1 hva2 hcl2 ⊢
  dsimp only [gName]
  have h16:∀ r∈rows,(varsOf r M).length<=16:=fun r hr=>by
   obtain ⟨j,hj⟩:=List.mem_iff_getElem?.mp hr
   exact hle j r (Qc hj).1 hj
  have kq:=kq h16
  refine ⟨_,rfl,fun o dx ho hdx hne=>?_⟩
  refine ⟨o,dx,M,rfl,upd_same,hM,fun so bd st0 fl H3 hB hbd hst hR=>⟨rfl,?_⟩⟩
  have keep3:∀ b u,H2 b=some u->H3 b=some u:=fun b u e=>hB b u (by rw [upd_ne (ne_of_none e ho),upd_ne (ne_of_none e hdx)];exact e) (ne_of_none e ho)
  have hst2:H2 st0=none:=by
   cases e:H2 st0 with
   | none=>rfl
   | some u=>rw [upd_ne (ne_of_none e ho),upd_ne (ne_of_none e hdx),e] at hst;cases hst
  have nbd:∀ {b u},H2 b=some u->b≠bd:=fun {b u} e z=>by
   rw [z] at e
   rw [upd_ne (ne_of_none e ho),upd_ne (ne_of_none e hdx),e] at hbd
   cases hbd
  dsimp only [gName]
  refine cut_for (fun σ' H'=>∃ (s4 s5:Option V) (st:Addr) (ns:List V),σ'=[some (.ref rp),some (.int ((M:Nat):Int)),some (.ref cl),some (.ref o),s4,s5,none]/\(∀ b u,H2 b=some u->H' b=some u)/\RdAt AA.c_Reading AA.c_Spot H' o so bd st fl M ns/\H2 st=none/\BdAt H' ns (itsOf rows M rows.length)) (fun R hRR=>?_) ?_
  ·refine ⟨_,rfl,cl,_,rfl,SqL.of (keep3 _ _ hcl2),?_⟩
   refine for_enum (K:=K) (a:=cl) (xs:=vs.map V.ref) (fun i σ' H'=>∃ (s4 s5:Option V) (st:Addr) (ns:List V),σ'=[some (.ref rp),some (.int ((M:Nat):Int)),some (.ref cl),some (.ref o),s4,s5,none]/\(∀ b u,H2 b=some u->H' b=some u)/\RdAt AA.c_Reading AA.c_Spot H' o so bd st fl M ns/\H2 st=none/\BdAt H' ns (itsOf rows M i)/\(itsOf rows M i).length<=16*i)
    ⟨none,none,st0,[],rfl,keep3,hR,hst2,.nil,Qr _⟩ (fun i σ' H' _ hsl88=>by obtain ⟨_,_,_,_,_,e,_⟩:=hsl88;exact SqL.of (e _ _ hcl2)) ?_ ?_
   ·rintro i x σ' H4 t hx ⟨s4,s5,st,ns,rfl,hk4,hR4,_,hB4,hl4⟩ ht
    have hi:i<vs.length:=by
     have:=(Qc hx).1
     simpa using this
    have hir:i<rows.length:=by omega
    have ex:x=V.ref vs[i]:=by rw [Qk,Qa hi] at hx;exact (Ql hx).symm
    subst ex
    have hV:=hva2 i vs[i] rows[i] (Qa hi) (Qa hir)
    have hvk:VarAt H4 vs[i] (varsOf rows[i] M):=by
     obtain ⟨ts,g1,g2,g3⟩:=hV.ex
     exact ⟨ts,hk4 _ _ g1,g2,fun j t q a b=>by obtain ⟨c,x,y⟩:=g3 j t q a b;exact ⟨c,hk4 _ _ x,hk4 _ _ y⟩⟩
    have hv16:=h16 rows[i] (QB hir)
    have s5':=same_upd (o:=.tup [.int ((i:Nat):Int),.ref vs[i]]) ht
    have hR5:=hR4.same s5'
    obtain ⟨dx5,sp5,sx5,wi5,g1,g2,g3,g4⟩:=hR5.ex
    have hnl:ns.length=(itsOf rows M i).length:=Paired.length hB4
    refine ⟨t,_,rfl,SqT.of upd_same,rfl,_,_,rfl,_,_,rfl,rfl,?_⟩
    refine ⟨_,rfl,o,dx5,_,rfl,g1,rfl,_,rfl,_,rfl,?_⟩
    obtain ⟨_,hvl1,_⟩:=hV.ex
    refine ⟨o,so,bd,st,fl,vs[i],M,i,ns,varsOf rows[i] M,rfl,hR5,hM,by omega,nbd hvl1,hvk.same s5',vars_ok (hfi rows[i] (QB hir)) hv16,fun st2 ns2 H6 hn6 f6 hR6 hB6=>?_⟩
    rw [vars_seen] at hR6
    have t6:TupS H4 H6:=fun b xs e=>f6 _ _ (s5' _ _ e) (fun z=>by have:=s5' _ _ e;rw [z,g1] at this;cases this) fun z=>by have:=s5' _ _ e;rw [z,hR5.bod] at this;cases this
    have no5:∀ {b u},H2 b=some u->b≠o:=fun e=>ne_of_none e ho
    have eI:itsOf rows M (i+1)=itsOf rows M i++newI i (varsOf rows[i] M):=by
     show itsOf rows M i++newI i (varsOf (rows.getD i []) M)=_
     rw [s_of (Qa hir)]
    refine ⟨_,_,st2,ns++ns2,rfl,fun b u e=>f6 _ _ (s5' _ _ (hk4 _ _ e)) (no5 e) (nbd e),hR6,?_,?_,?_⟩
    ·cases e:H2 st2 with
     | none=>rfl
     | some u=>rw [s5' _ _ (hk4 _ _ e)] at hn6;cases hn6
    ·rw [eI];exact BdAt.app hB6 (hB4.kept t6)
    ·rw [eI,Qj]
     have:=newI_len i (varsOf rows[i] M)
     omega
   ·rintro σ' H4 ⟨s4,s5,st,ns,rfl,hk4,hR4,hn4,hB4,hl4⟩
    have el:(vs.map V.ref).length=rows.length:=by rw [Qd,hvl]
    rw [el] at hB4
    exact hRR _ _ ⟨s4,s5,st,ns,rfl,hk4,hR4,hn4,hB4⟩
  rintro σ' H4 ⟨s4,s5,st,ns,rfl,hk4,hR4,hn4,hB4⟩
  obtain ⟨dx4,sp4,sx4,wi4,g1,g2,g3,g4⟩:=hR4.ex
  refine ⟨_,rfl,o,dx4,_,rfl,g1,rfl,_,rfl,rp,_,rfl,.inl (SqL.of (hk4 _ _ (s1 _ _ hRw.1))),?_⟩
  refine ⟨o,so,bd,st,fl,M,ns,_,rfl,hR4,fun H5 f5 hst5=>?_⟩
  have ns5:∀ {b u},H4 b=some u->(∀ k,u≠.dK k)->b≠st:=fun e n z=>by rw [z,hR4.std] at e;exact n _ (Ql e).symm
  have e1:=f5 _ _ g1 (ns5 g1 (fun k z=>by cases z))
  have e2:=f5 _ _ g2 (ns5 g2 (fun k z=>by cases z))
  have e3:=f5 _ _ g3 (ns5 g3 (fun k z=>by cases z))
  have e4:=f5 _ _ hR4.bod (ns5 hR4.bod (fun k z=>by cases z))
  have e5:=f5 _ _ hR4.flt (ns5 hR4.flt (fun k z=>by cases z))
  have t5:TupS H4 H5:=fun b xs e=>f5 _ _ e (ns5 e (fun k z=>by cases z))
  have sH5:Same H H5:=fun b u e=>f5 _ _ (hk4 _ _ (s1 _ _ e)) (ne_of_none (s1 _ _ e) hn4)
  refine ⟨_,rfl,o,AA.c_Reading,dx4,_,_,rfl,e1,T.cl_Reading,T.na_Reading_spots,rfl,sp4,_,_,_,rfl,rfl,SqL.of e2,atI_nat (j:=0) rfl,?_⟩
  refine ⟨so,AA.c_Spot,sx4,_,_,rfl,e3,T.cl_Spot,T.na_Spot_body,rfl,?_⟩
  refine ⟨_,rfl,o,AA.c_Reading,dx4,_,_,rfl,e1,T.cl_Reading,T.na_Reading_standing,rfl,st,rfl,.inl ⟨_,hst5⟩,_,.inl ⟨stK M,.inl 0,hst5,rfl,rfl⟩,?_⟩
  rw [stK_val]
  have hvo:∀ p∈itsOf rows M rows.length,p.2≠0/\p.2 &&& M=p.2:=fun p hp=>by
   obtain ⟨k,q,hk,hq,rfl⟩:=its_mem hp
   have hkr:=Qa hk
   rw [s_of hkr] at hq
   exact (vars_ok (hfi rows[k] (QB hk)) (h16 rows[k] (QB hk))).ms q hq
  have hlen:∀ n,n<=rows.length->(itsOf rows M n).length<=16*n:=fun n=>by
   induction n with
   | zero=>intro _;exact Qh _
   | succ n ih =>
    intro hn
    have h1:=ih (by omega)
    have h2:=newI_len n (varsOf (rows.getD n []) M)
    have h3:(varsOf (rows.getD n []) M).length<=16:=by
     rw [s_of (Qa (show n<rows.length by omega))]
     exact h16 _ (QB _)
    show (itsOf rows M n++newI n (varsOf (rows.getD n []) M)).length<=_
    rw [Qj]
    omega
  have hl1:=hlen rows.length (Qh _)
  refine ⟨bd,ns,itsOf rows M rows.length,M,rfl,e4,hB4.kept t5,by omega,hvo,fun i p q hp hq=>?_,fun tr ys H6 s6 htr hys=>?_⟩
  ·have hi:=(Qc hp)
   have hj:=(Qc hq)
   have:=List.pairwise_iff_getElem.mp (its_pw rows M rows.length) i (i+1) hi.1 hj.1 (by omega)
   rw [hi.2,hj.2] at this
   exact this
  dsimp only [gName]
  refine ⟨_,rfl,_,rfl,o,AA.c_Reading,dx4,_,_,rfl,s6 _ _ e1,T.cl_Reading,T.na_Reading_faults,rfl,fl,rfl,s6 _ _ e5,fun p2 H7 s7 hp2=>?_⟩
  refine ⟨(by show 2<=sizeLine;decide),fun pr hpr=>?_⟩
  have s8:=same_upd (o:=.tup [.ref tr,.ref p2]) hpr
  exact kq pr tr p2 ys _ (((sH5.trans s6).trans s7).trans s8) upd_same ((s7.trans s8) _ _ htr) (hys.kept (fun b xs e=>(s7.trans s8) _ _ e)) (s8 _ _ hp2)
end
section
variable {P:Program} {w:World} {K:W.Frag} {mg:Str->Option Value} {base:Heap} {AA:Adr} {DD:Fds}
noncomputable def numS (k:Nat):Str:=toString ((k:Nat):Int)
noncomputable def pre4:List Ev:=[.pl "tell",.pl "do",.pl "f",.pl "x"]
noncomputable def grp (k:Nat):List Ev:=[.op (.sw k),.pl (numS k),.cl]
noncomputable def inn (ks:List Nat):List Ev:=pre4++(ks.flatMap grp++[.pl "."])
noncomputable def evR (ks:List Nat):Option Nat->List Ev
 | none=>inn ks
 | some j=>.op (.sw j)::(inn ks++[.cl])
structure RK (n:Nat) (ks:List Nat) (oc:Option Nat):Prop where
 len:ks.length<=6
 k6:∀ k∈ks,k<6
 kn:∀ k∈ks,k<n
 on:∀ j,oc=some j->j<n
 n6:n<=6
noncomputable def rowW (o:List W) (ks:List Nat):List (Str × List W):=[(("tell":Str),o),("do",o),("f",o),("x",o)]++(ks.map (fun k=>(numS k,o++[W.sw k]))++[(((".":Str)),o)])
theorem fold_grp (st:RSt) (k:Nat):(grp k).foldl stp st=(st.1++[(numS k,st.2++[W.sw k])],st.2):=by
 show ((st.1++[(numS k,st.2++[W.sw k])],(st.2++[W.sw k]).dropLast):RSt)=_
 rw [List.dropLast_concat]
theorem fold_grps:∀ (ks:List Nat) (st:RSt),(ks.flatMap grp).foldl stp st=(st.1++ks.map (fun k=>(numS k,st.2++[W.sw k])),st.2)
 | [],st=>by simp
 | k::ks,st=>by
  rw [List.flatMap_cons,List.foldl_append,fold_grp,fold_grps ks]
  simp
theorem fold_inn (ks:List Nat) (st:RSt):(inn ks).foldl stp st=(st.1++rowW st.2 ks,st.2):=by
 unfold inn
 rw [List.foldl_append,List.foldl_append,fold_grps]
 simp [pre4,stp,rowW]
noncomputable def ocl:Option Nat->List W
 | none=>[]
 | some j=>[.sw j]
theorem rn_evR (ks:List Nat) (oc:Option Nat):rn (evR ks oc)=(rowW (ocl oc) ks,[]):=by
 cases oc with
 | none=>show (inn ks).foldl stp ([],[])=_;rw [fold_inn];rfl
 | some j =>
  show (inn ks++[Ev.cl]).foldl stp (stp ([],[]) (.op (.sw j)))=_
  rw [List.foldl_append,fold_inn]
  rfl
noncomputable def GF (n:Nat):List W->List Ev->Prop
 | _,[]=>True
 | ar,e::r=>evok n ar e/\GF n (stp ([],ar) e).2 r
theorem stp_ar (st:RSt) (e:Ev):(stp st e).2=(stp ([],st.2) e).2:=by cases e<;>rfl
theorem GF.gev {n:Nat}:∀ {b a:List Ev},Gev n a->GF n (rn a).2 b->Gev n (a++b)
 | [],a,g,_=>by simpa using g
 | e::b,a,g,h=>by
  have g1:=g.snoc h.1
  have h2:GF n (rn (a++[e])).2 b:=by rw [rn_snoc,stp_ar];exact h.2
  have:=GF.gev (b:=b) g1 h2
  simpa using this
noncomputable def plB (z:Str):Bool:=z.cps.toList.all (fun c=>decide (33<=c/\c<=126))&&(match z.cps.toList with | c::_=>decide (c≠60) | []=>false)&&decide (z≠⟨#[62]⟩)&&decide (z.length<=5)
theorem pl_of {z:Str} (h:plB z=true):Pl z/\z.length<=5:=by
 unfold plB at h
 simp only [Bool.and_eq_true] at h
 obtain ⟨⟨⟨h1,h2⟩,h3⟩,h4⟩:=h
 refine ⟨⟨fun c hc=>of_decide_eq_true (List.all_eq_true.mp h1 c hc),?_,of_decide_eq_true h3⟩,of_decide_eq_true h4⟩
 cases e:z.cps.toList with
 | nil=>rw [e] at h2;cases h2
 | cons c r=>rw [e] at h2;exact ⟨c,r,rfl,of_decide_eq_true h2⟩
theorem pl_num:∀ k,k<6->plB (numS k)=true:=by decide +kernel
theorem GF.grps {n:Nat} {ar:List W} {rest:List Ev} (ha:ar.length<5) (hr:GF n ar rest):∀ ks:List Nat,(∀ k∈ks,k<6)->(∀ k∈ks,k<n)->GF n ar (ks.flatMap grp++rest)
 | [],_,_=>hr
 | k::ks,h6,hn=>by
  have ih:=GF.grps ha hr ks (fun k hk=>h6 k (Qm _ hk)) fun k hk=>hn k (Qm _ hk)
  rw [List.flatMap_cons,QK]
  refine ⟨⟨hn k Qp,by show 1<=9;decide,ha⟩,pl_of (pl_num k (h6 k Qp)),by show ar++[W.sw k]≠[];simp,?_⟩
  show GF n (ar++[W.sw k]).dropLast _
  rw [List.dropLast_concat]
  exact ih
theorem GF.inn {n:Nat} {ar:List W} {rest:List Ev} {ks:List Nat} (ha:ar.length<5) (h6:∀ k∈ks,k<6) (hn:∀ k∈ks,k<n) (hr:GF n ar rest):GF n ar (inn ks++rest):=by
 unfold K28.inn
 rw [QK,QK]
 exact ⟨pl_of (by decide +kernel),pl_of (by decide +kernel),pl_of (by decide +kernel),pl_of (by decide +kernel),GF.grps (rest:=.pl "."::rest) ha ⟨pl_of (by decide +kernel),hr⟩ ks h6 hn⟩
theorem RK.gev {n:Nat} {ks:List Nat} {oc:Option Nat} (h:RK n ks oc):Gev n (evR ks oc):=by
 have:GF n [] (evR ks oc):=by
  cases oc with
  | none =>
   have:=GF.inn (n:=n) (ar:=[]) (rest:=[]) (by decide) h.k6 h.kn trivial
   rw [List.append_nil] at this
   exact this
  | some j=>exact ⟨⟨h.on j rfl,by show 1<=9;decide,by show 0<5;decide⟩,GF.inn (by show 1<5;decide) h.k6 h.kn ⟨by show ([]++[W.sw j])≠[];simp,trivial⟩⟩
 have g:=GF.gev (a:=[]) (b:=evR ks oc) (Gev.nil n) this
 simpa using g
theorem grps_len:∀ ks:List Nat,(ks.flatMap grp).length=3*ks.length
 | []=>rfl
 | k::ks=>by rw [List.flatMap_cons,Qj,grps_len ks,List.length_cons];show 3+_=_;omega
theorem RK.elen {n:Nat} {ks:List Nat} {oc:Option Nat} (h:RK n ks oc):(evR ks oc).length<=30:=by
 have:=h.len
 have e:(inn ks).length<=24:=by
  unfold inn
  rw [Qj,Qj,grps_len]
  show 4+(3*ks.length+1)<=24
  omega
 cases oc with
 | none=>exact QA e (by decide)
 | some j=>show (inn ks++[Ev.cl]).length+1<=30;rw [Qj];show (inn ks).length+1+1<=30;omega
theorem cut_app (s:Nat) (a b:List (Str × Nat)):cutR s (a++b)=cutR s a++cutR s b:=by unfold cutR;rw [QJ,QD]
theorem ZT (s n:Nat) (o:List W) (ks:List Nat):cutR s (rowD n (rowW o ks))=if (mka n o).testBit s=true then (["tell","do","f","x"]:List Str)++((ks.filter fun k=>(mka n (o++[W.sw k])).testBit s).map numS++[((".":Str))]) else []:=by
 have e:rowD n (rowW o ks)=[(("tell":Str),mka n o),("do",mka n o),("f",mka n o),("x",mka n o)]++(ks.map (fun k=>(numS k,mka n (o++[W.sw k])))++[(((".":Str)),mka n o)]):=by
  unfold rowD rowW
  simp
 have em:cutR s (ks.map (fun k=>(numS k,mka n (o++[W.sw k]))))=(ks.filter fun k=>(mka n (o++[W.sw k])).testBit s).map numS:=by
  unfold cutR
  rw [List.filter_map,List.map_map]
  rfl
 rw [e,cut_app,cut_app,em]
 by_cases h:(mka n o).testBit s=true
 ·rw [if_pos h]
  simp [cutR,h]
 ·rw [if_neg h]
  have h':(mka n o).testBit s=false:=by simpa using h
  have:(ks.filter fun k=>(mka n (o++[W.sw k])).testBit s)=[]:=by
   rw [List.filter_eq_nil_iff]
   intro k _ hk
   rw [mka_snoc,Nat.testBit_and,h'] at hk
   cases hk
  rw [this]
  simp [cutR,h']
theorem lf_num:∀ k,k<6->isNum (numS k)=true/\numS k≠"."/\(numS k).length<=100/\∀ c∈(numS k).cps.toList,c<128:=by decide +kernel
theorem lf_x:isNum "x"=false/\("x":Str)∉(["yes","no"]:List Str)/\isName "x"=true/\isName "f"=true:=by decide +kernel
theorem tell_of {ns:List Str} (h:∀ z∈ns,∃ k,k<6/\z=numS k):Tell ((["tell","do","f","x"]:List Str)++(ns++[(".":Str)])):=by
 have hm:((["tell","do","f","x"]:List Str)++(ns++[(".":Str)]))[4+ns.length]?=some (".":Str):=by
  rw [Qq (by show 4<=_;omega)]
  show (ns++[(".":Str)])[4+ns.length-4]?=_
  rw [Nat.add_sub_cancel_left,Qq (Qh _),Nat.sub_self]
  rfl
 refine ⟨rfl,rfl,4+ns.length,?_,⟨"f",rfl,lf_x.2.2.2⟩,by omega,hm,fun j z h1 h2 hz=>?_⟩
 ·rw [Qj,Qj]
  show _=4+(ns.length+1)
  omega
 ·by_cases hj:j=3
  ·subst hj
   cases (show some ("x":Str)=some z from hz)
   exact ⟨.inr ⟨lf_x.1,lf_x.2.1,lf_x.2.2.1⟩,by decide +kernel⟩
  ·rw [Qq (by show 4<=_;omega)] at hz
   have hz:(ns++[(".":Str)])[j-4]?=some z:=hz
   rw [Qv (by omega)] at hz
   obtain ⟨k,hk,rfl⟩:=h z (Qz hz)
   exact ⟨.inl (lf_num k hk).1,(lf_num k hk).2.1⟩
theorem ws_tell {ns:List Str} (h:∀ z∈ns,∃ k,k<6/\z=numS k):WsOk ((["tell","do","f","x"]:List Str)++(ns++[(".":Str)])):=fun z hz=>by
 rcases Qx hz with hz | hz
 ·have:∀ z∈(["tell","do","f","x"]:List Str),z.length<=100/\∀ c∈z.cps.toList,c<128:=by decide +kernel
  exact this z hz
 ·rcases Qx hz with hz | hz
  ·obtain ⟨k,hk,rfl⟩:=h z hz
   exact ⟨(lf_num k hk).2.2.1,(lf_num k hk).2.2.2⟩
  ·have:∀ z∈(["."]:List Str),z.length<=100/\∀ c∈z.cps.toList,c<128:=by decide +kernel
   exact this z hz
theorem RK.fine {n:Nat} {ks:List Nat} {oc:Option Nat} (h:RK n ks oc):Fine (rowD n (rn (evR ks oc)).1):=by
 rw [rn_evR]
 refine ⟨?_,fun s=>?_⟩
 ·show (List.map _ (rowW _ ks)).length<=900
  rw [Qd]
  unfold rowW
  have:=h.len
  rw [Qj,Qj,Qd]
  show 4+(ks.length+1)<=900
  omega
 ·rw [show (rowW (ocl oc) ks,([]:List W)).1=rowW (ocl oc) ks from rfl,ZT]
  have hz:∀ z∈(ks.filter fun k=>(mka n (ocl oc++[.sw k])).testBit s).map numS,∃ k,k<6/\z=numS k:=fun z hz=>by
   obtain ⟨k,hk,rfl⟩:=Qy hz
   exact ⟨k,h.k6 k (List.mem_filter.mp hk).1,rfl⟩
  split
  ·exact ⟨ws_tell hz,fun _=>tell_of hz⟩
  ·exact ⟨(fun z hz=>nomatch hz),fun e=>absurd rfl e⟩
theorem fine_nil:Fine []:=⟨Qr _,fun s=>⟨(fun z hz=>nomatch hz),fun e=>absurd rfl e⟩⟩
noncomputable def lwC (s:Nat) (fs:List (Str × List W)):List Str:=(fs.filter fun p=>p.2.all fun v=>v.ev s).map (·.1)
theorem lwC_cut {n s:Nat} (hs:s<2 ^ n) {fs:List (Str × List W)} (h:∀ p∈fs,∀ v∈p.2,v.ok n):cutR s (rowD n fs)=lwC s fs:=by
 unfold cutR rowD lwC
 rw [List.filter_map,List.map_map]
 have:fs.filter ((fun w:Str × Nat=>w.2.testBit s)∘fun p:Str × List W=>(p.1,mka n p.2))=fs.filter fun p=>p.2.all fun v=>v.ev s:=List.filter_congr fun p hp=>by
  show (mka n p.2).testBit s=_
  exact mka_bit hs p.2 (h p hp)
 rw [this]
 rfl
theorem RK.oks {n:Nat} {ks:List Nat} {oc:Option Nat} (h:RK n ks oc):∀ p∈(rn (evR ks oc)).1,∀ v∈p.2,v.ok n:=by
 have ho:∀ v∈ocl oc,v.ok n:=fun v hv=>by
  cases oc with
  | none=>cases hv
  | some j =>
   have:v=.sw j:=by simpa [ocl] using hv
   subst this
   exact h.on j rfl
 rw [rn_evR]
 intro p hp v hv
 have hp:p∈rowW (ocl oc) ks:=hp
 unfold rowW at hp
 rcases Qx hp with hp | hp
 ·have:p.2=ocl oc:=by
   simp at hp
   rcases hp with e | e | e | e<;>rw [e]
  rw [this] at hv
  exact ho v hv
 ·rcases Qx hp with hp | hp
  ·obtain ⟨k,hk,rfl⟩:=Qy hp
   rcases Qx hv with hv | hv
   ·exact ho v hv
   ·have:v=.sw k:=by simpa using hv
    subst this
    exact h.kn k hk
  ·have e:p=((".":Str),ocl oc):=by simpa using hp
   rw [e] at hv
   exact ho v hv
end
section
variable {P:Program} {w:World} {K:W.Frag} {mg:Str->Option Value} {base:Heap} {AA:Adr} {DD:Fds}
noncomputable def spCellAt (K:W.Frag):Sp:=fun vs H Q _=>∃ (a:Addr) (ns:List Int) (k:Nat),vs=[.ref a,.int k]/\SqL K H a (ns.map V.int)/\∀ c:Int,Q (.int c) H
noncomputable abbrev N_Zt:List Str:=["_law_script","_law_k"]
theorem sc_Zt:FnScope N_Zt ["_law_script","_law_k"] (defScope st_Zt):=⟨rfl,rfl,rfl,by decide +kernel,rfl,by decide +kernel,by decide +kernel⟩
theorem ok_cellat (T:All P w K mg AA DD):FnOk P w K mg base CX0 1 AA.Zt DD.Zt ["_law_script","_law_k"] (spCellAt K):=by
 refine T.F_Zt.ok sc_Zt (fun vs H Q E h=>?_) (fun cdv A outer s H vs Q E hr h=>?_)
 ·obtain ⟨a,ns,k,rfl,_⟩:=h
  rfl
 ·obtain ⟨a,ns,j,rfl,hS,k⟩:=h
  have nd:=sc_Zt.nd
  refine ⟨_,(@pss_cons _ _ _ _ _ (@ps_if _ _ _ _ _ _ _ _ (@pt_cmpR _ _ _ _ _ _ _ _ op_lt (pv 1) (pe_callB call_len_seq rfl T.n_len bt_len (@pa_cons _ _ _ _ _ (pv 0) pa_nil (by rfl))) (nomark _)) (@pss_one _ _ _ (@ps_ret _ _ _ _ (@pe_ix _ _ _ _ _ _ _ (ix_listK (K:=K) rfl) (pv 0) (pv 1) (fun _ _=>rfl)))) pss_nil) (@pss_one _ _ _ (@ps_ret _ _ _ _ pe_int))),?_⟩
  refine ⟨_,rfl,_,rfl,a,_,rfl,.inl hS,_,_,rfl,rfl,_,rfl,?_⟩
  rw [Qd]
  refine ite2 (fun h1=>?_) (fun h1=>k 0)
  have h1:((j:Nat):Int)<(ns.length:Int):=of_decide_eq_true h1
  exact ⟨_,rfl,_,rfl,a,_,_,_,rfl,rfl,hS,atI_nat (j:=j) (by rw [Qk,Qa (by omega)];rfl),k _⟩
noncomputable def spStream:Sp:=fun vs H Q _=>∃ (c:Int),vs=[.int c,.int 2]/\∀ p (a b:Nat),H p=none->a<2 ^ 32->b<2 ^ 32->Q (.ref p) (upd H p (.lst [.int a,.int b]))
noncomputable abbrev N_ZA:List Str:=["_law_cell","_law_size","_law_found","_law_number","_law_k"]
theorem sc_ZA:FnScope N_ZA ["_law_cell","_law_size"] (defScope st_ZA):=⟨rfl,rfl,rfl,by decide +kernel,rfl,by decide +kernel,by decide +kernel⟩
theorem ok_stream (T:All P w K mg AA DD):FnOk P w K mg base CX0 1 AA.ZA DD.ZA ["_law_cell","_law_size"] spStream:=by
 refine T.F_ZA.ok sc_ZA (fun vs H Q E h=>?_) (fun cdv A outer s H vs Q E hr h=>?_)
 ·obtain ⟨c,rfl,_⟩:=h
  rfl
 ·obtain ⟨c,rfl,k⟩:=h
  have nd:=sc_ZA.nd
  refine ⟨_,(@pss_cons _ _ _ _ _ (@ps_set _ _ 2 _ _ _ _ nd rfl (Or.inl rfl) (@pe_lst _ _ _ _ pa_nil) (by rfl) (by first | exact .inl rfl | exact .inr rfl | assumption)) (@pss_cons _ _ _ _ _ (@ps_set _ _ 3 _ _ _ _ nd rfl (Or.inl rfl) (@pe_op _ _ _ _ _ _ _ _ op_mod (@pe_op _ _ _ _ _ _ _ _ op_mul (@pe_op _ _ _ _ _ _ _ _ op_add (@pe_op _ _ _ _ _ _ _ _ op_mod (pv 0) pe_int) pe_int) pe_int) pe_int) (by rfl) (by first | exact .inl rfl | exact .inr rfl | assumption)) (@pss_cons _ _ _ _ _ (@ps_for _ _ _ _ _ _ _ _ PassesOwn.never rfl (pi_range1 rfl T.n_range (@pa_cons _ _ _ _ _ (pv 1) pa_nil (by rfl))) (pg_name (i:=4) nd rfl (Or.inl rfl)) (@pss_cons _ _ _ _ _ (@ps_set _ _ 3 _ _ _ _ nd rfl (Or.inl rfl) (@pe_op _ _ _ _ _ _ _ _ op_add (@pe_op _ _ _ _ _ _ _ _ op_add (@pe_op _ _ _ _ _ _ _ _ op_mod (@pe_op _ _ _ _ _ _ _ _ op_mul (pv 3) (@pe_op _ _ _ _ _ _ _ _ op_add (@pe_op _ _ _ _ _ _ _ _ op_fdiv (pv 3) pe_int) pe_int)) pe_int) (pv 4)) pe_int) (by rfl) (by first | exact .inl rfl | exact .inr rfl | assumption)) (@pss_one _ _ _ (@ps_expr _ _ _ _ (pe_bm PySem.F.plainAttrs_list PySem.F.slot_list_append PySem.F.type_list_append mt_append (pv 2) (@pa_cons _ _ _ _ _ (pv 3) pa_nil (by rfl))) (by rfl)))) (by intro _;rfl)) (@pss_one _ _ _ (@ps_ret _ _ _ _ (pv 2)))))),?_⟩
  refine ⟨Qr _,fun p hp=>?_⟩
  have b0:=Int.emod_nonneg c (show (2147483647:Int)≠0 by decide)
  have b1:=Int.emod_lt_of_pos c (show (0:Int)<2147483647 by decide)
  refine ⟨_,rfl,_,_,rfl,rfl,(by show (0:Int)<2147483647;decide),_,_,rfl,rfl,_,_,rfl,rfl,.inl ⟨by omega,by omega⟩,_,_,rfl,rfl,(by show (0:Int)<2147483647;decide),?_⟩
  dsimp only
  generalize hy:(c % 2147483647+1)*48271 % 2147483647=y
  have y0:0<=y:=by rw [<- hy];exact Int.emod_nonneg _ (by decide)
  have y1:y<2147483647:=by rw [<- hy];exact Int.emod_lt_of_pos _ (by decide)
  refine ⟨_,rfl,_,rfl,by decide,by decide,?_⟩
  refine for_range (fun i σ H'=>∃ (x:Int) (zs:List Int) (s4:Option V),0<=x/\x<2147483660/\zs.length=i/\(∀ z∈zs,0<=z/\z<2 ^ 32)/\H'=upd H p (.lst (zs.map V.int))/\σ=[some (.int c),some (.int 2),some (.ref p),some (.int x),s4])
   ⟨_,[],none,y0,by omega,rfl,by simp,rfl,rfl⟩ ?_ ?_
  ·rintro i σ H' hi ⟨x,zs,s4,h0,h1,hl,hz,rfl,rfl⟩
   have hi:i<2:=hi
   have d0:0<=x / 1009:=Int.ediv_nonneg h0 (by decide)
   have d1:x / 1009<=x:=by omega
   refine ⟨_,rfl,_,rfl,_,_,rfl,rfl,⟨by decide,by decide⟩,_,_,rfl,rfl,_,_,rfl,rfl,.inl ⟨by omega,by omega⟩,_,_,rfl,rfl,(by show (0:Int)<2147483647;decide),_,rfl,_,_,rfl,rfl,_,_,rfl,rfl,?_⟩
   dsimp only
   generalize hw:(x*(x / 1009+69621)) % 2147483647=u
   have u0:0<=u:=by rw [<- hw];exact Int.emod_nonneg _ (by decide)
   have u1:u<2147483647:=by rw [<- hw];exact Int.emod_lt_of_pos _ (by decide)
   refine ⟨_,rfl,.inl ⟨rfl,_,SqL.of upd_same⟩,_,rfl,p,_,_,rfl,rfl,upd_same,?_,?_⟩
   ·rw [Qd];exact small1000 (by omega)
   ·refine ⟨u+(0+(i:Int))+1,zs++[u+(0+(i:Int))+1],_,by omega,by omega,by simp [hl],fun z hz'=>?_,?_,rfl⟩
    ·rcases Qx hz' with q | q
     ·exact hz z q
     ·have:z=u+(0+(i:Int))+1:=by simpa using q
      subst this
      omega
    ·rw [upd_upd,QD];rfl
  ·rintro σ H' ⟨x,zs,s4,h0,h1,hl,hz,rfl,rfl⟩
   refine ⟨_,rfl,?_⟩
   have hl:zs.length=2:=hl
   match zs,hl,hz with
   | [a,b],_,hz =>
    obtain ⟨a0,a1⟩:=hz a (by simp)
    obtain ⟨c0,c1⟩:=hz b (by simp)
    obtain ⟨a,rfl⟩:=Int.eq_ofNat_of_zero_le a0
    obtain ⟨b,rfl⟩:=Int.eq_ofNat_of_zero_le c0
    exact k p a b hp (by omega) (by omega)
noncomputable def lett (n:Nat):Str:=cutS "abcdef" none (some ((n:Nat):Int))
theorem lett_at:∀ n,(n=5∨n=6)->∀ k,k<n->(lett n).cps.toList[k]?=some (97+k):=by
 rintro n (rfl | rfl)<;>decide +kernel
theorem lett_len:∀ n,(n=5∨n=6)->(lett n).length<=6:=by
 rintro n (rfl | rfl)<;>decide +kernel
theorem wd_sw (k:Nat):wd (.op (.sw k))="<"++(⟨#[97+k]⟩:Str):=str_ext (by rw [str_app];show 60::[97+k]=_;rw [show ("<":Str).cps.toList=[60] by decide +kernel];rfl)
noncomputable def wds (evs:List Ev):List V:=(evs.map wd).map V.str
theorem wds_app (a b:List Ev):wds (a++b)=wds a++wds b:=by simp [wds]
noncomputable def spLR:Sp:=fun vs H Q _=>∃ (N n:Nat),vs=[.int ((N:Nat):Int),.int ((n:Nat):Int)]/\(n=5∨n=6)/\∀ p H' ks oc,H p=none->Same H H'->RK n ks oc->H' p=some (.lst (wds (evR ks oc)))->Q (.ref p) H'
noncomputable abbrev N_ZU:List Str:=["_law_number","_law_n","_law_letters","_law_words","_law_k"]
theorem sc_ZU:FnScope N_ZU ["_law_number","_law_n"] (defScope st_ZU):=⟨rfl,rfl,rfl,by decide +kernel,rfl,by decide +kernel,by decide +kernel⟩
theorem ok_lrow (T:All P w K mg AA DD):FnOk P w K mg base CX0 1 AA.ZU DD.ZU ["_law_number","_law_n"] spLR:=by
 refine T.F_ZU.ok sc_ZU (fun vs H Q E h=>?_) (fun cdv A outer s H vs Q E hr h=>?_)
 ·obtain ⟨N,n,rfl,_⟩:=h
  rfl
 ·obtain ⟨N,n,rfl,hn,k⟩:=h
  have nd:=sc_ZU.nd
  refine ⟨_,(@pss_cons _ _ _ _ _ (@ps_set _ _ 2 _ _ _ _ nd rfl (Or.inl rfl) (pe_slice sl_str pe_str po_none (po_some (pv 1))) (by rfl) (by first | exact .inl rfl | exact .inr rfl | assumption)) (@pss_cons _ _ _ _ _ (@ps_set _ _ 3 _ _ _ _ nd rfl (Or.inl rfl) (@pe_lst _ _ _ _ (@pa_cons _ _ _ _ _ pe_str (@pa_cons _ _ _ _ _ pe_str (@pa_cons _ _ _ _ _ pe_str (@pa_cons _ _ _ _ _ pe_str pa_nil (by rfl)) (by rfl)) (by rfl)) (by rfl))) (by rfl) (by first | exact .inl rfl | exact .inr rfl | assumption)) (@pss_cons _ _ _ _ _ (@ps_for _ _ _ _ _ _ _ _ PassesOwn.never rfl (pi_range1 rfl T.n_range (@pa_cons _ _ _ _ _ (@pe_op _ _ _ _ _ _ _ _ op_mod (pv 0) pe_int) pa_nil (by rfl))) (pg_name (i:=4) nd rfl (Or.inl rfl)) (@pss_one _ _ _ (@ps_if _ _ _ _ _ _ _ _ (PW.pt (pw_and (@pt_cmpR _ _ _ _ _ _ _ _ op_lt (pv 4) (pv 1) (nomark _)) (pw_and1 (@pt_cmpR _ _ _ _ _ _ _ _ op_eq (@pe_op _ _ _ _ _ _ _ _ op_and (@pe_op _ _ _ _ _ _ _ _ op_shr (@pe_op _ _ _ _ _ _ _ _ op_mod (@pe_op _ _ _ _ _ _ _ _ op_fdiv (pv 0) pe_int) pe_int) (pv 4)) pe_int) pe_int (nomark _))))) (@pss_one _ _ _ (@ps_set _ _ 3 _ _ _ _ nd rfl (Or.inl rfl) (@pe_op _ _ _ _ _ _ _ _ op_cat (pv 3) (@pe_lst _ _ _ _ (@pa_cons _ _ _ _ _ (@pe_op _ _ _ _ _ _ _ _ op_add_str pe_str (@pe_ix _ _ _ _ _ _ _ ix_str (pv 2) (pv 4) (fun _ _=>rfl))) (@pa_cons _ _ _ _ _ (pe_callTy call_strI rfl T.n_str bt_str (@pa_cons _ _ _ _ _ (pv 4) pa_nil (by rfl))) (@pa_cons _ _ _ _ _ pe_str pa_nil (by rfl)) (by rfl)) (by rfl)))) (by rfl) (by first | exact .inl rfl | exact .inr rfl | assumption))) pss_nil)) (by intro _;rfl)) (@pss_cons _ _ _ _ _ (@ps_expr _ _ _ _ (pe_bm PySem.F.plainAttrs_list PySem.F.slot_list_append PySem.F.type_list_append mt_append (pv 3) (@pa_cons _ _ _ _ _ pe_str pa_nil (by rfl))) (by rfl)) (@pss_cons _ _ _ _ _ (@ps_if _ _ _ _ _ _ _ _ (@pt_cmpR _ _ _ _ _ _ _ _ op_eq (@pe_op _ _ _ _ _ _ _ _ op_mod (@pe_op _ _ _ _ _ _ _ _ op_fdiv (pv 0) pe_int) pe_int) pe_int (nomark _)) (@pss_one _ _ _ (@ps_set _ _ 3 _ _ _ _ nd rfl (Or.inl rfl) (@pe_op _ _ _ _ _ _ _ _ op_cat (@pe_op _ _ _ _ _ _ _ _ op_cat (@pe_lst _ _ _ _ (@pa_cons _ _ _ _ _ (@pe_op _ _ _ _ _ _ _ _ op_add_str pe_str (@pe_ix _ _ _ _ _ _ _ ix_str (pv 2) (@pe_op _ _ _ _ _ _ _ _ op_mod (@pe_op _ _ _ _ _ _ _ _ op_fdiv (pv 0) pe_int) (pv 1)) (fun _ _=>rfl))) pa_nil (by rfl))) (pv 3)) (@pe_lst _ _ _ _ (@pa_cons _ _ _ _ _ pe_str pa_nil (by rfl)))) (by rfl) (by first | exact .inl rfl | exact .inr rfl | assumption))) pss_nil) (@pss_one _ _ _ (@ps_ret _ _ _ _ (pv 3)))))))),?_⟩
  refine ⟨_,rfl,_,rfl,_,rfl,(by decide +kernel),?_⟩
  dsimp only [gName]
  refine ⟨(by show 4<=sizeLine;decide),fun p0 hp0=>?_⟩
  dsimp only [gName]
  have hm7:((N:Nat):Int) % 7=(((N % 7:Nat)):Int):=by omega
  refine cut_for (fun σ' H'=>Same H H'/\∃ (p:Addr) (ks:List Nat) (s4:Option V),H p=none/\H' p=some (.lst (wds (pre4++ks.flatMap grp)))/\RK n ks none/\σ'=[some (.int ((N:Nat):Int)),some (.int ((n:Nat):Int)),some (.str (lett n)),some (.ref p),s4]) (fun R hRR=>?_) ?_
  ·refine ⟨_,rfl,_,_,rfl,rfl,(by show (0:Int)<7;decide),?_⟩
   refine ⟨_,rfl,by omega,by omega,?_⟩
   refine for_range (fun i σ' H'=>Same H H'/\∃ (p:Addr) (ks:List Nat) (s4:Option V),H p=none/\H' p=some (.lst (wds (pre4++ks.flatMap grp)))/\RK n ks none/\ks.length<=i/\σ'=[some (.int ((N:Nat):Int)),some (.int ((n:Nat):Int)),some (.str (lett n)),some (.ref p),s4]) ⟨same_upd hp0,p0,[],none,hp0,upd_same,⟨by simp,by simp,by simp,by simp,by omega⟩,Qr _,rfl⟩ ?_ ?_
   ·rintro i σ' H1 hi ⟨sm,p,ks,s4,hp,hpl,hk,hkl,rfl⟩
    have hi6:i<6:=by omega
    refine ⟨_,rfl,_,rfl,_,_,rfl,rfl,_,rfl,?_⟩
    refine ite2 (fun h1=>?_) (fun h1=>?_)
    ·have h1:(0:Int)+((i:Nat):Int)<((n:Nat):Int):=of_decide_eq_true h1
     have hin:i<n:=by omega
     refine ⟨_,rfl,_,_,rfl,rfl,⟨by decide,by decide⟩,_,_,rfl,rfl,(by show (0:Int)<64;decide),_,rfl,_,_,rfl,rfl,(by omega),_,_,rfl,rfl,rfl,_,rfl,?_⟩
     refine ite2 (fun h2=>?_) (fun h2=>?_)
     ·refine ⟨_,rfl,?_⟩
      have ei:(0:Int)+((i:Nat):Int)=((i:Nat):Int):=by omega
      have hl6:=lett_len n hn
      refine ⟨_,rfl,_,rfl,lett n,_,97+i,rfl,rfl,QA hl6 (by decide),(by rw [ei];exact atI_nat (lett_at n hn i hin)),_,_,rfl,rfl,(by show ("<":Str).length+1<=sizeLine;decide +kernel),_,rfl,_,rfl,QL (Nat.log2_le_self _) (by omega),(by show 3<=sizeLine;decide),fun pl hpl'=>?_⟩
      have s2:=same_upd (o:=.lst [.str ("<"++(⟨#[97+i]⟩:Str)),.str (toString ((0:Int)+((i:Nat):Int))),.str ">"]) hpl'
      have hwl:(wds (pre4++ks.flatMap grp)).length=4+3*ks.length:=by
       unfold wds
       rw [Qd,Qd,Qj,grps_len]
       rfl
      refine ⟨p,pl,_,_,rfl,rfl,s2 _ _ hpl,upd_same,(by rw [hwl];show 4+3*ks.length+3<=sizeLine;exact Nat.le_of_lt (small1000 (by omega))),fun q hq=>?_⟩
      have s3:=same_upd (o:=.lst (wds (pre4++ks.flatMap grp)++[.str ("<"++(⟨#[97+i]⟩:Str)),.str (toString ((0:Int)+((i:Nat):Int))),.str ">"])) hq
      have s123:=sm.trans s2
      refine ⟨s123.trans s3,q,ks++[i],_,?_,?_,⟨by rw [Qj];show ks.length+1<=6;omega,fun x hx=>?_,fun x hx=>?_,(fun j e=>by cases e),hk.n6⟩,by rw [Qj];show ks.length+1<=i+1;omega,rfl⟩
      ·cases e:H q with
       | none=>rfl
       | some u=>rw [s123 _ _ e] at hq;cases hq
      ·rw [upd_same,List.flatMap_append,<- QK,wds_app (pre4++List.flatMap grp ks)]
       have:wds (List.flatMap grp [i])=[.str ("<"++(⟨#[97+i]⟩:Str)),.str (toString ((0:Int)+((i:Nat):Int))),.str ">"]:=by
        show [V.str (wd (.op (.sw i))),V.str (numS i),V.str (wd .cl)]=_
        rw [wd_sw,ei]
        rfl
       rw [this]
      ·rcases Qx hx with h | h
       ·exact hk.k6 x h
       ·rw [List.mem_singleton.mp h];exact hi6
      ·rcases Qx hx with h | h
       ·exact hk.kn x h
       ·rw [List.mem_singleton.mp h];exact hin
     ·exact ⟨sm,p,ks,_,hp,hpl,hk,by omega,rfl⟩
    ·exact ⟨sm,p,ks,_,hp,hpl,hk,by omega,rfl⟩
   ·rintro σ' H1 ⟨sm,p,ks,s4,hp,hpl,hk,hkl,rfl⟩
    exact hRR _ _ ⟨sm,p,ks,s4,hp,hpl,hk,rfl⟩
  rintro σ' H1 ⟨sm,p,ks,s4,hp,hpl,hk,rfl⟩
  have hwl:(wds (pre4++ks.flatMap grp)).length=4+3*ks.length:=by
   unfold wds
   rw [Qd,Qd,Qj,grps_len]
   rfl
  have hk6:=hk.len
  refine ⟨_,rfl,.inl ⟨rfl,_,SqL.of hpl⟩,p,_,_,rfl,rfl,hpl,(by rw [hwl];exact small1000 (by omega)),?_⟩
  have ein:wds (pre4++ks.flatMap grp)++[V.str "."]=wds (inn ks):=by
   unfold inn
   rw [<- QK,wds_app _ [Ev.pl "."]]
   rfl
  rw [ein]
  have s2:Same H (upd H1 p (.lst (wds (inn ks)))):=fun b u e=>by rw [upd_ne (ne_of_none e hp)];exact sm _ _ e
  have hp2:upd H1 p (.lst (wds (inn ks))) p=some (.lst (wds (inn ks))):=upd_same
  generalize upd H1 p (.lst (wds (inn ks)))=H2 at s2 hp2 ⊢
  refine ⟨_,rfl,_,_,rfl,rfl,⟨by decide,by decide⟩,_,_,rfl,rfl,(by show (0:Int)<4;decide),rfl,_,rfl,?_⟩
  refine ite2 (fun h1=>?_) (fun h1=>?_)
  ·have hj:(((N:Nat):Int) / 1792 % ((n:Nat):Int))=(((N / 1792 % n:Nat)):Int):=by
    rw [show ((1792:Int))=((1792:Nat):Int) from rfl,<- Int.natCast_ediv,<- Int.natCast_emod]
   have hjn:N / 1792 % n<n:=Nat.mod_lt _ (by omega)
   have hl6:=lett_len n hn
   generalize N / 1792 % n=j at hj hjn
   refine ⟨_,rfl,_,rfl,_,_,rfl,rfl,⟨by decide,by decide⟩,_,rfl,_,_,rfl,rfl,(by show (0:Int)<((n:Nat):Int);omega),lett n,_,97+j,rfl,rfl,QA hl6 (by decide),(by rw [hj];exact atI_nat (lett_at n hn j hjn)),_,_,rfl,rfl,(by show ("<":Str).length+1<=sizeLine;decide +kernel),(by show 1<=sizeLine;decide),fun pa hpa=>?_⟩
   have s3:=same_upd (o:=.lst [.str ("<"++(⟨#[97+j]⟩:Str))]) hpa
   have hil:(wds (inn ks)).length<=30:=by
    rw [<- ein,Qj,hwl]
    show 4+3*ks.length+1<=30
    omega
   refine ⟨_,rfl,pa,p,_,_,rfl,rfl,upd_same,s3 _ _ hp2,(by show 1+(wds (inn ks)).length<=sizeLine;exact Nat.le_of_lt (small1000 (by omega))),fun pb hpb=>?_⟩
   have s4':=same_upd (o:=.lst ([V.str ("<"++(⟨#[97+j]⟩:Str))]++wds (inn ks))) hpb
   refine ⟨(by show 1<=sizeLine;decide),fun pc hpc=>?_⟩
   have s5:=same_upd (o:=.lst [.str ">"]) hpc
   refine ⟨pb,pc,_,_,rfl,rfl,s5 _ _ upd_same,upd_same,(by rw [Qj];show 1+(wds (inn ks)).length+1<=sizeLine;exact Nat.le_of_lt (small1000 (by omega))),fun pd hpd=>?_⟩
   have sA:=((s2.trans s3).trans s4').trans s5
   have s6:=same_upd (o:=.lst ([V.str ("<"++(⟨#[97+j]⟩:Str))]++wds (inn ks)++[V.str ">"])) hpd
   refine ⟨_,rfl,k pd _ ks (some j) ?_ (sA.trans s6) ⟨hk.len,hk.k6,hk.kn,(fun i e=>by cases e;exact hjn),hk.n6⟩ ?_⟩
   ·cases e:H pd with
    | none=>rfl
    | some u=>rw [sA _ _ e] at hpd;cases hpd
   ·rw [upd_same]
    show _=some (HO.lst (wds (.op (.sw j)::(inn ks++[.cl]))))
    rw [show wds (.op (.sw j)::(inn ks++[.cl]))=V.str (wd (.op (.sw j)))::wds (inn ks++[.cl]) from rfl,wds_app,wd_sw]
    rfl
  ·exact ⟨_,rfl,k p H2 ks none hp s2 hk hp2⟩
theorem and0 (x:Int):Builtin.bitAnd (0:Int) x=0:=by
 unfold Builtin.bitAnd
 by_cases h:0<=x
 ·rw [Qo h];simp
 ·rw [Qe h];simp
theorem or_lt {m i:Nat} (h:m<2 ^ i):m ||| 2 ^ i<2 ^ (i+1):=Nat.or_lt_two_pow (Nat.lt_of_lt_of_le h (Nat.pow_le_pow_right (by decide) (by omega))) (Nat.pow_lt_pow_right (by decide) (by omega))
noncomputable def spLM:Sp:=fun vs H Q _=>∃ (c:Int) (n:Nat),vs=[.int c,.int ((n:Nat):Int)]/\(n=5∨n=6)/\∀ M,M≠0->M<2 ^ 2 ^ n->Q (.int ((M:Nat):Int)) H
noncomputable abbrev N_ZP:List Str:=["_law_cell","_law_n","_law_mask_here","_law_s"]
theorem sc_ZP:FnScope N_ZP ["_law_cell","_law_n"] (defScope st_ZP):=⟨rfl,rfl,rfl,by decide +kernel,rfl,by decide +kernel,by decide +kernel⟩
theorem ok_lmask (T:All P w K mg AA DD):FnOk P w K mg base CX0 1 AA.ZP DD.ZP ["_law_cell","_law_n"] spLM:=by
 refine T.F_ZP.ok sc_ZP (fun vs H Q E h=>?_) (fun cdv A outer s H vs Q E hr h=>?_)
 ·obtain ⟨c,n,rfl,_⟩:=h
  rfl
 ·obtain ⟨c,n,rfl,hn,k⟩:=h
  have nd:=sc_ZP.nd
  have h64:(2:Nat) ^ n<=64:=by rcases hn with rfl | rfl<;>decide
  refine ⟨_,(@pss_cons _ _ _ _ _ (@ps_set _ _ 2 _ _ _ _ nd rfl (Or.inl rfl) pe_int (by rfl) (by first | exact .inl rfl | exact .inr rfl | assumption)) (@pss_cons _ _ _ _ _ (@ps_for _ _ _ _ _ _ _ _ PassesOwn.never rfl (pi_range1 rfl T.n_range (@pa_cons _ _ _ _ _ (@pe_op _ _ _ _ _ _ _ _ op_shlB pe_int (pv 1)) pa_nil (by rfl))) (pg_name (i:=3) nd rfl (Or.inl rfl)) (@pss_one _ _ _ (@ps_if _ _ _ _ _ _ _ _ (PW.pt (pw_or (@pt_cmpR _ _ _ _ _ _ _ _ op_eq (@pe_op _ _ _ _ _ _ _ _ op_mod (pv 0) pe_int) pe_int (nomark _)) (pw_or1 (PW.pt (pw_and (@pt_cmpR _ _ _ _ _ _ _ _ op_eq (@pe_op _ _ _ _ _ _ _ _ op_mod (pv 0) pe_int) pe_int (nomark _)) (pw_and1 (@pt_cmpR _ _ _ _ _ _ _ _ op_eq (@pe_op _ _ _ _ _ _ _ _ op_and (pv 3) (@pe_op _ _ _ _ _ _ _ _ op_fdiv (pv 0) pe_int)) pe_int (nomark _)))))))) (@pss_one _ _ _ (@ps_set _ _ 2 _ _ _ _ nd rfl (Or.inl rfl) (@pe_op _ _ _ _ _ _ _ _ op_or (pv 2) (@pe_op _ _ _ _ _ _ _ _ op_shlB pe_int (pv 3))) (by rfl) (by first | exact .inl rfl | exact .inr rfl | assumption))) pss_nil)) (by intro _;rfl)) (@pss_cons _ _ _ _ _ (@ps_if _ _ _ _ _ _ _ _ (@pt_cmpR _ _ _ _ _ _ _ _ op_eq (@pe_op _ _ _ _ _ _ _ _ op_mod (pv 0) pe_int) pe_int (nomark _)) (@pss_one _ _ _ (@ps_set _ _ 2 _ _ _ _ nd rfl (Or.inl rfl) (@pe_op _ _ _ _ _ _ _ _ op_shlB pe_int (@pe_op _ _ _ _ _ _ _ _ op_mod (@pe_op _ _ _ _ _ _ _ _ op_fdiv (pv 0) pe_int) (@pe_op _ _ _ _ _ _ _ _ op_shlB pe_int (pv 1)))) (by rfl) (by first | exact .inl rfl | exact .inr rfl | assumption))) pss_nil) (@pss_one _ _ _ (@ps_ret _ _ _ _ (pv 2)))))),?_⟩
  refine seq_c ?_
  try dsimp only [gName]
  refine cut_for (fun σ' H'=>H'=H/\∃ (m:Nat) (s3:Option V),σ'=[some (.int c),some (.int ((n:Nat):Int)),some (.int ((m:Nat):Int)),s3]/\m<2 ^ 2 ^ n/\(c % 3≠2->m.testBit 0=true)) (fun R hRR=>?_) ?_
  ·refine ⟨_,rfl,_,_,rfl,rfl,one_shl (by omega),?_⟩
   dsimp only
   rw [shl_n]
   generalize hb:(2:Nat) ^ n=b at h64 hRR ⊢
   refine ⟨_,rfl,by omega,by omega,?_⟩
   refine for_range (D:=⟨R,_,R,R⟩) (fun i σ' H'=>H'=H/\∃ (m:Nat) (s3:Option V),σ'=[some (.int c),some (.int ((n:Nat):Int)),some (.int ((m:Nat):Int)),s3]/\m<2 ^ i/\(0<i->c % 3≠2->m.testBit 0=true)) ⟨rfl,0,none,rfl,by decide,fun h=>absurd h (by decide)⟩ ?_ ?_
   ·rintro i σ' H1 hi ⟨rfl,m,s3,rfl,hm,h0⟩
    have hi:i<b:=by omega
    have ei:(0:Int)+((i:Nat):Int)=((i:Nat):Int):=by omega
    have yes:0<i+1->c % 3≠2->(m ||| 2 ^ i).testBit 0=true:=fun _ hc=>by
     rw [Nat.testBit_or]
     by_cases hz:i=0
     ·subst hz;simp
     ·rw [h0 (by omega) hc];rfl
    have no:(c % 3≠2->i≠0)->0<i+1->c % 3≠2->m.testBit 0=true:=fun hz _ hc=>h0 (Nat.pos_of_ne_zero (hz hc)) hc
    have hm1:m<2 ^ (i+1):=Nat.lt_of_lt_of_le hm (Nat.pow_le_pow_right (by decide) (by omega))
    refine ⟨_,rfl,_,_,rfl,rfl,(by show (0:Int)<3;decide),rfl,_,rfl,?_⟩
    refine ite2 (fun h1=>?_) (fun h1=>?_)
    ·refine ⟨_,rfl,_,rfl,_,_,rfl,rfl,(by rw [ei];exact one_shl (by omega)),_,_,rfl,rfl,?_⟩
     dsimp only
     rw [ei,shl_n,bitOr_nat]
     exact ⟨rfl,m ||| 2 ^ i,_,rfl,or_lt hm,yes⟩
    ·have h1:¬ c % 3=0:=fun z=>h1 (Qo (congrArg V.int z))
     refine ⟨_,rfl,_,_,rfl,rfl,(by show (0:Int)<3;decide),rfl,_,rfl,?_⟩
     refine ite2 (fun h2=>?_) (fun h2=>?_)
     ·refine ⟨_,rfl,_,rfl,_,_,rfl,rfl,⟨by decide,by decide⟩,_,_,rfl,rfl,rfl,_,rfl,?_⟩
      refine ite2 (fun h3=>?_) (fun h3=>?_)
      ·refine ⟨_,rfl,_,rfl,_,_,rfl,rfl,(by rw [ei];exact one_shl (by omega)),_,_,rfl,rfl,?_⟩
       dsimp only
       rw [ei,shl_n,bitOr_nat]
       exact ⟨rfl,m ||| 2 ^ i,_,rfl,or_lt hm,yes⟩
      ·refine ⟨rfl,m,_,rfl,hm1,no fun _ z=>h3 (Qo ?_)⟩
       rw [ei,z]
       show V.int (Builtin.bitAnd 0 _)=V.int 0
       rw [and0]
     ·have h2:¬ c % 3=1:=fun z=>h2 (Qo (congrArg V.int z))
      exact ⟨rfl,m,_,rfl,hm1,no fun hc z=>by omega⟩
   ·rintro σ' H1 ⟨rfl,m,s3,rfl,hm,h0⟩
    rw [Int.toNat_natCast] at hm h0
    exact hRR _ _ ⟨rfl,m,s3,rfl,hm,h0 (by rw [<- hb];exact Nat.two_pow_pos n)⟩
  rintro σ' H1 ⟨rfl,m,s3,rfl,hm,h0⟩
  refine ⟨_,rfl,_,_,rfl,rfl,(by show (0:Int)<3;decide),rfl,_,rfl,?_⟩
  refine ite2 (fun h1=>?_) (fun h1=>?_)
  ·have hp:=Nat.two_pow_pos n
   have ej:c / 3 % (((2 ^ n:Nat)):Int)=((((c / 3 % (((2 ^ n:Nat)):Int)).toNat:Nat)):Int):=(Int.toNat_of_nonneg (Int.emod_nonneg _ (by omega))).symm
   have hj:(c / 3 % (((2 ^ n:Nat)):Int)).toNat<2 ^ n:=by
    have:=Int.emod_lt_of_pos (c / 3) (show (0:Int)<(((2 ^ n:Nat)):Int) by omega)
    omega
   generalize (c / 3 % (((2 ^ n:Nat)):Int)).toNat=j at ej hj
   refine ⟨_,rfl,_,_,rfl,rfl,⟨by decide,by decide⟩,_,rfl,_,_,rfl,rfl,one_shl (by omega),_,_,rfl,rfl,(by rw [shl_n];omega),_,_,rfl,rfl,(by rw [shl_n,ej];exact one_shl (by omega)),?_⟩
   dsimp only [gName]
   rw [shl_n,ej,shl_n]
   refine ⟨_,rfl,k (2 ^ j) (Nat.ne_of_gt (Nat.two_pow_pos j)) (Nat.pow_lt_pow_right (by decide) hj)⟩
  ·have h1:¬ c % 3=2:=fun z=>h1 (Qo (congrArg V.int z))
   refine ⟨_,rfl,k m (fun e=>?_) hm⟩
   have:=h0 h1
   rw [e] at this
   simp at this
end
section
variable {P:Program} {w:World} {K:W.Frag} {mg:Str->Option Value} {base:Heap} {AA:Adr} {DD:Fds}
theorem rdvA_of {H:Hp}:∀ {xs:List V} {ds:List PyData},xs.length=ds.length->(∀ (i:Nat) (x:V) (d:PyData),xs[i]?=some x->ds[i]?=some d->Rdv K H x d)->RdvA K H xs ds
 | [],[],_,_=>.nil
 | [],_::_,h,_=>by simp at h
 | _::_,[],h,_=>by simp at h
 | x::xs,d::ds,h,f=>.cons (f 0 x d rfl rfl) (rdvA_of (by simpa using h) fun i y e h1 h2=>f (i+1) y e h1 h2)
theorem shd_strs {zs:List Str} (h:∀ z∈zs,∀ c∈z.cps.toList,c<128):Shd 1 (.list (zs.map PyData.str)):=Shd.list fun d hd=>by
 obtain ⟨z,hz,rfl⟩:=Qy hd
 exact Shd.str (h z hz)
structure LLs (H:Hp) (p:Addr) (ls:List Addr) (zss:List (List Str)):Prop where
 lst:H p=some (.lst (ls.map V.ref))
 len:ls.length=zss.length
 at_:∀ (i:Nat) (l:Addr) (zs:List Str),ls[i]?=some l->zss[i]?=some zs->H l=some (.lst (zs.map V.str))
theorem LLs.same {H H':Hp} {p:Addr} {ls:List Addr} {zss:List (List Str)} (h:LLs H p ls zss) (s:Same H H'):LLs H' p ls zss:=⟨s _ _ h.lst,h.len,fun i l zs a b=>s _ _ (h.at_ i l zs a b)⟩
noncomputable def llPD (zss:List (List Str)):PyData:=.list (zss.map fun zs=>.list (zs.map PyData.str))
theorem LLs.rdv {H:Hp} {p:Addr} {ls:List Addr} {zss:List (List Str)} (h:LLs H p ls zss):Rdv K H (.ref p) (llPD zss):=by
 refine .lst (SqL.of h.lst) (rdvA_of (by simp [h.len]) fun i x d e1 e2=>?_)
 rw [Qk] at e1 e2
 cases et:ls[i]? with
 | none=>rw [et] at e1;cases e1
 | some l =>
  cases er:zss[i]? with
  | none=>rw [er] at e2;cases e2
  | some zs =>
   rw [et] at e1
   rw [er] at e2
   cases e1
   cases e2
   exact Rdv.strs (SqL.of (h.at_ i l zs et er))
theorem shd_ll {zss:List (List Str)} (h:∀ zs∈zss,∀ z∈zs,∀ c∈z.cps.toList,c<128):Shd 2 (llPD zss):=Shd.list fun d hd=>by
 obtain ⟨zs,hz,rfl⟩:=Qy hd
 exact shd_strs (h zs hz)
theorem eqv_all_strs:∀ a b:List Str,PyData.eqvAll (a.map PyData.str) (b.map PyData.str)=decide (a=b)
 | [],[]=>rfl
 | [],_::_=>by simp [PyData.eqvAll]
 | _::_,[]=>by simp [PyData.eqvAll]
 | x::a,y::b=>by
  have ih:=eqv_all_strs a b
  simp only [List.map_cons,PyData.eqvAll,PyData.eqv,ih]
  by_cases h1:x=y<;>by_cases h2:a=b<;>simp [h1,h2]
theorem occ6:∀ k,k<6->Builtin.Str.occurrences ("abcdef":Str) ⟨#[97+k]⟩ 0 ("abcdef":Str).length 1=[k]:=by decide +kernel
noncomputable def stB (s:Nat) (ar:List W):List Bool:=(List.range (ar.length+1)).map fun j=>(ar.take j).all fun v=>v.ev s
theorem stB_snoc (s:Nat) (ar:List W) (v:W):stB s (ar++[v])=stB s ar++[(ar.all fun v=>v.ev s)&&v.ev s]:=by
 unfold stB
 rw [Qj,QI,List.range_succ,QD]
 congr 1
 ·refine QM fun i hi=>?_
  have:=List.mem_range.mp hi
  rw [List.take_append_of_le_length (by omega)]
 ·rw [List.map_singleton,List.take_of_length_le (by simp),List.all_append]
  simp
theorem stB_len (s:Nat) (ar:List W):(stB s ar).length=ar.length+1:=by simp [stB]
theorem stB_last (s:Nat) (ar:List W):∃ l,stB s ar=l++[ar.all fun v=>v.ev s]:=by
 rcases List.eq_nil_or_concat ar with rfl | ⟨a,v,rfl⟩
 ·exact ⟨[],rfl⟩
 ·rw [List.concat_eq_append,stB_snoc,List.all_append]
  exact ⟨stB s a,by simp⟩
noncomputable def bv (l:List Bool):List V:=l.map V.bl
theorem lwC_snoc (s:Nat) (fs:List (Str × List W)) (p:Str × List W):lwC s (fs++[p])=lwC s fs++(if (p.2.all fun v=>v.ev s)=true then [p.1] else []):=by
 unfold lwC
 rw [QJ,QD]
 congr 1
 by_cases h:(p.2.all fun v=>v.ev s)=true
 ·rw [if_pos h];simp [h]
 ·rw [if_neg h];simp [h]
theorem op_evR {ks:List Nat} {oc:Option Nat} {n:Nat} (h:RK n ks oc) {v:W} (hv:Ev.op v∈evR ks oc):∃ k,k<6/\v=.sw k:=by
 have hin:Ev.op v∈inn ks->∃ k,k<6/\v=.sw k:=fun hv=>by
  unfold inn at hv
  rcases Qx hv with hv | hv
  ·simp [pre4] at hv
  ·rcases Qx hv with hv | hv
   ·obtain ⟨k,hk,hv⟩:=List.mem_flatMap.mp hv
    simp [grp] at hv
    exact ⟨k,h.k6 k hk,hv⟩
   ·simp at hv
 cases oc with
 | none=>exact hin hv
 | some j =>
  rcases Qi hv with e | hv
  ·have:=h.on j rfl
   have:=h.n6
   exact ⟨j,by omega,by injection e⟩
  ·rcases Qx hv with hv | hv
   ·exact hin hv
   ·simp at hv
theorem rn_len (l:List Ev):(rn l).1.length<=l.length:=by
 have:∀ (l:List Ev) (st:RSt),(l.foldl stp st).1.length<=st.1.length+l.length:=by
  intro l
  induction l with
  | nil=>intro st;exact Qh _
  | cons e r ih =>
   intro st
   have h1:=ih (stp st e)
   have h2:(stp st e).1.length<=st.1.length+1:=by cases e<;>simp [stp]
   simp only [List.foldl_cons,List.length_cons]
   omega
 simpa [rn] using this l ([],[])
theorem lwC_len (s:Nat) (fs:List (Str × List W)):(lwC s fs).length<=fs.length:=by
 unfold lwC
 rw [Qd]
 exact List.length_filter_le _ _
theorem any_ll (zss:List (List Str)) (zs:List Str):((zss.map fun zs=>PyData.list (zs.map PyData.str)).any fun e=>PyData.eqv e (.list (zs.map PyData.str)))=decide (zs∈zss):=by
 rw [List.any_map]
 have:((fun e=>PyData.eqv e (.list (zs.map PyData.str)))∘fun zs=>PyData.list (zs.map PyData.str))=fun y:List Str=>decide (y=zs):=by
  funext y
  show PyData.eqv (.list (y.map PyData.str)) (.list (zs.map PyData.str))=_
  simp only [PyData.eqv]
  exact eqv_all_strs y zs
 rw [this]
 by_cases h:zs∈zss
 ·rw [Qo h,List.any_eq_true]
  exact ⟨zs,h,Qo rfl⟩
 ·rw [Qe h,List.any_eq_false]
  exact fun y hy e=>h (by rw [<- of_decide_eq_true e];exact hy)
noncomputable def spLC:Sp:=fun vs H Q _=>∃ (lr:Addr) (M n:Nat) (ks:List Nat) (oc:Option Nat),vs=[.ref lr,.int ((M:Nat):Int),.int ((n:Nat):Int)]/\(n=5∨n=6)/\H lr=some (.lst (wds (evR ks oc)))/\RK n ks oc/\M<2 ^ 2 ^ n /\
 ∀ p ls H',Same H H'->LLs H' p ls (keys (varsOf (rowD n (rn (evR ks oc)).1) M))->Q (.ref p) H'
noncomputable abbrev N_ZQ:List Str:=["_law_row_here","_law_mask_here","_law_n","_law_cuts_here","_law_s","_law_words","_law_stands","_law_word"]
theorem sc_ZQ:FnScope N_ZQ ["_law_row_here","_law_mask_here","_law_n"] (defScope st_ZQ):=⟨rfl,rfl,rfl,by decide +kernel,rfl,by decide +kernel,by decide +kernel⟩
theorem ok_lcuts (T:All P w K mg AA DD):FnOk P w K mg base CX0 1 AA.ZQ DD.ZQ ["_law_row_here","_law_mask_here","_law_n"] spLC:=by
 refine T.F_ZQ.ok sc_ZQ (fun vs H Q E h=>?_) (fun cdv A outer s H vs Q E hr h=>?_)
 ·obtain ⟨lr,M,n,ks,oc,rfl,_⟩:=h
  rfl
 ·obtain ⟨lr,M,n,ks,oc,rfl,hn,hlr,hk,hM,kq⟩:=h
  have nd:=sc_ZQ.nd
  have hu65:_+65<cLine:=QL (Nat.add_le_add_left (show 65<=16*0+200 by decide) _) (by have:=hr.un;omega)
  have h64:(2:Nat) ^ n<=64:=by rcases hn with rfl | rfl<;>decide
  have hn10:n<=10:=by omega
  refine ⟨_,(@pss_cons _ _ _ _ _ (@ps_set _ _ 3 _ _ _ _ nd rfl (Or.inl rfl) (@pe_lst _ _ _ _ pa_nil) (by rfl) (by first | exact .inl rfl | exact .inr rfl | assumption)) (@pss_cons _ _ _ _ _ (@ps_for _ _ _ _ _ _ _ _ PassesOwn.never rfl (pi_range1 rfl T.n_range (@pa_cons _ _ _ _ _ (@pe_op _ _ _ _ _ _ _ _ op_shlB pe_int (pv 2)) pa_nil (by rfl))) (pg_name (i:=4) nd rfl (Or.inl rfl)) (@pss_one _ _ _ (@ps_if _ _ _ _ _ _ _ _ (@pt_cmpR _ _ _ _ _ _ _ _ op_eq (@pe_op _ _ _ _ _ _ _ _ op_and (@pe_op _ _ _ _ _ _ _ _ op_shr (pv 1) (pv 4)) pe_int) pe_int (nomark _)) (@pss_cons _ _ _ _ _ (@ps_set _ _ 5 _ _ _ _ nd rfl (Or.inl rfl) (@pe_lst _ _ _ _ pa_nil) (by rfl) (by first | exact .inl rfl | exact .inr rfl | assumption)) (@pss_cons _ _ _ _ _ (@ps_set _ _ 6 _ _ _ _ nd rfl (Or.inl rfl) (@pe_lst _ _ _ _ (@pa_cons _ _ _ _ _ pe_bl pa_nil (by rfl))) (by rfl) (by first | exact .inl rfl | exact .inr rfl | assumption)) (@pss_cons _ _ _ _ _ (@ps_for _ _ _ _ _ _ _ _ PassesOwn.never rfl (pi_list (pv 0)) (pg_name (i:=7) nd rfl (Or.inl rfl)) (@pss_one _ _ _ (@ps_if _ _ _ _ _ _ _ _ (@pt_cmpR _ _ _ _ _ _ _ _ op_eq (@pe_ix _ _ _ _ _ _ _ ix_str (pv 7) pe_int (fun _ _=>rfl)) pe_str (nomark _)) (@pss_one _ _ _ (@ps_expr _ _ _ _ (pe_bm PySem.F.plainAttrs_list PySem.F.slot_list_append PySem.F.type_list_append mt_append (pv 6) (@pa_cons _ _ _ _ _ (pe_and (@pe_ix _ _ _ _ _ _ _ (ix_listK (K:=K) rfl) (pv 6) (pe_un un_neg pe_int) (fun _ _=>rfl)) (pe_one (@pe_cmpR _ _ _ _ _ _ _ _ op_eq (@pe_op _ _ _ _ _ _ _ _ op_and (@pe_op _ _ _ _ _ _ _ _ op_shr (pv 4) (pe_bm PySem.F.plainAttrs_str PySem.F.slot_str_find PySem.F.type_str_find mt_find pe_str (@pa_cons _ _ _ _ _ (@pe_ix _ _ _ _ _ _ _ ix_str (pv 7) pe_int (fun _ _=>rfl)) pa_nil (by rfl)))) pe_int) pe_int (nomark _)))) pa_nil (by rfl))) (by rfl))) (@pss_one _ _ _ (@ps_if _ _ _ _ _ _ _ _ (@pt_cmpR _ _ _ _ _ _ _ _ op_eq (pv 7) pe_str (nomark _)) (@pss_one _ _ _ (@ps_expr _ _ _ _ (pe_bm0 PySem.F.plainAttrs_list PySem.F.slot_list_pop PySem.F.type_list_pop mt_pop (pv 6)) (by rfl))) (@pss_one _ _ _ (@ps_if _ _ _ _ _ _ _ _ (pt_val (@pe_ix _ _ _ _ _ _ _ (ix_listK (K:=K) rfl) (pv 6) (pe_un un_neg pe_int) (fun _ _=>rfl))) (@pss_one _ _ _ (@ps_expr _ _ _ _ (pe_bm PySem.F.plainAttrs_list PySem.F.slot_list_append PySem.F.type_list_append mt_append (pv 5) (@pa_cons _ _ _ _ _ (pv 7) pa_nil (by rfl))) (by rfl))) pss_nil)))))) (by intro _;rfl)) (@pss_one _ _ _ (@ps_if _ _ _ _ _ _ _ _ (@pt_cmpR _ _ _ _ _ _ _ _ (op_notInD (K:=K) rfl hu65) (pv 5) (pv 3) rfl) (@pss_one _ _ _ (@ps_expr _ _ _ _ (pe_bm PySem.F.plainAttrs_list PySem.F.slot_list_append PySem.F.type_list_append mt_append (pv 3) (@pa_cons _ _ _ _ _ (pv 5) pa_nil (by rfl))) (by rfl))) pss_nil))))) pss_nil)) (by intro _;rfl)) (@pss_one _ _ _ (@ps_ret _ _ _ _ (pv 3))))),?_⟩
  refine ⟨Qr _,fun pc hpc=>?_⟩
  dsimp only [gName]
  have hev:=hk.elen
  have hgev:=hk.gev
  have hop:=fun {v} hv=>op_evR hk (v:=v) hv
  have hlw:∀ s,s<2 ^ n->cutR s (rowD n (rn (evR ks oc)).1)=lwC s (rn (evR ks oc)).1:=fun s hs=>lwC_cut hs hk.oks
  have hfine:=hk.fine
  generalize evR ks oc=evs at hlr hev hgev hop hlw hfine kq
  generalize hr:rowD n (rn evs).1=r at hlw hfine kq
  refine cut_for (fun σ' H'=>Same H H'/\∃ (ls:List Addr) (s4 s5 s6 s7:Option V),σ'=[some (.ref lr),some (.int ((M:Nat):Int)),some (.int ((n:Nat):Int)),some (.ref pc),s4,s5,s6,s7]/\LLs H' pc ls (keys (vrun (fun s=>cutR s r) (setsOf M (2 ^ n))))) (fun R hRR=>?_) ?_
  ·refine ⟨_,rfl,_,_,rfl,rfl,one_shl (by omega),?_⟩
   dsimp only
   rw [shl_n]
   generalize hb:(2:Nat) ^ n=b at h64 hRR hlw ⊢
   refine ⟨_,rfl,by omega,by omega,?_⟩
   refine for_range (D:=⟨R,_,R,R⟩) (fun i σ' H'=>Same H H'/\∃ (ls:List Addr) (s4 s5 s6 s7:Option V),σ'=[some (.ref lr),some (.int ((M:Nat):Int)),some (.int ((n:Nat):Int)),some (.ref pc),s4,s5,s6,s7]/\LLs H' pc ls (keys (vrun (fun s=>cutR s r) (setsOf M i)))/\pc∉ls) ⟨same_upd hpc,[],none,none,none,none,rfl,⟨upd_same,rfl,fun i l zs e=>by simp at e⟩,by simp⟩ ?_ ?_
   ·rintro s σ' H1 hs ⟨sm,ls,s4,s5,s6,s7,rfl,hL,hnc⟩
    have hs:s<b:=by omega
    have es:(0:Int)+((s:Nat):Int)=((s:Nat):Int):=by omega
    refine ⟨_,rfl,_,rfl,_,_,rfl,rfl,(by omega),_,_,rfl,rfl,rfl,_,rfl,?_⟩
    have ev:decide (V.int (Builtin.bitAnd (((M:Nat):Int) / 2 ^ ((0:Int)+((s:Nat):Int)).toNat) 1)=V.int 1)=M.testBit s:=by rw [es];exact has_val M s
    by_cases hbit:M.testBit s=true
    ·refine iteTb (ev.trans hbit) ?_
     refine ⟨Qr _,fun pw hpw=>?_⟩
     dsimp only [gName]
     refine ⟨(by show 1<=sizeLine;decide),fun ps hps=>?_⟩
     dsimp only [gName]
     have npw:pw≠ps:=ne_of_none upd_same hps
     have hps0:H1 ps=none:=by rw [upd_ne (Ne.symm npw)] at hps;exact hps
     have s2:=(same_upd (o:=.lst []) hpw).trans (same_upd (o:=.lst [.bl true]) hps)
     refine cut_for (fun σ' H'=>Same H1 H'/\H' pw=some (.lst ((lwC s (rn evs).1).map V.str))/\∃ s7,σ'=[some (.ref lr),some (.int ((M:Nat):Int)),some (.int ((n:Nat):Int)),some (.ref pc),some (.int ((0:Int)+((s:Nat):Int))),some (.ref pw),some (.ref ps),s7]) (fun R2 hR2=>?_) ?_
     ·refine ⟨_,rfl,lr,rfl,⟨_,SqL.of (s2 _ _ (sm _ _ hlr))⟩,?_⟩
      refine for_list (K:=K) (a:=lr) (xs:=wds evs) (fun i σ' H'=>Same H1 H'/\H' pw=some (.lst ((lwC s (rn (evs.take i)).1).map V.str))/\H' ps=some (.lst (bv (stB s (rn (evs.take i)).2)))/\∃ s7,σ'=[some (.ref lr),some (.int ((M:Nat):Int)),some (.int ((n:Nat):Int)),some (.ref pc),some (.int ((0:Int)+((s:Nat):Int))),some (.ref pw),some (.ref ps),s7])
       ⟨s2,by rw [upd_ne npw,upd_same];rfl,upd_same,_,rfl⟩ (fun i σ' H' _ hsl89=>by obtain ⟨e,_⟩:=hsl89;exact SqL.of (e _ _ (sm _ _ hlr))) ?_ ?_
      ·rintro i y σ' H2 hy ⟨sm2,hw2,hst2,s7,rfl⟩
       have hil:i<evs.length:=by
        have:=(Qc hy).1
        simpa [wds] using this
       obtain ⟨e,he⟩:∃ e,evs[i]?=some e:=⟨_,Qa hil⟩
       have ey:y=V.str (wd e):=by
        unfold wds at hy
        rw [Qk,Qk,he] at hy
        exact (Ql hy).symm
       subst ey
       have hok:=hgev i e he
       have hrn:=rn_take he
       obtain ⟨_,_,hl10⟩:=evok_wd hn10 hok
       have hfl:=rn_len (evs.take i)
       rw [QE] at hfl
       generalize rn (evs.take i)=st at hok hrn hw2 hst2 hfl
       obtain ⟨fs,ar⟩:=st
       obtain ⟨l0,hl0⟩:=stB_last s ar
       have hlast:bv (stB s ar)=bv l0++[V.bl (ar.all fun v=>v.ev s)]:=by rw [hl0];simp [bv]
       have hwl:(wd e).length<=sizeLine:=QA hl10 (by decide)
       have fw:∀ {H3:Hp},(∀ b u,H2 b=some u->b≠pw->b≠ps->H3 b=some u)->Same H1 H3:=fun h b u eb=>h b u (sm2 _ _ eb) (ne_of_none eb hpw) (ne_of_none eb hps0)
       have hfs:((lwC s fs).map V.str).length<sizeLine:=by
        have:=lwC_len s fs
        have hfl:fs.length<=min i evs.length:=hfl
        rw [Qd]
        exact small1000 (by omega)
       cases e with
       | op v =>
        obtain ⟨kk,hkk,rfl⟩:=hop (Qz he)
        obtain ⟨_,_,h5⟩:=hok
        have h5:ar.length<5:=h5
        refine ⟨_,rfl,wd (.op (.sw kk)),_,60,rfl,rfl,hwl,atI_nat (j:=0) rfl,rfl,_,rfl,?_⟩
        rw [sg e_lt]
        refine iteT ?_
        have fin:∀ bb:Bool,bb=((ar.all fun v=>v.ev s)&&s.testBit kk)->Same H1 (upd H2 ps (.lst (bv (stB s ar)++[.bl bb])))/\upd H2 ps (.lst (bv (stB s ar)++[.bl bb])) pw=some (.lst ((lwC s (rn (evs.take (i+1))).1).map V.str))/\upd H2 ps (.lst (bv (stB s ar)++[.bl bb])) ps=some (.lst (bv (stB s (rn (evs.take (i+1))).2))):=fun bb hbb=>by
         refine ⟨fw fun b u eb n1 n2=>by rw [upd_ne n2];exact eb,?_,?_⟩
         ·rw [upd_ne npw,hrn];exact hw2
         ·rw [upd_same,hrn,hbb]
          show _=some (HO.lst (bv (stB s (ar++[.sw kk]))))
          rw [stB_snoc]
          simp [bv]
          rfl
        have hsl:(bv (stB s ar)).length<sizeLine:=by unfold bv;rw [Qd,stB_len];exact small1000 (by omega)
        refine ⟨_,rfl,.inl ⟨rfl,_,SqL.of hst2⟩,_,rfl,1,rfl,ps,_,_,_,rfl,rfl,SqL.of hst2,(by rw [hlast];exact atI_last _ _),_,rfl,?_⟩
        cases hall:ar.all fun v=>v.ev s with
        | false =>
         refine iteF ?_
         refine ⟨ps,_,_,rfl,rfl,hst2,hsl,?_⟩
         obtain ⟨f1,f2,f3⟩:=fin false (by rw [hall];rfl)
         exact ⟨f1,f2,f3,_,rfl⟩
        | true =>
         refine iteT ?_
         refine ⟨_,rfl,rfl,_,rfl,wd (.op (.sw kk)),_,97+kk,rfl,rfl,hwl,atI_nat (j:=1) rfl,_,_,rfl,rfl,?_⟩
         simp only [occ6 kk hkk]
         refine ⟨_,_,rfl,rfl,by omega,_,_,rfl,rfl,rfl,?_⟩
         refine ⟨ps,_,_,rfl,rfl,hst2,hsl,?_⟩
         have ebb:decide (V.int (Builtin.bitAnd (((0:Int)+((s:Nat):Int)) / 2 ^ (((kk:Nat):Int)).toNat) 1)=V.int 1)=s.testBit kk:=by rw [es];exact has_val s kk
         obtain ⟨f1,f2,f3⟩:=fin (decide (V.int (Builtin.bitAnd (((0:Int)+((s:Nat):Int)) / 2 ^ (((kk:Nat):Int)).toNat) 1)=V.int 1)) (by rw [hall,ebb];rfl)
         exact ⟨f1,f2,f3,_,rfl⟩
       | cl =>
        have har:ar≠[]:=hok
        refine ⟨_,rfl,wd .cl,_,62,rfl,rfl,hwl,atI_nat (j:=0) rfl,rfl,_,rfl,?_⟩
        rw [sg e_lt]
        refine iteF ?_
        refine ⟨_,rfl,rfl,_,rfl,?_⟩
        rw [dec_str,e_gt,Qo (show wd .cl=⟨#[62]⟩ from rfl)]
        refine iteT ?_
        obtain ⟨a0,v0,rfl⟩:∃ a v,ar=a++[v]:=⟨ar.dropLast,ar.getLast har,(List.dropLast_concat_getLast har).symm⟩
        have e1:bv (stB s (a0++[v0]))=bv (stB s a0)++[V.bl ((a0.all fun v=>v.ev s)&&v0.ev s)]:=by rw [stB_snoc];simp [bv]
        refine ⟨_,rfl,.inl ⟨rfl,_,SqL.of hst2⟩,ps,_,_,rfl,rfl,hst2,(by rw [e1,Qj,QI,Nat.add_sub_cancel,Qq (Qh _),Nat.sub_self];rfl),?_⟩
        rw [e1,List.dropLast_concat]
        refine ⟨fw fun b u eb n1 n2=>by rw [upd_ne n2];exact eb,?_,?_,_,rfl⟩
        ·rw [upd_ne npw,hrn];exact hw2
        ·rw [upd_same,hrn]
         show _=some (HO.lst (bv (stB s (a0++[v0]).dropLast)))
         rw [List.dropLast_concat]
       | pl z =>
        obtain ⟨hP,hz5⟩:=hok
        obtain ⟨c,r0,hzc,hc60⟩:=hP.hd
        refine ⟨_,rfl,wd (.pl z),_,c,rfl,rfl,hwl,atI_nat (j:=0) (by show z.cps.toList[0]?=some c;rw [hzc];rfl),rfl,_,rfl,?_⟩
        rw [sg e_lt,Qe hc60]
        refine iteF ?_
        refine ⟨_,rfl,rfl,_,rfl,?_⟩
        rw [dec_str,e_gt,Qe (show ¬ wd (.pl z)=⟨#[62]⟩ from hP.gt)]
        refine iteF ?_
        refine ⟨_,rfl,1,rfl,ps,_,_,_,rfl,rfl,SqL.of hst2,(by rw [hlast];exact atI_last _ _),_,rfl,?_⟩
        cases hall:ar.all fun v=>v.ev s with
        | true =>
         refine iteT ?_
         refine ⟨_,rfl,.inl ⟨rfl,_,SqL.of hw2⟩,_,rfl,pw,_,_,rfl,rfl,hw2,hfs,?_⟩
         refine ⟨fw fun b u eb n1 n2=>by rw [upd_ne n1];exact eb,?_,?_,_,rfl⟩
         ·rw [upd_same,hrn]
          show _=some (HO.lst ((lwC s (fs++[(z,ar)])).map V.str))
          rw [lwC_snoc,if_pos hall,QD]
          rfl
         ·rw [upd_ne (Ne.symm npw),hrn];exact hst2
        | false =>
         refine iteF ?_
         refine ⟨sm2,?_,?_,_,rfl⟩
         ·rw [hrn]
          show _=some (HO.lst ((lwC s (fs++[(z,ar)])).map V.str))
          rw [lwC_snoc,if_neg (by rw [hall];decide),List.append_nil]
          exact hw2
         ·rw [hrn];exact hst2
      ·rintro σ' H2 ⟨sm2,hw2,hst2,s7,rfl⟩
       have el:(wds evs).length=evs.length:=by simp [wds]
       rw [el,QH] at hw2
       exact hR2 _ _ ⟨sm2,hw2,s7,rfl⟩
     rintro σ' H2 ⟨sm2,hw2,s7,rfl⟩
     have hL2:=hL.same sm2
     have hcw:lwC s (rn evs).1=cutR s r:=(hlw s hs).symm
     rw [hcw] at hw2
     have h128:∀ zs∈keys (vrun (fun s=>cutR s r) (setsOf M s)),∀ z∈zs,∀ c∈z.cps.toList,c<128:=fun zs hz z hzz=>by
      obtain ⟨p,hp,rfl⟩:=Qy hz
      have vi:VI (fun s=>cutR s r) (setsOf M s) (vrun (fun s=>cutR s r) (setsOf M s)):=vi_all (sets_pw M s)
      obtain ⟨t,ht⟩:=vi.ex p hp
      have e:=((vi.bit p hp t).mp ht).2
      have:=((hfine.2 t).1 z (by rw [e];exact hzz)).2
      exact this
     have h128w:∀ z∈cutR s r,∀ c∈z.cps.toList,c<128:=fun z hz=>((hfine.2 s).1 z hz).2
     refine ⟨_,rfl,_,rfl,_,_,Rdv.strs (SqL.of hw2),hL2.rdv,(shd_strs h128w).ok (by decide),(shd_ll h128).ok (by decide),_,rfl,?_⟩
     rw [any_ll]
     have ess:setsOf M (s+1)=setsOf M s++[s]:=by rw [sets_succ,if_pos hbit]
     by_cases hin:cutR s r∈keys (vrun (fun s=>cutR s r) (setsOf M s))
     ·rw [Qo hin]
      refine iteF ?_
      refine ⟨sm.trans sm2,ls,_,_,_,_,rfl,?_,hnc⟩
      rw [ess,vrun_snoc,keys_step,if_pos hin]
      exact hL2
     ·rw [Qe hin]
      refine iteT ?_
      have hkl:ls.length<=64:=by
       rw [hL.len,Qd]
       have h1:=vrun_len (fun s=>cutR s r) (setsOf M s)
       have h2:=sets_len M s
       omega
      refine ⟨_,rfl,.inl ⟨rfl,_,SqL.of hL2.lst⟩,_,rfl,pc,_,_,rfl,rfl,hL2.lst,(by rw [Qd];exact small1000 (by omega)),?_⟩
      have hpcw:pw≠pc:=fun e=>by rw [e,hL.lst] at hpw;cases hpw
      refine ⟨fun b u e=>?_,ls++[pw],_,_,_,_,rfl,?_,fun z=>?_⟩
      ·rw [upd_ne (ne_of_none e hpc)];exact (sm.trans sm2) _ _ e
      ·rw [ess,vrun_snoc,keys_step,if_neg hin]
       refine ⟨by rw [upd_same,QD];rfl,by rw [Qj,Qj,hL.len];rfl,fun i l zs e1 e2=>?_⟩
       by_cases hi:i<ls.length
       ·rw [Qv hi] at e1
        rw [Qv (by rw [<- hL.len];exact hi)] at e2
        have hl:=hL2.at_ i l zs e1 e2
        rw [upd_ne (fun z=>?_)]
        ·exact hl
        ·exact hnc (by rw [<- z];exact Qz e1)
       ·have hil:=(Qc e1).1
        rw [Qj,QI] at hil
        have ei:i=ls.length:=by omega
        subst ei
        rw [Qq (Qh _),Nat.sub_self] at e1
        rw [hL.len,Qq (Qh _),Nat.sub_self] at e2
        cases (show some pw=some l from e1)
        cases (show some (cutR s r)=some zs from e2)
        rw [upd_ne hpcw]
        exact hw2
      ·rcases Qx z with z | z
       ·exact hnc z
       ·exact hpcw (List.mem_singleton.mp z).symm
    ·refine iteFb (ev.trans (by simpa using hbit)) ?_
     refine ⟨sm,ls,_,_,_,_,rfl,?_,hnc⟩
     rw [sets_succ,if_neg hbit]
     exact hL
   ·rintro σ' H1 ⟨sm,ls,s4,s5,s6,s7,rfl,hL,_⟩
    rw [Int.toNat_natCast] at hL
    exact hRR _ _ ⟨sm,ls,s4,s5,s6,s7,rfl,hL⟩
  rintro σ' H1 ⟨sm,ls,s4,s5,s6,s7,rfl,hL⟩
  refine ⟨_,rfl,kq pc ls H1 sm ?_⟩
  have e:setsOf M (2 ^ n)=insd M:=(sets_bl hM).symm
  rw [e] at hL
  exact hL
end
section
variable {P:Program} {w:World} {K:W.Frag} {mg:Str->Option Value} {base:Heap} {AA:Adr} {DD:Fds}
theorem cut_le (ns:List Int) (i j:Nat):∃ cs:List Int,cutV (ns.map V.int) (some (i:Int)) (some (j:Int))=cs.map V.int/\cs.length<=j-i:=by
 unfold cutV
 rw [HT.sIx_nat,HT.sIx_nat]
 refine ⟨(ns.drop (min i (ns.map V.int).length)).take (min j (ns.map V.int).length-min i (ns.map V.int).length),by rw [List.map_take,List.map_drop],?_⟩
 rw [QE,List.length_drop,Qd]
 omega
theorem weigh {zs:List Str} {b k:Nat} (h:∀ z∈zs,z.length<=b) (hk:zs.length<=k) (hb:k*b+k<=1048576):(zs.map (·.length)).sum+zs.length<=1048576:=by
 have:=sum_le (l:=zs.map (·.length)) (b:=b) (fun x hx=>by
  obtain ⟨z,hz,rfl⟩:=Qy hx
  exact h z hz)
 rw [Qd] at this
 have h2:zs.length*b<=k*b:=Nat.mul_le_mul_right _ hk
 omega
theorem cut_sq {a b:TS} {D:Ends} {σ:St} {H:Hp} (P:St->Hp->Prop) (h1:∀ R:St->Hp->Prop,(∀ σ' H',P σ' H'->R σ' H')->a { D with nx:=R } σ H) (h2:∀ σ' H',P σ' H'->b D σ' H'):tSeq a b D σ H:=h1 _ fun σ' H' h=>h2 σ' H' h
noncomputable abbrev RQ:=List Nat × Option Nat
structure RwsAt (H:Hp) (p:Addr) (ls:List Addr) (qs:List RQ):Prop where
 lst:H p=some (.lst (ls.map V.ref))
 len:ls.length=qs.length
 at_:∀ (i:Nat) (l:Addr) (q:RQ),ls[i]?=some l->qs[i]?=some q->H l=some (.lst (wds (evR q.1 q.2)))
theorem RwsAt.same {H H':Hp} {p:Addr} {ls:List Addr} {qs:List RQ} (h:RwsAt H p ls qs) (s:Same H H'):RwsAt H' p ls qs:=⟨s _ _ h.lst,h.len,fun i l q a b=>s _ _ (h.at_ i l q a b)⟩
noncomputable def rowQ (n:Nat) (q:RQ):List (Str × Nat):=rowD n (rn (evR q.1 q.2)).1
noncomputable def cutsQ (n M:Nat) (q:RQ):List (List Str):=keys (varsOf (rowQ n q) M)
structure CsAt (H:Hp) (p:Addr) (cs:List Addr) (kss:List (List (List Str))):Prop where
 lst:H p=some (.lst (cs.map V.ref))
 len:cs.length=kss.length
 at_:∀ (i:Nat) (c:Addr) (kz:List (List Str)),cs[i]?=some c->kss[i]?=some kz->∃ ls,LLs H c ls kz
theorem CsAt.same {H H':Hp} {p:Addr} {cs:List Addr} {kss:List (List (List Str))} (h:CsAt H p cs kss) (s:Same H H'):CsAt H' p cs kss:=⟨s _ _ h.lst,h.len,fun i c kz a b=>by obtain ⟨ls,x⟩:=h.at_ i c kz a b;exact ⟨ls,x.same s⟩⟩
noncomputable def dueN (kss:List (List (List Str))) (n:Nat):List Nat:=(List.range n).filter fun i=>decide (16<(kss.getD i []).length)
theorem dueN_succ (kss:List (List (List Str))) (n:Nat):dueN kss (n+1)=dueN kss n++(if 16<(kss.getD n []).length then [n] else []):=by
 unfold dueN
 rw [List.range_succ,QJ]
 congr 1
 by_cases h:16<(kss.getD n []).length
 ·rw [if_pos h,List.filter_cons_of_pos (p:=fun i=>decide (16<(kss.getD i []).length)) (Qo h)];rfl
 ·rw [if_neg h,List.filter_cons_of_neg (p:=fun i=>decide (16<(kss.getD i []).length)) (by show ¬ decide (16<(kss.getD n []).length)=true;rw [Qe h];decide)];rfl
theorem dueN_len (kss:List (List (List Str))) (n:Nat):(dueN kss n).length<=n:=by
 unfold dueN
 have:=List.length_filter_le (fun i=>decide (16<(kss.getD i []).length)) (List.range n)
 rw [List.length_range] at this
 exact this
theorem dueN_head {kss:List (List (List Str))} {a:Nat}:∀ {n:Nat},a<n->16<(kss.getD a []).length->(∀ i,i<a->(kss.getD i []).length<=16)->∃ r,dueN kss n=a::r
 | 0,h,_,_=>by omega
 | n+1,h,h1,h2=>by
  rw [dueN_succ]
  by_cases hn:a<n
  ·obtain ⟨r,e⟩:=dueN_head hn h1 h2
   rw [e]
   exact ⟨_,rfl⟩
  ·have:a=n:=by omega
   subst this
   have e0:dueN kss a=[]:=by
    unfold dueN
    rw [List.filter_eq_nil_iff]
    intro i hi
    have:=h2 i (List.mem_range.mp hi)
    exact fun z=>absurd (of_decide_eq_true z) (by omega)
   rw [e0,if_pos h1]
   exact ⟨[],rfl⟩
theorem its_count (rows:List (List (Str × Nat))) (M a:Nat):∀ n,((itsOf rows M n).filter fun p=>decide (p.1=a)).length=if a<n then (newI a (varsOf (rows.getD a []) M)).length else 0
 | 0=>rfl
 | n+1=>by
  show ((itsOf rows M n++newI n _).filter _).length=_
  rw [QJ,Qj,its_count rows M a n]
  have hall:∀ p∈newI n (varsOf (rows.getD n []) M),p.1=n:=fun p hp=>by
   obtain ⟨q,_,rfl⟩:=Qy hp
   rfl
  by_cases h:a=n
  ·subst h
   rw [if_neg (Nat.lt_irrefl _),if_pos (Nat.lt_succ_self _),Nat.zero_add]
   congr 1
   exact List.filter_eq_self.mpr fun p hp=>Qo (hall p hp)
  ·have:(newI n (varsOf (rows.getD n []) M)).filter (fun p=>decide (p.1=a))=[]:=List.filter_eq_nil_iff.mpr fun p hp z=>h (by rw [<- of_decide_eq_true z,hall p hp])
   rw [this]
   by_cases h2:a<n
   ·rw [if_pos h2,if_pos (by omega)];rfl
   ·rw [if_neg h2,if_neg (by omega)];rfl
theorem newI_keys (a:Nat) (vars:List WK):(newI a vars).length=((keys vars).filter fun zs=>decide (zs≠[])).length:=by
 unfold newI keys
 rw [Qd,List.filter_map,Qd]
 congr 1
 refine List.filter_congr fun p _=>?_
 show (!p.1.isEmpty)=decide (p.1≠[])
 cases p.1<;>simp
theorem vars_nil (M:Nat):(varsOf [] M).length<=1/\newI 0 (varsOf [] M)=[]:=by
 have vi:VI (fun s=>cutR s []) (insd M) (varsOf [] M):=vi_all (sets_pw M _)
 have he:∀ p∈varsOf [] M,p.1=[]:=fun p hp=>by
  obtain ⟨s,hs⟩:=vi.ex p hp
  exact ((vi.bit p hp s).mp hs).2.symm
 refine ⟨?_,?_⟩
 ·have nd:=vi.nd
  generalize varsOf [] M=v at he nd
  match v,he,nd with
  | [],_,_=>exact Qr _
  | [x],_,_=>exact Qh _
  | x::y::r,he,nd =>
   have h1:=he x (by simp)
   have h2:=he y (by simp)
   simp [keys,h1,h2] at nd
 ·unfold newI
  rw [List.filter_eq_nil_iff.mpr fun p hp=>by rw [he p hp];decide]
  rfl
noncomputable def rwsQ (qs:List RQ):List (List Ev):=if qs=[] then [[]] else qs.map fun q=>evR q.1 q.2
theorem text_nil:Str.join ("\n":Str) []=textT [[]]:=by decide +kernel
theorem rwsQ_text (qs:List RQ):Str.join ("\n":Str) (qs.map fun q=>rowT (evR q.1 q.2))=textT (rwsQ qs):=by
 unfold rwsQ
 split
 ·rename_i h;subst h;exact text_nil
 ·unfold textT
  rw [List.map_map,e_nl]
  rfl
theorem rwsQ_at {qs:List RQ} {n i:Nat} {r:List (Str × Nat)} (h:(rowsD n (rwsQ qs))[i]?=some r):(∃ q,qs[i]?=some q/\r=rowQ n q)∨(qs=[]/\i=0/\r=[]):=by
 unfold rwsQ at h
 split at h
 ·rename_i e
  have hi:=(Qc h).1
  have:i=0:=by simp [rowsD] at hi;omega
  subst this
  exact .inr ⟨e,rfl,(Ql h).symm⟩
 ·unfold rowsD at h
  rw [List.map_map,Qk] at h
  obtain ⟨q,hq,rfl⟩:=Option.map_eq_some_iff.mp h
  exact .inl ⟨q,hq,rfl⟩
theorem rwsQ_of {qs:List RQ} {n i:Nat} {q:RQ} (h:qs[i]?=some q):(rowsD n (rwsQ qs))[i]?=some (rowQ n q):=by
 unfold rwsQ
 rw [if_neg (fun e=>by rw [e] at h;simp at h)]
 unfold rowsD
 rw [List.map_map,Qk,h]
 rfl
theorem rwsQ_grs {n:Nat} {qs:List RQ} (h5:qs.length<=5) (h:∀ q∈qs,RK n q.1 q.2):Grs n (rwsQ qs):=by
 unfold rwsQ
 split
 ·refine ⟨by simp,by decide,fun evs he=>?_⟩
  have:evs=[]:=by simpa using he
  subst this
  exact ⟨Gev.nil n,rfl,by decide⟩
 ·rename_i e
  refine ⟨fun z=>e (List.map_eq_nil_iff.mp z),by rw [Qd];omega,fun evs he=>?_⟩
  obtain ⟨q,hq,rfl⟩:=Qy he
  exact ⟨(h q hq).gev,by rw [rn_evR],QA (h q hq).elen (by decide)⟩
theorem rwsQ_fine {n:Nat} {qs:List RQ} (h:∀ q∈qs,RK n q.1 q.2):∀ r∈rowsD n (rwsQ qs),Fine r:=fun r hr=>by
 obtain ⟨i,hi⟩:=List.mem_iff_getElem?.mp hr
 rcases rwsQ_at hi with ⟨q,hq,rfl⟩ | ⟨_,_,rfl⟩
 ·exact (h q (Qz hq)).fine
 ·exact fine_nil
theorem rwsQ_len (n:Nat) (qs:List RQ):(rowsD n (rwsQ qs)).length=if qs=[] then 1 else qs.length:=by
 unfold rowsD rwsQ
 split<;>simp
theorem its_len {rows:List (List (Str × Nat))} {M:Nat} (h:∀ r∈rows,(varsOf r M).length<=16):∀ n,n<=rows.length->(itsOf rows M n).length<=16*n
 | 0,_=>Qh _
 | n+1,hn=>by
  have h1:=its_len h n (by omega)
  have h2:=newI_len n (varsOf (rows.getD n []) M)
  have h3:(varsOf (rows.getD n []) M).length<=16:=by
   have hlt:n<rows.length:=by omega
   rw [Qu,Qa hlt]
   exact h _ (QB _)
  show (itsOf rows M n++newI n (varsOf (rows.getD n []) M)).length<=_
  rw [Qj]
  omega
theorem its_rows {n M:Nat} {qs:List RQ} {p:Nat × Nat} (hp:p∈itsOf (rowsD n (rwsQ qs)) M (rowsD n (rwsQ qs)).length):p.1<qs.length:=by
 by_cases h:qs=[]
 ·subst h
  have e:itsOf (rowsD n (rwsQ [])) M (rowsD n (rwsQ [])).length=newI 0 (varsOf [] M):=rfl
  rw [e,(vars_nil M).2] at hp
  cases hp
 ·obtain ⟨k,q,hk,_,rfl⟩:=its_mem hp
  rw [rwsQ_len,if_neg h] at hk
  exact hk
theorem cutsQ_128 {n M:Nat} {q:RQ} (h:RK n q.1 q.2):∀ zs∈cutsQ n M q,∀ z∈zs,∀ c∈z.cps.toList,c<128:=fun zs hz z hzz=>by
 obtain ⟨p,hp,rfl⟩:=Qy hz
 have vi:VI (fun s=>cutR s (rowQ n q)) (insd M) (varsOf (rowQ n q) M):=vi_all (sets_pw M _)
 obtain ⟨t,ht⟩:=vi.ex p hp
 have e:=((vi.bit p hp t).mp ht).2
 have hf:Fine (rowQ n q):=h.fine
 exact ((hf.2 t).1 z (by rw [e];exact hzz)).2
theorem ne_nil_val (zs:List Str):(!(PyData.eqv (.list (zs.map PyData.str)) (.list [])))=decide (zs≠[]):=by
 cases zs with
 | nil=>rfl
 | cons a r=>simp [PyData.eqv,PyData.eqvAll]
theorem bl_shd (a:Nat):Shd 1 (.tuple [.int ((a:Nat):Int),.bool true,.bool false]):=Shd.tuple fun d hd=>by
 rcases Qi hd with rfl | hd
 ·exact Shd.int _
 ·rcases Qi hd with rfl | hd
  ·exact Shd.bl _
  ·rcases Qi hd with rfl | hd
   ·exact Shd.bl _
   ·cases hd
noncomputable def spLaw (K:W.Frag):Sp:=fun vs H Q _=>∃ (a:Addr) (ns:List Int),vs=[.ref a]/\SqL K H a (ns.map V.int)/\ns.length<=63/\∀ H',Q (.bl true) H'
noncomputable abbrev N_law:List Str:=["_law_script","_law_n","_law_rows","_law_mask_here","_law_cuts_here","_law_due","_law_found","_law_told","e","_law_at","_law_some"]
theorem sc_law:FnScope N_law ["_law_script"] (defScope st_law):=⟨rfl,rfl,rfl,by decide +kernel,rfl,by decide +kernel,by decide +kernel⟩
theorem ok_law (T:All P w K mg AA DD) {f:Addr} {fd:FuncData} (F:Fun K "law" "law" st_law f fd):FnOk P w K mg base CX0 20 f fd ["_law_script"] (spLaw K):=by
 have GCA:=ok_cellat (base:=base) T
 have GST:=ok_stream (base:=base) T
 have GLR:=ok_lrow (base:=base) T
 have GLM:=ok_lmask (base:=base) T
 have GLC:=ok_lcuts (base:=base) T
 have GY:=ok_readr (base:=base) T
 have GSH:=ok_shared (base:=base) T
 refine F.ok sc_law (fun vs H Q E h=>?_) (fun cdv A outer s H vs Q E hr h=>?_)
 ·obtain ⟨a,ns,rfl,_⟩:=h
  rfl
 ·obtain ⟨a,ns,rfl,hS,hlen,k⟩:=h
  have nd:=sc_law.nd
  have hu:=hr.units
  have hr12:Room 12 _:=hr.mono (by decide)
  have hr7:Room 7 _:=hr.mono (by decide)
  have hr1:Room 1 _:=hr.mono (by decide)
  refine ⟨_,(@pss_cons _ _ _ _ _ (@ps_set _ _ 1 _ _ _ _ nd rfl (Or.inr rfl) (@pe_op _ _ _ _ _ _ _ _ op_add pe_int (@pe_op _ _ _ _ _ _ _ _ op_mod (pe_call GCA hr1 rfl T.m_Zt T.k_Zt T.b_Zt .nil pass0 (@pa_cons _ _ _ _ _ (pv 0) (@pa_cons _ _ _ _ _ pe_int pa_nil (by rfl)) (by rfl))) pe_int)) (by rfl) (by first | exact .inl rfl | exact .inr rfl | assumption)) (@pss_cons _ _ _ _ _ (@ps_set _ _ 2 _ _ _ _ nd rfl (Or.inr rfl) (pe_comp (defScope st_law) N_law ["_law_n"] [1] rfl (by exact ⟨rfl,rfl,by decide +kernel,rfl,by decide +kernel,by decide +kernel,by decide +kernel,rfl,by decide +kernel⟩) rfl rfl (pi_list (pe_slice sl_list (pv 0) (po_some pe_int) (po_some pe_int))) (fun _ _ _ _=>pif_nil) (fun _ _ _ _=>(pe_call GLR hr1 rfl T.m_ZU T.k_ZU T.b_ZU .nil pass0 (@pa_cons _ _ _ _ _ (@pe_op _ _ _ _ _ _ _ _ op_add (@pe_ix _ _ _ _ _ _ _ (ix_listK (K:=K) rfl) (pe_call GST hr1 rfl T.m_ZA T.k_ZA T.b_ZA .nil pass0 (@pa_cons _ _ _ _ _ (pv 0) (@pa_cons _ _ _ _ _ pe_int pa_nil (by rfl)) (by rfl))) pe_int (fun _ _=>rfl)) (@pe_op _ _ _ _ _ _ _ _ op_mul (@pe_op _ _ _ _ _ _ _ _ op_mod (pv 0) pe_int) pe_int)) (@pa_cons _ _ _ _ _ (pv 1) pa_nil (by rfl)) (by rfl))))) (by rfl) (by first | exact .inl rfl | exact .inr rfl | assumption)) (@pss_cons _ _ _ _ _ (@ps_set _ _ 3 _ _ _ _ nd rfl (Or.inr rfl) (pe_call GLM hr1 rfl T.m_ZP T.k_ZP T.b_ZP .nil pass0 (@pa_cons _ _ _ _ _ (pe_call GCA hr1 rfl T.m_Zt T.k_Zt T.b_Zt .nil pass0 (@pa_cons _ _ _ _ _ (pv 0) (@pa_cons _ _ _ _ _ pe_int pa_nil (by rfl)) (by rfl))) (@pa_cons _ _ _ _ _ (pv 1) pa_nil (by rfl)) (by rfl))) (by rfl) (by first | exact .inl rfl | exact .inr rfl | assumption)) (@pss_cons _ _ _ _ _ (@ps_set _ _ 4 _ _ _ _ nd rfl (Or.inr rfl) (pe_comp (defScope st_law) N_law ["_law_n","_law_mask_here"] [1,3] rfl (by exact ⟨rfl,rfl,by decide +kernel,rfl,by decide +kernel,by decide +kernel,by decide +kernel,rfl,by decide +kernel⟩) rfl rfl (pi_list (pv 2)) (fun _ _ _ _=>pif_nil) (fun _ _ _ _=>(pe_call GLC hr1 rfl T.m_ZQ T.k_ZQ T.b_ZQ .nil pass0 (@pa_cons _ _ _ _ _ (pv 0) (@pa_cons _ _ _ _ _ (pv 2) (@pa_cons _ _ _ _ _ (pv 1) pa_nil (by rfl)) (by rfl)) (by rfl))))) (by rfl) (by first | exact .inl rfl | exact .inr rfl | assumption)) (@pss_cons _ _ _ _ _ (ps_setcomp (i:=5) (defScope st_law) N_law ["_law_cuts_here"] [4] rfl (by exact ⟨rfl,rfl,by decide +kernel,rfl,by decide +kernel,by decide +kernel,by decide +kernel,rfl,by decide +kernel⟩) rfl rfl (pi_range1 rfl T.n_range (@pa_cons _ _ _ _ _ (pe_callB call_len_seq rfl T.n_len bt_len (@pa_cons _ _ _ _ _ (pv 2) pa_nil (by rfl))) pa_nil (by rfl))) (fun _ _ _ _=>pif_one (pt_cmpR op_gt (pe_callB (call_len_seqK (K:=K) rfl) rfl T.n_len bt_len (pa_cons (pe_ix (ix_listK (K:=K) rfl) (pv 1) (pv 0) (fun _ _=>rfl)) pa_nil)) pe_int (nomark _))) (fun _ _ _ _=>(pv 0)) nd rfl rfl rfl) (@pss_cons _ _ _ _ _ (@ps_set _ _ 6 _ _ _ _ nd rfl (Or.inl rfl) pe_non (by rfl) (by first | exact .inl rfl | exact .inr rfl | assumption)) (@pss_cons _ _ _ _ _ (@ps_set _ _ 7 _ _ _ _ nd rfl (Or.inl rfl) pe_non (by rfl) (by first | exact .inl rfl | exact .inr rfl | assumption)) (@pss_cons _ _ _ _ _ (ps_tryD (κ:=fun _=>True) (i:=8) (Body.wish body_cx _) (psx_set (i:=6) nd rfl (Or.inl rfl) (pex_call GSH hr12 rfl T.m_Zs T.k_Zs T.b_Zs .nil (pa_cons (pe_call GY hr7 rfl T.m_ZF T.k_ZF T.b_ZF .nil pass0 (@pa_cons _ _ _ _ _ (pe_bmK (K:=K) rfl PySem.F.plainAttrs_str PySem.F.slot_str_join PySem.F.type_str_join (mt_join (K:=K) rfl) pe_str (@pa_cons _ _ _ _ _ (pe_comp (defScope st_law) N_law [] [] rfl (by exact ⟨rfl,rfl,by decide +kernel,rfl,by decide +kernel,by decide +kernel,by decide +kernel,rfl,by decide +kernel⟩) rfl rfl (pi_list (pv 2)) (fun _ _ _ _=>pif_nil) (fun _ _ _ _=>(pe_bmK (K:=K) rfl PySem.F.plainAttrs_str PySem.F.slot_str_join PySem.F.type_str_join (mt_join (K:=K) rfl) pe_str (@pa_cons _ _ _ _ _ (pv 0) pa_nil (by rfl))))) pa_nil (by rfl))) (@pa_cons _ _ _ _ _ (pv 1) pa_nil (by rfl)) (by rfl))) (pa_cons (pv 3) pa_nil)))) rfl T.m_TooMany nd rfl rfl (fun ea=>(pss_one (ps_set (i:=7) nd rfl (Or.inl rfl) (pe_tup (pa_cons (pe_xfldK (K:=K) rfl (pv 8) (by rfl)) (pa_cons (pe_callB (call_isexD (K:=K) rfl) rfl T.n_isinstance bt_isi (pa_cons (pv 8) (pa_cons (pe_glob (v:=.ref AA.x_MakesError) rfl T.m_MakesError rfl) pa_nil))) (pa_cons (pe_callB (call_isexD (K:=K) rfl) rfl T.n_isinstance bt_isi (pa_cons (pv 8) (pa_cons (pe_glob (v:=.ref AA.x_NoGroup) rfl T.m_NoGroup rfl) pa_nil))) pa_nil)))))))) (@pss_cons _ _ _ _ _ (@ps_if _ _ _ _ _ _ _ _ (@pt_cmpR _ _ _ _ _ _ _ _ (op_neD (K:=K) rfl hu) (pv 5) (@pe_lst _ _ _ _ pa_nil) (nomark _)) (@pss_one _ _ _ (@ps_ret _ _ _ _ (pe_and (@pe_cmpR _ _ _ _ _ _ _ _ (op_eqD (K:=K) rfl hu) (pv 7) (@pe_tup _ _ _ _ _ (@pa_cons _ _ _ _ _ (@pe_ix _ _ _ _ _ _ _ (ix_listK (K:=K) rfl) (pv 5) pe_int (fun _ _=>rfl)) (@pa_cons _ _ _ _ _ pe_bl (@pa_cons _ _ _ _ _ pe_bl pa_nil (by rfl)) (by rfl)) (by rfl))) (nomark _)) (pe_one (pe_not (pe_callB (call_isinst (n:="bool")) rfl T.n_isinstance bt_isi (@pa_cons _ _ _ _ _ (@pe_ix _ _ _ _ _ _ _ (ix_tupK (K:=K) rfl) (pv 7) pe_int (fun _ _=>rfl)) (@pa_cons _ _ _ _ _ (pe_bltn (v:=.ty "bool") rfl T.n_bool bt_bool rfl) pa_nil (by rfl)) (by rfl)))))))) pss_nil) (@pss_cons _ _ _ _ _ (@ps_if _ _ _ _ _ _ _ _ (PW.pt (pw_or (pt_cmp (pc_isN (pv 6))) (pw_or1 (@pt_cmpR _ _ _ _ _ _ _ _ (op_neD (K:=K) rfl hu) (@pe_ix _ _ _ _ _ _ _ (ix_tupK (K:=K) rfl) (pv 6) pe_int (fun _ _=>rfl)) (@pe_lst _ _ _ _ pa_nil) (nomark _))))) (@pss_one _ _ _ (@ps_ret _ _ _ _ pe_bl)) pss_nil) (@pss_cons _ _ _ _ _ (@ps_for _ _ _ _ _ _ _ _ PassesOwn.never rfl (pi_range1 rfl T.n_range (@pa_cons _ _ _ _ _ (pe_callB call_len_seq rfl T.n_len bt_len (@pa_cons _ _ _ _ _ (pv 2) pa_nil (by rfl))) pa_nil (by rfl))) (pg_name (i:=9) nd rfl (Or.inr rfl)) (@pss_cons _ _ _ _ _ (ps_setcomp2 (i:=10) (xs:=["_law_one","_law_statement"]) (defScope st_law) N_law ["_law_at"] [9] rfl (by exact ⟨rfl,rfl,by decide +kernel,by decide +kernel,by decide +kernel,by decide +kernel,by decide +kernel,rfl,by decide +kernel⟩) rfl rfl (pi_list (@pe_ix _ _ _ _ _ _ _ (ix_tupK (K:=K) rfl) (pv 6) pe_int (fun _ _=>rfl))) (fun _ _ _ _=>(pg_tupK (K:=K) (n:=2) rfl rfl (pgs_cons (pg_name (i:=0) (show (["_law_one","_law_statement","_law_at"]:List Str).Nodup by decide +kernel) rfl (Or.inl rfl)) (pgs_cons (pg_name (i:=1) (show (["_law_one","_law_statement","_law_at"]:List Str).Nodup by decide +kernel) rfl (Or.inl rfl)) pgs_nil)))) (fun _ _ _ _=>pif_one (pt_cmpR op_eq (pe_ix (ix_tupK (K:=K) rfl) (pv 1) pe_int (fun _ _=>rfl)) (pv 2) (nomark _))) (fun _ _ _ _=>(pv 1)) nd rfl rfl rfl) (@pss_one _ _ _ (@ps_if _ _ _ _ _ _ _ _ (@pt_cmpR _ _ _ _ _ _ _ _ op_ne (pe_callB call_len_seq rfl T.n_len bt_len (@pa_cons _ _ _ _ _ (pv 10) pa_nil (by rfl))) (pe_callB call_len_seq rfl T.n_len bt_len (@pa_cons _ _ _ _ _ (pe_comp (defScope st_law) N_law [] [] rfl (by exact ⟨rfl,rfl,by decide +kernel,rfl,by decide +kernel,by decide +kernel,by decide +kernel,rfl,by decide +kernel⟩) rfl rfl (pi_list (@pe_ix _ _ _ _ _ _ _ (ix_listK (K:=K) rfl) (pv 4) (pv 9) (fun _ _=>rfl))) (fun _ _ _ _=>pif_one (pt_cmpR (op_neD (K:=K) rfl hu) (pv 0) (pe_lst pa_nil) (nomark _))) (fun _ _ _ _=>(pv 0))) pa_nil (by rfl))) (nomark _)) (@pss_one _ _ _ (@ps_ret _ _ _ _ pe_bl)) pss_nil))) (by intro _;rfl)) (@pss_one _ _ _ (@ps_ret _ _ _ _ (@pe_cmpR _ _ _ _ _ _ _ _ op_eq (pe_callB call_len_seq rfl T.n_len bt_len (@pa_cons _ _ _ _ _ (pe_comp (defScope st_law) N_law ["_law_rows"] [2] rfl (by exact ⟨rfl,rfl,by decide +kernel,rfl,by decide +kernel,by decide +kernel,by decide +kernel,rfl,by decide +kernel⟩) rfl rfl (pi_list (@pe_ix _ _ _ _ _ _ _ (ix_tupK (K:=K) rfl) (pv 6) pe_int (fun _ _=>rfl))) (fun _ _ _ _=>pif_one (pt_cmpR op_ge (pe_ix (ix_tupK (K:=K) rfl) (pe_ix (ix_tupK (K:=K) rfl) (pv 0) pe_int (fun _ _=>rfl)) pe_int (fun _ _=>rfl)) (pe_callB (call_len_seqK (K:=K) rfl) rfl T.n_len bt_len (pa_cons (pv 1) pa_nil)) (nomark _))) (fun _ _ _ _=>(pv 0))) pa_nil (by rfl))) pe_int (nomark _))))))))))))))),?_⟩
  refine ⟨_,rfl,a,ns,0,rfl,hS,fun c0=>?_⟩
  refine ⟨_,_,rfl,rfl,(by show (0:Int)<2;decide),_,_,rfl,rfl,?_⟩
  dsimp only [gName]
  obtain ⟨n,hn,en⟩:∃ n:Nat,(n=5∨n=6)/\5+c0 % 2=((n:Nat):Int):=by
   have h1:=Int.emod_nonneg c0 (show (2:Int)≠0 by decide)
   have h2:=Int.emod_lt_of_pos c0 (show (0:Int)<2 by decide)
   exact ⟨(5+c0 % 2).toNat,by omega,by omega⟩
  rw [en]
  have hn10:n<=10:=by omega
  obtain ⟨cs,ecs,hcl⟩:=cut_le ns 2 7
  have hcl:cs.length<=5:=hcl
  refine ⟨_,rfl,_,rfl,_,rfl,a,_,rfl,hS,fun pc hpc=>?_⟩
  rw [show cutV (ns.map V.int) (some 2) (some 7)=cs.map V.int from ecs]
  have s1:=same_upd (o:=.lst (cs.map V.int)) hpc
  have hPc:upd H pc (.lst (cs.map V.int)) pc=some (.lst (cs.map V.int)):=upd_same
  generalize upd H pc (.lst (cs.map V.int))=H1 at s1 hPc ⊢
  refine ⟨pc,rfl,⟨_,SqL.of hPc⟩,?_⟩
  refine comp_list (K:=K) (a:=pc) (xs:=cs.map V.int) (fun i ys H'=>Same H1 H'/\i<=5/\∃ (ls:List Addr) (qs:List RQ),ys=ls.map V.ref/\ls.length=i/\qs.length=i/\(∀ q∈qs,RK n q.1 q.2)/\∀ (j:Nat) (l:Addr) (q:RQ),ls[j]?=some l->qs[j]?=some q->H' l=some (.lst (wds (evR q.1 q.2)))) ⟨Same.refl _,Qr _,[],[],rfl,rfl,rfl,by simp,fun j l q e=>by simp at e⟩ (fun i ys H' _ z=>SqL.of (z.1 _ _ hPc)) ?_ ?_
  ·rintro i x ys H2 hx ⟨sm,_,ls,qs,rfl,hll,hql,hqs,hat⟩
   have hi:i<cs.length:=by
    have:=(Qc hx).1
    rw [Qd] at this;exact this
   have ex:x=V.int cs[i]:=by rw [Qk,Qa hi] at hx;exact (Ql hx).symm
   subst ex
   refine tYes_ok ?_
   rw [if_pos rfl]
   refine ⟨_,rfl,cs[i],rfl,fun ps b0 b1 hps hb0 hb1=>?_⟩
   refine ⟨ps,_,_,_,rfl,rfl,SqL.of upd_same,atI_nat (j:=1) rfl,?_⟩
   have m0:=Int.emod_nonneg cs[i] (show (1009:Int)≠0 by decide)
   have m1:=Int.emod_lt_of_pos cs[i] (show (0:Int)<1009 by decide)
   refine ⟨_,rfl,_,_,rfl,rfl,(by show (0:Int)<1009;decide),_,_,rfl,rfl,.inl ⟨by omega,by omega⟩,_,_,rfl,rfl,_,rfl,?_⟩
   dsimp only
   obtain ⟨N,eN⟩:∃ N:Nat,((b1:Nat):Int)+cs[i] % 1009*7=((N:Nat):Int):=⟨(((b1:Nat):Int)+cs[i] % 1009*7).toNat,by omega⟩
   rw [eN]
   have s2:=same_upd (o:=.lst [.int ((b0:Nat):Int),.int ((b1:Nat):Int)]) hps
   refine ⟨N,n,rfl,hn,fun p H3 ks oc hp s3 hk hpl=>?_⟩
   have s23:=s2.trans s3
   refine ⟨by rw [Qd];exact small1000 (by omega),sm.trans s23,by omega,ls++[p],qs++[(ks,oc)],by simp,by simp [hll],by simp [hql],fun q hq=>?_,fun j l q e1 e2=>?_⟩
   ·rcases Qx hq with hq | hq
    ·exact hqs q hq
    ·rw [List.mem_singleton.mp hq];exact hk
   ·by_cases hj:j<ls.length
    ·rw [Qv hj] at e1
     rw [Qv (by omega)] at e2
     exact s23 _ _ (hat j l q e1 e2)
    ·have hjl:=(Qc e1).1
     rw [Qj,QI] at hjl
     have ej:j=i:=by omega
     subst ej
     rw [Qq (by omega),hll,Nat.sub_self] at e1
     rw [Qq (by omega),hql,Nat.sub_self] at e2
     cases (show some p=some l from e1)
     cases (show some (ks,oc)=some q from e2)
     exact hpl
  rintro ys H2 ⟨sm,_,ls,qs,rfl,hll,hql,hqs,hat⟩ pr hpr
  rw [Qd] at hll hql
  have s2:=same_upd (o:=.lst (ls.map V.ref)) hpr
  have hR:RwsAt (upd H2 pr (.lst (ls.map V.ref))) pr ls qs:=⟨upd_same,by omega,fun j l q a b=>s2 _ _ (hat j l q a b)⟩
  have hS2:=((s1.trans sm).trans s2).seq hS
  generalize upd H2 pr (.lst (ls.map V.ref))=H3 at hR hS2 ⊢
  have hq5:qs.length<=5:=by omega
  clear hat s2 sm hPc s1
  dsimp only [gName]
  refine ⟨_,rfl,a,ns,1,rfl,hS2,fun c1=>?_⟩
  refine ⟨_,rfl,c1,n,rfl,hn,fun M hM hM2=>?_⟩
  dsimp only [gName]
  have hqr:∀ {i:Nat} {q:RQ},qs[i]?=some q->RK n q.1 q.2:=fun e=>hqs _ (Qz e)
  refine ⟨_,rfl,pr,rfl,⟨_,SqL.of hR.lst⟩,?_⟩
  refine comp_list (K:=K) (a:=pr) (xs:=ls.map V.ref) (fun i ys H'=>Same H3 H'/\i<=5/\∃ cs:List Addr,ys=cs.map V.ref/\cs.length=i/\∀ (j:Nat) (c:Addr) (q:RQ),cs[j]?=some c->qs[j]?=some q->∃ ls,LLs H' c ls (cutsQ n M q)) ⟨Same.refl _,Qr _,[],rfl,rfl,fun j c q e=>by simp at e⟩ (fun i ys H' _ z=>SqL.of (z.1 _ _ hR.lst)) ?_ ?_
  ·rintro i x ys H4 hx ⟨sm,_,cs,rfl,hcl,hcs⟩
   have hi:i<ls.length:=by
    have:=(Qc hx).1
    rw [Qd] at this;exact this
   have hiq:i<qs.length:=by rw [<- hR.len];exact hi
   have ex:x=V.ref ls[i]:=by rw [Qk,Qa hi] at hx;exact (Ql hx).symm
   subst ex
   have hat:=hR.at_ i ls[i] qs[i] (Qa hi) (Qa hiq)
   refine tYes_ok ?_
   rw [if_pos rfl]
   refine ⟨_,rfl,_,rfl,_,rfl,ls[i],M,n,qs[i].1,qs[i].2,rfl,hn,sm _ _ hat,hqr (Qa hiq),hM2,fun p lz H5 s5 hL=>?_⟩
   refine ⟨by rw [Qd];exact small1000 (by omega),sm.trans s5,by omega,cs++[p],by simp,by simp [hcl],fun j c q e1 e2=>?_⟩
   by_cases hj:j<cs.length
   ·rw [Qv hj] at e1
    obtain ⟨lz',h⟩:=hcs j c q e1 e2
    exact ⟨lz',h.same s5⟩
   ·have hjl:=(Qc e1).1
    rw [Qj,QI] at hjl
    have ej:j=i:=by omega
    subst ej
    rw [Qq (by omega),hcl,Nat.sub_self] at e1
    cases (show some p=some c from e1)
    rw [Qa hiq] at e2
    cases e2
    exact ⟨lz,hL⟩
  rintro ys H4 ⟨sm,_,cz,rfl,hzl,hcs⟩ pz hpz
  rw [Qd,hR.len] at hzl
  have s2:=same_upd (o:=.lst (cz.map V.ref)) hpz
  have hC:CsAt (upd H4 pz (.lst (cz.map V.ref))) pz cz (qs.map (cutsQ n M)):=⟨upd_same,by rw [Qd];exact hzl,fun j c kz a b=>by
   rw [Qk] at b
   obtain ⟨q,hq,rfl⟩:=Option.map_eq_some_iff.mp b
   obtain ⟨lz,h⟩:=hcs j c q a hq
   exact ⟨lz,h.same s2⟩⟩
  have hR:=(hR.same sm).same s2
  generalize upd H4 pz (.lst (cz.map V.ref))=H5 at hC hR ⊢
  clear hcs s2 sm hS2
  dsimp only [gName]
  have hkD:∀ {i:Nat} {q:RQ},qs[i]?=some q->(qs.map (cutsQ n M)).getD i []=cutsQ n M q:=fun e=>by rw [Qu,Qk,e];rfl
  refine ⟨_,rfl,pr,_,rfl,.inl (SqL.of hR.lst),_,rfl,by rw [Qd,hR.len];omega,by rw [Qd,hR.len];omega,?_⟩
  rw [Qd,hR.len,Int.toNat_natCast]
  refine comp_range (fun i ys H'=>H'=H5/\ys=(dueN (qs.map (cutsQ n M)) i).map fun x=>V.int ((x:Nat):Int)) ⟨rfl,rfl⟩ ?_ ?_
  ·rintro i ys H6 hi ⟨rfl,rfl⟩
   have ei:(0:Int)+((i:Nat):Int)=((i:Nat):Int):=by omega
   have hiz:i<cz.length:=by omega
   obtain ⟨lz,hL⟩:=hC.at_ i cz[i] _ (Qa hiz) (by rw [Qk,Qa hi];rfl)
   refine ⟨_,rfl,_,rfl,pz,_,_,_,rfl,rfl,SqL.of hC.lst,(by rw [ei];exact atI_nat (by rw [Qk,Qa hiz];rfl)),cz[i],_,rfl,.inl (SqL.of hL.lst),_,_,rfl,rfl,_,rfl,?_⟩
   have ell:(lz.map V.ref).length=((qs.map (cutsQ n M)).getD i []).length:=by rw [Qd,hL.len,hkD (Qa hi)]
   have hdl:=dueN_len (qs.map (cutsQ n M)) i
   rw [ell,dueN_succ]
   by_cases h16:16<((qs.map (cutsQ n M)).getD i []).length
   ·rw [if_pos h16]
    refine iteTb (Qo (by omega)) ?_
    refine ⟨_,rfl,by rw [Qd];exact small1000 (by omega),rfl,?_⟩
    rw [ei,QD]
    rfl
   ·rw [if_neg h16,List.append_nil]
    exact iteFb (Qe (by omega)) ⟨rfl,rfl⟩
  rintro ys H6 ⟨rfl,rfl⟩ pd hpd
  have s6:=same_upd (o:=.lst ((dueN (qs.map (cutsQ n M)) qs.length).map fun x=>V.int ((x:Nat):Int))) hpd
  have hD:upd H6 pd (.lst ((dueN (qs.map (cutsQ n M)) qs.length).map fun x=>V.int ((x:Nat):Int))) pd=some (.lst ((dueN (qs.map (cutsQ n M)) qs.length).map fun x=>V.int ((x:Nat):Int))):=upd_same
  have hC:=hC.same s6
  have hR:=hR.same s6
  generalize upd H6 pd (.lst ((dueN (qs.map (cutsQ n M)) qs.length).map fun x=>V.int ((x:Nat):Int)))=H7 at hD hC hR ⊢
  clear s6
  dsimp only [gName]
  refine seq_c ?_
  try dsimp only [gName]
  refine seq_c ?_
  try dsimp only [gName]
  refine cut_sq (fun σ' H'=>Same H7 H'/\∃ (x6 x7:V) (x8:Option V),σ'=[some (.ref a),some (.int ((n:Nat):Int)),some (.ref pr),some (.int ((M:Nat):Int)),some (.ref pz),some (.ref pd),some x6,some x7,x8,none,none] /\
    (((∀ r∈rowsD n (rwsQ qs),(varsOf r M).length<=16)/\x7=.non/\∃ p tr fl ys,x6=.ref p/\H' p=some (.tup [.ref tr,.ref fl])/\H' tr=some (.lst ys)/\BdAt H' ys (itsOf (rowsD n (rwsQ qs)) M (rowsD n (rwsQ qs)).length)/\H' fl=some (.lst [])) ∨
     ∃ (at_:Nat) (r:List (Str × Nat)) (t:Addr),(rowsD n (rwsQ qs))[at_]?=some r/\16<(varsOf r M).length/\(∀ (i:Nat) (q:List (Str × Nat)),i<at_->(rowsD n (rwsQ qs))[i]?=some q->(varsOf q M).length<=16)/\x6=.non/\x7=.ref t/\H' t=some (.tup [.int ((at_:Nat):Int),.bl true,.bl false]))) (fun R hRR=>?_) ?_
  ·refine try_cut (fun c dd H1=>Same H7 H1/\c=.ref AA.x_TooMany/\∃ (dx:Addr) (at_:Nat) (r:List (Str × Nat)),dd=some dx/\H1 dx=some (xdO dx [("at",.int ((at_:Nat):Int))])/\(rowsD n (rwsQ qs))[at_]?=some r/\16<(varsOf r M).length/\(∀ (i:Nat) (q:List (Str × Nat)),i<at_->(rowsD n (rwsQ qs))[i]?=some q->(varsOf q M).length<=16)) (fun E1 hE=>?_) ?_
   ·refine ⟨rfl,_,rfl,pr,rfl,⟨_,SqL.of hR.lst⟩,?_⟩
    have hwl:∀ q∈qs,∀ z∈(evR q.1 q.2).map wd,z.length<=10:=fun q hq z hz=>by
     obtain ⟨e,he,rfl⟩:=Qy hz
     obtain ⟨j,hj⟩:=List.mem_iff_getElem?.mp he
     exact (evok_wd hn10 ((hqs q hq).gev j e hj)).2.2
    refine comp_list (K:=K) (a:=pr) (xs:=ls.map V.ref) (fun i ys H'=>H'=H7/\i<=5/\ys=((qs.take i).map fun q=>rowT (evR q.1 q.2)).map V.str) ⟨rfl,Qr _,rfl⟩ (fun i ys H' _ hsl90=>by obtain ⟨e,_⟩:=hsl90;rw [e];exact SqL.of hR.lst) ?_ ?_
    ·rintro i x ys H8 hx ⟨rfl,_,rfl⟩
     have hi:i<ls.length:=by
      have:=(Qc hx).1
      rw [Qd] at this;exact this
     have hiq:i<qs.length:=by rw [<- hR.len];exact hi
     have ex:x=V.ref ls[i]:=by rw [Qk,Qa hi] at hx;exact (Ql hx).symm
     subst ex
     have hat:=hR.at_ i ls[i] qs[i] (Qa hi) (Qa hiq)
     have hmem:=QB hiq
     refine tYes_ok ?_
     rw [if_pos rfl]
     refine ⟨rfl,_,rfl,_,ls[i],(evR qs[i].1 qs[i].2).map wd,rfl,rfl,SqL.of hat,(by rw [e_sp];decide),weigh (b:=10) (k:=30) (hwl qs[i] hmem) (by rw [Qd];exact (hqs qs[i] hmem).elen) (by decide),by simp;exact small1000 (by omega),rfl,by omega,?_⟩
     rw [e_sp,QF hiq]
     simp only [QD,List.map_cons,List.map_nil]
     rfl
    rintro ys H8 ⟨rfl,_,rfl⟩ pj hpj
    rw [Qd,hR.len,QH]
    have sj:=same_upd (o:=.lst ((qs.map fun q=>rowT (evR q.1 q.2)).map V.str)) hpj
    refine ⟨_,pj,_,rfl,rfl,SqL.of upd_same,(by rw [e_nl];decide),weigh (b:=330) (k:=5) (fun z hz=>?_) (by rw [Qd];exact hq5) (by decide),?_⟩
    ·obtain ⟨q,hq,rfl⟩:=Qy hz
     have h1:=rowT_len hn10 (hqs q hq).gev
     have h2:=(hqs q hq).elen
     omega
    rw [rwsQ_text]
    refine ⟨_,rfl,rwsQ qs,n,rfl,hn10,rwsQ_grs hq5 hqs,fun rp lr H9 hrp s9 hRw=>?_⟩
    have s79:=sj.trans s9
    refine ⟨_,rfl,rp,lr,rowsD n (rwsQ qs),M,rfl,hRw,hM,Nat.lt_of_lt_of_le hM2 (Nat.pow_le_pow_right (by decide) (by rcases hn with rfl | rfl<;>decide)),by rw [rwsQ_len];split<;>omega,rwsQ_fine hqs,fun h16 p tr fl ys H10 s10 h1 h2 h3 h4=>?_,fun at_ r h1 h2 h3 dx H10 s10 hdx=>?_⟩
    ·exact hRR _ _ ⟨s79.trans s10,_,_,_,rfl,.inl ⟨h16,rfl,p,tr,fl,ys,rfl,h1,h2,h3,h4⟩⟩
    ·exact hE _ _ _ ⟨s79.trans s10,rfl,dx,at_,r,rfl,hdx,h1,h2,h3⟩
   ·rintro c dd H1 ⟨s1,rfl,dx,at_,r,rfl,hdx,h1,h2,h3⟩
    refine ⟨T.em_TooMany_TooMany,fun ea cx _ hea=>?_⟩
    have s2:=same_upd (o:=excD ea (.ref AA.x_TooMany) (some dx) cx) hea
    have hE2:upd H1 ea (excD ea (.ref AA.x_TooMany) (some dx) cx) ea=some (excD ea (.ref AA.x_TooMany) (some dx) cx):=upd_same
    generalize upd H1 ea (excD ea (.ref AA.x_TooMany) (some dx) cx)=H2 at s2 hE2 ⊢
    refine ⟨_,rfl,ea,AA.x_TooMany,dx,cx,_,_,rfl,hE2,s2 _ _ hdx,T.xc_TooMany,T.ic_TooMany.hd,T.na_TooMany_at,rfl,_,rfl,ea,AA.x_TooMany,AA.x_MakesError,_,_,_,rfl,hE2,T.xc_TooMany,T.ki_TooMany_MakesError,_,rfl,ea,AA.x_TooMany,AA.x_NoGroup,_,_,_,rfl,hE2,T.xc_TooMany,T.ki_TooMany_NoGroup,(by show 3<=sizeLine;decide),fun t ht'=>?_⟩
    exact hRR _ _ ⟨(s1.trans s2).trans (same_upd ht'),_,_,_,rfl,.inr ⟨at_,r,t,h1,h2,h3,rfl,rfl,upd_same⟩⟩
  rintro σ' H8 ⟨sm,x6,x7,x8,rfl,hcase⟩
  have hC:=hC.same sm
  have hR:=hR.same sm
  have hD:=sm _ _ hD
  have h0s:Shd 1 (.list []):=Shd.list fun d hd=>nomatch hd
  have hcl:∀ {i:Nat} {q:RQ},qs[i]?=some q->((qs.map (cutsQ n M)).getD i []).length=(varsOf (rowQ n q) M).length:=fun e=>by rw [hkD e];exact Qd ..
  refine ⟨_,rfl,Qr _,fun p0 hp0=>?_⟩
  have s0:=same_upd (o:=.lst []) hp0
  have hE0:upd H8 p0 (.lst []) p0=some (.lst []):=upd_same
  have hD:=s0 _ _ hD
  have hC:=hC.same s0
  have hR:=hR.same s0
  have hds:Shd 1 (.list ((dueN (qs.map (cutsQ n M)) qs.length).map fun x=>PyData.int ((x:Nat):Int))):=Shd.list fun d hd=>by
   obtain ⟨x,_,rfl⟩:=Qy hd
   exact Shd.int _
  refine ⟨_,_,.lst (SqL.of hD) (RdvA.map (g:=fun x=>PyData.int ((x:Nat):Int)) fun x _=>.int _),.lst (SqL.of hE0) .nil,hds.ok (by decide),h0s.ok (by decide),_,rfl,?_⟩
  rcases hcase with ⟨h16,rfl,p,tr,fl,ys,rfl,hp,htr,hB,hfl⟩ | ⟨at_,r,t,hr1',h16,hbe,rfl,rfl,ht⟩
  ·have hdue:dueN (qs.map (cutsQ n M)) qs.length=[]:=by
    unfold dueN
    rw [List.filter_eq_nil_iff]
    intro i hi z
    have hi:=List.mem_range.mp hi
    have:=of_decide_eq_true z
    rw [hcl (Qa hi)] at this
    have:=h16 _ (Qz (rwsQ_of (n:=n) (Qa hi)))
    omega
   rw [hdue]
   refine iteF ?_
   have hp:=s0 _ _ hp
   have htr:=s0 _ _ htr
   have hfl:=s0 _ _ hfl
   have hB:=hB.kept (fun b xs e=>s0 _ _ e)
   clear hds hD hE0
   generalize upd H8 p0 (.lst [])=H9 at hp htr hfl hB hC hR ⊢
   dsimp only [tNext]
   refine ⟨_,rfl,_,rfl,iteF ?_⟩
   refine ⟨_,rfl,p,_,_,_,rfl,rfl,SqT.of hp,atI_nat (j:=1) rfl,Qr _,fun p1 hp1=>?_⟩
   have s1:=same_upd (o:=.lst []) hp1
   refine ⟨_,_,.lst (SqL.of (s1 _ _ hfl)) .nil,.lst (SqL.of upd_same) .nil,h0s.ok (by decide),h0s.ok (by decide),_,rfl,?_⟩
   refine iteF ?_
   have hp:=s1 _ _ hp
   have htr:=s1 _ _ htr
   have hB:=hB.kept (fun b xs e=>s1 _ _ e)
   have hC:=hC.same s1
   have hR:=hR.same s1
   generalize upd H9 p1 (.lst [])=H10 at hp htr hB hC hR ⊢
   dsimp only [tNext]
   have hil:=its_len h16 _ (Qh _)
   have hrl:=rwsQ_len n qs
   have hi80:(itsOf (rowsD n (rwsQ qs)) M (rowsD n (rwsQ qs)).length).length<=80:=by
    rw [hrl] at hil ⊢
    split at hil<;>simp_all<;>omega
   have hyl:ys.length=(itsOf (rowsD n (rwsQ qs)) M (rowsD n (rwsQ qs)).length).length:=Paired.length hB
   refine cut_for (fun σ' H'=>Same H10 H'/\∃ s9 s10:Option V,σ'=[some (.ref a),some (.int ((n:Nat):Int)),some (.ref pr),some (.int ((M:Nat):Int)),some (.ref pz),some (.ref pd),some (.ref p),some .non,x8,s9,s10]) (fun R hRR=>?_) ?_
   ·refine ⟨_,rfl,pr,_,rfl,.inl (SqL.of hR.lst),_,rfl,by rw [Qd,hR.len];omega,by rw [Qd,hR.len];omega,?_⟩
    rw [Qd,hR.len,Int.toNat_natCast]
    refine for_range (fun i σ' H'=>Same H10 H'/\∃ s9 s10:Option V,σ'=[some (.ref a),some (.int ((n:Nat):Int)),some (.ref pr),some (.int ((M:Nat):Int)),some (.ref pz),some (.ref pd),some (.ref p),some .non,x8,s9,s10]) ⟨Same.refl _,none,none,rfl⟩ ?_ ?_
    ·rintro i σ' H11 hi ⟨sm,s9,s10,rfl⟩
     have ei:(0:Int)+((i:Nat):Int)=((i:Nat):Int):=by omega
     have hq:=Qa hi
     refine ⟨_,rfl,p,_,_,_,rfl,rfl,SqT.of (sm _ _ hp),atI_nat (j:=0) rfl,?_⟩
     refine ⟨tr,rfl,⟨_,SqL.of (sm _ _ htr)⟩,?_⟩
     refine comp2_list (K:=K) (a:=tr) (xs:=ys) (fun j out H'=>H'=H11/\j<=80/\out.length=(((itsOf (rowsD n (rwsQ qs)) M (rowsD n (rwsQ qs)).length).take j).filter fun p=>decide (p.1=i)).length) ⟨rfl,Qr _,rfl⟩ (fun j out H' _ e=>by rw [e.1];exact SqL.of (sm _ _ htr)) ?_ ?_
     ·rintro j y out H12 hy ⟨rfl,_,ho⟩
      obtain ⟨pq,hpq,hSt⟩:=hB.get hy
      obtain ⟨u,t,rfl,hu1,e1,xs1,ht1,he1⟩:=hSt.kept (fun b xs e=>sm _ _ e)
      have hjl:=(Qc hpq).1
      have etk:(itsOf (rowsD n (rwsQ qs)) M (rowsD n (rwsQ qs)).length).take (j+1)=(itsOf (rowsD n (rwsQ qs)) M (rowsD n (rwsQ qs)).length).take j++[pq]:=by
       rw [List.take_succ,hpq];rfl
      have hol:out.length<=80:=by
       rw [ho]
       refine QA (List.length_filter_le _ _) ?_
       rw [QE]
       omega
      intro os hos
      obtain ⟨o1,o2,rfl⟩:∃ a b,os=[a,b]:=by
       match os,hos with
       | [a,b],_=>exact ⟨a,b,rfl⟩
      refine ⟨u,_,rfl,SqT.of hu1,rfl,_,_,rfl,_,_,rfl,rfl,⟨[_,_],rfl,rfl⟩,?_⟩
      refine ⟨_,rfl,t,_,_,_,rfl,rfl,SqT.of ht1,atI_nat (j:=1) rfl,_,rfl,rfl,_,rfl,?_⟩
      rw [etk,QJ,Qj]
      by_cases h:pq.1=i
      ·refine iteTb (Qo (by rw [ei,h])) ?_
       refine ⟨_,rfl,small1000 (by omega),rfl,by omega,?_⟩
       rw [Qj,ho,List.filter_cons_of_pos (by simpa using h)]
       rfl
      ·refine iteFb (Qe (fun z=>h (by rw [ei] at z;injection z with z;omega))) ?_
       refine ⟨rfl,by omega,?_⟩
       rw [ho,List.filter_cons_of_neg (by simpa using h)]
       rfl
     rintro out H12 ⟨rfl,_,ho⟩ po hpo
     rw [hyl,QH,its_count,if_pos (by rw [hrl,if_neg (fun e=>by rw [e] at hi;simp at hi)];exact hi),Qu,rwsQ_of hq] at ho
     have so:=same_upd (o:=.lst out) hpo
     have hO:upd H12 po (.lst out) po=some (.lst out):=upd_same
     generalize upd H12 po (.lst out)=H13 at so hO ⊢
     have sm13:=sm.trans so
     dsimp only [gName]
     refine ⟨_,rfl,po,_,rfl,.inl (SqL.of hO),?_⟩
     obtain ⟨lz,hL⟩:=hC.at_ i (cz[i]'(by omega)) (cutsQ n M qs[i]) (Qa (by omega)) (by rw [Qk,hq];rfl)
     have hL:=hL.same sm13
     refine ⟨_,rfl,_,rfl,pz,_,_,_,rfl,rfl,SqL.of (sm13 _ _ hC.lst),(by rw [ei];exact atI_nat (by rw [Qk,Qa (show i<cz.length by omega)];rfl)),?_⟩
     refine ⟨cz[i]'(by omega),rfl,⟨_,SqL.of hL.lst⟩,?_⟩
     have hkl:(cutsQ n M qs[i]).length<=16:=by
      have:=h16 _ (Qz (rwsQ_of (n:=n) hq))
      unfold cutsQ
      rw [Qd]
      exact this
     refine comp_list (K:=K) (a:=cz[i]'(by omega)) (xs:=lz.map V.ref) (fun j out H'=>Same H13 H'/\j<=16/\out.length=(((cutsQ n M qs[i]).take j).filter fun zs=>decide (zs≠[])).length) ⟨Same.refl _,Qr _,rfl⟩ (fun j out H' _ e=>SqL.of (e.1 _ _ hL.lst)) ?_ ?_
     ·rintro j y o2 H14 hy ⟨sm4,_,ho2⟩
      have hj:j<lz.length:=by
       have:=(Qc hy).1
       rw [Qd] at this;exact this
      have hjk:j<(cutsQ n M qs[i]).length:=by rw [<- hL.len];exact hj
      have ey:y=V.ref lz[j]:=by rw [Qk,Qa hj] at hy;exact (Ql hy).symm
      subst ey
      have hat:=sm4 _ _ (hL.at_ j lz[j] _ (Qa hj) (Qa hjk))
      have h128:=cutsQ_128 (hqr hq) _ (QB hjk)
      have hol:o2.length<=16:=by
       rw [ho2]
       refine QA (List.length_filter_le _ _) ?_
       rw [QE]
       omega
      refine ⟨_,rfl,Qr _,fun pe hpe=>?_⟩
      have s4:=same_upd (o:=.lst []) hpe
      refine ⟨_,_,Rdv.strs (SqL.of (s4 _ _ hat)),.lst (SqL.of upd_same) .nil,(shd_strs h128).ok (by decide),h0s.ok (by decide),_,rfl,?_⟩
      rw [ne_nil_val,QF hjk,QJ,Qj]
      by_cases h:(cutsQ n M qs[i])[j]≠[]
      ·refine iteTb (Qo h) ?_
       refine ⟨_,rfl,small1000 (by omega),sm4.trans s4,by omega,?_⟩
       rw [Qj,ho2,List.filter_cons_of_pos (p:=fun zs=>decide (zs≠[])) (Qo h)]
       rfl
      ·refine iteFb (Qe h) ?_
       refine ⟨sm4.trans s4,by omega,?_⟩
       rw [ho2,List.filter_cons_of_neg (p:=fun zs=>decide (zs≠[])) (by rw [Qe h];decide)]
       rfl
     rintro o2 H14 ⟨sm4,_,ho2⟩ pf hpf
     have el:(lz.map V.ref).length=(cutsQ n M qs[i]).length:=by rw [Qd,hL.len]
     rw [el,QH] at ho2
     have s5:=same_upd (o:=.lst o2) hpf
     refine ⟨pf,_,rfl,.inl (SqL.of upd_same),rfl,_,rfl,?_⟩
     have ee:out.length=o2.length:=by
      rw [ho,ho2]
      exact newI_keys i (varsOf (rowQ n qs[i]) M)
     rw [ee,Qo rfl]
     refine iteF ?_
     exact ⟨(sm13.trans sm4).trans s5,_,_,rfl⟩
    ·rintro σ' H11 ⟨sm,s9,s10,rfl⟩
     exact hRR _ _ ⟨sm,s9,s10,rfl⟩
   rintro σ' H11 ⟨sm,s9,s10,rfl⟩
   refine ⟨_,rfl,p,_,_,_,rfl,rfl,SqT.of (sm _ _ hp),atI_nat (j:=0) rfl,?_⟩
   refine ⟨tr,rfl,⟨_,SqL.of (sm _ _ htr)⟩,?_⟩
   refine comp_list (K:=K) (a:=tr) (xs:=ys) (fun j out H'=>H'=H11/\out=[]) ⟨rfl,rfl⟩ (fun j out H' _ e=>by rw [e.1];exact SqL.of (sm _ _ htr)) ?_ ?_
   ·rintro j y out H12 hy ⟨rfl,rfl⟩
    obtain ⟨pq,hpq,hSt⟩:=hB.get hy
    obtain ⟨u,t,rfl,hu1,e1,xs1,ht1,he1⟩:=hSt.kept (fun b xs e=>sm _ _ e)
    have hlt:=its_rows (Qz hpq)
    refine ⟨_,rfl,u,_,_,_,rfl,rfl,SqT.of hu1,atI_nat (j:=1) rfl,t,_,_,_,rfl,rfl,SqT.of ht1,atI_nat (j:=1) rfl,_,rfl,pr,_,rfl,.inl (SqL.of (sm _ _ hR.lst)),_,_,rfl,rfl,_,rfl,?_⟩
    exact iteFb (Qe (by rw [Qd,hR.len];omega)) ⟨rfl,rfl⟩
   ·rintro out H12 ⟨rfl,rfl⟩ pf hpf
    refine ⟨pf,_,rfl,.inl (SqL.of upd_same),rfl,?_⟩
    exact k _
  ·obtain ⟨q,hq,rfl⟩:∃ q,qs[at_]?=some q/\r=rowQ n q:=by
    rcases rwsQ_at hr1' with h | ⟨_,_,rfl⟩
    ·exact h
    ·have:=(vars_nil M).1
     omega
   have hatl:=(Qc hq).1
   obtain ⟨rest,hdue⟩:=dueN_head (kss:=qs.map (cutsQ n M)) (a:=at_) (n:=qs.length) hatl (by rw [hcl hq];exact h16) (fun i hi=>by
    rw [hcl (Qa (show i<qs.length by omega))]
    exact hbe i _ hi (rwsQ_of (Qa (show i<qs.length by omega))))
   rw [hdue] at hD ⊢
   refine iteT ?_
   have ht:=s0 _ _ ht
   refine ⟨_,rfl,_,rfl,pd,_,_,_,rfl,rfl,SqL.of hD,atI_nat (j:=0) rfl,(by show 3<=sizeLine;decide),fun t2 ht2=>?_⟩
   have s2:=same_upd (o:=.tup [.int ((at_:Nat):Int),.bl true,.bl false]) ht2
   refine ⟨.tuple [.int ((at_:Nat):Int),.bool true,.bool false],.tuple [.int ((at_:Nat):Int),.bool true,.bool false],.tup (SqT.of (s2 _ _ ht)) (.cons (.int _) (.cons (.bl _) (.cons (.bl _) .nil))),.tup (SqT.of upd_same) (.cons (.int _) (.cons (.bl _) (.cons (.bl _) .nil))),(bl_shd _).ok (by decide),(bl_shd _).ok (by decide),_,rfl,?_⟩
   rw [(bl_shd _).refl]
   refine iteT ?_
   refine ⟨_,rfl,t,_,_,_,rfl,rfl,SqT.of (s2 _ _ ht),atI_nat (j:=0) rfl,_,_,false,rfl,.int _,by rfl,_,rfl,?_⟩
   exact k _
end
theorem all_mk {l:W.OpenLaw} {w:World} {K:W.Frag} {h:Heap} {mg:Str->Option Value} {fa f_ZW f_Zq f_has f_ZH f_ZX f_ZV f_Zx f_ZB f_Zf f_Zh f_ZR f_ZS f_ZC f_ZI f_ZD f_Zr f_Zj f_ZJ f_ZE f_Zk f_ZK f_ZY f_ZL f_Zl f_ZF f_Zy f_ZM f_Zz f_ZT f_ZN f_ZO f_Zs f_Zt f_ZA f_ZU f_ZP f_ZQ f_Zu f_Zm f_Zv f_Zc f_Zd f_Za f_Zb f_ZG f_Zn f_Ze f_Zi f_Zo f_Zw f_Zg f_Zp f_law t_ZN c_Phrase c_Spot c_Reading d_NEEDS x_MakesError x_NoGroup x_TooMany q_LANGUAGE_WORDS q_OPERATORS:Addr} (X:K.In h) (G:h.Ns mainGlobals mg) (hfa:mg "law"=some (.ref fa))
  {ocT_ZN:Value} {odT_ZN:Option Addr} {nT_ZN:Nat} {slT_ZN:Array (Option Value)} {tok_ZN:Tok}
  {od_ZW an_ZW od_Zq an_Zq od_has an_has od_ZH an_ZH od_ZX an_ZX od_ZV an_ZV od_Zx an_Zx od_ZB an_ZB od_Zf an_Zf od_Zh an_Zh od_ZR an_ZR od_ZS an_ZS od_ZC an_ZC od_ZI an_ZI od_ZD an_ZD od_Zr an_Zr od_Zj an_Zj od_ZJ an_ZJ od_ZE an_ZE od_Zk an_Zk od_ZK an_ZK od_ZY an_ZY od_ZL an_ZL od_Zl an_Zl od_ZF an_ZF od_Zy an_Zy od_ZM an_ZM od_Zz an_Zz od_ZT an_ZT od_ZN an_ZN od_ZO an_ZO od_Zs an_Zs od_Zt an_Zt od_ZA an_ZA od_ZU an_ZU od_ZP an_ZP od_ZQ an_ZQ od_Zu an_Zu od_Zm an_Zm od_Zv an_Zv od_Zc an_Zc od_Zd an_Zd od_Za an_Za od_Zb an_Zb od_ZG an_ZG od_Zn an_Zn od_Ze an_Ze od_Zi an_Zi od_Zo an_Zo od_Zw an_Zw od_Zg an_Zg od_Zp an_Zp od_law an_law:Option Addr} {sl_ZW sl_Zq sl_has sl_ZH sl_ZX sl_ZV sl_Zx sl_ZB sl_Zf sl_Zh sl_ZR sl_ZS sl_ZC sl_ZI sl_ZD sl_Zr sl_Zj sl_ZJ sl_ZE sl_Zk sl_ZK sl_ZY sl_ZL sl_Zl sl_ZF sl_Zy sl_ZM sl_Zz sl_ZT sl_ZN sl_ZO sl_Zs sl_Zt sl_ZA sl_ZU sl_ZP sl_ZQ sl_Zu sl_Zm sl_Zv sl_Zc sl_Zd sl_Za sl_Zb sl_ZG sl_Zn sl_Ze sl_Zi sl_Zo sl_Zw sl_Zg sl_Zp sl_law:Array (Option Value)} {oc_ZW kV_ZW dc_ZW pm_ZW cd_ZW ct_ZW oc_Zq kV_Zq dc_Zq pm_Zq cd_Zq ct_Zq oc_has kV_has dc_has pm_has cd_has ct_has oc_ZH kV_ZH dc_ZH pm_ZH cd_ZH ct_ZH oc_ZX kV_ZX dc_ZX pm_ZX cd_ZX ct_ZX oc_ZV kV_ZV dc_ZV pm_ZV cd_ZV ct_ZV oc_Zx kV_Zx dc_Zx pm_Zx cd_Zx ct_Zx oc_ZB kV_ZB dc_ZB pm_ZB cd_ZB ct_ZB oc_Zf kV_Zf dc_Zf pm_Zf cd_Zf ct_Zf oc_Zh kV_Zh dc_Zh pm_Zh cd_Zh ct_Zh oc_ZR kV_ZR dc_ZR pm_ZR cd_ZR ct_ZR oc_ZS kV_ZS dc_ZS pm_ZS cd_ZS ct_ZS oc_ZC kV_ZC dc_ZC pm_ZC cd_ZC ct_ZC oc_ZI kV_ZI dc_ZI pm_ZI cd_ZI ct_ZI oc_ZD kV_ZD dc_ZD pm_ZD cd_ZD ct_ZD oc_Zr kV_Zr dc_Zr pm_Zr cd_Zr ct_Zr oc_Zj kV_Zj dc_Zj pm_Zj cd_Zj ct_Zj oc_ZJ kV_ZJ dc_ZJ pm_ZJ cd_ZJ ct_ZJ oc_ZE kV_ZE dc_ZE pm_ZE cd_ZE ct_ZE oc_Zk kV_Zk dc_Zk pm_Zk cd_Zk ct_Zk oc_ZK kV_ZK dc_ZK pm_ZK cd_ZK ct_ZK oc_ZY kV_ZY dc_ZY pm_ZY cd_ZY ct_ZY oc_ZL kV_ZL dc_ZL pm_ZL cd_ZL ct_ZL oc_Zl kV_Zl dc_Zl pm_Zl cd_Zl ct_Zl oc_ZF kV_ZF dc_ZF pm_ZF cd_ZF ct_ZF oc_Zy kV_Zy dc_Zy pm_Zy cd_Zy ct_Zy oc_ZM kV_ZM dc_ZM pm_ZM cd_ZM ct_ZM oc_Zz kV_Zz dc_Zz pm_Zz cd_Zz ct_Zz oc_ZT kV_ZT dc_ZT pm_ZT cd_ZT ct_ZT oc_ZN kV_ZN dc_ZN pm_ZN cd_ZN ct_ZN oc_ZO kV_ZO dc_ZO pm_ZO cd_ZO ct_ZO oc_Zs kV_Zs dc_Zs pm_Zs cd_Zs ct_Zs oc_Zt kV_Zt dc_Zt pm_Zt cd_Zt ct_Zt oc_ZA kV_ZA dc_ZA pm_ZA cd_ZA ct_ZA oc_ZU kV_ZU dc_ZU pm_ZU cd_ZU ct_ZU oc_ZP kV_ZP dc_ZP pm_ZP cd_ZP ct_ZP oc_ZQ kV_ZQ dc_ZQ pm_ZQ cd_ZQ ct_ZQ oc_Zu kV_Zu dc_Zu pm_Zu cd_Zu ct_Zu oc_Zm kV_Zm dc_Zm pm_Zm cd_Zm ct_Zm oc_Zv kV_Zv dc_Zv pm_Zv cd_Zv ct_Zv oc_Zc kV_Zc dc_Zc pm_Zc cd_Zc ct_Zc oc_Zd kV_Zd dc_Zd pm_Zd cd_Zd ct_Zd oc_Za kV_Za dc_Za pm_Za cd_Za ct_Za oc_Zb kV_Zb dc_Zb pm_Zb cd_Zb ct_Zb oc_ZG kV_ZG dc_ZG pm_ZG cd_ZG ct_ZG oc_Zn kV_Zn dc_Zn pm_Zn cd_Zn ct_Zn oc_Ze kV_Ze dc_Ze pm_Ze cd_Ze ct_Ze oc_Zi kV_Zi dc_Zi pm_Zi cd_Zi ct_Zi oc_Zo kV_Zo dc_Zo pm_Zo cd_Zo ct_Zo oc_Zw kV_Zw dc_Zw pm_Zw cd_Zw ct_Zw oc_Zg kV_Zg dc_Zg pm_Zg cd_Zg ct_Zg oc_Zp kV_Zp dc_Zp pm_Zp cd_Zp ct_Zp oc_law kV_law dc_law pm_law cd_law ct_law:Value}
  {t_LETTERS t_DEEPEST_GROUP t_MOST_VARIANTS t_SMALL_LETTERS t_FIGURES t_LONGEST_NAME t_LONGEST_NUMBER t_DEEPEST_EXPR t_MOST_BLOCKS t_TOP:Tok}
  {h_NEEDS_0 h_NEEDS_1 h_NEEDS_2 h_NEEDS_3 h_NEEDS_4:Int} {t_NEEDS_0 u_NEEDS_0 t_NEEDS_1 u_NEEDS_1 t_NEEDS_2 u_NEEDS_2 t_NEEDS_3 u_NEEDS_3 t_NEEDS_4 u_NEEDS_4:Tok} {ep_NEEDS:Nat}
  {t_LANGUAGE_WORDS_0 t_LANGUAGE_WORDS_1 t_LANGUAGE_WORDS_2 t_LANGUAGE_WORDS_3 t_LANGUAGE_WORDS_4 t_LANGUAGE_WORDS_5 t_LANGUAGE_WORDS_6 t_LANGUAGE_WORDS_7 t_LANGUAGE_WORDS_8 t_LANGUAGE_WORDS_9 t_LANGUAGE_WORDS_10 t_LANGUAGE_WORDS_11 t_LANGUAGE_WORDS_12 t_LANGUAGE_WORDS_13 t_LANGUAGE_WORDS_14 t_LANGUAGE_WORDS_15 t_LANGUAGE_WORDS_16 t_LANGUAGE_WORDS_17 t_LANGUAGE_WORDS_18 t_LANGUAGE_WORDS_19 t_LANGUAGE_WORDS_20 t_LANGUAGE_WORDS_21 t_LANGUAGE_WORDS_22 t_LANGUAGE_WORDS_23 t_LANGUAGE_WORDS_24:Tok} {od_LANGUAGE_WORDS:Option Addr} {n_LANGUAGE_WORDS:Nat} {sl_LANGUAGE_WORDS:Array (Option Value)}
  {t_OPERATORS_0 t_OPERATORS_1 t_OPERATORS_2 t_OPERATORS_3 t_OPERATORS_4 t_OPERATORS_5 t_OPERATORS_6:Tok} {od_OPERATORS:Option Addr} {n_OPERATORS:Nat} {sl_OPERATORS:Array (Option Value)}
  (aC_Phrase:W.nsIn K mainGlobals "Phrase"=some (some (.ref c_Phrase)))
  (aC_Spot:W.nsIn K mainGlobals "Spot"=some (some (.ref c_Spot)))
  (aC_Reading:W.nsIn K mainGlobals "Reading"=some (some (.ref c_Reading)))
  (a_ZW:W.nsIn K mainGlobals "every"=some (some (.ref f_ZW)))
  (l_ZW:K.lookup f_ZW=some ⟨oc_ZW,od_ZW,.func (W.fnOf "every" "every" (defArgs st_ZW) (defBody st_ZW) (defScope st_ZW) .none kV_ZW dc_ZW pm_ZW an_ZW cd_ZW ct_ZW),sl_ZW⟩)
  (c_ZW':W.codeIn K cd_ZW "every"=true)
  (k_ZW:W.keepIn K (.ref f_ZW)=true)
  (a_Zq:W.nsIn K mainGlobals "switch_mask"=some (some (.ref f_Zq)))
  (l_Zq:K.lookup f_Zq=some ⟨oc_Zq,od_Zq,.func (W.fnOf "switch_mask" "switch_mask" (defArgs st_Zq) (defBody st_Zq) (defScope st_Zq) .none kV_Zq dc_Zq pm_Zq an_Zq cd_Zq ct_Zq),sl_Zq⟩)
  (c_Zq':W.codeIn K cd_Zq "switch_mask"=true)
  (k_Zq:W.keepIn K (.ref f_Zq)=true)
  (a_has:W.nsIn K mainGlobals "has"=some (some (.ref f_has)))
  (l_has:K.lookup f_has=some ⟨oc_has,od_has,.func (W.fnOf "has" "has" (defArgs st_has) (defBody st_has) (defScope st_has) .none kV_has dc_has pm_has an_has cd_has ct_has),sl_has⟩)
  (c_has':W.codeIn K cd_has "has"=true)
  (k_has:W.keepIn K (.ref f_has)=true)
  (a_ZH:W.nsIn K mainGlobals "settings"=some (some (.ref f_ZH)))
  (l_ZH:K.lookup f_ZH=some ⟨oc_ZH,od_ZH,.func (W.fnOf "settings" "settings" (defArgs st_ZH) (defBody st_ZH) (defScope st_ZH) .none kV_ZH dc_ZH pm_ZH an_ZH cd_ZH ct_ZH),sl_ZH⟩)
  (c_ZH':W.codeIn K cd_ZH "settings"=true)
  (k_ZH:W.keepIn K (.ref f_ZH)=true)
  (a_ZX:W.nsIn K mainGlobals "least"=some (some (.ref f_ZX)))
  (l_ZX:K.lookup f_ZX=some ⟨oc_ZX,od_ZX,.func (W.fnOf "least" "least" (defArgs st_ZX) (defBody st_ZX) (defScope st_ZX) .none kV_ZX dc_ZX pm_ZX an_ZX cd_ZX ct_ZX),sl_ZX⟩)
  (c_ZX':W.codeIn K cd_ZX "least"=true)
  (k_ZX:W.keepIn K (.ref f_ZX)=true)
  (a_ZV:W.nsIn K mainGlobals "add_to"=some (some (.ref f_ZV)))
  (l_ZV:K.lookup f_ZV=some ⟨oc_ZV,od_ZV,.func (W.fnOf "add_to" "add_to" (defArgs st_ZV) (defBody st_ZV) (defScope st_ZV) .none kV_ZV dc_ZV pm_ZV an_ZV cd_ZV ct_ZV),sl_ZV⟩)
  (c_ZV':W.codeIn K cd_ZV "add_to"=true)
  (k_ZV:W.keepIn K (.ref f_ZV)=true)
  (a_Zx:W.nsIn K mainGlobals "with_masks"=some (some (.ref f_Zx)))
  (l_Zx:K.lookup f_Zx=some ⟨oc_Zx,od_Zx,.func (W.fnOf "with_masks" "with_masks" (defArgs st_Zx) (defBody st_Zx) (defScope st_Zx) .none kV_Zx dc_Zx pm_Zx an_Zx cd_Zx ct_Zx),sl_Zx⟩)
  (c_Zx':W.codeIn K cd_Zx "with_masks"=true)
  (k_Zx:W.keepIn K (.ref f_Zx)=true)
  (a_ZB:W.nsIn K mainGlobals "kept_tree"=some (some (.ref f_ZB)))
  (l_ZB:K.lookup f_ZB=some ⟨oc_ZB,od_ZB,.func (W.fnOf "kept_tree" "kept_tree" (defArgs st_ZB) (defBody st_ZB) (defScope st_ZB) .none kV_ZB dc_ZB pm_ZB an_ZB cd_ZB ct_ZB),sl_ZB⟩)
  (c_ZB':W.codeIn K cd_ZB "kept_tree"=true)
  (k_ZB:W.keepIn K (.ref f_ZB)=true)
  (a_Zf:W.nsIn K mainGlobals "kept_statement"=some (some (.ref f_Zf)))
  (l_Zf:K.lookup f_Zf=some ⟨oc_Zf,od_Zf,.func (W.fnOf "kept_statement" "kept_statement" (defArgs st_Zf) (defBody st_Zf) (defScope st_Zf) .none kV_Zf dc_Zf pm_Zf an_Zf cd_Zf ct_Zf),sl_Zf⟩)
  (c_Zf':W.codeIn K cd_Zf "kept_statement"=true)
  (k_Zf:W.keepIn K (.ref f_Zf)=true)
  (a_Zh:W.nsIn K mainGlobals "row_and_least"=some (some (.ref f_Zh)))
  (l_Zh:K.lookup f_Zh=some ⟨oc_Zh,od_Zh,.func (W.fnOf "row_and_least" "row_and_least" (defArgs st_Zh) (defBody st_Zh) (defScope st_Zh) .none kV_Zh dc_Zh pm_Zh an_Zh cd_Zh ct_Zh),sl_Zh⟩)
  (c_Zh':W.codeIn K cd_Zh "row_and_least"=true)
  (k_Zh:W.keepIn K (.ref f_Zh)=true)
  (a_ZR:W.nsIn K mainGlobals "made_of"=some (some (.ref f_ZR)))
  (l_ZR:K.lookup f_ZR=some ⟨oc_ZR,od_ZR,.func (W.fnOf "made_of" "made_of" (defArgs st_ZR) (defBody st_ZR) (defScope st_ZR) .none kV_ZR dc_ZR pm_ZR an_ZR cd_ZR ct_ZR),sl_ZR⟩)
  (c_ZR':W.codeIn K cd_ZR "made_of"=true)
  (k_ZR:W.keepIn K (.ref f_ZR)=true)
  (a_ZS:W.nsIn K mainGlobals "is_name"=some (some (.ref f_ZS)))
  (l_ZS:K.lookup f_ZS=some ⟨oc_ZS,od_ZS,.func (W.fnOf "is_name" "is_name" (defArgs st_ZS) (defBody st_ZS) (defScope st_ZS) .none kV_ZS dc_ZS pm_ZS an_ZS cd_ZS ct_ZS),sl_ZS⟩)
  (c_ZS':W.codeIn K cd_ZS "is_name"=true)
  (k_ZS:W.keepIn K (.ref f_ZS)=true)
  (a_ZC:W.nsIn K mainGlobals "is_number"=some (some (.ref f_ZC)))
  (l_ZC:K.lookup f_ZC=some ⟨oc_ZC,od_ZC,.func (W.fnOf "is_number" "is_number" (defArgs st_ZC) (defBody st_ZC) (defScope st_ZC) .none kV_ZC dc_ZC pm_ZC an_ZC cd_ZC ct_ZC),sl_ZC⟩)
  (c_ZC':W.codeIn K cd_ZC "is_number"=true)
  (k_ZC:W.keepIn K (.ref f_ZC)=true)
  (a_ZI:W.nsIn K mainGlobals "read_row"=some (some (.ref f_ZI)))
  (l_ZI:K.lookup f_ZI=some ⟨oc_ZI,od_ZI,.func (W.fnOf "read_row" "read_row" (defArgs st_ZI) (defBody st_ZI) (defScope st_ZI) .none kV_ZI dc_ZI pm_ZI an_ZI cd_ZI ct_ZI),sl_ZI⟩)
  (c_ZI':W.codeIn K cd_ZI "read_row"=true)
  (k_ZI:W.keepIn K (.ref f_ZI)=true)
  (a_ZD:W.nsIn K mainGlobals "read_head"=some (some (.ref f_ZD)))
  (l_ZD:K.lookup f_ZD=some ⟨oc_ZD,od_ZD,.func (W.fnOf "read_head" "read_head" (defArgs st_ZD) (defBody st_ZD) (defScope st_ZD) .none kV_ZD dc_ZD pm_ZD an_ZD cd_ZD ct_ZD),sl_ZD⟩)
  (c_ZD':W.codeIn K cd_ZD "read_head"=true)
  (k_ZD:W.keepIn K (.ref f_ZD)=true)
  (a_Zr:W.nsIn K mainGlobals "place_fault"=some (some (.ref f_Zr)))
  (l_Zr:K.lookup f_Zr=some ⟨oc_Zr,od_Zr,.func (W.fnOf "place_fault" "place_fault" (defArgs st_Zr) (defBody st_Zr) (defScope st_Zr) .none kV_Zr dc_Zr pm_Zr an_Zr cd_Zr ct_Zr),sl_Zr⟩)
  (c_Zr':W.codeIn K cd_Zr "place_fault"=true)
  (k_Zr:W.keepIn K (.ref f_Zr)=true)
  (a_Zj:W.nsIn K mainGlobals "is_misplaced"=some (some (.ref f_Zj)))
  (l_Zj:K.lookup f_Zj=some ⟨oc_Zj,od_Zj,.func (W.fnOf "is_misplaced" "is_misplaced" (defArgs st_Zj) (defBody st_Zj) (defScope st_Zj) .none kV_Zj dc_Zj pm_Zj an_Zj cd_Zj ct_Zj),sl_Zj⟩)
  (c_Zj':W.codeIn K cd_Zj "is_misplaced"=true)
  (k_Zj:W.keepIn K (.ref f_Zj)=true)
  (a_ZJ:W.nsIn K mainGlobals "is_stray"=some (some (.ref f_ZJ)))
  (l_ZJ:K.lookup f_ZJ=some ⟨oc_ZJ,od_ZJ,.func (W.fnOf "is_stray" "is_stray" (defArgs st_ZJ) (defBody st_ZJ) (defScope st_ZJ) .none kV_ZJ dc_ZJ pm_ZJ an_ZJ cd_ZJ ct_ZJ),sl_ZJ⟩)
  (c_ZJ':W.codeIn K cd_ZJ "is_stray"=true)
  (k_ZJ:W.keepIn K (.ref f_ZJ)=true)
  (a_ZE:W.nsIn K mainGlobals "read_wish"=some (some (.ref f_ZE)))
  (l_ZE:K.lookup f_ZE=some ⟨oc_ZE,od_ZE,.func (W.fnOf "read_wish" "read_wish" (defArgs st_ZE) (defBody st_ZE) (defScope st_ZE) .none kV_ZE dc_ZE pm_ZE an_ZE cd_ZE ct_ZE),sl_ZE⟩)
  (c_ZE':W.codeIn K cd_ZE "read_wish"=true)
  (k_ZE:W.keepIn K (.ref f_ZE)=true)
  (a_Zk:W.nsIn K mainGlobals "mask_of_text"=some (some (.ref f_Zk)))
  (l_Zk:K.lookup f_Zk=some ⟨oc_Zk,od_Zk,.func (W.fnOf "mask_of_text" "mask_of_text" (defArgs st_Zk) (defBody st_Zk) (defScope st_Zk) .none kV_Zk dc_Zk pm_Zk an_Zk cd_Zk ct_Zk),sl_Zk⟩)
  (c_Zk':W.codeIn K cd_Zk "mask_of_text"=true)
  (k_Zk:W.keepIn K (.ref f_Zk)=true)
  (a_ZK:W.nsIn K mainGlobals "reckoned"=some (some (.ref f_ZK)))
  (l_ZK:K.lookup f_ZK=some ⟨oc_ZK,od_ZK,.func (W.fnOf "reckoned" "reckoned" (defArgs st_ZK) (defBody st_ZK) (defScope st_ZK) .none kV_ZK dc_ZK pm_ZK an_ZK cd_ZK ct_ZK),sl_ZK⟩)
  (c_ZK':W.codeIn K cd_ZK "reckoned"=true)
  (k_ZK:W.keepIn K (.ref f_ZK)=true)
  (a_ZY:W.nsIn K mainGlobals "taken"=some (some (.ref f_ZY)))
  (l_ZY:K.lookup f_ZY=some ⟨oc_ZY,od_ZY,.func (W.fnOf "taken" "taken" (defArgs st_ZY) (defBody st_ZY) (defScope st_ZY) .none kV_ZY dc_ZY pm_ZY an_ZY cd_ZY ct_ZY),sl_ZY⟩)
  (c_ZY':W.codeIn K cd_ZY "taken"=true)
  (k_ZY:W.keepIn K (.ref f_ZY)=true)
  (a_ZL:W.nsIn K mainGlobals "value_of"=some (some (.ref f_ZL)))
  (l_ZL:K.lookup f_ZL=some ⟨oc_ZL,od_ZL,.func (W.fnOf "value_of" "value_of" (defArgs st_ZL) (defBody st_ZL) (defScope st_ZL) .none kV_ZL dc_ZL pm_ZL an_ZL cd_ZL ct_ZL),sl_ZL⟩)
  (c_ZL':W.codeIn K cd_ZL "value_of"=true)
  (k_ZL:W.keepIn K (.ref f_ZL)=true)
  (a_Zl:W.nsIn K mainGlobals "put_together"=some (some (.ref f_Zl)))
  (l_Zl:K.lookup f_Zl=some ⟨oc_Zl,od_Zl,.func (W.fnOf "put_together" "put_together" (defArgs st_Zl) (defBody st_Zl) (defScope st_Zl) .none kV_Zl dc_Zl pm_Zl an_Zl cd_Zl ct_Zl),sl_Zl⟩)
  (c_Zl':W.codeIn K cd_Zl "put_together"=true)
  (k_Zl:W.keepIn K (.ref f_Zl)=true)
  (a_ZF:W.nsIn K mainGlobals "read_rows"=some (some (.ref f_ZF)))
  (l_ZF:K.lookup f_ZF=some ⟨oc_ZF,od_ZF,.func (W.fnOf "read_rows" "read_rows" (defArgs st_ZF) (defBody st_ZF) (defScope st_ZF) .none kV_ZF dc_ZF pm_ZF an_ZF cd_ZF ct_ZF),sl_ZF⟩)
  (c_ZF':W.codeIn K cd_ZF "read_rows"=true)
  (k_ZF:W.keepIn K (.ref f_ZF)=true)
  (a_Zy:W.nsIn K mainGlobals "read_words"=some (some (.ref f_Zy)))
  (l_Zy:K.lookup f_Zy=some ⟨oc_Zy,od_Zy,.func (W.fnOf "read_words" "read_words" (defArgs st_Zy) (defBody st_Zy) (defScope st_Zy) .none kV_Zy dc_Zy pm_Zy an_Zy cd_Zy ct_Zy),sl_Zy⟩)
  (c_Zy':W.codeIn K cd_Zy "read_words"=true)
  (k_Zy:W.keepIn K (.ref f_Zy)=true)
  (a_ZM:W.nsIn K mainGlobals "words_of"=some (some (.ref f_ZM)))
  (l_ZM:K.lookup f_ZM=some ⟨oc_ZM,od_ZM,.func (W.fnOf "words_of" "words_of" (defArgs st_ZM) (defBody st_ZM) (defScope st_ZM) .none kV_ZM dc_ZM pm_ZM an_ZM cd_ZM ct_ZM),sl_ZM⟩)
  (c_ZM':W.codeIn K cd_ZM "words_of"=true)
  (k_ZM:W.keepIn K (.ref f_ZM)=true)
  (a_Zz:W.nsIn K mainGlobals "group_mask"=some (some (.ref f_Zz)))
  (l_Zz:K.lookup f_Zz=some ⟨oc_Zz,od_Zz,.func (W.fnOf "group_mask" "group_mask" (defArgs st_Zz) (defBody st_Zz) (defScope st_Zz) .none kV_Zz dc_Zz pm_Zz an_Zz cd_Zz ct_Zz),sl_Zz⟩)
  (c_Zz':W.codeIn K cd_Zz "group_mask"=true)
  (k_Zz:W.keepIn K (.ref f_Zz)=true)
  (a_ZT:W.nsIn K mainGlobals "cut_row"=some (some (.ref f_ZT)))
  (l_ZT:K.lookup f_ZT=some ⟨oc_ZT,od_ZT,.func (W.fnOf "cut_row" "cut_row" (defArgs st_ZT) (defBody st_ZT) (defScope st_ZT) .none kV_ZT dc_ZT pm_ZT an_ZT cd_ZT ct_ZT),sl_ZT⟩)
  (c_ZT':W.codeIn K cd_ZT "cut_row"=true)
  (k_ZT:W.keepIn K (.ref f_ZT)=true)
  (a_ZN:W.nsIn K mainGlobals "variants"=some (some (.ref f_ZN)))
  (l_ZN:K.lookup f_ZN=some ⟨oc_ZN,od_ZN,.func (W.fnOf "variants" "variants" (defArgs st_ZN) (defBody st_ZN) (defScope st_ZN) (.ref t_ZN) kV_ZN dc_ZN pm_ZN an_ZN cd_ZN ct_ZN),sl_ZN⟩)
  (lt_ZN:K.lookup t_ZN=some ⟨ocT_ZN,odT_ZN,.seq #[.int 0 tok_ZN] nT_ZN,slT_ZN⟩)
  (c_ZN':W.codeIn K cd_ZN "variants"=true)
  (k_ZN:W.keepIn K (.ref f_ZN)=true)
  (a_ZO:W.nsIn K mainGlobals "read_cut"=some (some (.ref f_ZO)))
  (l_ZO:K.lookup f_ZO=some ⟨oc_ZO,od_ZO,.func (W.fnOf "read_cut" "read_cut" (defArgs st_ZO) (defBody st_ZO) (defScope st_ZO) .none kV_ZO dc_ZO pm_ZO an_ZO cd_ZO ct_ZO),sl_ZO⟩)
  (c_ZO':W.codeIn K cd_ZO "read_cut"=true)
  (k_ZO:W.keepIn K (.ref f_ZO)=true)
  (a_Zs:W.nsIn K mainGlobals "read_shared"=some (some (.ref f_Zs)))
  (l_Zs:K.lookup f_Zs=some ⟨oc_Zs,od_Zs,.func (W.fnOf "read_shared" "read_shared" (defArgs st_Zs) (defBody st_Zs) (defScope st_Zs) .none kV_Zs dc_Zs pm_Zs an_Zs cd_Zs ct_Zs),sl_Zs⟩)
  (c_Zs':W.codeIn K cd_Zs "read_shared"=true)
  (k_Zs:W.keepIn K (.ref f_Zs)=true)
  (a_Zt:W.nsIn K mainGlobals "_law_cell_at"=some (some (.ref f_Zt)))
  (l_Zt:K.lookup f_Zt=some ⟨oc_Zt,od_Zt,.func (W.fnOf "_law_cell_at" "_law_cell_at" (defArgs st_Zt) (defBody st_Zt) (defScope st_Zt) .none kV_Zt dc_Zt pm_Zt an_Zt cd_Zt ct_Zt),sl_Zt⟩)
  (c_Zt':W.codeIn K cd_Zt "_law_cell_at"=true)
  (k_Zt:W.keepIn K (.ref f_Zt)=true)
  (a_ZA:W.nsIn K mainGlobals "_law_stream"=some (some (.ref f_ZA)))
  (l_ZA:K.lookup f_ZA=some ⟨oc_ZA,od_ZA,.func (W.fnOf "_law_stream" "_law_stream" (defArgs st_ZA) (defBody st_ZA) (defScope st_ZA) .none kV_ZA dc_ZA pm_ZA an_ZA cd_ZA ct_ZA),sl_ZA⟩)
  (c_ZA':W.codeIn K cd_ZA "_law_stream"=true)
  (k_ZA:W.keepIn K (.ref f_ZA)=true)
  (a_ZU:W.nsIn K mainGlobals "_law_row"=some (some (.ref f_ZU)))
  (l_ZU:K.lookup f_ZU=some ⟨oc_ZU,od_ZU,.func (W.fnOf "_law_row" "_law_row" (defArgs st_ZU) (defBody st_ZU) (defScope st_ZU) .none kV_ZU dc_ZU pm_ZU an_ZU cd_ZU ct_ZU),sl_ZU⟩)
  (c_ZU':W.codeIn K cd_ZU "_law_row"=true)
  (k_ZU:W.keepIn K (.ref f_ZU)=true)
  (a_ZP:W.nsIn K mainGlobals "_law_mask"=some (some (.ref f_ZP)))
  (l_ZP:K.lookup f_ZP=some ⟨oc_ZP,od_ZP,.func (W.fnOf "_law_mask" "_law_mask" (defArgs st_ZP) (defBody st_ZP) (defScope st_ZP) .none kV_ZP dc_ZP pm_ZP an_ZP cd_ZP ct_ZP),sl_ZP⟩)
  (c_ZP':W.codeIn K cd_ZP "_law_mask"=true)
  (k_ZP:W.keepIn K (.ref f_ZP)=true)
  (a_ZQ:W.nsIn K mainGlobals "_law_cuts"=some (some (.ref f_ZQ)))
  (l_ZQ:K.lookup f_ZQ=some ⟨oc_ZQ,od_ZQ,.func (W.fnOf "_law_cuts" "_law_cuts" (defArgs st_ZQ) (defBody st_ZQ) (defScope st_ZQ) .none kV_ZQ dc_ZQ pm_ZQ an_ZQ cd_ZQ ct_ZQ),sl_ZQ⟩)
  (c_ZQ':W.codeIn K cd_ZQ "_law_cuts"=true)
  (k_ZQ:W.keepIn K (.ref f_ZQ)=true)
  (a_Zu:W.findIn K (.ref c_Phrase) "__init__"=some (some (.ref f_Zu)))
  (i_Zu:W.isFn K (.ref f_Zu)=true)
  (l_Zu:K.lookup f_Zu=some ⟨oc_Zu,od_Zu,.func (W.fnOf "__init__" "Phrase.__init__" (defArgs st_Zu) (defBody st_Zu) (defScope st_Zu) .none kV_Zu dc_Zu pm_Zu an_Zu cd_Zu ct_Zu),sl_Zu⟩)
  (c_Zu':W.codeIn K cd_Zu "Phrase.__init__"=true)
  (k_Zu:W.keepIn K (.ref f_Zu)=true)
  (a_Zm:W.findIn K (.ref c_Phrase) "ended"=some (some (.ref f_Zm)))
  (i_Zm:W.isFn K (.ref f_Zm)=true)
  (l_Zm:K.lookup f_Zm=some ⟨oc_Zm,od_Zm,.func (W.fnOf "ended" "Phrase.ended" (defArgs st_Zm) (defBody st_Zm) (defScope st_Zm) .none kV_Zm dc_Zm pm_Zm an_Zm cd_Zm ct_Zm),sl_Zm⟩)
  (c_Zm':W.codeIn K cd_Zm "Phrase.ended"=true)
  (k_Zm:W.keepIn K (.ref f_Zm)=true)
  (a_Zv:W.findIn K (.ref c_Phrase) "take"=some (some (.ref f_Zv)))
  (i_Zv:W.isFn K (.ref f_Zv)=true)
  (l_Zv:K.lookup f_Zv=some ⟨oc_Zv,od_Zv,.func (W.fnOf "take" "Phrase.take" (defArgs st_Zv) (defBody st_Zv) (defScope st_Zv) .none kV_Zv dc_Zv pm_Zv an_Zv cd_Zv ct_Zv),sl_Zv⟩)
  (c_Zv':W.codeIn K cd_Zv "Phrase.take"=true)
  (k_Zv:W.keepIn K (.ref f_Zv)=true)
  (a_Zc:W.findIn K (.ref c_Phrase) "take_name"=some (some (.ref f_Zc)))
  (i_Zc:W.isFn K (.ref f_Zc)=true)
  (l_Zc:K.lookup f_Zc=some ⟨oc_Zc,od_Zc,.func (W.fnOf "take_name" "Phrase.take_name" (defArgs st_Zc) (defBody st_Zc) (defScope st_Zc) .none kV_Zc dc_Zc pm_Zc an_Zc cd_Zc ct_Zc),sl_Zc⟩)
  (c_Zc':W.codeIn K cd_Zc "Phrase.take_name"=true)
  (k_Zc:W.keepIn K (.ref f_Zc)=true)
  (a_Zd:W.findIn K (.ref c_Phrase) "take_expr"=some (some (.ref f_Zd)))
  (i_Zd:W.isFn K (.ref f_Zd)=true)
  (l_Zd:K.lookup f_Zd=some ⟨oc_Zd,od_Zd,.func (W.fnOf "take_expr" "Phrase.take_expr" (defArgs st_Zd) (defBody st_Zd) (defScope st_Zd) .none kV_Zd dc_Zd pm_Zd an_Zd cd_Zd ct_Zd),sl_Zd⟩)
  (c_Zd':W.codeIn K cd_Zd "Phrase.take_expr"=true)
  (k_Zd:W.keepIn K (.ref f_Zd)=true)
  (a_Za:W.findIn K (.ref c_Phrase) "take_named"=some (some (.ref f_Za)))
  (i_Za:W.isFn K (.ref f_Za)=true)
  (l_Za:K.lookup f_Za=some ⟨oc_Za,od_Za,.func (W.fnOf "take_named" "Phrase.take_named" (defArgs st_Za) (defBody st_Za) (defScope st_Za) .none kV_Za dc_Za pm_Za an_Za cd_Za ct_Za),sl_Za⟩)
  (c_Za':W.codeIn K cd_Za "Phrase.take_named"=true)
  (k_Za:W.keepIn K (.ref f_Za)=true)
  (a_Zb:W.findIn K (.ref c_Phrase) "take_exprs"=some (some (.ref f_Zb)))
  (i_Zb:W.isFn K (.ref f_Zb)=true)
  (l_Zb:K.lookup f_Zb=some ⟨oc_Zb,od_Zb,.func (W.fnOf "take_exprs" "Phrase.take_exprs" (defArgs st_Zb) (defBody st_Zb) (defScope st_Zb) .none kV_Zb dc_Zb pm_Zb an_Zb cd_Zb ct_Zb),sl_Zb⟩)
  (c_Zb':W.codeIn K cd_Zb "Phrase.take_exprs"=true)
  (k_Zb:W.keepIn K (.ref f_Zb)=true)
  (a_ZG:W.findIn K (.ref c_Spot) "__init__"=some (some (.ref f_ZG)))
  (i_ZG:W.isFn K (.ref f_ZG)=true)
  (l_ZG:K.lookup f_ZG=some ⟨oc_ZG,od_ZG,.func (W.fnOf "__init__" "Spot.__init__" (defArgs st_ZG) (defBody st_ZG) (defScope st_ZG) .none kV_ZG dc_ZG pm_ZG an_ZG cd_ZG ct_ZG),sl_ZG⟩)
  (c_ZG':W.codeIn K cd_ZG "Spot.__init__"=true)
  (k_ZG:W.keepIn K (.ref f_ZG)=true)
  (a_Zn:W.findIn K (.ref c_Reading) "__init__"=some (some (.ref f_Zn)))
  (i_Zn:W.isFn K (.ref f_Zn)=true)
  (l_Zn:K.lookup f_Zn=some ⟨oc_Zn,od_Zn,.func (W.fnOf "__init__" "Reading.__init__" (defArgs st_Zn) (defBody st_Zn) (defScope st_Zn) .none kV_Zn dc_Zn pm_Zn an_Zn cd_Zn ct_Zn),sl_Zn⟩)
  (c_Zn':W.codeIn K cd_Zn "Reading.__init__"=true)
  (k_Zn:W.keepIn K (.ref f_Zn)=true)
  (a_Ze:W.findIn K (.ref c_Reading) "new_spot"=some (some (.ref f_Ze)))
  (i_Ze:W.isFn K (.ref f_Ze)=true)
  (l_Ze:K.lookup f_Ze=some ⟨oc_Ze,od_Ze,.func (W.fnOf "new_spot" "Reading.new_spot" (defArgs st_Ze) (defBody st_Ze) (defScope st_Ze) .none kV_Ze dc_Ze pm_Ze an_Ze cd_Ze ct_Ze),sl_Ze⟩)
  (c_Ze':W.codeIn K cd_Ze "Reading.new_spot"=true)
  (k_Ze:W.keepIn K (.ref f_Ze)=true)
  (a_Zi:W.findIn K (.ref c_Reading) "go_on"=some (some (.ref f_Zi)))
  (i_Zi:W.isFn K (.ref f_Zi)=true)
  (l_Zi:K.lookup f_Zi=some ⟨oc_Zi,od_Zi,.func (W.fnOf "go_on" "Reading.go_on" (defArgs st_Zi) (defBody st_Zi) (defScope st_Zi) .none kV_Zi dc_Zi pm_Zi an_Zi cd_Zi ct_Zi),sl_Zi⟩)
  (c_Zi':W.codeIn K cd_Zi "Reading.go_on"=true)
  (k_Zi:W.keepIn K (.ref f_Zi)=true)
  (a_Zo:W.findIn K (.ref c_Reading) "step"=some (some (.ref f_Zo)))
  (i_Zo:W.isFn K (.ref f_Zo)=true)
  (l_Zo:K.lookup f_Zo=some ⟨oc_Zo,od_Zo,.func (W.fnOf "step" "Reading.step" (defArgs st_Zo) (defBody st_Zo) (defScope st_Zo) .none kV_Zo dc_Zo pm_Zo an_Zo cd_Zo ct_Zo),sl_Zo⟩)
  (c_Zo':W.codeIn K cd_Zo "Reading.step"=true)
  (k_Zo:W.keepIn K (.ref f_Zo)=true)
  (a_Zw:W.findIn K (.ref c_Reading) "led"=some (some (.ref f_Zw)))
  (i_Zw:W.isFn K (.ref f_Zw)=true)
  (l_Zw:K.lookup f_Zw=some ⟨oc_Zw,od_Zw,.func (W.fnOf "led" "Reading.led" (defArgs st_Zw) (defBody st_Zw) (defScope st_Zw) .none kV_Zw dc_Zw pm_Zw an_Zw cd_Zw ct_Zw),sl_Zw⟩)
  (c_Zw':W.codeIn K cd_Zw "Reading.led"=true)
  (k_Zw:W.keepIn K (.ref f_Zw)=true)
  (a_Zg:W.findIn K (.ref c_Reading) "end_at"=some (some (.ref f_Zg)))
  (i_Zg:W.isFn K (.ref f_Zg)=true)
  (l_Zg:K.lookup f_Zg=some ⟨oc_Zg,od_Zg,.func (W.fnOf "end_at" "Reading.end_at" (defArgs st_Zg) (defBody st_Zg) (defScope st_Zg) .none kV_Zg dc_Zg pm_Zg an_Zg cd_Zg ct_Zg),sl_Zg⟩)
  (c_Zg':W.codeIn K cd_Zg "Reading.end_at"=true)
  (k_Zg:W.keepIn K (.ref f_Zg)=true)
  (a_law:W.nsIn K mainGlobals "law"=some (some (.ref f_law)))
  (l_law:K.lookup f_law=some ⟨oc_law,od_law,.func (W.fnOf "law" "law" (defArgs st_law) (defBody st_law) (defScope st_law) .none kV_law dc_law pm_law an_law cd_law ct_law),sl_law⟩)
  (c_law':W.codeIn K cd_law "law"=true)
  (k_law:W.keepIn K (.ref f_law)=true)
  (pg_Phrase:W.plainGet K c_Phrase Str.empty=true)
  (hd_Phrase:W.hasDictIn K c_Phrase=true)
  (po_Phrase:W.plainOver K c_Phrase=true)
  (sa_Phrase:W.findIn K (.ref c_Phrase) "__setattr__"=some (some (.builtin "object.__setattr__")))
  (mk_Phrase:W.makesIn K c_Phrase=true)
  (kc_Phrase:W.keepIn K (.ref c_Phrase)=true)
  (na_Phrase_words:W.findIn K (.ref c_Phrase) "words"=some none)
  (na_Phrase_at:W.findIn K (.ref c_Phrase) "at"=some none)
  (na_Phrase_place:W.findIn K (.ref c_Phrase) "place"=some none)
  (t1_Phrase:W.findIn K (.ref c_Phrase) "__class__"=some (some (.builtin "object.__class__")))
  (t2_Phrase:W.specialIn K (.builtin "object.__class__") "__get__"=some (some (.builtin "getset_descriptor.__get__")))
  (t3_Phrase:W.takesIn K (.builtin "object.__class__")=some true)
  (t4_Phrase:W.mroIn K c_Phrase (.type "object")=some true)
  (pg_Spot:W.plainGet K c_Spot Str.empty=true)
  (hd_Spot:W.hasDictIn K c_Spot=true)
  (po_Spot:W.plainOver K c_Spot=true)
  (sa_Spot:W.findIn K (.ref c_Spot) "__setattr__"=some (some (.builtin "object.__setattr__")))
  (mk_Spot:W.makesIn K c_Spot=true)
  (kc_Spot:W.keepIn K (.ref c_Spot)=true)
  (na_Spot_number:W.findIn K (.ref c_Spot) "number"=some none)
  (na_Spot_within:W.findIn K (.ref c_Spot) "within"=some none)
  (na_Spot_outer:W.findIn K (.ref c_Spot) "outer"=some none)
  (na_Spot_other:W.findIn K (.ref c_Spot) "other"=some none)
  (na_Spot_body:W.findIn K (.ref c_Spot) "body"=some none)
  (t1_Spot:W.findIn K (.ref c_Spot) "__class__"=some (some (.builtin "object.__class__")))
  (t2_Spot:W.specialIn K (.builtin "object.__class__") "__get__"=some (some (.builtin "getset_descriptor.__get__")))
  (t3_Spot:W.takesIn K (.builtin "object.__class__")=some true)
  (t4_Spot:W.mroIn K c_Spot (.type "object")=some true)
  (pg_Reading:W.plainGet K c_Reading Str.empty=true)
  (hd_Reading:W.hasDictIn K c_Reading=true)
  (po_Reading:W.plainOver K c_Reading=true)
  (sa_Reading:W.findIn K (.ref c_Reading) "__setattr__"=some (some (.builtin "object.__setattr__")))
  (mk_Reading:W.makesIn K c_Reading=true)
  (kc_Reading:W.keepIn K (.ref c_Reading)=true)
  (na_Reading_spots:W.findIn K (.ref c_Reading) "spots"=some none)
  (na_Reading_standing:W.findIn K (.ref c_Reading) "standing"=some none)
  (na_Reading_faults:W.findIn K (.ref c_Reading) "faults"=some none)
  (t1_Reading:W.findIn K (.ref c_Reading) "__class__"=some (some (.builtin "object.__class__")))
  (t2_Reading:W.specialIn K (.builtin "object.__class__") "__get__"=some (some (.builtin "getset_descriptor.__get__")))
  (t3_Reading:W.takesIn K (.builtin "object.__class__")=some true)
  (t4_Reading:W.mroIn K c_Reading (.type "object")=some true)
  (v_LETTERS:W.nsIn K mainGlobals "LETTERS"=some (some (.str "abcdefghij" t_LETTERS)))
  (v_DEEPEST_GROUP:W.nsIn K mainGlobals "DEEPEST_GROUP"=some (some (.int 5 t_DEEPEST_GROUP)))
  (v_MOST_VARIANTS:W.nsIn K mainGlobals "MOST_VARIANTS"=some (some (.int 16 t_MOST_VARIANTS)))
  (v_SMALL_LETTERS:W.nsIn K mainGlobals "SMALL_LETTERS"=some (some (.str "abcdefghijklmnopqrstuvwxyz" t_SMALL_LETTERS)))
  (v_FIGURES:W.nsIn K mainGlobals "FIGURES"=some (some (.str "0123456789" t_FIGURES)))
  (v_LONGEST_NAME:W.nsIn K mainGlobals "LONGEST_NAME"=some (some (.int 8 t_LONGEST_NAME)))
  (v_LONGEST_NUMBER:W.nsIn K mainGlobals "LONGEST_NUMBER"=some (some (.int 18 t_LONGEST_NUMBER)))
  (v_DEEPEST_EXPR:W.nsIn K mainGlobals "DEEPEST_EXPR"=some (some (.int 6 t_DEEPEST_EXPR)))
  (v_MOST_BLOCKS:W.nsIn K mainGlobals "MOST_BLOCKS"=some (some (.int 4 t_MOST_BLOCKS)))
  (v_TOP:W.nsIn K mainGlobals "TOP"=some (some (.int 0 t_TOP)))
  (a_NEEDS:W.nsIn K mainGlobals "NEEDS"=some (some (.ref d_NEEDS)))
  (l_NEEDS:K.lookup d_NEEDS=some ⟨.type "dict",none,.dict #[⟨h_NEEDS_0,.str "!" t_NEEDS_0,.int 1 u_NEEDS_0⟩,⟨h_NEEDS_1,.str "&" t_NEEDS_1,.int 2 u_NEEDS_1⟩,⟨h_NEEDS_2,.str "|" t_NEEDS_2,.int 2 u_NEEDS_2⟩,⟨h_NEEDS_3,.str "^" t_NEEDS_3,.int 2 u_NEEDS_3⟩,⟨h_NEEDS_4,.str "?" t_NEEDS_4,.int 3 u_NEEDS_4⟩] ep_NEEDS,#[]⟩)
  (s_NEEDS:(d_NEEDS == sysModules)=false)
  (e_NEEDS_0:h_NEEDS_0=hashStr w "!")
  (e_NEEDS_1:h_NEEDS_1=hashStr w "&")
  (e_NEEDS_2:h_NEEDS_2=hashStr w "|")
  (e_NEEDS_3:h_NEEDS_3=hashStr w "^")
  (e_NEEDS_4:h_NEEDS_4=hashStr w "?")
  (a_LANGUAGE_WORDS:W.nsIn K mainGlobals "LANGUAGE_WORDS"=some (some (.ref q_LANGUAGE_WORDS)))
  (l_LANGUAGE_WORDS:K.lookup q_LANGUAGE_WORDS=some ⟨.type "tuple",od_LANGUAGE_WORDS,.seq #[.str "kind" t_LANGUAGE_WORDS_0,.str "def" t_LANGUAGE_WORDS_1,.str "set" t_LANGUAGE_WORDS_2,.str "tell" t_LANGUAGE_WORDS_3,.str "give" t_LANGUAGE_WORDS_4,.str "if" t_LANGUAGE_WORDS_5,.str "else" t_LANGUAGE_WORDS_6,.str "while" t_LANGUAGE_WORDS_7,.str "end" t_LANGUAGE_WORDS_8,.str "num" t_LANGUAGE_WORDS_9,.str "truth" t_LANGUAGE_WORDS_10,.str "yes" t_LANGUAGE_WORDS_11,.str "no" t_LANGUAGE_WORDS_12,.str "less" t_LANGUAGE_WORDS_13,.str "same" t_LANGUAGE_WORDS_14,.str "and" t_LANGUAGE_WORDS_15,.str "or" t_LANGUAGE_WORDS_16,.str "not" t_LANGUAGE_WORDS_17,.str "do" t_LANGUAGE_WORDS_18,.str "new" t_LANGUAGE_WORDS_19,.str "of" t_LANGUAGE_WORDS_20,.str "+" t_LANGUAGE_WORDS_21,.str "-" t_LANGUAGE_WORDS_22,.str "*" t_LANGUAGE_WORDS_23,.str "." t_LANGUAGE_WORDS_24] n_LANGUAGE_WORDS,sl_LANGUAGE_WORDS⟩)
  (a_OPERATORS:W.nsIn K mainGlobals "OPERATORS"=some (some (.ref q_OPERATORS)))
  (l_OPERATORS:K.lookup q_OPERATORS=some ⟨.type "tuple",od_OPERATORS,.seq #[.str "+" t_OPERATORS_0,.str "-" t_OPERATORS_1,.str "*" t_OPERATORS_2,.str "less" t_OPERATORS_3,.str "same" t_OPERATORS_4,.str "and" t_OPERATORS_5,.str "or" t_OPERATORS_6] n_OPERATORS,sl_OPERATORS⟩)
  (ax_MakesError:W.nsIn K mainGlobals "MakesError"=some (some (.ref x_MakesError)))
  (pg_MakesError:W.findIn K (.ref x_MakesError) "__getattribute__"=some (some (.builtin "BaseException.__getattribute__")))
  (pk_MakesError:W.findIn K (.ref x_MakesError) "__getattr__"=some none)
  (pb_MakesError:W.mroIn K x_MakesError (.type "BaseException")=some true)
  (t1_MakesError:W.findIn K (.ref x_MakesError) "__class__"=some (some (.builtin "object.__class__")))
  (t2_MakesError:W.specialIn K (.builtin "object.__class__") "__get__"=some (some (.builtin "getset_descriptor.__get__")))
  (t3_MakesError:W.takesIn K (.builtin "object.__class__")=some true)
  (t4_MakesError:W.mroIn K x_MakesError (.type "object")=some true)
  (ax_NoGroup:W.nsIn K mainGlobals "NoGroup"=some (some (.ref x_NoGroup)))
  (pg_NoGroup:W.findIn K (.ref x_NoGroup) "__getattribute__"=some (some (.builtin "BaseException.__getattribute__")))
  (pk_NoGroup:W.findIn K (.ref x_NoGroup) "__getattr__"=some none)
  (pb_NoGroup:W.mroIn K x_NoGroup (.type "BaseException")=some true)
  (t1_NoGroup:W.findIn K (.ref x_NoGroup) "__class__"=some (some (.builtin "object.__class__")))
  (t2_NoGroup:W.specialIn K (.builtin "object.__class__") "__get__"=some (some (.builtin "getset_descriptor.__get__")))
  (t3_NoGroup:W.takesIn K (.builtin "object.__class__")=some true)
  (t4_NoGroup:W.mroIn K x_NoGroup (.type "object")=some true)
  (ax_TooMany:W.nsIn K mainGlobals "TooMany"=some (some (.ref x_TooMany)))
  (pg_TooMany:W.findIn K (.ref x_TooMany) "__getattribute__"=some (some (.builtin "BaseException.__getattribute__")))
  (pk_TooMany:W.findIn K (.ref x_TooMany) "__getattr__"=some none)
  (pb_TooMany:W.mroIn K x_TooMany (.type "BaseException")=some true)
  (t1_TooMany:W.findIn K (.ref x_TooMany) "__class__"=some (some (.builtin "object.__class__")))
  (t2_TooMany:W.specialIn K (.builtin "object.__class__") "__get__"=some (some (.builtin "getset_descriptor.__get__")))
  (t3_TooMany:W.takesIn K (.builtin "object.__class__")=some true)
  (t4_TooMany:W.mroIn K x_TooMany (.type "object")=some true)
  (a_Zp:W.findIn K (.ref x_TooMany) "__init__"=some (some (.ref f_Zp)))
  (i_Zp:W.isFn K (.ref f_Zp)=true)
  (l_Zp:K.lookup f_Zp=some ⟨oc_Zp,od_Zp,.func (W.fnOf "__init__" "TooMany.__init__" (defArgs st_Zp) (defBody st_Zp) (defScope st_Zp) .none kV_Zp dc_Zp pm_Zp an_Zp cd_Zp ct_Zp),sl_Zp⟩)
  (c_Zp':W.codeIn K cd_Zp "TooMany.__init__"=true)
  (k_Zp:W.keepIn K (.ref f_Zp)=true)
  (mi_TooMany:excInI K x_TooMany bmVE "ValueError.__new__" f_Zp=true)
  (po_TooMany:(W.clsIn K x_TooMany).any (fun cd=>refsThen 2 cd.mro)=true)
  (sa_TooMany:W.findIn K (.ref x_TooMany) "__setattr__"=some (some (.builtin "object.__setattr__")))
  (hd_TooMany:W.hasDictIn K x_TooMany=true)
  (na_TooMany_at:W.findIn K (.ref x_TooMany) "at"=some none)
  (em_TooMany_TooMany:W.exmOne K (.ref x_TooMany) (.ref x_TooMany)=some true)
  (ki_TooMany_MakesError:W.kitOne K (.ref x_TooMany) (.ref x_MakesError)=some true)
  (ki_TooMany_NoGroup:W.kitOne K (.ref x_TooMany) (.ref x_NoGroup)=some false)
  (z_len:W.nsIn K mainGlobals "len"=some none)
  (z_range:W.nsIn K mainGlobals "range"=some none)
  (z_int:W.nsIn K mainGlobals "int"=some none)
  (z_bool:W.nsIn K mainGlobals "bool"=some none)
  (z_min:W.nsIn K mainGlobals "min"=some none)
  (z_list:W.nsIn K mainGlobals "list"=some none)
  (z_reversed:W.nsIn K mainGlobals "reversed"=some none)
  (z_enumerate:W.nsIn K mainGlobals "enumerate"=some none)
  (z_isinstance:W.nsIn K mainGlobals "isinstance"=some none)
  (z_tuple:W.nsIn K mainGlobals "tuple"=some none)
  (z_sorted:W.nsIn K mainGlobals "sorted"=some none)
  (z_str:W.nsIn K mainGlobals "str"=some none)
  (z_all:W.nsIn K mainGlobals "all"=some none)
  :
  ∃ fd:FuncData,(∀ (s:Shared) (v:Value),BindsTo s fd ⟨[v],[]⟩ [("_law_script",v)])/\∀ base:Heap,K.In base->base.Ns mainGlobals mg->FnOk l.prog w K mg base CX0 20 fa fd ["_law_script"] (spLaw K):=by
 have e:=hfa.symm.trans (W.mg_of X G a_law)
 cases e
 have F_ZW:=fun_mk (st:=st_ZW) l_ZW c_ZW' k_ZW
 have F_Zq:=fun_mk (st:=st_Zq) l_Zq c_Zq' k_Zq
 have F_has:=fun_mk (st:=st_has) l_has c_has' k_has
 have F_ZH:=fun_mk (st:=st_ZH) l_ZH c_ZH' k_ZH
 have F_ZX:=fun_mk (st:=st_ZX) l_ZX c_ZX' k_ZX
 have F_ZV:=fun_mk (st:=st_ZV) l_ZV c_ZV' k_ZV
 have F_Zx:=fun_mk (st:=st_Zx) l_Zx c_Zx' k_Zx
 have F_ZB:=fun_mk (st:=st_ZB) l_ZB c_ZB' k_ZB
 have F_Zf:=fun_mk (st:=st_Zf) l_Zf c_Zf' k_Zf
 have F_Zh:=fun_mk (st:=st_Zh) l_Zh c_Zh' k_Zh
 have F_ZR:=fun_mk (st:=st_ZR) l_ZR c_ZR' k_ZR
 have F_ZS:=fun_mk (st:=st_ZS) l_ZS c_ZS' k_ZS
 have F_ZC:=fun_mk (st:=st_ZC) l_ZC c_ZC' k_ZC
 have F_ZI:=fun_mk (st:=st_ZI) l_ZI c_ZI' k_ZI
 have F_ZD:=fun_mk (st:=st_ZD) l_ZD c_ZD' k_ZD
 have F_Zr:=fun_mk (st:=st_Zr) l_Zr c_Zr' k_Zr
 have F_Zj:=fun_mk (st:=st_Zj) l_Zj c_Zj' k_Zj
 have F_ZJ:=fun_mk (st:=st_ZJ) l_ZJ c_ZJ' k_ZJ
 have F_ZE:=fun_mk (st:=st_ZE) l_ZE c_ZE' k_ZE
 have F_Zk:=fun_mk (st:=st_Zk) l_Zk c_Zk' k_Zk
 have F_ZK:=fun_mk (st:=st_ZK) l_ZK c_ZK' k_ZK
 have F_ZY:=fun_mk (st:=st_ZY) l_ZY c_ZY' k_ZY
 have F_ZL:=fun_mk (st:=st_ZL) l_ZL c_ZL' k_ZL
 have F_Zl:=fun_mk (st:=st_Zl) l_Zl c_Zl' k_Zl
 have F_ZF:=fun_mk (st:=st_ZF) l_ZF c_ZF' k_ZF
 have F_Zy:=fun_mk (st:=st_Zy) l_Zy c_Zy' k_Zy
 have F_ZM:=fun_mk (st:=st_ZM) l_ZM c_ZM' k_ZM
 have F_Zz:=fun_mk (st:=st_Zz) l_Zz c_Zz' k_Zz
 have F_ZT:=fun_mk (st:=st_ZT) l_ZT c_ZT' k_ZT
 have F_ZN:=funD_mk (st:=st_ZN) (items:=[.int 0 tok_ZN]) l_ZN c_ZN' lt_ZN rfl
 have F_ZO:=fun_mk (st:=st_ZO) l_ZO c_ZO' k_ZO
 have F_Zs:=fun_mk (st:=st_Zs) l_Zs c_Zs' k_Zs
 have F_Zt:=fun_mk (st:=st_Zt) l_Zt c_Zt' k_Zt
 have F_ZA:=fun_mk (st:=st_ZA) l_ZA c_ZA' k_ZA
 have F_ZU:=fun_mk (st:=st_ZU) l_ZU c_ZU' k_ZU
 have F_ZP:=fun_mk (st:=st_ZP) l_ZP c_ZP' k_ZP
 have F_ZQ:=fun_mk (st:=st_ZQ) l_ZQ c_ZQ' k_ZQ
 have F_Zu:=fun_mk (st:=st_Zu) l_Zu c_Zu' k_Zu
 have F_Zm:=fun_mk (st:=st_Zm) l_Zm c_Zm' k_Zm
 have F_Zv:=fun_mk (st:=st_Zv) l_Zv c_Zv' k_Zv
 have F_Zc:=fun_mk (st:=st_Zc) l_Zc c_Zc' k_Zc
 have F_Zd:=fun_mk (st:=st_Zd) l_Zd c_Zd' k_Zd
 have F_Za:=fun_mk (st:=st_Za) l_Za c_Za' k_Za
 have F_Zb:=fun_mk (st:=st_Zb) l_Zb c_Zb' k_Zb
 have F_ZG:=fun_mk (st:=st_ZG) l_ZG c_ZG' k_ZG
 have F_Zn:=fun_mk (st:=st_Zn) l_Zn c_Zn' k_Zn
 have F_Ze:=fun_mk (st:=st_Ze) l_Ze c_Ze' k_Ze
 have F_Zi:=fun_mk (st:=st_Zi) l_Zi c_Zi' k_Zi
 have F_Zo:=fun_mk (st:=st_Zo) l_Zo c_Zo' k_Zo
 have F_Zw:=fun_mk (st:=st_Zw) l_Zw c_Zw' k_Zw
 have F_Zg:=fun_mk (st:=st_Zg) l_Zg c_Zg' k_Zg
 have F_Zp:=fun_mk (st:=st_Zp) l_Zp c_Zp' k_Zp
 have F_law:=fun_mk (st:=st_law) l_law c_law' k_law
 have b_ZW:=F_ZW.binds (ps:=["n"]) fun _ _ _ _ _ _ us hl=>by obtain ⟨_,rfl⟩:=len1 hl;rfl
 have b_Zq:=F_Zq.binds (ps:=["k","n"]) fun _ _ _ _ _ _ us hl=>by obtain ⟨_,_,rfl⟩:=len2 hl;rfl
 have b_has:=F_has.binds (ps:=["mask","s"]) fun _ _ _ _ _ _ us hl=>by obtain ⟨_,_,rfl⟩:=len2 hl;rfl
 have b_ZH:=F_ZH.binds (ps:=["mask"]) fun _ _ _ _ _ _ us hl=>by obtain ⟨_,rfl⟩:=len1 hl;rfl
 have b_ZX:=F_ZX.binds (ps:=["mask"]) fun _ _ _ _ _ _ us hl=>by obtain ⟨_,rfl⟩:=len1 hl;rfl
 have b_ZV:=F_ZV.binds (ps:=["found","key","mask"]) fun _ _ _ _ _ _ us hl=>by obtain ⟨_,_,_,rfl⟩:=len3 hl;rfl
 have b_Zx:=F_Zx.binds (ps:=["found"]) fun _ _ _ _ _ _ us hl=>by obtain ⟨_,rfl⟩:=len1 hl;rfl
 have b_ZB:=F_ZB.binds (ps:=["tree","mask"]) fun _ _ _ _ _ _ us hl=>by obtain ⟨_,_,rfl⟩:=len2 hl;rfl
 have b_Zf:=F_Zf.binds (ps:=["one","mask"]) fun _ _ _ _ _ _ us hl=>by obtain ⟨_,_,rfl⟩:=len2 hl;rfl
 have b_Zh:=F_Zh.binds (ps:=["pair"]) fun _ _ _ _ _ _ us hl=>by obtain ⟨_,rfl⟩:=len1 hl;rfl
 have b_ZR:=F_ZR.binds (ps:=["word","signs","most"]) fun _ _ _ _ _ _ us hl=>by obtain ⟨_,_,_,rfl⟩:=len3 hl;rfl
 have b_ZS:=F_ZS.binds (ps:=["word"]) fun _ _ _ _ _ _ us hl=>by obtain ⟨_,rfl⟩:=len1 hl;rfl
 have b_ZC:=F_ZC.binds (ps:=["word"]) fun _ _ _ _ _ _ us hl=>by obtain ⟨_,rfl⟩:=len1 hl;rfl
 have b_ZI:=F_ZI.binds (ps:=["words","at"]) fun _ _ _ _ _ _ us hl=>by obtain ⟨_,_,rfl⟩:=len2 hl;rfl
 have b_ZD:=F_ZD.binds (ps:=["phrase","word"]) fun _ _ _ _ _ _ us hl=>by obtain ⟨_,_,rfl⟩:=len2 hl;rfl
 have b_Zr:=F_Zr.binds (ps:=["word","within"]) fun _ _ _ _ _ _ us hl=>by obtain ⟨_,_,rfl⟩:=len2 hl;rfl
 have b_Zj:=F_Zj.binds (ps:=["word","within"]) fun _ _ _ _ _ _ us hl=>by obtain ⟨_,_,rfl⟩:=len2 hl;rfl
 have b_ZJ:=F_ZJ.binds (ps:=["word","within"]) fun _ _ _ _ _ _ us hl=>by obtain ⟨_,_,rfl⟩:=len2 hl;rfl
 have b_ZE:=F_ZE.binds (ps:=["text","n"]) fun _ _ _ _ _ _ us hl=>by obtain ⟨_,_,rfl⟩:=len2 hl;rfl
 have b_Zk:=F_Zk.binds (ps:=["text","n"]) fun _ _ _ _ _ _ us hl=>by obtain ⟨_,_,rfl⟩:=len2 hl;rfl
 have b_ZK:=F_ZK.binds (ps:=["text","switches","full"]) fun _ _ _ _ _ _ us hl=>by obtain ⟨_,_,_,rfl⟩:=len3 hl;rfl
 have b_ZY:=F_ZY.binds (ps:=["found","many"]) fun _ _ _ _ _ _ us hl=>by obtain ⟨_,_,rfl⟩:=len2 hl;rfl
 have b_ZL:=F_ZL.binds (ps:=["sign","switches","full"]) fun _ _ _ _ _ _ us hl=>by obtain ⟨_,_,_,rfl⟩:=len3 hl;rfl
 have b_Zl:=F_Zl.binds (ps:=["sign","parts","full"]) fun _ _ _ _ _ _ us hl=>by obtain ⟨_,_,_,rfl⟩:=len3 hl;rfl
 have b_ZF:=F_ZF.binds (ps:=["text","n"]) fun _ _ _ _ _ _ us hl=>by obtain ⟨_,_,rfl⟩:=len2 hl;rfl
 have b_Zy:=F_Zy.binds (ps:=["row","n","at"]) fun _ _ _ _ _ _ us hl=>by obtain ⟨_,_,_,rfl⟩:=len3 hl;rfl
 have b_ZM:=F_ZM.binds (ps:=["row"]) fun _ _ _ _ _ _ us hl=>by obtain ⟨_,rfl⟩:=len1 hl;rfl
 have b_Zz:=F_Zz.binds (ps:=["word","n","at"]) fun _ _ _ _ _ _ us hl=>by obtain ⟨_,_,_,rfl⟩:=len3 hl;rfl
 have b_ZT:=F_ZT.binds (ps:=["row","s"]) fun _ _ _ _ _ _ us hl=>by obtain ⟨_,_,rfl⟩:=len2 hl;rfl
 have b_ZN:=F_ZN.binds (ps:=["row","mask","at"]) (ds:=[]) fun _ _ _ _ _ _ us hl=>by
  match us,hl with
  | [_,_,_],_=>exact ⟨_,rfl,rfl⟩
  | [],hl=>simp at hl
  | [_],hl=>simp at hl
  | [_,_],hl=>simp at hl
  | _::_::_::_::_,hl=>simp at hl
 have b2_ZN:=F_ZN.binds (ps:=["row","mask","at"]) (ds:=[.int 0 tok_ZN]) fun _ _ _ _ _ _ us hl=>by
  match us,hl with
  | [_,_],_=>exact ⟨_,rfl,rfl⟩
  | [],hl=>simp at hl
  | [_],hl=>simp at hl
  | _::_::_::_,hl=>simp at hl
 have b_ZO:=F_ZO.binds (ps:=["words","at"]) fun _ _ _ _ _ _ us hl=>by obtain ⟨_,_,rfl⟩:=len2 hl;rfl
 have b_Zs:=F_Zs.binds (ps:=["rows","mask"]) fun _ _ _ _ _ _ us hl=>by obtain ⟨_,_,rfl⟩:=len2 hl;rfl
 have b_Zt:=F_Zt.binds (ps:=["_law_script","_law_k"]) fun _ _ _ _ _ _ us hl=>by obtain ⟨_,_,rfl⟩:=len2 hl;rfl
 have b_ZA:=F_ZA.binds (ps:=["_law_cell","_law_size"]) fun _ _ _ _ _ _ us hl=>by obtain ⟨_,_,rfl⟩:=len2 hl;rfl
 have b_ZU:=F_ZU.binds (ps:=["_law_number","_law_n"]) fun _ _ _ _ _ _ us hl=>by obtain ⟨_,_,rfl⟩:=len2 hl;rfl
 have b_ZP:=F_ZP.binds (ps:=["_law_cell","_law_n"]) fun _ _ _ _ _ _ us hl=>by obtain ⟨_,_,rfl⟩:=len2 hl;rfl
 have b_ZQ:=F_ZQ.binds (ps:=["_law_row_here","_law_mask_here","_law_n"]) fun _ _ _ _ _ _ us hl=>by obtain ⟨_,_,_,rfl⟩:=len3 hl;rfl
 have b_Zu:=F_Zu.binds (ps:=["self","words","at"]) fun _ _ _ _ _ _ us hl=>by obtain ⟨_,_,_,rfl⟩:=len3 hl;rfl
 have b_Zm:=F_Zm.binds (ps:=["self"]) fun _ _ _ _ _ _ us hl=>by obtain ⟨_,rfl⟩:=len1 hl;rfl
 have b_Zv:=F_Zv.binds (ps:=["self"]) fun _ _ _ _ _ _ us hl=>by obtain ⟨_,rfl⟩:=len1 hl;rfl
 have b_Zc:=F_Zc.binds (ps:=["self"]) fun _ _ _ _ _ _ us hl=>by obtain ⟨_,rfl⟩:=len1 hl;rfl
 have b_Zd:=F_Zd.binds (ps:=["self","deep"]) fun _ _ _ _ _ _ us hl=>by obtain ⟨_,_,rfl⟩:=len2 hl;rfl
 have b_Za:=F_Za.binds (ps:=["self","word","deep"]) fun _ _ _ _ _ _ us hl=>by obtain ⟨_,_,_,rfl⟩:=len3 hl;rfl
 have b_Zb:=F_Zb.binds (ps:=["self","deep"]) fun _ _ _ _ _ _ us hl=>by obtain ⟨_,_,rfl⟩:=len2 hl;rfl
 have b_ZG:=F_ZG.binds (ps:=["self","number","within","outer","other"]) fun _ _ _ _ _ _ us hl=>by obtain ⟨_,_,_,_,_,rfl⟩:=len5 hl;rfl
 have b_Zn:=F_Zn.binds (ps:=["self","mask"]) fun _ _ _ _ _ _ us hl=>by obtain ⟨_,_,rfl⟩:=len2 hl;rfl
 have b_Ze:=F_Ze.binds (ps:=["self","within","outer","other"]) fun _ _ _ _ _ _ us hl=>by obtain ⟨_,_,_,_,rfl⟩:=len4 hl;rfl
 have b_Zi:=F_Zi.binds (ps:=["self","at","cuts"]) fun _ _ _ _ _ _ us hl=>by obtain ⟨_,_,_,rfl⟩:=len3 hl;rfl
 have b_Zo:=F_Zo.binds (ps:=["self","mask","at","said","spot"]) fun _ _ _ _ _ _ us hl=>by obtain ⟨_,_,_,_,_,rfl⟩:=len5 hl;rfl
 have b_Zw:=F_Zw.binds (ps:=["self","mask","said","spot"]) fun _ _ _ _ _ _ us hl=>by obtain ⟨_,_,_,_,rfl⟩:=len4 hl;rfl
 have b_Zg:=F_Zg.binds (ps:=["self","at"]) fun _ _ _ _ _ _ us hl=>by obtain ⟨_,_,rfl⟩:=len2 hl;rfl
 have b_Zp:=F_Zp.binds (ps:=["self","at"]) fun _ _ _ _ _ _ us hl=>by obtain ⟨_,_,rfl⟩:=len2 hl;rfl
 have T:All l.prog w K mg ⟨f_ZW,f_Zq,f_has,f_ZH,f_ZX,f_ZV,f_Zx,f_ZB,f_Zf,f_Zh,f_ZR,f_ZS,f_ZC,f_ZI,f_ZD,f_Zr,f_Zj,f_ZJ,f_ZE,f_Zk,f_ZK,f_ZY,f_ZL,f_Zl,f_ZF,f_Zy,f_ZM,f_Zz,f_ZT,f_ZN,f_ZO,f_Zs,f_Zt,f_ZA,f_ZU,f_ZP,f_ZQ,f_Zu,f_Zm,f_Zv,f_Zc,f_Zd,f_Za,f_Zb,f_ZG,f_Zn,f_Ze,f_Zi,f_Zo,f_Zw,f_Zg,f_Zp,t_ZN,c_Phrase,c_Spot,c_Reading,d_NEEDS,x_MakesError,x_NoGroup,x_TooMany,q_LANGUAGE_WORDS,q_OPERATORS⟩ ⟨_,_,_,_,_,_,_,_,_,_,_,_,_,_,_,_,_,_,_,_,_,_,_,_,_,_,_,_,_,_,_,_,_,_,_,_,_,_,_,_,_,_,_,_,_,_,_,_,_,_,_,_⟩:={
  m_ZW:=W.mg_of X G a_ZW
  k_ZW:=k_ZW
  F_ZW:=F_ZW
  b_ZW:=b_ZW
  m_Zq:=W.mg_of X G a_Zq
  k_Zq:=k_Zq
  F_Zq:=F_Zq
  b_Zq:=b_Zq
  m_has:=W.mg_of X G a_has
  k_has:=k_has
  F_has:=F_has
  b_has:=b_has
  m_ZH:=W.mg_of X G a_ZH
  k_ZH:=k_ZH
  F_ZH:=F_ZH
  b_ZH:=b_ZH
  m_ZX:=W.mg_of X G a_ZX
  k_ZX:=k_ZX
  F_ZX:=F_ZX
  b_ZX:=b_ZX
  m_ZV:=W.mg_of X G a_ZV
  k_ZV:=k_ZV
  F_ZV:=F_ZV
  b_ZV:=b_ZV
  m_Zx:=W.mg_of X G a_Zx
  k_Zx:=k_Zx
  F_Zx:=F_Zx
  b_Zx:=b_Zx
  m_ZB:=W.mg_of X G a_ZB
  k_ZB:=k_ZB
  F_ZB:=F_ZB
  b_ZB:=b_ZB
  m_Zf:=W.mg_of X G a_Zf
  k_Zf:=k_Zf
  F_Zf:=F_Zf
  b_Zf:=b_Zf
  m_Zh:=W.mg_of X G a_Zh
  k_Zh:=k_Zh
  F_Zh:=F_Zh
  b_Zh:=b_Zh
  m_ZR:=W.mg_of X G a_ZR
  k_ZR:=k_ZR
  F_ZR:=F_ZR
  b_ZR:=b_ZR
  m_ZS:=W.mg_of X G a_ZS
  k_ZS:=k_ZS
  F_ZS:=F_ZS
  b_ZS:=b_ZS
  m_ZC:=W.mg_of X G a_ZC
  k_ZC:=k_ZC
  F_ZC:=F_ZC
  b_ZC:=b_ZC
  m_ZI:=W.mg_of X G a_ZI
  k_ZI:=k_ZI
  F_ZI:=F_ZI
  b_ZI:=b_ZI
  m_ZD:=W.mg_of X G a_ZD
  k_ZD:=k_ZD
  F_ZD:=F_ZD
  b_ZD:=b_ZD
  m_Zr:=W.mg_of X G a_Zr
  k_Zr:=k_Zr
  F_Zr:=F_Zr
  b_Zr:=b_Zr
  m_Zj:=W.mg_of X G a_Zj
  k_Zj:=k_Zj
  F_Zj:=F_Zj
  b_Zj:=b_Zj
  m_ZJ:=W.mg_of X G a_ZJ
  k_ZJ:=k_ZJ
  F_ZJ:=F_ZJ
  b_ZJ:=b_ZJ
  m_ZE:=W.mg_of X G a_ZE
  k_ZE:=k_ZE
  F_ZE:=F_ZE
  b_ZE:=b_ZE
  m_Zk:=W.mg_of X G a_Zk
  k_Zk:=k_Zk
  F_Zk:=F_Zk
  b_Zk:=b_Zk
  m_ZK:=W.mg_of X G a_ZK
  k_ZK:=k_ZK
  F_ZK:=F_ZK
  b_ZK:=b_ZK
  m_ZY:=W.mg_of X G a_ZY
  k_ZY:=k_ZY
  F_ZY:=F_ZY
  b_ZY:=b_ZY
  m_ZL:=W.mg_of X G a_ZL
  k_ZL:=k_ZL
  F_ZL:=F_ZL
  b_ZL:=b_ZL
  m_Zl:=W.mg_of X G a_Zl
  k_Zl:=k_Zl
  F_Zl:=F_Zl
  b_Zl:=b_Zl
  m_ZF:=W.mg_of X G a_ZF
  k_ZF:=k_ZF
  F_ZF:=F_ZF
  b_ZF:=b_ZF
  m_Zy:=W.mg_of X G a_Zy
  k_Zy:=k_Zy
  F_Zy:=F_Zy
  b_Zy:=b_Zy
  m_ZM:=W.mg_of X G a_ZM
  k_ZM:=k_ZM
  F_ZM:=F_ZM
  b_ZM:=b_ZM
  m_Zz:=W.mg_of X G a_Zz
  k_Zz:=k_Zz
  F_Zz:=F_Zz
  b_Zz:=b_Zz
  m_ZT:=W.mg_of X G a_ZT
  k_ZT:=k_ZT
  F_ZT:=F_ZT
  b_ZT:=b_ZT
  m_ZN:=W.mg_of X G a_ZN
  k_ZN:=k_ZN
  F_ZN:=⟨_,F_ZN,b_ZN,b2_ZN⟩
  m_ZO:=W.mg_of X G a_ZO
  k_ZO:=k_ZO
  F_ZO:=F_ZO
  b_ZO:=b_ZO
  m_Zs:=W.mg_of X G a_Zs
  k_Zs:=k_Zs
  F_Zs:=F_Zs
  b_Zs:=b_Zs
  m_Zt:=W.mg_of X G a_Zt
  k_Zt:=k_Zt
  F_Zt:=F_Zt
  b_Zt:=b_Zt
  m_ZA:=W.mg_of X G a_ZA
  k_ZA:=k_ZA
  F_ZA:=F_ZA
  b_ZA:=b_ZA
  m_ZU:=W.mg_of X G a_ZU
  k_ZU:=k_ZU
  F_ZU:=F_ZU
  b_ZU:=b_ZU
  m_ZP:=W.mg_of X G a_ZP
  k_ZP:=k_ZP
  F_ZP:=F_ZP
  b_ZP:=b_ZP
  m_ZQ:=W.mg_of X G a_ZQ
  k_ZQ:=k_ZQ
  F_ZQ:=F_ZQ
  b_ZQ:=b_ZQ
  M_Phrase:=⟨mk_Phrase,a_Zu,i_Zu,kc_Phrase⟩
  k_Zu:=k_Zu
  F_Zu:=F_Zu
  b_Zu:=b_Zu
  M_Zm:=⟨a_Zm,i_Zm,k_Zm⟩
  k_Zm:=k_Zm
  F_Zm:=F_Zm
  b_Zm:=b_Zm
  M_Zv:=⟨a_Zv,i_Zv,k_Zv⟩
  k_Zv:=k_Zv
  F_Zv:=F_Zv
  b_Zv:=b_Zv
  M_Zc:=⟨a_Zc,i_Zc,k_Zc⟩
  k_Zc:=k_Zc
  F_Zc:=F_Zc
  b_Zc:=b_Zc
  M_Zd:=⟨a_Zd,i_Zd,k_Zd⟩
  k_Zd:=k_Zd
  F_Zd:=F_Zd
  b_Zd:=b_Zd
  M_Za:=⟨a_Za,i_Za,k_Za⟩
  k_Za:=k_Za
  F_Za:=F_Za
  b_Za:=b_Za
  M_Zb:=⟨a_Zb,i_Zb,k_Zb⟩
  k_Zb:=k_Zb
  F_Zb:=F_Zb
  b_Zb:=b_Zb
  M_Spot:=⟨mk_Spot,a_ZG,i_ZG,kc_Spot⟩
  k_ZG:=k_ZG
  F_ZG:=F_ZG
  b_ZG:=b_ZG
  M_Reading:=⟨mk_Reading,a_Zn,i_Zn,kc_Reading⟩
  k_Zn:=k_Zn
  F_Zn:=F_Zn
  b_Zn:=b_Zn
  M_Ze:=⟨a_Ze,i_Ze,k_Ze⟩
  k_Ze:=k_Ze
  F_Ze:=F_Ze
  b_Ze:=b_Ze
  M_Zi:=⟨a_Zi,i_Zi,k_Zi⟩
  k_Zi:=k_Zi
  F_Zi:=F_Zi
  b_Zi:=b_Zi
  M_Zo:=⟨a_Zo,i_Zo,k_Zo⟩
  k_Zo:=k_Zo
  F_Zo:=F_Zo
  b_Zo:=b_Zo
  M_Zw:=⟨a_Zw,i_Zw,k_Zw⟩
  k_Zw:=k_Zw
  F_Zw:=F_Zw
  b_Zw:=b_Zw
  M_Zg:=⟨a_Zg,i_Zg,k_Zg⟩
  k_Zg:=k_Zg
  F_Zg:=F_Zg
  b_Zg:=b_Zg
  M_TooMany:=⟨mi_TooMany,i_Zp⟩
  ic_TooMany:=⟨⟨2,po_TooMany⟩,sa_TooMany,hd_TooMany⟩
  na_TooMany_at:=na_TooMany_at
  k_Zp:=k_Zp
  F_Zp:=F_Zp
  b_Zp:=b_Zp
  m_Phrase:=W.mg_of X G aC_Phrase
  cl_Phrase:=⟨pg_Phrase,hd_Phrase,po_Phrase,sa_Phrase⟩
  na_Phrase_words:=na_Phrase_words
  na_Phrase_at:=na_Phrase_at
  na_Phrase_place:=na_Phrase_place
  ty_Phrase:=fun H a dx fs e=>.ins e ⟨pg_Phrase,hd_Phrase,po_Phrase,sa_Phrase⟩ t1_Phrase t2_Phrase t3_Phrase t4_Phrase
  is_Phrase:=kit_same _ _
  m_Spot:=W.mg_of X G aC_Spot
  cl_Spot:=⟨pg_Spot,hd_Spot,po_Spot,sa_Spot⟩
  na_Spot_number:=na_Spot_number
  na_Spot_within:=na_Spot_within
  na_Spot_outer:=na_Spot_outer
  na_Spot_other:=na_Spot_other
  na_Spot_body:=na_Spot_body
  ty_Spot:=fun H a dx fs e=>.ins e ⟨pg_Spot,hd_Spot,po_Spot,sa_Spot⟩ t1_Spot t2_Spot t3_Spot t4_Spot
  is_Spot:=kit_same _ _
  m_Reading:=W.mg_of X G aC_Reading
  cl_Reading:=⟨pg_Reading,hd_Reading,po_Reading,sa_Reading⟩
  na_Reading_spots:=na_Reading_spots
  na_Reading_standing:=na_Reading_standing
  na_Reading_faults:=na_Reading_faults
  ty_Reading:=fun H a dx fs e=>.ins e ⟨pg_Reading,hd_Reading,po_Reading,sa_Reading⟩ t1_Reading t2_Reading t3_Reading t4_Reading
  is_Reading:=kit_same _ _
  v_LETTERS:=⟨_,W.mg_of X G v_LETTERS⟩
  v_DEEPEST_GROUP:=⟨_,W.mg_of X G v_DEEPEST_GROUP⟩
  v_MOST_VARIANTS:=⟨_,W.mg_of X G v_MOST_VARIANTS⟩
  v_SMALL_LETTERS:=⟨_,W.mg_of X G v_SMALL_LETTERS⟩
  v_FIGURES:=⟨_,W.mg_of X G v_FIGURES⟩
  v_LONGEST_NAME:=⟨_,W.mg_of X G v_LONGEST_NAME⟩
  v_LONGEST_NUMBER:=⟨_,W.mg_of X G v_LONGEST_NUMBER⟩
  v_DEEPEST_EXPR:=⟨_,W.mg_of X G v_DEEPEST_EXPR⟩
  v_MOST_BLOCKS:=⟨_,W.mg_of X G v_MOST_BLOCKS⟩
  v_TOP:=⟨_,W.mg_of X G v_TOP⟩
  m_NEEDS:=W.mg_of X G a_NEEDS
  D_NEEDS:=by
   subst e_NEEDS_0 e_NEEDS_1 e_NEEDS_2 e_NEEDS_3 e_NEEDS_4
   exact kdict_mk (es:=[("!",t_NEEDS_0,1,u_NEEDS_0),("&",t_NEEDS_1,2,u_NEEDS_1),("|",t_NEEDS_2,2,u_NEEDS_2),("^",t_NEEDS_3,2,u_NEEDS_3),("?",t_NEEDS_4,3,u_NEEDS_4)]) s_NEEDS l_NEEDS (show (["!","&","|","^","?"]:List Str).Nodup by decide +kernel)
  m_LANGUAGE_WORDS:=W.mg_of X G a_LANGUAGE_WORDS
  Q_LANGUAGE_WORDS:=fun H=>.inr ⟨_,_,_,l_LANGUAGE_WORDS,rfl,rfl,(by show 25<=sizeLine;decide),.cons ⟨_,rfl⟩ (.cons ⟨_,rfl⟩ (.cons ⟨_,rfl⟩ (.cons ⟨_,rfl⟩ (.cons ⟨_,rfl⟩ (.cons ⟨_,rfl⟩ (.cons ⟨_,rfl⟩ (.cons ⟨_,rfl⟩ (.cons ⟨_,rfl⟩ (.cons ⟨_,rfl⟩ (.cons ⟨_,rfl⟩ (.cons ⟨_,rfl⟩ (.cons ⟨_,rfl⟩ (.cons ⟨_,rfl⟩ (.cons ⟨_,rfl⟩ (.cons ⟨_,rfl⟩ (.cons ⟨_,rfl⟩ (.cons ⟨_,rfl⟩ (.cons ⟨_,rfl⟩ (.cons ⟨_,rfl⟩ (.cons ⟨_,rfl⟩ (.cons ⟨_,rfl⟩ (.cons ⟨_,rfl⟩ (.cons ⟨_,rfl⟩ (.cons ⟨_,rfl⟩ (.nil)))))))))))))))))))))))))⟩
  m_OPERATORS:=W.mg_of X G a_OPERATORS
  Q_OPERATORS:=fun H=>.inr ⟨_,_,_,l_OPERATORS,rfl,rfl,(by show 7<=sizeLine;decide),.cons ⟨_,rfl⟩ (.cons ⟨_,rfl⟩ (.cons ⟨_,rfl⟩ (.cons ⟨_,rfl⟩ (.cons ⟨_,rfl⟩ (.cons ⟨_,rfl⟩ (.cons ⟨_,rfl⟩ (.nil)))))))⟩
  m_MakesError:=W.mg_of X G ax_MakesError
  xc_MakesError:=⟨pg_MakesError,pk_MakesError,pb_MakesError,t1_MakesError,t2_MakesError,t3_MakesError,t4_MakesError⟩
  m_NoGroup:=W.mg_of X G ax_NoGroup
  xc_NoGroup:=⟨pg_NoGroup,pk_NoGroup,pb_NoGroup,t1_NoGroup,t2_NoGroup,t3_NoGroup,t4_NoGroup⟩
  m_TooMany:=W.mg_of X G ax_TooMany
  xc_TooMany:=⟨pg_TooMany,pk_TooMany,pb_TooMany,t1_TooMany,t2_TooMany,t3_TooMany,t4_TooMany⟩
  em_TooMany_TooMany:=em_TooMany_TooMany
  ki_TooMany_MakesError:=ki_TooMany_MakesError
  ki_TooMany_NoGroup:=ki_TooMany_NoGroup
  n_len:=W.mg_none_of X G z_len
  n_range:=W.mg_none_of X G z_range
  n_int:=W.mg_none_of X G z_int
  n_bool:=W.mg_none_of X G z_bool
  n_min:=W.mg_none_of X G z_min
  n_list:=W.mg_none_of X G z_list
  n_reversed:=W.mg_none_of X G z_reversed
  n_enumerate:=W.mg_none_of X G z_enumerate
  n_isinstance:=W.mg_none_of X G z_isinstance
  n_tuple:=W.mg_none_of X G z_tuple
  n_sorted:=W.mg_none_of X G z_sorted
  n_str:=W.mg_none_of X G z_str
  n_all:=W.mg_none_of X G z_all
 }
 exact ⟨W.fnOf "law" "law" (defArgs st_law) (defBody st_law) (defScope st_law) .none kV_law dc_law pm_law an_law cd_law ct_law,fun s v=>.of_eq rfl,fun base _ _=>ok_law T F_law⟩
theorem walk {l:W.OpenLaw} {q:Program} {loose:List Str} {XP:(Str->Option Value)->Heap->Prop} {YP:World->Heap->Prop} {d:DefRec} {K:Params->W.Frag} (hn:l.most=some 63) (hdf:d.params.defaults=[])
  (hY:∀ (w:World) (h:Heap),YP w h->(K w.params).In h)
  (F:∀ (w:World) (mg:Str->Option Value) (fa:Addr) (h:Heap),(K w.params).In h->h.Ns mainGlobals mg->mg d.name=some (.ref fa) ->
   ∃ fd:FuncData,(∀ (s:Shared) (u:Value),BindsTo s fd ⟨[u],[]⟩ [("_law_script",u)])/\∀ base:Heap,(K w.params).In base->base.Ns mainGlobals mg->FnOk l.prog w (K w.params) mg base CX0 20 fa fd ["_law_script"] (spLaw (K w.params))) :
  W.WalkO q loose XP YP l.row.toRowW d [] (fun f vs=>PySem.call f vs) :=
 L2.walk_of (n:=63) (k:=20) (x:="_law_script") (CX:=fun _=>CX0) (sp:=fun w=>spLaw (K w.params)) hn (by decide) hdf ⟨rfl,by decide,by decide⟩ hY F (fun _ _ a ns hl _ hS=>⟨a,ns,rfl,hS,hl,fun _=>rfl⟩) fun _ _ _ _ _ z=>z
end K28
open PySem PySem.W PyProof.Rows
set_option maxRecDepth 100000 in
set_option maxHeartbeats 0 in
theorem PySem.Challenge.cw_manymakes_k28_too_many_cuts_holds : PySem.Challenge.rw_manymakes_k28_too_many_cuts.Holds := by
 w_on;o_law
 refine PySem.W.holds_open (r:=OpenLaw.row PySem.Challenge.rw_manymakes_k28_too_many_cuts) (q:=K28.vw) (loose:=["NEEDS","variants"]) (Xt:=K28.xt) (XP:=XL K28.vw [])
  (Yf:=(kHook K28.pre.heap_1 K28.as K28.ase).obs) (Ya:=(kHook K28.pre.heap_1 K28.as K28.ase).val) (YP:=(kHook K28.pre.heap_1 K28.as K28.ase).says)
  (N:=7730) K28.left
  ((kHook K28.pre.heap_1 K28.as K28.ase).of) ((kHook K28.pre.heap_1 K28.as K28.ase).keeps) (fun s e=>xl_of s (Mm.both_true e).1)
  (XL.keeps) (by rfl) (by rfl) (by rfl) (fun s e=>recFacts_of (Mm.both_true e).2)
  (by rfl) (by assumption) (by decide +kernel)
  ⟨rfl,rfl,rfl,rfl,rfl,by decide +kernel⟩ ?hw ?hc
 (case hw=>w_witness2)
 k_fill
 refine K28.walk (l:=PySem.Challenge.rw_manymakes_k28_too_many_cuts) rfl rfl (fun w h Y=>PySem.W.kIn_of Y) ?F
 case F =>
  intro w mg fa h KX G hmg
  refine' K28.all_mk KX G hmg ?aC_Phrase ?aC_Spot ?aC_Reading ?a_ZW ?l_ZW ?c_ZW' ?k_ZW ?a_Zq ?l_Zq ?c_Zq' ?k_Zq ?a_has ?l_has ?c_has' ?k_has ?a_ZH ?l_ZH ?c_ZH' ?k_ZH ?a_ZX ?l_ZX ?c_ZX' ?k_ZX ?a_ZV ?l_ZV ?c_ZV' ?k_ZV ?a_Zx ?l_Zx ?c_Zx' ?k_Zx ?a_ZB ?l_ZB ?c_ZB' ?k_ZB ?a_Zf ?l_Zf ?c_Zf' ?k_Zf ?a_Zh ?l_Zh ?c_Zh' ?k_Zh ?a_ZR ?l_ZR ?c_ZR' ?k_ZR ?a_ZS ?l_ZS ?c_ZS' ?k_ZS ?a_ZC ?l_ZC ?c_ZC' ?k_ZC ?a_ZI ?l_ZI ?c_ZI' ?k_ZI ?a_ZD ?l_ZD ?c_ZD' ?k_ZD ?a_Zr ?l_Zr ?c_Zr' ?k_Zr ?a_Zj ?l_Zj ?c_Zj' ?k_Zj ?a_ZJ ?l_ZJ ?c_ZJ' ?k_ZJ ?a_ZE ?l_ZE ?c_ZE' ?k_ZE ?a_Zk ?l_Zk ?c_Zk' ?k_Zk ?a_ZK ?l_ZK ?c_ZK' ?k_ZK ?a_ZY ?l_ZY ?c_ZY' ?k_ZY ?a_ZL ?l_ZL ?c_ZL' ?k_ZL ?a_Zl ?l_Zl ?c_Zl' ?k_Zl ?a_ZF ?l_ZF ?c_ZF' ?k_ZF ?a_Zy ?l_Zy ?c_Zy' ?k_Zy ?a_ZM ?l_ZM ?c_ZM' ?k_ZM ?a_Zz ?l_Zz ?c_Zz' ?k_Zz ?a_ZT ?l_ZT ?c_ZT' ?k_ZT ?a_ZN ?l_ZN ?lt_ZN ?c_ZN' ?k_ZN ?a_ZO ?l_ZO ?c_ZO' ?k_ZO ?a_Zs ?l_Zs ?c_Zs' ?k_Zs ?a_Zt ?l_Zt ?c_Zt' ?k_Zt ?a_ZA ?l_ZA ?c_ZA' ?k_ZA ?a_ZU ?l_ZU ?c_ZU' ?k_ZU ?a_ZP ?l_ZP ?c_ZP' ?k_ZP ?a_ZQ ?l_ZQ ?c_ZQ' ?k_ZQ ?a_Zu ?i_Zu ?l_Zu ?c_Zu' ?k_Zu ?a_Zm ?i_Zm ?l_Zm ?c_Zm' ?k_Zm ?a_Zv ?i_Zv ?l_Zv ?c_Zv' ?k_Zv ?a_Zc ?i_Zc ?l_Zc ?c_Zc' ?k_Zc ?a_Zd ?i_Zd ?l_Zd ?c_Zd' ?k_Zd ?a_Za ?i_Za ?l_Za ?c_Za' ?k_Za ?a_Zb ?i_Zb ?l_Zb ?c_Zb' ?k_Zb ?a_ZG ?i_ZG ?l_ZG ?c_ZG' ?k_ZG ?a_Zn ?i_Zn ?l_Zn ?c_Zn' ?k_Zn ?a_Ze ?i_Ze ?l_Ze ?c_Ze' ?k_Ze ?a_Zi ?i_Zi ?l_Zi ?c_Zi' ?k_Zi ?a_Zo ?i_Zo ?l_Zo ?c_Zo' ?k_Zo ?a_Zw ?i_Zw ?l_Zw ?c_Zw' ?k_Zw ?a_Zg ?i_Zg ?l_Zg ?c_Zg' ?k_Zg ?a_law ?l_law ?c_law' ?k_law ?pg_Phrase ?hd_Phrase ?po_Phrase ?sa_Phrase ?mk_Phrase ?kc_Phrase ?na_Phrase_words ?na_Phrase_at ?na_Phrase_place ?t1_Phrase ?t2_Phrase ?t3_Phrase ?t4_Phrase ?pg_Spot ?hd_Spot ?po_Spot ?sa_Spot ?mk_Spot ?kc_Spot ?na_Spot_number ?na_Spot_within ?na_Spot_outer ?na_Spot_other ?na_Spot_body ?t1_Spot ?t2_Spot ?t3_Spot ?t4_Spot ?pg_Reading ?hd_Reading ?po_Reading ?sa_Reading ?mk_Reading ?kc_Reading ?na_Reading_spots ?na_Reading_standing ?na_Reading_faults ?t1_Reading ?t2_Reading ?t3_Reading ?t4_Reading ?v_LETTERS ?v_DEEPEST_GROUP ?v_MOST_VARIANTS ?v_SMALL_LETTERS ?v_FIGURES ?v_LONGEST_NAME ?v_LONGEST_NUMBER ?v_DEEPEST_EXPR ?v_MOST_BLOCKS ?v_TOP ?a_NEEDS ?l_NEEDS ?s_NEEDS ?e_NEEDS_0 ?e_NEEDS_1 ?e_NEEDS_2 ?e_NEEDS_3 ?e_NEEDS_4 ?a_LANGUAGE_WORDS ?l_LANGUAGE_WORDS ?a_OPERATORS ?l_OPERATORS ?ax_MakesError ?pg_MakesError ?pk_MakesError ?pb_MakesError ?t1_MakesError ?t2_MakesError ?t3_MakesError ?t4_MakesError ?ax_NoGroup ?pg_NoGroup ?pk_NoGroup ?pb_NoGroup ?t1_NoGroup ?t2_NoGroup ?t3_NoGroup ?t4_NoGroup ?ax_TooMany ?pg_TooMany ?pk_TooMany ?pb_TooMany ?t1_TooMany ?t2_TooMany ?t3_TooMany ?t4_TooMany ?a_Zp ?i_Zp ?l_Zp ?c_Zp' ?k_Zp ?mi_TooMany ?po_TooMany ?sa_TooMany ?hd_TooMany ?na_TooMany_at ?em_TooMany_TooMany ?ki_TooMany_MakesError ?ki_TooMany_NoGroup ?z_len ?z_range ?z_int ?z_bool ?z_min ?z_list ?z_reversed ?z_enumerate ?z_isinstance ?z_tuple ?z_sorted ?z_str ?z_all
  (case aC_Phrase=>k_is)
  (case aC_Spot=>k_is)
  (case aC_Reading=>k_is)
  (case a_ZW=>k_is)
  (case l_ZW=>k_is)
  (case c_ZW'=>k_is)
  (case k_ZW=>k_is)
  (case a_Zq=>k_is)
  (case l_Zq=>k_is)
  (case c_Zq'=>k_is)
  (case k_Zq=>k_is)
  (case a_has=>k_is)
  (case l_has=>k_is)
  (case c_has'=>k_is)
  (case k_has=>k_is)
  (case a_ZH=>k_is)
  (case l_ZH=>k_is)
  (case c_ZH'=>k_is)
  (case k_ZH=>k_is)
  (case a_ZX=>k_is)
  (case l_ZX=>k_is)
  (case c_ZX'=>k_is)
  (case k_ZX=>k_is)
  (case a_ZV=>k_is)
  (case l_ZV=>k_is)
  (case c_ZV'=>k_is)
  (case k_ZV=>k_is)
  (case a_Zx=>k_is)
  (case l_Zx=>k_is)
  (case c_Zx'=>k_is)
  (case k_Zx=>k_is)
  (case a_ZB=>k_is)
  (case l_ZB=>k_is)
  (case c_ZB'=>k_is)
  (case k_ZB=>k_is)
  (case a_Zf=>k_is)
  (case l_Zf=>k_is)
  (case c_Zf'=>k_is)
  (case k_Zf=>k_is)
  (case a_Zh=>k_is)
  (case l_Zh=>k_is)
  (case c_Zh'=>k_is)
  (case k_Zh=>k_is)
  (case a_ZR=>k_is)
  (case l_ZR=>k_is)
  (case c_ZR'=>k_is)
  (case k_ZR=>k_is)
  (case a_ZS=>k_is)
  (case l_ZS=>k_is)
  (case c_ZS'=>k_is)
  (case k_ZS=>k_is)
  (case a_ZC=>k_is)
  (case l_ZC=>k_is)
  (case c_ZC'=>k_is)
  (case k_ZC=>k_is)
  (case a_ZI=>k_is)
  (case l_ZI=>k_is)
  (case c_ZI'=>k_is)
  (case k_ZI=>k_is)
  (case a_ZD=>k_is)
  (case l_ZD=>k_is)
  (case c_ZD'=>k_is)
  (case k_ZD=>k_is)
  (case a_Zr=>k_is)
  (case l_Zr=>k_is)
  (case c_Zr'=>k_is)
  (case k_Zr=>k_is)
  (case a_Zj=>k_is)
  (case l_Zj=>k_is)
  (case c_Zj'=>k_is)
  (case k_Zj=>k_is)
  (case a_ZJ=>k_is)
  (case l_ZJ=>k_is)
  (case c_ZJ'=>k_is)
  (case k_ZJ=>k_is)
  (case a_ZE=>k_is)
  (case l_ZE=>k_is)
  (case c_ZE'=>k_is)
  (case k_ZE=>k_is)
  (case a_Zk=>k_is)
  (case l_Zk=>k_is)
  (case c_Zk'=>k_is)
  (case k_Zk=>k_is)
  (case a_ZK=>k_is)
  (case l_ZK=>k_is)
  (case c_ZK'=>k_is)
  (case k_ZK=>k_is)
  (case a_ZY=>k_is)
  (case l_ZY=>k_is)
  (case c_ZY'=>k_is)
  (case k_ZY=>k_is)
  (case a_ZL=>k_is)
  (case l_ZL=>k_is)
  (case c_ZL'=>k_is)
  (case k_ZL=>k_is)
  (case a_Zl=>k_is)
  (case l_Zl=>k_is)
  (case c_Zl'=>k_is)
  (case k_Zl=>k_is)
  (case a_ZF=>k_is)
  (case l_ZF=>k_is)
  (case c_ZF'=>k_is)
  (case k_ZF=>k_is)
  (case a_Zy=>k_is)
  (case l_Zy=>k_is)
  (case c_Zy'=>k_is)
  (case k_Zy=>k_is)
  (case a_ZM=>k_is)
  (case l_ZM=>k_is)
  (case c_ZM'=>k_is)
  (case k_ZM=>k_is)
  (case a_Zz=>k_is)
  (case l_Zz=>k_is)
  (case c_Zz'=>k_is)
  (case k_Zz=>k_is)
  (case a_ZT=>k_is)
  (case l_ZT=>k_is)
  (case c_ZT'=>k_is)
  (case k_ZT=>k_is)
  (case a_ZN=>k_is)
  (case l_ZN=>k_is)
  (case lt_ZN=>k_is)
  (case c_ZN'=>k_is)
  (case k_ZN=>k_is)
  (case a_ZO=>k_is)
  (case l_ZO=>k_is)
  (case c_ZO'=>k_is)
  (case k_ZO=>k_is)
  (case a_Zs=>k_is)
  (case l_Zs=>k_is)
  (case c_Zs'=>k_is)
  (case k_Zs=>k_is)
  (case a_Zt=>k_is)
  (case l_Zt=>k_is)
  (case c_Zt'=>k_is)
  (case k_Zt=>k_is)
  (case a_ZA=>k_is)
  (case l_ZA=>k_is)
  (case c_ZA'=>k_is)
  (case k_ZA=>k_is)
  (case a_ZU=>k_is)
  (case l_ZU=>k_is)
  (case c_ZU'=>k_is)
  (case k_ZU=>k_is)
  (case a_ZP=>k_is)
  (case l_ZP=>k_is)
  (case c_ZP'=>k_is)
  (case k_ZP=>k_is)
  (case a_ZQ=>k_is)
  (case l_ZQ=>k_is)
  (case c_ZQ'=>k_is)
  (case k_ZQ=>k_is)
  (case a_Zu=>k_is)
  (case i_Zu=>k_is)
  (case l_Zu=>k_is)
  (case c_Zu'=>k_is)
  (case k_Zu=>k_is)
  (case a_Zm=>k_is)
  (case i_Zm=>k_is)
  (case l_Zm=>k_is)
  (case c_Zm'=>k_is)
  (case k_Zm=>k_is)
  (case a_Zv=>k_is)
  (case i_Zv=>k_is)
  (case l_Zv=>k_is)
  (case c_Zv'=>k_is)
  (case k_Zv=>k_is)
  (case a_Zc=>k_is)
  (case i_Zc=>k_is)
  (case l_Zc=>k_is)
  (case c_Zc'=>k_is)
  (case k_Zc=>k_is)
  (case a_Zd=>k_is)
  (case i_Zd=>k_is)
  (case l_Zd=>k_is)
  (case c_Zd'=>k_is)
  (case k_Zd=>k_is)
  (case a_Za=>k_is)
  (case i_Za=>k_is)
  (case l_Za=>k_is)
  (case c_Za'=>k_is)
  (case k_Za=>k_is)
  (case a_Zb=>k_is)
  (case i_Zb=>k_is)
  (case l_Zb=>k_is)
  (case c_Zb'=>k_is)
  (case k_Zb=>k_is)
  (case a_ZG=>k_is)
  (case i_ZG=>k_is)
  (case l_ZG=>k_is)
  (case c_ZG'=>k_is)
  (case k_ZG=>k_is)
  (case a_Zn=>k_is)
  (case i_Zn=>k_is)
  (case l_Zn=>k_is)
  (case c_Zn'=>k_is)
  (case k_Zn=>k_is)
  (case a_Ze=>k_is)
  (case i_Ze=>k_is)
  (case l_Ze=>k_is)
  (case c_Ze'=>k_is)
  (case k_Ze=>k_is)
  (case a_Zi=>k_is)
  (case i_Zi=>k_is)
  (case l_Zi=>k_is)
  (case c_Zi'=>k_is)
  (case k_Zi=>k_is)
  (case a_Zo=>k_is)
  (case i_Zo=>k_is)
  (case l_Zo=>k_is)
  (case c_Zo'=>k_is)
  (case k_Zo=>k_is)
  (case a_Zw=>k_is)
  (case i_Zw=>k_is)
  (case l_Zw=>k_is)
  (case c_Zw'=>k_is)
  (case k_Zw=>k_is)
  (case a_Zg=>k_is)
  (case i_Zg=>k_is)
  (case l_Zg=>k_is)
  (case c_Zg'=>k_is)
  (case k_Zg=>k_is)
  (case a_law=>k_is)
  (case l_law=>k_is)
  (case c_law'=>k_is)
  (case k_law=>k_is)
  (case pg_Phrase=>k_is)
  (case hd_Phrase=>k_is)
  (case po_Phrase=>k_is)
  (case sa_Phrase=>k_is)
  (case mk_Phrase=>k_is)
  (case kc_Phrase=>k_is)
  (case na_Phrase_words=>k_is)
  (case na_Phrase_at=>k_is)
  (case na_Phrase_place=>k_is)
  (case t1_Phrase=>k_is)
  (case t2_Phrase=>k_is)
  (case t3_Phrase=>k_is)
  (case t4_Phrase=>k_is)
  (case pg_Spot=>k_is)
  (case hd_Spot=>k_is)
  (case po_Spot=>k_is)
  (case sa_Spot=>k_is)
  (case mk_Spot=>k_is)
  (case kc_Spot=>k_is)
  (case na_Spot_number=>k_is)
  (case na_Spot_within=>k_is)
  (case na_Spot_outer=>k_is)
  (case na_Spot_other=>k_is)
  (case na_Spot_body=>k_is)
  (case t1_Spot=>k_is)
  (case t2_Spot=>k_is)
  (case t3_Spot=>k_is)
  (case t4_Spot=>k_is)
  (case pg_Reading=>k_is)
  (case hd_Reading=>k_is)
  (case po_Reading=>k_is)
  (case sa_Reading=>k_is)
  (case mk_Reading=>k_is)
  (case kc_Reading=>k_is)
  (case na_Reading_spots=>k_is)
  (case na_Reading_standing=>k_is)
  (case na_Reading_faults=>k_is)
  (case t1_Reading=>k_is)
  (case t2_Reading=>k_is)
  (case t3_Reading=>k_is)
  (case t4_Reading=>k_is)
  (case v_LETTERS=>k_is)
  (case v_DEEPEST_GROUP=>k_is)
  (case v_MOST_VARIANTS=>k_is)
  (case v_SMALL_LETTERS=>k_is)
  (case v_FIGURES=>k_is)
  (case v_LONGEST_NAME=>k_is)
  (case v_LONGEST_NUMBER=>k_is)
  (case v_DEEPEST_EXPR=>k_is)
  (case v_MOST_BLOCKS=>k_is)
  (case v_TOP=>k_is)
  (case a_NEEDS=>k_is)
  (case l_NEEDS=>k_is)
  (case s_NEEDS=>first | rfl | decide | k_is)
  (case e_NEEDS_0=>first | rfl | decide | k_is)
  (case e_NEEDS_1=>first | rfl | decide | k_is)
  (case e_NEEDS_2=>first | rfl | decide | k_is)
  (case e_NEEDS_3=>first | rfl | decide | k_is)
  (case e_NEEDS_4=>first | rfl | decide | k_is)
  (case a_LANGUAGE_WORDS=>k_is)
  (case l_LANGUAGE_WORDS=>k_is)
  (case a_OPERATORS=>k_is)
  (case l_OPERATORS=>k_is)
  (case ax_MakesError=>k_is)
  (case pg_MakesError=>k_is)
  (case pk_MakesError=>k_is)
  (case pb_MakesError=>k_is)
  (case t1_MakesError=>k_is)
  (case t2_MakesError=>k_is)
  (case t3_MakesError=>k_is)
  (case t4_MakesError=>k_is)
  (case ax_NoGroup=>k_is)
  (case pg_NoGroup=>k_is)
  (case pk_NoGroup=>k_is)
  (case pb_NoGroup=>k_is)
  (case t1_NoGroup=>k_is)
  (case t2_NoGroup=>k_is)
  (case t3_NoGroup=>k_is)
  (case t4_NoGroup=>k_is)
  (case ax_TooMany=>k_is)
  (case pg_TooMany=>k_is)
  (case pk_TooMany=>k_is)
  (case pb_TooMany=>k_is)
  (case t1_TooMany=>k_is)
  (case t2_TooMany=>k_is)
  (case t3_TooMany=>k_is)
  (case t4_TooMany=>k_is)
  (case a_Zp=>k_is)
  (case i_Zp=>k_is)
  (case l_Zp=>k_is)
  (case c_Zp'=>k_is)
  (case k_Zp=>k_is)
  (case mi_TooMany=>kernel_rfl)
  (case po_TooMany=>kernel_rfl)
  (case sa_TooMany=>k_is)
  (case hd_TooMany=>k_is)
  (case na_TooMany_at=>k_is)
  (case em_TooMany_TooMany=>kts_exm)
  (case ki_TooMany_MakesError=>kit_is)
  (case ki_TooMany_NoGroup=>kit_is)
  (case z_len=>k_is)
  (case z_range=>k_is)
  (case z_int=>k_is)
  (case z_bool=>k_is)
  (case z_min=>k_is)
  (case z_list=>k_is)
  (case z_reversed=>k_is)
  (case z_enumerate=>k_is)
  (case z_isinstance=>k_is)
  (case z_tuple=>k_is)
  (case z_sorted=>k_is)
  (case z_str=>k_is)
  (case z_all=>k_is)
