import PyProof.Rows.All
import Wide.All
import OpenK.AllK
import Wide.FinOn
import Lean
import PyProof.EqAt
import PyProof.EqKinds
import PyProof.TupleCall
import PyProof.Rows.BitMore
import KE.IntBitsLaws
import KE.KRevIter
import KE.KTryMore
import PyProof.StrLawsRepr
import KE.KIsAll
import KE.RegKIsAll
import KE.RegKTryMore
import PyProof.StrCalls2
import PyProof.StrLawsTight
import PyProof.StrLawsChain
import PyProof.Rows.StrItems
import PyProof.Rows.StrWeight2
import PyProof.EnumMake
import PyProof.EnumStmt
import PyProof.Rows.EnumRows
import PyProof.Rows.EqDataRows
import PyProof.P3Eq
import PyProof.StrWalks
import KE.KIntText
import KE.IntTextLaws
import PyProof.CallStr
import PyProof.Rows.ZipGen
import PyProof.Rows.FactsT2
import PyProof.Rows.SortRev
import KE.KSortTup
import PyProof.SumWalk
import PyProof.Rows.InDataRows
import PySem.Challenge.RW_manymakes_k85_desk_texts
set_option Elab.async false
set_option maxRecDepth 100000
set_option linter.all false
set_option maxHeartbeats 4000000
section
open PySem PySem.Spec PyProof.Rows PySem.W
theorem bZ:1<=sizeLine:=by decide
theorem dH:2<=sizeLine:=by decide
theorem fF:3<=sizeLine:=by decide
theorem kL:5<=sizeLine:=by decide
theorem Qa:type_of% @wpAny_bind:=@wpAny_bind
theorem Qb:type_of% @List.length_map:=@List.length_map
theorem Qc:type_of% @List.getElem?_eq_getElem:=@List.getElem?_eq_getElem
theorem Qd:type_of% @decide_eq_false:=@decide_eq_false
theorem Qe:type_of% @Nat.lt_of_lt_of_le:=@Nat.lt_of_lt_of_le
theorem Qf:type_of% @Bool.false_ne_true:=@Bool.false_ne_true
theorem Qg:type_of% @Nat.le_trans:=@Nat.le_trans
theorem Qh:type_of% @Heap.get?_push_of_some:=@Heap.get?_push_of_some
theorem Qi:type_of% @List.getElem?_map:=@List.getElem?_map
theorem Qj{α:Type _}{l:List α}{i:Nat}{a:α}(h:l[i]?=some a):∃h:i<l.length,l[i]=a:=List.getElem?_eq_some_iff.mp h
theorem Qk:type_of% @Nat.le_refl:=@Nat.le_refl
theorem Ql:type_of% @Nat.zero_le:=@Nat.zero_le
theorem Qm:type_of% @Heap.lt_size:=@Heap.lt_size
theorem Qn{α β:Type _}{f:α->β}{l:List α}{b:β}(h:b∈l.map f):∃a,a∈l∧f a=b:=List.mem_map.mp h
theorem Qo:type_of% @decide_eq_true:=@decide_eq_true
theorem Qp:type_of% @List.mem_cons_self:=@List.mem_cons_self
theorem Qq:type_of% @wpAny_pure:=@wpAny_pure
theorem Qr:type_of% @List.mem_cons_of_mem:=@List.mem_cons_of_mem
theorem Qs{α:Type _}{l:List α}{a b:α}(h:a∈b::l):a=b∨a∈l:=List.mem_cons.mp h
theorem Qt:type_of% @Heap.get?_push_size:=@Heap.get?_push_size
theorem Qu:type_of% @Int.toNat_natCast:=@Int.toNat_natCast
theorem Qv:type_of% @List.size_toArray:=@List.size_toArray
theorem Qw:type_of% @Option.some.inj:=@Option.some.inj
theorem Qx{α:Type _}{l r:List α}{a:α}(h:a∈l++r):a∈l∨a∈r:=List.mem_append.mp h
theorem Qy:type_of% @Nat.ne_of_lt:=@Nat.ne_of_lt
theorem Qz:type_of% @List.mem_append_right:=@List.mem_append_right
theorem QA:type_of% @List.getD_eq_getElem?_getD:=@List.getD_eq_getElem?_getD
theorem QB:type_of% @List.getElem?_append_right:=@List.getElem?_append_right
theorem QC:type_of% @List.length_cons:=@List.length_cons
theorem QD:type_of% @Nat.lt_of_le_of_lt:=@Nat.lt_of_le_of_lt
theorem QE:type_of% @List.getElem?_append_left:=@List.getElem?_append_left
theorem QF:type_of% @Nat.pow_le_pow_right:=@Nat.pow_le_pow_right
theorem QG:type_of% @Nat.le_of_lt:=@Nat.le_of_lt
theorem QH:type_of% @List.map_append:=@List.map_append
theorem QI:type_of% @List.take_length:=@List.take_length
theorem QJ:type_of% @wpAny_mono:=@wpAny_mono
theorem QK:type_of% @List.length_append:=@List.length_append
theorem QL:type_of% @List.length_take:=@List.length_take
theorem QM:type_of% @List.mem_of_getElem?:=@List.mem_of_getElem?
theorem QN:type_of% @Nat.lt_irrefl:=@Nat.lt_irrefl
theorem QO:type_of% @of_decide_eq_true:=@of_decide_eq_true
theorem QP:type_of% @List.getElem_mem:=@List.getElem_mem
end
section
open PySem PySem.W
def Mm.hdTr{α:Type}(_:α):Prop:=True
noncomputable def Mm.hdPk{α:Type}(s:α)(_:Mm.hdTr s):α:=s
theorem Mm.hdOf{α:Type}{a s:α}(_:a=s):Mm.hdTr s:=trivial
abbrev K85.g(i:Nat):Stmt:=PySem.Challenge.pw_manymakes_k85_desk_texts.main.body.getD i (Stmt.Pass ⟨0,0,0,0⟩)
namespace K85
open Mm
noncomputable def t0:Stmt:=hdPk (Stmt.Assign _ _ _) (hdOf (a:=g 0) rfl)
noncomputable def t1:Stmt:=hdPk (Stmt.ClassDef _ _ _ _ _ _ _ _ _ _ _) (hdOf (a:=g 1) rfl)
noncomputable def t2:Stmt:=hdPk (Stmt.ClassDef _ _ _ _ _ _ _ _ _ _ _) (hdOf (a:=g 2) rfl)
noncomputable def t3:Stmt:=hdPk (Stmt.ClassDef _ _ _ _ _ _ _ _ _ _ _) (hdOf (a:=g 3) rfl)
noncomputable def t4:Stmt:=hdPk (Stmt.ClassDef _ _ _ _ _ _ _ _ _ _ _) (hdOf (a:=g 4) rfl)
noncomputable def t5:Stmt:=hdPk (Stmt.ClassDef _ _ _ _ _ _ _ _ _ _ _) (hdOf (a:=g 5) rfl)
noncomputable def t6:Stmt:=hdPk (Stmt.ClassDef _ _ _ _ _ _ _ _ _ _ _) (hdOf (a:=g 6) rfl)
noncomputable def t7:Stmt:=hdPk (Stmt.ClassDef _ _ _ _ _ _ _ _ _ _ _) (hdOf (a:=g 7) rfl)
noncomputable def t8:Stmt:=hdPk (Stmt.Assign _ _ _) (hdOf (a:=g 8) rfl)
noncomputable def t9:Stmt:=hdPk (Stmt.FunctionDef _ _ _ _ _ _ _ _ _ _) (hdOf (a:=g 9) rfl)
noncomputable def t10:Stmt:=hdPk (Stmt.FunctionDef _ _ _ _ _ _ _ _ _ _) (hdOf (a:=g 10) rfl)
noncomputable def t11:Stmt:=hdPk (Stmt.FunctionDef _ _ _ _ _ _ _ _ _ _) (hdOf (a:=g 11) rfl)
noncomputable def t12:Stmt:=hdPk (Stmt.FunctionDef _ _ _ _ _ _ _ _ _ _) (hdOf (a:=g 12) rfl)
noncomputable def t13:Stmt:=hdPk (Stmt.FunctionDef _ _ _ _ _ _ _ _ _ _) (hdOf (a:=g 13) rfl)
noncomputable def t14:Stmt:=hdPk (Stmt.FunctionDef _ _ _ _ _ _ _ _ _ _) (hdOf (a:=g 14) rfl)
noncomputable def t15:Stmt:=hdPk (Stmt.FunctionDef _ _ _ _ _ _ _ _ _ _) (hdOf (a:=g 15) rfl)
noncomputable def t16:Stmt:=hdPk (Stmt.FunctionDef _ _ _ _ _ _ _ _ _ _) (hdOf (a:=g 16) rfl)
noncomputable def t17:Stmt:=hdPk (Stmt.FunctionDef _ _ _ _ _ _ _ _ _ _) (hdOf (a:=g 17) rfl)
noncomputable def t18:Stmt:=hdPk (Stmt.FunctionDef _ _ _ _ _ _ _ _ _ _) (hdOf (a:=g 18) rfl)
noncomputable def t19:Stmt:=hdPk (Stmt.FunctionDef _ _ _ _ _ _ _ _ _ _) (hdOf (a:=g 19) rfl)
noncomputable def t20:Stmt:=hdPk (Stmt.FunctionDef _ _ _ _ _ _ _ _ _ _) (hdOf (a:=g 20) rfl)
noncomputable def t21:Stmt:=hdPk (Stmt.FunctionDef _ _ _ _ _ _ _ _ _ _) (hdOf (a:=g 21) rfl)
noncomputable def t22:Stmt:=hdPk (Stmt.FunctionDef _ _ _ _ _ _ _ _ _ _) (hdOf (a:=g 22) rfl)
noncomputable def t23:Stmt:=hdPk (Stmt.FunctionDef _ _ _ _ _ _ _ _ _ _) (hdOf (a:=g 23) rfl)
noncomputable def t24:Stmt:=hdPk (Stmt.Assign _ _ _) (hdOf (a:=g 24) rfl)
noncomputable def t25:Stmt:=hdPk (Stmt.Assign _ _ _) (hdOf (a:=g 25) rfl)
noncomputable def t26:Stmt:=hdPk (Stmt.Assign _ _ _) (hdOf (a:=g 26) rfl)
noncomputable def t27:Stmt:=hdPk (Stmt.Assign _ _ _) (hdOf (a:=g 27) rfl)
noncomputable def t28:Stmt:=hdPk (Stmt.Assign _ _ _) (hdOf (a:=g 28) rfl)
noncomputable def t29:Stmt:=hdPk (Stmt.Assign _ _ _) (hdOf (a:=g 29) rfl)
noncomputable def t30:Stmt:=hdPk (Stmt.Assign _ _ _) (hdOf (a:=g 30) rfl)
noncomputable def t31:Stmt:=hdPk (Stmt.Assign _ _ _) (hdOf (a:=g 31) rfl)
noncomputable def t32:Stmt:=hdPk (Stmt.Assign _ _ _) (hdOf (a:=g 32) rfl)
noncomputable def t33:Stmt:=hdPk (Stmt.FunctionDef _ _ _ _ _ _ _ _ _ _) (hdOf (a:=g 33) rfl)
noncomputable def t34:Stmt:=hdPk (Stmt.FunctionDef _ _ _ _ _ _ _ _ _ _) (hdOf (a:=g 34) rfl)
noncomputable def t35:Stmt:=hdPk (Stmt.FunctionDef _ _ _ _ _ _ _ _ _ _) (hdOf (a:=g 35) rfl)
noncomputable def t36:Stmt:=hdPk (Stmt.ClassDef _ _ _ _ _ _ _ _ _ _ _) (hdOf (a:=g 36) rfl)
noncomputable def t37:Stmt:=hdPk (Stmt.FunctionDef _ _ _ _ _ _ _ _ _ _) (hdOf (a:=g 37) rfl)
noncomputable def t38:Stmt:=hdPk (Stmt.FunctionDef _ _ _ _ _ _ _ _ _ _) (hdOf (a:=g 38) rfl)
noncomputable def t39:Stmt:=hdPk (Stmt.Assign _ _ _) (hdOf (a:=g 39) rfl)
noncomputable def t40:Stmt:=hdPk (Stmt.Assign _ _ _) (hdOf (a:=g 40) rfl)
noncomputable def t41:Stmt:=hdPk (Stmt.ClassDef _ _ _ _ _ _ _ _ _ _ _) (hdOf (a:=g 41) rfl)
noncomputable def t42:Stmt:=hdPk (Stmt.FunctionDef _ _ _ _ _ _ _ _ _ _) (hdOf (a:=g 42) rfl)
noncomputable def t43:Stmt:=hdPk (Stmt.FunctionDef _ _ _ _ _ _ _ _ _ _) (hdOf (a:=g 43) rfl)
noncomputable def t44:Stmt:=hdPk (Stmt.FunctionDef _ _ _ _ _ _ _ _ _ _) (hdOf (a:=g 44) rfl)
noncomputable def t45:Stmt:=hdPk (Stmt.FunctionDef _ _ _ _ _ _ _ _ _ _) (hdOf (a:=g 45) rfl)
noncomputable def t46:Stmt:=hdPk (Stmt.FunctionDef _ _ _ _ _ _ _ _ _ _) (hdOf (a:=g 46) rfl)
noncomputable def t47:Stmt:=hdPk (Stmt.FunctionDef _ _ _ _ _ _ _ _ _ _) (hdOf (a:=g 47) rfl)
noncomputable def t48:Stmt:=hdPk (Stmt.Assign _ _ _) (hdOf (a:=g 48) rfl)
noncomputable def t49:Stmt:=hdPk (Stmt.FunctionDef _ _ _ _ _ _ _ _ _ _) (hdOf (a:=g 49) rfl)
noncomputable def t50:Stmt:=hdPk (Stmt.FunctionDef _ _ _ _ _ _ _ _ _ _) (hdOf (a:=g 50) rfl)
noncomputable def t51:Stmt:=hdPk (Stmt.FunctionDef _ _ _ _ _ _ _ _ _ _) (hdOf (a:=g 51) rfl)
noncomputable def t52:Stmt:=hdPk (Stmt.FunctionDef _ _ _ _ _ _ _ _ _ _) (hdOf (a:=g 52) rfl)
noncomputable def t53:Stmt:=hdPk (Stmt.Assign _ _ _) (hdOf (a:=g 53) rfl)
noncomputable def t54:Stmt:=hdPk (Stmt.ClassDef _ _ _ _ _ _ _ _ _ _ _) (hdOf (a:=g 54) rfl)
noncomputable def t55:Stmt:=hdPk (Stmt.FunctionDef _ _ _ _ _ _ _ _ _ _) (hdOf (a:=g 55) rfl)
noncomputable def t56:Stmt:=hdPk (Stmt.FunctionDef _ _ _ _ _ _ _ _ _ _) (hdOf (a:=g 56) rfl)
noncomputable def t57:Stmt:=hdPk (Stmt.FunctionDef _ _ _ _ _ _ _ _ _ _) (hdOf (a:=g 57) rfl)
noncomputable def t58:Stmt:=hdPk (Stmt.FunctionDef _ _ _ _ _ _ _ _ _ _) (hdOf (a:=g 58) rfl)
noncomputable def t59:Stmt:=hdPk (Stmt.FunctionDef _ _ _ _ _ _ _ _ _ _) (hdOf (a:=g 59) rfl)
noncomputable def t60:Stmt:=hdPk (Stmt.Assign _ _ _) (hdOf (a:=g 60) rfl)
noncomputable def t61:Stmt:=hdPk (Stmt.Assign _ _ _) (hdOf (a:=g 61) rfl)
noncomputable def t62:Stmt:=hdPk (Stmt.Assign _ _ _) (hdOf (a:=g 62) rfl)
noncomputable def t63:Stmt:=hdPk (Stmt.ClassDef _ _ _ _ _ _ _ _ _ _ _) (hdOf (a:=g 63) rfl)
noncomputable def t64:Stmt:=hdPk (Stmt.ClassDef _ _ _ _ _ _ _ _ _ _ _) (hdOf (a:=g 64) rfl)
noncomputable def t65:Stmt:=hdPk (Stmt.FunctionDef _ _ _ _ _ _ _ _ _ _) (hdOf (a:=g 65) rfl)
noncomputable def t66:Stmt:=hdPk (Stmt.FunctionDef _ _ _ _ _ _ _ _ _ _) (hdOf (a:=g 66) rfl)
noncomputable def t67:Stmt:=hdPk (Stmt.FunctionDef _ _ _ _ _ _ _ _ _ _) (hdOf (a:=g 67) rfl)
noncomputable def t68:Stmt:=hdPk (Stmt.Assign _ _ _) (hdOf (a:=g 68) rfl)
noncomputable def t69:Stmt:=hdPk (Stmt.FunctionDef _ _ _ _ _ _ _ _ _ _) (hdOf (a:=g 69) rfl)
noncomputable def t70:Stmt:=hdPk (Stmt.FunctionDef _ _ _ _ _ _ _ _ _ _) (hdOf (a:=g 70) rfl)
noncomputable def t71:Stmt:=hdPk (Stmt.Assign _ _ _) (hdOf (a:=g 71) rfl)
noncomputable def t72:Stmt:=hdPk (Stmt.Assign _ _ _) (hdOf (a:=g 72) rfl)
noncomputable def t73:Stmt:=hdPk (Stmt.Assign _ _ _) (hdOf (a:=g 73) rfl)
noncomputable def t74:Stmt:=hdPk (Stmt.ClassDef _ _ _ _ _ _ _ _ _ _ _) (hdOf (a:=g 74) rfl)
noncomputable def t75:Stmt:=hdPk (Stmt.FunctionDef _ _ _ _ _ _ _ _ _ _) (hdOf (a:=g 75) rfl)
noncomputable def t76:Stmt:=hdPk (Stmt.FunctionDef _ _ _ _ _ _ _ _ _ _) (hdOf (a:=g 76) rfl)
noncomputable def t77:Stmt:=hdPk (Stmt.FunctionDef _ _ _ _ _ _ _ _ _ _) (hdOf (a:=g 77) rfl)
noncomputable def t78:Stmt:=hdPk (Stmt.FunctionDef _ _ _ _ _ _ _ _ _ _) (hdOf (a:=g 78) rfl)
noncomputable def t79:Stmt:=hdPk (Stmt.Assign _ _ _) (hdOf (a:=g 79) rfl)
noncomputable def t80:Stmt:=hdPk (Stmt.Assign _ _ _) (hdOf (a:=g 80) rfl)
noncomputable def t81:Stmt:=hdPk (Stmt.Assign _ _ _) (hdOf (a:=g 81) rfl)
noncomputable def t82:Stmt:=hdPk (Stmt.FunctionDef _ _ _ _ _ _ _ _ _ _) (hdOf (a:=g 82) rfl)
noncomputable def t83:Stmt:=hdPk (Stmt.FunctionDef _ _ _ _ _ _ _ _ _ _) (hdOf (a:=g 83) rfl)
noncomputable def t84:Stmt:=hdPk (Stmt.FunctionDef _ _ _ _ _ _ _ _ _ _) (hdOf (a:=g 84) rfl)
noncomputable def t85:Stmt:=hdPk (Stmt.Assign _ _ _) (hdOf (a:=g 85) rfl)
noncomputable def t86:Stmt:=hdPk (Stmt.FunctionDef _ _ _ _ _ _ _ _ _ _) (hdOf (a:=g 86) rfl)
noncomputable def t87:Stmt:=hdPk (Stmt.FunctionDef _ _ _ _ _ _ _ _ _ _) (hdOf (a:=g 87) rfl)
noncomputable def t88:Stmt:=hdPk (Stmt.FunctionDef _ _ _ _ _ _ _ _ _ _) (hdOf (a:=g 88) rfl)
noncomputable def t89:Stmt:=hdPk (Stmt.FunctionDef _ _ _ _ _ _ _ _ _ _) (hdOf (a:=g 89) rfl)
noncomputable def t90:Stmt:=hdPk (Stmt.FunctionDef _ _ _ _ _ _ _ _ _ _) (hdOf (a:=g 90) rfl)
noncomputable def t91:Stmt:=hdPk (Stmt.Assign _ _ _) (hdOf (a:=g 91) rfl)
noncomputable def t92:Stmt:=hdPk (Stmt.Assign _ _ _) (hdOf (a:=g 92) rfl)
noncomputable def t93:Stmt:=hdPk (Stmt.Assign _ _ _) (hdOf (a:=g 93) rfl)
noncomputable def t94:Stmt:=hdPk (Stmt.FunctionDef _ _ _ _ _ _ _ _ _ _) (hdOf (a:=g 94) rfl)
noncomputable def t95:Stmt:=hdPk (Stmt.FunctionDef _ _ _ _ _ _ _ _ _ _) (hdOf (a:=g 95) rfl)
noncomputable def t96:Stmt:=hdPk (Stmt.FunctionDef _ _ _ _ _ _ _ _ _ _) (hdOf (a:=g 96) rfl)
noncomputable def t97:Stmt:=hdPk (Stmt.FunctionDef _ _ _ _ _ _ _ _ _ _) (hdOf (a:=g 97) rfl)
noncomputable def t98:Stmt:=hdPk (Stmt.FunctionDef _ _ _ _ _ _ _ _ _ _) (hdOf (a:=g 98) rfl)
noncomputable def t99:Stmt:=hdPk (Stmt.FunctionDef _ _ _ _ _ _ _ _ _ _) (hdOf (a:=g 99) rfl)
noncomputable def t100:Stmt:=hdPk (Stmt.FunctionDef _ _ _ _ _ _ _ _ _ _) (hdOf (a:=g 100) rfl)
noncomputable def t101:Stmt:=hdPk (Stmt.FunctionDef _ _ _ _ _ _ _ _ _ _) (hdOf (a:=g 101) rfl)
noncomputable def t102:Stmt:=hdPk (Stmt.FunctionDef _ _ _ _ _ _ _ _ _ _) (hdOf (a:=g 102) rfl)
noncomputable def t103:Stmt:=hdPk (Stmt.FunctionDef _ _ _ _ _ _ _ _ _ _) (hdOf (a:=g 103) rfl)
noncomputable def t104:Stmt:=hdPk (Stmt.Assign _ _ _) (hdOf (a:=g 104) rfl)
noncomputable def t105:Stmt:=hdPk (Stmt.Assign _ _ _) (hdOf (a:=g 105) rfl)
noncomputable def t106:Stmt:=hdPk (Stmt.ClassDef _ _ _ _ _ _ _ _ _ _ _) (hdOf (a:=g 106) rfl)
noncomputable def t107:Stmt:=hdPk (Stmt.ClassDef _ _ _ _ _ _ _ _ _ _ _) (hdOf (a:=g 107) rfl)
noncomputable def t108:Stmt:=hdPk (Stmt.FunctionDef _ _ _ _ _ _ _ _ _ _) (hdOf (a:=g 108) rfl)
noncomputable def t109:Stmt:=hdPk (Stmt.FunctionDef _ _ _ _ _ _ _ _ _ _) (hdOf (a:=g 109) rfl)
noncomputable def t110:Stmt:=hdPk (Stmt.Assign _ _ _) (hdOf (a:=g 110) rfl)
noncomputable def t111:Stmt:=hdPk (Stmt.FunctionDef _ _ _ _ _ _ _ _ _ _) (hdOf (a:=g 111) rfl)
noncomputable def t112:Stmt:=hdPk (Stmt.FunctionDef _ _ _ _ _ _ _ _ _ _) (hdOf (a:=g 112) rfl)
noncomputable def t113:Stmt:=hdPk (Stmt.FunctionDef _ _ _ _ _ _ _ _ _ _) (hdOf (a:=g 113) rfl)
noncomputable def t114:Stmt:=hdPk (Stmt.FunctionDef _ _ _ _ _ _ _ _ _ _) (hdOf (a:=g 114) rfl)
noncomputable def t115:Stmt:=hdPk (Stmt.FunctionDef _ _ _ _ _ _ _ _ _ _) (hdOf (a:=g 115) rfl)
noncomputable def t116:Stmt:=hdPk (Stmt.FunctionDef _ _ _ _ _ _ _ _ _ _) (hdOf (a:=g 116) rfl)
noncomputable def t117:Stmt:=hdPk (Stmt.FunctionDef _ _ _ _ _ _ _ _ _ _) (hdOf (a:=g 117) rfl)
noncomputable def t118:Stmt:=hdPk (Stmt.FunctionDef _ _ _ _ _ _ _ _ _ _) (hdOf (a:=g 118) rfl)
noncomputable def t119:Stmt:=hdPk (Stmt.Assign _ _ _) (hdOf (a:=g 119) rfl)
noncomputable def t120:Stmt:=hdPk (Stmt.FunctionDef _ _ _ _ _ _ _ _ _ _) (hdOf (a:=g 120) rfl)
noncomputable def t121:Stmt:=hdPk (Stmt.FunctionDef _ _ _ _ _ _ _ _ _ _) (hdOf (a:=g 121) rfl)
noncomputable def t122:Stmt:=hdPk (Stmt.FunctionDef _ _ _ _ _ _ _ _ _ _) (hdOf (a:=g 122) rfl)
noncomputable def t123:Stmt:=hdPk (Stmt.FunctionDef _ _ _ _ _ _ _ _ _ _) (hdOf (a:=g 123) rfl)
noncomputable def t124:Stmt:=hdPk (Stmt.FunctionDef _ _ _ _ _ _ _ _ _ _) (hdOf (a:=g 124) rfl)
noncomputable def t125:Stmt:=hdPk (Stmt.FunctionDef _ _ _ _ _ _ _ _ _ _) (hdOf (a:=g 125) rfl)
noncomputable def t126:Stmt:=hdPk (Stmt.FunctionDef _ _ _ _ _ _ _ _ _ _) (hdOf (a:=g 126) rfl)
noncomputable def t127:Stmt:=hdPk (Stmt.Assign _ _ _) (hdOf (a:=g 127) rfl)
noncomputable def t128:Stmt:=hdPk (Stmt.ClassDef _ _ _ _ _ _ _ _ _ _ _) (hdOf (a:=g 128) rfl)
noncomputable def t129:Stmt:=hdPk (Stmt.ClassDef _ _ _ _ _ _ _ _ _ _ _) (hdOf (a:=g 129) rfl)
noncomputable def t130:Stmt:=hdPk (Stmt.FunctionDef _ _ _ _ _ _ _ _ _ _) (hdOf (a:=g 130) rfl)
noncomputable def t131:Stmt:=hdPk (Stmt.FunctionDef _ _ _ _ _ _ _ _ _ _) (hdOf (a:=g 131) rfl)
noncomputable def t132:Stmt:=hdPk (Stmt.FunctionDef _ _ _ _ _ _ _ _ _ _) (hdOf (a:=g 132) rfl)
noncomputable def t133:Stmt:=hdPk (Stmt.Assign _ _ _) (hdOf (a:=g 133) rfl)
noncomputable def t134:Stmt:=hdPk (Stmt.FunctionDef _ _ _ _ _ _ _ _ _ _) (hdOf (a:=g 134) rfl)
noncomputable def t135:Stmt:=hdPk (Stmt.FunctionDef _ _ _ _ _ _ _ _ _ _) (hdOf (a:=g 135) rfl)
noncomputable def t136:Stmt:=hdPk (Stmt.FunctionDef _ _ _ _ _ _ _ _ _ _) (hdOf (a:=g 136) rfl)
noncomputable def t137:Stmt:=hdPk (Stmt.FunctionDef _ _ _ _ _ _ _ _ _ _) (hdOf (a:=g 137) rfl)
noncomputable def t138:Stmt:=hdPk (Stmt.FunctionDef _ _ _ _ _ _ _ _ _ _) (hdOf (a:=g 138) rfl)
noncomputable def t139:Stmt:=hdPk (Stmt.Assign _ _ _) (hdOf (a:=g 139) rfl)
noncomputable def t140:Stmt:=hdPk (Stmt.Assign _ _ _) (hdOf (a:=g 140) rfl)
noncomputable def t141:Stmt:=hdPk (Stmt.Assign _ _ _) (hdOf (a:=g 141) rfl)
noncomputable def t142:Stmt:=hdPk (Stmt.Assign _ _ _) (hdOf (a:=g 142) rfl)
noncomputable def t143:Stmt:=hdPk (Stmt.Assign _ _ _) (hdOf (a:=g 143) rfl)
noncomputable def t144:Stmt:=hdPk (Stmt.Assign _ _ _) (hdOf (a:=g 144) rfl)
noncomputable def t145:Stmt:=hdPk (Stmt.ClassDef _ _ _ _ _ _ _ _ _ _ _) (hdOf (a:=g 145) rfl)
noncomputable def t146:Stmt:=hdPk (Stmt.FunctionDef _ _ _ _ _ _ _ _ _ _) (hdOf (a:=g 146) rfl)
noncomputable def t147:Stmt:=hdPk (Stmt.FunctionDef _ _ _ _ _ _ _ _ _ _) (hdOf (a:=g 147) rfl)
noncomputable def t148:Stmt:=hdPk (Stmt.FunctionDef _ _ _ _ _ _ _ _ _ _) (hdOf (a:=g 148) rfl)
noncomputable def t149:Stmt:=hdPk (Stmt.FunctionDef _ _ _ _ _ _ _ _ _ _) (hdOf (a:=g 149) rfl)
noncomputable def t150:Stmt:=hdPk (Stmt.Assign _ _ _) (hdOf (a:=g 150) rfl)
noncomputable def t151:Stmt:=hdPk (Stmt.FunctionDef _ _ _ _ _ _ _ _ _ _) (hdOf (a:=g 151) rfl)
noncomputable def t152:Stmt:=hdPk (Stmt.FunctionDef _ _ _ _ _ _ _ _ _ _) (hdOf (a:=g 152) rfl)
noncomputable def t153:Stmt:=hdPk (Stmt.FunctionDef _ _ _ _ _ _ _ _ _ _) (hdOf (a:=g 153) rfl)
noncomputable def t154:Stmt:=hdPk (Stmt.FunctionDef _ _ _ _ _ _ _ _ _ _) (hdOf (a:=g 154) rfl)
noncomputable def t155:Stmt:=hdPk (Stmt.FunctionDef _ _ _ _ _ _ _ _ _ _) (hdOf (a:=g 155) rfl)
noncomputable def t156:Stmt:=hdPk (Stmt.FunctionDef _ _ _ _ _ _ _ _ _ _) (hdOf (a:=g 156) rfl)
noncomputable def t157:Stmt:=hdPk (Stmt.FunctionDef _ _ _ _ _ _ _ _ _ _) (hdOf (a:=g 157) rfl)
noncomputable def t158:Stmt:=hdPk (Stmt.FunctionDef _ _ _ _ _ _ _ _ _ _) (hdOf (a:=g 158) rfl)
noncomputable def t159:Stmt:=hdPk (Stmt.FunctionDef _ _ _ _ _ _ _ _ _ _) (hdOf (a:=g 159) rfl)
noncomputable def t160:Stmt:=hdPk (Stmt.FunctionDef _ _ _ _ _ _ _ _ _ _) (hdOf (a:=g 160) rfl)
end K85
noncomputable def K85.sc:Scope:=Mm.hdPk (Scope.mk _ _ _ _ _) (Mm.hdOf (a:=PySem.Challenge.pw_manymakes_k85_desk_texts.main.scope) rfl)
noncomputable def K85.yb0:List Stmt:=[K85.t0,K85.t1,K85.t2,K85.t3,K85.t4,K85.t5,K85.t6,K85.t7,K85.t8,K85.t9,K85.t10,K85.t11,K85.t12,K85.t13,K85.t14,K85.t15,K85.t16,K85.t17,K85.t18,K85.t19]
noncomputable def K85.yb1:List Stmt:=[K85.t20,K85.t21,K85.t22,K85.t23,K85.t24,K85.t25,K85.t26,K85.t27,K85.t28,K85.t29,K85.t30,K85.t31,K85.t32,K85.t33,K85.t34,K85.t35,K85.t36,K85.t37,K85.t38,K85.t39]
noncomputable def K85.yb2:List Stmt:=[K85.t40,K85.t41,K85.t42,K85.t43,K85.t44,K85.t45,K85.t46,K85.t47,K85.t48,K85.t49,K85.t50,K85.t51,K85.t52,K85.t53,K85.t54,K85.t55,K85.t56,K85.t57,K85.t58,K85.t59]
noncomputable def K85.yb3:List Stmt:=[K85.t60,K85.t61,K85.t62,K85.t63,K85.t64,K85.t65,K85.t66,K85.t67,K85.t68,K85.t69,K85.t70,K85.t71,K85.t72,K85.t73,K85.t74,K85.t75,K85.t76,K85.t77,K85.t78,K85.t79]
noncomputable def K85.yb4:List Stmt:=[K85.t80,K85.t81,K85.t82,K85.t83,K85.t84,K85.t85,K85.t86,K85.t87,K85.t88,K85.t89,K85.t90,K85.t91,K85.t92,K85.t93,K85.t94,K85.t95,K85.t96,K85.t97,K85.t98,K85.t99]
noncomputable def K85.yb5:List Stmt:=[K85.t100,K85.t101,K85.t102,K85.t103,K85.t104,K85.t105,K85.t106,K85.t107,K85.t108,K85.t109,K85.t110,K85.t111,K85.t112,K85.t113,K85.t114,K85.t115,K85.t116,K85.t117,K85.t118,K85.t119]
noncomputable def K85.yb6:List Stmt:=[K85.t120,K85.t121,K85.t122,K85.t123,K85.t124,K85.t125,K85.t126,K85.t127,K85.t128,K85.t129,K85.t130,K85.t131,K85.t132,K85.t133,K85.t134,K85.t135,K85.t136,K85.t137,K85.t138,K85.t139]
noncomputable def K85.yb7:List Stmt:=[K85.t140,K85.t141,K85.t142,K85.t143,K85.t144,K85.t145,K85.t146,K85.t147,K85.t148,K85.t149,K85.t150,K85.t151,K85.t152,K85.t153,K85.t154,K85.t155,K85.t156,K85.t157,K85.t158,K85.t159]
noncomputable def K85.yb8:List Stmt:=[K85.t160]
open K85 in
noncomputable def K85.pw:Program:=Mm.hdPk (Program.mk (Module.mk (K85.yb0++(K85.yb1++(K85.yb2++(K85.yb3++(K85.yb4++(K85.yb5++(K85.yb6++(K85.yb7++(K85.yb8))))))))) K85.sc _ _ _) _ _ _ _ _) (Mm.hdOf (a:=PySem.Challenge.pw_manymakes_k85_desk_texts) rfl)
noncomputable def K85.rw:OpenLaw:=Mm.hdPk {prog:=K85.pw,name:=_,about:=_,foot:=_,most:=_,bound:=_,writes:=_} (Mm.hdOf (a:=PySem.Challenge.rw_manymakes_k85_desk_texts) rfl)
theorem K85.rwe:K85.rw=PySem.Challenge.rw_manymakes_k85_desk_texts:=rfl
end
section
open PySem PySem.W PyProof.Rows
theorem K85.pwe:PySem.Challenge.pw_manymakes_k85_desk_texts=K85.pw:=rfl
noncomputable def K85.yv0:List Stmt:=[K85.t1,K85.t2,K85.t3,K85.t4,K85.t5,K85.t6,K85.t7,K85.t9,K85.t10,K85.t11,K85.t12,K85.t13,K85.t14,K85.t15,K85.t16,K85.t17,K85.t18,K85.t19,K85.t20,K85.t21]
noncomputable def K85.yv1:List Stmt:=[K85.t22,K85.t23,K85.t25,K85.t26,K85.t27,K85.t28,K85.t29,K85.t30,K85.t31,K85.t32,K85.t33,K85.t34,K85.t35,K85.t36,K85.t37,K85.t38,K85.t40,K85.t41,K85.t42,K85.t43]
noncomputable def K85.yv2:List Stmt:=[K85.t44,K85.t45,K85.t46,K85.t47,K85.t49,K85.t50,K85.t51,K85.t52,K85.t54,K85.t55,K85.t56,K85.t57,K85.t58,K85.t59,K85.t61,K85.t62,K85.t63,K85.t64,K85.t65,K85.t66]
noncomputable def K85.yv3:List Stmt:=[K85.t68,K85.t69,K85.t70,K85.t72,K85.t73,K85.t74,K85.t75,K85.t76,K85.t77,K85.t78,K85.t80,K85.t81,K85.t82,K85.t83,K85.t84,K85.t85,K85.t86,K85.t87,K85.t88,K85.t89]
noncomputable def K85.yv4:List Stmt:=[K85.t90,K85.t92,K85.t93,K85.t94,K85.t95,K85.t96,K85.t97,K85.t98,K85.t99,K85.t100,K85.t101,K85.t102,K85.t105,K85.t106,K85.t107,K85.t108,K85.t109,K85.t111,K85.t112,K85.t113]
noncomputable def K85.yv5:List Stmt:=[K85.t114,K85.t115,K85.t116,K85.t117,K85.t118,K85.t120,K85.t121,K85.t122,K85.t123,K85.t124,K85.t125,K85.t126,K85.t128,K85.t129,K85.t130,K85.t131,K85.t132,K85.t134,K85.t135,K85.t136]
noncomputable def K85.yv6:List Stmt:=[K85.t137,K85.t138,K85.t140,K85.t141,K85.t142,K85.t143,K85.t144,K85.t145,K85.t146,K85.t147,K85.t148,K85.t149,K85.t151,K85.t152,K85.t153,K85.t154,K85.t155,K85.t156,K85.t157,K85.t158]
noncomputable def K85.yv7:List Stmt:=[K85.t159,K85.t160]
open K85 in
noncomputable def K85.vw:Program:={K85.pw with main:={K85.pw.main with body:=K85.yv0++(K85.yv1++(K85.yv2++(K85.yv3++(K85.yv4++(K85.yv5++(K85.yv6++(K85.yv7)))))))} }
theorem Mm.keepIt(_:Hook){p:Prop}(h:p):p:=h
section
local macro_rules | `(tactic| o_head $H)=>`(tactic| exact Mm.keepIt $H (by assumption))
set_option maxHeartbeats 0 in
theorem K85.pre(h:(OpenLaw.row PySem.Challenge.rw_manymakes_k85_desk_texts).Holds):(OpenLaw.row PySem.Challenge.rw_manymakes_k85_desk_texts).Holds:=by k_head
end
def K85.as:List Addr:=[2,3,15,22,23,24,25,28,35,36,37,40,47,48,49,52,59,60,61,64,71,73,74,76,77,78,79,80,83,90,92,93,95,96,97,98,99,102,109,111,112,114,115,116,117,118,121,123,124,126,127,128,130,131,133,134,135,137,138,140,141,142,144,145,147,148,149,151,152,154,155,156,159,160,161,163,164,166,167,168,170,171,173,174,175,177,178,180,181,182,184,185,187,188,189,191,192,194,195,196,198,199,201,202,203,206,207,208,210,211,213,214,215,218,219,220,221,222,223,226,227,228,230,231,233,234,235,237,238,240,241,249,251,252,254,255,256,258,259,261,262,263,265,266,268,269,270,272,273,275,276,277,279,280,282,283,284,286,287,289,290,291,293,294,296,297,298,300,301,303,304,305,308,309,310,312,313,315,316,317,319,320,322,323,324,326,327,329,330,331,332,333,334,335,338,340,341,343,344,345,347,348,350,351,359,361,362,364,365,366,367,368,369,370,373,376,377,378,380,381,383,384,385,387,388,390,391,392,394,395,397,398,399,401,402,404,405,406,408,409,411,412,413,416,417,418,421,422,423,425,426,428,429,430,433,434,442,444,445,447,448,449,451,452,454,455,456,458,459,461,462,463,465,466,468,469,470,473,474,475,477,478,480,481,482,484,485,487,488,489,491,492,494,495,496,497,498,499,500,503,505,506,508,509,510,512,513,515,516,517,519,520,522,523,524,526,527,529,530,531,533,534,536,537,538,545,547,548,550,551,552,553,554,555,565,567,568,570,571,572,574,575,577,578,579,581,582,584,585,586,588,589,591,592,593,595,596,598,599,600,602,603,605,606,607,610,611,612,613,614,615,616,619,621,622,624,625,626,629,630,631,633,634,636,637,638,640,641,643,644,645,647,648,650,651,652,653,661,663,664,666,667,668,670,671,673,674,675,677,678,680,681,682,685,686,687,690,691,692,694,695,697,698,699,701,702,704,705,706,709,710,711,713,714,716,717,718,721,722,723,724,725,726,727,730,733,734,735,737,738,740,741,742,744,745,747,748,749,751,752,754,755,756,757,759,760,762,763,764,767,768,769,771,772,774,775,776,778,779,781,782,783,785,786,788,789,790,792,793,795,796,797,799,800,802,803,804,806,807,809,810,811,814,815,816,818,819,821,822,823,825,826,828,829,830,832,833,835,836,837,839,840,842,843,844,847,848,849,852,853,854,857,858,859,861,862,864,865,866,867,870,871,879,881,882,884,885,886,887,888,889,890,900,902,903,905,906,907,909,910,912,913,914,916,917,919,920,921,923,924,926,927,928,930,931,933,934,935,937,938,940,941,942,943,944,945,946,949,951,952,954,955,956,959,960,961,964,965,966,969,970,971,974,975,976,979,980,981,983,984,986,987,988,990,991,993,994,995,998,999,1000,1003,1004,1005,1008,1009,1010,1012,1013,1015,1016,1017,1019,1020,1022,1023,1024,1026,1027,1029,1030,1031,1034,1035,1036,1038,1039,1041,1042,1043,1045,1046,1048,1049,1057,1059,1060,1062,1063,1064,1065,1066,1067,1068,1078,1080,1081,1083,1084,1085,1087,1088,1090,1091,1092,1094,1095,1097,1098,1099,1101,1102,1104,1105,1106,1109,1110,1111,1113,1114,1116,1117,1118,1120,1121,1123,1124,1125,1127,1128,1130,1131,1132,1134,1135,1137,1138,1139,1142,1143,1144,1145,1146,1147,1148,1151,1153,1154,1156,1157,1158,1161,1162,1163,1165,1166,1168,1169,1170,1173,1174,1175,1177,1178,1180,1181,1182,1184,1185,1187,1188,1189,1191,1192,1194,1195,1196,1198,1199,1201,1202,1203,1204,1205,1206,1207,1208,1209,1210,1211,1212,1213,1214,1215,1216,1217,1225,1227,1228,1230,1231,1232,1234,1235,1237,1238,1239,1241,1242,1244,1245,1246,1248,1249,1251,1252,1253,1255,1256,1258,1259,1260,1262,1263,1265,1266,1267,1270,1271,1272,1274,1275,1277,1278,1279,1281,1282,1284,1285,1286,1289,1290,1291,1293,1294,1296,1297,1298,1299,1300,1301,1302,1305,1308,1309,1310,1313,1314,1315,1317,1318,1320,1321,1322,1325,1326,1327,1329,1330,1332,1333,1334,1336,1337,1339,1340,1341,1343,1344,1346,1347,1348,1351,1352,1353,1355,1356,1358,1359,1360,1363,1364,1365,1368,1369,1370,1372,1373,1375,1376,1377,1379,1380,1382,1383,1384,1387,1388]
theorem K85.ase(P:Params):K85.as=(K85.pre.heap_1 P).map (·.1):=by kernel_rfl
theorem Mm.both_true{a b:Bool}(h:(a&&b)=true):a=true/\b=true:=by cases a<;>cases b<;>simp_all
noncomputable abbrev K85.xt:Shared->Bool:=λs=>(xlAt K85.vw [] s)&&(recOk (RowW.records (OpenRow.toRowW (OpenLaw.row K85.rw))) s)
def Mm.hdTt{α:Type}(_:α):Bool:=true
def Mm.treeOf:List Obj->Nat->BT->BT
 | [],_,t=>t
 |o::l,i,t=>Mm.treeOf l (i+1) (t.ins i o)
def Mm.dF:Stmt->Arguments×List Stmt×Scope
 |.FunctionDef _ a b _ _ _ s _ _ _=>(a,b,s)
 |_=>(⟨[],[],none,[],[],none,[]⟩,[],⟨.function,[],false,false,[]⟩)
section
open PyData
def Mm.inC:Stmt->Nat->Stmt
 |.ClassDef _ _ _ b _ _ _ _ _ _ _,j=>b.getD j (.Break ⟨0,0,0,0⟩)
 |x,_=>x
namespace K85
open Mm
def s(x:Str)(t:Tok):Value:=.str x t
def r(a:Addr):Value:=.ref a
def n(k:Int):Value:=.int k 0
def us:List Str->Nat->List Value
 | [],_=>[]
 |x::l,t=>.str x t::us l (t+1)
def tu(l:List Value):Obj:={cls:=.type "tuple",data:=.seq (Array.mk l)}
def fi(l:List Value):Obj:={cls:=.none,data:=.fields (Array.mk l)}
def oc(c:String)(l:List Value):Obj:={cls:=.type c,data:=.fields (Array.mk l)}
def q4(a:Addr):List Value:=[.none,.ref (a+2),.ref (a+3),.ref (a+4)]
def co(x y:Str)(t:Tok)(ln ar fl:Int)(a:Addr)(b:Bool)(m:List Value)(u:Nat):Obj:=
 {cls:=.type "code",data:=.fields (Array.mk ([.str x t,.str y (t+1),.str "/claim/cut.py" (t+2),.int ln 0,.int ar 0,.int 0 0,.int 0 0,.int fl 0,.ref a,.bool b,.int 181 0,.ref (a+1)]++m++[.int (u:Int) 0,.int ln 0,.str "/claim/cut.py" (u+1)]))}
def en(x:Str)(t:Tok)(v:Value):Str×Tok×Value:=(x,t,v)
def de(P:Params)(x:Str×Tok×Value):DictEntry:={hash:=keyHash P x.1,key:=.str x.1 x.2.1,val:=x.2.2}
def di(P:Params)(l:List (Str×Tok×Value))(k:Nat):Obj:={cls:=.type "dict",data:=.dict (Array.mk (l.map (de P))) k}
def pf(x y:Str)(z:Stmt):Obj:={cls:=.none,data:=.func ⟨x,y,(dF z).1,.stmts (dF z).2.1,(dF z).2.2,0,[],.none,.none,.none,.none,none,.none,.none,0⟩}
def fu(x y:Str)(z:Stmt)(d p:Value)(c:Addr):Obj:={cls:=.type "function",data:=.func ⟨x,y,(dF z).1,.stmts (dF z).2.1,(dF z).2.2,3,[],d,.none,.none,p,none,.ref c,.none,0⟩}
def uL:List (Str×Tok×Value):=[en "__name__" 165 (s "law_manymakes_k85_desk_texts" 2210),en "__doc__" 166 .none,en "__package__" 167 .none,en "__loader__" 168 (.builtin "__main__.__loader__#opaque"),en "__spec__" 169 .none,en "__annotations__" 170 (r 6),en "__builtins__" 171 (r 4),en "__file__" 173 (s "/claim/cut.py" 172),en "__cached__" 174 .none,en "MakesError" 206 (r 24),en "NoWish" 222 (r 37),en "NoSet" 238 (r 49),en "NoOrder" 254 (r 61),en "NoGroup" 279 (r 80),en "TooMany" 304 (r 99),en "NoForm" 331 (r 118),en "every" 340 (r 127),en "switch_mask" 351 (r 134),en "is_whole" 358 (r 141),en "is_mask" 366 (r 148)]
def uM:List (Str×Tok×Value):=[en "has" 374 (r 155),en "settings" 380 (r 160),en "how_many" 387 (r 167),en "least" 394 (r 174),en "with_on" 404 (r 181),en "with_off" 414 (r 188),en "without" 422 (r 195),en "all_of" 432 (r 202),en "kept_pairs" 438 (r 207),en "add_to" 447 (r 214),en "with_masks" 453 (r 219),en "LANGUAGE_WORDS" 481 (r 220),en "OPERATORS" 489 (r 221),en "PLAIN_KINDS" 492 (r 222),en "SMALL_LETTERS" 494 (s "abcdefghijklmnopqrstuvwxyz" 493),en "FIGURES" 496 (s "0123456789" 495),en "LONGEST_NAME" 498 (.int 8 497),en "LONGEST_NUMBER_phrases" 500 (.int 18 499),en "DEEPEST_EXPR" 502 (.int 6 501),en "made_of" 508 (r 227)]
def uN:List (Str×Tok×Value):=[en "is_name" 515 (r 234),en "is_number" 522 (r 241),en "Phrase" 646 (r 333),en "read_row" 656 (r 344),en "read_head" 667 (r 351),en "MOST_BLOCKS" 671 (.int 4 670),en "Block" 704 (r 368),en "read_plain" 710 (r 377),en "place_fault" 718 (r 384),en "is_misplaced" 726 (r 391),en "is_stray" 734 (r 398),en "put_in" 746 (r 405),en "begun" 758 (r 412),en "kept_tree" 766 (r 417),en "kept_statement" 772 (r 422),en "row_and_least" 779 (r 429),en "blocks_of" 785 (r 434),en "NameLook" 893 (r 498),en "first_rows" 905 (r 509),en "pairs_of" 912 (r 516)]
def uO:List (Str×Tok×Value):=[en "expr_of" 919 (r 523),en "exprs_in" 926 (r 530),en "shared_names" 936 (r 537),en "ROUND" 940 (.int 1000000000000000000 939),en "MOST_RUNNINGS" 942 (.int 6 941),en "RunEnd" 971 (r 554),en "PlainRun" 1068 (r 614),en "first_ones" 1077 (r 625),en "field_value" 1083 (r 630),en "reckoned" 1093 (r 775),en "reckoned_plainrun" 1094 (r 637),en "truth_text" 1101 (r 644),en "run_plain" 1111 (r 651),en "MAKES" 1144 (r 652),en "ASKS" 1169 (r 653),en "KindLook" 1288 (r 725),en "unfit" 1294 (r 734),en "is_record" 1301 (r 741),en "giving" 1311 (r 748),en "shared_kinds" 1321 (r 755)]
def uP:List (Str×Tok×Value):=[en "LETTERS" 1325 (s "abcdefghij" 1324),en "NEEDS" 1341 (r 756),en "read_wish" 1349 (r 763),en "mask_of_text" 1355 (r 768),en "reckoned_wishes" 1369 (r 775),en "taken" 1379 (r 782),en "value_of" 1389 (r 789),en "put_together" 1398 (r 796),en "shown_wish" 1406 (r 803),en "shown_from" 1417 (r 810),en "DEEPEST_GROUP" 1421 (.int 5 1420),en "MOST_VARIANTS" 1423 (.int 16 1422),en "read_rows" 1429 (r 815),en "read_words" 1441 (r 822),en "words_of" 1448 (r 829),en "group_mask" 1457 (r 836),en "in_group" 1466 (r 843),en "cut_row" 1472 (r 848),en "cut_rows" 1478 (r 853),en "cut_text" 1484 (r 858)]
def uQ:List (Str×Tok×Value):=[en "is_setting" 1492 (r 865),en "variants" 1499 (r 871),en "TOP" 1503 (.int 0 1502),en "Spot" 1539 (r 888),en "Reading" 1633 (r 944),en "read_cut" 1642 (r 955),en "read_shared" 1648 (r 960),en "dead_rows" 1656 (r 965),en "lonely_rows" 1662 (r 970),en "standing" 1668 (r 975),en "faults_of" 1674 (r 980),en "sound_ones" 1683 (r 987),en "all_faults" 1695 (r 994),en "without_names" 1701 (r 999),en "left_by" 1707 (r 1004),en "one_form" 1715 (r 1009),en "least_of" 1722 (r 1016),en "kept_to" 1730 (r 1023),en "put_over" 1739 (r 1030),en "mapped" 1745 (r 1035)]
def uR:List (Str×Tok×Value):=[en "paired" 1759 (r 1042),en "covered" 1766 (r 1049),en "Running" 1800 (r 1066),en "SharedRun" 1943 (r 1146),en "with_one_more" 1951 (r 1157),en "where" 1957 (r 1162),en "run_shared" 1968 (r 1169),en "tidied" 1976 (r 1174),en "ask_rule" 1984 (r 1181),en "tidied_row" 1997 (r 1188),en "come_together" 2009 (r 1195),en "parted" 2022 (r 1202),en "MOST_SWITCHES" 2026 (.int 6 2025),en "MOST_ROWS" 2028 (.int 60 2027),en "MOST_STEPS" 2030 (.int 400 2029),en "LONGEST_NUMBER_desk" 2032 (.int 6 2031),en "FORMS" 2069 (r 1203),en "Desk" 2183 (r 1300),en "read_order" 2189 (r 1309),en "read_word" 2195 (r 1314)]
def uS:List (Str×Tok×Value):=[en "fault_text" 2203 (r 1321),en "in_blanks" 2209 (r 1326),en "_law_cell_at" 2219 (r 1333),en "_law_drawn" 2230 (r 1340),en "_law_wish" 2245 (r 1347),en "_law_word" 2251 (r 1352),en "_law_made" 2266 (r 1359),en "_law_wish_due" 2272 (r 1364),en "_law_looked" 2278 (r 1369),en "_law_turn" 2293 (r 1376),en "_law_not_put" 2303 (r 1383),en "law" 2309 (r 1388)]
def jg:List (Str×Tok×Value):=uL++(uM++(uN++(uO++(uP++(uQ++(uR++(uS)))))))
def uT:List Value:=[n 2,n 0,r 20,n 4,n 0,r 33,n 6,n 0,r 45,n 8,n 0,r 57,n 10,n 0,r 69,n 14,n 0,r 88,n 18,n 0]
def uU:List Value:=[r 107,n 24,n 0,r 126,n 26,n 0,r 133,n 34,n 0,r 140,n 36,n 0,r 147,n 38,n 0,r 154,n 40,n 0,r 159,n 42]
def uV:List Value:=[n 0,r 166,n 44,n 0,r 173,n 48,n 0,r 180,n 51,n 0,r 187,n 54,n 0,r 194,n 56,n 0,r 201,n 61,n 0,r 206]
def uW:List Value:=[n 63,n 0,r 213,n 66,n 0,r 218,n 77,n 0,r 226,n 79,n 0,r 233,n 81,n 0,r 240,n 83,n 0,r 247,n 168,n 0]
def uX:List Value:=[r 343,n 176,n 0,r 350,n 193,n 0,r 357,n 199,n 0,r 376,n 212,n 0,r 383,n 218,n 0,r 390,n 224,n 0,r 397,n 228]
def uY:List Value:=[n 0,r 404,n 239,n 0,r 411,n 252,n 0,r 416,n 255,n 0,r 421,n 257,n 0,r 428,n 259,n 0,r 433,n 262,n 0,r 440]
def uZ:List Value:=[n 314,n 0,r 508,n 322,n 0,r 515,n 324,n 0,r 522,n 326,n 0,r 529,n 334,n 0,r 536,n 343,n 0,r 543,n 347,n 0]
def u0:List Value:=[r 563,n 416,n 0,r 624,n 422,n 0,r 629,n 424,n 0,r 636,n 443,n 0,r 643,n 445,n 0,r 650,n 455,n 0,r 659,n 531]
def u2:List Value:=[n 0,r 733,n 533,n 0,r 740,n 535,n 0,r 747,n 543,n 0,r 754,n 551,n 0,r 762,n 553,n 0,r 767,n 555,n 0,r 774]
def u3:List Value:=[n 573,n 0,r 781,n 578,n 0,r 788,n 587,n 0,r 795,n 597,n 0,r 802,n 599,n 0,r 809,n 612,n 0,r 814,n 614,n 0]
def u4:List Value:=[r 821,n 633,n 0,r 828,n 637,n 0,r 835,n 642,n 0,r 842,n 644,n 0,r 847,n 646,n 0,r 852,n 648,n 0,r 857,n 653]
def u5:List Value:=[n 0,r 864,n 655,n 0,r 870,n 665,n 0,r 877,n 673,n 0,r 898,n 727,n 0,r 954,n 733,n 0,r 959,n 742,n 0,r 964]
def u6:List Value:=[n 744,n 0,r 969,n 746,n 0,r 974,n 748,n 0,r 979,n 751,n 0,r 986,n 753,n 0,r 993,n 759,n 0,r 998,n 761,n 0]
def u7:List Value:=[r 1003,n 764,n 0,r 1008,n 769,n 0,r 1015,n 771,n 0,r 1022,n 773,n 0,r 1029,n 776,n 0,r 1034,n 778,n 0,r 1041,n 784]
def u9:List Value:=[n 0,r 1048,n 787,n 0,r 1055,n 793,n 0,r 1076,n 894,n 0,r 1156,n 896,n 0,r 1161,n 898,n 0,r 1168,n 904,n 0,r 1173]
def vb:List Value:=[n 907,n 0,r 1180,n 910,n 0,r 1187,n 916,n 0,r 1194,n 925,n 0,r 1201,n 939,n 0,r 1223,n 1032,n 0,r 1308,n 1040,n 0]
def vc:List Value:=[r 1313,n 1052,n 0,r 1320,n 1055,n 0,r 1325,n 1058,n 0,r 1332,n 1062,n 0,r 1339,n 1069,n 0,r 1346,n 1090,n 0,r 1351,n 1099]
def vd:List Value:=[n 0,r 1358,n 1117,n 0,r 1363,n 1124,n 0,r 1368,n 1133,n 0,r 1375,n 1143,n 0,r 1382,n 1150,n 0,r 1387]
def hV:List Value:=uT++(uU++(uV++(uW++(uX++(uY++(uZ++(u0++(u2++(u3++(u4++(u5++(u6++(u7++(u9++(vb++(vc++(vd)))))))))))))))))
noncomputable def c0(P:Params):List Obj:=[boot_o_0 P,
 boot_o_1 P,
 {cls:=.none,data:=Data.dict #[{hash:=PyData.keyHash P ("type.__subclasses__.Exception.0"),key:=(s "type.__subclasses__.Exception.0" 968),val:=(n 554)},{hash:=PyData.keyHash P ("type.__subclasses__.Exception.n"),key:=(s "type.__subclasses__.Exception.n" 969),val:=(n 1)}] 2},
 di P jg 152,
 boot_o_4 P,
 boot_o_5 P,
 boot_o_6 P,
 boot_o_7 P,
 boot_o_8 P,
 boot_o_9 P,
 boot_o_10 P,
 tu [],
 fi hV,
 co "<module>" "<module>" 182 1 0 0 11 false [.none,.none,.none,.none] 185,
 {cls:=.type "frame",slots:=#[some ((r 13)),some ((r 3)),some ((r 3)),none,some ((s "__main__" 164)),none,some ((r 0))]},
 tu [.type "ValueError"],
 oc "builtin_function_or_method" [.builtin "type.__prepare__",.type "type"],
 di P [en "__module__" 196 (s "manymakes.errors" 187),en "__qualname__" 198 (s "MakesError" 197),en "__firstlineno__" 200 (.int 2 199),en "__static_attributes__" 201 (r 22)] 4,
 tu [],
 fi [],
 co "MakesError" "MakesError" 191 2 0 0 18 false [.none,.none,.none,.none] 194,
 {cls:=.type "frame",slots:=#[some ((r 20)),some ((r 3)),some ((r 17)),none,some ((s "manymakes.errors" 187)),none,some ((r 0))]},
 tu [],
 di P [en "__module__" 196 (s "manymakes.errors" 187),en "__firstlineno__" 200 (.int 2 199),en "__static_attributes__" 201 (r 22),en "__weakref__" 203 (r 25),en "__doc__" 204 .none] 3]
noncomputable def c1(P:Params):List Obj:=[{cls:=.type "type",data:=Data.cls {name:="MakesError",bases:=[.type "ValueError"],mro:=[(r 24),.type "ValueError",.type "Exception",.type "BaseException",.type "object"],ns:=23,qualname:="MakesError",subclasses:=[(r 37),(r 49),(r 61),(r 80),(r 99),(r 118)]},slots:=#[some ((r 15)),none,some ((s "MakesError" 189)),some ((s "MakesError" 197)),some (.builtin "ValueError.__new__"),some (.bool true)]},
 oc "getset_descriptor" [s "__weakref__" 202,r 24,.builtin "ExceptionGroup.__weakref__",.none],
 oc "super" [r 24,r 24,r 24],
 oc "builtin_function_or_method" [.builtin "object.__init_subclass__",r 24],
 tu [r 24],
 oc "builtin_function_or_method" [.builtin "type.__prepare__",.type "type"],
 di P [en "__module__" 214 (s "manymakes.errors" 187),en "__qualname__" 216 (s "NoWish" 215),en "__firstlineno__" 218 (.int 4 217),en "__static_attributes__" 219 (r 35)] 4,
 tu [],
 fi [],
 co "NoWish" "NoWish" 209 4 0 0 31 false [.none,.none,.none,.none] 212,
 {cls:=.type "frame",slots:=#[some ((r 33)),some ((r 3)),some ((r 30)),none,some ((s "manymakes.errors" 187)),none,some ((r 0))]},
 tu [],
 di P [en "__module__" 214 (s "manymakes.errors" 187),en "__firstlineno__" 218 (.int 4 217),en "__static_attributes__" 219 (r 35),en "__doc__" 220 .none] 2,
 {cls:=.type "type",data:=Data.cls {name:="NoWish",bases:=[(r 24)],mro:=[(r 37),(r 24),.type "ValueError",.type "Exception",.type "BaseException",.type "object"],ns:=36,qualname:="NoWish" },slots:=#[some ((r 28)),none,some ((s "NoWish" 207)),some ((s "NoWish" 215)),some (.builtin "ValueError.__new__"),some (.bool true)]},
 oc "super" [r 37,r 37,r 37],
 oc "builtin_function_or_method" [.builtin "object.__init_subclass__",r 37],
 tu [r 24],
 oc "builtin_function_or_method" [.builtin "type.__prepare__",.type "type"],
 di P [en "__module__" 230 (s "manymakes.errors" 187),en "__qualname__" 232 (s "NoSet" 231),en "__firstlineno__" 234 (.int 6 233),en "__static_attributes__" 235 (r 47)] 4,
 tu [],
 fi [],
 co "NoSet" "NoSet" 225 6 0 0 43 false [.none,.none,.none,.none] 228,
 {cls:=.type "frame",slots:=#[some ((r 45)),some ((r 3)),some ((r 42)),none,some ((s "manymakes.errors" 187)),none,some ((r 0))]},
 tu []]
noncomputable def c2(P:Params):List Obj:=[di P [en "__module__" 230 (s "manymakes.errors" 187),en "__firstlineno__" 234 (.int 6 233),en "__static_attributes__" 235 (r 47),en "__doc__" 236 .none] 2,
 {cls:=.type "type",data:=Data.cls {name:="NoSet",bases:=[(r 24)],mro:=[(r 49),(r 24),.type "ValueError",.type "Exception",.type "BaseException",.type "object"],ns:=48,qualname:="NoSet" },slots:=#[some ((r 40)),none,some ((s "NoSet" 223)),some ((s "NoSet" 231)),some (.builtin "ValueError.__new__"),some (.bool true)]},
 oc "super" [r 49,r 49,r 49],
 oc "builtin_function_or_method" [.builtin "object.__init_subclass__",r 49],
 tu [r 24],
 oc "builtin_function_or_method" [.builtin "type.__prepare__",.type "type"],
 di P [en "__module__" 246 (s "manymakes.errors" 187),en "__qualname__" 248 (s "NoOrder" 247),en "__firstlineno__" 250 (.int 8 249),en "__static_attributes__" 251 (r 59)] 4,
 tu [],
 fi [],
 co "NoOrder" "NoOrder" 241 8 0 0 55 false [.none,.none,.none,.none] 244,
 {cls:=.type "frame",slots:=#[some ((r 57)),some ((r 3)),some ((r 54)),none,some ((s "manymakes.errors" 187)),none,some ((r 0))]},
 tu [],
 di P [en "__module__" 246 (s "manymakes.errors" 187),en "__firstlineno__" 250 (.int 8 249),en "__static_attributes__" 251 (r 59),en "__doc__" 252 .none] 2,
 {cls:=.type "type",data:=Data.cls {name:="NoOrder",bases:=[(r 24)],mro:=[(r 61),(r 24),.type "ValueError",.type "Exception",.type "BaseException",.type "object"],ns:=60,qualname:="NoOrder" },slots:=#[some ((r 52)),none,some ((s "NoOrder" 239)),some ((s "NoOrder" 247)),some (.builtin "ValueError.__new__"),some (.bool true)]},
 oc "super" [r 61,r 61,r 61],
 oc "builtin_function_or_method" [.builtin "object.__init_subclass__",r 61],
 tu [r 24],
 oc "builtin_function_or_method" [.builtin "type.__prepare__",.type "type"],
 di P [en "__module__" 262 (s "manymakes.errors" 187),en "__qualname__" 264 (s "NoGroup" 263),en "__firstlineno__" 266 (.int 10 265),en "__init__" 274 (r 77),en "__static_attributes__" 276 (r 78)] 5,
 tu [],
 fi [n 12,n 4,r 76],
 co "NoGroup" "NoGroup" 257 10 0 0 67 false [.none,.none,.none,.none] 260,
 {cls:=.type "frame",slots:=#[some ((r 69)),some ((r 3)),some ((r 66)),none,some ((s "manymakes.errors" 187)),none,some ((r 0))]},
 tu []]
abbrev Yb:List PySem.Str:=["_law_number","_law_n","_law_most"]
abbrev Yc:List PySem.Str:=["_law_number","_law_n","_law_most","_law_found","_law_around","_law_words","_law_x","_law_turn_here","_law_pick"]
abbrev Yd:List PySem.Str:=["_law_desk","_law_rows","_law_rule","_law_n","_law_x"]
abbrev Ye:List PySem.Str:=["_law_desk","_law_state","_law_cell","_law_n","_law_rows","_law_rule","_law_x","_law_wish_here","_law_row"]
abbrev Yg:List PySem.Str:=["_law_number","_law_n","_law_most","_law_signs","_law_text","_law_need","_law_x","_law_pick","_law_sign"]
abbrev Yh:List PySem.Str:=["_law_wish_here","_law_rule","_law_n"]
abbrev Yi:List PySem.Str:=["_law_desk","_law_state","_law_cell"]
abbrev Yj:List PySem.Str:=["rows","rule"]
abbrev Yk:List PySem.Str:=["_law_script","_law_k"]
abbrev Yl:List PySem.Str:=["sign","parts","full"]
abbrev Ym:List PySem.Str:=["mask","k","n"]
abbrev Yn:List PySem.Str:=["self","order"]
abbrev Yo:List PySem.Str:=["word","form"]
abbrev Yp:List PySem.Str:=["text","switches","full","found","behind","sign","parts"]
abbrev Yq:List PySem.Str:=["_law_number","_law_many","_law_found","_law_x","_law_k"]
abbrev Yr:List PySem.Str:=["word","signs","most"]
abbrev Ys:List PySem.Str:=["self","row"]
abbrev Yt:List PySem.Str:=["_law_number","_law_many"]
abbrev Yu:List PySem.Str:=["text","switches","full"]
abbrev Yv:List PySem.Str:=["sign","switches","full"]
abbrev Yw:List PySem.Str:=["one","other","n","rule"]
abbrev Yx:List PySem.Str:=["word","n","at"]
abbrev Yy:List PySem.Str:=["_law_desk","_law_text"]
abbrev Yz:List PySem.Str:=["mask","k","n","half"]
abbrev YA:List PySem.Str:=["self","at"]
abbrev YB:List PySem.Str:=["one","other","n","rule","left","right","s"]
abbrev YC:List PySem.Str:=["row","n","at"]
abbrev YD:List PySem.Str:=["value","n"]
abbrev YE:List PySem.Str:=["at","row","rule"]
abbrev YF:List PySem.Str:=["_law_script"]
abbrev YG:List PySem.Str:=["row","rule"]
abbrev YH:List PySem.Str:=["number","most"]
abbrev YI:List PySem.Str:=["found","many"]
abbrev YJ:List PySem.Str:=["k","mask","n"]
abbrev YK:List PySem.Str:=["text","n","s"]
noncomputable def c3(P:Params):List Obj:=[fi [],
 tu (us YA 270),
 tu [],
 pf "__init__" "NoGroup.__init__" (Mm.inC K85.t5 0),
 co "__init__" "NoGroup.__init__" 267 12 2 3 71 true (q4 71) 272,
 fu "__init__" "NoGroup.__init__" (Mm.inC K85.t5 0) .none (s "manymakes.errors" 187) 76,
 tu [s "at" 275],
 di P [en "__module__" 262 (s "manymakes.errors" 187),en "__firstlineno__" 266 (.int 10 265),en "__init__" 274 (r 77),en "__static_attributes__" 276 (r 78),en "__doc__" 277 .none] 2,
 {cls:=.type "type",data:=Data.cls {name:="NoGroup",bases:=[(r 24)],mro:=[(r 80),(r 24),.type "ValueError",.type "Exception",.type "BaseException",.type "object"],ns:=79,qualname:="NoGroup" },slots:=#[some ((r 64)),none,some ((s "NoGroup" 255)),some ((s "NoGroup" 263)),some (.builtin "ValueError.__new__"),some (.bool true)]},
 oc "super" [r 80,r 80,r 80],
 oc "builtin_function_or_method" [.builtin "object.__init_subclass__",r 80],
 tu [r 24],
 oc "builtin_function_or_method" [.builtin "type.__prepare__",.type "type"],
 di P [en "__module__" 287 (s "manymakes.errors" 187),en "__qualname__" 289 (s "TooMany" 288),en "__firstlineno__" 291 (.int 14 290),en "__init__" 299 (r 96),en "__static_attributes__" 301 (r 97)] 5,
 tu [],
 fi [n 16,n 4,r 95],
 co "TooMany" "TooMany" 282 14 0 0 86 false [.none,.none,.none,.none] 285,
 {cls:=.type "frame",slots:=#[some ((r 88)),some ((r 3)),some ((r 85)),none,some ((s "manymakes.errors" 187)),none,some ((r 0))]},
 tu [],
 fi [],
 tu (us YA 295),
 tu [],
 pf "__init__" "TooMany.__init__" (Mm.inC K85.t6 0),
 co "__init__" "TooMany.__init__" 292 16 2 3 90 true (q4 90) 297]
noncomputable def c4(P:Params):List Obj:=[fu "__init__" "TooMany.__init__" (Mm.inC K85.t6 0) .none (s "manymakes.errors" 187) 95,
 tu [s "at" 300],
 di P [en "__module__" 287 (s "manymakes.errors" 187),en "__firstlineno__" 291 (.int 14 290),en "__init__" 299 (r 96),en "__static_attributes__" 301 (r 97),en "__doc__" 302 .none] 2,
 {cls:=.type "type",data:=Data.cls {name:="TooMany",bases:=[(r 24)],mro:=[(r 99),(r 24),.type "ValueError",.type "Exception",.type "BaseException",.type "object"],ns:=98,qualname:="TooMany" },slots:=#[some ((r 83)),none,some ((s "TooMany" 280)),some ((s "TooMany" 288)),some (.builtin "ValueError.__new__"),some (.bool true)]},
 oc "super" [r 99,r 99,r 99],
 oc "builtin_function_or_method" [.builtin "object.__init_subclass__",r 99],
 tu [r 24],
 oc "builtin_function_or_method" [.builtin "type.__prepare__",.type "type"],
 di P [en "__module__" 312 (s "manymakes.errors" 187),en "__qualname__" 314 (s "NoForm" 313),en "__firstlineno__" 316 (.int 18 315),en "__init__" 325 (r 115),en "__static_attributes__" 328 (r 116)] 5,
 tu [],
 fi [n 20,n 4,r 114],
 co "NoForm" "NoForm" 307 18 0 0 105 false [.none,.none,.none,.none] 310,
 {cls:=.type "frame",slots:=#[some ((r 107)),some ((r 3)),some ((r 104)),none,some ((s "manymakes.errors" 187)),none,some ((r 0))]},
 tu [],
 fi [],
 tu (us ["self","at","what"] 320),
 tu [],
 pf "__init__" "NoForm.__init__" (Mm.inC K85.t7 0),
 co "__init__" "NoForm.__init__" 317 20 3 3 109 true (q4 109) 323,
 fu "__init__" "NoForm.__init__" (Mm.inC K85.t7 0) .none (s "manymakes.errors" 187) 114,
 tu (us ["at","what"] 326),
 di P [en "__module__" 312 (s "manymakes.errors" 187),en "__firstlineno__" 316 (.int 18 315),en "__init__" 325 (r 115),en "__static_attributes__" 328 (r 116),en "__doc__" 329 .none] 2,
 {cls:=.type "type",data:=Data.cls {name:="NoForm",bases:=[(r 24)],mro:=[(r 118),(r 24),.type "ValueError",.type "Exception",.type "BaseException",.type "object"],ns:=117,qualname:="NoForm" },slots:=#[some ((r 102)),none,some ((s "NoForm" 305)),some ((s "NoForm" 313)),some (.builtin "ValueError.__new__"),some (.bool true)]},
 oc "super" [r 118,r 118,r 118]]
noncomputable def c5(P:Params):List Obj:=[oc "builtin_function_or_method" [.builtin "object.__init_subclass__",r 118],
 tu [],
 fi [],
 tu [s "n" 337],
 tu [],
 pf "every" "every" K85.t9,
 co "every" "every" 334 24 1 3 121 true (q4 121) 338,
 fu "every" "every" K85.t9 .none (s "manymakes.masks" 332) 126,
 tu [],
 fi [],
 tu (us ["k","n","run","mask","width"] 344),
 tu [],
 pf "switch_mask" "switch_mask" K85.t10,
 co "switch_mask" "switch_mask" 341 26 2 3 128 true (q4 128) 349,
 fu "switch_mask" "switch_mask" K85.t10 .none (s "manymakes.masks" 332) 133,
 tu [],
 fi [],
 tu [s "value" 355],
 tu [],
 pf "is_whole" "is_whole" K85.t11,
 co "is_whole" "is_whole" 352 34 1 3 135 true (q4 135) 356,
 fu "is_whole" "is_whole" K85.t11 .none (s "manymakes.masks" 332) 140,
 tu [],
 fi []]
noncomputable def c6(P:Params):List Obj:=[tu (us YD 362),
 tu [],
 pf "is_mask" "is_mask" K85.t12,
 co "is_mask" "is_mask" 359 36 2 3 142 true (q4 142) 364,
 fu "is_mask" "is_mask" K85.t12 .none (s "manymakes.masks" 332) 147,
 tu [],
 fi [],
 tu (us ["mask","s"] 370),
 tu [],
 pf "has" "has" K85.t13,
 co "has" "has" 367 38 2 3 149 true (q4 149) 372,
 fu "has" "has" K85.t13 .none (s "manymakes.masks" 332) 154,
 tu [],
 fi [],
 pf "settings" "settings" K85.t14,
 co "settings" "settings" 375 40 1 3 156 true [.none,.none,.none,r 158] 378,
 fu "settings" "settings" K85.t14 .none (s "manymakes.masks" 332) 159,
 tu [],
 fi [],
 tu [s "mask" 384],
 tu [],
 pf "how_many" "how_many" K85.t15,
 co "how_many" "how_many" 381 42 1 3 161 true (q4 161) 385,
 fu "how_many" "how_many" K85.t15 .none (s "manymakes.masks" 332) 166]
noncomputable def c7(P:Params):List Obj:=[tu [],
 fi [],
 tu [s "mask" 391],
 tu [],
 pf "least" "least" K85.t16,
 co "least" "least" 388 44 1 3 168 true (q4 168) 392,
 fu "least" "least" K85.t16 .none (s "manymakes.masks" 332) 173,
 tu [],
 fi [],
 tu (us Yz 398),
 tu [],
 pf "with_on" "with_on" K85.t17,
 co "with_on" "with_on" 395 48 3 3 175 true (q4 175) 402,
 fu "with_on" "with_on" K85.t17 .none (s "manymakes.masks" 332) 180,
 tu [],
 fi [],
 tu (us Yz 408),
 tu [],
 pf "with_off" "with_off" K85.t18,
 co "with_off" "with_off" 405 51 3 3 182 true (q4 182) 412,
 fu "with_off" "with_off" K85.t18 .none (s "manymakes.masks" 332) 187,
 tu [],
 fi [],
 tu (us ["mask","other"] 418)]
noncomputable def c8(P:Params):List Obj:=[tu [],
 pf "without" "without" K85.t19,
 co "without" "without" 415 54 2 3 189 true (q4 189) 420,
 fu "without" "without" K85.t19 .none (s "manymakes.masks" 332) 194,
 tu [],
 fi [],
 tu (us ["pairs","found","mask","value"] 426),
 tu [],
 pf "all_of" "all_of" K85.t20,
 co "all_of" "all_of" 423 56 1 3 196 true (q4 196) 430,
 fu "all_of" "all_of" K85.t20 .none (s "manymakes.masks" 332) 201,
 tu [],
 fi [],
 pf "kept_pairs" "kept_pairs" K85.t21,
 co "kept_pairs" "kept_pairs" 433 61 2 3 203 true [.none,.none,.none,r 205] 436,
 fu "kept_pairs" "kept_pairs" K85.t21 .none (s "manymakes.masks" 332) 206,
 tu [],
 fi [],
 tu (us ["found","key","mask"] 442),
 tu [],
 pf "add_to" "add_to" K85.t22,
 co "add_to" "add_to" 439 63 3 3 208 true (q4 208) 445,
 fu "add_to" "add_to" K85.t22 .none (s "manymakes.masks" 332) 213,
 tu []]
noncomputable def c9(P:Params):List Obj:=[fi [],
 pf "with_masks" "with_masks" K85.t23,
 co "with_masks" "with_masks" 448 66 1 3 215 true [.none,.none,.none,r 217] 451,
 fu "with_masks" "with_masks" K85.t23 .none (s "manymakes.masks" 332) 218,
 tu (us ["kind","def","set","tell","give","if","else","while","end","num","truth","yes","no","less","same","and","or","not","do","new","of","+","-","*","."] 456),
 tu (us ["+","-","*","less","same","and","or"] 482),
 tu (us ["num","truth"] 490),
 tu [],
 fi [],
 pf "made_of" "made_of" K85.t33,
 co "made_of" "made_of" 503 77 3 3 223 true [.none,.none,.none,r 225] 506,
 fu "made_of" "made_of" K85.t33 .none (s "manymakes.phrases" 454) 226,
 tu [],
 fi [],
 tu [s "word" 512],
 tu [],
 pf "is_name" "is_name" K85.t34,
 co "is_name" "is_name" 509 79 1 3 228 true (q4 228) 513,
 fu "is_name" "is_name" K85.t34 .none (s "manymakes.phrases" 454) 233,
 tu [],
 fi [],
 tu [s "word" 519],
 tu [],
 pf "is_number" "is_number" K85.t35]
noncomputable def ve(P:Params):List Obj:=[co "is_number" "is_number" 516 81 1 3 235 true (q4 235) 520,
 fu "is_number" "is_number" K85.t35 .none (s "manymakes.phrases" 454) 240,
 tu [],
 oc "builtin_function_or_method" [.builtin "type.__prepare__",.type "type"],
 di P [en "__module__" 530 (s "manymakes.phrases" 454),en "__qualname__" 532 (s "Phrase" 531),en "__firstlineno__" 534 (.int 83 533),en "__init__" 543 (r 255),en "ended" 550 (r 262),en "take" 558 (r 269),en "take_name" 566 (r 276),en "take_plain_kind" 574 (r 283),en "take_kind" 582 (r 290),en "take_fields" 591 (r 297),en "take_params" 600 (r 304),en "unlike_names" 606 (r 309),en "take_expr" 616 (r 316),en "take_named" 626 (r 323),en "take_exprs" 635 (r 330),en "__static_attributes__" 639 (r 331)] 16,
 tu [],
 fi [n 85,n 4,r 254,n 90,n 4,r 261,n 93,n 4,r 268,n 100,n 4,r 275,n 106,n 4,r 282,n 112,n 4,r 289,n 118,n 4,r 296,n 125,n 4,r 303,n 132,n 4,r 308,n 137,n 4,r 315,n 154,n 4,r 322,n 162,n 4,r 329],
 co "Phrase" "Phrase" 525 83 0 0 245 false [.none,.none,.none,.none] 528,
 {cls:=.type "frame",slots:=#[some ((r 247)),some ((r 3)),some ((r 244)),none,some ((s "manymakes.phrases" 454)),none,some ((r 0))]},
 tu [],
 fi [],
 tu (us ["self","words","at"] 538),
 tu [],
 pf "__init__" "Phrase.__init__" (Mm.inC K85.t36 0),
 co "__init__" "Phrase.__init__" 535 85 3 3 249 true (q4 249) 541,
 fu "__init__" "Phrase.__init__" (Mm.inC K85.t36 0) .none (s "manymakes.phrases" 454) 254,
 tu [],
 fi [],
 tu [s "self" 547],
 tu [],
 pf "ended" "Phrase.ended" (Mm.inC K85.t36 1),
 co "ended" "Phrase.ended" 544 90 1 3 256 true (q4 256) 548,
 fu "ended" "Phrase.ended" (Mm.inC K85.t36 1) .none (s "manymakes.phrases" 454) 261,
 tu []]
noncomputable def vf(P:Params):List Obj:=[fi [],
 tu (us ["self","word"] 554),
 tu [],
 pf "take" "Phrase.take" (Mm.inC K85.t36 2),
 co "take" "Phrase.take" 551 93 1 3 263 true (q4 263) 556,
 fu "take" "Phrase.take" (Mm.inC K85.t36 2) .none (s "manymakes.phrases" 454) 268,
 tu [],
 fi [],
 tu (us ["self","word"] 562),
 tu [],
 pf "take_name" "Phrase.take_name" (Mm.inC K85.t36 3),
 co "take_name" "Phrase.take_name" 559 100 1 3 270 true (q4 270) 564,
 fu "take_name" "Phrase.take_name" (Mm.inC K85.t36 3) .none (s "manymakes.phrases" 454) 275,
 tu [],
 fi [],
 tu (us ["self","word"] 570),
 tu [],
 pf "take_plain_kind" "Phrase.take_plain_kind" (Mm.inC K85.t36 4),
 co "take_plain_kind" "Phrase.take_plain_kind" 567 106 1 3 277 true (q4 277) 572,
 fu "take_plain_kind" "Phrase.take_plain_kind" (Mm.inC K85.t36 4) .none (s "manymakes.phrases" 454) 282,
 tu [],
 fi [],
 tu (us ["self","word"] 578),
 tu []]
noncomputable def vg(P:Params):List Obj:=[pf "take_kind" "Phrase.take_kind" (Mm.inC K85.t36 5),
 co "take_kind" "Phrase.take_kind" 575 112 1 3 284 true (q4 284) 580,
 fu "take_kind" "Phrase.take_kind" (Mm.inC K85.t36 5) .none (s "manymakes.phrases" 454) 289,
 tu [],
 fi [],
 tu (us ["self","pairs","name"] 586),
 tu [],
 pf "take_fields" "Phrase.take_fields" (Mm.inC K85.t36 6),
 co "take_fields" "Phrase.take_fields" 583 118 1 3 291 true (q4 291) 589,
 fu "take_fields" "Phrase.take_fields" (Mm.inC K85.t36 6) .none (s "manymakes.phrases" 454) 296,
 tu [],
 fi [],
 tu (us ["self","pairs","name"] 595),
 tu [],
 pf "take_params" "Phrase.take_params" (Mm.inC K85.t36 7),
 co "take_params" "Phrase.take_params" 592 125 1 3 298 true (q4 298) 598,
 fu "take_params" "Phrase.take_params" (Mm.inC K85.t36 7) .none (s "manymakes.phrases" 454) 303,
 tu [],
 fi [],
 pf "unlike_names" "Phrase.unlike_names" (Mm.inC K85.t36 8),
 co "unlike_names" "Phrase.unlike_names" 601 132 2 3 305 true [.none,.none,.none,r 307] 604,
 fu "unlike_names" "Phrase.unlike_names" (Mm.inC K85.t36 8) .none (s "manymakes.phrases" 454) 308,
 tu [],
 fi []]
noncomputable def vh(P:Params):List Obj:=[tu (us ["self","deep","word","left"] 610),
 tu [],
 pf "take_expr" "Phrase.take_expr" (Mm.inC K85.t36 9),
 co "take_expr" "Phrase.take_expr" 607 137 2 3 310 true (q4 310) 614,
 fu "take_expr" "Phrase.take_expr" (Mm.inC K85.t36 9) .none (s "manymakes.phrases" 454) 315,
 tu [],
 fi [],
 tu (us ["self","word","deep","name"] 620),
 tu [],
 pf "take_named" "Phrase.take_named" (Mm.inC K85.t36 10),
 co "take_named" "Phrase.take_named" 617 154 3 3 317 true (q4 317) 624,
 fu "take_named" "Phrase.take_named" (Mm.inC K85.t36 10) .none (s "manymakes.phrases" 454) 322,
 tu [],
 fi [],
 tu (us ["self","deep","found"] 630),
 tu [],
 pf "take_exprs" "Phrase.take_exprs" (Mm.inC K85.t36 11),
 co "take_exprs" "Phrase.take_exprs" 627 162 2 3 324 true (q4 324) 633,
 fu "take_exprs" "Phrase.take_exprs" (Mm.inC K85.t36 11) .none (s "manymakes.phrases" 454) 329,
 tu (us ["at","place","words"] 636),
 di P [en "__module__" 530 (s "manymakes.phrases" 454),en "__firstlineno__" 534 (.int 83 533),en "__init__" 543 (r 255),en "ended" 550 (r 262),en "take" 558 (r 269),en "take_name" 566 (r 276),en "take_plain_kind" 574 (r 283),en "take_kind" 582 (r 290),en "take_fields" 591 (r 297),en "take_params" 600 (r 304),en "unlike_names" 606 (r 309),en "take_expr" 616 (r 316),en "take_named" 626 (r 323),en "take_exprs" 635 (r 330),en "__static_attributes__" 639 (r 331),en "__dict__" 641 (r 334),en "__weakref__" 643 (r 335),en "__doc__" 644 .none] 4,
 {cls:=.type "type",data:=Data.cls {name:="Phrase",bases:=[.type "object"],mro:=[(r 333),.type "object"],ns:=332,qualname:="Phrase" },slots:=#[none,none,some ((s "Phrase" 523)),some ((s "Phrase" 531)),some (.builtin "object.__new__"),some (.bool true)]},
 oc "getset_descriptor" [s "__dict__" 640,r 333,.builtin "function.__dict__",.builtin "function.__dict__#set"],
 oc "getset_descriptor" [s "__weakref__" 642,r 333,.builtin "ExceptionGroup.__weakref__",.none]]
noncomputable def vi(P:Params):List Obj:=[oc "super" [r 333,r 333,r 333],
 oc "builtin_function_or_method" [.builtin "object.__init_subclass__",r 333],
 tu [],
 fi [],
 tu (us ["words","at","phrase","head"] 650),
 tu [],
 pf "read_row" "read_row" K85.t37,
 co "read_row" "read_row" 647 168 2 3 338 true (q4 338) 654,
 fu "read_row" "read_row" K85.t37 .none (s "manymakes.phrases" 454) 343,
 tu [],
 fi [],
 tu (us ["phrase","word","at","name","kind"] 660),
 tu [],
 pf "read_head" "read_head" K85.t38,
 co "read_head" "read_head" 657 176 2 3 345 true (q4 345) 665,
 fu "read_head" "read_head" K85.t38 .none (s "manymakes.phrases" 454) 350,
 tu [],
 oc "builtin_function_or_method" [.builtin "type.__prepare__",.type "type"],
 di P [en "__module__" 679 (s "manymakes.plainread" 668),en "__qualname__" 681 (s "Block" 680),en "__firstlineno__" 683 (.int 193 682),en "__init__" 693 (r 365),en "__static_attributes__" 697 (r 366)] 5,
 tu [],
 fi [n 195,n 4,r 364],
 co "Block" "Block" 674 193 0 0 355 false [.none,.none,.none,.none] 677,
 {cls:=.type "frame",slots:=#[some ((r 357)),some ((r 3)),some ((r 354)),none,some ((s "manymakes.plainread" 668)),none,some ((r 0))]},
 tu []]
noncomputable def vj(P:Params):List Obj:=[fi [],
 tu (us ["self","word","body","other"] 687),
 tu [],
 pf "__init__" "Block.__init__" (Mm.inC K85.t41 0),
 co "__init__" "Block.__init__" 684 195 4 3 359 true (q4 359) 691,
 fu "__init__" "Block.__init__" (Mm.inC K85.t41 0) .none (s "manymakes.plainread" 668) 364,
 tu (us ["body","other","word"] 694),
 di P [en "__module__" 679 (s "manymakes.plainread" 668),en "__firstlineno__" 683 (.int 193 682),en "__init__" 693 (r 365),en "__static_attributes__" 697 (r 366),en "__dict__" 699 (r 369),en "__weakref__" 701 (r 370),en "__doc__" 702 .none] 4,
 {cls:=.type "type",data:=Data.cls {name:="Block",bases:=[.type "object"],mro:=[(r 368),.type "object"],ns:=367,qualname:="Block" },slots:=#[none,none,some ((s "Block" 672)),some ((s "Block" 680)),some (.builtin "object.__new__"),some (.bool true)]},
 oc "getset_descriptor" [s "__dict__" 698,r 368,.builtin "function.__dict__",.builtin "function.__dict__#set"],
 oc "getset_descriptor" [s "__weakref__" 700,r 368,.builtin "ExceptionGroup.__weakref__",.none],
 oc "super" [r 368,r 368,r 368],
 oc "builtin_function_or_method" [.builtin "object.__init_subclass__",r 368],
 tu [],
 fi [],
 pf "read_plain" "read_plain" K85.t42,
 co "read_plain" "read_plain" 705 199 1 3 373 true [.none,.none,.none,r 375] 708,
 fu "read_plain" "read_plain" K85.t42 .none (s "manymakes.plainread" 668) 376,
 tu [],
 fi [],
 tu (us ["word","within"] 714),
 tu [],
 pf "place_fault" "place_fault" K85.t43,
 co "place_fault" "place_fault" 711 212 2 3 378 true (q4 378) 716]
noncomputable def vk(P:Params):List Obj:=[fu "place_fault" "place_fault" K85.t43 .none (s "manymakes.plainread" 668) 383,
 tu [],
 fi [],
 tu (us ["word","within"] 722),
 tu [],
 pf "is_misplaced" "is_misplaced" K85.t44,
 co "is_misplaced" "is_misplaced" 719 218 2 3 385 true (q4 385) 724,
 fu "is_misplaced" "is_misplaced" K85.t44 .none (s "manymakes.plainread" 668) 390,
 tu [],
 fi [],
 tu (us ["word","within"] 730),
 tu [],
 pf "is_stray" "is_stray" K85.t45,
 co "is_stray" "is_stray" 727 224 2 3 392 true (q4 392) 732,
 fu "is_stray" "is_stray" K85.t45 .none (s "manymakes.plainread" 668) 397,
 tu [],
 fi [],
 tu (us ["head","tree","blocks","word","block","body"] 738),
 tu [],
 pf "put_in" "put_in" K85.t46,
 co "put_in" "put_in" 735 228 3 3 399 true (q4 399) 744,
 fu "put_in" "put_in" K85.t46 .none (s "manymakes.plainread" 668) 404,
 tu [],
 fi []]
noncomputable def vm(P:Params):List Obj:=[tu (us ["head","blocks","word","then","other","body"] 750),
 tu [],
 pf "begun" "begun" K85.t47,
 co "begun" "begun" 747 239 2 3 406 true (q4 406) 756,
 fu "begun" "begun" K85.t47 .none (s "manymakes.plainread" 668) 411,
 tu [],
 fi [],
 pf "kept_tree" "kept_tree" K85.t49,
 co "kept_tree" "kept_tree" 761 252 2 3 413 true [.none,.none,.none,r 415] 764,
 fu "kept_tree" "kept_tree" K85.t49 .none (s "manymakes.cutting" 759) 416,
 tu [],
 fi [],
 pf "kept_statement" "kept_statement" K85.t50,
 co "kept_statement" "kept_statement" 767 255 2 3 418 true [.none,.none,.none,r 420] 770,
 fu "kept_statement" "kept_statement" K85.t50 .none (s "manymakes.cutting" 759) 421,
 tu [],
 fi [],
 tu [s "pair" 776],
 tu [],
 pf "row_and_least" "row_and_least" K85.t51,
 co "row_and_least" "row_and_least" 773 257 1 3 423 true (q4 423) 777,
 fu "row_and_least" "row_and_least" K85.t51 .none (s "manymakes.cutting" 759) 428,
 tu [],
 fi []]
noncomputable def vn(P:Params):List Obj:=[pf "blocks_of" "blocks_of" K85.t52,
 co "blocks_of" "blocks_of" 780 259 1 3 430 true [.none,.none,.none,r 432] 783,
 fu "blocks_of" "blocks_of" K85.t52 .none (s "manymakes.cutting" 759) 433,
 tu [],
 oc "builtin_function_or_method" [.builtin "type.__prepare__",.type "type"],
 di P [en "__module__" 795 (s "manymakes.names" 786),en "__qualname__" 797 (s "NameLook" 796),en "__firstlineno__" 799 (.int 262 798),en "__init__" 807 (r 448),en "note" 818 (r 455),en "look_twice" 829 (r 462),en "look_body" 841 (r 469),en "look_def" 847 (r 474),en "look_expr" 859 (r 481),en "look_use" 874 (r 488),en "held" 883 (r 495),en "__static_attributes__" 886 (r 496)] 12,
 tu [],
 fi [n 264,n 4,r 447,n 268,n 4,r 454,n 271,n 4,r 461,n 278,n 4,r 468,n 289,n 4,r 473,n 295,n 4,r 480,n 305,n 4,r 487,n 312,n 4,r 494],
 co "NameLook" "NameLook" 790 262 0 0 438 false [.none,.none,.none,.none] 793,
 {cls:=.type "frame",slots:=#[some ((r 440)),some ((r 3)),some ((r 437)),none,some ((s "manymakes.names" 786)),none,some ((r 0))]},
 tu [],
 fi [],
 tu (us ["self","tree"] 803),
 tu [],
 pf "__init__" "NameLook.__init__" (Mm.inC K85.t54 0),
 co "__init__" "NameLook.__init__" 800 264 2 3 442 true (q4 442) 805,
 fu "__init__" "NameLook.__init__" (Mm.inC K85.t54 0) .none (s "manymakes.names" 786) 447,
 tu [],
 fi [],
 tu (us ["self","mask","at","what","name"] 811),
 tu [],
 pf "note" "NameLook.note" (Mm.inC K85.t54 1),
 co "note" "NameLook.note" 808 268 5 3 449 true (q4 449) 816,
 fu "note" "NameLook.note" (Mm.inC K85.t54 1) .none (s "manymakes.names" 786) 454]
noncomputable def vo(P:Params):List Obj:=[tu [],
 fi [],
 tu (us ["self","tree","above","mask","one"] 822),
 tu [],
 pf "look_twice" "NameLook.look_twice" (Mm.inC K85.t54 2),
 co "look_twice" "NameLook.look_twice" 819 271 2 3 456 true (q4 456) 827,
 fu "look_twice" "NameLook.look_twice" (Mm.inC K85.t54 2) .none (s "manymakes.names" 786) 461,
 tu [],
 fi [],
 tu (us ["self","statements","given","mask","one","block"] 833),
 tu [],
 pf "look_body" "NameLook.look_body" (Mm.inC K85.t54 3),
 co "look_body" "NameLook.look_body" 830 278 3 3 463 true (q4 463) 839,
 fu "look_body" "NameLook.look_body" (Mm.inC K85.t54 3) .none (s "manymakes.names" 786) 468,
 tu [],
 fi [],
 pf "look_def" "NameLook.look_def" (Mm.inC K85.t54 4),
 co "look_def" "NameLook.look_def" 842 289 3 3 470 true [.none,.none,.none,r 472] 845,
 fu "look_def" "NameLook.look_def" (Mm.inC K85.t54 4) .none (s "manymakes.names" 786) 473,
 tu [],
 fi [],
 tu (us ["self","mask","e","at","given","inner"] 851),
 tu [],
 pf "look_expr" "NameLook.look_expr" (Mm.inC K85.t54 5)]
noncomputable def vp(P:Params):List Obj:=[co "look_expr" "NameLook.look_expr" 848 295 5 3 475 true (q4 475) 857,
 fu "look_expr" "NameLook.look_expr" (Mm.inC K85.t54 5) .none (s "manymakes.names" 786) 480,
 tu [],
 fi [],
 tu (us ["self","mask","e","at","word","missing","name","here","one"] 863),
 tu [],
 pf "look_use" "NameLook.look_use" (Mm.inC K85.t54 6),
 co "look_use" "NameLook.look_use" 860 305 6 3 482 true (q4 482) 872,
 fu "look_use" "NameLook.look_use" (Mm.inC K85.t54 6) .none (s "manymakes.names" 786) 487,
 tu [],
 fi [],
 tu (us ["self","word","name"] 878),
 tu [],
 pf "held" "NameLook.held" (Mm.inC K85.t54 7),
 co "held" "NameLook.held" 875 312 3 3 489 true (q4 489) 881,
 fu "held" "NameLook.held" (Mm.inC K85.t54 7) .none (s "manymakes.names" 786) 494,
 tu (us ["faults","firsts"] 884),
 di P [en "__module__" 795 (s "manymakes.names" 786),en "__firstlineno__" 799 (.int 262 798),en "__init__" 807 (r 448),en "note" 818 (r 455),en "look_twice" 829 (r 462),en "look_body" 841 (r 469),en "look_def" 847 (r 474),en "look_expr" 859 (r 481),en "look_use" 874 (r 488),en "held" 883 (r 495),en "__static_attributes__" 886 (r 496),en "__dict__" 888 (r 499),en "__weakref__" 890 (r 500),en "__doc__" 891 .none] 4,
 {cls:=.type "type",data:=Data.cls {name:="NameLook",bases:=[.type "object"],mro:=[(r 498),.type "object"],ns:=497,qualname:="NameLook" },slots:=#[none,none,some ((s "NameLook" 788)),some ((s "NameLook" 796)),some (.builtin "object.__new__"),some (.bool true)]},
 oc "getset_descriptor" [s "__dict__" 887,r 498,.builtin "function.__dict__",.builtin "function.__dict__#set"],
 oc "getset_descriptor" [s "__weakref__" 889,r 498,.builtin "ExceptionGroup.__weakref__",.none],
 oc "super" [r 498,r 498,r 498],
 oc "builtin_function_or_method" [.builtin "object.__init_subclass__",r 498],
 tu []]
noncomputable def vq(P:Params):List Obj:=[fi [],
 tu (us ["tree","found","mask","one","key","rows"] 897),
 tu [],
 pf "first_rows" "first_rows" K85.t55,
 co "first_rows" "first_rows" 894 314 1 3 503 true (q4 503) 903,
 fu "first_rows" "first_rows" K85.t55 .none (s "manymakes.names" 786) 508,
 tu [],
 fi [],
 tu [s "one" 909],
 tu [],
 pf "pairs_of" "pairs_of" K85.t56,
 co "pairs_of" "pairs_of" 906 322 1 3 510 true (q4 510) 910,
 fu "pairs_of" "pairs_of" K85.t56 .none (s "manymakes.names" 786) 515,
 tu [],
 fi [],
 tu [s "one" 916],
 tu [],
 pf "expr_of" "expr_of" K85.t57,
 co "expr_of" "expr_of" 913 324 1 3 517 true (q4 517) 917,
 fu "expr_of" "expr_of" K85.t57 .none (s "manymakes.names" 786) 522,
 tu [],
 fi [],
 tu [s "e" 923],
 tu []]
noncomputable def vt(P:Params):List Obj:=[pf "exprs_in" "exprs_in" K85.t58,
 co "exprs_in" "exprs_in" 920 326 1 3 524 true (q4 524) 924,
 fu "exprs_in" "exprs_in" K85.t58 .none (s "manymakes.names" 786) 529,
 tu [],
 fi [],
 tu (us ["tree","mask","kept","look"] 930),
 tu [],
 pf "shared_names" "shared_names" K85.t59,
 co "shared_names" "shared_names" 927 334 2 3 531 true (q4 531) 934,
 fu "shared_names" "shared_names" K85.t59 .none (s "manymakes.names" 786) 536,
 tu [.type "Exception"],
 oc "builtin_function_or_method" [.builtin "type.__prepare__",.type "type"],
 di P [en "__module__" 950 (s "manymakes.plainrun" 937),en "__qualname__" 952 (s "RunEnd" 951),en "__firstlineno__" 954 (.int 343 953),en "__init__" 962 (r 551),en "__static_attributes__" 964 (r 552)] 5,
 tu [],
 fi [n 345,n 4,r 550],
 co "RunEnd" "RunEnd" 945 343 0 0 541 false [.none,.none,.none,.none] 948,
 {cls:=.type "frame",slots:=#[some ((r 543)),some ((r 3)),some ((r 540)),none,some ((s "manymakes.plainrun" 937)),none,some ((r 0))]},
 tu [],
 fi [],
 tu (us ["self","outcome"] 958),
 tu [],
 pf "__init__" "RunEnd.__init__" (Mm.inC K85.t63 0),
 co "__init__" "RunEnd.__init__" 955 345 2 3 545 true (q4 545) 960,
 fu "__init__" "RunEnd.__init__" (Mm.inC K85.t63 0) .none (s "manymakes.plainrun" 937) 550]
noncomputable def vv(P:Params):List Obj:=[tu [s "outcome" 963],
 di P [en "__module__" 950 (s "manymakes.plainrun" 937),en "__firstlineno__" 954 (.int 343 953),en "__init__" 962 (r 551),en "__static_attributes__" 964 (r 552),en "__weakref__" 966 (r 555),en "__doc__" 967 .none] 3,
 {cls:=.type "type",data:=Data.cls {name:="RunEnd",bases:=[.type "Exception"],mro:=[(r 554),.type "Exception",.type "BaseException",.type "object"],ns:=553,qualname:="RunEnd" },slots:=#[some ((r 538)),none,some ((s "RunEnd" 943)),some ((s "RunEnd" 951)),some (.builtin "Exception.__new__"),some (.bool true)]},
 oc "getset_descriptor" [s "__weakref__" 965,r 554,.builtin "ExceptionGroup.__weakref__",.none],
 oc "super" [r 554,r 554,r 554],
 oc "builtin_function_or_method" [.builtin "object.__init_subclass__",r 554],
 tu [],
 oc "builtin_function_or_method" [.builtin "type.__prepare__",.type "type"],
 di P [en "__module__" 979 (s "manymakes.plainrun" 937),en "__qualname__" 981 (s "PlainRun" 980),en "__firstlineno__" 983 (.int 347 982),en "__init__" 992 (r 571),en "run_rows" 1004 (r 578),en "run_row" 1016 (r 585),en "run_while" 1027 (r 592),en "step" 1037 (r 599),en "value_of" 1050 (r 606),en "given_by" 1056 (r 611),en "__static_attributes__" 1061 (r 612)] 11,
 tu [],
 fi [n 349,n 4,r 570,n 355,n 4,r 577,n 362,n 4,r 584,n 379,n 4,r 591,n 386,n 4,r 598,n 392,n 4,r 605,n 411,n 4,r 610],
 co "PlainRun" "PlainRun" 974 347 0 0 561 false [.none,.none,.none,.none] 977,
 {cls:=.type "frame",slots:=#[some ((r 563)),some ((r 3)),some ((r 560)),none,some ((s "manymakes.plainrun" 937)),none,some ((r 0))]},
 tu [],
 fi [],
 tu (us ["self","tree","most"] 987),
 tu [],
 pf "__init__" "PlainRun.__init__" (Mm.inC K85.t64 0),
 co "__init__" "PlainRun.__init__" 984 349 3 3 565 true (q4 565) 990,
 fu "__init__" "PlainRun.__init__" (Mm.inC K85.t64 0) .none (s "manymakes.plainrun" 937) 570,
 tu [],
 fi [],
 tu (us ["self","statements","names","depth","one","given"] 996),
 tu []]
noncomputable def vx(P:Params):List Obj:=[pf "run_rows" "PlainRun.run_rows" (Mm.inC K85.t64 1),
 co "run_rows" "PlainRun.run_rows" 993 355 4 3 572 true (q4 572) 1002,
 fu "run_rows" "PlainRun.run_rows" (Mm.inC K85.t64 1) .none (s "manymakes.plainrun" 937) 577,
 tu [],
 fi [],
 tu (us ["self","one","names","depth","word","value"] 1008),
 tu [],
 pf "run_row" "PlainRun.run_row" (Mm.inC K85.t64 2),
 co "run_row" "PlainRun.run_row" 1005 362 4 3 579 true (q4 579) 1014,
 fu "run_row" "PlainRun.run_row" (Mm.inC K85.t64 2) .none (s "manymakes.plainrun" 937) 584,
 tu [],
 fi [],
 tu (us ["self","one","names","depth","given"] 1020),
 tu [],
 pf "run_while" "PlainRun.run_while" (Mm.inC K85.t64 3),
 co "run_while" "PlainRun.run_while" 1017 379 4 3 586 true (q4 586) 1025,
 fu "run_while" "PlainRun.run_while" (Mm.inC K85.t64 3) .none (s "manymakes.plainrun" 937) 591,
 tu [],
 fi [],
 tu (us ["self","one","names","depth"] 1031),
 tu [],
 pf "step" "PlainRun.step" (Mm.inC K85.t64 4),
 co "step" "PlainRun.step" 1028 386 4 3 593 true (q4 593) 1035,
 fu "step" "PlainRun.step" (Mm.inC K85.t64 4) .none (s "manymakes.plainrun" 937) 598]
noncomputable def vy(P:Params):List Obj:=[tu [],
 fi [],
 tu (us ["self","e","names","depth","word","values","inner"] 1041),
 tu [],
 pf "value_of" "PlainRun.value_of" (Mm.inC K85.t64 5),
 co "value_of" "PlainRun.value_of" 1038 392 4 3 600 true (q4 600) 1048,
 fu "value_of" "PlainRun.value_of" (Mm.inC K85.t64 5) .none (s "manymakes.plainrun" 937) 605,
 tu [],
 fi [],
 pf "given_by" "PlainRun.given_by" (Mm.inC K85.t64 6),
 co "given_by" "PlainRun.given_by" 1051 411 4 3 607 true [.none,.none,.none,r 609] 1054,
 fu "given_by" "PlainRun.given_by" (Mm.inC K85.t64 6) .none (s "manymakes.plainrun" 937) 610,
 tu (us ["firsts","log","most","told"] 1057),
 di P [en "__module__" 979 (s "manymakes.plainrun" 937),en "__firstlineno__" 983 (.int 347 982),en "__init__" 992 (r 571),en "run_rows" 1004 (r 578),en "run_row" 1016 (r 585),en "run_while" 1027 (r 592),en "step" 1037 (r 599),en "value_of" 1050 (r 606),en "given_by" 1056 (r 611),en "__static_attributes__" 1061 (r 612),en "__dict__" 1063 (r 615),en "__weakref__" 1065 (r 616),en "__doc__" 1066 .none] 4,
 {cls:=.type "type",data:=Data.cls {name:="PlainRun",bases:=[.type "object"],mro:=[(r 614),.type "object"],ns:=613,qualname:="PlainRun" },slots:=#[none,none,some ((s "PlainRun" 972)),some ((s "PlainRun" 980)),some (.builtin "object.__new__"),some (.bool true)]},
 oc "getset_descriptor" [s "__dict__" 1062,r 614,.builtin "function.__dict__",.builtin "function.__dict__#set"],
 oc "getset_descriptor" [s "__weakref__" 1064,r 614,.builtin "ExceptionGroup.__weakref__",.none],
 oc "super" [r 614,r 614,r 614],
 oc "builtin_function_or_method" [.builtin "object.__init_subclass__",r 614],
 tu [],
 fi [],
 tu (us ["tree","found","one"] 1072),
 tu [],
 pf "first_ones" "first_ones" K85.t65]
noncomputable def vz(P:Params):List Obj:=[co "first_ones" "first_ones" 1069 416 1 3 619 true (q4 619) 1075,
 fu "first_ones" "first_ones" K85.t65 .none (s "manymakes.plainrun" 937) 624,
 tu [],
 fi [],
 pf "field_value" "field_value" K85.t66,
 co "field_value" "field_value" 1078 422 3 3 626 true [.none,.none,.none,r 628] 1081,
 fu "field_value" "field_value" K85.t66 .none (s "manymakes.plainrun" 937) 629,
 tu [],
 fi [],
 tu (us ["word","values","left","right"] 1087),
 tu [],
 pf "reckoned" "reckoned" K85.t67,
 co "reckoned" "reckoned" 1084 424 2 3 631 true (q4 631) 1091,
 fu "reckoned" "reckoned" K85.t67 .none (s "manymakes.plainrun" 937) 636,
 tu [],
 fi [],
 tu [s "so" 1098],
 tu [],
 pf "truth_text" "truth_text" K85.t69,
 co "truth_text" "truth_text" 1095 443 1 3 638 true (q4 638) 1099,
 fu "truth_text" "truth_text" K85.t69 .none (s "manymakes.plainrun" 937) 643,
 tu [],
 fi [],
 tu (us ["tree","most","run","e"] 1105)]
noncomputable def vA(P:Params):List Obj:=[tu [],
 pf "run_plain" "run_plain" K85.t70,
 co "run_plain" "run_plain" 1102 445 2 3 645 true (q4 645) 1109,
 fu "run_plain" "run_plain" K85.t70 .none (s "manymakes.plainrun" 937) 650,
 di P [en "num" 1114 (s "num" 1115),en "truth" 1116 (s "truth" 1117),en "+" 1118 (s "num" 1119),en "-" 1120 (s "num" 1121),en "*" 1122 (s "num" 1123),en "less" 1124 (s "truth" 1125),en "same" 1126 (s "truth" 1127),en "and" 1128 (s "truth" 1129),en "or" 1130 (s "truth" 1131),en "not" 1132 (s "truth" 1133)] 10,
 di P [en "+" 1145 (s "num" 1146),en "-" 1147 (s "num" 1148),en "*" 1149 (s "num" 1150),en "less" 1151 (s "num" 1152),en "same" 1153 (s "num" 1154),en "and" 1155 (s "truth" 1156),en "or" 1157 (s "truth" 1158),en "not" 1159 (s "truth" 1160)] 8,
 tu [],
 oc "builtin_function_or_method" [.builtin "type.__prepare__",.type "type"],
 di P [en "__module__" 1177 (s "manymakes.kinds" 1112),en "__qualname__" 1179 (s "KindLook" 1178),en "__firstlineno__" 1181 (.int 455 1180),en "__init__" 1189 (r 667),en "note" 1199 (r 674),en "look_body" 1212 (r 681),en "look_def" 1218 (r 686),en "look_row" 1224 (r 691),en "look_set" 1237 (r 698),en "ask" 1249 (r 705),en "kinds_of" 1255 (r 710),en "used_rows" 1272 (r 717),en "field_kinds" 1278 (r 722),en "__static_attributes__" 1281 (r 723)] 14,
 tu [],
 fi [n 457,n 4,r 666,n 461,n 4,r 673,n 464,n 4,r 680,n 473,n 4,r 685,n 477,n 4,r 690,n 488,n 4,r 697,n 495,n 4,r 704,n 498,n 4,r 709,n 516,n 4,r 716,n 523,n 4,r 721],
 co "KindLook" "KindLook" 1172 455 0 0 657 false [.none,.none,.none,.none] 1175,
 {cls:=.type "frame",slots:=#[some ((r 659)),some ((r 3)),some ((r 656)),none,some ((s "manymakes.kinds" 1112)),none,some ((r 0))]},
 tu [],
 fi [],
 tu (us ["self","tree"] 1185),
 tu [],
 pf "__init__" "KindLook.__init__" (Mm.inC K85.t74 0),
 co "__init__" "KindLook.__init__" 1182 457 2 3 661 true (q4 661) 1187,
 fu "__init__" "KindLook.__init__" (Mm.inC K85.t74 0) .none (s "manymakes.kinds" 1112) 666,
 tu [],
 fi [],
 tu (us ["self","mask","at","what"] 1193),
 tu []]
noncomputable def vB(P:Params):List Obj:=[pf "note" "KindLook.note" (Mm.inC K85.t74 1),
 co "note" "KindLook.note" 1190 461 4 3 668 true (q4 668) 1197,
 fu "note" "KindLook.note" (Mm.inC K85.t74 1) .none (s "manymakes.kinds" 1112) 673,
 tu [],
 fi [],
 tu (us ["self","statements","names","due","mask","one","block"] 1203),
 tu [],
 pf "look_body" "KindLook.look_body" (Mm.inC K85.t74 2),
 co "look_body" "KindLook.look_body" 1200 464 4 3 675 true (q4 675) 1210,
 fu "look_body" "KindLook.look_body" (Mm.inC K85.t74 2) .none (s "manymakes.kinds" 1112) 680,
 tu [],
 fi [],
 pf "look_def" "KindLook.look_def" (Mm.inC K85.t74 3),
 co "look_def" "KindLook.look_def" 1213 473 3 3 682 true [.none,.none,.none,r 684] 1216,
 fu "look_def" "KindLook.look_def" (Mm.inC K85.t74 3) .none (s "manymakes.kinds" 1112) 685,
 tu [],
 fi [],
 pf "look_row" "KindLook.look_row" (Mm.inC K85.t74 4),
 co "look_row" "KindLook.look_row" 1219 477 5 3 687 true [.none,.none,.none,r 689] 1222,
 fu "look_row" "KindLook.look_row" (Mm.inC K85.t74 4) .none (s "manymakes.kinds" 1112) 690,
 tu [],
 fi [],
 tu (us ["self","one","kinds","names","known","mask","kind"] 1228),
 tu []]
noncomputable def vC(P:Params):List Obj:=[pf "look_set" "KindLook.look_set" (Mm.inC K85.t74 5),
 co "look_set" "KindLook.look_set" 1225 488 4 3 692 true (q4 692) 1235,
 fu "look_set" "KindLook.look_set" (Mm.inC K85.t74 5) .none (s "manymakes.kinds" 1112) 697,
 tu [],
 fi [],
 tu (us ["self","mask","e","due","at","names"] 1241),
 tu [],
 pf "ask" "KindLook.ask" (Mm.inC K85.t74 6),
 co "ask" "KindLook.ask" 1238 495 6 3 699 true (q4 699) 1247,
 fu "ask" "KindLook.ask" (Mm.inC K85.t74 6) .none (s "manymakes.kinds" 1112) 704,
 tu [],
 fi [],
 pf "kinds_of" "KindLook.kinds_of" (Mm.inC K85.t74 7),
 co "kinds_of" "KindLook.kinds_of" 1250 498 5 3 706 true [.none,.none,.none,r 708] 1253,
 fu "kinds_of" "KindLook.kinds_of" (Mm.inC K85.t74 7) .none (s "manymakes.kinds" 1112) 709,
 tu [],
 fi [],
 tu (us ["self","mask","e","word","at","names","rows","here","one","inner","pair"] 1259),
 tu [],
 pf "used_rows" "KindLook.used_rows" (Mm.inC K85.t74 8),
 co "used_rows" "KindLook.used_rows" 1256 516 6 3 711 true (q4 711) 1270,
 fu "used_rows" "KindLook.used_rows" (Mm.inC K85.t74 8) .none (s "manymakes.kinds" 1112) 716,
 tu [],
 fi []]
noncomputable def vD(P:Params):List Obj:=[pf "field_kinds" "KindLook.field_kinds" (Mm.inC K85.t74 9),
 co "field_kinds" "KindLook.field_kinds" 1273 523 5 3 718 true [.none,.none,.none,r 720] 1276,
 fu "field_kinds" "KindLook.field_kinds" (Mm.inC K85.t74 9) .none (s "manymakes.kinds" 1112) 721,
 tu (us ["faults","firsts"] 1279),
 di P [en "__module__" 1177 (s "manymakes.kinds" 1112),en "__firstlineno__" 1181 (.int 455 1180),en "__init__" 1189 (r 667),en "note" 1199 (r 674),en "look_body" 1212 (r 681),en "look_def" 1218 (r 686),en "look_row" 1224 (r 691),en "look_set" 1237 (r 698),en "ask" 1249 (r 705),en "kinds_of" 1255 (r 710),en "used_rows" 1272 (r 717),en "field_kinds" 1278 (r 722),en "__static_attributes__" 1281 (r 723),en "__dict__" 1283 (r 726),en "__weakref__" 1285 (r 727),en "__doc__" 1286 .none] 4,
 {cls:=.type "type",data:=Data.cls {name:="KindLook",bases:=[.type "object"],mro:=[(r 725),.type "object"],ns:=724,qualname:="KindLook" },slots:=#[none,none,some ((s "KindLook" 1170)),some ((s "KindLook" 1178)),some (.builtin "object.__new__"),some (.bool true)]},
 oc "getset_descriptor" [s "__dict__" 1282,r 725,.builtin "function.__dict__",.builtin "function.__dict__#set"],
 oc "getset_descriptor" [s "__weakref__" 1284,r 725,.builtin "ExceptionGroup.__weakref__",.none],
 oc "super" [r 725,r 725,r 725],
 oc "builtin_function_or_method" [.builtin "object.__init_subclass__",r 725],
 tu [],
 fi [],
 pf "unfit" "unfit" K85.t75,
 co "unfit" "unfit" 1289 531 2 3 730 true [.none,.none,.none,r 732] 1292,
 fu "unfit" "unfit" K85.t75 .none (s "manymakes.kinds" 1112) 733,
 tu [],
 fi [],
 tu [s "kind" 1298],
 tu [],
 pf "is_record" "is_record" K85.t76,
 co "is_record" "is_record" 1295 533 1 3 735 true (q4 735) 1299,
 fu "is_record" "is_record" K85.t76 .none (s "manymakes.kinds" 1112) 740,
 tu [],
 fi []]
noncomputable def vE(P:Params):List Obj:=[tu (us ["body","found","mask","one"] 1305),
 tu [],
 pf "giving" "giving" K85.t77,
 co "giving" "giving" 1302 535 1 3 742 true (q4 742) 1309,
 fu "giving" "giving" K85.t77 .none (s "manymakes.kinds" 1112) 747,
 tu [],
 fi [],
 tu (us ["tree","mask","kept","look"] 1315),
 tu [],
 pf "shared_kinds" "shared_kinds" K85.t78,
 co "shared_kinds" "shared_kinds" 1312 543 2 3 749 true (q4 749) 1319,
 fu "shared_kinds" "shared_kinds" K85.t78 .none (s "manymakes.kinds" 1112) 754,
 di P [en "!" 1326 (.int 1 1327),en "&" 1328 (.int 2 1329),en "|" 1330 (.int 2 1331),en "^" 1332 (.int 2 1333),en "?" 1334 (.int 3 1335)] 5,
 tu [],
 fi [],
 tu (us ["text","n"] 1345),
 tu [],
 pf "read_wish" "read_wish" K85.t82,
 co "read_wish" "read_wish" 1342 551 2 3 757 true (q4 757) 1347,
 fu "read_wish" "read_wish" K85.t82 .none (s "manymakes.wishes" 1322) 762,
 tu [],
 fi [],
 pf "mask_of_text" "mask_of_text" K85.t83,
 co "mask_of_text" "mask_of_text" 1350 553 2 3 764 true [.none,.none,.none,r 766] 1353]
noncomputable def vF(P:Params):List Obj:=[fu "mask_of_text" "mask_of_text" K85.t83 .none (s "manymakes.wishes" 1322) 767,
 tu [],
 fi [],
 tu (us Yp 1359),
 tu [],
 pf "reckoned" "reckoned" K85.t84,
 co "reckoned" "reckoned" 1356 555 3 3 769 true (q4 769) 1366,
 fu "reckoned" "reckoned" K85.t84 .none (s "manymakes.wishes" 1322) 774,
 tu [],
 fi [],
 tu (us ["found","many","parts","k"] 1373),
 tu [],
 pf "taken" "taken" K85.t86,
 co "taken" "taken" 1370 573 2 3 776 true (q4 776) 1377,
 fu "taken" "taken" K85.t86 .none (s "manymakes.wishes" 1322) 781,
 tu [],
 fi [],
 tu (us ["sign","switches","full","k"] 1383),
 tu [],
 pf "value_of" "value_of" K85.t87,
 co "value_of" "value_of" 1380 578 3 3 783 true (q4 783) 1387,
 fu "value_of" "value_of" K85.t87 .none (s "manymakes.wishes" 1322) 788,
 tu [],
 fi []]
noncomputable def vG(P:Params):List Obj:=[tu (us Yl 1393),
 tu [],
 pf "put_together" "put_together" K85.t88,
 co "put_together" "put_together" 1390 587 3 3 790 true (q4 790) 1396,
 fu "put_together" "put_together" K85.t88 .none (s "manymakes.wishes" 1322) 795,
 tu [],
 fi [],
 tu (us ["mask","n"] 1402),
 tu [],
 pf "shown_wish" "shown_wish" K85.t89,
 co "shown_wish" "shown_wish" 1399 597 2 3 797 true (q4 797) 1404,
 fu "shown_wish" "shown_wish" K85.t89 .none (s "manymakes.wishes" 1322) 802,
 tu [],
 fi [],
 tu (us ["k","mask","n","on","off"] 1410),
 tu [],
 pf "shown_from" "shown_from" K85.t90,
 co "shown_from" "shown_from" 1407 599 3 3 804 true (q4 804) 1415,
 fu "shown_from" "shown_from" K85.t90 .none (s "manymakes.wishes" 1322) 809,
 tu [],
 fi [],
 pf "read_rows" "read_rows" K85.t94,
 co "read_rows" "read_rows" 1424 612 2 3 811 true [.none,.none,.none,r 813] 1427,
 fu "read_rows" "read_rows" K85.t94 .none (s "manymakes.texts" 1418) 814]
noncomputable def vH(P:Params):List Obj:=[tu [],
 fi [],
 tu (us ["row","n","at","plain","masks","word"] 1433),
 tu [],
 pf "read_words" "read_words" K85.t95,
 co "read_words" "read_words" 1430 614 3 3 816 true (q4 816) 1439,
 fu "read_words" "read_words" K85.t95 .none (s "manymakes.texts" 1418) 821,
 tu [],
 fi [],
 tu [s "row" 1445],
 tu [],
 pf "words_of" "words_of" K85.t96,
 co "words_of" "words_of" 1442 633 1 3 823 true (q4 823) 1446,
 fu "words_of" "words_of" K85.t96 .none (s "manymakes.texts" 1418) 828,
 tu [],
 fi [],
 tu (us Yx 1452),
 tu [],
 pf "group_mask" "group_mask" K85.t97,
 co "group_mask" "group_mask" 1449 637 3 3 830 true (q4 830) 1455,
 fu "group_mask" "group_mask" K85.t97 .none (s "manymakes.texts" 1418) 835,
 tu [],
 fi [],
 tu (us ["row","mask","n"] 1461)]
noncomputable def vI(P:Params):List Obj:=[tu [],
 pf "in_group" "in_group" K85.t98,
 co "in_group" "in_group" 1458 642 3 3 837 true (q4 837) 1464,
 fu "in_group" "in_group" K85.t98 .none (s "manymakes.texts" 1418) 842,
 tu [],
 fi [],
 pf "cut_row" "cut_row" K85.t99,
 co "cut_row" "cut_row" 1467 644 2 3 844 true [.none,.none,.none,r 846] 1470,
 fu "cut_row" "cut_row" K85.t99 .none (s "manymakes.texts" 1418) 847,
 tu [],
 fi [],
 pf "cut_rows" "cut_rows" K85.t100,
 co "cut_rows" "cut_rows" 1473 646 2 3 849 true [.none,.none,.none,r 851] 1476,
 fu "cut_rows" "cut_rows" K85.t100 .none (s "manymakes.texts" 1418) 852,
 tu [],
 fi [],
 pf "cut_text" "cut_text" K85.t101,
 co "cut_text" "cut_text" 1479 648 3 3 854 true [.none,.none,.none,r 856] 1482,
 fu "cut_text" "cut_text" K85.t101 .none (s "manymakes.texts" 1418) 857,
 tu [],
 fi [],
 tu (us ["s","n"] 1488),
 tu [],
 pf "is_setting" "is_setting" K85.t102]
noncomputable def vJ(P:Params):List Obj:=[co "is_setting" "is_setting" 1485 653 2 3 859 true (q4 859) 1490,
 fu "is_setting" "is_setting" K85.t102 .none (s "manymakes.texts" 1418) 864,
 tu [.int 0 1493],
 tu [],
 fi [],
 pf "variants" "variants" K85.t103,
 co "variants" "variants" 1494 655 3 3 867 true [.none,.none,.none,r 869] 1497,
 fu "variants" "variants" K85.t103 (.ref 866) (s "manymakes.texts" 1418) 870,
 tu [],
 oc "builtin_function_or_method" [.builtin "type.__prepare__",.type "type"],
 di P [en "__module__" 1511 (s "manymakes.sharedread" 1500),en "__qualname__" 1513 (s "Spot" 1512),en "__firstlineno__" 1515 (.int 665 1514),en "__init__" 1526 (r 885),en "__static_attributes__" 1532 (r 886)] 5,
 tu [],
 fi [n 667,n 4,r 884],
 co "Spot" "Spot" 1506 665 0 0 875 false [.none,.none,.none,.none] 1509,
 {cls:=.type "frame",slots:=#[some ((r 877)),some ((r 3)),some ((r 874)),none,some ((s "manymakes.sharedread" 1500)),none,some ((r 0))]},
 tu [],
 fi [],
 tu (us ["self","number","within","outer","other"] 1519),
 tu [],
 pf "__init__" "Spot.__init__" (Mm.inC K85.t106 0),
 co "__init__" "Spot.__init__" 1516 667 5 3 879 true (q4 879) 1524,
 fu "__init__" "Spot.__init__" (Mm.inC K85.t106 0) .none (s "manymakes.sharedread" 1500) 884,
 tu (us ["body","number","other","outer","within"] 1527),
 di P [en "__module__" 1511 (s "manymakes.sharedread" 1500),en "__firstlineno__" 1515 (.int 665 1514),en "__init__" 1526 (r 885),en "__static_attributes__" 1532 (r 886),en "__dict__" 1534 (r 889),en "__weakref__" 1536 (r 890),en "__doc__" 1537 .none] 4]
noncomputable def vK(P:Params):List Obj:=[{cls:=.type "type",data:=Data.cls {name:="Spot",bases:=[.type "object"],mro:=[(r 888),.type "object"],ns:=887,qualname:="Spot" },slots:=#[none,none,some ((s "Spot" 1504)),some ((s "Spot" 1512)),some (.builtin "object.__new__"),some (.bool true)]},
 oc "getset_descriptor" [s "__dict__" 1533,r 888,.builtin "function.__dict__",.builtin "function.__dict__#set"],
 oc "getset_descriptor" [s "__weakref__" 1535,r 888,.builtin "ExceptionGroup.__weakref__",.none],
 oc "super" [r 888,r 888,r 888],
 oc "builtin_function_or_method" [.builtin "object.__init_subclass__",r 888],
 tu [],
 oc "builtin_function_or_method" [.builtin "type.__prepare__",.type "type"],
 di P [en "__module__" 1547 (s "manymakes.sharedread" 1500),en "__qualname__" 1549 (s "Reading" 1548),en "__firstlineno__" 1551 (.int 673 1550),en "__init__" 1559 (r 906),en "new_spot" 1570 (r 913),en "go_on" 1585 (r 920),en "step" 1598 (r 927),en "led" 1612 (r 934),en "end_at" 1622 (r 941),en "__static_attributes__" 1626 (r 942)] 10,
 tu [],
 fi [n 675,n 4,r 905,n 681,n 4,r 912,n 686,n 4,r 919,n 695,n 4,r 926,n 703,n 4,r 933,n 723,n 4,r 940],
 co "Reading" "Reading" 1542 673 0 0 896 false [.none,.none,.none,.none] 1545,
 {cls:=.type "frame",slots:=#[some ((r 898)),some ((r 3)),some ((r 895)),none,some ((s "manymakes.sharedread" 1500)),none,some ((r 0))]},
 tu [],
 fi [],
 tu (us ["self","mask"] 1555),
 tu [],
 pf "__init__" "Reading.__init__" (Mm.inC K85.t107 0),
 co "__init__" "Reading.__init__" 1552 675 2 3 900 true (q4 900) 1557,
 fu "__init__" "Reading.__init__" (Mm.inC K85.t107 0) .none (s "manymakes.sharedread" 1500) 905,
 tu [],
 fi [],
 tu (us ["self","within","outer","other","spot"] 1563),
 tu [],
 pf "new_spot" "Reading.new_spot" (Mm.inC K85.t107 1)]
noncomputable def vL(P:Params):List Obj:=[co "new_spot" "Reading.new_spot" 1560 681 4 3 907 true (q4 907) 1568,
 fu "new_spot" "Reading.new_spot" (Mm.inC K85.t107 1) .none (s "manymakes.sharedread" 1500) 912,
 tu [],
 fi [],
 tu (us ["self","at","cuts","before","mask","words","said","number","there"] 1574),
 tu [],
 pf "go_on" "Reading.go_on" (Mm.inC K85.t107 2),
 co "go_on" "Reading.go_on" 1571 686 3 3 914 true (q4 914) 1583,
 fu "go_on" "Reading.go_on" (Mm.inC K85.t107 2) .none (s "manymakes.sharedread" 1500) 919,
 tu [],
 fi [],
 tu (us ["self","mask","at","said","spot","word","what"] 1589),
 tu [],
 pf "step" "Reading.step" (Mm.inC K85.t107 3),
 co "step" "Reading.step" 1586 695 5 3 921 true (q4 921) 1596,
 fu "step" "Reading.step" (Mm.inC K85.t107 3) .none (s "manymakes.sharedread" 1500) 926,
 tu [],
 fi [],
 tu (us ["self","mask","said","spot","word","other","then","inner"] 1602),
 tu [],
 pf "led" "Reading.led" (Mm.inC K85.t107 4),
 co "led" "Reading.led" 1599 703 4 3 928 true (q4 928) 1610,
 fu "led" "Reading.led" (Mm.inC K85.t107 4) .none (s "manymakes.sharedread" 1500) 933,
 tu []]
noncomputable def vM(P:Params):List Obj:=[fi [],
 tu (us ["self","at","number","mask"] 1616),
 tu [],
 pf "end_at" "Reading.end_at" (Mm.inC K85.t107 5),
 co "end_at" "Reading.end_at" 1613 723 2 3 935 true (q4 935) 1620,
 fu "end_at" "Reading.end_at" (Mm.inC K85.t107 5) .none (s "manymakes.sharedread" 1500) 940,
 tu (us ["faults","spots","standing"] 1623),
 di P [en "__module__" 1547 (s "manymakes.sharedread" 1500),en "__firstlineno__" 1551 (.int 673 1550),en "__init__" 1559 (r 906),en "new_spot" 1570 (r 913),en "go_on" 1585 (r 920),en "step" 1598 (r 927),en "led" 1612 (r 934),en "end_at" 1622 (r 941),en "__static_attributes__" 1626 (r 942),en "__dict__" 1628 (r 945),en "__weakref__" 1630 (r 946),en "__doc__" 1631 .none] 4,
 {cls:=.type "type",data:=Data.cls {name:="Reading",bases:=[.type "object"],mro:=[(r 944),.type "object"],ns:=943,qualname:="Reading" },slots:=#[none,none,some ((s "Reading" 1540)),some ((s "Reading" 1548)),some (.builtin "object.__new__"),some (.bool true)]},
 oc "getset_descriptor" [s "__dict__" 1627,r 944,.builtin "function.__dict__",.builtin "function.__dict__#set"],
 oc "getset_descriptor" [s "__weakref__" 1629,r 944,.builtin "ExceptionGroup.__weakref__",.none],
 oc "super" [r 944,r 944,r 944],
 oc "builtin_function_or_method" [.builtin "object.__init_subclass__",r 944],
 tu [],
 fi [],
 tu (us ["words","at","head"] 1637),
 tu [],
 pf "read_cut" "read_cut" K85.t108,
 co "read_cut" "read_cut" 1634 727 2 3 949 true (q4 949) 1640,
 fu "read_cut" "read_cut" K85.t108 .none (s "manymakes.sharedread" 1500) 954,
 tu [],
 fi [],
 pf "read_shared" "read_shared" K85.t109,
 co "read_shared" "read_shared" 1643 733 2 3 956 true [.none,.none,.none,r 958] 1646]
noncomputable def vN(P:Params):List Obj:=[fu "read_shared" "read_shared" K85.t109 .none (s "manymakes.sharedread" 1500) 959,
 tu [],
 fi [],
 pf "dead_rows" "dead_rows" K85.t111,
 co "dead_rows" "dead_rows" 1651 742 2 3 961 true [.none,.none,.none,r 963] 1654,
 fu "dead_rows" "dead_rows" K85.t111 .none (s "manymakes.reports" 1649) 964,
 tu [],
 fi [],
 pf "lonely_rows" "lonely_rows" K85.t112,
 co "lonely_rows" "lonely_rows" 1657 744 2 3 966 true [.none,.none,.none,r 968] 1660,
 fu "lonely_rows" "lonely_rows" K85.t112 .none (s "manymakes.reports" 1649) 969,
 tu [],
 fi [],
 pf "standing" "standing" K85.t113,
 co "standing" "standing" 1663 746 2 3 971 true [.none,.none,.none,r 973] 1666,
 fu "standing" "standing" K85.t113 .none (s "manymakes.reports" 1649) 974,
 tu [],
 fi [],
 pf "faults_of" "faults_of" K85.t114,
 co "faults_of" "faults_of" 1669 748 3 3 976 true [.none,.none,.none,r 978] 1672,
 fu "faults_of" "faults_of" K85.t114 .none (s "manymakes.reports" 1649) 979,
 tu [],
 fi [],
 tu (us ["text","n","rule"] 1678)]
noncomputable def vO(P:Params):List Obj:=[tu [],
 pf "sound_ones" "sound_ones" K85.t115,
 co "sound_ones" "sound_ones" 1675 751 3 3 981 true (q4 981) 1681,
 fu "sound_ones" "sound_ones" K85.t115 .none (s "manymakes.reports" 1649) 986,
 tu [],
 fi [],
 tu (us ["text","n","rule","read","tree","found"] 1687),
 tu [],
 pf "all_faults" "all_faults" K85.t116,
 co "all_faults" "all_faults" 1684 753 3 3 988 true (q4 988) 1693,
 fu "all_faults" "all_faults" K85.t116 .none (s "manymakes.reports" 1649) 993,
 tu [],
 fi [],
 pf "without_names" "without_names" K85.t117,
 co "without_names" "without_names" 1696 759 1 3 995 true [.none,.none,.none,r 997] 1699,
 fu "without_names" "without_names" K85.t117 .none (s "manymakes.reports" 1649) 998,
 tu [],
 fi [],
 pf "left_by" "left_by" K85.t118,
 co "left_by" "left_by" 1702 761 2 3 1000 true [.none,.none,.none,r 1002] 1705,
 fu "left_by" "left_by" K85.t118 .none (s "manymakes.reports" 1649) 1003,
 tu [],
 fi [],
 pf "one_form" "one_form" K85.t120]
noncomputable def vP(P:Params):List Obj:=[co "one_form" "one_form" 1710 764 1 3 1005 true [.none,.none,.none,r 1007] 1713,
 fu "one_form" "one_form" K85.t120 .none (s "manymakes.parts" 1708) 1008,
 tu [],
 fi [],
 tu [s "pair" 1719],
 tu [],
 pf "least_of" "least_of" K85.t121,
 co "least_of" "least_of" 1716 769 1 3 1010 true (q4 1010) 1720,
 fu "least_of" "least_of" K85.t121 .none (s "manymakes.parts" 1708) 1015,
 tu [],
 fi [],
 tu (us ["parts","mask"] 1726),
 tu [],
 pf "kept_to" "kept_to" K85.t122,
 co "kept_to" "kept_to" 1723 771 2 3 1017 true (q4 1017) 1728,
 fu "kept_to" "kept_to" K85.t122 .none (s "manymakes.parts" 1708) 1022,
 tu [],
 fi [],
 tu (us ["first","others","left"] 1734),
 tu [],
 pf "put_over" "put_over" K85.t123,
 co "put_over" "put_over" 1731 773 2 3 1024 true (q4 1024) 1737,
 fu "put_over" "put_over" K85.t123 .none (s "manymakes.parts" 1708) 1029,
 tu []]
noncomputable def vQ(P:Params):List Obj:=[fi [],
 pf "mapped" "mapped" K85.t124,
 co "mapped" "mapped" 1740 776 2 3 1031 true [.none,.none,.none,r 1033] 1743,
 fu "mapped" "mapped" K85.t124 .none (s "manymakes.parts" 1708) 1034,
 tu [],
 fi [],
 tu (us ["left","right","f","pairs","mask","one","here","other"] 1749),
 tu [],
 pf "paired" "paired" K85.t125,
 co "paired" "paired" 1746 778 3 3 1036 true (q4 1036) 1757,
 fu "paired" "paired" K85.t125 .none (s "manymakes.parts" 1708) 1041,
 tu [],
 fi [],
 tu [s "parts" 1763],
 tu [],
 pf "covered" "covered" K85.t126,
 co "covered" "covered" 1760 784 1 3 1043 true (q4 1043) 1764,
 fu "covered" "covered" K85.t126 .none (s "manymakes.parts" 1708) 1048,
 tu [],
 oc "builtin_function_or_method" [.builtin "type.__prepare__",.type "type"],
 di P [en "__module__" 1776 (s "manymakes.sharedrun" 1767),en "__qualname__" 1778 (s "Running" 1777),en "__firstlineno__" 1780 (.int 787 1779),en "__init__" 1789 (r 1063),en "__static_attributes__" 1793 (r 1064)] 5,
 tu [],
 fi [n 789,n 4,r 1062],
 co "Running" "Running" 1771 787 0 0 1053 false [.none,.none,.none,.none] 1774]
noncomputable def vR(P:Params):List Obj:=[{cls:=.type "frame",slots:=#[some ((r 1055)),some ((r 3)),some ((r 1052)),none,some ((s "manymakes.sharedrun" 1767)),none,some ((r 0))]},
 tu [],
 fi [],
 tu (us ["self","names","depth"] 1784),
 tu [],
 pf "__init__" "Running.__init__" (Mm.inC K85.t128 0),
 co "__init__" "Running.__init__" 1781 789 3 3 1057 true (q4 1057) 1787,
 fu "__init__" "Running.__init__" (Mm.inC K85.t128 0) .none (s "manymakes.sharedrun" 1767) 1062,
 tu (us ["depth","given","names"] 1790),
 di P [en "__module__" 1776 (s "manymakes.sharedrun" 1767),en "__firstlineno__" 1780 (.int 787 1779),en "__init__" 1789 (r 1063),en "__static_attributes__" 1793 (r 1064),en "__dict__" 1795 (r 1067),en "__weakref__" 1797 (r 1068),en "__doc__" 1798 .none] 4,
 {cls:=.type "type",data:=Data.cls {name:="Running",bases:=[.type "object"],mro:=[(r 1066),.type "object"],ns:=1065,qualname:="Running" },slots:=#[none,none,some ((s "Running" 1769)),some ((s "Running" 1777)),some (.builtin "object.__new__"),some (.bool true)]},
 oc "getset_descriptor" [s "__dict__" 1794,r 1066,.builtin "function.__dict__",.builtin "function.__dict__#set"],
 oc "getset_descriptor" [s "__weakref__" 1796,r 1066,.builtin "ExceptionGroup.__weakref__",.none],
 oc "super" [r 1066,r 1066,r 1066],
 oc "builtin_function_or_method" [.builtin "object.__init_subclass__",r 1066],
 tu [],
 oc "builtin_function_or_method" [.builtin "type.__prepare__",.type "type"],
 di P [en "__module__" 1808 (s "manymakes.sharedrun" 1767),en "__qualname__" 1810 (s "SharedRun" 1809),en "__firstlineno__" 1812 (.int 793 1811),en "__init__" 1822 (r 1084),en "run_rows" 1835 (r 1091),en "run_row" 1848 (r 1098),en "run_while" 1860 (r 1105),en "step" 1866 (r 1110),en "values_of" 1880 (r 1117),en "named" 1891 (r 1124),en "given_by" 1908 (r 1131),en "field_values" 1923 (r 1138),en "answers" 1929 (r 1143),en "__static_attributes__" 1936 (r 1144)] 14,
 tu [],
 fi [n 795,n 4,r 1083,n 803,n 4,r 1090,n 810,n 4,r 1097,n 827,n 4,r 1104,n 835,n 4,r 1109,n 845,n 4,r 1116,n 862,n 4,r 1123,n 867,n 4,r 1130,n 881,n 4,r 1137,n 889,n 4,r 1142],
 co "SharedRun" "SharedRun" 1803 793 0 0 1074 false [.none,.none,.none,.none] 1806,
 {cls:=.type "frame",slots:=#[some ((r 1076)),some ((r 3)),some ((r 1073)),none,some ((s "manymakes.sharedrun" 1767)),none,some ((r 0))]},
 tu [],
 fi []]
noncomputable def vS(P:Params):List Obj:=[tu (us ["self","tree","mask","most"] 1816),
 tu [],
 pf "__init__" "SharedRun.__init__" (Mm.inC K85.t129 0),
 co "__init__" "SharedRun.__init__" 1813 795 4 3 1078 true (q4 1078) 1820,
 fu "__init__" "SharedRun.__init__" (Mm.inC K85.t129 0) .none (s "manymakes.sharedrun" 1767) 1083,
 tu [],
 fi [],
 tu (us ["self","mask","statements","body","there","one","here"] 1826),
 tu [],
 pf "run_rows" "SharedRun.run_rows" (Mm.inC K85.t129 1),
 co "run_rows" "SharedRun.run_rows" 1823 803 4 3 1085 true (q4 1085) 1833,
 fu "run_rows" "SharedRun.run_rows" (Mm.inC K85.t129 1) .none (s "manymakes.sharedrun" 1767) 1090,
 tu [],
 fi [],
 tu (us ["self","mask","one","body","word","values","then"] 1839),
 tu [],
 pf "run_row" "SharedRun.run_row" (Mm.inC K85.t129 2),
 co "run_row" "SharedRun.run_row" 1836 810 4 3 1092 true (q4 1092) 1846,
 fu "run_row" "SharedRun.run_row" (Mm.inC K85.t129 2) .none (s "manymakes.sharedrun" 1767) 1097,
 tu [],
 fi [],
 tu (us ["self","mask","one","body","through","values"] 1852),
 tu [],
 pf "run_while" "SharedRun.run_while" (Mm.inC K85.t129 3)]
noncomputable def vT(P:Params):List Obj:=[co "run_while" "SharedRun.run_while" 1849 827 4 3 1099 true (q4 1099) 1858,
 fu "run_while" "SharedRun.run_while" (Mm.inC K85.t129 3) .none (s "manymakes.sharedrun" 1767) 1104,
 tu [],
 fi [],
 pf "step" "SharedRun.step" (Mm.inC K85.t129 4),
 co "step" "SharedRun.step" 1861 835 4 3 1106 true [.none,.none,.none,r 1108] 1864,
 fu "step" "SharedRun.step" (Mm.inC K85.t129 4) .none (s "manymakes.sharedrun" 1767) 1109,
 tu [],
 fi [],
 tu (us ["self","mask","e","body","found","inner"] 1870),
 tu (us ["e","word"] 1876),
 pf "values_of" "SharedRun.values_of" (Mm.inC K85.t129 5),
 co "values_of" "SharedRun.values_of" 1867 845 4 3 1111 true (q4 1111) 1878,
 fu "values_of" "SharedRun.values_of" (Mm.inC K85.t129 5) .none (s "manymakes.sharedrun" 1767) 1116,
 tu [],
 fi [],
 tu (us ["self","mask","name","body","values"] 1884),
 tu [],
 pf "named" "SharedRun.named" (Mm.inC K85.t129 6),
 co "named" "SharedRun.named" 1881 862 4 3 1118 true (q4 1118) 1889,
 fu "named" "SharedRun.named" (Mm.inC K85.t129 6) .none (s "manymakes.sharedrun" 1767) 1123,
 tu [],
 fi [],
 tu (us ["self","found","name","body","given","here","one","names","pair","inner"] 1895)]
noncomputable def vU(P:Params):List Obj:=[tu [s "place" 1905],
 pf "given_by" "SharedRun.given_by" (Mm.inC K85.t129 7),
 co "given_by" "SharedRun.given_by" 1892 867 4 3 1125 true (q4 1125) 1906,
 fu "given_by" "SharedRun.given_by" (Mm.inC K85.t129 7) .none (s "manymakes.sharedrun" 1767) 1130,
 tu [],
 fi [],
 tu (us ["self","found","field","pairs","mask","values","record","here","one"] 1912),
 tu [],
 pf "field_values" "SharedRun.field_values" (Mm.inC K85.t129 8),
 co "field_values" "SharedRun.field_values" 1909 881 3 3 1132 true (q4 1132) 1921,
 fu "field_values" "SharedRun.field_values" (Mm.inC K85.t129 8) .none (s "manymakes.sharedrun" 1767) 1137,
 tu [],
 fi [],
 pf "answers" "SharedRun.answers" (Mm.inC K85.t129 9),
 co "answers" "SharedRun.answers" 1924 889 2 3 1139 true [.none,.none,.none,r 1141] 1927,
 fu "answers" "SharedRun.answers" (Mm.inC K85.t129 9) .none (s "manymakes.sharedrun" 1767) 1142,
 tu (us ["ends","firsts","log","most","steps","told"] 1930),
 di P [en "__module__" 1808 (s "manymakes.sharedrun" 1767),en "__firstlineno__" 1812 (.int 793 1811),en "__init__" 1822 (r 1084),en "run_rows" 1835 (r 1091),en "run_row" 1848 (r 1098),en "run_while" 1860 (r 1105),en "step" 1866 (r 1110),en "values_of" 1880 (r 1117),en "named" 1891 (r 1124),en "given_by" 1908 (r 1131),en "field_values" 1923 (r 1138),en "answers" 1929 (r 1143),en "__static_attributes__" 1936 (r 1144),en "__dict__" 1938 (r 1147),en "__weakref__" 1940 (r 1148),en "__doc__" 1941 .none] 4,
 {cls:=.type "type",data:=Data.cls {name:="SharedRun",bases:=[.type "object"],mro:=[(r 1146),.type "object"],ns:=1145,qualname:="SharedRun" },slots:=#[none,none,some ((s "SharedRun" 1801)),some ((s "SharedRun" 1809)),some (.builtin "object.__new__"),some (.bool true)]},
 oc "getset_descriptor" [s "__dict__" 1937,r 1146,.builtin "function.__dict__",.builtin "function.__dict__#set"],
 oc "getset_descriptor" [s "__weakref__" 1939,r 1146,.builtin "ExceptionGroup.__weakref__",.none],
 oc "super" [r 1146,r 1146,r 1146],
 oc "builtin_function_or_method" [.builtin "object.__init_subclass__",r 1146],
 tu []]
noncomputable def vV(P:Params):List Obj:=[fi [],
 tu (us ["values","value"] 1947),
 tu [],
 pf "with_one_more" "with_one_more" K85.t130,
 co "with_one_more" "with_one_more" 1944 894 2 3 1151 true (q4 1151) 1949,
 fu "with_one_more" "with_one_more" K85.t130 .none (s "manymakes.sharedrun" 1767) 1156,
 tu [],
 fi [],
 pf "where" "where" K85.t131,
 co "where" "where" 1952 896 2 3 1158 true [.none,.none,.none,r 1160] 1955,
 fu "where" "where" K85.t131 .none (s "manymakes.sharedrun" 1767) 1161,
 tu [],
 fi [],
 tu (us ["tree","mask","most","kept","run"] 1961),
 tu [],
 pf "run_shared" "run_shared" K85.t132,
 co "run_shared" "run_shared" 1958 898 3 3 1163 true (q4 1163) 1966,
 fu "run_shared" "run_shared" K85.t132 .none (s "manymakes.sharedrun" 1767) 1168,
 tu [],
 fi [],
 pf "tidied" "tidied" K85.t134,
 co "tidied" "tidied" 1971 904 3 3 1170 true [.none,.none,.none,r 1172] 1974,
 fu "tidied" "tidied" K85.t134 .none (s "manymakes.tidying" 1969) 1173,
 tu []]
noncomputable def vW(P:Params):List Obj:=[fi [],
 tu (us ["rule","n"] 1980),
 tu [],
 pf "ask_rule" "ask_rule" K85.t135,
 co "ask_rule" "ask_rule" 1977 907 2 3 1175 true (q4 1175) 1982,
 fu "ask_rule" "ask_rule" K85.t135 .none (s "manymakes.tidying" 1969) 1180,
 tu [],
 fi [],
 tu (us ["row","n","rule","pieces","mask","words","piece"] 1988),
 tu [],
 pf "tidied_row" "tidied_row" K85.t136,
 co "tidied_row" "tidied_row" 1985 910 3 3 1182 true (q4 1182) 1995,
 fu "tidied_row" "tidied_row" K85.t136 .none (s "manymakes.tidying" 1969) 1187,
 tu [],
 fi [],
 tu (us ["row","rule","found","word","mask","here"] 2001),
 tu [],
 pf "come_together" "come_together" K85.t137,
 co "come_together" "come_together" 1998 916 2 3 1189 true (q4 1189) 2007,
 fu "come_together" "come_together" K85.t137 .none (s "manymakes.tidying" 1969) 1194,
 tu [],
 fi [],
 tu (us YB 2013),
 tu []]
noncomputable def vX(P:Params):List Obj:=[pf "parted" "parted" K85.t138,
 co "parted" "parted" 2010 925 4 3 1196 true (q4 1196) 2020,
 fu "parted" "parted" K85.t138 .none (s "manymakes.tidying" 1969) 1201,
 di P [en "switches" 2033 (r 1204),en "rule" 2035 (r 1205),en "row" 2037 (r 1206),en "tidy" 2039 (r 1207),en "keep" 2040 (r 1208),en "text" 2041 (r 1209),en "wish" 2042 (r 1210),en "cut" 2044 (r 1211),en "dead" 2046 (r 1212),en "lonely" 2047 (r 1213),en "faults" 2048 (r 1214),en "run" 2049 (r 1215),en "runs" 2052 (r 1216),en "part" 2054 (r 1217)] 14,
 tu [s "number" 2034],
 tu [s "wish" 2036],
 tu [s "text" 2038],
 tu [],
 tu [],
 tu [],
 tu [s "wish" 2043],
 tu [s "number" 2045],
 tu [],
 tu [],
 tu [],
 tu (us YH 2050),
 tu [s "most" 2053],
 tu [],
 tu [],
 oc "builtin_function_or_method" [.builtin "type.__prepare__",.type "type"],
 di P [en "__module__" 2077 (s "manymakes.desk" 2023),en "__qualname__" 2079 (s "Desk" 2078),en "__firstlineno__" 2081 (.int 939 2080),en "__init__" 2088 (r 1231),en "say" 2097 (r 1238),en "change" 2106 (r 1245),en "begin" 2114 (r 1252),en "put_row" 2123 (r 1259),en "whole" 2130 (r 1266),en "answer" 2136 (r 1271),en "wish_text" 2146 (r 1278),en "run_text" 2157 (r 1285),en "run_texts" 2163 (r 1290),en "part_text" 2171 (r 1297),en "__static_attributes__" 2176 (r 1298)] 15,
 tu [],
 fi [n 941,n 4,r 1230,n 947,n 4,r 1237,n 954,n 4,r 1244,n 967,n 4,r 1251,n 975,n 4,r 1258,n 984,n 4,r 1265,n 987,n 4,r 1270,n 1008,n 4,r 1277,n 1013,n 4,r 1284,n 1020,n 4,r 1289,n 1027,n 4,r 1296],
 co "Desk" "Desk" 2072 939 0 0 1221 false [.none,.none,.none,.none] 2075]
noncomputable def vY(P:Params):List Obj:=[{cls:=.type "frame",slots:=#[some ((r 1223)),some ((r 3)),some ((r 1220)),none,some ((s "manymakes.desk" 2023)),none,some ((r 0))]},
 tu [],
 fi [],
 tu [s "self" 2085],
 tu [],
 pf "__init__" "Desk.__init__" (Mm.inC K85.t145 0),
 co "__init__" "Desk.__init__" 2082 941 1 3 1225 true (q4 1225) 2086,
 fu "__init__" "Desk.__init__" (Mm.inC K85.t145 0) .none (s "manymakes.desk" 2023) 1230,
 tu [],
 fi [],
 tu (us ["self","row","order"] 2092),
 tu [],
 pf "say" "Desk.say" (Mm.inC K85.t145 1),
 co "say" "Desk.say" 2089 947 2 3 1232 true (q4 1232) 2095,
 fu "say" "Desk.say" (Mm.inC K85.t145 1) .none (s "manymakes.desk" 2023) 1237,
 tu [],
 fi [],
 tu (us ["self","order","word"] 2101),
 tu [],
 pf "change" "Desk.change" (Mm.inC K85.t145 2),
 co "change" "Desk.change" 2098 954 2 3 1239 true (q4 1239) 2104,
 fu "change" "Desk.change" (Mm.inC K85.t145 2) .none (s "manymakes.desk" 2023) 1244,
 tu [],
 fi []]
noncomputable def vZ(P:Params):List Obj:=[tu (us ["self","n"] 2110),
 tu [],
 pf "begin" "Desk.begin" (Mm.inC K85.t145 3),
 co "begin" "Desk.begin" 2107 967 2 3 1246 true (q4 1246) 2112,
 fu "begin" "Desk.begin" (Mm.inC K85.t145 3) .none (s "manymakes.desk" 2023) 1251,
 tu [],
 fi [],
 tu (us ["self","row","at"] 2118),
 tu [],
 pf "put_row" "Desk.put_row" (Mm.inC K85.t145 4),
 co "put_row" "Desk.put_row" 2115 975 2 3 1253 true (q4 1253) 2121,
 fu "put_row" "Desk.put_row" (Mm.inC K85.t145 4) .none (s "manymakes.desk" 2023) 1258,
 tu [],
 fi [],
 tu [s "self" 2127],
 tu [],
 pf "whole" "Desk.whole" (Mm.inC K85.t145 5),
 co "whole" "Desk.whole" 2124 984 1 3 1260 true (q4 1260) 2128,
 fu "whole" "Desk.whole" (Mm.inC K85.t145 5) .none (s "manymakes.desk" 2023) 1265,
 tu [],
 fi [],
 pf "answer" "Desk.answer" (Mm.inC K85.t145 6),
 co "answer" "Desk.answer" 2131 987 2 3 1267 true [.none,.none,.none,r 1269] 2134,
 fu "answer" "Desk.answer" (Mm.inC K85.t145 6) .none (s "manymakes.desk" 2023) 1270]
noncomputable def v2(P:Params):List Obj:=[tu [],
 fi [],
 tu (us ["self","text","mask","here"] 2140),
 tu [],
 pf "wish_text" "Desk.wish_text" (Mm.inC K85.t145 7),
 co "wish_text" "Desk.wish_text" 2137 1008 2 3 1272 true (q4 1272) 2144,
 fu "wish_text" "Desk.wish_text" (Mm.inC K85.t145 7) .none (s "manymakes.desk" 2023) 1277,
 tu [],
 fi [],
 tu (us ["self","s","most","text","answer"] 2150),
 tu [],
 pf "run_text" "Desk.run_text" (Mm.inC K85.t145 8),
 co "run_text" "Desk.run_text" 2147 1013 3 3 1279 true (q4 1279) 2155,
 fu "run_text" "Desk.run_text" (Mm.inC K85.t145 8) .none (s "manymakes.desk" 2023) 1284,
 tu [],
 fi [],
 pf "run_texts" "Desk.run_texts" (Mm.inC K85.t145 9),
 co "run_texts" "Desk.run_texts" 2158 1020 2 3 1286 true [.none,.none,.none,r 1288] 2161,
 fu "run_texts" "Desk.run_texts" (Mm.inC K85.t145 9) .none (s "manymakes.desk" 2023) 1289,
 tu [],
 fi [],
 tu (us ["self","s"] 2167),
 tu [],
 pf "part_text" "Desk.part_text" (Mm.inC K85.t145 10)]
noncomputable def v3(P:Params):List Obj:=[co "part_text" "Desk.part_text" 2164 1027 1 3 1291 true (q4 1291) 2169,
 fu "part_text" "Desk.part_text" (Mm.inC K85.t145 10) .none (s "manymakes.desk" 2023) 1296,
 tu (us ["kept","n","rows","rule"] 2172),
 di P [en "__module__" 2077 (s "manymakes.desk" 2023),en "__firstlineno__" 2081 (.int 939 2080),en "__init__" 2088 (r 1231),en "say" 2097 (r 1238),en "change" 2106 (r 1245),en "begin" 2114 (r 1252),en "put_row" 2123 (r 1259),en "whole" 2130 (r 1266),en "answer" 2136 (r 1271),en "wish_text" 2146 (r 1278),en "run_text" 2157 (r 1285),en "run_texts" 2163 (r 1290),en "part_text" 2171 (r 1297),en "__static_attributes__" 2176 (r 1298),en "__dict__" 2178 (r 1301),en "__weakref__" 2180 (r 1302),en "__doc__" 2181 .none] 4,
 {cls:=.type "type",data:=Data.cls {name:="Desk",bases:=[.type "object"],mro:=[(r 1300),.type "object"],ns:=1299,qualname:="Desk" },slots:=#[none,none,some ((s "Desk" 2070)),some ((s "Desk" 2078)),some (.builtin "object.__new__"),some (.bool true)]},
 oc "getset_descriptor" [s "__dict__" 2177,r 1300,.builtin "function.__dict__",.builtin "function.__dict__#set"],
 oc "getset_descriptor" [s "__weakref__" 2179,r 1300,.builtin "ExceptionGroup.__weakref__",.none],
 oc "super" [r 1300,r 1300,r 1300],
 oc "builtin_function_or_method" [.builtin "object.__init_subclass__",r 1300],
 tu [],
 fi [],
 pf "read_order" "read_order" K85.t146,
 co "read_order" "read_order" 2184 1032 1 3 1305 true [.none,.none,.none,r 1307] 2187,
 fu "read_order" "read_order" K85.t146 .none (s "manymakes.desk" 2023) 1308,
 tu [],
 fi [],
 pf "read_word" "read_word" K85.t147,
 co "read_word" "read_word" 2190 1040 2 3 1310 true [.none,.none,.none,r 1312] 2193,
 fu "read_word" "read_word" K85.t147 .none (s "manymakes.desk" 2023) 1313,
 tu [],
 fi [],
 tu (us ["fault","name"] 2199),
 tu [],
 pf "fault_text" "fault_text" K85.t148]
noncomputable def v4(P:Params):List Obj:=[co "fault_text" "fault_text" 2196 1052 1 3 1315 true (q4 1315) 2201,
 fu "fault_text" "fault_text" K85.t148 .none (s "manymakes.desk" 2023) 1320,
 tu [],
 fi [],
 pf "in_blanks" "in_blanks" K85.t149,
 co "in_blanks" "in_blanks" 2204 1055 1 3 1322 true [.none,.none,.none,r 1324] 2207,
 fu "in_blanks" "in_blanks" K85.t149 .none (s "manymakes.desk" 2023) 1325,
 tu [],
 fi [],
 tu (us Yk 2215),
 tu [],
 pf "_law_cell_at" "_law_cell_at" K85.t151,
 co "_law_cell_at" "_law_cell_at" 2212 1058 2 3 1327 true (q4 1327) 2217,
 fu "_law_cell_at" "_law_cell_at" K85.t151 .none (s "law_manymakes_k85_desk_texts" 2210) 1332,
 tu [],
 fi [],
 tu (us Yq 2223),
 tu [],
 pf "_law_drawn" "_law_drawn" K85.t152,
 co "_law_drawn" "_law_drawn" 2220 1062 2 3 1334 true (q4 1334) 2228,
 fu "_law_drawn" "_law_drawn" K85.t152 .none (s "law_manymakes_k85_desk_texts" 2210) 1339,
 tu [],
 fi [],
 tu (us Yg 2234)]
noncomputable def v5(P:Params):List Obj:=[tu [],
 pf "_law_wish" "_law_wish" K85.t153,
 co "_law_wish" "_law_wish" 2231 1069 3 3 1341 true (q4 1341) 2243,
 fu "_law_wish" "_law_wish" K85.t153 .none (s "law_manymakes_k85_desk_texts" 2210) 1346,
 tu [],
 fi [],
 pf "_law_word" "_law_word" K85.t154,
 co "_law_word" "_law_word" 2246 1090 1 3 1348 true [.none,.none,.none,r 1350] 2249,
 fu "_law_word" "_law_word" K85.t154 .none (s "law_manymakes_k85_desk_texts" 2210) 1351,
 tu [],
 fi [],
 tu (us Yc 2255),
 tu [],
 pf "_law_made" "_law_made" K85.t155,
 co "_law_made" "_law_made" 2252 1099 3 3 1353 true (q4 1353) 2264,
 fu "_law_made" "_law_made" K85.t155 .none (s "law_manymakes_k85_desk_texts" 2210) 1358,
 tu [],
 fi [],
 pf "_law_wish_due" "_law_wish_due" K85.t156,
 co "_law_wish_due" "_law_wish_due" 2267 1117 3 3 1360 true [.none,.none,.none,r 1362] 2270,
 fu "_law_wish_due" "_law_wish_due" K85.t156 .none (s "law_manymakes_k85_desk_texts" 2210) 1363,
 tu [],
 fi [],
 pf "_law_looked" "_law_looked" K85.t157]
noncomputable def v7(P:Params):List Obj:=[co "_law_looked" "_law_looked" 2273 1124 5 3 1365 true [.none,.none,.none,r 1367] 2276,
 fu "_law_looked" "_law_looked" K85.t157 .none (s "law_manymakes_k85_desk_texts" 2210) 1368,
 tu [],
 fi [],
 tu (us Ye 2282),
 tu [],
 pf "_law_turn" "_law_turn" K85.t158,
 co "_law_turn" "_law_turn" 2279 1133 3 3 1370 true (q4 1370) 2291,
 fu "_law_turn" "_law_turn" K85.t158 .none (s "law_manymakes_k85_desk_texts" 2210) 1375,
 tu [],
 fi [],
 tu [s "_law_desk" 2297,s "_law_text" 2298,s "_law_refused" 2299,s "e" 2300],
 tu [],
 pf "_law_not_put" "_law_not_put" K85.t159,
 co "_law_not_put" "_law_not_put" 2294 1143 2 3 1377 true (q4 1377) 2301,
 fu "_law_not_put" "_law_not_put" K85.t159 .none (s "law_manymakes_k85_desk_texts" 2210) 1382,
 tu [],
 fi [],
 pf "law" "law" K85.t160,
 co "law" "law" 2304 1150 1 3 1384 true [.none,.none,.none,r 1386] 2307,
 fu "law" "law" K85.t160 .none (s "law_manymakes_k85_desk_texts" 2210) 1387]
noncomputable def hd{α:Type}(f:Heap->α)(P:Params):α:=f ⟨Array.mk (c0 P++(c1 P++(c2 P++(c3 P++(c4 P++(c5 P++(c6 P++(c7 P++(c8 P++(c9 P++(ve P++(vf P++(vg P++(vh P++(vi P++(vj P++(vk P++(vm P++(vn P++(vo P++(vp P++(vq P++(vt P++(vv P++(vx P++(vy P++(vz P++(vA P++(vB P++(vC P++(vD P++(vE P++(vF P++(vG P++(vH P++(vI P++(vJ P++(vK P++(vL P++(vM P++(vN P++(vO P++(vP P++(vQ P++(vR P++(vS P++(vT P++(vU P++(vV P++(vW P++(vX P++(vY P++(vZ P++(v2 P++(v3 P++(v4 P++(v5 P++(v7 P)))))))))))))))))))))))))))))))))))))))))))))))))))))))))),{}⟩
noncomputable def oo(P:Params):List Obj:=hd (λh=>h.objs.toList) P
noncomputable def v8(P:Params):List Obj:=((((oo P).take 15).set 2 (boot_o_2 P)).set 3 (boot_o_3 P)).set 12 (fi (hV.take 0))
noncomputable def hZ(w:World)(os:OsState):SharedT:=⟨treeOf (v8 w.params) 0 .nil,15,{},Array.mk [],{},187,os⟩
noncomputable def v9(P:Params):List Obj:=((((oo P).take 352).set 2 (boot_o_2 P)).set 3 (di P ((jg.take 45).set 0 (en "__name__" 165 (s "manymakes.plainread" 668))) 45)).set 12 (fi (hV.take 84))
noncomputable def jh(w:World)(os:OsState):SharedT:=⟨treeOf (v9 w.params) 0 .nil,352,{},Array.mk [],{},670,os⟩
noncomputable def wa(P:Params):List Obj:=(((oo P).take 730).set 3 (di P (((jg.take 76).set 0 (en "__name__" 165 (s "manymakes.kinds" 1112))).set 69 (en "reckoned" 1093 (r 637))) 76)).set 12 (fi (hV.take 159))
noncomputable def ji(w:World)(os:OsState):SharedT:=⟨treeOf (wa w.params) 0 .nil,730,{},Array.mk [],{},1289,os⟩
noncomputable def wb(P:Params):List Obj:=(((oo P).take 1005).set 3 (di P ((jg.take 115).set 0 (en "__name__" 165 (s "manymakes.parts" 1708))) 115)).set 12 (fi (hV.take 261))
noncomputable def jj(w:World)(os:OsState):SharedT:=⟨treeOf (wb w.params) 0 .nil,1005,{},Array.mk [],{},1710,os⟩
noncomputable def wc(P:Params):List Obj:=(oo P).take 1389
noncomputable def ia(w:World)(os:OsState):SharedT:=⟨treeOf (wc w.params) 0 .nil,1389,{},Array.mk [],{},2310,os⟩
end K85
end
noncomputable def K85.env:Env:={scope:=K85.pw.main.scope,locals:=mainNs,globals:=mainNs,cells:=[],code:=.ref 13,frame:=some 14}
noncomputable def K85.cE:Code:=.body (behindTheImports K85.pw) K85.env
abbrev K85.B:List Frame:=[topFrame ⟨0,0,0,0⟩]
noncomputable def K85.s1:List Stmt:=[K85.t0,K85.t1,K85.t2,K85.t3,K85.t4,K85.t5,K85.t6,K85.t7,K85.t8,K85.t9,K85.t10,K85.t11,K85.t12,K85.t13,K85.t14,K85.t15,K85.t16,K85.t17,K85.t18,K85.t19,K85.t20,K85.t21,K85.t22,K85.t23,K85.t24,K85.t25,K85.t26,K85.t27,K85.t28,K85.t29,K85.t30,K85.t31,K85.t32,K85.t33,K85.t34,K85.t35,K85.t36,K85.t37,K85.t38,K85.t39]
noncomputable def K85.g1(w:World)(os:OsState):=segRunT treeTable K85.pw w 11 (some (.ref 6)) 1 2880 (K85.hZ w os) (piecesOf K85.s1 K85.env K85.cE {line:=0,col:=0,endLine:=0,endCol:=0} K85.B)
noncomputable def K85.h1(w:World)(os:OsState):=some (Flow.next,K85.jh w os,K85.cE,({line:=191,col:=0,endLine:=191,endCol:=8}:Pos))
theorem K85.lg1:Mm.hdTt K85.g1=true:=by k_qdec
theorem K85.lh1:Mm.hdTt K85.h1=true:=by k_qdec
theorem K85.st1(w:World)(os:OsState):PySem.W.Fast.tw7459385659683058436 w os=PySem.W.Fast.tw14881425670121438004 w os:=by kernel_rfl
theorem K85.sg1(w:World)(os:OsState):segRun treeTable K85.pw w 11 (some (.ref 6)) 1 2880 (K85.hZ w os).abs (piecesOf K85.s1 K85.env K85.cE {line:=0,col:=0,endLine:=0,endCol:=0} K85.B)=some (.next,(K85.jh w os).abs,K85.cE,{line:=191,col:=0,endLine:=191,endCol:=8}):=by have h:K85.g1 w os=K85.h1 w os:=(congrFun (congrFun PySem.W.Fast.te7459385659683058436 w) os).trans ((K85.st1 w os).trans (congrFun (congrFun PySem.W.Fast.te14881425670121438004 w) os).symm);exact segRun_of h
noncomputable def K85.s2:List Stmt:=[K85.t40,K85.t41,K85.t42,K85.t43,K85.t44,K85.t45,K85.t46,K85.t47,K85.t48,K85.t49,K85.t50,K85.t51,K85.t52,K85.t53,K85.t54,K85.t55,K85.t56,K85.t57,K85.t58,K85.t59,K85.t60,K85.t61,K85.t62,K85.t63,K85.t64,K85.t65,K85.t66,K85.t67,K85.t68,K85.t69,K85.t70,K85.t71,K85.t72,K85.t73,K85.t74]
noncomputable def K85.g2(w:World)(os:OsState):=segRunT treeTable K85.pw w 11 (some (.ref 6)) 1 2829 (K85.jh w os) (piecesOf K85.s2 K85.env K85.cE {line:=191,col:=0,endLine:=191,endCol:=8} K85.B)
noncomputable def K85.h2(w:World)(os:OsState):=some (Flow.next,K85.ji w os,K85.cE,({line:=455,col:=0,endLine:=530,endCol:=58}:Pos))
theorem K85.lg2:Mm.hdTt K85.g2=true:=by k_qdec
theorem K85.lh2:Mm.hdTt K85.h2=true:=by k_qdec
theorem K85.st2a(w:World)(os:OsState):PySem.W.Fast.tw18089039624026853668 (w.withFollow "special-get-raises" false) os=PySem.W.Fast.tw13158301875100647897 (w.withFollow "special-get-raises" false) os:=by kernel_rfl
theorem K85.st2b(w:World)(os:OsState):PySem.W.Fast.tw18089039624026853668 (w.withFollow "special-get-raises" true) os=PySem.W.Fast.tw13158301875100647897 (w.withFollow "special-get-raises" true) os:=by kernel_rfl
theorem K85.st2(w:World)(os:OsState):PySem.W.Fast.tw18089039624026853668 w os=PySem.W.Fast.tw13158301875100647897 w os:=byRow2 "special-get-raises" (P:=λw=>PySem.W.Fast.tw18089039624026853668 w os=PySem.W.Fast.tw13158301875100647897 w os) (λw=>K85.st2a w os) (λw=>K85.st2b w os) w
theorem K85.sg2(w:World)(os:OsState):segRun treeTable K85.pw w 11 (some (.ref 6)) 1 2829 (K85.jh w os).abs (piecesOf K85.s2 K85.env K85.cE {line:=191,col:=0,endLine:=191,endCol:=8} K85.B)=some (.next,(K85.ji w os).abs,K85.cE,{line:=455,col:=0,endLine:=530,endCol:=58}):=by have h:K85.g2 w os=K85.h2 w os:=(congrFun (congrFun PySem.W.Fast.te18089039624026853668 w) os).trans ((K85.st2 w os).trans (congrFun (congrFun PySem.W.Fast.te13158301875100647897 w) os).symm);exact segRun_of h
noncomputable def K85.s3:List Stmt:=[K85.t75,K85.t76,K85.t77,K85.t78,K85.t79,K85.t80,K85.t81,K85.t82,K85.t83,K85.t84,K85.t85,K85.t86,K85.t87,K85.t88,K85.t89,K85.t90,K85.t91,K85.t92,K85.t93,K85.t94,K85.t95,K85.t96,K85.t97,K85.t98,K85.t99,K85.t100,K85.t101,K85.t102,K85.t103,K85.t104,K85.t105,K85.t106,K85.t107,K85.t108,K85.t109,K85.t110,K85.t111,K85.t112,K85.t113,K85.t114,K85.t115,K85.t116,K85.t117,K85.t118,K85.t119]
noncomputable def K85.g3(w:World)(os:OsState):=segRunT treeTable K85.pw w 11 (some (.ref 6)) 1 1746 (K85.ji w os) (piecesOf K85.s3 K85.env K85.cE {line:=455,col:=0,endLine:=530,endCol:=58} K85.B)
noncomputable def K85.h3(w:World)(os:OsState):=some (Flow.next,K85.jj w os,K85.cE,({line:=763,col:=0,endLine:=763,endCol:=8}:Pos))
theorem K85.lg3:Mm.hdTt K85.g3=true:=by k_qdec
theorem K85.lh3:Mm.hdTt K85.h3=true:=by k_qdec
theorem K85.st3a(w:World)(os:OsState):PySem.W.Fast.tw15857457620002592442 (w.withFollow "special-get-raises" false) os=PySem.W.Fast.tw12165563240564734398 (w.withFollow "special-get-raises" false) os:=by kernel_rfl
theorem K85.st3b(w:World)(os:OsState):PySem.W.Fast.tw15857457620002592442 (w.withFollow "special-get-raises" true) os=PySem.W.Fast.tw12165563240564734398 (w.withFollow "special-get-raises" true) os:=by kernel_rfl
theorem K85.st3(w:World)(os:OsState):PySem.W.Fast.tw15857457620002592442 w os=PySem.W.Fast.tw12165563240564734398 w os:=byRow2 "special-get-raises" (P:=λw=>PySem.W.Fast.tw15857457620002592442 w os=PySem.W.Fast.tw12165563240564734398 w os) (λw=>K85.st3a w os) (λw=>K85.st3b w os) w
theorem K85.sg3(w:World)(os:OsState):segRun treeTable K85.pw w 11 (some (.ref 6)) 1 1746 (K85.ji w os).abs (piecesOf K85.s3 K85.env K85.cE {line:=455,col:=0,endLine:=530,endCol:=58} K85.B)=some (.next,(K85.jj w os).abs,K85.cE,{line:=763,col:=0,endLine:=763,endCol:=8}):=by have h:K85.g3 w os=K85.h3 w os:=(congrFun (congrFun PySem.W.Fast.te15857457620002592442 w) os).trans ((K85.st3 w os).trans (congrFun (congrFun PySem.W.Fast.te12165563240564734398 w) os).symm);exact segRun_of h
noncomputable def K85.s4:List Stmt:=[K85.t120,K85.t121,K85.t122,K85.t123,K85.t124,K85.t125,K85.t126,K85.t127,K85.t128,K85.t129,K85.t130,K85.t131,K85.t132,K85.t133,K85.t134,K85.t135,K85.t136,K85.t137,K85.t138,K85.t139,K85.t140,K85.t141,K85.t142,K85.t143,K85.t144,K85.t145,K85.t146,K85.t147,K85.t148,K85.t149,K85.t150,K85.t151,K85.t152,K85.t153,K85.t154,K85.t155,K85.t156,K85.t157,K85.t158,K85.t159,K85.t160]
noncomputable def K85.g4(w:World)(os:OsState):=segRunT treeTable K85.pw w 11 (some (.ref 6)) 1 2505 (K85.jj w os) (piecesOf K85.s4 K85.env K85.cE {line:=763,col:=0,endLine:=763,endCol:=8} K85.B)
noncomputable def K85.h4(w:World)(os:OsState):=some (Flow.next,K85.ia w os,K85.cE,({line:=1150,col:=0,endLine:=1182,endCol:=115}:Pos))
theorem K85.lg4:Mm.hdTt K85.g4=true:=by k_qdec
theorem K85.lh4:Mm.hdTt K85.h4=true:=by k_qdec
theorem K85.st4a(w:World)(os:OsState):PySem.W.Fast.tw11752177384162477050 (w.withFollow "special-get-raises" false) os=PySem.W.Fast.tw8577030065458084147 (w.withFollow "special-get-raises" false) os:=by kernel_rfl
theorem K85.st4b(w:World)(os:OsState):PySem.W.Fast.tw11752177384162477050 (w.withFollow "special-get-raises" true) os=PySem.W.Fast.tw8577030065458084147 (w.withFollow "special-get-raises" true) os:=by kernel_rfl
theorem K85.st4(w:World)(os:OsState):PySem.W.Fast.tw11752177384162477050 w os=PySem.W.Fast.tw8577030065458084147 w os:=byRow2 "special-get-raises" (P:=λw=>PySem.W.Fast.tw11752177384162477050 w os=PySem.W.Fast.tw8577030065458084147 w os) (λw=>K85.st4a w os) (λw=>K85.st4b w os) w
theorem K85.sg4(w:World)(os:OsState):segRun treeTable K85.pw w 11 (some (.ref 6)) 1 2505 (K85.jj w os).abs (piecesOf K85.s4 K85.env K85.cE {line:=763,col:=0,endLine:=763,endCol:=8} K85.B)=some (.next,(K85.ia w os).abs,K85.cE,{line:=1150,col:=0,endLine:=1182,endCol:=115}):=by have h:K85.g4 w os=K85.h4 w os:=(congrFun (congrFun PySem.W.Fast.te11752177384162477050 w) os).trans ((K85.st4 w os).trans (congrFun (congrFun PySem.W.Fast.te8577030065458084147 w) os).symm);exact segRun_of h
theorem K85.bb:behindTheImports K85.pw=K85.s1++(K85.s2++(K85.s3++(K85.s4++([])))):=by kernel_rfl
noncomputable def K85.H1(P:Params):Heap:=K85.hd id P
theorem K85.absL(w:World)(os:OsState):(K85.ia w os).abs=⟨K85.H1 w.params,Array.mk [],{},2310,os⟩:=by kernel_rfl
theorem K85.boot(w:World):(fencedOpening treeTable K85.pw w 20038).map (λs=>(s.heap,s.gens,s.drawn,s.toks))=some (boot_heap w.params,Array.mk [],boot_drawn,boot_toks):=boot_open (by kernel_rfl) (by decide) (λs=>by rfl) w
theorem K85.size(w:World):((boot_heap w.params).isNs mainGlobals&&(Array.mk []:Array GenState).size==0,(boot_heap w.params).objs.size,(boot_heap w.params).nsMap mainGlobals "__annotations__")=(true,11,some (.ref 6)):=by kernel_rfl
theorem K85.rpre(w:World)(os:OsState):topGo treeTable K85.pw w 11 (some (.ref 6)) 12 ⟨boot_heap w.params,Array.mk [],boot_drawn,boot_toks,os⟩ (topStub K85.pw)=some ((K85.hZ w os).abs,⟨denote treeTable (.body (behindTheImports K85.pw) K85.env),.body (behindTheImports K85.pw) K85.env,⟨0,0,0,0⟩,[topFrame ⟨0,0,0,0⟩]⟩):=by kernel_rfl
theorem K85.rblock(w:World)(os:OsState):segRun treeTable K85.pw w 11 (some (.ref 6)) 1 1 (K85.hZ w os).abs (blockOf (behindTheImports K85.pw) K85.env (.body (behindTheImports K85.pw) K85.env) ⟨0,0,0,0⟩ [topFrame ⟨0,0,0,0⟩])=some (.next,(K85.hZ w os).abs,.body (behindTheImports K85.pw) K85.env,⟨0,0,0,0⟩):=by kernel_rfl
theorem K85.rfin(w:World)(os:OsState):topRun treeTable K85.pw w 11 (some (.ref 6)) 2 (K85.ia w os).abs ⟨doneF .next,K85.cE,{line:=1150,col:=0,endLine:=1182,endCol:=115},[topFrame ⟨0,0,0,0⟩]⟩=some (K85.ia w os).abs:=by kernel_rfl
set_option maxHeartbeats 0 in
theorem K85.run(w:World)(os:OsState):topRun treeTable K85.pw w 11 (some (.ref 6)) (12+(1+(2880+(2829+(1746+(2505+2)))))) ⟨boot_heap w.params,Array.mk [],boot_drawn,boot_toks,os⟩ (topStub K85.pw)=some ⟨K85.H1 w.params,Array.mk [],{},2310,os⟩:=by refine go_top (K85.rpre w os) (piece_block (K85.rblock w os) ?_);rw[K85.bb];refine piece_app (K85.sg1 w os) ?_;refine piece_app (K85.sg2 w os) ?_;refine piece_app (K85.sg3 w os) ?_;refine piece_app (K85.sg4 w os) ?_;exact(K85.rfin w os).trans (congrArg some (K85.absL w os))
def Mm.tk{α:Type}:Nat->List α->List α
 |0,_=>[]
 |_+1,[]=>[]
 |n+1,a::l=>a::Mm.tk n l
def Mm.dp{α:Type}:Nat->List α->List α
 |0,l=>l
 |_+1,[]=>[]
 |n+1,_::l=>Mm.dp n l
theorem Mm.tk_eq{α:Type}:∀(n:Nat) (l:List α),Mm.tk n l=l.take n
 |0,_=>rfl
 |_+1,[]=>rfl
 |n+1,a::l=>congrArg (a::·) (Mm.tk_eq n l)
theorem Mm.dp_eq{α:Type}:∀(n:Nat) (l:List α),Mm.dp n l=l.drop n
 |0,_=>rfl
 |_+1,[]=>rfl
 |n+1,_::l=>Mm.dp_eq n l
theorem Mm.tkd{α:Type}{x y:List α}(j k:Nat)(h1:(x.drop j).take k=Mm.tk k (Mm.dp j y))(h2:x.drop (j+k)=y.drop (j+k)):x.drop j=y.drop j:=by rw[Mm.tk_eq,Mm.dp_eq] at h1;rw[<-List.take_append_drop k (x.drop j),<-List.take_append_drop k (y.drop j),List.drop_drop,List.drop_drop,h1,h2]
theorem Mm.tke{α:Type}{x y:List α}(j:Nat)(h1:x.drop j=Mm.dp j y):x.drop j=y.drop j:=by rw[Mm.dp_eq] at h1;exact h1
noncomputable def K85.ga(w:World)(os:OsState):=K85.hd (λh=>staticsOk (importedModules K85.pw.main.body) (boot_heap w.params) h&&namesBound K85.pw h&&gensDone ⟨h,Array.mk [],{},2310,os⟩&&laidKept (boot_heap w.params) h) w.params
theorem K85.lay0:Mm.hdTt K85.ga=true:=by k_qdec
theorem K85.lk0(w:World)(os:OsState):PySem.W.Fast.tw11826996073893347357 w os=true:=by kernel_rfl
theorem K85.la0(w:World)(os:OsState):K85.ga w os=true:=(congrFun (congrFun PySem.W.Fast.te11826996073893347357 w) os).trans (K85.lk0 w os)
noncomputable def K85.ga1(w:World)(os:OsState):=K85.hd (λh=>(openSeen K85.vw ["reckoned_plainrun","MAKES","ASKS","NEEDS","reckoned_wishes","variants","FORMS"] (importedModules K85.pw.main.body) K85.xt true ⟨h,Array.mk [],{},2310,os⟩).1) w.params
noncomputable def K85.gb1:=(openGood K85.vw ["reckoned_plainrun","MAKES","ASKS","NEEDS","reckoned_wishes","variants","FORMS"]).1
theorem K85.laya1:Mm.hdTt K85.ga1=true:=by k_qdec
theorem K85.layb1:Mm.hdTt K85.gb1=true:=by k_qdec
theorem K85.lk1(w:World)(os:OsState):PySem.W.Fast.tw9273335568847120109 w os=PySem.W.Fast.tw8255652236087006769:=by kernel_rfl
theorem K85.la1(w:World)(os:OsState):K85.ga1 w os=K85.gb1:=(congrFun (congrFun PySem.W.Fast.te9273335568847120109 w) os).trans ((K85.lk1 w os).trans PySem.W.Fast.te8255652236087006769.symm)
noncomputable def K85.ga2(w:World)(os:OsState):=K85.hd (λh=>(openSeen K85.vw ["reckoned_plainrun","MAKES","ASKS","NEEDS","reckoned_wishes","variants","FORMS"] (importedModules K85.pw.main.body) K85.xt true ⟨h,Array.mk [],{},2310,os⟩).2.1) w.params
noncomputable def K85.gb2:=(openGood K85.vw ["reckoned_plainrun","MAKES","ASKS","NEEDS","reckoned_wishes","variants","FORMS"]).2.1
theorem K85.laya2:Mm.hdTt K85.ga2=true:=by k_qdec
theorem K85.layb2:Mm.hdTt K85.gb2=true:=by k_qdec
theorem K85.lk2(w:World)(os:OsState):PySem.W.Fast.tw13821458368527927117 w os=PySem.W.Fast.tw18023485781656682968:=by kernel_rfl
theorem K85.la2(w:World)(os:OsState):K85.ga2 w os=K85.gb2:=(congrFun (congrFun PySem.W.Fast.te13821458368527927117 w) os).trans ((K85.lk2 w os).trans PySem.W.Fast.te18023485781656682968.symm)
noncomputable def K85.ga3(w:World)(os:OsState):=K85.hd (λh=>(openSeen K85.vw ["reckoned_plainrun","MAKES","ASKS","NEEDS","reckoned_wishes","variants","FORMS"] (importedModules K85.pw.main.body) K85.xt true ⟨h,Array.mk [],{},2310,os⟩).2.2.1) w.params
noncomputable def K85.gb3:=(openGood K85.vw ["reckoned_plainrun","MAKES","ASKS","NEEDS","reckoned_wishes","variants","FORMS"]).2.2.1
theorem K85.laya3:Mm.hdTt K85.ga3=true:=by k_qdec
theorem K85.layb3:Mm.hdTt K85.gb3=true:=by k_qdec
theorem K85.lk3(w:World)(os:OsState):PySem.W.Fast.tw15470800674681912456 w os=PySem.W.Fast.tw10856389120445538398:=by kernel_rfl
theorem K85.la3(w:World)(os:OsState):K85.ga3 w os=K85.gb3:=(congrFun (congrFun PySem.W.Fast.te15470800674681912456 w) os).trans ((K85.lk3 w os).trans PySem.W.Fast.te10856389120445538398.symm)
noncomputable def K85.ga4(w:World)(os:OsState):=K85.hd (λh=>(openSeen K85.vw ["reckoned_plainrun","MAKES","ASKS","NEEDS","reckoned_wishes","variants","FORMS"] (importedModules K85.pw.main.body) K85.xt true ⟨h,Array.mk [],{},2310,os⟩).2.2.2.1) w.params
noncomputable def K85.gb4:=(openGood K85.vw ["reckoned_plainrun","MAKES","ASKS","NEEDS","reckoned_wishes","variants","FORMS"]).2.2.2.1
theorem K85.laya4:Mm.hdTt K85.ga4=true:=by k_qdec
theorem K85.layb4:Mm.hdTt K85.gb4=true:=by k_qdec
theorem K85.lk4(w:World)(os:OsState):PySem.W.Fast.tw2638483497893530288 w os=PySem.W.Fast.tw13323280205298960259:=by kernel_rfl
theorem K85.la4(w:World)(os:OsState):K85.ga4 w os=K85.gb4:=(congrFun (congrFun PySem.W.Fast.te2638483497893530288 w) os).trans ((K85.lk4 w os).trans PySem.W.Fast.te13323280205298960259.symm)
noncomputable def K85.ga5(w:World)(os:OsState):=K85.hd (λh=>(openSeen K85.vw ["reckoned_plainrun","MAKES","ASKS","NEEDS","reckoned_wishes","variants","FORMS"] (importedModules K85.pw.main.body) K85.xt true ⟨h,Array.mk [],{},2310,os⟩).2.2.2.2.1) w.params
noncomputable def K85.gb5:=(openGood K85.vw ["reckoned_plainrun","MAKES","ASKS","NEEDS","reckoned_wishes","variants","FORMS"]).2.2.2.2.1
theorem K85.laya5:Mm.hdTt K85.ga5=true:=by k_qdec
theorem K85.layb5:Mm.hdTt K85.gb5=true:=by k_qdec
theorem K85.lk5(w:World)(os:OsState):PySem.W.Fast.tw17153576545950444730 w os=PySem.W.Fast.tw6918573758846188244:=by kernel_rfl
theorem K85.la5(w:World)(os:OsState):K85.ga5 w os=K85.gb5:=(congrFun (congrFun PySem.W.Fast.te17153576545950444730 w) os).trans ((K85.lk5 w os).trans PySem.W.Fast.te6918573758846188244.symm)
noncomputable def K85.pl:List ClsRec:=plainsOf K85.vw (looseW K85.vw ["reckoned_plainrun","MAKES","ASKS","NEEDS","reckoned_wishes","variants","FORMS"])
noncomputable def K85.p6(w:World)(i:Nat):=K85.hd (λh=>K85.pl[i]?.map λc=>h.plainShapeAt c.withCmp) w.params
noncomputable def K85.r6(i:Nat):=K85.pl[i]?.map λc=>some c.withCmp.plainShape
noncomputable def K85.n6:=K85.pl.length
theorem K85.lp6:Mm.hdTt K85.p6=true:=by k_qdec
theorem K85.lr6:Mm.hdTt K85.r6=true:=by k_qdec
theorem K85.ln6:Mm.hdTt K85.n6=true:=by k_qdec
theorem K85.lk6A(w:World):PySem.W.Fast.tw10464717687397248805 w 0=PySem.W.Fast.tw9617174215753917468 0/\PySem.W.Fast.tw10464717687397248805 w 1=PySem.W.Fast.tw9617174215753917468 1/\PySem.W.Fast.tw10464717687397248805 w 2=PySem.W.Fast.tw9617174215753917468 2/\PySem.W.Fast.tw10464717687397248805 w 3=PySem.W.Fast.tw9617174215753917468 3/\PySem.W.Fast.tw10464717687397248805 w 4=PySem.W.Fast.tw9617174215753917468 4/\PySem.W.Fast.tw15127662901123525903=10:=⟨by kernel_rfl,by kernel_rfl,by kernel_rfl,by kernel_rfl,by kernel_rfl,by kernel_rfl⟩
theorem K85.lk6B(w:World):PySem.W.Fast.tw10464717687397248805 w 5=PySem.W.Fast.tw9617174215753917468 5/\PySem.W.Fast.tw10464717687397248805 w 6=PySem.W.Fast.tw9617174215753917468 6/\PySem.W.Fast.tw10464717687397248805 w 7=PySem.W.Fast.tw9617174215753917468 7/\PySem.W.Fast.tw10464717687397248805 w 8=PySem.W.Fast.tw9617174215753917468 8/\PySem.W.Fast.tw10464717687397248805 w 9=PySem.W.Fast.tw9617174215753917468 9:=⟨by kernel_rfl,by kernel_rfl,by kernel_rfl,by kernel_rfl,by kernel_rfl⟩
theorem Mm.mapG{α β:Type}{f g:α->β}(l:List α)(n:Nat)(hl:l.length=n)(h:∀i,i<n->l[i]?.map f=l[i]?.map g):l.map f=l.map g:=List.ext_getElem? λi=>by
 rw[Qi,Qi];by_cases q:i<n
 ·exact h i q
 rw[List.getElem?_eq_none (by omega)];rfl
set_option maxHeartbeats 0 in
theorem K85.la6(w:World)(os:OsState):plainSeenE K85.vw (looseW K85.vw ["reckoned_plainrun","MAKES","ASKS","NEEDS","reckoned_wishes","variants","FORMS"]) ⟨K85.H1 w.params,Array.mk [],{},2310,os⟩=plainGoodE K85.vw (looseW K85.vw ["reckoned_plainrun","MAKES","ASKS","NEEDS","reckoned_wishes","variants","FORMS"]):=by
 have e1:plainSeenE K85.vw (looseW K85.vw ["reckoned_plainrun","MAKES","ASKS","NEEDS","reckoned_wishes","variants","FORMS"]) ⟨K85.H1 w.params,Array.mk [],{},2310,os⟩=K85.pl.map (λc=>(K85.H1 w.params).plainShapeAt c.withCmp):=by kernel_rfl
 have e2:plainGoodE K85.vw (looseW K85.vw ["reckoned_plainrun","MAKES","ASKS","NEEDS","reckoned_wishes","variants","FORMS"])=K85.pl.map (λc=>some c.withCmp.plainShape):=by kernel_rfl
 have q:∀i,PySem.W.Fast.tw10464717687397248805 w i=PySem.W.Fast.tw9617174215753917468 i->K85.pl[i]?.map (λc=>(K85.H1 w.params).plainShapeAt c.withCmp)=K85.pl[i]?.map (λc=>some c.withCmp.plainShape):=λi e =>
  have e3:K85.pl[i]?.map (λc=>(K85.H1 w.params).plainShapeAt c.withCmp)=K85.p6 w i:=by kernel_rfl
  have e4:K85.r6 i=K85.pl[i]?.map (λc=>some c.withCmp.plainShape):=by kernel_rfl
  e3.trans (((congrFun (congrFun PySem.W.Fast.te10464717687397248805 w) i).trans (e.trans (congrFun PySem.W.Fast.te9617174215753917468 i).symm)).trans e4)
 obtain⟨k0,k1,k2,k3,k4,kn⟩:=K85.lk6A w;obtain⟨k5,k6,k7,k8,k9⟩:=K85.lk6B w;have hn:K85.pl.length=10:=PySem.W.Fast.te15127662901123525903.trans kn;rw[e1,e2];refine Mm.mapG K85.pl 10 hn λi hi=>?_;have hi:i=0∨i=1∨i=2∨i=3∨i=4∨i=5∨i=6∨i=7∨i=8∨i=9:=by omega
 rcases hi with rfl|rfl|rfl|rfl|rfl|rfl|rfl|rfl|rfl|rfl
 ·exact q 0 k0
 ·exact q 1 k1
 ·exact q 2 k2
 ·exact q 3 k3
 ·exact q 4 k4
 ·exact q 5 k5
 ·exact q 6 k6
 ·exact q 7 k7
 ·exact q 8 k8
 exact q 9 k9
noncomputable def K85.ga7(w:World)(os:OsState):=K85.hd (λh=>(openSeen K85.vw ["reckoned_plainrun","MAKES","ASKS","NEEDS","reckoned_wishes","variants","FORMS"] (importedModules K85.pw.main.body) K85.xt true ⟨h,Array.mk [],{},2310,os⟩).2.2.2.2.2.2.1) w.params
noncomputable def K85.gb7:=(openGood K85.vw ["reckoned_plainrun","MAKES","ASKS","NEEDS","reckoned_wishes","variants","FORMS"]).2.2.2.2.2.2.1
theorem K85.laya7:Mm.hdTt K85.ga7=true:=by k_qdec
theorem K85.layb7:Mm.hdTt K85.gb7=true:=by k_qdec
theorem K85.lk7(w:World)(os:OsState):PySem.W.Fast.tw16248174500693490884 w os=PySem.W.Fast.tw7279703625906334988:=by kernel_rfl
theorem K85.la7(w:World)(os:OsState):K85.ga7 w os=K85.gb7:=(congrFun (congrFun PySem.W.Fast.te16248174500693490884 w) os).trans ((K85.lk7 w os).trans PySem.W.Fast.te7279703625906334988.symm)
noncomputable def K85.ga8(w:World)(os:OsState):=K85.hd (λh=>(openSeen K85.vw ["reckoned_plainrun","MAKES","ASKS","NEEDS","reckoned_wishes","variants","FORMS"] (importedModules K85.pw.main.body) K85.xt true ⟨h,Array.mk [],{},2310,os⟩).2.2.2.2.2.2.2.1) w.params
noncomputable def K85.gb8:=(openGood K85.vw ["reckoned_plainrun","MAKES","ASKS","NEEDS","reckoned_wishes","variants","FORMS"]).2.2.2.2.2.2.2.1
theorem K85.laya8:Mm.hdTt K85.ga8=true:=by k_qdec
theorem K85.layb8:Mm.hdTt K85.gb8=true:=by k_qdec
theorem K85.lk8(w:World)(os:OsState):PySem.W.Fast.tw5649600656586142590 w os=PySem.W.Fast.tw10144046883827340185:=by kernel_rfl
theorem K85.la8(w:World)(os:OsState):K85.ga8 w os=K85.gb8:=(congrFun (congrFun PySem.W.Fast.te5649600656586142590 w) os).trans ((K85.lk8 w os).trans PySem.W.Fast.te10144046883827340185.symm)
noncomputable def K85.ga9(w:World)(os:OsState):=K85.hd (λh=>(openSeen K85.vw ["reckoned_plainrun","MAKES","ASKS","NEEDS","reckoned_wishes","variants","FORMS"] (importedModules K85.pw.main.body) K85.xt true ⟨h,Array.mk [],{},2310,os⟩).2.2.2.2.2.2.2.2) w.params
noncomputable def K85.gb9:=(openGood K85.vw ["reckoned_plainrun","MAKES","ASKS","NEEDS","reckoned_wishes","variants","FORMS"]).2.2.2.2.2.2.2.2
theorem K85.laya9:Mm.hdTt K85.ga9=true:=by k_qdec
theorem K85.layb9:Mm.hdTt K85.gb9=true:=by k_qdec
theorem K85.lk9(w:World)(os:OsState):PySem.W.Fast.tw17978268172174684590 w os=PySem.W.Fast.tw4415760242216028672:=by kernel_rfl
theorem K85.la9(w:World)(os:OsState):K85.ga9 w os=K85.gb9:=(congrFun (congrFun PySem.W.Fast.te17978268172174684590 w) os).trans ((K85.lk9 w os).trans PySem.W.Fast.te4415760242216028672.symm)
noncomputable def K85.oa(w:World):List (Option Obj):=K85.hd (λh=>K85.as.map h.get?) w.params
theorem K85.layo:Mm.hdTt K85.oa=true:=by k_qdec
noncomputable def K85.hv(w:World):List (Option Obj):=(K85.pre.heap_1 w.params).map λp=>some p.2
theorem K85.lba(w:World):List.take 250 (List.drop 0 (PySem.W.Fast.tw13496120314479060478 w))=Mm.tk 250 (Mm.dp 0 (K85.hv w)):=by kernel_rfl
theorem K85.lbb(w:World):List.take 150 (List.drop 250 (PySem.W.Fast.tw13496120314479060478 w))=Mm.tk 150 (Mm.dp 250 (K85.hv w)):=by kernel_rfl
theorem K85.lbc(w:World):List.take 120 (List.drop 400 (PySem.W.Fast.tw13496120314479060478 w))=Mm.tk 120 (Mm.dp 400 (K85.hv w)):=by kernel_rfl
theorem K85.lbd(w:World):List.take 100 (List.drop 520 (PySem.W.Fast.tw13496120314479060478 w))=Mm.tk 100 (Mm.dp 520 (K85.hv w)):=by kernel_rfl
theorem K85.lbe(w:World):List.take 90 (List.drop 620 (PySem.W.Fast.tw13496120314479060478 w))=Mm.tk 90 (Mm.dp 620 (K85.hv w)):=by kernel_rfl
theorem K85.lbf(w:World):List.take 90 (List.drop 710 (PySem.W.Fast.tw13496120314479060478 w))=Mm.tk 90 (Mm.dp 710 (K85.hv w)):=by kernel_rfl
theorem K85.lbg(w:World):List.drop 800 (PySem.W.Fast.tw13496120314479060478 w)=Mm.dp 800 (K85.hv w):=by kernel_rfl
theorem K85.lb(w:World):PySem.W.Fast.tw13496120314479060478 w=K85.hv w:=Mm.tkd 0 250 (K85.lba w) (Mm.tkd 250 150 (K85.lbb w) (Mm.tkd 400 120 (K85.lbc w) (Mm.tkd 520 100 (K85.lbd w) (Mm.tkd 620 90 (K85.lbe w) (Mm.tkd 710 90 (K85.lbf w) (Mm.tke 800 (K85.lbg w)))))))
theorem Mm.pe{a b:Type}{x y:a×b}(h:x.1=y.1)(k:x.2=y.2):x=y:=Prod.ext h k
set_option maxHeartbeats 0 in
theorem K85.left:LeftO K85.pw K85.vw ["reckoned_plainrun","MAKES","ASKS","NEEDS","reckoned_wishes","variants","FORMS"] K85.xt (kHook K85.pre.heap_1 K85.as K85.ase).obs (kHook K85.pre.heap_1 K85.as K85.ase).val 20038:=by refine LeftO.of_pieces (M:=(12+(1+(2880+(2829+(1746+(2505+2))))))) K85.boot K85.size K85.run (by decide) λw=>funext λos=>?_;have h2:=(congrFun PySem.W.Fast.te13496120314479060478 w).trans (K85.lb w);exact congr (congrArg Prod.mk (K85.la0 w os)) (congr (congrArg Prod.mk (Mm.pe (K85.la1 w os) (Mm.pe (K85.la2 w os) (Mm.pe (K85.la3 w os) (Mm.pe (K85.la4 w os) (Mm.pe (K85.la5 w os) (Mm.pe (K85.la6 w os) (Mm.pe (K85.la7 w os) (Mm.pe (K85.la8 w os) (K85.la9 w os)))))))))) h2)
end
namespace L2
open PySem PySem.Spec PyProof.Rows
abbrev aV:=Sum Int Str
noncomputable def jk:aV->Value->Bool
 |.inl k,v=>Value.isInt k v
 |.inr x,v=>Value.isStrOf x v
noncomputable def we(w:World):aV->Int
 |.inl k=>hashInt k
 |.inr x=>hashStr w x
theorem d9:∀{k:aV} {v:Value},jk k v=true->(∃i t,k=Sum.inl i/\v=Value.int i t)∨(∃x t,k=Sum.inr x/\v=Value.str x t)
 |.inl i,v,h=>by obtain⟨t,e⟩:=Value.isInt_shape (k:=i) (v:=v) h;exact .inl ⟨i,t,rfl,e⟩
 |.inr x,v,h=>by obtain⟨t,e⟩:=Value.isStrOf_shape (x:=x) (v:=v) h;exact .inr ⟨x,t,rfl,e⟩
theorem wf(x:Str)(t:Tok):jk (.inr x) (.str x t)=true:=by simp[jk,Value.isStrOf]
theorem wg(a b:Int):decide ((Sum.inl a:aV)=Sum.inl b)=(a==b):=by
 by_cases e:a=b
 ·subst e;simp
 have h:¬(Sum.inl a:aV)=Sum.inl b:=λq=>e (Sum.inl.inj q);rw[Qd h];exact(beq_eq_false_iff_ne.mpr e).symm
theorem wj(a b:Str):decide ((Sum.inr a:aV)=Sum.inr b)=decide (a=b):=by
 by_cases e:a=b
 ·subst e;simp
 have h:¬(Sum.inr a:aV)=Sum.inr b:=λq=>e (Sum.inr.inj q);rw[Qd h,Qd e]
theorem wk(a:Int)(b:Str):decide ((Sum.inl a:aV)=Sum.inr b)=false:=Qd (λq=>nomatch q)
theorem wl(a:Str)(b:Int):decide ((Sum.inr a:aV)=Sum.inl b)=false:=Qd (λq=>nomatch q)
noncomputable def dX(prog:Program)(w:World):PySem.KeyKind prog w aV where
 is:=jk
 hash:=we w
 inj:=λv a b ha hb=>by
  rcases d9 ha with ⟨i,t,rfl,rfl⟩|⟨x,t,rfl,rfl⟩
  ·rcases d9 hb with ⟨j,u,rfl,e⟩|⟨y,u,rfl,e⟩
   ·injection e with e1 _;rw[e1]
   exact nomatch e
  rcases d9 hb with ⟨j,u,rfl,e⟩|⟨y,u,rfl,e⟩
  ·exact nomatch e
  injection e with e1 _;rw[e1]
 byValue:=λk v h=>by rcases d9 h with ⟨i,t,rfl,rfl⟩|⟨x,t,rfl,rfl⟩<;>rfl
 pyHash:=λhv h=>by
  rcases d9 hv with ⟨i,t,rfl,rfl⟩|⟨x,t,rfl,rfl⟩
  ·exact wpAny_pyHash_int h
  exact wpAny_pyHash_str h
 eqBool:=λhu hv h=>by
  rcases d9 hu with ⟨i,t,rfl,rfl⟩|⟨x,t,rfl,rfl⟩
  ·rcases d9 hv with ⟨j,u,rfl,rfl⟩|⟨y,u,rfl,rfl⟩
   ·rw[wg] at h;exact wpAny_eqBool_int h
   rw[wk] at h;exact SeqAt.EqAt.int_str i t y u _ _ _ _ h
  rcases d9 hv with ⟨j,u,rfl,rfl⟩|⟨y,u,rfl,rfl⟩
  ·rw[wl] at h;exact SeqAt.EqAt.str_int x t j u _ _ _ _ h
  rw[wj] at h;exact wpAny_eqBool_str h
 «strs»:=λk x t v h=>by
  rcases d9 h with ⟨i,u,rfl,e⟩|⟨y,u,rfl,e⟩
  ·exact nomatch e
  injection e with e1 _;subst e1;cases v<;>rfl
theorem eN(prog:Program)(w:World)(x:Str)(t:Tok):(dX prog w).is (.inr x) (.str x t)=true:=wf x t
inductive V where
 |non|bl (b:Bool)|int (i:Int)|str (x:Str)|byt (b:Array UInt8)|flt (b:UInt64)|ref (a:Addr)|ty (n:String)
 deriving DecidableEq
def RelV:V->Value->Prop
 |.non,u=>u=Value.none
 |.bl b,u=>u=Value.bool b
 |.int i,u=>∃t,u=Value.int i t
 |.str x,u=>∃t,u=Value.str x t
 |.byt b,u=>∃t,u=Value.bytes b t
 |.flt b,u=>∃t,u=Value.float b t
 |.ref a,u=>u=Value.ref a
 |.ty n,u=>u=Value.type n
abbrev aG:List V->List Value->Prop:=Paired RelV
theorem aG.length{xs:List V}{us:List Value}(r:aG xs us):xs.length=us.length:=Paired.length r
theorem aG.get:∀{xs:List V} {us:List Value} {i:Nat} {x:V},aG xs us->xs[i]?=some x->∃u,us[i]?=some u/\RelV x u
 |_,_,_,_,.nil,e=>by simp at e
 |_,_,0,_,.cons r _,e=>by simp at e;subst e;exact⟨_,rfl,r⟩
 |_,_,i+1,x,.cons _ t,e=>by obtain⟨u,h1,h2⟩:=aG.get (i:=i) (x:=x) t (by simpa using e);exact⟨u,by simpa using h1,h2⟩
theorem aG.append:∀{xs ys:List V} {us ws:List Value},aG xs us->aG ys ws->aG (xs++ys) (us++ws)
 |_,_,_,_,.nil,s=>s
 |_,_,_,_,.cons r t,s=>.cons r (aG.append t s)
theorem aG.take:∀{xs:List V} {us:List Value} (n:Nat),aG xs us->aG (xs.take n) (us.take n)
 |_,_,0,_=>.nil
 |_,_,_+1,.nil=>.nil
 |_,_,n+1,.cons r t=>.cons r (aG.take n t)
theorem aG.drop:∀{xs:List V} {us:List Value} (n:Nat),aG xs us->aG (xs.drop n) (us.drop n)
 |_,_,0,r=>r
 |_,_,_+1,.nil=>.nil
 |_,_,n+1,.cons _ t=>aG.drop n t
def cn:Option V->Option Value->Prop
 |some v,some u=>RelV v u
 |none,none=>True
 |_,_=>False
def KV{κ:Type}:List (κ×V)->List (κ×Value)->Prop:=Paired λ(p:κ×V) (q:κ×Value)=>p.1=q.1/\RelV p.2 q.2
noncomputable def kV:aV->V
 |.inl i=>.int i
 |.inr x=>.str x
inductive HO where
 |lst (xs:List V)
 |tup (xs:List V)
 |dK (CK:List (aV×V))|dT (CK:List (List aV×V))
 |set (S:Int->Bool) (n:Nat)
 |ins (C dx:Addr) (fs:List (Str×V))
 |own (x:Addr)
 |xd (fs:List (Str×V))
 |met (f x:Addr)
 |rng (lo hi:Int)
 |frz (o:Obj) (u:HO)
 |tbl (ps:Array Value)
 |ext (φ:Heap->Prop)
abbrev Hp:=Addr->Option HO
noncomputable def ai(H:Hp)(a:Addr)(o:HO):Hp:=λb=>if b=a then some o else H b
theorem af{H:Hp}{a:Addr}{o:HO}:ai H a o a=some o:=by unfold ai;rw[if_pos rfl]
theorem am{H:Hp}{a b:Addr}{o:HO}(h:b≠a):ai H a o b=H b:=by unfold ai;rw[if_neg h]
theorem gw{H:Hp}{a:Addr}{o u:HO}:ai (ai H a o) a u=ai H a u:=by funext b;unfold ai;split<;>rfl
theorem dI{H:Hp}{a b:Addr}{o u:HO}(h:H a=some o)(h':H b=some u)(d:o≠u):a≠b:=by intro e;subst e;rw[h] at h';exact d (Qw h')
theorem aH{H:Hp}{a b:Addr}{o:HO}(h:H a=some o)(h':H b=none):a≠b:=by intro e;subst e;rw[h] at h';cases h'
def wm(h:Heap)(a:Addr):Prop:=∃o:Obj,h.get? a=some o/\o.dict=none
section
variable (P:Program)(w:World)
def bj(H:Hp)(h:Heap)(a:Addr):HO->Prop
 |.lst xs=>xs.length<=sizeLine/\∃(its:List Value) (n:Nat),aG xs its/\h.get? a=some {cls:=.type "list",data:=.seq its.toArray n}
 |.tup xs=>xs.length<=sizeLine/\∃its:List Value,aG xs its/\IsTup h a its.toArray/\wm h a
 |.dK CK=>CK.length<=sizeLine/\(a==sysModules)=false/\∃vs,KV CK vs/\h.DictOf (dX P w) a vs
 | .dT CK=>CK.length<=sizeLine/\(a == sysModules)=false/\∃ xs:List (List aV × Addr × Value),
   Paired (λ(p:List aV×V) (q:List aV×Addr×Value)=>p.1=q.1/\H q.2.1=some (.tup (p.1.map kV))/\RelV p.2 q.2.2) CK xs /\
   ∃o es ep,h.get? a=some o/\o.ExactDict/\o.data=.dict es ep/\es.toList=xs.map (entryOfKey (tupleKind (dX P w)))/\(xs.map (·.1)).Nodup
 |.set S n=>h.SetOf (intKind P w) a S n
 | .ins C dx fs=>H dx=some (.own a)/\fs.length<=1000/\dx≠a/\h.get? a=some (PySem.W.instObj C dx) /\
   ∃mA,h.Ns1 dx mA/\(∀f,cn (fs.lookup f) (mA f))/\PySem.Within mA (fs.map (·.1))
 |.own _=>∃o,h.get? a=some o
 |.xd fs=>∃mA,h.Ns1 a mA/\∀f,cn (fs.lookup f) (mA f)
 |.rng lo hi=>∃t u v,h.get? a=some {cls:=.type "range",data:=.fields #[.int lo t,.int hi u,.int 1 v]}
 |.frz o u=>h.get? a=some o/\bj H h a u
 |.tbl ps=>h.get? a=some {cls:=.none,data:=.fields ps}
 |.met f x=>h.get? a=some (PySem.W.methodObj (.ref f) (.ref x))
 |.ext φ=>φ h/\(∃o,h.get? a=some o)/\∀h1 h2:Heap,φ h1->(∀o,h1.get? a=some o->h2.get? a=some o)->φ h2
def bp(H:Hp)(h:Heap):Prop:=∀a o,H a=some o->bj P w H h a o
end
section
variable {P:Program}{w:World}{H H':Hp}{h h':Heap}{a:Addr}{o:HO}
theorem bj.lt(x:bj P w H h a o):a<h.objs.size:=by
 cases o with
 |lst xs=>obtain⟨_,_,_,_,e⟩:=x;exact Qm e
 |tup xs=>obtain⟨_,_,_,p,_⟩:=x;exact p.lt
 |dK CK=>obtain⟨_,_,_,_,o,_,_,e,_⟩:=x;exact Qm e
 |dT CK=>obtain⟨_,_,_,_,o,_,_,e,_⟩:=x;exact Qm e
 |set S n=>obtain⟨o,_,_,_,e,_⟩:=x;exact Qm e
 |ins C dx fs=>obtain⟨_,_,_,e,_⟩:=x;exact Qm e
 |own y=>obtain⟨_,e⟩:=x;exact Qm e
 |xd fs=>obtain⟨_,⟨_,_,_,e,_⟩,_⟩:=x;exact Qm e
 |rng lo hi=>obtain⟨_,_,_,e⟩:=x;exact Qm e
 |frz ob u=>obtain⟨e,_⟩:=x;exact Qm e
 |tbl ps=>exact Qm (show h.get? a=some _ from x)
 |met f y=>exact Qm (show h.get? a=some _ from x)
 |ext φ=>obtain⟨_,⟨_,e⟩,_⟩:=x;exact Qm e
theorem Paired.mapP{α β:Type}{F G:α->β->Prop}:∀{l₁:List α} {l₂:List β},Paired F l₁ l₂->(∀a b,F a b->G a b)->Paired G l₁ l₂
 |_,_,.nil,_=>.nil
 |_,_,.cons r t,f=>.cons (f _ _ r) (Paired.mapP t f)
theorem bj.stay(x:bj P w H h a o)(k:∀b u,(b=a∨H b=some (.own a))->h.get? b=some u->h'.get? b=some u)
  (ho:∀b,H b=some (.own a)->H' b=some (.own a)) (ht:∀b xs,H b=some (.tup xs)->H' b=some (.tup xs)):bj P w H' h' a o:=by
 induction o with
 |lst xs=>obtain⟨z,its,n,r,e⟩:=x;exact⟨z,its,n,r,k _ _ (.inl rfl) e⟩
 |tup xs=>obtain⟨z,its,r,⟨ob,e,c⟩,ob2,e2,c2⟩:=x;exact⟨z,its,r,⟨ob,k _ _ (.inl rfl) e,c⟩,ob2,k _ _ (.inl rfl) e2,c2⟩
 |dK CK=>obtain⟨z,y,vs,r,ob,es,ep,e,c⟩:=x;exact⟨z,y,vs,r,ob,es,ep,k _ _ (.inl rfl) e,c⟩
 |dT CK =>
  obtain⟨z,y,xs,r,ob,es,ep,e,c⟩:=x;exact⟨z,y,xs,Paired.mapP r λp q z=>⟨z.1,ht _ _ z.2.1,z.2.2⟩,ob,es,ep,k _ _ (.inl rfl) e,c⟩
 |set S n=>obtain⟨ob,es,ep,t,e,c⟩:=x;exact⟨ob,es,ep,t,k _ _ (.inl rfl) e,c⟩
 |ins C dx fs =>
  obtain⟨d,z,ne,e,mA,⟨od,es,ep,e2,c⟩,r⟩:=x;exact⟨ho _ d,z,ne,k _ _ (.inl rfl) e,mA,⟨od,es,ep,k _ _ (.inr d) e2,c⟩,r⟩
 |own y=>obtain⟨ob,e⟩:=x;exact⟨ob,k _ _ (.inl rfl) e⟩
 |xd fs=>obtain⟨mA,⟨od,es,ep,e,c⟩,r⟩:=x;exact⟨mA,⟨od,es,ep,k _ _ (.inl rfl) e,c⟩,r⟩
 |rng lo hi=>obtain⟨t,u,v,e⟩:=x;exact⟨t,u,v,k _ _ (.inl rfl) e⟩
 |frz ob u ih=>obtain⟨e,q⟩:=x;exact⟨k _ _ (.inl rfl) e,ih q⟩
 |tbl ps =>
  have e:h.get? a=some {cls:=.none,data:=.fields ps}:=x;show h'.get? a=some {cls:=.none,data:=.fields ps};exact k a _ (.inl rfl) e
 |met f y =>
  have e:h.get? a=some (PySem.W.methodObj (.ref f) (.ref y)):=x;show h'.get? a=some (PySem.W.methodObj (.ref f) (.ref y));exact k a _ (.inl rfl) e
 |ext φ=>obtain⟨p,⟨o,e⟩,st⟩:=x;exact⟨st _ _ p λo q=>k _ _ (.inl rfl) q,⟨o,k _ _ (.inl rfl) e⟩,st⟩
theorem bp.lt(x:bp P w H h)(e:H a=some o):a<h.objs.size:=(x a o e).lt
theorem bp.fresh(x:bp P w H h)(e:h.objs.size<=a):H a=none:=by
 cases q:H a with
 |none=>rfl
 |some u=>exact absurd (Qe (x.lt q) e) (QN _)
theorem bp.kept(x:bp P w H h)(k:∀b u,h.get? b=some u->h'.get? b=some u):bp P w H h':=λa o e =>
 (x a o e).stay (λb u _ q=>k b u q) (λ_ q=>q) λ_ _ q=>q
theorem bp.laid(x:bp P w H h)(k:∀b u,h.get? b=some u->h'.get? b=some u)(hp:h.objs.size<=a)(new:bj P w (ai H a o) h' a o):bp P w (ai H a o) h':=λb u e=>by
 have hn:=x.fresh hp;by_cases hb:b=a
 ·subst hb;rw[af] at e;cases e;exact new
 rw[am hb] at e;exact(x b u e).stay (λc v _ q=>k c v q) (λc q=>by rw[am (aH q hn)];exact q) λc xs q=>by rw[am (aH q hn)];exact q
end
def Rd(H:Hp)(a:Addr)(u:HO):Prop:=H a=some u∨∃o,H a=some (.frz o u)
theorem Rd.ok{P:Program}{w:World}{H:Hp}{h:Heap}{a:Addr}{u:HO}(r:Rd H a u)(x:bp P w H h):bj P w H h a u:=by
 rcases r with r|⟨o,r⟩
 ·exact x a u r
 obtain⟨_,q⟩:=x a _ r;exact q
def jm:Option HO->Prop
 |some (.lst _)=>True
 |some (.dK _)=>True
 |some (.dT _)=>True
 |some (.set _ _)=>True
 |some (.ins _ _ _)=>True
 |some (.ext _)=>True
 |_=>False
section
variable {P:Program}{w:World}{H:Hp}{h h':Heap}{x e:Addr}{o':HO}
theorem bp.write(ok:bp P w H h)(mu:jm (H x))(he:e=x∨H e=some (.own x))(k:∀b u,b≠e->h.get? b=some u->h'.get? b=some u)(heo:∃u,h'.get? e=some u)
  (new:bj P w (ai H x o') h' x o'):bp P w (ai H x o') h':=λb u q=>by
 have nown:∀c y,H c=some (.own y)->c≠x:=λc y r z=>by subst z;rw[r] at mu;exact mu
 have ntup:∀c xs,H c=some (.tup xs)->c≠x:=λc xs r z=>by subst z;rw[r] at mu;exact mu
 by_cases hb:b=x
 ·subst hb;rw[af] at q;cases q;exact new
 rw[am hb] at q;by_cases hbe:b=e
 ·have q':H b=some (.own x):=by
   rcases he with z|z
   ·exact absurd (hbe.trans z) hb
   rw[hbe];exact z
  rw[q] at q';cases q';obtain⟨v,hv⟩:=heo;exact⟨v,by rw[hbe];exact hv⟩
 refine(ok b u q).stay (λc v hc r=>k c v ?_ r) (λc r=>by rw[am (nown c b r)];exact r) λc xs r=>by rw[am (ntup c xs r)];exact r
 rcases hc with rfl|hc
 ·exact hbe
 rintro rfl;rcases he with z|z
 ·exact nown c b hc z
 rw[hc] at z;cases z;exact hb rfl
end
structure Un(fs ex:List Addr)(H H':Hp)(h h':Heap):Prop where
 keep:∀b o,h.get? b=some o->H b=none->b∉fs->b∉ex->h'.get? b=some o
 slot:∀b o,h.get? b=some o->H b=none->b∈fs->b∉ex->∃sl,h'.get? b=some {o with slots:=sl}
 free:∀b o,h.get? b=some o->H b=none->b∉ex->H' b=none
 there:∀b o,h.get? b=some o->b∉ex->∃o',h'.get? b=some o'
 tups:∀b xs,H b=some (.tup xs)->H' b=some (.tup xs)
 frzs:∀b o u,H b=some (.frz o u)->H' b=some (.frz o u)
 tbls:∀b ps,H b=some (.tbl ps)->∃more,H' b=some (.tbl (ps++more))
section
variable {fs fs' ex ex':List Addr}{H H1 H2:Hp}{h h1 h2 h':Heap}{a x e:Addr}{o:HO}
theorem Un.any(u:Un fs ex H H1 h h1){b:Addr}{ob:Obj}(q:h.get? b=some ob)(n:H b=none)(hx:b∉ex):∃sl,h1.get? b=some {ob with slots:=sl}:=by
 by_cases hb:b∈fs
 ·exact u.slot b ob q n hb hx
 exact⟨ob.slots,u.keep b ob q n hb hx⟩
theorem Un.kept(k:∀b u,h.get? b=some u->h'.get? b=some u):Un fs ex H H h h':=
 ⟨λb ob q _ _ _=>k b ob q,λb ob q _ _ _=>⟨ob.slots,k b ob q⟩,λ_ _ _ n _=>n,λb ob q _=>⟨ob,k b ob q⟩,λ_ _ q=>q,λ_ _ _ q=>q,λ_ ps q=>⟨#[],by rw[q];simp⟩⟩
theorem Un.refl:Un fs ex H H h h:=Un.kept λ_ _ q=>q
theorem Un.laid(k:∀b u,h.get? b=some u->h'.get? b=some u)(hp:h.objs.size<=a)(hn:H a=none):Un fs ex H (ai H a o) h h' where
 keep:=λb u q _ _ _=>k b u q
 slot:=λb u q _ _ _=>⟨u.slots,k b u q⟩
 free:=λb u q n _=>by rw[am (Qy (Qe (Qm q) hp))];exact n
 there:=λb u q _=>⟨u,k b u q⟩
 tups:=λb xs q=>by rw[am (aH q hn)];exact q
 frzs:=λb u xs q=>by rw[am (aH q hn)];exact q
 tbls:=λb ps q=>⟨#[],by rw[am (aH q hn),q];simp⟩
theorem Un.write(mu:jm (H x))(he:e=x∨H e=some (.own x))(k:∀b u,b≠e->h.get? b=some u->h'.get? b=some u)(heo:∃u,h'.get? e=some u):Un fs ex H (ai H x o) h h':=by
 have hx:∀b,H b=none->b≠x:=λb n z=>by subst z;rw[n] at mu;exact mu
 have hb:∀b,H b=none->b≠e:=λb n z=>by
  subst z;rcases he with r|r
  ·exact hx b n r
  rw[n] at r;cases r
 have hm:∀b u,H b=some u->¬jm (some u)->b≠x:=λb u q nm z=>by subst z;rw[q] at mu;exact nm mu
 refine⟨λb u q n _ _=>k b u (hb b n) q,λb u q n _ _=>⟨u.slots,k b u (hb b n) q⟩,λb u q n _=>by rw[am (hx b n)];exact n,λb u q _=>?_,
  λb xs q=>by rw[am (hm b _ q λz=>z)];exact q,λb u xs q=>by rw[am (hm b _ q λz=>z)];exact q,λb ps q=>⟨#[],by rw[am (hm b _ q λz=>z),q];simp⟩⟩
 by_cases hbe:b=e
 ·subst hbe;exact heo
 exact⟨u,k b u hbe q⟩
end
noncomputable def bN(h:Heap)(H:Hp):List Addr:=(List.range h.objs.size).filter λa=>(H a).isSome
noncomputable def ee(h:Heap)(H:Hp):Heap:=PySem.W.hideAll h (bN h H)
theorem wn(h:Heap)(H:Hp):(ee h H).objs.size=h.objs.size:=PySem.W.hideAll_size _ _
theorem wo{h:Heap}{H:Hp}{b:Addr}{o:Obj}(e:h.get? b=some o)(n:H b=none):(ee h H).get? b=some o:=
 PySem.W.hideAll_get _ e λhm=>by have q:(H b).isSome=true:=(List.mem_filter.mp hm).2;rw[n] at q;simp at q
theorem wp{h:Heap}{H:Hp}{b:Addr}{o:Obj}(e:(ee h H).get? b=some o):h.get? b=some o/\H b=none:=by
 have e':h.get? b=some o:=PySem.W.of_hideAll (bN h H) e;refine⟨e',?_⟩
 cases q:H b with
 |none=>rfl
 |some x =>
  have hm:b∈bN h H:=List.mem_filter.mpr ⟨List.mem_range.mpr (Qm e'),by simp[q]⟩;have z:(ee h H).get? b=none:=PySem.W.hideAll_none (bN h H) hm;rw[z] at e;cases e
structure Mod(K:W.Frag)(mg:Str->Option Value)(base:Heap):Prop where
 kin:K.In base
 glob:base.Ns mainGlobals mg
 blt:∃mb,base.Ns builtinsNs mb/\∀x:Str,x≠"__name__"->mb x=bootBuiltins x
 nolimit:base.NoLimit
structure Cx where
 prog:Program
 w:World
 K:W.Frag
 mg:Str->Option Value
 base:Heap
 A:Around
 N:List Str
 s₀:Shared
 H₀:Hp
 env:Env
 outer:List Env
 stack:List Env
 ex:List Addr
 fn:Str->Bool
 calm:Bool
 pn:List (Addr×Obj)
 xe:Value->Shared->Prop
noncomputable def frs(l:List Env):List Addr:=l.filterMap (·.frame)
noncomputable abbrev Cx.fs(X:Cx):List Addr:=frs X.outer
def kM(sc:Scope)(x:Str):Prop:=sc.names.lookup x=some .local∨sc.names.lookup x=some .cell∨sc.names.lookup x=some .free
def Loc(sc:Scope)(x:Str):Prop:=sc.names.lookup x=some .local∨sc.names.lookup x=some .cell
def Look(env:Env)(h:Heap)(m:Str->Option Value)(x:Str)(u:Value):Prop:=
 (env.kindOf x=some .local/\m x=some u)∨((env.kindOf x=some .cell∨env.kindOf x=some .free)/\∃c,env.cells.lookup x=some c/\h.IsCell c (some u))
structure Cx.Ok(X:Cx):Prop where
 mod:Mod X.K X.mg X.base
 kind:X.env.scope.kind=.function
 glob:X.env.globals=mainGlobals
 blt:X.env.builtins=builtinsNs
 above:X.s₀.heap.objs.size<=X.env.locals
 inj:∀x y c,X.env.cells.lookup x=some c->X.env.cells.lookup y=some c->x=y
 has:∀x,(X.env.kindOf x=some .cell∨X.env.kindOf x=some .free)->∃c,X.env.cells.lookup x=some c
 cab:∀x c,X.fn x=true->X.env.cells.lookup x=some c->X.s₀.heap.objs.size<=c
 hd:X.calm=true->X.A.handled=none
 frames:X.A.frames=some X.stack
 stk:X.stack=X.outer∨(X.stack=X.env::X.outer/\X.env.frame=some X.env.locals)
 exf:∀b∈X.ex,b≠X.env.locals/\∀x c,X.env.cells.lookup x=some c->c≠b
 bs:∀b o,X.base.get? b=some o->X.s₀.heap.get? b=some o/\X.H₀ b=none
 bsz:X.base.objs.size<=X.s₀.heap.objs.size
 noex:∀b o,X.base.get? b=some o->b∉X.ex
 exfs:∀b∈X.ex,b∉X.fs
 funs:X.s₀.heap.FunFrames X.base X.outer
 frf:∀b∈X.fs,X.H₀ b=none
structure Inv(X:Cx)(kb:List (Addr×Obj))(σ:List (Option V))(H:Hp)(s:Shared):Prop where
 ok:X.Ok
 os:s.os=X.s₀.os
 bare:AllBare s.gens
 base:Un X.fs X.ex X.H₀ H X.s₀.heap s.heap
 loc:∃m,s.heap.Ns X.env.locals m/\∀(i:Nat) (x:Str) (v:V),X.N[i]?=some x->σ[i]?=some (some v)->kM X.env.scope x->∃u,RelV v u/\Look X.env s.heap m x u
 cell:∀x c,X.env.cells.lookup x=some c->∃v,s.heap.IsCell c v
 free:H X.env.locals=none
 freeC:∀x c,X.env.cells.lookup x=some c->H c=none
 pin:∀p∈X.pn++kb,s.heap.get? p.1=some p.2/\H p.1=none/\p.1≠X.env.locals/\p.1∉X.fs/\∀v,p.2.data≠.cell v
 hok:bp X.prog X.w H s.heap
 len:σ.length=X.N.length
section
variable {X:Cx}{kb:List (Addr×Obj)}{σ:List (Option V)}{H H':Hp}{s:Shared}{h':Heap}
theorem Cx.Ok.nofr(ok:X.Ok){b:Addr}{o:Obj}(e:X.base.get? b=some o):b∉X.fs:=λhb=>by have:=(ok.funs.mem hb).1;rw[e] at this;cases this
theorem Inv.bs(I:Inv X kb σ H s):∀b o,X.base.get? b=some o->s.heap.get? b=some o/\H b=none:=λb o e =>
 ⟨I.base.keep b o (I.ok.bs b o e).1 (I.ok.bs b o e).2 (I.ok.nofr e) (I.ok.noex b o e),I.base.free b o (I.ok.bs b o e).1 (I.ok.bs b o e).2 (I.ok.noex b o e)⟩
theorem Inv.bk(I:Inv X kb σ H s):∀b o,X.base.get? b=some o->s.heap.get? b=some o:=λb o e=>(I.bs b o e).1
theorem Inv.mod(I:Inv X kb σ H s):Mod X.K X.mg X.base:=I.ok.mod
theorem Inv.kIn(I:Inv X kb σ H s):X.K.In s.heap:=I.ok.mod.kin.keeps I.bk
theorem Inv.lt(I:Inv X kb σ H s):X.env.locals<s.heap.objs.size:=by obtain⟨_,hn,_⟩:=I.loc;exact hn.lt
theorem Inv.sz(I:Inv X kb σ H s):X.s₀.heap.objs.size<=s.heap.objs.size:=Qg I.ok.above (QG I.lt)
theorem Inv.nofs(I:Inv X kb σ H s){a:Addr}(h:s.heap.objs.size<=a):a∉X.fs:=λhb=>by obtain⟨_,o,ho,_⟩:=I.ok.funs.mem hb;exact absurd (Qe (Qm ho) (Qg I.sz h)) (QN _)
theorem Inv.cne(I:Inv X kb σ H s):∀x c,X.env.cells.lookup x=some c->c≠X.env.locals:=λx c e z=>by obtain⟨v,o,ho,hd⟩:=I.cell x c e;obtain⟨m,⟨o',es,ep,ho',hd',_⟩,_⟩:=I.loc;rw[z,ho'] at ho;cases ho;rw[hd'] at hd;cases hd
theorem Inv.funs(I:Inv X kb σ H s):s.heap.FunFrames X.base X.outer:=by
 have all:∀(l:List Env),(∀b∈frs l,b∈X.fs)->X.s₀.heap.FunFrames X.base l->s.heap.FunFrames X.base l:=by
  intro l
  induction l with
  |nil=>intro _ _;trivial
  |cons env r ih =>
   intro hs hl;obtain⟨hk,⟨L,o,hf,hn,ho,hd⟩,hr⟩:=hl;have hL:L∈X.fs:=hs L (by unfold frs;rw[List.filterMap_cons,hf];exact Qp);obtain⟨sl,e⟩:=I.base.slot L o ho (I.ok.frf L hL) hL λz=>I.ok.exfs L z hL;exact⟨hk,⟨L,_,hf,hn,e,hd⟩,ih (λb hb=>hs b (by unfold frs;rw[List.filterMap_cons,hf];exact Qr _ hb)) hr⟩
 exact all X.outer (λ_ hb=>hb) I.ok.funs
theorem Inv.stack(I:Inv X kb σ H s):s.heap.FunFrames X.base X.stack:=by
 rcases I.ok.stk with e|⟨e,hf⟩
 ·rw[e];exact I.funs
 rw[e];obtain⟨m,hn,_⟩:=I.loc;refine .cons (by rw[I.ok.kind];decide) hf hn ?_ I.funs;exact Heap.get?_none_of_le (Qg I.ok.bsz I.ok.above)
theorem Inv.stkSub(I:Inv X kb σ H s):∀b∈frs X.stack,b∈X.env.locals::X.fs:=λb hb=>by
 rcases I.ok.stk with e|⟨e,hf⟩
 ·rw[e] at hb;exact Qr _ hb
 rw[e] at hb;unfold frs at hb;rw[List.filterMap_cons,hf] at hb;exact hb
theorem Inv.stkFree(I:Inv X kb σ H s):∀b∈frs X.stack,H b=none:=λb hb=>by
 rcases Qs (I.stkSub b hb) with e|hb
 ·rw[e];exact I.free
 obtain⟨_,o,ho,_⟩:=I.ok.funs.mem hb;exact I.base.free b o ho (I.ok.frf b hb) λz=>I.ok.exfs b z hb
theorem Inv.step{g':Array GenState}{t':Nat}{d':Drawn}{ch:List Addr}(I:Inv X kb σ H s)
  (hch:∀b∈ch,(b∈X.ex∨X.s₀.heap.objs.size<=b)/\b≠X.env.locals/\(∀x c,X.env.cells.lookup x=some c->c≠b)/\∀p∈X.pn++kb,p.1≠b)
  (keep:∀b o,b≠X.env.locals->b∉X.fs->b∉ch->s.heap.get? b=some o->H b=none->h'.get? b=some o)
  (slot:∀b o,b≠X.env.locals->b∈X.fs->b∉ch->s.heap.get? b=some o->H b=none->∃sl,h'.get? b=some {o with slots:=sl}) (free:∀b o,b∉ch->s.heap.get? b=some o->H b=none->H' b=none)
  (there:∀b o,b∉ch->s.heap.get? b=some o->∃o',h'.get? b=some o')
  (tups:∀b xs,H b=some (.tup xs)->H' b=some (.tup xs)) (frzs:∀b o u,H b=some (.frz o u)->H' b=some (.frz o u)) (tbls:∀b ps,H b=some (.tbl ps)->∃more,H' b=some (.tbl (ps++more)))
  (ns:∀m,s.heap.Ns X.env.locals m->h'.Ns X.env.locals m) (hok:bp X.prog X.w H' h') (hg:AllBare g') :
  Inv X kb σ H' {s with heap:=h',gens:=g',drawn:=d',toks:=t'}:=by
 have neL:∀b o,X.s₀.heap.get? b=some o->b≠X.env.locals:=λb o e=>Qy (Qe (Qm e) I.ok.above)
 have neC:∀b o,X.s₀.heap.get? b=some o->b∉X.ex->b∉ch:=λb o e hx hb=>by
  rcases (hch b hb).1 with z|z
  ·exact hx z
  exact absurd (Qe (Qm e) z) (QN _)
 have cellK:∀x c,X.env.cells.lookup x=some c->∀v,s.heap.IsCell c v->h'.IsCell c v:=λx c e v ⟨o,ho,hd⟩=>by
  have nch:c∉ch:=λz=>(hch c z).2.2.1 x c e rfl;by_cases hc:c∈X.fs
  ·obtain⟨sl,q⟩:=slot c o (I.cne x c e) hc nch ho (I.freeC x c e);exact⟨_,q,hd⟩
  exact⟨o,keep c o (I.cne x c e) hc nch ho (I.freeC x c e),hd⟩
 refine⟨I.ok,I.os,hg,⟨λb o e n hb hx=>?_,λb o e n hb hx=>?_,λb o e n hx=>?_,λb o e hx=>?_,λb xs e=>tups b xs (I.base.tups b xs e),λb o xs e=>frzs b o xs (I.base.frzs b o xs e),λb ps e=>?_⟩,?_,λx c e=>?_,?_,λx c e=>?_,λp hp=>?_,hok,I.len⟩
 ·exact keep b o (neL b o e) hb (neC b o e hx) (I.base.keep b o e n hb hx) (I.base.free b o e n hx)
 ·obtain⟨sl,e1⟩:=I.base.slot b o e n hb hx;obtain⟨sl',e2⟩:=slot b _ (neL b o e) hb (neC b o e hx) e1 (I.base.free b o e n hx);exact⟨sl',e2⟩
 ·obtain⟨o',e1⟩:=I.base.there b o e hx;exact free b o' (neC b o e hx) e1 (I.base.free b o e n hx)
 ·obtain⟨o',e1⟩:=I.base.there b o e hx;exact there b o' (neC b o e hx) e1
 ·obtain⟨m1,e1⟩:=I.base.tbls b ps e;obtain⟨m2,e2⟩:=tbls b _ e1;exact⟨m1++m2,by rw[e2,Array.append_assoc]⟩
 ·obtain⟨m,hn,hl⟩:=I.loc;refine⟨m,ns m hn,λi x v e1 e2 e3=>?_⟩;obtain⟨u,r,l⟩:=hl i x v e1 e2 e3;refine⟨u,r,?_⟩
  rcases l with l|⟨k,c,e,z⟩
  ·exact .inl l
  exact .inr ⟨k,c,e,cellK x c e _ z⟩
 ·obtain⟨v,z⟩:=I.cell x c e;exact⟨v,cellK x c e v z⟩
 ·obtain⟨m,⟨o,_,_,ho,_⟩,_⟩:=I.loc;exact free _ o (λz=>(hch _ z).2.1 rfl) ho I.free
 ·obtain⟨v,o,ho,hd⟩:=I.cell x c e;exact free c o (λz=>(hch c z).2.2.1 x c e rfl) ho (I.freeC x c e)
 obtain⟨e,n,ne,nf,d⟩:=I.pin p hp;have nch:p.1∉ch:=λz=>(hch p.1 z).2.2.2 p hp rfl;exact⟨keep p.1 p.2 ne nf nch e n,free p.1 p.2 nch e n,ne,nf,d⟩
theorem Inv.un{t':Nat}(I:Inv X kb σ H s)(u:Un X.fs [] H H' s.heap h')(hok:bp X.prog X.w H' h'):Inv X kb σ H' {s with heap:=h',toks:=t'}:=by
 obtain⟨m,⟨o,es,ep,ho,r⟩,_⟩:=id I.loc;obtain⟨sl,hL⟩:=u.any ho I.free (by simp)
 exact I.step (g':=s.gens) (d':=s.drawn) (ch:=[]) (λ_ z=>nomatch z) (λb o _ hb _ e n=>u.keep b o e n hb (by simp)) (λb o _ hb _ e n=>u.slot b o e n hb (by simp)) (λb o _ e n=>u.free b o e n (by simp)) (λb o _ e=>u.there b o e (by simp)) u.tups u.frzs u.tbls (λm' hm=>by
  obtain⟨o',es',ep',ho',r'⟩:=hm;rw[ho] at ho';cases ho'
  exact⟨_,es',ep',hL,r'⟩) hok I.bare
theorem Inv.call{g':Array GenState}{t':Nat}{d':Drawn}{ch:List Addr}(I:Inv X kb σ H s)(u:Un (frs X.stack) ch H H' s.heap h')(hok:bp X.prog X.w H' h')(hg:AllBare g')
  (hch:∀b∈ch,(b∈X.ex∨X.s₀.heap.objs.size<=b)/\b≠X.env.locals/\(∀x c,X.env.cells.lookup x=some c->c≠b)/\∀p∈X.pn++kb,p.1≠b) :
  Inv X kb σ H' {s with heap:=h',gens:=g',drawn:=d',toks:=t'}:=by
 obtain⟨m,⟨o,es,ep,ho,r⟩,_⟩:=id I.loc;obtain⟨sl,hL⟩:=u.any ho I.free λz=>(hch _ z).2.1 rfl
 exact I.step (ch:=ch) hch (λb o hL hb hc e n=>u.keep b o e n (λz=>(Qs (I.stkSub b z)).elim hL hb) hc) (λb o _ _ hc e n=>u.any e n hc) (λb o hc e n=>u.free b o e n hc) (λb o hc e=>u.there b o e hc) u.tups u.frzs u.tbls (λm' hm=>by
  obtain⟨o',es',ep',ho',r'⟩:=hm;rw[ho] at ho';cases ho'
  exact⟨_,es',ep',hL,r'⟩) hok hg
theorem Inv.turned{t':Nat}{it:Addr}(I:Inv X kb σ H s)(k:∀b o,b≠it->s.heap.get? b=some o->h'.get? b=some o)(hn:H it=none)(hL:it≠X.env.locals)
  (h1:it∈X.ex∨X.s₀.heap.objs.size<=it) (h2:∀x c,X.env.cells.lookup x=some c->c≠it) (h3:∀p∈X.pn++kb,p.1≠it):Inv X kb σ H {s with heap:=h',toks:=t'}:=by
 have nit:∀b u,H b=some u->b≠it:=λb u e z=>by rw[z,hn] at e;cases e
 refine I.step (g':=s.gens) (d':=s.drawn) (ch:=[it]) (λb hb=>?_) (λb o _ _ hc e _=>k b o (λz=>hc (by simp[z])) e) (λb o _ _ hc e _=>⟨o.slots,k b o (λz=>hc (by simp[z])) e⟩) (λ_ _ _ _ n=>n)
  (λb o hc e=>⟨o,k b o (λz=>hc (by simp[z])) e⟩) (λ_ _ e=>e) (λ_ _ _ e=>e) (λb ps e=>⟨#[],by rw[e];simp⟩) (λm hm=>?_) (λb u e=>?_) I.bare
 ·have e:b=it:=by simpa using hb
  subst e;exact⟨h1,hL,h2,h3⟩
 ·obtain⟨o,es,ep,ho,r⟩:=hm;exact⟨o,es,ep,k _ o (Ne.symm hL) ho,r⟩
 refine(I.hok b u e).stay (λc v hc q=>k c v ?_ q) (λ_ q=>q) λ_ _ q=>q;rcases hc with z|z
 ·rw[z];exact nit b u e
 exact nit c _ z
theorem Inv.tok(I:Inv X kb σ H s)(t:Nat):Inv X kb σ H {s with toks:=t}:=I.un (h':=s.heap) (t':=t) Un.refl I.hok
theorem Inv.kept{t':Nat}(I:Inv X kb σ H s)(k:∀b u,s.heap.get? b=some u->h'.get? b=some u):Inv X kb σ H {s with heap:=h',toks:=t'}:=I.un (Un.kept k) (I.hok.kept k)
theorem Inv.laid{a:Addr}{o:HO}{t':Nat}(I:Inv X kb σ H s)(k:∀b u,s.heap.get? b=some u->h'.get? b=some u)(hp:s.heap.objs.size<=a)(new:bj X.prog X.w (ai H a o) h' a o) :
  Inv X kb σ (ai H a o) {s with heap:=h',toks:=t'}:=I.un (Un.laid k hp (I.hok.fresh hp)) (I.hok.laid k hp new)
theorem Inv.write{x e:Addr}{o:HO}{t':Nat}(I:Inv X kb σ H s)(mu:jm (H x))(he:e=x∨H e=some (.own x))(k:∀b u,b≠e->s.heap.get? b=some u->h'.get? b=some u)(heo:∃u,h'.get? e=some u)
  (new:bj X.prog X.w (ai H x o) h' x o):Inv X kb σ (ai H x o) {s with heap:=h',toks:=t'}:=I.un (Un.write mu he k heo) (I.hok.write mu he k heo new)
theorem Inv.pins_of{pins':List (Addr×Obj)}(I:Inv X kb σ H s)(h:∀p∈pins',s.heap.get? p.1=some p.2/\H p.1=none/\p.1≠X.env.locals/\p.1∉X.fs/\∀v,p.2.data≠.cell v):Inv X pins' σ H s:=
 ⟨I.ok,I.os,I.bare,I.base,I.loc,I.cell,I.free,I.freeC,λp hp=>(Qx hp).elim (λz=>I.pin p (List.mem_append_left _ z)) (h p),I.hok,I.len⟩
theorem kN{N:List Str}(hN:N.Nodup){i j:Nat}{x:Str}(a:N[i]?=some x)(b:N[j]?=some x):i=j:=by obtain⟨h1,e1⟩:=Qj a;obtain⟨h2,e2⟩:=Qj b;exact(List.getElem_inj hN).mp (e1.trans e2.symm)
theorem nM{M:Model}{A:Around}{E:Value->Shared->Prop}{i:Nat}{x:Str}{v:V}{u:Value}{Q:Unit->Shared->Prop}(I:Inv X kb σ H s)(hN:X.N.Nodup)(hi:X.N[i]?=some x)(hx:Loc X.env.scope x)(r:RelV v u)
  (h:∀s',Inv X kb (σ.set i (some v)) H s'->(∃a,Heap.SameBut a s.heap s'.heap/\(a=X.env.locals∨X.env.cells.lookup x=some a))->Q () s') (hf:X.fn x=true∨X.env.scope.names.lookup x=some .local:=by first|exact .inl rfl|exact .inr rfl|assumption):wpAny M A (storeName X.env x u) Q E s:=by
 obtain⟨m,hn,hl⟩:=id I.loc;have ER:(X.env.scope.kind == .class||(X.env.scope.kind == .module&&X.env.locals != X.env.globals))=false:=by rw[I.ok.kind];rfl
 have hiσ:i<σ.length:=by rw[I.len];exact(Qj hi).1
 have cne:=I.cne
 have En:∀{a:Addr} {h':Heap},(∃o,s.heap.get? a=some o/\H a=none)->Heap.SameBut a s.heap h'->bp X.prog X.w H h':=λ{a h'} ha hs b ob e=>by
  obtain⟨_,_,C8⟩:=ha;refine(I.hok b ob e).stay (λc w' hc q=>(hs.2 c ?_).trans q) (λ_ q=>q) λ_ _ q=>q;rintro rfl;rcases hc with rfl|hc
  ·rw[C8] at e;cases e
  rw[C8] at hc;cases hc
 rcases hx with hk|hk
 ·refine wpAny_storeName_local hk hn (λh' hn' hs=>?_) ER;obtain⟨oL,_,_,hoL,_⟩:=id hn;refine h _ ⟨I.ok,I.os,I.bare,⟨λb o e n hb hx=>?_,λb o e n hb hx=>?_,I.base.free,λb o e hx=>?_,I.base.tups,I.base.frzs,I.base.tbls⟩,⟨_,hn',λj y v' e1 e2 e3=>?_⟩,λy c e=>?_,I.free,I.freeC,λp hp=>?_,En ⟨oL,hoL,I.free⟩ hs,by simpa using I.len⟩ ⟨_,hs,.inl rfl⟩
  ·exact(hs.2 b (Qy (Qe (Qm e) I.ok.above))).trans (I.base.keep b o e n hb hx)
  ·obtain⟨sl,e1⟩:=I.base.slot b o e n hb hx;exact⟨sl,(hs.2 b (Qy (Qe (Qm e) I.ok.above))).trans e1⟩
  ·obtain⟨o',e1⟩:=I.base.there b o e hx;exact⟨o',(hs.2 b (Qy (Qe (Qm e) I.ok.above))).trans e1⟩
  ·by_cases hj:j=i
   ·subst hj;rw[hi] at e1;cases e1;rw[List.getElem?_set_self hiσ] at e2;cases e2;exact⟨u,r,.inl ⟨hk,by simp⟩⟩
   rw[List.getElem?_set_ne (Ne.symm hj)] at e2;obtain⟨u',r',q⟩:=hl j y v' e1 e2 e3;refine⟨u',r',?_⟩
   rcases q with ⟨k,e⟩|⟨k,c,e,z⟩
   ·refine .inl ⟨k,?_⟩;have:y≠x:=λe=>hj (kN hN e1 (e ▸ hi));simp[this,e]
   exact .inr ⟨k,c,e,z.sameBut hs (cne y c e)⟩
  ·obtain⟨w',z⟩:=I.cell y c e;exact⟨w',z.sameBut hs (cne y c e)⟩
  obtain⟨e,n,ne,nf,d⟩:=I.pin p hp;exact⟨(hs.2 p.1 ne).trans e,n,ne,nf,d⟩
 have hfn:X.fn x=true:=by
  rcases hf with z|z
  ·exact z
  rw[z] at hk;cases hk
 obtain⟨c,hc⟩:=I.ok.has x (.inl hk);obtain⟨w',z⟩:=I.cell x c hc;refine wpAny_storeName_cell I.ok.kind hk hc z (λh' hc' hs=>?_);obtain⟨oc,hoc,hocd⟩:=id z;refine h {s with heap:=h'} ⟨I.ok,I.os,I.bare,⟨λb o e n hb hx=>?_,λb o e n hb hx=>?_,I.base.free,λb o e hx=>?_,I.base.tups,I.base.frzs,I.base.tbls⟩,⟨m,hn.sameBut hs (Ne.symm (cne x c hc)),λj y v' e1 e2 e3=>?_⟩,λy c' e=>?_,I.free,I.freeC,λp hp=>?_,En ⟨oc,hoc,I.freeC x c hc⟩ hs,by simpa using I.len⟩ ⟨c,hs,.inr hc⟩
 ·exact(hs.2 b (Qy (Qe (Qm e) (I.ok.cab x c hfn hc)))).trans (I.base.keep b o e n hb hx)
 ·obtain⟨sl,e1⟩:=I.base.slot b o e n hb hx;exact⟨sl,(hs.2 b (Qy (Qe (Qm e) (I.ok.cab x c hfn hc)))).trans e1⟩
 ·obtain⟨o',e1⟩:=I.base.there b o e hx;exact⟨o',(hs.2 b (Qy (Qe (Qm e) (I.ok.cab x c hfn hc)))).trans e1⟩
 ·by_cases hj:j=i
  ·subst hj;rw[hi] at e1;cases e1;rw[List.getElem?_set_self hiσ] at e2;cases e2;exact⟨u,r,.inr ⟨.inl hk,c,hc,hc'⟩⟩
  rw[List.getElem?_set_ne (Ne.symm hj)] at e2;obtain⟨u',r',q⟩:=hl j y v' e1 e2 e3;refine⟨u',r',?_⟩
  rcases q with q|⟨k,c',e,z'⟩
  ·exact .inl q
  refine .inr ⟨k,c',e,z'.sameBut hs ?_⟩;rintro rfl;exact hj (kN hN e1 (I.ok.inj _ _ _ e hc ▸ hi))
 ·by_cases EG:c'=c
  ·subst EG;exact⟨_,hc'⟩
  obtain⟨w2,z2⟩:=I.cell y c' e;exact⟨w2,z2.sameBut hs EG⟩
 obtain⟨e,n,ne,nf,d⟩:=I.pin p hp;refine⟨(hs.2 p.1 ?_).trans e,n,ne,nf,d⟩;intro q;rw[q,hoc] at e;have q':oc=p.2:=Qw e;exact d w' (by rw[<-q'];exact hocd)
theorem jn{M:Model}{A:Around}{E:Value->Shared->Prop}{i:Nat}{x:Str}{v:V}{u:Value}{Q:Unit->Shared->Prop}(I:Inv X kb σ H s)(hN:X.N.Nodup)(hi:X.N[i]?=some x)(hx:Loc X.env.scope x)(r:RelV v u)
  (h:∀s',Inv X kb (σ.set i (some v)) H s'->Q () s') (hf:X.fn x=true∨X.env.scope.names.lookup x=some .local:=by first|exact .inl rfl|exact .inr rfl|assumption):wpAny M A (storeName X.env x u) Q E s:=
 nM I hN hi hx r (λs' I' _=>h s' I') hf
theorem Inv.call'{s':Shared}{ch:List Addr}(I:Inv X kb σ H s)(ho:s'.os=s.os)(u:Un (frs X.stack) ch H H' s.heap s'.heap)(hok:bp X.prog X.w H' s'.heap)(hg:AllBare s'.gens)
  (hch:∀b∈ch,(b∈X.ex∨X.s₀.heap.objs.size<=b)/\b≠X.env.locals/\(∀x c,X.env.cells.lookup x=some c->c≠b)/\∀p∈X.pn++kb,p.1≠b):Inv X kb σ H' s':=by
 obtain⟨h',g',d',t',o'⟩:=s';have e:o'=s.os:=ho;subst e;exact I.call (g':=g') (t':=t') (d':=d') u hok hg hch
end
abbrev XK:=Value->Option Addr->Hp->Prop
abbrev St:=List (Option V)
abbrev VK:=V->Hp->Prop
abbrev TE:=St->Hp->VK->Prop
abbrev TT:=St->Hp->(Bool->Hp->Prop)->Prop
abbrev TA:=St->Hp->(List V->Hp->Prop)->Prop
structure bO where
 nx:St->Hp->Prop
 rt:VK
 bk:St->Hp->Prop:=λ_ _=>False
 ct:St->Hp->Prop:=λ_ _=>False
abbrev TS:=bO->St->Hp->Prop
def EP(X:Cx)(kb:List (Addr×Obj))(σ:St)(Q:VK)(u:Value)(s':Shared):Prop:=∃v H',Inv X kb σ H' s'/\RelV v u/\Q v H'
def TP(X:Cx)(kb:List (Addr×Obj))(σ:St)(Q:Bool->Hp->Prop)(b:Bool)(s':Shared):Prop:=∃H',Inv X kb σ H' s'/\Q b H'
def AP(X:Cx)(kb:List (Addr×Obj))(σ:St)(Q:List V->Hp->Prop)(us:List Value)(s':Shared):Prop:=∃vs H',Inv X kb σ H' s'/\aG vs us/\Q vs H'
def SP(X:Cx)(kb:List (Addr×Obj))(D:bO)(f:Flow)(s':Shared):Prop:=
 match f with
 |.next=>∃σ' H',Inv X kb σ' H' s'/\D.nx σ' H'
 |.brk=>∃σ' H',Inv X kb σ' H' s'/\D.bk σ' H'
 |.cont=>∃σ' H',Inv X kb σ' H' s'/\D.ct σ' H'
 |.ret u=>∃v σ' H',Inv X kb σ' H' s'/\RelV v u/\D.rt v H'
def PE(X:Cx)(e:Expr)(t:TE):Prop:=
 ∀(kb:List (Addr×Obj)) (s:Shared) (σ:St) (H:Hp) (Q:VK),Inv X kb σ H s->t σ H Q->wpAny (model X.prog X.w) X.A (eval e X.env) (EP X kb σ Q) X.xe s
def PT(X:Cx)(e:Expr)(t:TT):Prop:=
 ∀(kb:List (Addr×Obj)) (s:Shared) (σ:St) (H:Hp) (Q:Bool->Hp->Prop),Inv X kb σ H s->t σ H Q->wpAny (model X.prog X.w) X.A (isTrue e X.env (eval e X.env)) (TP X kb σ Q) X.xe s
def PW(X:Cx)(e:Expr)(t:TT):Prop:=
 ∀(Em:Sem Value) (kb:List (Addr×Obj)) (s:Shared) (σ:St) (H:Hp) (Q:Bool->Hp->Prop),Inv X kb σ H s->t σ H Q->wpAny (model X.prog X.w) X.A (isTrue e X.env Em) (TP X kb σ Q) X.xe s
theorem PW.pt{X:Cx}{e:Expr}{t:TT}(h:PW X e t):PT X e t:=h _
def PA(X:Cx)(es:List Expr)(t:TA):Prop:=
 ∀(pos:Pos) (kb:List (Addr×Obj)) (s:Shared) (σ:St) (H:Hp) (Q:List V->Hp->Prop),Inv X kb σ H s->t σ H Q->wpAny (model X.prog X.w) X.A (spliced (backTo pos (starEach es X.env))) (AP X kb σ Q) X.xe s
def PS(X:Cx)(st:Stmt)(t:TS):Prop:=
 ∀(kb:List (Addr×Obj)) (s:Shared) (σ:St) (H:Hp) (D:bO),Inv X kb σ H s->t D σ H->wpAny (model X.prog X.w) X.A (exec st X.env) (SP X kb D) X.xe s
def cb(X:Cx)(st:List Stmt)(t:TS):Prop:=
 ∀(kb:List (Addr×Obj)) (s:Shared) (σ:St) (H:Hp) (D:bO),Inv X kb σ H s->t D σ H->wpAny (model X.prog X.w) X.A (execs st X.env) (SP X kb D) X.xe s
theorem az{α:Type}{t:Sem α}{Q Q':α->Shared->Prop}{M:Model}{A:Around}{E:Value->Shared->Prop}{s:Shared}(h:wpAny M A t Q E s)(hQ:∀a s,Q a s->Q' a s):wpAny M A t Q' E s:=QJ h hQ λ_ _ x=>x
section
variable {X:Cx}
inductive ib (i:Nat) (σ:St) (H:Hp) (Q:VK):Prop
 |mk:∀v,σ[i]?=some (some v)->Q v H->ib i σ H Q
def tC(v:V):TE:=λ_ H Q=>Q v H
theorem wq{i:Nat}{x:Str}{pos:Pos}(hN:X.N[i]?=some x)(hv:kM X.env.scope x)(hd:(x==("__debug__":Str))=false:=by decide)(EF:(x==("__classdict__":Str))=false:=by decide):PE X (.Name x pos) (ib i):=by
 intro kb s σ H Q I h;obtain⟨v,e,h⟩:=h;obtain⟨m,hn,hl⟩:=I.loc;obtain⟨u,r,l⟩:=hl i x v hN e hv
 have fin:EP X kb σ Q u s:=⟨v,H,I,r,h⟩
 rcases l with ⟨hk,hm⟩|⟨hk,c,hc,hcell⟩
 ·exact wpAny_Name (wpAny_loadName_local I.ok.kind hk hn hm fin) hd
 rcases hk with hk|hk
 ·exact wpAny_Name (wpAny_loadName_cell I.ok.kind hk hc hcell fin) hd
 exact wpAny_Name (wpAny_loadName_free I.ok.kind hk hc hcell fin EF) hd
theorem ag{i j pos}:PE X (.Constant (.int i) j pos) (tC (.int i)):=λ_ _ _ H _ I h=>wpAny_Constant_int ⟨.int i,H,I.tok _,⟨_,rfl⟩,h⟩
theorem dJ{b j pos}:PE X (.Constant (.bool b) j pos) (tC (.bl b)):=λ_ _ _ H _ I h=>Constant_bool ⟨.bl b,H,I,rfl,h⟩
theorem jo{j pos}:PE X (.Constant .none j pos) (tC .non):=λ_ _ _ H _ I h=>Constant_none ⟨.non,H,I,rfl,h⟩
theorem ao{x j pos}:PE X (.Constant (.str x) j pos) (tC (.str x)):=λ_ _ _ H _ I h=>Calls.Constant_str ⟨.str x,H,I.tok _,⟨_,rfl⟩,h⟩
def Gl(X:Cx)(x:Str):Prop:=X.env.kindOf x=some .globalImplicit
theorem ef{E:Value->Shared->Prop}{kb:List (Addr×Obj)}{s:Shared}{σ:St}{H:Hp}{x:Str}{u:Value}{pos:Pos}{Q:Value->Shared->Prop}(I:Inv X kb σ H s)(hg:Gl X x)(hm:X.mg x=some u)(h:Q u s)
  (hd:(x==("__debug__":Str))=false:=by decide):wpAny (model X.prog X.w) X.A (eval (.Name x pos) X.env) Q E s:=
 Calls.Name_function_global I.ok.kind hg (Calls.loadGlobal_global (by rw[I.ok.glob];exact I.mod.glob.keeps I.bk) hm h) hd
theorem fG{E:Value->Shared->Prop}{kb:List (Addr×Obj)}{s:Shared}{σ:St}{H:Hp}{x:Str}{u:Value}{pos:Pos}{Q:Value->Shared->Prop}(I:Inv X kb σ H s)(hg:Gl X x)(hm:X.mg x=none)(hv:bootBuiltins x=some u)(h:Q u s)
  (hn:x≠"__name__":=by decide) (hd:(x==("__debug__":Str))=false:=by decide):wpAny (model X.prog X.w) X.A (eval (.Name x pos) X.env) Q E s:=by
 obtain⟨mb,h1,h2⟩:=I.mod.blt;exact Calls.Name_function_global I.ok.kind hg (Calls.loadGlobal_builtin (by rw[I.ok.glob];exact I.mod.glob.keeps I.bk) hm (by rw[I.ok.blt];exact h1.keeps I.bk) ((h2 x hn).trans hv) h) hd
theorem dL{x:Str}{v:V}{u:Value}{pos:Pos}(hg:Gl X x)(hm:X.mg x=some u)(r:RelV v u)(hd:(x==("__debug__":Str))=false:=by decide):PE X (.Name x pos) (tC v):=
 λ_ _ _ H _ I h=>ef I hg hm ⟨v,H,I,r,h⟩ hd
theorem kO{x:Str}{v:V}{u:Value}{pos:Pos}(hg:Gl X x)(hm:X.mg x=none)(hv:bootBuiltins x=some u)(r:RelV v u)(hn:x≠"__name__":=by decide)(hd:(x==("__debug__":Str))=false:=by decide):PE X (.Name x pos) (tC v):=
 λ_ _ _ H _ I h=>fG I hg hm hv ⟨v,H,I,r,h⟩ hn hd
variable {a b:Expr}{ta tb:TE}{pos:Pos}
def PC(X:Cx)(op:CmpOp)(a b:Expr)(t:TE):Prop:=
 ∀(kb:List (Addr×Obj)) (s:Shared) (σ:St) (H:Hp) (Q:VK),Inv X kb σ H s->t σ H Q ->
  wpAny (model X.prog X.w) X.A (eval a X.env) (λv s₁=>wpAny (model X.prog X.w) X.A (eval b X.env) (λu s₂=>wpAny (model X.prog X.w) X.A (compareOp op v u) (EP X kb σ Q) X.xe s₂) X.xe s₁) X.xe s
theorem wr(b:Expr){op:CmpOp}(h:op≠.In)(h2:op≠.NotIn):behindInMarks op b=false:=by
 have e1:(op==CmpOp.In)=false:=by cases op<;>first|rfl|exact absurd rfl h
 have e2:(op==CmpOp.NotIn)=false:=by cases op<;>first|rfl|exact absurd rfl h2
 cases b<;>simp[behindInMarks,e1,e2]
def wt(ta:TE):TE:=λσ H Q=>ta σ H λx H1=>Q (.bl (decide (x=.non))) H1
theorem RelV.none_iff{x:V}{v:Value}(r:RelV x v):(v==Value.none)=decide (x=.non):=by
 cases x with
 |non=>cases r;rfl
 |bl _=>cases r;rfl
 |int _=>obtain⟨t,rfl⟩:=r;rfl
 |str _=>obtain⟨t,rfl⟩:=r;rfl
 |byt _=>obtain⟨t,rfl⟩:=r;rfl
 |flt _=>obtain⟨t,rfl⟩:=r;rfl
 |ref _=>cases r;rfl
 |ty _=>cases r;rfl
theorem kP{j Dw}(ha:PE X a ta):PC X .Is a (.Constant .none j Dw) (wt ta):=by intro kb s σ H Q I h;refine az (ha kb s σ H _ I h) λv s1 hsl1=>?_;obtain⟨x,H1,I1,r1,q1⟩:=hsl1;exact Constant_none (is_none_gen ⟨.bl _,H1,I1,by rw[r1.none_iff];rfl,q1⟩)
inductive kQ (Q:Bool->Hp->Prop) (x:V) (H:Hp):Prop
 |mk:∀c,x=.bl c->Q c H->kQ Q x H
def tB(t:TE):TT:=λσ H Q=>t σ H (kQ Q)
theorem jp{op:CmpOp}{t:TE}(h:PC X op a b t)(h1:behindInMarks op b=false:=by first|exact wr _ (by decide) (by decide)|rfl):PT X (.Compare a [op] [b] pos) (tB t):=by intro kb s σ H Q I hw;refine wpAny_isTrue_Compare1 (az (h kb s σ H _ I hw) λv s1 h1=>az h1 λu s2 h2=>az h2 λc s3 hsl2=>?_) h1;obtain⟨x,H1,I1,r1,q1⟩:=hsl2;obtain⟨d,rfl,q⟩:=q1;cases r1;exact wpAny_truthy_bool ⟨H1,I1,q⟩
theorem cQ{e:Expr}{t:TE}(h:PE X e t)(he:∀Em,isTrue e X.env Em=(do let v <- Em;standAt e.pos;holding [v] (truthy v)):=by intro _;rfl):PT X e (tB t):=by intro kb s σ H Q I hw;refine isTrue_plain (az (h kb s σ H _ I hw) λv s1 hsl3=>?_) (he _);obtain⟨x,H1,I1,r1,q1⟩:=hsl3;obtain⟨d,rfl,q⟩:=q1;cases r1;exact wpAny_truthy_bool ⟨H1,I1,q⟩
variable {tA tB':TT}{CH:List Expr}
def wu(t u:TT):TT:=λσ H Q=>t σ H λc H1=>if c=true then u σ H1 Q else Q false H1
def wv(t u:TT):TT:=λσ H Q=>t σ H λc H1=>if c=true then Q true H1 else u σ H1 Q
def ww(t:TT):TT:=λσ H Q=>t σ H λc H1=>Q (!c) H1
theorem fH(ha:PT X a tA):PW X (.BoolOp .And [a] pos) tA:=by
 intro wh kb s σ H Q I h;refine isTrue_and (az (ha kb s σ H Q I h) λc s1 e=>?_)
 cases c with
 |true=>exact isTrue_and_nil e
 |false=>exact e
theorem eg(ha:PT X a tA):PW X (.BoolOp .Or [a] pos) tA:=by
 intro wh kb s σ H Q I h;refine isTrue_or (az (ha kb s σ H Q I h) λc s1 e=>?_)
 cases c with
 |false=>exact isTrue_or_nil e
 |true=>exact e
theorem fJ(ha:PT X a tA)(hb:PW X (.BoolOp .And (b::CH) pos) tB'):PW X (.BoolOp .And (a::b::CH) pos) (wu tA tB'):=by
 intro wh kb s σ H Q I h;refine isTrue_and (az (ha kb s σ H _ I h) λc s1 hsl4=>?_);obtain⟨H1,I1,q1⟩:=hsl4
 cases c with
 |true=>exact hb wh kb s1 σ H1 Q I1 q1
 |false=>exact⟨H1,I1,q1⟩
theorem dj(ha:PT X a tA)(hb:PW X (.BoolOp .Or (b::CH) pos) tB'):PW X (.BoolOp .Or (a::b::CH) pos) (wv tA tB'):=by
 intro wh kb s σ H Q I h;refine isTrue_or (az (ha kb s σ H _ I h) λc s1 hsl5=>?_);obtain⟨H1,I1,q1⟩:=hsl5
 cases c with
 |true=>exact⟨H1,I1,q1⟩
 |false=>exact hb wh kb s1 σ H1 Q I1 q1
theorem fK(ha:PT X a tA):PT X (.UnaryOp .Not a pos) (ww tA):=by intro kb s σ H Q I h;exact isTrue_not (ha kb s σ H (λc H1=>Q (!c) H1) I h)
def wx(ta tb:TE):TE:=λσ H Q=>ta σ H λx H1=>∃c,x=.bl c/\if c=true then tb σ H1 Q else Q (.bl false) H1
def wy(ta tb:TE):TE:=λσ H Q=>ta σ H λx H1=>∃c,x=.bl c/\if c=true then Q (.bl true) H1 else tb σ H1 Q
def wz(ta:TE):TE:=λσ H Q=>ta σ H λx H1=>∃c,x=.bl c/\Q (.bl (!c)) H1
theorem eO{op}{t:TE}(h:PE X a t):PE X (.BoolOp op [a] pos) t:=λkb s σ H Q I hw=>BoolOp_one (h kb s σ H Q I hw)
theorem dM(ha:PE X a ta)(hb:PE X (.BoolOp .And (b::CH) pos) tb):PE X (.BoolOp .And (a::b::CH) pos) (wx ta tb):=by
 intro kb s σ H Q I h;refine BoolOp_and (az (ha kb s σ H _ I h) λv s1 hsl6=>?_);obtain⟨x,H1,I1,r1,q1⟩:=hsl6;obtain⟨c,rfl,q1⟩:=q1;cases r1;refine wpAny_truthy_bool ?_
 cases c with
 |true=>exact hb kb s1 σ H1 Q I1 q1
 |false=>exact⟨.bl false,H1,I1,rfl,q1⟩
theorem wA(ha:PE X a ta)(hb:PE X (.BoolOp .Or (b::CH) pos) tb):PE X (.BoolOp .Or (a::b::CH) pos) (wy ta tb):=by
 intro kb s σ H Q I h;refine BoolOp_or (az (ha kb s σ H _ I h) λv s1 hsl7=>?_);obtain⟨x,H1,I1,r1,q1⟩:=hsl7;obtain⟨c,rfl,q1⟩:=q1;cases r1;refine wpAny_truthy_bool ?_
 cases c with
 |false=>exact hb kb s1 σ H1 Q I1 q1
 |true=>exact⟨.bl true,H1,I1,rfl,q1⟩
theorem wB(ha:PE X a ta):PE X (.UnaryOp .Not a pos) (wz ta):=by intro kb s σ H Q I h;refine UnaryOp_ (az (ha kb s σ H _ I h) λv s1 hsl8=>?_);obtain⟨x,H1,I1,r1,q1⟩:=hsl8;obtain⟨c,rfl,q1⟩:=q1;cases r1;exact not_of (wpAny_truthy_bool ⟨.bl (!c),H1,I1,rfl,q1⟩)
def wC(t:TT)(ta tb:TE):TE:=λσ H Q=>t σ H λc H1=>if c=true then ta σ H1 Q else tb σ H1 Q
theorem kR{c:Expr}(hc:PT X c tA)(ha:PE X a ta)(hb:PE X b tb):PE X (.IfExp c a b pos) (wC tA ta tb):=by
 intro kb s σ H Q I h;refine wpAny_IfExp (az (hc kb s σ H _ I h) λd s1 hsl9=>?_);obtain⟨H1,I1,q1⟩:=hsl9
 cases d with
 |true=>exact ha kb s1 σ H1 Q I1 q1
 |false=>exact hb kb s1 σ H1 Q I1 q1
end
def ae(K:W.Frag)(H:Hp)(a:Addr)(xs:List V):Prop:=
 Rd H a (.lst xs) ∨
  ∃(o:Obj) (its:Array Value) (n:Nat),K.lookup a=some o/\o.cls=.type "list"/\o.dict=none/\o.data=.seq its n/\its.size<=sizeLine/\aG xs its.toList
def aW(K:W.Frag)(H:Hp)(a:Addr)(xs:List V):Prop:=
 Rd H a (.tup xs) ∨
  ∃(o:Obj) (its:Array Value) (n:Nat),K.lookup a=some o/\o.cls=.type "tuple"/\o.data=.seq its n/\its.size<=sizeLine/\aG xs its.toList
noncomputable def wD:Value->Option V
 |.none=>some .non
 |.bool b=>some (.bl b)
 |.int i _=>some (.int i)
 |.str x _=>some (.str x)
 |.bytes b _=>some (.byt b)
 |.float b _=>some (.flt b)
 |.ref a=>some (.ref a)
 |.type n=>some (.ty n)
 |_=>none
theorem RelV.abs{x:V}{u:Value}(r:RelV x u):wD u=some x:=by
 cases x with
 |non=>cases r;rfl
 |bl _=>cases r;rfl
 |int _=>obtain⟨t,rfl⟩:=r;rfl
 |str _=>obtain⟨t,rfl⟩:=r;rfl
 |byt _=>obtain⟨t,rfl⟩:=r;rfl
 |flt _=>obtain⟨t,rfl⟩:=r;rfl
 |ref _=>cases r;rfl
 |ty _=>cases r;rfl
theorem RelV.inj{x y:V}{u:Value}(r:RelV x u)(q:RelV y u):x=y:=Qw (r.abs.symm.trans q.abs)
theorem aG.inj:∀{xs ys:List V} {us:List Value},aG xs us->aG ys us->xs=ys
 |_,_,_,.nil,.nil=>rfl
 |_,_,_,.cons r t,.cons r' t'=>by rw[r.inj r',aG.inj t t']
section
variable {X:Cx}{kb:List (Addr×Obj)}{σ:St}{H:Hp}{s:Shared}{a:Addr}{xs ys:List V}
theorem ae.of{K:W.Frag}(h:H a=some (.lst xs)):ae K H a xs:=.inl (.inl h)
theorem aW.of{K:W.Frag}(h:H a=some (.tup xs)):aW K H a xs:=.inl (.inl h)
theorem Inv.list(I:Inv X kb σ H s)(h:ae X.K H a xs):∃its:List Value,aG xs its/\PlainL s.heap a its.toArray/\xs.length<=sizeLine:=by
 rcases h with h|⟨o,its,n,hk,hc,hd,hs,hz,r⟩
 ·obtain⟨z,its,n,r,e⟩:=h.ok I.hok;exact⟨its,r,⟨_,n,e,rfl,rfl,rfl⟩,z⟩
 refine⟨its.toList,r,⟨o,n,I.kIn a o hk,hc,hd,by simpa using hs⟩,?_⟩;have e:=r.length;simp only[Array.length_toList] at e;lia
theorem Inv.tuple(I:Inv X kb σ H s)(h:aW X.K H a xs):∃its:List Value,aG xs its/\IsTup s.heap a its.toArray/\xs.length<=sizeLine:=by
 rcases h with h|⟨o,its,n,hk,hc,hs,hz,r⟩
 ·obtain⟨z,its,r,p,_⟩:=h.ok I.hok;exact⟨its,r,p,z⟩
 refine⟨its.toList,r,⟨o,I.kIn a o hk,hc,n,by simpa using hs⟩,?_⟩;have e:=r.length;simp only[Array.length_toList] at e;lia
theorem Inv.list_inj(I:Inv X kb σ H s)(h:ae X.K H a xs)(h':ae X.K H a ys):xs=ys:=by
 obtain⟨its,r,⟨o,n,e,_,_,d⟩,_⟩:=I.list h;obtain⟨its',r',⟨o',n',e',_,_,d'⟩,_⟩:=I.list h';rw[e] at e';cases e';rw[d] at d';injection d' with d1 _;have:its=its':=by simpa using congrArg Array.toList d1
 subst this;exact r.inj r'
theorem Inv.tuple_inj(I:Inv X kb σ H s)(h:aW X.K H a xs)(h':aW X.K H a ys):xs=ys:=by
 obtain⟨its,r,⟨o,e,_,n,d⟩,_⟩:=I.tuple h;obtain⟨its',r',⟨o',e',_,n',d'⟩,_⟩:=I.tuple h';rw[e] at e';cases e';rw[d] at d';injection d' with d1 _;have:its=its':=by simpa using congrArg Array.toList d1
 subst this;exact r.inj r'
end
noncomputable abbrev Cx.wish(X:Cx)(E:Value->Shared->Prop):Cx:={X with xe:=E}
noncomputable abbrev Cx.nox(X:Cx):Cx:=X.wish λ_ _=>False
theorem Cx.Ok.wish{X:Cx}(ok:X.Ok)(E:Value->Shared->Prop):(X.wish E).Ok:=
 ⟨ok.mod,ok.kind,ok.glob,ok.blt,ok.above,ok.inj,ok.has,ok.cab,ok.hd,ok.frames,ok.stk,ok.exf,ok.bs,ok.bsz,ok.noex,ok.exfs,ok.funs,ok.frf⟩
theorem Cx.Ok.unwish{X:Cx}{E:Value->Shared->Prop}(ok:(X.wish E).Ok):X.Ok:=
 ⟨ok.mod,ok.kind,ok.glob,ok.blt,ok.above,ok.inj,ok.has,ok.cab,ok.hd,ok.frames,ok.stk,ok.exf,ok.bs,ok.bsz,ok.noex,ok.exfs,ok.funs,ok.frf⟩
section
variable {X:Cx}{kb:List (Addr×Obj)}{σ:St}{H:Hp}{s:Shared}{E:Value->Shared->Prop}
theorem Inv.wish(I:Inv X kb σ H s)(E:Value->Shared->Prop):Inv (X.wish E) kb σ H s:=⟨I.ok.wish E,I.os,I.bare,I.base,I.loc,I.cell,I.free,I.freeC,I.pin,I.hok,I.len⟩
theorem Inv.unwish(I:Inv (X.wish E) kb σ H s):Inv X kb σ H s:=⟨I.ok.unwish,I.os,I.bare,I.base,I.loc,I.cell,I.free,I.freeC,I.pin,I.hok,I.len⟩
theorem SP.unwish{D:bO}{f:Flow}{s':Shared}(h:SP (X.wish E) kb D f s'):SP X kb D f s':=by
 cases f with
 |next=>obtain⟨σ',H',I,q⟩:=h;exact⟨σ',H',I.unwish,q⟩
 |brk=>obtain⟨σ',H',I,q⟩:=h;exact⟨σ',H',I.unwish,q⟩
 |cont=>obtain⟨σ',H',I,q⟩:=h;exact⟨σ',H',I.unwish,q⟩
 |ret u=>obtain⟨v,σ',H',I,r,q⟩:=h;exact⟨v,σ',H',I.unwish,r,q⟩
theorem cb.nox{st:List Stmt}{t:TS}(h:cb X.nox st t):cb X st t:=λkb s σ H D I hw =>
 QJ (h kb s σ H D (I.wish _) hw) (λ_ _ q=>q.unwish) λ_ _ z=>False.elim z
end
section
variable {X:Cx}{st:Stmt}{CH:List Stmt}{t u:TS}{e:Expr}{te:TE}{pos:Pos}
def nN:TS:=λD σ H=>D.nx σ H
def ic(t u:TS):TS:=λD σ H=>t {D with nx:=u D} σ H
theorem aI:cb X [] nN:=λ_ _ σ H _ I h=>wpAny_execs_nil ⟨σ,H,I,h⟩
theorem ah(h1:PS X st t)(h2:cb X CH u):cb X (st::CH) (ic t u):=by
 intro kb s σ H D I h;refine wpAny_execs_cons (az (h1 kb s σ H {D with nx:=u D} I h) λf s1 q=>?_)
 cases f with
 |next =>
  obtain⟨σ',H',I',q⟩:=q;exact h2 kb s1 σ' H' D I' q
 |ret v=>exact q
 |brk=>exact q
 |cont=>exact q
theorem ak(h1:PS X st t):cb X [st] t:=by
 intro kb s σ H D I h;refine wpAny_execs_cons (az (h1 kb s σ H D I h) λf s1 q=>?_)
 cases f with
 |next=>exact wpAny_execs_nil q
 |ret v=>exact q
 |brk=>exact q
 |cont=>exact q
theorem Inv.quiet{kb:List (Addr×Obj)}{σ:St}{H:Hp}{s:Shared}(I:Inv X kb σ H s):interactive X.env=false:=by simp[interactive,I.ok.kind]
def nO(te:TE):TS:=λD σ H=>te σ H λ_ H1=>D.nx σ H1
theorem bE(he:PE X e te)(hs:swapsWith e none pos.line X.env=pure false:=by rfl):PS X (.Expr e pos) (nO te):=by intro kb s σ H D I h;exact wpAny_Expr_any (az (he kb s σ H _ I h) λv s1 hsl12=>by obtain⟨x,H1,I1,r1,q1⟩:=hsl12;exact⟨σ,H1,I1,q1⟩) I.quiet hs
def wE(te:TE):TS:=λD σ H=>te σ H D.rt
theorem ay(he:PE X e te):PS X (.Return (some e) pos) (wE te):=by intro kb s σ H D I h;exact wpAny_Return_some (az (he kb s σ H _ I h) λv s1 hsl13=>by obtain⟨x,H1,I1,r1,q1⟩:=hsl13;exact⟨x,σ,H1,I1,r1,q1⟩)
def jq(c:TT)(t u:TS):TS:=λD σ H=>c σ H λb H1=>if b=true then t D σ H1 else u D σ H1
theorem aB{c:Expr}{a b:List Stmt}{tc:TT}(hc:PT X c tc)(ha:cb X a t)(hb:cb X b u):PS X (.If c a b pos) (jq tc t u):=by
 intro kb s σ H D I h;refine wpAny_If (az (hc kb s σ H _ I h) λd s1 hsl14=>?_);obtain⟨H1,I1,q1⟩:=hsl14
 cases d with
 |true=>exact ha kb s1 σ H1 D I1 q1
 |false=>exact hb kb s1 σ H1 D I1 q1
def wF:TS:=λ_ _ _=>False
theorem bF{sts:List Stmt}:cb X sts wF:=λ_ _ _ _ _ _ h=>h.elim
end
abbrev TG:=V->St->Hp->(St->Hp->Prop)->Prop
abbrev eP:=List V->St->Hp->(St->Hp->Prop)->Prop
def PG(X:Cx)(target:Expr)(t:TG):Prop:=
 ∀(kb:List (Addr×Obj)) (s:Shared) (σ:St) (H:Hp) (v:V) (u:Value) (Q:St->Hp->Prop),Inv X kb σ H s->RelV v u->t v σ H Q ->
  wpAny (model X.prog X.w) X.A (assign target X.env u) (λ_ s'=>∃σ' H',Inv X kb σ' H' s'/\Q σ' H') X.xe s
def gy(X:Cx)(ts:List Expr)(t:eP):Prop:=
 ∀(kb:List (Addr×Obj)) (s:Shared) (σ:St) (H:Hp) (vs:List V) (us:List Value) (Q:St->Hp->Prop),Inv X kb σ H s->aG vs us->t vs σ H Q ->
  wpAny (model X.prog X.w) X.A (assignInOrder ((assignEach ts X.env).map (·.2)) us) (λ_ s'=>∃σ' H',Inv X kb σ' H' s'/\Q σ' H') X.xe s
section
variable {X:Cx}{pos:Pos}
def a7(i:Nat):TG:=λv σ H Q=>Q (σ.set i (some v)) H
theorem bq{i:Nat}{x:Str}(hN:X.N.Nodup)(hi:X.N[i]?=some x)(hx:Loc X.env.scope x)(hf:X.fn x=true∨X.env.scope.names.lookup x=some .local:=by first|exact .inl rfl|exact .inr rfl|assumption):PG X (.Name x pos) (a7 i):=by intro kb s σ H v u Q I r h;exact wpAny_assign_Name (jn I hN hi hx r (λs' I'=>⟨_,H,I',h⟩) hf)
def wG:eP:=λvs σ H Q=>vs=[]/\Q σ H
inductive nP (t:TG) (u:eP) (vs:List V) (σ:St) (H:Hp) (Q:St->Hp->Prop):Prop
 |mk:∀v r,vs=v::r->(t v σ H λσ' H'=>u r σ' H' Q)->nP t u vs σ H Q
theorem eh:gy X [] wG:=by intro kb s σ H vs us Q I r h;obtain⟨e,h⟩:=h;subst e;cases r;exact assignInOrder_nil ⟨σ,H,I,h⟩
theorem bU{e:Expr}{es:List Expr}{t:TG}{u:eP}(h1:PG X e t)(h2:gy X es u)
  (hs:(assignEach (e::es) X.env).map (·.2)=assign e X.env::(assignEach es X.env).map (·.2):=by rfl):gy X (e::es) (nP t u):=by
 intro kb s σ H vs us Q I r h;obtain⟨v,vr,e1,h⟩:=h;subst e1
 cases r with
 |cons r rr =>
  rw[hs];refine assignInOrder_cons (az (h1 kb s σ H _ _ _ I r h) λ_ s1 hsl15=>?_);obtain⟨σ1,H1,I1,q1⟩:=hsl15;exact h2 kb s1 σ1 H1 _ _ Q I1 rr q1
inductive jr (K:W.Frag) (n:Nat) (t:eP) (v:V) (σ:St) (H:Hp) (Q:St->Hp->Prop):Prop
 |mk:∀a xs,v=.ref a->aW K H a xs->xs.length=n->t xs σ H Q->jr K n t v σ H Q
theorem kS{es:List Expr}{k:Nat}{t:eP}{n:Nat}(hc:X.calm=true)(h:gy X es t)
  (hn:(assignEach es X.env).length=n:=by rfl) (CL:(assignEach es X.env).findIdx? (·.1)=none:=by rfl):PG X (.Tuple es k pos) (jr X.K n t):=by
 intro kb s σ H v u Q I r hw;obtain⟨a,xs,e1,hq,hl,hw⟩:=hw;subst e1;cases r;obtain⟨its,rv,ht,hz⟩:=I.tuple hq;refine assign_Tuple_tuple (I.ok.hd hc) ht (by simp[hn,<-hl,rv.length]) CL λh' hx=>?_;have I1:Inv X kb σ H {s with heap:=h'}:=I.kept (t':=s.toks) λb o e=>hx b o (Qy (Qm e)) e;exact h kb _ σ H xs _ Q I1 (by simpa using rv) hw
def jt(te:TE)(g:TG):TS:=λD σ H=>te σ H λx H1=>g x σ H1 D.nx
theorem nQ{tg e:Expr}{te:TE}{g:TG}(he:PE X e te)(hg:PG X tg g)(hs:swapsWithSole [tg] e pos.line X.env=pure false:=by rfl)(hw:swappedStores [tg] e X.env=pure none:=by rfl)
  (h1:(assignEach [tg] X.env).map (·.2)=[assign tg X.env]:=by rfl):PS X (.Assign [tg] e pos) (jt te g):=by
 intro kb s σ H D I h;refine wpAny_Assign_stores (az (he kb s σ H _ I h) λv s1 hsl16=>?_) hs hw;obtain⟨x,H1,I1,r1,q1⟩:=hsl16;rw[h1];exact az (hg kb s1 σ H1 x v _ I1 r1 q1) λ_ s2 q=>q
theorem aD{i:Nat}{x:Str}{e:Expr}{te:TE}{Dw:Pos}(hN:X.N.Nodup)(hi:X.N[i]?=some x)(hx:Loc X.env.scope x)(he:PE X e te)(hs:swapsWith e (some (.Name x Dw)) pos.line X.env=pure false:=by rfl)(hf:X.fn x=true∨X.env.scope.names.lookup x=some .local:=by first|exact .inl rfl|exact .inr rfl|assumption) :
  PS X (.Assign [.Name x Dw] e pos) (jt te (a7 i)):=by
 intro kb s σ H D I h;refine wpAny_Assign_Name (az (he kb s σ H _ I h) λv s1 hsl17=>?_) hs;obtain⟨y,H1,I1,r1,q1⟩:=hsl17;exact jn I1 hN hi hx r1 (λs2 I2=>⟨_,H1,I2,q1⟩) hf
def nR(c:TT)(tb:TS):TS:=λD σ H=>∃W:Nat->St->Hp->Prop,(∃m,W m σ H)/\∀m σ H,W m σ H ->
 c σ H λb H1=>if b=true then ∃N:St->Hp->Prop,(∀σ' H',N σ' H'->∃m',m'<m/\W m' σ' H')/\tb {D with nx:=N,ct:=N,bk:=D.nx} σ H1 else D.nx σ H1
theorem nT{c:Expr}{body:List Stmt}{tc:TT}{tb:TS}(hp:PassesOwn (model X.prog X.w) X.A X.env X.xe)(hc:PT X c tc)(hb:cb X body tb):PS X (.While c body [] pos) (nR tc tb):=by
 intro kb s σ H D I h;obtain⟨W,⟨m0,w0⟩,turn⟩:=h;refine wpAny_While (codeAny_whileLoop (λn s'=>∃σ' H',Inv X kb σ' H' s'/\W n σ' H') ?_ m0 ⟨σ,H,I,w0⟩);rintro n s1 ⟨σ1,H1,I1,w1⟩;refine wpAny_passesOwn hp (az (hc kb s1 σ1 H1 _ I1 (turn n σ1 H1 w1)) λb s2 hsl18=>?_);obtain⟨H2,I2,q2⟩:=hsl18
 cases b with
 |true =>
  obtain⟨N,hN,q2⟩:=q2;rw[if_pos rfl];refine wpAny_passesOwn hp (az (hb kb s2 σ1 H2 _ I2 q2) λf s3 q3=>?_)
  cases f with
  |next =>
   obtain⟨σ3,H3,I3,n3⟩:=q3;obtain⟨m',hm,w3⟩:=hN σ3 H3 n3;exact⟨m',hm,σ3,H3,I3,w3⟩
  |cont =>
   obtain⟨σ3,H3,I3,n3⟩:=q3;obtain⟨m',hm,w3⟩:=hN σ3 H3 n3;exact⟨m',hm,σ3,H3,I3,w3⟩
  |brk=>exact q3
  |ret v=>exact q3
 |false =>
  rw[if_neg Qf];exact wpAny_execs_nil ⟨σ1,H2,I2,q2⟩
end
structure It where
 go:Nat->Hp->Prop
 yld:Nat->Hp->V->Hp->Prop
 stop:Nat->Hp->Prop
def dN(X:Cx)(kb:List (Addr×Obj))(H:Hp)(b:Addr):Prop:=
 H b=none/\b≠X.env.locals/\b∉X.fs/\(b∈X.ex∨X.s₀.heap.objs.size<=b)/\(∀x c,X.env.cells.lookup x=some c->c≠b)/\∀p∈X.pn++kb,p.1≠b
theorem Inv.fpOk{X:Cx}{kb:List (Addr×Obj)}{σ:St}{H H':Hp}{s:Shared}{b:Addr}(I:Inv X kb σ H s)(hb:s.heap.objs.size<=b)(hn:H' b=none):dN X kb H' b:=by
 refine⟨hn,Nat.ne_of_gt (Qe I.lt hb),I.nofs hb,.inr (Qg I.sz hb),λx c e z=>?_,λp hp z=>?_⟩
 ·obtain⟨v,q⟩:=I.cell x c e;exact absurd (Qe q.lt (by rw[z];exact hb)) (QN _)
 exact absurd (Qe (Qm (I.pin p hp).1) (by rw[z];exact hb)) (QN _)
structure dk(P:Program)(w:World)(K:W.Frag)(tg:Expr)(J:It)(fp:List Addr)(it:Addr)(tn:Nat->Heap->Prop):Prop where
 mem:it∈fp
 obj:∀i h,tn i h->∀b∈fp,∃o,h.get? b=some o/\∀v,o.data≠.cell v
 keep:∀i h h',tn i h->(∀b∈fp,∀o,h.get? b=some o->h'.get? b=some o)->tn i h'
 item:∀(X:Cx),X.prog=P->X.w=w->X.K=K->X.calm=true->∀(i:Nat) (kb:List (Addr×Obj)) (s:Shared) (σ:St) (H:Hp) (E:Value->Shared->Prop),Inv X kb σ H s->(∀b∈fp,dN X kb H b)->tn i s.heap->J.go i H ->
  wpAny (model P w) X.A (pyNext (.ref it)) (λr s1=>∃u,r=some u /\
   wpAny (model P w) X.A (letOwnedTupleGo tg (.ref it) u) (λ_ s2=>∃x H',Inv X kb σ H' s2/\RelV x u/\J.yld i H x H'/\tn (i+1) s2.heap/\∀b∈fp,H' b=none) E s1) E s
 done:∀(X:Cx),X.prog=P->X.w=w->X.K=K->X.calm=true->∀(i:Nat) (kb:List (Addr×Obj)) (s:Shared) (σ:St) (H:Hp) (E:Value->Shared->Prop),Inv X kb σ H s->(∀b∈fp,dN X kb H b)->tn i s.heap->J.stop i H ->
  wpAny (model P w) X.A (pyNext (.ref it)) (λr s1=>r=none/\Inv X kb σ H s1) E s
 self:∀(A:Around) (i:Nat) (s:Shared) (Q:Value->Shared->Prop) (E:Value->Shared->Prop),tn i s.heap->Q (.ref it) s->wpAny (model P w) A (pyIter (.ref it)) Q E s
abbrev TI:=St->Hp->(It->Hp->Prop)->Prop
def nU(X:Cx)(kb:List (Addr×Obj))(σ:St)(tg:Expr)(R:It->Hp->Prop)(itv:Value)(s2:Shared):Prop:=
 ∃(it:Addr) (fp:List Addr) (tn:Nat->Heap->Prop) (J:It) (H':Hp),itv=.ref it/\Inv X kb σ H' s2/\dk X.prog X.w X.K tg J fp it tn/\tn 0 s2.heap/\(∀b∈fp,dN X kb H' b)/\R J H'
def PI(X:Cx)(tg CQ:Expr)(wi:TI):Prop:=
 ∀(kb:List (Addr×Obj)) (s:Shared) (σ:St) (H:Hp) (R:It->Hp->Prop),Inv X kb σ H s->wi σ H R ->
  wpAny (model X.prog X.w) X.A (eval CQ X.env) (λv s1=>wpAny (model X.prog X.w) X.A (pyIter v) (nU X kb σ tg R) X.xe s1) X.xe s
theorem ju{M:Model}{A:Around}{E:Value->Shared->Prop}{s:Shared}{tg:Expr}{it:Addr}{u:Value}{o:Obj}{n:String}{vs:Array Value}{Q:Unit->Shared->Prop}(ho:s.heap.get? it=some o)(hc:o.cls=.type n)(hd:o.data=.fields vs)
  (hn:["enumerate","zip","dict_itemiterator","dict_reverseitemiterator","odict_iterator","itertools.zip_longest","itertools.pairwise"].contains n=false) (hQ:Q () s):wpAny M A (letOwnedTupleGo tg (.ref it) u) Q E s:=by
 unfold letOwnedTupleGo
 cases tg<;>first
  |exact Qq hQ
  | (cases u<;>first
    |exact Qq hQ
    | (refine Qa (wpAny_load ho ?_)
       rw[hc,hd];show wpAny M A (if(["enumerate","zip","dict_itemiterator","dict_reverseitemiterator","odict_iterator","itertools.zip_longest","itertools.pairwise"].contains n&&vs[0]? == some (rawInt _))=true then _ else _) Q E s;rw[if_neg (by intro h;rw[hn,Bool.false_and] at h;cases h)]
       exact Qq hQ))
noncomputable def eu(K:W.Frag)(a:Addr):It:=
 ⟨λi H=>∃xs x,ae K H a xs/\xs[i]?=some x,λi H x H'=>H'=H/\∀xs,ae K H a xs->xs[i]?=some x,λi H=>∃xs,ae K H a xs/\xs.length<=i⟩
noncomputable def fL(lo:Int)(n:Nat):It:=⟨λi _=>i<n,λi H x H'=>H'=H/\x=.int (lo+i),λi _=>n<=i⟩
theorem nV{P:Program}{w:World}{K:W.Frag}{tg:Expr}(a it:Addr):dk P w K tg (eu K a) [it] it (λi h=>h.IsListIter it a i) where
 mem:=by simp
 obj:=λi h st b hb=>by
  have e:b=it:=by simpa using hb
  subst e;obtain⟨o,e,c,d⟩:=st;exact⟨o,e,λv z=>by rw[d] at z;cases z⟩
 keep:=λi h h' st k=>st.at λo e=>k it (by simp) o e
 item:=by intro X hP hw hK hc i kb s σ H E I hf st hg;subst hP hw hK;obtain⟨xs,x,hq,hx⟩:=hg;obtain⟨its,rv,p,hz⟩:=I.list hq;obtain⟨u,hu,ru⟩:=rv.get hx;obtain⟨f0,f1,f2,f3,f4,f5⟩:=hf it (by simp);refine wpAny_pyNext_list_item st p.isList (x:=u) (by simpa using hu) λh' Dm sb=>?_;have I1:Inv X kb σ H {s with heap:=h'}:=I.turned (t':=s.toks) (λb o hb e=>(sb.2 b hb).trans e) f0 f1 f3 f4 f5;obtain⟨o,e,c,d⟩:=id Dm;exact⟨u,rfl,ju (s:={s with heap:=h'}) e c d (by decide) ⟨x,H,I1,ru,⟨rfl,λys hy=>by rw[I.list_inj hy hq];exact hx⟩,Dm,λb hb=>(hf b hb).1⟩⟩
 done:=by
  intro X hP hw hK hc i kb s σ H E I hf st hg;subst hP hw hK;obtain⟨xs,hq,hx⟩:=hg;obtain⟨its,rv,p,hz⟩:=I.list hq;obtain⟨f0,f1,f2,f3,f4,f5⟩:=hf it (by simp);have hl:=rv.length
  exact wpAny_pyNext_list_end (I.ok.hd hc) st p.isList (by simp;lia) λh' eb=>⟨rfl,I.turned (t':=s.toks) (λb o hb e=>eb b o hb e) f0 f1 f3 f4 f5⟩
 self:=λ_ _ _ _ _ st h=>wpAny_pyIter_listiter st h
theorem wH{P:Program}{w:World}{K:W.Frag}{tg:Expr}(it:Addr)(lo:Int)(n:Nat):dk P w K tg (fL lo n) [it] it (λi h=>IsRangeIter h it (lo+(i:Nat)*1) ((n:Int)-(i:Nat)) 1) where
 mem:=by simp
 obj:=λi h st b hb=>by
  have e:b=it:=by simpa using hb
  subst e
  exact⟨_,st,λv z=>by
   have z':Data.fields _=Data.cell v:=z
   cases z'⟩
 keep:=λi h h' st k=>k it (by simp) _ st
 item:=by intro X hP hw hK hc i kb s σ H E I hf st hg;subst hP hw hK;obtain⟨f0,f1,f2,f3,f4,f5⟩:=hf it (by simp);have W:=Walks.range (prog:=X.prog) (w:=X.w) (I.ok.hd hc) it lo 1 n;refine W.item i s _ _ hg st λv h' tk hv Dm kk=>?_;obtain⟨t,rfl⟩:=hv;have I1:Inv X kb σ H {s with heap:=h',toks:=tk}:=I.turned (λb o hb e=>kk b o (by simpa using hb) e) f0 f1 f3 f4 f5;refine⟨_,rfl,ju (s:={s with heap:=h',toks:=tk}) (n:="range_iterator") Dm rfl rfl (by decide) ⟨.int (lo+i),H,I1,⟨t,?_⟩,⟨rfl,rfl⟩,Dm,λb hb=>(hf b hb).1⟩⟩;rw[Int.mul_one]
 done:=by
  intro X hP hw hK hc i kb s σ H E I hf st hg;subst hP hw hK;obtain⟨f0,f1,f2,f3,f4,f5⟩:=hf it (by simp)
  exact wpAny_pyNext_range_end (I.ok.hd hc) st (by have:n<=i:=hg;lia) λh' eb=>⟨rfl,I.turned (t':=s.toks) (λb o hb e=>eb b o hb e) f0 f1 f3 f4 f5⟩
 self:=λ_ _ _ _ _ st h=>wpAny_pyIter_rangeiter st h
section
variable {X:Cx}{tg:Expr}
def nW(K:W.Frag)(tl:TE):TI:=λσ H R=>tl σ H λx H1=>∃a,x=.ref a/\(∃xs,ae K H1 a xs)/\R (eu K a) H1
theorem nX{l:Expr}{tl:TE}(hl:PE X l tl):PI X tg l (nW X.K tl):=by
 intro kb s σ H R I h;refine az (hl kb s σ H _ I h) λv s1 hsl19=>?_;obtain⟨x,H1,I1,r1,q1⟩:=hsl19;obtain⟨a,e,⟨xs,hq⟩,q⟩:=q1;subst e;cases r1;obtain⟨its,rv,p,hz⟩:=I1.list hq;refine wpAny_pyIter_list p.isList ?_;refine⟨s1.heap.objs.size,[s1.heap.objs.size],_,_,H1,rfl,I1.kept (t':=s1.toks) λb o e=>Qh _ e,nV a _,⟨_,Qt _ rfl,rfl,rfl⟩,λb hb=>?_,q⟩;have e:b=s1.heap.objs.size:=by simpa using hb
 subst e;exact I1.fpOk (Qk _) (I1.hok.fresh (Qk _))
theorem wI{kb:List (Addr×Obj)}{σ:St}{H:Hp}{s:Shared}{R:It->Hp->Prop}{E:Value->Shared->Prop}{lo hi:Int}{t u v:Tok}{tk:Nat}(I:Inv X kb σ H s)(h1:-(2^62)<=lo)(h2:lo<2^62)(h3:-(2^62)<=hi)(h4:hi<2^62)
  (q:R (fL lo (hi-lo).toNat) H):wpAny (model X.prog X.w) X.A (pyIter (.ref s.heap.objs.size)) (nU X kb σ tg R) E {s with heap:=s.heap.push {cls:=.type "range",data:=.fields #[.int lo t,.int hi u,.int 1 v]},toks:=tk}:=by
 refine wpAny_pyIter_range (IsRange.new ..) (small_one h1 h2 h3 h4) ?_;have I1:Inv X kb σ H {s with heap:=s.heap.push {cls:=.type "range",data:=.fields #[.int lo t,.int hi u,.int 1 v]},toks:=tk}:=I.kept λb o e=>Qh _ e
 refine⟨(s.heap.push {cls:=.type "range",data:=.fields #[.int lo t,.int hi u,.int 1 v]}).objs.size,[(s.heap.push {cls:=.type "range",data:=.fields #[.int lo t,.int hi u,.int 1 v]}).objs.size],_,_,H,rfl,
  I1.kept (t':=tk) λb o e=>Qh _ e,wH _ lo (hi-lo).toNat,?_,λb hb=>?_,q⟩
 ·have e1:lo+((0:Nat):Int)*1=lo:=by simp
  have e2:(((hi-lo).toNat:Nat):Int)-((0:Nat):Int)=Builtin.Range.rangeSize lo hi 1:=by rw[rangeSize_one];split<;>lia
  show IsRangeIter _ _ (lo+((0:Nat):Int)*1) ((((hi-lo).toNat:Nat):Int)-((0:Nat):Int)) 1;rw[e1,e2];exact Qt _ rfl
 have e:b=(s.heap.push {cls:=.type "range",data:=.fields #[.int lo t,.int hi u,.int 1 v]}).objs.size:=by simpa using hb
 subst e;exact I1.fpOk (Qk _) (I1.hok.fresh (Qk _))
def wJ(ta:TA):TI:=λσ H R=>ta σ H λvs H1=>∃j:Int,vs=[.int j]/\-(2^62)<=j/\j<2^62/\R (fL 0 j.toNat) H1
theorem fM{a:Expr}{ta:TA}{p pos:Pos}(hg:Gl X "range")(hm:X.mg "range"=none)(ha:PA X [a] ta)(hs:starEach [a] X.env=[(false,eval a X.env)]:=by rfl):PI X tg (.Call (.Name "range" p) [a] [] pos) (wJ ta):=by
 intro kb s σ H R I h;refine Call_ (fG I hg hm boot_range (PyProof.Rows.callWith_type1 (az (ha pos kb s σ H _ I h) λus s1 hsl20=>?_) hs rfl));obtain⟨vs,H1,I1,r1,q1⟩:=hsl20;obtain⟨j,e,q1,q2,q⟩:=q1;subst e
 cases r1 with
 |cons r rr =>
  cases rr;obtain⟨t,rfl⟩:=r;exact call_range_1 (wI I1 (by lia) (by lia) q1 q2 (by simpa using q))
def kT(wi:TI)(g:TG)(tb:TS):TS:=λD σ H=>wi σ H λJ H1=>∃W:Nat->Nat->St->Hp->Prop,(∃m,W 0 m σ H1)/\∀i m σ H,W i m σ H ->
 (J.stop i H/\D.nx σ H)∨(J.go i H/\∃N:St->Hp->Prop,(∀σ' H',N σ' H'->∃m',m'<m/\W (i+1) m' σ' H')/\∀x H',J.yld i H x H'->g x σ H' λσ2 H2=>tb {D with nx:=N,ct:=N,bk:=D.nx} σ2 H2)
noncomputable def fN(fp:List Addr)(h:Heap):List (Addr×Obj):=fp.filterMap λb=>(h.get? b).map λo=>(b,o)
theorem gz{fp:List Addr}{h:Heap}{b:Addr}{o:Obj}(hb:b∈fp)(e:h.get? b=some o):(b,o)∈fN fp h:=List.mem_filterMap.mpr ⟨b,hb,by rw[e];rfl⟩
theorem nY{fp:List Addr}{h:Heap}{p:Addr×Obj}(hp:p∈fN fp h):p.1∈fp/\h.get? p.1=some p.2:=by
 obtain⟨b,hb,e⟩:=List.mem_filterMap.mp hp
 cases q:h.get? b with
 |none=>rw[q] at e;cases e
 |some o =>
  rw[q] at e;have e':(b,o)=p:=Qw e;subst e';exact⟨hb,q⟩
theorem Inv.pinned{kb:List (Addr×Obj)}{σ:St}{H:Hp}{s:Shared}{fp:List Addr}(I:Inv X kb σ H s)(hf:∀b∈fp,dN X kb H b)(ho:∀b∈fp,∃o,s.heap.get? b=some o/\∀v,o.data≠.cell v):Inv X (kb++fN fp s.heap) σ H s:=
 I.pins_of λp hp=>(Qx hp).elim (λz=>I.pin p (Qz _ z)) λz=>by obtain⟨hb,e⟩:=nY z;obtain⟨f0,f1,f2,_⟩:=hf p.1 hb;obtain⟨o,e',d⟩:=ho p.1 hb;rw[e] at e';cases e';exact⟨e,f0,f1,f2,d⟩
theorem Inv.unpinned{kb pl:List (Addr×Obj)}{σ:St}{H:Hp}{s:Shared}(I:Inv X (kb++pl) σ H s):Inv X kb σ H s:=I.pins_of λp hp=>I.pin p (Qz _ (List.mem_append_left _ hp))
theorem eB{CQ:Expr}{body:List Stmt}{wi:TI}{g:TG}{tb:TS}{pos:Pos}(hp:PassesOwn (model X.prog X.w) X.A X.env X.xe)(hc:X.calm=true)(hi:PI X tg CQ wi)(hg:PG X tg g)(hb:cb X body tb)
  (hs:∀x,foldedSetIterable CQ X.env x=pure x:=by intro _;rfl):PS X (.For tg CQ body [] pos) (kT wi g tb):=by
 intro kb s σ H D I h;refine wpAny_For (az (hi kb s σ H _ I h) λv s1 h1=>az h1 λitv s2 h2=>?_) hs;obtain⟨it,fp,tn,J,H2,e,I2,T,st2,f2,W,⟨m0,w0⟩,turn⟩:=h2;subst e
 have stat:∀{H':Hp},(∀b∈fp,H' b=none)->∀b∈fp,dN X kb H' b:=λhn b hb=>⟨hn b hb,(f2 b hb).2⟩
 refine codeAny_forLoop_any (λn s'=>∃i σ' H',Inv X kb σ' H' s'/\tn i s'.heap/\(∀b∈fp,H' b=none)/\W i n σ' H') ?_ m0 ⟨0,σ,H2,I2,st2,λb hb=>(f2 b hb).1,w0⟩;rintro n s3 ⟨i,σ3,H3,I3,st3,fr3,w3⟩
 rcases turn i n σ3 H3 w3 with ⟨stop,qn⟩|⟨go,N,hN,step⟩
 ·refine wpAny_passesOwn hp (az (T.done X rfl rfl rfl hc i kb s3 σ3 H3 X.xe I3 (stat fr3) st3 stop) λr s4 hsl21=>?_);obtain⟨hr,I4⟩:=hsl21;subst hr;exact wpAny_execs_nil ⟨σ3,H3,I4,qn⟩
 refine wpAny_passesOwn hp (az (T.item X rfl rfl rfl hc i kb s3 σ3 H3 X.xe I3 (stat fr3) st3 go) λr s4 hsl22=>?_);obtain⟨u,hr,h4⟩:=hsl22;subst hr;refine wpAny_passesOwn hp (az h4 λ_ s5 hsl23=>?_);obtain⟨x,H5,I5,r5,y5,st5,fr5⟩:=hsl23;have I5':=I5.pinned (stat fr5) (T.obj _ _ st5);refine wpAny_passesOwn hp (az (hg _ s5 σ3 H5 x u _ I5' r5 (step x H5 y5)) λ_ s6 hsl24=>?_);obtain⟨σ6,H6,I6,q6⟩:=hsl24;refine wpAny_passesOwn hp (az (hb _ s6 σ6 H6 _ I6 q6) λf s7 q7=>?_);have again:∀{σ7:St} {H7:Hp},Inv X (kb++fN fp s5.heap) σ7 H7 s7->N σ7 H7->∃m,m<n/\∃i σ' H',Inv X kb σ' H' s7/\tn i s7.heap/\(∀b∈fp,H' b=none)/\W i m σ' H':=λ{σ7 H7} I7 n7=>by obtain⟨m',hm,w7⟩:=hN σ7 H7 n7;refine⟨m',hm,i+1,σ7,H7,I7.unpinned,T.keep _ _ _ st5 λb hb o e=>(I7.pin (b,o) (Qz _ (Qz _ (gz hb e)))).1,λb hb=>?_,w7⟩;obtain⟨o,e,d⟩:=T.obj _ _ st5 b hb;exact(I7.pin (b,o) (Qz _ (Qz _ (gz hb e)))).2.1
 cases f with
 |next=>obtain⟨σ7,H7,I7,n7⟩:=q7;exact again I7 n7
 |cont=>obtain⟨σ7,H7,I7,n7⟩:=q7;exact again I7 n7
 |brk=>obtain⟨σ7,H7,I7,q7⟩:=q7;exact⟨σ7,H7,I7.unpinned,q7⟩
 |ret v=>obtain⟨x7,σ7,H7,I7,r7,q7⟩:=q7;exact⟨x7,σ7,H7,I7.unpinned,r7,q7⟩
end
theorem ie{K:W.Frag}{a:Addr}{xs:List V}{g:TG}{tb:TS}{D:bO}{σ:St}{H:Hp}(Pv:Nat->St->Hp->Prop)(h0:Pv 0 σ H)(hl:∀i σ H,i<=xs.length->Pv i σ H->ae K H a xs)
  (hs:∀i x σ H,xs[i]?=some x->Pv i σ H->g x σ H λσ2 H2=>tb {D with nx:=Pv (i+1),ct:=Pv (i+1),bk:=D.nx} σ2 H2) (hd:∀σ H,Pv xs.length σ H->D.nx σ H) :
  ∃W:Nat->Nat->St->Hp->Prop,(∃m,W 0 m σ H)/\∀i m σ H,W i m σ H ->
   ((eu K a).stop i H/\D.nx σ H)∨((eu K a).go i H/\∃N:St->Hp->Prop,(∀σ' H',N σ' H'->∃m',m'<m/\W (i+1) m' σ' H')/\∀x H',(eu K a).yld i H x H'->g x σ H' λσ2 H2=>tb {D with nx:=N,ct:=N,bk:=D.nx} σ2 H2):=by
 refine⟨λi m σ H=>m=xs.length-i/\i<=xs.length/\Pv i σ H,⟨xs.length,by simp,Ql _,h0⟩,?_⟩;rintro i m σ H ⟨rfl,hi,p⟩;have q:=hl i σ H hi p;by_cases CU:i<xs.length
 ·refine .inr ⟨⟨xs,xs[i],q,by simp[CU]⟩,Pv (i+1),λσ' H' p'=>⟨xs.length-(i+1),by omega,rfl,CU,p'⟩,λx H' y=>?_⟩;obtain⟨e,y⟩:=y;subst e;exact hs i x σ _ (y xs q) p
 have e:i=xs.length:=by omega
 subst e;exact .inl ⟨⟨xs,q,Qk _⟩,hd σ H p⟩
theorem kU{lo:Int}{n:Nat}{g:TG}{tb:TS}{D:bO}{σ:St}{H:Hp}(Pv:Nat->St->Hp->Prop)(h0:Pv 0 σ H)
  (hs:∀i σ H,i<n->Pv i σ H->g (.int (lo+i)) σ H λσ2 H2=>tb {D with nx:=Pv (i+1),ct:=Pv (i+1),bk:=D.nx} σ2 H2) (hd:∀σ H,Pv n σ H->D.nx σ H) :
  ∃W:Nat->Nat->St->Hp->Prop,(∃m,W 0 m σ H)/\∀i m σ H,W i m σ H ->
   ((fL lo n).stop i H/\D.nx σ H)∨((fL lo n).go i H/\∃N:St->Hp->Prop,(∀σ' H',N σ' H'->∃m',m'<m/\W (i+1) m' σ' H')/\∀x H',(fL lo n).yld i H x H'->g x σ H' λσ2 H2=>tb {D with nx:=N,ct:=N,bk:=D.nx} σ2 H2):=by
 refine⟨λi m σ H=>m=n-i/\i<=n/\Pv i σ H,⟨n,by simp,Ql _,h0⟩,?_⟩;rintro i m σ H ⟨rfl,hi,p⟩;by_cases CU:i<n
 ·refine .inr ⟨CU,Pv (i+1),λσ' H' p'=>⟨n-(i+1),by omega,rfl,CU,p'⟩,λx H' y=>?_⟩;obtain⟨e,y⟩:=y;subst e y;exact hs i σ _ CU p
 have e:i=n:=by omega
 subst e;exact .inl ⟨Qk _,hd σ H p⟩
theorem nZ{c:TT}{tb:TS}{D:bO}{σ:St}{H:Hp}(Pv:St->Hp->Prop)(μ:St->Hp->Nat)(h0:Pv σ H)
  (hs:∀σ H,Pv σ H->c σ H λb H1=>if b=true then tb {D with nx:=λσ' H'=>Pv σ' H'/\μ σ' H'<μ σ H,ct:=λσ' H'=>Pv σ' H'/\μ σ' H'<μ σ H,bk:=D.nx} σ H1 else D.nx σ H1)
  (mono:∀σ H Q Q',(∀b H1,Q b H1->Q' b H1)->c σ H Q->c σ H Q'):nR c tb D σ H:=by
 refine⟨λm σ H=>m=μ σ H/\Pv σ H,⟨_,rfl,h0⟩,?_⟩;rintro m σ H ⟨rfl,p⟩;refine mono σ H _ _ (λb H1 q=>?_) (hs σ H p)
 cases b with
 |true=>exact⟨_,λσ' H' ⟨p',l⟩=>⟨_,l,rfl,p'⟩,q⟩
 |false=>exact q
abbrev R2:=V->V->Hp->VK->Prop
def a9(X:Cx)(f:Value->Value->Sem Value)(r:R2):Prop:=
 ∀(kb:List (Addr×Obj)) (s:Shared) (σ:St) (H:Hp) (x y:V) (v u:Value) (Q:VK),Inv X kb σ H s->RelV x v->RelV y u->r x y H Q ->
  wpAny (model X.prog X.w) X.A (f v u) (EP X kb σ Q) X.xe s
def kW(X:Cx)(f:Value->Sem Value)(r:V->Hp->VK->Prop):Prop:=
 ∀(kb:List (Addr×Obj)) (s:Shared) (σ:St) (H:Hp) (x:V) (v:Value) (Q:VK),Inv X kb σ H s->RelV x v->r x H Q ->
  wpAny (model X.prog X.w) X.A (f v) (EP X kb σ Q) X.xe s
def cD(X:Cx)(f:Value)(r:List V->Hp->VK->Prop):Prop:=
 ∀(kb:List (Addr×Obj)) (s:Shared) (σ:St) (H:Hp) (xs:List V) (us:List Value) (Q:VK),Inv X kb σ H s->aG xs us->r xs H Q ->
  wpAny (model X.prog X.w) X.A (call f us) (EP X kb σ Q) X.xe s
def fO(r:R2)(ta tb:TE):TE:=λσ H Q=>ta σ H λx H1=>tb σ H1 λy H2=>r x y H2 Q
def wK(r:V->Hp->VK->Prop)(ta:TE):TE:=λσ H Q=>ta σ H λx H1=>r x H1 Q
inductive rI (C:Int->Int->Prop) (g:Int->Int->V) (x y:V) (H:Hp) (Q:VK):Prop
 |mk:∀i j,x=.int i->y=.int j->C i j->Q (g i j) H->rI C g x y H Q
inductive dm (g:Int->Int->V) (x y:V) (H:Hp) (Q:VK):Prop
 |mk:∀i j,x=.int i->y=.int j->Q (g i j) H->dm g x y H Q
inductive rU (g:Int->V) (x:V) (H:Hp) (Q:VK):Prop
 |mk:∀i,x=.int i->Q (g i) H->rU g x H Q
section
variable {X:Cx}{a b c:Expr}{ta tb tc:TE}{pos:Pos}
theorem kY(ha:PE X a ta)(hb:PE X b tb){kb:List (Addr×Obj)}{s:Shared}{σ:St}{H:Hp}{R:V->V->Hp->Prop}(I:Inv X kb σ H s)
  (h:ta σ H λx H1=>tb σ H1 λy H2=>R x y H2) {Q:Value->Shared->Prop} {f:Value->Value->Sem Value}
  (hf:∀v u s2 x y H2,Inv X kb σ H2 s2->RelV x v->RelV y u->R x y H2->wpAny (model X.prog X.w) X.A (f v u) Q X.xe s2) :
  wpAny (model X.prog X.w) X.A (eval a X.env) (λv s₁=>wpAny (model X.prog X.w) X.A (eval b X.env) (λu s₂=>wpAny (model X.prog X.w) X.A (f v u) Q X.xe s₂) X.xe s₁) X.xe s:=by
 refine az (ha kb s σ H _ I h) λv s1 hsl25=>?_;obtain⟨x,H1,I1,r1,q1⟩:=hsl25;refine az (hb kb s1 σ H1 _ I1 q1) λu s2 hsl26=>?_;obtain⟨y,H2,I2,r2,q2⟩:=hsl26;exact hf v u s2 x y H2 I2 r1 r2 q2
theorem aj{op:Operator}{r:R2}(ho:a9 X (binaryOp op) r)(ha:PE X a ta)(hb:PE X b tb):PE X (.BinOp a op b pos) (fO r ta tb):=by intro kb s σ H Q I h;exact wpAny_BinOp (kY ha hb I h λv u s2 x y H2 I2 rx ry q=>ho kb s2 σ H2 x y v u Q I2 rx ry q)
theorem fP{op:UnaryOp}{r:V->Hp->VK->Prop}(ho:kW X (unaryOp op) r)(ha:PE X a ta):PE X (.UnaryOp op a pos) (wK r ta):=by intro kb s σ H Q I h;exact UnaryOp_ (az (ha kb s σ H _ I h) λv s1 hsl27=>by obtain⟨x,H1,I1,r1,q1⟩:=hsl27;exact ho kb s1 σ H1 x v Q I1 r1 q1)
theorem ii{f:Value->Value->Sem Value}{C:Int->Int->Prop}{g:Int->Int->Int}
  (rule:∀(i j:Int) (t u:Tok) (s:Shared) (Q:Value->Shared->Prop) (E:Value->Shared->Prop),C i j->Q (.int (g i j) s.toks) {s with toks:=s.toks+1}->wpAny (model X.prog X.w) X.A (f (.int i t) (.int j u)) Q E s) :
  a9 X f (rI C λi j=>.int (g i j)):=by
 intro kb s σ H x y v u Q I rx ry h;obtain⟨i,j,rfl,rfl,hc,q⟩:=h;obtain⟨t,rfl⟩:=rx;obtain⟨t',rfl⟩:=ry;exact rule i j t t' s _ _ hc ⟨.int (g i j),H,I.tok _,⟨_,rfl⟩,q⟩
theorem ij{f:Value->Value->Sem Value}{g:Int->Int->Int}
  (rule:∀(i j:Int) (t u:Tok) (s:Shared) (Q:Value->Shared->Prop) (E:Value->Shared->Prop),Q (.int (g i j) s.toks) {s with toks:=s.toks+1}->wpAny (model X.prog X.w) X.A (f (.int i t) (.int j u)) Q E s) :
  a9 X f (dm λi j=>.int (g i j)):=by
 intro kb s σ H x y v u Q I rx ry h;obtain⟨i,j,rfl,rfl,q⟩:=h;obtain⟨t,rfl⟩:=rx;obtain⟨t',rfl⟩:=ry;exact rule i j t t' s _ _ ⟨.int (g i j),H,I.tok _,⟨_,rfl⟩,q⟩
theorem jv{f:Value->Value->Sem Value}{g:Int->Int->Bool}
  (rule:∀(i j:Int) (t u:Tok) (s:Shared) (Q:Value->Shared->Prop) (E:Value->Shared->Prop),Q (.bool (g i j)) s->wpAny (model X.prog X.w) X.A (f (.int i t) (.int j u)) Q E s) :
  a9 X f (dm λi j=>.bl (g i j)):=by
 intro kb s σ H x y v u Q I rx ry h;obtain⟨i,j,rfl,rfl,q⟩:=h;obtain⟨t,rfl⟩:=rx;obtain⟨t',rfl⟩:=ry;exact rule i j t t' s _ _ ⟨.bl (g i j),H,I,rfl,q⟩
def wL(i j:Int):Prop:=0<j/\j<1073741824
def kZ(i j:Int):Prop:=(-(2^64)<i/\i<2^64)∨(-(2^64)<j/\j<2^64)
theorem kZ.ok{i j:Int}(h:kZ i j):IntMulOk i j:=by
 rcases h with ⟨h1,h2⟩|⟨h1,h2⟩
 ·exact .of_left (intBits_le_64 h1 h2)
 exact .of_right (intBits_le_64 h1 h2)
theorem wM(k:Nat):(0:Int)<=2^k:=by rw[two_pow_cast];exact Int.natCast_nonneg _
theorem bL:a9 X (binaryOp .Add) (dm λi j=>.int (i+j)):=ij λ_ _ _ _ _ _ _ q=>add_int q
theorem eQ:a9 X (binaryOp .Sub) (dm λi j=>.int (i-j)):=ij λ_ _ _ _ _ _ _ q=>sub_int q
theorem dY:a9 X (binaryOp .Mult) (rI kZ λi j=>.int (i*j)):=ii λ_ _ _ _ _ _ _ hc q=>mul_int q hc.ok
theorem bV:a9 X (binaryOp .FloorDiv) (rI wL λi j=>.int (i/j)):=ii λi j _ _ _ _ _ hc q=>by have h1:(0:Int)<j:=hc.1;have h2:j<1073741824:=hc.2;exact floordiv_int (by omega) (by rw[Int.fdiv_eq_ediv_of_nonneg i (by omega)];exact q) (.inl (PyProof.noPylong_small (by omega)))
theorem bn:a9 X (binaryOp .Mod) (rI (λ_ j=>0<j) λi j=>.int (i%j)):=ii λi j _ _ _ _ _ hc q=>by have h1:(0:Int)<j:=hc;exact mod_int' (by lia) (by rw[Int.fmod_eq_emod_of_nonneg i (by lia)];exact q)
theorem la:a9 X (binaryOp .RShift) (rI (λ_ j=>0<=j) λi j=>.int (i/2^j.toNat)):=ii λi j _ _ _ _ _ hc q =>
 rshift_int hc (by rw[Int.fdiv_eq_ediv_of_nonneg i (wM _)];exact q)
theorem cR:a9 X (binaryOp .BitAnd) (dm λi j=>.int (Builtin.bitAnd i j)):=ij λ_ _ _ _ _ _ _ q=>and_int q
theorem gA:a9 X (binaryOp .BitOr) (dm λi j=>.int (Builtin.bitOr i j)):=ij λ_ _ _ _ _ _ _ q=>or_int q
theorem ik:a9 X (binaryOp .BitXor) (dm λi j=>.int (Builtin.bitXor i j)):=ij λ_ _ _ _ _ _ _ q=>xor_int q
theorem wN{f:Value->Sem Value}{g:Int->Int}
  (rule:∀(i:Int) (t:Tok) (s:Shared) (Q:Value->Shared->Prop) (E:Value->Shared->Prop),Q (.int (g i) s.toks) {s with toks:=s.toks+1}->wpAny (model X.prog X.w) X.A (f (.int i t)) Q E s) :
  kW X f (rU λi=>.int (g i)):=by
 intro kb s σ H x v Q I rx h;obtain⟨i,rfl,q⟩:=h;obtain⟨t,rfl⟩:=rx;exact rule i t s _ _ ⟨.int (g i),H,I.tok _,⟨_,rfl⟩,q⟩
theorem fQ:kW X (unaryOp .USub) (rU λi=>.int (-i)):=wN λ_ _ _ _ _ q=>neg_int q
end
noncomputable def n5:V->V->Bool
 |.non,.non=>true|.non,.int _=>true|.int _,.non=>true|.non,.bl _=>true|.bl _,.non=>true|.non,.str _=>true|.str _,.non=>true
 |.int _,.int _=>true|.bl _,.bl _=>true|.str _,.str _=>true|.byt _,.byt _=>true
 |.int _,.str _=>true|.str _,.int _=>true|.bl _,.str _=>true|.str _,.bl _=>true
 |_,_=>false
def wO:R2:=λx y H Q=>n5 x y=true/\Q (.bl (decide (x=y))) H
def wP:R2:=λx y H Q=>n5 x y=true/\Q (.bl (!decide (x=y))) H
theorem fR{i j:Int}:decide (V.int i=V.int j)=(i==j):=by rw[Bool.eq_iff_iff];simp
theorem n8{i j:Bool}:decide (V.bl i=V.bl j)=(i==j):=by rw[Bool.eq_iff_iff];simp
theorem cp{i j:Str}:decide (V.str i=V.str j)=(i==j):=by rw[Bool.eq_iff_iff];simp
theorem og{i j:Array UInt8}:decide (V.byt i=V.byt j)=(i.toList==j.toList):=by rw[Bool.eq_iff_iff];cases i;cases j;simp
section
variable {X:Cx}{a b c:Expr}{ta tb tc:TE}{pos:Pos}
theorem ba{kb:List (Addr×Obj)}{σ:St}{H:Hp}{s:Shared}{Q:VK}{k k':Bool}(I:Inv X kb σ H s)(q:Q (.bl k) H)(e:k=k'):EP X kb σ Q (.bool k') s:=by subst e;exact⟨.bl k,H,I,rfl,q⟩
theorem aN:a9 X (compareOp .Eq) wO:=by
 intro kb s σ H x y v u Q I rx ry h;obtain⟨hs,q⟩:=h
 cases x with
 |non =>
  cases rx
  cases y with
  |non=>cases ry;exact PySem.EqNone.eq_none_none (ba I q (by simp))
  |bl j=>cases ry;exact PySem.EqNone.eq_none_bool (ba I q (by simp))
  |int j=>obtain⟨t',rfl⟩:=ry;exact PySem.EqNone.eq_none_int (ba I q (by simp))
  |str j=>obtain⟨t',rfl⟩:=ry;exact PySem.EqNone.eq_none_str (ba I q (by simp))
  |_=>exact absurd (show false=true from hs) Qf
 |bl i =>
  cases rx
  cases y with
  |non=>cases ry;exact PySem.EqNone.eq_bool_none (ba I q (by simp))
  |bl j=>cases ry;exact eq_bool (ba I q n8)
  |str j=>obtain⟨t',rfl⟩:=ry;exact PySem.EqMixed.eq_bool_str (ba I q (by simp))
  |_=>exact absurd (show false=true from hs) Qf
 |int i =>
  obtain⟨t,rfl⟩:=rx
  cases y with
  |non=>cases ry;exact PySem.EqNone.eq_int_none (ba I q (by simp))
  |int j=>obtain⟨t',rfl⟩:=ry;exact eq_int (ba I q fR)
  |str j=>obtain⟨t',rfl⟩:=ry;exact PySem.EqMixed.eq_int_str (ba I q (by simp))
  |_=>exact absurd (show false=true from hs) Qf
 |str i =>
  obtain⟨t,rfl⟩:=rx
  cases y with
  |non=>cases ry;exact PySem.EqNone.eq_str_none (ba I q (by simp))
  |bl j=>cases ry;exact PySem.EqMixed.eq_str_bool (ba I q (by simp))
  |int j=>obtain⟨t',rfl⟩:=ry;exact PySem.EqMixed.eq_str_int (ba I q (by simp))
  |str j=>obtain⟨t',rfl⟩:=ry;exact eq_str (ba I q cp)
  |_=>exact absurd (show false=true from hs) Qf
 |byt i =>
  obtain⟨t,rfl⟩:=rx
  cases y with
  |byt j=>obtain⟨t',rfl⟩:=ry;exact PySem.W.eq_bytes (ba I q og)
  |_=>exact absurd (show false=true from hs) Qf
 |_=>cases y<;>exact absurd (show false=true from hs) Qf
theorem il:a9 X (compareOp .NotEq) wP:=by
 intro kb s σ H x y v u Q I rx ry h;obtain⟨hs,q⟩:=h
 cases x with
 |non =>
  cases rx
  cases y with
  |non=>cases ry;exact PySem.EqNone.ne_none_none (ba I q (by simp))
  |bl j=>cases ry;exact PySem.EqNone.ne_none_bool (ba I q (by simp))
  |int j=>obtain⟨t',rfl⟩:=ry;exact PySem.EqNone.ne_none_int (ba I q (by simp))
  |str j=>obtain⟨t',rfl⟩:=ry;exact PySem.EqNone.ne_none_str (ba I q (by simp))
  |_=>exact absurd (show false=true from hs) Qf
 |bl i =>
  cases rx
  cases y with
  |non=>cases ry;exact PySem.EqNone.ne_bool_none (ba I q (by simp))
  |bl j=>cases ry;exact ne_bool (ba I q (congrArg not n8))
  |str j=>obtain⟨t',rfl⟩:=ry;exact PySem.EqMixed.ne_bool_str (ba I q (by simp))
  |_=>exact absurd (show false=true from hs) Qf
 |int i =>
  obtain⟨t,rfl⟩:=rx
  cases y with
  |non=>cases ry;exact PySem.EqNone.ne_int_none (ba I q (by simp))
  |int j=>obtain⟨t',rfl⟩:=ry;exact ne_int (ba I q (congrArg not fR))
  |str j=>obtain⟨t',rfl⟩:=ry;exact PySem.EqMixed.ne_int_str (ba I q (by simp))
  |_=>exact absurd (show false=true from hs) Qf
 |str i =>
  obtain⟨t,rfl⟩:=rx
  cases y with
  |non=>cases ry;exact PySem.EqNone.ne_str_none (ba I q (by simp))
  |bl j=>cases ry;exact PySem.EqMixed.ne_str_bool (ba I q (by simp))
  |int j=>obtain⟨t',rfl⟩:=ry;exact PySem.EqMixed.ne_str_int (ba I q (by simp))
  |str j=>obtain⟨t',rfl⟩:=ry;exact ne_str (ba I q (congrArg not cp))
  |_=>exact absurd (show false=true from hs) Qf
 |byt i =>
  obtain⟨t,rfl⟩:=rx
  cases y with
  |byt j=>obtain⟨t',rfl⟩:=ry;exact PySem.W.ne_bytes (ba I q (congrArg not og))
  |_=>exact absurd (show false=true from hs) Qf
 |_=>cases y<;>exact absurd (show false=true from hs) Qf
theorem fS:a9 X (compareOp .Lt) (dm λi j=>.bl (decide (i<j))):=jv λ_ _ _ _ _ _ _ q=>lt_int q
theorem lc:a9 X (compareOp .LtE) (dm λi j=>.bl (decide (i<=j))):=jv λ_ _ _ _ _ _ _ q=>le_int q
theorem cF:a9 X (compareOp .Gt) (dm λi j=>.bl (decide (j<i))):=jv λ_ _ _ _ _ _ _ q=>gt_int q
theorem jw:a9 X (compareOp .GtE) (dm λi j=>.bl (decide (j<=i))):=jv λ_ _ _ _ _ _ _ q=>ge_int q
theorem wQ:a9 X (compareOp .Lt) (λx y H Q=>∃i j,x=.str i/\y=.str j/\Q (.bl (decide (i.cps.toList<j.cps.toList))) H):=by intro kb s σ H x y v u Q I rx ry h;obtain⟨i,j,rfl,rfl,q⟩:=h;obtain⟨t,rfl⟩:=rx;obtain⟨t',rfl⟩:=ry;exact lt_str (ba I q rfl)
theorem oh:a9 X (compareOp .In) (λx y H Q=>∃i j,x=.str i/\y=.str j/\Q (.bl (!(Builtin.Str.occurrences j i 0 j.length 1).isEmpty)) H):=by intro kb s σ H x y v u Q I rx ry h;obtain⟨i,j,rfl,rfl,q⟩:=h;obtain⟨t,rfl⟩:=rx;obtain⟨t',rfl⟩:=ry;exact in_str (ba I q rfl)
theorem aq(b:Expr){op:CmpOp}(h:op≠.In:=by decide)(h2:op≠.NotIn:=by decide):behindInMarks op b=false:=by
 have e1:(op==CmpOp.In)=false:=by cases op<;>first|rfl|exact absurd rfl h
 have e2:(op==CmpOp.NotIn)=false:=by cases op<;>first|rfl|exact absurd rfl h2
 cases b<;>simp[behindInMarks,e1,e2]
theorem bM{op:CmpOp}{r:R2}(ho:a9 X (compareOp op) r)(ha:PE X a ta)(hb:PE X b tb)(hm:behindInMarks op b=false):PE X (.Compare a [op] [b] pos) (fO r ta tb):=by intro kb s σ H Q I h;exact wpAny_Compare1 (kY ha hb I h λv u s2 x y H2 I2 rx ry q=>ho kb s2 σ H2 x y v u Q I2 rx ry q) hm
def oi(t:TE):TT:=λσ H Q=>t σ H (kQ Q)
theorem ax{op:CmpOp}{r:R2}(ho:a9 X (compareOp op) r)(ha:PE X a ta)(hb:PE X b tb)(hm:behindInMarks op b=false):PT X (.Compare a [op] [b] pos) (oi (fO r ta tb)):=by
 intro kb s σ H Q I h
 refine wpAny_isTrue_Compare1 (az (ha kb s σ H _ I h) λv s1 ⟨x,H1,I1,r1,q1⟩=>az (hb kb s1 σ H1 _ I1 q1) λu s2 ⟨y,H2,I2,r2,q2⟩ =>
  az (ho kb s2 σ H2 x y v u _ I2 r1 r2 q2) λc s3 ⟨z,H3,I3,r3,k,e,q3⟩=>?_) hm
 subst e;cases r3;exact wpAny_truthy_bool ⟨H3,I3,q3⟩
theorem im:(sizeLine:Nat)<2^63:=by rw[sizeLine_eq];decide
theorem bP:a9 X (binaryOp .Add) (λx y H Q=>∃i j,x=.str i/\y=.str j/\i.length+j.length<=sizeLine/\Q (.str (i++j)) H):=by intro kb s σ H x y v u Q I rx ry h;obtain⟨i,j,rfl,rfl,hz,q⟩:=h;obtain⟨t,rfl⟩:=rx;obtain⟨t',rfl⟩:=ry;exact add_str (λt' tk=>⟨.str (i++j),H,I.tok _,⟨_,rfl⟩,q⟩) hz
theorem vals1{x:V}{us:List Value}(r:aG [x] us):∃u,us=[u]/\RelV x u:=by
 cases r with
 |cons r1 r2=>cases r2;exact⟨_,rfl,r1⟩
theorem vals2{x y:V}{us:List Value}(r:aG [x,y] us):∃u w',us=[u,w']/\RelV x u/\RelV y w':=by
 cases r with
 |cons r1 r2 =>
  cases r2 with
  |cons r3 r4=>cases r4;exact⟨_,_,rfl,r1,r3⟩
theorem wR(hc:X.calm=true):cD X (.builtin "min") (λxs H Q=>∃i j,xs=[.int i,.int j]/\Q (.int (if j<i then j else i)) H):=by
 intro kb s σ H xs us Q I r h;obtain⟨i,j,rfl,q⟩:=h;obtain⟨u,w',rfl,⟨t,rfl⟩,⟨t',rfl⟩⟩:=vals2 r
 refine min_two_ints (I.ok.hd hc) λh' tk k=>⟨_,H,I.kept k,?_,q⟩
 by_cases hj:j<i
 ·rw[if_pos hj,if_pos hj];exact⟨_,rfl⟩
 rw[if_neg hj,if_neg hj];exact⟨_,rfl⟩
theorem wS:cD X (.type "int") (λxs H Q=>(∃i,xs=[.int i]/\Q (.int i) H)∨∃k,xs=[.bl k]/\Q (.int (if k then 1 else 0)) H):=by
 intro kb s σ H xs us Q I r h
 rcases h with ⟨i,rfl,q⟩|⟨k,rfl,q⟩
 ·obtain⟨u,rfl,t,rfl⟩:=vals1 r;exact call_int_int ⟨.int i,H,I,⟨_,rfl⟩,q⟩
 obtain⟨u,rfl,r1⟩:=vals1 r;cases r1;exact call_int_bool ⟨.int (if k then 1 else 0),H,I.tok _,⟨_,rfl⟩,q⟩
end
structure fT(h:Heap)(x dx C:Addr)(mA:Str->Option Value):Prop where
 obj:h.get? x=some (PySem.W.instObj C dx)
 ns:h.Ns1 dx mA
 ne:dx≠x
theorem lf{h:Heap}{dx:Addr}{mA:Str->Option Value}(n:h.Ns1 dx mA):∃od,h.get? dx=some od/\∀name,PySem.W.lookIn name od=some (mA name):=by
 obtain⟨o,es,ep,ho,hd,hk,_,hm⟩:=n;refine⟨o,ho,λname=>?_⟩;have e:=hm name;unfold nsFind findBy at e;rw[<-Array.find?_toList] at e;unfold PySem.W.lookIn;rw[hd];dsimp only;split
 ·rename_i y q;rw[q] at e;exact congrArg some e
 rename_i q;rw[q] at e;have a:es.toList.any (·.refKey)=false:=by rw[List.any_eq_false];intro y hy;obtain⟨z,t,hkey⟩:=hk y (Array.mem_toList_iff.mp hy);simp[DictEntry.refKey,hkey]
 have a':¬es.toList.any (·.refKey)=true:=by rw[a];exact Qf
 rw[if_neg a'];exact congrArg some e
theorem fT.look{h:Heap}{x dx C:Addr}{mA:Str->Option Value}(I:fT h x dx C mA):∃od,PySem.W.InstAt h x (PySem.W.instObj C dx) C (some od)/\∀name,PySem.W.lookIn name od=some (mA name):=
 let ⟨od,ho,hl⟩:=lf I.ns
 ⟨od,⟨I.obj,rfl,rfl,ho⟩,hl⟩
section
variable {prog:Program}{w:World}{A:Around}{E:Value->Shared->Prop}{s:Shared}{K:W.Frag}{x dx C f:Addr}{mA:Str->Option Value}{name:Str}{v:Value}
theorem wT{ET:Bool}{Q:Value->Shared->Prop}(X:K.In s.heap)(I:fT s.heap x dx C mA)(hg:PySem.W.plainGet K C name=true)(hh:PySem.W.hasDictIn K C=true)
  (ha:PySem.W.findIn K (.ref C) name=some none) (hv:mA name=some v) (hv':PySem.W.handedIn v=true) (h:Q v {s with toks:=s.toks+1}) :
  wpAny (model prog w) A (getAttr (.ref x) name ET) Q E s:=by
 obtain⟨od,J,hl⟩:=I.look;exact PySem.W.get_value X J (PySem.W.plainGet_of hg).1 (PySem.W.findObj_own hh ha rfl (by rw[hl,hv])) hv' h
theorem wU{pl:Sem Bool}{Q:Value×List Value->Shared->Prop}(X:K.In s.heap)(I:fT s.heap x dx C mA)(hg:PySem.W.plainGet K C name=true)
  (hf:PySem.W.findIn K (.ref C) name=some (some (.ref f))) (ht:PySem.W.isFn K (.ref f)=true) (hv:mA name=none) (h:Q (.ref f,[.ref x]) s) :
  wpAny (model prog w) A (getMethod (.ref x) name pl) Q E s:=by
 obtain⟨od,J,hl⟩:=I.look;exact PySem.W.method_fn X J (PySem.W.plainGet_of hg).1 (PySem.W.plainGet_of hg).2 hf (beq_iff_eq.mp ht) (by show(PySem.W.lookIn name od).map (·.isSome)=some false;rw[hl,hv];rfl) h
theorem wV{ns:List Str}{Q:Unit->Shared->Prop}(X:K.In s.heap)(I:fT s.heap x dx C mA)
  (hs:PySem.W.findIn K (.ref C) "__setattr__"=some (some (.builtin "object.__setattr__"))) (hp:PySem.W.plainOver K C=true) (ht:PySem.W.takerIn K C name=some none) (hh:PySem.W.hasDictIn K C=true)
  (hw:PySem.Within mA ns) (hsz:ns.length<=sizeLine)
  (h:∀h',fT h' x dx C (λy=>if y=name then some v else mA y)->Heap.SameBut dx s.heap h'->Q () {s with heap:=h',toks:=s.toks+2}) :
  wpAny (model prog w) A (setAttr (.ref x) name v) Q E s:=by
 obtain⟨od,J,hl⟩:=I.look;refine PySem.W.set_plain X J hs (PySem.W.osa_open (s:={s with toks:=s.toks+1}) (r:=none) X J hp ht λb=>?_);obtain⟨cd,hc,hd'⟩:=PySem.W.any_some hh;have hx:s.heap.get? x=some ⟨.ref C,some dx,.plain,#[]⟩:=I.obj;refine Qa (Qq (Qa (Qa (wpAny_loadPart hx (Qa (PySem.W.Looks.here (s:={s with toks:=s.toks+1}) (PySem.W.looks_clsIn X hc) ?_))))));rw[hd'];refine Qq (a:=some dx) (Qa (Qq (Qa ?_)));refine wpAny_nsSet1 (s:={s with toks:=s.toks+1}) I.ns λh' hn2 Da=>?_;obtain⟨oD,esD,epD,hoD,hdD,hcD⟩:=hn2.count (PySem.Within.cons name v hw);refine Qa (wpAny_lookBehind hoD (by rw[hdD];exact pastItsLine_dict (Qg hcD (by rw[QC];lia))) ?_);exact Qq (h _ ⟨(Da.2 _ (Ne.symm I.ne)).trans I.obj,hn2,I.ne⟩ Da)
theorem wW{R:Result->Shared->Prop}{vs:List Value}{kw:List (Str×Value)}(X:K.In s.heap)(hm:PySem.W.makesIn K C=true)
  (hi:PySem.W.findIn K (.ref C) "__init__"=some (some (.ref f))) (hf:PySem.W.typeIn K (.ref f)=some (.type "function"))
  (h:codeAny (model prog w) (A.under (.builtin "type.__call__" ⟨.ref C::vs,kw⟩)) (.call (.ref f) ⟨.ref (s.heap.objs.size+1)::vs,kw⟩) (PySem.W.InitBack (s.heap.objs.size+1) R)
   {s with heap:=(s.heap.push PySem.W.emptyDict).push (PySem.W.instObj C s.heap.objs.size)}) :
  codeAny (model prog w) A (.call (.ref C) ⟨vs,kw⟩) R s:=by
 obtain⟨hh,g,d,t,os⟩:=s;exact PySem.W.make_core (PySem.W.makes_of X hm) (PySem.W.looks_findIn X hi) (λself=>PySem.W.bind_fn X self hf) (.inl rfl) h
end
noncomputable def bQ(f:Str)(v:V):List (Str×V)->List (Str×V)
 | []=>[(f,v)]
 |(g,x)::r=>if g=f then(g,v)::r else(g,x)::bQ f v r
theorem lg(f g:Str)(v:V):∀fs:List (Str×V),(bQ f v fs).lookup g=if g=f then some v else fs.lookup g
 | []=>by
  show List.lookup g [(f,v)]=_;by_cases h:g=f
  ·have hb:(g==f)=true:=beq_iff_eq.mpr h;simp only[List.lookup,hb,if_pos h]
  have hb:(g==f)=false:=beq_eq_false_iff_ne.mpr h;simp only[List.lookup,hb,if_neg h]
 |(k,x)::r=>by
  have ih:=lg f g v r;rw[show bQ f v ((k,x)::r)=(if k=f then(k,v)::r else(k,x)::bQ f v r) from rfl];by_cases hk:k=f
  ·rw[if_pos hk];by_cases h:g=k
   ·have hb:(g==k)=true:=beq_iff_eq.mpr h;simp only[List.lookup,hb,if_pos (h.trans hk)]
   have hb:(g==k)=false:=beq_eq_false_iff_ne.mpr h;simp only[List.lookup,hb,if_neg (λe:g=f=>h (e.trans hk.symm))]
  rw[if_neg hk];by_cases h:g=k
  ·have hb:(g==k)=true:=beq_iff_eq.mpr h;simp only[List.lookup,hb,if_neg (λe:g=f=>hk (h.symm.trans e))]
  have hb:(g==k)=false:=beq_eq_false_iff_ne.mpr h;simp only[List.lookup,hb];exact ih
theorem lh(f:Str)(v:V):∀fs:List (Str×V),f∈(bQ f v fs).map (·.1)/\∀g,g∈fs.map (·.1)->g∈(bQ f v fs).map (·.1)
 | []=>⟨by simp[bQ],λg h=>by simp at h⟩
 |(k,x)::r=>by
  obtain⟨i1,i2⟩:=lh f v r;rw[show bQ f v ((k,x)::r)=(if k=f then(k,v)::r else(k,x)::bQ f v r) from rfl];by_cases hk:k=f
  ·rw[if_pos hk];subst hk;exact⟨by simp,λg h=>by simpa using h⟩
  rw[if_neg hk];refine⟨?_,λg h=>?_⟩
  ·rw[List.map_cons];exact Qr _ i1
  rw[List.map_cons] at h ⊢;rcases Qs h with e|e
  ·exact List.mem_cons.mpr (.inl e)
  exact Qr _ (i2 g e)
theorem oj(f:Str)(v:V):∀fs:List (Str×V),(bQ f v fs).length<=fs.length+1
 | []=>by simp[bQ]
 |(k,x)::r=>by
  have ih:=oj f v r;rw[show bQ f v ((k,x)::r)=(if k=f then(k,v)::r else(k,x)::bQ f v r) from rfl];by_cases hk:k=f
  ·rw[if_pos hk,QC,QC];lia
  rw[if_neg hk,QC,QC];lia
theorem cn.some_of{v:V}{o:Option Value}(r:cn (some v) o):∃u,o=some u/\RelV v u:=by
 cases o with
 |none=>exact(show False from r).elim
 |some u=>exact⟨u,rfl,r⟩
theorem cn.none_of{o:Option Value}(r:cn none o):o=none:=by
 cases o with
 |none=>rfl
 |some u=>exact(show False from r).elim
theorem oq{v:V}{u:Value}(r:RelV v u):PySem.W.handedIn u=true:=by
 cases v with
 |non=>cases (show u=Value.none from r);rfl
 |bl b=>cases (show u=Value.bool b from r);rfl
 |int i=>obtain⟨t,e⟩:=(show ∃t,u=Value.int i t from r);cases e;rfl
 |str x=>obtain⟨t,e⟩:=(show ∃t,u=Value.str x t from r);cases e;rfl
 |byt b=>obtain⟨t,e⟩:=(show ∃t,u=Value.bytes b t from r);cases e;rfl
 |flt b=>obtain⟨t,e⟩:=(show ∃t,u=Value.float b t from r);cases e;rfl
 |ref a=>cases (show u=Value.ref a from r);rfl
 |ty n=>cases (show u=Value.type n from r);rfl
section
variable {P:Program}{w:World}{H H':Hp}{h h':Heap}{a C dx:Addr}{fs fs':List (Str×V)}
theorem jx(hok:bp P w H h)(e:H a=some (.ins C dx fs)):∃mA,fT h a dx C mA/\(∀f,cn (fs.lookup f) (mA f))/\PySem.Within mA (fs.map (·.1))/\fs.length<=1000/\H dx=some (.own a):=by
 obtain⟨d,z,ne,ob,mA,n,r,q⟩:=(show bj P w H h a (.ins C dx fs) from hok a _ e)
 exact⟨mA,⟨ob,n,ne⟩,r,q,z,d⟩
end
structure dn(K:W.Frag)(C:Addr):Prop where
 pg:PySem.W.plainGet K C Str.empty=true
 hd:PySem.W.hasDictIn K C=true
 po:PySem.W.plainOver K C=true
 sa:PySem.W.findIn K (.ref C) "__setattr__"=some (some (.builtin "object.__setattr__"))
theorem dn.get{K:W.Frag}{C:Addr}(c:dn K C)(f:Str):PySem.W.plainGet K C f=true:=c.pg
def cq(K:W.Frag)(C:Addr)(f:Str):Prop:=PySem.W.findIn K (.ref C) f=some none
theorem cq.taker{K:W.Frag}{C:Addr}{f:Str}(n:cq K C f):PySem.W.takerIn K C f=some none:=by unfold PySem.W.takerIn;rw[show PySem.W.findIn K (.ref C) f=some none from n];rfl
structure dq(K:W.Frag)(C:Addr)(m:Str)(f:Addr):Prop where
 at_:PySem.W.findIn K (.ref C) m=some (some (.ref f))
 fn:PySem.W.isFn K (.ref f)=true
 kp:W.keepIn K (.ref f)=true
section
variable {X:Cx}{kb:List (Addr×Obj)}{σ:St}{H:Hp}{s:Shared}{a C dx:Addr}{fs:List (Str×V)}{f:Str}{v:V}{A:Around}{E:Value->Shared->Prop}
theorem wX{b:Bool}{Q:Value->Shared->Prop}(I:Inv X kb σ H s)(e:H a=some (.ins C dx fs))(c:dn X.K C)(n:cq X.K C f)(l:fs.lookup f=some v)
  (h:∀u s',Inv X kb σ H s'->RelV v u->Q u s'):wpAny (model X.prog X.w) A (getAttr (.ref a) f b) Q E s:=by
 obtain⟨mA,O,r,_,_,_⟩:=jx I.hok e;obtain⟨u,hu,ru⟩:=cn.some_of (v:=v) (o:=mA f) (by rw[<-l];exact r f);exact wT I.kIn O (c.get f) c.hd n hu (oq ru) (h u _ (I.tok _) ru)
theorem li{m:Str}{g:Addr}{pl:Sem Bool}{Q:Value×List Value->Shared->Prop}(I:Inv X kb σ H s)(e:H a=some (.ins C dx fs))(c:dn X.K C)(k:dq X.K C m g)(l:fs.lookup m=none)
  (h:Q (.ref g,[.ref a]) s):wpAny (model X.prog X.w) A (getMethod (.ref a) m pl) Q E s:=by
 obtain⟨mA,O,r,_,_,_⟩:=jx I.hok e;have hn:mA m=none:=cn.none_of (by rw[<-l];exact r m);exact wU I.kIn O (c.get m) k.at_ k.fn hn h
theorem wY{y:V}{u:Value}{Q:Unit->Shared->Prop}(I:Inv X kb σ H s)(e:H a=some (.ins C dx fs))(c:dn X.K C)(n:cq X.K C f)(hl:fs.length<1000)(ry:RelV y u)
  (h:∀s',Inv X kb σ (ai H a (.ins C dx (bQ f y fs))) s'->Q () s'):wpAny (model X.prog X.w) A (setAttr (.ref a) f u) Q E s:=by
 obtain⟨mA,O,r,wi,_,ho⟩:=jx I.hok e;have hz:(fs.map (·.1)).length<=sizeLine:=by rw[Qb,sizeLine_eq];lia
 refine wV I.kIn O c.sa c.po n.taker c.hd wi hz λh' O' sb=>h _ ?_;have hd:∃o,h'.get? dx=some o:=by obtain⟨o,_,_,e',_⟩:=O'.ns;exact⟨o,e'⟩
 refine I.write (x:=a) (e:=dx) (by rw[e];exact True.intro) (.inr ho) (λb q hb z=>(sb.2 b hb).trans z) hd ?_;refine⟨by rw[am O.ne];exact ho,?_,O.ne,O'.obj,_,O'.ns,λg=>?_,λg hg=>?_⟩
 ·have:=oj f y fs;lia
 ·show cn ((bQ f y fs).lookup g) (if g=f then some u else mA g);rw[lg];by_cases q:g=f
  ·rw[if_pos q,if_pos q];exact ry
  rw[if_neg q,if_neg q];exact r g
 by_cases q:g=f
 ·rw[q];exact(lh f y fs).1
 refine(lh f y fs).2 g (wi g λz=>hg ?_);show(if g=f then some u else mA g)=none;rw[if_neg q];exact z
theorem Inv.made(I:Inv X kb σ H s):Inv X kb σ (ai (ai H s.heap.objs.size (.own (s.heap.objs.size+1))) (s.heap.objs.size+1) (.ins C s.heap.objs.size []))
  {s with heap:=(s.heap.push PySem.W.emptyDict).push (PySem.W.instObj C s.heap.objs.size)}:=by
 have e1:(s.heap.push PySem.W.emptyDict).get? s.heap.objs.size=some PySem.W.emptyDict:=Qt s.heap rfl;have e2:((s.heap.push PySem.W.emptyDict).push (PySem.W.instObj C s.heap.objs.size)).get? (s.heap.objs.size+1)=some (PySem.W.instObj C s.heap.objs.size):=by have:=Qt (s.heap.push PySem.W.emptyDict) (o:=PySem.W.instObj C s.heap.objs.size) rfl;rwa [Heap.size_push] at this
 have e3:(s.heap.push PySem.W.emptyDict).Ns s.heap.objs.size (λ_=>none):=⟨PySem.W.emptyDict,#[],_,e1,rfl,(λe he=>absurd he (by simp)),λ_=>rfl⟩
 have I1:=I.laid (a:=s.heap.objs.size) (o:=.own (s.heap.objs.size+1)) (h':=s.heap.push PySem.W.emptyDict) (t':=s.toks) (λb u q=>Qh _ q) (Qk _) ⟨_,e1⟩;refine I1.laid (a:=s.heap.objs.size+1) (o:=.ins C s.heap.objs.size []) (t':=s.toks) (λb u q=>Qh _ q) (Nat.le_of_eq (Heap.size_push _ _)) ?_;have ne:s.heap.objs.size≠s.heap.objs.size+1:=Qy (Nat.lt_succ_self _);refine⟨by rw[am ne,af],Ql _,ne,e2,λ_=>none,(Heap.Ns1.of_empty e3).at λo q=>Qh _ q,λ_=>True.intro,λy hy=>absurd rfl hy⟩
theorem ou{prog:Program}{w:World}{env:Env}{e:Expr}{f:Str}{pos:Pos}{s:Shared}{Q:Value->Shared->Prop}(hb:attributeBase e f env (eval e env)=eval e env)
  (h:wpAny (model prog w) A (eval e env) (λo s₁=>wpAny (model prog w) A (getAttr o f true) Q E s₁) E s):wpAny (model prog w) A (eval (.Attribute e f pos) env) Q E s:=
 Attribute_any_ h (by rw[arm_eval_Attribute,hb])
end
inductive ow (K:W.Frag) (f:Str) (Q:VK) (x:V) (H:Hp):Prop
 |mk:∀a C dx fs v,x=.ref a->H a=some (.ins C dx fs)->dn K C->cq K C f->fs.lookup f=some v->Q v H->ow K f Q x H
def wZ(K:W.Frag)(ta:TE)(f:Str):TE:=λσ H Q=>ta σ H (ow K f Q)
def w4(K:W.Frag)(ta tv:TE)(f:Str):TS:=λD σ H=>tv σ H λy H1=>ta σ H1 λx H2=>∃a C dx fs,x=.ref a/\H2 a=some (.ins C dx fs)/\dn K C/\cq K C f/\fs.length<1000 /\
 D.nx σ (ai H2 a (.ins C dx (bQ f y fs)))
section
variable {X:Cx}{o e value:Expr}{f:Str}{pos Dw Dz:Pos}{ta tv:TE}
theorem b2(he:PE X e ta)(hb:attributeBase e f X.env (eval e X.env)=eval e X.env):PE X (.Attribute e f pos) (wZ X.K ta f):=by
 intro kb s σ H Q I h;refine ou hb (az (he kb s σ H _ I h) λu s1 hsl28=>?_);obtain⟨x,H1,I1,rx,a,C,dx,fs,v,ex,ea,c,n,l,q⟩:=hsl28;subst ex;obtain rfl:u=Value.ref a:=rx
 exact wX I1 ea c n l λu' s2 I2 ru=>⟨v,H1,I2,ru,q⟩
theorem dZ(ha:PE X o ta)(hv:PE X value tv)(hs:swapsWith value (some (.Attribute o f Dw)) pos.line X.env=pure false):PS X (.Assign [.Attribute o f Dw] value pos) (w4 X.K ta tv f):=by
 intro kb s σ H D I h;refine plainObj_wpAny_Assign_Attribute (az (hv kb s σ H _ I h) λu s1 ⟨y,H1,I1,ry,q⟩=>az (ha kb s1 σ H1 _ I1 q) λov s2 hsl29=>?_) hs;obtain⟨x,H2,I2,rx,a,C,dx,fs,ex,ea,c,n,l,q2⟩:=hsl29;subst ex;obtain rfl:ov=Value.ref a:=rx
 exact wY I2 ea c n l ry λs3 I3=>⟨σ,_,I3,q2⟩
end
section
variable {X:Cx}{kb:List (Addr×Obj)}{σ:St}{H:Hp}{s:Shared}{A:Around}{E:Value->Shared->Prop}{Q:Value->Shared->Prop}{c:Value}{b:Bool}
inductive cG (K:W.Frag) (H:Hp):V->Value->Prop where
 |non:cG K H .non (.type "NoneType")
 |bl (x:Bool):cG K H (.bl x) (.type "bool")
 |int (i:Int):cG K H (.int i) (.type "int")
 |str (x:Str):cG K H (.str x) (.type "str")
 |flt (x:UInt64):cG K H (.flt x) (.type "float")
 |lst {a:Addr} {xs:List V} (e:H a=some (.lst xs)):cG K H (.ref a) (.type "list")
 |frz {a:Addr} {o:Obj} {xs:List V} (e:H a=some (.frz o (.lst xs))):cG K H (.ref a) (.type "list")
 |tup {a:Addr} {xs:List V} (e:H a=some (.tup xs)):cG K H (.ref a) (.type "tuple")
 |dK {a:Addr} {CK:List (aV×V)} (e:H a=some (.dK CK)):cG K H (.ref a) (.type "dict")
 |dT {a:Addr} {CK:List (List aV×V)} (e:H a=some (.dT CK)):cG K H (.ref a) (.type "dict")
 | ins {a C dx:Addr} {fs:List (Str × V)} (e:H a=some (.ins C dx fs)) (cl:dn K C) (ha:PySem.W.findIn K (.ref C) "__class__"=some (some (.builtin "object.__class__")))
   (hn:PySem.W.specialIn K (.builtin "object.__class__") "__get__"=some (some (.builtin "getset_descriptor.__get__"))) (htk:PySem.W.takesIn K (.builtin "object.__class__")=some true)
   (hm:PySem.W.mroIn K C (.type "object")=some true):cG K H (.ref a) (.ref C)
theorem w5{x:V}{u t:Value}(I:Inv X kb σ H s)(rx:RelV x u)(ty:cG X.K H x t)(e:PySem.W.kitOne X.K t c=some b)(h:∀tk,Q (.bool b) {s with toks:=tk}) :
  wpAny (model X.prog X.w) A (call (.builtin "isinstance") [u,c]) Q E s:=by
 cases ty with
 |non=>cases (show u=Value.none from rx);exact PySem.W.kia_one PySem.W.kitx_none I.kIn True.intro e (λz=>nomatch z) h
 |bl y=>cases (show u=Value.bool y from rx);exact PySem.W.kia_one PySem.W.kitx_bool I.kIn True.intro e (λz=>nomatch z) h
 |int i=>obtain⟨t,q⟩:=(show ∃t,u=Value.int i t from rx);cases q;exact PySem.W.kia_one PySem.W.kitx_int I.kIn True.intro e (λz=>nomatch z) h
 |str y=>obtain⟨t,q⟩:=(show ∃t,u=Value.str y t from rx);cases q;exact PySem.W.kia_one PySem.W.kitx_str I.kIn True.intro e (λz=>nomatch z) h
 |flt y=>obtain⟨t,q⟩:=(show ∃t,u=Value.float y t from rx);cases q;exact PySem.W.kia_one PySem.W.kitx_float I.kIn True.intro e (λz=>nomatch z) h
 | @lst a xs ea =>
  cases (show u=Value.ref a from rx)
  obtain⟨_,_,n,_,h1⟩:=(show bj X.prog X.w H s.heap a (.lst xs) from I.hok a _ ea)
  exact PySem.W.kia_one PySem.W.kitx_list I.kIn ⟨_,h1,rfl⟩ e (λz=>nomatch z) h
 | @frz a ob xs ea =>
  cases (show u=Value.ref a from rx)
  obtain⟨_,_,_,n,_,h1⟩:=(show bj X.prog X.w H s.heap a (.frz ob (.lst xs)) from I.hok a _ ea)
  exact PySem.W.kia_one PySem.W.kitx_list I.kIn ⟨_,h1,rfl⟩ e (λz=>nomatch z) h
 | @tup a xs ea =>
  cases (show u=Value.ref a from rx)
  obtain⟨_,_,_,p,_⟩:=(show bj X.prog X.w H s.heap a (.tup xs) from I.hok a _ ea)
  obtain⟨o,h1,h2,_⟩:=p;exact PySem.W.kia_one PySem.W.kitx_tuple I.kIn ⟨o,h1,h2⟩ e (λz=>nomatch z) h
 | @dK a CK ea =>
  cases (show u=Value.ref a from rx)
  obtain⟨_,_,vs,_,p⟩:=(show bj X.prog X.w H s.heap a (.dK CK) from I.hok a _ ea)
  obtain⟨o,es,ep,h1,h2,_⟩:=p;exact PySem.W.kia_one PySem.W.kitx_dict I.kIn ⟨o,h1,h2.1⟩ e (λz=>nomatch z) h
 | @dT a CK ea =>
  cases (show u=Value.ref a from rx)
  obtain⟨_,_,xs,_,o,es,ep,h1,h2,_⟩:=(show bj X.prog X.w H s.heap a (.dT CK) from I.hok a _ ea)
  exact PySem.W.kia_one PySem.W.kitx_dict I.kIn ⟨o,h1,h2.1⟩ e (λz=>nomatch z) h
 | @ins a C dx fs ea cl ha hn htk hm =>
  cases (show u=Value.ref a from rx);obtain⟨mA,O,_⟩:=jx I.hok ea;obtain⟨od,J,_⟩:=O.look;exact PySem.W.kia_one (PySem.W.kitx_own (cl.get _) cl.hd ha hn htk hm) I.kIn J e (λz=>nomatch z) h
end
structure au(k:Nat)(A:Around):Prop where
 hd:A.handled=none
 dp:A.depth+3*k+5<recursionLimit
 un:A.units+16*k+200<cLine
theorem au.mono{j k:Nat}{A:Around}(r:au k A)(h:j<=k):au j A:=⟨r.hd,by have:=r.dp;lia,by have:=r.un;lia⟩
theorem au.deeper{k:Nat}{A:Around}(r:au (k+1) A)(env:Env):au k (A.deeper env):=
 ⟨r.hd,by have:=r.dp;show A.depth+1+3*k+5<_;lia,by have:=r.un;show A.units+3+16*k+200<_;lia⟩
theorem w6{A:Around}{C:Addr}{us:List Value}{kw:List (Str×Value)}:(A.under (.builtin "type.__call__" ⟨.ref C::us,kw⟩)).depth=A.depth+1:=by
 first|rfl|simp[Around.under,Code.weight,Code.isCreation,Code.isGuard,Code.isCaller,Code.frames,Code.isFrame,guardIds]
theorem w9{A:Around}{C:Addr}{us:List Value}{kw:List (Str×Value)}:(A.under (.builtin "type.__call__" ⟨.ref C::us,kw⟩)).units=A.units+1:=by
 first|rfl|simp[Around.under,Code.cUnits,Code.frames,Code.isFrame]
theorem au.make{k:Nat}{A:Around}(r:au (k+1) A)(C:Addr)(us:List Value)(kw:List (Str×Value)):au k (A.under (.builtin "type.__call__" ⟨.ref C::us,kw⟩)):=
 ⟨r.hd,by have:=r.dp;rw[w6];omega,by have:=r.un;rw[w9];omega⟩
theorem au.depth{k:Nat}{A:Around}(r:au k A):A.depth<recursionLimit:=by have:=r.dp;omega
theorem au.units{k:Nat}{A:Around}(r:au k A):A.units+64<cLine:=by have:=r.un;lia
def jy:TA:=λ_ H Q=>Q [] H
def oy(ta:TE)(tr:TA):TA:=λσ H Q=>ta σ H λx H1=>tr σ H1 λxs H2=>Q (x::xs) H2
section
variable {X:Cx}{e:Expr}{es:List Expr}{te:TE}{t:TA}{pos:Pos}
theorem ac:PA X [] jy:=λ_ _ _ _ H Q I h=>Calls.spliced_nil ⟨[],H,I,.nil,h⟩
theorem aa(ha:PE X e te)(hr:PA X es t)(hs:starEach (e::es) X.env=(false,eval e X.env)::starEach es X.env:=by rfl):PA X (e::es) (oy te t):=by intro pos kb s σ H Q I h;rw[hs];show wpAny _ _ (spliced ((false,eval e X.env)::backTo pos (starEach es X.env))) _ _ s;refine Calls.spliced_cons (az (ha kb s σ H _ I h) λu s1 hsl31=>?_);obtain⟨x,H1,I1,r1,q1⟩:=hsl31;exact az (hr pos kb s1 σ H1 _ I1 q1) λus s2 hsl32=>by obtain⟨xs,H2,I2,r2,q2⟩:=hsl32;exact⟨x::xs,H2,I2,.cons r1 r2,q2⟩
def xa(t:TA):TE:=λσ H Q=>t σ H λxs H1=>xs.length<=sizeLine/\∀p,H1 p=none->Q (.ref p) (ai H1 p (.tup xs))
def xb(t:TA):TE:=λσ H Q=>t σ H λxs H1=>xs.length<=sizeLine/\∀p,H1 p=none->Q (.ref p) (ai H1 p (.lst xs))
theorem cH{x1}(h:PA X es t):PE X (.Tuple es x1 pos) (xa t):=by intro kb s σ H Q I hq;refine wpAny_Tuple_spliced (az (h pos kb s σ H _ I hq) λus s1 ⟨xs,H1,I1,r,z,q⟩=>⟨by rw[<-r.length];exact z,?_⟩);have hf:H1 s1.heap.objs.size=none:=I1.hok.fresh (Qk _);refine⟨.ref s1.heap.objs.size,ai H1 s1.heap.objs.size (.tup xs),I1.laid (t':=s1.toks) (λb u e=>Qh _ e) (Qk _) ?_,rfl,q _ hf⟩;exact⟨z,us,r,⟨_,Qt _ rfl,rfl,_,rfl⟩,_,Qt _ rfl,rfl⟩
theorem aO(h:PA X es t):PE X (.List es pos) (xb t):=by intro kb s σ H Q I hq;refine wpAny_List_spliced (az (h pos kb s σ H _ I hq) λus s1 ⟨xs,H1,I1,r,z,q⟩=>⟨by rw[<-r.length];exact z,?_⟩);have hf:H1 s1.heap.objs.size=none:=I1.hok.fresh (Qk _);refine⟨.ref s1.heap.objs.size,ai H1 s1.heap.objs.size (.lst xs),I1.laid (t':=s1.toks) (λb u e=>Qh _ e) (Qk _) ?_,rfl,q _ hf⟩;exact⟨z,us,0,r,Qt _ rfl⟩
end
abbrev Sp:=List V->Hp->VK->XK->Prop
abbrev b3:=List Env->Hp->Shared->XK->Value->Shared->Prop
structure fU(P:Program)(w:World)(K:W.Frag)(mg:Str->Option Value)(base:Heap)(A:Around)(outer:List Env)(s:Shared)(H:Hp):Prop where
 frames:A.frames=some outer
 mod:Mod K mg base
 bs:∀b o,base.get? b=some o->s.heap.get? b=some o/\H b=none
 bsz:base.objs.size<=s.heap.objs.size
 funs:s.heap.FunFrames base outer
 frf:∀b∈frs outer,H b=none
 hok:bp P w H s.heap
 bare:AllBare s.gens
def CE(outer:List Env)(P:Program)(w:World)(H:Hp)(s:Shared)(Q:VK)(u:Value)(s':Shared):Prop:=
 ∃v H',s'.os=s.os/\AllBare s'.gens/\Un (frs outer) [] H H' s.heap s'.heap/\bp P w H' s'.heap/\RelV v u/\Q v H'
def CR(CX:b3)(outer:List Env)(P:Program)(w:World)(H:Hp)(s:Shared)(Q:VK)(E:XK)(r:Result)(s':Shared):Prop:=
 match r with
 |.ok (.ret u)=>CE outer P w H s Q u s'
 |.ok _=>False
 |.error e=>CX outer H s E e s'
structure aF(P:Program)(w:World)(K:W.Frag)(mg:Str->Option Value)(base:Heap)(CX:b3)(k:Nat)(f:Addr)(fd:FuncData)(ps:List Str)(sp:Sp):Prop where
 len:∀vs H Q E,sp vs H Q E->vs.length=ps.length
 run:∀(A:Around) (outer:List Env) (s:Shared) (H:Hp) (args:Args) (us:List Value) (vs:List V) (Q:VK) (E:XK),au k A->fU P w K mg base A outer s H->BindsTo s fd args (ps.zip us)->aG vs us->sp vs H Q E ->
  codeAny (model P w) A (.call (.ref f) args) (CR CX outer P w H s Q E) s
theorem aF.mono{P:Program}{w:World}{K:W.Frag}{mg:Str->Option Value}{base:Heap}{CX:b3}{j k:Nat}{f:Addr}{fd:FuncData}{ps:List Str}{sp:Sp}(F:aF P w K mg base CX j f fd ps sp)(h:j<=k) :
  aF P w K mg base CX k f fd ps sp:=⟨F.len,λA outer s H args us vs Q E hr=>F.run A outer s H args us vs Q E (hr.mono h)⟩
theorem fU.make{P:Program}{w:World}{K:W.Frag}{mg:Str->Option Value}{base:Heap}{A:Around}{outer:List Env}{s:Shared}{H:Hp}(e:fU P w K mg base A outer s H)(C:Addr)(us:List Value)(kw:List (Str×Value)) :
  fU P w K mg base (A.under (.builtin "type.__call__" ⟨.ref C::us,kw⟩)) outer s H:=⟨by first|exact e.frames|(simpa [Around.under,Code.envs,Code.isFrame,pushEnvs] using e.frames),e.mod,e.bs,e.bsz,e.funs,e.frf,e.hok,e.bare⟩
section
variable {X:Cx}{kb:List (Addr×Obj)}{σ:St}{H:Hp}{s s':Shared}
theorem Inv.env0(I:Inv X kb σ H s):fU X.prog X.w X.K X.mg X.base X.A X.stack s H:=
 ⟨I.ok.frames,I.ok.mod,I.bs,Qg I.ok.bsz I.sz,I.stack,I.stkFree,I.hok,I.bare⟩
theorem Inv.after{Q:VK}{u:Value}(I:Inv X kb σ H s)(h:CE X.stack X.prog X.w H s Q u s'):EP X kb σ Q u s':=by obtain⟨v,H',os,bare,un,hok,r,q⟩:=h;obtain⟨hh,g,d,t,os'⟩:=s';obtain rfl:os'=s.os:=os;exact⟨v,H',I.call (h':=hh) (g':=g) (d':=d) (t':=t) (ch:=[]) un hok bare (λb z=>absurd z (by simp)),r,q⟩
end
def oz(sp:Sp)(C7:List V)(E:XK)(t:TA):TE:=λσ H Q=>t σ H λvs H1=>sp (vs++C7) H1 Q E
inductive oA (C:Addr) (m:Str) (sp:Sp) (C7:List V) (E:XK) (t:TA) (σ:St) (Q:VK) (x:V) (H:Hp):Prop
 |mk:∀a dx fs,x=.ref a->H a=some (.ins C dx fs)->fs.lookup m=none->(t σ H λvs H2=>sp (x::(vs++C7)) H2 Q E)->oA C m sp C7 E t σ Q x H
def lj(C:Addr)(m:Str)(sp:Sp)(C7:List V)(E:XK)(ta:TE)(t:TA):TE:=λσ H Q=>ta σ H (oA C m sp C7 E t σ Q)
def xf(C:Addr)(sp:Sp)(C7:List V)(E:XK)(t:TA):TE:=λσ H Q=>t σ H λvs H1=>∀x dx,H1 x=none->H1 dx=none->dx≠x ->
 sp (.ref x::(vs++C7)) (ai (ai H1 dx (.own x)) x (.ins C dx [])) (λv H2=>v=.non/\Q (.ref x) H2) E
def Binds(K:W.Frag)(fd:FuncData)(ps:List Str)(ds:List Value):Prop:=
 ∀(s:Shared) (us:List Value),K.In s.heap->(us++ds).length=ps.length->BindsTo s fd ⟨us,[]⟩ (ps.zip (us++ds))
theorem Binds.all{K:W.Frag}{fd:FuncData}{ps:List Str}(h:∀us:List Value,us.length=ps.length->bindArgs fd ⟨us,[]⟩=pure (ps.zip us)):Binds K fd ps []:=λs us _ hl=>by rw[List.append_nil] at hl ⊢;exact .of_eq (h us hl)
def eC(CX:b3)(X:Cx)(E:XK):Prop:=∀(kb:List (Addr×Obj)) (σ:St) (H:Hp) (s:Shared) (e:Value) (s':Shared),Inv X kb σ H s->CX X.stack H s E e s'->X.xe e s'
section
variable {X:Cx}{CX:b3}{k:Nat}{f C:Addr}{fd:FuncData}{ps:List Str}{sp:Sp}{C7:List V}{ds:List Value}{E:XK}{x m:Str}{p pos apos:Pos}{e o:Expr}{es:List Expr}{ta:TE}{t:TA}
theorem lm{kb:List (Addr×Obj)}{σ:St}{H:Hp}{s:Shared}{Q:VK}{us:List Value}{vs:List V}(F:aF X.prog X.w X.K X.mg X.base CX k f fd ps sp)(hr:au k X.A)(hb:Binds X.K fd ps ds)(hd:aG C7 ds)(hx:eC CX X E)
  (I:Inv X kb σ H s) (r:aG vs us) (h:sp (vs++C7) H Q E):wpAny (model X.prog X.w) X.A (call (.ref f) us) (EP X kb σ Q) X.xe s:=by
 have r2:aG (vs++C7) (us++ds):=r.append hd;have hl:(us++ds).length=ps.length:=by rw[<-r2.length];exact F.len _ _ _ _ h
 refine wpAny_call (codeAny_mono (F.run X.A X.stack s H ⟨us,[]⟩ (us++ds) (vs++C7) Q E hr I.env0 (hb s us I.kIn hl) r2 h) λr s' hq=>?_)
 cases r with
 |error e=>exact hx kb σ H s e s' I hq
 |ok fl =>
  cases fl with
  |ret u=>exact I.after hq
  |next=>exact False.elim hq
  |brk=>exact False.elim hq
  |cont=>exact False.elim hq
theorem gB(F:aF X.prog X.w X.K X.mg X.base CX k f fd ps sp)(hr:au k X.A)(hg:Gl X x)(hm:X.mg x=some (.ref f))(hk:W.keepIn X.K (.ref f)=true)(hb:Binds X.K fd ps ds)(hd:aG C7 ds)(hx:eC CX X E)
  (ha:PA X (e::es) t) (Ey:(x==("__debug__":Str))=false:=by decide) (he:starEach (e::es) X.env=(false,eval e X.env)::starEach es X.env:=by rfl) (C5:(backTo pos (starEach es X.env)).any (·.1)=false:=by rfl) :
  PE X (.Call (.Name x p) (e::es) [] pos) (oz sp C7 E t):=by
 intro kb s σ H Q I h;refine wpAny_Call_Name_kw (ef I hg hm ?_ Ey);refine PySem.W.callWith_K (h₀:=X.base) I.ok.mod.kin hk (az (ha pos kb s σ H _ I h) λus s1 ⟨vs,H1,I1,r,q⟩=>⟨I1.kIn,?_⟩) he C5;exact lm F hr hb hd hx I1 r q
theorem bf{pl:Sem Bool}(he:PE X o ta)(c:dn X.K C)(hm:dq X.K C m f)(F:aF X.prog X.w X.K X.mg X.base CX k f fd ps sp)(hr:au k X.A)(hb:Binds X.K fd ps ds)(hd:aG C7 ds)(hx:eC CX X E)(ha:PA X (e::es) t)
  (CL:starEach (e::es) X.env=(false,eval e X.env)::starEach es X.env:=by rfl) (C5:(backTo pos (starEach es X.env)).any (·.1)=false:=by rfl)
  (ht:eval (.Call (.Attribute o m apos) (e::es) [] pos) X.env=(do
   let ov <- eval o X.env
   standAt apos.atName
   let (f,first) <- holding [ov] (getMethod ov m pl)
   callWith pos f first (backTo pos (starEach (e::es) X.env)) (backToKw pos (keywordEach [] X.env))):=by rfl) :
  PE X (.Call (.Attribute o m apos) (e::es) [] pos) (lj C m sp C7 E ta t):=by
 intro kb s σ H Q I h;refine PySem.W.methodCall_KW (pl:=pl) (az (he kb s σ H _ I h) λu s1 hsl33=>?_) ht;obtain⟨x,H1,I1,rx,a,dx,fs,ex,ea,l,q⟩:=hsl33;subst ex;obtain rfl:u=Value.ref a:=rx;refine li I1 ea c hm l ?_;refine PySem.W.callWith_K (first:=[.ref a]) (h₀:=X.base) I.ok.mod.kin hm.kp (az (ha pos kb s1 σ H1 _ I1 q) λus s2 ⟨vs,H2,I2,r,q2⟩=>⟨I2.kIn,?_⟩) CL C5;exact lm (us:=.ref a::us) (vs:=.ref a::vs) F hr hb hd hx I2 (.cons rfl r) q2
theorem jz{pl:Sem Bool}(he:PE X o ta)(c:dn X.K C)(hm:dq X.K C m f)(F:aF X.prog X.w X.K X.mg X.base CX k f fd ps sp)(hr:au k X.A)(hb:Binds X.K fd ps ds)(hd:aG C7 ds)(hx:eC CX X E)
  (ht:eval (.Call (.Attribute o m apos) [] [] pos) X.env=(do
   let ov <- eval o X.env
   standAt apos.atName
   let (f,first) <- holding [ov] (getMethod ov m pl)
   callWith pos f first (backTo pos (starEach [] X.env)) (backToKw pos (keywordEach [] X.env))):=by rfl) :
  PE X (.Call (.Attribute o m apos) [] [] pos) (lj C m sp C7 E ta jy):=by
 intro kb s σ H Q I h;refine PySem.W.methodCall_KW (pl:=pl) (az (he kb s σ H _ I h) λu s1 hsl34=>?_) ht;obtain⟨x,H1,I1,rx,a,dx,fs,ex,ea,l,q⟩:=hsl34;subst ex;obtain rfl:u=Value.ref a:=rx;refine li I1 ea c hm l ?_;exact PySem.W.callWith_K0 (first:=[.ref a]) I1.kIn hm.kp (lm (us:=[.ref a]) (vs:=[.ref a]) F hr hb hd hx I1 (.cons rfl .nil) q)
structure Mk(K:W.Frag)(C f:Addr):Prop where
 makes:PySem.W.makesIn K C=true
 init:PySem.W.findIn K (.ref C) "__init__"=some (some (.ref f))
 fn:PySem.W.isFn K (.ref f)=true
 kp:W.keepIn K (.ref C)=true
theorem xg{kb:List (Addr×Obj)}{σ:St}{H:Hp}{s:Shared}{Q:VK}{us:List Value}{vs:List V}(M:Mk X.K C f)(F:aF X.prog X.w X.K X.mg X.base CX k f fd ps sp)(hr:au (k+1) X.A)(hb:Binds X.K fd ps ds)(hd:aG C7 ds)
  (hx:eC CX X E) (I:Inv X kb σ H s) (r:aG vs us)
  (h:∀x dx,H x=none->H dx=none->dx≠x->sp (.ref x::(vs++C7)) (ai (ai H dx (.own x)) x (.ins C dx [])) (λv H2=>v=.non/\Q (.ref x) H2) E) :
  wpAny (model X.prog X.w) X.A (call (.ref C) us) (EP X kb σ Q) X.xe s:=by
 have hq:=h (s.heap.objs.size+1) s.heap.objs.size (I.hok.fresh (Nat.le_succ _)) (I.hok.fresh (Qk _)) (Qy (Nat.lt_succ_self _));have I2:=Inv.made (C:=C) I;have r2:aG (V.ref (s.heap.objs.size+1)::(vs++C7)) (Value.ref (s.heap.objs.size+1)::(us++ds)):=.cons rfl (r.append hd);have hl:(Value.ref (s.heap.objs.size+1)::us++ds).length=ps.length:=by have e:=r2.length;rw[F.len _ _ _ _ hq] at e;exact e.symm
 refine wpAny_call (wW (f:=f) I.kIn M.makes M.init (beq_iff_eq.mp M.fn) (codeAny_mono (F.run _ X.stack _ _ ⟨Value.ref (s.heap.objs.size+1)::us,[]⟩ (Value.ref (s.heap.objs.size+1)::(us++ds)) _ _ E (hr.make C us [])
  (I2.env0.make C us []) (hb _ (Value.ref (s.heap.objs.size+1)::us) I2.kIn hl) r2 hq) λr s' DT=>?_))
 cases r with
 |error e=>exact hx kb σ _ _ e s' I2 DT
 |ok fl =>
  cases fl with
  |ret u =>
   obtain⟨v,H',I3,rv,ev,q3⟩:=I2.after DT;subst ev;exact⟨rv,⟨V.ref (s.heap.objs.size+1),H',I3,rfl,q3⟩⟩
  |next=>exact False.elim DT
  |brk=>exact False.elim DT
  |cont=>exact False.elim DT
theorem oB(M:Mk X.K C f)(F:aF X.prog X.w X.K X.mg X.base CX k f fd ps sp)(hr:au (k+1) X.A)(hg:Gl X x)(hm:X.mg x=some (.ref C))(hb:Binds X.K fd ps ds)(hd:aG C7 ds)(hx:eC CX X E)
  (Ey:(x==("__debug__":Str))=false:=by decide):PE X (.Call (.Name x p) [] [] pos) (xf C sp C7 E jy):=by
 intro kb s σ H Q I h;refine wpAny_Call_Name_kw (ef I hg hm ?_ Ey);exact PySem.W.callWith_K0 I.kIn M.kp (xg (us:=[]) M F hr hb hd hx I .nil h)
end
structure aK(N P:List Str)(sc:Scope):Prop where
 kind:sc.kind=.function
 co:sc.isCoroutine=false
 gen:sc.isGenerator=false
 nd:N.Nodup
 pre:N.take P.length=P
 par:∀x∈P,sc.names.lookup x=some .local∨sc.names.lookup x=some .cell
 nofree:∀y∈sc.names,y.2≠.free
theorem oC{kindOf:Str->Option NameKind}{x:Str}:∀{DN:List (Str×Value)} {m:Str->Option Value},(∀v,(x,v)∉DN)->bindL kindOf DN m x=m x
 | [],_,_=>rfl
 |(n,v)::r,m,h=>by
  unfold bindL;rw[oC λw hw=>h w (Qr _ hw)];split
  ·have:x≠n:=by rintro rfl;exact h v Qp
   simp[this]
  rfl
theorem oE{kindOf:Str->Option NameKind}{x:Str}:∀{DN:List (Str×Value)} {m:Str->Option Value},(∀v,(x,v)∉DN)->bindC kindOf DN m x=m x
 | [],_,_=>rfl
 |(n,v)::r,m,h=>by
  unfold bindC;rw[oE λw hw=>h w (Qr _ hw)];split
  ·rfl
  have:x≠n:=by rintro rfl;exact h v Qp
  simp[this]
theorem oF{kindOf:Str->Option NameKind}{x:Str}{v:Value}:∀{P:List Str} {vs:List Value} {i:Nat} {m:Str->Option Value},P.Nodup->P[i]?=some x->vs[i]?=some v->kindOf x=some .local ->
  bindL kindOf (P.zip vs) m x=some v
 | [],_,_,_,_,h,_,_=>by simp at h
 |_::_,[],_,_,_,_,h,_=>by simp at h
 |p::P,w::vs,0,m,nd,h1,h2,hk=>by simp at h1 h2;subst h1;subst h2;show bindL kindOf ((p,w)::P.zip vs) m p=_;unfold bindL;rw[oC λv hv=>(List.nodup_cons.mp nd).1 (List.of_mem_zip hv).1,if_pos hk];simp
 |p::P,w::vs,i+1,m,nd,h1,h2,hk=>by show bindL kindOf ((p,w)::P.zip vs) m x=_;unfold bindL;exact oF (i:=i) (List.nodup_cons.mp nd).2 (by simpa using h1) (by simpa using h2) hk
theorem oG{kindOf:Str->Option NameKind}{x:Str}{v:Value}:∀{P:List Str} {vs:List Value} {i:Nat} {m:Str->Option Value},P.Nodup->P[i]?=some x->vs[i]?=some v->kindOf x≠some .local ->
  bindC kindOf (P.zip vs) m x=some v
 | [],_,_,_,_,h,_,_=>by simp at h
 |_::_,[],_,_,_,_,h,_=>by simp at h
 |p::P,w::vs,0,m,nd,h1,h2,hk=>by simp at h1 h2;subst h1;subst h2;show bindC kindOf ((p,w)::P.zip vs) m p=_;unfold bindC;rw[oE λv hv=>(List.nodup_cons.mp nd).1 (List.of_mem_zip hv).1,if_neg hk];simp
 |p::P,w::vs,i+1,m,nd,h1,h2,hk=>by show bindC kindOf ((p,w)::P.zip vs) m x=_;unfold bindC;exact oG (i:=i) (List.nodup_cons.mp nd).2 (by simpa using h1) (by simpa using h2) hk
noncomputable def start(N:List Str)(vs:List V):St:=vs.map some++List.replicate (N.length-vs.length) none
noncomputable def dO(CX:b3)(P:Program)(w:World)(K:W.Frag)(mg:Str->Option Value)(base:Heap)(N:List Str)(qual:Str)(scope:Scope)(f:Addr)(cd:Value)(A:Around)(outer:List Env)(s:Shared)(H:Hp)(E:XK):Cx where
 prog:=P
 w:=w
 K:=K
 mg:=mg
 base:=base
 A:=A.deeper (envOfC qual scope s.heap.objs.size f cd)
 N:=N
 s₀:=s
 H₀:=H
 env:=envOfC qual scope s.heap.objs.size f cd
 outer:=outer
 stack:=envOfC qual scope s.heap.objs.size f cd::outer
 ex:=[]
 calm:=true
 fn:=λ_=>true
 pn:=[]
 xe:=λe s'=>wpAny (model P w) (A.deeper (envOfC qual scope s.heap.objs.size f cd)) (leaving (envOfC qual scope s.heap.objs.size f cd) e) (λ_ s''=>CX outer H s E e s'') (λe' s''=>CX outer H s E e' s'') s'
theorem oH{sc:Scope}{n:Nat}{x:Str}(h:sc.names.lookup x=some .cell):∃c,(cellsFrom n sc.names []).lookup x=some c:=by have q:=PySem.W.cellsFrom_some sc.names n [] (.inl h);exact Option.isSome_iff_exists.mp q
theorem xh{CX:b3}{P:Program}{w:World}{K:W.Frag}{mg:Str->Option Value}{base:Heap}{N ps:List Str}{qual:Str}{scope:Scope}{f:Addr}{cd:Value}{A:Around}{outer:List Env}{s s1:Shared}{H:Hp}{E:XK}{us:List Value}{vs:List V}
  (S:aK N ps scope) (hd:A.handled=none) (e0:fU P w K mg base A outer s H) (hl:vs.length=ps.length) (r:aG vs us)
  (x:InCallC s s.heap.objs.size (bindL (envOfC qual scope s.heap.objs.size f cd).kindOf (ps.zip us) λ_=>none) (cellsFrom (s.heap.objs.size+1) scope.names []) (bindC (envOfC qual scope s.heap.objs.size f cd).kindOf (ps.zip us) λ_=>none) s1) :
  Inv (dO CX P w K mg base N qual scope f cd A outer s H E) [] (start N vs) H s1:=by
 have C5:ps.length<=N.length:=by have:=congrArg List.length S.pre;rw[QL] at this;lia
 obtain⟨h1,tk,rfl,hk⟩:=x.done;have noA:∀b:Addr,b∉(dO CX P w K mg base N qual scope f cd A outer s H E).ex:=λb z=>absurd (show b∈([]:List Addr) from z) (by simp)
 refine⟨⟨e0.mod,S.kind,rfl,rfl,Qk _,λy z c h1 h2=>?_,λy hy=>?_,λy c _ h=>?_,λ_=>hd,Around.frames_deeper e0.frames,.inr ⟨rfl,rfl⟩,λb z=>absurd z (noA b),e0.bs,e0.bsz,λb _ _=>noA b,λb z=>absurd z (noA b),e0.funs,e0.frf⟩,
  rfl,e0.bare,Un.kept hk,⟨_,x.toInCall.ns,λi y v h1 h2 h3=>?_⟩,λy c h=>⟨_,x.cell y c h⟩,e0.hok.fresh (Qk _),λy c h=>?_,λp hp=>absurd (show p∈([]:List (Addr×Obj)) from hp) (by simp),e0.hok.kept hk,?_⟩
 ·exact name_of_addr x.apart (PySem.mem_of_lookup h1) (PySem.mem_of_lookup h2)
 ·have hy:scope.names.lookup y=some .cell∨scope.names.lookup y=some .free:=hy;rcases hy with hy|hy
  ·exact oH hy
  exact absurd rfl (S.nofree _ (PySem.mem_of_lookup hy))
 ·exact QG (x.above y c (PySem.mem_of_lookup h))
 ·have hi:i<vs.length:=by
   unfold start at h2;by_cases hi:i<vs.length
   ·exact hi
   rw[QB (by simpa using hi)] at h2;rw[List.getElem?_replicate] at h2;split at h2<;>cases h2
  have ha:vs[i]?=some v:=by
   unfold start at h2;rw[QE (by simpa using hi),Qi] at h2
   cases e:vs[i]? with
   |none=>rw[e] at h2;cases h2
   |some a=>rw[e] at h2;cases h2;rfl
  obtain⟨u,hu,rv⟩:=r.get ha;have hp:ps[i]?=some y:=by rw[<-S.pre,List.getElem?_take_of_lt (by lia)];exact h1
  have ndP:ps.Nodup:=by rw[<-S.pre];exact S.nd.sublist (List.take_sublist _ _)
  refine⟨u,rv,?_⟩;rcases S.par y (QM hp) with k|k
  ·exact .inl ⟨k,oF ndP hp hu k⟩
  obtain⟨c,e⟩:=oH (n:=s.heap.objs.size+1) k;refine .inr ⟨.inl k,c,e,?_⟩;have q:=x.cell y c e;rw[oG ndP hp hu (by show scope.names.lookup y≠_;rw[k];decide)] at q;exact q
 ·exact e0.hok.fresh (QG (x.above y c (PySem.mem_of_lookup h)))
 unfold start;show _=N.length;rw[QK,Qb,List.length_replicate];lia
theorem oJ{CX:b3}{P:Program}{w:World}{K:W.Frag}{mg:Str->Option Value}{base:Heap}{k:Nat}{f:Addr}{name qual:Str}{params:Arguments}{body:List Stmt}{scope:Scope}{dV kV DY pm CJ ct oc:Value}{an od:Option Addr}
  {osl:Array (Option Value)} {N ps:List Str} {sp:Sp} (lk:K.lookup f=some ⟨oc,od,.func (W.fnOf name qual params body scope dV kV DY pm an CJ ct),osl⟩) (EF:W.codeIn K CJ qual=true) (S:aK N ps scope)
  (len:∀vs H Q E,sp vs H Q E->vs.length=ps.length)
  (DM:∀(A:Around) (outer:List Env) (s:Shared) (H:Hp) (vs:List V) (Q:VK) (E:XK),au k (A.deeper (envOfC qual scope s.heap.objs.size f CJ))->sp vs H Q E ->
   ∃t,cb (dO CX P w K mg base N qual scope f CJ A outer s H E) body t/\t {nx:=λ_ H'=>Q .non H',rt:=Q} (start N vs) H) :
  aF P w K mg base CX (k+1) f (W.fnOf name qual params body scope dV kV DY pm an CJ ct) ps sp:=by
 refine⟨len,λA outer s H args us vs Q E hr e0 hb r hsp=>?_⟩;have hl:=len _ _ _ _ hsp;have KX:K.In s.heap:=e0.mod.kin.keeps λb o e=>(e0.bs b o e).1;have lim:s.heap.NoLimit:=e0.mod.nolimit.keeps λb o e=>(e0.bs b o e).1
 have hkind:∀y∈ps.zip us,scope.names.lookup y.1=some .local∨(scope.names.lookup y.1=some .cell/\((cellsFrom (s.heap.objs.size+1) scope.names []).lookup y.1).isSome=true):=λ⟨n,v⟩ hy=>by
  rcases S.par n (List.of_mem_zip hy).1 with q|q
  ·exact .inl q
  exact .inr ⟨q,PySem.W.cellsFrom_some _ _ _ (.inl q)⟩
 refine codeAny_call_function hr.depth (KX _ _ lk) rfl S.co S.gen rfl (PySem.W.codeRec_of KX EF) (hb _ _ _ _ ?_);refine wpAny_newFunctionEnv_cells S.kind hkind λenv he s1 x=>?_;subst he;refine⟨lim.keeps x.toInCall.keep,codeAny_func ?_⟩;obtain⟨t,ht,hq⟩:=DM A outer s H vs Q E (hr.deeper _) hsp;have I:Inv (dO CX P w K mg base N qual scope f CJ A outer s H E) [] (start N vs) H s1:=xh S hr.hd e0 hl r x;refine QJ (ht [] s1 (start N vs) H _ I hq) (λfl s' hs=>?_) λe s' hs=>hs
 have fin:∀{σ':St} {H':Hp} {v:V} {u:Value},Inv (dO CX P w K mg base N qual scope f CJ A outer s H E) [] σ' H' s'->RelV v u->Q v H'->CE outer P w H s Q u s':=
  λ{σ' H' v u} J rv q=>⟨v,H',J.os,J.bare,J.base,J.hok,rv,q⟩
 cases fl with
 |ret u =>
  obtain⟨v,σ',H',J,rv,q⟩:=hs;exact fin J rv q
 |next =>
  obtain⟨σ',H',J,q⟩:=hs;exact fin (v:=V.non) (u:=Value.none) J rfl q
 |brk =>
  obtain⟨_,_,_,q⟩:=hs;exact False.elim q
 |cont =>
  obtain⟨_,_,_,q⟩:=hs;exact False.elim q
section
variable {X:Cx}{x:Str}{p pos:Pos}{e:Expr}{es:List Expr}{t:TA}{id T:String}{r:List V->Hp->VK->Prop}
def lp(r:List V->Hp->VK->Prop)(t:TA):TE:=λσ H Q=>t σ H λvs H1=>r vs H1 Q
theorem bc(hc:cD X (.builtin id) r)(hg:Gl X x)(hm:X.mg x=none)(hv:bootBuiltins x=some (.builtin id))(ha:PA X (e::es) t)(hn:x≠"__name__":=by decide)(Ey:(x==("__debug__":Str))=false:=by decide)
  (he:starEach (e::es) X.env=(false,eval e X.env)::starEach es X.env:=by rfl) (C5:(backTo pos (starEach es X.env)).any (·.1)=false:=by rfl):PE X (.Call (.Name x p) (e::es) [] pos) (lp r t):=by
 intro kb s σ H Q I h;refine wpAny_Call_Name_kw (fG I hg hm hv ?_ hn Ey);exact PyProof.Rows.callWith_builtin1 (az (ha pos kb s σ H _ I h) λus s1 hsl35=>by obtain⟨vs,H1,I1,r1,q1⟩:=hsl35;exact hc kb s1 σ H1 vs us Q I1 r1 q1) he C5
theorem cI(hc:cD X (.type T) r)(hg:Gl X x)(hm:X.mg x=none)(hv:bootBuiltins x=some (.type T))(ha:PA X (e::es) t)(hn:x≠"__name__":=by decide)(Ey:(x==("__debug__":Str))=false:=by decide)
  (he:starEach (e::es) X.env=(false,eval e X.env)::starEach es X.env:=by rfl) (C5:(backTo pos (starEach es X.env)).any (·.1)=false:=by rfl):PE X (.Call (.Name x p) (e::es) [] pos) (lp r t):=by
 intro kb s σ H Q I h;refine wpAny_Call_Name_kw (fG I hg hm hv ?_ hn Ey);exact PyProof.Rows.callWith_type1 (az (ha pos kb s σ H _ I h) λus s1 hsl36=>by obtain⟨vs,H1,I1,r1,q1⟩:=hsl36;exact hc kb s1 σ H1 vs us Q I1 r1 q1) he C5
end
end L2
namespace HT
open PySem PyProof.Rows
section
variable {prog:Program}{w:World}{A:Around}{E:Value->Shared->Prop}{s:Shared}
noncomputable def sIx(n d:Nat):Option Int->Nat
 |none=>d
 |some v=>if v<0 then(v+(n:Int)).toNat else min v.toNat n
theorem sIx_none(n d:Nat):sIx n d none=d:=rfl
theorem sIx_nat(n d k:Nat):sIx n d (some (k:Int))=min k n:=by show(if(k:Int)<0 then((k:Int)+(n:Int)).toNat else min (k:Int).toNat n)=min k n;rw[if_neg (by lia),Qu]
theorem sIx_le(n d:Nat)(hd:d<=n)(o:Option Int):sIx n d o<=n:=by
 cases o with
 |none=>exact hd
 |some v =>
  show(if v<0 then(v+(n:Int)).toNat else min v.toNat n)<=n;by_cases hv:v<0
  ·rw[if_pos hv];lia
  rw[if_neg hv];exact Nat.min_le_right _ _
end
end HT
namespace L2
open PySem PySem.Spec PyProof.Rows
abbrev TO:=St->Hp->(Option Int->Hp->Prop)->Prop
def PO(X:Cx)(e:Option Expr)(t:TO):Prop:=
 ∀(kb:List (Addr×Obj)) (s:Shared) (σ:St) (H:Hp) (Q:Option Int->Hp->Prop),Inv X kb σ H s->t σ H Q ->
  wpAny (model X.prog X.w) X.A (evalPart e X.env) (λu s'=>∃o H',Inv X kb σ H' s'/\IsPart u o/\Q o H') X.xe s
def xi:TO:=λ_ H Q=>Q none H
def xj(t:TE):TO:=λσ H Q=>t σ H λx H1=>∃i,x=.int i/\Q (some i) H1
section
variable {X:Cx}{e:Expr}{te:TE}{lo hi:Option Expr}{tl th:TO}{pos p2:Pos}
theorem io:PO X none xi:=by intro kb s σ H Q I h;rw[evalPart_none];exact Qq ⟨none,H,I,.none,h⟩
theorem fV(h:PE X e te):PO X (some e) (xj te):=by intro kb s σ H Q I hw;rw[evalPart_some];refine az (h kb s σ H _ I hw) λu s1 hsl37=>?_;obtain⟨x,H1,I1,r1,q1⟩:=hsl37;obtain⟨i,rfl,q⟩:=q1;obtain⟨t,rfl⟩:=r1;exact⟨some i,H1,I1,.int i t,q⟩
def jA(X:Cx)(r:V->Option Int->Option Int->Hp->VK->Prop):Prop:=
 ∀(kb:List (Addr×Obj)) (s:Shared) (σ:St) (H:Hp) (x:V) (v vl vu:Value) (lo hi:Option Int) (sl:Addr) (Q:VK),Inv X kb σ H s->RelV x v->s.heap.IsSliceOf sl vl vu .none->IsPart vl lo->IsPart vu hi->r x lo hi H Q ->
  ∃T id,typeLookup (.type T) "__getitem__"=pure (some (.builtin id))/\s.TypeIs v T/\wpAny (model X.prog X.w) X.A (getItem v (.ref sl)) (EP X kb σ Q) X.xe s
def xk(r:V->Option Int->Option Int->Hp->VK->Prop)(te:TE)(tl th:TO):TE:=λσ H Q=>te σ H λx H1=>tl σ H1 λl H2=>th σ H2 λu H3=>r x l u H3 Q
theorem gC{r:V->Option Int->Option Int->Hp->VK->Prop}(hr:jA X r)(he:PE X e te)(hl:PO X lo tl)(hu:PO X hi th):PE X (.Subscript e (.Slice lo hi none p2) pos) (xk r te tl th):=by intro kb s σ H Q I h;refine Subscript_ (az (he kb s σ H _ I h) λv s1 hsl38=>?_);obtain⟨x,H1,I1,r1,q1⟩:=hsl38;refine wpAny_Slice (az (hl kb s1 σ H1 _ I1 q1) λvl s2 ⟨l,H2,I2,pl,q2⟩=>az (hu kb s2 σ H2 _ I2 q2) λvu s3 hsl39=>?_);obtain⟨u,H3,I3,pu,q3⟩:=hsl39;rw[evalPart_none];refine Qq ?_;have I4:Inv X kb σ H3 {s3 with heap:=s3.heap.push {cls:=.type "slice",data:=.fields #[vl,vu,.none]} }:=I3.kept (t':=s3.toks) λb ob q=>Qh _ q;obtain⟨T,id,hT,ht,hg⟩:=hr kb {s3 with heap:=s3.heap.push {cls:=.type "slice",data:=.fields #[vl,vu,.none]} } σ H3 x v vl vu l u s3.heap.objs.size Q I4 r1 (Heap.IsSliceOf.new ..) pl pu q3;show wpAny (model X.prog X.w) X.A (subscriptTail e (.Slice lo hi none p2) v (.ref s3.heap.objs.size)) (EP X kb σ Q) X.xe {s3 with heap:=s3.heap.push {cls:=.type "slice",data:=.fields #[vl,vu,.none]} };exact tail_any (ops:=[.ref s3.heap.objs.size,v]) ht hT hg (by with_unfolding_all rfl)
noncomputable def cJ(xs:List V)(lo hi:Option Int):List V:=(xs.drop (HT.sIx xs.length 0 lo)).take (HT.sIx xs.length xs.length hi-HT.sIx xs.length 0 lo)
theorem xl(xs:List V)(lo hi:Option Int):(cJ xs lo hi).length<=xs.length:=by unfold cJ;rw[QL,List.length_drop];omega
end
noncomputable def eR(n:Nat)(i:Int):Option Nat:=if 0<=i then(if i<n then some i.toNat else none) else if -(n:Int)<=i then some (i+n).toNat else none
noncomputable def cS{α:Type}(xs:List α)(i:Int):Option α:=(eR xs.length i).bind λj=>xs[j]?
theorem xm{n:Nat}{i:Int}{j:Nat}(h:eR n i=some j):seqIndex? i n=some j/\j<n/\-(n:Int)<=i/\i<n:=by
 unfold eR at h;by_cases h0:0<=i
 ·rw[if_pos h0] at h;by_cases h1:i<n
  ·rw[if_pos h1] at h;have e:i.toNat=j:=Qw h;exact⟨by rw[seqIndex_of h0 h1,e],by lia,by lia,h1⟩
  rw[if_neg h1] at h;cases h
 rw[if_neg h0] at h;by_cases h1:-(n:Int)<=i
 ·rw[if_pos h1] at h;have e:(i+n).toNat=j:=Qw h;exact⟨by rw[seqIndex_neg (by lia) h1,e],by lia,h1,by lia⟩
 rw[if_neg h1] at h;cases h
theorem lq{α:Type}{xs:List α}{i:Int}{v:α}(h:cS xs i=some v):∃j,seqIndex? i xs.length=some j/\xs[j]?=some v/\j<xs.length/\-(xs.length:Int)<=i/\i<xs.length:=by
 unfold cS at h
 cases e:eR xs.length i with
 |none=>rw[e] at h;cases h
 |some j =>
  rw[e] at h;obtain⟨h1,h2,h3,h4⟩:=xm e;exact⟨j,h1,h,h2,h3,h4⟩
theorem aX{α:Type}{xs:List α}{j:Nat}{v:α}(h:xs[j]?=some v):cS xs (j:Int)=some v:=by
 have hj:j<xs.length:=(Qj h).1;have e:eR xs.length (j:Int)=some j:=by unfold eR;rw[if_pos (by lia),if_pos (by lia)];simp
 unfold cS;rw[e];exact h
theorem jB{α:Type}(xs:List α)(v:α):cS (xs++[v]) (-1)=some v:=by
 have hl:(xs++[v]).length=xs.length+1:=by simp
 have e:eR (xs++[v]).length (-1)=some xs.length:=by unfold eR;rw[hl,if_neg (by decide),if_pos (by lia)];congr 1;lia
 unfold cS;rw[e];show(xs++[v])[xs.length]?=some v;simp
def oK(b:Expr):Prop:=∀o i,subscripted b false o i=operate [o,i] (getItem o i)
def eS(X:Cx)(r:R2):Prop:=
 ∀(value slice:Expr) (kb:List (Addr×Obj)) (s:Shared) (σ:St) (H:Hp) (x y:V) (v u:Value) (Q:VK),Inv X kb σ H s->RelV x v->RelV y u->r x y H Q ->
  subscripted slice false v u=operate [v,u] (getItem v u)->wpAny (model X.prog X.w) X.A (subscriptTail value slice v u) (EP X kb σ Q) X.xe s
def fW(X:Cx)(id:String)(r:V->List V->Hp->VK->Prop):Prop:=
 ∀(kb:List (Addr×Obj)) (s:Shared) (σ:St) (H:Hp) (x:V) (xs:List V) (v:Value) (us:List Value) (Q:VK),Inv X kb σ H s->RelV x v->aG xs us->r x xs H Q ->
  wpAny (model X.prog X.w) X.A (call (.builtin id) (v::us)) (EP X kb σ Q) X.xe s
section
variable {X:Cx}{a b:Expr}{ta tb:TE}{pos:Pos}
theorem aY{r:R2}(hr:eS X r)(ha:PE X a ta)(hb:PE X b tb)(hs:oK b):PE X (.Subscript a b pos) (fO r ta tb):=by intro kb s σ H Q I h;exact Subscript_ (kY ha hb I h λv u s2 x y H2 I2 rx ry q=>hr a b kb s2 σ H2 x y v u Q I2 rx ry q (hs _ _))
inductive ip (K:W.Frag) (x y:V) (H:Hp) (Q:VK):Prop
 |mk:∀p xs i v,x=.ref p->y=.int i->ae K H p xs->cS xs i=some v->Q v H->ip K x y H Q
inductive iq (K:W.Frag) (x y:V) (H:Hp) (Q:VK):Prop
 |mk:∀p xs i v,x=.ref p->y=.int i->aW K H p xs->cS xs i=some v->Q v H->iq K x y H Q
inductive oM (x y:V) (H:Hp) (Q:VK):Prop
 |mk:∀z i c,x=.str z->y=.int i->z.length<=sizeLine->cS z.cps.toList i=some c->Q (.str ⟨#[c]⟩) H->oM x y H Q
theorem cw:eS X (ip X.K):=by
 intro value slice kb s σ H x y v u Q I rx ry h hs;obtain⟨p,xs,i,z,rfl,rfl,hq,he,q⟩:=h;cases rx;obtain⟨t,rfl⟩:=ry;obtain⟨its,r,pl,hz⟩:=I.list hq;obtain⟨j,h1,h2,h3,h4,h5⟩:=lq he;obtain⟨w,ew,C4⟩:=r.get h2;have hl:=r.length;have hn:=im
 have fin:EP X kb σ Q w s:=⟨z,H,I,C4,q⟩
 by_cases h0:0<=i
 ·have hj:i.toNat=j:=by rw[seqIndex_of h0 h5] at h1;exact Qw h1
  exact item_listR pl.isList h0 (by lia) (by rw[hj];simpa using ew) fin hs
 have hj:(i+(its.toArray.size:Int)).toNat=j:=by rw[seqIndex_neg (by lia) h4] at h1;rw[Qv,<-hl];exact Qw h1
 exact subscriptTail_builtinR (x:=w) pl.isList.typeIs slot_list_getitem.lookup
  (wpAny_getItem_list_neg (Q:=λr s'=>r=w/\EP X kb σ Q r s') pl.isList (by lia) (by rw[Qv]<;>lia) (by lia) (by rw[hj];simpa using ew) ⟨rfl,fin⟩) hs
theorem oN:eS X (iq X.K):=by
 intro value slice kb s σ H x y v u Q I rx ry h hs;obtain⟨p,xs,i,z,rfl,rfl,hq,he,q⟩:=h;cases rx;obtain⟨t,rfl⟩:=ry;obtain⟨its,r,pl,hz⟩:=I.tuple hq;obtain⟨j,h1,h2,h3,h4,h5⟩:=lq he;obtain⟨w,ew,C4⟩:=r.get h2;have hl:=r.length;have hn:=im
 have fin:EP X kb σ Q w s:=⟨z,H,I,C4,q⟩
 exact subscriptTail_builtinR (x:=w) pl.typeIs slot_tuple_getitem.lookup
  (getItem_tuple (j:=j) (Q:=λr s'=>r=w/\EP X kb σ Q r s') pl (by lia) (by lia) (by rw[Qv,<-hl];exact h1) (by simpa using ew) ⟨rfl,fin⟩) hs
theorem eT:eS X oM:=by
 intro value slice kb s σ H x y v u Q I rx ry h hs;obtain⟨z,i,c,rfl,rfl,hz,he,q⟩:=h;obtain⟨t,rfl⟩:=rx;obtain⟨t',rfl⟩:=ry;obtain⟨j,h1,h2,h3,h4,h5⟩:=lq he;have hl:z.cps.toList.length=z.length:=by simp[Str.length]
 rw[hl] at h1 h4 h5;have hn:=im
 exact tail_any (typeIs_str s z t) slot_str_getitem.lookup (getItem_str (c:=c) (by
  have e1:decide (i < -(2^63:Int))=false:=Qd (by lia);have e2:decide (i ≥ 2^63)=false:=Qd (by lia)
  rw[e1,e2,Bool.or_false]) (by rw[h1];simpa using h2) ⟨.str ⟨#[c]⟩,H,I.tok _,⟨_,rfl⟩,q⟩) hs
theorem xn(lo hi:Option Int)(n:Nat):(sliceBounds lo hi none n).1=((HT.sIx n 0 lo:Nat):Int)/\(sliceBounds lo hi none n).2.1=((HT.sIx n n hi:Nat):Int)/\(sliceBounds lo hi none n).2.2=1:=by
 refine⟨?_,?_,rfl⟩
 ·cases lo with
  |none=>simp[sliceBounds,HT.sIx]
  |some i =>
   simp only[sliceBounds,HT.sIx,Option.getD_none,show(1:Int)>0 by decide,if_true];by_cases h:i<0
   ·simp only[h,if_true]<;>lia
   simp only[h,if_false]<;>lia
 cases hi with
 |none=>simp[sliceBounds,HT.sIx]
 |some i =>
  simp only[sliceBounds,HT.sIx,Option.getD_none,show(1:Int)>0 by decide,if_true];by_cases h:i<0
  ·simp only[h,if_true]<;>lia
  simp only[h,if_false]<;>lia
theorem xp(its:List Value)(lo hi:Option Int):slicePick its.toArray lo hi none=((its.drop (HT.sIx its.length 0 lo)).take (HT.sIx its.length its.length hi-HT.sIx its.length 0 lo)).toArray:=by obtain⟨h1,h2,h3⟩:=xn lo hi its.toArray.size;unfold slicePick;rw[h1,h2,h3];simp only[sliceRange_one,pick_run,Qv]<;>rfl
inductive lu (K:W.Frag) (x:V) (lo hi:Option Int) (H:Hp) (Q:VK):Prop
 |mk:∀a xs,x=.ref a->ae K H a xs->(∀p,H p=none->Q (.ref p) (ai H p (.lst (cJ xs lo hi))))->lu K x lo hi H Q
theorem lv:jA X (lu X.K):=by intro kb s σ H x v vl vu lo hi sl Q I rx hs pl pu h;obtain⟨a,xs,rfl,hx,q⟩:=h;cases rx;obtain⟨its,r,ht,hz⟩:=I.list hx;have CN:=r.length;refine⟨"list",_,slot_list_getitem.lookup,ht.isList.typeIs,?_⟩;refine wpAny_getItem_list_slice ht.isList hs pl pu .none (by simp) ?_ (by rw[Qv]<;>lia);rw[xp,<-CN];refine⟨.ref s.heap.objs.size,_,I.laid (t':=s.toks) (o:=.lst (cJ xs lo hi)) (λb ob q=>Qh _ q) (Qk _) ?_,rfl,q _ (I.hok.fresh (Qk _))⟩;exact⟨Qg (xl xs lo hi) hz,_,0,(r.drop (HT.sIx xs.length 0 lo)).take (HT.sIx xs.length xs.length hi-HT.sIx xs.length 0 lo),Qt _ rfl⟩
noncomputable def dr:V->Bool
 |.non=>true
 |.bl _=>true
 |.int _=>true
 |.str _=>true
 |_=>false
noncomputable def eU:V->V->Bool
 |.non,.non=>true
 |.bl a,.bl b=>a==b
 |.bl a,.int b=>(if a then 1 else 0)==b
 |.int a,.bl b=>a==(if b then 1 else 0)
 |.int a,.int b=>a==b
 |.str a,.str b=>a==b
 |_,_=>false
theorem xq{A:Around}{s:Shared}{y x:V}{u v:Value}(ry:RelV y u)(rx:RelV x v)(fy:dr y=true)(fx:dr x=true):SeqAt.EqAt A s u v (eU y x):=by
 cases y with
 |non =>
  cases ry
  cases x with
  |non=>cases rx;exact SeqAt.EqAt.same _
  |bl b=>cases rx;exact SeqAt.EqAt.none_bool b
  |int b=>obtain⟨t,rfl⟩:=rx;exact SeqAt.EqAt.none_int b t
  |str b=>obtain⟨t,rfl⟩:=rx;exact SeqAt.EqAt.none_str b t
  |_=>exact absurd (show false=true from fx) Qf
 |bl a =>
  cases ry
  cases x with
  |non=>cases rx;exact SeqAt.EqAt.bool_none a
  |bl b=>cases rx;exact SeqAt.EqAt.bool_bool a b
  |int b=>obtain⟨t,rfl⟩:=rx;exact SeqAt.EqAt.bool_int a b t
  |str b=>obtain⟨t,rfl⟩:=rx;exact SeqAt.EqAt.bool_str a b t
  |_=>exact absurd (show false=true from fx) Qf
 |int a =>
  obtain⟨t',rfl⟩:=ry
  cases x with
  |non=>cases rx;exact SeqAt.EqAt.int_none a t'
  |bl b=>cases rx;exact SeqAt.EqAt.int_bool a t' b
  |int b=>obtain⟨t,rfl⟩:=rx;exact SeqAt.EqAt.int_int a t' b t
  |str b=>obtain⟨t,rfl⟩:=rx;exact SeqAt.EqAt.int_str a t' b t
  |_=>exact absurd (show false=true from fx) Qf
 |str a =>
  obtain⟨t',rfl⟩:=ry
  cases x with
  |non=>cases rx;exact SeqAt.EqAt.str_none a t'
  |bl b=>cases rx;exact SeqAt.EqAt.str_bool a t' b
  |int b=>obtain⟨t,rfl⟩:=rx;exact SeqAt.EqAt.str_int a t' b t
  |str b=>obtain⟨t,rfl⟩:=rx;exact SeqAt.EqAt.str_str a t' b t
  |_=>exact absurd (show false=true from fx) Qf
 |_=>exact absurd (show false=true from fy) Qf
noncomputable def eD(x:V)(u:Value):Bool:=match u with
 |.none=>eU .non x
 |.bool b=>eU (.bl b) x
 |.int i _=>eU (.int i) x
 |.str z _=>eU (.str z) x
 |_=>false
theorem oO{x y:V}{u:Value}(r:RelV y u)(f:dr y=true):eD x u=eU y x:=by
 cases y with
 |non=>cases r;rfl
 |bl b=>cases r;rfl
 |int i=>obtain⟨t,rfl⟩:=r;rfl
 |str z=>obtain⟨t,rfl⟩:=r;rfl
 |_=>exact absurd (show false=true from f) Qf
theorem lw{x:V}:∀{xs:List V} {us:List Value},aG xs us->xs.all dr=true->us.any (eD x)=xs.any λy=>eU y x
 |_,_,.nil,_=>rfl
 |y::xs,u::us,.cons r t,f=>by rw[List.all_cons,Bool.and_eq_true] at f;rw[List.any_cons,List.any_cons,oO r f.1,lw t f.2]
theorem lx{A:Around}{s:Shared}{x:V}{v:Value}(rx:RelV x v)(fx:dr x=true):∀{xs:List V} {us:List Value},aG xs us->xs.all dr=true->∀u∈us,SeqAt.EqAt A s u v (eD x u)
 |_,_,.nil,_=>λu hu=>by cases hu
 |y::xs,u::us,.cons r t,f=>λu' hu=>by
  rw[List.all_cons,Bool.and_eq_true] at f;rcases Qs hu with rfl|hu
  ·rw[oO r f.1];exact xq r rx f.1 fx
  exact lx rx fx t f.2 u' hu
noncomputable def jC(x:V)(xs:List V):Bool:=xs.any λy=>eU y x
inductive ly (K:W.Frag) (neg:Bool) (x y:V) (H:Hp) (Q:VK):Prop
 |mk:∀p xs,y=.ref p->(ae K H p xs∨aW K H p xs)->dr x=true->xs.all dr=true->Q (.bl (if neg then !jC x xs else jC x xs)) H->ly K neg x y H Q
theorem xr:a9 X (compareOp .In) (ly X.K false):=by
 intro kb s σ H x y v u Q I rx ry h;obtain⟨p,xs,rfl,hq,fx,fs,q⟩:=h;cases ry;rcases hq with hq|hq
 ·obtain⟨its,r,pl,hz⟩:=I.list hq;refine SeqAt.in_listAt (eD x) pl.isList (λw hw=>lx rx fx r fs w (by simpa using hw)) ⟨.bl _,H,I,rfl,?_⟩;rw[show its.toArray.any (eD x)=its.any (eD x) by simp,lw r fs];exact q
 obtain⟨its,r,pl,hz⟩:=I.tuple hq;refine SeqAt.in_tupleAt (eD x) pl (λw hw=>lx rx fx r fs w (by simpa using hw)) ⟨.bl _,H,I,rfl,?_⟩;rw[show its.toArray.any (eD x)=its.any (eD x) by simp,lw r fs];exact q
theorem xu:a9 X (compareOp .NotIn) (λx y H Q=>∃i j,x=.str i/\y=.str j/\Q (.bl (!(!(Builtin.Str.occurrences j i 0 j.length 1).isEmpty))) H):=by intro kb s σ H x y v u Q I rx ry h;obtain⟨i,j,rfl,rfl,q⟩:=h;obtain⟨t,rfl⟩:=rx;obtain⟨t',rfl⟩:=ry;exact notIn_str ⟨.bl _,H,I,rfl,q⟩
theorem fX:cD X (.builtin "len") (λxs H Q=>∃p ys,xs=[.ref p]/\(ae X.K H p ys∨aW X.K H p ys)/\Q (.int ys.length) H):=by
 intro kb s σ H xs us Q I r h;obtain⟨p,ys,rfl,hq,q⟩:=h;obtain⟨u,rfl,rx⟩:=vals1 r;cases rx;have hn:=im;rcases hq with hq|hq
 ·obtain⟨its,r',pl,hz⟩:=I.list hq;have CN:=r'.length;exact Calls.call_len_list pl.isList (by simp only[Qv]<;>lia) ⟨.int ys.length,H,I.tok _,⟨s.toks+1,by rw[Qv,CN]⟩,q⟩
 obtain⟨its,r',pl,hz⟩:=I.tuple hq;have CN:=r'.length;exact len_tuple pl (by simp only[Qv]<;>lia) ⟨.int ys.length,H,I.tok _,⟨s.toks+1,by rw[Qv,CN]⟩,q⟩
theorem gD:cD X (.builtin "len") (λxs H Q=>∃z,xs=[.str z]/\z.length<=sizeLine/\Q (.int z.length) H):=by intro kb s σ H xs us Q I r h;obtain⟨z,rfl,hz,q⟩:=h;obtain⟨u,rfl,t,rfl⟩:=vals1 r;have hn:=im;exact len_str (by lia) ⟨.int z.length,H,I.tok _,⟨_,rfl⟩,q⟩
def gE(K:W.Frag)(T:String)(x:V)(H:Hp):Prop:=match x with
 |.str _=>T="str"
 |.int _=>T="int"
 | .ref p=>(T="list"/\∃ xs,ae K H p xs)∨(T="tuple"/\∃ o,K.lookup p=some o/\o.cls=.type "tuple"/\o.dict=none) ∨
   (T="dict"/\((∃CK,H p=some (.dK CK))∨∃CK,H p=some (.dT CK)))∨(T="set"/\∃S n,H p=some (.set S n))
 |_=>False
theorem jD{kb:List (Addr×Obj)}{σ:St}{H:Hp}{s:Shared}{T:String}{x:V}{v:Value}(I:Inv X kb σ H s)(r:RelV x v)(ty:gE X.K T x H) :
  s.TypeIs v T/\∀a,v=.ref a->∃ob,s.heap.get? a=some ob/\ob.dict=none:=by
 cases x with
 |str z =>
  obtain⟨t,rfl⟩:=r;cases (show T="str" from ty);exact⟨typeIs_str s z t,λ_ e=>nomatch e⟩
 |int i =>
  obtain⟨t,rfl⟩:=r;cases (show T="int" from ty);exact⟨typeIs_int s i t,λ_ e=>nomatch e⟩
 |ref p =>
  cases r
  rcases ty with ⟨rfl,xs,hq⟩|⟨rfl,o,hk,hc,hd⟩|⟨rfl,hk⟩|⟨rfl,S,n,hk⟩
  ·obtain⟨its,_,pl,_⟩:=I.list hq;refine⟨pl.isList.typeIs,λa e=>?_⟩;cases e;obtain⟨o,n,e,c,hd,_⟩:=pl;exact⟨o,e,hd⟩
  ·refine⟨⟨o,I.kIn p o hk,hc⟩,λa e=>?_⟩;cases e;exact⟨o,I.kIn _ o hk,hd⟩
  ·have z:∃ o,s.heap.get? p=some o/\o.ExactDict:=by
    rcases hk with ⟨CK,hk⟩|⟨CK,hk⟩
    ·obtain⟨_,_,_,_,o,_,_,e,ex,_⟩:=I.hok p _ hk;exact⟨o,e,ex⟩
    obtain⟨_,_,_,_,o,_,_,e,ex,_⟩:=I.hok p _ hk;exact⟨o,e,ex⟩
   obtain⟨o,e,ex⟩:=z;refine⟨⟨o,e,ex.1⟩,λa e2=>?_⟩;cases e2;exact⟨o,e,ex.2.1⟩
  obtain⟨o,_,_,_,e,ex,_⟩:=I.hok p _ hk;refine⟨⟨o,e,ex.1⟩,λa e2=>?_⟩;cases e2;exact⟨o,e,ex.2.1⟩
 |_=>exact False.elim ty
def oP(K:W.Frag)(T:String)(r:V->List V->Hp->VK->Prop)(to:TE):TE:=λσ H Q=>to σ H λx H1=>gE K T x H1/\r x [] H1 Q
def lz(K:W.Frag)(T:String)(r:V->List V->Hp->VK->Prop)(to:TE)(t:TA):TE:=λσ H Q=>to σ H λx H1=>gE K T x H1/\t σ H1 λxs H2=>r x xs H2 Q
variable {o e:Expr}{es:List Expr}{to:TE}{t:TA}{name:Str}{apos CI:Pos}{T id:String}{r:V->List V->Hp->VK->Prop}
theorem lA(pa:PlainAttrs T)(slot:Slot T name id)(hty:typeOf (.builtin id)=pure (.type "method_descriptor"))(hm:fW X id r)(ho:PE X o to)
  (CS:attributeBase o name X.env (eval o X.env)=eval o X.env:=by rfl) (CZ:(apos.endLine==CI.line)=true:=by rfl):PE X (.Call (.Attribute o name apos) [] [] CI) (oP X.K T r to):=by
 intro kb s σ H Q I h;refine wpAny_Call_method0_late CS CZ (az (ho kb s σ H _ I h) λv s1 hsl40=>?_);obtain⟨x,H1,I1,r1,ty,q1⟩:=hsl40;obtain⟨h1,h2⟩:=jD I1 r1 ty;exact⟨T,id,pa,slot,hty,h1,h2,Calls.callWith_builtin rfl (PySem.evalArgs_none (hm kb s1 σ H1 x [] v [] Q I1 r1 .nil q1))⟩
theorem jE(pa:PlainAttrs T)(slot:Slot T name id)(hty:typeOf (.builtin id)=pure (.type "method_descriptor"))(hm:fW X id r)(ho:PE X o to)(ha:PA X (e::es) t)
  (CS:attributeBase o name X.env (eval o X.env)=eval o X.env:=by rfl)
  (DA:((backTo CI (starEach (e::es) X.env)).all (λx=>!x.1)&&(backToKw CI (keywordEach [] X.env)).all (λx=>x.1.isSome)
   && decide ((e::es).length+([]:List Keyword).length+(if([]:List Keyword).isEmpty then 0 else 1)<30))=true:=by rfl)
  (CZ:(apos.endLine==CI.line)=true:=by rfl) (hs:starEach (e::es) X.env=(false,eval e X.env)::starEach es X.env:=by rfl) (Db:(backTo CI (starEach es X.env)).any (·.1)=false:=by rfl) :
  PE X (.Call (.Attribute o name apos) (e::es) [] CI) (lz X.K T r to t):=by
 intro kb s σ H Q I h;refine wpAny_Call_method_late CS DA CZ rfl (az (ho kb s σ H _ I h) λv s1 hsl41=>?_);obtain⟨x,H1,I1,r1,ty,q1⟩:=hsl41;obtain⟨h1,h2⟩:=jD I1 r1 ty;refine⟨T,id,pa,slot,hty,h1,h2,?_⟩;have hA:=ha CI kb s1 σ H1 _ I1 q1;rw[hs] at hA ⊢;refine Calls.callWith_builtin (by show(false||(backTo CI (starEach es X.env)).any (·.1))=false;rw[Db]<;>rfl) (Calls.evalArgs_plain ?_);exact az hA λus s2 hsl42=>by obtain⟨vs,H2,I2,r2,q2⟩:=hsl42;exact hm kb s2 σ H2 x vs v us Q I2 r1 r2 q2
end
def jF(X:Cx)(id:String)(r:V->List V->Hp->VK->Prop):Prop:=
 ∀(kb:List (Addr×Obj)) (s:Shared) (σ:St) (H:Hp) (x:V) (xs:List V) (v:Value) (us:List Value) (Q:VK),Inv X kb σ H s->RelV x v->aG xs us->r x xs H Q ->
  wpAny (model X.prog X.w) X.A (call (.builtin id) (v::us)) (EP X kb σ Q) X.xe s
theorem aG.one:∀{x:V} {us:List Value},aG [x] us->∃u,us=[u]/\RelV x u
 |_,_,.cons r .nil=>⟨_,rfl,r⟩
theorem aG.zero:∀{us:List Value},aG [] us->us=[]
 |_,.nil=>rfl
theorem aG.dropLast{xs:List V}{us:List Value}(h:aG xs us):aG xs.dropLast us.dropLast:=by
 induction h with
 |nil=>exact .nil
 |cons r t ih =>
  cases t with
  |nil=>exact .nil
  |cons q t'=>exact .cons r ih
theorem aG.rep{xs:List V}{us:List Value}(h:aG xs us):∀k:Nat,aG (List.replicate k xs).flatten (List.replicate k us).flatten
 |0=>.nil
 |k+1=>by rw[List.replicate_succ,List.replicate_succ,List.flatten_cons,List.flatten_cons];exact aG.append h (aG.rep h k)
theorem xv{α:Type}(l:List α):l.eraseIdx (l.length-1)=l.dropLast:=by
 induction l with
 |nil=>rfl
 |cons a r ih =>
  cases r with
  |nil=>rfl
  |cons b r =>
   have e:(a::b::r).length-1=((b::r).length-1)+1:=by have h1:(a::b::r).length=r.length+2:=rfl;have h2:(b::r).length=r.length+1:=rfl;lia
   rw[e,List.eraseIdx_cons_succ,ih]
   all_goals rfl
theorem foldl_rep(its:List Value):∀(k:Nat) (CT:List Value),
  List.foldl (λx1 x2=>x1++x2) CT.toArray (List.replicate k its.toArray)=(CT++(List.replicate k its).flatten).toArray
 |0,CT=>by simp
 |k+1,CT=>by
  have e:CT.toArray++its.toArray=(CT++its).toArray:=by simp
  have e2:(CT++its)++(List.replicate k its).flatten=CT++(List.replicate (k+1) its).flatten:=by rw[List.replicate_succ,List.flatten_cons,List.append_assoc]
  rw[<-e2,<-foldl_rep its k (CT++its),<-e,List.replicate_succ,List.foldl_cons]
section
variable {X:Cx}{kb:List (Addr×Obj)}{σ:St}{H:Hp}{s:Shared}{l b:Addr}{xs ys zs:List V}
theorem Inv.lset{its its':List Value}{n:Nat}{f:Array Value->Array Value}{t':Nat}(I:Inv X kb σ H s)(hH:H l=some (.lst xs))
  (e:s.heap.get? l=some {cls:=.type "list",data:=.seq its.toArray n}) (hf:f its.toArray=its'.toArray) (hv:aG ys its') (hz:ys.length<=sizeLine) :
  Inv X kb σ (ai H l (.lst ys)) {s with heap:=s.heap.update l (Obj.mapSeq f),toks:=t'}:=by
 have q:=PySem.IsL.update e f;rw[hf] at q;refine I.write (x:=l) (e:=l) (by rw[hH];exact trivial) (.inl rfl) (λb' u hb hu=>(Heap.get?_update_other s.heap (Obj.mapSeq f) (Ne.symm hb)).trans hu) ⟨_,q⟩ ?_;exact⟨hz,its',_,hv,q⟩
theorem Inv.lnew{its:List Value}{t':Nat}(I:Inv X kb σ H s)(hv:aG ys its)(hz:ys.length<=sizeLine) :
  Inv X kb σ (ai H s.heap.objs.size (.lst ys)) {s with heap:=s.heap.push {cls:=.type "list",data:=.seq its.toArray},toks:=t'} :=
 I.laid (λ_ _ q=>Qh _ q) (Qk _) ⟨hz,its,0,hv,Qt _ rfl⟩
theorem Inv.fresh(I:Inv X kb σ H s):H s.heap.objs.size=none:=I.hok.fresh (Qk _)
theorem Inv.lstM(I:Inv X kb σ H s)(hH:H l=some (.lst xs)):xs.length<=sizeLine/\∃(its:List Value) (n:Nat),aG xs its/\xs.length=its.length/\s.heap.get? l=some {cls:=.type "list",data:=.seq its.toArray n}:=by obtain⟨z,its,n,r,e⟩:=I.hok l _ hH;exact⟨z,its,n,r,r.length,e⟩
theorem xw{n:Nat}(h:n<=sizeLine):Builtin.List.listTooLong n=false:=by unfold Builtin.List.listTooLong;exact Qd (by lia)
end
section
variable {X:Cx}
inductive lB (x:V) (vs:List V) (H:Hp) (Q:VK):Prop
 |mk:∀l xs y,x=.ref l->vs=[y]->H l=some (.lst xs)->xs.length<sizeLine->Q .non (ai H l (.lst (xs++[y])))->lB x vs H Q
theorem lC:jF X "list.append" lB:=by intro kb s σ H x vs v us Q I rx rv h;obtain⟨l,xs,y,rfl,rfl,hH,hz,q⟩:=h;cases rx;obtain⟨u,rfl,ru⟩:=rv.one;obtain⟨z,its,n,r,hl,e⟩:=I.lstM hH;refine call_meets F.slot_list_append ⟨_,e,rfl⟩ F.entry_list_append (F.args_list_append_2 _ _) (PySem.list_append l its.toArray n u (by rw[Qv];lia)) ⟨e,?_⟩;refine⟨.non,_,I.lset (its':=its++[u]) hH e (by simp) (r.append (.cons ru .nil)) ?_,rfl,q⟩;rw[QK,List.length_singleton];lia
inductive lD (x:V) (vs:List V) (H:Hp) (Q:VK):Prop
 |mk:∀l xs y,x=.ref l->vs=[]->H l=some (.lst xs)->xs[xs.length-1]?=some y->Q y (ai H l (.lst xs.dropLast))->lD x vs H Q
theorem oQ:jF X "list.pop" lD:=by
 intro kb s σ H x vs v us Q I rx rv h;obtain⟨l,xs,y,rfl,rfl,hH,hy,q⟩:=h;cases rx;have hus:=rv.zero;subst hus;obtain⟨z,its,n,r,hl,e⟩:=I.lstM hH;obtain⟨u,hu,ru⟩:=r.get hy;have hy':its.toArray[its.toArray.size-1]?=some u:=by show its.toArray[its.length-1]?=some u;rw[<-Array.getElem?_toList,<-hl];exact hu
 refine call_meets F.slot_list_pop ⟨_,e,rfl⟩ F.entry_list_pop (F.args_list_pop_1 _) (MeetsSeq.list_pop_last l its.toArray n u hy' (by rw[Qv];omega)) ⟨e,?_⟩;refine⟨y,_,I.lset (its':=its.dropLast) hH e ?_ r.dropLast ?_,ru,q⟩
 ·show its.toArray.eraseIdxIfInBounds (its.toArray.size-1)=its.dropLast.toArray;rw[Qv,List.eraseIdxIfInBounds_toArray,xv]
 rw[List.length_dropLast];omega
inductive oR (x y:V) (H:Hp) (Q:VK):Prop
 |mk:∀l b xs zs,x=.ref l->y=.ref b->H l=some (.lst xs)->H b=some (.lst zs)->xs.length+zs.length<=sizeLine->(∀p,H p=none->Q (.ref p) (ai H p (.lst (xs++zs))))->oR x y H Q
theorem jG:a9 X (binaryOp .Add) oR:=by
 intro kb s σ H x y v u Q I rx ry h;obtain⟨l,b,xs,zs,rfl,rfl,hH,hB,hz,q⟩:=h;cases rx;cases ry;obtain⟨z,its,n,r,hl,e⟩:=I.lstM hH;obtain⟨z2,its2,n2,r2,hl2,e2⟩:=I.lstM hB;refine PySem.P.add_list e e2 ?_ (by rw[Qv,Qv];omega);have ea:its.toArray++its2.toArray=(its++its2).toArray:=by simp
 rw[ea];exact⟨.ref _,_,I.lnew (t':=s.toks) (r.append r2) (by rw[QK];omega),rfl,q _ I.fresh⟩
inductive oS (x y:V) (H:Hp) (Q:VK):Prop
 |mk:∀l k xs,x=.ref l->y=.int k->H l=some (.lst xs)->-(2^63)<=k->k<2^63->xs.length*k.toNat<=sizeLine->(∀p,H p=none->Q (.ref p) (ai H p (.lst (List.replicate k.toNat xs).flatten)))->oS x y H Q
theorem xx{α:Type}(xs:List α)(k:Nat):(List.replicate k xs).flatten.length=k*xs.length:=by
 induction k with
 |zero=>simp
 |succ k ih=>rw[List.replicate_succ,List.flatten_cons,QK,ih,Nat.succ_mul,Nat.add_comm]
theorem xy:a9 X (binaryOp .Mult) oS:=by
 intro kb s σ H x y v u Q I rx ry h;obtain⟨l,k,xs,rfl,rfl,hH,h1,h2,hz,q⟩:=h;cases rx;obtain⟨t,rfl⟩:=ry;obtain⟨z,its,n,r,hl,e⟩:=I.lstM hH;have CN:its.toArray.size*k.toNat<=sizeLine:=by rw[Qv,<-hl];exact hz
 have hcap:¬its.toArray.size*k.toNat>(2^63-1)/8:=by
  have:(sizeLine:Nat)<=(2^63-1)/8:=by decide
  lia
 have hfit:¬(!Builtin.List.listFitsIndex k)=true:=by rw[fitsIndex_both h1 h2];exact Qf
 have hlong:¬Builtin.List.listTooLong (its.toArray.size*k.toNat)=true:=by rw[xw CN];exact Qf
 have hnew:List.foldl (λx1 x2=>x1++x2) #[] (List.replicate (if its.toArray.isEmpty=true then 0 else k.toNat) its.toArray)=(List.replicate k.toNat its).flatten.toArray:=by
  have f0:∀m:Nat,List.foldl (λx1 x2=>x1++x2) #[] (List.replicate m its.toArray)=(List.replicate m its).flatten.toArray:=λm=>by have:=foldl_rep its m [];rw[List.nil_append] at this;exact this
  rw[f0]
  cases its with
  |nil=>simp
  |cons a r'=>rw[if_neg (by simp)]
 refine wpAny_binaryOp_repeat_ref (T:="list") (U:="int") (by decide) ⟨_,e,rfl⟩ (λs'=>typeIs_int s' k t) noFill_list_mul F.fills_int_mul F.slot_int_rmul repeat_list F.slot_int_index.lookup
  (call_meets F.slot_int_rmul (typeIs_int s k t) F.entry_int_rmul (F.args_int_rmul_2 _ _) (int___rmul___int_list k t l its.toArray n)
   ⟨e,rfl,⟨_,e,rfl⟩,call_meets F.slot_list_mul ⟨_,e,rfl⟩ F.entry_list_mul (F.args_list_mul_2 _ _) (AutoListH.list___mul___list_int_3 l its.toArray n k t hfit hcap hlong) ⟨e,?_⟩⟩)
 rw[hnew];exact⟨.ref _,_,I.lnew (t':=s.toks) (r.rep k.toNat) (by rw[xx,Nat.mul_comm];exact hz),rfl,q _ I.fresh⟩
end
end L2
namespace Att
open PySem PySem.W PySem.Calls PyProof.Rows
theorem xz{P:Params}{h:Heap}:∀(ns:List Int) (vs:List Value),WellAll P h vs (ns.map WData.int)->IntsAre vs ns:=by
 intro ns
 induction ns with
 |nil =>
  intro vs w;rw[List.map_nil] at w;cases w;exact .nil
 |cons n ns ih =>
  intro vs w;rw[List.map_cons] at w
  cases w with
  |cons a b =>
   cases a;exact .cons _ _ (ih _ b)
theorem xA{l:OpenLaw}{n:Nat}(hn:l.most=some n){P:Params}{h:Heap}{args:List WData}{vals:List Value}
  (hpre:l.row.toRowW.claim.pre args=true) (DR:WellAll P h vals args) :
  ∃a vs ns,vals=[Value.ref a]/\args=[WData.list (ns.map WData.int)]/\h.get? a=some {cls:=.type "list",data:=.seq vs.toArray}/\IntsAre vs ns/\ns.length<=n:=by
 have hsh:WShape.hasAll [] args [.list .int]=true:=(pre_splitW hpre).1;have hc:l.pre.holds [] {args:=args}=true:=(pre_splitW hpre).2;obtain⟨d,r,rfl,h1,h2⟩:=hasAllW_cons hsh;obtain rfl:=hasAllW_nil h2;obtain⟨xs,rfl,h3⟩:=hasW_list h1;obtain⟨ns,rfl⟩:=items_int h3
 have CN:ns.length<=n:=by
  unfold OpenLaw.pre at hc;have h4:(WTm.not (.lt (.lit (.int (n:Int))) (.len (.arg 0)))).holds [] {args:=[.list (ns.map .int)]}=true:=by have h4:=(holds_andW hc).1;rw[hn] at h4;exact h4
  have h5:=condW_of h4 (w_not (w_lt w_lit (w_len_list (w_arg rfl))));rw[Qb] at h5;refine Nat.le_of_not_lt λq=>?_;have q':(n:Int)<((ns.length:Nat):Int):=by omega
  first
   |(rw[Qo q'] at h5;exact absurd h5 (by decide))
   |(simp at h5;omega)
 cases DR with
 |cons w1 w2 =>
  cases w2
  cases w1 with
  |list ho hall=>exact⟨_,_,ns,rfl,rfl,ho,xz ns _ hall,CN⟩
theorem xB(l:OpenLaw)(args:List WData):l.row.toRowW.claim.post args (.bool true) args=true:=
 postW_of (r:=l.row.toRowW) (X:=(true==true))
  (show WShape.has [] (.bool true) .bool=true by first|rfl|decide|simp[WShape.has,WShape.arms,WShape.armsAll])
  (show(WTm.eq .res (.lit (.bool true))).value [] {args:=args,res:=some (.bool true),after:=args}=some (.bool (true==true)) from w_eq_bool (w_res rfl) w_lit) rfl
theorem attach_call{l:OpenLaw}{n:Nat}{q:Program}{loose:List Str}{XP:(Str->Option Value)->Heap->Prop}{YP:World->Heap->Prop}{d:DefRec}
  (hn:l.most=some n) (hdf:d.params.defaults=[])
  (call:∀(w:World) (s₀ s₁:Shared) (mg mb:Str->Option Value) (fa:Addr) (o:Obj) (pm cd DY:Value) (a:Addr) (vs:List Value) (ns:List Int),
   Ground q loose [] XP w s₀ mg mb s₁.heap->YP w s₁.heap ->
   s₁.heap.get? fa=some o->o.data=.func (docDef d.name d.params d.body d.scope pm cd DY)->s₁.heap.CodeRec cd d.name->mg d.name=some (.ref fa) ->
   s₁.heap.get? a=some {cls:=.type "list",data:=.seq vs.toArray}->IntsAre vs ns->ns.length<=n->s₁.gens=#[] ->
   codeAny (model l.prog w) callerA (.call (.ref fa) ⟨[.ref a],[]⟩) (λr s'=>r=.ok (.ret (.bool true))/\OldK s₁.heap s'.heap/\s'.os=s₁.os/\AllBare s'.gens) s₁) :
  WalkO q loose XP YP l.row.toRowW d [] (λf vs=>PySem.call f vs):=by
 intro w s₀ s₁ mg mb G Y fa o pm cd DY dV kV ho hd EF hD hmg hg args vals as hpre hlay hrd DR hlo;obtain rfl:dV=.none:=Dflts.none hD hdf;obtain rfl:kV=.none:=Dflts.noKw hD;obtain⟨a,vs,ns,rfl,rfl,hobj,EV,CN⟩:=xA hn hpre DR;refine enter_call (codeAny_mono (call w s₀ s₁ mg mb fa o pm cd DY a vs ns G Y ho (fd_plain hd) EF hmg hobj EV CN hg) λr s' hq=>?_);obtain⟨rfl,h2,h3,h4⟩:=hq;exact⟨.inl ⟨.bool true,.bool true,[],rfl,λ_=>rfl,.bool true,xB l _,λ_=>⟨List.Pairwise.nil,λ_ hm=>(nomatch hm)⟩⟩,h2,h3,h4⟩
end Att
namespace L2
open PySem PySem.Spec PyProof.Rows
theorem oU:∀{vs:List Value} {ns:List Int},IntsAre vs ns->aG (ns.map V.int) vs
 |_,_,.nil=>.nil
 |_,_,.cons n t h=>.cons ⟨t,rfl⟩ (oU h)
def lE(H:Hp):Prop:=∀b,H b=none∨∃o xs,H b=some (.frz o (.lst xs))
theorem xC{P:Program}{w:World}{K:W.Frag}{mg mb:Str->Option Value}{CX:b3}{k:Nat}{fa a:Addr}{fd:FuncData}{x:Str}{sp:Sp}{s₁:Shared}{vs:List Value}{ns:List Int}
  (KX:K.In s₁.heap) (hns:s₁.heap.Ns mainGlobals mg) (hb:s₁.heap.Ns builtinsNs mb) (hbb:∀x:Str,x≠"__name__"->mb x=bootBuiltins x) (hlim:s₁.heap.NoLimit) (hg:s₁.gens=#[])
  (ha:s₁.heap.get? a=some {cls:=.type "list",data:=.seq vs.toArray}) (hi:IntsAre vs ns) (hl:ns.length<=sizeLine) (hr:au k callerA)
  (F:∀base:Heap,K.In base->base.Ns mainGlobals mg->aF P w K mg base CX k fa fd [x] sp) (hbind:∀(s:Shared) (u:Value),BindsTo s fd ⟨[u],[]⟩ [(x,u)])
  (hsp:∀H:Hp,lE H->ae K H a (ns.map V.int)->sp [.ref a] H (λv _=>v=.bl true) λ_ _ _=>False)
  (hCX:∀H e s',CX [] H s₁ (λ_ _ _=>False) e s'->False) :
  codeAny (model P w) callerA (.call (.ref fa) ⟨[.ref a],[]⟩) (λr s'=>r=.ok (.ret (.bool true))/\OldK s₁.heap s'.heap/\s'.os=s₁.os/\AllBare s'.gens) s₁:=by
 have rv:=oU hi;have lenV:=hi.length
 have core:∀ H:Hp,lE H->ae K H a (ns.map V.int)->bp P w H s₁.heap->(∀ b,H b≠none->b=a)->(H a≠none->K.lookup a=none) ->
   codeAny (model P w) callerA (.call (.ref fa) ⟨[.ref a],[]⟩) (λr s'=>r=.ok (.ret (.bool true))/\OldK s₁.heap s'.heap/\s'.os=s₁.os/\AllBare s'.gens) s₁:=by
  intro H hO hS hok hA hK;have Et:∀{b:Addr} {o:Obj},s₁.heap.get? b=some o->H b=none->(ee s₁.heap H).get? b=some o:=λe n=>wo e n
  have noA:∀{b:Addr} {o:Obj} {es:Array DictEntry} {ep:Nat},s₁.heap.get? b=some o->o.data=.dict es ep->H b=none:=λ{b o es ep} e d=>by
   cases q:H b with
   |none=>rfl
   |some u =>
    have e':b=a:=hA b (by rw[q];simp);subst e';rw[ha] at e;cases e;have d':Data.seq vs.toArray _=Data.dict es ep:=d;cases d'
  have nsK:∀{b:Addr} {m:Str->Option Value},s₁.heap.Ns b m->(ee s₁.heap H).Ns b m:=λ{b m} ⟨o,es,ep,e,d,r⟩=>⟨o,es,ep,Et e (noA e d),d,r⟩
  have hKb:K.In (ee s₁.heap H):=λb o e=>Et (KX b o e) (by
   cases q:H b with
   |none=>rfl
   |some u =>
    have e':b=a:=hA b (by rw[q];simp);subst e'
    rw[hK (by rw[q];simp)] at e;cases e)
  have hM:Mod K mg (ee s₁.heap H):=⟨hKb,nsK hns,⟨mb,nsK hb,hbb⟩,by obtain⟨mc,h1,h2⟩:=hlim;exact⟨mc,nsK h1,h2⟩⟩
  have e0:fU P w K mg (ee s₁.heap H) callerA [] s₁ H:=⟨rfl,hM,λb o e=>wp e,Nat.le_of_eq (wn _ _),trivial,λb hb=>absurd (show b∈([]:List Addr) from hb) (by simp),hok,.of_eq hg⟩
  refine codeAny_mono ((F _ hKb (nsK hns)).run callerA [] s₁ H ⟨[.ref a],[]⟩ [.ref a] [.ref a] _ _ hr e0 (hbind s₁ (.ref a)) (.cons rfl .nil) (hsp H hO hS)) λr s' h=>?_
  cases r with
  |error e=>exact(hCX H e s' h).elim
  |ok fl =>
   cases fl with
   |next=>exact False.elim h
   |brk=>exact False.elim h
   |cont=>exact False.elim h
   |ret u =>
    obtain⟨v,H',os,bare,un,hok',r',q⟩:=h;have q':v=.bl true:=q;subst q';obtain rfl:u=Value.bool true:=r';refine⟨rfl,OldK.of_keep λb o e=>?_,os,bare⟩
    cases q:H b with
    |none=>exact un.keep b o e q (by intro z;exact absurd (show b∈([]:List Addr) from z) (by simp)) (by simp)
    |some u =>
     rcases hO b with z|⟨ob,xs,z⟩
     ·rw[q] at z;cases z
     have z2:=un.frzs b ob _ z;obtain⟨e1,_⟩:=hok b _ z;obtain⟨e2,_⟩:=hok' b _ z2;rw[e] at e1;cases e1;exact e2
 cases hk:K.lookup a with
 |some o =>
  have e:=KX a o hk;rw[ha] at e;cases e;refine core (λ_=>none) (λ_=>.inl rfl) (.inr ⟨_,vs.toArray,_,hk,rfl,rfl,rfl,by rw[Qv,lenV];exact hl,by simpa using rv⟩) (λb u z=>by have z':(none:Option HO)=some u:=z;cases z') (λb z=>absurd rfl z) λz=>absurd rfl z
 |none =>
  refine core (λb=>if b=a then some (.frz {cls:=.type "list",data:=.seq vs.toArray} (.lst (ns.map V.int))) else none) (λb=>?_) (.inl (.inr ⟨{cls:=.type "list",data:=.seq vs.toArray},if_pos rfl⟩)) (λb u z=>?_) (λb z=>?_) λ_=>hk
  ·by_cases hb:b=a
   ·exact .inr ⟨_,_,if_pos hb⟩
   exact .inl (if_neg hb)
  ·by_cases hb:b=a
   ·have z':=(if_pos hb).symm.trans z;cases z';subst hb;exact⟨ha,by rw[Qb];exact hl,vs,_,rv,ha⟩
   have z':=(if_neg hb).symm.trans z;cases z'
  by_cases hb:b=a
  ·exact hb
  exact absurd (if_neg hb) z
theorem xD{l:PySem.W.OpenLaw}{n k:Nat}{q:Program}{loose:List Str}{XP:(Str->Option Value)->Heap->Prop}{YP:World->Heap->Prop}{d:DefRec}{K:Params->W.Frag}{CX:World->b3}{sp:World->Sp}{x:Str}
  (hn:l.most=some n) (hn2:n<=sizeLine) (hdf:d.params.defaults=[]) (hr:au k callerA)
  (hY:∀(w:World) (h:Heap),YP w h->(K w.params).In h)
  (F:∀(w:World) (mg:Str->Option Value) (fa:Addr) (h:Heap),(K w.params).In h->h.Ns mainGlobals mg->mg d.name=some (.ref fa) ->
   ∃fd:FuncData,(∀(s:Shared) (u:Value),BindsTo s fd ⟨[u],[]⟩ [(x,u)]) /\
    ∀base:Heap,(K w.params).In base->base.Ns mainGlobals mg->aF l.prog w (K w.params) mg base (CX w) k fa fd [x] (sp w))
  (hsp:∀(w:World) (H:Hp) (a:Addr) (ns:List Int),ns.length<=n->lE H->ae (K w.params) H a (ns.map V.int)->sp w [.ref a] H (λv _=>v=.bl true) λ_ _ _=>False)
  (hCX:∀(w:World) (H:Hp) (s:Shared) (e:Value) (s':Shared),CX w [] H s (λ_ _ _=>False) e s'->False) :
  PySem.W.WalkO q loose XP YP l.row.toRowW d [] (λf vs=>PySem.call f vs):=by
 refine Att.attach_call hn hdf λw s₀ s₁ mg mb fa o pm cd DY a vs ns G Y ho hd EF hmg hobj EV CN hg=>?_;have KX:=hY w _ Y;obtain⟨fd,hb,hF⟩:=F w mg fa _ KX G.T.g hmg;exact xC KX G.T.g G.T.b G.T.builtins G.T.nolimit hg hobj EV (Qg CN hn2) hr hF hb (λH hO hS=>hsp w H a ns CN hO hS) λH e s'=>hCX w H s₁ e s'
noncomputable def d0(s:Stmt)(j:Nat):Stmt:=match s with
 |.ClassDef _ _ _ body _ _ _ _ _ _ _=>body.getD j (.Pass ⟨0,0,0,0⟩)
 |_=>.Pass ⟨0,0,0,0⟩
noncomputable def gF(s:Stmt):Arguments:=match s with
 |.FunctionDef _ a _ _ _ _ _ _ _ _=>a
 |_=>{posonlyargs:=[],args:=[],vararg:=none,kwonlyargs:=[],kw_defaults:=[],kwarg:=none,defaults:=[]}
noncomputable def eV(s:Stmt):List Stmt:=match s with
 |.FunctionDef _ _ b _ _ _ _ _ _ _=>b
 |_=>[]
noncomputable def aA(s:Stmt):Scope:=match s with
 |.FunctionDef _ _ _ _ _ _ sc _ _ _=>sc
 |_=>{kind:=.function,names:=[],isGenerator:=false,isCoroutine:=false}
abbrev aJ:b3:=λ_ _ _ _ _ _=>False
abbrev E0:XK:=λ_ _ _=>False
theorem cK{X:Cx}:eC aJ X E0:=λ_ _ _ _ _ _ _ h=>h.elim
structure fY(K:W.Frag)(x qual:Str)(st:Stmt)(f:Addr)(fd:FuncData):Prop where
 ex:∃(oc:Value) (od:Option Addr) (kV DY pm:Value) (an:Option Addr) (CJ ct:Value) (osl:Array (Option Value)),
  fd=W.fnOf x qual (gF st) (eV st) (aA st) .none kV DY pm an CJ ct/\K.lookup f=some ⟨oc,od,.func fd,osl⟩/\W.codeIn K CJ qual=true
 kp:W.keepIn K (.ref f)=true
section
variable {P:Program}{w:World}{K:W.Frag}{mg:Str->Option Value}{base:Heap}
theorem fY.ok{x qual:Str}{st:Stmt}{f:Addr}{fd:FuncData}{N ps:List Str}{k:Nat}{sp:Sp}(F:fY K x qual st f fd)(S:aK N ps (aA st))(len:∀vs H Q E,sp vs H Q E->vs.length=ps.length)
  (DM:∀(CJ:Value) (A:Around) (outer:List Env) (s:Shared) (H:Hp) (vs:List V) (Q:VK) (E:XK),au k (A.deeper (envOfC qual (aA st) s.heap.objs.size f CJ))->sp vs H Q E ->
   ∃t,cb (dO aJ P w K mg base N qual (aA st) f CJ A outer s H E).nox (eV st) t/\t {nx:=λ_ H'=>Q .non H',rt:=Q} (start N vs) H):aF P w K mg base aJ (k+1) f fd ps sp:=by
 obtain⟨oc,od,kV,DY,pm,an,CJ,ct,osl,rfl,lk,EF⟩:=F.ex;refine oJ lk EF S len λA outer s H vs Q E hr hsp=>?_;obtain⟨t,h,q⟩:=DM CJ A outer s H vs Q E hr hsp;exact⟨t,h.nox,q⟩
theorem xE{x qual:Str}{st:Stmt}{f:Addr}{oc:Value}{od an:Option Addr}{osl:Array (Option Value)}{kV DY pm CJ ct:Value}(l:K.lookup f=some ⟨oc,od,.func (W.fnOf x qual (gF st) (eV st) (aA st) .none kV DY pm an CJ ct),osl⟩)
  (c:W.codeIn K CJ qual=true) (k:W.keepIn K (.ref f)=true):fY K x qual st f (W.fnOf x qual (gF st) (eV st) (aA st) .none kV DY pm an CJ ct):=⟨⟨oc,od,kV,DY,pm,an,CJ,ct,osl,rfl,l,c⟩,k⟩
end
theorem a8{n:Nat}(h:n<=1000):n<sizeLine:=QD h (by decide)
section
variable {X:Cx}
theorem pv(i:Nat){x:Str}{pos:Pos}(hN:X.N[i]?=some x:=by rfl)(hv:kM X.env.scope x:=by first|exact Or.inl rfl|exact Or.inr (Or.inl rfl)|exact Or.inr (Or.inr rfl))(hd:(x==("__debug__":Str))=false:=by decide)
  (EF:(x==("__classdict__":Str))=false:=by decide):PE X (.Name x pos) (ib i):=wq hN hv hd EF
end
theorem aw{A B:Prop}(h:B):if false=true then A else B:=by rw[if_neg Qf];exact h
theorem aQ{A B:Prop}(h:A):if true=true then A else B:=by rw[if_pos rfl];exact h
theorem b4{c A B:Prop}[Decidable c](h1:c->A)(h2:¬c->B):if c then A else B:=by
 by_cases h:c
 ·rw[if_pos h];exact h1 h
 rw[if_neg h];exact h2 h
theorem xF{c A B:Prop}[Decidable c](hc:c)(h:B):if(!decide c)=true then A else B:=by rw[Qo hc];exact aw h
def av(H H':Hp):Prop:=∀b o,H b=some o->H' b=some o
theorem av.refl(H:Hp):av H H:=λ_ _ h=>h
theorem av.trans{H H1 H2:Hp}(a:av H H1)(b:av H1 H2):av H H2:=λc o h=>b c o (a c o h)
theorem av.seq{K:W.Frag}{H H':Hp}{a:Addr}{xs:List V}(e:av H H')(h:ae K H a xs):ae K H' a xs:=by
 rcases h with (h|⟨o,h⟩)|h
 ·exact .inl (.inl (e _ _ h))
 ·exact .inl (.inr ⟨o,e _ _ h⟩)
 exact .inr h
noncomputable abbrev oV(Dq:List Expr)(env:Env):Sem Bool:=
 forIn Dq true λc r=>if r=true then do let ok <- isTrue c env (eval c env);pure (ForInStep.yield ok) else pure (ForInStep.yield r)
noncomputable def bI(cells:List (Str×Addr)):List (Str×NameKind)->List (Str×Addr)->List (Str×Addr)
 | [],CT=>CT
 |(n,k)::r,CT=>bI cells r (if k == .free then(n,(cells.lookup n).getD 0)::CT else CT)
theorem lF{env:Env}:∀(ns:List (Str×NameKind)) (CT:List (Str×Addr)),(∀y∈ns,y.2=.free->∃c,env.cells.lookup y.1=some c) ->
  (forIn ns CT λ(p:Str×NameKind) (cs:List (Str×Addr))=>(if p.2 == .free then(do let c <- cellOf env p.1;pure (ForInStep.yield ((p.1,c)::cs))) else pure (ForInStep.yield cs):Sem (ForInStep (List (Str×Addr)))))=(pure (bI env.cells ns CT):Sem (List (Str×Addr)))
 | [],CT,_=>rfl
 |(n,k)::r,CT,h=>by
  rw[List.forIn_cons];by_cases hk:k=.free
  ·subst hk;obtain⟨c,hc⟩:=h (n,.free) Qp rfl;have e1:cellOf env n=pure c:=by unfold cellOf;rw[show env.cells.lookup n=some c from hc]
   simp only[beq_self_eq_true,if_true,e1,bI,hc,Option.getD_some];exact lF r ((n,c)::CT) λy hy=>h y (Qr _ hy)
  have hb:(k==NameKind.free)=false:=by simpa using hk
  simp only[hb,Bool.false_eq_true,if_false,bI];exact lF r CT λy hy=>h y (Qr _ hy)
theorem lG{env:Env}{sc:Scope}(h:∀y∈sc.names,y.2=.free->∃c,env.cells.lookup y.1=some c):closureFor sc env=pure (bI env.cells sc.names []):=by unfold closureFor;have q:=lF (env:=env) sc.names [] h;have e:(forIn sc.names [] λ(p:Str×NameKind) (cs:List (Str×Addr))=>(match p with|(name,kind)=>if kind == .free then(do let c <- cellOf env name;pure (ForInStep.yield ((name,c)::cs))) else pure (ForInStep.yield cs):Sem (ForInStep (List (Str×Addr)))))=(pure (bI env.cells sc.names []):Sem (List (Str×Addr))):=q;simp only[e];rfl
theorem lH{cells:List (Str×Addr)}:∀(ns:List (Str×NameKind)) (CT:List (Str×Addr)),(∀y∈ns,y.2=.free->∃c,cells.lookup y.1=some c)->(∀y c,CT.lookup y=some c->cells.lookup y=some c) ->
  (∀y c,(bI cells ns CT).lookup y=some c->cells.lookup y=some c)/\(∀y,(CT.lookup y).isSome=true->((bI cells ns CT).lookup y).isSome=true)/\(∀y,(y,NameKind.free)∈ns->((bI cells ns CT).lookup y).isSome=true)
 | [],CT,_,h2=>⟨h2,λ_ h=>h,λ_ h=>nomatch h⟩
 |(n,k)::r,CT,h1,h2=>by
  have h1':∀y∈r,y.2=.free->∃c,cells.lookup y.1=some c:=λy hy=>h1 y (Qr _ hy);by_cases hk:k=.free
  ·subst hk;obtain⟨c,hc⟩:=h1 (n,.free) Qp rfl;have hc':cells.lookup n=some c:=hc;have e:bI cells ((n,.free)::r) CT=bI cells r ((n,c)::CT):=by simp only[bI,beq_self_eq_true,if_true,hc',Option.getD_some]
   have ih:=lH (cells:=cells) r ((n,c)::CT) h1' (λy d hy=>by
    rw[List.lookup_cons] at hy
    cases q:y==n with
    |true=>rw[q] at hy;cases hy;rw[eq_of_beq q];exact hc'
    |false=>rw[q] at hy;exact h2 y d hy)
   rw[e];refine⟨ih.1,λy hy=>ih.2.1 y ?_,λy hy=>?_⟩
   ·rw[List.lookup_cons];split
    ·rfl
    exact hy
   rcases Qs hy with z|z
   ·cases z;exact ih.2.1 n (by rw[List.lookup_cons];simp)
   exact ih.2.2 y z
  have hb:(k==NameKind.free)=false:=by simpa using hk
  have e:bI cells ((n,k)::r) CT=bI cells r CT:=by simp only[bI,hb,Bool.false_eq_true,if_false]
  have ih:=lH (cells:=cells) r CT h1' h2;rw[e];refine⟨ih.1,ih.2.1,λy hy=>?_⟩;rcases Qs hy with z|z
  ·cases z;exact absurd rfl hk
  exact ih.2.2 y z
theorem oW{env:Env}(hk:env.scope.kind=.function):∀{ns:List (Str×NameKind)} {y:Str},ns.lookup y=some .free->env.kindOf y=some .cell ->
  (ns.map λ(n,k)=>if(k==NameKind.free&&env.scope.kind == .function&&env.kindOf n==some .cell) then(n,NameKind.cell) else(n,k)).lookup y=some .cell
 | [],_,h,_=>by simp at h
 |(n,k)::r,y,h,hc=>by
  have ih:=@oW env hk r y;show List.lookup y ((if(k==NameKind.free&&env.scope.kind == .function&&env.kindOf n==some .cell)=true then(n,NameKind.cell) else(n,k))::_)=_
  cases hx:y==n with
  |true =>
   simp only[List.lookup_cons,hx] at h;cases h;have e:y=n:=eq_of_beq hx;subst e;simp[List.lookup_cons,hc,hk]
  |false =>
   simp only[List.lookup_cons,hx] at h
   split<;>(simp only[List.lookup_cons,hx];exact ih h hc)
theorem oX{env:Env}:∀{ns:List (Str×NameKind)} {y:Str},(∀z∈ns,z.2≠.cell) ->
  ((ns.map λ(n,k)=>if(k==NameKind.free&&env.scope.kind == .function&&env.kindOf n==some .cell) then(n,NameKind.cell) else(n,k)).lookup y=some .cell ∨
   (ns.map λ(n,k)=>if(k==NameKind.free&&env.scope.kind == .function&&env.kindOf n==some .cell) then(n,NameKind.cell) else(n,k)).lookup y=some .free)->(y,NameKind.free)∈ns
 | [],_,_,h=>by simp at h
 |(n,k)::r,y,hz,h=>by
  have ih:=@oX env r y λz hm=>hz z (Qr _ hm);have hk:k≠.cell:=hz (n,k) Qp;rw[List.map_cons] at h;by_cases hc:(k==NameKind.free&&env.scope.kind == .function&&env.kindOf n==some .cell)=true
  ·have hf:k=.free:=by rw[Bool.and_eq_true,Bool.and_eq_true] at hc;exact eq_of_beq hc.1.1
   simp only[hc,if_true,List.lookup_cons] at h
   cases hx:y==n with
   |true=>rw[eq_of_beq hx,hf];exact Qp
   |false=>rw[hx] at h;exact Qr _ (ih h)
  rw[Bool.not_eq_true] at hc;simp only[hc,Bool.false_eq_true,if_false,List.lookup_cons] at h
  cases hx:y==n with
  |true =>
   rw[hx] at h;rcases h with h|h
   ·exact absurd (Qw h) hk
   have:k=.free:=Qw h;rw[eq_of_beq hx,this];exact Qp
  |false=>rw[hx] at h;exact Qr _ (ih h)
noncomputable def bW(js:List Nat)(σ:St):St:=js.map λj=>(σ[j]?).getD none
noncomputable abbrev xc(X:Cx)(sc:Scope)(x:Str)(fv:List Str)(C:Addr)(s0:Shared)(H0:Hp)(ex:List Addr):Cx:=
 {X with N:=x::fv,s₀:=s0,H₀:=H0,env:=compEnvC sc (bI X.env.cells sc.names []) C X.env,outer:=X.stack,ex:=ex,fn:=λ_=>false,pn:=[],xe:=λ_ _=>False}
def fZ(X:Cx)(Dq:List Expr)(t:TT):Prop:=
 ∀(kb:List (Addr×Obj)) (s:Shared) (σ:St) (H:Hp) (Q:Bool->Hp->Prop),Inv X kb σ H s->t σ H Q->wpAny (model X.prog X.w) X.A (oV Dq X.env) (TP X kb σ Q) X.xe s
def lI:TT:=λ_ H Q=>Q true H
theorem dt{σ:St}{H:Hp}{Q:Bool->Hp->Prop}(h:Q true H):lI σ H Q:=h
theorem cy{X:Cx}:fZ X [] lI:=λ_ _ _ H _ I h=>wpAny_tests_nil ⟨H,I,h⟩
theorem ir{X:Cx}{c:Expr}{t:TT}(hc:PT X c t):fZ X [c] t:=λkb s σ H Q I h=>wpAny_tests_one (hc kb s σ H Q I h)
def iu(J:It)(js:List Nat)(tt:TT)(te:TE):TE:=λσ H1 Q=>∃W:Nat->Nat->List V->Hp->Prop,(∃m,W 0 m [] H1)/\∀i m ys H,W i m ys H ->
 (J.stop i H/\∀p,H p=none->Q (.ref p) (ai H p (.lst ys))) ∨
 (J.go i H/\∃N:List V->Hp->Prop,(∀DF H',N DF H'->∃m',m'<m/\W (i+1) m' DF H') /\
  ∀x H',J.yld i H x H'->tt (some x::bW js σ) H' λb H2=>if b=true then te (some x::bW js σ) H2 λy H3=>ys.length<sizeLine/\N (ys++[y]) H3 else N ys H2)
def oY(wi:TI)(js:List Nat)(tt:TT)(te:TE):TE:=λσ H Q=>wi σ H λJ H1=>iu J js tt te σ H1 Q
section
variable {X:Cx}{kb:List (Addr×Obj)}{σ:St}{H2:Hp}{s2:Shared}{Dy CQ:Expr}{x:Str}{px:Pos}{Dq:List Expr}{sc Dp:Scope}{pos:Pos}{fv:List Str}{js:List Nat}{tt:TT}{te:TE}
theorem jH{lo:Int}{n:Nat}{σ:St}{H:Hp}{Q:VK}(Pv:Nat->List V->Hp->Prop)(h0:Pv 0 [] H)
  (hs:∀i ys H,i<n->Pv i ys H->tt (some (.int (lo+i))::bW js σ) H λb H2=>if b=true then te (some (.int (lo+i))::bW js σ) H2 λy H3=>ys.length<sizeLine/\Pv (i+1) (ys++[y]) H3 else Pv (i+1) ys H2)
  (hd:∀ys H,Pv n ys H->∀p,H p=none->Q (.ref p) (ai H p (.lst ys))) :
  iu (fL lo n) js tt te σ H Q:=by
 refine⟨λi m ys H=>m=n-i/\i<=n/\Pv i ys H,⟨n,by simp,Ql _,h0⟩,?_⟩;rintro i m ys H ⟨rfl,hi,p⟩;by_cases CU:i<n
 ·refine .inr ⟨CU,Pv (i+1),λDF H' p'=>⟨n-(i+1),by lia,rfl,CU,p'⟩,λx H' y=>?_⟩;obtain⟨e,y⟩:=y;subst e y;exact hs i ys _ CU p
 have e:i=n:=by lia
 subst e;exact .inl ⟨Qk _,hd ys H p⟩
theorem iw{K:W.Frag}{a:Addr}{xs:List V}{σ:St}{H:Hp}{Q:VK}(Pv:Nat->List V->Hp->Prop)(h0:Pv 0 [] H)(hl:∀i ys H,i<=xs.length->Pv i ys H->ae K H a xs)
  (hs:∀i x ys H,xs[i]?=some x->Pv i ys H->tt (some x::bW js σ) H λb H2=>if b=true then te (some x::bW js σ) H2 λy H3=>ys.length<sizeLine/\Pv (i+1) (ys++[y]) H3 else Pv (i+1) ys H2)
  (hd:∀ys H,Pv xs.length ys H->∀p,H p=none->Q (.ref p) (ai H p (.lst ys))) :
  iu (eu K a) js tt te σ H Q:=by
 refine⟨λi m ys H=>m=xs.length-i/\i<=xs.length/\Pv i ys H,⟨xs.length,by simp,Ql _,h0⟩,?_⟩;rintro i m ys H ⟨rfl,hi,p⟩;have q:=hl i ys H hi p;by_cases CU:i<xs.length
 ·refine .inr ⟨⟨xs,xs[i],q,by simp[CU]⟩,Pv (i+1),λDF H' p'=>⟨xs.length-(i+1),by lia,rfl,CU,p'⟩,λx H' y=>?_⟩;obtain⟨e,y⟩:=y;subst e;exact hs i x ys _ (y xs q) p
 have e:i=xs.length:=by lia
 subst e;exact .inl ⟨⟨xs,q,Qk _⟩,hd ys H p⟩
end
end L2
namespace Mm
open PySem
theorem oZ:∀(n a b:Nat),a<=n->(a|||b)=(a^^^b)+(a&&&b)
 |0,a,b,h=>by
  have:a=0:=by lia
  subst this;simp
 |n+1,a,b,h=>by
  by_cases ha:a=0
  ·subst ha;simp
  have ih:=oZ n (a/2) (b/2) (by lia);have e1:(a|||b)/2=a/2|||b/2:=Nat.or_div_two
  have e2:(a^^^b)/2=a/2^^^b/2:=Nat.xor_div_two;have e3:(a&&&b)/2=a/2&&&b/2:=Nat.and_div_two;have m1:(a|||b)%2=(a%2|||b%2):=by simpa using Nat.or_mod_two_pow (a:=a) (b:=b) (n:=1)
  have m2:(a^^^b)%2=(a%2^^^b%2):=by simpa using Nat.xor_mod_two_pow (a:=a) (b:=b) (n:=1)
  have m3:(a&&&b)%2=(a%2&&&b%2):=by simpa using Nat.and_mod_two_pow (a:=a) (b:=b) (n:=1)
  have d:∀x<2,∀y<2,(x|||y)=(x^^^y)+(x&&&y):=by decide
  have dd:=d (a%2) (by lia) (b%2) (by lia);lia
theorem cT(a b:Nat):Builtin.bitAnd (a:Int) (b:Int)=((a&&&b:Nat):Int):=by rw[PyProof.Rows.bitAnd_pp (by lia) (by lia)];simp
theorem f6(a b:Nat):Builtin.bitOr (a:Int) (b:Int)=((a|||b:Nat):Int):=by
 have ha:¬0<=Builtin.bitNot (a:Int):=by unfold Builtin.bitNot;lia
 have hb:¬0<=Builtin.bitNot (b:Int):=by unfold Builtin.bitNot;lia
 unfold Builtin.bitOr;rw[PyProof.Rows.bitAnd_nn ha hb,PyProof.Rows.bitNot_bitNot,PyProof.Rows.bitNot_bitNot,PyProof.Rows.bitNot_bitNot];simp
theorem iy(a b:Nat):Builtin.bitXor (a:Int) (b:Int)=((a^^^b:Nat):Int):=by unfold Builtin.bitXor;rw[f6,cT];have:=oZ a a b (Qk _);lia
theorem o5{a m:Nat}(h:a<2^m):(Builtin.Int.intBits (a:Int):Nat)<=m:=intBits_le_iff.mpr (by simpa using h)
noncomputable def mk(p:Nat->Bool):Nat->Nat
 |0=>0
 |N+1=>mk p N+(if p N then 2^N else 0)
theorem gG(p:Nat->Bool):∀N,mk p N<2^N
 |0=>by simp[mk]
 |N+1=>by have ih:=gG p N;rw[Nat.pow_succ];simp only[mk];split<;>lia
theorem f7(p:Nat->Bool):∀(N s:Nat),(mk p N).testBit s=(decide (s<N)&&p s)
 |0,s=>by simp[mk]
 |N+1,s=>by
  have ih:=f7 p N s;have lt:=gG p N;simp only[mk];have e:mk p N+(if p N then 2^N else 0)=2^N*(if p N then 1 else 0)+mk p N:=by split<;>simp[Nat.add_comm]
  rw[e,Nat.testBit_two_pow_mul_add _ lt];by_cases h1:s<N
  ·rw[if_pos h1,ih];simp[h1,Nat.lt_succ_of_lt h1]
  rw[if_neg h1];by_cases h2:s=N
  ·subst h2;cases hp:p s<;>simp
  have h3:¬s<N+1:=by lia
  have h4:s-N≠0:=by lia
  have:∀b:Bool,(if b then 1 else 0:Nat).testBit (s-N)=false:=by
   intro b
   obtain⟨d,hd⟩:∃d,s-N=d+1:=⟨s-N-1,by lia⟩
   rw[hd];cases b<;>simp[Nat.testBit_succ]
  rw[this];simp[h3]
theorem jI{p:Nat->Bool}{N a:Nat}(h:∀s,a.testBit s=(decide (s<N)&&p s)):a=mk p N:=Nat.eq_of_testBit_eq λs=>by rw[h,f7]
theorem jJ(s k:Nat):s.testBit k=decide (s/2^k%2=1):=by rw[Nat.testBit_eq_decide_div_mod_eq]
noncomputable def sw(k n:Nat):Nat:=mk (λs=>s.testBit k) (2^n)
theorem xG(k:Nat):(2^2^k-1)*2^2^k=mk (λs=>s.testBit k) (2^(k+1)):=by
 refine jI λs=>?_;rw[<-Nat.shiftLeft_eq,Nat.testBit_shiftLeft,Nat.testBit_two_pow_sub_one,jJ];have hp:0<2^k:=Nat.two_pow_pos k;have e:2^(k+1)=2*2^k:=by rw[Nat.pow_succ];lia
 rw[e];generalize 2^k=r at hp ⊢;by_cases h1:s<r
 ·have:s/r=0:=Nat.div_eq_of_lt h1;have q:decide (s ≥ r)=false:=by simp;lia
  rw[q,this];simp
 by_cases h2:s<2*r
 ·have:s/r=1:=by have a:s/r<2:=Nat.div_lt_of_lt_mul (by lia);have b:1<=s/r:=(Nat.le_div_iff_mul_le hp).mpr (by lia);lia
  have q1:decide (s ≥ r)=true:=by simp;lia
  have q2:decide (s-r<r)=true:=by simp;lia
  have q3:decide (s<2*r)=true:=by simp;lia
  rw[q1,q2,q3,this];simp
 have q:decide (s<2*r)=false:=by simp;lia
 have q2:decide (s-r<r)=false:=by simp;lia
 rw[q,q2];simp
theorem xH(a k c:Nat):(a+2^(k+1)*c).testBit k=a.testBit k:=by
 rw[jJ,jJ];have hp:0<2^k:=Nat.two_pow_pos k;have e:2^(k+1)*c=2^k*(2*c):=by rw[Nat.pow_succ,Nat.mul_assoc]
 rw[e,Nat.add_mul_div_left _ _ hp];have:(a/2^k+2*c)%2=a/2^k%2:=by lia
 rw[this]
theorem xI(k c:Nat):(mk (λs=>s.testBit k) (2^(k+1)*c)|||mk (λs=>s.testBit k) (2^(k+1)*c)*2^(2^(k+1)*c))=mk (λs=>s.testBit k) (2*(2^(k+1)*c)):=by
 refine jI λs=>?_;rw[Nat.testBit_or,<-Nat.shiftLeft_eq,Nat.testBit_shiftLeft,f7,f7];generalize hw:2^(k+1)*c=w;by_cases h1:s<w
 ·have:¬s ≥ w:=by omega
  have h2:s<2*w:=by omega
  simp[h1,this,h2]
 have h0:s ≥ w:=by omega
 have e:s.testBit k=(s-w).testBit k:=by have:=xH (s-w) k c;rw[hw] at this;rw[<-this];congr 1;omega
 by_cases h2:s<2*w
 ·have h3:s-w<w:=by omega
  simp[h1,h0,h2,h3,e]
 have h3:¬s-w<w:=by omega
 simp[h1,h2,h3]
theorem xJ(k n:Nat):sw k n<2^2^n:=gG _ _
theorem lJ(k n s:Nat):(sw k n).testBit s=(decide (s<2^n)&&s.testBit k):=f7 _ _ _
end Mm
namespace L2
open PySem PySem.Spec PyProof.Rows
section
variable {X:Cx}
def jK(i j:Int):Prop:=0<=j/\∃m:Nat,i.natAbs<2^m/\(m:Int)+j<=2^27
theorem cc:a9 X (binaryOp .LShift) (rI jK λi j=>.int (i*2^j.toNat)):=ii λi j _ _ _ _ _ hc q=>by obtain⟨h0,m,hm,hs⟩:=hc;have hb:(Builtin.Int.intBits i:Nat)<=m:=intBits_le_iff.mpr hm;exact lshift_int h0 (by lia) q
theorem lK{n:String}:cD X (.builtin "isinstance") (λxs H Q=>∃x t b,xs=[x,.ty n]/\cG X.K H x t/\PySem.W.kitOne X.K t (.type n)=some b/\Q (.bl b) H):=by
 intro kb s σ H xs us Q I r h;obtain⟨x,t,b,rfl,ty,e,q⟩:=h;obtain⟨u,w',rfl,rx,C4⟩:=vals2 r;cases (show w'=Value.type n from C4)
 exact w5 I rx ty e λtk=>⟨.bl b,H,I.tok _,rfl,q⟩
end
theorem bw:bootBuiltins "len"=some (.builtin "len"):=by decide +kernel
theorem xK:bootBuiltins "min"=some (.builtin "min"):=by decide +kernel
theorem lL:bootBuiltins "isinstance"=some (.builtin "isinstance"):=by decide +kernel
theorem jL:bootBuiltins "int"=some (.type "int"):=by decide +kernel
theorem xL:bootBuiltins "bool"=some (.type "bool"):=by decide +kernel
theorem xM(K:W.Frag):PySem.W.kitOne K (.type "int") (.type "int")=some true:=by rfl
theorem xN(K:W.Frag):PySem.W.kitOne K (.type "int") (.type "bool")=some false:=by rfl
theorem lM{X:Cx}{K:W.Frag}(h:X.K=K):eS X (ip K):=by subst h;exact cw
theorem dP(k:Nat):(2:Int)^k=((2^k:Nat):Int):=by simp
theorem xO(n:Nat):(1:Int)*2^((n:Int)).toNat=((2^n:Nat):Int):=by rw[dP,Qu];lia
theorem o6{a n m:Nat}(h:a<2^m)(hs:m+n<=2^27):jK (a:Int) (n:Int):=⟨by lia,m,by rw[Int.natAbs_natCast];exact h,by lia⟩
section
variable {X:Cx}
theorem o7:fW X "int.bit_length" (λx xs H Q=>∃i,x=.int i/\xs=[]/\Q (.int ((Builtin.Int.intBits i:Nat):Int)) H):=by intro kb s σ H x xs v us Q I rx rs h;obtain⟨i,rfl,rfl,q⟩:=h;obtain⟨t,rfl⟩:=rx;cases rs;exact call_int_bit_length ⟨.int _,H,I.tok _,⟨_,rfl⟩,q⟩
theorem xP(bs:List Bool):((List.range bs.length).all λi=>bs.getD i false)=bs.all id:=by
 have:(List.range bs.length).map (λi=>bs.getD i false)=bs:=by
  apply List.ext_getElem
  ·simp
  intro i h1 h2;simp at h1;simp[h1]
 calc ((List.range bs.length).all λi=>bs.getD i false)=((List.range bs.length).map λi=>bs.getD i false).all id:=by rw[List.all_map];rfl
  _=bs.all id:=by rw[this]
theorem o8{bs:List Bool}{its:List Value}(r:aG (bs.map V.bl) its){i:Nat}{v:Value}(e:its[i]?=some v):v=.bool (bs.getD i false):=by
 have hl:=r.length;have hi:i<its.length:=(Qj e).1;rw[Qb] at hl;have hb:(bs.map V.bl)[i]?=some (V.bl (bs.getD i false)):=by rw[Qi,Qc (by lia)];simp[QA,Qc (show i<bs.length by lia)]
 obtain⟨u,hu,ru⟩:=r.get hb;rw[e] at hu;cases hu;exact ru
theorem o9(hc:X.calm=true):cD X (.builtin "all") (λxs H Q=>∃(p:Addr) (bs:List Bool),xs=[.ref p]/\ae X.K H p (bs.map V.bl)/\Q (.bl (bs.all id)) H):=by
 intro kb s σ H xs us Q I r h;obtain⟨p,bs,rfl,hq,q⟩:=h;obtain⟨u,rfl,ru⟩:=vals1 r;cases (show u=Value.ref p from ru);obtain⟨its,rv,pl,hz⟩:=I.list hq;have CN:its.length=bs.length:=by rw[<-rv.length,Qb]
 have CU:p<s.heap.objs.size:=by obtain⟨o,n,e,_⟩:=pl;exact Qm e
 refine call_all_walk (wpAny_pyIter_list pl.isList ?_);refine⟨s.heap.objs.size,_,_,_,_,_,λi=>bs.getD i false,rfl,Walks.list (A:=X.A.in1) (show X.A.in1.handled=none from I.ok.hd hc) _ p (Qy CU) its.toArray,⟨⟨_,Qt _ rfl,rfl,rfl⟩,Heap.IsList.at pl.isList λo e=>Qh _ e⟩,?_,λh' tk hk=>?_⟩
 ·intro i v s' Q' E' hv DT;have e:its[i]?=some v:=by simpa using hv
  rw[o8 rv e];exact wpAny_truthy_bool DT
 refine⟨.bl _,H,I.kept λb o e=>hk b o ?_ (Qh _ e),rfl,?_⟩
 ·intro z;have z':b=s.heap.objs.size:=by simpa using z
  exact QN _ (z' ▸ Qm e)
 have e:its.toArray.size=bs.length:=by rw[Qv];exact CN
 rw[e,xP];exact q
end
theorem pd:bootBuiltins "all"=some (.builtin "all"):=by decide +kernel
theorem xQ(K:W.Frag):PySem.W.kitOne K (.type "bool") (.type "bool")=some true:=by rfl
section
variable {X:Cx}
noncomputable def eE(z:Str)(lo hi:Option Int):Str:=⟨((z.cps.toList.drop (HT.sIx z.length 0 lo)).take (HT.sIx z.length z.length hi-HT.sIx z.length 0 lo)).toArray⟩
theorem ph(n d:Nat)(v:Option Int):(match v with|none=>(d:Int)|some i=>max 0 (min (if i<0 then i+(n:Int) else i) (n:Int)))=((HT.sIx n d v:Nat):Int):=by
 cases v with
 |none=>rfl
 |some i =>
  show max 0 (min (if i<0 then i+(n:Int) else i) (n:Int))=(((if i<0 then(i+(n:Int)).toNat else min i.toNat n):Nat):Int);by_cases h:i<0
  ·simp only[if_pos h];lia
  simp only[if_neg h];lia
theorem xR(lo hi:Option Int)(n:Nat):Builtin.Str.strSliceIndices lo hi 1 n=(List.range (HT.sIx n n hi-HT.sIx n 0 lo)).map (HT.sIx n 0 lo+·):=by rw[<-sliceRange_one];have e1:=ph n 0 lo;have e2:=ph n n hi;rw[<-e1,<-e2];rfl
theorem xT(z:Str)(lo hi:Option Int):Txt.slice z lo hi=eE z lo hi:=by
 have hL:=HT.sIx_le z.length 0 (Ql _) lo;have hH:=HT.sIx_le z.length z.length (Qk _) hi;have hz:z.cps.toList.length=z.length:=by simp[Str.length]
 unfold Txt.slice eE;rw[xR];split
 ·rename_i h;have h':HT.sIx z.length z.length hi-HT.sIx z.length 0 lo=z.length:=by simpa using h
  rw[h'];by_cases h0:HT.sIx z.length 0 lo=0
  ·rw[h0,List.drop_zero,List.take_of_length_le (by lia)]
  have:z.length=0:=by lia
  lia
 rw[pick_run]
theorem pi(z:Str)(lo hi:Option Int):(eE z lo hi).cps.toList=(z.cps.toList.drop (HT.sIx z.length 0 lo)).take (HT.sIx z.length z.length hi-HT.sIx z.length 0 lo):=rfl
theorem xU(z:Str)(k:Nat):(eE z none (some (k:Int))).cps.toList=z.cps.toList.take k:=by
 rw[pi,HT.sIx_none,HT.sIx_nat,List.drop_zero,Nat.sub_zero];have hz:z.cps.toList.length=z.length:=by simp[Str.length]
 rw[<-hz,<-List.take_take,List.take_of_length_le (Qk _)]
theorem pq(z:Str)(k:Nat):(eE z (some (k:Int)) none).cps.toList=z.cps.toList.drop k:=by
 rw[pi,HT.sIx_none,HT.sIx_nat];have hz:z.cps.toList.length=z.length:=by simp[Str.length]
 rcases Nat.le_total k z.length with h|h
 ·rw[Nat.min_eq_left h,List.take_of_length_le];rw[List.length_drop];lia
 rw[Nat.min_eq_right h,Nat.sub_self,List.take_zero,List.drop_of_length_le (by lia)]
theorem lN:jA X (λx lo hi H Q=>∃z,x=.str z/\z.length<=sizeLine/\Q (.str (eE z lo hi)) H):=by
 intro kb s σ H x v vl vu lo hi sl Q I rx hs pl pu h;obtain⟨z,rfl,hz,q⟩:=h;obtain⟨t,rfl⟩:=rx;rw[<-xT] at q;refine⟨"str",_,slot_str_getitem.lookup,typeIs_str s z t,?_⟩;have key:∀(l u:Option (Int×Tok)),s.heap.IsSliceOf sl (partValue l) (partValue u) .none->l.map (·.1)=lo->u.map (·.1)=hi->wpAny (model X.prog X.w) X.A (getItem (.str z t) (.ref sl)) (EP X kb σ Q) X.xe s:=by intro l u hs' hl hu;subst hl hu;exact wpAny_getItem_str_slice (l:=l) (u:=u) (st:=none) hs' rfl (post_val_or_str ⟨Qg (Txt.slice_le z _ _) hz,λt' k=>⟨.str (Txt.slice z (l.map (·.1)) (u.map (·.1))),H,I.tok k,⟨t',rfl⟩,q⟩⟩)
 cases pl with
 |none=>cases pu with
  |none=>exact key none none hs rfl rfl
  |int j tj=>exact key none (some (j,tj)) hs rfl rfl
 |int i ti=>cases pu with
  |none=>exact key (some (i,ti)) none hs rfl rfl
  |int j tj=>exact key (some (i,ti)) (some (j,tj)) hs rfl rfl
theorem xV:fW X "str.find" (λx xs H Q=>∃a b,x=.str a/\xs=[.str b]/\Q (.int (match Builtin.Str.occurrences a b 0 a.length 1 with|i::_=>(i:Int) | []=>-1)) H):=by intro kb s σ H x xs v us Q I rx rs h;obtain⟨a,b,rfl,rfl,q⟩:=h;obtain⟨t,rfl⟩:=rx;obtain⟨u,rfl,ru⟩:=vals1 rs;obtain⟨t',rfl⟩:=ru;exact call_gives PySem.F.slot_str_find (typeIs_str s a t) PySem.F.entry_str_find (PySem.F.args_str_find_2 _ _) (gives_str_find a b t t') ⟨.int _,H,I.tok _,⟨_,rfl⟩,q⟩
noncomputable def eW(n:Nat)(y:Nat->V):It:=⟨λi _=>i<n,λi H x H'=>H'=H/\x=y i,λi _=>n<=i⟩
theorem xW{n:Nat}{y:Nat->V}{g:TG}{tb:TS}{D:bO}{σ:St}{H:Hp}(Pv:Nat->St->Hp->Prop)(h0:Pv 0 σ H)
  (hs:∀i σ H,i<n->Pv i σ H->g (y i) σ H λσ2 H2=>tb {D with nx:=Pv (i+1),ct:=Pv (i+1),bk:=D.nx} σ2 H2) (hd:∀σ H,Pv n σ H->D.nx σ H) :
  ∃W:Nat->Nat->St->Hp->Prop,(∃m,W 0 m σ H)/\∀i m σ H,W i m σ H ->
   ((eW n y).stop i H/\D.nx σ H)∨((eW n y).go i H/\∃N:St->Hp->Prop,(∀σ' H',N σ' H'->∃m',m'<m/\W (i+1) m' σ' H')/\∀x H',(eW n y).yld i H x H'->g x σ H' λσ2 H2=>tb {D with nx:=N,ct:=N,bk:=D.nx} σ2 H2):=by
 refine⟨λi m σ H=>m=n-i/\i<=n/\Pv i σ H,⟨n,by simp,Ql _,h0⟩,?_⟩;rintro i m σ H ⟨rfl,hi,p⟩;by_cases CU:i<n
 ·refine .inr ⟨CU,Pv (i+1),λσ' H' p'=>⟨n-(i+1),by lia,rfl,CU,p'⟩,λx H' y=>?_⟩;obtain⟨e,y⟩:=y;subst e y;exact hs i σ _ CU p
 have e:i=n:=by lia
 subst e;exact .inl ⟨Qk _,hd σ H p⟩
end
end L2
namespace PySem.F
theorem xX:Slot "reversed" "__init__" "object.__init__" :=
 .of (owner:="object") (n:="__init__") (by rw[typeLookup_type,builtinLookup_eq_fast];kernel_rfl) (by decide +kernel) (by decide +kernel) (by decide +kernel)
  (by first|exact .inl (by decide +kernel)|exact .inr (by decide +kernel)) (by rw[isSubtype_type];kernel_rfl)
theorem called_reversed:TypeCalled "reversed" "reversed.__new__" "object.__init__" :=
 ⟨by decide +kernel,by decide +kernel,⟨_,_,mro_reversed⟩,made_reversed,by decide +kernel,by rw[isSubtype_type];kernel_rfl,xX⟩
theorem pz:Manifest.owners.lookup (String.ofList ['d','e','s','r','e','v','e','r'].reverse)=some Manifest.sig_reversed:=by kernel_rfl
theorem slot_reversed_next:Slot "reversed" "__next__" "reversed.__next__" :=
 .of (owner:="reversed") (n:="__next__") (by rw[typeLookup_type,builtinLookup_eq_fast];kernel_rfl) (by decide +kernel) (by decide +kernel) (by decide +kernel)
  (by first|exact .inl (by decide +kernel)|exact .inr (by decide +kernel)) (by rw[isSubtype_type];kernel_rfl)
theorem entry_reversed_next:entryFor table "reversed.__next__"=some Builtin.«reversed.__next__»:=entryFor_of_tree (by kernel_rfl)
theorem args_reversed_next_1(a:Value):argsOk "reversed.__next__" ⟨[a],[]⟩:=by unfold argsOk;rw[signature?_of (id:="reversed.__next__") (n:=['_','_','t','x','e','n','_','_']) (o:=['d','e','s','r','e','v','e','r']) (by kernel_rfl) pz];kernel_rfl
theorem slot_reversed_iter:Slot "reversed" "__iter__" "reversed.__iter__" :=
 .of (owner:="reversed") (n:="__iter__") (by rw[typeLookup_type,builtinLookup_eq_fast];kernel_rfl) (by decide +kernel) (by decide +kernel) (by decide +kernel)
  (by first|exact .inl (by decide +kernel)|exact .inr (by decide +kernel)) (by rw[isSubtype_type];kernel_rfl)
theorem args_reversed_iter_1(a:Value):argsOk "reversed.__iter__" ⟨[a],[]⟩:=by unfold argsOk;rw[signature?_of (id:="reversed.__iter__") (n:=['_','_','r','e','t','i','_','_']) (o:=['d','e','s','r','e','v','e','r']) (by kernel_rfl) pz];kernel_rfl
theorem entry_reversed_iter:entryFor table "reversed.__iter__"=some Builtin.«dict_keyiterator.__iter__» :=
 entryFor_alias (id':="dict_keyiterator.__iter__") (by kernel_rfl) (by first|rfl|decide +kernel|(unfold String.splitOn;simp +decide [String.splitOnAux])) (by decide +kernel) (by kernel_rfl)
theorem str_no_reversed:typeLookup (.type "str") "__reversed__"=pure none:=by rw[typeLookup_type,builtinLookup_eq_fast];kernel_rfl
end PySem.F
namespace PySem
section
variable {prog:Program}{w:World}{A:Around}{E:Value->Shared->Prop}{s:Shared}
noncomputable def eX(x:Str)(t:Tok)(i:Int):Obj:={cls:=.type "reversed",data:=.fields #[.str x t,rawInt i]}
def Heap.IsRevS(h:Heap)(a:Addr)(x:Str)(t:Tok)(i:Int):Prop:=∃o,h.get? a=some o/\o.cls=.type "reversed"/\o.data=.fields #[.str x t,rawInt i]
theorem Heap.IsRevS.typeIs{a:Addr}{x:Str}{t:Tok}{i:Int}(y:s.heap.IsRevS a x t i):s.TypeIs (.ref a) "reversed":=by obtain⟨o,ho,hc,_⟩:=y;exact⟨o,ho,hc⟩
theorem Heap.IsRevS.at{h h':Heap}{a:Addr}{x:Str}{t:Tok}{i:Int}(y:h.IsRevS a x t i)(e:∀o,h.get? a=some o->h'.get? a=some o):h'.IsRevS a x t i:=by obtain⟨o,ho,r⟩:=y;exact⟨o,e _ ho,r⟩
theorem xY{x:Str}{t:Tok}{Q₁:Value->Shared->Prop}(hz:x.length<=sizeLine)
  (h:∀tk,Q₁ (.ref s.heap.objs.size) {s with heap:=s.heap.push (eX x t ((x.length:Int)-1)),toks:=tk}) :
  codeAny (model prog w) A (.call (.builtin "reversed.__new__") ⟨[.type "reversed",.str x t],[]⟩) (wants Q₁ E) s:=by
 refine codeAny_of_tree ?_;show wpAny _ A.in1 (do checkBuiltinCall "reversed.__new__" ⟨[.type "reversed",.str x t],[]⟩;again (.builtin "reversed.__new__" ⟨[.type "reversed",.str x t],[]⟩)) _ _ s;refine Qa (wpAny_of_eq (F.newCall_reversed_1 _) (Qq ⟨plainId_quiet F.plain_reversed_new _,codeAny_builtin F.entry_reversed_new ?_⟩));rw[Around.under_plainId F.plain_reversed_new _];unfold Builtin.«reversed.__new__»;refine Qa (wpAny_of_eq (newClass_reversed _) ?_)
 try dsimp only
 refine Qa (wpAny_of_eq (a:=()) (by first|rfl|kernel_rfl) ?_);refine Qa (wpAny_of_eq (a:=()) (by first|rfl|kernel_rfl) ?_)
 try dsimp only
 refine Qa (wpAny_specialOf (typeIs_str s x t) F.str_no_reversed ?_);show wpAny _ _ (_>>=_) _ _ _;refine Qa (wpAny_of_eq (a:=true) (by kernel_rfl) ?_);rw[if_neg (show ¬((!true)=true) from Qf)];refine Qa (PyProof.Rows.len_str (by rw[sizeLine_eq] at hz;lia) ?_);refine Qa (wpAny_of_eq (a:=some (x.length:Int)) rfl ?_)
 try dsimp only
 refine Qa ?_;unfold Builtin.SmallTypes.newRecord;refine wpAny_newObj_type (Qq ?_);exact h _
theorem xZ{x:Str}{t:Tok}{Q:Value->Shared->Prop}(hz:x.length<=sizeLine)
  (h:∀tk,Q (.ref s.heap.objs.size) {s with heap:=s.heap.push (eX x t ((x.length:Int)-1)),toks:=tk}):wpAny (model prog w) A (call (.type "reversed") [.str x t]) Q E s:=by
 refine callType_codes (Q₁:=λobj s₁=>obj=.ref s.heap.objs.size/\∃tk,s₁={s with heap:=s.heap.push (eX x t ((x.length:Int)-1)),toks:=tk}) F.called_reversed (F.typeCall_reversed_1 _) F.entry_object_init
  (xY hz λtk=>⟨rfl,tk,rfl⟩) λobj s₁ h₁=>?_
 obtain⟨rfl,tk,rfl⟩:=h₁
 have hT:({s with heap:=s.heap.push (eX x t ((x.length:Int)-1)),toks:=tk}:Shared).TypeIs (.ref s.heap.objs.size) "reversed":=⟨_,Qt _ rfl,rfl⟩
 exact⟨hT,F.args_object_init_2 _ _,object_init_meets F.called_reversed.init.lookup F.called_reversed.made (by decide) prog w A.in1 _ _ ⟨hT,rfl,h tk⟩⟩
theorem x8{it:Addr}{x:Str}{t:Tok}{i:Nat}{c:Nat}{Q:Option Value->Shared->Prop}(hz:x.length<=sizeLine)(Di:s.heap.IsRevS it x t (i:Int))(hc:x.cps.toList[i]?=some c)
  (hQ:∀h' tk tc,h'.IsRevS it x t ((i:Int)-1)->Heap.SameBut it s.heap h'->Q (some (.str ⟨#[c]⟩ tc)) {s with heap:=h',toks:=tk}):wpAny (model prog w) A (pyNext (.ref it)) Q E s:=by
 obtain⟨o,ho,hcl,hd⟩:=id Di;unfold pyNext
 refine Qa (wpAny_attempt (wpAny_callSpecial?_slot (name:=Str.ofString "__next__") Di.typeIs F.slot_reversed_next
  (wpAny_call_entry F.slot_reversed_next Di.typeIs F.entry_reversed_next ?_ (F.args_reversed_next_1 _))))
 unfold Builtin.«reversed.__next__»;refine Qa (wpAny_of_eq (a:=(Value.ref it,[])) rfl ?_)
 try dsimp only
 refine Qa (wpAny_field ho hd (x:=.str x t) rfl ?_);refine Qa (wpAny_field ho hd (x:=rawInt (i:Int)) rfl ?_);show wpAny _ _ (if(i:Int)<0 then _ else _) _ _ s;rw[if_neg (by lia)];refine Qa (wpAny_specialOf (typeIs_str s x t) F.slot_str_getitem.lookup ?_);rw[if_neg (show ¬((some (Value.builtin "str.__getitem__")).isNone=true) from Qf)];refine Qa (wpAny_mkInt ?_);have DI:i<x.length:=by have:=(Qj hc).1;simpa [Str.length] using this
 rw[sizeLine_eq] at hz
 have hsq:(seqIndex? (i:Int) x.length).bind (x.cps[·]?)=some c:=by
  have:seqIndex? (i:Int) x.length=some i:=by unfold seqIndex?;simp only[show ¬((i:Int)<0) by lia,if_false];simp[DI]
  rw[this];simpa using hc
 refine Qa (wpAny_attempt (PyProof.Rows.getItem_str (c:=c) (by
  have e1:decide ((i:Int) < -(2^63:Int))=false:=Qd (by lia);have e2:decide ((i:Int) ≥ 2^63)=false:=Qd (by lia)
  rw[e1,e2,Bool.or_false]) hsq ?_))
 try dsimp only
 refine Qa (wpAny_field ho hd (x:=rawInt (i:Int)) rfl ?_);show wpAny _ _ (setField (.ref it) 1 (rawInt ((i:Int)-1))>>=_) _ _ _;refine Qa (wpAny_setField ho hd (by simp) ?_)
 first
 |refine Qq ⟨_,rfl,Qq (hQ _ _ _ ?_ (Heap.SameBut.update ..))⟩
 |refine Qa (Qq (Qq ⟨_,rfl,Qq (hQ _ _ _ ?_ (Heap.SameBut.update ..))⟩))
 exact⟨_,Heap.get?_update_self _ ho (Obj.isFreed_of_fields (Obj.data_mapFields hd _)),(Obj.cls_mapFields ..).trans hcl,by
  rw[Obj.data_mapFields hd];simp⟩
theorem x9{α:Type}{Q:α->Shared->Prop}{s:Shared}(hh:A.handled=none)
  (h:∀(h':Heap) (e:Addr),(∀b o,s.heap.get? b=some o->h'.get? b=some o)->({s with heap:=h'}:Shared).TypeIs (.ref e) "StopIteration"->E (.ref e) {s with heap:=h'}) :
  wpAny (model prog w) A (Builtin.SmallTypes.stopIteration:Sem α) Q E s:=by
 unfold Builtin.SmallTypes.stopIteration newExc newTuple;refine Qa (Qa (wpAny_newObj_type ?tup (by size_fits)));refine Qa (wpAny_of_eq (a:=Value.none) (by first|rfl|(unfold firstArgMember;rfl)) (wpAny_newObj_type ?exc (by size_fits)));unfold raiseNew;refine Qa (wpAny_handled ?_);rw[hh];exact Qa (Qq (wpAny_throw (h _ _ (λb o z=>Qh _ (Qh _ z)) ⟨_,Qt _ rfl,rfl⟩)))
theorem ya{it:Addr}{x:Str}{t:Tok}{Q:Option Value->Shared->Prop}(hh:A.handled=none)(Di:s.heap.IsRevS it x t (-1))
  (hQ:∀h',Heap.ExtBut it s.heap h'->Q none {s with heap:=h'}):wpAny (model prog w) A (pyNext (.ref it)) Q E s:=by
 obtain⟨o,ho,hcl,hd⟩:=id Di;unfold pyNext
 refine Qa (wpAny_attempt (wpAny_callSpecial?_slot (name:=Str.ofString "__next__") Di.typeIs F.slot_reversed_next
  (wpAny_call_entry F.slot_reversed_next Di.typeIs F.entry_reversed_next ?_ (F.args_reversed_next_1 _))))
 unfold Builtin.«reversed.__next__»;refine Qa (wpAny_of_eq (a:=(Value.ref it,[])) rfl ?_)
 try dsimp only
 refine Qa (wpAny_field ho hd (x:=.str x t) rfl ?_);refine Qa (wpAny_field ho hd (x:=rawInt (-1)) rfl ?_);show wpAny _ _ (if(-1:Int)<0 then _ else _) _ _ s;rw[if_pos (by decide)];refine Qa (wpAny_rule ?_);refine Qa ?_;show wpAny _ _ (setField (.ref it) 1 (rawInt (-1))>>=λ_=>setField (.ref it) 0 .none) _ _ s;refine Qa (wpAny_setField ho hd (by simp) ?_);have ho2:=Heap.get?_update_self (Obj.mapFields (·.setIfInBounds 1 (rawInt (-1)))) ho (Obj.isFreed_of_fields (Obj.data_mapFields hd _));refine wpAny_setField ho2 (Obj.data_mapFields hd _) (by simp) ?_;have hx:Heap.ExtBut it s.heap ((s.heap.update it (Obj.mapFields (·.setIfInBounds 1 (rawInt (-1))))).update it (Obj.mapFields (·.setIfInBounds 0 Value.none))):=λb o hb e=>by rw[Heap.get?_update_other _ _ (Ne.symm hb),Heap.get?_update_other _ _ (Ne.symm hb)];exact e
 generalize (s.heap.update it (Obj.mapFields (·.setIfInBounds 1 (rawInt (-1))))).update it (Obj.mapFields (·.setIfInBounds 0 Value.none))=h1 at hx;refine Qa (x9 hh λh2 e k2 hty=>?_);exact Qa (wpAny_isInstance hty isSubtype_stop (Qq (hQ h2 λb o hb z=>k2 b o (hx b o hb z))))
theorem pA{it:Addr}{x:Str}{t:Tok}{i:Int}{Q:Value->Shared->Prop}(Di:s.heap.IsRevS it x t i)(h:Q (.ref it) s):wpAny (model prog w) A (pyIter (.ref it)) Q E s:=by refine wpAny_pyIter_slot Di.typeIs F.slot_reversed_iter (wpAny_call_entry F.slot_reversed_iter Di.typeIs F.entry_reversed_iter ?_ (F.args_reversed_iter_1 _));show wpAny _ _ (ret (.ref it)) _ _ s;exact Qq ⟨_,rfl,"reversed",_,Di.typeIs,F.slot_reversed_next.lookup,h⟩
end
end PySem
namespace L2
open PySem PySem.Spec PyProof.Rows
noncomputable def iz(z:Str)(i:Nat):V:=.str ⟨#[z.cps.toList.getD (z.length-1-i) 0]⟩
theorem yb{P:Program}{w:World}{K:W.Frag}{tg:Expr}(it:Addr)(z:Str)(t:Tok)(hz:z.length<=sizeLine) :
  dk P w K tg (eW z.length (iz z)) [it] it (λi h=>i<=z.length/\h.IsRevS it z t ((z.length:Int)-1-(i:Int))) where
 mem:=by simp
 obj:=λi h st b hb=>by
  have e:b=it:=by simpa using hb
  subst e;obtain⟨_,o,e,c,d⟩:=st;exact⟨o,e,λv z=>by rw[d] at z;cases z⟩
 keep:=λi h h' st k=>⟨st.1,st.2.at λo e=>k it (by simp) o e⟩
 item:=by
  intro X hP hw hK hc i kb s σ H E I hf st hg;subst hP hw hK;have hg:i<z.length:=hg;obtain⟨f0,f1,f2,f3,f4,f5⟩:=hf it (by simp);have hl:z.cps.toList.length=z.length:=by simp[Str.length]
  have CU:z.length-1-i<z.cps.toList.length:=by omega
  have EG:z.cps.toList[z.length-1-i]?=some (z.cps.toList.getD (z.length-1-i) 0):=by rw[QA,Qc CU];rfl
  have e1:(z.length:Int)-1-(i:Int)=((z.length-1-i:Nat):Int):=by omega
  have Di:=st.2;rw[e1] at Di;refine x8 hz Di EG λh' tk tc Dm sb=>?_;have I1:Inv X kb σ H {s with heap:=h',toks:=tk}:=I.turned (λb o hb e=>(sb.2 b hb).trans e) f0 f1 f3 f4 f5;have e2:((z.length-1-i:Nat):Int)-1=(z.length:Int)-1-((i+1:Nat):Int):=by omega
  rw[e2] at Dm;obtain⟨o,e,c,d⟩:=id Dm;exact⟨_,rfl,ju (s:={s with heap:=h',toks:=tk}) e c d (by decide) ⟨iz z i,H,I1,⟨tc,rfl⟩,⟨rfl,rfl⟩,⟨hg,Dm⟩,λb hb=>(hf b hb).1⟩⟩
 done:=by
  intro X hP hw hK hc i kb s σ H E I hf st hg;subst hP hw hK;have hg:z.length<=i:=hg;obtain⟨f0,f1,f2,f3,f4,f5⟩:=hf it (by simp);have Di:=st.2;rw[show(z.length:Int)-1-(i:Int)=-1 by have:=st.1;omega] at Di
  exact ya (I.ok.hd hc) Di λh' eb=>⟨rfl,I.turned (t':=s.toks) (λb o hb e=>eb b o hb e) f0 f1 f3 f4 f5⟩
 self:=λ_ _ _ _ _ st h=>pA st.2 h
section
variable {X:Cx}{tg:Expr}
def yc(ta:TA):TI:=λσ H R=>ta σ H λvs H1=>∃z:Str,vs=[.str z]/\z.length<=sizeLine/\R (eW z.length (iz z)) H1
theorem yd{a:Expr}{ta:TA}{p pos:Pos}(hg:Gl X "reversed")(hm:X.mg "reversed"=none)(ha:PA X [a] ta)(hs:starEach [a] X.env=[(false,eval a X.env)]:=by rfl):PI X tg (.Call (.Name "reversed" p) [a] [] pos) (yc ta):=by
 intro kb s σ H R I h;refine Call_ (fG I hg hm boot_reversed (PyProof.Rows.callWith_type1 (az (ha pos kb s σ H _ I h) λus s1 hsl43=>?_) hs rfl));obtain⟨vs,H1,I1,r1,q1⟩:=hsl43;obtain⟨z,e,hz,q⟩:=q1;subst e;obtain⟨u,rfl,t,rfl⟩:=vals1 r1;refine xZ hz λtk=>?_;have I2:Inv X kb σ H1 {s1 with heap:=s1.heap.push (eX z t ((z.length:Int)-1)),toks:=tk}:=I1.kept λb o e=>Qh _ e
 have st:(s1.heap.push (eX z t ((z.length:Int)-1))).IsRevS s1.heap.objs.size z t ((z.length:Int)-1-((0:Nat):Int)):=⟨_,Qt _ rfl,rfl,by simp[eX]⟩
 refine pA (s:={s1 with heap:=s1.heap.push (eX z t ((z.length:Int)-1)),toks:=tk}) st ?_;refine⟨s1.heap.objs.size,[s1.heap.objs.size],_,_,H1,rfl,I2,yb _ z t hz,⟨Ql _,st⟩,λb hb=>?_,q⟩;have e:b=s1.heap.objs.size:=by simpa using hb
 subst e;exact I1.fpOk (Qk _) (I1.hok.fresh (Qk _))
end
structure eY(P:Program)(w:World)(K:W.Frag)(a:Addr)(CK:List (Str×Int)):Prop where
 ns:(a==sysModules)=false
 ob:∃(o:Obj) (vs:List (aV×Value)),K.lookup a=some o/\o.cls=.type "dict"/\o.dict=none/\(∀h:Heap,h.get? a=some o->h.DictOf (dX P w) a vs) /\
  ∀k:Str,(∀i,CK.lookup k=some i->∃t,valueAt vs (Sum.inr k:aV)=some (.int i t))/\(CK.lookup k=none->valueAt vs (Sum.inr k:aV)=none)
abbrev gH:=Str×Tok×Int×Tok
noncomputable def jM(w:World)(e:gH):DictEntry:=⟨hashStr w e.1,.str e.1 e.2.1,.int e.2.2.1 e.2.2.2⟩
noncomputable def d2(e:gH):aV×Value:=(Sum.inr e.1,.int e.2.2.1 e.2.2.2)
theorem kPairs{P:Program}{w:World}:∀es:List gH,Pairs (dX P w) (es.map (jM w)) (es.map d2)
 | []=>.nil
 |e::r=>.cons (eN P w e.1 e.2.1) rfl (kPairs r)
theorem pB(k:Str):∀es:List gH,(∀i,(es.map λe=>(e.1,e.2.2.1)).lookup k=some i->∃t,valueAt (es.map d2) (Sum.inr k:aV)=some (.int i t))/\((es.map λe=>(e.1,e.2.2.1)).lookup k=none->valueAt (es.map d2) (Sum.inr k:aV)=none)
 | []=>⟨λi h=>by simp at h,λ_=>rfl⟩
 |e::r=>by
  obtain⟨h1,h2⟩:=pB k r;simp only[List.map_cons,List.lookup_cons];by_cases hk:k=e.1
  ·subst hk;simp only[beq_self_eq_true];refine⟨λi h=>?_,λh=>nomatch h⟩;cases h;exact⟨e.2.2.2,by simp[valueAt,d2]⟩
  have hb:(k==e.1)=false:=beq_eq_false_iff_ne.mpr hk
  have hn:¬((d2 e).1=(Sum.inr k:aV)):=λz=>hk (by
   have z':(Sum.inr e.1:aV)=Sum.inr k:=z;injection z' with z'
   exact z'.symm)
  have ev:valueAt (d2 e::r.map d2) (Sum.inr k:aV)=valueAt (r.map d2) (Sum.inr k:aV):=by unfold valueAt;rw[List.find?_cons_of_neg (by simpa using hn)]
  rw[hb,ev];exact⟨h1,h2⟩
theorem ye{P:Program}{w:World}{K:W.Frag}{a:Addr}{ep:Nat}{es:List gH}(hs:(a==sysModules)=false)
  (hl:K.lookup a=some ⟨.type "dict",none,.dict (es.map (jM w)).toArray ep,#[]⟩) (nd:(es.map (·.1)).Nodup):eY P w K a (es.map λe=>(e.1,e.2.2.1)):=by
 refine⟨hs,_,es.map d2,hl,rfl,rfl,λh e=>⟨_,_,_,e,⟨rfl,rfl,rfl⟩,rfl,?_,kPairs es,?_⟩,λk=>pB k es⟩
 ·intro x hx;have hx':x∈es.map (jM w):=by simpa using hx
  obtain⟨y,_,rfl⟩:=Qn hx';exact⟨Sum.inr y.1,eN P w y.1 y.2.1,rfl⟩
 have e1:(es.map d2).map (·.1)=(es.map (·.1)).map (Sum.inr:Str->aV):=by rw[List.map_map,List.map_map];rfl
 rw[e1];refine List.Pairwise.map _ (λx y hxy hz=>hxy ?_) nd;injection hz
section
variable {X:Cx}{a:Addr}{CK:List (Str×Int)}{x:Str}{p pos apos CI:Pos}{e f:Expr}{ty tx:TE}
theorem eY.here{kb:List (Addr×Obj)}{σ:St}{H:Hp}{s:Shared}(D:eY X.prog X.w X.K a CK)(I:Inv X kb σ H s) :
  ∃vs:List (aV×Value),s.heap.DictOf (dX X.prog X.w) a vs/\(∀b,Value.ref a=.ref b->∃ob,s.heap.get? b=some ob/\ob.dict=none) /\
   ∀k:Str,(∀i,CK.lookup k=some i->∃t,valueAt vs (Sum.inr k:aV)=some (.int i t))/\(CK.lookup k=none->valueAt vs (Sum.inr k:aV)=none):=by
 obtain⟨o,vs,hk,hc,hd,hh,hv⟩:=D.ob;have e:=I.kIn a o hk;exact⟨vs,hh _ e,λb q=>by cases q;exact⟨o,e,hd⟩,hv⟩
def yf(CK:List (Str×Int))(ty tx:TE):TE:=λσ H Q=>ty σ H λy H1=>tx σ H1 λz H2=>∃(k:Str) (v:V),y=.str k/\((CK.lookup k).map V.int).getD z=v/\Q v H2
theorem yg(D:eY X.prog X.w X.K a CK)(hg:Gl X x)(hm:X.mg x=some (.ref a))(he:PE X e ty)(hf:PE X f tx)
  (CS:attributeBase (.Name x p) "get" X.env (eval (.Name x p) X.env)=eval (.Name x p) X.env:=by rfl)
  (DA:((backTo CI (starEach [e,f] X.env)).all (λx=>!x.1)&&(backToKw CI (keywordEach [] X.env)).all (λx=>x.1.isSome)
   && decide (([e,f]:List Expr).length+([]:List Keyword).length+(if([]:List Keyword).isEmpty then 0 else 1)<30))=true:=by rfl)
  (CZ:(apos.endLine==CI.line)=true:=by rfl) (D4:backTo CI (starEach [e,f] X.env)=[(false,eval e X.env),(false,eval f X.env)]:=by rfl) (hd:(x==("__debug__":Str))=false:=by decide) :
  PE X (.Call (.Attribute (.Name x p) "get" apos) [e,f] [] CI) (yf CK ty tx):=by
 intro kb s σ H Q I h;refine wpAny_Call_method CS DA CZ PySem.F.plainAttrs_dict PySem.F.slot_dict_get PySem.F.type_dict_get (ef I hg hm ?_ hd);obtain⟨vs,dd,hnd,hv⟩:=D.here I;refine⟨dd.typeIs,hnd,?_⟩;rw[D4]
 refine Calls.callWith_builtin rfl (Calls.evalArgs_plain (Calls.spliced_cons (az (he kb s σ H _ I h) λiv s2 ⟨y,H2,I2,ry,q2⟩ =>
  Calls.spliced_cons (az (hf kb s2 σ H2 _ I2 q2) λfv s3 ⟨z,H3,I3,rz,k,v,ey,ev,q3⟩=>Calls.spliced_nil ?_))))
 subst ey;obtain⟨t,rfl⟩:=ry;obtain⟨vs3,dd3,_,hv3⟩:=D.here I3;refine call_meetsIn PySem.F.slot_dict_get dd3.typeIs PySem.F.entry_dict_get (PySem.F.args_dict_get_3 _ _ _) (meets_dict_get_default (dX X.prog X.w) a (k:=Sum.inr k) (eN _ _ k t) D.ns fv) ⟨_,dd3.mapOf,?_⟩;refine⟨v,H3,I3.tok _,?_,q3⟩;subst ev
 cases hk:CK.lookup k with
 |none=>rw[(hv3 k).2 hk];exact rz
 |some i =>
  obtain⟨t',e⟩:=(hv3 k).1 i hk;rw[e];exact⟨t',rfl⟩
def yh(CK:List (Str×Int))(ty:TE):TE:=λσ H Q=>ty σ H λy H1=>∃k:Str,y=.str k/\Q (.bl (CK.lookup k).isSome) H1
theorem yi(D:eY X.prog X.w X.K a CK)(hg:Gl X x)(hm:X.mg x=some (.ref a))(he:PE X e ty)(hd:(x==("__debug__":Str))=false:=by decide):PC X .In e (.Name x p) (yh CK ty):=by
 intro kb s σ H Q I h;refine az (he kb s σ H _ I h) λiv s1 ⟨y,H1,I1,ry,k,ey,q⟩=>ef I1 hg hm ?_ hd;subst ey;obtain⟨t,rfl⟩:=ry;obtain⟨vs,dd,_,hv⟩:=D.here I1;refine wpAny_in_of (k:=(Sum.inr k:aV)) (eN _ _ k t) D.ns dd.mapOf ?_;refine⟨_,H1,I1.tok _,?_,q⟩
 cases hk:CK.lookup k with
 |none=>rw[(hv k).2 hk];rfl
 |some i =>
  obtain⟨t',e⟩:=(hv k).1 i hk;rw[e];rfl
def yj(CK:List (Str×Int))(ty:TE):TE:=λσ H Q=>ty σ H λy H1=>∃(k:Str) (i:Int),y=.str k/\CK.lookup k=some i/\Q (.int i) H1
theorem yk(D:eY X.prog X.w X.K a CK)(hg:Gl X x)(hm:X.mg x=some (.ref a))(he:PE X e ty)(hs:oK e)(hd:(x==("__debug__":Str))=false:=by decide):PE X (.Subscript (.Name x p) e pos) (yj CK ty):=by intro kb s σ H Q I h;refine Subscript_ (ef I hg hm ?_ hd);refine az (he kb s σ H _ I h) λiv s1 hsl44=>?_;obtain⟨y,H1,I1,ry,k,i,ey,hk,q⟩:=hsl44;subst ey;obtain⟨t,rfl⟩:=ry;obtain⟨vs,dd,_,hv⟩:=D.here I1;obtain⟨t',e⟩:=(hv k).1 i hk;exact tail_any dd.typeIs PySem.F.slot_dict_getitem.lookup (wpAny_getItem_of (k:=(Sum.inr k:aV)) (eN _ _ k t) dd.mapOf e ⟨.int i,H1,I1.tok _,⟨t',rfl⟩,q⟩) (hs _ _)
end
theorem yl(K:W.Frag)(C:Addr):PySem.W.kitOne K (.ref C) (.ref C)=some true:=by unfold PySem.W.kitOne;rw[if_pos (by simp)]
theorem du:bootBuiltins "str"=some (.type "str"):=by decide +kernel
structure ce(X:Cx):Prop where
 ex:X.ex=[]
 stk:X.stack=X.env::X.outer
 frm:X.env.frame=some X.env.locals
 fn:∀x,X.fn x=true
theorem ce.wish{X:Cx}(b:ce X)(E:Value->Shared->Prop):ce (X.wish E):=⟨b.ex,b.stk,b.frm,b.fn⟩
section
variable {X:Cx}{kb:List (Addr×Obj)}{σ:St}{H H':Hp}{s s':Shared}{B EM:Heap}
theorem ce.frs(b:ce X):frs X.stack=X.env.locals::X.fs:=by show List.filterMap _ _=_;rw[b.stk];simp[b.frm,Cx.fs,L2.frs]
theorem ce.old(b:ce X)(I:Inv X kb σ H s){c:Addr}{o:Obj}(e:X.s₀.heap.get? c=some o)(hc:c∉X.fs):c∉L2.frs X.stack:=by
 rw[b.frs];intro hm;rcases Qs hm with z|z
 ·exact absurd (Qe (Qm e) I.ok.above) (by rw[z];exact QN _)
 exact hc z
theorem ce.cell(b:ce X)(I:Inv X kb σ H s){x:Str}{c:Addr}(e:X.env.cells.lookup x=some c):c∉L2.frs X.stack:=by
 rw[b.frs];intro hm;rcases Qs hm with z|z
 ·exact I.cne x c e z
 obtain⟨o,ho,_⟩:=(I.ok.funs.mem (show c∈X.outer.filterMap (·.frame) from z)).2;exact absurd (Qe (Qm ho) (I.ok.cab x c (b.fn x) e)) (QN _)
theorem lO(b:ce X)(I:Inv X kb σ H s)(un:Un (L2.frs X.stack) [] H H' s.heap s'.heap)(hok:bp X.prog X.w H' s'.heap)(os:s'.os=s.os)(bare:AllBare s'.gens)
  (hB1:B.StaysIn s'.heap) (hB2:B.StaysIn EM) (up:s'.heap.UpToSlots EM) (fr:∀c∈L2.frs X.stack,∃o,s'.heap.get? c=some o/\∀vs,o.data≠.fields vs)
  (C2:∀c o,s.heap.get? c=some o->c∉L2.frs X.stack->∃o',B.get? c=some o') (bN:∀a o,H' a=some o->∃ob,B.get? a=some ob):Inv X kb σ H' {s' with heap:=EM}:=by
 have I':Inv X kb σ H' s':=I.call' os un hok bare λc hc=>absurd hc (by simp);have same:∀c o,s'.heap.get? c=some o->(∃o',B.get? c=some o')->EM.get? c=some o:=λc o e ⟨o',eb⟩=>by have:=hB1 c o' eb;rw[e] at this;cases this;exact hB2 c _ eb
 have inB:∀c o,X.s₀.heap.get? c=some o->c∉X.fs->∃o',B.get? c=some o':=λc o e hc=>by
  obtain⟨o1,e1⟩:=I.base.there c o e (by rw[b.ex];simp);exact C2 c o1 e1 (b.old I e hc)
 have ES:∀c∈X.fs,c∈L2.frs X.stack:=λc hc=>by rw[b.frs];exact Qr _ hc
 refine⟨I'.ok,I'.os,I'.bare,⟨λc o q n hb hx=>same c o (I'.base.keep c o q n hb hx) (inB c o q hb),λc o q n hb hx=>?_,I'.base.free,λc o q hx=>?_,I'.base.tups,I'.base.frzs,I'.base.tbls⟩,?_,λx c e=>?_,I'.free,I'.freeC,λp hp=>?_,λa o e=>?_,I'.len⟩
 ·obtain⟨sl,e1⟩:=I'.base.slot c o q n hb hx;obtain⟨o1,e2,nd⟩:=fr c (ES c hb);rw[e1] at e2;cases e2;obtain⟨sl',e3⟩:=up c _ e1 nd;exact⟨sl',e3⟩
 ·by_cases hb:c∈X.fs
  ·obtain⟨o1,e2,nd⟩:=fr c (ES c hb);obtain⟨sl',e3⟩:=up c _ e2 nd;exact⟨_,e3⟩
  obtain⟨o',eb⟩:=inB c o q hb;exact⟨o',hB2 c o' eb⟩
 ·obtain⟨m,hn,hl⟩:=I'.loc;refine⟨m,up.ns hn,λi x v e1 e2 e3=>?_⟩;obtain⟨u,r,lk⟩:=hl i x v e1 e2 e3;refine⟨u,r,?_⟩
  rcases lk with z|⟨k,c,ec,oc,hc,hd⟩
  ·exact .inl z
  obtain⟨v0,o0,El,_⟩:=I.cell x c ec;exact .inr ⟨k,c,ec,oc,same c oc hc (C2 c o0 El (b.cell I ec)),hd⟩
 ·obtain⟨v1,o1,ho1,hd1⟩:=I'.cell x c e;obtain⟨v0,o0,El,_⟩:=I.cell x c e;exact⟨v1,o1,same c o1 ho1 (C2 c o0 El (b.cell I e)),hd1⟩
 ·obtain⟨e,n,ne,nf,d⟩:=I'.pin p hp;obtain⟨e0,_⟩:=I.pin p hp;refine⟨same p.1 p.2 e (C2 p.1 p.2 e0 ?_),n,ne,nf,d⟩;rw[b.frs];intro hm;rcases Qs hm with z|z
  ·exact ne z
  exact nf z
 refine(I'.hok a o e).stay (λc u hc q=>same c u q ?_) (λ_ q=>q) λ_ _ q=>q;rcases hc with rfl|hc
 ·exact bN _ _ e
 exact bN _ _ hc
theorem iA{l:List Env}{h:Heap}(f:h.FunFrames B l):∀c∈L2.frs l,∃o,h.get? c=some o/\∀vs,o.data≠.fields vs:=λc hc=>(f.mem hc).2
end
section
variable {P:Program}{w:World}{K:W.Frag}{mg:Str->Option Value}{base:Heap}{N:List Str}{qual:Str}{scope:Scope}{f:Addr}{cd:Value}{A:Around}{outer:List Env}{s₀:Shared}{H₀:Hp}{E:XK}
theorem eF{CX:b3}:ce (dO CX P w K mg base N qual scope f cd A outer s₀ H₀ E):=⟨rfl,rfl,rfl,λ_=>rfl⟩
theorem pE{X:Cx}{kb:List (Addr×Obj)}{σ:St}{H:Hp}{s:Shared}{a:Addr}{o:HO}(I:Inv X kb σ H s)(e:H a=some o):∃ob,s.heap.get? a=some ob:=by
 have x:=I.hok a o e
 cases o with
 |lst xs=>obtain⟨_,_,_,_,e⟩:=x;exact⟨_,e⟩
 |tup xs=>obtain⟨_,_,_,⟨o,e,_⟩,_⟩:=x;exact⟨_,e⟩
 |dK CK=>obtain⟨_,_,_,_,o,_,_,e,_⟩:=x;exact⟨_,e⟩
 |dT CK=>obtain⟨_,_,_,_,o,_,_,e,_⟩:=x;exact⟨_,e⟩
 |set S n=>obtain⟨o,_,_,_,e,_⟩:=x;exact⟨_,e⟩
 |ins C dx fs=>obtain⟨_,_,_,e,_⟩:=x;exact⟨_,e⟩
 |own y=>exact x
 |xd fs=>obtain⟨_,⟨_,_,_,e,_⟩,_⟩:=x;exact⟨_,e⟩
 |rng lo hi=>obtain⟨_,_,_,e⟩:=x;exact⟨_,e⟩
 |frz ob u=>exact⟨_,x.1⟩
 |tbl ps=>exact⟨_,show s.heap.get? a=some _ from x⟩
 |met f y=>exact⟨_,show s.heap.get? a=some _ from x⟩
 |ext φ=>exact x.2.1
end
section
variable {prog:Program}{w:World}{A:Around}{E:Value->Shared->Prop}{s:Shared}{K:W.Frag}{x D:Addr}{name:Str}
structure jN(K:W.Frag)(D:Addr):Prop where
 hg:PySem.W.findIn K (.ref D) "__getattribute__"=some (some (.builtin "BaseException.__getattribute__"))
 hk:PySem.W.findIn K (.ref D) "__getattr__"=some none
 hb:PySem.W.mroIn K D (.type "BaseException")=some true
 ha:PySem.W.findIn K (.ref D) "__class__"=some (some (.builtin "object.__class__"))
 hn:PySem.W.specialIn K (.builtin "object.__class__") "__get__"=some (some (.builtin "getset_descriptor.__get__"))
 ht:PySem.W.takesIn K (.builtin "object.__class__")=some true
 hm:PySem.W.mroIn K D (.type "object")=some true
def gI(a:Addr)(cls:Value)(h:Heap):Prop:=∃o,h.get? a=some o/\o.cls=cls
open PySem.W in
theorem gI.type{M:Model}{h:Heap}{cls:Value}(p:gI x cls h):Looks M h (typeOf (.ref x)) cls:=by obtain⟨o,h1,h2⟩:=p;exact h2 ▸ (Looks.ld h1).andThen .now
open PySem.W PySem.Calls in
theorem ym{M:Model}{nameV:Value}{Q:Unit->Shared->Prop}(c:jN K D)(X:K.In s.heap)(I:gI x (.ref D) s.heap)(hq:Q () s):wpAny M A (checkBuiltinCall "BaseException.__getattribute__" ⟨[.ref x,nameV],[]⟩) Q E s:=by
 have hk:builtinKind "BaseException.__getattribute__"=some .slot:=by decide +kernel
 have hsplit:splitId "BaseException.__getattribute__"=some ("BaseException","__getattribute__"):=by decide +kernel
 have ha:=F.args_bexc_ga (.ref x) nameV;obtain⟨hh,gg,d,t,os⟩:=s;have L0:=I.type (M:=M);have L1:=looks_mroIn (M:=M) X c.hb;have L2:Looks M hh (isInstance (.ref x) (.type "BaseException")) true:=L0.andThen L1;simp only[checkBuiltinCall,hk,hsplit];refine Qa (L2.at ?_)
 repeat (first|exact hq|wp_step)
end
def pF(CX:b3)(X:Cx)(e:Expr)(t:XK->TE):Prop:=
 ∀(E:XK) (EI:Value->Shared->Prop) (kb:List (Addr×Obj)) (s:Shared) (σ:St) (H:Hp) (Q:VK),(∀H s e s',Inv X kb σ H s->CX X.stack H s E e s'->EI e s')->Inv X kb σ H s->t E σ H Q ->
  wpAny (model X.prog X.w) X.A (eval e X.env) (EP X kb σ Q) EI s
section
variable {X:Cx}{CX:b3}{k:Nat}{f C:Addr}{fd:FuncData}{ps:List Str}{sp:Sp}{C7:List V}{ds:List Value}{x m:Str}{p pos apos:Pos}{e o:Expr}{es:List Expr}{ta:TE}{t:TA}
theorem yn{EI:Value->Shared->Prop}{E:XK}{kb:List (Addr×Obj)}{σ:St}{H:Hp}{s:Shared}{Q:VK}{us:List Value}{vs:List V}(F:aF X.prog X.w X.K X.mg X.base CX k f fd ps sp)(hr:au k X.A)(hb:Binds X.K fd ps ds)(hd:aG C7 ds)
  (hx:∀H s e s',Inv X kb σ H s->CX X.stack H s E e s'->EI e s')
  (I:Inv X kb σ H s) (r:aG vs us) (h:sp (vs++C7) H Q E):wpAny (model X.prog X.w) X.A (call (.ref f) us) (EP X kb σ Q) EI s:=by
 have r2:aG (vs++C7) (us++ds):=r.append hd;have hl:(us++ds).length=ps.length:=by rw[<-r2.length];exact F.len _ _ _ _ h
 refine wpAny_call (codeAny_mono (F.run X.A X.stack s H ⟨us,[]⟩ (us++ds) (vs++C7) Q E hr I.env0 (hb s us I.kIn hl) r2 h) λr s' hq=>?_)
 cases r with
 |error e=>exact hx H s e s' I hq
 |ok fl =>
  cases fl with
  |ret u=>exact I.after hq
  |next=>exact False.elim hq
  |brk=>exact False.elim hq
  |cont=>exact False.elim hq
end
noncomputable abbrev Cx.hnd(X:Cx)(ea:Addr):Cx:={X with A:=X.A.mark (some (.ref ea)),calm:=false,xe:=λ_ _=>False}
section
variable {X:Cx}{kb:List (Addr×Obj)}{σ:St}{H:Hp}{s:Shared}
theorem Cx.Ok.hnd(ok:X.Ok)(ea:Addr):(X.hnd ea).Ok:=
 ⟨ok.mod,ok.kind,ok.glob,ok.blt,ok.above,ok.inj,ok.has,ok.cab,(λz=>nomatch z),ok.frames,ok.stk,ok.exf,ok.bs,ok.bsz,ok.noex,ok.exfs,ok.funs,ok.frf⟩
theorem Inv.hnd(I:Inv X kb σ H s)(ea:Addr):Inv (X.hnd ea) kb σ H s:=⟨I.ok.hnd ea,I.os,I.bare,I.base,I.loc,I.cell,I.free,I.freeC,I.pin,I.hok,I.len⟩
theorem Inv.unhnd{ea:Addr}(ok:X.Ok)(I:Inv (X.hnd ea) kb σ H s):Inv X kb σ H s:=⟨ok,I.os,I.bare,I.base,I.loc,I.cell,I.free,I.freeC,I.pin,I.hok,I.len⟩
theorem Inv.track(I:Inv X kb σ H s){a:Addr}{o:HO}(hn:H a=none)(hs:X.s₀.heap.get? a=none)(hl:a≠X.env.locals)(hc:∀x c,X.env.cells.lookup x=some c->c≠a)(hp:∀p∈X.pn++kb,p.1≠a)
  (new:bj X.prog X.w (ai H a o) s.heap a o):Inv X kb σ (ai H a o) s:=by
 have st:∀b u,H b=some u->ai H a o b=some u:=λb u e=>by rw[am (aH e hn)];exact e
 refine⟨I.ok,I.os,I.bare,⟨I.base.keep,I.base.slot,λb ob e n hx=>?_,I.base.there,λb xs e=>st _ _ (I.base.tups b xs e),λb ob u e=>st _ _ (I.base.frzs b ob u e),λb ps e=>?_⟩,I.loc,I.cell,?_,λx c e=>?_,λp h=>?_,λb u e=>?_,I.len⟩
 ·rw[am (λz=>by rw[z,hs] at e;cases e)];exact I.base.free b ob e n hx
 ·obtain⟨m,e1⟩:=I.base.tbls b ps e;exact⟨m,st _ _ e1⟩
 ·rw[am (Ne.symm hl)];exact I.free
 ·rw[am (hc x c e)];exact I.freeC x c e
 ·obtain⟨e,n,ne,nf,d⟩:=I.pin p h;exact⟨e,by rw[am (hp p h)];exact n,ne,nf,d⟩
 by_cases hb:b=a
 ·subst hb;rw[af] at e;cases e;exact new
 rw[am hb] at e;exact(I.hok b u e).stay (λ_ _ _ q=>q) (λc q=>st _ _ q) λc xs q=>st _ _ q
theorem jO{M:Model}{A:Around}{E:Value->Shared->Prop}{i:Nat}{n:Str}{pos:Pos}{Q:Unit->Shared->Prop}(I:Inv X kb σ H s)(hN:X.N.Nodup)(hi:X.N[i]?=some n)(hk:X.env.scope.names.lookup n=some .local)
  (h:∀s',Inv X kb (σ.set i none) H s'->Q () s'):wpAny M A (do bindName X.env n .none;unbindBehindTheSuite X.env n pos) Q E s:=by
 refine Qa (wpAny_bindName (jn (v:=.non) I hN hi (.inl hk) rfl (λs1 I1=>?_) (.inr hk)));unfold unbindBehindTheSuite;have ER:(X.env.scope.kind == .class||(X.env.scope.kind == .module&&X.env.locals != X.env.globals))=false:=by rw[I.ok.kind];rfl
 have hiσ:i<σ.length:=by rw[I.len];exact(Qj hi).1
 obtain⟨m,hn,hl⟩:=id I1.loc;obtain⟨u,_,lk⟩:=hl i n .non hi (List.getElem?_set_self hiσ) (.inl hk)
 have hm:m n=some u:=by
  rcases lk with z|⟨z|z,_⟩
  ·exact z.2
  ·rw[show X.env.kindOf n=X.env.scope.names.lookup n from rfl,hk] at z;cases z
  rw[show X.env.kindOf n=X.env.scope.names.lookup n from rfl,hk] at z;cases z
 obtain⟨oL,_,_,hoL,_⟩:=id hn;refine wpAny_onRaise (wpAny_unbindName_local hk hn hm ER λh' u' hn' hs=>?_);have cne:=I1.cne;refine h _ ⟨I1.ok,I1.os,I1.bare,⟨λb o e n hb hx=>?_,λb o e n hb hx=>?_,I1.base.free,λb o e hx=>?_,I1.base.tups,I1.base.frzs,I1.base.tbls⟩,⟨_,hn',λj y v' e1 e2 e3=>?_⟩,λy c e=>?_,I1.free,I1.freeC,λp hp=>?_,λb ob e=>?_,by simpa using I.len⟩
 ·exact(hs.2 b (Qy (Qe (Qm e) I.ok.above))).trans (I1.base.keep b o e n hb hx)
 ·obtain⟨sl,e1⟩:=I1.base.slot b o e n hb hx;exact⟨sl,(hs.2 b (Qy (Qe (Qm e) I.ok.above))).trans e1⟩
 ·obtain⟨o',e1⟩:=I1.base.there b o e hx;exact⟨o',(hs.2 b (Qy (Qe (Qm e) I.ok.above))).trans e1⟩
 ·by_cases hj:j=i
  ·subst hj;rw[List.getElem?_set_self hiσ] at e2;cases e2
  rw[List.getElem?_set_ne (Ne.symm hj)] at e2;obtain⟨u',r',q⟩:=hl j y v' e1 (by rw[List.getElem?_set_ne (Ne.symm hj)];exact e2) e3;refine⟨u',r',?_⟩
  rcases q with ⟨k,e⟩|⟨k,c,e,z⟩
  ·refine .inl ⟨k,?_⟩;have:y≠n:=λe=>hj (kN hN e1 (e ▸ hi));simp[this,e]
  exact .inr ⟨k,c,e,z.sameBut hs (cne y c e)⟩
 ·obtain⟨w',z⟩:=I1.cell y c e;exact⟨w',z.sameBut hs (cne y c e)⟩
 ·obtain⟨e,n,ne,nf,d⟩:=I1.pin p hp;exact⟨(hs.2 p.1 ne).trans e,n,ne,nf,d⟩
 refine(I1.hok b ob e).stay (λc w' hc q=>(hs.2 c ?_).trans q) (λ_ q=>q) λ_ _ q=>q;rintro rfl;rcases hc with rfl|hc
 ·rw[I1.free] at e;cases e
 rw[I1.free] at hc;cases hc
end
noncomputable def bO.unset(D:bO)(i:Nat):bO:={nx:=λσ H=>D.nx (σ.set i none) H,rt:=D.rt,bk:=λσ H=>D.bk (σ.set i none) H,ct:=λσ H=>D.ct (σ.set i none) H}
def pG(CX:b3)(X:Cx)(sts:List Stmt)(t:XK->TS):Prop:=
 ∀(E:XK) (EI:Value->Shared->Prop) (kb:List (Addr×Obj)) (s:Shared) (σ:St) (H:Hp) (D:bO),(∀H s e s',Inv X kb σ H s->CX X.stack H s E e s'->EI e s')->Inv X kb σ H s->t E D σ H ->
  wpAny (model X.prog X.w) X.A (execs sts X.env) (SP X kb D) EI s
section
variable {X:Cx}{CX:b3}{e:Expr}{te:XK->TE}{pos:Pos}
theorem yo(he:pF CX X e te)(hs:swapsWith e none pos.line X.env=pure false:=by rfl):pG CX X [.Expr e pos] (λE=>nO (te E)):=by intro E EI kb s σ H D hx I h;exact wpAny_execs_cons (wpAny_Expr_any (az (he E EI kb s σ H _ hx I h) λv s1 hsl45=>by obtain⟨x,H1,I1,r1,q1⟩:=hsl45;exact wpAny_execs_nil ⟨σ,H1,I1,q1⟩) I.quiet hs)
end
section
variable {X:Cx}{CX:b3}{k:Nat}{f C:Addr}{fd:FuncData}{ps:List Str}{sp:Sp}{C7:List V}{ds:List Value}{x m:Str}{p pos apos:Pos}{e o:Expr}{es:List Expr}{ta:TE}{t:TA}
theorem yp{pl:Sem Bool}(he:PE X.nox o ta)(c:dn X.K C)(hm:dq X.K C m f)(F:aF X.prog X.w X.K X.mg X.base CX k f fd ps sp)(hr:au k X.A)(hb:Binds X.K fd ps ds)(hd:aG C7 ds)(ha:PA X.nox (e::es) t)
  (CL:starEach (e::es) X.env=(false,eval e X.env)::starEach es X.env:=by rfl) (C5:(backTo pos (starEach es X.env)).any (·.1)=false:=by rfl)
  (ht:eval (.Call (.Attribute o m apos) (e::es) [] pos) X.env=(do
   let ov <- eval o X.env
   standAt apos.atName
   let (f,first) <- holding [ov] (getMethod ov m pl)
   callWith pos f first (backTo pos (starEach (e::es) X.env)) (backToKw pos (keywordEach [] X.env))):=by rfl) :
  pF CX X (.Call (.Attribute o m apos) (e::es) [] pos) (λE=>lj C m sp C7 E ta t):=by
 intro E EI kb s σ H Q hx I h;refine PySem.W.methodCall_KW (pl:=pl) (QJ (he kb s σ H _ (I.wish _) h) (λu s1 hsl46=>?_) λ_ _ z=>False.elim z) ht;obtain⟨x,H1,I1,rx,a,dx,fs,ex,ea,l,q⟩:=hsl46;subst ex;obtain rfl:u=Value.ref a:=rx;refine li I1.unwish ea c hm l ?_;refine PySem.W.callWith_K (first:=[.ref a]) (h₀:=X.base) I.ok.mod.kin hm.kp (QJ (ha pos kb s1 σ H1 _ I1 q) (λus s2 ⟨vs,H2,I2,r,q2⟩=>⟨I2.unwish.kIn,?_⟩) λ_ _ z=>False.elim z) CL C5;exact yn (us:=.ref a::us) (vs:=.ref a::vs) F hr hb hd hx I2.unwish (.cons rfl r) q2
end
end L2
namespace L2
theorem eG{p:Prop}(h:∀G:Prop,(p->G)->G):p:=h p id
theorem hid2.{u,v} {α:Sort u} {β:Sort v} {p:α->β->Prop} (c:α) (y:β) (h:∀G:α->β->Prop,(∀a b,p a b->G a b)->G c y):p c y:=h p λ_ _ x=>x
end L2
namespace L2
open PySem PySem.Spec PyProof.Rows
theorem yq{prog:Program}{w:World}{A:Around}{R:Result->Shared->Prop}{s:Shared}{Dy CQ:Expr}{tg:Expr}{Dq:List Expr}{sc:Scope}{pos:Pos}{it CT:Value}{env:Env}(J:Nat->Shared->Prop)
  (one:∀k st,J k st->wpAny (model prog w) A (pyNext it) (λr s₁=>match r with
   |none=>R (.ok .next) s₁
   | some v=>wpAny (model prog w) A (letOwnedTupleGo tg it v) (fun _ sg=>wpAny (model prog w) A (assign tg env v) (fun _ s₂ =>
     wpAny (model prog w) A (oV Dq env) (λok s₃ =>
      if ok=true then wpAny (model prog w) A (eval Dy env) (λy s₄=>wpAny (model prog w) A (call (.builtin "list.append") [CT,y]) (λ_ s₅=>∃m,m<k/\J m s₅) (λ_ _=>False) s₄) (λ_ _=>False) s₃
      else ∃m,m<k/\J m s₃) (λ_ _=>False) s₂) (λ_ _=>False) sg) (λ_ _=>False) s₁) (λ_ _=>False) st)
  (k0:Nat) (h0:J k0 s):codeAny (model prog w) A (.compLoop (.ListComp Dy [⟨tg,CQ,Dq,0⟩] sc pos) 0 it CT env) R s:=by
 refine codeAny_loop rfl J (λk st hk=>?_) k0 h0;show wpAny _ A ((compTurn (.ListComp Dy [⟨tg,CQ,Dq,0⟩] sc pos) 0 it CT env).onRaise (λy=>do noteFrame y env;theTreesLotGoes y)) _ _ st;refine wpAny_noted ?_;rw[compTurn_list];refine Qa (wpAny_standAt (Qa (QJ (one k st hk) (λr s₁ h₁=>?_) λ_ _ z=>z.elim)))
 cases r with
 |none=>exact Qq h₁
 |some v =>
  refine Qa (QJ h₁ (λ_ sg hg=>?_) λ_ _ z=>z.elim);refine Qa (QJ hg (λ_ s₂ h₂=>?_) λ_ _ z=>z.elim);refine Qa (QJ h₂ (λok s₃ h₃=>?_) λ_ _ z=>z.elim)
  cases ok with
  |false=>exact Qq ⟨rfl,h₃⟩
  |true =>
   refine Qa (Qa (QJ h₃ (λy s₄ h₄=>?_) λ_ _ z=>z.elim));exact Qa (QJ h₄ (λ_ s₅ h₅=>Qq (Qq ⟨rfl,h₅⟩)) λ_ _ z=>z.elim)
structure gJ(Dp sc:Scope)(NX:List Str)(xs:List Str)(fv:List Str)(js:List Nat):Prop where
 kind:sc.kind=.function
 kindX:Dp.kind=.function
 cell:∀y∈sc.names,y.2≠.cell
 own:∀x∈xs,sc.names.lookup x=some .local
 names:∀y∈sc.names,y.2=.local->sc.names.lookup y.1=some .local
 free:∀y∈sc.names,y.2=.free->Dp.names.lookup y.1=some .cell
 nd:(xs++fv).Nodup
 at':js.map (λj=>NX[j]?)=fv.map some
 fr:∀y∈fv,sc.names.lookup y=some .free
noncomputable abbrev dv(X:Cx)(sc:Scope)(xs:List Str)(fv:List Str)(C:Addr)(s0:Shared)(H0:Hp)(ex:List Addr):Cx:=
 {X with N:=xs++fv,s₀:=s0,H₀:=H0,env:=compEnvC sc (bI X.env.cells sc.names []) C X.env,outer:=X.stack,ex:=ex,fn:=λ_=>false,pn:=[],xe:=λ_ _=>False}
def iB(k:Nat)(js:List Nat)(g:TG)(tt:TT)(te:TE)(σ:St)(ys:List V)(N:List V->Hp->Prop)(x:V)(H':Hp):Prop:=
 ∀os:List (Option V),os.length=k->g x (os++bW js σ) H' λσ6 H6=>(∃os':List (Option V),os'.length=k/\σ6=os'++bW js σ) /\
  tt σ6 H6 λb H2=>if b=true then te σ6 H2 λy H3=>ys.length<sizeLine/\N (ys++[y]) H3 else N ys H2
def jP(J:It)(k:Nat)(js:List Nat)(g:TG)(tt:TT)(te:TE):TE:=λσ H1 Q=>∃W:Nat->Nat->List V->Hp->Prop,(∃m,W 0 m [] H1)/\∀i m ys H,W i m ys H ->
 (J.stop i H/\∀p,H p=none->Q (.ref p) (ai H p (.lst ys))) ∨
 (J.go i H/\∃N:List V->Hp->Prop,(∀DF H',N DF H'->∃m',m'<m/\W (i+1) m' DF H')/\∀x H',J.yld i H x H'->iB k js g tt te σ ys N x H')
def yr(wi:TI)(k:Nat)(js:List Nat)(g:TG)(tt:TT)(te:TE):TE:=λσ H Q=>wi σ H λJ H1=>jP J k js g tt te σ H1 Q
section
variable {X:Cx}{kb:List (Addr×Obj)}{σ:St}{H2:Hp}{s2:Shared}{Dy CQ tg:Expr}{xs:List Str}{Dq:List Expr}{sc Dp:Scope}{pos:Pos}{fv:List Str}{js:List Nat}{g:TG}{tt:TT}{te:TE}
theorem pH(S:gJ Dp sc X.N xs fv js)(Ej:X.env.scope=Dp)(C9:X.calm=true)(hgg:∀C s0 H0 ex,PG (dv X sc xs fv C s0 H0 ex) tg g)
  (ht:∀C s0 H0 ex,fZ (dv X sc xs fv C s0 H0 ex) Dq tt) (he:∀C s0 H0 ex,PE (dv X sc xs fv C s0 H0 ex) Dy te)
  {it:Addr} {fp:List Addr} {tn:Nat->Heap->Prop} {J:It} (I2:Inv X kb σ H2 s2) (T:dk X.prog X.w X.K tg J fp it tn) (st2:tn 0 s2.heap) (f2:∀b∈fp,dN X kb H2 b)
  {Q:VK} {W:Nat->Nat->List V->Hp->Prop} (w0:∃m,W 0 m [] H2)
  (step:∀i m ys H,W i m ys H->(J.stop i H/\∀p,H p=none->Q (.ref p) (ai H p (.lst ys))) ∨
   (J.go i H/\∃N:List V->Hp->Prop,(∀DF H',N DF H'->∃m',m'<m/\W (i+1) m' DF H') /\
    ∀x H',J.yld i H x H'->iB xs.length js g tt te σ ys N x H'))
  {RR:Value->Addr->Result->Shared->Prop} {E:Value->Shared->Prop}
  (fin:∀(D C:Addr) (s':Shared) (H':Hp),Inv X kb σ H' s'->Q (.ref D) H'->(∃m,s'.heap.Ns C m)->dN X kb H' C->RR (.ref D) C (.ok .next) s') :
  wpAny (model X.prog X.w) X.A (newList []) (λCT s₃=>wpAny (model X.prog X.w) X.A (newFunctionEnv sc X.env.globals (bI X.env.cells sc.names []) [] X.env.qual none .none (some X.env)) (λEU s₄ =>
   codeAny (model X.prog X.w) X.A (.compStart (.ListComp Dy [⟨tg,CQ,Dq,0⟩] sc pos) 0 (.ref it) CT {EU with scope:=relabel sc X.env}) (RR CT EU.locals) s₄) E s₃) E s2:=by
 have C8:∀y∈sc.names,y.2=.free->∃c,X.env.cells.lookup y.1=some c:=λy hy hf=>I2.ok.has y.1 (.inl (by show X.env.scope.names.lookup y.1=_;rw[Ej];exact S.free y hy hf));obtain⟨cl1,_,cl3⟩:=lH (cells:=X.env.cells) sc.names [] C8 (λy c h=>by simp at h);refine wpAny_newObj_type (wpAny_newFunctionEnv S.cell (by intro y hy;simp at hy) (λh₁ hns₁ hsb₁=>?_) S.kind);dsimp only at hns₁ hsb₁ ⊢;generalize hG:s2.heap.push {cls:=.type "list",dict:=none,data:=.seq ([]:List Value).toArray}=G at hns₁ hsb₁ ⊢;have hGz:G.objs.size=s2.heap.objs.size+1:=by rw[<-hG,Heap.size_push]
 have ED:∀b o,s2.heap.get? b=some o->G.get? b=some o:=λb o e=>hG ▸ Qh _ e;have upH:∀b o,G.get? b=some o->h₁.get? b=some o:=λb o e=>hsb₁.extBut b o (Qy (Qm e)) (Qh _ e);have ltD:∀b o,s2.heap.get? b=some o->b≠s2.heap.objs.size:=λb o e=>Qy (Qm e);have fpo:∀b∈fp,∃o,s2.heap.get? b=some o:=λb hb=>by obtain⟨o,e,_⟩:=T.obj 0 _ st2 b hb;exact⟨o,e⟩
 have fpD:∀b∈fp,b≠s2.heap.objs.size:=λb hb=>by obtain⟨o,e⟩:=fpo b hb;exact ltD b o e
 have fpC:∀b∈fp,b≠G.objs.size:=λb hb=>by obtain⟨o,e⟩:=fpo b hb;exact Qy (Qm (ED b o e))
 have cellO:∀y c,(bI X.env.cells sc.names []).lookup y=some c->∃v,s2.heap.IsCell c v:=λy c e=>I2.cell y c (cl1 y c e);have cellD:∀y c,(bI X.env.cells sc.names []).lookup y=some c->c≠s2.heap.objs.size:=λy c e=>by obtain⟨v,q⟩:=cellO y c e;exact Qy q.lt
 have Dfs:s2.heap.objs.size∉frs X.stack:=λhb=>by
  rcases Qs (I2.stkSub _ hb) with z|z
  ·exact absurd I2.lt (by rw[<-z];exact QN _)
  exact I2.nofs (Qk _) z
 have fpfs:∀b∈fp,b∉frs X.stack:=λb hb hz=>by
  refine eG λ_ γ=>?_;obtain⟨_,f1,f2',_⟩:=f2 b hb;refine γ ?_;rcases Qs (I2.stkSub _ hz) with z|z
  ·exact f1 z
  exact f2' z
 have HD:H2 s2.heap.objs.size=none:=I2.hok.fresh (Qk _);have HC:H2 G.objs.size=none:=I2.hok.fresh (by rw[hGz];exact Nat.le_succ _);have DC:s2.heap.objs.size≠G.objs.size:=by rw[hGz];exact Qy (Nat.lt_succ_self _)
 have okC:Cx.Ok (dv X sc xs fv G.objs.size {s2 with heap:=G} H2 (s2.heap.objs.size::fp)):=by
  refine⟨I2.ok.mod,S.kind,I2.ok.glob,I2.ok.blt,Qk _,λy z c h1 h2=>I2.ok.inj y z c (cl1 _ _ h1) (cl1 _ _ h2),λy hy=>?_,λy c hfn _=>(by cases hfn),I2.ok.hd,I2.ok.frames,.inl rfl,λb hb=>?_,λb o e=>?_,?_,λb o e hb=>?_,λb hb=>?_,?_,I2.stkFree⟩
  ·exact Option.isSome_iff_exists.mp (cl3 y (oX S.cell hy))
  ·rcases Qs hb with z|z
   ·subst z;exact⟨DC,cellD⟩
   refine⟨fpC b z,λy c e=>?_⟩;refine eG λ_ γ=>?_;obtain⟨_,_,_,_,f4,_⟩:=f2 b z;refine γ ?_;exact f4 y c (cl1 y c e)
  ·exact⟨ED b o (I2.bs b o e).1,(I2.bs b o e).2⟩
  ·show X.base.objs.size<=G.objs.size;rw[hGz];exact Nat.le_succ_of_le (Qg I2.ok.bsz I2.sz)
  ·rcases Qs hb with z|z
   ·exact ltD b o (I2.bk b o e) z
   refine eG λ_ γ=>?_;obtain⟨_,_,_,f3,_⟩:=f2 b z;refine γ ?_;rcases f3 with q|q
   ·exact I2.ok.noex b o e q
   exact absurd (Qe (Qm e) (Qg I2.ok.bsz q)) (QN _)
  ·rcases Qs hb with z|z
   ·subst z;exact Dfs
   exact fpfs b z
  exact(I2.stack).of_keeps λb o e _=>⟨o,ED b o e,rfl⟩
 have lenC:∀os:List (Option V),os.length=xs.length->(os++bW js σ).length=(xs++fv).length:=λos ho=>by have:=congrArg List.length S.at';simp only[Qb] at this;simp[bW,this,ho]
 have hacc:h₁.get? s2.heap.objs.size=some {cls:=.type "list",dict:=none,data:=.seq ([]:List Value).toArray}:=upH _ _ (hG ▸ Qt _ rfl)
 have I4:Inv (dv X sc xs fv G.objs.size {s2 with heap:=G} H2 (s2.heap.objs.size::fp)) [(s2.heap.objs.size,{cls:=.type "list",dict:=none,data:=.seq ([]:List Value).toArray})] (xs.map (λ_=>none)++bW js σ) H2 {s2 with heap:=h₁,toks:=s2.toks+([]:List (Str×Value)).length}:=by
  refine⟨okC,rfl,I2.bare,Un.kept upH,⟨_,hns₁,λi y v e1 e2 e3=>?_⟩,λy c e=>?_,HC,λy c e=>I2.freeC y c (cl1 y c e),λp hp=>?_,I2.hok.kept λb u e=>upH b u (ED b u e),lenC _ (by simp)⟩
  ·by_cases hix:i<xs.length
   ·have:(xs.map (λ_=>(none:Option V))++bW js σ)[i]?=some none:=by rw[QE (by simpa using hix),Qi,Qc hix];rfl
    rw[this] at e2;cases e2
   obtain⟨i',rfl⟩:∃i',i=xs.length+i':=⟨i-xs.length,by lia⟩
   have e1':fv[i']?=some y:=by have e1a:(xs++fv)[xs.length+i']?=some y:=e1;rw[QB (by lia),Nat.add_sub_cancel_left] at e1a;exact e1a
   have e2':(bW js σ)[i']?=some (some v):=by have e2a:=e2;rw[QB (by simp),Qb,Nat.add_sub_cancel_left] at e2a;exact e2a
   have q:=congrArg (λl=>l[i']?) S.at';simp only[Qi,e1',Option.map_some] at q
   cases hj:js[i']? with
   |none=>rw[hj] at q;cases q
   |some j =>
    rw[hj] at q;have hj':X.N[j]?=some y:=Qw q;unfold bW at e2';rw[Qi,hj] at e2';have e2'':(σ[j]?).getD none=some v:=Qw e2'
    have e2b:σ[j]?=some (some v):=by
     cases hh:σ[j]? with
     |none=>rw[hh] at e2'';cases e2''
     |some o=>rw[hh] at e2'';exact congrArg some e2''
    have hm:y∈fv:=QM e1';have hcX:Dp.names.lookup y=some .cell:=S.free (y,.free) (PySem.mem_of_lookup (S.fr y hm)) rfl;have kX:X.env.kindOf y=some .cell:=by show X.env.scope.names.lookup y=_;rw[Ej];exact hcX
    obtain⟨m,hn,hl⟩:=I2.loc;obtain⟨u,r,lk⟩:=hl j y v hj' e2b (.inr (.inl kX));refine⟨u,r,?_⟩
    rcases lk with ⟨k,_⟩|⟨_,c,ec,z⟩
    ·rw[kX] at k;cases k
    refine .inr ⟨.inl (oW (by rw[Ej];exact S.kindX) (S.fr y hm) kX),c,?_,?_⟩
    ·obtain⟨c',ec'⟩:=Option.isSome_iff_exists.mp (cl3 y (PySem.mem_of_lookup (S.fr y hm)));have:=cl1 y c' ec';rw[ec] at this;cases this;exact ec'
    obtain⟨o,ho,hd⟩:=z;exact⟨o,upH c o (ED c o ho),hd⟩
  ·refine eG λ_ γ=>?_;obtain⟨v,o,ho,hd⟩:=cellO y c e;refine γ ?_;exact⟨v,o,upH c o (ED c o ho),hd⟩
  have hp':p=(s2.heap.objs.size,{cls:=.type "list",dict:=none,data:=.seq ([]:List Value).toArray}):=by simpa using hp
  subst hp';exact⟨hacc,HD,DC,Dfs,λv z=>by cases z⟩
 have loop:codeAny (model X.prog X.w) X.A (.compLoop (.ListComp Dy [⟨tg,CQ,Dq,0⟩] sc pos) 0 (.ref it) (.ref s2.heap.objs.size) (compEnvC sc (bI X.env.cells sc.names []) G.objs.size X.env)) (RR (.ref s2.heap.objs.size) G.objs.size) {s2 with heap:=h₁,toks:=s2.toks+([]:List (Str×Value)).length}:=by
  obtain⟨m0,w0⟩:=w0
  have fok:∀{H':Hp} {o:Obj},(∀b∈fp,H' b=none)->∀b∈fp,dN (dv X sc xs fv G.objs.size {s2 with heap:=G} H2 (s2.heap.objs.size::fp)) [(s2.heap.objs.size,o)] H' b:=λ{H' o} hn b hb=>by
   refine⟨hn b hb,fpC b hb,fpfs b hb,.inl (Qr _ hb),λy c e=>?_,λp hp=>?_⟩
   ·refine eG λ_ γ=>?_;obtain⟨_,_,_,_,f4,_⟩:=f2 b hb;refine γ ?_;exact f4 y c (cl1 y c e)
   have hp':p=(s2.heap.objs.size,o):=by simpa using hp
   subst hp';exact(fpD b hb).symm
  refine yq (λk st=>∃(i:Nat) (ys:List V) (its:List Value) (n:Nat) (os:List (Option V)) (H':Hp),os.length=xs.length/\Inv (dv X sc xs fv G.objs.size {s2 with heap:=G} H2 (s2.heap.objs.size::fp)) [(s2.heap.objs.size,{cls:=.type "list",data:=.seq its.toArray n})] (os++bW js σ) H' st /\
   aG ys its/\ys.length<=sizeLine/\tn i st.heap/\(∀b∈fp,H' b=none)/\W i k ys H') ?_ m0
   ⟨0,[],[],_,xs.map (λ_=>none),H2,by simp,I4,.nil,Ql _,T.keep _ _ _ st2 λb _ o e=>upH b o (ED b o e),λb hb=>(f2 b hb).1,w0⟩
  rintro k s3 hh;refine eG λ_ γ=>?_;obtain⟨i,ys,its,n,os,H3,DV,I3,rv,hz,st3,fr3,w3⟩:=hh;refine γ ?_
  rcases step i k ys H3 w3 with ⟨stop,q⟩|⟨go,N,hN,hgo⟩
  ·refine az (T.done (dv X sc xs fv G.objs.size {s2 with heap:=G} H2 (s2.heap.objs.size::fp)) rfl rfl rfl C9 i _ s3 _ H3 _ I3 (fok fr3) st3 stop) λr s4 hsl47=>?_;obtain⟨hr,I4⟩:=hsl47;subst hr;refine eG λ_ γ=>?_;obtain⟨pD,pn,_,_,_⟩:=I4.pin _ (Qz _ Qp);refine γ ?_;have B:=I4.base;have nD:∀b o,s2.heap.get? b=some o->b∉fp->b∉s2.heap.objs.size::fp:=λb o e hx hm=>(Qs hm).elim (ltD b o e) hx;have neH:∀b u,H2 b=some u->b≠s2.heap.objs.size:=λb u e z=>by rw[z,HD] at e;cases e
   have JX:Inv X kb σ (ai H3 s2.heap.objs.size (.lst ys)) s4:=by
    refine I2.call' (ch:=fp) I4.os ⟨λb o e hn hb hx=>B.keep b o (ED b o e) hn hb (nD b o e hx),λb o e hn hb hx=>B.slot b o (ED b o e) hn hb (nD b o e hx),λb o e hn hx=>?_,λb o e hx=>B.there b o (ED b o e) (nD b o e hx),λb xs e=>?_,λb o u e=>?_,λb ps e=>?_⟩ (λb u e=>?_) I4.bare λb hb=>?_
    ·rw[am (ltD b o e)];exact B.free b o (ED b o e) hn (nD b o e hx)
    ·rw[am (neH b _ e)];exact B.tups b xs e
    ·rw[am (neH b _ e)];exact B.frzs b o u e
    ·rw[am (neH b _ e)];exact B.tbls b ps e
    ·by_cases hb:b=s2.heap.objs.size
     ·subst hb;rw[af] at e;cases e;exact⟨hz,its,n,rv,pD⟩
     rw[am hb] at e;exact(I4.hok b u e).stay (λ_ _ _ z=>z) (λc z=>by rw[am (aH z pn)];exact z) λc xs z=>by rw[am (aH z pn)];exact z
    refine eG λ_ γ=>?_;obtain⟨_,f1,_,f3,f4,f5⟩:=f2 b hb;refine γ ?_;exact⟨f3,f1,f4,f5⟩
   refine fin _ _ s4 _ JX (q _ pn) (by obtain⟨m,hm,_⟩:=I4.loc;exact⟨m,hm⟩) (I2.fpOk (by rw[hGz];exact Nat.le_succ _) ?_);rw[am DC.symm];exact I4.free
  refine az (T.item (dv X sc xs fv G.objs.size {s2 with heap:=G} H2 (s2.heap.objs.size::fp)) rfl rfl rfl C9 i _ s3 _ H3 _ I3 (fok fr3) st3 go) λr s4 hsl48=>?_;obtain⟨u,hr,h4⟩:=hsl48;subst hr;refine az h4 λ_ s5 hsl49=>?_;obtain⟨y,H5,I5,r5,y5,st5,fr5⟩:=hsl49;have I5':=I5.pinned (fok fr5) (T.obj _ _ st5);refine az (hgg _ _ _ _ _ s5 _ H5 y u _ I5' r5 (hgo y _ y5 os DV)) λ_ s6 hsl50=>?_;obtain⟨σ6,H6,I6,⟨os',hos',eσ⟩,q6⟩:=hsl50;subst eσ;refine az (ht _ _ _ _ _ s6 _ _ _ I6 q6) λb s7 hsl51=>?_;obtain⟨H7,I7,q7⟩:=hsl51
  cases b with
  |false =>
   rw[if_neg Qf] at q7 ⊢;obtain⟨m',hm,w7⟩:=hN ys H7 q7
   exact⟨m',hm,i+1,ys,its,n,os',H7,hos',I7.unpinned,rv,hz,T.keep _ _ _ st5 λb hb o e=>(I7.pin (b,o) (Qz _ (Qz _ (gz hb e)))).1,λb hb=>by
    obtain⟨o,e,d⟩:=T.obj _ _ st5 b hb
    exact(I7.pin (b,o) (Qz _ (Qz _ (gz hb e)))).2.1,w7⟩
  |true =>
   rw[if_pos rfl] at q7 ⊢;refine az (he _ _ _ _ _ s7 _ H7 _ I7 q7) λu8 s8 hsl52=>?_;obtain⟨y8,H8,I8,r8,hl8,q8⟩:=hsl52;obtain⟨m',hm,w8⟩:=hN _ H8 q8;refine eG λ_ γ=>?_;obtain⟨pD,pn,pC,pf,_⟩:=I8.pin _ (Qz _ (List.mem_append_left _ Qp));refine γ ?_;refine wpAny_list_append_plain (items:=its.toArray) ⟨n,pD⟩ (λh9 hl9 sb9=>?_) (by rw[Qv,<-rv.length];exact QG hl8);have pinF:∀p∈fN fp s5.heap,p∈[(s2.heap.objs.size,({cls:=.type "list",data:=.seq its.toArray n}:Obj))]++fN fp s5.heap:=λp hp=>Qz _ hp;have I8a:=I8.pins_of (pins':=fN fp s5.heap) λp hp=>I8.pin p (Qz _ (pinF p hp));have I9:=I8a.turned (it:=s2.heap.objs.size) (h':=h9) (t':=s8.toks) (λb o hb e=>(sb9.2 b hb).trans e) pn DC (.inl Qp) (λy c e=>cellD y c e) λp hp=>fpD p.1 (nY (by simpa using hp)).1;obtain⟨n9,e9⟩:=hl9;have e9':h9.get? s2.heap.objs.size=some {cls:=.type "list",data:=.seq (its++[u8]).toArray n9}:=by rw[e9,show(its++[u8]).toArray=its.toArray.push u8 by simp]
   refine⟨m',hm,i+1,ys++[y8],its++[u8],n9,os',H8,hos',I9.pins_of λp hp=>?_,rv.append (.cons r8 .nil),by rw[QK];exact hl8,T.keep _ _ _ st5 λb hb o e=>(I9.pin (b,o) (Qz _ (gz hb e))).1,λb hb=>?_,w8⟩
   ·have hp':p=(s2.heap.objs.size,{cls:=.type "list",data:=.seq (its++[u8]).toArray n9}):=by simpa using hp
    subst hp';exact⟨e9',pn,DC,pf,λv z=>by cases z⟩
   obtain⟨o,e,d⟩:=T.obj _ _ st5 b hb;exact(I9.pin (b,o) (Qz _ (gz hb e))).2.1
 exact codeAny_compStart_list loop (T.self _ 0 _ _ _ (T.keep _ _ _ st2 λb _ o e=>upH b o (ED b o e)) loop)
theorem gK{wi:TI}(Dp:Scope)(NX fv:List Str)(js:List Nat)(hNX:X.N=NX)(S:gJ Dp sc NX xs fv js)(Ej:X.env.scope=Dp)(C9:X.calm=true)(hi:PI X tg CQ wi)(hgg:∀C s0 H0 ex,PG (dv X sc xs fv C s0 H0 ex) tg g)
  (ht:∀C s0 H0 ex,fZ (dv X sc xs fv C s0 H0 ex) Dq tt) (he:∀C s0 H0 ex,PE (dv X sc xs fv C s0 H0 ex) Dy te)
  (hs:∀v,foldedSetIterable CQ X.env v=pure v:=by intro _;rfl):PE X (.ListComp Dy [⟨tg,CQ,Dq,0⟩] sc pos) (yr wi xs.length js g tt te):=by
 intro kb s σ H Q I h;rw[<-hNX] at S;have C8:∀y∈sc.names,y.2=.free->∃c,X.env.cells.lookup y.1=some c:=λy hy hf=>I.ok.has y.1 (.inl (by show X.env.scope.names.lookup y.1=_;rw[Ej];exact S.free y hy hf));rw[eval_ListComp];refine wpAny_comprehension_free (use:=none) rfl hs (lG C8) S.kind S.names (az (hi kb s σ H _ I h) λv s1 h1=>az h1 λitv s2 h2=>?_);obtain⟨it,fp,tn,J,H2,e,I2,T,st2,f2,W,w0,step⟩:=h2;subst e;refine pH (RR:=λCT C=>compPost (model X.prog X.w) X.A X.xe none (EP X kb σ Q) CT C) S Ej C9 hgg ht he I2 T st2 f2 w0 step λD C s' H' I' q hsl53 hC=>?_;obtain⟨m,hm⟩:=hsl53;obtain⟨f0,f1,_,f3,f4,f5⟩:=hC;exact⟨m,hm,λh' sb=>⟨.ref D,H',I'.turned (t':=s'.toks) (λb o hb e=>(sb.2 b hb).trans e) f0 f1 f3 f4 f5,rfl,q⟩⟩
end
section
variable {X:Cx}{kb:List (Addr×Obj)}{σ:St}{H2:Hp}{s2:Shared}{Dy CQ:Expr}{x:Str}{px:Pos}{Dq:List Expr}{sc Dp:Scope}{pos:Pos}{fv:List Str}{js:List Nat}{tt:TT}{te:TE}
theorem pI(S:gJ Dp sc X.N [x] fv js)(Ej:X.env.scope=Dp)(C9:X.calm=true)
  (ht:∀C s0 H0 ex,fZ (xc X sc x fv C s0 H0 ex) Dq tt) (he:∀C s0 H0 ex,PE (xc X sc x fv C s0 H0 ex) Dy te)
  {it:Addr} {fp:List Addr} {tn:Nat->Heap->Prop} {J:It} (I2:Inv X kb σ H2 s2) (T:dk X.prog X.w X.K (.Name x px) J fp it tn) (st2:tn 0 s2.heap) (f2:∀b∈fp,dN X kb H2 b)
  {Q:VK} {W:Nat->Nat->List V->Hp->Prop} (w0:∃m,W 0 m [] H2)
  (step:∀i m ys H,W i m ys H->(J.stop i H/\∀p,H p=none->Q (.ref p) (ai H p (.lst ys))) ∨
   (J.go i H/\∃N:List V->Hp->Prop,(∀DF H',N DF H'->∃m',m'<m/\W (i+1) m' DF H') /\
    ∀x H',J.yld i H x H'->tt (some x::bW js σ) H' λb H2=>if b=true then te (some x::bW js σ) H2 λy H3=>ys.length<sizeLine/\N (ys++[y]) H3 else N ys H2))
  {RR:Value->Addr->Result->Shared->Prop} {E:Value->Shared->Prop}
  (fin:∀(D C:Addr) (s':Shared) (H':Hp),Inv X kb σ H' s'->Q (.ref D) H'->(∃m,s'.heap.Ns C m)->dN X kb H' C->RR (.ref D) C (.ok .next) s') :
  wpAny (model X.prog X.w) X.A (newList []) (λCT s₃=>wpAny (model X.prog X.w) X.A (newFunctionEnv sc X.env.globals (bI X.env.cells sc.names []) [] X.env.qual none .none (some X.env)) (λEU s₄ =>
   codeAny (model X.prog X.w) X.A (.compStart (.ListComp Dy [⟨.Name x px,CQ,Dq,0⟩] sc pos) 0 (.ref it) CT {EU with scope:=relabel sc X.env}) (RR CT EU.locals) s₄) E s₃) E s2:=by
 refine pH (xs:=[x]) (g:=a7 0) (RR:=RR) S Ej C9 (λC s0 H0 ex=>bq S.nd rfl (.inl (lookup_relabel_local (S.own _ (.head _)))) (.inr (lookup_relabel_local (S.own _ (.head _))))) ht he I2 T st2 f2 w0 (λi m ys H w=>?_) fin
 rcases step i m ys H w with h|⟨go,N,hN,st⟩
 ·exact .inl h
 refine .inr ⟨go,N,hN,λy H' hy os DV=>?_⟩;obtain⟨o,rfl⟩:=List.length_eq_one_iff.mp DV;exact⟨⟨[some y],rfl,rfl⟩,st y H' hy⟩
theorem cU{wi:TI}(Dp:Scope)(NX fv:List Str)(js:List Nat)(hNX:X.N=NX)(S:gJ Dp sc NX [x] fv js)(Ej:X.env.scope=Dp)(C9:X.calm=true)(hi:PI X (.Name x px) CQ wi)
  (ht:∀C s0 H0 ex,fZ (xc X sc x fv C s0 H0 ex) Dq tt) (he:∀C s0 H0 ex,PE (xc X sc x fv C s0 H0 ex) Dy te)
  (hs:∀v,foldedSetIterable CQ X.env v=pure v:=by intro _;rfl):PE X (.ListComp Dy [⟨.Name x px,CQ,Dq,0⟩] sc pos) (oY wi js tt te):=by
 intro kb s σ H Q I h;rw[<-hNX] at S;have C8:∀y∈sc.names,y.2=.free->∃c,X.env.cells.lookup y.1=some c:=λy hy hf=>I.ok.has y.1 (.inl (by show X.env.scope.names.lookup y.1=_;rw[Ej];exact S.free y hy hf));rw[eval_ListComp];refine wpAny_comprehension_free (use:=none) rfl hs (lG C8) S.kind S.names (az (hi kb s σ H _ I h) λv s1 h1=>az h1 λitv s2 h2=>?_);obtain⟨it,fp,tn,J,H2,e,I2,T,st2,f2,W,w0,step⟩:=h2;subst e;refine pI (RR:=λCT C=>compPost (model X.prog X.w) X.A X.xe none (EP X kb σ Q) CT C) S Ej C9 ht he I2 T st2 f2 w0 step λD C s' H' I' q hsl54 hC=>?_;obtain⟨m,hm⟩:=hsl54;obtain⟨f0,f1,_,f3,f4,f5⟩:=hC;exact⟨m,hm,λh' sb=>⟨.ref D,H',I'.turned (t':=s'.toks) (λb o hb e=>(sb.2 b hb).trans e) f0 f1 f3 f4 f5,rfl,q⟩⟩
theorem yt{wi:TI}{i:Nat}{y:Str}{py spos:Pos}(Dp:Scope)(NX fv:List Str)(js:List Nat)(hNX:X.N=NX)(S:gJ Dp sc NX [x] fv js)(Ej:X.env.scope=Dp)(C9:X.calm=true)(hi:PI X (.Name x px) CQ wi)
  (ht:∀C s0 H0 ex,fZ (xc X sc x fv C s0 H0 ex) Dq tt) (he:∀C s0 H0 ex,PE (xc X sc x fv C s0 H0 ex) Dy te)
  (hN:X.N.Nodup) (hy:X.N[i]?=some y) (hl:X.env.scope.names.lookup y=some .local) (hsw:swapsWith (.ListComp Dy [⟨.Name x px,CQ,Dq,0⟩] sc pos) (some (.Name y py)) spos.line X.env=pure true)
  (hs:∀v,foldedSetIterable CQ X.env v=pure v:=by intro _;rfl):PS X (.Assign [.Name y py] (.ListComp Dy [⟨.Name x px,CQ,Dq,0⟩] sc pos) spos) (jt (oY wi js tt te) (a7 i)):=by
 intro kb s σ H D I h;rw[<-hNX] at S;have C8:∀y∈sc.names,y.2=.free->∃c,X.env.cells.lookup y.1=some c:=λy hy hf=>I.ok.has y.1 (.inl (by show X.env.scope.names.lookup y.1=_;rw[Ej];exact S.free y hy hf));rw[exec_Assign_Name_used _ _ _ _ hsw];refine Qa (wpAny_standAt (Qa ?_));show wpAny _ _ (do let _ <- comprehension (.ListComp Dy [⟨.Name x px,CQ,Dq,0⟩] sc pos) sc X.env _ (newList []) false (eval CQ X.env) (some (assign (.Name y py) X.env))) _ _ s
 refine Qa (QJ (wpAny_comprehension_free (use:=some (assign (.Name y py) X.env)) (Q:=λ_ st=>SP X kb D .next st) rfl hs (lG C8) S.kind S.names
  (az (hi kb s σ H _ I h) λv s1 h1=>az h1 λitv s2 h2=>?_)) (λ_ st hq=>Qq (Qq hq)) λ_ _ e=>e)
 obtain⟨it,fp,tn,J,H2,e,I2,T,st2,f2,W,w0,step⟩:=h2;subst e;refine pI (Q:=λv H1=>a7 i v σ H1 D.nx) (RR:=λCT C=>compPost (model X.prog X.w) X.A X.xe (some (assign (.Name y py) X.env)) (λ_ st=>SP X kb D .next st) CT C) S Ej C9 ht he I2 T st2 f2 w0 step λDl C s' H' I' q hsl55 hC=>?_;obtain⟨m,hm⟩:=hsl55;obtain⟨f0,f1,_,f3,f4,f5⟩:=hC;refine wpAny_assign_Name (nM I' hN hy (.inl hl) (show RelV (.ref Dl) (.ref Dl) from rfl) (λs'' I'' hsl56=>?_) (.inr hl));obtain⟨a,sb,ha⟩:=hsl56
 have aC:C≠a:=λz=>by
  rcases ha with ha|ha
  ·exact f1 (z.trans ha)
  exact f4 y a ha z.symm
 refine⟨m,hm.sameBut sb aC,λh' sb'=>?_⟩;exact⟨_,_,I''.turned (t':=s''.toks) (λb o hb e=>(sb'.2 b hb).trans e) f0 f1 f3 f4 f5,q⟩
end
end L2
namespace Mm
open PySem
noncomputable def aR(m N:Nat):List Nat:=(List.range N).filter λs=>m.testBit s
theorem yu{m B s:Nat}(h:m<2^B)(hs:B<=s):m.testBit s=false:=Nat.testBit_lt_two_pow (Qe h (QF (by decide) hs))
theorem yv{m B N:Nat}(h:m<2^B)(hB:B<=N):aR m B=aR m N:=by
 obtain⟨d,rfl⟩:∃d,N=B+d:=⟨N-B,by lia⟩
 unfold aR;rw[List.range_add,List.filter_append];have:((List.range d).map (B+·)).filter (λs=>m.testBit s)=[]:=by rw[List.filter_eq_nil_iff];intro a ha;obtain⟨b,_,rfl⟩:=Qn ha;rw[yu h (by lia)];simp
 rw[this,List.append_nil]
theorem iC{m N s:Nat}(h:s∈aR m N):s<N:=by have:=(List.mem_filter.mp h).1;simpa using this
theorem yw(m N:Nat):(aR m N).length<=N:=by have:=List.length_filter_le (λs=>m.testBit s) (List.range N);simpa [aR] using this
theorem pJ:∀(n m:Nat),m<=n->m≠0->∃t q,m=2^(t+1)*q+2^t
 |0,m,h,h0=>absurd (by lia) h0
 |n+1,m,h,h0=>by
  by_cases hm:m%2=1
  ·exact⟨0,m/2,by simp;lia⟩
  obtain⟨t,q,e⟩:=pJ n (m/2) (by lia) (by lia);refine⟨t+1,q,?_⟩;have e1:2^(t+1+1)*q=2*(2^(t+1)*q):=by rw[Nat.pow_succ 2 (t+1),Nat.mul_comm (2^(t+1)) 2,Nat.mul_assoc]
  have e2:2^(t+1)=2*2^t:=by rw[Nat.pow_succ,Nat.mul_comm]
  rw[e1];lia
theorem yx{t q s:Nat}(h:s<t):(2^(t+1)*q+2^t).testBit s=false:=by rw[Nat.testBit_two_pow_mul_add _ (Nat.pow_lt_pow_right (by decide) (by lia)),if_pos (by lia),Nat.testBit_two_pow];simp;lia
theorem yy(t q:Nat):(2^(t+1)*q+2^t).testBit t=true:=by rw[Nat.testBit_two_pow_mul_add _ (Nat.pow_lt_pow_right (by decide) (by lia)),if_pos (by lia),Nat.testBit_two_pow];simp
theorem yz(t q:Nat):(2^(t+1)*q+2^t)^^^(2^(t+1)*q+2^t-1)=2^(t+1)-1:=by
 have hp:=Nat.two_pow_pos t;have e2:2^(t+1)=2*2^t:=by rw[Nat.pow_succ,Nat.mul_comm]
 have e:2^(t+1)*q+2^t-1=2^(t+1)*q+(2^t-1):=by omega
 rw[e];refine Nat.eq_of_testBit_eq λj=>?_;rw[Nat.testBit_xor,Nat.testBit_two_pow_mul_add _ (show 2^t<2^(t+1) by omega),Nat.testBit_two_pow_mul_add _ (show 2^t-1<2^(t+1) by omega),Nat.testBit_two_pow_sub_one];by_cases hj:j<t+1
 ·rw[if_pos hj,if_pos hj,Nat.testBit_two_pow,Nat.testBit_two_pow_sub_one];by_cases hjt:j<t
  ·have:¬t=j:=by omega
   simp[hj,hjt,this]
  have:t=j:=by omega
  subst this;simp
 rw[if_neg hj,if_neg hj];simp[hj]
theorem yA(t:Nat):Builtin.Int.intBits ((2^(t+1)-1:Nat):Int)=t+1:=by
 have hp:=Nat.two_pow_pos t;have e2:2^(t+1)=2*2^t:=by rw[Nat.pow_succ,Nat.mul_comm]
 have h1:Builtin.Int.intBits ((2^(t+1)-1:Nat):Int)<=t+1:=o5 (by omega);have h2:¬Builtin.Int.intBits ((2^(t+1)-1:Nat):Int)<=t:=λh=>by have:=intBits_le_iff.mp h;rw[Int.natAbs_natCast] at this;omega
 omega
theorem yB(m:Nat):m<2^Builtin.Int.intBits (m:Int):=by have:=(intBits_le_iff (m:=Builtin.Int.intBits (m:Int)) (x:=(m:Int))).mp (Qk _);simpa using this
end Mm
namespace Mm
open PySem L2
theorem lP{X:Cx}{K:W.Frag}(h:X.K=K):eS X (iq K):=by subst h;exact oN
theorem yC{X:Cx}{K:W.Frag}(hK:X.K=K):cD X (.builtin "len") (λxs H Q=>∃p ys,xs=[.ref p]/\(ae K H p ys∨aW K H p ys)/\Q (.int ys.length) H):=by subst hK;exact fX
theorem b5{X:Cx}{K:W.Frag}{o e:Expr}{es:List Expr}{to:TE}{t:TA}{name:Str}{apos CI:Pos}{T id:String}{r:V->List V->Hp->VK->Prop}(hK:X.K=K)(pa:PlainAttrs T)(slot:Slot T name id)(hty:typeOf (.builtin id)=pure (.type "method_descriptor"))(hm:fW X id r)(ho:PE X o to)(ha:PA X (e::es) t)
  (CS:attributeBase o name X.env (eval o X.env)=eval o X.env:=by rfl)
  (DA:((backTo CI (starEach (e::es) X.env)).all (λx=>!x.1)&&(backToKw CI (keywordEach [] X.env)).all (λx=>x.1.isSome)
   && decide ((e::es).length+([]:List Keyword).length+(if([]:List Keyword).isEmpty then 0 else 1)<30))=true:=by rfl)
  (CZ:(apos.endLine==CI.line)=true:=by rfl) (hs:starEach (e::es) X.env=(false,eval e X.env)::starEach es X.env:=by rfl) (Db:(backTo CI (starEach es X.env)).any (·.1)=false:=by rfl) :
  PE X (.Call (.Attribute o name apos) (e::es) [] CI) (lz K T r to t):=by
 subst hK;exact jE pa slot hty hm ho ha CS DA CZ hs Db
theorem lQ{v:V}{i:Nat}{b:TS}{D:bO}{σ:St}{H:Hp}(h:b D (σ.set i (some v)) H):ic (jt (tC v) (a7 i)) b D σ H:=h
theorem pK{c:TT}{t u:TS}{D:bO}{σ:St}{H:Hp}(B:Bool->Hp->Prop)(h1:∀R:Bool->Hp->Prop,(∀b H1,B b H1->R b H1)->c σ H R)(h2:∀H1,B true H1->t D σ H1)(h3:∀H1,B false H1->u D σ H1):jq c t u D σ H:=
 h1 _ λb H1 hb=>by
  cases b with
  |true=>exact(if_pos rfl:(if true=true then t D σ H1 else u D σ H1)=_) ▸ h2 H1 hb
  |false=>exact(if_neg Qf:(if false=true then t D σ H1 else u D σ H1)=_) ▸ h3 H1 hb
theorem lR{c:TT}{t u b:TS}{D:bO}{σ:St}{H:Hp}(P:St->Hp->Prop)(h1:∀R:St->Hp->Prop,(∀σ' H',P σ' H'->R σ' H')->jq c t u {D with nx:=R} σ H)(h2:∀σ' H',P σ' H'->b D σ' H'):ic (jq c t u) b D σ H:=h1 (b D) h2
theorem gL{wi:TI}{g:TG}{tb b:TS}{D:bO}{σ:St}{H:Hp}(P:St->Hp->Prop)(h1:∀R:St->Hp->Prop,(∀σ' H',P σ' H'->R σ' H')->kT wi g tb {D with nx:=R} σ H)(h2:∀σ' H',P σ' H'->b D σ' H'):ic (kT wi g tb) b D σ H:=h1 (b D) h2
end Mm
namespace L2
open PySem PySem.Spec PyProof.Rows
section
variable {X:Cx}
theorem pL:∀{l:List (Str×Tok)},aG ((l.map (·.1)).map V.str) (strValues l)
 | []=>.nil
 |(x,t)::r=>.cons ⟨t,rfl⟩ (pL (l:=r))
def yD:V->List V->Hp->VK->Prop:=λx vs H Q=>∃a b:Str,x=.str a/\vs=[.str b]/\(b.length==0)=false/\a.length+2<=sizeLine/\∀p,H p=none->Q (.ref p) (ai H p (.lst ((Txt.split a b).map V.str)))
theorem eZ:jF X "str.split" yD:=by
 intro kb s σ H x vs v us Q I rx rv h;obtain⟨a,b,rfl,rfl,hb,hz,q⟩:=h;obtain⟨t,rfl⟩:=rx;obtain⟨u,rfl,u',rfl⟩:=rv.one;have hs:=split_le a b
 have fin:∀(l:List (Str×Tok)) (tk:Nat),l.map (·.1)=Txt.split a b->EP X kb σ Q (.ref s.heap.objs.size) {s with heap:=s.heap.push {cls:=.type "list",data:=.seq (strValues l).toArray},toks:=tk}:=λl tk e =>
  ⟨.ref s.heap.objs.size,_,I.lnew (ys:=(Txt.split a b).map V.str) (by rw[<-e];exact pL) (by rw[Qb];lia),rfl,q _ I.fresh⟩
 cases h1:(decide (a.length<b.length)||decide (Builtin.Str.strKind a<Builtin.Str.strKind b))
 ·cases hf:(Builtin.Str.occurrences a b 0 a.length (a.length+1)).isEmpty
  ·have e:Txt.split a b=Builtin.Str.partsBetween a (Builtin.Str.occurrences a b 0 a.length (a.length+1)) b.length:=(if_neg (ne_true_of_eq_false h1)).trans (if_neg (ne_true_of_eq_false hf));refine call_meets F.slot_str_split (typeIs_str _ _ _) F.entry_str_split (F.args_str_split_2 _ _) (meets_str_split_sep a b t u' h1 hb hf (by lia) (by rw[<-e];lia)) ?_;rw[strsFrom_eq];exact fin (numbered s.toks _) _ ((numbered_texts _ _).trans e.symm)
  exact call_meets F.slot_str_split (typeIs_str _ _ _) F.entry_str_split (F.args_str_split_2 _ _) (meets_str_split_not_found a b t u' h1 hb hf) (fin [(a,t)] _ ((if_neg (ne_true_of_eq_false h1)).trans (if_pos hf)).symm)
 exact call_meets F.slot_str_split (typeIs_str _ _ _) F.entry_str_split (F.args_str_split_2 _ _) (meets_str_split_cannot_occur a b t u' h1) (fin [(a,t)] _ (if_pos h1).symm)
theorem lS:fW X "str.startswith" (λx xs H Q=>∃a b,x=.str a/\xs=[.str b]/\Q (.bl (0+b.length<=a.length&&Builtin.Str.subAt a b 0)) H):=by intro kb s σ H x xs v us Q I rx rs h;obtain⟨a,b,rfl,rfl,q⟩:=h;obtain⟨t,rfl⟩:=rx;obtain⟨u,rfl,t',rfl⟩:=vals1 rs;exact call_gives PySem.F.slot_str_startswith (typeIs_str s a t) PySem.F.entry_str_startswith (PySem.F.args_str_startswith_2 _ _) (gives_str_startswith a b t t') ⟨.bl _,H,I,rfl,q⟩
theorem pM:∀{zs:List Str} {us:List Value},aG (zs.map V.str) us->StrsAre us zs
 | [],_,r=>by cases r;exact .nil
 |z::zs,_,r=>by
  cases r with
  |cons h t=>obtain⟨k,rfl⟩:=h;exact .cons _ _ (pM t)
theorem yE{K:W.Frag}(hK:X.K=K):jF X "str.join" (λx xs H Q=>∃(a:Str) (l:Addr) (zs:List Str),x=.str a/\xs=[.ref l]/\ae K H l (zs.map V.str)/\a.length<=16/\(zs.map (·.length)).sum+zs.length<=1048576/\Q (.str (Str.join a zs)) H):=by intro kb s σ H x xs v us Q I rx rs h;obtain⟨a,l,zs,rfl,rfl,hq,ha,hw,q⟩:=h;subst hK;obtain⟨t,rfl⟩:=rx;obtain⟨u,rfl,ru⟩:=rs.one;cases ru;obtain⟨its,rv,p,hz⟩:=I.list hq;refine join_listW (items:=its.toArray) p.isList (by simpa using pM rv) ha hw λt' k=>?_;exact⟨.str _,H,I.tok _,⟨t',rfl⟩,by rw[show Txt.join a zs=Str.join a zs from StrLaws.glued_eq_join a zs];exact q⟩
theorem yF{body:List Stmt}{h₀:ExceptHandler}{hs:List ExceptHandler}{t:TS}{pos:Pos}(h:cb X.nox body t):PS X (.Try body (h₀::hs) [] [] pos) t:=by
 intro kb s σ H D I q;refine wpAny_Try_except (QJ (h kb s σ H D (I.wish _) q) (λf s1 z=>?_) λ_ _ z=>False.elim z)
 cases f with
 |next=>obtain⟨σ1,H1,I1,q1⟩:=z;exact wpAny_execs_nil ⟨σ1,H1,I1.unwish,q1⟩
 |ret v=>obtain⟨x,σ1,H1,I1,r,q1⟩:=z;exact⟨x,σ1,H1,I1.unwish,r,q1⟩
 |brk=>obtain⟨σ1,H1,I1,q1⟩:=z;exact⟨σ1,H1,I1.unwish,q1⟩
 |cont=>obtain⟨σ1,H1,I1,q1⟩:=z;exact⟨σ1,H1,I1.unwish,q1⟩
end
noncomputable def lT(K:W.Frag)(a:Addr):It:=⟨λi H=>∃xs x,ae K H a xs/\xs[i]?=some x,λi H x H'=>∃(t:Addr) (y:V),(∀xs,ae K H a xs->xs[i]?=some y)/\H t=none/\x=.ref t/\H'=ai H t (.tup [.int ((i:Nat):Int),y]),λi H=>∃xs,ae K H a xs/\xs.length<=i⟩
theorem yG{P:Program}{w:World}{K:W.Frag}{D3:List Expr}{k:Nat}{Dz:Pos}(a e it:Addr)(hei:e≠it) :
  dk P w K (.Tuple D3 k Dz) (lT K a) [e,it] e (λi h=>(∃old,IsEnum h e it i old)/\h.IsListIter it a i) where
 mem:=by simp
 obj:=λi h st b hb=>by
  rcases (show b=e∨b=it by simpa using hb) with z|z
  ·subst z;obtain⟨⟨old,he⟩,_⟩:=st;exact⟨_,he,λv z=>by cases z⟩
  subst z;obtain⟨_,o,e,c,d⟩:=st;exact⟨o,e,λv z=>by rw[d] at z;cases z⟩
 keep:=λi h h' st kk=>⟨by obtain⟨old,he⟩:=st.1;exact⟨old,kk e (by simp) _ he⟩,st.2.at λo q=>kk it (by simp) o q⟩
 item:=by
  intro X hP hw hK hc i kb s σ H E I hf st hg;subst hP hw hK;obtain⟨xs,x,hq,hx⟩:=hg;obtain⟨its,rv,p,hz⟩:=I.list hq;obtain⟨u,hu,ru⟩:=rv.get hx;obtain⟨⟨old,he⟩,Di⟩:=st;obtain⟨e0,e1,e2,e3,e4,e5⟩:=hf e (by simp);obtain⟨f0,f1,f2,f3,f4,f5⟩:=hf it (by simp);refine wpAny_pyNext_enum_item he Di p.isList (x:=u) (by simpa using hu) hei λh1 ho hit1 ht hsz kk=>?_;refine⟨_,rfl,?_⟩;have hel:e<s.heap.objs.size:=Qm he;have DI:it<s.heap.objs.size:=by obtain⟨_,q,_⟩:=Di;exact Qm q
  refine wpAny_letOwnedTupleGo_enum (s:={s with heap:=h1,toks:=s.toks+1}) ho λh2 he2 Da=>?_;have Da:Heap.SameBut e h1 h2:=Da;have Ei:∀b o,b≠e->b≠it->s.heap.get? b=some o->h2.get? b=some o:=λb o q1 q2 q=>(Da.2 b q1).trans (kk b o q1 q2 q);have Ex:h2.get? s.heap.objs.size=some {cls:=.type "tuple",data:=.seq #[.int i s.toks,u]}:=(Da.2 _ (Nat.ne_of_gt hel)).trans ht;have hT:H s.heap.objs.size=none:=I.fresh
  have I2:Inv X kb σ (ai H s.heap.objs.size (.tup [.int ((i:Nat):Int),x])) {s with heap:=h2,toks:=s.toks+1}:=by
   refine I.call' (ch:=[e,it]) rfl ⟨λb o q hn hb hx=>?_,λb o q hn hb hx=>?_,λb o q hn hx=>?_,λb o q hx=>?_,λb ys q=>?_,λb o v q=>?_,λb ps q=>?_⟩ (λb v q=>?_) I.bare λb hb=>?_
   ·exact Ei b o (λz=>hx (by simp[z])) (λz=>hx (by simp[z])) q
   ·exact⟨o.slots,Ei b o (λz=>hx (by simp[z])) (λz=>hx (by simp[z])) q⟩
   ·rw[am (Qy (Qm q))];exact hn
   ·exact⟨o,Ei b o (λz=>hx (by simp[z])) (λz=>hx (by simp[z])) q⟩
   ·rw[am (aH q hT)];exact q
   ·rw[am (aH q hT)];exact q
   ·exact⟨#[],by rw[am (aH q hT)];simpa using q⟩
   ·by_cases hb:b=s.heap.objs.size
    ·subst hb;rw[af] at q;cases q;exact⟨dH,[.int i s.toks,u],.cons ⟨_,rfl⟩ (.cons ru .nil),⟨_,Ex,rfl,_,rfl⟩,_,Ex,rfl⟩
    rw[am hb] at q;have EK:b≠e:=λz=>by rw[z,e0] at q;cases q
    have hni:b≠it:=λz=>by rw[z,f0] at q;cases q
    refine(I.hok b v q).stay (λc o hcb z=>Ei c o (λy=>?_) (λy=>?_) z) (λc z=>by rw[am (aH z hT)];exact z) λc ys z=>by rw[am (aH z hT)];exact z
    ·rcases hcb with r|r
     ·exact EK (r ▸ y)
     rw[y,e0] at r;cases r
    rcases hcb with r|r
    ·exact hni (r ▸ y)
    rw[y,f0] at r;cases r
   rcases (show b=e∨b=it by simpa using hb) with z|z
   ·subst z;exact⟨e3,e1,e4,e5⟩
   subst z;exact⟨f3,f1,f4,f5⟩
  refine⟨.ref s.heap.objs.size,_,I2,rfl,⟨_,x,λys hy=>by rw[I.list_inj hy hq];exact hx,hT,rfl,rfl⟩,⟨⟨u,by simpa using he2⟩,hit1.at λo q=>(Da.2 it hei.symm).trans q⟩,λb hb=>?_⟩;rcases (show b=e∨b=it by simpa using hb) with z|z
  ·subst z;rw[am (Qy hel)];exact e0
  subst z;rw[am (Qy DI)];exact f0
 done:=by
  intro X hP hw hK hc i kb s σ H E I hf st hg;subst hP hw hK;obtain⟨xs,hq,hx⟩:=hg;obtain⟨its,rv,p,hz⟩:=I.list hq;obtain⟨f0,f1,f2,f3,f4,f5⟩:=hf it (by simp);obtain⟨⟨old,he⟩,Di⟩:=st;have hl:=rv.length
  exact wpAny_pyNext_enum_end (I.ok.hd hc) he Di p.isList (by simp;lia) λh' eb=>⟨rfl,I.turned (t':=s.toks) (λb o hb q=>eb b o hb q) f0 f1 f3 f4 f5⟩
 self:=λ_ _ _ _ _ st h=>by obtain⟨⟨old,he⟩,_⟩:=st;exact wpAny_pyIter_enum he h
section
variable {X:Cx}
def yH(K:W.Frag)(ta:TA):TI:=λσ H R=>ta σ H λvs H1=>∃a xs,vs=[.ref a]/\ae K H1 a xs/\R (lT K a) H1
theorem lU{a:Expr}{ta:TA}{p pos Dz:Pos}{D3:List Expr}{k:Nat}(hg:Gl X "enumerate")(hm:X.mg "enumerate"=none)(ha:PA X [a] ta)(hs:starEach [a] X.env=[(false,eval a X.env)]:=by rfl) :
  PI X (.Tuple D3 k Dz) (.Call (.Name "enumerate" p) [a] [] pos) (yH X.K ta):=by
 intro kb s σ H R I h;refine Call_ (fG I hg hm boot_enumerate (PyProof.Rows.callWith_type1 (az (ha pos kb s σ H _ I h) λus s1 hsl57=>?_) hs rfl));obtain⟨vs,H1,I1,r1,q1⟩:=hsl57;obtain⟨l,xs,e,hq,q⟩:=q1;subst e;obtain⟨u,rfl,ru⟩:=vals1 r1;cases ru;obtain⟨its,rv,pp,hz⟩:=I1.list hq;refine call_enumerate_list pp.isList λh' he Di hsz kk=>?_;refine wpAny_pyIter_enum (s:={s1 with heap:=h'}) he ?_;refine⟨s1.heap.objs.size+1,[s1.heap.objs.size+1,s1.heap.objs.size],_,_,H1,rfl,I1.kept (t':=s1.toks) kk,yG l _ _ (Nat.succ_ne_self _),⟨⟨_,he⟩,Di⟩,λb hb=>?_,q⟩;rcases (show b=s1.heap.objs.size+1∨b=s1.heap.objs.size by simpa using hb) with z|z
 ·subst z;exact I1.fpOk (Nat.le_succ _) (I1.hok.fresh (Nat.le_succ _))
 subst z;exact I1.fpOk (Qk _) (I1.hok.fresh (Qk _))
end
theorem yI{X:Cx}{K:W.Frag}{es:List Expr}{k:Nat}{pos:Pos}{t:eP}{n:Nat}(hK:X.K=K)(hc:X.calm=true)(h:gy X es t)
  (hn:(assignEach es X.env).length=n:=by rfl) (CL:(assignEach es X.env).findIdx? (·.1)=none:=by rfl):PG X (.Tuple es k pos) (jr K n t):=by
 subst hK;exact kS hc h hn CL
section
variable {k:Nat}{js:List Nat}{g:TG}{tt:TT}{te:TE}
theorem pN{K:W.Frag}{a:Addr}{xs:List V}{σ:St}{H:Hp}{Q:VK}(Pv:Nat->List V->Hp->Prop)(h0:Pv 0 [] H)(hl:∀i ys H,i<=xs.length->Pv i ys H->ae K H a xs)
  (hs:∀i x ys H,xs[i]?=some x->Pv i ys H->iB k js g tt te σ ys (Pv (i+1)) x H)
  (hd:∀ys H,Pv xs.length ys H->∀p,H p=none->Q (.ref p) (ai H p (.lst ys))):jP (eu K a) k js g tt te σ H Q:=by
 refine⟨λi m ys H=>m=xs.length-i/\i<=xs.length/\Pv i ys H,⟨xs.length,by simp,Ql _,h0⟩,?_⟩;rintro i m ys H ⟨rfl,hi,p⟩;have q:=hl i ys H hi p;by_cases CU:i<xs.length
 ·refine .inr ⟨⟨xs,xs[i],q,by simp[CU]⟩,Pv (i+1),λDF H' p'=>⟨xs.length-(i+1),by lia,rfl,CU,p'⟩,λx H' y=>?_⟩;obtain⟨e,y⟩:=y;subst e;exact hs i x ys _ (y xs q) p
 have e:i=xs.length:=by lia
 subst e;exact .inl ⟨⟨xs,q,Qk _⟩,hd ys H p⟩
theorem lV{K:W.Frag}{a:Addr}{xs:List V}{σ:St}{H:Hp}{Q:VK}(Pv:Nat->List V->Hp->Prop)(h0:Pv 0 [] H)(hl:∀i ys H,i<=xs.length->Pv i ys H->ae K H a xs)
  (hs:∀i x ys H t,xs[i]?=some x->Pv i ys H->H t=none->iB k js g tt te σ ys (Pv (i+1)) (.ref t) (ai H t (.tup [.int ((i:Nat):Int),x])))
  (hd:∀ys H,Pv xs.length ys H->∀p,H p=none->Q (.ref p) (ai H p (.lst ys))):jP (lT K a) k js g tt te σ H Q:=by
 refine⟨λi m ys H=>m=xs.length-i/\i<=xs.length/\Pv i ys H,⟨xs.length,by simp,Ql _,h0⟩,?_⟩;rintro i m ys H ⟨rfl,hi,p⟩;have q:=hl i ys H hi p;by_cases CU:i<xs.length
 ·refine .inr ⟨⟨xs,xs[i],q,by simp[CU]⟩,Pv (i+1),λDF H' p'=>⟨xs.length-(i+1),by lia,rfl,CU,p'⟩,λx H' y=>?_⟩;obtain⟨t,y,hy,hn,rfl,rfl⟩:=y;exact hs i y ys _ t (hy xs q) p hn
 have e:i=xs.length:=by lia
 subst e;exact .inl ⟨⟨xs,q,Qk _⟩,hd ys H p⟩
end
mutual
inductive be (K:W.Frag) (H:Hp):V->PyData->Prop
 |non:be K H .non .none
 |bl (b:Bool):be K H (.bl b) (.bool b)
 |int (i:Int):be K H (.int i) (.int i)
 |str (x:Str):be K H (.str x) (.str x)
 |lst {a:Addr} {xs:List V} {ds:List PyData}:ae K H a xs->RdvA K H xs ds->be K H (.ref a) (.list ds)
 |tup {a:Addr} {xs:List V} {ds:List PyData}:aW K H a xs->RdvA K H xs ds->be K H (.ref a) (.tuple ds)
inductive RdvA (K:W.Frag) (H:Hp):List V->List PyData->Prop
 |nil:RdvA K H [] []
 |cons {x:V} {d:PyData} {xs:List V} {ds:List PyData}:be K H x d->RdvA K H xs ds->RdvA K H (x::xs) (d::ds)
end
section
variable {X:Cx}{kb:List (Addr×Obj)}{σ:St}{H:Hp}{s:Shared}
mutual
theorem be.reads(I:Inv X kb σ H s):∀{x:V} {d:PyData} {u:Value},be X.K H x d->RelV x u->∃as,Reads s.heap u d as
 |_,_,_,.non,r=>by cases r;exact⟨_,.none⟩
 |_,_,_,.bl b,r=>by cases r;exact⟨_,.bool b⟩
 |_,_,_,.int i,r=>by obtain⟨t,rfl⟩:=r;exact⟨_,.int i t⟩
 |_,_,_,.str x,r=>by obtain⟨t,rfl⟩:=r;exact⟨_,.str x t⟩
 |_,_,_,.lst hq ha,r=>by cases r;obtain⟨its,rv,p,_⟩:=I.list hq;obtain⟨as,ra⟩:=RdvA.reads I ha rv;obtain⟨o,ho,hc,n,hd⟩:=p.isList;exact⟨_,.list ho hc hd (by simpa using ra)⟩
 |_,_,_,.tup hq ha,r=>by cases r;obtain⟨its,rv,p,_⟩:=I.tuple hq;obtain⟨as,ra⟩:=RdvA.reads I ha rv;obtain⟨o,ho,hc,n,hd⟩:=p;exact⟨_,.tuple ho hc hd (by simpa using ra)⟩
theorem RdvA.reads(I:Inv X kb σ H s):∀{xs:List V} {ds:List PyData} {us:List Value},RdvA X.K H xs ds->aG xs us->∃as,ReadsAll s.heap us ds as
 |_,_,_,.nil,r=>by cases r;exact⟨_,.nil⟩
 |_,_,_,.cons h t,r=>by
  cases r with
  |cons r1 r2 =>
   obtain⟨as,ra⟩:=be.reads I h r1;obtain⟨bs,rb⟩:=RdvA.reads I t r2;exact⟨_,.cons ra rb⟩
end
end
section
variable {X:Cx}
theorem eH{K:W.Frag}(hK:X.K=K)(hu:X.A.units+64<cLine):a9 X (compareOp .Eq) (λx y H Q=>∃d e,be K H x d/\be K H y e/\SeqAt.shaped d=true/\SeqAt.shaped e=true/\Q (.bl (PyData.eqv d e)) H):=by intro kb s σ H x y v u Q I rx ry h;subst hK;obtain⟨d,e,h1,h2,s1,s2,q⟩:=h;obtain⟨as,ra⟩:=h1.reads I rx;obtain⟨bs,rb⟩:=h2.reads I ry;exact eq_dataH ra rb s1 s2 hu ⟨.bl _,H,I,rfl,q⟩
theorem cf{K:W.Frag}(hK:X.K=K)(hu:X.A.units+64<cLine):a9 X (compareOp .NotEq) (λx y H Q=>∃d e,be K H x d/\be K H y e/\SeqAt.shaped d=true/\SeqAt.shaped e=true/\Q (.bl (!PyData.eqv d e)) H):=by intro kb s σ H x y v u Q I rx ry h;subst hK;obtain⟨d,e,h1,h2,s1,s2,q⟩:=h;obtain⟨as,ra⟩:=h1.reads I rx;obtain⟨bs,rb⟩:=h2.reads I ry;exact ne_dataH ra rb s1 s2 hu ⟨.bl _,H,I,rfl,q⟩
end
theorem yJ(bs:List Bool):((List.range bs.length).any λi=>bs.getD i false)=bs.any id:=by
 have:(List.range bs.length).map (λi=>bs.getD i false)=bs:=by
  apply List.ext_getElem
  ·simp
  intro i h1 h2;simp at h1;simp[h1]
 calc ((List.range bs.length).any λi=>bs.getD i false)=((List.range bs.length).map λi=>bs.getD i false).any id:=by rw[List.any_map];rfl
  _=bs.any id:=by rw[this]
section
variable {X:Cx}
theorem yK(hc:X.calm=true):cD X (.builtin "any") (λxs H Q=>∃(p:Addr) (bs:List Bool),xs=[.ref p]/\ae X.K H p (bs.map V.bl)/\Q (.bl (bs.any id)) H):=by
 intro kb s σ H xs us Q I r h;obtain⟨p,bs,rfl,hq,q⟩:=h;obtain⟨u,rfl,ru⟩:=vals1 r;cases (show u=Value.ref p from ru);obtain⟨its,rv,pl,hz⟩:=I.list hq;have CN:its.length=bs.length:=by rw[<-rv.length,Qb]
 have CU:p<s.heap.objs.size:=by obtain⟨o,n,e,_⟩:=pl;exact Qm e
 refine call_any_walk (wpAny_pyIter_list pl.isList ?_);refine⟨s.heap.objs.size,_,_,_,_,_,λi=>bs.getD i false,rfl,Walks.list (A:=X.A.in1) (show X.A.in1.handled=none from I.ok.hd hc) _ p (Qy CU) its.toArray,⟨⟨_,Qt _ rfl,rfl,rfl⟩,Heap.IsList.at pl.isList λo e=>Qh _ e⟩,?_,λh' tk hk=>?_⟩
 ·intro i v s' Q' E' hv DT;have e:its[i]?=some v:=by simpa using hv
  rw[o8 rv e];exact wpAny_truthy_bool DT
 refine⟨.bl _,H,I.kept λb o e=>hk b o ?_ (Qh _ e),rfl,?_⟩
 ·intro z;have z':b=s.heap.objs.size:=by simpa using z
  exact QN _ (z' ▸ Qm e)
 have e:its.toArray.size=bs.length:=by rw[Qv];exact CN
 rw[e,yJ];exact q
end
theorem yL:bootBuiltins "any"=some (.builtin "any"):=by decide +kernel
def bR(n:Nat)(d:PyData):Prop:=d.canLay0=true/\d.depth<=n
theorem bR.int(i:Int):bR 0 (.int i):=⟨rfl,Qk _⟩
theorem bR.str{z:Str}(h:∀c∈z.cps.toList,c<128):bR 0 (.str z):=⟨by
 show PyData.strOk z=true;unfold PyData.strOk;rw[Array.all_eq_true];intro i hi;have:=h z.cps[i] (by simp);simp only[decide_eq_true_eq]
 lia,Qk _⟩
theorem lW{n:Nat}:∀{ds:List PyData},(∀d∈ds,bR n d)->PyData.canLayAll0 ds=true/\PyData.depthAll ds<=n
 | [],_=>⟨rfl,Ql _⟩
 |d::r,h=>by obtain⟨a,b⟩:=h d Qp;obtain⟨c,e⟩:=lW (ds:=r) λx hx=>h x (Qr _ hx);exact⟨by simp only[PyData.canLayAll0];rw[a,c];rfl,by simp only[PyData.depthAll];lia⟩
theorem bR.list{n:Nat}{ds:List PyData}(h:∀d∈ds,bR n d):bR (n+1) (.list ds):=⟨by simp only[PyData.canLay0];exact(lW h).1,by simp only[PyData.depth];have:=(lW h).2;lia⟩
theorem bR.ok{n:Nat}{d:PyData}(h:bR n d)(hn:n<=64):SeqAt.shaped d=true:=by show(d.canLay0&&decide (d.depth<=64))=true;rw[h.1,Qo (Qg h.2 hn)];rfl
theorem RdvA.map{α:Type}{K:W.Frag}{H:Hp}{f:α->V}{g:α->PyData}:∀{l:List α},(∀x∈l,be K H (f x) (g x))->RdvA K H (l.map f) (l.map g)
 | [],_=>.nil
 |x::r,h=>.cons (h x Qp) (RdvA.map λy hy=>h y (Qr _ hy))
theorem be.strs{K:W.Frag}{H:Hp}{a:Addr}{zs:List Str}(h:ae K H a (zs.map V.str)):be K H (.ref a) (.list (zs.map PyData.str)):=.lst h (RdvA.map λx _=>.str x)
end L2
namespace Mm
inductive W where
 |c0|c1|sw (k:Nat)|no (a:W)|an (a b:W)|orr (a b:W)|xo (a b:W)|ch (k:Nat) (a b:W)
noncomputable def W.signs:W->List Nat
 |.c0=>[48]
 |.c1=>[49]
 |.sw k=>[97+k]
 |.no a=>33::a.signs
 |.an a b=>38::(a.signs++b.signs)
 |.orr a b=>124::(a.signs++b.signs)
 |.xo a b=>94::(a.signs++b.signs)
 |.ch k a b=>63::(97+k)::(a.signs++b.signs)
def W.ok(n:Nat):W->Prop
 |.c0=>True
 |.c1=>True
 |.sw k=>k<n
 |.no a=>a.ok n
 |.an a b=>a.ok n/\b.ok n
 |.orr a b=>a.ok n/\b.ok n
 |.xo a b=>a.ok n/\b.ok n
 |.ch k a b=>k<n/\a.ok n/\b.ok n
noncomputable def dw:List W->List Nat
 | []=>[]
 |w::r=>w.signs++dw r
def dy(n:Nat)(ws:List W):Prop:=∀w∈ws,w.ok n
theorem dy.cons{n:Nat}{w:W}{ws:List W}(h:w.ok n)(hs:dy n ws):dy n (w::ws):=λx hx=>by
 rcases Qs hx with e|e
 ·subst e;exact h
 exact hs x e
theorem dy.hd{n:Nat}{w:W}{ws:List W}(h:dy n (w::ws)):w.ok n:=h w Qp
theorem dy.tl{n:Nat}{w:W}{ws:List W}(h:dy n (w::ws)):dy n ws:=λx hx=>h x (Qr _ hx)
theorem dy.nil{n:Nat}:dy n []:=λx hx=>nomatch hx
noncomputable def bo(c:Nat):Nat:=if c=33 then 1 else if c=38 then 2 else if c=124 then 2 else if c=94 then 2 else if c=63 then 3 else 0
noncomputable def d3(c:Nat):Bool:=decide (97<=c)&&decide (c<107)
noncomputable def f8(full c:Nat)(ps:List Nat):Nat:=
 if c=33 then full^^^ps.getD 0 0 else if c=38 then ps.getD 0 0&&&ps.getD 1 0 else if c=124 then ps.getD 0 0|||ps.getD 1 0
 else if c=94 then ps.getD 0 0^^^ps.getD 1 0 else(ps.getD 0 0&&&ps.getD 1 0)|||((full^^^ps.getD 0 0)&&&ps.getD 2 0)
noncomputable def fc(sws:List Nat)(full c:Nat):Option Nat:=if c=48 then some 0 else if c=49 then some full else if d3 c=true then sws[c-97]? else none
noncomputable def iD:List Nat->Bool
 | []=>true
 |c::_=>d3 c
noncomputable def dQ(sws:List Nat)(full c:Nat)(CH:List Nat)(st:List Nat):Option (List Nat):=
 if st.length<bo c then none else if c=63/\iD CH=false then none
 else if 0<bo c then some (f8 full c (st.take (bo c))::st.drop (bo c)) else(fc sws full c).map (·::st)
noncomputable def bG(sws:List Nat)(full:Nat):List Nat->Option (List Nat)
 | []=>some []
 |c::CH=>(bG sws full CH).bind λst=>dQ sws full c CH st
noncomputable def W.val(sws:List Nat)(full:Nat):W->Nat
 |.c0=>0
 |.c1=>full
 |.sw k=>sws.getD k 0
 |.no a=>full^^^a.val sws full
 |.an a b=>a.val sws full&&&b.val sws full
 |.orr a b=>a.val sws full|||b.val sws full
 |.xo a b=>a.val sws full^^^b.val sws full
 |.ch k a b=>(sws.getD k 0&&&a.val sws full)|||((full^^^sws.getD k 0)&&&b.val sws full)
theorem pO{k:Nat}(h:k<10):d3 (97+k)=true:=by simp[d3];omega
theorem pP{sws:List Nat}{full k:Nat}{CH st:List Nat}(hk:k<sws.length)(h10:k<10)(h:bG sws full CH=some st):bG sws full ((97+k)::CH)=some (sws.getD k 0::st):=by
 have n0:bo (97+k)=0:=by unfold bo;rw[if_neg (by lia),if_neg (by lia),if_neg (by lia),if_neg (by lia),if_neg (by lia)]
 have hv:fc sws full (97+k)=some (sws.getD k 0):=by unfold fc;rw[if_neg (by lia),if_neg (by lia),if_pos (pO h10),show 97+k-97=k by lia];simp[QA,Qc hk]
 simp only[bG,h,Option.bind_some];unfold dQ;rw[n0,if_neg (by lia),if_neg (by lia),if_neg (by lia),hv];rfl
theorem yM{sws:List Nat}{full n:Nat}(hn:n<=sws.length)(h10:n<=10):∀(w:W) (CH st:List Nat),w.ok n->bG sws full CH=some st->bG sws full (w.signs++CH)=some (w.val sws full::st):=by
 intro w
 induction w with
 |c0=>intro CH st _ h;simp[W.signs,W.val,bG,h,dQ,bo,fc]
 |c1=>intro CH st _ h;simp[W.signs,W.val,bG,h,dQ,bo,fc]
 |sw k=>intro CH st hk h;exact pP (Qe hk hn) (Qe hk h10) h
 |no a ih =>
  intro CH st hk h;have e:=ih CH st hk h;simp[W.signs,W.val,bG,e,dQ,bo,f8]
 |an a b iha ihb =>
  intro CH st hk h;have e:=iha _ _ hk.1 (ihb CH st hk.2 h);simp[W.signs,W.val,bG,e,dQ,bo,f8,List.append_assoc]
 |orr a b iha ihb =>
  intro CH st hk h;have e:=iha _ _ hk.1 (ihb CH st hk.2 h);simp[W.signs,W.val,bG,e,dQ,bo,f8,List.append_assoc]
 |xo a b iha ihb =>
  intro CH st hk h;have e:=iha _ _ hk.1 (ihb CH st hk.2 h);simp[W.signs,W.val,bG,e,dQ,bo,f8,List.append_assoc]
 |ch k a b iha ihb =>
  intro CH st hk h;have e:=iha _ _ hk.2.1 (ihb CH st hk.2.2 h);have e2:=pP (sws:=sws) (full:=full) (Qe hk.1 hn) (Qe hk.1 h10) e;have hl:d3 (97+k)=true:=pO (Qe hk.1 h10);have e3:(W.ch k a b).signs++CH=63::((97+k)::(a.signs++(b.signs++CH))):=by simp[W.signs,List.append_assoc]
  rw[e3];simp only[bG] at e2 ⊢;rw[e2,Option.bind_some];simp[dQ,bo,iD,hl,f8,W.val]
theorem iE{sws:List Nat}{full n:Nat}{w:W}(hn:n<=sws.length)(h10:n<=10)(h:w.ok n):bG sws full w.signs=some [w.val sws full]:=by have:=yM (full:=full) hn h10 w [] [] h rfl;simpa using this
theorem pQ{sws:List Nat}{full c:Nat}{CH st:List Nat}(h:bG sws full (c::CH)=some st):∃Dm,bG sws full CH=some Dm/\dQ sws full c CH Dm=some st:=by
 simp only[bG] at h
 cases e:bG sws full CH with
 |none=>rw[e] at h;cases h
 |some Dm=>rw[e] at h;exact⟨Dm,rfl,h⟩
theorem pR{sws:List Nat}{full:Nat}:∀(i:Nat) {l st:List Nat},bG sws full l=some st->∃Dm,bG sws full (l.drop i)=some Dm
 |0,_,st,h=>⟨st,h⟩
 |i+1,[],st,h=>⟨[],rfl⟩
 |i+1,c::l,st,h=>by obtain⟨Dm,h',_⟩:=pQ h;exact pR i h'
theorem jQ{sws:List Nat}{full N:Nat}(hf:full<2^N)(hs:∀x∈sws,x<2^N):∀w:W,w.val sws full<2^N:=by
 have hg:∀k,sws.getD k 0<2^N:=λk=>by
  rw[QA]
  cases e:sws[k]? with
  |none=>exact Nat.two_pow_pos N
  |some x=>exact hs x (QM e)
 intro w
 induction w with
 |c0=>exact Nat.two_pow_pos N
 |c1=>exact hf
 |sw k=>exact hg k
 |no a ih=>exact Nat.xor_lt_two_pow hf ih
 |an a b iha ihb=>exact Nat.and_lt_two_pow _ ihb
 |orr a b iha ihb=>exact Nat.or_lt_two_pow iha ihb
 |xo a b iha ihb=>exact Nat.xor_lt_two_pow iha ihb
 |ch k a b iha ihb=>exact Nat.or_lt_two_pow (Nat.and_lt_two_pow _ iha) (Nat.and_lt_two_pow _ ihb)
def Op(n:Nat)(t:List Nat)(k:Nat):Prop:=∀ws:List W,ws.length=k->dy n ws->∃w:W,w.ok n/\w.signs=t++dw ws
theorem Op.start{n:Nat}:Op n [] 1:=λws hl ho=>by
 match ws,hl with
 | [w],_=>exact⟨w,ho.hd,by simp[dw]⟩
theorem Op.leaf0{n k:Nat}{t:List Nat}(h:Op n t (k+1)):Op n (t++[48]) k:=λws hl ho=>by obtain⟨w,hw,e⟩:=h (.c0::ws) (by simp[hl]) (ho.cons trivial);exact⟨w,hw,by rw[e];simp[dw,W.signs]⟩
theorem Op.leaf1{n k:Nat}{t:List Nat}(h:Op n t (k+1)):Op n (t++[49]) k:=λws hl ho=>by obtain⟨w,hw,e⟩:=h (.c1::ws) (by simp[hl]) (ho.cons trivial);exact⟨w,hw,by rw[e];simp[dw,W.signs]⟩
theorem Op.leafL{n k j:Nat}{t:List Nat}(h:Op n t (k+1))(hj:j<n):Op n (t++[97+j]) k:=λws hl ho=>by obtain⟨w,hw,e⟩:=h (.sw j::ws) (by simp[hl]) (ho.cons hj);exact⟨w,hw,by rw[e];simp[dw,W.signs]⟩
theorem Op.no{n k:Nat}{t:List Nat}(h:Op n t (k+1)):Op n (t++[33]) (k+1):=λws hl ho=>by
 match ws,hl with
 |a::r,hl =>
  obtain⟨w,hw,e⟩:=h (.no a::r) (by simpa using hl) (ho.tl.cons ho.hd);exact⟨w,hw,by rw[e];simp[dw,W.signs]⟩
theorem Op.two{n k c:Nat}{t:List Nat}(hc:c=38∨c=124∨c=94)(h:Op n t (k+1)):Op n (t++[c]) (k+2):=λws hl ho=>by
 match ws,hl with
 |a::b::r,hl =>
  have hl':r.length=k:=by simpa using hl
  have oa:=ho.hd;have ob:=ho.tl.hd;have hr:=ho.tl.tl;rcases hc with rfl|rfl|rfl
  ·obtain⟨w,hw,e⟩:=h (.an a b::r) (by simp[hl']) (hr.cons ⟨oa,ob⟩);exact⟨w,hw,by rw[e];simp[dw,W.signs]⟩
  ·obtain⟨w,hw,e⟩:=h (.orr a b::r) (by simp[hl']) (hr.cons ⟨oa,ob⟩);exact⟨w,hw,by rw[e];simp[dw,W.signs]⟩
  obtain⟨w,hw,e⟩:=h (.xo a b::r) (by simp[hl']) (hr.cons ⟨oa,ob⟩);exact⟨w,hw,by rw[e];simp[dw,W.signs]⟩
theorem Op.ch{n k j:Nat}{t:List Nat}(h:Op n t (k+1))(hj:j<n):Op n (t++[63]++[97+j]) (k+2):=λws hl ho=>by
 match ws,hl with
 |a::b::r,hl =>
  have hl':r.length=k:=by simpa using hl
  obtain⟨w,hw,e⟩:=h (.ch j a b::r) (by simp[hl']) (ho.tl.tl.cons ⟨hj,ho.hd,ho.tl.hd⟩);exact⟨w,hw,by rw[e];simp[dw,W.signs]⟩
theorem Op.done{n:Nat}{t:List Nat}(h:Op n t 0):∃w:W,w.ok n/\w.signs=t:=by obtain⟨w,hw,e⟩:=h [] rfl dy.nil;exact⟨w,hw,by rw[e];simp[dw]⟩
end Mm
namespace Mm
open PySem L2 PyProof.Rows
theorem cV{a b:Str}(h:a.cps.toList=b.cps.toList):a=b:=by cases a;cases b;congr 1;exact Array.toList_inj.mp h
theorem str_len(z:Str):z.length=z.cps.toList.length:=by simp[Str.length]
theorem fe(a b:Str):(a++b).cps.toList=a.cps.toList++b.cps.toList:=Array.toList_append ..
noncomputable def jl(c:Nat):List (List Nat)->List Nat
 | []=>[]
 | [a]=>a
 |a::b::r=>a++c::jl c (b::r)
theorem join_list(c:Nat):∀zs:List Str,(Str.join ⟨#[c]⟩ zs).cps.toList=jl c (zs.map (·.cps.toList))
 | []=>rfl
 | [a]=>rfl
 |a::b::r=>by show(a++⟨#[c]⟩++Str.join ⟨#[c]⟩ (b::r)).cps.toList=a.cps.toList++c::jl c ((b::r).map (·.cps.toList));rw[fe,fe,join_list c (b::r)];simp
theorem pS{c:Nat}:∀{a b x y:List Nat},c∉a->c∉b->a++c::x=b++c::y->a=b/\x=y
 | [],[],_,_,_,_,h=>by simpa using h
 | [],q::b,x,y,_,hb,h=>by
  have:c=q:=by simpa using(List.cons.inj h).1
  exact absurd (by rw[this];exact Qp) hb
 |p::a,[],x,y,ha,_,h=>by
  have:p=c:=by simpa using(List.cons.inj h).1
  exact absurd (by rw[<-this];exact Qp) ha
 |p::a,q::b,x,y,ha,hb,h=>by obtain⟨e1,e2⟩:=List.cons.inj (show p::(a++c::x)=q::(b++c::y) from h);obtain⟨e3,e4⟩:=pS (λz=>ha (Qr _ z)) (λz=>hb (Qr _ z)) e2;exact⟨by rw[e1,e3],e4⟩
theorem pT{c:Nat}:∀{ps qs:List (List Nat)},ps≠[]->qs≠[]->(∀p∈ps,c∉p)->(∀q∈qs,c∉q)->jl c ps=jl c qs->ps=qs
 | [],_,h,_,_,_,_=>absurd rfl h
 |_,[],_,h,_,_,_=>absurd rfl h
 | [a],[b],_,_,_,_,h=>by rw[show a=b from h]
 | [a],b::b'::r,_,_,h1,_,h=>absurd (show c∈a by rw[show a=b++c::jl c (b'::r) from h];simp) (h1 a Qp)
 |a::a'::r,[b],_,_,_,h2,h=>absurd (show c∈b by rw[<-show a++c::jl c (a'::r)=b from h];simp) (h2 b Qp)
 |a::a'::r,b::b'::r',_,_,h1,h2,h=>by obtain⟨e1,e2⟩:=pS (h1 a Qp) (h2 b Qp) (show a++c::jl c (a'::r)=b++c::jl c (b'::r') from h);have ih:=pT (by simp) (by simp) (λp hp=>h1 p (Qr _ hp)) (λq hq=>h2 q (Qr _ hq)) e2;rw[e1,ih]
theorem jR{c d:Nat}:∀{ls:List (List Nat)},d∈jl c ls->d=c∨∃l∈ls,d∈l
 | [],h=>nomatch h
 | [a],h=>.inr ⟨a,Qp,h⟩
 |a::b::r,h=>by
  rcases Qx (show d∈a++c::jl c (b::r) from h) with h|h
  ·exact .inr ⟨a,Qp,h⟩
  rcases Qs h with h|h
  ·exact .inl h
  rcases jR h with h|⟨l,hl,hd⟩
  ·exact .inl h
  exact .inr ⟨l,Qr _ hl,hd⟩
theorem jS{c:Nat}:∀ls:List (List Nat),(jl c ls).length<=(ls.map List.length).sum+ls.length
 | []=>Ql _
 | [a]=>by simp[jl]
 |a::b::r=>by have:=jS (c:=c) (b::r);simp[jl] at this ⊢;lia
theorem yN{c:Nat}:∀{ls:List (List Nat)},ls≠[]->(∀l∈ls,l≠[])->jl c ls≠[]
 | [],h,_=>absurd rfl h
 | [a],_,h=>h a Qp
 |a::b::r,_,_=>by simp[jl]
theorem gM{c:Nat}{zs:List Str}(h0:zs≠[])(h:∀z∈zs,c∉z.cps.toList):Txt.split (Str.join ⟨#[c]⟩ zs) ⟨#[c]⟩=zs:=by
 have e1:=StrLaws.join_split (Str.join ⟨#[c]⟩ zs) ⟨#[c]⟩;have e2:=StrLaws.split_free (Str.join ⟨#[c]⟩ zs) c;have e3:=split_pos (Str.join ⟨#[c]⟩ zs) ⟨#[c]⟩;generalize Txt.split (Str.join ⟨#[c]⟩ zs) ⟨#[c]⟩=ps at e1 e2 e3;have e4:=congrArg (λz:Str=>z.cps.toList) e1;simp only[join_list] at e4
 have e5:=pT (c:=c) (by intro z;rw[List.map_eq_nil_iff] at z;rw[z] at e3;simp at e3) (by intro z;rw[List.map_eq_nil_iff] at z;exact h0 z) (by
  intro p hp;obtain⟨z,hz,rfl⟩:=Qn hp
  exact e2 z hz) (by
  intro p hp;obtain⟨z,hz,rfl⟩:=Qn hp
  exact h z hz) e4
 have inj:∀{as bs:List Str},as.map (λz=>z.cps.toList)=bs.map (λz=>z.cps.toList)->as=bs:=by
  intro as
  induction as with
  |nil=>intro bs hb;cases bs with
   |nil=>rfl
   |cons _ _=>simp at hb
  |cons a r ih=>intro bs hb;cases bs with
   |nil=>simp at hb
   |cons b q =>
    rw[List.map_cons,List.map_cons] at hb;obtain⟨h1,h2⟩:=List.cons.inj hb;rw[cV h1,ih h2]
 exact inj e5
inductive Ev where
 |op (v:W)|cl|pl (z:Str)
structure Pl(z:Str):Prop where
 sg:∀c∈z.cps.toList,33<=c/\c<=126
 hd:∃c r,z.cps.toList=c::r/\c≠60
 gt:z≠⟨#[62]⟩
noncomputable def aU(v:W):Str:=⟨v.signs.toArray⟩
noncomputable def wd:Ev->Str
 |.op v=>⟨(60::v.signs).toArray⟩
 |.cl=>⟨#[62]⟩
 |.pl z=>z
abbrev gN:=List (Str×List W)×List W
noncomputable def bX(st:gN):Ev->gN
 |.op v=>(st.1,st.2++[v])
 |.cl=>(st.1,st.2.dropLast)
 |.pl z=>(st.1++[(z,st.2)],st.2)
noncomputable def rn(evs:List Ev):gN:=evs.foldl bX ([],[])
def lX(n:Nat)(ar:List W):Ev->Prop
 |.op v=>v.ok n/\v.signs.length<=9/\ar.length<5
 |.cl=>ar≠[]
 |.pl z=>Pl z/\z.length<=5
def aP(n:Nat)(evs:List Ev):Prop:=∀i e,evs[i]?=some e->lX n (rn (evs.take i)).2 e
theorem iF(evs:List Ev)(e:Ev):rn (evs++[e])=bX (rn evs) e:=by simp[rn]
theorem jT{evs:List Ev}{i:Nat}{e:Ev}(h:evs[i]?=some e):rn (evs.take (i+1))=bX (rn (evs.take i)) e:=by rw[List.take_succ,h];exact iF _ _
theorem aP.nil(n:Nat):aP n []:=λi e h=>by simp at h
theorem aP.snoc{n:Nat}{evs:List Ev}{e:Ev}(g:aP n evs)(h:lX n (rn evs).2 e):aP n (evs++[e]):=λi e' hi=>by
 by_cases hl:i<evs.length
 ·rw[QE hl] at hi;rw[List.take_append_of_le_length (by lia)];exact g i e' hi
 rw[QB (by lia)] at hi
 have h0:i-evs.length=0:=by
  cases hh:i-evs.length with
  |zero=>rfl
  |succ m=>rw[hh] at hi;simp at hi
 rw[h0] at hi;have e1:e=e':=by simpa using hi
 have e2:i=evs.length:=by lia
 subst e1 e2;rw[List.take_append_of_le_length (Qk _),QI];exact h
theorem aP.close{n:Nat}:∀(k:Nat) {evs:List Ev},aP n evs->(rn evs).2.length=k->aP n (evs++List.replicate k .cl)/\rn (evs++List.replicate k .cl)=((rn evs).1,[])
 |0,evs,g,h=>by have:(rn evs).2=[]:=List.eq_nil_of_length_eq_zero h;refine⟨by simpa using g,?_⟩;simp only[List.replicate_zero,List.append_nil];rw[<-this]
 |k+1,evs,g,h=>by
  have hn:(rn evs).2≠[]:=λz=>by rw[z] at h;simp at h
  have g1:aP n (evs++[.cl]):=g.snoc hn;have e1:=iF evs .cl;obtain⟨g2,e2⟩:=aP.close k g1 (by rw[e1];show(rn evs).2.dropLast.length=k;rw[List.length_dropLast];lia);rw[List.replicate_succ,show evs++Ev.cl::List.replicate k Ev.cl=evs++[Ev.cl]++List.replicate k Ev.cl by simp];exact⟨g2,by rw[e2,e1];rfl⟩
theorem pU{n:Nat}(hn:n<=10):∀v:W,v.ok n->∀c∈v.signs,33<=c/\c<=126:=by
 intro v
 induction v with
 |c0=>intro _ c h;simp[W.signs] at h;lia
 |c1=>intro _ c h;simp[W.signs] at h;lia
 |sw k=>intro hk c h;have hk':k<n:=hk;simp[W.signs] at h;lia
 |no a ih =>
  intro hk c h;rcases Qs h with e|e
  ·lia
  exact ih hk c e
 |an a b iha ihb =>
  intro hk c h;rcases Qs h with e|e
  ·lia
  rcases Qx e with e|e
  ·exact iha hk.1 c e
  exact ihb hk.2 c e
 |orr a b iha ihb =>
  intro hk c h;rcases Qs h with e|e
  ·lia
  rcases Qx e with e|e
  ·exact iha hk.1 c e
  exact ihb hk.2 c e
 |xo a b iha ihb =>
  intro hk c h;rcases Qs h with e|e
  ·lia
  rcases Qx e with e|e
  ·exact iha hk.1 c e
  exact ihb hk.2 c e
 |ch k a b iha ihb =>
  intro hk c h;have hk':k<n:=hk.1;rcases Qs h with e|e
  ·lia
  rcases Qs e with e|e
  ·lia
  rcases Qx e with e|e
  ·exact iha hk.2.1 c e
  exact ihb hk.2.2 c e
theorem lY{n:Nat}(hn:n<=10){ar:List W}{e:Ev}(h:lX n ar e):(∀c∈(wd e).cps.toList,33<=c/\c<=126)/\(wd e).cps.toList≠[]/\(wd e).length<=10:=by
 cases e with
 |op v =>
  obtain⟨h1,h2,_⟩:=h;refine⟨λc hc=>?_,by simp[wd],by simp[wd,Str.length];lia⟩;rcases Qs (show c∈60::v.signs by simpa [wd] using hc) with z|z
  ·lia
  exact pU hn v h1 c z
 | cl=>exact ⟨fun c hc=>by have:c=62:=by simpa [wd] using hc
                           lia,by simp[wd],by decide⟩
 |pl z =>
  obtain⟨h1,h2⟩:=h;obtain⟨c,r,e,_⟩:=h1.hd;exact⟨h1.sg,by show z.cps.toList≠[];rw[e];simp,by show z.length<=10;lia⟩
theorem aP.wd{n:Nat}(hn:n<=10){evs:List Ev}(g:aP n evs):∀z∈evs.map wd,(∀c∈z.cps.toList,33<=c/\c<=126)/\z.cps.toList≠[]/\z.length<=10:=λz hz=>by obtain⟨e,he,rfl⟩:=Qn hz;obtain⟨i,hi⟩:=List.mem_iff_getElem?.mp he;exact lY hn (g i e hi)
theorem gO{l:List Nat}{b:Nat}(h:∀x∈l,x<=b):l.sum<=l.length*b:=by
 induction l with
 |nil=>simp
 |cons a r ih =>
  have h1:=h a Qp;have h2:=ih λx hx=>h x (Qr _ hx);simp only[List.sum_cons,QC,Nat.add_mul,Nat.one_mul];lia
noncomputable def aM(evs:List Ev):Str:=Str.join ⟨#[32]⟩ (evs.map Mm.wd)
theorem f9{n:Nat}(hn:n<=10){evs:List Ev}(g:aP n evs):(aM evs).length<=evs.length*11:=by
 rw[str_len,aM,join_list];refine Qg (jS _) ?_
 have:=gO (l:=((evs.map Mm.wd).map λz=>z.cps.toList).map List.length) (b:=10) (λx hx=>by
  obtain⟨l,hl,rfl⟩:=Qn hx;obtain⟨z,hz,rfl⟩:=Qn hl;have:=(g.wd hn z hz).2.2;rw[str_len] at this
  exact this)
 simp only[Qb] at this ⊢;lia
theorem lZ{n:Nat}(hn:n<=10){evs:List Ev}(g:aP n evs):∀c∈(aM evs).cps.toList,c=32∨(33<=c/\c<=126):=λc hc=>by
 rw[aM,join_list] at hc
 rcases jR hc with h|⟨l,hl,hd⟩
 ·exact .inl h
 obtain⟨z,hz,rfl⟩:=Qn hl;exact .inr ((g.wd hn z hz).1 c hd)
theorem yO{n:Nat}(hn:n<=10){evs:List Ev}(g:aP n evs)(h:evs≠[]):(aM evs).cps.toList≠[]:=by rw[aM,join_list];refine yN (by simpa using h) λl hl=>?_;obtain⟨z,hz,rfl⟩:=Qn hl;exact(g.wd hn z hz).2.1
theorem yP{n:Nat}(hn:n<=10){evs:List Ev}(g:aP n evs)(h:evs≠[]):Txt.split (aM evs) ⟨#[32]⟩=evs.map Mm.wd:=
 gM (by simpa using h) λz hz hc=>by have:=(g.wd hn z hz).1 32 hc;omega
noncomputable def cr(z:Str):List Str:=if z=⟨#[]⟩ then [] else Txt.split z ⟨#[32]⟩
theorem yQ{c:Nat}:∀{ls:List (List Nat)},jl c ls=[]->ls=[]∨ls=[[]]
 | [],_=>.inl rfl
 | [a],h=>.inr (by rw[show a=[] from h])
 |a::b::r,h=>by simp[jl] at h
theorem yR{zs:List Str}(h0:zs≠[])(h1:zs≠[⟨#[]⟩])(h:∀z∈zs,32∉z.cps.toList):cr (Str.join ⟨#[32]⟩ zs)=zs:=by
 unfold cr;rw[if_neg,gM h0 h];intro e;have e1:=congrArg (λz:Str=>z.cps.toList) e;simp only[join_list] at e1;rcases yQ (show jl 32 (zs.map λz=>z.cps.toList)=[] from e1) with z|z
 ·exact h0 (by simpa using z)
 match zs,z with
 | [a],z =>
  refine h1 ?_;have:a.cps.toList=[]:=by simpa using z
  rw[show a=⟨#[]⟩ from cV this]
 |a::b::r,z=>simp at z
end Mm
namespace L2
open PySem PySem.Spec PyProof.Rows
theorem yS(o:Obj)(f:Array Value->Array Value):(o.mapFields f).dict=o.dict:=by obtain⟨a,b,c,d⟩:=o;cases c<;>rfl
def jU(h base:Heap)(e:Addr)(cls fl:Value)(dd:Option Addr)(cx:Option Value):Prop:=
 ∃oe vs T oT ts,h.get? e=some oe/\(oe.cls=cls/\oe.dict=dd/\vs[2]?=cx)/\oe.data=.fields vs/\vs[1]?=some (.ref T)/\base.get? T=none/\T≠e/\h.get? T=some oT/\oT.data=.fields ts/\ts[3]?=some fl
def ci(base:Heap)(l:List Env)(e:Addr)(cls:Value)(dd:Option Addr)(cx:Option Value)(h:Heap):Prop:=base.StaysIn h/\base.get? e=none/\h.FunFrames base l/\jU h base e cls .none dd cx
def l3(base:Heap)(l:List Env)(e:Addr)(cls:Value)(dd:Option Addr)(cx:Option Value)(L:Addr)(h:Heap):Prop:=base.StaysIn h/\base.get? e=none/\h.FunFrames base l/\jU h base e cls (rawInt L) dd cx
section
variable {M:Model}{A:Around}{E:Value->Shared->Prop}{s:Shared}
theorem pV{base:Heap}{env:Env}{outer:List Env}{L e:Addr}{oe:Obj}{vs:Array Value}{head:Value}{hadNext:Bool}{Q:Unit->Shared->Prop}
  (hfr:A.frames=some (env::outer)) (hl:s.heap.FunFrames base (env::outer)) (hf:env.frame=some L)
  (he:s.heap.get? e=some oe) (hkb:base.StaysIn s.heap) (EL:base.get? e=none) (hd:oe.data=.fields vs) (hsz:1<vs.size)
  (h:∀h',base.StaysIn h'->h'.FunFrames base (env::outer)->jU h' base e oe.cls (rawInt L) oe.dict vs[2]?->s.heap.UpToSlots h'->Q () {s with heap:=h'}) :
  wpAny M A (do let a <- frameOf env;let pl <- entryPlaceOf L hadNext;let b <- EntryCells.newEntry head a .none (rawInt L) .none pl;setField (.ref e) 1 b) Q E s:=by
 have hene:e∉(env::outer).filterMap (·.frame):=λhm=>by obtain⟨_,o,ho,Dx⟩:=hl.mem hm;rw[he] at ho;injection ho with ho;subst ho;exact Dx vs hd
 refine Qa (wpAny_frameOf_fun hfr hl hf λh₁ hs₁=>Qa (wpAny_entryPlaceOf λpl C5=>?_));unfold EntryCells.newEntry newFields;refine Qa (wpAny_newObj_type ?_ (C5.sizeOk5 _ _ _ _ _));have he₁:h₁.get? e=some oe:=(hs₁.2.1 e hene).trans he;have kb₁:base.StaysIn h₁:=λb o DX=>(hs₁.2.1 b λhm=>by rw[(hl.mem hm).1] at DX;cases DX).trans (hkb b o DX);have hTe:h₁.objs.size≠e:=Nat.ne_of_gt (Qm he₁);generalize hot:({cls:=.type "traceback",dict:=none,data:=.fields ([head,.ref L,.none,rawInt L,.none]++(if pl.isEmpty then List.replicate 6 Value.none else pl)).toArray}:Obj)=ot;have hotd:∃ts,ot.data=.fields ts/\ts[3]?=some (rawInt L):=by subst hot;exact⟨_,rfl,by first|(simp;done)|(rcases C5 with rfl|⟨_,_,_,_,_,_,_,rfl⟩<;>simp)⟩
 have hofr:ot.isFreed=false:=by subst hot;rfl
 have he₂:=Qh (h:=h₁) ot he₁;refine wpAny_setField he₂ hd hsz ?_;have hd₃:=Obj.data_mapFields hd (·.setIfInBounds 1 (Value.ref h₁.objs.size));have he₃:=Heap.get?_update_self (Obj.mapFields (·.setIfInBounds 1 (Value.ref h₁.objs.size))) he₂ (Obj.isFreed_of_fields hd₃);have hT₃:=(Heap.get?_update_other (h₁.push ot) (Obj.mapFields (·.setIfInBounds 1 (Value.ref h₁.objs.size))) (Ne.symm hTe)).trans (Qt h₁ hofr)
 have keep:∀b o,b≠e->h₁.get? b=some o->((h₁.push ot).update e (Obj.mapFields (·.setIfInBounds 1 (Value.ref h₁.objs.size)))).get? b=some o:=
  λb o hbe hb=>by rw[Heap.get?_update_other _ _ (Ne.symm hbe)];exact Qh _ hb
 have DL:∀b o,s.heap.get? b=some o->(∀vs,o.data≠.fields vs)->b≠e:=λb o hb Dx q=>by rw[q,he] at hb;injection hb with hb;subst hb;exact Dx vs hd
 obtain⟨ts,ht1,Ex⟩:=hotd;refine h _ (λb o DX=>keep b o (λq=>by rw[q,EL] at DX;cases DX) (kb₁ b o DX)) (hl.of_keeps λb o hb Dx=>?_) ?_ λb o hb Dx=>?_
 ·obtain⟨sl,hs⟩:=hs₁.2.2 b o hb;exact⟨_,keep b _ (DL b o hb Dx) hs,rfl⟩
 ·exact⟨_,_,h₁.objs.size,_,ts,he₃,⟨Obj.cls_mapFields _ _,yS _ _,by rw[Array.getElem?_setIfInBounds_ne (by decide)]⟩,hd₃,by simp[hsz],kb₁.fresh,hTe,hT₃,ht1,Ex⟩
 obtain⟨sl,hs⟩:=hs₁.2.2 b o hb;exact⟨sl,keep b _ (DL b o hb Dx) hs⟩
theorem yT{base:Heap}{env:Env}{outer:List Env}{L e:Addr}{oe:Obj}{vs:Array Value}{Q:Unit->Shared->Prop}
  (hfr:A.frames=some (env::outer)) (hl:s.heap.FunFrames base (env::outer)) (hf:env.frame=some L)
  (he:s.heap.get? e=some oe) (hkb:base.StaysIn s.heap) (EL:base.get? e=none) (hd:oe.data=.fields vs) (h1:vs[1]?=some .none)
  (h:∀h',l3 base (env::outer) e oe.cls oe.dict vs[2]? L h'->s.heap.UpToSlots h'->Q () {s with heap:=h'}):wpAny M A (noteFrame (.ref e) env) Q E s:=by
 unfold noteFrame;simp only[hf];refine Qa (wpAny_field he hd h1 ?_);rw[if_neg (by decide)];exact pV hfr hl hf he hkb EL hd (Array.getElem?_eq_some_iff.mp h1).1 λh' k1 k2 k3 k4=>h h' ⟨k1,EL,k2,k3⟩ k4
theorem pW{base:Heap}{env:Env}{outer:List Env}{L e:Addr}{cls:Value}{dd:Option Addr}{cx:Option Value}{Q:Unit->Shared->Prop}
  (hfr:A.frames=some (env::outer)) (hf:env.frame=some L) (hfl:ci base (env::outer) e cls dd cx s.heap)
  (h:∀h',l3 base (env::outer) e cls dd cx L h'->s.heap.UpToSlots h'->Q () {s with heap:=h'}):wpAny M A (noteFrame (.ref e) env) Q E s:=by
 obtain⟨hkb,EL,hl,oe,vs,T,oT,ts,he,⟨rfl,rfl,rfl⟩,hd,h1,hnT,hTe,hT,hdT,h3⟩:=hfl;unfold noteFrame;simp only[hf];refine Qa (wpAny_field he hd h1 ?_);rw[if_pos (show(Value.ref T != Value.none)=true from by simp)];refine Qa (wpAny_field hT hdT h3 ?_);rw[if_neg (show ¬((Value.none==rawInt L)=true) from by simp[rawInt])];refine Qa (wpAny_setField hT hdT (Array.getElem?_eq_some_iff.mp h3).1 ?_);have Df:∀b,b≠T->(s.heap.update T (Obj.mapFields (·.setIfInBounds 3 Value.none))).get? b=s.heap.get? b:=λb hb=>Heap.get?_update_other _ _ (Ne.symm hb);have DL:∀b o,s.heap.get? b=some o->(∀vs,o.data≠.fields vs)->b≠T:=λb o hb Dx q=>by rw[q,hT] at hb;injection hb with hb;subst hb;exact Dx ts hdT
 refine pV (s:={s with heap:=s.heap.update T (Obj.mapFields (·.setIfInBounds 3 Value.none))}) hfr (hl.of_keeps λb o hb Dx=>⟨o,(Df b (DL b o hb Dx)).trans hb,rfl⟩) hf ((Df e (Ne.symm hTe)).trans he)
  (λb o DX=>(Df b λq=>by rw[q,hnT] at DX;cases DX).trans (hkb b o DX)) EL hd (Array.getElem?_eq_some_iff.mp h1).1
  λh' x1 x2 x3 x4=>h h' ⟨x1,EL,x2,x3⟩ λb o hb Dx=>x4 b o ((Df b (DL b o hb Dx)).trans hb) Dx
theorem pX{base:Heap}{l:List Env}{e:Addr}{cls fl:Value}{dd:Option Addr}{cx:Option Value}{Q:Unit->Shared->Prop}
  (hkb:base.StaysIn s.heap) (EL:base.get? e=none) (hl:s.heap.FunFrames base l) (ht:jU s.heap base e cls fl dd cx)
  (h:∀h',ci base l e cls dd cx h'->s.heap.UpToSlots h'->Q () {s with heap:=h'}):wpAny M A (setFlight (.ref e) none) Q E s:=by
 obtain⟨oe,vs,T,oT,ts,he,ER,hd,h1,hnT,hTe,hT,hdT,h3⟩:=ht;have hsz3:3<ts.size:=(Array.getElem?_eq_some_iff.mp h3).1
 have Df:∀b,b≠T->(s.heap.update T (Obj.mapFields (·.setIfInBounds 3 ((none:Option Addr).elim Value.none λf=>rawInt f)))).get? b=s.heap.get? b:=
  λb hb=>Heap.get?_update_other _ _ (Ne.symm hb)
 have DL:∀b o,s.heap.get? b=some o->(∀vs,o.data≠.fields vs)->b≠T:=λb o hb Dx q=>by rw[q,hT] at hb;injection hb with hb;subst hb;exact Dx ts hdT
 unfold setFlight;refine Qa (wpAny_field he hd h1 ?_);rw[if_pos (show(Value.ref T != Value.none)=true from by simp)]
 refine wpAny_setField hT hdT hsz3 (h _ ⟨λb o DX=>(Df b λq=>by rw[q,hnT] at DX;cases DX).trans (hkb b o DX),EL,
  hl.of_keeps λb o hb Dx=>⟨o,(Df b (DL b o hb Dx)).trans hb,rfl⟩,?_⟩ λb o hb Dx=>⟨o.slots,(Df b (DL b o hb Dx)).trans hb⟩)
 exact⟨oe,vs,T,_,_,(Df e (Ne.symm hTe)).trans he,ER,hd,h1,hnT,hTe,Heap.get?_update_self _ hT (Obj.isFreed_of_fields (Obj.data_mapFields hdT _)),Obj.data_mapFields hdT _,by simp[hsz3]⟩
theorem l6{base:Heap}{l:List Env}{e L:Addr}{cls:Value}{dd:Option Addr}{cx:Option Value}{Q:Unit->Shared->Prop}(hh:l3 base l e cls dd cx L s.heap)
  (h:∀h',ci base l e cls dd cx h'->s.heap.UpToSlots h'->Q () {s with heap:=h'}):wpAny M A (setFlight (.ref e) none) Q E s:=pX hh.1 hh.2.1 hh.2.2.1 hh.2.2.2 h
theorem yU{base:Heap}{l:List Env}{e:Addr}{cls:Value}{dd:Option Addr}{cx:Option Value}{Q:Unit->Shared->Prop}(hh:ci base l e cls dd cx s.heap)
  (h:∀h',ci base l e cls dd cx h'->s.heap.UpToSlots h'->Q () {s with heap:=h'}):wpAny M A (setFlight (.ref e) none) Q E s:=pX hh.1 hh.2.1 hh.2.2.1 hh.2.2.2 h
theorem ci.out{base h:Heap}{env:Env}{outer:List Env}{e:Addr}{cls:Value}{dd:Option Addr}{cx:Option Value}(x:ci base (env::outer) e cls dd cx h):ci base outer e cls dd cx h:=by obtain⟨k1,k2,⟨_,_,k3⟩,k4⟩:=x;exact⟨k1,k2,k3,k4⟩
theorem yV{base:Heap}{env:Env}{outer:List Env}{L e:Addr}{cls:Value}{dd:Option Addr}{cx:Option Value}{Q:Unit->Shared->Prop}
  (hfr:A.frames=some (env::outer)) (hf:env.frame=some L) (hfl:ci base (env::outer) e cls dd cx s.heap)
  (h:∀h',ci base outer e cls dd cx h'->s.heap.UpToSlots h'->Q () {s with heap:=h'}):wpAny M A (leaving env (.ref e)) Q E s:=by
 unfold leaving;refine Qa (pW hfr hf hfl λh1 hh up=>?_);exact l6 (s:={s with heap:=h1}) hh λh2 f2 up2=>h h2 f2.out (up.trans up2)
theorem yW{base:Heap}{env:Env}{outer:List Env}{L e:Addr}{oe:Obj}{vs:Array Value}{Q:Unit->Shared->Prop}
  (hfr:A.frames=some (env::outer)) (hl:s.heap.FunFrames base (env::outer)) (hf:env.frame=some L)
  (he:s.heap.get? e=some oe) (hkb:base.StaysIn s.heap) (EL:base.get? e=none) (hd:oe.data=.fields vs) (h1:vs[1]?=some .none)
  (h:∀h',ci base outer e oe.cls oe.dict vs[2]? h'->s.heap.UpToSlots h'->Q () {s with heap:=h'}):wpAny M A (leaving env (.ref e)) Q E s:=by
 unfold leaving;refine Qa (yT hfr hl hf he hkb EL hd h1 λh1 hh up=>?_);exact l6 (s:={s with heap:=h1}) hh λh2 f2 up2=>h h2 f2.out (up.trans up2)
end
noncomputable abbrev iG:List Value:=[.type "ValueError",.type "Exception",.type "BaseException",.type "object"]
noncomputable abbrev l7:List Value:=[.type "Exception",.type "BaseException",.type "object"]
noncomputable def iH:Nat->List Value->Bool
 |0,l=>l==iG||l==l7
 |n+1,.ref _::r=>iH n r
 |_+1,_=>false
theorem pY(self:Value):∀(n:Nat) (l:List Value),iH n l=true->refuseLoop self "__setattr__" l=pure ()
 |0,l,e=>by
  rcases Bool.or_eq_true_iff.mp e with e|e
  ·rw[show l=iG from beq_iff_eq.mp e];exact PySem.F.store_ValueError.passes self
  rw[show l=l7 from beq_iff_eq.mp e];exact PySem.F.store_Exception.passes self
 |n+1,[],e=>by cases e
 |n+1,v::r,e=>by cases v<;>first|(rw[refuseLoop_ref];exact pY self n r e)|cases e
theorem pZ:∀(n:Nat) (l:List Value),iH n l=true->l.contains (.type "object")=true
 |0,l,e=>by
  rcases Bool.or_eq_true_iff.mp e with e|e
  ·rw[show l=iG from beq_iff_eq.mp e];rfl
  rw[show l=l7 from beq_iff_eq.mp e];rfl
 |n+1,[],e=>by cases e
 |n+1,v::r,e=>by cases v<;>first|(rw[List.contains_cons,pZ n r e,Bool.or_true])|cases e
structure gb(K:W.Frag)(C:Addr):Prop where
 po:∃n,(PySem.W.clsIn K C).any (λcd=>iH n cd.mro)=true
 sa:PySem.W.findIn K (.ref C) "__setattr__"=some (some (.builtin "object.__setattr__"))
 hd:PySem.W.hasDictIn K C=true
section
variable {prog:Program}{w:World}{A:Around}{E:Value->Shared->Prop}{s:Shared}{K:W.Frag}{x C:Addr}{name:Str}{v:Value}
open PySem.W PySem.Calls Builtin Builtin.ObjectAttr in
theorem p0{R:Result->Shared->Prop}{ox:Obj}{od:Option Obj}{tk:Tok}(X:K.In s.heap)(I:PySem.W.InstAt s.heap x ox C od)(c:gb K C)(ht:takerIn K C name=some none)
  (h:∀b,wpAny (model prog w) A.in1 (storeInOwnDict (.ref x) (.ref C) (.str name tk) name v b)
   (λfin s'=>match fin with|.done f=>R (.ok f) s' | .again c'=>c'.quiet=true/\codeAny (model prog w) A c' R s') (λe s'=>R (.error e) s') s) :
  codeAny (model prog w) A (.call (.builtin "object.__setattr__") ⟨[.ref x,.str name tk,v],[]⟩) R s:=by
 have SF:=PySem.F.store_object;obtain⟨pn,hpo⟩:=c.po;obtain⟨cd,hc,ho⟩:=any_some hpo;have ne:cd.mro.isEmpty=false:=by cases q:cd.mro with|nil=>(rw[q] at ho;cases pn<;>cases ho)|cons _ _=>rfl
 have sub:Looks (model prog w) s.heap (isInstance (.ref x) (.type "object")) true:=I.type.andThen (looks_mroIn X (by unfold mroIn;rw[hc,Option.bind_some,if_neg (by rw[ne];decide),pZ _ _ ho]));refine codeAny_call_builtin SF.slot.plain SF.entry (@check_slot (model prog w) _ _ s "object.__setattr__" "object" "__setattr__" (.ref x) [.str name tk,v] [] _ SF.kind SF.split sub (SF.args (.ref x) (.str name tk) v) ?_);obtain⟨attr,ha,hr⟩:=Option.bind_eq_some_iff.mp ht;have hm:Looks (model prog w) s.heap (mroOf (.ref C)) cd.mro:=(looks_clsIn X hc).andThen .now
 have L3:Looks (model prog w) s.heap (storeTaker? attr) none:=by
  cases attr with
  |none=>exact .now
  |some a =>
   obtain⟨b,hb,e⟩:=Option.map_eq_some_iff.mp hr;refine(looks_takesIn X hb).andThen ?_;cases b
   ·exact .now
   cases e
 rw[osa_eq,refuse_eq];refine Qa (Qa (I.type.here (Qa (hm.here ?_))));rw[pY _ _ _ ho];refine Qq (Qa (I.type.here (Qa ((looks_findIn X ha).here (Qa (L3.here ?_))))));exact h _
def cj(e C t:Addr)(dd:Option Addr)(h:Heap):Prop:=h.get? e=some {cls:=.ref C,dict:=dd,data:=.fields #[.ref t,.none,.none,.none,.bool false,.none]}
open PySem.W PySem.Calls Builtin Builtin.ObjectAttr in
theorem yX{t:Addr}{Q:Unit->Shared->Prop}(X:K.In s.heap)(I:cj x C t none s.heap)(c:gb K C)(ht:takerIn K C name=some none)
  (h:∀h',h'.Ns1 s.heap.objs.size (λy=>if y=name then some v else none)->cj x C t (some s.heap.objs.size) h'->(∀b o,b≠x->s.heap.get? b=some o->h'.get? b=some o)->Q () {s with heap:=h',toks:=s.toks+2}) :
  wpAny (model prog w) A (setAttr (.ref x) name v) Q E s:=by
 have J:PySem.W.InstAt s.heap x {cls:=.ref C,dict:=none,data:=.fields #[.ref t,.none,.none,.none,.bool false,.none]} C none:=⟨I,rfl,rfl,True.intro⟩
 refine set_plain X J c.sa (p0 (s:={s with toks:=s.toks+1}) X J c ht λb=>?_);obtain⟨cd,hc,hd'⟩:=any_some c.hd;refine Qa (Qq (Qa (Qa (wpAny_loadPart (s:={s with toks:=s.toks+1}) I (Qa (Looks.here (s:={s with toks:=s.toks+1}) (looks_clsIn X hc) ?_))))));rw[hd'];rw[if_neg (by decide)];dsimp only;refine Qa (wpAny_alloc ?_);have hx:({s with toks:=s.toks+1}:Shared).heap.get? x=some {cls:=.ref C,dict:=none,data:=.fields #[.ref t,.none,.none,.none,.bool false,.none]}:=I;have hx₁:=Qh {cls:=.type "dict",data:=.dict #[]} hx;refine Qa (wpAny_update hx₁ (Qq ?_));have hxs:x≠s.heap.objs.size:=Qy (Qm hx);refine Qa (Qq (Qa ?_));generalize hfo:(λo:Obj=>{cls:=o.cls,dict:=some s.heap.objs.size,data:=o.data,slots:=o.slots:Obj})=fo
 have hgd:((s.heap.push {cls:=.type "dict",data:=.dict #[]}).update x fo).get? s.heap.objs.size=some {cls:=.type "dict",data:=.dict #[]} :=
  (Heap.get?_update_ne _ _ _ _ hxs.symm).trans (Heap.get?_push_at rfl rfl)
 have hnd:((s.heap.push {cls:=.type "dict",data:=.dict #[]}).update x fo).Ns s.heap.objs.size (λ_=>none):=⟨_,#[],_,hgd,rfl,λe he=>absurd he (by simp),λ_=>rfl⟩
 refine wpAny_nsSet1 (s:={s with heap:=(s.heap.push {cls:=.type "dict",data:=.dict #[]}).update x fo,toks:=s.toks+1}) (Heap.Ns1.of_empty hnd) λh' hn' hs=>?_;obtain⟨oD,esD,epD,hoD,hdD,hcD⟩:=hn'.count (Within.cons name v Within.nil);refine Qa (wpAny_lookBehind hoD (by rw[hdD];exact pastItsLine_dict (Qg hcD (by rw[QC,List.length_nil,sizeLine_eq];omega))) ?_);refine Qq (h h' hn' ?_ λb o hb q=>?_)
 ·refine(hs.2 x hxs).trans ((Heap.get?_update_self _ hx₁ ?_).trans ?_)
  ·subst hfo;rfl
  subst hfo;rfl
 exact(hs.2 b (Qy (Qm q))).trans ((Heap.get?_update_ne _ _ _ _ hb).trans (Qh _ q))
open PySem.W PySem.Calls Builtin Builtin.ObjectAttr in
theorem yY{t dx:Addr}{mA:Str->Option Value}{ns:List Str}{Q:Unit->Shared->Prop}(X:K.In s.heap)(I:cj x C t (some dx) s.heap)(N:s.heap.Ns1 dx mA)(ne:dx≠x)(hw:PySem.Within mA ns)(hsz:ns.length<=1000)(c:gb K C)(ht:takerIn K C name=some none)
  (h:∀h',h'.Ns1 dx (λy=>if y=name then some v else mA y)->Heap.SameBut dx s.heap h'->Q () {s with heap:=h',toks:=s.toks+2}) :
  wpAny (model prog w) A (setAttr (.ref x) name v) Q E s:=by
 obtain⟨od,ho,_⟩:=lf N
 have J:PySem.W.InstAt s.heap x {cls:=.ref C,dict:=some dx,data:=.fields #[.ref t,.none,.none,.none,.bool false,.none]} C (some od):=⟨I,rfl,rfl,ho⟩
 refine set_plain X J c.sa (p0 (s:={s with toks:=s.toks+1}) X J c ht λb=>?_);obtain⟨cd,hc,hd'⟩:=any_some c.hd;refine Qa (Qq (Qa (Qa (wpAny_loadPart (s:={s with toks:=s.toks+1}) I (Qa (Looks.here (s:={s with toks:=s.toks+1}) (looks_clsIn X hc) ?_))))));rw[hd'];refine Qq (a:=some dx) (Qa (Qq (Qa ?_)));refine wpAny_nsSet1 (s:={s with toks:=s.toks+1}) N λh' hn2 Da=>?_;obtain⟨oD,esD,epD,hoD,hdD,hcD⟩:=hn2.count (PySem.Within.cons name v hw);refine Qa (wpAny_lookBehind hoD (by rw[hdD];exact pastItsLine_dict (Qg hcD (by rw[QC,sizeLine_eq];omega))) ?_);exact Qq (h _ hn2 Da)
end
theorem yZ{K:W.Frag}{h:Heap}{N:Addr}{mg:Str->Option Value}{n:Str}{v:Value}(X:K.In h)(G:h.Ns N mg)(e:PySem.W.nsIn K N n=some (some v)):mg n=some v:=by
 obtain⟨o,es,ep,ho,hd,_,hf⟩:=G;unfold PySem.W.nsIn at e;split at e
 case h_2=>cases e
 case h_1 c d es' n' sl q =>
  have:=X _ _ q;rw[ho] at this;cases this;cases hd;split at e
  case h_1 en he =>
   cases e;rw[<-hf];unfold nsFind findBy;rw[<-Array.find?_toList,he];rfl
  case h_2=>split at e<;>cases e
noncomputable def jV(K:W.Frag)(C:Addr)(EH:List Value)(newId:String)(f:Addr):Bool:=match K.lookup C with
 |some ⟨.type "type",_,.cls cd,sl⟩=>(match cd.mro,sl.toList with
  |.ref C'::bm,[_,_,_,_,some (.builtin n),_]=>C'==C&&n==newId&&!cd.hasDel&&PySem.W.tailIn K EH bm&&PySem.W.nsOkIn K cd.ns&&PySem.W.nsIn K cd.ns "__init__" == some (some (.ref f))
  |_,_=>false)
 |_=>false
theorem y6{K:W.Frag}{h:Heap}{C f:Addr}{EH:List Value}{newId:String}(X:K.In h)(q:jV K C EH newId f=true) :
  ∃bm N nm q bs hdct sn sub ab col dd k0 k1 k2 k3 k5 mN,h.get? C=some (excClassObj nm q C N bs bm hdct sn sub ab col dd k0 k1 k2 k3 k5 newId)/\h.Ns N mN/\mN "__init__"=some (.ref f)/\OwnTail h EH bm:=by
 unfold jV at q;split at q
 case h_2=>cases q
 case h_1 dd cd sl ho =>
  split at q
  case h_2=>cases q
  case h_1 C' bm k0 k1 k2 k3 n k5 hm hs =>
   simp only[Bool.and_eq_true,beq_iff_eq,Bool.not_eq_true'] at q;obtain⟨⟨⟨⟨⟨e1,e2⟩,e3⟩,e4⟩,e5⟩,e6⟩:=q;cases cd;cases sl;simp only at hm hs e3 e5 e6;subst e1 e2 e3 hm hs;have G:=Heap.Ns.of_isNs (PySem.W.isNs_of_in X e5);exact⟨_,_,_,_,_,_,_,_,_,_,_,_,_,_,_,_,_,X _ _ ho,G,yZ X G e6,PySem.W.tail_of_in X e4⟩
section
variable {prog:Program}{w:World}{A:Around}{E:Value->Shared->Prop}{h:Heap}{g:Array GenState}{d:Drawn}{t:Nat}{os:OsState}
variable {nm q:Str}{C N:Addr}{bs bm EH:List Value}{hdct:Bool}{sn:List Str}{sub:List Value}{ab:Bool}{col:Option Bool}{dd:Option Addr}{k0 k1 k2 k3 k5:Option Value}{B newId Dh:String}
theorem y7(F:ExcBaseFacts B newId Dh EH)(T:OwnTail h EH bm){mN:Str->Option Value}{CH:List Value}{fI:Addr}{oI:Obj}{Q:Fin->Shared->Prop}
  (hC:h.get? C=some (excClassObj nm q C N bs bm hdct sn sub ab col dd k0 k1 k2 k3 k5 newId)) (hn:h.Ns N mN) (hi:mN "__init__"=some (.ref fI)) (hfI:h.get? fI=some oI) (hfc:oI.cls=.type "function")
  (hq:∀h' e,Heap.MadeExcOf h h' e (.ref C) CH ->
   wpAny (model prog w) A (call (.ref fI) (.ref e::CH)) (λr s'=>r=.none/\Q (.done (.ret (.ref e))) s') E ⟨h',g,d,t,os⟩) (hrest:CH.length<=sizeLine) :
  wpAny (model prog w) A (Builtin.«type.__call__» ⟨.ref C::CH,[]⟩) Q E ⟨h,g,d,t,os⟩:=by
 repeat (first|with_reducible refine wpAny_loadPart_at hC ?_|with_reducible refine wpAny_madeBy_exc hC ?_|wp_step)
 refine codeAny_call_builtin_code (Code.quiet_builtin _ F.quiet) (wpAny_check_new_subT F T hC ?_);refine codeAny_exc_new_subT F T hC ?_ hrest;show wpAny _ _ _ _ _ _
 have kp:∀b o,h.get? b=some o->((h.push {cls:=.type "tuple",data:=.seq CH.toArray}).push {cls:=.ref C,data:=.fields #[.ref h.objs.size,.none,.none,.none,.bool false,.none]}).get? b=some o:=
  λb o e=>Qh _ (Qh _ e)
 have hC₁:=kp _ _ hC;have hfI₁:=kp _ _ hfI;have hn₁:=hn.keeps kp
 have hget:((h.push { cls:=.type "tuple",data:=.seq CH.toArray }).push
   {cls:=.ref C,data:=.fields #[.ref h.objs.size,.none,.none,.none,.bool false,.none]}).get? (h.objs.size+1)=some
   {cls:=.ref C,data:=.fields #[.ref h.objs.size,.none,.none,.none,.bool false,.none]}:=by heap_get
 have hcC:(Value.ref C::bm).contains (.ref C)=true:=by simp
 have T₁:=T.keeps kp;unfold isInstance
 repeat (first|with_reducible refine wpAny_loadPart_at hget ?_|(with_reducible refine wpAny_isSubtype_exc hC₁ ?_;rw[hcC])|wp_step)
 show wpAny _ _ (typeLookup (.ref C) _) _ _ _;refine wpAny_typeLookup_tail hC₁ hn₁ T₁ F.mroIs F.init.lookup ?_;rw[hi];refine wpAny_holding (Qa ?_);unfold bindSpecial;refine Qa (wpAny_typeOf (T:="function") ⟨_,hfI₁,hfc⟩ ?_);rw[if_pos (by decide)];refine Qq (Qa (QJ (hq _ (h.objs.size+1) ⟨kp,Heap.get?_none_of_le (Nat.le_succ _),h.objs.size,hget,Heap.get?_none_of_le (Qk _),?_⟩) (λr s' hr=>?_) λ_ _ x=>x))
 ·exact Qh _ (Heap.get?_push_at rfl rfl)
 obtain⟨rfl,hQ⟩:=hr
 wp_walk
 exact hQ
theorem y9(F:ExcBaseFacts B newId Dh EH)(T:OwnTail h EH bm){mN:Str->Option Value}{CH:List Value}{fI:Addr}{oI:Obj}{Q:Value->Shared->Prop}
  (hC:h.get? C=some (excClassObj nm q C N bs bm hdct sn sub ab col dd k0 k1 k2 k3 k5 newId)) (hn:h.Ns N mN) (hi:mN "__init__"=some (.ref fI)) (hfI:h.get? fI=some oI) (hfc:oI.cls=.type "function")
  (hq:∀h' e,Heap.MadeExcOf h h' e (.ref C) CH ->
   wpAny (model prog w) (A.under (.builtin "type.__call__" ⟨.ref C::CH,[]⟩)) (call (.ref fI) (.ref e::CH)) (λr s'=>r=.none/\Q (.ref e) s') E ⟨h',g,d,t,os⟩) (hrest:CH.length<=sizeLine) :
  wpAny (model prog w) A (call (.ref C) CH) Q E ⟨h,g,d,t,os⟩:=by
 have f1:=tc_lookup;have f2:=tc_bind (.ref C)
 have hT:(⟨h,g,d,t,os⟩:Shared).TypeIs (.ref C) "type":=⟨_,hC,rfl⟩
 refine wpAny_call (codeAny_of_tree ?_);show wpAny _ _ (callAny (.ref C) _) _ _ _
 repeat (any_goals (first|assumption|with_reducible refine wpAny_loadPart_at hC ?_|wp_step))
 refine⟨rfl,?_⟩;refine codeAny_call_builtin_at (Code.quiet_builtin _ (by decide +kernel)) entry_typeCall (wpAny_check_type_call_sub hC (y7 (hrest:=hrest) F T hC hn hi hfI hfc λh' e hm=>?_));exact hq h' e hm
end
section
variable {M:Model}{A:Around}{E:Value->Shared->Prop}{env:Env}
variable {nm q:Str}{C N:Addr}{bs bm:List Value}{hdct:Bool}{sn:List Str}{sub:List Value}{ab:Bool}{col:Option Bool}{dd:Option Addr}{k0 k1 k2 k3 k5:Option Value}{newId:String}
theorem za{s:Shared}{x:Sem Value}{Q:Flow->Shared->Prop}(CS:bm.contains (.type "BaseException")=true)(hh:A.handled=none)
  (h:wpAny M A x (λv s₁=>∃e t ed,v=.ref e/\s₁.heap.get? C=some (excClassObj nm q C N bs bm hdct sn sub ab col dd k0 k1 k2 k3 k5 newId)/\cj e C t ed s₁.heap/\E (.ref e) s₁) E s) :
  wpAny M A (raiseStmt env (some x) none) Q E s:=by
 have hcB:(Value.ref C::bm).contains (.type "BaseException")=true:=by rw[List.contains_cons,CS,Bool.or_true]
 unfold raiseStmt;refine Qa (QJ h (λv s₁ h₁=>?_) λ_ _ x=>x);obtain⟨e,t,ed,rfl,hC,he,hE⟩:=h₁;obtain⟨hp,g,d,tk,os⟩:=s₁;unfold cj at he
 repeat (first|with_reducible refine wpAny_loadPart_at he ?_|with_reducible refine wpAny_loadPart_at hC ?_|(with_reducible refine wpAny_isSubtype_exc hC ?_;rw[hcB])|wp_step)
 exact wpAny_raiseNew_none hh hE
end
section
variable {prog:Program}{w:World}{A:Around}{E:Value->Shared->Prop}{s:Shared}{env:Env}
variable {nm q:Str}{C N:Addr}{bs bm EH:List Value}{hdct:Bool}{sn:List Str}{sub:List Value}{ab:Bool}{col:Option Bool}{dd:Option Addr}{k0 k1 k2 k3 k5:Option Value}{B newId Dh:String}
theorem zb(F:ExcBaseFacts B newId Dh EH){mN:Str->Option Value}{fI:Addr}{x:Str}{np CI pos:Pos}{args:List Expr}{Q:Flow->Shared->Prop}
  (CS:bm.contains (.type "BaseException")=true) (hh:A.handled=none) (Db:(backTo CI (starEach args env)).any (·.1)=false) (hi:mN "__init__"=some (.ref fI))
  (h:wpAny (model prog w) A (eval (.Name x np) env) (λf s₁=>f=.ref C/\wpAny (model prog w) A (evalArgs (.ref C) true (backTo CI (starEach args env)) [])
   (λa s₂=>a.kw=[]/\a.pos.length<=sizeLine/\s₂.heap.get? C=some (excClassObj nm q C N bs bm hdct sn sub ab col dd k0 k1 k2 k3 k5 newId)/\s₂.heap.Ns N mN/\OwnTail s₂.heap EH bm/\(∃oI,s₂.heap.get? fI=some oI/\oI.cls=.type "function") /\
    ∀h' e,Heap.MadeExcOf s₂.heap h' e (.ref C) a.pos->wpAny (model prog w) (A.under (.builtin "type.__call__" ⟨.ref C::a.pos,[]⟩)) (call (.ref fI) (.ref e::a.pos))
     (λr s'=>r=.none/\(∃t ed,s'.heap.get? C=some (excClassObj nm q C N bs bm hdct sn sub ab col dd k0 k1 k2 k3 k5 newId)/\cj e C t ed s'.heap)/\E (.ref e) s') E {s₂ with heap:=h'}) E s₁) E s) :
  wpAny (model prog w) A (exec (.Raise (some (.Call (.Name x np) args [] CI)) none pos) env) Q E s:=by
 rw[arm_exec_Raise];refine Qa (wpAny_standAt (za (C:=C) (nm:=nm) (q:=q) (N:=N) (bs:=bs) (bm:=bm) (hdct:=hdct) (sn:=sn) (sub:=sub) (ab:=ab) (col:=col) (dd:=dd) (k0:=k0) (k1:=k1) (k2:=k2) (k3:=k3) (k5:=k5) (newId:=newId) CS hh (Qa (QJ (wpAny_Call_ofName (QJ h (λf s₁ h₁=>?_) λ_ _ x=>x)) (λv s₃ h₃=>Qa (wpAny_standAt (Qq h₃))) λ_ _ x=>x))));obtain⟨rfl,h₁⟩:=h₁;unfold callWith;refine Qa (wpAny_holding (QJ h₁ (λa s₂ h₂=>Qa (wpAny_standAt ?_)) λ_ _ x=>x));obtain⟨apos,akw⟩:=a;obtain⟨hkw,CN,hC,hn,T,⟨oI,ho,hoc⟩,h₂⟩:=h₂;obtain rfl:akw=[]:=hkw;obtain⟨hp,g,d,tk,os⟩:=s₂;simp only[Db];refine Qa (wpAny_keeperOf_exc hC ?_);refine Qa (y9 (hrest:=CN) F T hC hn hi ho hoc λh' e hm=>QJ (h₂ h' e hm) (λr s' ⟨hr,⟨t,ed,hC',hx⟩,hE⟩=>⟨hr,Qa (wpAny_holding (wpAny_point (Qq ?_)))⟩) λ_ _ x=>x);exact⟨e,t,ed,rfl,hC',hx,hE⟩
end
def cL(κ:Option Value->Prop)(P:Program)(w:World):b3:=λouter H s E e s'=>∃(ea:Addr) (cls:Value) (dd:Option Addr) (cx:Option Value) (B:Heap) (H':Hp),e=.ref ea/\κ cx/\ci B outer ea cls dd cx s'.heap /\
 (∀b o,s.heap.get? b=some o->b∉frs outer->∃o',B.get? b=some o')/\(∀a o,H' a=some o->∃ob,B.get? a=some ob)/\s'.os=s.os/\AllBare s'.gens/\Un (frs outer) [] H H' s.heap s'.heap/\bp P w H' s'.heap/\E cls dd H'
section
variable {X:Cx}{kb:List (Addr×Obj)}{σ:St}{H H':Hp}{s s':Shared}{B EM:Heap}
theorem zc(b:ce X)(I:Inv X kb σ H s)(un:Un (L2.frs X.stack) [] H H' s.heap s'.heap)(hok:bp X.prog X.w H' s'.heap)(os:s'.os=s.os)(bare:AllBare s'.gens)
  (hB1:B.StaysIn s'.heap) (hB2:B.StaysIn EM) (up:s'.heap.UpToSlots EM) (fr:∀c∈L2.frs X.stack,∃o,s'.heap.get? c=some o/\∀vs,o.data≠.fields vs)
  (inB:∀c o,X.s₀.heap.get? c=some o->c∉X.fs->∃o',B.get? c=some o') (C2:∀c o,s.heap.get? c=some o->H c=none->c∉L2.frs X.stack->∃o',B.get? c=some o') (bN:∀a o,H' a=some o->∃ob,B.get? a=some ob):Inv X kb σ H' {s' with heap:=EM}:=by
 have I':Inv X kb σ H' s':=I.call' os un hok bare λc hc=>absurd hc (by simp);have same:∀c o,s'.heap.get? c=some o->(∃o',B.get? c=some o')->EM.get? c=some o:=λc o e ⟨o',eb⟩=>by have:=hB1 c o' eb;rw[e] at this;cases this;exact hB2 c _ eb
 have ES:∀c∈X.fs,c∈L2.frs X.stack:=λc hc=>by rw[b.frs];exact Qr _ hc
 refine⟨I'.ok,I'.os,I'.bare,⟨λc o q n hb hx=>same c o (I'.base.keep c o q n hb hx) (inB c o q hb),λc o q n hb hx=>?_,I'.base.free,λc o q hx=>?_,I'.base.tups,I'.base.frzs,I'.base.tbls⟩,?_,λx c e=>?_,I'.free,I'.freeC,λp hp=>?_,λa o e=>?_,I'.len⟩
 ·obtain⟨sl,e1⟩:=I'.base.slot c o q n hb hx;obtain⟨o1,e2,nd⟩:=fr c (ES c hb);rw[e1] at e2;cases e2;obtain⟨sl',e3⟩:=up c _ e1 nd;exact⟨sl',e3⟩
 ·by_cases hb:c∈X.fs
  ·obtain⟨o1,e2,nd⟩:=fr c (ES c hb);obtain⟨sl',e3⟩:=up c _ e2 nd;exact⟨_,e3⟩
  obtain⟨o',eb⟩:=inB c o q hb;exact⟨o',hB2 c o' eb⟩
 ·obtain⟨m,hn,hl⟩:=I'.loc;refine⟨m,up.ns hn,λi x v e1 e2 e3=>?_⟩;obtain⟨u,r,lk⟩:=hl i x v e1 e2 e3;refine⟨u,r,?_⟩
  rcases lk with z|⟨k,c,ec,oc,hc,hd⟩
  ·exact .inl z
  obtain⟨v0,o0,El,_⟩:=I.cell x c ec;exact .inr ⟨k,c,ec,oc,same c oc hc (C2 c o0 El (I.freeC x c ec) (b.cell I ec)),hd⟩
 ·obtain⟨v1,o1,ho1,hd1⟩:=I'.cell x c e;obtain⟨v0,o0,El,_⟩:=I.cell x c e;exact⟨v1,o1,same c o1 ho1 (C2 c o0 El (I.freeC x c e) (b.cell I e)),hd1⟩
 ·obtain⟨e,n,ne,nf,d⟩:=I'.pin p hp;obtain⟨e0,n0,_⟩:=I.pin p hp;refine⟨same p.1 p.2 e (C2 p.1 p.2 e0 n0 ?_),n,ne,nf,d⟩;rw[b.frs];intro hm;rcases Qs hm with z|z
  ·exact ne z
  exact nf z
 refine(I'.hok a o e).stay (λc u hc q=>same c u q ?_) (λ_ q=>q) λ_ _ q=>q;rcases hc with rfl|hc
 ·exact bN _ _ e
 exact bN _ _ hc
end
noncomputable def cW(H:Hp)(a:Addr):Hp:=λb=>if b=a then none else H b
theorem iI{H:Hp}{a b:Addr}(h:b≠a):cW H a b=H b:=if_neg h
theorem p4{H:Hp}{a:Addr}:cW H a a=none:=if_pos rfl
noncomputable def bS(e C t:Addr)(dd:Option Addr):HO:=.ext (cj e C t dd)
theorem p5{P:Program}{w:World}{H:Hp}{h:Heap}{e C t:Addr}{dd:Option Addr}(p:cj e C t dd h):bj P w H h e (bS e C t dd):=⟨p,⟨_,p⟩,λ_ _ q k=>k _ q⟩
def eI(dx:Addr)(fs:List (Str×V))(h:Heap):Prop:=∃mA,h.Ns1 dx mA/\∀f,cn (fs.lookup f) (mA f)
noncomputable def dz(dx:Addr)(fs:List (Str×V)):HO:=.ext (eI dx fs)
theorem eI.obj{dx:Addr}{fs:List (Str×V)}{h:Heap}(p:eI dx fs h):∃o,h.get? dx=some o:=by obtain⟨_,⟨o,_,_,e,_⟩,_⟩:=p;exact⟨o,e⟩
theorem p7{P:Program}{w:World}{H:Hp}{h:Heap}{dx:Addr}{fs:List (Str×V)}(p:eI dx fs h):bj P w H h dx (dz dx fs):=⟨p,p.obj,λ_ _ hsl58 k=>by obtain⟨mA,n,r⟩:=hsl58;exact⟨mA,n.at k,r⟩⟩
section
variable {P:Program}{w:World}{K:W.Frag}{mg:Str->Option Value}{base:Heap}{N:List Str}{qual:Str}{scope:Scope}{f:Addr}{cd:Value}{A:Around}{outer:List Env}{s₀:Shared}{H₀:Hp}{E:XK}
theorem l8{κ κ':Option Value->Prop}(hκ:∀cx,κ' cx->κ cx):eC (cL κ' P w) (dO (cL κ P w) P w K mg base N qual scope f cd A outer s₀ H₀ E) E:=by intro kb σ H s e s' I h;obtain⟨ea,cls,dd,cx,B,H',rfl,hc,fl,C2,bN,os,bare,un,hok,q⟩:=h;have bd:=eF (CX:=cL κ P w) (P:=P) (w:=w) (K:=K) (mg:=mg) (base:=base) (N:=N) (qual:=qual) (scope:=scope) (f:=f) (cd:=cd) (A:=A) (outer:=outer) (s₀:=s₀) (H₀:=H₀) (E:=E);refine yV I.ok.frames rfl fl λEM fl'' up=>?_;have J:=lO bd I un hok os bare fl.1 fl''.1 up (iA fl.2.2.1) C2 bN;refine⟨ea,cls,dd,cx,B,H',rfl,hκ _ hc,fl'',λb o e hb=>?_,bN,J.os,J.bare,J.base,J.hok,q⟩;obtain⟨o1,e1⟩:=I.base.there b o e (by rw[bd.ex];simp);exact C2 b o1 e1 (bd.old I e hb)
def p8(X:Cx)(E:XK):Prop:=∀(kb:List (Addr×Obj)) (σ:St) (H:Hp) (s:Shared) (ea C t:Addr) (dd:Option Addr),Inv X kb σ H s->H ea=some (bS ea C t dd)->X.s₀.heap.get? ea=none->E (.ref C) dd (cW H ea)->X.xe (.ref ea) s
theorem iJ{κ:Option Value->Prop}(h0:κ (some .none)):p8 (dO (cL κ P w) P w K mg base N qual scope f cd A outer s₀ H₀ E) E:=by
 intro kb σ H s ea C t dd I ha hnew q;have bd:=eF (CX:=cL κ P w) (P:=P) (w:=w) (K:=K) (mg:=mg) (base:=base) (N:=N) (qual:=qual) (scope:=scope) (f:=f) (cd:=cd) (A:=A) (outer:=outer) (s₀:=s₀) (H₀:=H₀) (E:=E);generalize hX:dO (cL κ P w) P w K mg base N qual scope f cd A outer s₀ H₀ E=X at I bd hnew;have px:cj ea C t dd s.heap:=(show bj X.prog X.w H s.heap ea (.ext (cj ea C t dd)) from I.hok ea _ ha).1;have nst:ea∉L2.frs X.stack:=λhm=>by rw[I.stkFree ea hm] at ha;cases ha
 have hin:∀b o,s.heap.get? b=some o->b≠ea->b∉L2.frs X.stack->(PySem.W.hideAll s.heap (ea::L2.frs X.stack)).get? b=some o:=λb o e n1 n2=>PySem.W.hideAll_get _ e (by intro z;rcases Qs z with z|z;exact n1 z;exact n2 z);have CL:(PySem.W.hideAll s.heap (ea::L2.frs X.stack)).StaysIn s.heap:=λb o e=>PySem.W.of_hideAll _ e;have ff:s.heap.FunFrames (PySem.W.hideAll s.heap (ea::L2.frs X.stack)) X.stack:=PySem.W.funFrames_hide I.stack λenv he a hf=>Qr _ (List.mem_filterMap.mpr ⟨env,he,hf⟩);have EE:(PySem.W.hideAll s.heap (ea::L2.frs X.stack)).get? ea=none:=PySem.W.hideAll_none _ Qp;have dl:∀b o,H b=some o->(∀φ,o≠.ext φ)->cW H ea b=some o:=λb o e n=>by rw[iI (λz=>n (cj ea C t dd) (by rw[z,ha] at e;exact(Qw e).symm))];exact e
 have un:Un (L2.frs X.stack) [] H (cW H ea) s.heap s.heap:=by
  refine⟨λb o e _ _ _=>e,λb o e _ _ _=>⟨o.slots,e⟩,λb o e n _=>?_,λb o e _=>⟨o,e⟩,λb xs e=>dl _ _ e (λ_ z=>nomatch z),λb o u e=>dl _ _ e (λ_ z=>nomatch z),λb ps e=>⟨#[],by rw[Array.append_empty];exact dl _ _ e (λ_ z=>nomatch z)⟩⟩;unfold cW;split
  ·rfl
  exact n
 have hok:bp X.prog X.w (cW H ea) s.heap:=λb o e=>by
  have hb:b≠ea:=λz=>by rw[z,p4] at e;cases e
  rw[iI hb] at e;exact(I.hok b o e).stay (λ_ _ _ z=>z) (λc z=>dl _ _ z (λ_ z=>nomatch z)) λc xs z=>dl _ _ z (λ_ z=>nomatch z)
 have bN:∀a o,cW H ea a=some o->∃ob,(PySem.W.hideAll s.heap (ea::L2.frs X.stack)).get? a=some ob:=λa o e=>by
  have hb:a≠ea:=λz=>by rw[z,p4] at e;cases e
  rw[iI hb] at e;obtain⟨ob,hob⟩:=pE I e;exact⟨ob,hin a ob hob hb λhm=>by rw[I.stkFree a hm] at e;cases e⟩
 have C2:∀b o,X.s₀.heap.get? b=some o->b∉X.fs->∃o',(PySem.W.hideAll s.heap (ea::L2.frs X.stack)).get? b=some o':=λb o e hb=>by
  obtain⟨o1,e1⟩:=I.base.there b o e (by rw[bd.ex];simp);exact⟨o1,hin b o1 e1 (λz=>by rw[z,hnew] at e;cases e) (bd.old I e hb)⟩
 subst hX;refine yW I.ok.frames ff rfl px CL EE rfl rfl λEM fl up=>?_;have J:=zc bd I un hok rfl I.bare CL fl.1 up (iA ff) C2 (λb o e n hb=>⟨o,hin b o e (λz=>by rw[z,ha] at n;cases n) hb⟩) bN;exact⟨ea,.ref C,dd,some .none,_,cW H ea,rfl,h0,fl,C2,bN,J.os,J.bare,J.base,J.hok,q⟩
end
section
variable {X:Cx}{kb:List (Addr×Obj)}{σ:St}{H:Hp}{s:Shared}{a C t dx:Addr}{fs:List (Str×V)}{f:Str}{A:Around}{E:Value->Shared->Prop}
theorem zd{y:V}{u:Value}{Q:Unit->Shared->Prop}(bd:ce X)(I:Inv X kb σ H s)(e:H a=some (bS a C t none))(c:gb X.K C)(n:cq X.K C f)(ry:RelV y u)
  (h:∀dx s',H dx=none->dx≠a->Inv X kb σ (ai (ai H a (bS a C t (some dx))) dx (dz dx [(f,y)])) s'->Q () s'):wpAny (model X.prog X.w) A (setAttr (.ref a) f u) Q E s:=by
 have p:cj a C t none s.heap:=(show bj X.prog X.w H s.heap a (.ext (cj a C t none)) from I.hok a _ e).1;refine yX I.kIn p c n.taker λh' N p' kp=>?_;have hn:H s.heap.objs.size=none:=I.hok.fresh (Qk _);have lt:∀{b:Addr} {o:Obj},s.heap.get? b=some o->b≠s.heap.objs.size:=λq=>Qy (Qm q);refine h s.heap.objs.size _ hn (lt p).symm ?_
 have I1:Inv X kb σ (ai H a (bS a C t (some s.heap.objs.size))) {s with heap:=h',toks:=s.toks+2} :=
  I.write (x:=a) (e:=a) (by rw[e];exact True.intro) (.inl rfl) (λb q hb z=>kp b q hb z) ⟨_,p'⟩ (p5 p')
 refine I1.track (by rw[am (lt p).symm];exact hn) ?_ ?_ (λx c ec z=>?_) (λp hp z=>?_) (p7 ⟨_,N,λg=>?_⟩)
 ·cases z:X.s₀.heap.get? s.heap.objs.size with
  |none=>rfl
  |some o =>
   obtain⟨o1,e1⟩:=I.base.there _ o z (by rw[bd.ex];simp);exact absurd rfl (lt e1)
 ·obtain⟨m,⟨o,_,_,eo,_⟩,_⟩:=I.loc;exact(lt eo).symm
 ·obtain⟨_,o0,El,_⟩:=I.cell x c ec;exact lt El z
 ·obtain⟨e0,_⟩:=I.pin p hp;exact lt e0 z
 show cn (List.lookup g [(f,y)]) (if g=f then some u else none);by_cases q:g=f
 ·rw[if_pos q];simp only[List.lookup,beq_iff_eq.mpr q];exact ry
 rw[if_neg q];simp only[List.lookup,beq_eq_false_iff_ne.mpr q];exact True.intro
theorem ze{fs:List (Str×V)}{mA:Str->Option Value}(r:∀f,cn (fs.lookup f) (mA f)):PySem.Within mA (fs.map (·.1)):=λg hg=>by
 cases q:fs.lookup g with
 |none=>exact absurd (cn.none_of (by rw[<-q];exact r g)) hg
 |some v =>
  clear r hg
  induction fs with
  |nil=>cases q
  |cons p fs ih =>
   simp only[List.lookup] at q;split at q
   ·rename_i z;rw[beq_iff_eq.mp z];exact Qp
   exact Qr _ (ih q)
theorem zf{y:V}{u:Value}{Q:Unit->Shared->Prop}(I:Inv X kb σ H s)(e:H a=some (bS a C t (some dx)))(ed:H dx=some (dz dx fs))(ne:dx≠a)(hl:fs.length<=1000)(c:gb X.K C)(n:cq X.K C f)(ry:RelV y u)
  (h:∀s',Inv X kb σ (ai H dx (dz dx (bQ f y fs))) s'->Q () s'):wpAny (model X.prog X.w) A (setAttr (.ref a) f u) Q E s:=by
 have p:cj a C t (some dx) s.heap:=(show bj X.prog X.w H s.heap a (.ext (cj a C t (some dx))) from I.hok a _ e).1;obtain⟨mA,N,r⟩:eI dx fs s.heap:=(show bj X.prog X.w H s.heap dx (.ext (eI dx fs)) from I.hok dx _ ed).1;refine yY I.kIn p N ne (ze r) (by rw[Qb];exact hl) c n.taker λh' N' sb=>h _ ?_
 have xd':eI dx (bQ f y fs) h':=⟨_,N',λg=>by
  show cn ((bQ f y fs).lookup g) (if g=f then some u else mA g);rw[lg];by_cases q:g=f
  ·rw[if_pos q,if_pos q];exact ry
  rw[if_neg q,if_neg q];exact r g⟩
 exact I.write (x:=dx) (e:=dx) (by rw[ed];exact True.intro) (.inl rfl) (λb q hb z=>(sb.2 b hb).trans z) xd'.obj (p7 xd')
end
def zg(K:W.Frag)(ta tv:TE)(f:Str):TS:=λD σ H=>tv σ H λy H1=>ta σ H1 λx H2=>∃(a C t:Addr),x=.ref a/\gb K C/\cq K C f /\
 ((H2 a=some (bS a C t none)/\∀dx,H2 dx=none->dx≠a->D.nx σ (ai (ai H2 a (bS a C t (some dx))) dx (dz dx [(f,y)]))) ∨
  ∃(dx:Addr) (fs:List (Str×V)),H2 a=some (bS a C t (some dx))/\H2 dx=some (dz dx fs)/\dx≠a/\fs.length<=1000/\D.nx σ (ai H2 dx (dz dx (bQ f y fs))))
section
variable {X:Cx}{o e value:Expr}{f:Str}{pos Dw Dz:Pos}{ta tv:TE}
theorem zh(bd:ce X)(ha:PE X o ta)(hv:PE X value tv)(hs:swapsWith value (some (.Attribute o f Dw)) pos.line X.env=pure false:=by rfl):PS X (.Assign [.Attribute o f Dw] value pos) (zg X.K ta tv f):=by
 intro kb s σ H D I h;refine plainObj_wpAny_Assign_Attribute (az (hv kb s σ H _ I h) λu s1 ⟨y,H1,I1,ry,q⟩=>az (ha kb s1 σ H1 _ I1 q) λov s2 hsl59=>?_) hs;obtain⟨x,H2,I2,rx,a,C,t,ex,c,n,q2⟩:=hsl59;subst ex;obtain rfl:ov=Value.ref a:=rx
 rcases q2 with ⟨ea,q2⟩|⟨dx,fs,ea,ed,ne,hl,q2⟩
 ·exact zd bd I2 ea c n ry λdx s3 hn ne I3=>⟨σ,_,I3,q2 dx hn ne⟩
 exact zf I2 ea ed ne hl c n ry λs3 I3=>⟨σ,_,I3,q2⟩
end
def zi(E:XK)(C:Addr)(sp:Sp)(t:TA):TS:=λ_ σ H=>t σ H λvs H1=>vs.length<=sizeLine/\∀e tt,H1 e=none->H1 tt=none->e≠tt ->
 sp (.ref e::vs) (ai H1 e (bS e C tt none)) (λv H2=>v=.non/\∃dd,H2 e=some (bS e C tt dd)/\E (.ref C) dd (cW H2 e)) E0
structure l9(K:W.Frag)(C f:Addr)(bm:List Value)(newId:String):Prop where
 exc:jV K C bm newId f=true
 fn:PySem.W.isFn K (.ref f)=true
section
variable {X:Cx}
theorem iK{E:XK}{x:Str}{C f:Addr}{fd:FuncData}{ps:List Str}{k:Nat}{sp:Sp}{bm:List Value}{newId Dh B:String}{e:Expr}{es:List Expr}{t:TA}{np CI pos:Pos}(bd:ce X)(hR:p8 X E)(hc:X.calm=true)(hg:Gl X x)(hm:X.mg x=some (.ref C))
  (M:l9 X.K C f bm newId) (FB:ExcBaseFacts B newId Dh bm) (F:aF X.prog X.w X.K X.mg X.base aJ k f fd ps sp) (hr:au (k+1) X.A) (hb:Binds X.K fd ps []) (ha:PA X (e::es) t) (Ey:(x==("__debug__":Str))=false:=by decide)
  (he:starEach (e::es) X.env=(false,eval e X.env)::starEach es X.env:=by rfl) (C5:(backTo CI (starEach es X.env)).any (·.1)=false:=by rfl):PS X (.Raise (some (.Call (.Name x np) (e::es) [] CI)) none pos) (zi E C sp t):=by
 intro kb s σ H D I h;obtain⟨tl,N,nm,qn,bs,hdct,sn,sub,ab,col,dd,k0,k1,k2,k3,k5,mN,hC,hN,hni,T⟩:=y6 I.ok.mod.kin M.exc
 refine zb (C:=C) (nm:=nm) (q:=qn) (N:=N) (bs:=bs) (bm:=tl) (hdct:=hdct) (sn:=sn) (sub:=sub) (ab:=ab) (col:=col) (dd:=dd) (k0:=k0) (k1:=k1) (k2:=k2) (k3:=k3) (k5:=k5)
  FB (mN:=mN) (T.hasType FB.hasBase) (I.ok.hd hc) (by rw[he];show(false||(backTo CI (starEach es X.env)).any (·.1))=false;rw[C5];rfl) hni (ef I hg hm ⟨rfl,?_⟩ Ey)
 have hA:=ha CI kb s σ H _ I h;rw[he] at hA ⊢;refine Calls.evalArgs_plain (az hA λus s1 ⟨vs,H1,I1,r1,hl,q1⟩=>⟨rfl,by rw[<-r1.length];exact hl,I1.bk _ _ hC,hN.keeps I1.bk,T.keeps I1.bk,?_,λh' ea mx=>?_⟩)
 ·have q:=beq_iff_eq.mp M.fn;obtain⟨o,ho,hoc⟩:=Option.map_eq_some_iff.mp (show(X.K.lookup f).map (·.cls)=some (.type "function") from q);exact⟨o,I1.kIn _ _ ho,hoc⟩
 obtain⟨tt,ht,htn,htt⟩:=mx.there;have lt:∀{b:Addr} {o:Obj},s1.heap.get? b=some o->b≠ea:=λq z=>by rw[z,mx.new] at q;cases q
 have none_of:∀b,s1.heap.get? b=none->H1 b=none:=λb hb=>by
  cases z:H1 b with
  |none=>rfl
  |some o =>
   obtain⟨ob,hob⟩:=pE I1 z;rw[hb] at hob;cases hob
 have net:ea≠tt:=λz=>by rw[z,htt] at ht;cases ht
 have hs0:X.s₀.heap.get? ea=none:=by
  cases z:X.s₀.heap.get? ea with
  |none=>rfl
  |some o =>
   obtain⟨o1,e1⟩:=I1.base.there _ o z (by rw[bd.ex];simp);exact absurd rfl (lt e1)
 have I1':Inv X kb σ H1 {s1 with heap:=h',toks:=s1.toks}:=I1.kept mx.keeps
 have I2:Inv X kb σ (ai H1 ea (bS ea C tt none)) {s1 with heap:=h',toks:=s1.toks}:=by
  refine I1'.track (none_of _ mx.new) hs0 ?_ (λx c ec z=>?_) (λp hp z=>?_) (p5 ht)
  ·obtain⟨m,⟨o,_,_,eo,_⟩,_⟩:=I1.loc;exact(lt eo).symm
  ·obtain⟨_,o0,El,_⟩:=I1.cell x c ec;exact lt El z
  obtain⟨e0,_⟩:=I1.pin p hp;exact lt e0 z
 have hq:=q1 ea tt (none_of _ mx.new) (none_of _ htn) net;have r2:aG (V.ref ea::vs) (Value.ref ea::us):=.cons rfl r1;have hl2:((Value.ref ea::us)++([]:List Value)).length=ps.length:=by rw[List.append_nil,<-r2.length];exact F.len _ _ _ _ hq
 have hbb:=hb {s1 with heap:=h',toks:=s1.toks} (Value.ref ea::us) I2.kIn hl2;rw[List.append_nil] at hbb;refine wpAny_call (codeAny_mono (F.run _ X.stack _ _ ⟨Value.ref ea::us,[]⟩ (Value.ref ea::us) _ _ E0 (hr.make C us []) (I2.env0.make C us []) hbb r2 hq) λr s' DT=>?_)
 cases r with
 |error e=>exact False.elim DT
 |ok fl =>
  cases fl with
  |ret u =>
   obtain⟨v,H',I3,rv,ev,dd',hx,hE⟩:=I2.after DT;subst ev;have px:cj ea C tt dd' s'.heap:=(show bj X.prog X.w H' s'.heap ea (.ext (cj ea C tt dd')) from I3.hok ea _ hx).1;exact⟨rv,⟨tt,dd',I3.bk _ _ hC,px⟩,hR kb σ H' s' ea C tt dd' I3 hx hs0 hE⟩
  |next=>exact False.elim DT
  |brk=>exact False.elim DT
  |cont=>exact False.elim DT
end
section
variable {P:Program}{w:World}{K:W.Frag}{mg:Str->Option Value}{base:Heap}{N:List Str}{qual:Str}{scope:Scope}{f:Addr}{cd:Value}{A:Around}{outer:List Env}{s₀:Shared}{H₀:Hp}{E:XK}
theorem fY.ok2{κ:Option Value->Prop}{x qual:Str}{st:Stmt}{f:Addr}{fd:FuncData}{N ps:List Str}{k:Nat}{sp:Sp}(F:fY K x qual st f fd)(S:aK N ps (aA st))(len:∀vs H Q E,sp vs H Q E->vs.length=ps.length)
  (DM:∀(CJ:Value) (A:Around) (outer:List Env) (s:Shared) (H:Hp) (vs:List V) (Q:VK) (E:XK),au k (A.deeper (envOfC qual (aA st) s.heap.objs.size f CJ))->sp vs H Q E ->
   ∃t,cb (dO (cL κ P w) P w K mg base N qual (aA st) f CJ A outer s H E) (eV st) t/\t {nx:=λ_ H'=>Q .non H',rt:=Q} (start N vs) H):aF P w K mg base (cL κ P w) (k+1) f fd ps sp:=by
 obtain⟨oc,od,kV,DY,pm,an,CJ,ct,osl,rfl,lk,EF⟩:=F.ex;exact oJ lk EF S len λA outer s H vs Q E hr hsp=>DM CJ A outer s H vs Q E hr hsp
end
def d4(a:Addr)(cls:Value)(dd:Option Addr)(cx:Option Value)(h:Heap):Prop:=∃o vs,h.get? a=some o/\o.cls=cls/\o.dict=dd/\o.data=.fields vs/\vs[2]?=cx
noncomputable def d5(a:Addr)(cls:Value)(dd:Option Addr)(cx:Option Value):HO:=.ext (d4 a cls dd cx)
theorem zj{P:Program}{w:World}{H:Hp}{h:Heap}{e:Addr}{cls:Value}{dd:Option Addr}{cx:Option Value}(p:d4 e cls dd cx h):bj P w H h e (d5 e cls dd cx):=
 ⟨p,by obtain⟨o,_,q,_⟩:=p;exact⟨o,q⟩,λ_ _ hsl60 k=>by obtain⟨o,vs,q,r⟩:=hsl60;exact⟨o,vs,k _ q,r⟩⟩
theorem d4.cls{a:Addr}{cls:Value}{dd:Option Addr}{cx:Option Value}{h:Heap}(p:d4 a cls dd cx h):gI a cls h:=by obtain⟨o,_,q,r,_⟩:=p;exact⟨o,q,r⟩
theorem ci.has{base h:Heap}{l:List Env}{e:Addr}{cls:Value}{dd:Option Addr}{cx:Option Value}(x:ci base l e cls dd cx h):d4 e cls dd cx h:=by obtain⟨_,_,_,oe,vs,_,_,_,he,hc,hd,_⟩:=x;exact⟨oe,vs,he,hc.1,hc.2.1,hd,hc.2.2⟩
theorem ci.cls{base h:Heap}{l:List Env}{e:Addr}{cls:Value}{dd:Option Addr}{cx:Option Value}(x:ci base l e cls dd cx h):gI e cls h:=x.has.cls
def p9(κ:Option Value->Prop)(K:W.Frag)(C:Addr)(i:Nat)(tb:XK->TS)(ts:TS):TS:=λD σ H =>
 tb (λcls dd H1=>PySem.W.exmOne K cls (.ref C)=some true/\∀ea cx,κ cx->H1 ea=none->ts (D.unset i) (σ.set i (some (.ref ea))) (ai H1 ea (d5 ea cls dd cx))) D σ H
section
variable {X:Cx}
theorem zk{κ:Option Value->Prop}{body:List Stmt}{tb:XK->TS}{x n:Str}{C:Addr}{i:Nat}{b₀:Stmt}{suite:List Stmt}{ts:TS}{np hpos pos:Pos}(bd:ce X)(hx:pG (cL κ X.prog X.w) X body tb)(hg:Gl X x)(hm:X.mg x=some (.ref C))
  (hN:X.N.Nodup) (hi:X.N[i]?=some n) (hk:X.env.scope.names.lookup n=some .local) (hsu:∀ea,cb (X.hnd ea) (b₀::suite) ts) (Ey:(x==("__debug__":Str))=false:=by decide) :
  PS X (.Try body [.ExceptHandler (some (.Name x np)) (some n) (b₀::suite) hpos] [] [] pos) (p9 κ X.K C i tb ts):=by
 intro kb s σ H D I h;refine wpAny_Try_except (az (hx _ _ kb s σ H D ?_ I h) λf s1 q=>?_)
 case refine_2 =>
  cases f with
  |next=>exact wpAny_execs_nil q
  |ret v=>exact q
  |brk=>exact q
  |cont=>exact q
 intro H0 s0 ev s' I0 hc;obtain⟨ea,cls,dd,cx,B,H',rfl,hc0,fl,C2,bN,os,bare,un,hok,Di,q⟩:=hc;have fr:X.A.frames=some (X.env::X.outer):=by rw[<-bd.stk];exact I0.ok.frames
 have fl0:ci B (X.env::X.outer) ea cls dd cx s'.heap:=by rw[<-bd.stk];exact fl
 refine pW fr bd.frm fl0 λh1 held up1=>?_;refine l6 (s:={s' with heap:=h1}) held λh2 fl2 up2=>?_;have J2:Inv X kb σ H' {s' with heap:=h2}:=lO bd I0 un hok os bare fl.1 fl2.1 (up1.trans up2) (iA fl.2.2.1) C2 bN;refine wpAny_handleBy_cons (codeAny_handlers_test (ef (J2.hnd ea) hg hm ?_ Ey)) (by intro q;cases q);have LT:PySem.W.Looks (model X.prog X.w) h2 (typeOf (.ref ea)) cls:=gI.type fl2.cls;refine(PySem.W.exm_one (M:=model X.prog X.w) J2.kIn LT Di).here ?_;refine codeAny_handlers_suite_as ?_;refine yU (s:={s' with heap:=h2}) fl2 λh3 fl3 up3=>?_;have J3:Inv X kb σ H' {s' with heap:=h3}:=lO bd I0 un hok os bare fl.1 fl3.1 ((up1.trans up2).trans up3) (iA fl.2.2.1) C2 bN;have hBn:B.get? ea=none:=fl.2.1;have nst:ea∉L2.frs X.stack:=λhm=>by obtain⟨o,ho,nd⟩:=iA fl.2.2.1 ea hm;obtain⟨oe,vs,_,_,_,he,_,hd,_⟩:=fl.2.2.2;rw[ho] at he;cases he;exact nd _ hd
 have hn:H' ea=none:=by
  cases z:H' ea with
  |none=>rfl
  |some o =>
   obtain⟨ob,hb⟩:=bN ea o z;rw[hBn] at hb;cases hb
 have hs0:s0.heap.get? ea=none:=by
  cases z:s0.heap.get? ea with
  |none=>rfl
  |some o =>
   obtain⟨ob,hb⟩:=C2 ea o z nst;rw[hBn] at hb;cases hb
 have hsX:X.s₀.heap.get? ea=none:=by
  cases z:X.s₀.heap.get? ea with
  |none=>rfl
  |some o =>
   obtain⟨o1,e1⟩:=I0.base.there ea o z (by rw[bd.ex];simp);rw[hs0] at e1;cases e1
 have J4:Inv X kb σ (ai H' ea (d5 ea cls dd cx)) {s' with heap:=h3}:=by
  refine J3.track hn hsX (λz=>nst ?_) (λy c e z=>?_) (λp hp z=>?_) (zj fl3.has)
  ·rw[bd.frs,z];exact Qp
  ·obtain⟨_,o0,El,_⟩:=I0.cell y c e;rw[z,hs0] at El;cases El
  obtain⟨e,_⟩:=I0.pin p hp;rw[z,hs0] at e;cases e
 refine jn (X:=X.hnd ea) (v:=.ref ea) (J4.hnd ea) hN hi (.inl hk) rfl (λs5 J5=>?_) (.inr hk);refine QJ (hsu ea kb s5 _ _ (D.unset i) J5 (q ea cx hc0 hn)) (λf s6 z=>?_) λ_ _ z=>False.elim z
 cases f with
 |next=>obtain⟨σ6,H6,J6,q6⟩:=z;exact jO (J6.unhnd I.ok) hN hi hk λs7 J7=>⟨_,_,J7,q6⟩
 |brk=>obtain⟨σ6,H6,J6,q6⟩:=z;exact jO (J6.unhnd I.ok) hN hi hk λs7 J7=>⟨_,_,J7,q6⟩
 |cont=>obtain⟨σ6,H6,J6,q6⟩:=z;exact jO (J6.unhnd I.ok) hN hi hk λs7 J7=>⟨_,_,J7,q6⟩
 |ret u=>obtain⟨v6,σ6,H6,J6,r6,q6⟩:=z;exact jO (J6.unhnd I.ok) hN hi hk λs7 J7=>⟨_,_,_,J7,r6,q6⟩
theorem zm{kb:List (Addr×Obj)}{σ:St}{H:Hp}{s:Shared}{a:Addr}{cls:Value}{dd:Option Addr}{cx:Option Value}(I:Inv X kb σ H s)(e:H a=some (d5 a cls dd cx)):d4 a cls dd cx s.heap:=(show bj X.prog X.w H s.heap a (.ext (d4 a cls dd cx)) from I.hok a _ e).1
theorem fh{a b:TS}{D:bO}{σ:St}{H:Hp}(P:St->Hp->Prop)(h1:∀R:St->Hp->Prop,(∀σ' H',P σ' H'->R σ' H')->a {D with nx:=R} σ H)(h2:∀σ' H',P σ' H'->b D σ' H'):ic a b D σ H:=h1 _ λσ' H' h=>h2 σ' H' h
theorem zn{κ:Option Value->Prop}{K:W.Frag}{C:Addr}{i:Nat}{tb:XK->TS}{ts:TS}{D:bO}{σ:St}{H:Hp}(B:Value->Option Addr->Hp->Prop)(h1:∀E:XK,(∀c dd H1,B c dd H1->E c dd H1)->tb E D σ H)
  (h2:∀c dd H1,B c dd H1->PySem.W.exmOne K c (.ref C)=some true/\∀ea cx,κ cx->H1 ea=none->ts (D.unset i) (σ.set i (some (.ref ea))) (ai H1 ea (d5 ea c dd cx))):p9 κ K C i tb ts D σ H:=h1 _ h2
end
noncomputable def gd(z:Str)(i:Nat):V:=.str ⟨#[z.cps.toList.getD i 0]⟩
theorem zo{P:Program}{w:World}{K:W.Frag}{tg:Expr}(it:Addr)(z:Str)(t:Tok) :
  dk P w K tg (eW z.length (gd z)) [it] it (λi h=>i<=z.length/\h.IsStrIter it "str_ascii_iterator" z t i) where
 mem:=by simp
 obj:=λi h st b hb=>by
  have e:b=it:=by simpa using hb
  subst e;obtain⟨_,o,e,c,d⟩:=st;exact⟨o,e,λv z=>by rw[d] at z;cases z⟩
 keep:=λi h h' st k=>⟨st.1,by obtain⟨o,e,r⟩:=st.2;exact⟨o,k it (by simp) o e,r⟩⟩
 item:=by
  intro X hP hw hK hc i kb s σ H E I hf st hg;subst hP hw hK;have hg:i<z.length:=hg;obtain⟨f0,f1,f2,f3,f4,f5⟩:=hf it (by simp);have hl:z.cps.toList.length=z.length:=by simp[Str.length]
  have EG:z.cps[i]?=some (z.cps.toList.getD i 0):=by rw[QA,Qc (by lia),<-Array.getElem?_toList,Qc (by lia)];rfl
  refine wpAny_pyNext_ascii_item st.2 EG λh' Dm sb=>?_;have I1:Inv X kb σ H {s with heap:=h',toks:=s.toks+1}:=I.turned (λb o hb e=>(sb.2 b hb).trans e) f0 f1 f3 f4 f5;obtain⟨o,e,c,d⟩:=id Dm;exact⟨_,rfl,ju (s:={s with heap:=h',toks:=s.toks+1}) e c d (by decide) ⟨gd z i,H,I1,⟨s.toks,rfl⟩,⟨rfl,rfl⟩,⟨hg,Dm⟩,λb hb=>(hf b hb).1⟩⟩
 done:=by
  intro X hP hw hK hc i kb s σ H E I hf st hg;subst hP hw hK;have hg:z.length<=i:=hg;obtain⟨f0,f1,f2,f3,f4,f5⟩:=hf it (by simp)
  exact wpAny_pyNext_ascii_end (I.ok.hd hc) st.2 (Array.getElem?_eq_none (by show z.length<=i;exact hg)) λh' eb=>⟨rfl,I.turned (t':=s.toks) (λb o hb e=>eb b o hb e) f0 f1 f3 f4 f5⟩
 self:=λ_ _ _ _ _ st h=>wpAny_pyIter_striter_ascii st.2 h
section
variable {X:Cx}{tg:Expr}
def zp(te:TE):TI:=λσ H R=>te σ H λx H1=>∃z:Str,x=.str z/\z.cps.all (·<128)=true/\R (eW z.length (gd z)) H1
theorem qa{e:Expr}{te:TE}(he:PE X e te):PI X tg e (zp te):=by
 intro kb s σ H R I h;refine az (he kb s σ H _ I h) λv s1 hsl61=>?_;obtain⟨x,H1,I1,r1,q1⟩:=hsl61;obtain⟨z,e,ha,q⟩:=q1;subst e;obtain⟨t,rfl⟩:=r1;refine wpAny_pyIter_ascii ha ?_;refine⟨s1.heap.objs.size,[s1.heap.objs.size],_,_,H1,rfl,I1.kept (t':=s1.toks) λb o e=>Qh _ e,zo _ z t,⟨Ql _,_,Qt _ rfl,rfl,rfl⟩,λb hb=>?_,q⟩;have e:b=s1.heap.objs.size:=by simpa using hb
 subst e;exact I1.fpOk (Qk _) (I1.hok.fresh (Qk _))
end
section
variable {X:Cx}
theorem qb:cD X (.type "int") (λxs H Q=>∃z n,xs=[.str z]/\PySem.intText? z=some n/\z.length<=640/\Q (.int n) H):=by intro kb s σ H xs us Q I r h;obtain⟨z,n,rfl,hn,hl,q⟩:=h;obtain⟨u,rfl,t,rfl⟩:=vals1 r;exact PySem.W.KIN.call_text hn hl ⟨.int n,H,I.tok _,⟨_,rfl⟩,q⟩
theorem gP:cD X (.type "str") (λxs H Q=>∃i:Int,xs=[.int i]/\i.natAbs.log2<1920/\Q (.str (toString i)) H):=by intro kb s σ H xs us Q I r h;obtain⟨i,rfl,hl,q⟩:=h;obtain⟨u,rfl,t,rfl⟩:=vals1 r;exact PySem.P.str_of_int hl ⟨.str _,H,I.tok _,⟨_,rfl⟩,q⟩
theorem zq{K:W.Frag}(hK:X.K=K):a9 X (compareOp .In) (ly K false):=by subst hK;exact xr
end
section
variable {js:List Nat}{tt:TT}{te:TE}
theorem qc{n:Nat}{y:Nat->V}{σ:St}{H:Hp}{Q:VK}(Pv:Nat->List V->Hp->Prop)(h0:Pv 0 [] H)
  (hs:∀i ys H,i<n->Pv i ys H->tt (some (y i)::bW js σ) H λb H2=>if b=true then te (some (y i)::bW js σ) H2 λz H3=>ys.length<sizeLine/\Pv (i+1) (ys++[z]) H3 else Pv (i+1) ys H2)
  (hd:∀ys H,Pv n ys H->∀p,H p=none->Q (.ref p) (ai H p (.lst ys))):iu (eW n y) js tt te σ H Q:=by
 refine⟨λi m ys H=>i+m=n/\Pv i ys H,⟨n,by simp,h0⟩,?_⟩;rintro i m ys H1 ⟨e,q⟩;rcases Nat.lt_or_ge i n with CU|DJ
 ·refine .inr ⟨CU,λDF H'=>Pv (i+1) DF H',λDF H' q'=>⟨m-1,by lia,by lia,q'⟩,?_⟩;rintro x H' ⟨rfl,rfl⟩;exact hs i ys _ CU q
 have:i=n:=by lia
 subst this;exact .inl ⟨DJ,hd ys H1 q⟩
end
end L2
namespace Mm
open PySem L2 PyProof.Rows
noncomputable def jW(c:Nat):Bool:=decide (48<=c/\c<=57)
theorem zr:∀c:Nat,c<128->(Builtin.Str.occurrences ("0123456789":Str) ⟨#[c]⟩ 0 ("0123456789":Str).length 1).isEmpty=!(jW c):=by decide +kernel
noncomputable def iL(f:Nat->Bool)(z:Str)(m:Nat):Bool:=!decide (z="")&&(decide (z.length<=m)&&z.cps.toList.all f)
noncomputable def ma(z:Str):Bool:=decide (z="0")||(iL jW z 18&&!decide (z.cps.toList.getD 0 0=48))
end Mm
namespace L2
open PySem PySem.Spec PyProof.Rows
theorem iM{X:Cx}:cD X (.type "str") (λxs H Q=>(∃i:Int,xs=[.int i]/\i.natAbs.log2<1920/\Q (.str (toString i)) H)∨∃z,xs=[.str z]/\Q (.str z) H):=by
 intro kb s σ H xs us Q I r h
 rcases h with ⟨i,rfl,hl,q⟩|⟨z,rfl,q⟩
 ·obtain⟨u,rfl,t,rfl⟩:=vals1 r;exact PySem.P.str_of_int hl ⟨.str _,H,I.tok _,⟨_,rfl⟩,q⟩
 obtain⟨u,rfl,t,rfl⟩:=vals1 r;exact PySem.P.str_of_str ⟨.str _,H,I,⟨_,rfl⟩,q⟩
section
variable {prog:Program}{w:World}{A:Around}{E:Value->Shared->Prop}{s:Shared}
theorem zt{c t:Addr}{i:Nat}{zs:Array Value}{x:Value}{Q:Value->Shared->Prop}(g:s.heap.IsTupleIter c t i)(gt:s.heap.IsTuple t zs)(gx:zs[i]?=some x)
  (k:∀hp,hp.IsTupleIter c t (i+1)->Heap.SameBut c s.heap hp->Q x {s with heap:=hp}):wpAny (model prog w) A (Builtin.SmallTypes.nextOf (.ref c)) Q E s:=by
 have ty:=g.typeIs;obtain⟨o,h1,h2,h3⟩:=id g;obtain⟨q,hq,_,m,hm⟩:=gt;unfold Builtin.SmallTypes.nextOf;refine Qa (wpAny_callSpecial?_slot (name:=Str.ofString "__next__") ty F.slot_tuple_iterator_next (wpAny_call_entry F.slot_tuple_iterator_next ty F.entry_tuple_iterator_next ?_ (F.args_tuple_iterator_next_1 _)));change wpAny _ _ (field (.ref c) 0>>=_) _ _ _;refine Qa (wpAny_field h1 h3 (x:=.ref t) rfl ?_);change wpAny _ _ (if(Value.ref t==Value.none)=true then _ else _) _ _ _;rw[if_neg (by exact Qf)];change wpAny _ _ (field (.ref c) 1>>=_) _ _ _;refine Qa (wpAny_field h1 h3 (x:=.int i 0) rfl ?_);change wpAny _ _ (seqItems? (.ref t)>>=_) _ _ _;refine Qa (wpAny_seqItems hq hm ?_);simp only[Qu,gx];have z:=λhp a b=>Qq (M:=model prog w) (A:=A) (E:=E) (k hp a b);refine Qa (wpAny_setField h1 h3 (by simp) (Qq ⟨x,rfl,z _ ⟨_,Heap.get?_update_self _ h1 (Obj.isFreed_of_fields (Obj.data_mapFields h3 _)),(Obj.cls_mapFields ..).trans h2,?_⟩ (Heap.SameBut.update ..)⟩));rw[Obj.data_mapFields h3];simp[rawInt]
theorem zu{c t:Addr}{i:Nat}{zs:Array Value}{Q:Value->Shared->Prop}(hh:A.handled=none)(g:s.heap.IsTupleIter c t i)(gt:s.heap.IsTuple t zs)(gx:zs[i]?=none)
  (k:∀hp e,Heap.ExtBut c s.heap hp->(∃o,hp.get? e=some o/\o.cls=.type "StopIteration")->E (.ref e) {s with heap:=hp}):wpAny (model prog w) A (Builtin.SmallTypes.nextOf (.ref c)) Q E s:=by
 have ty:=g.typeIs;obtain⟨o,h1,h2,h3⟩:=id g;obtain⟨q,hq,_,m,hm⟩:=gt;unfold Builtin.SmallTypes.nextOf;refine Qa (wpAny_callSpecial?_slot (name:=Str.ofString "__next__") ty F.slot_tuple_iterator_next (wpAny_call_entry F.slot_tuple_iterator_next ty F.entry_tuple_iterator_next ?_ (F.args_tuple_iterator_next_1 _)));change wpAny _ _ (field (.ref c) 0>>=_) _ _ _;refine Qa (wpAny_field h1 h3 (x:=.ref t) rfl ?_);change wpAny _ _ (if(Value.ref t==Value.none)=true then _ else _) _ _ _;rw[if_neg (by exact Qf)];change wpAny _ _ (field (.ref c) 1>>=_) _ _ _;refine Qa (wpAny_field h1 h3 (x:=.int i 0) rfl ?_);change wpAny _ _ (seqItems? (.ref t)>>=_) _ _ _;refine Qa (wpAny_seqItems hq hm ?_);simp only[Qu,gx];refine Qa (wpAny_rule (Qa (wpAny_setField h1 h3 (by simp) ?_)));change wpAny _ _ (newExc (.type "StopIteration") []>>=_) _ _ _;refine Qa ?_;simp only[newTuple,newExc];refine Qa (wpAny_newObj_type ?_ (by size_fits));refine Qa (m:=firstArgMember _ _) (wpAny_of_eq (a:=Value.none) rfl ?_);refine wpAny_newObj_type ?_ (by size_fits);simp only[raiseNew];refine Qa (wpAny_handled ?_)
 first|rw[hh] | rw[show A.in1.handled=none from hh]
 exact Qa (Qq (wpAny_throw (k _ _ (((Heap.SameBut.update ..).extBut.push _).push _) ⟨_,Qt _ rfl,rfl⟩)))
def bT(l:Bool)(h:Heap)(b:Addr)(ys:Array Value):Prop:=∃o,h.get? b=some o/\o.cls=.type (bif l then "list" else "tuple")/\∃n,o.data=.seq ys n
def cX(l:Bool)(h:Heap)(d b:Addr)(k:Nat):Prop:=∃o,h.get? d=some o/\o.cls=.type (bif l then "list_iterator" else "tuple_iterator")/\o.data=.fields #[.ref b,.int k 0]
def fj(l:Bool)(K:W.Frag)(H:Hp)(b:Addr)(ys:List V):Prop:=bif l then ae K H b ys else aW K H b ys
theorem bT.extBut{l:Bool}{h h':Heap}{b c:Addr}{ys:Array Value}(p:bT l h b ys)(e:Heap.ExtBut c h h')(n:b≠c):bT l h' b ys:=
 let ⟨o,q,r⟩:=p;⟨o,e b o n q,r⟩
theorem cX.at{l:Bool}{h h':Heap}{d b:Addr}{k:Nat}(p:cX l h d b k)(e:∀o,h.get? d=some o->h'.get? d=some o):cX l h' d b k:=
 let ⟨o,q,r⟩:=p;⟨o,e o q,r⟩
theorem cX.extBut{l:Bool}{h h':Heap}{d b c:Addr}{k:Nat}(p:cX l h d b k)(e:Heap.ExtBut c h h')(n:d≠c):cX l h' d b k:=p.at λo r=>e d o n r
theorem md{l:Bool}{c t:Addr}{i:Nat}{zs:Array Value}{x:Value}{Q:Value->Shared->Prop}(g:cX l s.heap c t i)(gt:bT l s.heap t zs)(gx:zs[i]?=some x)
  (k:∀hp,cX l hp c t (i+1)->Heap.SameBut c s.heap hp->Q x {s with heap:=hp}):wpAny (model prog w) A (Builtin.SmallTypes.nextOf (.ref c)) Q E s:=by
 cases l
 ·exact zt g gt gx k
 exact wpAny_nextOf_list_item g gt gx k
theorem qd{l:Bool}{c t:Addr}{i:Nat}{zs:Array Value}{Q:Value->Shared->Prop}(hh:A.handled=none)(g:cX l s.heap c t i)(gt:bT l s.heap t zs)(gx:zs[i]?=none)
  (k:∀hp e,Heap.ExtBut c s.heap hp->(∃o,hp.get? e=some o/\o.cls=.type "StopIteration")->E (.ref e) {s with heap:=hp}):wpAny (model prog w) A (Builtin.SmallTypes.nextOf (.ref c)) Q E s:=by
 cases l
 ·exact zu hh g gt gx k
 exact wpAny_nextOf_list_end hh g gt gx k
theorem Inv.seqS{l:Bool}{X:Cx}{kb:List (Addr×Obj)}{σ:St}{H:Hp}{a:Addr}{xs:List V}(I:Inv X kb σ H s)(h:fj l X.K H a xs):∃its:List Value,aG xs its/\bT l s.heap a its.toArray/\xs.length<=sizeLine:=by
 cases l
 ·exact I.tuple h
 obtain⟨its,r,⟨o,n,e,c,_,d⟩,z⟩:=I.list h;exact⟨its,r,⟨o,e,c,n,d⟩,z⟩
theorem Inv.seqS_inj{l:Bool}{X:Cx}{kb:List (Addr×Obj)}{σ:St}{H:Hp}{a:Addr}{xs ys:List V}(I:Inv X kb σ H s)(h:fj l X.K H a xs)(h':fj l X.K H a ys):xs=ys:=by
 cases l
 ·exact I.tuple_inj h h'
 exact I.list_inj h h'
structure ZT(l:Bool)(h:Heap)(z TI TO c d a b:Addr)(k:Nat)(f:Value):Prop where
 zip:IsZip h z TI TO f
 its:IsPair h TI (.ref c) (.ref d)
 own:∃p q,IsPair h TO p q
 fst:cX true h c a k
 snd:cX l h d b k
theorem ZT.zip_item{l:Bool}{z TI TO c d a b:Addr}{k:Nat}{xs ys:Array Value}{x y:Value}{Q:Value->Shared->Prop}(D:ZipApart z TI TO c d a b)(Z:ZT l s.heap z TI TO c d a b k .none)
  (ha:bT true s.heap a xs) (hb:bT l s.heap b ys) (hx:xs[k]?=some x) (hy:ys[k]?=some y)
  (kq:∀hp,ZT l hp z TI TO c d a b (k+1) (rawInt s.heap.objs.size)->IsPair hp s.heap.objs.size x y->(∀e o,e≠z->e≠TO->e≠c->e≠d->s.heap.get? e=some o->hp.get? e=some o)->Q (.ref s.heap.objs.size) {s with heap:=hp}) :
  wpAny (model prog w) A (Builtin.«zip.__next__» ⟨[.ref z],[]⟩) (λfin s'=>∃v,fin=.done (.ret v)/\Q v s') E s:=by
 obtain⟨Zz,Zi,⟨p,q,Zo⟩,Z1,Z2⟩:=Z;change wpAny _ _ (field (.ref z) 2>>=_) _ _ _;refine Qa (wpAny_field Zz rfl (x:=.bool false) rfl ?_);change wpAny _ _ (field (.ref z) 3>>=_) _ _ _;refine Qa (wpAny_field Zz rfl (x:=.ref TI) rfl (Qa (wpAny_seqItems Zi rfl ?_)));change wpAny _ _ (Builtin.SmallTypes.ownedTupleIsFree (.ref z)>>=_) _ _ _;refine Qa ?_;unfold Builtin.SmallTypes.ownedTupleIsFree;refine Qa (wpAny_field Zz rfl (x:=.none) rfl (Qq ?_));simp only[if_true];refine Qa (wpAny_rule (Qa (wpAny_field Zz rfl (x:=.ref TO) rfl ?_)));refine Qa (wpAny_setField_rec Zz (by simp) λg1 Zz1 e1=>?_);have Zz1:IsZip g1 z TI TO .ellipsis:=Zz1;refine Qa ?_;simp only[List.zipIdx_cons,List.zipIdx_nil,List.forIn_cons,List.forIn_nil];refine Qa (Qa (wpAny_onRaise ?_));change wpAny _ _ (Builtin.SmallTypes.nextOf (.ref c)>>=_) _ _ _;refine Qa (md (l:=true) (Z1.extBut e1.extBut D.i1z) (ha.extBut e1.extBut D.l1z) hx λg2 Y1 e2=>Qq ?_);have O2:IsPair g2 TO p q:=e2.extBut _ _ D.TOi1 (e1.extBut _ _ D.TOz Zo);refine Qa (wpAny_seqItems O2 rfl (Qa (wpAny_updateSeq_pair O2 λg3 O3 e3=>?_)));have O3:IsPair g3 TO x q:=O3;refine Qa (wpAny_letGo (Qq (Qa (Qa (wpAny_onRaise ?_)))));change wpAny _ _ (Builtin.SmallTypes.nextOf (.ref d)>>=_) _ _ _;refine Qa (md (((Z2.extBut e1.extBut D.i2z).extBut e2.extBut D.i12.symm).extBut e3.extBut D.TOi2.symm) (((hb.extBut e1.extBut D.l2z).extBut e2.extBut D.l2i1).extBut e3.extBut D.l2TO) hy λg4 Y2 e4=>Qq ?_);have O4:IsPair g4 TO x q:=e4.extBut _ _ D.TOi2 O3;refine Qa (wpAny_seqItems O4 rfl (Qa (wpAny_updateSeq_pair O4 λg5 O5 e5=>?_)));have O5:IsPair g5 TO x y:=O5;refine Qa (wpAny_letGo (Qq (Qq (Qa (wpAny_seqItems O5 rfl (Qa (wpAny_newTuple ?_)))))));have sz:g5.objs.size=s.heap.objs.size:=by rw[e5.1,e4.1,e3.1,e2.1,e1.1]
 have Zz5:IsZip g5 z TI TO .ellipsis:=e5.extBut _ _ D.TOz.symm (e4.extBut _ _ D.i2z.symm (e3.extBut _ _ D.TOz.symm (e2.extBut _ _ D.i1z.symm Zz1)));have up5:∀e o,e≠z->e≠TO->e≠c->e≠d->s.heap.get? e=some o->g5.get? e=some o:=λe o n1 n2 n3 n4 r=>e5.extBut _ _ n2 (e4.extBut _ _ n4 (e3.extBut _ _ n2 (e2.extBut _ _ n3 (e1.extBut _ _ n1 r))));have Y15:cX true g5 c a (k+1):=((Y1.extBut e3.extBut D.TOi1.symm).extBut e4.extBut D.i12).extBut e5.extBut D.TOi1.symm;have Y25:cX l g5 d b (k+1):=Y2.extBut e5.extBut D.TOi2.symm;have zl:z<g5.objs.size:=Qm Zz5;change wpAny _ _ (Builtin.SmallTypes.ownedTupleHandOut (.ref z) (.ref g5.objs.size)>>=_) _ _ _;refine Qa ?_;unfold Builtin.SmallTypes.ownedTupleHandOut;have Zz6:IsZip (g5.push {cls:=.type "tuple",data:=.seq #[x,y]}) z TI TO .ellipsis:=Qh _ Zz5;refine Qa (wpAny_setField_rec Zz6 (by simp) λg7 Zz7 e7=>?_);have Zz7:IsZip g7 z TI TO (rawInt g5.objs.size):=Zz7;refine wpAny_setField_rec Zz7 (by simp) λg8 Zz8 e8=>?_;have Zz8:IsZip g8 z TI TO (rawInt g5.objs.size):=Zz8;have up:∀e o,e≠z->g5.get? e=some o->g8.get? e=some o:=λe o n r=>e8.extBut _ _ n (e7.extBut _ _ n (Qh _ r));have T8:IsPair g8 g5.objs.size x y:=e8.extBut _ _ (Nat.ne_of_gt zl) (e7.extBut _ _ (Nat.ne_of_gt zl) (Qt _ rfl));rw[sz] at Zz8 T8;refine Qq ⟨_,rfl,?_⟩;change Q (.ref g5.objs.size) _;rw[sz];exact kq g8 ⟨Zz8,up _ _ D.TIz (up5 _ _ D.TIz D.TITO D.TIi1 D.TIi2 Zi),⟨_,_,up _ _ D.TOz O5⟩,Y15.at λo r=>up _ o D.i1z r,Y25.at λo r=>up _ o D.i2z r⟩ T8 λe o n1 n2 n3 n4 r=>up e o n1 (up5 e o n1 n2 n3 n4 r)
theorem ZT.zip_end{l:Bool}{z TI TO c d a b:Addr}{k:Nat}{xs ys:Array Value}{Q:Fin->Shared->Prop}(hh:A.handled=none)(D:ZipApart z TI TO c d a b)(Z:ZT l s.heap z TI TO c d a b k .none)
  (ha:bT true s.heap a xs) (hb:bT l s.heap b ys) (D0:xs[k]?=none∨ys[k]?=none)
  (kq:∀hp e,(∀e o,e≠z->e≠TO->e≠c->e≠d->s.heap.get? e=some o->hp.get? e=some o)->(∃o,hp.get? e=some o/\o.cls=.type "StopIteration")->E (.ref e) {s with heap:=hp}) :
  wpAny (model prog w) A (Builtin.«zip.__next__» ⟨[.ref z],[]⟩) Q E s:=by
 obtain⟨Zz,Zi,⟨p,q,Zo⟩,Z1,Z2⟩:=Z;change wpAny _ _ (field (.ref z) 2>>=_) _ _ _;refine Qa (wpAny_field Zz rfl (x:=.bool false) rfl ?_);change wpAny _ _ (field (.ref z) 3>>=_) _ _ _;refine Qa (wpAny_field Zz rfl (x:=.ref TI) rfl (Qa (wpAny_seqItems Zi rfl ?_)));change wpAny _ _ (Builtin.SmallTypes.ownedTupleIsFree (.ref z)>>=_) _ _ _;refine Qa ?_;unfold Builtin.SmallTypes.ownedTupleIsFree;refine Qa (wpAny_field Zz rfl (x:=.none) rfl (Qq ?_));simp only[if_true];refine Qa (wpAny_rule (Qa (wpAny_field Zz rfl (x:=.ref TO) rfl ?_)));refine Qa (wpAny_setField_rec Zz (by simp) λg1 Zz1 e1=>?_);have Zz1:IsZip g1 z TI TO .ellipsis:=Zz1;refine Qa ?_;simp only[List.zipIdx_cons,List.zipIdx_nil,List.forIn_cons,List.forIn_nil];refine Qa (Qa (wpAny_onRaise ?_));change wpAny _ _ (Builtin.SmallTypes.nextOf (.ref c)>>=_) _ _ _;have off:∀{hp:Heap} {e:Addr},IsZip hp z TI TO .ellipsis->(∃o,hp.get? e=some o/\o.cls=.type "StopIteration")->e≠z:=λi ⟨o,h1,h2⟩ y=>by subst y;rw[i] at h1;cases h1;simp at h2
 cases hx:xs[k]? with
 |none =>
  refine Qa (qd (l:=true) hh (Z1.extBut e1.extBut D.i1z) (ha.extBut e1.extBut D.l1z) hx λg2 e e2 he=>?_);have Zz2:IsZip g2 z TI TO .ellipsis:=e2 _ _ D.i1z.symm Zz1;have n:=off Zz2 he;obtain⟨oe,he1,he2⟩:=he;exact wpAny_setField_rec Zz2 (by simp) λg3 _ e3=>kq g3 e (λu o n1 _ n3 _ r=>e3.extBut _ _ n1 (e2 _ _ n3 (e1.extBut _ _ n1 r))) ⟨oe,e3.extBut _ _ n he1,he2⟩
 |some x =>
  have hy:ys[k]?=none:=D0.resolve_left (by rw[hx];simp);refine Qa (md (l:=true) (Z1.extBut e1.extBut D.i1z) (ha.extBut e1.extBut D.l1z) hx λg2 Y1 e2=>Qq ?_);have O2:IsPair g2 TO p q:=e2.extBut _ _ D.TOi1 (e1.extBut _ _ D.TOz Zo);refine Qa (wpAny_seqItems O2 rfl (Qa (wpAny_updateSeq_pair O2 λg3 O3 e3=>?_)));refine Qa (wpAny_letGo (Qq (Qa (Qa (wpAny_onRaise ?_)))));change wpAny _ _ (Builtin.SmallTypes.nextOf (.ref d)>>=_) _ _ _;refine Qa (qd hh (((Z2.extBut e1.extBut D.i2z).extBut e2.extBut D.i12.symm).extBut e3.extBut D.TOi2.symm) (((hb.extBut e1.extBut D.l2z).extBut e2.extBut D.l2i1).extBut e3.extBut D.l2TO) hy λg4 e e4 he=>?_);have Zz4:IsZip g4 z TI TO .ellipsis:=e4 _ _ D.i2z.symm (e3.extBut _ _ D.TOz.symm (e2.extBut _ _ D.i1z.symm Zz1));have n:=off Zz4 he;obtain⟨oe,he1,he2⟩:=he;exact wpAny_setField_rec Zz4 (by simp) λg5 _ e5=>kq g5 e (λu o n1 n2 n3 n4 r=>e5.extBut _ _ n1 (e4 _ _ n4 (e3.extBut _ _ n2 (e2.extBut _ _ n3 (e1.extBut _ _ n1 r))))) ⟨oe,e5.extBut _ _ n he1,he2⟩
theorem ZT.next{l:Bool}{z TI TO c d a b:Addr}{k:Nat}{xs ys:Array Value}{x y:Value}{Q:Option Value->Shared->Prop}(D:ZipApart z TI TO c d a b)(Z:ZT l s.heap z TI TO c d a b k .none)
  (ha:bT true s.heap a xs) (hb:bT l s.heap b ys) (hx:xs[k]?=some x) (hy:ys[k]?=some y)
  (kq:∀hp,ZT l hp z TI TO c d a b (k+1) (rawInt s.heap.objs.size)->IsPair hp s.heap.objs.size x y->(∀e o,e≠z->e≠TO->e≠c->e≠d->s.heap.get? e=some o->hp.get? e=some o)->Q (some (.ref s.heap.objs.size)) {s with heap:=hp}) :
  wpAny (model prog w) A (pyNext (.ref z)) Q E s:=by
 have ty:s.TypeIs (.ref z) "zip":=⟨_,Z.zip,rfl⟩
 unfold pyNext;refine Qa (wpAny_attempt (wpAny_callSpecial?_slot (name:=Str.ofString "__next__") ty F.slot_zip_next (wpAny_call_entry F.slot_zip_next ty F.entry_zip_next ?_ (F.args_zip_next_1 _))));exact Z.zip_item D ha hb hx hy λhp p1 p2 p3=>Qq (kq hp p1 p2 p3)
theorem ZT.ends{l:Bool}{z TI TO c d a b:Addr}{k:Nat}{xs ys:Array Value}{Q:Option Value->Shared->Prop}(hh:A.handled=none)(D:ZipApart z TI TO c d a b)(Z:ZT l s.heap z TI TO c d a b k .none)
  (ha:bT true s.heap a xs) (hb:bT l s.heap b ys) (D0:xs[k]?=none∨ys[k]?=none)
  (kq:∀hp,(∀e o,e≠z->e≠TO->e≠c->e≠d->s.heap.get? e=some o->hp.get? e=some o)->Q none {s with heap:=hp}):wpAny (model prog w) A (pyNext (.ref z)) Q E s:=by
 have ty:s.TypeIs (.ref z) "zip":=⟨_,Z.zip,rfl⟩
 unfold pyNext;refine Qa (wpAny_attempt (wpAny_callSpecial?_slot (name:=Str.ofString "__next__") ty F.slot_zip_next (wpAny_call_entry F.slot_zip_next ty F.entry_zip_next (Z.zip_end hh D ha hb D0 λhp e up ⟨o,h1,h2⟩=>?_) (F.args_zip_next_1 _))));exact Qa (wpAny_isInstance (T:="StopIteration") (b:=true) ⟨o,h1,h2⟩ isSubtype_stop (Qq (kq _ up)))
end
noncomputable def me(l:Bool)(K:W.Frag)(a b:Addr):It:=⟨λi H=>∃xs ys x y,ae K H a xs/\fj l K H b ys/\xs[i]?=some x/\ys[i]?=some y,λi H v H'=>∃(t:Addr) (x y:V),(∀xs,ae K H a xs->xs[i]?=some x)/\(∀ys,fj l K H b ys->ys[i]?=some y)/\H t=none/\v=.ref t/\H'=ai H t (.tup [x,y]),λi H=>∃xs ys,ae K H a xs/\fj l K H b ys/\(xs.length<=i∨ys.length<=i)⟩
theorem zv{l:Bool}{P:Program}{w:World}{K:W.Frag}{D3:List Expr}{n:Nat}{Dz:Pos}{z TI TO c d a b:Addr}(D:ZipApart z TI TO c d a b) :
  dk P w K (.Tuple D3 n Dz) (me l K a b) [z,TI,TO,c,d] z (λi h=>ZT l h z TI TO c d a b i .none) where
 mem:=by simp
 obj:=λi h st e he=>by
  obtain⟨Zz,Zi,⟨p,q,Zo⟩,⟨o1,p1,p2,p3⟩,⟨o2,q1,q2,q3⟩⟩:=st;simp only[List.mem_cons,List.mem_nil_iff,or_false] at he;rcases he with rfl|rfl|rfl|rfl|rfl
  ·exact⟨_,Zz,λv y=>by cases y⟩
  ·exact⟨_,Zi,λv y=>by cases y⟩
  ·exact⟨_,Zo,λv y=>by cases y⟩
  ·exact⟨_,p1,λv y=>by rw[p3] at y;cases y⟩
  exact⟨_,q1,λv y=>by rw[q3] at y;cases y⟩
 keep:=λi h h' st kk=>by obtain⟨Zz,Zi,⟨p,q,Zo⟩,Z1,Z2⟩:=st;exact⟨kk z (by simp) _ Zz,kk TI (by simp) _ Zi,⟨p,q,kk TO (by simp) _ Zo⟩,Z1.at λo r=>kk c (by simp) o r,Z2.at λo r=>kk d (by simp) o r⟩
 item:=by
  intro X hP hw hK hc i kb s σ H E I hf st hg;subst hP hw hK;obtain⟨xs,ys,x,y,hqx,hqy,hx,hy⟩:=hg;obtain⟨its,rv,pa,hz⟩:=I.seqS (l:=true) hqx;obtain⟨jts,C4,pb,hz'⟩:=I.seqS hqy;obtain⟨u,hu,ru⟩:=rv.get hx;obtain⟨v,hv,rv'⟩:=C4.get hy;refine st.next D pa pb (x:=u) (y:=v) (by simpa using hu) (by simpa using hv) λh1 Z1 ht kk=>?_;refine⟨_,rfl,?_⟩
  have lt:∀e∈[z,TI,TO,c,d],e<s.heap.objs.size:=λe he=>by
   obtain⟨Zz,Zi,⟨p,q,Zo⟩,⟨o1,p1,_⟩,⟨o2,q1,_⟩⟩:=st;simp only[List.mem_cons,List.mem_nil_iff,or_false] at he;rcases he with rfl|rfl|rfl|rfl|rfl
   ·exact Qm Zz
   ·exact Qm Zi
   ·exact Qm Zo
   ·exact Qm p1
   exact Qm q1
  refine wpAny_letOwnedTupleGo_zip (s:={s with heap:=h1}) Z1.zip λh2 Zz2 Da=>?_;have Da:Heap.SameBut z h1 h2:=Da;have Ei:∀e o,e∉[z,TI,TO,c,d]->s.heap.get? e=some o->h2.get? e=some o:=λe o n r=>by simp only[List.mem_cons,List.mem_nil_iff,or_false,not_or] at n;exact(Da.2 e n.1).trans (kk e o n.1 n.2.2.1 n.2.2.2.1 n.2.2.2.2 r)
  have Ew:=lt z (by simp);have Ex:h2.get? s.heap.objs.size=some {cls:=.type "tuple",data:=.seq #[u,v]}:=(Da.2 _ (Nat.ne_of_gt Ew)).trans ht;have hT:H s.heap.objs.size=none:=I.fresh
  have I2:Inv X kb σ (ai H s.heap.objs.size (.tup [x,y])) {s with heap:=h2}:=by
   refine I.call' (ch:=[z,TI,TO,c,d]) rfl ⟨λb o q hn hb hx=>Ei b o hx q,λb o q hn hb hx=>⟨o.slots,Ei b o hx q⟩,λb o q hn hx=>?_,λb o q hx=>⟨o,Ei b o hx q⟩,λb ys q=>?_,λb o v q=>?_,λb ps q=>?_⟩ (λb v q=>?_) I.bare λb hb=>?_
   ·rw[am (Qy (Qm q))];exact hn
   ·rw[am (aH q hT)];exact q
   ·rw[am (aH q hT)];exact q
   ·exact⟨#[],by rw[am (aH q hT)];simpa using q⟩
   ·by_cases hb:b=s.heap.objs.size
    ·subst hb;rw[af] at q;cases q;exact⟨dH,[u,_],.cons ru (.cons rv' .nil),⟨_,Ex,rfl,_,rfl⟩,_,Ex,rfl⟩
    rw[am hb] at q;refine(I.hok b v q).stay (λe o hcb r=>Ei e o (λhe=>?_) r) (λe r=>by rw[am (aH r hT)];exact r) λe ys r=>by rw[am (aH r hT)];exact r
    have e0:=(hf e he).1;rcases hcb with r|r
    ·subst r;rw[e0] at q;cases q
    rw[e0] at r;cases r
   obtain⟨f0,f1,f2,f3,f4,f5⟩:=hf b hb;exact⟨f3,f1,f4,f5⟩
  refine⟨.ref s.heap.objs.size,_,I2,rfl,⟨_,x,y,λzs hq=>by rw[I.list_inj hq hqx];exact hx,λzs hq=>by rw[I.seqS_inj hq hqy];exact hy,hT,rfl,rfl⟩,?_,λe he=>?_⟩
  ·obtain⟨_,Zi,⟨p,q,Zo⟩,Y1,Y2⟩:=Z1;exact⟨Zz2,Da.extBut _ _ D.TIz Zi,⟨p,q,Da.extBut _ _ D.TOz Zo⟩,Y1.extBut Da.extBut D.i1z,Y2.extBut Da.extBut D.i2z⟩
  rw[am (Qy (lt e he))];exact(hf e he).1
 done:=by
  intro X hP hw hK hc i kb s σ H E I hf st hg;subst hP hw hK;obtain⟨xs,ys,hqx,hqy,hx⟩:=hg;obtain⟨its,rv,pa,hz⟩:=I.seqS (l:=true) hqx;obtain⟨jts,C4,pb,hz'⟩:=I.seqS hqy;have l1:=rv.length;have l2:=C4.length
  refine st.ends (I.ok.hd hc) D pa pb ?_ λh' up=>⟨rfl,?_⟩
  ·rcases hx with hx|hx
   ·left;simp;lia
   right;simp;lia
  have Ei:∀e o,e∉[z,TI,TO,c,d]->s.heap.get? e=some o->h'.get? e=some o:=λe o n r=>by simp only[List.mem_cons,List.mem_nil_iff,or_false,not_or] at n;exact up e o n.1 n.2.2.1 n.2.2.2.1 n.2.2.2.2 r
  refine I.call' (s':={s with heap:=h'}) (ch:=[z,TI,TO,c,d]) rfl ⟨λb o q hn hb hx=>Ei b o hx q,λb o q hn hb hx=>⟨o.slots,Ei b o hx q⟩,λb o q hn hx=>hn,λb o q hx=>⟨o,Ei b o hx q⟩,λb ys q=>q,λb o v q=>q,λb ps q=>⟨#[],by simpa using q⟩⟩ (λb v q=>?_) I.bare λb hb=>?_
  ·refine(I.hok b v q).stay (λe o hcb r=>Ei e o (λhe=>?_) r) (λe r=>r) λe ys r=>r;have e0:=(hf e he).1;rcases hcb with r|r
   ·subst r;rw[e0] at q;cases q
   rw[e0] at r;cases r
  obtain⟨f0,f1,f2,f3,f4,f5⟩:=hf b hb;exact⟨f3,f1,f4,f5⟩
 self:=λ_ _ _ _ _ st h=>wpAny_pyIter_zip st.zip h
section
variable {prog:Program}{w:World}{A:Around}{E:Value->Shared->Prop}{s:Shared}
noncomputable abbrev qe(t:Addr):Obj:={cls:=.type "list_iterator",data:=.fields #[.ref t,.int 0 0]}
noncomputable abbrev jX(x y:Value):Obj:={cls:=.type "tuple",data:=.seq #[x,y]}
noncomputable abbrev iN(h:Heap)(a:Addr):Heap:=h.push (qe a)
noncomputable abbrev qf(l:Bool)(t:Addr):Obj:={cls:=.type (bif l then "list_iterator" else "tuple_iterator"),data:=.fields #[.ref t,.int 0 0]}
noncomputable abbrev iO(l:Bool)(h:Heap)(a b:Addr):Heap:=(iN h a).push (qf l b)
noncomputable abbrev iP(l:Bool)(h:Heap)(a b:Addr):Heap:=(iO l h a b).push (jX (.ref h.objs.size) (.ref (iN h a).objs.size))
noncomputable abbrev jY(l:Bool)(h:Heap)(a b:Addr):Heap:=(iP l h a b).push (jX .none .none)
noncomputable abbrev gQ(l:Bool)(h:Heap)(a b:Addr):Heap:=(jY l h a b).push {cls:=.type "zip",data:=.fields #[.none,.bool false,.bool false,.ref (iO l h a b).objs.size,.ref (iP l h a b).objs.size]}
theorem zw(l:Bool)(a b:Addr)(xs ys:Array Value) :
  Meets (Builtin.«zip.__new__» ⟨[.type "zip",.ref a,.ref b],[]⟩) (λ_ R s=>bT true s.heap a xs/\bT l s.heap b ys/\R (.ok (.ret (.ref (jY l s.heap a b).objs.size))) {s with heap:=gQ l s.heap a b}):=
 .of_wp λprog w A R s h=>by
  obtain⟨hp,g,d,tk,os⟩:=s;obtain⟨ha,hb,h⟩:=h;have hsub:=sub_zip;have t1:Heap.IsList (Shared.heap ⟨hp,g,d,tk,os⟩) a xs:=ha;cases l
  ·have t2:Heap.IsTuple (Shared.heap ⟨hp.push {cls:=.type "list_iterator",data:=.fields #[.ref a,.int 0 0]},g,d,tk,os⟩) b ys:=Heap.IsTuple.push hb _
   wp_walk using wpAny_pyIter_list t1,wpAny_pyIter_tuple t2
   exact⟨_,rfl,h⟩
  have t2:Heap.IsList (Shared.heap ⟨hp.push {cls:=.type "list_iterator",data:=.fields #[.ref a,.int 0 0]},g,d,tk,os⟩) b ys:=Heap.IsList.push hb _
  wp_walk using wpAny_pyIter_list t1,wpAny_pyIter_list t2
  exact⟨_,rfl,h⟩
theorem zx{l:Bool}{a b:Addr}{xs ys:Array Value}{Q:Value->Shared->Prop}(ha:bT true s.heap a xs)(hb:bT l s.heap b ys)
  (k:∀hp,ZT l hp (s.heap.objs.size+4) (s.heap.objs.size+2) (s.heap.objs.size+3) s.heap.objs.size (s.heap.objs.size+1) a b 0 .none->(∀e o,s.heap.get? e=some o->hp.get? e=some o)->Q (.ref (s.heap.objs.size+4)) {s with heap:=hp}) :
  wpAny (model prog w) A (call (.type "zip") [.ref a,.ref b]) Q E s:=by
 refine callType_new F.called_zip (by decide) (F.typeCall_zip_2 _ _) (F.newCall_zip_2 _ _) (λobj=>F.args_object_init_3 obj _ _) F.entry_zip_new (zw l a b xs ys) ⟨ha,hb,?_⟩;have up:∀{h:Heap} {e:Addr} {o o':Obj},h.get? e=some o->(h.push o').get? e=some o:=λr=>Qh _ r;have y1:(iN s.heap a).objs.size=s.heap.objs.size+1:=Heap.size_push ..;have y2:(iO l s.heap a b).objs.size=s.heap.objs.size+2:=by rw[Heap.size_push,y1]
 have y3:(iP l s.heap a b).objs.size=s.heap.objs.size+3:=by rw[Heap.size_push,y2]
 have y4:(jY l s.heap a b).objs.size=s.heap.objs.size+4:=by rw[Heap.size_push,y3]
 have g0:(gQ l s.heap a b).get? s.heap.objs.size=some (qe a):=up (up (up (up (Qt _ rfl))));have g1:(gQ l s.heap a b).get? (iN s.heap a).objs.size=some (qf l b):=up (up (up (Qt _ rfl)));have g2:(gQ l s.heap a b).get? (iO l s.heap a b).objs.size=some (jX (.ref s.heap.objs.size) (.ref (iN s.heap a).objs.size)):=up (up (Qt _ rfl));have g3:(gQ l s.heap a b).get? (iP l s.heap a b).objs.size=some (jX .none .none):=up (Qt _ rfl);have g4:(gQ l s.heap a b).get? (jY l s.heap a b).objs.size=some {cls:=.type "zip",data:=.fields #[.none,.bool false,.bool false,.ref (iO l s.heap a b).objs.size,.ref (iP l s.heap a b).objs.size]}:=Qt _ rfl;rw[y1,y2] at g2;rw[y1] at g1;rw[y3] at g3;rw[y2,y3,y4] at g4;show _/\_;rw[y4];exact⟨⟨_,g4,rfl⟩,k _ ⟨g4,g2,⟨_,_,g3⟩,⟨_,g0,rfl,rfl⟩,⟨_,g1,rfl,rfl⟩⟩ λe o r=>up (up (up (up (up r))))⟩
end
section
variable {X:Cx}
def zy(l:Bool)(K:W.Frag)(ta:TA):TI:=λσ H R=>ta σ H λvs H1=>∃a b xs ys,vs=[.ref a,.ref b]/\ae K H1 a xs/\fj l K H1 b ys/\R (me l K a b) H1
theorem zz(l:Bool){e f:Expr}{ta:TA}{p pos Dz:Pos}{D3:List Expr}{n:Nat}(hg:Gl X "zip")(hm:X.mg "zip"=none)(ha:PA X [e,f] ta)(hs:starEach [e,f] X.env=(false,eval e X.env)::starEach [f] X.env:=by rfl)
  (hp:(backTo pos (starEach [f] X.env)).any (·.1)=false:=by rfl):PI X (.Tuple D3 n Dz) (.Call (.Name "zip" p) [e,f] [] pos) (zy l X.K ta):=by
 intro kb s σ H R I h;refine Call_ (fG I hg hm boot_zip (PyProof.Rows.callWith_type1 (az (ha pos kb s σ H _ I h) λus s1 hsl62=>?_) hs hp));obtain⟨vs,H1,I1,r1,q1⟩:=hsl62;obtain⟨a,b,xs,ys,rfl,hqa,hqb,q⟩:=q1
 cases r1 with
 |cons ra r2 =>
 cases r2 with
 |cons rb r3 =>
 cases r3;cases ra;cases rb;obtain⟨its,rv,pa,hz⟩:=I1.seqS (l:=true) hqa;obtain⟨jts,C4,pb,hz'⟩:=I1.seqS hqb;have pa':bT true s1.heap a its.toArray:=pa;have pb':bT l s1.heap b jts.toArray:=pb;have al:a<s1.heap.objs.size:=by obtain⟨_,r,_⟩:=pa';exact Qm r
 have bl:b<s1.heap.objs.size:=by obtain⟨_,r,_⟩:=pb';exact Qm r
 refine zx pa' pb' λhp Z kk=>?_;refine wpAny_pyIter_zip (s:={s1 with heap:=hp}) Z.zip ?_;refine⟨_,[s1.heap.objs.size+4,s1.heap.objs.size+2,s1.heap.objs.size+3,s1.heap.objs.size,s1.heap.objs.size+1],_,_,H1,rfl,I1.kept (t':=s1.toks) kk,zv (zipApart_new al bl),Z,λe he=>?_,q⟩
 have DJ:s1.heap.objs.size<=e:=by
  simp only[List.mem_cons,List.mem_nil_iff,or_false] at he
  rcases he with rfl|rfl|rfl|rfl|rfl<;>(show(_:Nat)<=_;lia)
 exact I1.fpOk DJ (I1.hok.fresh DJ)
end
section
variable {k:Nat}{js:List Nat}{g:TG}{tt:TT}{te:TE}
theorem zA{l:Bool}{K:W.Frag}{a b:Addr}{xs ys:List V}{σ:St}{H:Hp}{Q:VK}(Pv:Nat->List V->Hp->Prop)(h0:Pv 0 [] H)(hl:∀i zs H,Pv i zs H->ae K H a xs/\fj l K H b ys)
  (hs:∀i x y zs H t,xs[i]?=some x->ys[i]?=some y->Pv i zs H->H t=none->iB k js g tt te σ zs (Pv (i+1)) (.ref t) (ai H t (.tup [x,y])))
  (hd:∀zs H,Pv (min xs.length ys.length) zs H->∀p,H p=none->Q (.ref p) (ai H p (.lst zs))):jP (me l K a b) k js g tt te σ H Q:=by
 refine⟨λi m zs H=>m=min xs.length ys.length-i/\i<=min xs.length ys.length/\Pv i zs H,⟨min xs.length ys.length,by simp,Ql _,h0⟩,?_⟩;rintro i m zs H ⟨rfl,hi,p⟩;have q:=hl i zs H p;by_cases CU:i<min xs.length ys.length
 ·have h1:i<xs.length:=by lia
  have h2:i<ys.length:=by lia
  refine .inr ⟨⟨xs,ys,xs[i],ys[i],q.1,q.2,by simp[h1],by simp[h2]⟩,Pv (i+1),λzs' H' p'=>⟨min xs.length ys.length-(i+1),by lia,rfl,CU,p'⟩,λv H' w=>?_⟩;obtain⟨t,x,y,hx,hy,ht,rfl,rfl⟩:=w;exact hs i x y zs H t (hx xs q.1) (hy ys q.2) p ht
 have e:i=min xs.length ys.length:=by lia
 subst e;exact .inl ⟨⟨xs,ys,q.1,q.2,by lia⟩,hd zs H p⟩
end
noncomputable def K0:PySem.W.Frag:=[]
theorem ae.up{K:W.Frag}{H:Hp}{a:Addr}{xs:List V}(h:ae K0 H a xs):ae K H a xs:=h.elim .inl λhsl63=>by obtain⟨_,_,_,e,_⟩:=hsl63;exact nomatch e
theorem aW.up{K:W.Frag}{H:Hp}{a:Addr}{xs:List V}(h:aW K0 H a xs):aW K H a xs:=h.elim .inl λhsl64=>by obtain⟨_,_,_,e,_⟩:=hsl64;exact nomatch e
section
variable {X:Cx}{tg:Expr}
theorem zB:eS X (iq K0):=by rintro va sl kb s σ H x y v u Q I rx ry ⟨p,xs,i,v,e1,e2,h,e3,q⟩;exact oN va sl kb s σ H x y _ u Q I rx ry ⟨p,xs,i,v,e1,e2,h.up,e3,q⟩
theorem fk:eS X (ip K0):=by rintro va sl kb s σ H x y v u Q I rx ry ⟨p,xs,i,v,e1,e2,h,e3,q⟩;exact cw va sl kb s σ H x y _ u Q I rx ry ⟨p,xs,i,v,e1,e2,h.up,e3,q⟩
theorem zC{a:Expr}{ta:TE}{pos p2:Pos}{i:Int}{j}(ha:PE X a ta):PE X (.Subscript a (.Constant (.int i) j p2) pos) (fO (iq K0) ta (tC (.int i))):=aY zB ha ag (λ_ _=>rfl)
theorem d6{a:Expr}{ta:TE}{pos p2:Pos}{i:Int}{j}(ha:PE X a ta):PE X (.Subscript a (.Constant (.int i) j p2) pos) (fO (ip K0) ta (tC (.int i))):=aY fk ha ag (λ_ _=>rfl)
theorem zD:jA X (lu K0):=by rintro kb s σ H x v vl vu lo hi sl Q I rx hs pl pu ⟨a,xs,e,h,q⟩;exact lv kb s σ H x v vl vu lo hi sl Q I rx hs pl pu ⟨a,xs,e,h.up,q⟩
inductive qg (xs:List V) (H:Hp) (Q:VK):Prop
 |mk:∀p ys,xs=[.ref p]->(ae K0 H p ys∨aW K0 H p ys)->Q (.int ys.length) H->qg xs H Q
theorem cY:cD X (.builtin "len") qg:=by rintro kb s σ H xs us Q I r ⟨p,ys,e,h,q⟩;exact fX kb s σ H xs us Q I r ⟨p,ys,e,h.imp ae.up aW.up,q⟩
theorem gf{es:List Expr}{k:Nat}{pos:Pos}{t:eP}{n:Nat}(hc:X.calm=true)(h:gy X es t)
  (hn:(assignEach es X.env).length=n:=by rfl) (CL:(assignEach es X.env).findIdx? (·.1)=none:=by rfl):PG X (.Tuple es k pos) (jr K0 n t):=by
 rintro kb s σ H v u Q I r ⟨a,xs,e1,hq,hl,hw⟩;exact kS hc h hn CL kb s σ H v u Q I r ⟨a,xs,e1,hq.up,hl,hw⟩
theorem dk.mono{P:Program}{w:World}{K:W.Frag}{J J':It}{fp:List Addr}{it:Addr}{tn:Nat->Heap->Prop}(T:dk P w K tg J fp it tn)(g:∀i H,J'.go i H->J.go i H)(y:∀i H x H',J.yld i H x H'->J'.yld i H x H')(d:∀i H,J'.stop i H->J.stop i H):dk P w K tg J' fp it tn:=
 ⟨T.mem,T.obj,T.keep,λX a b c cl i kb s σ H E I f t h=>QJ (T.item X a b c cl i kb s σ H E I f t (g i H h)) (λ_ _ hsl65=>by obtain⟨u,e,z⟩:=hsl65;exact⟨u,e,QJ z (λ_ _ hsl66=>by obtain⟨x,H',q1,q2,q3,q4⟩:=hsl66;exact⟨x,H',q1,q2,y _ _ _ _ q3,q4⟩) λ_ _ z=>z⟩) λ_ _ z=>z,λX a b c cl i kb s σ H E I f t h=>T.done X a b c cl i kb s σ H E I f t (d i H h),T.self⟩
theorem cZ{l:Expr}{tl:TE}(hl:PE X l tl):PI X tg l (nW K0 tl):=by intro kb s σ H R I h;refine az (hl kb s σ H _ I h) λv s1 hsl67=>?_;obtain⟨x,H1,I1,r1,a,e,⟨xs,hq⟩,q⟩:=hsl67;subst e;cases r1;obtain⟨its,rv,p,hz⟩:=I1.list hq.up;refine wpAny_pyIter_list p.isList ⟨s1.heap.objs.size,[s1.heap.objs.size],_,eu K0 a,H1,rfl,I1.kept (t':=s1.toks) λb o e=>Qh _ e,(nV a _).mono (λi H hsl68=>by obtain⟨xs,x,h,e⟩:=hsl68;exact⟨xs,x,h.up,e⟩) (λi H x H' hsl69=>by obtain⟨e,h⟩:=hsl69;exact⟨e,λxs z=>h xs z.up⟩) (λi H hsl70=>by obtain⟨xs,h,e⟩:=hsl70;exact⟨xs,h.up,e⟩),⟨_,Qt _ rfl,rfl,rfl⟩,λb hb=>?_,q⟩;rw[List.mem_singleton.mp hb];exact I1.fpOk (Qk _) (I1.hok.fresh (Qk _))
theorem gE.up{K:W.Frag}{T:String}{x:V}{H:Hp}(h:gE K0 T x H):gE K T x H:=by
 cases x with
 |ref p=>exact h.elim (λ⟨e,xs,z⟩=>.inl ⟨e,xs,z.up⟩) λh=>h.elim (λ⟨_,_,e,_⟩=>nomatch e) λh=>.inr (.inr h)
 |_=>exact h
section
variable {o e:Expr}{es:List Expr}{to:TE}{t:TA}{apos CI:Pos}
theorem dA(ho:PE X o to)(ha:PA X (e::es) t)
  (CS:attributeBase o "append" X.env (eval o X.env)=eval o X.env:=by rfl)
  (DA:((backTo CI (starEach (e::es) X.env)).all (λx=>!x.1)&&(backToKw CI (keywordEach [] X.env)).all (λx=>x.1.isSome)
   && decide ((e::es).length+([]:List Keyword).length+(if([]:List Keyword).isEmpty then 0 else 1)<30))=true:=by rfl)
  (CZ:(apos.endLine==CI.line)=true:=by rfl) (hs:starEach (e::es) X.env=(false,eval e X.env)::starEach es X.env:=by rfl) (Db:(backTo CI (starEach es X.env)).any (·.1)=false:=by rfl) :
  PE X (.Call (.Attribute o "append" apos) (e::es) [] CI) (lz K0 "list" lB to t):=by
 intro kb s σ H Q I h;refine wpAny_Call_method_late CS DA CZ rfl (az (ho kb s σ H _ I h) λv s1 hsl71=>?_);obtain⟨x,H1,I1,r1,ty,q1⟩:=hsl71;obtain⟨h1,h2⟩:=jD I1 r1 ty.up;refine⟨_,_,PySem.F.plainAttrs_list,PySem.F.slot_list_append,PySem.F.type_list_append,h1,h2,?_⟩;have hA:=ha CI kb s1 σ H1 _ I1 q1;rw[hs] at hA ⊢;refine Calls.callWith_builtin (by show(false||(backTo CI (starEach es X.env)).any (·.1))=false;rw[Db]<;>rfl) (Calls.evalArgs_plain ?_);exact az hA λus s2 hsl72=>by obtain⟨vs,H2,I2,r2,q2⟩:=hsl72;exact lC kb s2 σ H2 x vs v us Q I2 r1 r2 q2
theorem qh(ho:PE X o to)(CS:attributeBase o "pop" X.env (eval o X.env)=eval o X.env:=by rfl)(CZ:(apos.endLine==CI.line)=true:=by rfl):PE X (.Call (.Attribute o "pop" apos) [] [] CI) (oP K0 "list" lD to):=by intro kb s σ H Q I h;refine wpAny_Call_method0_late CS CZ (az (ho kb s σ H _ I h) λv s1 hsl73=>?_);obtain⟨x,H1,I1,r1,ty,q1⟩:=hsl73;obtain⟨h1,h2⟩:=jD I1 r1 ty.up;exact⟨_,_,PySem.F.plainAttrs_list,PySem.F.slot_list_pop,PySem.F.type_list_pop,h1,h2,Calls.callWith_builtin rfl (PySem.evalArgs_none (oQ kb s1 σ H1 x [] v [] Q I1 r1 .nil q1))⟩
end
end
end L2
namespace L2
open PySem
noncomputable instance {N P:List Str}{sc:Scope}:Decidable (aK N P sc):=decidable_of_iff (sc.kind=.function/\sc.isCoroutine=false/\sc.isGenerator=false/\N.Nodup/\N.take P.length=P/\(∀x∈P,sc.names.lookup x=some .local∨sc.names.lookup x=some .cell)/\∀y∈sc.names,y.2≠.free) ⟨λhsl74=>by obtain⟨a,b,c,d,e,f,g⟩:=hsl74;exact⟨a,b,c,d,e,f,g⟩,λhsl75=>by obtain⟨a,b,c,d,e,f,g⟩:=hsl75;exact⟨a,b,c,d,e,f,g⟩⟩
noncomputable instance {Dp sc:Scope}{NX:List Str}{xs:List Str}{fv:List Str}{js:List Nat}:Decidable (gJ Dp sc NX xs fv js):=decidable_of_iff (sc.kind=.function/\Dp.kind=.function/\(∀y∈sc.names,y.2≠.cell)/\(∀x∈xs,sc.names.lookup x=some .local)/\(∀y∈sc.names,y.2=.local->sc.names.lookup y.1=some .local)/\(∀y∈sc.names,y.2=.free->Dp.names.lookup y.1=some .cell)/\(xs++fv).Nodup/\js.map (λj=>NX[j]?)=fv.map some/\∀y∈fv,sc.names.lookup y=some .free) ⟨λhsl76=>by obtain⟨a,b,c,d,e,f,g,h,i⟩:=hsl76;exact⟨a,b,c,d,e,f,g,h,i⟩,λhsl77=>by obtain⟨a,b,c,d,e,f,g,h,i⟩:=hsl77;exact⟨a,b,c,d,e,f,g,h,i⟩⟩
end L2
namespace L2
theorem zE{α:Type}:∀{us:List α},us.length=1->∃a,us=[a]
 | [a],_=>⟨a,rfl⟩
theorem zF{α:Type}{n:Nat}:∀{us:List α},us.length=n+1->∃a r,us=a::r/\r.length=n
 |a::r,h=>⟨a,r,rfl,Nat.succ.inj h⟩
theorem zG{α:Type}{us:List α}(h:us.length=2):∃a b,us=[a,b]:=by obtain⟨a,r,rfl,k⟩:=zF h;obtain⟨b,rfl⟩:=zE k;exact⟨a,b,rfl⟩
end L2
namespace L2
open PySem PySem.Spec PyProof.Rows
section
variable {prog:Program}{w:World}{A:Around}{E:Value->Shared->Prop}{s:Shared}{K:W.Frag}{x D dx:Addr}{name:Str}{v:Value}{mA:Str->Option Value}
theorem d4.inst{dx:Addr}{cx:Option Value}{h:Heap}(p:d4 x (.ref D) (some dx) cx h){od:Obj}(ho:h.get? dx=some od):∃ox,PySem.W.InstAt h x ox D (some od):=by
 obtain⟨o,vs,q,hc,hd,hv,_⟩:=p;refine⟨o,q,hc,?_,?_⟩
 ·obtain⟨a,b,c,d⟩:=o;cases hv;rfl
 rw[hd];exact ho
open PySem.W PySem.Calls Builtin Builtin.ObjectAttr in
theorem zH{ET:Bool}{cx:Option Value}{Q:Value->Shared->Prop}(c:jN K D)(hh:PySem.W.hasDictIn K D=true)(na:cq K D name)(X:K.In s.heap)(p:d4 x (.ref D) (some dx) cx s.heap)(N:s.heap.Ns1 dx mA)(hv:mA name=some v)(hv':PySem.W.handedIn v=true)
  (h:Q v {s with toks:=s.toks+1}):wpAny (model prog w) A (getAttr (.ref x) name ET) Q E s:=by
 obtain⟨od,ho,hl⟩:=lf N;obtain⟨ox,J⟩:=p.inst ho;have LF:=looks_find (M:=model prog w) X J (findObj_own hh na rfl (by rw[hl,hv]));obtain⟨hp,g,d,t,os⟩:=s;have L0:=p.cls.type (M:=model prog w);have L1:=looks_findIn (M:=model prog w) X c.hg;have L2:=looks_findIn (M:=model prog w) X c.hk;unfold getAttr getAttrBy;refine Qa (wpAny_mkText (wpAny_holding (Qa (L0.at (Qa (L1.at ?_))))));show wpAny _ _ (getAttrByItsOwn _ _ _ _ _ _) _ _ _;unfold getAttrByItsOwn;refine Qa ((show Looks (model prog w) hp (hookBefore (.ref D)) none from L2).at ?_);refine Qa (wpAny_attempt (wpAny_holding ?_));unfold callGetattribute;rw[show(ET&&onTheHeap (.builtin "BaseException.__getattribute__"))=false from by cases ET<;>rfl];rw[if_neg (by decide)];unfold boundAndCalled;rw[F.excAttr_ValueError.ga.bind];refine Qa (Qq ?_);refine wpAny_call (codeAny_call_builtin F.excAttr_ValueError.ga.plain F.entry_bexc_ga (ym (s:=⟨hp,g,d,t+1,os⟩) c X p.cls ?_));refine Qa (Qq (Qa (Qq (Qa (L0.at (Qa (LF.at ?_)))))));refine Qq ?_;show wpAny _ _ (handedOut v) _ _ _;rw[handedOut_of hv'];exact Qq h
end
section
variable {X:Cx}
def qi(K:W.Frag)(ta:TE)(f:Str):TE:=λσ H Q=>ta σ H λx H1=>∃(a D dx:Addr) (cx:Option Value) (fs:List (Str×V)) (v:V),x=.ref a/\H1 a=some (d5 a (.ref D) (some dx) cx)/\H1 dx=some (dz dx fs)/\jN K D/\PySem.W.hasDictIn K D=true/\cq K D f/\fs.lookup f=some v/\Q v H1
theorem zI{e:Expr}{f:Str}{pos:Pos}{ta:TE}(he:PE X e ta)(hb:attributeBase e f X.env (eval e X.env)=eval e X.env):PE X (.Attribute e f pos) (qi X.K ta f):=by intro kb s σ H Q I h;refine ou hb (az (he kb s σ H _ I h) λu s1 hsl78=>?_);obtain⟨x,H1,I1,rx,a,D,dx,cx,fs,v,ex,ea,ed,c,hh,n,l,q⟩:=hsl78;subst ex;obtain rfl:u=Value.ref a:=rx;obtain⟨mA,N,r⟩:eI dx fs s1.heap:=(show bj X.prog X.w H1 s1.heap dx (.ext (eI dx fs)) from I1.hok dx _ ed).1;obtain⟨u,hu,ru⟩:=cn.some_of (v:=v) (o:=mA f) (by rw[<-l];exact r f);exact zH c hh n I1.kIn (zm I1 ea) N hu (oq ru) ⟨v,H1,I1.tok _,ru,q⟩
end
theorem zJ{X:Cx}{K:W.Frag}{e:Expr}{f:Str}{pos:Pos}{ta:TE}(hK:X.K=K)(he:PE X e ta)(hb:attributeBase e f X.env (eval e X.env)=eval e X.env):PE X (.Attribute e f pos) (qi K ta f):=by subst hK;exact zI he hb
def dB(E:XK)(C:Addr)(x:V)(H:Hp):Prop:=∀dx H',av H H'->H' dx=some (dz dx [("at",x)])->E (.ref C) (some dx) H'
theorem dB.same{E:XK}{C:Addr}{x:V}{H H1:Hp}(h:dB E C x H)(s:av H H1):dB E C x H1:=λdx H' s' e=>h dx H' (s.trans s') e
end L2
namespace Mm
noncomputable def bx(k s:Nat):Nat:=if s.testBit k then s else s+2^k
noncomputable def bA(k s:Nat):Nat:=if s.testBit k then s-2^k else s
theorem qj(s k:Nat):s=2^(k+1)*(s/2^(k+1))+(2^k*(s.testBit k).toNat+s%2^k):=by
 have h:=Nat.div_add_mod s (2^(k+1));have h2:s%2^(k+1)=s%2^k+2^k*(s.testBit k).toNat:=by rw[Nat.toNat_testBit];exact Nat.mod_pow_succ
 omega
theorem jZ{k q b r:Nat}(hb:b<2)(hr:r<2^k)(i:Nat):(2^(k+1)*q+(2^k*b+r)).testBit i=if i<k then r.testBit i else if i=k then decide (b=1) else q.testBit (i-(k+1)):=by
 have e:2^(k+1)=2^k*2:=Nat.pow_succ 2 k
 have hv:2^k*b+r<2^(k+1):=by
  have:b=0∨b=1:=by omega
  rcases this with rfl|rfl<;>omega
 rw[Nat.testBit_two_pow_mul_add _ hv];by_cases h1:i<k
 ·rw[if_pos (by omega),if_pos h1,Nat.testBit_two_pow_mul_add _ hr,if_pos h1]
 rw[if_neg h1];by_cases h2:i=k
 ·subst h2;rw[if_pos (by omega),if_pos rfl,Nat.testBit_two_pow_mul_add _ hr,if_neg (by omega),Nat.sub_self];have:b=0∨b=1:=by omega
  rcases this with rfl|rfl<;>rfl
 rw[if_neg (by omega),if_neg h2]
theorem qk{s k:Nat}(h:s.testBit k=false)(i:Nat):(s+2^k).testBit i=if i=k then true else s.testBit i:=by
 have p:=qj s k;rw[h] at p;have hr:s%2^k<2^k:=Nat.mod_lt _ (Nat.two_pow_pos k);generalize s/2^(k+1)=q at p;generalize s%2^k=r at p hr;have e1:s+2^k=2^(k+1)*q+(2^k*1+r):=by rw[p];simp;omega
 have e2:s.testBit i=(2^(k+1)*q+(2^k*0+r)).testBit i:=by rw[p];rfl
 rw[e1,e2,jZ (by decide) hr,jZ (by decide) hr];by_cases h1:i=k
 ·subst h1;simp
 rw[if_neg h1,if_neg h1,if_neg h1]
theorem mf{s k:Nat}(h:s.testBit k=true)(i:Nat):(s-2^k).testBit i=if i=k then false else s.testBit i:=by
 have p:=qj s k;rw[h] at p;have hr:s%2^k<2^k:=Nat.mod_lt _ (Nat.two_pow_pos k);generalize s/2^(k+1)=q at p;generalize s%2^k=r at p hr;have e1:s-2^k=2^(k+1)*q+(2^k*0+r):=by rw[p];simp;omega
 have e2:s.testBit i=(2^(k+1)*q+(2^k*1+r)).testBit i:=by rw[p];rfl
 rw[e1,e2,jZ (by decide) hr,jZ (by decide) hr];by_cases h1:i=k
 ·subst h1;simp
 rw[if_neg h1,if_neg h1,if_neg h1]
theorem gh(k s i:Nat):(bx k s).testBit i=if i=k then true else s.testBit i:=by
 unfold bx
 cases h:s.testBit k with
 |true =>
  rw[if_pos rfl];by_cases h1:i=k
  ·subst h1;rw[if_pos rfl,h]
  rw[if_neg h1]
 |false=>rw[if_neg Qf,qk h]
theorem iQ(k s i:Nat):(bA k s).testBit i=if i=k then false else s.testBit i:=by
 unfold bA
 cases h:s.testBit k with
 |true=>rw[if_pos rfl,mf h]
 |false =>
  rw[if_neg Qf];by_cases h1:i=k
  ·subst h1;rw[if_pos rfl,h]
  rw[if_neg h1]
theorem zK{s n:Nat}(h:∀i,n<=i->s.testBit i=false):s<2^n:=Nat.lt_pow_two_of_testBit _ h
theorem iR{k s n:Nat}(hk:k<n)(hs:s<2^n):bx k s<2^n:=zK λi hi=>by rw[gh,if_neg (by omega)];exact Nat.testBit_lt_two_pow (Qe hs (QF (by decide) hi))
theorem mh{k s n:Nat}(hs:s<2^n):bA k s<2^n:=by
 unfold bA;split
 ·exact QD (Nat.sub_le _ _) hs
 exact hs
theorem zL(i k s:Nat):bx i (bx k s)=bx k (bx i s):=Nat.eq_of_testBit_eq λj=>by simp only[gh];split<;>split<;>rfl
theorem ql{i k:Nat}(h:i≠k)(s:Nat):bx i (bA k s)=bA k (bx i s):=Nat.eq_of_testBit_eq λj=>by
 simp only[gh,iQ];by_cases h1:j=i
 ·subst h1;simp[h]
 simp[h1]
theorem zM(i k s:Nat):bA i (bA k s)=bA k (bA i s):=Nat.eq_of_testBit_eq λj=>by simp only[iQ];split<;>split<;>rfl
theorem zN(k s:Nat):bx k (bx k s)=bx k s:=Nat.eq_of_testBit_eq λj=>by simp only[gh];split<;>rfl
theorem zO(k s:Nat):bx k (bA k s)=bx k s:=Nat.eq_of_testBit_eq λj=>by simp only[gh,iQ];split<;>rfl
theorem zP(k s:Nat):bA k (bx k s)=bA k s:=Nat.eq_of_testBit_eq λj=>by simp only[gh,iQ];split<;>rfl
theorem zQ(k s:Nat):bA k (bA k s)=bA k s:=Nat.eq_of_testBit_eq λj=>by simp only[iQ];split<;>rfl
noncomputable def da(k n m:Nat):Nat:=mk (λs=>m.testBit (bx k s)) (2^n)
noncomputable def db(k n m:Nat):Nat:=mk (λs=>m.testBit (bA k s)) (2^n)
theorem zR(k n m:Nat):da k n m<2^2^n:=gG _ _
theorem zS(k n m:Nat):db k n m<2^2^n:=gG _ _
theorem mi{k n m s:Nat}(hs:s<2^n):(da k n m).testBit s=m.testBit (bx k s):=by unfold da;rw[f7];simp[hs]
theorem mj{k n m s:Nat}(hs:s<2^n):(db k n m).testBit s=m.testBit (bA k s):=by unfold db;rw[f7];simp[hs]
theorem gR{m N s:Nat}(h:m<2^N)(hs:N<=s):m.testBit s=false:=Nat.testBit_lt_two_pow (Qe h (QF (by decide) hs))
theorem zT{k n m:Nat}(hk:k<n)(hm:m<2^2^n):(m&&&sw k n)|||((m&&&sw k n)/2^2^k)=da k n m:=by
 refine jI λs=>?_;rw[Nat.testBit_or,Nat.testBit_and,lJ,<-Nat.shiftRight_eq_div_pow,Nat.testBit_shiftRight,Nat.testBit_and,lJ];by_cases hs:s<2^n
 ·cases hb:s.testBit k with
  |true =>
   have e1:bx k s=s:=by unfold bx;rw[hb,if_pos rfl]
   have e2:(2^k+s).testBit k=false:=by
    have hsub:=mf (s:=2^k+s) (k:=k)
    cases hc:(2^k+s).testBit k with
    |false=>rfl
    |true =>
     have:=hsub hc k;rw[if_pos rfl,Nat.add_sub_cancel_left] at this;rw[hb] at this;cases this
   rw[e1,e2];simp[hs]
  |false =>
   have e1:bx k s=2^k+s:=by unfold bx;rw[hb,if_neg Qf];omega
   have hl:2^k+s<2^n:=by have:=iR hk hs;rw[e1] at this;exact this
   have e2:(2^k+s).testBit k=true:=by rw[<-e1,gh,if_pos rfl]
   rw[e1,e2];simp[hs,hl]
 have h1:m.testBit s=false:=gR hm (by omega);have h2:m.testBit (2^k+s)=false:=gR hm (Qg (Nat.le_of_not_lt hs) (Nat.le_add_left _ _));rw[h1,h2];simp[hs]
theorem zU{k n m:Nat}(hk:k<n)(hm:m<2^2^n):(m&&&((2^2^n-1)^^^sw k n))|||((m&&&((2^2^n-1)^^^sw k n))*2^2^k)=db k n m:=by
 refine jI λs=>?_;rw[Nat.testBit_or,<-Nat.shiftLeft_eq,Nat.testBit_shiftLeft];simp only[Nat.testBit_and,Nat.testBit_xor,lJ,Nat.testBit_two_pow_sub_one];by_cases hs:s<2^n
 ·cases hb:s.testBit k with
  |true =>
   have e1:bA k s=s-2^k:=by unfold bA;rw[hb,if_pos rfl]
   have DJ:2^k<=s:=Nat.ge_two_pow_of_testBit hb;have e2:(s-2^k).testBit k=false:=by rw[mf hb,if_pos rfl]
   have hl:s-2^k<2^n:=QD (Nat.sub_le _ _) hs;rw[e1,e2];simp[hs,DJ,hl]
  |false =>
   have e1:bA k s=s:=by unfold bA;rw[hb,if_neg Qf]
   rw[e1];by_cases DJ:2^k<=s
   ·have e2:(s-2 ^ k).testBit k=true:=by
     cases hc:(s-2^k).testBit k with
     |true=>rfl
     |false =>
      have:=qk hc k;rw[if_pos rfl,Nat.sub_add_cancel DJ] at this;rw[hb] at this;cases this
    have hl:s-2^k<2^n:=QD (Nat.sub_le _ _) hs;rw[e2];simp[hs,DJ,hl]
   simp[hs,DJ]
 have h1:m.testBit s=false:=gR hm (by omega);rw[h1];by_cases DJ:2^k<=s
 ·by_cases hl:s-2^k<2^n
  ·cases hc:(s-2^k).testBit k with
   |true=>simp[hs,hl]
   |false =>
    exfalso;have:=iR hk hl;unfold bx at this;rw[hc,if_neg Qf,Nat.sub_add_cancel DJ] at this;exact hs this
  have h2:m.testBit (s-2^k)=false:=gR hm (by omega);simp[hs,h2]
 simp[hs,DJ]
def b6(k n m:Nat):Prop:=∀i,i<k->∀s,s<2^n->m.testBit (bx i s)=m.testBit (bA i s)
theorem b6.zero(n m:Nat):b6 0 n m:=λi hi=>absurd hi (Nat.not_lt_zero i)
theorem b6.succ{k n m:Nat}(h:b6 k n m)(e:da k n m=db k n m):b6 (k+1) n m:=λi hi s hs=>by
 by_cases hik:i=k
 ·subst hik;rw[<-mi hs,<-mj hs,e]
 exact h i (by omega) s hs
theorem b6.on{k n m:Nat}(hk:k<n)(h:b6 k n m):b6 (k+1) n (da k n m):=λi hi s hs=>by
 have hin:i<n:=by omega
 rw[mi (iR hin hs),mi (mh hs)];by_cases hik:i=k
 ·subst hik;rw[zN,zO]
 rw[zL,ql (Ne.symm hik)];exact h i (by omega) _ (iR hk hs)
theorem b6.off{k n m:Nat}(hk:k<n)(h:b6 k n m):b6 (k+1) n (db k n m):=λi hi s hs=>by
 have hin:i<n:=by omega
 rw[mj (iR hin hs),mj (mh hs)];by_cases hik:i=k
 ·subst hik;rw[zP,zQ]
 rw[<-ql hik,zM];exact h i (by omega) _ (mh hs)
theorem b6.const{n m:Nat}(h:b6 n n m):∀(b s:Nat),s<=b->s<2^n->m.testBit s=m.testBit 0
 |b,s,hb,hs=>by
  by_cases h0:s=0
  ·rw[h0]
  obtain ⟨k,hk⟩:∃ k,s.testBit k=true:=by
   apply Classical.byContradiction;intro hn
   exact h0 (Nat.eq_of_testBit_eq λi=>by
    rw[Nat.zero_testBit]
    cases e:s.testBit i with
    |false=>rfl
    |true=>exact absurd ⟨i,e⟩ hn)
  have DJ:2^k<=s:=Nat.ge_two_pow_of_testBit hk;have hkn:k<n:=(Nat.pow_lt_pow_iff_right (by decide)).mp (QD DJ hs);have hp:=Nat.two_pow_pos k;have e1:bx k s=s:=by unfold bx;rw[hk,if_pos rfl]
  have e2:bA k s=s-2^k:=by unfold bA;rw[hk,if_pos rfl]
  have hh:=h k hkn s hs;rw[e1,e2] at hh;rw[hh]
  match b with
  |0=>omega
  |b+1=>exact b6.const h b (s-2^k) (by omega) (by omega)
noncomputable def sh(n:Nat):Nat->Nat->W
 |0,m=>if m=0 then .c0 else .c1
 | j+1,m=>if m=0 then .c0 else if m=2 ^ 2 ^ n-1 then .c1 else if da (n-(j+1)) n m=db (n-(j+1)) n m then sh n j m
   else .ch (n-(j+1)) (sh n j (da (n-(j+1)) n m)) (sh n j (db (n-(j+1)) n m))
theorem zV{n m:Nat}(h:b6 n n m)(hm:m<2^2^n)(h0:m≠0):m=2^2^n-1:=by
 have h1:m.testBit 0=true:=by
  cases e:m.testBit 0 with
  |true=>rfl
  |false =>
   exfalso;refine h0 (Nat.eq_of_testBit_eq λs=>?_);rw[Nat.zero_testBit];by_cases hs:s<2^n
   ·rw[h.const s s (Qk _) hs,e]
   exact gR hm (by omega)
 refine Nat.eq_of_testBit_eq λs=>?_;rw[Nat.testBit_two_pow_sub_one];by_cases hs:s<2^n
 ·rw[h.const s s (Qk _) hs,h1];simp[hs]
 rw[gR hm (by omega)];simp[hs]
theorem j0{n:Nat}:∀(j m:Nat),j<=n->(sh n j m).ok n
 |0,m,_=>by unfold sh;split<;>trivial
 |j+1,m,hj=>by
  unfold sh;split
  ·trivial
  split
  ·trivial
  split
  ·exact j0 j m (by omega)
  exact⟨by omega,j0 j _ (by omega),j0 j _ (by omega)⟩
theorem gS{n:Nat}:∀(j m:Nat),(sh n j m).signs.length+2<=3*2^j
 |0,m=>by unfold sh;split<;>simp[W.signs]
 |j+1,m=>by
  have hp:=Nat.two_pow_pos j;have e:2^(j+1)=2^j*2:=Nat.pow_succ 2 j;unfold sh;split
  ·simp[W.signs];omega
  split
  ·simp[W.signs];omega
  split
  ·have:=gS (n:=n) j m;omega
  have h1:=gS (n:=n) j (da (n-(j+1)) n m);have h2:=gS (n:=n) j (db (n-(j+1)) n m);simp only[W.signs,QC,QK];omega
end Mm
namespace L2
open PySem PySem.Spec PyProof.Rows
structure j1(P:Program)(w:World)(K:W.Frag)(a:Addr)(CK:List (Str×List Str)):Prop where
 ns:(a==sysModules)=false
 ob:∃(o:Obj) (vs:List (aV×Value)),K.lookup a=some o/\o.cls=.type "dict"/\o.dict=none/\(∀h:Heap,h.get? a=some o->h.DictOf (dX P w) a vs) /\
  ∀(k:Str) (fs:List Str),CK.lookup k=some fs->∃q,valueAt vs (Sum.inr k:aV)=some (.ref q)/\∀H,aW K H q (fs.map V.str)
abbrev gi:=Str×Tok×Addr
noncomputable def j2(w:World)(e:gi):DictEntry:=⟨hashStr w e.1,.str e.1 e.2.1,.ref e.2.2⟩
noncomputable def gT(e:gi):aV×Value:=(Sum.inr e.1,.ref e.2.2)
theorem qm{P:Program}{w:World}:∀es:List gi,Pairs (dX P w) (es.map (j2 w)) (es.map gT)
 | []=>.nil
 |e::r=>.cons (eN P w e.1 e.2.1) rfl (qm r)
inductive dR (K:W.Frag):List gi->List (Str×List Str)->Prop
 |nil:dR K [] []
 |cons {z:Str} {t:Tok} {q:Addr} {fs:List Str} {es CK}:(∀H,aW K H q (fs.map V.str))->dR K es CK->dR K ((z,t,q)::es) ((z,fs)::CK)
theorem zW(k:Str){K:W.Frag}{es:List gi}{CK:List (Str×List Str)}(h:dR K es CK):∀fs,CK.lookup k=some fs->∃q,valueAt (es.map gT) (Sum.inr k:aV)=some (.ref q)/\∀H,aW K H q (fs.map V.str):=by
 induction h with
 |nil=>intro fs h;simp at h
 | @cons z t q fs es CK hq _ ih =>
  intro fs' h;rw[List.lookup_cons] at h;by_cases hk:k=z
  ·subst hk;rw[beq_self_eq_true] at h;cases h;exact⟨q,by simp[valueAt,gT],hq⟩
  rw[beq_eq_false_iff_ne.mpr hk] at h;obtain⟨q',e1,e2⟩:=ih fs' h;refine⟨q',?_,e2⟩;rw[<-e1]
  have hn:¬((gT (z,t,q)).1=(Sum.inr k:aV)):=λy=>hk (by
   have y':(Sum.inr z:aV)=Sum.inr k:=y;injection y' with y'
   exact y'.symm)
  unfold valueAt;rw[List.map_cons,List.find?_cons_of_neg (by simpa using hn)]
theorem dR.keys{K:W.Frag}{es:List gi}{CK:List (Str×List Str)}(h:dR K es CK):es.map (·.1)=CK.map (·.1):=by
 induction h with
 |nil=>rfl
 |cons _ _ ih=>rw[List.map_cons,List.map_cons,ih]
theorem zX{P:Program}{w:World}{K:W.Frag}{a:Addr}{ep:Nat}{es:List gi}{CK:List (Str×List Str)}(hs:(a==sysModules)=false)
  (hl:K.lookup a=some ⟨.type "dict",none,.dict (es.map (j2 w)).toArray ep,#[]⟩) (nd:(CK.map (·.1)).Nodup) (hv:dR K es CK):j1 P w K a CK:=by
 refine⟨hs,_,es.map gT,hl,rfl,rfl,λh e=>⟨_,_,_,e,⟨rfl,rfl,rfl⟩,rfl,?_,qm es,?_⟩,λk=>zW k hv⟩
 ·intro x hx;have hx':x∈es.map (j2 w):=by simpa using hx
  obtain⟨y,_,rfl⟩:=Qn hx';exact⟨Sum.inr y.1,eN P w y.1 y.2.1,rfl⟩
 have e1:(es.map gT).map (·.1)=(es.map (·.1)).map (Sum.inr:Str->aV):=by rw[List.map_map,List.map_map];rfl
 rw[e1,hv.keys];refine List.Pairwise.map _ (λx y hxy hz=>hxy ?_) nd;injection hz
section
variable {X:Cx}{a:Addr}{CK:List (Str×List Str)}{x:Str}{p pos apos CI:Pos}{e f:Expr}{ty tx:TE}
def zY(K:W.Frag)(CK:List (Str×List Str))(ty:TE):TE:=λσ H Q=>ty σ H λy H1=>∃(k:Str) (fs:List Str),y=.str k/\CK.lookup k=some fs/\∀q,(∀H,aW K H q (fs.map V.str))->Q (.ref q) H1
theorem zZ(D:j1 X.prog X.w X.K a CK)(hg:Gl X x)(hm:X.mg x=some (.ref a))(he:PE X e ty)
  (CS:attributeBase (.Name x p) "get" X.env (eval (.Name x p) X.env)=eval (.Name x p) X.env:=by rfl)
  (DA:((backTo CI (starEach [e] X.env)).all (λx=>!x.1)&&(backToKw CI (keywordEach [] X.env)).all (λx=>x.1.isSome)
   && decide (([e]:List Expr).length+([]:List Keyword).length+(if([]:List Keyword).isEmpty then 0 else 1)<30))=true:=by rfl)
  (CZ:(apos.endLine==CI.line)=true:=by rfl) (D4:backTo CI (starEach [e] X.env)=[(false,eval e X.env)]:=by rfl) (hd:(x==("__debug__":Str))=false:=by decide) :
  PE X (.Call (.Attribute (.Name x p) "get" apos) [e] [] CI) (zY X.K CK ty):=by
 intro kb s σ H Q I h;refine wpAny_Call_method CS DA CZ PySem.F.plainAttrs_dict PySem.F.slot_dict_get PySem.F.type_dict_get (ef I hg hm ?_ hd);obtain⟨o,vs,hk,hc,hdn,hh,hv⟩:=D.ob;have eo:=I.kIn a o hk;refine⟨(hh _ eo).typeIs,(λb q=>by cases q;exact⟨o,eo,hdn⟩),?_⟩;rw[D4];refine Calls.callWith_builtin rfl (Calls.evalArgs_plain (Calls.spliced_cons (az (he kb s σ H _ I h) λiv s2 ⟨y,H2,I2,ry,k,fs,ey,hk2,q2⟩=>Calls.spliced_nil ?_)));subst ey;obtain⟨t,rfl⟩:=ry;have dd:=hh _ (I2.kIn a o hk);obtain⟨q,eq,hq⟩:=hv k fs hk2;refine call_meetsIn PySem.F.slot_dict_get dd.typeIs PySem.F.entry_dict_get (PySem.F.args_dict_get_2 _ _) (meets_dict_get (dX X.prog X.w) a (k:=Sum.inr k) (eN _ _ k t) D.ns) ⟨_,dd.mapOf,?_⟩;refine⟨.ref q,H2,I2.tok _,?_,q2 q hq⟩;rw[eq];exact rfl
end
inductive qo (K:W.Frag) (x:V) (xs:List V) (H:Hp) (Q:VK):Prop
 |mk:∀(a:Str) (l:Addr) (zs:List Str),x=.str a->xs=[.ref l]->ae K H l (zs.map V.str)->a.length<=16->(zs.map (·.length)).sum+zs.length<=1048576->Q (.str (Str.join a zs)) H->qo K x xs H Q
theorem gj{X:Cx}{K:W.Frag}(hK:X.K=K):fW X "str.join" (qo K):=λkb s σ H x xs v us Q I rx rs hsl79=>by obtain⟨a,l,zs,h1,h2,h3,h4,h5,h6⟩:=hsl79;exact yE hK kb s σ H x xs v us Q I rx rs ⟨a,l,zs,h1,h2,h3,h4,h5,h6⟩
end L2
namespace K85
open PySem L2 Mm
noncomputable def aL(i:Nat):Stmt:=PySem.Challenge.pw_manymakes_k85_desk_texts.main.body.getD i (.Pass ⟨0,0,0,0⟩)
noncomputable abbrev ml:Stmt:=aL 9
noncomputable abbrev mm:Stmt:=aL 10
noncomputable abbrev mn:Stmt:=aL 11
noncomputable abbrev mo:Stmt:=aL 12
noncomputable abbrev mq:Stmt:=aL 13
noncomputable abbrev j3:Stmt:=aL 14
noncomputable abbrev mr:Stmt:=aL 15
noncomputable abbrev ms:Stmt:=aL 16
noncomputable abbrev mw:Stmt:=aL 17
noncomputable abbrev my:Stmt:=aL 18
noncomputable abbrev mz:Stmt:=aL 20
noncomputable abbrev j4:Stmt:=aL 33
noncomputable abbrev mB:Stmt:=aL 35
noncomputable abbrev mC:Stmt:=aL 82
noncomputable abbrev j5:Stmt:=aL 83
noncomputable abbrev mD:Stmt:=aL 84
noncomputable abbrev mE:Stmt:=aL 86
noncomputable abbrev mF:Stmt:=aL 87
noncomputable abbrev mG:Stmt:=aL 88
noncomputable abbrev mH:Stmt:=aL 89
noncomputable abbrev mI:Stmt:=aL 90
noncomputable abbrev j6:Stmt:=aL 94
noncomputable abbrev mJ:Stmt:=aL 95
noncomputable abbrev mK:Stmt:=aL 96
noncomputable abbrev mL:Stmt:=aL 97
noncomputable abbrev j7:Stmt:=aL 99
noncomputable abbrev j8:Stmt:=aL 100
noncomputable abbrev j9:Stmt:=aL 101
noncomputable abbrev mM:Stmt:=aL 102
noncomputable abbrev ka:Stmt:=aL 111
noncomputable abbrev kc:Stmt:=aL 112
noncomputable abbrev kd:Stmt:=aL 113
noncomputable abbrev mO:Stmt:=aL 135
noncomputable abbrev mP:Stmt:=aL 138
noncomputable abbrev ke:Stmt:=aL 146
noncomputable abbrev kf:Stmt:=aL 147
noncomputable abbrev kg:Stmt:=aL 149
noncomputable abbrev mQ:Stmt:=aL 151
noncomputable abbrev mR:Stmt:=aL 152
noncomputable abbrev mS:Stmt:=aL 153
noncomputable abbrev kh:Stmt:=aL 154
noncomputable abbrev mT:Stmt:=aL 155
noncomputable abbrev ki:Stmt:=aL 156
noncomputable abbrev iS:Stmt:=aL 157
noncomputable abbrev mU:Stmt:=aL 158
noncomputable abbrev mV:Stmt:=aL 159
noncomputable abbrev mW:Stmt:=d0 (aL 145) 0
noncomputable abbrev mX:Stmt:=d0 (aL 145) 1
noncomputable abbrev mY:Stmt:=d0 (aL 145) 2
noncomputable abbrev mZ:Stmt:=d0 (aL 145) 3
noncomputable abbrev m4:Stmt:=d0 (aL 145) 4
noncomputable abbrev m5:Stmt:=d0 (aL 145) 5
noncomputable abbrev iT:Stmt:=d0 (aL 145) 6
noncomputable abbrev m6:Stmt:=d0 (aL 145) 7
noncomputable abbrev m7:Stmt:=d0 (aL 145) 10
noncomputable abbrev m8:Stmt:=d0 (aL 5) 0
noncomputable abbrev kj:Stmt:=aL 160
structure fm where
 Z6:Addr
 Zj:Addr
 ZI:Addr
 ZY:Addr
 has:Addr
 ZJ:Addr
 ZK:Addr
 Z7:Addr
 ZZ:Addr
 ZL:Addr
 Z4:Addr
 Z0:Addr
 ZA:Addr
 ZB:Addr
 Zd:Addr
 Za:Addr
 Z8:Addr
 ZM:Addr
 Ze:Addr
 Zq:Addr
 Zr:Addr
 ZC:Addr
 Zs:Addr
 ZN:Addr
 Zt:Addr
 Z3:Addr
 ZO:Addr
 ZP:Addr
 Zu:Addr
 ZD:Addr
 Zk:Addr
 ZQ:Addr
 ZR:Addr
 Z5:Addr
 Zv:Addr
 ZE:Addr
 ZF:Addr
 Zl:Addr
 ZG:Addr
 ZS:Addr
 ZU:Addr
 ZV:Addr
 Zf:Addr
 Zw:Addr
 ZW:Addr
 Zm:Addr
 ZH:Addr
 ZX:Addr
 Zn:Addr
 Zx:Addr
 Zg:Addr
 Zy:Addr
 Zp:Addr
 Zb:Addr
 Zc:Addr
 Zh:Addr
 c_Desk:Addr
 d_NEEDS:Addr
 x_NoGroup:Addr
 d_FORMS:Addr
structure fq where
 Z6:FuncData
 Zj:FuncData
 ZI:FuncData
 ZY:FuncData
 has:FuncData
 ZJ:FuncData
 ZK:FuncData
 Z7:FuncData
 ZZ:FuncData
 ZL:FuncData
 Z4:FuncData
 Z0:FuncData
 ZA:FuncData
 ZB:FuncData
 Zd:FuncData
 Za:FuncData
 Z8:FuncData
 ZM:FuncData
 Ze:FuncData
 Zq:FuncData
 Zr:FuncData
 ZC:FuncData
 Zs:FuncData
 ZN:FuncData
 Zt:FuncData
 Z3:FuncData
 ZO:FuncData
 ZP:FuncData
 Zu:FuncData
 ZD:FuncData
 Zk:FuncData
 ZQ:FuncData
 ZR:FuncData
 Z5:FuncData
 Zv:FuncData
 ZE:FuncData
 ZF:FuncData
 Zl:FuncData
 ZG:FuncData
 ZS:FuncData
 ZU:FuncData
 ZV:FuncData
 Zf:FuncData
 Zw:FuncData
 ZW:FuncData
 Zm:FuncData
 ZH:FuncData
 ZX:FuncData
 Zn:FuncData
 Zx:FuncData
 Zg:FuncData
 Zy:FuncData
 Zp:FuncData
 Zb:FuncData
 Zc:FuncData
 Zh:FuncData
structure FB(K:W.Frag)(n q:Str)(st:Stmt)(ps:List Str)(f:Addr)(fd:FuncData):Prop where
 k:W.keepIn K (.ref f)=true
 F:fY K n q st f fd
 b:Binds K fd ps []
structure FZ(K:W.Frag)(mg:Str->Option Value)(n q:Str)(st:Stmt)(ps:List Str)(f:Addr)(fd:FuncData):Prop extends FB K n q st ps f fd where
 m:mg n=some (.ref f)
theorem aE{X:Cx}{k:Nat}{f:Addr}{fd:FuncData}{ps:List Str}{sp:Sp}{x q:Str}{st:Stmt}{e:Expr}{es:List Expr}{p pos:Pos}{t:TA}(F:aF X.prog X.w X.K X.mg X.base aJ k f fd ps sp)(hr:au k X.A)(hg:Gl X x)(z:FZ X.K X.mg x q st ps f fd)(ha:PA X (e::es) t)(Ey:(x==("__debug__":Str))=false:=by decide)(he:starEach (e::es) X.env=(false,eval e X.env)::starEach es X.env:=by rfl)(C5:(backTo pos (starEach es X.env)).any (·.1)=false:=by rfl) :
  PE X (.Call (.Name x p) (e::es) [] pos) (oz sp [] E0 t):=gB F hr hg z.m z.k z.b .nil cK ha Ey he C5
structure All(P:Program)(w:World)(K:W.Frag)(mg:Str->Option Value)(A:fm)(D:fq):Prop where
 z_Z6:FZ K mg "every" "every" ml ["n"] A.Z6 D.Z6
 z_Zj:FZ K mg "switch_mask" "switch_mask" mm ["k","n"] A.Zj D.Zj
 z_ZI:FZ K mg "is_whole" "is_whole" mn ["value"] A.ZI D.ZI
 z_ZY:FZ K mg "is_mask" "is_mask" mo YD A.ZY D.ZY
 z_has:FZ K mg "has" "has" mq ["mask","s"] A.has D.has
 z_ZJ:FZ K mg "settings" "settings" j3 ["mask"] A.ZJ D.ZJ
 z_ZK:FZ K mg "how_many" "how_many" mr ["mask"] A.ZK D.ZK
 z_Z7:FZ K mg "least" "least" ms ["mask"] A.Z7 D.Z7
 z_ZZ:FZ K mg "with_on" "with_on" mw Ym A.ZZ D.ZZ
 z_ZL:FZ K mg "with_off" "with_off" my Ym A.ZL D.ZL
 z_Z4:FZ K mg "all_of" "all_of" mz ["pairs"] A.Z4 D.Z4
 z_Z0:FZ K mg "made_of" "made_of" j4 Yr A.Z0 D.Z0
 z_ZA:FZ K mg "is_number" "is_number" mB ["word"] A.ZA D.ZA
 z_ZB:FZ K mg "read_wish" "read_wish" mC ["text","n"] A.ZB D.ZB
 z_Zd:FZ K mg "mask_of_text" "mask_of_text" j5 ["text","n"] A.Zd D.Zd
 m_Za:mg "reckoned_wishes"=some (.ref A.Za)
 z_Za:FB K "reckoned" "reckoned" mD Yu A.Za D.Za
 z_Z8:FZ K mg "taken" "taken" mE YI A.Z8 D.Z8
 z_ZM:FZ K mg "value_of" "value_of" mF Yv A.ZM D.ZM
 z_Ze:FZ K mg "put_together" "put_together" mG Yl A.Ze D.Ze
 z_Zq:FZ K mg "shown_wish" "shown_wish" mH ["mask","n"] A.Zq D.Zq
 z_Zr:FZ K mg "shown_from" "shown_from" mI YJ A.Zr D.Zr
 z_ZC:FZ K mg "read_rows" "read_rows" j6 ["text","n"] A.ZC D.ZC
 z_Zs:FZ K mg "read_words" "read_words" mJ YC A.Zs D.Zs
 z_ZN:FZ K mg "words_of" "words_of" mK ["row"] A.ZN D.ZN
 z_Zt:FZ K mg "group_mask" "group_mask" mL Yx A.Zt D.Zt
 z_Z3:FZ K mg "cut_row" "cut_row" j7 ["row","s"] A.Z3 D.Z3
 z_ZO:FZ K mg "cut_rows" "cut_rows" j8 ["rows","s"] A.ZO D.ZO
 z_ZP:FZ K mg "cut_text" "cut_text" j9 YK A.ZP D.ZP
 z_Zu:FZ K mg "is_setting" "is_setting" mM ["s","n"] A.Zu D.Zu
 z_ZD:FZ K mg "dead_rows" "dead_rows" ka Yj A.ZD D.ZD
 z_Zk:FZ K mg "lonely_rows" "lonely_rows" kc Yj A.Zk D.Zk
 z_ZQ:FZ K mg "standing" "standing" kd YG A.ZQ D.ZQ
 z_ZR:FZ K mg "ask_rule" "ask_rule" mO ["rule","n"] A.ZR D.ZR
 z_Z5:FZ K mg "parted" "parted" mP Yw A.Z5 D.Z5
 z_Zv:FZ K mg "read_order" "read_order" ke ["row"] A.Zv D.Zv
 z_ZE:FZ K mg "read_word" "read_word" kf Yo A.ZE D.ZE
 z_ZF:FZ K mg "in_blanks" "in_blanks" kg ["values"] A.ZF D.ZF
 z_Zl:FZ K mg "_law_cell_at" "_law_cell_at" mQ Yk A.Zl D.Zl
 z_ZG:FZ K mg "_law_drawn" "_law_drawn" mR Yt A.ZG D.ZG
 z_ZS:FZ K mg "_law_wish" "_law_wish" mS Yb A.ZS D.ZS
 z_ZU:FZ K mg "_law_word" "_law_word" kh ["_law_x"] A.ZU D.ZU
 z_ZV:FZ K mg "_law_made" "_law_made" mT Yb A.ZV D.ZV
 z_Zf:FZ K mg "_law_wish_due" "_law_wish_due" ki Yh A.Zf D.Zf
 z_Zw:FZ K mg "_law_looked" "_law_looked" iS Yd A.Zw D.Zw
 z_ZW:FZ K mg "_law_turn" "_law_turn" mU Yi A.ZW D.ZW
 z_Zm:FZ K mg "_law_not_put" "_law_not_put" mV Yy A.Zm D.Zm
 M_Desk:Mk K A.c_Desk A.ZH
 z_ZH:FB K "__init__" "Desk.__init__" mW ["self"] A.ZH D.ZH
 M_ZX:dq K A.c_Desk "say" A.ZX
 z_ZX:FB K "say" "Desk.say" mX Ys A.ZX D.ZX
 M_Zn:dq K A.c_Desk "change" A.Zn
 z_Zn:FB K "change" "Desk.change" mY Yn A.Zn D.Zn
 M_Zx:dq K A.c_Desk "begin" A.Zx
 z_Zx:FB K "begin" "Desk.begin" mZ ["self","n"] A.Zx D.Zx
 M_Zg:dq K A.c_Desk "put_row" A.Zg
 z_Zg:FB K "put_row" "Desk.put_row" m4 Ys A.Zg D.Zg
 M_Zy:dq K A.c_Desk "whole" A.Zy
 z_Zy:FB K "whole" "Desk.whole" m5 ["self"] A.Zy D.Zy
 M_Zp:dq K A.c_Desk "answer" A.Zp
 z_Zp:FB K "answer" "Desk.answer" iT Yn A.Zp D.Zp
 M_Zb:dq K A.c_Desk "wish_text" A.Zb
 z_Zb:FB K "wish_text" "Desk.wish_text" m6 ["self","text"] A.Zb D.Zb
 M_Zc:dq K A.c_Desk "part_text" A.Zc
 z_Zc:FB K "part_text" "Desk.part_text" m7 ["self"] A.Zc D.Zc
 M_NoGroup:l9 K A.x_NoGroup A.Zh iG "ValueError.__new__"
 ic_NoGroup:gb K A.x_NoGroup
 na_NoGroup_at:cq K A.x_NoGroup "at"
 z_Zh:FB K "__init__" "NoGroup.__init__" m8 YA A.Zh D.Zh
 m_Desk:mg "Desk"=some (.ref A.c_Desk)
 cl_Desk:dn K A.c_Desk
 na_Desk_n:cq K A.c_Desk "n"
 na_Desk_rule:cq K A.c_Desk "rule"
 na_Desk_rows:cq K A.c_Desk "rows"
 na_Desk_kept:cq K A.c_Desk "kept"
 ty_Desk:∀(H:Hp) (a dx:Addr) (fs:List (Str×V)),H a=some (.ins A.c_Desk dx fs)->cG K H (.ref a) (.ref A.c_Desk)
 is_Desk:W.kitOne K (.ref A.c_Desk) (.ref A.c_Desk)=some true
 v_LETTERS:∃t,mg "LETTERS"=some (.str "abcdefghij" t)
 v_DEEPEST_GROUP:∃t,mg "DEEPEST_GROUP"=some (.int 5 t)
 v_FIGURES:∃t,mg "FIGURES"=some (.str "0123456789" t)
 v_LONGEST_NUMBER_phrases:∃t,mg "LONGEST_NUMBER_phrases"=some (.int 18 t)
 v_MOST_SWITCHES:∃t,mg "MOST_SWITCHES"=some (.int 6 t)
 v_MOST_ROWS:∃t,mg "MOST_ROWS"=some (.int 60 t)
 v_LONGEST_NUMBER_desk:∃t,mg "LONGEST_NUMBER_desk"=some (.int 6 t)
 v_MOST_STEPS:∃t,mg "MOST_STEPS"=some (.int 400 t)
 m_NEEDS:mg "NEEDS"=some (.ref A.d_NEEDS)
 D_NEEDS:eY P w K A.d_NEEDS [("!",1),("&",2),("|",2),("^",2),("?",3)]
 m_NoGroup:mg "NoGroup"=some (.ref A.x_NoGroup)
 xc_NoGroup:jN K A.x_NoGroup
 em_NoGroup_NoGroup:W.exmOne K (.ref A.x_NoGroup) (.ref A.x_NoGroup)=some true
 n_len:mg "len"=none
 n_range:mg "range"=none
 n_int:mg "int"=none
 n_bool:mg "bool"=none
 n_list:mg "list"=none
 n_reversed:mg "reversed"=none
 n_enumerate:mg "enumerate"=none
 n_isinstance:mg "isinstance"=none
 n_str:mg "str"=none
 n_all:mg "all"=none
 n_any:mg "any"=none
 n_zip:mg "zip"=none
 n_min:mg "min"=none
 m_FORMS:mg "FORMS"=some (.ref A.d_FORMS)
 D_FORMS:j1 P w K A.d_FORMS [("switches",["number"]),("rule",["wish"]),("row",["text"]),("tidy",[]),("keep",[]),("text",[]),("wish",["wish"]),("cut",["number"]),("dead",[]),("lonely",[]),("faults",[]),("run",YH),("runs",["most"]),("part",[])]
noncomputable def bB(n:Nat):List Nat:=(List.range n).map λk=>sw k n
noncomputable def aS(n:Nat):Nat:=2^2^n-1
noncomputable def iv(l:List Nat):List V:=l.map λx=>V.int ((x:Nat):Int)
inductive qp (vs:List V) (H:Hp) (Q:VK) (E:XK):Prop
 |mk:∀n:Nat,vs=[.int n]->n<=10->Q (.int (aS n:Nat)) H->qp vs H Q E
inductive qr (vs:List V) (H:Hp) (Q:VK) (E:XK):Prop
 |mk:∀k n:Nat,vs=[.int k,.int n]->k<n->n<=10->Q (.int (sw k n:Nat)) H->qr vs H Q E
inductive qt (vs:List V) (H:Hp) (Q:VK) (E:XK):Prop
 |mk:∀(l:Addr) (st:List V) (m:Nat),vs=[.ref l,.int m]->H l=some (.lst st.reverse)->m<=st.length->st.length<=4000->(∀p H',H p=none->H' p=some (.lst (st.take m))->H' l=some (.lst (st.drop m).reverse)->(∀b o,H b=some o->b≠l->H' b=some o)->Q (.ref p) H')->qt vs H Q E
inductive qu (K:W.Frag) (vs:List V) (H:Hp) (Q:VK) (E:XK):Prop
 |mk:∀(c:Nat) (p:Addr) (ps:List Nat) (full:Nat),vs=[.str ⟨#[c]⟩,.ref p,.int full]->ae K H p (iv ps)->0<bo c->ps.length=bo c->Q (.int (f8 full c ps:Nat)) H->qu K vs H Q E
inductive qv (K:W.Frag) (vs:List V) (H:Hp) (Q:VK) (E:XK):Prop
 |mk:∀(c:Nat) (l:Addr) (sws:List Nat) (full v:Nat),vs=[.str ⟨#[c]⟩,.ref l,.int full]->ae K H l (iv sws)->c<128->fc sws full c=some v->Q (.int v) H->qv K vs H Q E
inductive qw (K:W.Frag) (vs:List V) (H:Hp) (Q:VK) (E:XK):Prop
 |mk:∀(z:Str) (l:Addr) (sws:List Nat) (full v:Nat),vs=[.str z,.ref l,.int full]->ae K H l (iv sws)->(∀c∈z.cps.toList,c<128)->z.length<=4000->bG sws full z.cps.toList=some [v]->(∀H',av H H'->Q (.int v) H')->qw K vs H Q E
inductive m9 (vs:List V) (H:Hp) (Q:VK) (E:XK):Prop
 |mk:∀(z:Str) (n v:Nat),vs=[.str z,.int n]->n<=10->(∀c∈z.cps.toList,c<128)->z.length<=4000->bG (bB n) (aS n) z.cps.toList=some [v]->(∀H',av H H'->Q (.int v) H')->m9 vs H Q E
theorem iU{n:Nat}(h:n<=10):(2:Nat)^n<=1024:=QF (by decide) h
theorem cM{n:Nat}(h:n<=1024):jK 1 (n:Int):=⟨by lia,1,by decide,by lia⟩
theorem ap{H:Hp}{p:Addr}{o:HO}(h:H p=none):av H (ai H p o):=λb u e=>by rw[am (aH e h)];exact e
theorem ft{n:Nat}(h:n<=5000):n<sizeLine:=QD h (by decide)
theorem b7(l:List Nat):(iv l).length=l.length:=Qb ..
theorem qx(x:Nat)(l:List Nat):iv (x::l)=V.int (x:Nat)::iv l:=rfl
theorem kl(l:List Nat)(x:Nat):iv (l++[x])=iv l++[V.int ((x:Nat):Int)]:=by simp[iv]
theorem z0(l:List Nat)(n:Nat):(iv l).take n=iv (l.take n):=by simp[iv,List.map_take]
theorem z3(l:List Nat)(n:Nat):(iv l).drop n=iv (l.drop n):=by simp[iv,List.map_drop]
theorem qy{ps:List Nat}{j:Nat}(h:j<ps.length):cS (iv ps) (j:Int)=some (.int (ps.getD j 0:Nat)):=
 aX (by rw[iv,Qi,Qc h];simp[QA,Qc h])
theorem sg{c d:Nat}{x:Str}(hx:x=⟨#[d]⟩):decide (V.str ⟨#[c]⟩=V.str x)=decide (c=d):=by
 subst hx;by_cases h:c=d
 ·subst h;simp
 have:¬(V.str ⟨#[c]⟩=V.str ⟨#[d]⟩):=λz=>by injection z with z;injection z with z;exact h (by simpa using z)
 rw[Qd this,Qd h]
theorem z4{c:Nat}(h:0<bo c):c=33∨c=38∨c=124∨c=94∨c=63:=by
 unfold bo at h
 repeat' split at h
 all_goals lia
noncomputable abbrev nb:List (Str×Int):=[("!",1),("&",2),("|",2),("^",2),("?",3)]
theorem gU:("!":Str)=⟨#[33]⟩:=by decide +kernel
theorem iV:("&":Str)=⟨#[38]⟩:=by decide +kernel
theorem km:("|":Str)=⟨#[124]⟩:=by decide +kernel
theorem nc:("^":Str)=⟨#[94]⟩:=by decide +kernel
theorem gk:("?":Str)=⟨#[63]⟩:=by decide +kernel
theorem z5:("0":Str)=⟨#[48]⟩:=by decide +kernel
theorem z6:("1":Str)=⟨#[49]⟩:=by decide +kernel
theorem z7(c d:Nat):((⟨#[c]⟩:Str) == ⟨#[d]⟩)=(c==d):=by
 by_cases h:c=d
 ·subst h;simp
 have:(⟨#[c]⟩:Str)≠⟨#[d]⟩:=λz=>by injection z with z;exact h (by simpa using z)
 rw[beq_eq_false_iff_ne.mpr this,beq_eq_false_iff_ne.mpr h]
theorem ng(c:Nat):nb.lookup (⟨#[c]⟩:Str)=if 0<bo c then some ((bo c:Nat):Int) else none:=by
 unfold nb;rw[gU,iV,km,nc,gk];simp only[List.lookup_cons,z7,List.lookup_nil];unfold bo;by_cases h1:c=33
 ·subst h1;rfl
 by_cases h2:c=38
 ·subst h2;rfl
 by_cases h3:c=124
 ·subst h3;rfl
 by_cases h4:c=94
 ·subst h4;rfl
 by_cases h5:c=63
 ·subst h5;rfl
 rw[beq_eq_false_iff_ne.mpr h1,beq_eq_false_iff_ne.mpr h2,beq_eq_false_iff_ne.mpr h3,beq_eq_false_iff_ne.mpr h4,beq_eq_false_iff_ne.mpr h5,if_neg h1,if_neg h2,if_neg h3,if_neg h4,if_neg h5];rfl
theorem qz:∀c,c<128->Builtin.Str.occurrences ("abcdefghij":Str) ⟨#[c]⟩ 0 ("abcdefghij":Str).length 1=if d3 c=true then [c-97] else []:=by decide +kernel
theorem z8{c:Nat}(h:d3 c=true):c<128:=by unfold d3 at h;simp at h;lia
theorem cu(n:Nat):(1:Int)*2^((n:Int)).toNat=((2^n:Nat):Int):=by rw[dP,Qu];lia
theorem nh:∀j,j<10->cS ("abcdefghij":Str).cps.toList ((j:Nat):Int)=some (97+j):=by decide +kernel
theorem b8(a b:Str):(a++b).cps.toList=a.cps.toList++b.cps.toList:=Array.toList_append ..
theorem bC(a b:Str):(a++b).length=a.length+b.length:=Array.size_append ..
theorem bY(c:Nat):(⟨#[c]⟩:Str).length=1:=rfl
theorem gl(c:Nat):(⟨#[c]⟩:Str).cps.toList=[c]:=rfl
theorem ni(z:Str):z.cps.toList.length=z.length:=by simp[Str.length]
theorem dC{a:Int}{n:Nat}(h:0<n):∃j:Nat,a%(n:Int)=(j:Int)/\j<n:=⟨(a%(n:Int)).toNat,by
 have:=Int.emod_nonneg a (show(n:Int)≠0 by lia)
 lia,by
 have:=Int.emod_nonneg a (show(n:Int)≠0 by lia);have:=Int.emod_lt_of_pos a (show(0:Int)<(n:Int) by lia)
 lia⟩
theorem gm{n:Nat}(hn:n<=10):∀v:W,v.ok n->∀c∈v.signs,c<128:=by
 intro v
 induction v with
 |c0=>intro _ c h;simp[W.signs] at h;lia
 |c1=>intro _ c h;simp[W.signs] at h;lia
 |sw k=>intro hk c h;have hk':k<n:=hk;simp[W.signs] at h;lia
 |no a ih =>
  intro hk c h;rcases Qs h with e|e
  ·lia
  exact ih hk c e
 |an a b iha ihb =>
  intro hk c h;rcases Qs h with e|e
  ·lia
  rcases Qx e with e|e
  ·exact iha hk.1 c e
  exact ihb hk.2 c e
 |orr a b iha ihb =>
  intro hk c h;rcases Qs h with e|e
  ·lia
  rcases Qx e with e|e
  ·exact iha hk.1 c e
  exact ihb hk.2 c e
 |xo a b iha ihb =>
  intro hk c h;rcases Qs h with e|e
  ·lia
  rcases Qx e with e|e
  ·exact iha hk.1 c e
  exact ihb hk.2 c e
 |ch k a b iha ihb =>
  intro hk c h;have hk':k<n:=hk.1;rcases Qs h with e|e
  ·lia
  rcases Qs e with e|e
  ·lia
  rcases Qx e with e|e
  ·exact iha hk.2.1 c e
  exact ihb hk.2.2 c e
theorem iW(n:Nat):(bB n).length=n:=by simp[bB]
theorem ko{n:Nat}:∀x∈bB n,x<2^2^n:=λx hx=>by obtain⟨k,_,rfl⟩:=Qn hx;exact xJ k n
theorem iX(n:Nat):aS n<2^2^n:=by have:=Nat.two_pow_pos (2^n);unfold aS;omega
section
variable {P:Program}{w:World}{K:W.Frag}{mg:Str->Option Value}{base:Heap}{AA:fm}{DD:fq}
theorem z9{H H':Hp}{p:Addr}{o:HO}(s:av H H')(h:H p=none):av H (ai H' p o):=λb u e=>by rw[am (aH e h)];exact s b u e
theorem none_of{H H':Hp}{p:Addr}(s:av H H')(h:H' p=none):H p=none:=by
 cases e:H p with
 |none=>rfl
 |some o=>rw[s _ _ e] at h;cases h
theorem Aa{α:Type}{ts:List Addr}{r:List α}{t:Addr}{w:α}{Pp:Addr->α->Prop}(hl:ts.length=r.length)(h:∀(i:Nat) (t:Addr) (w:α),ts[i]?=some t->r[i]?=some w->Pp t w)(ht:Pp t w) :
  ∀(i:Nat) (u:Addr) (q:α),(ts++[t])[i]?=some u->(r++[w])[i]?=some q->Pp u q:=by
 intro i u q h1 h2;by_cases hi:i<ts.length
 ·rw[QE hi] at h1;rw[QE (by omega)] at h2;exact h i u q h1 h2
 rw[QB (by omega)] at h1;rw[QB (by omega)] at h2
 have hi0:i-ts.length=0:=by
  cases hh:i-ts.length with
  |zero=>rfl
  |succ m=>rw[hh] at h1;simp at h1
 rw[<-hl,hi0] at h2;rw[hi0] at h1;have e1:t=u:=by simpa using h1
 have e2:w=q:=by simpa using h2
 subst e1;subst e2;exact ht
theorem Ab:aK ["n"] ["n"] (aA ml):=⟨rfl,rfl,rfl,by decide +kernel,rfl,by decide +kernel,by decide +kernel⟩
theorem d7(T:All P w K mg AA DD):aF P w K mg base aJ 1 AA.Z6 DD.Z6 ["n"] qp:=by
 refine T.z_Z6.F.ok Ab (λvs H Q E h=>?_) (λCJ A outer s H vs Q E hr h=>?_)
 ·obtain⟨n,rfl,_⟩:=h;rfl
 obtain⟨n,rfl,hn,k⟩:=h;refine⟨_,ak (ay (aj eQ (aj cc ag (aj cc ag (pv 0))) ag)),?_⟩;have e1:(1:Int)*2^((n:Int)).toNat=((2^n:Nat):Int):=by rw[dP,Qu];omega
 refine⟨_,rfl,_,_,rfl,rfl,cM (by omega),_,_,rfl,rfl,?_,_,_,rfl,rfl,?_⟩
 ·rw[e1];exact cM (iU hn)
 dsimp only;rw[e1,dP,Qu];have e2:(1:Int)*((2^2^n:Nat):Int)-1=((2^2^n-1:Nat):Int):=by have:=Nat.two_pow_pos (2^n);omega
 rw[e2];exact k
theorem gV:aK ["k","n","run","mask","width"] ["k","n"] (aA mm):=⟨rfl,rfl,rfl,by decide +kernel,rfl,by decide +kernel,by decide +kernel⟩
theorem nj(T:All P w K mg AA DD):aF P w K mg base aJ 1 AA.Zj DD.Zj ["k","n"] qr:=by
 refine T.z_Zj.F.ok gV (λvs H Q E h=>?_) (λCJ A outer s H vs Q E hr h=>?_)
 ·obtain⟨k,n,rfl,_⟩:=h;rfl
 obtain⟨k,n,rfl,hk,hn,q⟩:=h
 refine⟨_,ah (aD (i:=2) gV.nd rfl (Or.inl rfl) (aj cc ag (pv 0)))
  (ah (aD (i:=3) gV.nd rfl (Or.inl rfl) (aj cc (aj eQ (aj cc ag (pv 2)) ag) (pv 2)))
  (ah (aD (i:=4) gV.nd rfl (Or.inl rfl) (aj dY ag (pv 2)))
  (ah (nT PassesOwn.never (ax fS (pv 4) (aj cc ag (pv 1)) (aq _))
   (ah (aD (i:=3) gV.nd rfl (Or.inl rfl) (aj gA (pv 3) (aj cc (pv 3) (pv 4))))
   (ak (aD (i:=4) gV.nd rfl (Or.inl rfl) (aj dY ag (pv 4))))))
  (ak (ay (pv 3)))))),?_⟩
 have hk2:(2:Nat)^k<=1024:=iU (by lia);have e1:(1:Int)*2^((k:Int)).toNat=((2^k:Nat):Int):=by rw[dP,Qu];lia
 refine⟨_,rfl,_,_,rfl,rfl,cM (by lia),?_⟩;dsimp only;rw[e1];refine⟨_,rfl,_,_,rfl,rfl,cM hk2,_,_,rfl,rfl,_,rfl,_,_,rfl,rfl,?_,?_⟩
 ·show jK ((1:Int)*2^(((2^k:Nat):Int)).toNat-1) ((2^k:Nat):Int);have hp:=Nat.two_pow_pos (2^k);rw[xO,show((2^2^k:Nat):Int)-1=((2^2^k-1:Nat):Int) by lia];exact o6 (m:=2^k) (by lia) (by lia)
 have e2:((1:Int)*2^(((2^k:Nat):Int)).toNat-1)*2^(((2^k:Nat):Int)).toNat=((mk (λs=>s.testBit k) (2^(k+1)*2^0):Nat):Int):=by have q0:=xG k;rw[Nat.pow_zero,Nat.mul_one,<-q0,dP,Qu];have hp:=Nat.two_pow_pos (2^k);rw[Int.natCast_mul];congr 1;lia
 dsimp only;rw[e2];refine⟨_,rfl,_,_,rfl,rfl,.inl ⟨by decide,by decide⟩,?_⟩;have e3:(2:Int)*((2^k:Nat):Int)=((2^(k+1)*2^0:Nat):Int):=by rw[Nat.pow_zero,Nat.mul_one,Nat.pow_succ];lia
 dsimp only;rw[e3]
 refine nZ (λσ H'=>∃j:Nat,k+1+j<=n/\H'=H/\σ=[some (.int (k:Nat)),some (.int (n:Nat)),some (.int ((2^k:Nat):Int)),some (.int ((mk (λs=>s.testBit k) (2^(k+1)*2^j):Nat):Int)),some (.int ((2^(k+1)*2^j:Nat):Int))])
  (λ(σ:St) (_:Hp)=>match σ[4]? with|some (some (V.int z))=>2^n-z.toNat|_=>0) ⟨0,by lia,rfl,rfl⟩ ?_ ?_
 ·rintro σ H' ⟨j,hj,rfl,rfl⟩;have e4:(1:Int)*2^((n:Int)).toNat=((2^n:Nat):Int):=by rw[dP,Qu];lia
  refine⟨_,rfl,_,rfl,_,_,rfl,rfl,cM (by lia),_,_,rfl,rfl,_,rfl,?_⟩;dsimp only;rw[e4];have ew:2^(k+1)*2^j=2^(k+1+j):=by rw[<-Nat.pow_add]
  refine b4 (λCU=>?_) (λDJ=>?_)
  ·have CU:((2^(k+1)*2^j:Nat):Int)<((2^n:Nat):Int):=QO CU;have hlt':2^(k+1+j)<2^n:=by rw[<-ew];exact Int.ofNat_lt.mp CU
   have hjn:k+1+j<n:=(Nat.pow_lt_pow_iff_right (by decide)).mp hlt';have hw:2^(k+1)*2^j<=1024:=by rw[ew];exact iU (by lia)
   refine⟨_,rfl,_,rfl,_,rfl,_,_,rfl,rfl,⟨by lia,2^(k+1)*2^j,?_,by lia⟩,_,_,rfl,rfl,?_⟩
   ·rw[Int.natAbs_natCast];exact gG _ _
   have e5:Builtin.bitOr ((mk (λs=>s.testBit k) (2^(k+1)*2^j):Nat):Int) (((mk (λs=>s.testBit k) (2^(k+1)*2^j):Nat):Int)*2^(((2^(k+1)*2^j:Nat):Int)).toNat)=((mk (λs=>s.testBit k) (2^(k+1)*2^(j+1)):Nat):Int):=by rw[Qu,dP,<-Int.natCast_mul,f6,xI,show 2*(2^(k+1)*2^j)=2^(k+1)*2^(j+1) by rw[Nat.pow_succ 2 j,Nat.mul_left_comm,Nat.mul_comm 2 (2^j)]]
   dsimp only;rw[e5];refine⟨_,rfl,_,_,rfl,rfl,.inl ⟨by decide,by decide⟩,?_⟩;have e6:(2:Int)*((2^(k+1)*2^j:Nat):Int)=((2^(k+1)*2^(j+1):Nat):Int):=by rw[Nat.pow_succ 2 j,<-Nat.mul_assoc];lia
   dsimp only;rw[e6];refine⟨⟨j+1,by lia,rfl,rfl⟩,?_⟩;show 2^n-(((2^(k+1)*2^(j+1):Nat):Int)).toNat<2^n-(((2^(k+1)*2^j:Nat):Int)).toNat;rw[Qu,Qu,Nat.pow_succ 2 j,<-Nat.mul_assoc];have hp:0<2^(k+1)*2^j:=Nat.mul_pos (Nat.two_pow_pos _) (Nat.two_pow_pos _);rw[<-ew] at hlt';lia
  have DJ:¬((2^(k+1)*2^j:Nat):Int)<((2^n:Nat):Int):=λz=>DJ (Qo z);have hge':2^n<=2^(k+1+j):=by rw[<-ew];lia
  have hjn:n<=k+1+j:=(Nat.pow_le_pow_iff_right (by decide)).mp hge';have e7:2^(k+1)*2^j=2^n:=by rw[ew];congr 1;lia
  refine⟨_,rfl,?_⟩;rw[e7];exact q
 rintro σ H' Q1 Q2 hq ⟨v,h1,u,h2,i,j,e1,e2,C,i',j',e3,e4,b,eb,qq⟩;exact⟨v,h1,u,h2,i,j,e1,e2,C,i',j',e3,e4,b,eb,hq _ _ qq⟩
theorem qA:aK ["found","many","parts","k"] YI (aA mE):=⟨rfl,rfl,rfl,by decide +kernel,rfl,by decide +kernel,by decide +kernel⟩
theorem Ac(T:All P w K mg AA DD):aF P w K mg base aJ 1 AA.Z8 DD.Z8 YI qt:=by
 refine T.z_Z8.F.ok qA (λvs H Q E h=>?_) (λCJ A outer s H vs Q E hr h=>?_)
 ·obtain⟨l,st,m,rfl,_⟩:=h;rfl
 obtain⟨l,st,m,rfl,hl,hm,hz,k⟩:=h;have nd:=qA.nd
 refine⟨_,ah (aD (i:=2) nd rfl (Or.inl rfl) (aO ac))
  (ah (eB PassesOwn.never rfl (fM rfl T.n_range (aa (pv 1) ac)) (bq (i:=3) nd rfl (Or.inl rfl))
   (ak (bE (jE PySem.F.plainAttrs_list PySem.F.slot_list_append PySem.F.type_list_append lC (pv 2) (aa (lA PySem.F.plainAttrs_list PySem.F.slot_list_pop PySem.F.type_list_pop oQ (pv 0)) ac)))))
  (ak (ay (pv 2)))),?_⟩
 refine⟨Ql _,λp hp=>?_⟩;have npl:l≠p:=aH hl hp;refine⟨_,rfl,_,rfl,by omega,by omega,?_⟩;rw[Qu]
 refine kU (λi σ H'=>i<=m/\(∃s3:Option V,σ=[some (.ref l),some (.int (m:Nat)),some (.ref p),s3])/\H' l=some (.lst (st.drop i).reverse)/\H' p=some (.lst (st.take i))/\∀b o,H b=some o->b≠l->H' b=some o)
  ⟨Ql _,⟨none,rfl⟩,by rw[am npl];exact hl,af,λb o e _=>by rw[am (aH e hp)];exact e⟩ ?_ ?_
 ·rintro i σ H' hi ⟨_,⟨s3,rfl⟩,h1,h2,h3⟩;have hin:i<st.length:=by omega
  have ed:(st.drop i).reverse=(st.drop (i+1)).reverse++[st[i]]:=by rw[List.drop_eq_getElem_cons hin,List.reverse_cons]
  refine⟨_,rfl,.inl ⟨rfl,_,ae.of h2⟩,_,rfl,.inl ⟨rfl,_,ae.of h1⟩,l,_,st[i],rfl,rfl,h1,?_,p,_,_,rfl,rfl,(by rw[am npl.symm];exact h2),?_,?_⟩
  ·rw[ed];simp
  ·rw[QL];exact ft (by omega)
  refine⟨hi,⟨_,rfl⟩,?_,?_,λb o e hb=>?_⟩
  ·rw[am npl,af,ed,List.dropLast_concat]
  ·rw[af,List.take_add_one,Qc hin];rfl
  rw[am (aH e hp),am hb];exact h3 b o e hb
 rintro σ H' ⟨_,⟨s3,rfl⟩,h1,h2,h3⟩;exact⟨_,rfl,k p H' hp h2 h1 h3⟩
theorem Ad:aK Yl Yl (aA mG):=⟨rfl,rfl,rfl,by decide +kernel,rfl,by decide +kernel,by decide +kernel⟩
theorem Ae(T:All P w K mg AA DD):aF P w K mg base aJ 1 AA.Ze DD.Ze Yl (qu K):=by
 refine T.z_Ze.F.ok Ad (λvs H Q E h=>?_) (λCJ A outer s H vs Q E hr h=>?_)
 ·obtain⟨c,p,ps,full,rfl,_⟩:=h;rfl
 obtain⟨c,p,ps,full,rfl,hS,hc,hl,k⟩:=h
 refine⟨_,ah (aB (ax aN (pv 0) ao (aq _)) (ak (ay (aj ik (pv 2) (aY cw (pv 1) ag (λ_ _=>rfl))))) aI)
  (ah (aB (ax aN (pv 0) ao (aq _)) (ak (ay (aj cR (aY cw (pv 1) ag (λ_ _=>rfl)) (aY cw (pv 1) ag (λ_ _=>rfl))))) aI)
  (ah (aB (ax aN (pv 0) ao (aq _)) (ak (ay (aj gA (aY cw (pv 1) ag (λ_ _=>rfl)) (aY cw (pv 1) ag (λ_ _=>rfl))))) aI)
  (ah (aB (ax aN (pv 0) ao (aq _)) (ak (ay (aj ik (aY cw (pv 1) ag (λ_ _=>rfl)) (aY cw (pv 1) ag (λ_ _=>rfl))))) aI)
  (ak (ay (aj gA (aj cR (aY cw (pv 1) ag (λ_ _=>rfl)) (aY cw (pv 1) ag (λ_ _=>rfl)))
   (aj cR (aj ik (pv 2) (aY cw (pv 1) ag (λ_ _=>rfl))) (aY cw (pv 1) ag (λ_ _=>rfl))))))))),?_⟩
 have a0:∀j,j<bo c->cS (iv ps) ((j:Nat):Int)=some (.int (ps.getD j 0:Nat)):=λj hj=>qy (by lia);refine⟨_,rfl,rfl,_,rfl,?_⟩;rw[sg gU];rcases z4 hc with rfl|rfl|rfl|rfl|rfl
 ·refine aQ ?_;refine⟨_,rfl,_,rfl,p,_,_,_,rfl,rfl,hS,a0 0 (by decide),_,_,rfl,rfl,?_⟩;dsimp only;rw[iy];exact k
 ·refine aw ?_;refine⟨_,rfl,rfl,_,rfl,?_⟩;rw[sg iV];refine aQ ?_;refine⟨_,rfl,p,_,_,_,rfl,rfl,hS,a0 0 (by decide),_,rfl,p,_,_,_,rfl,rfl,hS,a0 1 (by decide),_,_,rfl,rfl,?_⟩;dsimp only;rw[cT];exact k
 ·refine aw ?_;refine⟨_,rfl,rfl,_,rfl,?_⟩;rw[sg iV];refine aw ?_;refine⟨_,rfl,rfl,_,rfl,?_⟩;rw[sg km];refine aQ ?_;refine⟨_,rfl,p,_,_,_,rfl,rfl,hS,a0 0 (by decide),_,rfl,p,_,_,_,rfl,rfl,hS,a0 1 (by decide),_,_,rfl,rfl,?_⟩;dsimp only;rw[f6];exact k
 ·refine aw ?_;refine⟨_,rfl,rfl,_,rfl,?_⟩;rw[sg iV];refine aw ?_;refine⟨_,rfl,rfl,_,rfl,?_⟩;rw[sg km];refine aw ?_;refine⟨_,rfl,rfl,_,rfl,?_⟩;rw[sg nc];refine aQ ?_;refine⟨_,rfl,p,_,_,_,rfl,rfl,hS,a0 0 (by decide),_,rfl,p,_,_,_,rfl,rfl,hS,a0 1 (by decide),_,_,rfl,rfl,?_⟩;dsimp only;rw[iy];exact k
 refine aw ?_;refine⟨_,rfl,rfl,_,rfl,?_⟩;rw[sg iV];refine aw ?_;refine⟨_,rfl,rfl,_,rfl,?_⟩;rw[sg km];refine aw ?_;refine⟨_,rfl,rfl,_,rfl,?_⟩;rw[sg nc];refine aw ?_
 refine⟨_,rfl,p,_,_,_,rfl,rfl,hS,a0 0 (by decide),_,rfl,p,_,_,_,rfl,rfl,hS,a0 1 (by decide),_,_,rfl,rfl,_,rfl,_,rfl,p,_,_,_,rfl,rfl,hS,a0 0 (by decide),_,_,rfl,rfl,
  _,rfl,p,_,_,_,rfl,rfl,hS,a0 2 (by decide),_,_,rfl,rfl,_,_,rfl,rfl,?_⟩
 dsimp only;rw[iy,cT,cT,f6];exact k
theorem qB:aK ["sign","switches","full","k"] Yv (aA mF):=⟨rfl,rfl,rfl,by decide +kernel,rfl,by decide +kernel,by decide +kernel⟩
theorem Af(T:All P w K mg AA DD):aF P w K mg base aJ 1 AA.ZM DD.ZM Yv (qv K):=by
 refine T.z_ZM.F.ok qB (λvs H Q E h=>?_) (λCJ A outer s H vs Q E hr h=>?_)
 ·obtain⟨c,l,sws,full,v,rfl,_⟩:=h;rfl
 obtain⟨c,l,sws,full,v,rfl,hS,hc,hv,k⟩:=h;have nd:=qB.nd;obtain⟨tL,hL⟩:=T.v_LETTERS
 refine⟨_,ah (aB (ax aN (pv 0) ao (aq _)) (ak (ay ag)) aI)
  (ah (aB (ax aN (pv 0) ao (aq _)) (ak (ay (pv 2))) aI)
  (ah (aD (i:=3) nd rfl (Or.inl rfl) (jE PySem.F.plainAttrs_str PySem.F.slot_str_find PySem.F.type_str_find xV (dL (v:=.str "abcdefghij") rfl hL ⟨_,rfl⟩) (aa (pv 0) ac)))
  (ah (aB (PW.pt (dj (ax fS (pv 3) ag (aq _)) (eg (ax jw (pv 3) (bc fX rfl T.n_len bw (aa (pv 1) ac)) (aq _))))) bF aI)
  (ak (ay (aY cw (pv 1) (pv 3) (λ_ _=>rfl))))))),?_⟩
 unfold fc at hv;refine⟨_,rfl,rfl,_,rfl,?_⟩;rw[sg z5];by_cases h0:c=48
 ·rw[if_pos h0] at hv;cases hv;rw[Qo h0];exact aQ k
 rw[if_neg h0] at hv;rw[Qd h0];refine aw ?_;refine⟨_,rfl,rfl,_,rfl,?_⟩;rw[sg z6];by_cases h1:c=49
 ·rw[if_pos h1] at hv;cases hv;rw[Qo h1];exact aQ ⟨_,rfl,k⟩
 rw[if_neg h1] at hv;rw[Qd h1];refine aw ?_;by_cases hl:d3 c=true
 ·rw[if_pos hl] at hv;have hk:c-97<sws.length:=(Qj hv).1;refine⟨rfl,_,rfl,_,_,rfl,rfl,?_⟩;rw[qz c hc,if_pos hl];dsimp only;refine⟨_,rfl,_,_,rfl,rfl,_,rfl,?_⟩;rw[Qd (by lia)];refine aw ?_;refine⟨_,rfl,_,rfl,l,_,rfl,.inl hS,_,_,rfl,rfl,_,rfl,?_⟩;rw[b7,Qd (by lia)];refine aw ?_;refine⟨_,rfl,_,rfl,l,_,_,_,rfl,rfl,hS,qy hk,?_⟩;rw[QA,hv];exact k
 rw[if_neg hl] at hv;cases hv
inductive qC (vs:List V) (H:Hp) (Q:VK) (E:XK):Prop
 |mk:∀m s:Nat,vs=[.int m,.int s]->Q (.bl (m.testBit s)) H->qC vs H Q E
noncomputable def bl(m:Nat):Nat:=Builtin.Int.intBits (m:Int)
noncomputable def df(l:List Nat):List Int:=l.map λ(s:Nat)=>(s:Int)
inductive qD (vs:List V) (H:Hp) (Q:VK) (E:XK):Prop
 |mk:∀m:Nat,vs=[.int m]->m<2^1024->(∀p,H p=none->Q (.ref p) (ai H p (.lst ((df (aR m (bl m))).map V.int))))->qD vs H Q E
inductive qE (vs:List V) (H:Hp) (Q:VK) (E:XK):Prop
 |mk:∀m:Nat,vs=[.int m]->m<2^1024->(∀H',av H H'->Q (.int ((aR m (bl m)).length:Nat)) H')->qE vs H Q E
theorem Ag(m s:Nat):(m:Int)/2^((s:Int)).toNat=((m/2^s:Nat):Int):=by rw[Qu,dP];rfl
theorem qF(m s:Nat):decide (V.int (Builtin.bitAnd ((m:Int)/2^((s:Int)).toNat) 1)=V.int 1)=m.testBit s:=by
 rw[fR,Ag,show(1:Int)=((1:Nat):Int) from rfl,cT,Nat.and_one_is_mod,jJ];by_cases h:m/2^s%2=1
 ·rw[h];rfl
 have h0:m/2^s%2=0:=by omega
 rw[h0];rfl
theorem iY(m i:Nat):aR m (i+1)=if m.testBit i then aR m i++[i] else aR m i:=by unfold aR;rw[List.range_succ,List.filter_append];cases h:m.testBit i<;>simp[h]
theorem Ah(l:List Nat)(i:Nat):df (l++[i])=df l++[(i:Int)]:=by simp[df]
theorem qG{m N:Nat}(h:m<2^N):bl m<=N:=o5 h
theorem nl{m N:Nat}(h:m<2^N):aR m (bl m)=aR m N:=yv (yB m) (qG h)
theorem Ai:aK ["mask","s"] ["mask","s"] (aA mq):=⟨rfl,rfl,rfl,by decide +kernel,rfl,by decide +kernel,by decide +kernel⟩
theorem qH(T:All P w K mg AA DD):aF P w K mg base aJ 1 AA.has DD.has ["mask","s"] qC:=by
 refine T.z_has.F.ok Ai (λvs H Q E h=>?_) (λCJ A outer s H vs Q E hr h=>?_)
 ·obtain⟨m,t,rfl,_⟩:=h;rfl
 obtain⟨m,t,rfl,k⟩:=h;refine⟨_,ak (ay (bM aN (aj cR (aj la (pv 0) (pv 1)) ag) ag (aq _))),?_⟩;refine⟨_,rfl,_,rfl,_,_,rfl,rfl,by lia,_,_,rfl,rfl,rfl,?_⟩;rw[qF];exact k
theorem Aj:aK ["mask"] ["mask"] (aA j3):=⟨rfl,rfl,rfl,by decide +kernel,rfl,by decide +kernel,by decide +kernel⟩
theorem qI(T:All P w K mg AA DD):aF P w K mg base aJ 2 AA.ZJ DD.ZJ ["mask"] qD:=by
 have G0:=qH (base:=base) T;refine T.z_ZJ.F.ok Aj (λvs H Q E h=>?_) (λCJ A outer s H vs Q E hr h=>?_)
 ·obtain⟨m,rfl,_⟩:=h;rfl
 obtain⟨m,rfl,hm,k⟩:=h
 refine⟨_,ak (ay (cU (aA j3) ["mask"] ["mask"] [0] rfl (by decide +kernel) rfl rfl
  (fM rfl T.n_range (aa (lA PySem.F.plainAttrs_int PySem.F.slot_int_bit_length PySem.F.type_int_bit_length o7 (pv 0)) ac))
  (λ_ _ _ _=>ir (cQ (aE G0 hr rfl T.z_has (aa (pv 1) (aa (pv 0) ac))))) (λ_ _ _ _=>pv 0))),?_⟩
 have hb:bl m<=1024:=qG hm;refine⟨_,rfl,rfl,_,rfl,rfl,_,rfl,?_,?_,?_⟩
 ·show -(2^62)<=((bl m:Nat):Int);omega
 ·show((bl m:Nat):Int)<2^62;omega
 show ∃W:Nat->Nat->List V->Hp->Prop,_;rw[show(((Builtin.Int.intBits (m:Int):Nat):Int)).toNat=bl m from Qu _];refine jH (λi ys H'=>H'=H/\i<=bl m/\ys=(df (aR m i)).map V.int) ⟨rfl,Ql _,rfl⟩ ?_ ?_
 ·rintro i ys H' hi ⟨rfl,_,rfl⟩;refine⟨_,rfl,_,rfl,m,i,by simp,_,rfl,?_⟩;have hs:=iY m i
  cases hb:m.testBit i with
  |true =>
   rw[hb,if_pos rfl] at hs;refine aQ ?_;refine⟨_,rfl,?_,rfl,hi,?_⟩
   ·rw[Qb,df,Qb];have:=yw m i;exact ft (by omega)
   rw[hs,Ah,QH,Int.zero_add];rfl
  |false =>
   rw[hb,if_neg Qf] at hs;refine aw ?_;exact⟨rfl,hi,by rw[hs]⟩
 rintro ys H' ⟨rfl,_,rfl⟩ p hp;exact k p hp
theorem Ak:aK ["mask"] ["mask"] (aA mr):=⟨rfl,rfl,rfl,by decide +kernel,rfl,by decide +kernel,by decide +kernel⟩
theorem qJ(T:All P w K mg AA DD):aF P w K mg base aJ 3 AA.ZK DD.ZK ["mask"] qE:=by
 have G1:=qI (base:=base) T;refine T.z_ZK.F.ok Ak (λvs H Q E h=>?_) (λCJ A outer s H vs Q E hr h=>?_)
 ·obtain⟨m,rfl,_⟩:=h;rfl
 obtain⟨m,rfl,hm,k⟩:=h;refine⟨_,ak (ay (bc fX rfl T.n_len bw (aa (aE G1 hr rfl T.z_ZJ (aa (pv 0) ac)) ac))),?_⟩;refine⟨_,rfl,m,rfl,hm,λp hp=>?_⟩;refine⟨p,_,rfl,.inl (ae.of af),?_⟩;rw[Qb,df,Qb];exact k _ (ap hp)
noncomputable abbrev NR:List Str:=Yp
theorem qK:aK NR Yu (aA mD):=⟨rfl,rfl,rfl,by decide +kernel,rfl,by decide +kernel,by decide +kernel⟩
theorem Al(T:All P w K mg AA DD):aF P w K mg base aJ 2 AA.Za DD.Za Yu (qw K):=by
 have GT:=Ac (base:=base) T;have GP:=Ae (base:=base) T;have GV:=Af (base:=base) T;refine T.z_Za.F.ok qK (λvs H Q E h=>?_) (λCJ A outer s H vs Q E hr h=>?_)
 ·obtain⟨z,l,sws,full,v,rfl,_⟩:=h;rfl
 obtain⟨z,l,sws,full,v,rfl,hS,hcs,hz,EQ,k⟩:=h;have nd:=qK.nd;obtain⟨tL,hL⟩:=T.v_LETTERS
 refine⟨_,ah (aD (i:=3) nd rfl (Or.inl rfl) (aO ac))
  (ah (aD (i:=4) nd rfl (Or.inl rfl) ao)
  (ah (eB PassesOwn.never rfl (yd rfl T.n_reversed (aa (pv 0) ac)) (bq (i:=5) nd rfl (Or.inl rfl))
   (ah (aB (ax fS (bc cY rfl T.n_len bw (aa (pv 3) ac)) (yg T.D_NEEDS rfl T.m_NEEDS (pv 5) ag) (aq _)) bF aI)
   (ah (aB (PW.pt (fJ (ax aN (pv 5) ao (aq _)) (fH (ax xu (pv 4) (dL (v:=.str "abcdefghij") rfl hL ⟨_,rfl⟩) rfl)))) bF aI)
   (ah (aB (jp (yi T.D_NEEDS rfl T.m_NEEDS (pv 5)))
    (ah (aD (i:=6) nd rfl (Or.inl rfl) (aE GT hr rfl T.z_Z8 (aa (pv 3) (aa (yk T.D_NEEDS rfl T.m_NEEDS (pv 5) (λ_ _=>rfl)) ac))))
    (ak (bE (dA (pv 3) (aa (aE GP hr rfl T.z_Ze (aa (pv 5) (aa (pv 6) (aa (pv 2) ac)))) ac)))))
    (ak (bE (dA (pv 3) (aa (aE GV hr rfl T.z_ZM (aa (pv 5) (aa (pv 1) (aa (pv 2) ac)))) ac)))))
   (ak (aD (i:=4) nd rfl (Or.inl rfl) (pv 5)))))))
  (ah (aB (ax il (bc cY rfl T.n_len bw (aa (pv 3) ac)) ag (aq _)) bF aI)
  (ak (ay (aY cw (pv 3) ag (λ_ _=>rfl))))))),?_⟩
 generalize ht:z.cps.toList=t at hcs EQ;have CN:t.length=z.length:=by rw[<-ht];simp[Str.length]
 refine⟨Ql _,λp hp=>?_⟩;refine⟨_,rfl,z,rfl,QG (ft (by lia)),?_⟩
 refine xW (fun i σ H'=>i<=z.length/\av H H'/\∃ (st:List Nat) (bh:Str) (s5 s6:Option V),bG sws full (t.drop (z.length-i))=some st/\(∀ c r,t.drop (z.length-i)=c::r->bh=⟨#[c]⟩) /\
   st.length<=i/\H' p=some (.lst (iv st).reverse)/\σ=[some (.str z),some (.ref l),some (.int (full:Nat)),some (.ref p),some (.str bh),s5,s6])
  ⟨Ql _,ap hp,[],_,none,none,(by rw[Nat.sub_zero,List.drop_of_length_le (by lia)];rfl),(by rw[Nat.sub_zero,List.drop_of_length_le (by lia)];intro c r e;cases e),Qk _,af,rfl⟩ ?_ ?_
 ·rintro i σ H' hi ⟨_,hsm,st,bh,s5,s6,CL,hbh,hsl,hH,rfl⟩;obtain⟨Dm,h'⟩:=pR (z.length-(i+1)) EQ;have CU:z.length-(i+1)<t.length:=by lia
  have ed:t.drop (z.length-(i+1))=t[z.length-(i+1)]::t.drop (z.length-i):=by rw[List.drop_eq_getElem_cons CU,show z.length-(i+1)+1=z.length-i by lia]
  have ec:(iz z i)=V.str ⟨#[t[z.length-(i+1)]]⟩:=by unfold iz;rw[ht,QA,show z.length-1-i=z.length-(i+1) by lia,Qc CU];rfl
  rw[ec];generalize EG:t[z.length-(i+1)]=c at ed;have hc128:c<128:=by rw[<-EG];exact hcs _ (QP _)
  rw[ed] at h';obtain⟨st2,h2,CW⟩:=pQ h';rw[CL] at h2;cases h2;have C5:p≠l∨True:=.inr trivial;have hSl:ae K H' l (iv sws):=hsm.seq hS;unfold dQ at CW;by_cases hn:st.length<bo c
  ·rw[if_pos hn] at CW;cases CW
  rw[if_neg hn] at CW;by_cases hq:c=63/\iD (t.drop (z.length-i))=false
  ·rw[if_pos hq] at CW;cases CW
  rw[if_neg hq] at CW;refine⟨_,rfl,p,_,rfl,.inl (ae.of hH),_,rfl,⟨#[c]⟩,.int (bo c:Nat),rfl,?_,_,_,rfl,rfl,_,rfl,?_⟩
  ·show((nb.lookup (⟨#[c]⟩:Str)).map V.int).getD (V.int 0)=_;rw[ng];by_cases h0:0<bo c
   ·rw[if_pos h0];rfl
   rw[if_neg h0,show bo c=0 by lia];rfl
  rw[List.length_reverse,b7,Qd (by lia)];refine aw ?_;refine⟨_,rfl,rfl,_,rfl,?_⟩;rw[sg gk]
  have go:∀(D:bO) (t1:TS) (u1:TS) (σ':St),u1 D σ' H'->(if decide (c=63)=true then(oi (fO (λx y H Q=>∃i j,x=.str i/\y=.str j/\Q (.bl (!(!(Builtin.Str.occurrences j i 0 j.length 1).isEmpty))) H) (ib 4) (tC (.str "abcdefghij")))) [some (.str z),some (.ref l),some (.int (full:Nat)),some (.ref p),some (.str bh),some (.str ⟨#[c]⟩),s6] H' (λb H1=>if b=true then t1 D σ' H1 else u1 D σ' H1) else(if false=true then t1 D σ' H' else u1 D σ' H')):=by
   intro D t1 u1 σ' hu1;by_cases h63:c=63
   ·rw[Qo h63];refine aQ ?_
    have hd:iD (t.drop (z.length-i))=true:=by
     cases hh:iD (t.drop (z.length-i)) with
     |true=>rfl
     |false=>exact absurd ⟨h63,hh⟩ hq
    cases er:t.drop (z.length-i) with
    |nil =>
     exfalso;rw[er] at CL;cases CL;subst h63;exact hn (by decide)
    |cons d r =>
     rw[er] at hd;have hbd:=hbh d r er;subst hbd;have hLd:d3 d=true:=hd;refine⟨_,rfl,_,_,rfl,rfl,_,rfl,?_⟩;rw[qz d (z8 hLd),if_pos hLd];exact aw hu1
   rw[Qd h63];exact aw (aw hu1)
  refine go _ _ _ _ ?_;refine⟨_,rfl,⟨#[c]⟩,rfl,_,rfl,?_⟩;rw[ng];by_cases h0:0<bo c
  ·rw[if_pos h0] at CW ⊢;cases CW;refine aQ ?_;refine⟨_,rfl,_,rfl,⟨#[c]⟩,((bo c:Nat):Int),rfl,by rw[ng,if_pos h0],p,iv st,bo c,rfl,hH,by rw[b7];lia,by rw[b7];lia,λp2 H2 np2 h2p h2l hk=>?_⟩;have n2:p2≠p:=(aH hH np2).symm;refine⟨_,rfl,.inl ⟨rfl,_,ae.of h2l⟩,_,rfl,_,rfl,_,rfl,c,p2,st.take (bo c),full,rfl,ae.of (by rw[h2p,z0]),h0,by rw[QL];lia,p,_,_,rfl,rfl,h2l,?_,?_⟩
   ·rw[List.length_reverse,List.length_drop,b7];exact ft (by lia)
   refine⟨_,rfl,hi,?_,_,_,_,_,(by rw[ed];exact h'),?_,?_,?_,rfl⟩
   ·intro b o e;have hb:b≠p:=aH e hp;rw[am hb];exact hk b o (hsm b o e) hb
   ·rw[ed];intro c' r' e';cases e';rfl
   ·rw[QC,List.length_drop];lia
   rw[af,qx,List.reverse_cons,z3]
  rw[if_neg h0] at CW ⊢;refine aw ?_
  cases hv:fc sws full c with
  |none=>rw[hv] at CW;cases CW
  |some v' =>
   rw[hv] at CW;cases CW;refine⟨_,rfl,.inl ⟨rfl,_,ae.of hH⟩,_,rfl,_,rfl,_,rfl,c,l,sws,full,v',rfl,hSl,hc128,hv,p,_,_,rfl,rfl,hH,?_,?_⟩
   ·rw[List.length_reverse,b7];exact ft (by lia)
   refine⟨_,rfl,hi,?_,_,_,_,_,(by rw[ed];exact h'),?_,?_,?_,rfl⟩
   ·intro b o e;rw[am (aH e hp)];exact hsm b o e
   ·rw[ed];intro c' r' e';cases e';rfl
   ·rw[QC];lia
   rw[af,qx,List.reverse_cons]
 rintro σ H' ⟨_,hsm,st,bh,s5,s6,CL,hbh,hsl,hH,rfl⟩;rw[Nat.sub_self,List.drop_zero,EQ] at CL;cases CL;refine⟨_,rfl,p,_,rfl,.inl (ae.of hH),rfl,_,rfl,?_⟩;refine xF rfl ?_;exact⟨_,rfl,p,_,_,_,rfl,rfl,ae.of hH,aX (j:=0) rfl,k _ hsm⟩
theorem Am:aK ["text","n"] ["text","n"] (aA j5):=⟨rfl,rfl,rfl,by decide +kernel,rfl,by decide +kernel,by decide +kernel⟩
theorem An(T:All P w K mg AA DD):aF P w K mg base aJ 3 AA.Zd DD.Zd ["text","n"] m9:=by
 have GE:=d7 (base:=base) T;have GS:=nj (base:=base) T;have GR:=Al (base:=base) T;refine T.z_Zd.F.ok Am (λvs H Q E h=>?_) (λCJ A outer s H vs Q E hr h=>?_)
 ·obtain⟨z,n,v,rfl,_⟩:=h;rfl
 obtain⟨z,n,v,rfl,hn,hcs,hz,EQ,k⟩:=h;have CO:au 1 _:=hr.mono (by decide)
 refine⟨_,ak (ay (gB GR hr rfl T.m_Za T.z_Za.k T.z_Za.b .nil cK (aa (pv 0) (aa
  (cU (aA j5) ["text","n"] ["n"] [1] rfl (by decide +kernel) rfl rfl
   (fM rfl T.n_range (aa (pv 1) ac)) (λ_ _ _ _=>cy) (λ_ _ _ _=>aE GS CO rfl T.z_Zj (aa (pv 0) (aa (pv 1) ac))))
  (aa (aE GE CO rfl T.z_Z6 (aa (pv 1) ac)) ac))))),?_⟩
 refine⟨_,rfl,_,rfl,_,rfl,by lia,by lia,?_⟩;rw[Qu];refine jH (λi ys H'=>H'=H/\ys=iv ((List.range i).map λk=>sw k n)) ⟨rfl,rfl⟩ ?_ ?_
 ·rintro i ys H' hi ⟨rfl,rfl⟩;refine dt ?_;rw[if_pos rfl];refine⟨_,rfl,_,rfl,i,n,by simp,hi,hn,?_,rfl,?_⟩
  ·rw[b7,Qb,List.length_range];exact ft (by lia)
  rw[List.range_succ,QH,List.map_singleton,kl]
 rintro ys H' ⟨rfl,rfl⟩ p hp;refine⟨_,rfl,n,rfl,hn,z,p,bB n,aS n,v,rfl,ae.of af,hcs,hz,EQ,λH2 hs=>k H2 ((ap hp).trans hs)⟩
theorem Ao:aK ["text","n"] ["text","n"] (aA mC):=⟨rfl,rfl,rfl,by decide +kernel,rfl,by decide +kernel,by decide +kernel⟩
theorem iZ(T:All P w K mg AA DD):aF P w K mg base aJ 4 AA.ZB DD.ZB ["text","n"] m9:=by
 have GM:=An (base:=base) T;refine T.z_ZB.F.ok Ao (λvs H Q E h=>?_) (λCJ A outer s H vs Q E hr h=>?_)
 ·obtain⟨z,n,v,rfl,_⟩:=h;rfl
 obtain⟨z,n,v,rfl,h1,h2,h3,h4,h5⟩:=h;refine⟨_,ak (ay (aE GM hr rfl T.z_Zd (aa (pv 0) (aa (pv 1) ac)))),?_⟩;exact⟨_,rfl,_,rfl,z,n,v,rfl,h1,h2,h3,h4,h5⟩
end
section
variable {P:Program}{w:World}{K:W.Frag}{mg:Str->Option Value}{base:Heap}{AA:fm}{DD:fq}
noncomputable def b9(n:Nat)(ar:List W):Nat:=ar.foldl (λm v=>m&&&v.val (bB n) (aS n)) (aS n)
noncomputable def bJ(n:Nat)(fs:List (Str×List W)):List (Str×Nat):=fs.map λp=>(p.1,b9 n p.2)
noncomputable def stk(n:Nat)(ar:List W):List Nat:=(List.range (ar.length+1)).map λi=>b9 n (ar.take i)
theorem qL(n:Nat)(ar:List W)(v:W):b9 n (ar++[v])=b9 n ar&&&v.val (bB n) (aS n):=by simp[b9]
theorem dS(n:Nat)(ar:List W):(stk n ar).length=ar.length+1:=by simp[stk]
theorem kr(n:Nat)(ar:List W)(v:W):stk n (ar++[v])=stk n ar++[b9 n (ar++[v])]:=by
 unfold stk;rw[QK,List.length_singleton,List.range_succ,QH];congr 1
 ·refine List.map_congr_left λi hi=>?_;have:=List.mem_range.mp hi;rw[List.take_append_of_le_length (by lia)]
 rw[List.map_singleton,List.take_of_length_le (by simp)]
theorem qM(n:Nat){ar:List W}(h:ar≠[]):(stk n ar).dropLast=stk n ar.dropLast:=by
 obtain⟨a,v,rfl⟩:∃a v,ar=a++[v]:=⟨ar.dropLast,ar.getLast h,(List.dropLast_concat_getLast h).symm⟩
 rw[kr,List.dropLast_concat,List.dropLast_concat]
theorem ks(n:Nat)(ar:List W):cS (iv (stk n ar)) (-1)=some (.int ((b9 n ar:Nat):Int)):=by
 rcases List.eq_nil_or_concat ar with rfl|⟨a,v,rfl⟩
 ·exact jB [] _
 rw[List.concat_eq_append,kr,kl];exact jB _ _
theorem nn(n:Nat)(ar:List W):(stk n ar)[ar.length]?=some (b9 n ar):=by unfold stk;rw[Qi,List.getElem?_range (by lia)];simp
def cv(H:Hp)(ts:List Addr)(r:List (Str×Nat)):Prop:=ts.length=r.length/\∀(i:Nat) (t:Addr) (w:Str×Nat),ts[i]?=some t->r[i]?=some w->H t=some (.tup [.str w.1,.int ((w.2:Nat):Int)])
theorem cv.nil(H:Hp):cv H [] []:=⟨rfl,λi t w h=>by simp at h⟩
theorem cv.same{H H':Hp}{ts:List Addr}{r:List (Str×Nat)}(h:cv H ts r)(s:av H H'):cv H' ts r:=⟨h.1,λi t w a b=>s _ _ (h.2 i t w a b)⟩
theorem cv.lst{H:Hp}{ts:List Addr}{r:List (Str×Nat)}{l:Addr}{xs ys:List V}(h:cv H ts r)(hl:H l=some (.lst xs)):cv (ai H l (.lst ys)) ts r:=
 ⟨h.1,λi t w a b=>by rw[am (dI (h.2 i t w a b) hl (by intro z;cases z))];exact h.2 i t w a b⟩
theorem cv.snoc{H:Hp}{ts:List Addr}{r:List (Str×Nat)}{t:Addr}{w:Str×Nat}(h:cv H ts r)(ht:H t=some (.tup [.str w.1,.int ((w.2:Nat):Int)])):cv H (ts++[t]) (r++[w]):=by
 refine⟨by simp[h.1],λi u q h1 h2=>?_⟩;have hl:=h.1;by_cases hi:i<ts.length
 ·rw[QE hi] at h1;rw[QE (by omega)] at h2;exact h.2 i u q h1 h2
 rw[QB (by omega)] at h1;rw[QB (by omega)] at h2
 have hi0:i-ts.length=0:=by
  cases hh:i-ts.length with
  |zero=>rfl
  |succ m=>rw[hh] at h1;simp at h1
 rw[<-hl,hi0] at h2;rw[hi0] at h1;have e1:t=u:=by simpa using h1
 have e2:w=q:=by simpa using h2
 subst e1;subst e2;exact ht
def cN(H:Hp)(l:Addr)(r:List (Str×Nat)):Prop:=∃ts:List Addr,H l=some (.lst (ts.map V.ref))/\cv H ts r
theorem cN.same{H H':Hp}{l:Addr}{r:List (Str×Nat)}(h:cN H l r)(s:av H H'):cN H' l r:=by obtain⟨ts,a,b⟩:=h;exact⟨ts,s _ _ a,b.same s⟩
inductive qN (vs:List V) (H:Hp) (Q:VK) (E:XK):Prop
 |mk:∀(v:W) (n:Nat) (x:V),vs=[.str (wd (.op v)),.int n,x]->n<=10->v.ok n->v.signs.length<=9->(∀H',av H H'->Q (.int (v.val (bB n) (aS n):Nat)) H')->qN vs H Q E
inductive qO (vs:List V) (H:Hp) (Q:VK) (E:XK):Prop
 |mk:∀(evs:List Mm.Ev) (n:Nat),vs=[.str (aM evs)]->n<=10->aP n evs->evs.length<=1000->(∀p,H p=none->Q (.ref p) (ai H p (.lst ((evs.map wd).map V.str))))->qO vs H Q E
inductive nr (vs:List V) (H:Hp) (Q:VK) (E:XK):Prop
 |mk:∀(evs:List Mm.Ev) (n:Nat) (x:V),vs=[.str (aM evs),.int n,x]->n<=10->aP n evs->(rn evs).2=[]->evs.length<=1000->(∀p H',H p=none->av H H'->cN H' p (bJ n (rn evs).1)->Q (.ref p) H')->nr vs H Q E
theorem e_:("":Str)=⟨#[]⟩:=by decide +kernel
theorem i0:(">":Str)=⟨#[62]⟩:=by decide +kernel
theorem i3:("<":Str)=⟨#[60]⟩:=by decide +kernel
theorem cO:(" ":Str)=⟨#[32]⟩:=by decide +kernel
theorem cp(a b:Str):decide (V.str a=V.str b)=decide (a=b):=by
 by_cases h:a=b
 ·subst h;simp
 rw[Qd h];exact Qd λz=>h (by injection z)
theorem qP(v:W):(0+("<":Str).length<=(wd (.op v)).length&&Builtin.Str.subAt (wd (.op v)) "<" 0)=true:=by rw[i3];have:(⟨#[60]⟩:Str).length=1:=rfl;simp[wd,Builtin.Str.subAt,Str.length]
noncomputable abbrev Ap:List Str:=["row"]
theorem qQ:aK Ap ["row"] (aA mK):=⟨rfl,rfl,rfl,by decide +kernel,rfl,by decide +kernel,by decide +kernel⟩
theorem Aq(T:All P w K mg AA DD):aF P w K mg base aJ 1 AA.ZN DD.ZN ["row"] qO:=by
 refine T.z_ZN.F.ok qQ (λvs H Q E h=>?_) (λCJ A outer s H vs Q E hr h=>?_)
 ·obtain⟨evs,n,rfl,_⟩:=h;rfl
 obtain⟨evs,n,rfl,hn,g,hl,k⟩:=h;refine⟨_,(ah (aB (ax aN (pv 0) ao (aq _)) (ak (ay (aO ac))) aI) (ak (ay (b5 (K:=K) rfl PySem.F.plainAttrs_str PySem.F.slot_str_split PySem.F.type_str_split eZ (pv 0) (aa ao ac))))),?_⟩;refine⟨_,rfl,rfl,_,rfl,?_⟩;rw[cp];by_cases h0:evs=[]
 ·subst h0;rw[Qo (show aM []="" by rw[e_];rfl)];refine aQ ?_;exact⟨(by decide),λp hp=>k p hp⟩
 rw[Qd (show ¬aM evs="" from λz=>yO hn g h0 (by rw[z,e_]))];refine aw ?_;have CN:=f9 hn g;refine⟨_,rfl,rfl,_,_,rfl,rfl,(by rw[cO];rfl),QG (Qe (QD (Nat.add_le_add_right CN 2) (show evs.length*11+2<16777216 by lia)) (by decide)),λp hp=>?_⟩;rw[cO,yP hn g h0];exact k p hp
noncomputable abbrev Ar:List Str:=Yx
theorem As:aK Ar Yx (aA mL):=⟨rfl,rfl,rfl,by decide +kernel,rfl,by decide +kernel,by decide +kernel⟩
theorem qR(T:All P w K mg AA DD):aF P w K mg base aJ 5 AA.Zt DD.Zt Yx qN:=by
 have GR:=iZ (base:=base) T;refine T.z_Zt.F.ok As (λvs H Q E h=>?_) (λCJ A outer s H vs Q E hr h=>?_)
 ·obtain⟨v,n,x,rfl,_⟩:=h;rfl
 obtain⟨v,n,x,rfl,hn,hv,hl,k⟩:=h;have Dv:au 4 _:=hr.mono (by decide);refine⟨_,(ak (yF (ak (ay (aE GR Dv rfl T.z_ZB (aa (gC lN (pv 0) (fV ag) io) (aa (pv 1) ac))))))),?_⟩;have DR:(wd (.op v)).length<=sizeLine:=QG (a8 (by simp[wd,Str.length];lia));have ec:eE (wd (.op v)) (some 1) none=aU v:=cV (by rw[show(1:Int)=((1:Nat):Int) from rfl,pq];rfl);refine⟨_,rfl,_,rfl,_,rfl,DR,?_⟩;rw[ec];refine⟨_,rfl,aU v,n,v.val (bB n) (aS n),rfl,hn,gm hn v hv,(by show v.signs.toArray.size<=4000;simp;lia),iE (by rw[iW];exact Qk _) hn hv,λH' hs=>k H' hs⟩
noncomputable abbrev At:List Str:=["row","n","at","plain","masks","word"]
theorem kt:aK At YC (aA mJ):=⟨rfl,rfl,rfl,by decide +kernel,rfl,by decide +kernel,by decide +kernel⟩
theorem Au(T:All P w K mg AA DD):aF P w K mg base aJ 6 AA.Zs DD.Zs YC nr:=by
 have GE:=d7 (base:=base) T;have GO:=Aq (base:=base) T;have GG:=qR (base:=base) T;refine T.z_Zs.F.ok kt (λvs H Q E h=>?_) (λCJ A outer s H vs Q E hr h=>?_)
 ·obtain⟨evs,n,x,rfl,_⟩:=h;rfl
 obtain⟨evs,n,x,rfl,hn,g,D0,hle,k⟩:=h;have nd:=kt.nd;have CO:au 1 _:=hr.mono (by decide);have hr5:au 5 _:=hr.mono (by decide);obtain⟨tD,CV⟩:=T.v_DEEPEST_GROUP;refine⟨_,(ah (aD (i:=3) nd rfl (Or.inl rfl) (aO ac)) (ah (aD (i:=4) nd rfl (Or.inl rfl) (aO (aa (aE GE CO rfl T.z_Z6 (aa (pv 1) ac)) ac))) (ah (eB PassesOwn.never rfl (cZ (aE GO CO rfl T.z_ZN (aa (pv 0) ac))) (bq (i:=5) nd rfl (Or.inl rfl)) (ah (aB (ax aN (pv 5) ao (aq _)) bF aI) (ak (aB (ax aN (pv 5) ao (aq _)) (ah (bE (qh (pv 4)) (by rfl)) (ak (aB (ax aN (bc cY rfl T.n_len bw (aa (pv 4) ac)) ag (aq _)) bF aI))) (ak (aB (cQ (b5 (K:=K) rfl PySem.F.plainAttrs_str PySem.F.slot_str_startswith PySem.F.type_str_startswith lS (pv 5) (aa ao ac))) (ah (aB (ax cF (bc cY rfl T.n_len bw (aa (pv 4) ac)) (dL (v:=.int 5) rfl CV ⟨_,rfl⟩) (aq _)) bF aI) (ak (bE (dA (pv 4) (aa (aj cR (aY fk (pv 4) (fP fQ ag) (λ_ _=>rfl)) (aE GG hr5 rfl T.z_Zt (aa (pv 5) (aa (pv 1) (aa (pv 2) ac))))) ac)) (by rfl)))) (ak (bE (dA (pv 3) (aa (cH (aa (pv 5) (aa (aY fk (pv 4) (fP fQ ag) (λ_ _=>rfl)) ac))) ac)) (by rfl)))))))) (by intro _;rfl)) (ah (aB (ax cF (bc cY rfl T.n_len bw (aa (pv 4) ac)) ag (aq _)) bF aI) (ak (ay (pv 3))))))),?_⟩;refine⟨Ql _,λpp hpp=>?_⟩;refine⟨_,rfl,n,rfl,hn,bZ,λpm hpm=>?_⟩;have Eu:pp≠pm:=aH af hpm;dsimp only[a7];refine gL (λσ' H'=>av H H'/\∃s5:Option V,cN H' pp (bJ n (rn evs).1)/\H' pm=some (.lst (iv (stk n (rn evs).2)))/\σ'=[some (.str (aM evs)),some (.int (n:Nat)),some x,some (.ref pp),some (.ref pm),s5]) (λR hR=>?_) ?_
 ·refine⟨_,rfl,evs,n,rfl,hn,g,hle,λpw C1=>?_⟩;have s0:av H (ai (ai (ai H pp (.lst [])) pm (.lst [.int ((aS n:Nat):Int)])) pw (.lst ((evs.map wd).map V.str))):=((ap hpp).trans (ap hpm)).trans (ap C1);have npw:pp≠pw:=aH (show ai (ai H pp _) pm _ pp=some _ by rw[am Eu,af]) C1;have nmw:pm≠pw:=aH af C1;have hpp0:H pp=none:=hpp;have Ez:H pm=none:=by rw[am (Ne.symm Eu)] at hpm;exact hpm
  refine⟨pw,rfl,⟨_,ae.of af⟩,?_⟩
  refine ie (K:=K0) (a:=pw) (xs:=(evs.map wd).map V.str) (fun i σ' H'=>av H H'/\H' pw=some (.lst ((evs.map wd).map V.str))/\∃ s5:Option V,cN H' pp (bJ n (rn (evs.take i)).1)/\H' pm=some (.lst (iv (stk n (rn (evs.take i)).2))) /\
    σ'=[some (.str (aM evs)),some (.int (n:Nat)),some x,some (.ref pp),some (.ref pm),s5])
   ⟨s0,af,none,⟨[],by rw[am npw,am Eu,af];rfl,cv.nil _⟩,by rw[am nmw,af];rfl,rfl⟩ (λi σ' H' _ hsl80=>by obtain⟨_,e,_⟩:=hsl80;exact ae.of e) ?_ ?_
  ·rintro i y σ' H1 hy ⟨sm,DZ,s5,⟨ts,Dt,Du⟩,CL,rfl⟩;have DI:i<evs.length:=by have:=(Qj hy).1;simpa using this
   obtain⟨e,he⟩:∃e,evs[i]?=some e:=⟨_,Qc DI⟩
   have ey:y=V.str (wd e):=by rw[Qi,Qi,he] at hy;exact(Qw hy).symm
   subst ey;have hok:=g i e he;have Do:=jT he;obtain⟨hsg,EK,hl10⟩:=lY hn hok;generalize hgo:rn (evs.take i)=st at hok Do Du CL;obtain⟨fs,ar⟩:=st
   have hfl:fs.length<=1000/\ts.length=fs.length:=by
    refine⟨?_,by rw[Du.1];simp[bJ]⟩
    have:∀l:List Mm.Ev,(rn l).1.length<=l.length:=by
     intro l
     have:∀(l:List Mm.Ev) (st:gN),(l.foldl bX st).1.length<=st.1.length+l.length:=by
      intro l
      induction l with
      |nil=>intro st;exact Qk _
      |cons e r ih =>
       intro st;have h1:=ih (bX st e);have h2:(bX st e).1.length<=st.1.length+1:=by cases e<;>simp[bX]
       simp only[List.foldl_cons,QC];lia
     simpa [rn] using this l ([],[])
    have h3:=this (evs.take i);rw[hgo] at h3;rw[QL] at h3;show fs.length<=1000;have:fs.length<=min i evs.length:=h3;lia
   refine⟨_,rfl,rfl,_,rfl,?_⟩;rw[cp,Qd (show ¬wd e="" from λz=>EK (by rw[z,e_]))];refine aw ?_;refine⟨_,rfl,rfl,_,rfl,?_⟩;rw[cp,i0];have nwm:pw≠pm:=Ne.symm nmw
   cases e with
   |cl =>
    rw[Qo (show wd .cl=⟨#[62]⟩ from rfl)];refine aQ ?_;have har:ar≠[]:=hok;have hal:0<ar.length:=List.length_pos_iff.mpr har;refine⟨_,rfl,.inl ⟨rfl,_,ae.of CL⟩,pm,_,_,rfl,rfl,CL,(by rw[b7,dS,Nat.add_sub_cancel];rw[iv,Qi,nn];rfl),?_⟩;have h2:(iv (stk n ar)).dropLast=iv (stk n ar.dropLast):=by rw[<-qM n har];simp[iv,List.map_dropLast]
    rw[h2];refine⟨_,rfl,pm,_,rfl,.inl (ae.of af),rfl,_,rfl,?_⟩;rw[b7,dS,fR,beq_eq_false_iff_ne.mpr (show ¬((ar.dropLast.length+1:Nat):Int)=0 by lia)];refine aw ?_;refine⟨λb u e=>?_,?_,_,⟨ts,?_,?_⟩,?_,rfl⟩
    ·rw[am (aH e Ez)];exact sm b u e
    ·rw[am nwm];exact DZ
    ·rw[am Eu];exact Dt
    ·rw[Do];exact Du.lst CL
    rw[af,Do];rfl
   |op v =>
    obtain⟨hv,hl9,h5⟩:=hok;have h5:ar.length<5:=h5
    rw[Qd (show ¬wd (.op v)=⟨#[62]⟩ from λz=>by
     have:=congrArg (λz:Str=>z.cps.toList) z
     simp[wd] at this)]
    refine aw ?_;refine⟨_,rfl,rfl,_,_,rfl,rfl,_,rfl,?_⟩;rw[qP];refine aQ ?_;refine⟨_,rfl,pm,_,rfl,.inl (ae.of CL),_,_,rfl,rfl,_,rfl,?_⟩;rw[b7,dS,Qd (show ¬(5:Int)<((ar.length+1:Nat):Int) by lia)];refine aw ?_;refine⟨_,rfl,.inl ⟨rfl,_,ae.of CL⟩,_,rfl,_,rfl,pm,_,_,.int (b9 n ar:Nat),rfl,rfl,ae.of CL,?_,?_⟩
    ·exact ks n ar
    refine⟨_,rfl,_,rfl,_,rfl,v,n,x,rfl,hn,hv,hl9,λH2 Da=>⟨_,_,rfl,rfl,?_⟩⟩;have EO:=Da _ _ CL;refine⟨pm,_,_,rfl,rfl,EO,(by rw[b7,dS];exact a8 (by lia)),?_⟩;refine⟨λb u e=>?_,?_,_,⟨ts,?_,?_⟩,?_,rfl⟩
    ·rw[am (aH e Ez)];exact Da _ _ (sm b u e)
    ·rw[am nwm];exact Da _ _ DZ
    ·rw[am Eu];exact Da _ _ Dt
    ·rw[Do];exact(Du.same Da).lst EO
    rw[af,Do];dsimp only;rw[cT,<-qL];show some (HO.lst (iv (stk n ar)++[V.int ((b9 n (ar++[v]):Nat):Int)]))=some (HO.lst (iv (stk n (ar++[v]))));rw[kr,kl]
   |pl z =>
    obtain⟨hP,hz5⟩:=hok;rw[Qd (show ¬wd (.pl z)=⟨#[62]⟩ from hP.gt)];refine aw ?_;refine⟨_,rfl,rfl,_,_,rfl,rfl,_,rfl,?_⟩
    have hns:(0+("<":Str).length<=(wd (.pl z)).length&&Builtin.Str.subAt (wd (.pl z)) "<" 0)=false:=by
     obtain⟨c,r,hzc,D1⟩:=hP.hd;rw[i3];show(0+1<=z.length&&Builtin.Str.subAt z ⟨#[60]⟩ 0)=false;have hx:(z.cps.extract 0 (⟨#[60]⟩:Str).length).toList=[c]:=by rw[Array.toList_extract,hzc];rfl
     simp[Builtin.Str.subAt];intro _ h2;have h3:=congrArg Array.toList h2;rw[hx] at h3;simp at h3;exact D1 h3
    rw[hns];refine aw ?_;refine⟨_,rfl,.inl ⟨rfl,_,ae.of Dt⟩,_,rfl,_,rfl,_,rfl,pm,_,_,.int (b9 n ar:Nat),rfl,rfl,ae.of CL,?_,dH,λt ht=>?_⟩
    ·exact ks n ar
    have s2:=ap (o:=.tup [.str z,.int ((b9 n ar:Nat):Int)]) ht;refine⟨pp,_,_,rfl,rfl,s2 _ _ Dt,(by rw[Qb];exact a8 (by lia)),?_⟩;refine⟨λb u e=>?_,?_,_,⟨ts++[t],?_,?_⟩,?_,rfl⟩
    ·rw[am (aH e hpp0)];exact s2 _ _ (sm b u e)
    ·rw[am (Ne.symm npw)];exact s2 _ _ DZ
    ·rw[af,QH];rfl
    ·rw[Do];show cv _ (ts++[t]) (bJ n (fs++[(z,ar)]));rw[show bJ n (fs++[(z,ar)])=bJ n fs++[(z,b9 n ar)] by simp[bJ]];exact((Du.same s2).snoc af).lst (s2 _ _ Dt)
    rw[am (Ne.symm Eu),Do];exact s2 _ _ CL
  rintro σ' H1 ⟨sm,_,s5,De,CL,rfl⟩;have e:((evs.map wd).map V.str).length=evs.length:=by simp
  rw[e,QI] at De CL;exact hR _ _ ⟨sm,s5,De,CL,rfl⟩
 rintro σ' H1 ⟨sm,s5,De,CL,rfl⟩;refine⟨_,rfl,pm,_,rfl,.inl (ae.of CL),_,_,rfl,rfl,_,rfl,?_⟩;rw[b7,dS,D0,Qd (show ¬(1:Int)<((([]:List W).length+1:Nat):Int) by decide)];refine aw ?_;exact⟨_,rfl,k pp H1 hpp sm De⟩
end
section
variable {P:Program}{w:World}{K:W.Frag}{mg:Str->Option Value}{base:Heap}{AA:fm}{DD:fq}
noncomputable def cz(rws:List (List Mm.Ev)):Str:=Str.join ⟨#[10]⟩ (rws.map aM)
def i4(H:Hp)(p:Addr)(ls:List Addr)(CF:List (List (Str×Nat))):Prop:=H p=some (.lst (ls.map V.ref))/\ls.length=CF.length/\∀(i:Nat) (l:Addr) (r:List (Str×Nat)),ls[i]?=some l->CF[i]?=some r->cN H l r
theorem i4.same{H H':Hp}{p:Addr}{ls:List Addr}{CF:List (List (Str×Nat))}(h:i4 H p ls CF)(s:av H H'):i4 H' p ls CF:=⟨s _ _ h.1,h.2.1,λi l r a b=>(h.2.2 i l r a b).same s⟩
def dU(n:Nat)(rws:List (List Mm.Ev)):Prop:=rws≠[]/\rws.length<=60/\∀evs∈rws,aP n evs/\(rn evs).2=[]/\evs.length<=100
noncomputable def aZ(n:Nat)(rws:List (List Mm.Ev)):List (List (Str×Nat)):=rws.map λevs=>bJ n (rn evs).1
inductive qS (vs:List V) (H:Hp) (Q:VK) (E:XK):Prop
 |mk:∀(rws:List (List Mm.Ev)) (n:Nat),vs=[.str (cz rws),.int n]->n<=10->dU n rws->(∀p ls H',H p=none->av H H'->i4 H' p ls (aZ n rws)->Q (.ref p) H')->qS vs H Q E
theorem cA:("\n":Str)=⟨#[10]⟩:=by decide +kernel
theorem Av{n:Nat}(hn:n<=10){rws:List (List Mm.Ev)}(g:dU n rws):Txt.split (cz rws) ⟨#[10]⟩=rws.map aM:=
 gM (by simpa using g.1) λz hz hc=>by obtain⟨evs,he,rfl⟩:=Qn hz;have:=lZ hn (g.2.2 evs he).1 10 hc;lia
theorem Aw{n:Nat}(hn:n<=10){rws:List (List Mm.Ev)}(g:dU n rws):(cz rws).length<=70000:=by
 rw[str_len,cz,join_list];refine Qg (jS _) ?_
 have:=gO (l:=((rws.map aM).map λz=>z.cps.toList).map List.length) (b:=1100) (λx hx=>by
  obtain⟨l,hl,rfl⟩:=Qn hx;obtain⟨z,hz,rfl⟩:=Qn hl;obtain⟨evs,he,rfl⟩:=Qn hz;have h1:=f9 hn (g.2.2 evs he).1;have h2:=(g.2.2 evs he).2.2;rw[str_len] at h1
  lia)
 have h60:=g.2.1;simp only[Qb] at this ⊢;lia
noncomputable abbrev qT:List Str:=["text","n"]
theorem Ax:aK qT ["text","n"] (aA j6):=⟨rfl,rfl,rfl,by decide +kernel,rfl,by decide +kernel,by decide +kernel⟩
theorem ku(T:All P w K mg AA DD):aF P w K mg base aJ 7 AA.ZC DD.ZC ["text","n"] qS:=by
 have GX:=Au (base:=base) T;refine T.z_ZC.F.ok Ax (λvs H Q E h=>?_) (λCJ A outer s H vs Q E hr h=>?_)
 ·obtain⟨rws,n,rfl,_⟩:=h;rfl
 obtain⟨rws,n,rfl,hn,g,k⟩:=h;have hr6:au 6 _:=hr.mono (by decide);refine⟨_,(ak (ay (gK (xs:=["at","row"]) (aA j6) qT ["n"] [1] rfl (by exact⟨rfl,rfl,by decide +kernel,by decide +kernel,by decide +kernel,by decide +kernel,by decide +kernel,rfl,by decide +kernel⟩) rfl rfl (lU rfl T.n_enumerate (aa (b5 (K:=K) rfl PySem.F.plainAttrs_str PySem.F.slot_str_split PySem.F.type_str_split eZ (pv 0) (aa ao ac)) ac)) (λ_ _ _ _=>(gf (n:=2) rfl (bU (bq (i:=0) (show(["at","row","n"]:List Str).Nodup by decide +kernel) rfl (Or.inl rfl)) (bU (bq (i:=1) (show(["at","row","n"]:List Str).Nodup by decide +kernel) rfl (Or.inl rfl)) eh)))) (λ_ _ _ _=>cy) (λ_ _ _ _=>(aE GX hr6 rfl T.z_Zs (aa (pv 1) (aa (pv 2) (aa (pv 0) ac)))))))),?_⟩;have CN:=Aw hn g;refine⟨_,rfl,rfl,_,_,rfl,rfl,(by rw[cA];rfl),QG (QD (Nat.add_le_add_right CN 2) (by decide)),λpl C5=>?_⟩;rw[cA,Av hn g];have h60:=g.2.1;refine⟨pl,_,rfl,ae.of af,?_⟩;have s0:=ap (o:=.lst ((rws.map aM).map V.str)) C5
 refine lV (K:=K) (a:=pl) (xs:=(rws.map aM).map V.str) (fun i ys H'=>i<=60/\av H H'/\H' pl=some (.lst ((rws.map aM).map V.str))/\∃ ls:List Addr,ys=ls.map V.ref/\ls.length=i /\
   ∀(j:Nat) (l:Addr) (r:List (Str×Nat)),ls[j]?=some l->(aZ n rws)[j]?=some r->cN H' l r) ⟨Ql _,s0,af,[],rfl,rfl,λj l r h=>by simp at h⟩ (λi ys H' _ hsl81=>by obtain⟨_,_,e,_⟩:=hsl81;exact ae.of e) ?_ ?_
 ·rintro i x ys H1 t hx ⟨_,sm,hpl1,ls,rfl,DI,De⟩ ht;have hi:i<rws.length:=by have:=(Qj hx).1;simpa using this
  have ex:x=V.str (aM rws[i]):=by rw[Qi,Qi,Qc hi] at hx;exact(Qw hx).symm
  subst ex;intro os DV
  obtain⟨a,b,rfl⟩:∃a b,os=[a,b]:=by
   match os,DV with
   | [a,b],_=>exact⟨a,b,rfl⟩
  refine⟨t,_,rfl,aW.of af,rfl,_,_,rfl,_,_,rfl,rfl,⟨[_,_],rfl,rfl⟩,dt ?_⟩;rw[if_pos rfl];obtain⟨g1,g2,g3⟩:=g.2.2 rws[i] (QP hi);have st:=ap (o:=.tup [.int ((i:Nat):Int),.str (aM rws[i])]) ht;refine⟨_,rfl,_,rfl,_,rfl,rws[i],n,_,rfl,hn,g1,g2,by lia,λp H2 hp s2 Dd=>?_⟩;have Dn:=st.trans s2;refine⟨by rw[Qb];exact a8 (by lia),by lia,sm.trans Dn,Dn _ _ hpl1,ls++[p],by simp,by simp[DI],λj l r h1 h2=>?_⟩;by_cases hj:j<ls.length
  ·rw[QE hj] at h1;exact(De j l r h1 h2).same Dn
  rw[QB (by lia)] at h1
  have h0:j-ls.length=0:=by
   cases hh:j-ls.length with
   |zero=>rfl
   |succ m=>rw[hh] at h1;simp at h1
  rw[h0] at h1;have e1:p=l:=by simpa using h1
  have ej:j=i:=by lia
  subst e1 ej;have e2:bJ n (rn rws[j]).1=r:=by rw[aZ,Qi,Qc hi] at h2;exact Qw h2
  rw[<-e2];exact Dd
 rintro ys H1 ⟨_,sm,hpl1,ls,rfl,DI,De⟩ p hp
 refine k p ls _ (by
  cases e:H p with
  |none=>rfl
  |some o=>rw[sm _ _ e] at hp;cases hp) (sm.trans (ap hp)) ⟨af,?_,λj l r h1 h2=>(De j l r h1 h2).same (ap hp)⟩
 rw[DI];simp[aZ]
inductive qU (vs:List V) (H:Hp) (Q:VK) (E:XK):Prop
 |mk:∀(x:Int) (k:Nat),vs=[.int x,.int k]->k<=1000->(∀p (zs:List Int),H p=none->zs.length=k->(∀z∈zs,0<=z/\z<2^30)->Q (.ref p) (ai H p (.lst (zs.map V.int))))->qU vs H Q E
theorem i5:aK Yq Yt (aA mR):=⟨rfl,rfl,rfl,by decide +kernel,rfl,by decide +kernel,by decide +kernel⟩
theorem Ay(T:All P w K mg AA DD):aF P w K mg base aJ 1 AA.ZG DD.ZG Yt qU:=by
 refine T.z_ZG.F.ok i5 (λvs H Q E h=>?_) (λCJ A outer s H vs Q E hr h=>?_)
 ·obtain⟨x,k,rfl,_⟩:=h;rfl
 obtain⟨x0,n,rfl,hn,k⟩:=h
 refine⟨_,ah (aD (i:=2) i5.nd rfl (Or.inl rfl) (aO ac))
  (ah (aD (i:=3) i5.nd rfl (Or.inl rfl) (aj bn (pv 0) ag))
  (ah (eB PassesOwn.never rfl (fM rfl T.n_range (aa (pv 1) ac)) (bq (i:=4) i5.nd rfl (Or.inl rfl))
   (ah (aD (i:=3) i5.nd rfl (Or.inl rfl) (aj bn (aj bL (aj bL (aj bL (aj dY (pv 3) (pv 3)) (aj dY ag (pv 3))) (aj dY ag (pv 4))) ag) ag))
   (ak (bE (dA (pv 2) (aa (aj bV (pv 3) ag) ac))))))
  (ak (ay (pv 2))))),?_⟩
 refine⟨Ql _,λp hp=>?_⟩;refine⟨_,rfl,_,_,rfl,rfl,(by show(0:Int)<2147483629;decide),?_⟩;have b0:=Int.emod_nonneg x0 (show(2147483629:Int)≠0 by decide);have b1:=Int.emod_lt_of_pos x0 (show(0:Int)<2147483629 by decide);refine⟨_,rfl,_,rfl,by lia,by lia,?_⟩;rw[Qu]
 refine kU (λi σ H'=>∃(x:Int) (zs:List Int) (s4:Option V),0<=x/\x<2147483629/\zs.length=i/\(∀z∈zs,0<=z/\z<2^30)/\H'=ai H p (.lst (zs.map V.int))/\σ=[some (.int x0),some (.int (n:Nat)),some (.ref p),some (.int x),s4])
  ⟨_,[],none,b0,b1,rfl,by simp,rfl,rfl⟩ ?_ ?_
 ·rintro i σ H' hi ⟨x,zs,s4,h0,h1,hl,hz,rfl,rfl⟩;refine⟨_,rfl,_,rfl,_,_,rfl,rfl,.inl ⟨by lia,by lia⟩,_,rfl,_,_,rfl,rfl,.inl ⟨by decide,by decide⟩,_,_,rfl,rfl,_,rfl,_,_,rfl,rfl,.inl ⟨by decide,by decide⟩,_,_,rfl,rfl,_,_,rfl,rfl,_,_,rfl,rfl,(by show(0:Int)<2147483629;decide),?_⟩;dsimp only;generalize hy:(x*x+40692*x+2*(0+(i:Int))+1)%2147483629=y;have y0:0<=y:=by rw[<-hy];exact Int.emod_nonneg _ (by decide)
  have y1:y<2147483629:=by rw[<-hy];exact Int.emod_lt_of_pos _ (by decide)
  refine⟨_,rfl,.inl ⟨rfl,_,ae.of af⟩,_,rfl,_,_,rfl,rfl,⟨by decide,by decide⟩,p,_,_,rfl,rfl,af,?_,?_⟩
  ·rw[Qb];exact a8 (by lia)
  refine⟨y,zs++[y/3],_,y0,y1,by simp[hl],λz hz'=>?_,?_,rfl⟩
  ·rcases Qx hz' with q|q
   ·exact hz z q
   have:z=y/3:=by simpa using q
   subst this;lia
  rw[gw,QH];rfl
 rintro σ H' ⟨x,zs,s4,h0,h1,hl,hz,rfl,rfl⟩;exact⟨_,rfl,k p zs hp hl hz⟩
inductive qV (vs:List V) (H:Hp) (Q:VK) (E:XK):Prop
 |mk:∀(x:Int) (n m:Nat),vs=[.int x,.int n,.int m]->n<=10->1<=m->m<=100->(∀(z:Str) (v:W),v.ok n->z.cps.toList=v.signs->z.length<=m->Q (.str z) H)->qV vs H Q E
noncomputable abbrev NW:List Str:=Yg
theorem qW:aK NW Yb (aA mS):=⟨rfl,rfl,rfl,by decide +kernel,rfl,by decide +kernel,by decide +kernel⟩
theorem qX(T:All P w K mg AA DD):aF P w K mg base aJ 1 AA.ZS DD.ZS Yb qV:=by
 refine T.z_ZS.F.ok qW (λvs H Q E h=>?_) (λCJ A outer s H vs Q E hr h=>?_)
 ·obtain⟨x,n,m,rfl,_⟩:=h;rfl
 obtain⟨x0,n,m,rfl,hn,hm1,hm2,k⟩:=h;have nd:=qW.nd
 refine⟨_,ah (aD (i:=3) nd rfl (Or.inl rfl) (gC lN ao io (fV (aj bL ag (bc (wR rfl) rfl T.n_min xK (aa (pv 1) (aa ag ac)))))))
  (ah (aD (i:=4) nd rfl (Or.inl rfl) ao)
  (ah (aD (i:=5) nd rfl (Or.inl rfl) ag)
  (ah (aD (i:=6) nd rfl (Or.inl rfl) (aj bn (pv 0) ag))
  (ah (nT PassesOwn.never (ax cF (pv 5) ag (aq _))
   (ah (aD (i:=6) nd rfl (Or.inl rfl) (aj bn (aj bL (aj bL (aj bL (aj dY (pv 6) (pv 6)) (aj dY ag (pv 6))) (bc gD rfl T.n_len bw (aa (pv 4) ac))) ag) ag))
   (ah (aD (i:=7) nd rfl (Or.inl rfl) (aj bV (pv 6) ag))
   (ak (aB (PW.pt (fJ (ax aN (aj bn (pv 7) ag) ag (aq _)) (fH (ax lc (aj bL (aj bL (bc gD rfl T.n_len bw (aa (pv 4) ac)) (pv 5)) ag) (pv 2) (aq _)))))
    (ah (aD (i:=8) nd rfl (Or.inl rfl) (aY eT (pv 3) (aj bn (aj bV (pv 7) ag) (bc gD rfl T.n_len bw (aa (pv 3) ac))) (λ_ _=>rfl)))
    (ah (aD (i:=4) nd rfl (Or.inl rfl) (aj bP (pv 4) (pv 8)))
    (ah (aB (ax aN (pv 8) ao (aq _)) (ak (aD (i:=4) nd rfl (Or.inl rfl) (aj bP (pv 4) (aY eT ao (aj bn (aj bV (pv 7) ag) (pv 1)) (λ_ _=>rfl))))) aI)
    (ak (aD (i:=5) nd rfl (Or.inl rfl) (aj bL (pv 5) (cI wS rfl T.n_int jL (aa (bM il (pv 8) ao (aq _)) ac))))))))
    (ak (aB (PW.pt (fJ (ax cF (pv 1) ag (aq _)) (fH (ax cF (aj bn (aj bV (pv 7) ag) ag) ag (aq _)))))
     (ah (aD (i:=4) nd rfl (Or.inl rfl) (aj bP (pv 4) (aY eT ao (aj bn (aj bV (pv 7) ag) (pv 1)) (λ_ _=>rfl))))
     (ak (aD (i:=5) nd rfl (Or.inl rfl) (aj eQ (pv 5) ag))))
     (ah (aD (i:=4) nd rfl (Or.inl rfl) (aj bP (pv 4) (aY eT ao (aj bn (aj bV (pv 7) ag) ag) (λ_ _=>rfl))))
     (ak (aD (i:=5) nd rfl (Or.inl rfl) (aj eQ (pv 5) ag)))))))))))
  (ak (ay (pv 4))))))),?_⟩
 refine⟨_,rfl,_,_,rfl,_,_,rfl,rfl,_,rfl,_,rfl,by decide +kernel,?_⟩
 obtain⟨S,hS,hSl,hS5⟩:∃S:Str,eE "!&|^?" none (some (4+(if(1:Int)<(n:Int) then 1 else(n:Int))))=S/\S.cps.toList=(if n=0 then [33,38,124,94] else [33,38,124,94,63])/\(S.length=if n=0 then 4 else 5):=by
  refine⟨_,rfl,?_,?_⟩
  ·rcases Nat.eq_zero_or_pos n with h|h
   ·subst h;decide +kernel
   rw[if_neg (show ¬n=0 by lia),show(4:Int)+(if(1:Int)<(n:Int) then 1 else(n:Int))=((5:Nat):Int) by split<;>lia,xU];decide +kernel
  rcases Nat.eq_zero_or_pos n with h|h
  ·subst h;decide +kernel
  rw[if_neg (show ¬n=0 by lia),show(4:Int)+(if(1:Int)<(n:Int) then 1 else(n:Int))=((5:Nat):Int) by split<;>lia];decide +kernel
 rw[hS];clear hS;refine⟨_,rfl,_,_,rfl,rfl,(by show(0:Int)<2147483629;decide),?_⟩;have b0:=Int.emod_nonneg x0 (show(2147483629:Int)≠0 by decide);have b1:=Int.emod_lt_of_pos x0 (show(0:Int)<2147483629 by decide);have e0l:(Str.ofString "").length=0:=by decide +kernel
 have e0c:(Str.ofString "").cps.toList=[]:=by decide +kernel
 refine nZ (fun σ H'=>H'=H/\∃ (z:Str) (nk:Nat) (x:Int) (s7 s8:Option V),0<=x/\x<2147483629/\z.length+nk<=m/\Op n z.cps.toList nk /\
   σ=[some (.int x0),some (.int (n:Nat)),some (.int (m:Nat)),some (.str S),some (.str z),some (.int (nk:Nat)),some (.int x),s7,s8])
  (λ(σ:St) (_:Hp)=>match σ[4]? with|some (some (V.str z))=>m-z.length|_=>0) ⟨rfl,Str.ofString "",1,_,none,none,b0,b1,(by rw[e0l];lia),(by rw[e0c];exact Op.start),rfl⟩ ?_ ?_
 ·rintro σ H' ⟨rfl,z,nk,x,s7,s8,h0,h1,hl,hop,rfl⟩;refine⟨_,rfl,_,_,rfl,rfl,_,rfl,?_⟩;refine b4 (λhpos=>?_) (λEE=>?_)
  ·have hpos:(0:Int)<(nk:Int):=QO hpos
   obtain⟨j,rfl⟩:∃j,nk=j+1:=⟨nk-1,by lia⟩
   have hz2:z.length<=sizeLine:=QG (a8 (by lia));refine⟨_,rfl,_,rfl,_,_,rfl,rfl,.inl ⟨by lia,by lia⟩,_,rfl,_,_,rfl,rfl,.inl ⟨by decide,by decide⟩,_,_,rfl,rfl,_,rfl,z,rfl,hz2,_,_,rfl,rfl,_,_,rfl,rfl,_,_,rfl,rfl,(by show(0:Int)<2147483629;decide),?_⟩;dsimp only;generalize hy:(x*x+40692*x+(z.length:Int)+1)%2147483629=y;have y0:0<=y:=by rw[<-hy];exact Int.emod_nonneg _ (by decide)
   have y1:y<2147483629:=by rw[<-hy];exact Int.emod_lt_of_pos _ (by decide)
   refine⟨_,rfl,_,_,rfl,rfl,⟨by decide,by decide⟩,?_⟩;dsimp only;generalize hpk:y/7=pk;have pk0:0<=pk:=by lia
   have leaf:∀ (c:Nat) (s8':Option V),Op n (z.cps.toList++[c]) j->(H'=H'/\∃ (z':Str) (nk':Nat) (x':Int) (s7' s8'':Option V),0<=x'/\x'<2147483629/\z'.length+nk'<=m/\Op n z'.cps.toList nk' /\
     ([some (.int x0),some (.int (n:Nat)),some (.int (m:Nat)),some (.str S),some (.str (z++⟨#[c]⟩)),some (.int (((j+1:Nat):Int)-1)),some (.int y),some (.int pk),s8']:St)=[some (.int x0),some (.int (n:Nat)),some (.int (m:Nat)),some (.str S),some (.str z'),some (.int (nk':Nat)),some (.int x'),s7',s8'']):=λc s8' ho =>
    ⟨rfl,z++⟨#[c]⟩,j,y,_,_,y0,y1,by rw[bC,bY];lia,by rw[b8,gl];exact ho,by rw[show(((j+1:Nat):Int)-1)=((j:Nat):Int) by lia]⟩
   have EN:∀c:Nat,m-(z++(⟨#[c]⟩:Str)).length<m-z.length:=λc=>by rw[bC,bY];lia
   have sz1:∀c:Nat,z.length+(⟨#[c]⟩:Str).length<=sizeLine:=λc=>by rw[bY];exact QG (a8 (by lia))
   have L10:("abcdefghij":Str).length<=sizeLine:=by decide +kernel
   have hSz:S.length<=sizeLine:=by rw[hS5];split<;>decide
   refine⟨_,rfl,_,_,rfl,rfl,(by show(0:Int)<2;decide),rfl,_,rfl,?_⟩;refine b4 (λhA=>⟨_,rfl,z,rfl,hz2,_,rfl,_,_,rfl,rfl,_,_,rfl,rfl,_,rfl,_,_,rfl,rfl,_,rfl,b4 (λhB=>?C) (λhB=>?D)⟩) (λhA=>aw ?B)
   case C =>
    have hB:(z.length:Int)+((j+1:Nat):Int)+3<=(m:Int):=QO hB;have hSp:0<S.length:=by rw[hS5];split<;>decide
    obtain⟨i,hi,DI⟩:=dC (a:=pk/2) hSp
    obtain⟨c,hc⟩:∃c,S.cps.toList[i]?=some c:=⟨_,Qc (by rw[ni];exact DI)⟩
    have hcm:=QM hc;rw[hSl] at hcm
    have EG:c=33∨(c=38∨c=124∨c=94)∨(c=63/\0<n):=by
     by_cases h0n:n=0
     ·rw[if_pos h0n] at hcm;simp at hcm;lia
     rw[if_neg h0n] at hcm;simp at hcm;lia
    refine⟨_,rfl,_,rfl,_,_,rfl,rfl,⟨by decide,by decide⟩,_,rfl,S,rfl,hSz,_,_,rfl,rfl,(by show(0:Int)<(S.length:Int);lia),S,_,c,rfl,rfl,hSz,?_,?_⟩
    ·rw[hi];exact aX hc
    refine⟨_,rfl,_,rfl,_,_,rfl,rfl,sz1 c,?_⟩;refine⟨_,rfl,rfl,_,rfl,?_⟩;rw[sg gk]
    rcases EG with rfl|EG|⟨rfl,hn0⟩
    ·refine aw ?_;refine⟨_,rfl,_,rfl,rfl,.inr ⟨_,rfl,_,_,rfl,rfl,?_⟩⟩;refine⟨⟨rfl,z++⟨#[33]⟩,j+1,y,some (.int pk),some (.str ⟨#[33]⟩),y0,y1,by rw[bC,bY];lia,by rw[b8,gl];exact hop.no,?_⟩,EN 33⟩;rw[sg gU];rfl
    ·rw[Qd (show ¬c=63 by lia)];refine aw ?_;refine⟨_,rfl,_,rfl,rfl,.inr ⟨_,rfl,_,_,rfl,rfl,?_⟩⟩;refine⟨⟨rfl,z++⟨#[c]⟩,j+2,y,some (.int pk),some (.str ⟨#[c]⟩),y0,y1,by rw[bC,bY];lia,by rw[b8,gl];exact hop.two EG,?_⟩,EN c⟩;rw[sg gU,Qd (show ¬c=33 by lia)];rfl
    refine aQ ?_;obtain⟨q,hq,hqn⟩:=dC (a:=pk/10) hn0;have sz2:(z++(⟨#[63]⟩:Str)).length+(⟨#[97+q]⟩:Str).length<=sizeLine:=by rw[bC,bY,bY];exact QG (a8 (by lia))
    refine⟨_,rfl,_,rfl,_,_,rfl,rfl,⟨by decide,by decide⟩,_,rfl,_,_,rfl,rfl,(by show(0:Int)<(n:Int);lia),_,_,97+q,rfl,rfl,L10,?_,_,_,rfl,rfl,sz2,?_⟩
    ·rw[hq];exact nh q (by lia)
    refine⟨_,rfl,_,rfl,rfl,.inr ⟨_,rfl,_,_,rfl,rfl,?_⟩⟩;refine⟨⟨rfl,z++⟨#[63]⟩++⟨#[97+q]⟩,j+2,y,some (.int pk),some (.str ⟨#[63]⟩),y0,y1,by rw[bC,bC,bY,bY];lia,by rw[b8,b8,gl,gl];exact hop.ch hqn,?_⟩,?_⟩
    ·rw[sg gU];rfl
    show m-(z++(⟨#[63]⟩:Str)++(⟨#[97+q]⟩:Str)).length<m-z.length;rw[bC,bC,bY,bY];lia
   all_goals
    refine⟨_,rfl,_,_,rfl,rfl,_,rfl,?_⟩;refine b4 (λhN=>⟨_,rfl,_,_,rfl,rfl,⟨by decide,by decide⟩,_,_,rfl,rfl,(by show(0:Int)<5;decide),_,_,rfl,rfl,_,rfl,b4 (λhM=>?_) (λhM=>?_)⟩) (λhN=>aw ?_)
    ·have hN:(0:Int)<(n:Int):=QO hN;obtain⟨q,hq,hqn⟩:=dC (a:=pk/10) (show 0<n by lia);refine⟨_,rfl,_,rfl,_,_,rfl,rfl,⟨by decide,by decide⟩,_,rfl,_,_,rfl,rfl,hN,_,_,97+q,rfl,rfl,L10,?_,_,_,rfl,rfl,sz1 _,?_⟩
     ·rw[hq];exact nh q (by lia)
     refine⟨_,rfl,_,_,rfl,rfl,leaf _ _ (hop.leafL hqn),EN _⟩
    all_goals
     have h01:pk/10%2=0∨pk/10%2=1:=by lia
     have L2':("01":Str).length<=sizeLine:=by decide +kernel
     rcases h01 with h01|h01
     ·refine⟨_,rfl,_,rfl,_,_,rfl,rfl,⟨by decide,by decide⟩,_,_,rfl,rfl,(by show(0:Int)<2;decide),_,_,48,rfl,rfl,L2',?_,_,_,rfl,rfl,sz1 _,?_⟩
      ·rw[h01];decide +kernel
      refine⟨_,rfl,_,_,rfl,rfl,leaf _ _ hop.leaf0,EN _⟩
     refine⟨_,rfl,_,rfl,_,_,rfl,rfl,⟨by decide,by decide⟩,_,_,rfl,rfl,(by show(0:Int)<2;decide),_,_,49,rfl,rfl,L2',?_,_,_,rfl,rfl,sz1 _,?_⟩
     ·rw[h01];decide +kernel
     refine⟨_,rfl,_,_,rfl,rfl,leaf _ _ hop.leaf1,EN _⟩
  have EE:¬(0:Int)<(nk:Int):=λz=>EE (Qo z);obtain rfl:nk=0:=by lia
  obtain⟨v,hv,e⟩:=hop.done;exact⟨_,rfl,k z v hv e.symm (by lia)⟩
 rintro σ H' Q1 Q2 hq ⟨v,h1,i,j,e1,e2,b,eb,qq⟩;exact⟨v,h1,i,j,e1,e2,b,eb,hq _ _ qq⟩
inductive qY (vs:List V) (H:Hp) (Q:VK) (E:XK):Prop
 |mk:∀x:Int,vs=[.int x]->0<=x->(∀(z:Str) H',Pl z->z.length<=5->av H H'->Q (.str z) H')->qY vs H Q E
noncomputable abbrev eJ:List Str:=["set","tell","if","end","x","+","12","do",".","while","y","yes"]
noncomputable abbrev gn:Str:="!\"#$&'()*+,-./0123456789:;=?@ABCDEFGHIJKLMNOPQRSTUVWXYZ[\\]^_abcdefghijklmnopqrstuvwxyz{|}~<>"
theorem Az:∀j,j<12->∃z,eJ[j]?=some z/\z.length<=5/\(∀c∈z.cps.toList,33<=c/\c<=126)/\z.cps.toList.headD 60≠60/\z≠⟨#[62]⟩:=by
 have:∀z∈eJ,z.length<=5/\(∀c∈z.cps.toList,33<=c/\c<=126)/\z.cps.toList.headD 60≠60/\z≠⟨#[62]⟩:=by decide +kernel
 intro j hj;have hl:j<eJ.length:=hj;exact⟨eJ[j],Qc hl,this _ (QP hl)⟩
theorem nt{z:Str}(h1:∀c∈z.cps.toList,33<=c/\c<=126)(h2:z.cps.toList.headD 60≠60)(h3:z≠⟨#[62]⟩):Pl z:=⟨h1,by
 cases e:z.cps.toList with
 |nil=>rw[e] at h2;exact absurd rfl h2
 |cons c r=>rw[e] at h2;exact⟨c,r,rfl,h2⟩,h3⟩
theorem AB:∀c∈gn.cps.toList,33<=c/\c<=126:=by decide +kernel
theorem kv:gn.length=92:=by decide +kernel
theorem kx:("a":Str)=⟨#[97]⟩:=by decide +kernel
theorem AC:("<":Str)=⟨#[60]⟩:=by decide +kernel
theorem AD:(">":Str)=⟨#[62]⟩:=by decide +kernel
theorem qZ:("":Str)=⟨#[]⟩:=by decide +kernel
theorem q9:∀l:List Nat,Str.join ⟨#[]⟩ (l.map λc=>(⟨#[c]⟩:Str))=⟨l.toArray⟩
 | []=>rfl
 | [a]=>rfl
 |a::b::r=>by refine cV ?_;show((⟨#[a]⟩:Str)++⟨#[]⟩++Str.join ⟨#[]⟩ ((b::r).map λc=>(⟨#[c]⟩:Str))).cps.toList=_;rw[fe,fe,q9 (b::r)];simp
theorem rc(a b:Str):decide (V.str a=V.str b)=decide (a=b):=by
 by_cases h:a=b
 ·subst h;simp
 rw[Qd h];exact Qd λz=>h (by injection z)
noncomputable abbrev rd:List Str:=["_law_x","_law_some","_law_signs","_law_word_here"]
theorem re:aK rd ["_law_x"] (aA kh):=⟨rfl,rfl,rfl,by decide +kernel,rfl,by decide +kernel,by decide +kernel⟩
theorem AE(T:All P w K mg AA DD):aF P w K mg base aJ 1 AA.ZU DD.ZU ["_law_x"] qY:=by
 refine T.z_ZU.F.ok re (λvs H Q E h=>?_) (λCJ A outer s H vs Q E hr h=>?_)
 ·obtain⟨x,rfl,_⟩:=h;rfl
 obtain⟨x,rfl,hx,k⟩:=h;have nd:=re.nd;refine⟨_,(@ah _ _ _ _ _ (@aD _ _ 1 _ _ _ _ nd rfl (Or.inl rfl) (@aO _ _ _ _ (@aa _ _ _ _ _ ao (@aa _ _ _ _ _ ao (@aa _ _ _ _ _ ao (@aa _ _ _ _ _ ao (@aa _ _ _ _ _ ao (@aa _ _ _ _ _ ao (@aa _ _ _ _ _ ao (@aa _ _ _ _ _ ao (@aa _ _ _ _ _ ao (@aa _ _ _ _ _ ao (@aa _ _ _ _ _ ao (@aa _ _ _ _ _ ao ac (by rfl)) (by rfl)) (by rfl)) (by rfl)) (by rfl)) (by rfl)) (by rfl)) (by rfl)) (by rfl)) (by rfl)) (by rfl)) (by rfl))) (by rfl) (by first|exact .inl rfl|exact .inr rfl|assumption)) (@ah _ _ _ _ _ (@aB _ _ _ _ _ _ _ _ (@ax _ _ _ _ _ _ _ _ cF (@aj _ _ _ _ _ _ _ _ bn (pv 0) ag) ag (aq _)) (@ak _ _ _ (@ay _ _ _ _ (@aY _ _ _ _ _ _ _ fk (pv 1) (@aj _ _ _ _ _ _ _ _ bn (@aj _ _ _ _ _ _ _ _ bV (pv 0) ag) ag) (λ_ _=>rfl)))) aI) (@ah _ _ _ _ _ (@aD _ _ 2 _ _ _ _ nd rfl (Or.inr rfl) ao (by rfl) (by first|exact .inl rfl|exact .inr rfl|assumption)) (@ah _ _ _ _ _ (@aD _ _ 3 _ _ _ _ nd rfl (Or.inl rfl) (b5 (K:=K) rfl PySem.F.plainAttrs_str PySem.F.slot_str_join PySem.F.type_str_join (gj (K:=K) rfl) ao (@aa _ _ _ _ _ (cU (aA kh) rd ["_law_x","_law_signs"] [0,2] rfl (by decide +kernel) rfl rfl (fM rfl T.n_range (@aa _ _ _ _ _ (@aj _ _ _ _ _ _ _ _ bL ag (@aj _ _ _ _ _ _ _ _ bn (@aj _ _ _ _ _ _ _ _ bV (pv 0) ag) ag)) ac (by rfl))) (λ_ _ _ _=>cy) (λ_ _ _ _=>(@aY _ _ _ _ _ _ _ eT (pv 2) (@aj _ _ _ _ _ _ _ _ bn (@aj _ _ _ _ _ _ _ _ bV (pv 1) (@aj _ _ _ _ _ _ _ _ bL ag (@aj _ _ _ _ _ _ _ _ dY ag (pv 0)))) (bc gD rfl T.n_len bw (@aa _ _ _ _ _ (pv 2) ac (by rfl)))) (λ_ _=>rfl)))) ac (by rfl))) (by rfl) (by first|exact .inl rfl|exact .inr rfl|assumption)) (@ah _ _ _ _ _ (@aB _ _ _ _ _ _ _ _ (PW.pt (dj (@ax _ _ _ _ _ _ _ _ aN (@aY _ _ _ _ _ _ _ eT (pv 3) ag (λ_ _=>rfl)) ao (aq _)) (eg (@ax _ _ _ _ _ _ _ _ aN (pv 3) ao (aq _))))) (@ak _ _ _ (@ay _ _ _ _ (@aj _ _ _ _ _ _ _ _ bP ao (pv 3)))) aI) (@ak _ _ _ (@ay _ _ _ _ (pv 3)))))))),?_⟩;refine⟨(by show 12<=sizeLine;decide),λp hp=>?_⟩;have hS:ai H p (.lst (eJ.map V.str)) p=some (.lst (eJ.map V.str)):=af;have s0:=ap (o:=.lst (eJ.map V.str)) hp;refine⟨_,rfl,_,_,rfl,rfl,(by show(0:Int)<3;decide),_,_,rfl,rfl,_,rfl,?_⟩;refine b4 (λ_=>?_) (λ_=>?_)
 ·obtain⟨j,ej,hj⟩:=dC (a:=x/3) (n:=12) (by decide);obtain⟨z,hz,h5,hsg,hhd,hgt⟩:=Az j hj;refine⟨_,rfl,_,rfl,_,_,rfl,rfl,⟨by decide,by decide⟩,_,_,rfl,rfl,(by show(0:Int)<12;decide),p,_,_,.str z,rfl,rfl,ae.of hS,?_,?_⟩
  ·rw[show x/3%12=(j:Int) from ej];exact aX (by rw[Qi,hz];rfl)
  exact k z _ (nt hsg hhd hgt) h5 s0
 obtain⟨m,em,hm⟩:=dC (a:=x/3) (n:=3) (by decide);have hsz:gn.length<=sizeLine:=by rw[kv];decide
 refine⟨rfl,?_⟩;refine⟨_,rfl,_,_,rfl,rfl,⟨by decide,by decide⟩,_,_,rfl,rfl,(by show(0:Int)<3;decide),_,_,rfl,rfl,_,rfl,?_,?_,?_⟩
 ·rw[show x/3%3=(m:Int) from em];lia
 ·rw[show x/3%3=(m:Int) from em];lia
 rw[show x/3%3=(m:Int) from em,show((1:Int)+(m:Int)).toNat=1+m by lia];refine jH (λi ys H'=>H'=ai H p (.lst (eJ.map V.str))/\i<=1+m/\∃l:List Nat,l.length=i/\(∀c∈l,33<=c/\c<=126)/\ys=(l.map λc=>(⟨#[c]⟩:Str)).map V.str) ⟨rfl,Ql _,[],rfl,by simp,rfl⟩ ?_ ?_
 ·rintro i ys H' hi ⟨rfl,_,l,hl,hlc,rfl⟩;refine dt ?_;rw[if_pos rfl];rw[Int.zero_add];obtain⟨q,eq,hq⟩:=dC (a:=x/(3+7*((i:Nat):Int))) (n:=92) (by decide)
  obtain⟨c,hc⟩:∃c,gn.cps.toList[q]?=some c:=⟨_,Qc (by rw[ni,kv];exact hq)⟩
  refine⟨_,rfl,_,rfl,_,rfl,_,_,rfl,rfl,.inl ⟨by decide,by decide⟩,_,_,rfl,rfl,_,_,rfl,rfl,⟨?_,?_⟩,_,rfl,gn,rfl,hsz,_,_,rfl,rfl,?_,gn,_,c,rfl,rfl,hsz,?_,?_⟩
  ·show(0:Int)<3+7*((i:Nat):Int);lia
  ·show 3+7*((i:Nat):Int)<_;lia
  ·show(0:Int)<(gn.length:Int);rw[kv];decide
  ·rw[kv,eq];exact aX hc
  refine⟨by rw[Qb,Qb];exact a8 (by lia),rfl,by lia,l++[c],by simp[hl],λd hd=>?_,by simp⟩;rcases Qx hd with h|h
  ·exact hlc d h
  have:d=c:=by simpa using h
  rw[this];exact AB c (QM hc)
 rintro ys H' ⟨rfl,_,l,hl,hlc,rfl⟩ pb hpb;refine⟨_,pb,_,rfl,rfl,ae.of af,(by rw[qZ];decide),?_,?_⟩
 ·have:=gO (l:=(l.map fun c=>(⟨#[c]⟩:Str)).map (·.length)) (b:=1) (fun y hy=>by
   obtain⟨z,hz,rfl⟩:=Qn hy;obtain⟨c,_,rfl⟩:=Qn hz
   exact Qk _)
  simp only[Qb] at this ⊢;lia
 rw[qZ,q9];have sx:=s0.trans (ap (o:=.lst ((l.map λc=>(⟨#[c]⟩:Str)).map V.str)) hpb);have Ew:(⟨l.toArray⟩:Str).length=l.length:=by simp[Str.length]
 obtain⟨c,r,el⟩:∃c r,l=c::r:=by
  cases l with
  |nil=>simp at hl;lia
  |cons c r=>exact⟨c,r,rfl⟩
 have hA:Pl ((⟨#[97]⟩:Str)++⟨l.toArray⟩):=nt (λd hd=>by
  rw[fe] at hd;rcases Qx hd with h|h
  ·have:d=97:=by simpa using h
   lia
  ·exact hlc d (by simpa using h)) (by rw[fe];show(97:Nat)≠60;decide) (λz=>by
  have:=congrArg (λz:Str=>z.cps.toList) z;rw[fe] at this
  simp at this)
 have hz0:(⟨l.toArray⟩:Str).cps.toList=c::r:=by rw[el]
 have hzs:(⟨l.toArray⟩:Str).length<=sizeLine:=by rw[Ew];exact QG (a8 (by lia))
 have fin1:∀{R:Prop},(Q (.str ((⟨#[97]⟩:Str)++⟨l.toArray⟩)) (ai (ai H p (.lst (eJ.map V.str))) pb (.lst ((l.map λc=>(⟨#[c]⟩:Str)).map V.str)))->R)->R:=λh=>h (k _ _ hA (by rw[bC,bY,Ew];lia) sx);have hsum:(⟨#[97]⟩:Str).length+(⟨l.toArray⟩:Str).length<=sizeLine:=by rw[bY,Ew];exact QG (a8 (by lia))
 refine⟨_,rfl,_,_,c,rfl,rfl,hzs,(by rw[hz0];exact aX (j:=0) rfl),rfl,_,rfl,?_⟩;rw[rc,AC];by_cases D1:c=60
 ·rw[Qo (show(⟨#[c]⟩:Str)=⟨#[60]⟩ by rw[D1])];refine aQ ?_;refine aQ ?_;refine⟨_,rfl,_,_,rfl,rfl,(by rw[kx];exact hsum),?_⟩;rw[kx];exact fin1 id
 rw [Qd (show ¬ (⟨#[c]⟩:Str)=⟨#[60]⟩ from fun z=>D1 (by
  have:=congrArg (λz:Str=>z.cps.toList) z
  simpa using this))]
 refine aw ?_;refine⟨_,rfl,rfl,_,rfl,?_⟩;rw[rc,AD];by_cases hg:(⟨l.toArray⟩:Str)=⟨#[62]⟩
 ·rw[Qo hg];refine aQ ?_;refine⟨_,rfl,_,_,rfl,rfl,(by rw[kx];exact hsum),?_⟩;rw[kx];exact fin1 id
 rw[Qd hg];refine aw ?_;refine⟨_,rfl,?_⟩;refine k _ _ (nt (λd hd=>hlc d (by simpa using hd)) (by rw[hz0];exact D1) hg) (by rw[Ew];lia) sx
end
section
variable {P:Program}{w:World}{K:W.Frag}{mg:Str->Option Value}{base:Heap}{AA:fm}{DD:fq}
noncomputable def bD(ar:List W):List V:=(ar.map aU).map V.str
noncomputable def ck(evs:List Mm.Ev):List V:=(evs.map wd).map V.str
structure dD(H:Hp)(rf rw:Addr)(ts as:List Addr)(fs:List (Str×List W)):Prop where
 lst:H rf=some (.lst (ts.map V.ref))
 l1:ts.length=fs.length
 l2:as.length=fs.length
 at_:∀(i:Nat) (t a:Addr) (f:Str×List W),ts[i]?=some t->as[i]?=some a->fs[i]?=some f->H t=some (.tup [.str f.1,.ref a])/\H a=some (.lst (bD f.2))/\a≠rf/\a≠rw
theorem dD.same{H H':Hp}{rf rw:Addr}{ts as:List Addr}{fs:List (Str×List W)}(h:dD H rf rw ts as fs)(s:av H H'):dD H' rf rw ts as fs:=
 ⟨s _ _ h.lst,h.l1,h.l2,λi t a f h1 h2 h3=>by obtain⟨a1,a2,a3⟩:=h.at_ i t a f h1 h2 h3;exact⟨s _ _ a1,s _ _ a2,a3⟩⟩
theorem dD.word{H:Hp}{rf rw:Addr}{ts as:List Addr}{fs:List (Str×List W)}{xs ys:List V}(h:dD H rf rw ts as fs)(hw:H rw=some (.lst xs))(EK:rf≠rw):dD (ai H rw (.lst ys)) rf rw ts as fs:=
 ⟨by rw[am EK];exact h.lst,h.l1,h.l2,λi t a f h1 h2 h3=>by
  obtain⟨a1,a2,a3,a4⟩:=h.at_ i t a f h1 h2 h3
  exact⟨by rw[am (dI a1 hw (by intro z;cases z))];exact a1,by rw[am a4];exact a2,a3,a4⟩⟩
theorem ky{α:Type}{l:List α}{x y:α}{i:Nat}(h:(l++[x])[i]?=some y)(hi:¬i<l.length):i=l.length/\x=y:=by
 rw[QB (by lia)] at h
 have h0:i-l.length=0:=by
  cases hh:i-l.length with
  |zero=>rfl
  |succ m=>rw[hh] at h;simp at h
 rw[h0] at h;exact⟨by lia,by simpa using h⟩
theorem dD.push{H:Hp}{rf rw t a:Addr}{ts as:List Addr}{fs:List (Str×List W)}{f:Str×List W}(h:dD H rf rw ts as fs)(ht:H t=some (.tup [.str f.1,.ref a]))(ha:H a=some (.lst (bD f.2)))(h1:a≠rf)(h2:a≠rw) :
  dD (ai H rf (.lst (ts.map V.ref++[V.ref t]))) rf rw (ts++[t]) (as++[a]) (fs++[f]):=by
 refine⟨by rw[af,QH];rfl,by simp[h.l1],by simp[h.l2],λi t' a' f' e1 e2 e3=>?_⟩;have l1:=h.l1;have l2:=h.l2;by_cases hi:i<fs.length
 ·rw[QE (by lia)] at e1 e2 e3;obtain⟨q1,q2,q3,q4⟩:=h.at_ i t' a' f' e1 e2 e3;exact⟨by rw[am (dI q1 h.lst (by intro z;cases z))];exact q1,by rw[am q3];exact q2,q3,q4⟩
 obtain⟨_,rfl⟩:=ky e1 (by lia);obtain⟨_,rfl⟩:=ky e2 (by lia);obtain⟨_,rfl⟩:=ky e3 (by lia);exact⟨by rw[am (dI ht h.lst (by intro z;cases z))];exact ht,by rw[am h1];exact ha,h1,h2⟩
inductive rg (vs:List V) (H:Hp) (Q:VK) (E:XK):Prop
 |mk:∀(x:Int) (n m:Nat),vs=[.int x,.int n,.int m]->n<=10->m<=12->(∀(t rf rw:Addr) (ts as:List Addr) (evs:List Mm.Ev) H',aP n evs->(rn evs).2=[]->evs.length<=40->av H H'->H' t=some (.tup [.str (aM evs),.ref rf])->dD H' rf rw ts as (rn evs).1->Q (.ref t) H')->rg vs H Q E
theorem AF(xs:List V):cJ xs none (some (-1))=xs.dropLast:=by
 unfold cJ;rw[HT.sIx_none]
 have:HT.sIx xs.length xs.length (some (-1))=xs.length-1:=by
  cases xs with
  |nil=>rfl
  |cons a r=>unfold HT.sIx;simp;lia
 rw[this,List.drop_zero,Nat.sub_zero,List.dropLast_eq_take]
theorem AG(k:Nat)(v:V):(List.replicate k [v]).flatten=List.replicate k v:=by
 induction k with
 |zero=>rfl
 |succ k ih=>rw[List.replicate_succ,List.flatten_cons,ih,List.replicate_succ];rfl
theorem cB{zs:List Str}(h:∀z∈zs,∀c∈z.cps.toList,c<128):bR 1 (.list (zs.map PyData.str)):=bR.list λd hd=>by obtain⟨z,hz,rfl⟩:=Qn hd;exact bR.str (h z hz)
theorem AH(ds:List PyData):PyData.eqv (.list ds) (.list [])=decide (ds=[]):=by cases ds<;>simp[PyData.eqv,PyData.eqvAll]
def kz(n:Nat)(ar:List W):Prop:=ar.length<=5/\∀v∈ar,v.ok n/\v.signs.length<=9
theorem rh{n:Nat}{evs:List Mm.Ev}(g:aP n evs):∀i,i<=evs.length->kz n (rn (evs.take i)).2/\∀f∈(rn (evs.take i)).1,kz n f.2/\Pl f.1
 |0,_=>⟨⟨by simp[rn],λv h=>by simp[rn] at h⟩,λf h=>by simp[rn] at h⟩
 |i+1,hi=>by
  obtain⟨h1,h2⟩:=rh g i (by lia);have he:evs[i]?=some evs[i]:=Qc (by lia);have ho:=g i _ he;rw[jT he];generalize evs[i]=e at ho he
  cases e with
  | op v=>exact ⟨⟨by show ((rn (evs.take i)).2++[v]).length<=5;have:=ho.2.2;simp;lia,fun u hu=>by
    rcases Qx hu with h|h
    ·exact h1.2 u h
    have:u=v:=by simpa using h
    rw[this];exact⟨ho.1,ho.2.1⟩⟩,h2⟩
  |cl=>exact⟨⟨by show((rn (evs.take i)).2.dropLast).length<=5;have:=h1.1;simp;lia,λu hu=>h1.2 u (List.dropLast_subset _ hu)⟩,h2⟩
  | pl z=>exact ⟨h1,fun f hf=>by
    rcases Qx hf with h|h
    ·exact h2 f h
    have:f=(z,(rn (evs.take i)).2):=by simpa using h
    rw[this];exact⟨h1,ho.1⟩⟩
theorem ri{n:Nat}{evs:List Mm.Ev}(g:aP n evs):kz n (rn evs).2/\∀f∈(rn evs).1,kz n f.2/\Pl f.1:=by have:=rh g evs.length (Qk _);rw[QI] at this;exact this
theorem rj(evs:List Mm.Ev):∀st:gN,(evs.foldl bX st).1.length<=st.1.length+evs.length/\(evs.foldl bX st).2.length<=st.2.length+evs.length:=by
 induction evs with
 |nil=>intro st;exact⟨Qk _,Qk _⟩
 |cons e r ih =>
  intro st;obtain⟨h1,h2⟩:=ih (bX st e);have h3:(bX st e).1.length<=st.1.length+1/\(bX st e).2.length<=st.2.length+1:=by cases e<;>simp[bX]<;>lia
  simp only[List.foldl_cons,QC];lia
theorem nu(evs:List Mm.Ev):(rn evs).1.length<=evs.length:=by have:=(rj evs ([],[])).1;simpa [rn] using this
theorem AI(evs:List Mm.Ev):(rn evs).2.length<=evs.length:=by have:=(rj evs ([],[])).2;simpa [rn] using this
noncomputable abbrev AJ:List Str:=Yc
theorem rk:aK AJ Yb (aA mT):=⟨rfl,rfl,rfl,by decide +kernel,rfl,by decide +kernel,by decide +kernel⟩
theorem AK(T:All P w K mg AA DD):aF P w K mg base aJ 2 AA.ZV DD.ZV Yb rg:=by
 have GW:=qX (base:=base) T;have GV:=AE (base:=base) T;refine T.z_ZV.F.ok rk (λvs H Q E h=>?_) (λCJ A outer s H vs Q E hr h=>?_)
 ·obtain⟨x,n,m,rfl,_⟩:=h;rfl
 obtain⟨x0,n,m,rfl,hn,hm,k⟩:=h;have nd:=rk.nd;have CO:au 1 _:=hr.mono (by decide);have hu:=hr.units;refine⟨_,(@ah _ _ _ _ _ (@aD _ _ 3 _ _ _ _ nd rfl (Or.inl rfl) (@aO _ _ _ _ ac) (by rfl) (by first|exact .inl rfl|exact .inr rfl|assumption)) (@ah _ _ _ _ _ (@aD _ _ 4 _ _ _ _ nd rfl (Or.inl rfl) (@aO _ _ _ _ ac) (by rfl) (by first|exact .inl rfl|exact .inr rfl|assumption)) (@ah _ _ _ _ _ (@aD _ _ 5 _ _ _ _ nd rfl (Or.inl rfl) (@aO _ _ _ _ ac) (by rfl) (by first|exact .inl rfl|exact .inr rfl|assumption)) (@ah _ _ _ _ _ (@aD _ _ 6 _ _ _ _ nd rfl (Or.inl rfl) (@aj _ _ _ _ _ _ _ _ bn (pv 0) ag) (by rfl) (by first|exact .inl rfl|exact .inr rfl|assumption)) (@ah _ _ _ _ _ (@eB _ _ _ _ _ _ _ _ PassesOwn.never rfl (fM rfl T.n_range (@aa _ _ _ _ _ (pv 2) ac (by rfl))) (bq (i:=7) nd rfl (Or.inl rfl)) (@ah _ _ _ _ _ (@aD _ _ 6 _ _ _ _ nd rfl (Or.inl rfl) (@aj _ _ _ _ _ _ _ _ bn (@aj _ _ _ _ _ _ _ _ bL (@aj _ _ _ _ _ _ _ _ bL (@aj _ _ _ _ _ _ _ _ bL (@aj _ _ _ _ _ _ _ _ dY (pv 6) (pv 6)) (@aj _ _ _ _ _ _ _ _ dY ag (pv 6))) (pv 7)) ag) ag) (by rfl) (by first|exact .inl rfl|exact .inr rfl|assumption)) (@ah _ _ _ _ _ (@aD _ _ 8 _ _ _ _ nd rfl (Or.inl rfl) (@aj _ _ _ _ _ _ _ _ bV (pv 6) ag) (by rfl) (by first|exact .inl rfl|exact .inr rfl|assumption)) (@ak _ _ _ (@aB _ _ _ _ _ _ _ _ (PW.pt (fJ (@ax _ _ _ _ _ _ _ _ aN (@aj _ _ _ _ _ _ _ _ bn (pv 8) ag) ag (aq _)) (fH (@ax _ _ _ _ _ _ _ _ fS (bc cY rfl T.n_len bw (@aa _ _ _ _ _ (pv 4) ac (by rfl))) ag (aq _))))) (@ah _ _ _ _ _ (@aD _ _ 4 _ _ _ _ nd rfl (Or.inl rfl) (@aj _ _ _ _ _ _ _ _ jG (pv 4) (@aO _ _ _ _ (@aa _ _ _ _ _ (aE GW CO rfl T.z_ZS (@aa _ _ _ _ _ (@aj _ _ _ _ _ _ _ _ bV (pv 8) ag) (@aa _ _ _ _ _ (pv 1) (@aa _ _ _ _ _ (@aj _ _ _ _ _ _ _ _ bL ag (@aj _ _ _ _ _ _ _ _ bn (@aj _ _ _ _ _ _ _ _ bV (pv 8) ag) ag)) ac (by rfl)) (by rfl)) (by rfl))) ac (by rfl)))) (by rfl) (by first|exact .inl rfl|exact .inr rfl|assumption)) (@ak _ _ _ (@bE _ _ _ _ (dA (pv 5) (@aa _ _ _ _ _ (@aj _ _ _ _ _ _ _ _ bP ao (@aY _ _ _ _ _ _ _ fk (pv 4) (fP fQ ag) (λ_ _=>rfl))) ac (by rfl))) (by rfl)))) (@ak _ _ _ (@aB _ _ _ _ _ _ _ _ (PW.pt (fJ (@ax _ _ _ _ _ _ _ _ aN (@aj _ _ _ _ _ _ _ _ bn (pv 8) ag) ag (aq _)) (fH (@ax _ _ _ _ _ _ _ _ (cf (K:=K) rfl hu) (pv 4) (@aO _ _ _ _ ac) (aq _))))) (@ah _ _ _ _ _ (@aD _ _ 4 _ _ _ _ nd rfl (Or.inl rfl) (gC zD (pv 4) io (fV (fP fQ ag))) (by rfl) (by first|exact .inl rfl|exact .inr rfl|assumption)) (@ak _ _ _ (@bE _ _ _ _ (dA (pv 5) (@aa _ _ _ _ _ ao ac (by rfl))) (by rfl)))) (@ah _ _ _ _ _ (@bE _ _ _ _ (dA (pv 5) (@aa _ _ _ _ _ (aE GV CO rfl T.z_ZU (@aa _ _ _ _ _ (@aj _ _ _ _ _ _ _ _ bV (pv 8) ag) ac (by rfl))) ac (by rfl))) (by rfl)) (@ak _ _ _ (@bE _ _ _ _ (dA (pv 3) (@aa _ _ _ _ _ (@cH _ _ _ _ _ (@aa _ _ _ _ _ (@aY _ _ _ _ _ _ _ fk (pv 5) (fP fQ ag) (λ_ _=>rfl)) (@aa _ _ _ _ _ (pv 4) ac (by rfl)) (by rfl))) ac (by rfl))) (by rfl)))))))))) (by intro _;rfl)) (@ak _ _ _ (@ay _ _ _ _ (@cH _ _ _ _ _ (@aa _ _ _ _ _ (b5 (K:=K) rfl PySem.F.plainAttrs_str PySem.F.slot_str_join PySem.F.type_str_join (gj (K:=K) rfl) ao (@aa _ _ _ _ _ (@aj _ _ _ _ _ _ _ _ jG (pv 5) (@aj _ _ _ _ _ _ _ _ xy (@aO _ _ _ _ (@aa _ _ _ _ _ ao ac (by rfl))) (bc cY rfl T.n_len bw (@aa _ _ _ _ _ (pv 4) ac (by rfl))))) ac (by rfl))) (@aa _ _ _ _ _ (pv 3) ac (by rfl)) (by rfl)))))))))),?_⟩;refine⟨Ql _,λrf hrf=>?_⟩;refine⟨Ql _,λra hra=>?_⟩;refine⟨Ql _,λC4 hrw=>?_⟩;have nfa:rf≠ra:=aH af hra;have nfw:rf≠C4:=aH (show ai (ai H rf _) ra _ rf=some _ by rw[am nfa,af]) hrw;have naw:ra≠C4:=aH af hrw;have hra0:H ra=none:=by rw[am (Ne.symm nfa)] at hra;exact hra
 have hrw0:H C4=none:=by rw[am (Ne.symm naw),am (Ne.symm nfw)] at hrw;exact hrw
 have s0:av H (ai (ai (ai H rf (.lst [])) ra (.lst [])) C4 (.lst [])):=((ap hrf).trans (ap hra)).trans (ap hrw);refine⟨_,rfl,_,_,rfl,rfl,(by show(0:Int)<2147483629;decide),?_⟩;have b0:=Int.emod_nonneg x0 (show(2147483629:Int)≠0 by decide);have b1:=Int.emod_lt_of_pos x0 (show(0:Int)<2147483629 by decide);dsimp only[a7]
 refine gL (fun σ' H'=>∃ (evs:List Mm.Ev) (ra:Addr) (ts as:List Addr) (x:Int) (s7 s8:Option V),av H H'/\evs.length<=12/\aP n evs/\H' C4=some (.lst (ck evs))/\H' ra=some (.lst (bD (rn evs).2))/\dD H' rf C4 ts as (rn evs).1 /\
   σ'=[some (.int x0),some (.int (n:Nat)),some (.int (m:Nat)),some (.ref rf),some (.ref ra),some (.ref C4),some (.int x),s7,s8]) (λR hR=>?_) ?_
 ·refine⟨_,rfl,_,rfl,by lia,by lia,?_⟩;rw[Qu]
  refine kU (fun i σ' H'=>∃ (evs:List Mm.Ev) (ra:Addr) (ts as:List Addr) (x:Int) (s7 s8:Option V),0<=x/\x<2147483629/\av H H'/\evs.length=i/\aP n evs/\H' C4=some (.lst (ck evs))/\H' ra=some (.lst (bD (rn evs).2))/\ra≠rf/\ra≠C4 /\
    dD H' rf C4 ts as (rn evs).1/\σ'=[some (.int x0),some (.int (n:Nat)),some (.int (m:Nat)),some (.ref rf),some (.ref ra),some (.ref C4),some (.int x),s7,s8])
   ⟨[],ra,[],[],_,none,none,b0,b1,s0,rfl,aP.nil n,af,by rw[am naw,af];rfl,Ne.symm nfa,naw,⟨by rw[am nfw,am nfa,af];rfl,rfl,rfl,λi t a f h=>by simp at h⟩,rfl⟩ ?_ ?_
  ·rintro i σ' H1 hi ⟨evs,ra,ts,as,x,s7,s8,h0,h1,sm,hel,g,hW,hA,n1,n2,hF,rfl⟩;rw[Int.zero_add];refine⟨_,rfl,_,rfl,_,_,rfl,rfl,.inl ⟨by lia,by lia⟩,_,rfl,_,_,rfl,rfl,.inl ⟨by decide,by decide⟩,_,_,rfl,rfl,_,rfl,_,_,rfl,rfl,_,_,rfl,rfl,_,_,rfl,rfl,(by show(0:Int)<2147483629;decide),?_⟩;dsimp only;generalize hy:(x*x+40692*x+((i:Nat):Int)+1)%2147483629=y;have y0:0<=y:=by rw[<-hy];exact Int.emod_nonneg _ (by decide)
   have y1:y<2147483629:=by rw[<-hy];exact Int.emod_lt_of_pos _ (by decide)
   refine⟨_,rfl,_,_,rfl,rfl,⟨by decide,by decide⟩,?_⟩;dsimp only[a7];have pk0:0<=y/7:=by lia
   generalize y/7=pk at pk0;obtain⟨hArOk,hFsOk⟩:=ri g;have hev:evs.length<=12:=by lia
   have hwz:(ck evs).length<sizeLine:=by simp[ck];exact a8 (by lia)
   have DR:=nu evs;generalize CL:rn evs=st at hA hF hArOk hFsOk DR;obtain⟨fs,ar⟩:=st;refine pK (λb H2=>H2=H1/\(b=true->ar.length<5)) (λR hR=>?_) ?_ ?_
   ·refine⟨_,rfl,_,_,rfl,rfl,(by show(0:Int)<4;decide),rfl,_,rfl,?_⟩;refine b4 (λ_=>⟨_,rfl,ra,_,rfl,.inl (ae.of hA),_,_,rfl,rfl,_,rfl,hR _ _ ⟨rfl,λh=>?_⟩⟩) (λ_=>hR _ _ ⟨rfl,λz=>nomatch z⟩);have h:((bD ar).length:Int)<5:=QO h;simp[bD] at h;lia
   ·rintro H2 ⟨rfl,hh⟩;have h5:=hh rfl;obtain⟨q,eq,hq⟩:=dC (a:=pk/8) (n:=9) (by decide);refine⟨_,rfl,_,rfl,_,_,rfl,rfl,⟨by decide,by decide⟩,_,rfl,_,rfl,_,_,rfl,rfl,⟨by decide,by decide⟩,_,_,rfl,rfl,(by show(0:Int)<9;decide),_,_,rfl,rfl,?_⟩;refine⟨_,n,1+q,(by (try dsimp only);rw[show pk/8%9=(q:Int) from eq,show(1:Int)+(q:Int)=((1+q:Nat):Int) by lia];rfl),hn,by lia,by lia,λz v hv hz Ew=>?_⟩;have ez:z=aU v:=cV (by rw[hz];rfl);subst ez;have hvl:v.signs.length<=9:=by rw[str_len,hz] at Ew;lia
    refine⟨bZ,λpl C5=>?_⟩;have s1:=ap (o:=.lst [.str (aU v)]) C5;refine⟨ra,pl,_,_,rfl,rfl,s1 _ _ hA,af,(by show(bD ar).length+1<=sizeLine;simp[bD];exact QG (a8 (by lia))),λpn hpn=>?_⟩;have s2:=s1.trans (ap (o:=.lst (bD ar++[.str (aU v)])) hpn);have EA:ai (ai H2 pl (.lst [.str (aU v)])) pn (.lst (bD ar++[.str (aU v)])) pn=some (.lst (bD ar++[.str (aU v)])):=af;have nnf:pn≠rf:=Ne.symm (aH (s1 _ _ hF.lst) hpn);have nnw:pn≠C4:=Ne.symm (aH (s1 _ _ hW) hpn);dsimp only[a7];generalize ai (ai H2 pl (.lst [.str (aU v)])) pn (.lst (bD ar++[.str (aU v)]))=H3 at s2 EA ⊢;have hW3:=s2 _ _ hW;have hlen1:("<":Str).length+(aU v).length<=sizeLine:=by rw[i3,bY];show 1+v.signs.toArray.size<=sizeLine;simp;exact QG (a8 (by lia))
    refine⟨_,rfl,.inl ⟨rfl,_,ae.of hW3⟩,_,rfl,_,rfl,pn,_,_,_,rfl,rfl,ae.of EA,jB _ _,_,_,rfl,rfl,hlen1,C4,_,_,rfl,rfl,hW3,hwz,?_⟩;have ew:("<":Str)++aU v=wd (.op v):=cV (by rw[fe,i3];rfl);rw[ew];have Do:rn (evs++[.op v])=(fs,ar++[v]):=by rw[iF,CL];rfl
    refine⟨evs++[.op v],pn,ts,as,y,some (.int ((i:Nat):Int)),some (.int pk),y0,y1,λb u e=>?_,by simp[hel],g.snoc (by rw[CL];exact⟨hv,hvl,h5⟩),?_,?_,nnf,nnw,?_,rfl⟩
    ·rw[am (aH e hrw0)];exact s2 _ _ (sm b u e)
    ·rw[af];simp[ck]
    ·rw[am nnw,EA,Do];simp[bD]
    rw[Do];exact(hF.same s2).word hW3 nfw
   rintro H2 ⟨rfl,_⟩;refine pK (λb H3=>av H2 H3/\(b=true->ar≠[])) (λR hR=>?_) ?_ ?_
   ·refine⟨_,rfl,_,_,rfl,rfl,(by show(0:Int)<4;decide),rfl,_,rfl,?_⟩;refine b4 (λ_=>?_) (λ_=>hR _ _ ⟨av.refl _,λz=>nomatch z⟩);refine⟨_,rfl,Ql _,λpe CP=>?_⟩;have s1:=ap (o:=.lst []) CP;refine⟨_,_,be.strs (ae.of (s1 _ _ hA)),be.lst (ae.of af) .nil,(cB λz hz c hc=>?_).ok (by decide),(bR.list (n:=0) λd hd=>by simp at hd).ok (by decide),_,rfl,hR _ _ ⟨s1,λh e=>?_⟩⟩
    ·obtain⟨v,hv,rfl⟩:=Qn hz;exact gm hn v (hArOk.2 v hv).1 c (by simpa [aU] using hc)
    subst e;rw[AH] at h;simp at h
   ·rintro H3 ⟨s3,hh⟩;have har:=hh rfl;have hA3:=s3 _ _ hA;refine⟨_,rfl,_,rfl,_,rfl,ra,_,rfl,ae.of hA3,λpn hpn=>?_⟩;rw[AF];have s2:=s3.trans (ap (o:=.lst (bD ar).dropLast) hpn);have nnf:pn≠rf:=Ne.symm (aH (s3 _ _ hF.lst) hpn);have nnw:pn≠C4:=Ne.symm (aH (s3 _ _ hW) hpn);have EA:ai H3 pn (.lst (bD ar).dropLast) pn=some (.lst (bD ar).dropLast):=af;dsimp only[a7];generalize ai H3 pn (.lst (bD ar).dropLast)=H4 at s2 EA ⊢;have hW4:=s2 _ _ hW;refine⟨_,rfl,.inl ⟨rfl,_,ae.of hW4⟩,C4,_,_,rfl,rfl,hW4,hwz,?_⟩;have Do:rn (evs++[.cl])=(fs,ar.dropLast):=by rw[iF,CL];rfl
    rw[i0];refine⟨evs++[.cl],pn,ts,as,y,some (.int ((i:Nat):Int)),some (.int pk),y0,y1,λb u e=>?_,by simp[hel],g.snoc (by rw[CL];exact har),?_,?_,nnf,nnw,?_,rfl⟩
    ·rw[am (aH e hrw0)];exact s2 _ _ (sm b u e)
    ·rw[af];simp[ck,wd]
    ·rw[am nnw,EA,Do];simp[bD,List.map_dropLast]
    rw[Do];exact(hF.same s2).word hW4 nfw
   rintro H3 ⟨s3,_⟩;have hW3:=s3 _ _ hW;refine⟨_,rfl,.inl ⟨rfl,_,ae.of hW3⟩,_,rfl,_,_,rfl,rfl,⟨by decide,by decide⟩,pk/4,rfl,by lia,λz H4 hP hz5 s4=>?_⟩;have s34:=s3.trans s4;have hW4:=s34 _ _ hW;refine⟨C4,_,_,rfl,rfl,hW4,hwz,?_⟩;have hF4:=(hF.same s34).word (ys:=ck evs++[.str z]) hW4 nfw;have hW5:ai H4 C4 (.lst (ck evs++[.str z])) C4=some (.lst (ck evs++[.str z])):=af;have hA5:ai H4 C4 (.lst (ck evs++[.str z])) ra=some (.lst (bD ar)):=by rw[am n2];exact s34 _ _ hA
   have sm5:av H (ai H4 C4 (.lst (ck evs++[.str z]))):=λb u e=>by rw[am (aH e hrw0)];exact s34 _ _ (sm b u e)
   generalize ai H4 C4 (.lst (ck evs++[.str z]))=H5 at hF4 hW5 hA5 sm5 ⊢;refine⟨_,rfl,.inl ⟨rfl,_,ae.of hF4.lst⟩,_,rfl,_,rfl,C4,_,_,_,rfl,rfl,ae.of hW5,jB _ _,_,rfl,dH,λt ht=>?_⟩;have s6:=ap (o:=.tup [.str z,.ref ra]) ht;have hF6:=(hF4.same s6).push (f:=(z,ar)) af (s6 _ _ hA5) n1 n2;have Du:ts.length<=12:=by have:=hF.l1;lia
   refine⟨rf,_,_,rfl,rfl,(hF4.same s6).lst,(by rw[Qb];exact a8 (by lia)),?_⟩;have Do:rn (evs++[.pl z])=(fs++[(z,ar)],ar):=by rw[iF,CL];rfl
   refine⟨evs++[.pl z],ra,ts++[t],as++[ra],y,some (.int ((i:Nat):Int)),some (.int pk),y0,y1,λb u e=>?_,by simp[hel],g.snoc (by rw[CL];exact⟨hP,hz5⟩),?_,?_,n1,n2,?_,rfl⟩
   ·rw[am (aH e hrf)];exact s6 _ _ (sm5 b u e)
   ·rw[am (Ne.symm nfw)];have:=s6 _ _ hW5;rw[this];simp[ck,wd]
   ·rw[am n1,Do];exact s6 _ _ hA5
   rw[Do];exact hF6
  rintro σ' H1 ⟨evs,ra,ts,as,x,s7,s8,h0,h1,sm,hel,g,hW,hA,n1,n2,hF,rfl⟩;exact hR _ _ ⟨evs,ra,ts,as,x,s7,s8,sm,by lia,g,hW,hA,hF,rfl⟩
 rintro σ' H1 ⟨evs,ra,ts,as,x,s7,s8,sm,hel,g,hW,hA,hF,rfl⟩;have hal:(rn evs).2.length<=12:=Qg (AI evs) hel;obtain⟨gc,ec⟩:=g.close _ rfl;refine⟨rfl,_,rfl,bZ,λpg hpg=>?_⟩;have s1:=ap (o:=.lst [.str ">"]) hpg;refine⟨_,rfl,ra,_,rfl,.inl (ae.of (s1 _ _ hA)),pg,_,_,rfl,rfl,af,?_,?_,?_,λpr hpr=>?_⟩
 ·exact Int.le_trans (by decide) (Int.natCast_nonneg _)
 ·show((bD (rn evs).2).length:Int)<2^63;simp only[bD,Qb];lia
 ·simp[bD];exact QG (a8 (by lia))
 rw[Qu,AG];have elen:(bD (rn evs).2).length=(rn evs).2.length:=by simp[bD]
 rw[elen];have s2:=s1.trans (ap (o:=.lst (List.replicate (rn evs).2.length (.str ">"))) hpr);refine⟨C4,pr,_,_,rfl,rfl,s2 _ _ hW,af,?_,λpc hpc=>?_⟩
 ·simp[ck];exact QG (a8 (by lia))
 have s3:=s2.trans (ap (o:=.lst (ck evs++List.replicate (rn evs).2.length (.str ">"))) hpc);have ejn:ck evs++List.replicate (rn evs).2.length (V.str ">")=((evs++List.replicate (rn evs).2.length Mm.Ev.cl).map wd).map V.str:=by rw[i0];simp[ck,wd]
 refine⟨_,pc,(evs++List.replicate (rn evs).2.length Mm.Ev.cl).map wd,rfl,rfl,(by rw[<-ejn];exact ae.of af),(by rw[cO];decide),?_,?_⟩
 ·have:=gO (l:=((evs++List.replicate (rn evs).2.length Mm.Ev.cl).map wd).map (·.length)) (b:=10) (fun y hy=>by
   obtain⟨z,hz,rfl⟩:=Qn hy
   exact(gc.wd hn z hz).2.2)
  simp only[Qb,QK,List.length_replicate] at this ⊢;lia
 rw[cO];refine⟨_,rfl,dH,λt ht=>?_⟩;have s4:=s3.trans (ap (o:=.tup [.str (Str.join ⟨#[32]⟩ ((evs++List.replicate (rn evs).2.length Mm.Ev.cl).map wd)),.ref rf]) ht);refine k t rf C4 ts as (evs++List.replicate (rn evs).2.length Mm.Ev.cl) _ gc (by rw[ec]) (by simp;lia) (sm.trans s4) af (by rw[ec];exact hF.same s4)
end
section
variable {P:Program}{w:World}{K:W.Frag}{mg:Str->Option Value}{base:Heap}{AA:fm}{DD:fq}
theorem rm{H:Hp}:∀{xs:List V} {ds:List PyData},xs.length=ds.length->(∀(i:Nat) (x:V) (d:PyData),xs[i]?=some x->ds[i]?=some d->be K H x d)->RdvA K H xs ds
 | [],[],_,_=>.nil
 | [],_::_,h,_=>by simp at h
 |_::_,[],h,_=>by simp at h
 |x::xs,d::ds,h,f=>.cons (f 0 x d rfl rfl) (rm (by simpa using h) λi y e h1 h2=>f (i+1) y e h1 h2)
structure gW(H:Hp)(p:Addr)(ls:List Addr)(Eh:List (List Str)):Prop where
 lst:H p=some (.lst (ls.map V.ref))
 len:ls.length=Eh.length
 at_:∀(i:Nat) (l:Addr) (zs:List Str),ls[i]?=some l->Eh[i]?=some zs->H l=some (.lst (zs.map V.str))
theorem gW.same{H H':Hp}{p:Addr}{ls:List Addr}{Eh:List (List Str)}(h:gW H p ls Eh)(s:av H H'):gW H' p ls Eh:=⟨s _ _ h.lst,h.len,λi l zs a b=>s _ _ (h.at_ i l zs a b)⟩
noncomputable def gX(Eh:List (List Str)):PyData:=.list (Eh.map λzs=>.list (zs.map PyData.str))
theorem gW.rdv{H:Hp}{p:Addr}{ls:List Addr}{Eh:List (List Str)}(h:gW H p ls Eh):be K H (.ref p) (gX Eh):=by
 refine .lst (ae.of h.lst) (rm (by simp[h.len]) λi x d e1 e2=>?_);rw[Qi] at e1 e2
 cases et:ls[i]? with
 |none=>rw[et] at e1;cases e1
 |some l =>
  cases er:Eh[i]? with
  |none=>rw[er] at e2;cases e2
  |some zs =>
   rw[et] at e1;rw[er] at e2;cases e1;cases e2;exact be.strs (ae.of (h.at_ i l zs et er))
theorem AL{Eh:List (List Str)}(h:∀zs∈Eh,∀z∈zs,∀c∈z.cps.toList,c<128):bR 2 (gX Eh):=bR.list λd hd=>by obtain⟨zs,hz,rfl⟩:=Qn hd;exact cB (h zs hz)
noncomputable def dW(s:Nat)(r:List (Str×Nat)):List Str:=(r.filter λw=>w.2.testBit s).map (·.1)
noncomputable def cutD(s:Nat)(CF:List (List (Str×Nat))):List (List Str):=CF.map (dW s)
inductive ro (vs:List V) (H:Hp) (Q:VK) (E:XK):Prop
 |mk:∀(l:Addr) (r:List (Str×Nat)) (s:Nat),vs=[.ref l,.int s]->cN H l r->r.length<=1000->(∀p,H p=none->Q (.ref p) (ai H p (.lst ((dW s r).map V.str))))->ro vs H Q E
inductive rp (vs:List V) (H:Hp) (Q:VK) (E:XK):Prop
 |mk:∀(p:Addr) (ls:List Addr) (CF:List (List (Str×Nat))) (s:Nat),vs=[.ref p,.int s]->i4 H p ls CF->CF.length<=60->(∀r∈CF,r.length<=1000)->(∀q qs H',H q=none->(∀x∈qs,H x=none)->q∉qs->av H H'->gW H' q qs (cutD s CF)->Q (.ref q) H')->rp vs H Q E
noncomputable abbrev rq:List Str:=["row","s"]
theorem AM:aK rq ["row","s"] (aA j7):=⟨rfl,rfl,rfl,by decide +kernel,rfl,by decide +kernel,by decide +kernel⟩
theorem AN(T:All P w K mg AA DD):aF P w K mg base aJ 2 AA.Z3 DD.Z3 ["row","s"] ro:=by
 have GH:=qH (base:=base) T;refine T.z_Z3.F.ok AM (λvs H Q E h=>?_) (λCJ A outer s H vs Q E hr h=>?_)
 ·obtain⟨l,r,s,rfl,_⟩:=h;rfl
 obtain⟨l,r,s,rfl,⟨ts,Dt,Du⟩,Dg,k⟩:=h;have CO:au 1 _:=hr.mono (by decide);refine⟨_,(ak (ay (gK (xs:=["word","mask"]) (aA j7) rq ["s"] [1] rfl (by exact⟨rfl,rfl,by decide +kernel,by decide +kernel,by decide +kernel,by decide +kernel,by decide +kernel,rfl,by decide +kernel⟩) rfl rfl (cZ (pv 0)) (λ_ _ _ _=>(gf (n:=2) rfl (bU (bq (i:=0) (show(["word","mask","s"]:List Str).Nodup by decide +kernel) rfl (Or.inl rfl)) (bU (bq (i:=1) (show(["word","mask","s"]:List Str).Nodup by decide +kernel) rfl (Or.inl rfl)) eh)))) (λ_ _ _ _=>ir (cQ (aE GH CO rfl T.z_has (aa (pv 1) (aa (pv 2) ac))))) (λ_ _ _ _=>(pv 0))))),?_⟩;have h1:=Du.1;refine⟨_,rfl,l,rfl,⟨_,ae.of Dt⟩,?_⟩;refine pN (K:=K0) (a:=l) (xs:=ts.map V.ref) (λi ys H'=>H'=H/\i<=1000/\ys=(dW s (r.take i)).map V.str) ⟨rfl,Ql _,rfl⟩ (λi ys H' _ hsl82=>by obtain⟨e,_⟩:=hsl82;rw[e];exact ae.of Dt) ?_ ?_
 ·rintro i x ys H1 hx ⟨rfl,_,rfl⟩;have hi:i<ts.length:=by have:=(Qj hx).1;rw[Qb] at this;exact this
  have DK:i<r.length:=by lia
  have ex:x=V.ref ts[i]:=by rw[Qi,Qc hi] at hx;exact(Qw hx).symm
  subst ex;have htu:=Du.2 i ts[i] r[i] (Qc hi) (Qc DK);intro os DV
  obtain⟨a,b,rfl⟩:∃a b,os=[a,b]:=by
   match os,DV with
   | [a,b],_=>exact⟨a,b,rfl⟩
  refine⟨ts[i],_,rfl,aW.of htu,rfl,_,_,rfl,_,_,rfl,rfl,⟨[_,_],rfl,rfl⟩,?_⟩;refine⟨_,rfl,_,rfl,r[i].2,s,rfl,_,rfl,?_⟩;have hl:((dW s (r.take i)).map V.str).length<sizeLine:=by have:=List.length_filter_le (λw:Str×Nat=>w.2.testBit s) (r.take i);rw[QL] at this;rw[Qb,dW,Qb];exact ft (by lia)
  have et:dW s (r.take (i+1))=if r[i].2.testBit s=true then dW s (r.take i)++[r[i].1] else dW s (r.take i):=by rw[List.take_succ_eq_append_getElem DK];unfold dW;rw[List.filter_append];cases hb:r[i].2.testBit s<;>simp[hb]
  cases hb:r[i].2.testBit s with
  |true =>
   refine aQ ?_;refine⟨_,rfl,hl,rfl,by lia,?_⟩;rw[et,if_pos hb,QH];rfl
  |false =>
   refine aw ?_;exact⟨rfl,by lia,by rw[et,if_neg (by simp[hb])]⟩
 rintro ys H1 ⟨rfl,_,rfl⟩ p hp;rw[Qb,h1,QI];exact k p hp
noncomputable abbrev rA:List Str:=["rows","s"]
theorem AO:aK rA ["rows","s"] (aA j8):=⟨rfl,rfl,rfl,by decide +kernel,rfl,by decide +kernel,by decide +kernel⟩
theorem rB(T:All P w K mg AA DD):aF P w K mg base aJ 3 AA.ZO DD.ZO ["rows","s"] rp:=by
 have GC:=AN (base:=base) T;refine T.z_ZO.F.ok AO (λvs H Q E h=>?_) (λCJ A outer s H vs Q E hr h=>?_)
 ·obtain⟨p,ls,CF,s,rfl,_⟩:=h;rfl
 obtain⟨p,ls,CF,s,rfl,hR,h60,Dg,k⟩:=h;have Dd:au 2 _:=hr.mono (by decide);refine⟨_,(ak (ay (cU (aA j8) rA ["s"] [1] rfl (by decide +kernel) rfl rfl (cZ (pv 0)) (λ_ _ _ _=>cy) (λ_ _ _ _=>(aE GC Dd rfl T.z_Z3 (aa (pv 0) (aa (pv 1) ac))))))),?_⟩;have hll:=hR.2.1;refine⟨_,rfl,p,rfl,⟨_,ae.of hR.1⟩,?_⟩
 refine iw (K:=K0) (a:=p) (xs:=ls.map V.ref) (λi ys H'=>av H H'/\i<=60/\∃qs:List Addr,ys=qs.map V.ref/\qs.length=i/\(∀x∈qs,H x=none/\∃o,H' x=some o)/\∀(j:Nat) (q:Addr) (zs:List Str),qs[j]?=some q->(cutD s CF)[j]?=some zs->H' q=some (.lst (zs.map V.str)))
  ⟨av.refl _,Ql _,[],rfl,rfl,by simp,λj q zs h=>by simp at h⟩ (λi ys H' _ hsl83=>by obtain⟨e,_⟩:=hsl83;exact ae.of (e _ _ hR.1)) ?_ ?_
 ·rintro i y ys H1 hy ⟨sm,_,qs,rfl,hql,hqn,hq⟩;have hi:i<ls.length:=by have:=(Qj hy).1;rw[Qb] at this;exact this
  have DK:i<CF.length:=by lia
  have ey:y=V.ref ls[i]:=by rw[Qi,Qc hi] at hy;exact(Qw hy).symm
  subst ey;refine dt ?_;rw[if_pos rfl];refine⟨_,rfl,_,rfl,ls[i],CF[i],s,rfl,(hR.2.2 i ls[i] CF[i] (Qc hi) (Qc DK)).same sm,Dg _ (QP DK),λq hqq=>?_⟩;have s2:=ap (o:=.lst ((dW s CF[i]).map V.str)) hqq;refine⟨by rw[Qb];exact a8 (by lia),sm.trans s2,by lia,qs++[q],by simp,by simp[hql],λx hx=>?_,λj q' zs e1 e2=>?_⟩
  ·rcases Qx hx with h|h
   ·obtain⟨a,o,b⟩:=hqn x h;exact⟨a,o,s2 _ _ b⟩
   have:x=q:=by simpa using h
   subst this;refine⟨?_,_,af⟩
   cases e:H x with
   |none=>rfl
   |some o=>rw[sm _ _ e] at hqq;cases hqq
  by_cases hj:j<qs.length
  ·rw[QE hj] at e1;exact s2 _ _ (hq j q' zs e1 e2)
  obtain⟨ej,rfl⟩:=ky e1 hj;have:j=i:=by lia
  subst this;rw[cutD,Qi,Qc DK] at e2;cases e2;exact af
 rintro ys H1 ⟨sm,_,qs,rfl,hql,hqn,hq⟩ q hqq;have s2:=ap (o:=.lst (qs.map V.ref)) hqq;refine k q qs _ ?_ (λx hx=>(hqn x hx).1) (λhx=>?_) (sm.trans s2) ⟨af,by rw[hql,Qb,hll];simp[cutD],λj q' zs e1 e2=>s2 _ _ (hq j q' zs e1 e2)⟩
 ·cases e:H q with
  |none=>rfl
  |some o=>rw[sm _ _ e] at hqq;cases hqq
 obtain⟨_,o,b⟩:=hqn q hx;rw[hqq] at b;cases b
noncomputable def kA(x:V)(n:Nat):Bool:=match x with|.int i=>decide (0<=i/\i<((2^n:Nat):Int))|_=>false
inductive rC (vs:List V) (H:Hp) (Q:VK) (E:XK):Prop
 |mk:∀(x:V) (n:Nat),vs=[x,.int n]->n<=10->dr x=true->Q (.bl (kA x n)) H->rC vs H Q E
noncomputable def AQ(x:V):Bool:=match x with|.int _=>true|_=>false
inductive rD (vs:List V) (H:Hp) (Q:VK) (E:XK):Prop
 |mk:∀x:V,vs=[x]->dr x=true->Q (.bl (AQ x)) H->rD vs H Q E
noncomputable abbrev AR:List Str:=["value"]
theorem AS:aK AR ["value"] (aA mn):=⟨rfl,rfl,rfl,by decide +kernel,rfl,by decide +kernel,by decide +kernel⟩
theorem rE(T:All P w K mg AA DD):aF P w K mg base aJ 1 AA.ZI DD.ZI ["value"] rD:=by
 refine T.z_ZI.F.ok AS (λvs H Q E h=>?_) (λCJ A outer s H vs Q E hr h=>?_)
 ·obtain⟨x,rfl,_⟩:=h;rfl
 obtain⟨x,rfl,hf,k⟩:=h;refine⟨_,(ak (ay (dM (bc (lK (n:="int")) rfl T.n_isinstance lL (aa (pv 0) (aa (kO (v:=.ty "int") rfl T.n_int jL rfl) ac))) (eO (wB (bc (lK (n:="bool")) rfl T.n_isinstance lL (aa (pv 0) (aa (kO (v:=.ty "bool") rfl T.n_bool xL rfl) ac)))))))),?_⟩
 cases x with
 |int i =>
  refine⟨_,rfl,_,_,true,rfl,.int _,xM _,_,rfl,?_⟩;rw[if_pos rfl];exact⟨_,rfl,_,_,false,rfl,.int _,xN _,_,rfl,k⟩
 |bl b =>
  refine⟨_,rfl,_,_,true,rfl,.bl _,(by rfl),_,rfl,?_⟩;rw[if_pos rfl];exact⟨_,rfl,_,_,true,rfl,.bl _,xQ _,_,rfl,k⟩
 |non =>
  refine⟨_,rfl,_,_,false,rfl,.non,(by rfl),_,rfl,?_⟩;rw[if_neg Qf];exact k
 |str z =>
  refine⟨_,rfl,_,_,false,rfl,.str _,(by rfl),_,rfl,?_⟩;rw[if_neg Qf];exact k
 |_=>exact absurd (show false=true from hf) Qf
noncomputable abbrev AT:List Str:=["s","n"]
theorem AU:aK AT ["s","n"] (aA mM):=⟨rfl,rfl,rfl,by decide +kernel,rfl,by decide +kernel,by decide +kernel⟩
theorem AV(T:All P w K mg AA DD):aF P w K mg base aJ 2 AA.Zu DD.Zu ["s","n"] rC:=by
 have GH0:=rE (base:=base) T;refine T.z_Zu.F.ok AU (λvs H Q E h=>?_) (λCJ A outer s H vs Q E hr h=>?_)
 ·obtain⟨x,n,rfl,_⟩:=h;rfl
 obtain⟨x,n,rfl,hn,hf,k⟩:=h;have CO:au 1 _:=hr;refine⟨_,(ak (ay (dM (aE GH0 CO rfl T.z_ZI (aa (pv 0) ac)) (dM (@bM _ _ _ _ _ _ _ _ jw (pv 0) ag (aq _)) (eO (@bM _ _ _ _ _ _ _ _ fS (pv 0) (aj cc ag (pv 1)) (aq _))))))),?_⟩;refine⟨_,rfl,x,rfl,hf,_,rfl,?_⟩
 cases x with
 |int i =>
  refine aQ ?_;refine⟨_,rfl,_,_,rfl,rfl,_,rfl,?_⟩;by_cases h0:0<=i
  ·rw[Qo h0];refine aQ ?_;refine⟨_,rfl,_,rfl,_,_,rfl,rfl,cM (by lia),_,_,rfl,rfl,?_⟩;have e:kA (.int i) n=decide (i<(1:Int)*2^((n:Int)).toNat):=by rw[cu];show decide (0<=i/\i<((2^n:Nat):Int))=_;exact decide_eq_decide.mpr ⟨λh=>h.2,λh=>⟨h0,h⟩⟩
   rw[e] at k;exact k
  rw[Qd h0];refine aw ?_;have e:kA (.int i) n=false:=Qd λh=>h0 h.1;rw[e] at k;exact k
 |bl b=>exact aw k
 |non=>exact aw k
 |str z=>exact aw k
 |_=>exact absurd (show false=true from hf) Qf
noncomputable def nv(s n:Nat)(rws:List (List Mm.Ev)):Str:=Str.join ⟨#[10]⟩ ((cutD s (aZ n rws)).map (Str.join ⟨#[32]⟩))
inductive rF (vs:List V) (H:Hp) (Q:VK) (E:XK):Prop
 |mk:∀(rws:List (List Mm.Ev)) (n s:Nat),vs=[.str (cz rws),.int n,.int s]->n<=10->s<2^n->dU n rws->(∀H',av H H'->Q (.str (nv s n rws)) H')->rF vs H Q E
theorem rG{n:Nat}{evs:List Mm.Ev}(g:aP n evs):∀i,i<=evs.length->∀f∈(rn (evs.take i)).1,f.1.length<=5
 |0,_=>λf h=>by simp[rn] at h
 |i+1,hi=>by
  have h2:=rG g i (by lia);have he:evs[i]?=some evs[i]:=Qc (by lia);have ho:=g i _ he;rw[jT he];generalize evs[i]=e at ho he
  cases e with
  |op v=>exact h2
  |cl=>exact h2
  |pl z =>
   intro f hf;rcases Qx hf with h|h
   ·exact h2 f h
   have:f=(z,(rn (evs.take i)).2):=by simpa using h
   rw[this];exact ho.2
theorem AW{n:Nat}{evs:List Mm.Ev}(g:aP n evs):∀f∈(rn evs).1,f.1.length<=5:=by have:=rG g evs.length (Qk _);rw[QI] at this;exact this
theorem i6{n s:Nat}{rws:List (List Mm.Ev)}(g:dU n rws):∀zs∈cutD s (aZ n rws),zs.length<=100/\∀z∈zs,z.length<=5/\Pl z:=λzs hz=>by
 obtain⟨r,hr,rfl⟩:=Qn hz;obtain⟨evs,he,rfl⟩:=Qn hr;obtain⟨g1,g2,g3⟩:=g.2.2 evs he;refine⟨?_,λz hz=>?_⟩
 ·have h1:=List.length_filter_le (λw:Str×Nat=>w.2.testBit s) (bJ n (rn evs).1);have h2:=nu evs;have h3:(bJ n (rn evs).1).length=(rn evs).1.length:=by simp[bJ]
  rw[dW,Qb];lia
 obtain⟨w,hw,rfl⟩:=Qn hz;have hw:=(List.mem_filter.mp hw).1;obtain⟨f,hf,rfl⟩:=Qn hw;exact⟨AW g1 f hf,((ri g1).2 f hf).2⟩
theorem kB{c b:Nat}{zs:List Str}(h:∀z∈zs,z.length<=b):(Str.join ⟨#[c]⟩ zs).length<=zs.length*b+zs.length:=by
 rw[str_len,join_list];refine Qg (jS _) ?_
 have:=gO (l:=(zs.map λz=>z.cps.toList).map List.length) (b:=b) (λx hx=>by
  obtain⟨l,hl,rfl⟩:=Qn hx;obtain⟨z,hz,rfl⟩:=Qn hl;have:=h z hz;rw[str_len] at this
  exact this)
 simp only[Qb] at this ⊢;lia
theorem gp{n:Nat}{rws:List (List Mm.Ev)}(g:dU n rws):(aZ n rws).length<=60/\∀r∈aZ n rws,r.length<=1000:=⟨by simp[aZ];exact g.2.1,λr hr=>by
 obtain⟨evs,he,rfl⟩:=Qn hr;have h2:=nu evs;have h3:=(g.2.2 evs he).2.2
 simp[bJ];lia⟩
theorem kC{zs:List Str}{b k:Nat}(h:∀z∈zs,z.length<=b)(hk:zs.length<=k)(hb:k*b+k<=1048576):(zs.map (·.length)).sum+zs.length<=1048576:=by
 have:=gO (l:=zs.map (·.length)) (b:=b) (λx hx=>by
  obtain⟨z,hz,rfl⟩:=Qn hx
  exact h z hz)
 rw[Qb] at this;have h2:zs.length*b<=k*b:=Nat.mul_le_mul_right _ hk;lia
noncomputable abbrev rH:List Str:=["text","n","s","rows"]
theorem rJ:aK rH YK (aA j9):=⟨rfl,rfl,rfl,by decide +kernel,rfl,by decide +kernel,by decide +kernel⟩
theorem rK(T:All P w K mg AA DD):aF P w K mg base aJ 8 AA.ZP DD.ZP YK rF:=by
 have GY:=ku (base:=base) T;have GI:=AV (base:=base) T;have GC:=rB (base:=base) T;refine T.z_ZP.F.ok rJ (λvs H Q E h=>?_) (λCJ A outer s H vs Q E hr h=>?_)
 ·obtain⟨rws,n,s,rfl,_⟩:=h;rfl
 obtain⟨rws,n,s,rfl,hn,hs,g,k⟩:=h;have nd:=rJ.nd;have Dd:au 2 _:=hr.mono (by decide);have Dr:au 3 _:=hr.mono (by decide);have EJ:au 7 _:=hr.mono (by decide);refine⟨_,(ah (aD (i:=3) nd rfl (Or.inl rfl) (aE GY EJ rfl T.z_ZC (aa (pv 0) (aa (pv 1) ac)))) (ah (aB (fK (cQ (aE GI Dd rfl T.z_Zu (aa (pv 2) (aa (pv 1) ac))))) bF aI) (ak (ay (b5 (K:=K) rfl PySem.F.plainAttrs_str PySem.F.slot_str_join PySem.F.type_str_join (gj (K:=K) rfl) ao (aa (cU (aA j9) rH [] [] rfl (by decide +kernel) rfl rfl (cZ (aE GC Dr rfl T.z_ZO (aa (pv 3) (aa (pv 2) ac)))) (λ_ _ _ _=>cy) (λ_ _ _ _=>(b5 (K:=K) rfl PySem.F.plainAttrs_str PySem.F.slot_str_join PySem.F.type_str_join (gj (K:=K) rfl) ao (aa (pv 0) ac)))) ac)))))),?_⟩;refine⟨_,rfl,_,rfl,rws,n,rfl,hn,g,λp ls H1 hp s1 hR=>?_⟩;refine⟨_,rfl,_,rfl,.int (s:Nat),n,rfl,hn,rfl,_,rfl,?_⟩;have e1:kA (.int ((s:Nat):Int)) n=true:=Qo ⟨by lia,by lia⟩;rw[e1];refine aw ?_;obtain⟨r60,r1000⟩:=gp g;refine⟨rfl,_,rfl,_,rfl,p,ls,_,s,rfl,hR,r60,r1000,λq qs H2 hq hqs hnq s2 hL=>?_⟩;have hw:=i6 (s:=s) g;have c60:(cutD s (aZ n rws)).length<=60:=by simp[cutD];exact r60
 refine⟨q,rfl,⟨_,ae.of hL.lst⟩,?_⟩;refine iw (K:=K0) (a:=q) (xs:=qs.map V.ref) (λi ys H'=>H'=H2/\i<=60/\ys=(((cutD s (aZ n rws)).take i).map (Str.join ⟨#[32]⟩)).map V.str) ⟨rfl,Ql _,rfl⟩ (λi ys H' _ hsl84=>by obtain⟨e,_⟩:=hsl84;rw[e];exact ae.of hL.lst) ?_ ?_
 ·rintro i y ys H3 hy ⟨rfl,_,rfl⟩;have hi:i<qs.length:=by have:=(Qj hy).1;rw[Qb] at this;exact this
  have hic:i<(cutD s (aZ n rws)).length:=by rw[<-hL.len];exact hi
  have ey:y=V.ref qs[i]:=by rw[Qi,Qc hi] at hy;exact(Qw hy).symm
  subst ey;have hat:=hL.at_ i qs[i] _ (Qc hi) (Qc hic);obtain⟨w1,w2⟩:=hw _ (QP hic);refine dt ?_;rw[if_pos rfl];refine⟨rfl,_,rfl,_,qs[i],(cutD s (aZ n rws))[i],rfl,rfl,ae.of hat,(by rw[cO];decide),kC (λz hz=>(w2 z hz).1) w1 (by decide),by simp;exact a8 (by lia),rfl,by lia,?_⟩;rw[cO,List.take_succ_eq_append_getElem hic];simp only[QH,List.map_cons,List.map_nil]
 rintro ys H3 ⟨rfl,_,rfl⟩ pj hpj;have etk:(cutD s (aZ n rws)).take (qs.map V.ref).length=cutD s (aZ n rws):=by rw[Qb,hL.len,QI]
 rw[etk];refine⟨_,pj,_,rfl,rfl,ae.of af,(by rw[cA];decide),kC (b:=600) (k:=60) (λz hz=>?_) (by rw[Qb];exact c60) (by decide),?_⟩
 ·obtain⟨zs,hzs,rfl⟩:=Qn hz;obtain⟨w1,w2⟩:=hw zs hzs;have:=kB (c:=32) (b:=5) (λz hz=>(w2 z hz).1);lia
 rw[cA];exact k _ ((s1.trans s2).trans (ap hpj))
noncomputable def dh(r:List (Str×Nat)):Nat:=r.foldl (λa w=>a|||w.2) 0
theorem AX(r:List (Str×Nat))(w:Str×Nat):dh (r++[w])=dh r|||w.2:=by simp[dh]
def rL(H:Hp)(ts:List Addr)(r:List (Str×Nat)):Prop:=ts.length=r.length/\∀(i:Nat) (t:Addr) (w:Str×Nat),ts[i]?=some t->r[i]?=some w->H t=some (.tup [.int ((w.2:Nat):Int),.str w.1])
inductive rM (vs:List V) (H:Hp) (Q:VK) (E:XK):Prop
 |mk:∀(l:Addr) (ts:List Addr) (r:List (Str×Nat)),vs=[.ref l]->H l=some (.lst (ts.map V.ref))->rL H ts r->Q (.int ((dh r:Nat):Int)) H->rM vs H Q E
noncomputable abbrev AY:List Str:=["pairs","found","mask","value"]
theorem rN:aK AY ["pairs"] (aA mz):=⟨rfl,rfl,rfl,by decide +kernel,rfl,by decide +kernel,by decide +kernel⟩
theorem AZ(T:All P w K mg AA DD):aF P w K mg base aJ 1 AA.Z4 DD.Z4 ["pairs"] rM:=by
 refine T.z_Z4.F.ok rN (λvs H Q E h=>?_) (λCJ A outer s H vs Q E hr h=>?_)
 ·obtain⟨l,ts,r,rfl,_⟩:=h;rfl
 obtain⟨l,ts,r,rfl,Dt,⟨Du,hat⟩,k⟩:=h;have nd:=rN.nd;refine⟨_,(ah (aD (i:=1) nd rfl (Or.inl rfl) ag) (ah (eB PassesOwn.never rfl (cZ (pv 0)) (gf rfl (bU (bq (i:=2) nd rfl (Or.inl rfl)) (bU (bq (i:=3) nd rfl (Or.inl rfl)) eh))) (ak (aD (i:=1) nd rfl (Or.inl rfl) (aj gA (pv 1) (pv 2)))) (by intro _;rfl)) (ak (ay (pv 1))))),?_⟩;refine lQ ?_;dsimp only[a7];refine gL (λσ' H'=>H'=H/\∃s2 s3:Option V,σ'=[some (.ref l),some (.int ((dh r:Nat):Int)),s2,s3]) (λR hRR=>?_) ?_
 ·refine⟨_,rfl,l,rfl,⟨_,ae.of Dt⟩,?_⟩;refine ie (K:=K0) (a:=l) (xs:=ts.map V.ref) (λi σ' H'=>H'=H/\∃s2 s3:Option V,σ'=[some (.ref l),some (.int ((dh (r.take i):Nat):Int)),s2,s3]) ⟨rfl,none,none,rfl⟩ (λi σ' H' _ hsl85=>by obtain⟨e,_⟩:=hsl85;rw[e];exact ae.of Dt) ?_ ?_
  ·rintro i x σ' H1 hx ⟨rfl,s2,s3,rfl⟩;have hi:i<ts.length:=by have:=(Qj hx).1;rw[Qb] at this;exact this
   have hip:i<r.length:=by lia
   have ex:x=V.ref ts[i]:=by rw[Qi,Qc hi] at hx;exact(Qw hx).symm
   subst ex;have htu:=hat i ts[i] r[i] (Qc hi) (Qc hip);refine⟨ts[i],_,rfl,aW.of htu,rfl,_,_,rfl,_,_,rfl,rfl,?_⟩;refine⟨_,rfl,_,rfl,_,_,rfl,rfl,rfl,some (.int ((r[i].2:Nat):Int)),some (.str r[i].1),?_⟩;rw[List.take_succ_eq_append_getElem hip,AX,<-f6];rfl
  rintro σ' H1 ⟨rfl,s2,s3,rfl⟩;rw[Qb,Du,QI];exact hRR _ _ ⟨rfl,s2,s3,rfl⟩
 rintro σ' H1 ⟨rfl,s2,s3,rfl⟩;exact⟨_,rfl,k⟩
inductive rO (vs:List V) (H:Hp) (Q:VK) (E:XK):Prop
 |mk:∀(l:Addr) (r:List (Str×Nat)) (m:Nat),vs=[.ref l,.int m]->cN H l r->r.length<=1000->(∀H',av H H'->Q (.int ((m&&&dh r:Nat):Int)) H')->rO vs H Q E
noncomputable abbrev rP:List Str:=YG
theorem rQ:aK rP YG (aA kd):=⟨rfl,rfl,rfl,by decide +kernel,rfl,by decide +kernel,by decide +kernel⟩
theorem rR(T:All P w K mg AA DD):aF P w K mg base aJ 2 AA.ZQ DD.ZQ YG rO:=by
 have GA:=AZ (base:=base) T;refine T.z_ZQ.F.ok rQ (λvs H Q E h=>?_) (λCJ A outer s H vs Q E hr h=>?_)
 ·obtain⟨l,r,m,rfl,_⟩:=h;rfl
 obtain⟨l,r,m,rfl,⟨ts,Dt,Du⟩,Dg,k⟩:=h;have nd:=rQ.nd;have CO:au 1 _:=hr;refine⟨_,(ak (ay (aj cR (pv 1) (aE GA CO rfl T.z_Z4 (aa (gK (xs:=["word","mask"]) (aA kd) rP [] [] rfl (by exact⟨rfl,rfl,by decide +kernel,by decide +kernel,by decide +kernel,by decide +kernel,by decide +kernel,rfl,by decide +kernel⟩) rfl rfl (cZ (pv 0)) (λ_ _ _ _=>(gf (n:=2) rfl (bU (bq (i:=0) (show(["word","mask"]:List Str).Nodup by decide +kernel) rfl (Or.inl rfl)) (bU (bq (i:=1) (show(["word","mask"]:List Str).Nodup by decide +kernel) rfl (Or.inl rfl)) eh)))) (λ_ _ _ _=>cy) (λ_ _ _ _=>(cH (aa (pv 1) (aa (pv 0) ac))))) ac))))),?_⟩;have h1:=Du.1;refine⟨_,rfl,_,rfl,l,rfl,⟨_,ae.of Dt⟩,?_⟩;refine pN (K:=K0) (a:=l) (xs:=ts.map V.ref) (λi ys H'=>av H H'/\i<=1000/\∃us:List Addr,ys=us.map V.ref/\rL H' us (r.take i)) ⟨av.refl _,Ql _,[],rfl,rfl,λi t w h=>by simp at h⟩ (λi ys H' _ hsl86=>by obtain⟨e,_⟩:=hsl86;exact ae.of (e _ _ Dt)) ?_ ?_
 ·rintro i x ys H1 hx ⟨sm,_,us,rfl,hul,hus⟩;have hi:i<ts.length:=by have:=(Qj hx).1;rw[Qb] at this;exact this
  have DK:i<r.length:=by lia
  have ex:x=V.ref ts[i]:=by rw[Qi,Qc hi] at hx;exact(Qw hx).symm
  subst ex;have htu:=sm _ _ (Du.2 i ts[i] r[i] (Qc hi) (Qc DK));intro os DV
  obtain⟨a,b,rfl⟩:∃a b,os=[a,b]:=by
   match os,DV with
   | [a,b],_=>exact⟨a,b,rfl⟩
  refine⟨ts[i],_,rfl,aW.of htu,rfl,_,_,rfl,_,_,rfl,rfl,⟨[_,_],rfl,rfl⟩,?_⟩;refine dt ?_;rw[if_pos rfl];refine⟨_,rfl,_,rfl,dH,λt ht=>?_⟩;have s5:=ap (o:=.tup [V.int ((r[i].2:Nat):Int),V.str r[i].1]) ht;rw[QL] at hul;refine⟨by rw[Qb];exact a8 (by lia),sm.trans s5,by lia,us++[t],by simp,?_⟩;rw[List.take_succ_eq_append_getElem DK];exact⟨by rw[QK,QK,QL,hul];rfl,Aa (by rw[hul,QL]) (λi t w a b=>s5 _ _ (hus i t w a b)) af⟩
 rintro ys H1 ⟨sm,_,us,rfl,hus⟩ p hp;rw[Qb,h1,QI] at hus;have sp:=ap (o:=.lst (us.map V.ref)) hp;refine⟨p,us,r,rfl,af,⟨hus.1,λi t w a b=>sp _ _ (hus.2 i t w a b)⟩,_,_,rfl,rfl,?_⟩;dsimp only;rw[cT];exact k _ (sm.trans sp)
def i7(H:Hp)(p:Addr)(CF:List (List (Str×Nat))):Prop:=∃ls:List Addr,H p=some (.lst (ls.map V.ref))/\ls.length=CF.length/\∀(i:Nat) (l:Addr) (r:List (Str×Nat)),ls[i]?=some l->CF[i]?=some r->cN H l r
theorem i7.same{H H':Hp}{p:Addr}{CF:List (List (Str×Nat))}(h:i7 H p CF)(s:av H H'):i7 H' p CF:=by obtain⟨ls,a,b,c⟩:=h;exact⟨ls,s _ _ a,b,λi l r x y=>(c i l r x y).same s⟩
noncomputable def bH(l:List Nat):List V:=l.map λ(i:Nat)=>V.int ((i:Nat):Int)
noncomputable def fw(m:Nat)(r:List (Str×Nat)):Bool:=decide (0<r.length)&&decide (m&&&dh r=0)
noncomputable def gq(m:Nat)(r:List (Str×Nat)):Bool:=decide ((aR (m&&&dh r) 1024).length=1)
noncomputable def dE(f:List (Str×Nat)->Bool)(CF:List (List (Str×Nat)))(i:Nat):List Nat:=(List.range i).filter λj=>f (CF.getD j [])
theorem rS(f:List (Str×Nat)->Bool){CF:List (List (Str×Nat))}{i:Nat}(h:i<CF.length):dE f CF (i+1)=if f CF[i]=true then dE f CF i++[i] else dE f CF i:=by
 unfold dE;rw[List.range_succ,List.filter_append];have e:CF.getD i []=CF[i]:=by simp[QA,h]
 cases q:f CF[i]<;>simp[q,h]
theorem nw(f:List (Str×Nat)->Bool)(CF:List (List (Str×Nat)))(i:Nat):(bH (dE f CF i)).length<=i:=by have:=List.length_filter_le (λj=>f (CF.getD j [])) (List.range i);rw[List.length_range] at this;rw[bH,Qb];exact this
theorem rT(l:List Nat)(i:Nat):bH (l++[i])=bH l++[V.int ((i:Nat):Int)]:=by simp[bH]
inductive ny (f:Nat->List (Str×Nat)->Bool) (vs:List V) (H:Hp) (Q:VK) (E:XK):Prop
 |mk:∀(p:Addr) (CF:List (List (Str×Nat))) (m:Nat),vs=[.ref p,.int m]->i7 H p CF->CF.length<=60->(∀r∈CF,r.length<=1000)->m<2^1024->(∀q H',H q=none->av H H'->H' q=some (.lst (bH (dE (f m) CF CF.length)))->Q (.ref q) H')->ny f vs H Q E
noncomputable abbrev rV:List Str:=Yj
theorem rW:aK rV Yj (aA ka):=⟨rfl,rfl,rfl,by decide +kernel,rfl,by decide +kernel,by decide +kernel⟩
theorem rX(T:All P w K mg AA DD):aF P w K mg base aJ 3 AA.ZD DD.ZD Yj (ny fw):=by
 have GS:=rR (base:=base) T;refine T.z_ZD.F.ok rW (λvs H Q E h=>?_) (λCJ A outer s H vs Q E hr h=>?_)
 ·obtain⟨p,CF,m,rfl,_⟩:=h;rfl
 obtain⟨p,CF,m,rfl,⟨ls,hls,hll,hat⟩,Dg,hr1k,hm,k⟩:=h;have nd:=rW.nd;have Dd:au 2 _:=hr;refine⟨_,(ak (ay (gK (xs:=["at","row"]) (aA ka) rV ["rule"] [1] rfl (by exact⟨rfl,rfl,by decide +kernel,by decide +kernel,by decide +kernel,by decide +kernel,by decide +kernel,rfl,by decide +kernel⟩) rfl rfl (lU rfl T.n_enumerate (aa (pv 0) ac)) (λ_ _ _ _=>(gf (n:=2) rfl (bU (bq (i:=0) (show(YE:List Str).Nodup by decide +kernel) rfl (Or.inl rfl)) (bU (bq (i:=1) (show(YE:List Str).Nodup by decide +kernel) rfl (Or.inl rfl)) eh)))) (λ_ _ _ _=>ir (PW.pt (fJ (ax cF (bc (yC (K:=K) rfl) rfl T.n_len bw (aa (pv 1) ac)) ag (aq _)) (fH (ax aN (aE GS Dd rfl T.z_ZQ (aa (pv 1) (aa (pv 2) ac))) ag (aq _)))))) (λ_ _ _ _=>(pv 0))))),?_⟩;refine⟨_,rfl,p,_,rfl,ae.of hls,?_⟩;refine lV (K:=K) (a:=p) (xs:=ls.map V.ref) (λi ys H'=>av H H'/\i<=60/\ys=bH (dE (fw m) CF i)) ⟨av.refl _,Ql _,rfl⟩ (λi ys H' _ hsl87=>by obtain⟨e,_⟩:=hsl87;exact ae.of (e _ _ hls)) ?_ ?_
 ·rintro i x ys H1 t hx ⟨sm,_,rfl⟩ ht;have hi:i<ls.length:=by have:=(Qj hx).1;rw[Qb] at this;exact this
  have DK:i<CF.length:=by lia
  have ex:x=V.ref ls[i]:=by rw[Qi,Qc hi] at hx;exact(Qw hx).symm
  subst ex;have st:=ap (o:=.tup [V.int ((i:Nat):Int),V.ref ls[i]]) ht;have sm2:=sm.trans st;have hRow:=(hat i ls[i] CF[i] (Qc hi) (Qc DK)).same sm2;have CN:=hr1k CF[i] (QP DK);have DU:=rS (fw m) DK;have C5:=nw (fw m) CF i;intro os DV
  obtain⟨a,b,rfl⟩:∃a b,os=[a,b]:=by
   match os,DV with
   | [a,b],_=>exact⟨a,b,rfl⟩
  refine⟨t,_,rfl,aW.of af,rfl,_,_,rfl,_,_,rfl,rfl,⟨[_,_],rfl,rfl⟩,?_⟩;have hRow2:=hRow;obtain⟨ts,Dt,Du,_⟩:=hRow2;refine⟨_,rfl,ls[i],_,rfl,.inl (ae.of Dt),_,_,rfl,rfl,_,rfl,?_⟩;rw[Qb,Du];by_cases h0:0<CF[i].length
  ·rw[Qo (by lia)];refine aQ ?_;refine⟨_,rfl,_,rfl,ls[i],CF[i],m,rfl,hRow,CN,λH2 s2=>⟨rfl,_,rfl,?_⟩⟩;by_cases h1:m&&&dh CF[i]=0
   ·rw[h1,show decide (V.int ((0:Nat):Int)=V.int 0)=true from rfl];refine aQ ?_;rw[if_pos (by simp[fw,h0,h1])] at DU;exact⟨_,rfl,a8 (by lia),sm2.trans s2,by lia,by rw[DU,rT]⟩
   rw[Qd (λz=>h1 (by injection z with z;lia))];refine aw ?_;rw[if_neg (by simp[fw,h1])] at DU;exact⟨sm2.trans s2,by lia,by rw[DU]⟩
  rw[Qd (by lia)];refine aw (aw ?_);rw[if_neg (by simp[fw,h0])] at DU;exact⟨sm2,by lia,by rw[DU]⟩
 rintro ys H1 ⟨sm,_,rfl⟩ q hq;rw[Qb,hll];exact k q _ (none_of sm hq) (sm.trans (ap hq)) af
noncomputable abbrev rY:List Str:=Yj
theorem rZ:aK rY Yj (aA kc):=⟨rfl,rfl,rfl,by decide +kernel,rfl,by decide +kernel,by decide +kernel⟩
theorem sd(T:All P w K mg AA DD):aF P w K mg base aJ 4 AA.Zk DD.Zk Yj (ny gq):=by
 have GS:=rR (base:=base) T;have GW:=qJ (base:=base) T;refine T.z_Zk.F.ok rZ (λvs H Q E h=>?_) (λCJ A outer s H vs Q E hr h=>?_)
 ·obtain⟨p,CF,m,rfl,_⟩:=h;rfl
 obtain⟨p,CF,m,rfl,⟨ls,hls,hll,hat⟩,Dg,hr1k,hm,k⟩:=h;have nd:=rZ.nd;have Dr:au 3 _:=hr;have Dd:au 2 _:=Dr.mono (by decide);refine⟨_,(ak (ay (gK (xs:=["at","row"]) (aA kc) rY ["rule"] [1] rfl (by exact⟨rfl,rfl,by decide +kernel,by decide +kernel,by decide +kernel,by decide +kernel,by decide +kernel,rfl,by decide +kernel⟩) rfl rfl (lU rfl T.n_enumerate (aa (pv 0) ac)) (λ_ _ _ _=>(gf (n:=2) rfl (bU (bq (i:=0) (show(YE:List Str).Nodup by decide +kernel) rfl (Or.inl rfl)) (bU (bq (i:=1) (show(YE:List Str).Nodup by decide +kernel) rfl (Or.inl rfl)) eh)))) (λ_ _ _ _=>ir (ax aN (aE GW Dr rfl T.z_ZK (aa (aE GS Dd rfl T.z_ZQ (aa (pv 1) (aa (pv 2) ac))) ac)) ag (aq _))) (λ_ _ _ _=>(pv 0))))),?_⟩;refine⟨_,rfl,p,_,rfl,ae.of hls,?_⟩;refine lV (K:=K) (a:=p) (xs:=ls.map V.ref) (λi ys H'=>av H H'/\i<=60/\ys=bH (dE (gq m) CF i)) ⟨av.refl _,Ql _,rfl⟩ (λi ys H' _ hsl88=>by obtain⟨e,_⟩:=hsl88;exact ae.of (e _ _ hls)) ?_ ?_
 ·rintro i x ys H1 t hx ⟨sm,_,rfl⟩ ht;have hi:i<ls.length:=by have:=(Qj hx).1;rw[Qb] at this;exact this
  have DK:i<CF.length:=by lia
  have ex:x=V.ref ls[i]:=by rw[Qi,Qc hi] at hx;exact(Qw hx).symm
  subst ex;have st:=ap (o:=.tup [V.int ((i:Nat):Int),V.ref ls[i]]) ht;have sm2:=sm.trans st;have hRow:=(hat i ls[i] CF[i] (Qc hi) (Qc DK)).same sm2;have CN:=hr1k CF[i] (QP DK);have DU:=rS (gq m) DK;have C5:=nw (gq m) CF i;have CU:m&&&dh CF[i]<2^1024:=QD Nat.and_le_left hm;intro os DV
  obtain⟨a,b,rfl⟩:∃a b,os=[a,b]:=by
   match os,DV with
   | [a,b],_=>exact⟨a,b,rfl⟩
  refine⟨t,_,rfl,aW.of af,rfl,_,_,rfl,_,_,rfl,rfl,⟨[_,_],rfl,rfl⟩,?_⟩;refine⟨_,rfl,_,rfl,ls[i],CF[i],m,rfl,hRow,CN,λH2 s2=>⟨m&&&dh CF[i],rfl,CU,λH3 s3=>⟨rfl,_,rfl,?_⟩⟩⟩;rw[nl CU];have sm3:=(sm2.trans s2).trans s3;by_cases h1:(aR (m&&&dh CF[i]) 1024).length=1
  ·rw[h1,show decide (V.int ((1:Nat):Int)=V.int 1)=true from rfl];refine aQ ?_;rw[if_pos (by simp[gq,h1])] at DU;exact⟨_,rfl,a8 (by lia),sm3,by lia,by rw[DU,rT]⟩
  rw[Qd (λz=>h1 (by injection z with z;lia))];refine aw ?_;rw[if_neg (by simp[gq,h1])] at DU;exact⟨sm3,by lia,by rw[DU]⟩
 rintro ys H1 ⟨sm,_,rfl⟩ q hq;rw[Qb,hll];exact k q _ (none_of sm hq) (sm.trans (ap hq)) af
inductive se (vs:List V) (H:Hp) (Q:VK) (E:XK):Prop
 |mk:∀m k n:Nat,vs=[.int m,.int k,.int n]->k<n->n<=10->m<2^2^n->Q (.int (da k n m:Nat)) H->se vs H Q E
inductive sf (vs:List V) (H:Hp) (Q:VK) (E:XK):Prop
 |mk:∀m k n:Nat,vs=[.int m,.int k,.int n]->k<n->n<=10->m<2^2^n->Q (.int (db k n m:Nat)) H->sf vs H Q E
inductive si (j:Nat) (vs:List V) (H:Hp) (Q:VK) (E:XK):Prop
 |mk:∀k m n:Nat,vs=[.int k,.int m,.int n]->n<=10->k+j=n->m<2^2^n->b6 k n m->(∀z:Str,z.cps.toList=(sh n j m).signs->Q (.str z) H)->si j vs H Q E
inductive sj (vs:List V) (H:Hp) (Q:VK) (E:XK):Prop
 |mk:∀m n:Nat,vs=[.int m,.int n]->n<=10->m<2^2^n->(∀z:Str,z.cps.toList=(sh n n m).signs->Q (.str z) H)->sj vs H Q E
theorem sk:aK Yz Ym (aA mw):=⟨rfl,rfl,rfl,by decide +kernel,rfl,by decide +kernel,by decide +kernel⟩
theorem A0(T:All P w K mg AA DD):aF P w K mg base aJ 2 AA.ZZ DD.ZZ Ym se:=by
 have GS:=nj (base:=base) T;refine T.z_ZZ.F.ok sk (λvs H Q E h=>?_) (λCJ A outer s H vs Q E hr h=>?_)
 ·obtain⟨m,k,n,rfl,_⟩:=h;rfl
 obtain⟨m,k,n,rfl,hk,hn,hm,q⟩:=h;have nd:=sk.nd
 refine⟨_,ah (aD (i:=3) nd rfl (Or.inl rfl) (aj cR (pv 0) (aE GS hr rfl T.z_Zj (aa (pv 1) (aa (pv 2) ac)))))
  (ak (ay (aj gA (pv 3) (aj la (pv 3) (aj cc ag (pv 1)))))),?_⟩
 refine⟨_,rfl,_,rfl,_,rfl,k,n,rfl,hk,hn,_,_,rfl,rfl,?_⟩
 try dsimp only
 rw[cT];refine⟨_,rfl,_,rfl,_,rfl,_,_,rfl,rfl,cM (by lia),_,_,rfl,rfl,?_,_,_,rfl,rfl,?_⟩
 ·rw[cu];exact Int.natCast_nonneg _
 try dsimp only
 rw[cu,Qu,dP,<-Int.natCast_ediv,f6,zT hk hm];exact q
theorem so:aK Yz Ym (aA my):=⟨rfl,rfl,rfl,by decide +kernel,rfl,by decide +kernel,by decide +kernel⟩
theorem A1(T:All P w K mg AA DD):aF P w K mg base aJ 2 AA.ZL DD.ZL Ym sf:=by
 have GS:=nj (base:=base) T;have GE:=d7 (base:=base) T;refine T.z_ZL.F.ok so (λvs H Q E h=>?_) (λCJ A outer s H vs Q E hr h=>?_)
 ·obtain⟨m,k,n,rfl,_⟩:=h;rfl
 obtain⟨m,k,n,rfl,hk,hn,hm,q⟩:=h;have nd:=so.nd
 refine⟨_,ah (aD (i:=3) nd rfl (Or.inl rfl) (aj cR (pv 0) (aj ik (aE GE hr rfl T.z_Z6 (aa (pv 2) ac)) (aE GS hr rfl T.z_Zj (aa (pv 1) (aa (pv 2) ac))))))
  (ak (ay (aj gA (pv 3) (aj cc (pv 3) (aj cc ag (pv 1)))))),?_⟩
 refine⟨_,rfl,_,rfl,n,rfl,hn,_,rfl,_,rfl,k,n,rfl,hk,hn,_,_,rfl,rfl,_,_,rfl,rfl,?_⟩
 try dsimp only
 rw[iy,cT];have h2:2^n<=1024:=iU hn;have h2k:2^k<=1024:=iU (by lia);have hh:(m&&&(aS n^^^sw k n))<2^2^n:=QD Nat.and_le_left hm;refine⟨_,rfl,_,rfl,_,rfl,_,_,rfl,rfl,cM (by lia),_,_,rfl,rfl,?_,_,_,rfl,rfl,?_⟩
 ·rw[cu];exact o6 hh (by lia)
 try dsimp only
 rw[cu,Qu,dP,<-Int.natCast_mul,f6];have e:=zU hk hm;unfold aS;rw[e];exact q
theorem nA:aK ["k","mask","n","on","off"] YJ (aA mI):=⟨rfl,rfl,rfl,by decide +kernel,rfl,by decide +kernel,by decide +kernel⟩
theorem i8(a b:Nat):decide (V.int (a:Int)=V.int (b:Int))=decide (a=b):=by
 rw[fR];by_cases h:a=b
 ·subst h;simp
 rw[Qd h];exact beq_eq_false_iff_ne.mpr (by lia)
theorem sq(T:All P w K mg AA DD):∀j:Nat,aF P w K mg base aJ (j+3) AA.Zr DD.Zr YJ (si j)
 |0=>by
  have GE:=d7 (base:=base) T;refine T.z_Zr.F.ok nA (λvs H Q E h=>?_) (λCJ A outer s H vs Q E hr h=>?_)
  ·obtain⟨k,m,n,rfl,_⟩:=h;rfl
  obtain⟨k,m,n,rfl,hn,hkn,hm,hi,q⟩:=h;have CO:au 1 _:=hr.mono (by lia)
  refine⟨_,ah (aB (ax aN (pv 1) ag (aq _)) (ak (ay ao)) aI)
   (ah (aB (ax aN (pv 1) (aE GE CO rfl T.z_Z6 (aa (pv 2) ac)) (aq _)) (ak (ay ao)) aI) bF),?_⟩
  refine⟨_,rfl,rfl,_,rfl,?_⟩;have e0:decide (V.int (m:Int)=V.int 0)=decide (m=0):=i8 m 0;rw[e0];refine b4 (λh0=>?_) (λh0=>?_)
  ·have h0:m=0:=QO h0;refine q _ ?_;unfold sh;rw[if_pos h0];decide +kernel
  have h0:¬m=0:=λz=>h0 (Qo z)
  have hik:b6 n n m:=by
   have e:k=n:=by lia
   rw[e] at hi;exact hi
  have hf:=zV hik hm h0;refine⟨_,rfl,_,rfl,n,rfl,hn,rfl,_,rfl,?_⟩;rw[i8,Qo (show m=aS n from hf)];refine aQ ?_;refine q _ ?_;unfold sh;rw[if_neg h0];decide +kernel
 |j+1=>by
  have IH:=sq T j;have GE:=d7 (base:=base) T;have GN:=A0 (base:=base) T;have GF:=A1 (base:=base) T;refine T.z_Zr.F.ok nA (λvs H Q E h=>?_) (λCJ A outer s H vs Q E hr h=>?_)
  ·obtain⟨k,m,n,rfl,_⟩:=h;rfl
  obtain⟨k,m,n,rfl,hn,hkn,hm,hi,q⟩:=h;have CO:au 1 _:=hr.mono (by lia);have Dd:au 2 _:=hr.mono (by lia);have nd:=nA.nd;obtain⟨tL,hL⟩:=T.v_LETTERS
  refine⟨_,ah (aB (ax aN (pv 1) ag (aq _)) (ak (ay ao)) aI)
   (ah (aB (ax aN (pv 1) (aE GE CO rfl T.z_Z6 (aa (pv 2) ac)) (aq _)) (ak (ay ao)) aI)
   (ah (aD (i:=3) nd rfl (Or.inl rfl) (aE GN Dd rfl T.z_ZZ (aa (pv 1) (aa (pv 0) (aa (pv 2) ac)))))
   (ah (aD (i:=4) nd rfl (Or.inl rfl) (aE GF Dd rfl T.z_ZL (aa (pv 1) (aa (pv 0) (aa (pv 2) ac)))))
   (ah (aB (ax aN (pv 3) (pv 4) (aq _)) (ak (ay (gB IH hr rfl T.z_Zr.m T.z_Zr.k T.z_Zr.b .nil cK (aa (aj bL (pv 0) ag) (aa (pv 1) (aa (pv 2) ac)))))) aI)
   (ak (ay (aj bP (aj bP (aj bP ao (aY eT (dL (v:=.str "abcdefghij") rfl hL ⟨_,rfl⟩) (pv 0) (λ_ _=>rfl)))
    (gB IH hr rfl T.z_Zr.m T.z_Zr.k T.z_Zr.b .nil cK (aa (aj bL (pv 0) ag) (aa (pv 3) (aa (pv 2) ac)))))
    (gB IH hr rfl T.z_Zr.m T.z_Zr.k T.z_Zr.b .nil cK (aa (aj bL (pv 0) ag) (aa (pv 4) (aa (pv 2) ac))))))))))),?_⟩
  have hk:k<n:=by lia
  have ek:n-(j+1)=k:=by lia
  have e1:(k:Int)+1=((k+1:Nat):Int):=by lia
  refine⟨_,rfl,rfl,_,rfl,?_⟩;have e0:decide (V.int (m:Int)=V.int 0)=decide (m=0):=i8 m 0;rw[e0];refine b4 (λh0=>?_) (λh0=>?_)
  ·have h0:m=0:=QO h0;refine q _ ?_;unfold sh;rw[if_pos h0];decide +kernel
  have h0:¬m=0:=λz=>h0 (Qo z);refine⟨_,rfl,_,rfl,n,rfl,hn,rfl,_,rfl,?_⟩;rw[i8];refine b4 (λhf=>?_) (λhf=>?_)
  ·have hf:m=aS n:=QO hf;refine q _ ?_;unfold sh;rw[if_neg h0,if_pos (show m=2^2^n-1 from hf)];decide +kernel
  have hf:¬m=2^2^n-1:=λz=>hf (Qo z);refine⟨_,rfl,_,rfl,_,rfl,m,k,n,rfl,hk,hn,hm,?_⟩;refine⟨_,rfl,_,rfl,_,rfl,m,k,n,rfl,hk,hn,hm,?_⟩;refine⟨_,rfl,_,rfl,rfl,_,rfl,?_⟩;rw[i8];refine b4 (λho=>?_) (λho=>?_)
  ·have ho:da k n m=db k n m:=QO ho;refine⟨_,rfl,_,_,rfl,rfl,_,rfl,_,rfl,k+1,m,n,?_,hn,by lia,hm,hi.succ ho,λz hz=>q z ?_⟩
   ·try dsimp only
    rw[e1];rfl
   rw[hz]
   conv=>rhs;unfold sh
   rw[if_neg h0,if_neg hf,ek,if_pos ho]
  have ho:¬da k n m=db k n m:=λz=>ho (Qo z);have L10:("abcdefghij":Str).length<=sizeLine:=by decide +kernel
  have bnd:∀m',(sh n j m').signs.length<=3072:=λm'=>by have h1:=gS (n:=n) j m';have h2:2^j<=2^10:=QF (by decide) (by lia);lia
  have bz:∀(z:Str) m',z.cps.toList=(sh n j m').signs->z.length<=3072:=λz m' hz=>by have:=bnd m';rw[<-hz,ni] at this;exact this
  refine⟨_,rfl,_,_,97+k,rfl,rfl,L10,nh k (by lia),_,_,rfl,rfl,?_,_,rfl,_,_,rfl,rfl,_,rfl,_,rfl,k+1,da k n m,n,?_,hn,by lia,zR k n m,hi.on hk,λz1 hz1=>⟨_,_,rfl,rfl,?_,_,rfl,_,_,rfl,rfl,_,rfl,_,rfl,k+1,db k n m,n,?_,hn,by lia,zS k n m,hi.off hk,λz2 hz2=>⟨_,_,rfl,rfl,?_,q _ ?_⟩⟩⟩
  ·rw[bY,gk];decide
  ·try dsimp only
   rw[e1];rfl
  ·have:=bz z1 _ hz1;rw[bC,bY,gk,bY];exact QG (ft (by lia))
  ·try dsimp only
   rw[e1];rfl
  ·have:=bz z1 _ hz1;have:=bz z2 _ hz2;rw[bC,bC,bY,gk,bY];exact Qg (show 1+1+z1.length+z2.length<=10000 by lia) (by decide)
  rw[b8,b8,b8,gl,gk,gl,hz1,hz2]
  conv=>rhs;unfold sh
  rw[if_neg h0,if_neg hf,ek,if_neg ho];simp[W.signs]
theorem A2:aK ["mask","n"] ["mask","n"] (aA mH):=⟨rfl,rfl,rfl,by decide +kernel,rfl,by decide +kernel,by decide +kernel⟩
theorem sr(T:All P w K mg AA DD):aF P w K mg base aJ 14 AA.Zq DD.Zq ["mask","n"] sj:=by
 have GE:=d7 (base:=base) T;refine T.z_Zq.F.ok A2 (λvs H Q E h=>?_) (λCJ A outer s H vs Q E hr h=>?_)
 ·obtain⟨m,n,rfl,_⟩:=h;rfl
 obtain⟨m,n,rfl,hn,hm,q⟩:=h;have GS:=(sq (base:=base) T n).mono (show n+3<=13 by lia);have CO:au 1 _:=hr.mono (by decide);refine⟨_,ak (ay (aE GS hr rfl T.z_Zr (aa ag (aa (aj cR (pv 0) (aE GE CO rfl T.z_Z6 (aa (pv 1) ac))) (aa (pv 1) ac))))),?_⟩;refine⟨_,rfl,_,rfl,n,rfl,hn,_,_,rfl,rfl,_,rfl,0,m,n,?_,hn,by lia,hm,b6.zero n m,q⟩
 try dsimp only
 have e:m&&&aS n=m:=by unfold aS;rw[Nat.and_two_pow_sub_one_eq_mod,Nat.mod_eq_of_lt hm]
 rw[cT,e];rfl
inductive ss (vs:List V) (H:Hp) (Q:VK) (E:XK):Prop
 |mk:∀m n:Nat,vs=[.int ((m:Nat):Int),.int ((n:Nat):Int)]->n<=10->m<2^2^n->Q (.bl true) H->ss vs H Q E
noncomputable abbrev A3:List Str:=YD
theorem A4:aK A3 YD (aA mo):=⟨rfl,rfl,rfl,by decide +kernel,rfl,by decide +kernel,by decide +kernel⟩
theorem A5(T:All P w K mg AA DD):aF P w K mg base aJ 2 AA.ZY DD.ZY YD ss:=by
 have GH0:=rE (base:=base) T;have GE:=d7 (base:=base) T;refine T.z_ZY.F.ok A4 (λvs H Q E h=>?_) (λCJ A outer s H vs Q E hr h=>?_)
 ·obtain⟨m,n,rfl,_⟩:=h;rfl
 obtain⟨m,n,rfl,hn,hm,k⟩:=h;have CO:au 1 _:=hr;refine⟨_,(ak (ay (dM (aE GH0 CO rfl T.z_ZI (aa (pv 0) ac)) (dM (@bM _ _ _ _ _ _ _ _ jw (pv 0) ag (aq _)) (eO (@bM _ _ _ _ _ _ _ _ lc (pv 0) (aE GE CO rfl T.z_Z6 (aa (pv 1) ac)) (aq _))))))),?_⟩;refine⟨_,rfl,_,rfl,rfl,_,rfl,?_⟩;refine aQ ?_;refine⟨_,rfl,_,_,rfl,rfl,_,rfl,?_⟩;rw[Qo (show(0:Int)<=((m:Nat):Int) by omega)];refine aQ ?_;refine⟨_,rfl,_,rfl,n,rfl,hn,_,_,rfl,rfl,?_⟩;dsimp only;rw[Qo (show((m:Nat):Int)<=((aS n:Nat):Int) by unfold aS;omega)];exact k
inductive su (vs:List V) (H:Hp) (Q:VK) (E:XK):Prop
 |mk:∀m n:Nat,vs=[.int ((m:Nat):Int),.int ((n:Nat):Int)]->n<=10->m<2^2^n->Q .non H->su vs H Q E
noncomputable abbrev A6:List Str:=["rule","n"]
theorem A7:aK A6 ["rule","n"] (aA mO):=⟨rfl,rfl,rfl,by decide +kernel,rfl,by decide +kernel,by decide +kernel⟩
theorem A8(T:All P w K mg AA DD):aF P w K mg base aJ 3 AA.ZR DD.ZR ["rule","n"] su:=by
 have GM:=A5 (base:=base) T;refine T.z_ZR.F.ok A7 (λvs H Q E h=>?_) (λCJ A outer s H vs Q E hr h=>?_)
 ·obtain⟨m,n,rfl,_⟩:=h;rfl
 obtain⟨m,n,rfl,hn,hm,k⟩:=h;have Dd:au 2 _:=hr;refine⟨_,(ak (aB (fK (cQ (aE GM Dd rfl T.z_ZY (aa (pv 0) (aa (pv 1) ac))))) bF aI)),?_⟩;refine⟨_,rfl,_,rfl,m,n,rfl,hn,hm,_,rfl,aw ?_⟩;exact k
theorem gY:∀a b:List Str,PyData.eqvAll (a.map PyData.str) (b.map PyData.str)=decide (a=b)
 | [],[]=>by simp[PyData.eqvAll]
 | [],_::_=>by simp[PyData.eqvAll]
 |_::_,[]=>by simp[PyData.eqvAll]
 |x::xs,y::ys=>by simp only[List.map_cons,PyData.eqvAll,gY xs ys,PyData.eqv,List.cons.injEq];by_cases h:x=y<;>simp[h]
theorem sv:∀a b:List (List Str),PyData.eqvAll (a.map λzs=>.list (zs.map PyData.str)) (b.map λzs=>.list (zs.map PyData.str))=decide (a=b)
 | [],[]=>by simp[PyData.eqvAll]
 | [],_::_=>by simp[PyData.eqvAll]
 |_::_,[]=>by simp[PyData.eqvAll]
 |x::xs,y::ys=>by simp only[List.map_cons,PyData.eqvAll,sv xs ys,PyData.eqv,gY,List.cons.injEq];by_cases h:x=y<;>simp[h]
theorem A9(a b:List (List Str)):PyData.eqv (gX a) (gX b)=decide (a=b):=by unfold gX;simp only[PyData.eqv];exact sv a b
def i9(n:Nat)(r1 r2:List (List Mm.Ev))(s:Nat):Prop:=cutD s (aZ n r1)≠cutD s (aZ n r2)
theorem Ba{m N i s t:Nat}(h:(aR m N)[i]?=some s)(ht:t<s)(hb:m.testBit t=true):t∈(aR m N).take i:=by
 have hp:(aR m N).Pairwise (·<·):=List.Pairwise.sublist List.filter_sublist List.pairwise_lt_range;have hi:=(Qj h).1;have hs:s∈aR m N:=QM h;have hsN:=iC hs;have htm:t∈aR m N:=List.mem_filter.mpr ⟨List.mem_range.mpr (by lia),hb⟩;have e:aR m N=(aR m N).take i++s::(aR m N).drop (i+1):=by have:=(Qj h).2;rw[<-this,List.getElem_cons_drop,List.take_append_drop]
 rw[e] at htm hp;rcases Qx htm with q|q
 ·exact q
 exfalso;have DH:=(List.pairwise_append.mp hp).2.1;rcases Qs q with z|z
 ·lia
 have:=(List.pairwise_cons.mp DH).1 t z;lia
inductive sy (vs:List V) (H:Hp) (Q:VK) (E:XK):Prop
 |mk:∀(r1 r2:List (List Mm.Ev)) (n m:Nat),vs=[.str (cz r1),.str (cz r2),.int ((n:Nat):Int),.int ((m:Nat):Int)]->n<=5->m<2^2^n->dU n r1->dU n r2->(∀H' s,av H H'->s<2^n->m.testBit s=true->i9 n r1 r2 s->(∀t,t<s->m.testBit t=true->¬i9 n r1 r2 t)->Q (.int ((s:Nat):Int)) H')->(∀H',av H H'->(∀s,s<2^n->m.testBit s=true->¬i9 n r1 r2 s)->Q .non H')->sy vs H Q E
theorem sC{n s:Nat}{rws:List (List Mm.Ev)}(g:dU n rws):bR 2 (gX (cutD s (aZ n rws))):=AL λzs hz z hz2 c hc=>by have:=((i6 g zs hz).2 z hz2).2.sg c hc;lia
noncomputable abbrev Bb:List Str:=YB
theorem sD:aK Bb Yw (aA mP):=⟨rfl,rfl,rfl,by decide +kernel,rfl,by decide +kernel,by decide +kernel⟩
theorem Bc(T:All P w K mg AA DD):aF P w K mg base aJ 8 AA.Z5 DD.Z5 Yw sy:=by
 have GA:=A8 (base:=base) T;have GY:=ku (base:=base) T;have GT:=qI (base:=base) T;have GC:=rB (base:=base) T;refine T.z_Z5.F.ok sD (λvs H Q E h=>?_) (λCJ A outer s H vs Q E hr h=>?_)
 ·obtain⟨r1,r2,n,m,rfl,_⟩:=h;rfl
 obtain⟨r1,r2,n,m,rfl,hn,hm,g1,g2,k1,k2⟩:=h;have nd:=sD.nd;have hu:=hr.units;have Dd:au 2 _:=hr.mono (by decide);have Dr:au 3 _:=hr.mono (by decide);have EJ:au 7 _:=hr;refine⟨_,(ah (bE (aE GA Dr rfl T.z_ZR (aa (pv 3) (aa (pv 2) ac))) (by rfl)) (ah (aD (i:=4) nd rfl (Or.inl rfl) (aE GY EJ rfl T.z_ZC (aa (pv 0) (aa (pv 2) ac)))) (ah (aD (i:=5) nd rfl (Or.inl rfl) (aE GY EJ rfl T.z_ZC (aa (pv 1) (aa (pv 2) ac)))) (ah (eB PassesOwn.never rfl (cZ (aE GT Dd rfl T.z_ZJ (aa (pv 3) ac))) (bq (i:=6) nd rfl (Or.inl rfl)) (ak (aB (ax (cf (K:=K) rfl hu) (aE GC Dr rfl T.z_ZO (aa (pv 4) (aa (pv 6) ac))) (aE GC Dr rfl T.z_ZO (aa (pv 5) (aa (pv 6) ac))) (aq _)) (ak (ay (pv 6))) aI)) (by intro _;rfl)) (ak (ay jo)))))),?_⟩;refine⟨_,rfl,_,rfl,m,n,rfl,by omega,hm,?_⟩;refine⟨_,rfl,_,rfl,r1,n,rfl,by omega,g1,λp1 l1 H1 Ek s1 hR1=>?_⟩
 try dsimp only[a7]
 refine⟨_,rfl,_,rfl,r2,n,rfl,by omega,g2,λp2 l2 H2 DH s2 hR2=>?_⟩
 try dsimp only[a7]
 have hR1:=hR1.same s2;have sA:=s1.trans s2;have h2n:2^n<=32:=QF (by decide) hn;have hmB:m<2^1024:=Qe hm (QF (by decide) (by omega));have hsb:=nl hm;refine gL (λσ' H'=>av H H'/\∀t,t<2^n->m.testBit t=true->¬i9 n r1 r2 t) (λR hR=>?_) ?_
 ·refine⟨_,rfl,m,rfl,hmB,λps DU=>?_⟩;have s3:=ap (o:=.lst ((df (aR m (bl m))).map V.int)) DU;have hPs:ai H2 ps (.lst ((df (aR m (bl m))).map V.int)) ps=some (.lst ((df (aR m (bl m))).map V.int)):=af;rw[hsb] at s3 hPs ⊢;have hR1:=hR1.same s3;have hR2:=hR2.same s3;have sA:=sA.trans s3;generalize ai H2 ps _=H3 at hPs hR1 hR2 sA ⊢;refine⟨ps,rfl,⟨_,ae.of hPs⟩,?_⟩;refine ie (K:=K0) (a:=ps) (xs:=(df (aR m (2^n))).map V.int) (λi σ' H'=>av H3 H'/\(∀t∈(aR m (2^n)).take i,¬i9 n r1 r2 t)/\∃x6:Option V,σ'=[some (.str (cz r1)),some (.str (cz r2)),some (.int ((n:Nat):Int)),some (.int ((m:Nat):Int)),some (.ref p1),some (.ref p2),x6]) ⟨av.refl _,by simp,none,rfl⟩ (λi σ' H' _ z=>ae.of (z.1 _ _ hPs)) ?_ ?_
  ·rintro i x σ' H4 hx ⟨sm,EE,x6,rfl⟩;rw[Qi,df,Qi] at hx;obtain⟨y,hy,rfl⟩:=Option.map_eq_some_iff.mp hx;obtain⟨t,ht,rfl⟩:=Option.map_eq_some_iff.mp hy;have htm:=QM ht;have htn:=iC htm;have htb:m.testBit t=true:=(List.mem_filter.mp htm).2;have o1:=gp g1;have o2:=gp g2;refine⟨_,rfl,_,rfl,p1,l1,_,t,rfl,hR1.same sm,o1.1,o1.2,λq1 qs1 H5 _ _ _ s5 hL1=>?_⟩;refine⟨_,rfl,_,rfl,p2,l2,_,t,rfl,(hR2.same sm).same s5,o2.1,o2.2,λq2 qs2 H6 _ _ _ s6 hL2=>?_⟩;refine⟨_,_,(hL1.same s6).rdv,hL2.rdv,(sC g1).ok (by decide),(sC g2).ok (by decide),_,rfl,?_⟩;rw[A9];by_cases hd:cutD t (aZ n r1)=cutD t (aZ n r2)
   ·rw[Qo hd];refine aw ?_;refine⟨(sm.trans s5).trans s6,λt' ht'=>?_,_,rfl⟩;have hi:=(Qj ht).1;rw[List.take_succ,ht] at ht';rcases Qx ht' with z|z
    ·exact EE t' z
    have:t'=t:=by simpa using z
    subst this;exact λh=>h hd
   rw[Qd hd];refine aQ ?_;exact⟨_,rfl,k1 _ t (((sA.trans sm).trans s5).trans s6) htn htb hd λt' h1 h2=>EE t' (Ba ht h1 h2)⟩
  rintro σ' H4 ⟨sm,EE,x6,rfl⟩;rw[Qb,df,Qb,QI] at EE;exact hR _ _ ⟨sA.trans sm,λt h1 h2=>EE t (List.mem_filter.mpr ⟨List.mem_range.mpr h1,h2⟩)⟩
 rintro σ' H' ⟨sm,EE⟩;exact k2 _ sm EE
inductive sF (vs:List V) (H:Hp) (Q:VK) (E:XK):Prop
 |mk:∀(z s:Str) (m:Nat) (f:Nat->Bool),vs=[.str z,.str s,.int m]->(∀c:Nat,c<128->(Builtin.Str.occurrences s ⟨#[c]⟩ 0 s.length 1).isEmpty=!(f c))->z.length<=100->(∀c∈z.cps.toList,c<128)->(∀H',av H H'->Q (.bl (iL f z m)) H')->sF vs H Q E
noncomputable abbrev sG:List Str:=Yr
theorem Bd:aK sG Yr (aA j4):=⟨rfl,rfl,rfl,by decide +kernel,rfl,by decide +kernel,by decide +kernel⟩
theorem Be(T:All P w K mg AA DD):aF P w K mg base aJ 1 AA.Z0 DD.Z0 Yr sF:=by
 refine T.z_Z0.F.ok Bd (λvs H Q E h=>?_) (λCJ A outer s H vs Q E hr h=>?_)
 ·obtain⟨z,s,m,f,rfl,_⟩:=h;rfl
 obtain⟨z,s,m,f,rfl,hf,hl,hc,k⟩:=h;refine⟨_,(ak (ay (dM (@bM _ _ _ _ _ _ _ _ il (pv 0) ao (aq _)) (dM (@bM _ _ _ _ _ _ _ _ lc (bc gD rfl T.n_len bw (aa (pv 0) ac)) (pv 2) (aq _)) (eO (bc (o9 rfl) rfl T.n_all pd (aa (cU (aA j4) sG ["signs"] [1] rfl (by decide +kernel) rfl rfl (qa (pv 0)) (λ_ _ _ _=>cy) (λ_ _ _ _=>(@bM _ _ _ _ _ _ _ _ oh (pv 0) (pv 1) rfl))) ac))))))),?_⟩;refine⟨_,rfl,rfl,_,rfl,?_⟩;unfold iL at k;by_cases h0:z=""
 ·rw[Qo (show V.str z=V.str "" by rw[h0])];refine aw ?_;have:=k H (av.refl _);rw[Qo h0] at this;exact this
 rw[Qd (λe=>h0 (by injection e)),show(!false)=true from rfl];refine aQ ?_;refine⟨_,rfl,z,rfl,Qg hl (by decide),_,rfl,_,_,rfl,rfl,_,rfl,?_⟩;by_cases h1:z.length<=m
 ·rw[Qo (by lia)];refine aQ ?_;have hca:z.cps.all (·<128)=true:=by rw[<-Array.all_toList,List.all_eq_true];exact λc h=>Qo (hc c h)
  refine⟨_,rfl,z,rfl,hca,?_⟩;refine qc (λi ys H'=>H'=H/\i<=z.length/\ys=((z.cps.toList.take i).map f).map V.bl) ⟨rfl,Ql _,rfl⟩ ?_ ?_
  ·rintro i ys H1 hi ⟨rfl,_,rfl⟩;refine dt ?_;rw[if_pos rfl];have DI:i<z.cps.toList.length:=by rw[<-str_len];exact hi
   have hci:=hc z.cps.toList[i] (QP DI);have ech:gd z i=V.str ⟨#[z.cps.toList[i]]⟩:=by unfold gd;rw[QA,Qc DI];rfl
   rw[ech];refine⟨_,rfl,_,rfl,_,_,rfl,rfl,by simp;exact a8 (by lia),rfl,by lia,?_⟩;rw[hf _ hci,Bool.not_not,List.take_succ_eq_append_getElem DI,QH,QH];rfl
  rintro ys H1 ⟨rfl,_,rfl⟩ p hp;refine⟨p,_,rfl,ae.of af,?_⟩;rw[str_len,QI];have:=k _ (ap (o:=.lst ((z.cps.toList.map f).map V.bl)) hp);rw[Qd h0,Qo h1,show(!false&&(true&&z.cps.toList.all f))=z.cps.toList.all f from rfl] at this;rw[List.all_map];exact this
 rw[Qd (by lia)];refine aw ?_;have:=k H (av.refl _);rw[Qd h0,Qd h1] at this;exact this
inductive sH (vs:List V) (H:Hp) (Q:VK) (E:XK):Prop
 |mk:∀z:Str,vs=[.str z]->z.length<=100->(∀c∈z.cps.toList,c<128)->(∀H',av H H'->Q (.bl (ma z)) H')->sH vs H Q E
noncomputable abbrev Bf:List Str:=["word"]
theorem Bg:aK Bf ["word"] (aA mB):=⟨rfl,rfl,rfl,by decide +kernel,rfl,by decide +kernel,by decide +kernel⟩
theorem Bh(T:All P w K mg AA DD):aF P w K mg base aJ 2 AA.ZA DD.ZA ["word"] sH:=by
 have GM:=Be (base:=base) T;refine T.z_ZA.F.ok Bg (λvs H Q E h=>?_) (λCJ A outer s H vs Q E hr h=>?_)
 ·obtain⟨z,rfl,_⟩:=h;rfl
 obtain⟨z,rfl,hl,hc,k⟩:=h;have CO:au 1 _:=hr;obtain⟨t1,EW⟩:=T.v_FIGURES;obtain⟨t2,C0⟩:=T.v_LONGEST_NUMBER_phrases;refine⟨_,(ak (ay (wA (@bM _ _ _ _ _ _ _ _ aN (pv 0) ao (aq _)) (eO (dM (aE GM CO rfl T.z_Z0 (aa (pv 0) (aa (dL (v:=.str "0123456789") rfl EW ⟨_,rfl⟩) (aa (dL (v:=.int 18) rfl C0 ⟨_,rfl⟩) ac)))) (eO (@bM _ _ _ _ _ _ _ _ il (aY eT (pv 0) ag (λ_ _=>rfl)) ao (aq _)))))))),?_⟩;unfold ma at k;refine⟨_,rfl,rfl,_,rfl,?_⟩;by_cases h0:z="0"
 ·rw[Qo (show V.str z=V.str "0" by rw[h0])];refine aQ ?_;have:=k H (av.refl _);rw[Qo h0] at this;exact this
 rw[Qd (λe=>h0 (by injection e))];refine aw ?_;refine⟨_,rfl,z,_,18,jW,rfl,zr,hl,hc,λH1 s1=>?_⟩;refine⟨_,rfl,?_⟩;have k:=k H1 s1;rw[Qd h0,Bool.false_or] at k
 cases hm:iL jW z 18 with
 |false=>rw[hm] at k;exact aw k
 |true =>
  rw[hm] at k;refine aQ ?_
  have hz:0<z.cps.toList.length:=by
   rw[<-str_len];unfold iL at hm;refine Nat.pos_of_ne_zero λe=>?_
   have hz0:z="":=by
    have e1:z.cps.toList=[]:=List.eq_nil_of_length_eq_zero (by rw[<-str_len];exact e);obtain⟨a⟩:=z;have:a=#[]:=Array.toList_eq_nil_iff.mp e1;rw[this];decide +kernel
   rw[Qo hz0] at hm;cases hm
  refine⟨_,rfl,z,_,z.cps.toList[0],rfl,rfl,Qg hl (by decide),aX (j:=0) (Qc hz),rfl,?_⟩;rw[QA,Qc hz] at k
  have e1:decide (V.str ⟨#[z.cps.toList[0]]⟩=V.str "0")=decide (z.cps.toList[0]=48):=by
   rw[cp];refine decide_eq_decide.mpr ⟨λh=>?_,λh=>by rw[h];decide +kernel⟩;have:=congrArg (λs:Str=>s.cps.toList) h;have e2:("0":Str).cps.toList=[48]:=by decide +kernel
   rw[e2] at this;simpa using this
  rw[e1];exact k
inductive sI (vs:List V) (H:Hp) (Q:VK) (E:XK):Prop
 |mk:∀m:Nat,vs=[.int ((m:Nat):Int)]->m≠0->(∀t q,m=2^(t+1)*q+2^t->Q (.int ((t:Nat):Int)) H)->sI vs H Q E
noncomputable abbrev Bi:List Str:=["mask"]
theorem sJ:aK Bi ["mask"] (aA ms):=⟨rfl,rfl,rfl,by decide +kernel,rfl,by decide +kernel,by decide +kernel⟩
theorem Bj(T:All P w K mg AA DD):aF P w K mg base aJ 1 AA.Z7 DD.Z7 ["mask"] sI:=by
 refine T.z_Z7.F.ok sJ (λvs H Q E h=>?_) (λCJ A outer s H vs Q E hr h=>?_)
 ·obtain⟨m,rfl,_⟩:=h;rfl
 obtain⟨m,rfl,h',k⟩:=h;have nd:=sJ.nd;refine⟨_,(ah (aB (ax aN (pv 0) ag (aq _)) (ak (ay jo)) aI) (ak (ay (aj eQ (lA PySem.F.plainAttrs_int PySem.F.slot_int_bit_length PySem.F.type_int_bit_length o7 (aj ik (pv 0) (aj eQ (pv 0) ag))) ag)))),?_⟩;refine⟨_,rfl,rfl,_,rfl,?_⟩;rw[Qd (λz=>h' (by injection z with z;omega))];refine aw ?_;obtain⟨t,q,e⟩:=pJ m m (Qk _) h';refine⟨_,rfl,_,rfl,_,_,rfl,rfl,_,_,rfl,rfl,rfl,_,rfl,rfl,_,_,rfl,rfl,?_⟩;have e1:(m:Int)-1=((m-1:Nat):Int):=by omega
 have e2:Builtin.bitXor (m:Int) ((m:Int)-1)=((2^(t+1)-1:Nat):Int):=by rw[e1,iy,e,yz]
 rw[e2,yA];have e3:(((t+1:Nat):Int))-1=(t:Int):=by omega
 dsimp only;rw[e3];exact k t q e
theorem a6{c:Bool}{a b:Prop}(h:c=false)(k:b):if c=true then a else b:=by rw[h];exact k
theorem cC{c:Bool}{a b:Prop}(h:c=true)(k:a):if c=true then a else b:=by rw[h];exact k
noncomputable def nS(k:Nat):Str:=toString ((k:Nat):Int)
theorem sK:∀k,k<64->ma (nS k)=true/\(nS k).length<=2/\(∀c∈(nS k).cps.toList,48<=c/\c<=57)/\PySem.intText? (nS k)=some ((k:Nat):Int):=by decide +kernel
inductive Om where
 |bare (w:Str)
 |num (w:Str) (k:Nat)
 |wish (w z:Str)
 |row (z:Str)
noncomputable def eK:List Str:=["text","dead","lonely","tidy","keep","part"]
def Om.ok:Om->Prop
 |.bare w=>w∈eK
 |.num w k=>(w="switches"∨w="cut")/\k<64
 |.wish w z=>(w="rule"∨w="wish")/\(∀c∈z.cps.toList,33<=c/\c<=126)/\z.length<=100
 |.row z=>z.length<=1000
noncomputable def Om.txt:Om->Str
 |.bare w=>w
 |.num w k=>w++" "++nS k
 |.wish w z=>w++" "++z
 |.row z=>"row "++z
noncomputable def Om.vs:Om->List V
 |.bare w=>[.str w]
 |.num w k=>[.str w,.int ((k:Nat):Int)]
 |.wish w z=>[.str w,.str z]
 |.row z=>[.str "row",.str z]
def sL(z f:Str)(v:V):Prop:=(f="text"/\v=.str z)∨(f="wish"/\v=.str z/\(∀c∈z.cps.toList,33<=c/\c<=126)/\z.length<=100)∨(f="number"/\∃k,k<64/\z=nS k/\v=.int ((k:Nat):Int))
inductive sM (vs:List V) (H:Hp) (Q:VK) (E:XK):Prop
 |mk:∀(z f:Str) (v:V),vs=[.str z,.str f]->sL z f v->(∀H',av H H'->Q v H')->sM vs H Q E
theorem Bl{c:Nat}(h:33<=c):decide ((⟨#[c]⟩:Str).cps.toList<("!":Str).cps.toList)=false:=by
 rw[gU];refine Qd λz=>?_;have z:[c]<[33]:=z
 rcases List.cons_lt_cons_iff.mp z with q|⟨_,q⟩
 ·lia
 cases q
noncomputable abbrev sN:List Str:=Yo
theorem Bm:aK sN Yo (aA kf):=⟨rfl,rfl,rfl,by decide +kernel,rfl,by decide +kernel,by decide +kernel⟩
theorem Bn(T:All P w K mg AA DD):aF P w K mg base aJ 3 AA.ZE DD.ZE Yo sM:=by
 have GB:=Bh (base:=base) T;refine T.z_ZE.F.ok Bm (λvs H Q E h=>?_) (λCJ A outer s H vs Q E hr h=>?_)
 ·obtain⟨z,f,v,rfl,_⟩:=h;rfl
 obtain⟨z,f,v,rfl,h,k⟩:=h;have Dd:au 2 _:=hr;obtain⟨t1,C6⟩:=T.v_LONGEST_NUMBER_desk;obtain⟨t2,DP⟩:=T.v_MOST_STEPS;refine⟨_,(ah (aB (ax aN (pv 1) ao (aq _)) (ak (ay (pv 0))) aI) (ah (aB (ax aN (pv 1) ao (aq _)) (ah (aB (cQ (bc (yK rfl) rfl T.n_any yL (aa (cU (aA kf) sN [] [] rfl (by decide +kernel) rfl rfl (qa (pv 0)) (λ_ _ _ _=>cy) (λ_ _ _ _=>(@bM _ _ _ _ _ _ _ _ wQ (pv 0) ao (aq _)))) ac))) bF aI) (ak (ay (pv 0)))) aI) (ah (aB (PW.pt (dj (fK (cQ (aE GB Dd rfl T.z_ZA (aa (pv 0) ac)))) (eg (ax cF (bc gD rfl T.n_len bw (aa (pv 0) ac)) (dL (v:=.int 6) rfl C6 ⟨_,rfl⟩) (aq _))))) bF aI) (ah (aB (PW.pt (fJ (ax aN (pv 1) ao (aq _)) (fH (ax cF (cI qb rfl T.n_int jL (aa (pv 0) ac)) (dL (v:=.int 400) rfl DP ⟨_,rfl⟩) (aq _))))) bF aI) (ak (ay (cI qb rfl T.n_int jL (aa (pv 0) ac)))))))),?_⟩;refine⟨_,rfl,rfl,_,rfl,?_⟩;rw[cp]
 rcases h with ⟨rfl,rfl⟩|⟨rfl,rfl,hz,hl⟩|⟨rfl,n,hn,rfl,rfl⟩
 ·refine aQ ?_;exact⟨_,rfl,k H (av.refl _)⟩
 ·refine aw ?_;refine⟨_,rfl,rfl,_,rfl,?_⟩;rw[cp];refine aQ ?_;have hca:z.cps.all (·<128)=true:=by rw[<-Array.all_toList,List.all_eq_true];exact λc h=>Qo (QD (hz c h).2 (by decide))
  refine⟨_,rfl,z,rfl,hca,?_⟩;refine qc (λi ys H'=>H'=H/\i<=z.length/\ys=(List.replicate i false).map V.bl) ⟨rfl,Ql _,rfl⟩ ?_ ?_
  ·rintro i ys H1 hi ⟨rfl,_,rfl⟩;refine dt ?_;rw[if_pos rfl];have DI:i<z.cps.toList.length:=by rw[<-str_len];exact hi
   have hci:=hz z.cps.toList[i] (QP DI);have ech:gd z i=V.str ⟨#[z.cps.toList[i]]⟩:=by unfold gd;rw[QA,Qc DI];rfl
   rw[ech];refine⟨_,rfl,_,_,rfl,rfl,(by simp;exact a8 (by lia)),rfl,by lia,?_⟩;rw[Bl hci.1,List.replicate_succ',QH];rfl
  rintro ys H1 ⟨rfl,_,rfl⟩ p hp;refine⟨p,_,rfl,ae.of af,_,rfl,?_⟩;rw[show(List.replicate z.length false).any id=false by simp];refine aw ?_;exact⟨_,rfl,k _ (ap hp)⟩
 obtain⟨e1,e2,e3,e4⟩:=sK n hn;refine aw ?_;refine⟨_,rfl,rfl,_,rfl,?_⟩;rw[cp];refine aw ?_;refine⟨_,rfl,_,rfl,by lia,λc hc=>QD (e3 c hc).2 (by decide),λH1 s1=>?_⟩;rw[e1];refine⟨_,rfl,?_⟩;refine aw ?_;refine⟨_,rfl,_,rfl,Qg e2 (by decide),_,_,rfl,rfl,_,rfl,?_⟩;rw[Qd (by lia)];refine aw ?_;refine⟨_,rfl,rfl,_,rfl,?_⟩;rw[cp];refine aw ?_;exact⟨_,rfl,_,_,rfl,e4,Qg e2 (by decide),k H1 s1⟩
theorem nB:("row ":Str)=⟨#[114,111,119,32]⟩:=by decide +kernel
theorem Bo(z:Str):(0+("row ":Str).length<=("row "++z:Str).length&&Builtin.Str.subAt ("row "++z:Str) "row " 0)=true:=by
 rw[nB];have h4:(⟨#[114,111,119,32]⟩:Str).length=4:=rfl;have hl:((⟨#[114,111,119,32]⟩:Str)++z).length=4+z.length:=by rw[bC,h4]
 have hx:(((⟨#[114,111,119,32]⟩:Str)++z).cps.extract 0 4)=#[114,111,119,32]:=by refine Array.toList_inj.mp ?_;rw[Array.toList_extract,b8];simp
 rw[hl,h4];simp only[Builtin.Str.subAt,h4,Nat.zero_add,hx];simp
noncomputable def sO(z:Str):Bool:=0+("row ":Str).length<=z.length&&Builtin.Str.subAt z "row " 0
theorem sQ{z:Str}(h:z.cps.toList.take 4≠[114,111,119,32]):(0+("row ":Str).length<=z.length&&Builtin.Str.subAt z "row " 0)=false:=by
 rw[nB];have h4:(⟨#[114,111,119,32]⟩:Str).length=4:=rfl;rw[h4];refine Bool.eq_false_iff.mpr λq=>h ?_;rw[Bool.and_eq_true] at q;have q2:=q.2;unfold Builtin.Str.subAt at q2;simp only[h4,Nat.zero_add] at q2;have q3:z.cps.extract 0 4=#[114,111,119,32]:=by simpa using q2
 have:=congrArg Array.toList q3;rw[Array.toList_extract] at this;simpa using this
theorem Bp(z:Str):eE ("row "++z:Str) (some 4) none=z:=cV (by rw[show(4:Int)=((4:Nat):Int) from rfl,pq,b8,nB];rfl)
noncomputable def fz:Om->List Str
 |.bare _=>[]
 |.num _ _=>["number"]
 |.wish _ _=>["wish"]
 |.row _=>["text"]
noncomputable def d8:Om->List Str
 |.bare w=>[w]
 |.num w k=>[w,nS k]
 |.wish w z=>[w,z]
 |.row z=>["row",z]
theorem Bq(a b:Str):a++" "++b=Str.join ⟨#[32]⟩ [a,b]:=by refine cV ?_;rw[join_list,cO,b8,b8];show _=a.cps.toList++32::b.cps.toList;simp
noncomputable abbrev gZ:List Str:=["switches","cut","rule","wish","text","dead","lonely","tidy","keep","part"]
theorem Br:∀w∈eK,w∈gZ:=by decide +kernel
theorem kD:∀w∈gZ,(∀c∈w.cps.toList,97<=c/\c<=122)/\3<=w.cps.toList.length/\w.length<=8/\w.cps.toList.take 3≠[114,111,119]:=by decide +kernel
noncomputable abbrev ja:List (Str×List Str):=[("switches",["number"]),("rule",["wish"]),("row",["text"]),("tidy",[]),("keep",[]),("text",[]),("wish",["wish"]),("cut",["number"]),("dead",[]),("lonely",[]),("faults",[]),("run",YH),("runs",["most"]),("part",[])]
theorem Bs:∀w∈(["switches","cut"]:List Str),ja.lookup w=some [("number":Str)]:=by decide +kernel
theorem Bt:∀w∈(["rule","wish"]:List Str),ja.lookup w=some [("wish":Str)]:=by decide +kernel
theorem Bu:∀w∈eK,ja.lookup w=some []:=by decide +kernel
theorem Bv:ja.lookup ("row":Str)=some [("text":Str)]:=by decide +kernel
theorem sR{w t:List Nat}(h:3<=w.length)(n:w.take 3≠[114,111,119]):(w++t).take 4≠[114,111,119,32]:=λe=>n (by
 have:=congrArg (List.take 3) e;rw[List.take_take,Nat.min_eq_left (by decide),List.take_append_of_le_length h] at this
 exact this)
theorem Om.words{O:Om}(h:O.ok):O.txt.length<=2000/\((∃z,O=.row z)∨(sO O.txt=false/\Txt.split O.txt ⟨#[32]⟩=d8 O))/\∃w ws,d8 O=w::ws/\ja.lookup w=some (fz O)/\ws.length=(fz O).length:=by
 have hs:∀(w z:Str),w∈gZ->(∀c∈z.cps.toList,33<=c)->sO (w++" "++z)=false/\Txt.split (w++" "++z) ⟨#[32]⟩=[w,z]:=λw z hw hz=>by
  obtain⟨h1,h2,_,h3⟩:=kD w hw;refine⟨sQ ?_,?_⟩
  ·rw[b8,b8,List.append_assoc];exact sR h2 h3
  rw[Bq];refine gM (by simp) λx hx hc=>?_;rcases (show x=w∨x=z by simpa using hx) with rfl|rfl
  ·have:=h1 32 hc;lia
  have:=hz 32 hc;lia
 cases O with
 |bare w =>
  have hw:w∈gZ:=Br w h;obtain⟨h1,h2,h8,h3⟩:=kD w hw;refine⟨Qg h8 (by decide),.inr ⟨sQ ?_,?_⟩,w,[],rfl,Bu w h,rfl⟩
  ·have:=sR (t:=[]) h2 h3;rwa [List.append_nil] at this
  have e:w=Str.join ⟨#[32]⟩ [w]:=cV (by rw[join_list];rfl);show Txt.split w ⟨#[32]⟩=[w]
  conv=>lhs;rw[e]
  refine gM (by simp) λx hx hc=>?_;cases (show x=w by simpa using hx);have:=h1 32 hc;lia
 |num w k =>
  obtain⟨hw,hk⟩:=h;obtain⟨e1,e2,e3,e4⟩:=sK k hk;have hw':w∈(["switches","cut"]:List Str):=by simpa using hw
  have hw2:w∈gZ:=by rcases hw with rfl|rfl<;>simp
  have h8:=(kD w hw2).2.2.1;have hs:=hs w (nS k) hw2 λc hc=>Qg (by decide) (e3 c hc).1;refine⟨?_,.inr hs,w,[nS k],rfl,Bs w hw',rfl⟩;show(w++" "++nS k).length<=2000;rw[bC,bC];have:(" ":Str).length=1:=by decide +kernel
  lia
 |wish w z =>
  obtain⟨hw,hz,hl⟩:=h;have hw':w∈(["rule","wish"]:List Str):=by simpa using hw
  have hw2:w∈gZ:=by rcases hw with rfl|rfl<;>simp
  have h8:=(kD w hw2).2.2.1;have hs:=hs w z hw2 λc hc=>(hz c hc).1;refine⟨?_,.inr hs,w,[z],rfl,Bt w hw',rfl⟩;show(w++" "++z).length<=2000;rw[bC,bC];have:(" ":Str).length=1:=by decide +kernel
  lia
 |row z =>
  have h:z.length<=1000:=h;refine⟨?_,.inl ⟨z,rfl⟩,"row",[z],rfl,Bv,rfl⟩;show("row "++z:Str).length<=2000;rw[bC];have:("row ":Str).length=4:=by decide +kernel
  lia
theorem Bw(xs:List V){x:V}:cJ (x::xs) (some 1) none=xs:=by unfold cJ;rw[show(some 1:Option Int)=some ((1:Nat):Int) from rfl,HT.sIx_none,HT.sIx_nat,QC,Nat.min_eq_left (by lia)];show List.take (xs.length+1-1) xs=xs;simp
noncomputable def valOf:Om->List V
 |.bare _=>[]
 |.num _ k=>[.int ((k:Nat):Int)]
 |.wish _ z=>[.str z]
 |.row z=>[.str z]
theorem Bx{O:Om}(h:O.ok){w:Str}{ws:List Str}(e:d8 O=w::ws):O.vs=.str w::valOf O/\(valOf O).length=ws.length/\ws.length<=1/\∀(i:Nat) (z f:Str),ws[i]?=some z->(fz O)[i]?=some f->∃v,(valOf O)[i]?=some v/\sL z f v:=by
 cases O with
 |bare x=>cases e;exact⟨rfl,rfl,by decide,λi z f h=>by simp at h⟩
 |num x k =>
  cases e;refine⟨rfl,rfl,Qk 1,λi z f h1 h2=>?_⟩
  cases i with
  |succ j=>simp at h1
  |zero=>cases h1;cases h2;exact⟨_,rfl,.inr (.inr ⟨rfl,k,h.2,rfl,rfl⟩)⟩
 |wish x y =>
  cases e;refine⟨rfl,rfl,Qk 1,λi z f h1 h2=>?_⟩
  cases i with
  |succ j=>simp at h1
  |zero=>cases h1;cases h2;exact⟨_,rfl,.inr (.inl ⟨rfl,rfl,h.2.1,h.2.2⟩)⟩
 |row y =>
  cases e;refine⟨rfl,rfl,Qk 1,λi z f h1 h2=>?_⟩
  cases i with
  |succ j=>simp at h1
  |zero=>cases h1;cases h2;exact⟨_,rfl,.inl ⟨rfl,rfl⟩⟩
inductive sS (vs:List V) (H:Hp) (Q:VK) (E:XK):Prop
 |mk:∀O:Om,vs=[.str O.txt]->O.ok->(∀p H',H p=none->av H H'->H' p=some (.lst O.vs)->Q (.ref p) H')->sS vs H Q E
noncomputable abbrev sT:List Str:=["row","words","forms"]
theorem sU:aK sT ["row"] (aA ke):=⟨rfl,rfl,rfl,by decide +kernel,rfl,by decide +kernel,by decide +kernel⟩
theorem By(T:All P w K mg AA DD):aF P w K mg base aJ 4 AA.Zv DD.Zv ["row"] sS:=by
 have GRW:=Bn (base:=base) T;refine T.z_Zv.F.ok sU (λvs H Q E h=>?_) (λCJ A outer s H vs Q E hr h=>?_)
 ·obtain⟨O,rfl,_⟩:=h;rfl
 obtain⟨O,rfl,hO,k⟩:=h;have nd:=sU.nd;have Dr:au 3 _:=hr;obtain⟨hl,hw,w,ws,ew,hf,DR⟩:=Om.words hO;refine⟨_,(ah (aB (fK (cQ (bc (lK (n:="str")) rfl T.n_isinstance lL (aa (pv 0) (aa (kO (v:=.ty "str") rfl T.n_str du rfl) ac))))) bF aI) (ah (aD (i:=1) nd rfl (Or.inl rfl) (kR (cQ (b5 (K:=K) rfl PySem.F.plainAttrs_str PySem.F.slot_str_startswith PySem.F.type_str_startswith lS (pv 0) (aa ao ac))) (aO (aa ao (aa (gC lN (pv 0) (fV ag) io) ac))) (b5 (K:=K) rfl PySem.F.plainAttrs_str PySem.F.slot_str_split PySem.F.type_str_split eZ (pv 0) (aa ao ac)))) (ah (aD (i:=2) nd rfl (Or.inl rfl) (zZ T.D_FORMS rfl T.m_FORMS (aY (lM (K:=K) rfl) (pv 1) ag (λ_ _=>rfl)))) (ah (aB (PW.pt (dj (jp (kP (pv 2))) (eg (ax il (bc fX rfl T.n_len bw (aa (pv 1) ac)) (aj bL ag (bc fX rfl T.n_len bw (aa (pv 2) ac))) (aq _))))) bF aI) (ak (ay (aj jG (aO (aa (aY (lM (K:=K) rfl) (pv 1) ag (λ_ _=>rfl)) ac)) (gK (xs:=Yo) (aA ke) sT [] [] rfl (by exact⟨rfl,rfl,by decide +kernel,by decide +kernel,by decide +kernel,by decide +kernel,by decide +kernel,rfl,by decide +kernel⟩) rfl rfl (zz false rfl T.n_zip (aa (gC lv (pv 1) (fV ag) io) (aa (pv 2) ac))) (λ_ _ _ _=>(yI (K:=K) (n:=2) rfl rfl (bU (bq (i:=0) (show(Yo:List Str).Nodup by decide +kernel) rfl (Or.inl rfl)) (bU (bq (i:=1) (show(Yo:List Str).Nodup by decide +kernel) rfl (Or.inl rfl)) eh)))) (λ_ _ _ _=>cy) (λ_ _ _ _=>(aE GRW Dr rfl T.z_ZE (aa (pv 0) (aa (pv 1) ac)))))))))))),?_⟩;refine⟨_,rfl,_,_,true,rfl,.str _,(by rfl),_,rfl,?_⟩;refine aw ?_;dsimp only[nN];refine fh (λσ' H'=>∃pw:Addr,av H H'/\H' pw=some (.lst ((d8 O).map V.str))/\σ'=[some (.str O.txt),some (.ref pw),none]) (λR hR=>?_) ?_
 ·refine⟨_,rfl,rfl,_,_,rfl,rfl,_,rfl,?_⟩
  rcases hw with ⟨z,rfl⟩|⟨h1,h2⟩
  ·rw[show(Om.row z).txt="row "++z from rfl,Bo];refine aQ ?_;refine⟨_,rfl,_,rfl,_,rfl,Qg hl (by decide),dH,λpw C1=>?_⟩;rw[Bp];exact hR _ _ ⟨pw,ap C1,af,rfl⟩
  refine a6 h1 ?_;refine⟨_,rfl,rfl,_,_,rfl,rfl,(by rw[cO];rfl),Qg (Nat.add_le_add_right hl 2) (by decide),λpw C1=>?_⟩;rw[cO,h2];exact hR _ _ ⟨pw,ap C1,af,rfl⟩
 rintro σ' H1 ⟨pw,s1,C1,rfl⟩;refine⟨_,rfl,pw,(d8 O).map V.str,0,.str w,rfl,rfl,ae.of C1,(by rw[ew];exact aX (j:=0) rfl),w,fz O,rfl,hf,λq hq=>?_⟩;refine⟨_,rfl,_,rfl,?_⟩;refine aw ?_;refine⟨_,rfl,pw,_,rfl,.inl (ae.of C1),_,rfl,q,_,rfl,.inr (hq _),_,_,rfl,rfl,rfl,_,rfl,?_⟩;rw[Qb,Qb,ew,QC,DR,fR,show((((fz O).length+1:Nat):Int)==1+((fz O).length:Int))=true from beq_iff_eq.mpr (by lia)];refine aw ?_;refine⟨_,rfl,pw,(d8 O).map V.str,0,.str w,rfl,rfl,ae.of C1,(by rw[ew];exact aX (j:=0) rfl),bZ,λp1 Ek=>?_⟩;have n1:pw≠p1:=aH C1 Ek;have s2:=ap (o:=.lst [V.str w]) Ek;have h1:ai H1 p1 (.lst [V.str w]) p1=some (.lst [V.str w]):=af;have Dn:=s1.trans s2;have hpw2:=s2 _ _ C1;generalize ai H1 p1 (.lst [V.str w])=H2 at h1 Dn hpw2 ⊢;refine⟨_,rfl,_,rfl,pw,_,rfl,ae.of hpw2,λps DU=>?_⟩;refine⟨_,rfl,ps,q,_,_,rfl,ae.of af,hq _,?_⟩;have s3:=ap (o:=.lst (cJ ((d8 O).map V.str) (some 1) none)) DU;have hps3:ai H2 ps (.lst (cJ ((d8 O).map V.str) (some 1) none)) ps=some (.lst (cJ ((d8 O).map V.str) (some 1) none)):=af;have ec:cJ ((d8 O).map V.str) (some 1) none=ws.map V.str:=by rw[ew];exact Bw _
 rw[ec] at s3 hps3 ⊢;have h13:=s3 _ _ h1;have s13:=Dn.trans s3;generalize ai H2 ps (.lst (ws.map V.str))=H3 at h13 s13 hps3 ⊢;obtain⟨o1,o2,o3,o4⟩:=Bx hO ew;refine zA (l:=false) (K:=K) (a:=ps) (b:=q) (xs:=ws.map V.str) (ys:=(fz O).map V.str) (λi zs H'=>av H3 H'/\i<=1/\zs=(valOf O).take i) ⟨av.refl _,Ql _,rfl⟩ (λi zs H' h=>⟨ae.of (h.1 _ _ hps3),hq _⟩) ?_ ?_
 ·rintro i x y zs H4 t hx hy ⟨s4,hi,rfl⟩ ht;rw[Qi] at hx hy;obtain⟨z,hz,rfl⟩:=Option.map_eq_some_iff.mp hx;obtain⟨f,hf2,rfl⟩:=Option.map_eq_some_iff.mp hy;obtain⟨v,hv,hR⟩:=o4 i z f hz hf2;intro os DV;obtain⟨a,b,rfl⟩:=zG DV;refine⟨t,_,rfl,aW.of af,rfl,_,_,rfl,_,_,rfl,rfl,⟨[_,_],rfl,rfl⟩,dt ?_⟩;rw[if_pos rfl];refine⟨_,rfl,_,rfl,z,f,v,rfl,hR,λH5 s5=>?_⟩;have hiv:=(Qj hv).1;refine⟨?_,(s4.trans (ap ht)).trans s5,by lia,?_⟩
  ·rw[QL];exact a8 (by lia)
  rw[List.take_succ,hv];rfl
 rintro zs H4 ⟨s4,hi,rfl⟩ p hp;have e3:(valOf O).take (min (ws.map V.str).length ((fz O).map V.str).length)=valOf O:=by rw[Qb,Qb,<-DR,Nat.min_self,<-o2,QI]
 rw[e3];have s5:=ap (o:=.lst (valOf O)) hp;refine⟨p1,p,_,_,rfl,rfl,s5 _ _ (s4 _ _ h13),af,(by show 1+(valOf O).length<=sizeLine;exact Qg (show _<=2 by lia) (by decide)),λp2 DH=>?_⟩;refine k p2 _ ?_ (((s13.trans s4).trans s5).trans (ap DH)) (by rw[af,o1];rfl)
 cases e:H p2 with
 |none=>rfl
 |some u=>rw[((s13.trans s4).trans s5) _ _ e] at DH;cases DH
inductive jb (C:Addr) (vs:List V) (H:Hp) (Q:VK) (E:XK):Prop
 |mk:∀(e tt:Addr) (v:V),vs=[.ref e,v]->H e=some (bS e C tt none)->(∀dx,H dx=none->dx≠e->Q .non (ai (ai H e (bS e C tt (some dx))) dx (dz dx [("at",v)])))->jb C vs H Q E
noncomputable abbrev Bz:List Str:=YA
theorem BA:aK Bz YA (aA m8):=⟨rfl,rfl,rfl,by decide +kernel,rfl,by decide +kernel,by decide +kernel⟩
theorem sV(T:All P w K mg AA DD):aF P w K mg base aJ 1 AA.Zh DD.Zh YA (jb AA.x_NoGroup):=by
 refine T.z_Zh.F.ok BA (λvs H Q E h=>?_) (λCJ A outer s H vs Q E hr h=>?_)
 ·obtain⟨e,tt,v,rfl,_⟩:=h;rfl
 obtain⟨e,tt,v,rfl,he,k⟩:=h;refine⟨_,(ak (zh (eF.wish _) (pv 0) (pv 1))),?_⟩;exact⟨v,rfl,_,rfl,e,AA.x_NoGroup,tt,rfl,T.ic_NoGroup,T.na_NoGroup_at,.inl ⟨he,k⟩⟩
theorem sW{C:Addr}{E:XK}{H:Hp}{v:V}(h:∀dx H',av H H'->H' dx=some (dz dx [("at",v)])->E (.ref C) (some dx) H')(e tt:Addr)(he:H e=none) :
  jb C [.ref e,v] (ai H e (bS e C tt none)) (λx H2=>x=.non/\∃dd,H2 e=some (bS e C tt dd)/\E (.ref C) dd (cW H2 e)) E0:=by
 refine⟨e,tt,v,rfl,af,λdx hd ne=>⟨rfl,some dx,by rw[am ne.symm,af],h dx _ (λb u q=>?_) (by rw[iI ne,af])⟩⟩;have hb:b≠e:=aH q he;have hbd:b≠dx:=aH (show ai H e _ b=some u by rw[am hb];exact q) hd;rw[iI hb,am hbd,am hb,am hb];exact q
inductive sZ (vs:List V) (H:Hp) (Q:VK) (E:XK):Prop
 |mk:∀z:Str,vs=[.str z]->z.length<=200000->(∀p,H p=none->Q (.ref p) (ai H p (.lst ((cr z).map V.str))))->sZ vs H Q E
theorem BB(T:All P w K mg AA DD):aF P w K mg base aJ 1 AA.ZN DD.ZN ["row"] sZ:=by
 refine T.z_ZN.F.ok qQ (λvs H Q E h=>?_) (λCJ A outer s H vs Q E hr h=>?_)
 ·obtain⟨z,rfl,_⟩:=h;rfl
 obtain⟨z,rfl,hl,k⟩:=h;refine⟨_,(ah (aB (ax aN (pv 0) ao (aq _)) (ak (ay (aO ac))) aI) (ak (ay (b5 (K:=K) rfl PySem.F.plainAttrs_str PySem.F.slot_str_split PySem.F.type_str_split eZ (pv 0) (aa ao ac))))),?_⟩;refine⟨_,rfl,rfl,_,rfl,?_⟩;rw[cp,e_];unfold cr at k;by_cases h0:z=⟨#[]⟩
 ·rw[if_pos h0] at k;rw[Qo h0];refine aQ ?_;exact⟨(by decide),λp hp=>k p hp⟩
 rw[if_neg h0] at k;rw[Qd h0];refine aw ?_;refine⟨_,rfl,rfl,_,_,rfl,rfl,(by rw[cO];rfl),QG (Qe (QD (Nat.add_le_add_right hl 2) (show 200000+2<16777216 by decide)) (by decide)),λp hp=>?_⟩;rw[cO];exact k p hp
def td(ar:List W)(z:Str):Prop:=z=⟨#[]⟩∨(z=⟨#[62]⟩/\ar=[])
def tf(n:Nat)(z:Str):Prop:=z.length<=100/\∃pre:List Mm.Ev,aP n pre/\pre.length<=100/\((∃b post,cr z=pre.map Mm.wd++b::post/\td (rn pre).2 b)∨(cr z=pre.map Mm.wd/\(rn pre).2≠[]))
def BC(C:Addr):Sp:=λvs H _ E=>∃(z:Str) (n:Nat) (x:V),vs=[.str z,.int n,x]/\n<=10/\tf n z/\dB E C x H
theorem BD{n:Nat}(hn:n<=10){evs:List Mm.Ev}(g:aP n evs):cr (aM evs)=evs.map Mm.wd:=by
 by_cases h:evs=[]
 ·rw[h];decide +kernel
 refine yR (by simpa using h) (λz=>?_) λz hz hc=>?_
 ·have:=(g.wd hn ⟨#[]⟩ (by rw[z];simp)).2.1;exact this rfl
 have:=(g.wd hn z hz).1 32 hc;omega
def BE(C:Addr)(n:Nat)(z:Str)(x:V)(pre:List Mm.Ev)(H:Hp)(Q:VK)(E:XK):Prop:=
 (∃b post,cr z=pre.map Mm.wd++b::post/\td (rn pre).2 b/\dB E C x H)∨(cr z=pre.map Mm.wd/\(rn pre).2≠[]/\dB E C x H) ∨
 (cr z=pre.map Mm.wd/\(rn pre).2=[]/\∀p H',H p=none->av H H'->cN H' p (bJ n (rn pre).1)->Q (.ref p) H')
theorem BF(T:All P w K mg AA DD):aF P w K mg base (cL (λ_=>True) P w) 6 AA.Zs DD.Zs YC (λvs H Q E=>nr vs H Q E∨BC AA.x_NoGroup vs H Q E):=by
 have GE:=d7 (base:=base) T;have GO:=BB (base:=base) T;have GG:=qR (base:=base) T;have GI:=sV (base:=base) T;refine T.z_Zs.F.ok2 kt (λvs H Q E h=>?_) (λCJ A outer s H vs Q E hr h=>?_)
 ·rcases h with ⟨z,n,x,rfl,_⟩|⟨z,n,x,rfl,_⟩<;>rfl
 obtain ⟨z,n,x,pre,rfl,hn,g,hle,Ew,hbad⟩:∃ (z:Str) (n:Nat) (x:V) (pre:List Mm.Ev),vs=[.str z,.int n,x]/\n<=10/\aP n pre/\pre.length<=1000/\z.length<=200000/\BE AA.x_NoGroup n z x pre H Q E:=by
  rcases h with ⟨evs,n,x,rfl,hn,g,he,hle,k⟩|⟨z,n,x,rfl,hn,⟨Ew,pre,g,hle,hb⟩,k⟩
  ·refine⟨_,n,x,evs,rfl,hn,g,hle,?_,.inr (.inr ⟨BD hn g,he,k⟩)⟩;have:=f9 hn g;lia
  refine⟨z,n,x,pre,rfl,hn,g,Qg hle (by decide),Qg Ew (by decide),?_⟩
  rcases hb with ⟨b,post,e1,hb⟩|⟨e1,hb⟩
  ·exact .inl ⟨b,post,e1,hb,k⟩
  exact .inr (.inl ⟨e1,hb,k⟩)
 have nd:=kt.nd;have CO:au 1 _:=hr.mono (by decide);have Dd:au 2 _:=hr.mono (by decide);have hr5:au 5 _:=hr.mono (by decide);obtain⟨tD,CV⟩:=T.v_DEEPEST_GROUP
 have no:dB E AA.x_NoGroup x H->∀{H1:Hp},av H H1->([V.int 0]:List V).length<=sizeLine/\∀e tt:Addr,H1 e=none->H1 tt=none->e≠tt->jb AA.x_NoGroup [.ref e,x] (ai H1 e (bS e AA.x_NoGroup tt none)) (λv H2=>v=.non/\∃dd,H2 e=some (bS e AA.x_NoGroup tt dd)/\E (.ref AA.x_NoGroup) dd (cW H2 e)) E0:=
  λk {_} sm=>⟨bZ,λe tt he _ _=>sW (k.same sm) e tt he⟩
 refine⟨_,(ah (aD (i:=3) nd rfl (Or.inl rfl) (aO ac)) (ah (aD (i:=4) nd rfl (Or.inl rfl) (aO (aa (aE GE CO rfl T.z_Z6 (aa (pv 1) ac)) ac))) (ah (eB PassesOwn.leaving rfl (cZ (aE GO CO rfl T.z_ZN (aa (pv 0) ac))) (bq (i:=5) nd rfl (Or.inl rfl)) (ah (aB (ax aN (pv 5) ao (aq _)) (ak (iK eF (iJ trivial) rfl rfl T.m_NoGroup T.M_NoGroup PySem.F.excBase_ValueError GI Dd T.z_Zh.b (aa (pv 2) ac))) aI) (ak (aB (ax aN (pv 5) ao (aq _)) (ah (bE (qh (pv 4)) (by rfl)) (ak (aB (ax aN (bc cY rfl T.n_len bw (aa (pv 4) ac)) ag (aq _)) (ak (iK eF (iJ trivial) rfl rfl T.m_NoGroup T.M_NoGroup PySem.F.excBase_ValueError GI Dd T.z_Zh.b (aa (pv 2) ac))) aI))) (ak (aB (cQ (b5 (K:=K) rfl PySem.F.plainAttrs_str PySem.F.slot_str_startswith PySem.F.type_str_startswith lS (pv 5) (aa ao ac))) (ah (aB (ax cF (bc cY rfl T.n_len bw (aa (pv 4) ac)) (dL (v:=.int 5) rfl CV ⟨_,rfl⟩) (aq _)) (ak (iK eF (iJ trivial) rfl rfl T.m_NoGroup T.M_NoGroup PySem.F.excBase_ValueError GI Dd T.z_Zh.b (aa (pv 2) ac))) aI) (ak (bE (dA (pv 4) (aa (aj cR (aY fk (pv 4) (fP fQ ag) (λ_ _=>rfl)) (aE GG hr5 rfl T.z_Zt (aa (pv 5) (aa (pv 1) (aa (pv 2) ac))))) ac)) (by rfl)))) (ak (bE (dA (pv 3) (aa (cH (aa (pv 5) (aa (aY fk (pv 4) (fP fQ ag) (λ_ _=>rfl)) ac))) ac)) (by rfl)))))))) (by intro _;rfl)) (ah (aB (ax cF (bc cY rfl T.n_len bw (aa (pv 4) ac)) ag (aq _)) (ak (iK eF (iJ trivial) rfl rfl T.m_NoGroup T.M_NoGroup PySem.F.excBase_ValueError GI Dd T.z_Zh.b (aa (pv 2) ac))) aI) (ak (ay (pv 3))))))),?_⟩;refine⟨Ql _,λpp hpp=>?_⟩;refine⟨_,rfl,n,rfl,hn,bZ,λpm hpm=>?_⟩;have Eu:pp≠pm:=aH af hpm;dsimp only[a7];refine gL (λσ' H'=>av H H'/\cr z=pre.map Mm.wd/\∃s5:Option V,cN H' pp (bJ n (rn pre).1)/\H' pm=some (.lst (iv (stk n (rn pre).2)))/\σ'=[some (.str z),some (.int (n:Nat)),some x,some (.ref pp),some (.ref pm),s5]) (λR hR=>?_) ?_
 ·refine⟨_,rfl,z,rfl,Ew,λpw C1=>?_⟩;have s0:av H (ai (ai (ai H pp (.lst [])) pm (.lst [.int ((aS n:Nat):Int)])) pw (.lst ((cr z).map V.str))):=((ap hpp).trans (ap hpm)).trans (ap C1);have npw:pp≠pw:=aH (show ai (ai H pp _) pm _ pp=some _ by rw[am Eu,af]) C1;have nmw:pm≠pw:=aH af C1;have hpp0:H pp=none:=hpp;have Ez:H pm=none:=by rw[am (Ne.symm Eu)] at hpm;exact hpm
  refine⟨pw,rfl,⟨_,ae.of af⟩,?_⟩
  refine ie (K:=K0) (a:=pw) (xs:=(cr z).map V.str) (fun i σ' H'=>i<=pre.length/\av H H'/\H' pw=some (.lst ((cr z).map V.str))/\∃ s5:Option V,cN H' pp (bJ n (rn (pre.take i)).1)/\H' pm=some (.lst (iv (stk n (rn (pre.take i)).2))) /\
    σ'=[some (.str z),some (.int (n:Nat)),some x,some (.ref pp),some (.ref pm),s5])
   ⟨Ql _,s0,af,none,⟨[],by rw[am npw,am Eu,af];rfl,cv.nil _⟩,by rw[am nmw,af];rfl,rfl⟩ (λi σ' H' _ hsl89=>by obtain⟨_,_,e,_⟩:=hsl89;exact ae.of e) ?_ ?_
  ·rintro i y σ' H1 hy ⟨hip,sm,DZ,s5,⟨ts,Dt,Du⟩,CL,rfl⟩;by_cases CU:i<pre.length
   ·obtain⟨e,he⟩:∃e,pre[i]?=some e:=⟨_,Qc CU⟩
    have ez:(cr z)[i]?=some (wd e):=by
     rcases hbad with ⟨b,post,e1,_⟩|⟨e1,_⟩|⟨e1,_⟩
     ·rw[e1,QE (by simpa using CU),Qi,he];rfl
     ·rw[e1,Qi,he];rfl
     rw[e1,Qi,he];rfl
    have ey:y=V.str (wd e):=by rw[Qi,ez] at hy;exact(Qw hy).symm
    subst ey;have hok:=g i e he;have Do:=jT he;obtain⟨hsg,EK,hl10⟩:=lY hn hok;generalize hgo:rn (pre.take i)=st at hok Do Du CL;obtain⟨fs,ar⟩:=st
    have hfl:fs.length<=1000/\ts.length=fs.length:=by
     refine⟨?_,by rw[Du.1];simp[bJ]⟩
     have:∀l:List Mm.Ev,(rn l).1.length<=l.length:=by
      intro l
      have:∀(l:List Mm.Ev) (st:gN),(l.foldl bX st).1.length<=st.1.length+l.length:=by
       intro l
       induction l with
       |nil=>intro st;exact Qk _
       |cons e r ih =>
        intro st;have h1:=ih (bX st e);have h2:(bX st e).1.length<=st.1.length+1:=by cases e<;>simp[bX]
        simp only[List.foldl_cons,QC];lia
      simpa [rn] using this l ([],[])
     have h3:=this (pre.take i);rw[hgo] at h3;rw[QL] at h3;show fs.length<=1000;have:fs.length<=min i pre.length:=h3;lia
    refine⟨_,rfl,rfl,_,rfl,?_⟩;rw[cp,Qd (show ¬wd e="" from λz=>EK (by rw[z,e_]))];refine aw ?_;refine⟨_,rfl,rfl,_,rfl,?_⟩;rw[cp,i0];have nwm:pw≠pm:=Ne.symm nmw
    cases e with
    |cl =>
     rw[Qo (show wd .cl=⟨#[62]⟩ from rfl)];refine aQ ?_;have har:ar≠[]:=hok;have hal:0<ar.length:=List.length_pos_iff.mpr har;refine⟨_,rfl,.inl ⟨rfl,_,ae.of CL⟩,pm,_,_,rfl,rfl,CL,(by rw[b7,dS,Nat.add_sub_cancel];rw[iv,Qi,nn];rfl),?_⟩;have h2:(iv (stk n ar)).dropLast=iv (stk n ar.dropLast):=by rw[<-qM n har];simp[iv,List.map_dropLast]
     rw[h2];refine⟨_,rfl,pm,_,rfl,.inl (ae.of af),rfl,_,rfl,?_⟩;rw[b7,dS,fR,beq_eq_false_iff_ne.mpr (show ¬((ar.dropLast.length+1:Nat):Int)=0 by lia)];refine aw ?_;refine⟨CU,λb u e=>?_,?_,_,⟨ts,?_,?_⟩,?_,rfl⟩
     ·rw[am (aH e Ez)];exact sm b u e
     ·rw[am nwm];exact DZ
     ·rw[am Eu];exact Dt
     ·rw[Do];exact Du.lst CL
     rw[af,Do];rfl
    |op v =>
     obtain⟨hv,hl9,h5⟩:=hok;have h5:ar.length<5:=h5
     rw[Qd (show ¬wd (.op v)=⟨#[62]⟩ from λz=>by
      have:=congrArg (λz:Str=>z.cps.toList) z
      simp[wd] at this)]
     refine aw ?_;refine⟨_,rfl,rfl,_,_,rfl,rfl,_,rfl,?_⟩;rw[qP];refine aQ ?_;refine⟨_,rfl,pm,_,rfl,.inl (ae.of CL),_,_,rfl,rfl,_,rfl,?_⟩;rw[b7,dS,Qd (show ¬(5:Int)<((ar.length+1:Nat):Int) by lia)];refine aw ?_;refine⟨_,rfl,.inl ⟨rfl,_,ae.of CL⟩,_,rfl,_,rfl,pm,_,_,.int (b9 n ar:Nat),rfl,rfl,ae.of CL,?_,?_⟩
     ·exact ks n ar
     refine⟨_,rfl,_,rfl,_,rfl,v,n,x,rfl,hn,hv,hl9,λH2 Da=>⟨_,_,rfl,rfl,?_⟩⟩;have EO:=Da _ _ CL;refine⟨pm,_,_,rfl,rfl,EO,(by rw[b7,dS];exact a8 (by lia)),?_⟩;refine⟨CU,λb u e=>?_,?_,_,⟨ts,?_,?_⟩,?_,rfl⟩
     ·rw[am (aH e Ez)];exact Da _ _ (sm b u e)
     ·rw[am nwm];exact Da _ _ DZ
     ·rw[am Eu];exact Da _ _ Dt
     ·rw[Do];exact(Du.same Da).lst EO
     rw[af,Do];dsimp only;rw[cT,<-qL];show some (HO.lst (iv (stk n ar)++[V.int ((b9 n (ar++[v]):Nat):Int)]))=some (HO.lst (iv (stk n (ar++[v]))));rw[kr,kl]
    |pl z =>
     obtain⟨hP,hz5⟩:=hok;rw[Qd (show ¬wd (.pl z)=⟨#[62]⟩ from hP.gt)];refine aw ?_;refine⟨_,rfl,rfl,_,_,rfl,rfl,_,rfl,?_⟩
     have hns:(0+("<":Str).length<=(wd (.pl z)).length&&Builtin.Str.subAt (wd (.pl z)) "<" 0)=false:=by
      obtain⟨c,r,hzc,D1⟩:=hP.hd;rw[i3];show(0+1<=z.length&&Builtin.Str.subAt z ⟨#[60]⟩ 0)=false;have hx:(z.cps.extract 0 (⟨#[60]⟩:Str).length).toList=[c]:=by rw[Array.toList_extract,hzc];rfl
      simp[Builtin.Str.subAt];intro _ h2;have h3:=congrArg Array.toList h2;rw[hx] at h3;simp at h3;exact D1 h3
     rw[hns];refine aw ?_;refine⟨_,rfl,.inl ⟨rfl,_,ae.of Dt⟩,_,rfl,_,rfl,_,rfl,pm,_,_,.int (b9 n ar:Nat),rfl,rfl,ae.of CL,?_,dH,λt ht=>?_⟩
     ·exact ks n ar
     have s2:=ap (o:=.tup [.str z,.int ((b9 n ar:Nat):Int)]) ht;refine⟨pp,_,_,rfl,rfl,s2 _ _ Dt,(by rw[Qb];exact a8 (by lia)),?_⟩;refine⟨CU,λb u e=>?_,?_,_,⟨ts++[t],?_,?_⟩,?_,rfl⟩
     ·rw[am (aH e hpp0)];exact s2 _ _ (sm b u e)
     ·rw[am (Ne.symm npw)];exact s2 _ _ DZ
     ·rw[af,QH];rfl
     ·rw[Do];show cv _ (ts++[t]) (bJ n (fs++[(z,ar)]));rw[show bJ n (fs++[(z,ar)])=bJ n fs++[(z,b9 n ar)] by simp[bJ]];exact((Du.same s2).snoc af).lst (s2 _ _ Dt)
     rw[am (Ne.symm Eu),Do];exact s2 _ _ CL
   have ei:i=pre.length:=by lia
   subst ei;rw[QI] at CL;have hyl:=(Qj hy).1;rw[Qb] at hyl
   rcases hbad with ⟨b,post,e1,hb,k⟩|⟨e1,_⟩|⟨e1,_⟩
   ·have ey:y=V.str b:=by rw[e1,Qi,QB (by simp)] at hy;simp only[Qb,Nat.sub_self,List.getElem?_cons_zero,Option.map_some] at hy;exact(Qw hy).symm
    subst ey;generalize (rn pre).2=ar at CL hb;refine⟨_,rfl,rfl,_,rfl,?_⟩;rw[cp,e_]
    rcases hb with hb|⟨hb,har⟩
    ·rw[Qo hb];refine aQ ?_;exact⟨_,rfl,no k sm⟩
    rw[Qd (by rw[hb];decide)];refine aw ?_;refine⟨_,rfl,rfl,_,rfl,?_⟩;rw[cp,i0,Qo hb];refine aQ ?_;subst har;refine⟨_,rfl,.inl ⟨rfl,_,ae.of CL⟩,pm,_,_,rfl,rfl,CL,(by rw[b7,dS];rw[iv,Qi,show([]:List W).length+1-1=([]:List W).length from rfl,nn];rfl),?_⟩;refine⟨_,rfl,pm,_,rfl,.inl (ae.of af),rfl,_,rfl,?_⟩;have h0:(iv (stk n ([]:List W))).dropLast=[]:=by simp[iv,stk]
    rw[h0];refine aQ ?_;refine⟨_,rfl,no k λb' u e=>?_⟩;rw[am (aH e Ez)];exact sm b' u e
   ·rw[e1,Qb] at hyl;exact absurd hyl (QN _)
   rw[e1,Qb] at hyl;exact absurd hyl (QN _)
  rintro σ' H1 ⟨hip,sm,_,s5,De,CL,rfl⟩;rw[Qb] at hip CL De
  have e1:cr z=pre.map Mm.wd:=by
   rcases hbad with ⟨b,post,e1,_⟩|⟨e1,_⟩|⟨e1,_⟩
   ·rw[e1,QK,Qb,QC] at hip;lia
   ·exact e1
   exact e1
  rw[e1,Qb,QI] at CL De;exact hR _ _ ⟨sm,e1,s5,De,CL,rfl⟩
 rintro σ' H1 ⟨sm,e1,s5,De,CL,rfl⟩;refine⟨_,rfl,pm,_,rfl,.inl (ae.of CL),_,_,rfl,rfl,_,rfl,?_⟩;rw[b7,dS]
 rcases hbad with ⟨b,post,e2,_⟩|⟨_,EK,k⟩|⟨_,D0,k⟩
 ·rw[e2] at e1;have:=congrArg List.length e1;simp at this
 ·have hp:=List.length_pos_iff.mpr EK;rw[Qo (show(1:Int)<(((rn pre).2.length+1:Nat):Int) by lia)];refine aQ ?_;exact⟨_,rfl,no k sm⟩
 rw[D0,Qd (show ¬(1:Int)<((([]:List W).length+1:Nat):Int) by decide)];refine aw ?_;exact⟨_,rfl,k pp H1 hpp sm De⟩
noncomputable def nz(r:List (List Mm.Ev)):List (List Mm.Ev):=if r=[] then [[]] else r
structure DS where
 n:Nat
 rule:Nat
 rws:List (List Mm.Ev)
 kept:Option (List (List Mm.Ev))
structure aT where
 o:Addr
 dx:Addr
 lr:Addr
noncomputable def BG:Option (List (List Mm.Ev))->V
 |none=>.non
 |some r=>.str (cz (nz r))
noncomputable def BH(n rule:Nat)(lr:Addr)(kp:V):List (Str×V):=[("n",.int ((n:Nat):Int)),("rule",.int ((rule:Nat):Int)),("rows",.ref lr),("kept",kp)]
structure a5(C:Addr)(H:Hp)(D:aT)(S:DS):Prop where
 ins:H D.o=some (.ins C D.dx (BH S.n S.rule D.lr (BG S.kept)))
 rws:H D.lr=some (.lst ((S.rws.map aM).map V.str))
def dG(n:Nat)(evs:List Mm.Ev):Prop:=aP n evs/\(rn evs).2=[]/\evs.length<=40
structure bg(S:DS):Prop where
 n6:S.n<=6
 rl:S.rule<2^2^S.n
 len:S.rws.length<=40
 row:∀evs∈S.rws,dG S.n evs
 kp:∀r,S.kept=some r->r.length<=40/\∀evs∈r,dG S.n evs
theorem dG.nil(n:Nat):dG n []:=⟨aP.nil n,rfl,by decide⟩
theorem tm{n:Nat}{r:List (List Mm.Ev)}(hl:r.length<=40)(h:∀evs∈r,dG n evs):dU n (nz r):=by
 unfold nz;split
 ·exact ⟨by simp,by simp,fun evs he=>by
   cases (show evs=[] by simpa using he)
   exact⟨aP.nil n,rfl,by decide⟩⟩
 rename_i hr;exact⟨hr,by lia,λevs he=>⟨(h evs he).1,(h evs he).2.1,by have:=(h evs he).2.2;lia⟩⟩
theorem bg.grs{S:DS}(h:bg S):dU S.n (nz S.rws):=tm h.len h.row
theorem tp(r:List (List Mm.Ev)):Str.join ⟨#[10]⟩ (r.map aM)=cz (nz r):=by
 unfold nz;split
 ·rename_i h;subst h;decide +kernel
 rfl
def gr(D:aT)(H H':Hp):Prop:=∀b u,H b=some u->b≠D.o->b≠D.lr->H' b=some u
theorem a5.ne{C:Addr}{H:Hp}{D:aT}{S:DS}(h:a5 C H D S):D.lr≠D.o:=dI h.rws h.ins (by intro z;cases z)
theorem a5.same{C:Addr}{H H':Hp}{D:aT}{S:DS}(h:a5 C H D S)(s:av H H'):a5 C H' D S:=⟨s _ _ h.ins,s _ _ h.rws⟩
theorem av.frD{H H':Hp}{D:aT}(s:av H H'):gr D H H':=λb u e _ _=>s b u e
noncomputable def S0(n:Nat):DS:=⟨n,aS n,[],none⟩
theorem nC{n:Nat}(h:n<=6):bg (S0 n):=⟨h,iX n,Ql _,λ_ h=>by simp[S0] at h,λ_ h=>by cases h⟩
inductive tq (C:Addr) (vs:List V) (H:Hp) (Q:VK) (E:XK):Prop
 |mk:∀(o dx:Addr),vs=[.ref o]->H o=some (.ins C dx [])->(∀lr H',H lr=none->(∀b u,H b=some u->b≠o->H' b=some u)->a5 C H' ⟨o,dx,lr⟩ (S0 0)->Q .non H')->tq C vs H Q E
noncomputable abbrev BI:List Str:=["self"]
theorem BJ:aK BI ["self"] (aA mW):=⟨rfl,rfl,rfl,by decide +kernel,rfl,by decide +kernel,by decide +kernel⟩
theorem BK(T:All P w K mg AA DD):aF P w K mg base aJ 2 AA.ZH DD.ZH ["self"] (tq AA.c_Desk):=by
 have GE:=d7 (base:=base) T;refine T.z_ZH.F.ok BJ (λvs H Q E h=>?_) (λCJ A outer s H vs Q E hr h=>?_)
 ·obtain⟨o,dx,rfl,_⟩:=h;rfl
 obtain⟨o,dx,rfl,ho,k⟩:=h;have CO:au 1 _:=hr;refine⟨_,(ah (dZ (pv 0) ag rfl) (ah (dZ (pv 0) (aE GE CO rfl T.z_Z6 (aa ag ac)) rfl) (ah (dZ (pv 0) (aO ac) rfl) (ak (dZ (pv 0) jo rfl))))),?_⟩;refine⟨_,rfl,o,AA.c_Desk,dx,_,rfl,ho,T.cl_Desk,T.na_Desk_n,(by show 0<1000;decide),?_⟩;refine⟨0,rfl,by decide,_,rfl,o,AA.c_Desk,dx,_,rfl,af,T.cl_Desk,T.na_Desk_rule,(by show 1<1000;decide),?_⟩;refine⟨Ql _,λlr DW=>⟨_,rfl,o,AA.c_Desk,dx,_,rfl,(am (λe=>by rw[<-e,af] at DW;cases DW)).trans af,T.cl_Desk,T.na_Desk_rows,(by show 2<1000;decide),?_⟩⟩;refine⟨_,rfl,o,AA.c_Desk,dx,_,rfl,af,T.cl_Desk,T.na_Desk_kept,(by show 3<1000;decide),?_⟩;rw[gw] at DW ⊢;have nlo:lr≠o:=λe=>by rw[e,af] at DW;cases DW
 have hl0:H lr=none:=by rw[am nlo] at DW;exact DW
 refine k lr _ hl0 (λb u e n=>?_) ⟨?_,?_⟩
 ·rw[gw,am n,am (aH e hl0),am n];exact e
 ·rw[af];rfl
 rw[am nlo,af];rfl
inductive tw (C:Addr) (vs:List V) (H:Hp) (Q:VK) (E:XK):Prop
 |mk:∀(D:aT) (S:DS) (k:Nat),vs=[.ref D.o,.int ((k:Nat):Int)]->a5 C H D S->k<=6->(∀lr H',H lr=none->gr D H H'->a5 C H' ⟨D.o,D.dx,lr⟩ (S0 k)->Q .non H')->tw C vs H Q E
noncomputable abbrev BL:List Str:=["self","n"]
theorem BM:aK BL ["self","n"] (aA mZ):=⟨rfl,rfl,rfl,by decide +kernel,rfl,by decide +kernel,by decide +kernel⟩
theorem BN(T:All P w K mg AA DD):aF P w K mg base aJ 2 AA.Zx DD.Zx ["self","n"] (tw AA.c_Desk):=by
 have GE:=d7 (base:=base) T;obtain⟨t1,Ds⟩:=T.v_MOST_SWITCHES;refine T.z_Zx.F.ok BM (λvs H Q E h=>?_) (λCJ A outer s H vs Q E hr h=>?_)
 ·obtain⟨D,S,n,rfl,_⟩:=h;rfl
 obtain⟨⟨o,dx,l0⟩,S,n,rfl,hD,hn,k⟩:=h;have CO:au 1 _:=hr;have ho:=hD.ins;refine⟨_,(ah (aB (ax cF (pv 1) (dL (v:=.int 6) rfl Ds ⟨_,rfl⟩) (aq _)) bF aI) (ah (dZ (pv 0) (pv 1) rfl) (ah (dZ (pv 0) (aE GE CO rfl T.z_Z6 (aa (pv 1) ac)) rfl) (ah (dZ (pv 0) (aO ac) rfl) (ak (dZ (pv 0) jo rfl)))))),?_⟩;refine⟨_,rfl,_,_,rfl,rfl,_,rfl,?_⟩;rw[Qd (show ¬(6:Int)<((n:Nat):Int) by lia)];refine aw ?_;refine⟨_,rfl,_,rfl,o,AA.c_Desk,dx,_,rfl,ho,T.cl_Desk,T.na_Desk_n,(by show 4<1000;decide),?_⟩;refine⟨_,rfl,n,rfl,by lia,_,rfl,o,AA.c_Desk,dx,_,rfl,af,T.cl_Desk,T.na_Desk_rule,(by show 4<1000;decide),?_⟩;refine⟨Ql _,λlr DW=>⟨_,rfl,o,AA.c_Desk,dx,_,rfl,(am (λe=>by rw[<-e,af] at DW;cases DW)).trans af,T.cl_Desk,T.na_Desk_rows,(by show 4<1000;decide),?_⟩⟩;refine⟨_,rfl,o,AA.c_Desk,dx,_,rfl,af,T.cl_Desk,T.na_Desk_kept,(by show 4<1000;decide),?_⟩;rw[gw] at DW ⊢;have nlo:lr≠o:=λe=>by rw[e,af] at DW;cases DW
 have hl0:H lr=none:=by rw[am nlo] at DW;exact DW
 refine k lr _ hl0 (λb u e n _=>?_) ⟨?_,?_⟩
 ·rw[gw,am n,am (aH e hl0),am n];exact e
 ·rw[af];rfl
 rw[gw,am nlo,af];rfl
inductive tz (C:Addr) (vs:List V) (H:Hp) (Q:VK) (E:XK):Prop
 |mk:∀(D:aT) (S:DS),vs=[.ref D.o]->a5 C H D S->bg S->Q (.str (cz (nz S.rws))) H->tz C vs H Q E
noncomputable abbrev BO:List Str:=["self"]
theorem BP:aK BO ["self"] (aA m5):=⟨rfl,rfl,rfl,by decide +kernel,rfl,by decide +kernel,by decide +kernel⟩
theorem nE(T:All P w K mg AA DD):aF P w K mg base aJ 1 AA.Zy DD.Zy ["self"] (tz AA.c_Desk):=by
 refine T.z_Zy.F.ok BP (λvs H Q E h=>?_) (λCJ A outer s H vs Q E hr h=>?_)
 ·obtain⟨D,S,rfl,_⟩:=h;rfl
 obtain⟨D,S,rfl,hD,hS,k⟩:=h;refine⟨_,(ak (ay (b5 (K:=K) rfl PySem.F.plainAttrs_str PySem.F.slot_str_join PySem.F.type_str_join (gj (K:=K) rfl) ao (aa (b2 (pv 0) rfl) ac)))),?_⟩;refine⟨rfl,_,rfl,D.o,AA.c_Desk,D.dx,_,_,rfl,hD.ins,T.cl_Desk,T.na_Desk_rows,rfl,_,D.lr,_,rfl,rfl,ae.of hD.rws,(by rw[cA];decide),kC (b:=1100) (k:=40) (λz hz=>?_) (by rw[Qb];exact hS.len) (by decide),?_⟩
 ·obtain⟨evs,he,rfl⟩:=Qn hz;obtain⟨g,_,hl⟩:=hS.row evs he;have:=f9 (Qg hS.n6 (by decide)) g;lia
 rw[cA,tp];exact k
def eL(z:Str):Prop:=z="x\n"∨(10∉z.cps.toList/\tf 0 z)
theorem tE{z:Str}(h:10∉z.cps.toList):Builtin.Str.occurrences z "\n" 0 z.length 1=[]:=by
 refine W.occ_nil_of_no z "\n" 1 λi hi=>?_;rw[cA] at hi ⊢;unfold Builtin.Str.subAt;refine Bool.eq_false_iff.mpr λq=>h ?_;have q2:z.cps.extract i (i+1)=#[10]:=by simpa [show(⟨#[10]⟩:Str).length=1 from rfl] using q
 have q3:=congrArg Array.toList q2;rw[Array.toList_extract] at q3;have:10∈(z.cps.toList.extract i (i+1)):=by rw[q3];simp
 rw[List.extract_eq_drop_take] at this;exact List.mem_of_mem_drop (List.mem_of_mem_take this)
theorem BQ:(Builtin.Str.occurrences ("x\n":Str) "\n" 0 ("x\n":Str).length 1).isEmpty=false:=by decide +kernel
theorem tF{n:Nat}(hn:n<=6){evs:List Mm.Ev}(g:aP n evs):10∉(aM evs).cps.toList:=λh=>by have:=lZ (Qg hn (by decide)) g 10 h;lia
inductive tG (C:Addr) (vs:List V) (H:Hp) (Q:VK) (E:XK):Prop
 |mk:∀(D:aT) (S:DS) (evs:List Mm.Ev),vs=[.ref D.o,.str (aM evs)]->a5 C H D S->bg S->dG S.n evs->S.rws.length<40->(∀H',gr D H H'->a5 C H' D {S with rws:=S.rws++[evs]}->Q .non H')->tG C vs H Q E
def BR(C CG:Addr):Sp:=λvs H _ E=>∃(D:aT) (S:DS) (z:Str),vs=[.ref D.o,.str z]/\a5 C H D S/\S.n=0/\S.rws=[]/\eL z/\dB E CG (.int 0) H
noncomputable abbrev BS:List Str:=["self","row","at"]
theorem tH:aK BS Ys (aA m4):=⟨rfl,rfl,rfl,by decide +kernel,rfl,by decide +kernel,by decide +kernel⟩
theorem BU(T:All P w K mg AA DD):aF P w K mg base (cL (λ_=>True) P w) 7 AA.Zg DD.Zg Ys (λvs H Q E=>tG AA.c_Desk vs H Q E∨BR AA.c_Desk AA.x_NoGroup vs H Q E):=by
 have GX:=BF (base:=base) T;have GI:=sV (base:=base) T;obtain⟨t1,Ef⟩:=T.v_MOST_ROWS;refine T.z_Zg.F.ok2 tH (λvs H Q E h=>?_) (λCJ A outer s H vs Q E hr h=>?_)
 ·rcases h with ⟨D,S,z,rfl,_⟩|⟨D,S,z,rfl,_⟩<;>rfl
 have nd:=tH.nd;have Dd:au 2 _:=hr.mono (by decide);have hr6:au 6 _:=hr
 obtain⟨D,S,z,rfl,hD,hl,hc⟩:∃(D:aT) (S:DS) (z:Str),vs=[.ref D.o,.str z]/\a5 AA.c_Desk H D S/\S.rws.length<=40/\((∃evs,z=aM evs/\bg S/\dG S.n evs/\S.rws.length<40/\∀H',gr D H H'->a5 AA.c_Desk H' D {S with rws:=S.rws++[evs]}->Q .non H')∨(S.n=0/\S.rws=[]/\eL z/\dB E AA.x_NoGroup (.int 0) H)):=by
  rcases h with ⟨D,S,evs,rfl,hD,hS,hR,h4,k⟩|⟨D,S,z,rfl,hD,h0,h1,hb,k⟩
  ·exact⟨D,S,_,rfl,hD,QG h4,.inl ⟨evs,rfl,hS,hR,h4,k⟩⟩
  exact⟨D,S,z,rfl,hD,by rw[h1];decide,.inr ⟨h0,h1,hb,k⟩⟩
 refine⟨_,(ah (aD (i:=2) nd rfl (Or.inl rfl) (bc cY rfl T.n_len bw (aa (b2 (pv 0) rfl) ac))) (ah (aB (ax jw (pv 2) (dL (v:=.int 60) rfl Ef ⟨_,rfl⟩) (aq _)) bF aI) (ah (aB (ax oh ao (pv 1) rfl) (ak (iK eF (iJ trivial) rfl rfl T.m_NoGroup T.M_NoGroup PySem.F.excBase_ValueError GI Dd T.z_Zh.b (aa (pv 2) ac))) aI) (ah (bE (gB GX hr6 rfl T.z_Zs.m T.z_Zs.k T.z_Zs.b .nil (l8 λ_ z=>z) (aa (pv 1) (aa (b2 (pv 0) rfl) (aa (pv 2) ac)))) (by rfl)) (ak (bE (dA (b2 (pv 0) rfl) (aa (pv 1) ac)) (by rfl))))))),?_⟩;refine⟨_,rfl,D.o,AA.c_Desk,D.dx,_,_,rfl,hD.ins,T.cl_Desk,T.na_Desk_rows,rfl,D.lr,_,rfl,.inl (ae.of hD.rws),?_⟩;refine⟨_,rfl,_,_,rfl,rfl,_,rfl,?_⟩;rw[Qb,Qb,Qd (show ¬(60:Int)<=((S.rws.length:Nat):Int) by lia)];refine aw ?_;refine⟨_,rfl,_,_,rfl,rfl,_,rfl,?_⟩
 have no:dB E AA.x_NoGroup (.int 0) H->([V.int 0]:List V).length<=sizeLine/\∀e tt:Addr,H e=none->H tt=none->e≠tt->jb AA.x_NoGroup [.ref e,.int 0] (ai H e (bS e AA.x_NoGroup tt none)) (λv H2=>v=.non/\∃dd,H2 e=some (bS e AA.x_NoGroup tt dd)/\E (.ref AA.x_NoGroup) dd (cW H2 e)) E0:=
  λk=>⟨bZ,λe tt he _ _=>sW k e tt he⟩
 rcases hc with ⟨evs,rfl,hS,hR,h4,k⟩|⟨h0,h1,hb,k⟩
 ·rw[tE (tF hS.n6 hR.1)];refine aw ?_;refine⟨_,rfl,_,rfl,D.o,AA.c_Desk,D.dx,_,_,rfl,hD.ins,T.cl_Desk,T.na_Desk_n,rfl,_,rfl,.inl ⟨evs,S.n,_,rfl,Qg hS.n6 (by decide),hR.1,hR.2.1,Qg hR.2.2 (by decide),λp H1 hp s1 _=>?_⟩⟩;refine⟨_,rfl,D.o,AA.c_Desk,D.dx,_,_,rfl,s1 _ _ hD.ins,T.cl_Desk,T.na_Desk_rows,rfl,.inl ⟨rfl,_,ae.of (s1 _ _ hD.rws)⟩,_,rfl,D.lr,_,_,rfl,rfl,s1 _ _ hD.rws,(by rw[Qb,Qb];exact a8 (by lia)),?_⟩;refine k _ (λb u e n1 n2=>by rw[am n2];exact s1 _ _ e) ⟨by rw[am hD.ne.symm];exact s1 _ _ hD.ins,by rw[af];simp⟩
 obtain⟨n,rule,rws,kept⟩:=S;cases h0;cases h1
 rcases hb with rfl|⟨h10,hw⟩
 ·refine cC (by rw[BQ];rfl) ?_;exact⟨_,rfl,no k⟩
 rw[tE h10];refine aw ?_;exact⟨_,rfl,_,rfl,D.o,AA.c_Desk,D.dx,_,_,rfl,hD.ins,T.cl_Desk,T.na_Desk_n,rfl,_,rfl,.inr ⟨z,0,_,rfl,by decide,hw,k⟩⟩
theorem fA:∀k:Nat,k<=64->((k:Nat):Int).natAbs.log2<1920:=by decide +kernel
theorem g6:∀k:Nat,k<=64->(nS k).length<=2:=by decide +kernel
inductive tI (vs:List V) (H:Hp) (Q:VK) (E:XK):Prop
 |mk:∀(l:Addr) (z:Str) (c:Nat) (v:V) (b:Str),vs=[.ref l]->H l=some (.lst [.str z,.int ((c:Nat):Int),v])->z.length<=1000->c<=64->b.length<=1000->(v=.str b∨∃i:Nat,v=.int ((i:Nat):Int)/\i<=64/\b=nS i)->(∀H',av H H'->Q (.str (Str.join ⟨#[32]⟩ [z,nS c,b])) H')->tI vs H Q E
noncomputable abbrev tJ:List Str:=["values"]
theorem BV:aK tJ ["values"] (aA kg):=⟨rfl,rfl,rfl,by decide +kernel,rfl,by decide +kernel,by decide +kernel⟩
theorem BW(T:All P w K mg AA DD):aF P w K mg base aJ 1 AA.ZF DD.ZF ["values"] tI:=by
 refine T.z_ZF.F.ok BV (λvs H Q E h=>?_) (λCJ A outer s H vs Q E hr h=>?_)
 ·obtain⟨l,z,c,v,b,rfl,_⟩:=h;rfl
 obtain⟨l,z,c,v,b,rfl,hl,hz,hc,hb,hv,k⟩:=h;refine⟨_,(ak (ay (b5 (K:=K) rfl PySem.F.plainAttrs_str PySem.F.slot_str_join PySem.F.type_str_join (gj (K:=K) rfl) ao (aa (cU (aA kg) tJ [] [] rfl (by decide +kernel) rfl rfl (cZ (pv 0)) (λ_ _ _ _=>cy) (λ_ _ _ _=>(cI iM rfl T.n_str du (aa (pv 0) ac)))) ac)))),?_⟩;refine⟨rfl,_,rfl,l,rfl,⟨_,ae.of hl⟩,?_⟩;refine iw (K:=K0) (a:=l) (xs:=[.str z,.int ((c:Nat):Int),v]) (λi ys H'=>H'=H/\i<=3/\ys=(([z,nS c,b]:List Str).take i).map V.str) ⟨rfl,Ql _,rfl⟩ (λi ys H' _ h=>by rw[h.1];exact ae.of hl) ?_ ?_
 ·rintro i x ys H1 hx ⟨rfl,hi,rfl⟩;refine dt ?_;rw[if_pos rfl];have fin:∀{n:Nat},n<=3->n<sizeLine:=λh=>a8 (by lia)
  match i,hx with
  |0,hx =>
   cases hx;exact⟨_,rfl,.inr ⟨z,rfl,fin (by simp),rfl,by lia,rfl⟩⟩
  |1,hx =>
   cases hx;exact⟨_,rfl,.inl ⟨_,rfl,fA c hc,fin (by simp),rfl,by lia,rfl⟩⟩
  |2,hx =>
   cases hx
   rcases hv with rfl|⟨j,rfl,hj,rfl⟩
   ·exact⟨_,rfl,.inr ⟨b,rfl,fin (by simp),rfl,by lia,rfl⟩⟩
   exact⟨_,rfl,.inl ⟨_,rfl,fA j hj,fin (by simp),rfl,by lia,rfl⟩⟩
 rintro ys H1 ⟨rfl,_,rfl⟩ p hp;have hc2:=g6 c hc;refine⟨_,p,[z,nS c,b],rfl,rfl,ae.of af,(by rw[cO];decide),(by simp;lia),?_⟩;rw[cO];exact k _ (ap hp)
noncomputable def jc:List Nat->Str
 | []=>"none"
 |s::_=>nS s
noncomputable def jd(n m rule:Nat):Str:=Str.join ⟨#[32]⟩ [aU (sh n n m),nS (aR (m&&&rule) (2^n)).length,jc (aR (m&&&rule) (2^n))]
theorem BX{m t q N:Nat}(e:m=2^(t+1)*q+2^t)(h:m<2^N):∃r,aR m N=t::r:=by
 have hb:m.testBit t=true:=by rw[e];exact yy t q
 have ht:t<N:=Nat.lt_of_not_le λz=>by have:=Nat.testBit_lt_two_pow (Qe h (QF (by decide) z));rw[hb] at this;cases this
 have h0:∀i,i<=t->aR m i=[]:=by
  intro i
  induction i with
  |zero=>intro _;rfl
  |succ i ih =>
   intro hi;rw[iY,ih (by omega),if_neg (by rw[e,yx (by omega)];exact Qf)]
 have h1:∀j,∃r,aR m (t+1+j)=t::r:=by
  intro j
  induction j with
  |zero=>exact⟨[],by rw[Nat.add_zero,iY,h0 t (Qk _),if_pos hb];rfl⟩
  |succ j ih =>
   obtain⟨r,e2⟩:=ih;rw[<-Nat.add_assoc,iY,e2];split
   ·exact⟨r++[_],rfl⟩
   exact⟨r,rfl⟩
 obtain⟨r,e2⟩:=h1 (N-(t+1));exact⟨r,by rw[<-e2];congr 1;omega⟩
theorem BY{N:Nat}:aR 0 N=[]:=by unfold aR;rw[List.filter_eq_nil_iff];intro s _;rw[Nat.zero_testBit];exact Qf
theorem kE(m N:Nat):(aR m N).length<=N:=by have:=List.length_filter_le (λs=>m.testBit s) (List.range N);rwa [List.length_range] at this
theorem fB{n:Nat}(h:n<=6):2^n<=64:=QF (show 0<2 by decide) h
end
section
variable {P:Program}{w:World}{K:W.Frag}{mg:Str->Option Value}{base:Heap}{AA:fm}{DD:fq}
def g9(n:Nat)(v:W):Prop:=v.ok n/\v.signs.length<=9
inductive tK (C:Addr) (vs:List V) (H:Hp) (Q:VK) (E:XK):Prop
 |mk:∀(D:aT) (S:DS) (v:W),vs=[.ref D.o,.str (aU v)]->a5 C H D S->bg S->g9 S.n v->(∀H',av H H'->Q (.str (jd S.n (v.val (bB S.n) (aS S.n)) S.rule)) H')->tK C vs H Q E
noncomputable abbrev BZ:List Str:=["self","text","mask","here"]
theorem tM:aK BZ ["self","text"] (aA m6):=⟨rfl,rfl,rfl,by decide +kernel,rfl,by decide +kernel,by decide +kernel⟩
theorem B0(T:All P w K mg AA DD):aF P w K mg base aJ 15 AA.Zb DD.Zb ["self","text"] (tK AA.c_Desk):=by
 have GR:=iZ (base:=base) T;have GW:=qJ (base:=base) T;have GSW:=sr (base:=base) T;have GLS:=Bj (base:=base) T;have GIB:=BW (base:=base) T;refine T.z_Zb.F.ok tM (λvs H Q E h=>?_) (λCJ A outer s H vs Q E hr h=>?_)
 ·obtain⟨D,S,v,rfl,_⟩:=h;rfl
 obtain⟨D,S,v,rfl,hD,hS,⟨hv,hl⟩,k⟩:=h;have nd:=tM.nd;have CO:au 1 _:=hr.mono (by decide);have Dr:au 3 _:=hr.mono (by decide);have Dv:au 4 _:=hr.mono (by decide);have hr14:au 14 _:=hr;have hn:S.n<=10:=Qg hS.n6 (by decide);refine⟨_,(ah (aD (i:=2) nd rfl (Or.inl rfl) (aE GR Dv rfl T.z_ZB (aa (pv 1) (aa (b2 (pv 0) rfl) ac)))) (ah (aD (i:=3) nd rfl (Or.inl rfl) (aj cR (pv 2) (b2 (pv 0) rfl))) (ak (ay (aE GIB CO rfl T.z_ZF (aa (aO (aa (aE GSW hr14 rfl T.z_Zq (aa (pv 2) (aa (b2 (pv 0) rfl) ac))) (aa (aE GW Dr rfl T.z_ZK (aa (pv 3) ac)) (aa (kR (ax aN (pv 3) ag (aq _)) ao (aE GLS CO rfl T.z_Z7 (aa (pv 3) ac))) ac)))) ac)))))),?_⟩;refine⟨_,rfl,_,rfl,D.o,AA.c_Desk,D.dx,_,_,rfl,hD.ins,T.cl_Desk,T.na_Desk_n,rfl,aU v,S.n,v.val (bB S.n) (aS S.n),rfl,hn,gm hn v hv,(by show v.signs.toArray.size<=4000;simp;lia),iE (by rw[iW];exact Qk _) hn hv,λH1 s1=>?_⟩;have hm:v.val (bB S.n) (aS S.n)<2^2^S.n:=jQ (iX S.n) ko v;generalize v.val (bB S.n) (aS S.n)=m at hm k ⊢;have hD1:=hD.same s1;refine⟨_,rfl,_,rfl,D.o,AA.c_Desk,D.dx,_,_,rfl,hD1.ins,T.cl_Desk,T.na_Desk_rule,rfl,_,_,rfl,rfl,?_⟩;rw[cT];have hh:m&&&S.rule<2^2^S.n:=QD Nat.and_le_left hm;have h6:=fB hS.n6;have hB:m&&&S.rule<2^1024:=Qe hh (QF (by decide) (by lia));have hsl:=kE (m&&&S.rule) (2^S.n);dsimp only[a7];refine⟨_,rfl,_,rfl,D.o,AA.c_Desk,D.dx,_,_,rfl,hD1.ins,T.cl_Desk,T.na_Desk_n,rfl,m,S.n,rfl,hn,hm,λz hz=>?_⟩;have ez:z=aU (sh S.n S.n m):=cV (by rw[hz];rfl);subst ez;refine⟨_,rfl,_,rfl,hB,λH2 s2=>?_⟩;rw[nl hh];have DR:(aU (sh S.n S.n m)).length<=1000:=by have:=gS (n:=S.n) S.n m;show(sh S.n S.n m).signs.toArray.size<=1000;rw[Qv];lia
 refine⟨_,rfl,rfl,_,rfl,?_⟩;have Dn:=s1.trans s2;have kk:∀b H',jc (aR (m&&&S.rule) (2^S.n))=b->av H H'->Q (.str (Str.join ⟨#[32]⟩ [aU (sh S.n S.n m),nS (aR (m&&&S.rule) (2^S.n)).length,b])) H':=λb H' e s=>by subst e;exact k H' s
 by_cases h0:m&&&S.rule=0
 ·refine cC (Qo (by rw[h0];rfl)) ?_;refine⟨fF,λl hl0=>?_⟩;exact⟨l,_,_,_,"none",rfl,af,DR,by lia,by decide +kernel,.inl rfl,λH3 s3=>kk _ _ (by rw[h0,BY];rfl) ((Dn.trans (ap hl0)).trans s3)⟩
 refine a6 (Qd λz=>h0 (by injection z with z;lia)) ?_;refine⟨_,rfl,m&&&S.rule,rfl,h0,λt q e=>?_⟩;obtain⟨r,er⟩:=BX e hh;have ht:=iC (show t∈aR (m&&&S.rule) (2^S.n) by rw[er];exact Qp);refine⟨fF,λl hl0=>?_⟩;exact⟨l,_,_,_,nS t,rfl,af,DR,by lia,Qg (g6 t (by lia)) (by decide),.inr ⟨t,rfl,by lia,rfl⟩,λH3 s3=>kk _ _ (by rw[er];rfl) ((Dn.trans (ap hl0)).trans s3)⟩
noncomputable def fC(r r':List (List Mm.Ev)):Str:=if cutD 0 (aZ 0 (nz r))=cutD 0 (aZ 0 (nz r')) then "alike" else "0"
inductive tN (C:Addr) (vs:List V) (H:Hp) (Q:VK) (E:XK):Prop
 |mk:∀(D:aT) (S:DS) (r:List (List Mm.Ev)),vs=[.ref D.o]->a5 C H D S->bg S->S.n=0->S.rule=1->S.kept=some r->(∀H',av H H'->Q (.str (fC r S.rws)) H')->tN C vs H Q E
noncomputable abbrev B1:List Str:=["self","s"]
theorem tO:aK B1 ["self"] (aA m7):=⟨rfl,rfl,rfl,by decide +kernel,rfl,by decide +kernel,by decide +kernel⟩
theorem B2(T:All P w K mg AA DD):aF P w K mg base aJ 9 AA.Zc DD.Zc ["self"] (tN AA.c_Desk):=by
 have GDW:=nE (base:=base) T;have GP:=Bc (base:=base) T;refine T.z_Zc.F.ok tO (λvs H Q E h=>?_) (λCJ A outer s H vs Q E hr h=>?_)
 ·obtain⟨D,S,r,rfl,_⟩:=h;rfl
 obtain⟨D,⟨n,rule,rws,kept⟩,r,rfl,hD,hS,h1,h2,h3,k⟩:=h;cases h1;cases h2;cases h3;have nd:=tO.nd;have CO:au 1 _:=hr.mono (by decide);have hr8:au 8 _:=hr;have hk:=hS.kp r rfl;refine⟨_,(ah (aB (jp (kP (b2 (pv 0) rfl))) bF aI) (ah (aD (i:=1) nd rfl (Or.inl rfl) (aE GP hr8 rfl T.z_Z5 (aa (b2 (pv 0) rfl) (aa (jz (pv 0) T.cl_Desk T.M_Zy GDW CO T.z_Zy.b .nil cK) (aa (b2 (pv 0) rfl) (aa (b2 (pv 0) rfl) ac)))))) (ak (ay (kR (jp (kP (pv 1))) ao (cI gP rfl T.n_str du (aa (pv 1) ac))))))),?_⟩;refine⟨_,rfl,D.o,AA.c_Desk,D.dx,_,_,rfl,hD.ins,T.cl_Desk,T.na_Desk_kept,rfl,_,rfl,?_⟩;refine aw ?_;refine⟨_,rfl,D.o,AA.c_Desk,D.dx,_,_,rfl,hD.ins,T.cl_Desk,T.na_Desk_kept,rfl,?_⟩;refine⟨_,rfl,D.o,D.dx,_,rfl,hD.ins,rfl,D,_,rfl,hD,hS,?_⟩;refine⟨_,rfl,D.o,AA.c_Desk,D.dx,_,_,rfl,hD.ins,T.cl_Desk,T.na_Desk_n,rfl,_,rfl,D.o,AA.c_Desk,D.dx,_,_,rfl,hD.ins,T.cl_Desk,T.na_Desk_rule,rfl,?_⟩;refine⟨nz r,nz rws,0,1,rfl,by decide,by decide,tm hk.1 hk.2,hS.grs,λH' s s1 hs _ hd _=>?_,λH' s1 hn=>?_⟩
 ·have e0:s=0:=by have:s<1:=hs;lia
  subst e0;refine⟨_,rfl,_,rfl,?_⟩;refine aw ?_;refine⟨_,rfl,_,rfl,by decide,?_⟩;have:=k H' s1;rw[fC,if_neg hd] at this;exact this
 refine⟨_,rfl,_,rfl,?_⟩;refine aQ ?_;have:=k H' s1;have h0:cutD 0 (aZ 0 (nz r))=cutD 0 (aZ 0 (nz rws)):=Decidable.byContradiction λz=>hn 0 (by decide) (by decide) z;rw[fC,if_pos h0] at this;exact this
end
section
variable {P:Program}{w:World}{K:W.Frag}{mg:Str->Option Value}{base:Heap}{AA:fm}{DD:fq}
inductive cm:DS->Om->DS->Prop
 |sw (S:DS) (k:Nat):k<=6->cm S (.num "switches" k) (S0 k)
 |rule (S:DS) (v:W):g9 S.n v->cm S (.wish "rule" (aU v)) {S with rule:=v.val (bB S.n) (aS S.n)}
 |row (S:DS) (evs:List Mm.Ev):dG S.n evs->S.rws.length<40->cm S (.row (aM evs)) {S with rws:=S.rws++[evs]}
 |keep (S:DS):cm S (.bare "keep") {S with kept:=some S.rws}
 |tidy (S:DS):S.rws=[]->cm S (.bare "tidy") S
theorem cm.dok{S S':DS}{O:Om}(h:cm S O S')(d:bg S):bg S':=by
 cases h with
 |sw k hk=>exact nC hk
 |rule v hv=>exact⟨d.n6,jQ (iX S.n) ko v,d.len,d.row,d.kp⟩
 |row evs hr hl=>exact⟨d.n6,d.rl,(by show(S.rws++[evs]).length<=40;simp;lia),λe he=>(Qx he).elim (d.row e) λhe=>by rw[List.mem_singleton.mp he];exact hr,d.kp⟩
 |keep=>exact⟨d.n6,d.rl,d.len,d.row,λr e=>by cases e;exact⟨d.len,d.row⟩⟩
 |tidy _=>exact d
inductive tP (C:Addr) (vs:List V) (H:Hp) (Q:VK) (E:XK):Prop
 |mk:∀(D:aT) (S S':DS) (O:Om) (p:Addr),vs=[.ref D.o,.ref p]->H p=some (.lst O.vs)->a5 C H D S->bg S->cm S O S'->(∀D' H',D'.o=D.o->D'.dx=D.dx->(D'.lr=D.lr∨H D'.lr=none)->gr D H H'->a5 C H' D' S'->Q .non H')->tP C vs H Q E
def B3(C CG:Addr):Sp:=λvs H _ E=>∃(D:aT) (S:DS) (z:Str) (p:Addr),vs=[.ref D.o,.ref p]/\H p=some (.lst [.str "row",.str z])/\a5 C H D S/\S.n=0/\S.rws=[]/\eL z/\dB E CG (.int 0) H
noncomputable abbrev B4:List Str:=["self","order","word"]
theorem tQ:aK B4 Yn (aA mY):=⟨rfl,rfl,rfl,by decide +kernel,rfl,by decide +kernel,by decide +kernel⟩
theorem B5(T:All P w K mg AA DD):aF P w K mg base (cL (λ_=>True) P w) 8 AA.Zn DD.Zn Yn (λvs H Q E=>tP AA.c_Desk vs H Q E∨B3 AA.c_Desk AA.x_NoGroup vs H Q E):=by
 have GDB:=BN (base:=base) T;have GR:=iZ (base:=base) T;have GDP:=BU (base:=base) T;have GDW:=nE (base:=base) T;refine T.z_Zn.F.ok2 tQ (λvs H Q E h=>?_) (λCJ A outer s H vs Q E hr h=>?_)
 ·rcases h with ⟨D,S,S',O,p,rfl,_⟩|⟨D,S,z,p,rfl,_⟩<;>rfl
 have nd:=tQ.nd;have CO:au 1 _:=hr.mono (by decide);have Dd:au 2 _:=hr.mono (by decide);have Dv:au 4 _:=hr.mono (by decide);have EJ:au 7 _:=hr;refine⟨_,(ah (aD (i:=2) nd rfl (Or.inl rfl) (d6 (pv 1))) (ak (aB (ax aN (pv 2) ao (aq _)) (ak (bE (bf (pv 0) T.cl_Desk T.M_Zx GDB Dd T.z_Zx.b .nil cK (aa (d6 (pv 1)) ac)) (by rfl))) (ak (aB (ax aN (pv 2) ao (aq _)) (ak (dZ (pv 0) (aE GR Dv rfl T.z_ZB (aa (d6 (pv 1)) (aa (b2 (pv 0) rfl) ac))) rfl)) (ak (aB (ax aN (pv 2) ao (aq _)) (ak (bE (bf (pv 0) T.cl_Desk T.M_Zg GDP EJ T.z_Zg.b .nil (l8 λ_ z=>z) (aa (d6 (pv 1)) ac)) (by rfl))) (ak (aB (ax aN (pv 2) ao (aq _)) (ak (dZ (pv 0) (jz (pv 0) T.cl_Desk T.M_Zy GDW CO T.z_Zy.b .nil cK) rfl)) (ak (aB (ax cF (bc cY rfl T.n_len bw (aa (b2 (pv 0) rfl) ac)) ag (aq _)) bF aI))))))))))),?_⟩
 rcases h with ⟨D,S,S',O,p,rfl,hp,hD,hS,hC,k⟩|⟨D,S,z,p,rfl,hp,hD,h0,h1,hb,hX⟩
 ·cases hC with
  |sw n hn =>
   refine⟨_,rfl,p,_,0,_,rfl,rfl,ae.of hp,aX (j:=0) rfl,?_⟩;refine⟨_,rfl,rfl,_,rfl,?_⟩;refine cC (by decide +kernel) ?_;refine⟨_,rfl,D.o,D.dx,_,rfl,hD.ins,rfl,_,rfl,p,_,1,_,rfl,rfl,ae.of hp,aX (j:=1) rfl,?_⟩;exact⟨D,S,n,rfl,hD,hn,λlr H' hl hf hd=>k ⟨D.o,D.dx,lr⟩ H' rfl rfl (.inr hl) hf hd⟩
  |rule v hv =>
   refine⟨_,rfl,p,_,0,_,rfl,rfl,ae.of hp,aX (j:=0) rfl,?_⟩;refine⟨_,rfl,rfl,_,rfl,?_⟩;refine a6 (by decide +kernel) ?_;refine⟨_,rfl,rfl,_,rfl,?_⟩;refine cC (by decide +kernel) ?_;refine⟨_,rfl,p,_,1,_,rfl,rfl,ae.of hp,aX (j:=1) rfl,_,rfl,D.o,AA.c_Desk,D.dx,_,_,rfl,hD.ins,T.cl_Desk,T.na_Desk_n,rfl,?_⟩;have hn:S.n<=10:=Qg hS.n6 (by decide);refine⟨aU v,S.n,v.val (bB S.n) (aS S.n),rfl,hn,gm hn v hv.1,(by have:=hv.2;show v.signs.toArray.size<=4000;simp;lia),iE (by rw[iW];exact Qk _) hn hv.1,λH1 s1=>?_⟩;refine⟨_,rfl,D.o,AA.c_Desk,D.dx,_,rfl,s1 _ _ hD.ins,T.cl_Desk,T.na_Desk_rule,(by show 4<1000;decide),?_⟩;exact k D _ rfl rfl (.inl rfl) (λb u e n1 n2=>by rw[am n1];exact s1 _ _ e) ⟨af,by rw[am hD.ne];exact s1 _ _ hD.rws⟩
  |row evs hR h4 =>
   refine⟨_,rfl,p,_,0,_,rfl,rfl,ae.of hp,aX (j:=0) rfl,?_⟩;refine⟨_,rfl,rfl,_,rfl,?_⟩;refine a6 (by decide +kernel) ?_;refine⟨_,rfl,rfl,_,rfl,?_⟩;refine a6 (by decide +kernel) ?_;refine⟨_,rfl,rfl,_,rfl,?_⟩;refine cC (by decide +kernel) ?_;refine⟨_,rfl,D.o,D.dx,_,rfl,hD.ins,rfl,_,rfl,p,_,1,_,rfl,rfl,ae.of hp,aX (j:=1) rfl,?_⟩;exact .inl ⟨D,S,evs,rfl,hD,hS,hR,h4,λH' hf hd=>k D H' rfl rfl (.inl rfl) hf hd⟩
  |keep =>
   refine⟨_,rfl,p,_,0,_,rfl,rfl,ae.of hp,aX (j:=0) rfl,?_⟩;refine⟨_,rfl,rfl,_,rfl,?_⟩;refine a6 (by decide +kernel) ?_;refine⟨_,rfl,rfl,_,rfl,?_⟩;refine a6 (by decide +kernel) ?_;refine⟨_,rfl,rfl,_,rfl,?_⟩;refine a6 (by decide +kernel) ?_;refine⟨_,rfl,rfl,_,rfl,?_⟩;refine cC (by decide +kernel) ?_;refine⟨_,rfl,D.o,D.dx,_,rfl,hD.ins,rfl,D,S,rfl,hD,hS,?_⟩;refine⟨_,rfl,D.o,AA.c_Desk,D.dx,_,rfl,hD.ins,T.cl_Desk,T.na_Desk_kept,(by show 4<1000;decide),?_⟩;exact k D _ rfl rfl (.inl rfl) (λb u e n1 n2=>by rw[am n1];exact e) ⟨af,by rw[am hD.ne];exact hD.rws⟩
  |tidy h0 =>
   refine⟨_,rfl,p,_,0,_,rfl,rfl,ae.of hp,aX (j:=0) rfl,?_⟩;refine⟨_,rfl,rfl,_,rfl,?_⟩;refine a6 (by decide +kernel) ?_;refine⟨_,rfl,rfl,_,rfl,?_⟩;refine a6 (by decide +kernel) ?_;refine⟨_,rfl,rfl,_,rfl,?_⟩;refine a6 (by decide +kernel) ?_;refine⟨_,rfl,rfl,_,rfl,?_⟩;refine a6 (by decide +kernel) ?_;refine⟨_,rfl,D.o,AA.c_Desk,D.dx,_,_,rfl,hD.ins,T.cl_Desk,T.na_Desk_rows,rfl,D.lr,_,rfl,.inl (ae.of hD.rws),?_⟩;refine⟨_,_,rfl,rfl,_,rfl,?_⟩;refine a6 (by rw[h0];rfl) ?_;exact k D _ rfl rfl (.inl rfl) (λb u e _ _=>e) hD
 refine⟨_,rfl,p,_,0,_,rfl,rfl,ae.of hp,aX (j:=0) rfl,?_⟩;refine⟨_,rfl,rfl,_,rfl,?_⟩;refine a6 (by decide +kernel) ?_;refine⟨_,rfl,rfl,_,rfl,?_⟩;refine a6 (by decide +kernel) ?_;refine⟨_,rfl,rfl,_,rfl,?_⟩;refine cC (by decide +kernel) ?_;refine⟨_,rfl,D.o,D.dx,_,rfl,hD.ins,rfl,_,rfl,p,_,1,_,rfl,rfl,ae.of hp,aX (j:=1) rfl,?_⟩;exact .inr ⟨D,S,z,rfl,hD,h0,h1,hb,hX⟩
theorem tR{zs:List Str}(h0:zs≠[])(h:∀z∈zs,10∉z.cps.toList):Txt.split (Str.join ⟨#[10]⟩ zs) "\n"=zs:=by rw[cA];exact gM h0 h
noncomputable def nF(S:DS):List Nat:=dE (fw S.rule) (aZ S.n (nz S.rws)) (aZ S.n (nz S.rws)).length
noncomputable def tS(S:DS):List Nat:=dE (gq S.rule) (aZ S.n (nz S.rws)) (aZ S.n (nz S.rws)).length
noncomputable def fD(S:DS)(s:Nat):List Str:=(cutD s (aZ S.n (nz S.rws))).map (Str.join ⟨#[32]⟩)
inductive bK:DS->Om->List Str->Prop
 |text (S:DS):bK S (.bare "text") ((nz S.rws).map aM)
 |cut (S:DS) (s:Nat):s<2^S.n->bK S (.num "cut" s) (fD S s)
 |wish (S:DS) (v:W):g9 S.n v->bK S (.wish "wish" (aU v)) [jd S.n (v.val (bB S.n) (aS S.n)) S.rule]
 |dead (S:DS):bK S (.bare "dead") ((nF S).map nS)
 |lonely (S:DS):bK S (.bare "lonely") ((tS S).map nS)
 |part (S:DS) (r:List (List Mm.Ev)):S.n=0->S.rule=1->S.kept=some r->bK S (.bare "part") [fC r S.rws]
theorem tT(r:List (List Mm.Ev)):nz r≠[]:=by
 unfold nz;split
 ·simp
 assumption
theorem tU{S:DS}(h:bg S):Txt.split (cz (nz S.rws)) "\n"=(nz S.rws).map aM:=
 tR (by simpa using tT _) λz hz=>by obtain⟨evs,he,rfl⟩:=Qn hz;exact tF h.n6 (h.grs.2.2 evs he).1
theorem tV{S:DS}(h:bg S):(cz (nz S.rws)).length+2<=sizeLine:=by
 have hl:(nz S.rws).length<=60:=h.grs.2.1;have:=kB (c:=10) (b:=1100) (zs:=(nz S.rws).map aM) λz hz=>by obtain⟨evs,he,rfl⟩:=Qn hz;have h3:=h.grs.2.2 evs he;have:=f9 (Qg h.n6 (by decide)) h3.1;lia
 rw[Qb] at this;refine Qg (show _<=100000 from ?_) (show 100000<=sizeLine by decide);show(Str.join ⟨#[10]⟩ ((nz S.rws).map aM)).length+2<=100000;lia
theorem tW{S:DS}(h:bg S)(s:Nat):Txt.split (nv s S.n (nz S.rws)) "\n"=fD S s:=by
 refine tR (by simpa [cutD,aZ] using tT _) λz hz hc=>?_;obtain⟨zs,hzs,rfl⟩:=Qn hz;rw[join_list] at hc
 rcases jR hc with e|⟨l,hl,hd⟩
 ·cases e
 obtain⟨z,hz,rfl⟩:=Qn hl;have:=(((i6 h.grs) zs hzs).2 z hz).2.sg 10 hd;omega
theorem tX{S:DS}(h:bg S)(s:Nat):(nv s S.n (nz S.rws)).length+2<=sizeLine:=by
 have hl:=(gp h.grs).1;have:=kB (c:=10) (b:=600) (zs:=fD S s) λz hz=>by obtain⟨zs,hzs,rfl⟩:=Qn hz;obtain⟨h1,h2⟩:=(i6 h.grs) zs hzs;have:=kB (c:=32) (b:=5) λz hz=>(h2 z hz).1;lia
 have e:(fD S s).length=(aZ S.n (nz S.rws)).length:=by simp[fD,cutD]
 rw[e] at this;refine Qg (show _<=100000 from ?_) (show 100000<=sizeLine by decide);show(Str.join ⟨#[10]⟩ (fD S s)).length+2<=100000;lia
theorem hI{f:List (Str×Nat)->Bool}{CF:List (List (Str×Nat))}{n:Nat}:∀j∈dE f CF n,j<n:=λj hj=>List.mem_range.mp (List.mem_filter.mp hj).1
theorem kF(f:List (Str×Nat)->Bool)(CF:List (List (Str×Nat)))(i:Nat):(dE f CF i).length<=i:=by have:=nw f CF i;simpa [bH] using this
theorem kG{q:Addr}{l:List Nat}{H:Hp}{σ:List (Option V)}{C:VK}(hl:l.length<=60)(hb:∀j∈l,j<60)(hq:H q=some (.lst (bH l)))(k:∀p,H p=none->C (.ref p) (ai H p (.lst ((l.map nS).map V.str)))) :
  iu (eu K0 q) [] lI (lp (λxs H Q=>(∃i:Int,xs=[V.int i]/\i.natAbs.log2<1920/\Q (V.str (toString i)) H)∨∃z,xs=[V.str z]/\Q (V.str z) H) (oy (ib 0) jy)) σ H C:=by
 refine iw (K:=K0) (a:=q) (xs:=bH l) (λi ys H'=>H'=H/\i<=60/\ys=((l.take i).map nS).map V.str) ⟨rfl,Ql _,rfl⟩ (λi ys H' _ h=>by rw[h.1];exact ae.of hq) ?_ ?_
 ·rintro i x ys H1 hx ⟨rfl,hi,rfl⟩;refine dt ?_;rw[if_pos rfl];unfold bH at hx;rw[Qi] at hx;obtain⟨j,hj,rfl⟩:=Option.map_eq_some_iff.mp hx;have hi2:=(Qj hj).1;have hj6:=hb j (QM hj);refine⟨_,rfl,.inl ⟨_,rfl,fA j (by lia),(by simp;exact a8 (by lia)),rfl,by lia,?_⟩⟩;rw[List.take_succ,hj];simp[nS]
 rintro ys H1 ⟨rfl,_,rfl⟩ p hp;have e:(bH l).length=l.length:=by simp[bH]
 rw[e,QI];exact k p hp
inductive tY (C:Addr) (vs:List V) (H:Hp) (Q:VK) (E:XK):Prop
 |mk:∀(D:aT) (S:DS) (O:Om) (ts:List Str) (p:Addr),vs=[.ref D.o,.ref p]->H p=some (.lst O.vs)->a5 C H D S->bg S->bK S O ts->(∀q H',H q=none->av H H'->H' q=some (.lst (ts.map V.str))->Q (.ref q) H')->tY C vs H Q E
noncomputable abbrev nG:List Str:=["self","order","word","text"]
theorem tZ:aK nG Yn (aA iT):=⟨rfl,rfl,rfl,by decide +kernel,rfl,by decide +kernel,by decide +kernel⟩
theorem B6(T:All P w K mg AA DD):aF P w K mg base aJ 16 AA.Zp DD.Zp Yn (tY AA.c_Desk):=by
 have GDW:=nE (base:=base) T;have GWT:=B0 (base:=base) T;have GZ:=rK (base:=base) T;have GY:=ku (base:=base) T;have GDD:=rX (base:=base) T;have GLN:=sd (base:=base) T;have GPT:=B2 (base:=base) T;refine T.z_Zp.F.ok tZ (λvs H Q E h=>?_) (λCJ A outer s H vs Q E hr h=>?_)
 ·obtain⟨D,S,O,ts,p,rfl,_⟩:=h;rfl
 obtain⟨D,S,O,ts,p,rfl,hp,hD,hS,hA,k⟩:=h;have nd:=tZ.nd;have CO:au 1 _:=hr.mono (by decide);have Dr:au 3 _:=hr.mono (by decide);have Dv:au 4 _:=hr.mono (by decide);have EJ:au 7 _:=hr.mono (by decide);have hr8:au 8 _:=hr.mono (by decide);have hr9:au 9 _:=hr.mono (by decide);have hr15:au 15 _:=hr;refine⟨_,(ah (aD (i:=2) nd rfl (Or.inl rfl) (d6 (pv 1))) (ah (aD (i:=3) nd rfl (Or.inl rfl) (jz (pv 0) T.cl_Desk T.M_Zy GDW CO T.z_Zy.b .nil cK)) (ah (aB (ax aN (pv 2) ao (aq _)) (ak (ay (b5 (K:=K) rfl PySem.F.plainAttrs_str PySem.F.slot_str_split PySem.F.type_str_split eZ (pv 3) (aa ao ac)))) aI) (ah (aB (ax aN (pv 2) ao (aq _)) (ak (ay (aO (aa (bf (pv 0) T.cl_Desk T.M_Zb GWT hr15 T.z_Zb.b .nil cK (aa (d6 (pv 1)) ac)) ac)))) aI) (ah (aB (ax aN (pv 2) ao (aq _)) (ak (ay (b5 (K:=K) rfl PySem.F.plainAttrs_str PySem.F.slot_str_split PySem.F.type_str_split eZ (aE GZ hr8 rfl T.z_ZP (aa (pv 3) (aa (b2 (pv 0) rfl) (aa (d6 (pv 1)) ac)))) (aa ao ac)))) aI) (ah (aB (ax aN (pv 2) ao (aq _)) (ak (ay (cU (aA iT) nG [] [] rfl (by decide +kernel) rfl rfl (cZ (aE GDD Dr rfl T.z_ZD (aa (aE GY EJ rfl T.z_ZC (aa (pv 3) (aa (b2 (pv 0) rfl) ac))) (aa (b2 (pv 0) rfl) ac)))) (λ_ _ _ _=>cy) (λ_ _ _ _=>(cI iM rfl T.n_str du (aa (pv 0) ac)))))) aI) (ah (aB (ax aN (pv 2) ao (aq _)) (ak (ay (cU (aA iT) nG [] [] rfl (by decide +kernel) rfl rfl (cZ (aE GLN Dv rfl T.z_Zk (aa (aE GY EJ rfl T.z_ZC (aa (pv 3) (aa (b2 (pv 0) rfl) ac))) (aa (b2 (pv 0) rfl) ac)))) (λ_ _ _ _=>cy) (λ_ _ _ _=>(cI iM rfl T.n_str du (aa (pv 0) ac)))))) aI) (ah (aB (ax aN (pv 2) ao (aq _)) bF aI) (ah (aB (ax aN (pv 2) ao (aq _)) bF aI) (ah (aB (ax aN (pv 2) ao (aq _)) bF aI) (ak (ay (aO (aa (jz (pv 0) T.cl_Desk T.M_Zc GPT hr9 T.z_Zc.b .nil cK) ac)))))))))))))),?_⟩;have hn:S.n<=10:=Qg hS.n6 (by decide);have hg:=hS.grs;have Dg:(aZ S.n (nz S.rws)).length<=60/\∀r∈aZ S.n (nz S.rws),r.length<=1000:=gp hg;have h6:=fB hS.n6;have hrB:S.rule<2^1024:=Qe hS.rl (QF (by decide) (by lia))
 cases hA with
 |text =>
  refine⟨_,rfl,p,_,0,_,rfl,rfl,ae.of hp,aX (j:=0) rfl,?_⟩;refine⟨_,rfl,D.o,D.dx,_,rfl,hD.ins,rfl,D,S,rfl,hD,hS,?_⟩;refine⟨_,rfl,rfl,_,rfl,?_⟩;refine cC (by decide +kernel) ?_;refine⟨_,rfl,rfl,_,_,rfl,rfl,(by rw[cA];rfl),tV hS,λpw C1=>?_⟩;rw[tU hS];exact k pw _ C1 (ap C1) af
 |cut s hs =>
  refine⟨_,rfl,p,_,0,_,rfl,rfl,ae.of hp,aX (j:=0) rfl,?_⟩;refine⟨_,rfl,D.o,D.dx,_,rfl,hD.ins,rfl,D,S,rfl,hD,hS,?_⟩;refine⟨_,rfl,rfl,_,rfl,?_⟩;refine a6 (by decide +kernel) ?_;refine⟨_,rfl,rfl,_,rfl,?_⟩;refine a6 (by decide +kernel) ?_;refine⟨_,rfl,rfl,_,rfl,?_⟩;refine cC (by decide +kernel) ?_;refine⟨_,rfl,_,rfl,D.o,AA.c_Desk,D.dx,_,_,rfl,hD.ins,T.cl_Desk,T.na_Desk_n,rfl,_,rfl,p,_,1,_,rfl,rfl,ae.of hp,aX (j:=1) rfl,?_⟩;refine⟨nz S.rws,S.n,s,rfl,hn,hs,hg,λH1 s1=>?_⟩;refine⟨rfl,_,_,rfl,rfl,(by rw[cA];rfl),tX hS s,λpw C1=>?_⟩;rw[tW hS s];exact k pw _ (none_of s1 C1) (s1.trans (ap C1)) af
 |wish v hv =>
  refine⟨_,rfl,p,_,0,_,rfl,rfl,ae.of hp,aX (j:=0) rfl,?_⟩;refine⟨_,rfl,D.o,D.dx,_,rfl,hD.ins,rfl,D,S,rfl,hD,hS,?_⟩;refine⟨_,rfl,rfl,_,rfl,?_⟩;refine a6 (by decide +kernel) ?_;refine⟨_,rfl,rfl,_,rfl,?_⟩;refine cC (by decide +kernel) ?_;refine⟨_,rfl,D.o,D.dx,_,rfl,hD.ins,rfl,_,rfl,p,_,1,_,rfl,rfl,ae.of hp,aX (j:=1) rfl,?_⟩;refine⟨D,S,v,rfl,hD,hS,hv,λH1 s1=>?_⟩;refine⟨bZ,λpw C1=>?_⟩;exact k pw _ (none_of s1 C1) (s1.trans (ap C1)) af
 |dead =>
  refine⟨_,rfl,p,_,0,_,rfl,rfl,ae.of hp,aX (j:=0) rfl,?_⟩;refine⟨_,rfl,D.o,D.dx,_,rfl,hD.ins,rfl,D,S,rfl,hD,hS,?_⟩;refine⟨_,rfl,rfl,_,rfl,?_⟩;refine a6 (by decide +kernel) ?_;refine⟨_,rfl,rfl,_,rfl,?_⟩;refine a6 (by decide +kernel) ?_;refine⟨_,rfl,rfl,_,rfl,?_⟩;refine a6 (by decide +kernel) ?_;refine⟨_,rfl,rfl,_,rfl,?_⟩;refine cC (by decide +kernel) ?_;refine⟨_,rfl,_,rfl,D.o,AA.c_Desk,D.dx,_,_,rfl,hD.ins,T.cl_Desk,T.na_Desk_n,rfl,?_⟩;refine⟨nz S.rws,S.n,rfl,hn,hg,λpr ls H1 hpr s1 hrs=>?_⟩;refine⟨_,rfl,D.o,AA.c_Desk,D.dx,_,_,rfl,s1 _ _ hD.ins,T.cl_Desk,T.na_Desk_rule,rfl,?_⟩;refine⟨pr,_,S.rule,rfl,⟨ls,hrs⟩,Dg.1,Dg.2,hrB,λq H2 hq s2 hq2=>?_⟩;refine⟨q,rfl,⟨_,ae.of hq2⟩,?_⟩;refine kG (Qg (kF _ _ _) Dg.1) (λj hj=>Qe (hI j hj) Dg.1) hq2 λpw C1=>?_;exact k pw _ (none_of s1 (none_of s2 C1)) ((s1.trans s2).trans (ap C1)) af
 |lonely =>
  refine⟨_,rfl,p,_,0,_,rfl,rfl,ae.of hp,aX (j:=0) rfl,?_⟩;refine⟨_,rfl,D.o,D.dx,_,rfl,hD.ins,rfl,D,S,rfl,hD,hS,?_⟩;refine⟨_,rfl,rfl,_,rfl,?_⟩;refine a6 (by decide +kernel) ?_;refine⟨_,rfl,rfl,_,rfl,?_⟩;refine a6 (by decide +kernel) ?_;refine⟨_,rfl,rfl,_,rfl,?_⟩;refine a6 (by decide +kernel) ?_;refine⟨_,rfl,rfl,_,rfl,?_⟩;refine a6 (by decide +kernel) ?_;refine⟨_,rfl,rfl,_,rfl,?_⟩;refine cC (by decide +kernel) ?_;refine⟨_,rfl,_,rfl,D.o,AA.c_Desk,D.dx,_,_,rfl,hD.ins,T.cl_Desk,T.na_Desk_n,rfl,?_⟩;refine⟨nz S.rws,S.n,rfl,hn,hg,λpr ls H1 hpr s1 hrs=>?_⟩;refine⟨_,rfl,D.o,AA.c_Desk,D.dx,_,_,rfl,s1 _ _ hD.ins,T.cl_Desk,T.na_Desk_rule,rfl,?_⟩;refine⟨pr,_,S.rule,rfl,⟨ls,hrs⟩,Dg.1,Dg.2,hrB,λq H2 hq s2 hq2=>?_⟩;refine⟨q,rfl,⟨_,ae.of hq2⟩,?_⟩;refine kG (Qg (kF _ _ _) Dg.1) (λj hj=>Qe (hI j hj) Dg.1) hq2 λpw C1=>?_;exact k pw _ (none_of s1 (none_of s2 C1)) ((s1.trans s2).trans (ap C1)) af
 |part r h1 h2 h3 =>
  refine⟨_,rfl,p,_,0,_,rfl,rfl,ae.of hp,aX (j:=0) rfl,?_⟩;refine⟨_,rfl,D.o,D.dx,_,rfl,hD.ins,rfl,D,S,rfl,hD,hS,?_⟩;refine⟨_,rfl,rfl,_,rfl,?_⟩;refine a6 (by decide +kernel) ?_;refine⟨_,rfl,rfl,_,rfl,?_⟩;refine a6 (by decide +kernel) ?_;refine⟨_,rfl,rfl,_,rfl,?_⟩;refine a6 (by decide +kernel) ?_;refine⟨_,rfl,rfl,_,rfl,?_⟩;refine a6 (by decide +kernel) ?_;refine⟨_,rfl,rfl,_,rfl,?_⟩;refine a6 (by decide +kernel) ?_;refine⟨_,rfl,rfl,_,rfl,?_⟩;refine a6 (by decide +kernel) ?_;refine⟨_,rfl,rfl,_,rfl,?_⟩;refine a6 (by decide +kernel) ?_;refine⟨_,rfl,rfl,_,rfl,?_⟩;refine a6 (by decide +kernel) ?_;refine⟨_,rfl,D.o,D.dx,_,rfl,hD.ins,rfl,?_⟩;refine⟨D,S,r,rfl,hD,hS,h1,h2,h3,λH1 s1=>?_⟩;refine⟨bZ,λpw C1=>?_⟩;exact k pw _ (none_of s1 C1) (s1.trans (ap C1)) af
theorem ua{n:Nat}(hn:n<=6){v:W}(h:g9 n v){w:Str}(hw:w="rule"∨w="wish"):(Om.wish w (aU v)).ok:=
 ⟨hw,λc hc=>pU (Qg hn (by decide)) v h.1 c hc,by have:=h.2;show v.signs.toArray.size<=100;simp;lia⟩
theorem cm.om{S S':DS}{O:Om}(h:cm S O S')(d:bg S):O.ok:=by
 cases h with
 |sw k hk=>exact⟨.inl rfl,by lia⟩
 |rule v hv=>exact ua d.n6 hv (.inl rfl)
 |row evs hr hl =>
  have h1:=f9 (Qg d.n6 (by decide)) hr.1;have h2:=hr.2.2;show(aM evs).length<=1000;lia
 |keep=>exact(by decide +kernel:("keep":Str)∈eK)
 |tidy _=>exact(by decide +kernel:("tidy":Str)∈eK)
theorem bK.om{S:DS}{O:Om}{ts:List Str}(h:bK S O ts)(d:bg S):O.ok:=by
 cases h with
 |text=>exact(by decide +kernel:("text":Str)∈eK)
 |cut s hs=>exact⟨.inr rfl,Qe hs (fB d.n6)⟩
 |wish v hv=>exact ua d.n6 hv (.inr rfl)
 |dead=>exact(by decide +kernel:("dead":Str)∈eK)
 |lonely=>exact(by decide +kernel:("lonely":Str)∈eK)
 |part r _ _ _=>exact(by decide +kernel:("part":Str)∈eK)
theorem eL.len{z:Str}(h:eL z):z.length<=100:=by
 rcases h with rfl|⟨_,h⟩
 ·decide +kernel
 exact h.1
noncomputable abbrev cP:List V:=[.str "switches",.str "rule",.str "row",.str "tidy",.str "keep"]
theorem cm.in5{S S':DS}{O:Om}(h:cm S O S'):∃x xs,O.vs=x::xs/\dr x=true/\jC x cP=true:=by cases h<;>exact⟨_,_,rfl,rfl,by decide +kernel⟩
theorem bK.in5{S:DS}{O:Om}{ts:List Str}(h:bK S O ts):∃x xs,O.vs=x::xs/\dr x=true/\jC x cP=false:=by cases h<;>exact⟨_,_,rfl,rfl,by decide +kernel⟩
inductive hJ (C:Addr) (vs:List V) (H:Hp) (Q:VK) (E:XK):Prop
 |mk:∀(D:aT) (S S':DS) (O:Om),vs=[.ref D.o,.str O.txt]->a5 C H D S->bg S->cm S O S'->(∀D' q H',D'.o=D.o->(D'.lr=D.lr∨H D'.lr=none)->gr D H H'->a5 C H' D' S'->q≠D'.lr->H' q=some (.lst [])->Q (.ref q) H')->hJ C vs H Q E
inductive hU (C:Addr) (vs:List V) (H:Hp) (Q:VK) (E:XK):Prop
 |mk:∀(D:aT) (S:DS) (O:Om) (ts:List Str),vs=[.ref D.o,.str O.txt]->a5 C H D S->bg S->bK S O ts->(∀q H',av H H'->H q=none->H' q=some (.lst (ts.map V.str))->Q (.ref q) H')->hU C vs H Q E
def je(C CG:Addr):Sp:=λvs H _ E=>∃(D:aT) (S:DS) (z:Str),vs=[.ref D.o,.str ("row "++z)]/\a5 C H D S/\S.n=0/\S.rws=[]/\eL z/\dB E CG (.int 0) H
noncomputable abbrev B7:List Str:=["self","row","order"]
theorem ub:aK B7 Ys (aA mX):=⟨rfl,rfl,rfl,by decide +kernel,rfl,by decide +kernel,by decide +kernel⟩
theorem kH(T:All P w K mg AA DD):aF P w K mg base (cL (λ_=>True) P w) 17 AA.ZX DD.ZX Ys (λvs H Q E=>hJ AA.c_Desk vs H Q E∨hU AA.c_Desk vs H Q E∨je AA.c_Desk AA.x_NoGroup vs H Q E):=by
 have GRO:=By (base:=base) T;have GDC:=B5 (base:=base) T;have GDA:=B6 (base:=base) T;refine T.z_ZX.F.ok2 ub (λvs H Q E h=>?_) (λCJ A outer s H vs Q E hr h=>?_)
 ·rcases h with ⟨D,S,S',O,rfl,_⟩|⟨D,S,O,ts,rfl,_⟩|⟨D,S,z,rfl,_⟩<;>rfl
 have nd:=ub.nd;have Dv:au 4 _:=hr.mono (by decide);have hr8:au 8 _:=hr.mono (by decide);have hr16:au 16 _:=hr;refine⟨_,(ah (aD (i:=2) nd rfl (Or.inl rfl) (aE GRO Dv rfl T.z_Zv (aa (pv 1) ac))) (ah (aB (ax (zq (K:=K) (by rfl)) (d6 (pv 2)) (cH (aa ao (aa ao (aa ao (aa ao (aa ao ac)))))) rfl) (ah (bE (bf (pv 0) T.cl_Desk T.M_Zn GDC hr8 T.z_Zn.b .nil (l8 λ_ z=>z) (aa (pv 2) ac)) (by rfl)) (ak (ay (aO ac)))) aI) (ak (ay (bf (pv 0) T.cl_Desk T.M_Zp GDA hr16 T.z_Zp.b .nil cK (aa (pv 2) ac)))))),?_⟩
 rcases h with ⟨D,S,S',O,rfl,hD,hS,hC,k⟩|⟨D,S,O,ts,rfl,hD,hS,hA,k⟩|⟨D,S,z,rfl,hD,h0,h1,hb,hX⟩
 ·refine⟨_,rfl,O,rfl,hC.om hS,λp H1 hp s1 Ek=>?_⟩;obtain⟨x,xs,ex,fx,ix⟩:=hC.in5;refine⟨_,rfl,p,_,0,_,rfl,rfl,ae.of Ek,(by rw[ex];exact aX (j:=0) rfl),?_⟩;refine⟨kL,λt ht=>?_⟩;have s2:=s1.trans (ap (o:=.tup cP) ht);have DH:=ap (o:=.tup cP) ht _ _ Ek;refine⟨t,cP,rfl,.inr (aW.of af),fx,rfl,_,rfl,?_⟩;refine cC ix ?_;generalize ai H1 t (.tup cP)=H2 at s2 DH ⊢;refine⟨_,rfl,D.o,D.dx,_,rfl,s2 _ _ hD.ins,rfl,_,rfl,.inl ⟨D,S,S',O,p,rfl,DH,hD.same s2,hS,hC,λD' H3 e1 e2 e3 hf hd=>?_⟩⟩;refine⟨Ql _,λq hq=>?_⟩;have s4:=ap (o:=.lst []) hq;exact k D' q _ e1 (e3.imp id λh=>none_of s2 h) (λb u e n1 n2=>s4 _ _ (hf b u (s2 _ _ e) n1 n2)) (hd.same s4) (aH hd.rws hq).symm af
 ·refine⟨_,rfl,O,rfl,hA.om hS,λp H1 hp s1 Ek=>?_⟩;obtain⟨x,xs,ex,fx,ix⟩:=hA.in5;refine⟨_,rfl,p,_,0,_,rfl,rfl,ae.of Ek,(by rw[ex];exact aX (j:=0) rfl),?_⟩;refine⟨kL,λt ht=>?_⟩;have s2:=s1.trans (ap (o:=.tup cP) ht);have DH:=ap (o:=.tup cP) ht _ _ Ek;refine⟨t,cP,rfl,.inr (aW.of af),fx,rfl,_,rfl,?_⟩;refine a6 ix ?_;generalize ai H1 t (.tup cP)=H2 at s2 DH ⊢;refine⟨_,rfl,D.o,D.dx,_,rfl,s2 _ _ hD.ins,rfl,_,rfl,D,S,O,ts,p,rfl,DH,hD.same s2,hS,hA,λq H3 hq s3 e3=>?_⟩;exact k q H3 (s2.trans s3) (none_of s2 hq) e3
 refine⟨_,rfl,.row z,rfl,(by have:=hb.len;show z.length<=1000;lia),λp H1 hp s1 Ek=>?_⟩;refine⟨_,rfl,p,_,0,_,rfl,rfl,ae.of Ek,aX (j:=0) rfl,?_⟩;refine⟨kL,λt ht=>?_⟩;have s2:=s1.trans (ap (o:=.tup cP) ht);have DH:=ap (o:=.tup cP) ht _ _ Ek;refine⟨t,cP,rfl,.inr (aW.of af),rfl,rfl,_,rfl,?_⟩;refine cC (by decide +kernel) ?_;generalize ai H1 t (.tup cP)=H2 at s2 DH ⊢;exact⟨_,rfl,D.o,D.dx,_,rfl,s2 _ _ hD.ins,rfl,_,rfl,.inr ⟨D,S,z,p,rfl,DH,hD.same s2,h0,h1,hb,hX.same s2⟩⟩
theorem bv{κ:Option Value->Prop}{X:Cx}:eC (cL κ P w) X E0:=λ_ _ _ _ _ _ _ h=>by obtain⟨_,_,_,_,_,_,_,_,_,_,_,_,_,_,_,q⟩:=h;exact q.elim
def bu(ts:List Str):Prop:=∀z∈ts,∀c∈z.cps.toList,c<128
theorem bi{H:Hp}{p:Addr}{ts:List Str}(h:H p=some (.lst (ts.map V.str))):be K H (.ref p) (.list (ts.map PyData.str)):=.lst (ae.of h) (RdvA.map λx _=>.str _)
theorem nH{H:Hp}{p q:Addr}{ts us:List Str}{Q:VK}(hp:H p=some (.lst (ts.map V.str)))(hq:H q=some (.lst (us.map V.str)))(h1:bu ts)(h2:bu us)(k:Q (.bl (decide (ts=us))) H) :
  ∃d e,be K H (.ref p) d/\be K H (.ref q) e/\SeqAt.shaped d=true/\SeqAt.shaped e=true/\Q (.bl (PyData.eqv d e)) H:=
 ⟨_,_,bi hp,bi hq,(cB h1).ok (by decide),(cB h2).ok (by decide),by
  rw[PyData.eqv,gY];exact k⟩
theorem B8{H:Hp}{p q:Addr}{ts us:List Str}{Q:VK}(hp:H p=some (.lst (ts.map V.str)))(hq:H q=some (.lst (us.map V.str)))(h1:bu ts)(h2:bu us)(k:Q (.bl (!decide (ts=us))) H) :
  ∃d e,be K H (.ref p) d/\be K H (.ref q) e/\SeqAt.shaped d=true/\SeqAt.shaped e=true/\Q (.bl (!PyData.eqv d e)) H:=
 ⟨_,_,bi hp,bi hq,(cB h1).ok (by decide),(cB h2).ok (by decide),by
  rw[PyData.eqv,gY];exact k⟩
theorem B9:bu []:=λ_ h=>nomatch h
theorem nI{z:Str}(h:∀c∈z.cps.toList,c<128):bu [z]:=λy hy=>by rw[List.mem_singleton.mp hy];exact h
theorem kI:∀k:Nat,k<=64->∀c∈(nS k).cps.toList,c<128:=by decide +kernel
theorem uc{d:Nat}(hd:d<128){zs:List Str}(h:bu zs):∀c∈(Str.join ⟨#[d]⟩ zs).cps.toList,c<128:=λc hc=>by
 rw[join_list] at hc
 rcases jR hc with e|⟨l,hl,hm⟩
 ·lia
 obtain⟨z,hz,rfl⟩:=Qn hl;exact h z hz c hm
theorem Ca{l:List Nat}(h:∀s∈l,s<=64):∀c∈(jc l).cps.toList,c<128:=by
 cases l with
 |nil=>exact(by decide +kernel:∀c∈("none":Str).cps.toList,c<128)
 |cons s r=>exact kI s (h s Qp)
theorem bK.c128{S:DS}{O:Om}{ts:List Str}(h:bK S O ts)(d:bg S):bu ts:=by
 have hn:S.n<=10:=Qg d.n6 (by decide);have h6:=fB d.n6;have hr:=gp d.grs
 cases h with
 |text =>
  intro z hz c hc;obtain⟨evs,he,rfl⟩:=Qn hz;have:=lZ hn (d.grs.2.2 evs he).1 c hc;lia
 |cut s hs =>
  intro z hz;obtain⟨zs,hzs,rfl⟩:=Qn hz;refine uc (by decide) λy hy c hc=>?_;have:=((i6 d.grs zs hzs).2 y hy).2.sg c hc;lia
 |wish v hv =>
  have hm:v.val (bB S.n) (aS S.n)<2^2^S.n:=jQ (iX S.n) ko v;refine nI (uc (by decide) λy hy=>?_);have hsl:=kE (v.val (bB S.n) (aS S.n)&&&S.rule) (2^S.n);rcases (show y=_∨y=_∨y=_ by simpa using hy) with rfl|rfl|rfl
  ·exact λc hc=>gm hn _ (j0 _ _ (Qk _)) c hc
  ·exact kI _ (by lia)
  exact Ca λs hs=>by have:=iC hs;lia
 |dead =>
  intro z hz;obtain⟨j,hj,rfl⟩:=Qn hz;exact kI j (by have:=hI j hj;lia)
 |lonely =>
  intro z hz;obtain⟨j,hj,rfl⟩:=Qn hz;exact kI j (by have:=hI j hj;lia)
 |part r _ _ _ =>
  refine nI ?_;unfold fC;split
  ·exact(by decide +kernel:∀c∈("alike":Str).cps.toList,c<128)
  exact(by decide +kernel:∀c∈("0":Str).cps.toList,c<128)
theorem Cb{z:Str}(h:eL z):("row ":Str).length+z.length<=sizeLine:=by
 have h1:=h.len;have h2:("row ":Str).length=4:=by decide +kernel
 exact Qg (show _<=104 by lia) (by decide)
inductive ud (C:Addr) (vs:List V) (H:Hp) (Q:VK) (E:XK):Prop
 |mk:∀(D:aT) (z:Str),vs=[.ref D.o,.str z]->a5 C H D (S0 0)->eL z->(∀H',av H H'->Q (.bl true) H')->ud C vs H Q E
noncomputable abbrev Cc:List Str:=["_law_desk","_law_text","_law_refused","e"]
theorem ue:aK Cc Yy (aA mV):=⟨rfl,rfl,rfl,by decide +kernel,rfl,by decide +kernel,by decide +kernel⟩
theorem Cd(T:All P w K mg AA DD):aF P w K mg base aJ 18 AA.Zm DD.Zm Yy (ud AA.c_Desk):=by
 have Dc:=kH (base:=base) T;refine T.z_Zm.F.ok ue (λvs H Q E h=>?_) (λCJ A outer s H vs Q E hr h=>?_)
 ·obtain⟨D,z,rfl,_⟩:=h;rfl
 obtain⟨D,z,rfl,hD,hb,k⟩:=h;have nd:=ue.nd;have hu:=hr.units;have CM:au 17 _:=hr;refine⟨_,(ah (aD (i:=2) nd rfl (Or.inl rfl) dJ) (ah (zk (κ:=λ_=>True) (i:=3) (ce.wish eF _) (yo (yp (pv 0) T.cl_Desk T.M_ZX Dc CM T.z_ZX.b .nil (aa (aj bP ao (pv 1)) ac))) rfl T.m_NoGroup nd rfl rfl (λea=>(ak (aD (i:=2) nd rfl (Or.inl rfl) (@bM _ _ _ _ _ _ _ _ aN (zJ (K:=K) rfl (pv 3) (by rfl)) ag (aq _)))))) (ak (ay (dM (pv 2) (eO (@bM _ _ _ _ _ _ _ _ (eH (K:=K) rfl hu) (bf (pv 0) T.cl_Desk T.M_ZX Dc CM T.z_ZX.b .nil bv (aa ao ac)) (aO (aa ao ac)) (aq _)))))))),?_⟩;have hS:=nC (show 0<=6 by decide);refine lQ ?_
 try dsimp only[a7]
 refine fh (λσ' H'=>av H H'/\∃x3,σ'=[some (.ref D.o),some (.str z),some (.bl true),x3]) (λR hR=>?_) ?_
 ·refine zn (λc dd H1=>av H H1/\c=.ref AA.x_NoGroup/\∃dx,dd=some dx/\H1 dx=some (dz dx [("at",.int 0)])) (λE1 hE=>?_) ?_
  ·refine⟨_,rfl,D.o,D.dx,_,rfl,hD.ins,rfl,_,rfl,_,_,rfl,rfl,Cb hb,?_⟩;exact .inr (.inr ⟨D,S0 0,z,rfl,hD,rfl,rfl,hb,λdx H1 s e=>hE _ _ _ ⟨s,rfl,dx,rfl,e⟩⟩)
  rintro c dd H1 ⟨s1,rfl,dx,rfl,hdx⟩;refine⟨T.em_NoGroup_NoGroup,λea cx _ hea=>?_⟩;have s2:=ap (o:=d5 ea (.ref AA.x_NoGroup) (some dx) cx) hea;have hE2:ai H1 ea (d5 ea (.ref AA.x_NoGroup) (some dx) cx) ea=some (d5 ea (.ref AA.x_NoGroup) (some dx) cx):=af;generalize ai H1 ea (d5 ea (.ref AA.x_NoGroup) (some dx) cx)=H2 at s2 hE2 ⊢;refine⟨_,rfl,ea,AA.x_NoGroup,dx,cx,_,_,rfl,hE2,s2 _ _ hdx,T.xc_NoGroup,T.ic_NoGroup.hd,T.na_NoGroup_at,rfl,rfl,?_⟩;exact hR _ _ ⟨s1.trans s2,_,rfl⟩
 rintro σ' H1 ⟨s1,x3,rfl⟩;have hD1:=hD.same s1;refine⟨_,rfl,_,rfl,?_⟩;refine aQ ?_;refine⟨_,rfl,D.o,D.dx,_,rfl,hD1.ins,rfl,.inr (.inl ⟨D,S0 0,.bare "text",_,rfl,hD1,hS,.text _,λq H2 s2 hq e2=>?_⟩)⟩;refine⟨bZ,λp hp=>?_⟩;have s3:=ap (o:=.lst [.str ""]) hp;refine nH (s3 _ _ e2) (us:=[""]) af ((bK.text _).c128 hS) (nI λc hc=>(nomatch hc)) ?_;rw[Qo (by decide +kernel:(nz (S0 0).rws).map aM=([""]:List Str))];exact k _ ((s1.trans s2).trans s3)
theorem uf{H:Hp}{p:Addr}{l:List Nat}(h:H p=some (.lst (bH l))):be K H (.ref p) (.list (l.map λ(i:Nat)=>PyData.int ((i:Nat):Int))):=.lst (ae.of h) (RdvA.map λx _=>.int _)
theorem ug(l:List Nat):bR 1 (.list (l.map λ(i:Nat)=>PyData.int ((i:Nat):Int))):=bR.list λd hd=>by obtain⟨i,_,rfl⟩:=Qn hd;exact bR.int _
theorem Ce(a b c:Str):a++" "++b++" "++c=Str.join ⟨#[32]⟩ [a,b,c]:=by refine cV ?_;rw[join_list,cO,b8,b8,b8,b8];show _=a.cps.toList++32::(b.cps.toList++32::c.cps.toList);simp
inductive uh (vs:List V) (H:Hp) (Q:VK) (E:XK):Prop
 |mk:∀(v:W) (n rule:Nat),vs=[.str (aU v),.int ((rule:Nat):Int),.int ((n:Nat):Int)]->n<=6->g9 n v->(∀p H',H p=none->av H H'->H' p=some (.lst [.str (jd n (v.val (bB n) (aS n)) rule)])->Q (.ref p) H')->uh vs H Q E
noncomputable abbrev ui:List Str:=["_law_wish_here","_law_rule","_law_n","_law_mask","_law_inside","_law_first"]
theorem uj:aK ui Yh (aA ki):=⟨rfl,rfl,rfl,by decide +kernel,rfl,by decide +kernel,by decide +kernel⟩
theorem Cf(T:All P w K mg AA DD):aF P w K mg base aJ 15 AA.Zf DD.Zf Yh uh:=by
 have GR:=iZ (base:=base) T;have GSW:=sr (base:=base) T;refine T.z_Zf.F.ok uj (λvs H Q E h=>?_) (λCJ A outer s H vs Q E hr h=>?_)
 ·obtain⟨v,n,rule,rfl,_⟩:=h;rfl
 obtain⟨v,n,rule,rfl,hn6,⟨hv,hl⟩,k⟩:=h;have nd:=uj.nd;have hu:=hr.units;have Dv:au 4 _:=hr.mono (by decide);have hr14:au 14 _:=hr;refine⟨_,(ah (aD (i:=3) nd rfl (Or.inr rfl) (aE GR Dv rfl T.z_ZB (aa (pv 0) (aa (pv 2) ac)))) (ah (yt (i:=4) (aA ki) ui ["_law_rule","_law_mask"] [1,3] rfl (by decide +kernel) rfl rfl (fM rfl T.n_range (aa (aj cc ag (pv 2)) ac)) (λ_ _ _ _=>ir (ax aN (aj cR (aj la (aj cR (pv 2) (pv 1)) (pv 0)) ag) ag (aq _))) (λ_ _ _ _=>(pv 0)) nd rfl rfl rfl) (ah (aD (i:=5) nd rfl (Or.inl rfl) ao) (ah (aB (ax (cf (K:=K) rfl hu) (pv 4) (aO ac) (aq _)) (ak (aD (i:=5) nd rfl (Or.inl rfl) (cI gP rfl T.n_str du (aa (d6 (pv 4)) ac)))) aI) (ak (ay (aO (aa (aj bP (aj bP (aj bP (aj bP (aE GSW hr14 rfl T.z_Zq (aa (pv 3) (aa (pv 2) ac))) ao) (cI gP rfl T.n_str du (aa (bc cY rfl T.n_len bw (aa (pv 4) ac)) ac))) ao) (pv 5)) ac)))))))),?_⟩;have hn:n<=10:=Qg hn6 (by decide);refine⟨_,rfl,_,rfl,aU v,n,v.val (bB n) (aS n),rfl,hn,gm hn v hv,(by show v.signs.toArray.size<=4000;simp;lia),iE (by rw[iW];exact Qk _) hn hv,λH1 s1=>?_⟩;have hm:v.val (bB n) (aS n)<2^2^n:=jQ (iX n) ko v;generalize v.val (bB n) (aS n)=m at hm k ⊢
 try dsimp only[a7]
 have h6:=fB hn6;have hN:m&&&rule<2^2^n:=QD Nat.and_le_left hm;refine fh (λσ' H'=>∃p:Addr,av H H'/\H' p=some (.lst (bH (aR (m&&&rule) (2^n))))/\σ'=[some (.str (aU v)),some (.int ((rule:Nat):Int)),some (.int ((n:Nat):Int)),some (.int ((m:Nat):Int)),some (.ref p),none]) (λR hR=>?_) ?_
 ·refine⟨_,rfl,_,_,rfl,rfl,cM (by lia),_,rfl,?_,?_,?_⟩
  ·rw[cu];generalize 2^n=N at h6 ⊢;lia
  ·rw[cu];generalize 2^n=N at h6 ⊢;lia
  rw[cu]
  try dsimp only
  rw[Qu];refine jH (λi ys H'=>H'=H1/\i<=2^n/\ys=bH (aR (m&&&rule) i)) ⟨rfl,Ql _,rfl⟩ ?_ ?_
  ·rintro i ys H' hi ⟨rfl,_,rfl⟩;refine⟨_,rfl,_,rfl,_,_,rfl,rfl,?_⟩;rw[cT];have hs:=iY (m&&&rule) i;refine⟨_,rfl,_,_,rfl,rfl,by lia,_,_,rfl,rfl,rfl,_,rfl,?_⟩;rw[Int.zero_add,qF]
   cases hb:(m&&&rule).testBit i with
   |true =>
    rw[hb,if_pos rfl] at hs;refine aQ ?_;refine⟨_,rfl,?_,rfl,hi,?_⟩
    ·rw[bH,Qb];have:=kE (m&&&rule) i;exact a8 (by lia)
    rw[hs,bH,bH,QH];rfl
   |false =>
    rw[hb,if_neg Qf] at hs;refine aw ?_;exact⟨rfl,hi,by rw[hs]⟩
  rintro ys H' ⟨rfl,_,rfl⟩ p hp;exact hR _ _ ⟨p,s1.trans (ap hp),af,rfl⟩
 rintro σ' H2 ⟨p,s2,hp,rfl⟩;refine lQ ?_
 try dsimp only[a7]
 have hsl:=kE (m&&&rule) (2^n);have hb64:∀x∈aR (m&&&rule) (2^n),x<=64:=λx hx=>by have:=iC hx;lia
 have DR:(aU (sh n n m)).length<=1000:=by have:=gS (n:=n) n m;show(sh n n m).signs.toArray.size<=1000;rw[Qv];lia
 unfold jd at k;generalize hL:aR (m&&&rule) (2^n)=L at hp hsl hb64 k ⊢;refine fh (λσ' H'=>av H H'/\H' p=some (.lst (bH L))/\σ'=[some (.str (aU v)),some (.int ((rule:Nat):Int)),some (.int ((n:Nat):Int)),some (.int ((m:Nat):Int)),some (.ref p),some (.str (jc L))]) (λR hR=>?_) ?_
 ·refine⟨_,rfl,Ql _,λpe CP=>?_⟩;have s3:=ap (o:=.lst []) CP;refine⟨_,_,uf (s3 _ _ hp),uf (l:=[]) af,(ug L).ok (by decide),(ug []).ok (by decide),_,rfl,?_⟩
  cases L with
  |nil=>exact a6 (by decide +kernel) (hR _ _ ⟨s2.trans s3,s3 _ _ hp,rfl⟩)
  |cons x r =>
   refine cC (by simp[PyData.eqv,PyData.eqvAll]) ?_;refine⟨_,rfl,p,_,0,_,rfl,rfl,ae.of (s3 _ _ hp),aX (j:=0) rfl,_,rfl,fA x (hb64 x Qp),?_⟩;exact hR _ _ ⟨s2.trans s3,s3 _ _ hp,rfl⟩
 rintro σ' H3 ⟨s3,hp3,rfl⟩;have l1:(" ":Str).length=1:=by decide +kernel
 have hLn:(bH L).length=L.length:=by simp[bH]
 have hc2:=g6 L.length (by lia)
 have hf:(jc L).length<=10:=by
  cases L with
  |nil=>decide +kernel
  |cons x r=>exact Qg (g6 x (hb64 x Qp)) (by decide)
 have big:∀{i:Nat},i<=1100->i<=sizeLine:=λh=>Qg h (by decide);refine⟨_,rfl,_,rfl,m,n,rfl,hn,hm,λz hz=>?_⟩;have ez:z=aU (sh n n m):=cV (by rw[hz];rfl);subst ez;refine⟨_,_,rfl,rfl,big (by rw[l1];lia),_,rfl,p,_,rfl,.inl (ae.of hp3),_,rfl,?_⟩;rw[hLn];have e4:(Str.ofString (toString ((L.length:Nat):Int)))=nS L.length:=rfl;refine⟨fA _ (by lia),_,_,rfl,rfl,big (by rw[bC,l1,e4];lia),_,_,rfl,rfl,big (by rw[bC,bC,l1,e4];lia),_,rfl,_,_,rfl,rfl,big (by rw[bC,bC,bC,l1,e4];lia),bZ,λpw C1=>?_⟩;rw[e4,Ce];exact k pw _ (none_of s3 C1) (s3.trans (ap C1)) af
theorem gs{H:Hp}{p q:Addr}{ts:List Str}{Q:VK}(hp:H p=some (.lst (ts.map V.str)))(hq:H q=some (.lst (ts.map V.str)))(h1:bu ts)(k:Q (.bl false) H) :
  ∃d e,be K H (.ref p) d/\be K H (.ref q) e/\SeqAt.shaped d=true/\SeqAt.shaped e=true/\Q (.bl (!PyData.eqv d e)) H:=B8 hp hq h1 h1 (by rw[Qo rfl];exact k)
theorem Cg{H:Hp}{p q:Addr}{ts:List Str}{Q:VK}(hp:H p=some (.lst (ts.map V.str)))(hq:H q=some (.lst (ts.map V.str)))(h1:bu ts)(k:Q (.bl true) H) :
  ∃d e,be K H (.ref p) d/\be K H (.ref q) e/\SeqAt.shaped d=true/\SeqAt.shaped e=true/\Q (.bl (PyData.eqv d e)) H:=nH hp hq h1 h1 (by rw[Qo rfl];exact k)
theorem Ch:("cut":Str)++" "="cut ":=by decide +kernel
inductive uk (C:Addr) (vs:List V) (H:Hp) (Q:VK) (E:XK):Prop
 |mk:∀(D:aT) (S:DS) (r:Addr) (x:Int),vs=[.ref D.o,.ref r,.int ((S.rule:Nat):Int),.int ((S.n:Nat):Int),.int x]->a5 C H D S->bg S->H r=some (.lst ((S.rws.map aM).map V.str))->(∀H',av H H'->Q (.bl true) H')->uk C vs H Q E
noncomputable abbrev nJ:List Str:=["_law_desk","_law_rows","_law_rule","_law_n","_law_x","_law_text","_law_s","_law_read"]
theorem ul:aK nJ Yd (aA iS):=⟨rfl,rfl,rfl,by decide +kernel,rfl,by decide +kernel,by decide +kernel⟩
theorem Ci(T:All P w K mg AA DD):aF P w K mg base aJ 18 AA.Zw DD.Zw Yd (uk AA.c_Desk):=by
 have Dc:=kH (base:=base) T;have GZ:=rK (base:=base) T;have GY:=ku (base:=base) T;have GDD:=rX (base:=base) T;have GLN:=sd (base:=base) T;refine T.z_Zw.F.ok ul (λvs H Q E h=>?_) (λCJ A outer s H vs Q E hr h=>?_)
 ·obtain⟨D,S,r,x,rfl,_⟩:=h;rfl
 obtain⟨D,S,r,x,rfl,hD,hS,hR,k⟩:=h;have nd:=ul.nd;have hu:=hr.units;have Dr:au 3 _:=hr.mono (by decide);have Dv:au 4 _:=hr.mono (by decide);have EJ:au 7 _:=hr.mono (by decide);have hr8:au 8 _:=hr.mono (by decide);have CM:au 17 _:=hr;refine⟨_,(ah (aD (i:=5) nd rfl (Or.inl rfl) (b5 (K:=K) rfl PySem.F.plainAttrs_str PySem.F.slot_str_join PySem.F.type_str_join (gj (K:=K) rfl) ao (aa (pv 1) ac))) (ah (aD (i:=6) nd rfl (Or.inl rfl) (aj bn (pv 4) (aj cc ag (pv 3)))) (ah (aB (PW.pt (dj (ax (cf (K:=K) rfl hu) (bf (pv 0) T.cl_Desk T.M_ZX Dc CM T.z_ZX.b .nil bv (aa ao ac)) (b5 (K:=K) rfl PySem.F.plainAttrs_str PySem.F.slot_str_split PySem.F.type_str_split eZ (pv 5) (aa ao ac)) (aq _)) (eg (ax (cf (K:=K) rfl hu) (bf (pv 0) T.cl_Desk T.M_ZX Dc CM T.z_ZX.b .nil bv (aa (aj bP ao (cI gP rfl T.n_str du (aa (pv 6) ac))) ac)) (b5 (K:=K) rfl PySem.F.plainAttrs_str PySem.F.slot_str_split PySem.F.type_str_split eZ (aE GZ hr8 rfl T.z_ZP (aa (pv 5) (aa (pv 3) (aa (pv 6) ac)))) (aa ao ac)) (aq _))))) (ak (ay dJ)) aI) (ah (aD (i:=7) nd rfl (Or.inl rfl) (aE GY EJ rfl T.z_ZC (aa (pv 5) (aa (pv 3) ac)))) (ah (aB (ax (cf (K:=K) rfl hu) (bf (pv 0) T.cl_Desk T.M_ZX Dc CM T.z_ZX.b .nil bv (aa ao ac)) (cU (aA iS) nJ [] [] rfl (by decide +kernel) rfl rfl (cZ (aE GDD Dr rfl T.z_ZD (aa (pv 7) (aa (pv 2) ac)))) (λ_ _ _ _=>cy) (λ_ _ _ _=>(cI iM rfl T.n_str du (aa (pv 0) ac)))) (aq _)) (ak (ay dJ)) aI) (ak (ay (@bM _ _ _ _ _ _ _ _ (eH (K:=K) rfl hu) (bf (pv 0) T.cl_Desk T.M_ZX Dc CM T.z_ZX.b .nil bv (aa ao ac)) (cU (aA iS) nJ [] [] rfl (by decide +kernel) rfl rfl (cZ (aE GLN Dv rfl T.z_Zk (aa (pv 7) (aa (pv 2) ac)))) (λ_ _ _ _=>cy) (λ_ _ _ _=>(cI iM rfl T.n_str du (aa (pv 0) ac)))) (aq _))))))))),?_⟩;have hn:S.n<=10:=Qg hS.n6 (by decide);have h6:=fB hS.n6;have hg:=hS.grs;have Dg:(aZ S.n (nz S.rws)).length<=60/\∀r∈aZ S.n (nz S.rws),r.length<=1000:=gp hg;have hrB:S.rule<2^1024:=Qe hS.rl (QF (by decide) (by lia));refine⟨rfl,_,rfl,_,r,_,rfl,rfl,ae.of hR,(by rw[cA];decide),kC (b:=1100) (k:=40) (λz hz=>?_) (by rw[Qb];exact hS.len) (by decide),?_⟩
 ·obtain⟨evs,he,rfl⟩:=Qn hz;obtain⟨g,_,hl⟩:=hS.row evs he;have:=f9 hn g;lia
 rw[cA,tp]
 try dsimp only[a7]
 rw[<-cA];obtain⟨c,ec,hc⟩:=dC (a:=x) (n:=2^S.n) (Nat.two_pow_pos _);refine⟨_,rfl,_,rfl,_,_,rfl,rfl,cM (by lia),_,_,rfl,rfl,?_,?_⟩
 ·rw[cu];have:=Nat.two_pow_pos S.n;generalize 2^S.n=N at this ⊢;lia
 rw[cu,ec]
 try dsimp only[a7]
 have hc64:c<64:=Qe hc h6;have l4:("cut ":Str).length=4:=by decide +kernel
 have hc2:=g6 c (by lia);refine fh (λσ' H'=>av H H'/\σ'=[some (.ref D.o),some (.ref r),some (.int ((S.rule:Nat):Int)),some (.int ((S.n:Nat):Int)),some (.int x),some (.str (cz (nz S.rws))),some (.int ((c:Nat):Int)),none]) (λR hR=>?_) ?_
 ·refine⟨_,rfl,D.o,D.dx,_,rfl,hD.ins,rfl,.inr (.inl ⟨D,S,.bare "text",_,rfl,hD,hS,.text _,λq1 H1 s1 hq1 e1=>?_⟩)⟩;refine⟨_,rfl,rfl,_,_,rfl,rfl,(by rw[cA];rfl),tV hS,λq2 hq2=>?_⟩;rw[tU hS];have s2:=ap (o:=.lst (((nz S.rws).map aM).map V.str)) hq2;refine gs (s2 _ _ e1) af ((bK.text S).c128 hS) ⟨_,rfl,?_⟩;refine aw ?_;have Dn:=s1.trans s2;generalize ai H1 q2 (.lst (((nz S.rws).map aM).map V.str))=H2 at Dn ⊢;clear s1 s2 e1 hq1 hq2;refine⟨_,rfl,D.o,D.dx,_,rfl,Dn _ _ hD.ins,rfl,_,rfl,_,rfl,fA c (by lia),_,_,rfl,rfl,(by rw[l4];exact Qg (show 4+(nS c).length<=6 by lia) (by decide)),?_⟩;refine .inr (.inl ⟨D,S,.num "cut" c,_,(by show _=[V.ref D.o,V.str ("cut"++" "++nS c)];rw[Ch];rfl),hD.same Dn,hS,.cut S c hc,λq3 H3 s3 hq3 e3=>?_⟩);refine⟨_,rfl,_,rfl,_,rfl,nz S.rws,S.n,c,rfl,hn,hc,hg,λH4 s4=>?_⟩;refine⟨rfl,_,_,rfl,rfl,(by rw[cA];rfl),tX hS c,λq5 hq5=>?_⟩;rw[tW hS c];have s5:=ap (o:=.lst ((fD S c).map V.str)) hq5;refine gs (s5 _ _ (s4 _ _ e3)) af ((bK.cut S c hc).c128 hS) ⟨_,rfl,?_⟩;refine aw ?_;exact hR _ _ ⟨((Dn.trans s3).trans s4).trans s5,rfl⟩
 rintro σ' H1 ⟨s1,rfl⟩;refine⟨_,rfl,_,rfl,nz S.rws,S.n,rfl,hn,hg,λpr ls H2 hpr s2 hrs=>?_⟩
 try dsimp only[a7]
 have Dn:=s1.trans s2
 have hrw:i7 H2 pr (aZ S.n (nz S.rws)):=⟨ls,hrs⟩
 refine⟨_,rfl,D.o,D.dx,_,rfl,Dn _ _ hD.ins,rfl,.inr (.inl ⟨D,S,.bare "dead",_,rfl,hD.same Dn,hS,.dead S,λq3 H3 s3 hq3 e3=>?_⟩)⟩;have s123:=Dn.trans s3;have hrw3:=hrw.same s3;refine⟨_,rfl,_,rfl,pr,_,S.rule,rfl,hrw3,Dg.1,Dg.2,hrB,λq4 H4 hq4 s4 e4=>?_⟩;refine⟨q4,rfl,⟨_,ae.of e4⟩,?_⟩;refine kG (Qg (kF _ _ _) Dg.1) (λj hj=>Qe (hI j hj) Dg.1) e4 λq5 hq5=>?_;have s5:=ap (o:=.lst (((nF S).map nS).map V.str)) hq5;refine gs (s5 _ _ (s4 _ _ e3)) af ((bK.dead S).c128 hS) ⟨_,rfl,?_⟩;refine aw ?_;have s45:=s4.trans s5;have s15:=s123.trans s45;have hrw5:=hrw3.same s45;refine⟨_,rfl,D.o,D.dx,_,rfl,s15 _ _ hD.ins,rfl,.inr (.inl ⟨D,S,.bare "lonely",_,rfl,hD.same s15,hS,.lonely S,λq6 H6 s6 hq6 e6=>?_⟩)⟩;refine⟨_,rfl,_,rfl,pr,_,S.rule,rfl,hrw5.same s6,Dg.1,Dg.2,hrB,λq7 H7 hq7 s7 e7=>?_⟩;refine⟨q7,rfl,⟨_,ae.of e7⟩,?_⟩;refine kG (Qg (kF _ _ _) Dg.1) (λj hj=>Qe (hI j hj) Dg.1) e7 λq8 hq8=>?_;have s8:=ap (o:=.lst (((tS S).map nS).map V.str)) hq8;refine Cg (s8 _ _ (s7 _ _ e6)) af ((bK.lonely S).c128 hS) ?_;exact k _ (((s15.trans s6).trans s7).trans s8)
structure Mv(C:Addr)(D:aT)(H:Hp)(D':aT)(S':DS)(H':Hp):Prop where
 o:D'.o=D.o
 lr:D'.lr=D.lr∨H D'.lr=none
 fr:gr D H H'
 at_:a5 C H' D' S'
 ok:bg S'
theorem Mv.same{C:Addr}{D:aT}{H H':Hp}{S:DS}(h:a5 C H D S)(d:bg S)(s:av H H'):Mv C D H D S H':=⟨rfl,.inl rfl,av.frD s,h.same s,d⟩
theorem Mv.same2{C:Addr}{D D':aT}{H H1 H2:Hp}{S':DS}(h:Mv C D H D' S' H1)(s:av H1 H2):Mv C D H D' S' H2:=⟨h.o,h.lr,λx u e n1 n2=>s _ _ (h.fr x u e n1 n2),h.at_.same s,h.ok⟩
structure Bk(H:Hp)(D:aT)(S:DS)(st r:Addr):Prop where
 bt:H st=some (.tup [.int ((S.n:Nat):Int),.ref r,.int ((S.rule:Nat):Int)])
 br:H r=some (.lst ((S.rws.map aM).map V.str))
 ne:r≠D.lr
theorem Bk.same{H H':Hp}{D:aT}{S:DS}{st r:Addr}(h:Bk H D S st r)(s:av H H'):Bk H' D S st r:=⟨s _ _ h.bt,s _ _ h.br,h.ne⟩
theorem Cj:("rule":Str)++" "="rule ":=by decide +kernel
theorem Ck:("wish":Str)++" "="wish ":=by decide +kernel
theorem eqT(ts:List Str):PyData.eqv (.list (ts.map PyData.str)) (.list (ts.map PyData.str))=true:=by rw[PyData.eqv,gY];exact Qo rfl
theorem ca:SeqAt.shaped (.list (([]:List Str).map PyData.str))=true:=(cB B9).ok (by decide)
theorem eM:PyData.eqv (.list (([]:List Str).map PyData.str)) (.list (([]:List Str).map PyData.str))=true:=by rw[PyData.eqv,gY];rfl
inductive um (C:Addr) (vs:List V) (H:Hp) (Q:VK) (E:XK):Prop
 |mk:∀(D:aT) (S:DS) (st r:Addr) (c:Int),vs=[.ref D.o,.ref st,.int c]->a5 C H D S->bg S->Bk H D S st r->S.rws.length<40->(∀D' S' Dm r' t H',Mv C D H D' S' H'->Bk H' D' S' Dm r'->S'.rws.length<=S.rws.length+1->H' t=some (.tup [.bl true,.ref Dm])->Q (.ref t) H')->um C vs H Q E
noncomputable abbrev Cm:List Str:=Ye
theorem uo:aK Cm Yi (aA mU):=⟨rfl,rfl,rfl,by decide +kernel,rfl,by decide +kernel,by decide +kernel⟩
theorem Cn(T:All P w K mg AA DD):aF P w K mg base aJ 18 AA.ZW DD.ZW Yi (um AA.c_Desk):=by
 have Dc:=kH (base:=base) T;have GD:=Ay (base:=base) T;have GLW:=qX (base:=base) T;have GMD:=AK (base:=base) T;have GR:=iZ (base:=base) T;have GDU:=Cf (base:=base) T;refine T.z_ZW.F.ok uo (λvs H Q E h=>?_) (λCJ A outer s H vs Q E hr h=>?_)
 ·obtain⟨D,S,st,r,c,rfl,_⟩:=h;rfl
 obtain⟨D,S,st,r,c,rfl,hD,hS,hB,h40,k⟩:=h;have nd:=uo.nd;have hu:=hr.units;have CO:au 1 _:=hr.mono (by decide);have Dd:au 2 _:=hr.mono (by decide);have Dv:au 4 _:=hr.mono (by decide);have hr15:au 15 _:=hr.mono (by decide);have CM:au 17 _:=hr;refine⟨_,(@ah _ _ _ _ _ (nQ (pv 1) (gf rfl (bU (bq (i:=3) nd rfl (Or.inl rfl)) (bU (bq (i:=4) nd rfl (Or.inl rfl)) (bU (bq (i:=5) nd rfl (Or.inl rfl)) eh))))) (@ah _ _ _ _ _ (@aD _ _ 6 _ _ _ _ nd rfl (Or.inl rfl) (d6 (aE GD CO rfl T.z_ZG (@aa _ _ _ _ _ (pv 2) (@aa _ _ _ _ _ ag ac (by rfl)) (by rfl)))) (by rfl) (by first|exact .inl rfl|exact .inr rfl|assumption)) (@ah _ _ _ _ _ (@aD _ _ 7 _ _ _ _ nd rfl (Or.inl rfl) (aE GLW CO rfl T.z_ZS (@aa _ _ _ _ _ (pv 6) (@aa _ _ _ _ _ (pv 3) (@aa _ _ _ _ _ (@aj _ _ _ _ _ _ _ _ bL ag (@aj _ _ _ _ _ _ _ _ bn (@aj _ _ _ _ _ _ _ _ bV (pv 6) ag) ag)) ac (by rfl)) (by rfl)) (by rfl))) (by rfl) (by first|exact .inl rfl|exact .inr rfl|assumption)) (@ah _ _ _ _ _ (@aB _ _ _ _ _ _ _ _ (@ax _ _ _ _ _ _ _ _ fS (@aj _ _ _ _ _ _ _ _ bn (pv 2) ag) ag (aq _)) (@ah _ _ _ _ _ (@aD _ _ 8 _ _ _ _ nd rfl (Or.inl rfl) (zC (aE GMD Dd rfl T.z_ZV (@aa _ _ _ _ _ (pv 6) (@aa _ _ _ _ _ (pv 3) (@aa _ _ _ _ _ (@aj _ _ _ _ _ _ _ _ bn (@aj _ _ _ _ _ _ _ _ bV (pv 6) ag) ag) ac (by rfl)) (by rfl)) (by rfl)))) (by rfl) (by first|exact .inl rfl|exact .inr rfl|assumption)) (@ak _ _ _ (@ay _ _ _ _ (@cH _ _ _ _ _ (@aa _ _ _ _ _ (@bM _ _ _ _ _ _ _ _ (eH (K:=K) rfl hu) (bf (pv 0) T.cl_Desk T.M_ZX Dc CM T.z_ZX.b .nil bv (@aa _ _ _ _ _ (@aj _ _ _ _ _ _ _ _ bP ao (pv 8)) ac (by rfl))) (@aO _ _ _ _ ac) (aq _)) (@aa _ _ _ _ _ (@cH _ _ _ _ _ (@aa _ _ _ _ _ (pv 3) (@aa _ _ _ _ _ (@aj _ _ _ _ _ _ _ _ jG (pv 4) (@aO _ _ _ _ (@aa _ _ _ _ _ (pv 8) ac (by rfl)))) (@aa _ _ _ _ _ (pv 5) ac (by rfl)) (by rfl)) (by rfl))) ac (by rfl)) (by rfl)))))) aI) (@ah _ _ _ _ _ (@aB _ _ _ _ _ _ _ _ (@ax _ _ _ _ _ _ _ _ aN (@aj _ _ _ _ _ _ _ _ bn (pv 2) ag) ag (aq _)) (@ak _ _ _ (@ay _ _ _ _ (@cH _ _ _ _ _ (@aa _ _ _ _ _ (@bM _ _ _ _ _ _ _ _ (eH (K:=K) rfl hu) (bf (pv 0) T.cl_Desk T.M_ZX Dc CM T.z_ZX.b .nil bv (@aa _ _ _ _ _ (@aj _ _ _ _ _ _ _ _ bP ao (pv 7)) ac (by rfl))) (@aO _ _ _ _ ac) (aq _)) (@aa _ _ _ _ _ (@cH _ _ _ _ _ (@aa _ _ _ _ _ (pv 3) (@aa _ _ _ _ _ (pv 4) (@aa _ _ _ _ _ (aE GR Dv rfl T.z_ZB (@aa _ _ _ _ _ (pv 7) (@aa _ _ _ _ _ (pv 3) ac (by rfl)) (by rfl))) ac (by rfl)) (by rfl)) (by rfl))) ac (by rfl)) (by rfl))))) aI) (@ak _ _ _ (@ay _ _ _ _ (@cH _ _ _ _ _ (@aa _ _ _ _ _ (@bM _ _ _ _ _ _ _ _ (eH (K:=K) rfl hu) (bf (pv 0) T.cl_Desk T.M_ZX Dc CM T.z_ZX.b .nil bv (@aa _ _ _ _ _ (@aj _ _ _ _ _ _ _ _ bP ao (pv 7)) ac (by rfl))) (aE GDU hr15 rfl T.z_Zf (@aa _ _ _ _ _ (pv 7) (@aa _ _ _ _ _ (pv 5) (@aa _ _ _ _ _ (pv 3) ac (by rfl)) (by rfl)) (by rfl))) (aq _)) (@aa _ _ _ _ _ (pv 1) ac (by rfl)) (by rfl)))))))))),?_⟩;have hn:S.n<=10:=Qg hS.n6 (by decide);refine⟨_,rfl,st,_,rfl,aW.of hB.bt,rfl,?_⟩
 try dsimp only[a7]
 refine⟨_,_,rfl,_,_,rfl,_,_,rfl,rfl,?_⟩;refine⟨_,rfl,c,3,rfl,by decide,λpx zs hpx Ew hzb=>?_⟩;have s1:=ap (o:=.lst (zs.map V.int)) hpx;have hX:ai H px (.lst (zs.map V.int)) px=some (.lst (zs.map V.int)):=af;generalize ai H px (.lst (zs.map V.int))=H1 at s1 hX ⊢;clear hpx;refine⟨px,_,2,_,rfl,rfl,ae.of hX,aX (j:=2) (by rw[Qi,Qc (by lia)];rfl),?_⟩;have hx:=hzb _ (QP (show 2<zs.length by lia));generalize zs[2]=x at hx ⊢;obtain⟨hx0,hx1⟩:=hx
 try dsimp only[a7]
 obtain⟨q,eq,hq⟩:=dC (a:=x/7) (n:=9) (by decide);have eq:x/7%9=((q:Nat):Int):=eq;refine⟨_,rfl,_,rfl,_,rfl,_,_,rfl,rfl,⟨by decide,by decide⟩,_,_,rfl,rfl,(by show(0:Int)<9;decide),_,_,rfl,rfl,?_⟩;rw[eq];refine⟨x,S.n,1+q,(by rw[Int.natCast_add];rfl),hn,by lia,by lia,λz v hv hz hl=>?_⟩;obtain rfl:z=aU v:=cV (by rw[hz];rfl);have hvl:v.signs.length<=9:=by have:(aU v).length=v.signs.length:=Qv ..;lia
 have hW:g9 S.n v:=⟨hv,hvl⟩
 have hB1:=hB.same s1;have hD1:=hD.same s1
 try dsimp only[a7]
 refine fh (λσ' H'=>H1=H'/\σ'=[some (.ref D.o),some (.ref st),some (.int c),some (.int ((S.n:Nat):Int)),some (.ref r),some (.int ((S.rule:Nat):Int)),some (.int x),some (.str (aU v)),none]) (λR hR=>?_) ?_
 ·refine⟨_,rfl,_,_,rfl,rfl,(by show(0:Int)<4;decide),_,_,rfl,rfl,_,rfl,?_⟩;refine b4 (λ_=>?_) (λ_=>hR _ _ ⟨rfl,rfl⟩);obtain⟨m,em,hm⟩:=dC (a:=x/5) (n:=10) (by decide);have em:x/5%10=((m:Nat):Int):=em;refine⟨_,rfl,_,rfl,_,rfl,_,_,rfl,rfl,⟨by decide,by decide⟩,_,_,rfl,rfl,(by show(0:Int)<10;decide),?_⟩;rw[em];refine⟨x,S.n,m,rfl,hn,by lia,λt0 rf rw_ ts as evs H2 g e0 hle s2 ht0 _=>?_⟩
  have hRw:dG S.n evs:=⟨g,e0,hle⟩
  have hC:=cm.row S evs hRw h40;have Dn:=s1.trans s2;refine⟨t0,_,0,_,rfl,rfl,aW.of ht0,aX (j:=0) rfl,?_⟩
  try dsimp only[a7]
  have l4:("row ":Str).length=4:=by decide +kernel
  have Dg:=hC.om hS;have Dg:(aM evs).length<=1000:=Dg;refine⟨_,rfl,D.o,D.dx,_,rfl,Dn _ _ hD.ins,rfl,_,rfl,_,_,rfl,rfl,(by rw[l4];exact Qg (show 4+(aM evs).length<=1004 by lia) (by decide)),?_⟩;refine .inl ⟨D,S,_,.row (aM evs),rfl,hD.same Dn,hS,hC,λD' q3 H3 eo el hf hd nq e3=>?_⟩
  have hM:Mv AA.c_Desk D H D' _ H3:=⟨eo,el.imp id λh=>none_of Dn h,λb u e n1 n2=>hf b u (Dn _ _ e) n1 n2,hd,hC.dok hS⟩
  have Dr:H3 r=some (.lst ((S.rws.map aM).map V.str)):=hf _ _ (Dn _ _ hB.br) (dI hB.br hD.ins (by intro z;cases z)) hB.ne;refine⟨Ql _,λpe CP=>?_⟩;have s4:=ap (o:=.lst []) CP;refine⟨_,_,bi (ts:=[]) (s4 _ _ e3),bi (ts:=[]) af,ca,ca,?_⟩;rw[eM];have hM4:=hM.same2 s4;have Dv:=s4 _ _ Dr;generalize ai H3 pe (.lst [])=H4 at hM4 Dv ⊢;refine⟨_,rfl,_,rfl,_,rfl,bZ,λp1 Ek=>?_⟩;have s5:=ap (o:=.lst [.str (aM evs)]) Ek;have hl:((S.rws.map aM).map V.str).length=S.rws.length:=by rw[Qb,Qb]
  refine⟨r,p1,_,_,rfl,rfl,s5 _ _ Dv,af,(by rw[hl];exact Qg (show S.rws.length+1<=100 by lia) (by decide)),λp2 DH=>?_⟩;have s6:=ap (o:=.lst ((S.rws.map aM).map V.str++[.str (aM evs)])) DH;refine⟨_,rfl,fF,λt1 ht1=>⟨dH,λt2 Ex=>?_⟩⟩;have s7:=ap (o:=.tup [.int ((S.n:Nat):Int),.ref p2,.int ((S.rule:Nat):Int)]) ht1;have s8:=ap (o:=.tup [.bl true,.ref t1]) Ex;have s58:=(s5.trans s6).trans (s7.trans s8);have hM8:=hM4.same2 s58;refine k D' _ t1 p2 t2 _ hM8 ⟨s8 _ _ af,(s7.trans s8) _ _ (by rw[af];simp),(aH (s5 _ _ hM4.at_.rws) DH).symm⟩ ?_ af;show(S.rws++[evs]).length<=_;simp
 rintro σ' H' ⟨rfl,rfl⟩;have l5:("rule ":Str).length=5:=by decide +kernel
 have l5':("wish ":Str).length=5:=by decide +kernel
 have DR:(aU v).length<=9:=Qg hl (by lia);refine fh (λσ' H'=>H1=H'/\σ'=[some (.ref D.o),some (.ref st),some (.int c),some (.int ((S.n:Nat):Int)),some (.ref r),some (.int ((S.rule:Nat):Int)),some (.int x),some (.str (aU v)),none]) (λR hR=>?_) ?_
 ·refine⟨_,rfl,_,_,rfl,rfl,(by show(0:Int)<4;decide),rfl,_,rfl,?_⟩;refine b4 (λ_=>?_) (λ_=>hR _ _ ⟨rfl,rfl⟩);have hC:=cm.rule S v hW;refine⟨_,rfl,D.o,D.dx,_,rfl,hD1.ins,rfl,_,rfl,_,_,rfl,rfl,(by rw[l5];exact Qg (show 5+(aU v).length<=14 by lia) (by decide)),?_⟩;refine .inl ⟨D,S,_,.wish "rule" (aU v),(by show _=[V.ref D.o,V.str ("rule"++" "++aU v)];rw[Cj];rfl),hD1,hS,hC,λD' q3 H3 eo el hf hd nq e3=>?_⟩
  have hM:Mv AA.c_Desk D H D' _ H3:=⟨eo,el.imp id λh=>none_of s1 h,λb u e n1 n2=>hf b u (s1 _ _ e) n1 n2,hd,hC.dok hS⟩
  have Dr:H3 r=some (.lst ((S.rws.map aM).map V.str)):=hf _ _ (s1 _ _ hB.br) (dI hB.br hD.ins (by intro z;cases z)) hB.ne
  have EK:r≠D'.lr:=by
   rcases el with q|q
   ·rw[q];exact hB.ne
   exact aH hB1.br q
  refine⟨Ql _,λpe CP=>?_⟩;have s4:=ap (o:=.lst []) CP;refine⟨_,_,bi (ts:=[]) (s4 _ _ e3),bi (ts:=[]) af,ca,ca,?_⟩;rw[eM];have hM4:=hM.same2 s4;have Dv:=s4 _ _ Dr;generalize ai H3 pe (.lst [])=H4 at hM4 Dv ⊢;refine⟨_,rfl,_,rfl,_,rfl,_,rfl,aU v,S.n,v.val (bB S.n) (aS S.n),rfl,hn,gm hn v hv,(by show v.signs.toArray.size<=4000;simp;lia),iE (by rw[iW];exact Qk _) hn hv,λH5 s5=>?_⟩;refine⟨fF,λt1 ht1=>⟨dH,λt2 Ex=>?_⟩⟩;have s7:=ap (o:=.tup [.int ((S.n:Nat):Int),.ref r,.int ((v.val (bB S.n) (aS S.n):Nat):Int)]) ht1;have s8:=ap (o:=.tup [.bl true,.ref t1]) Ex;have s58:=s5.trans (s7.trans s8);exact k D' _ t1 r t2 _ (hM4.same2 s58) ⟨s8 _ _ af,s58 _ _ Dv,EK⟩ (Nat.le_succ _) af
 rintro σ' H' ⟨rfl,rfl⟩;have hA:=bK.wish S v hW;refine⟨_,rfl,D.o,D.dx,_,rfl,hD1.ins,rfl,_,rfl,_,_,rfl,rfl,(by rw[l5'];exact Qg (show 5+(aU v).length<=14 by lia) (by decide)),?_⟩;refine .inr (.inl ⟨D,S,.wish "wish" (aU v),_,(by show _=[V.ref D.o,V.str ("wish"++" "++aU v)];rw[Ck];rfl),hD1,hS,hA,λq3 H3 s3 hq3 e3=>?_⟩);refine⟨_,rfl,_,rfl,_,rfl,v,S.n,S.rule,rfl,hS.n6,hW,λq4 H4 hq4 s4 e4=>?_⟩;refine⟨_,_,bi (s4 _ _ e3),bi (ts:=[jd S.n (v.val (bB S.n) (aS S.n)) S.rule]) e4,(cB (hA.c128 hS)).ok (by decide),(cB (hA.c128 hS)).ok (by decide),?_⟩;rw[eqT];refine⟨_,rfl,dH,λt2 Ex=>?_⟩;have s5:=ap (o:=.tup [.bl true,.ref st]) Ex;have s25:=(s3.trans s4).trans s5;have s15:=s1.trans s25;exact k D S st r t2 _ (Mv.same hD hS s15) (hB.same s15) (Nat.le_succ _) af
noncomputable def xS:Str:="x"
theorem uq:Pl xS/\xS.length<=5:=⟨⟨by decide +kernel,⟨120,[],rfl,by decide⟩,by decide +kernel⟩,by decide +kernel⟩
theorem gx(n:Nat):aP n [.pl xS]:=aP.snoc (evs:=[]) (aP.nil n) uq
theorem g0(n:Nat):aP n [.op .c0]:=aP.snoc (evs:=[]) (aP.nil n) ⟨trivial,by decide,by decide⟩
theorem ur(n:Nat):aP n [.op .c0,.pl xS]:=aP.snoc (evs:=[.op .c0]) (g0 n) uq
theorem Co(n:Nat):aP n [.op .c0,.pl xS,.cl]:=aP.snoc (evs:=[.op .c0,.pl xS]) (ur n) (show(rn [.op .c0,.pl xS]).2≠[] by simp[rn,bX])
noncomputable def fE:List Str:=["x "," x"," ","x  y","<0 x","x >","x\n"]
theorem Cp:∀z∈fE,eL z:=by
 intro z hz;have hx:(rn [.pl xS]).2=[]:=rfl;rcases (show z=_∨z=_∨z=_∨z=_∨z=_∨z=_∨z=_ by simpa [fE] using hz) with rfl|rfl|rfl|rfl|rfl|rfl|rfl
 ·exact .inr ⟨by decide +kernel,by decide +kernel,[.pl xS],gx 0,by decide,.inl ⟨⟨#[]⟩,[],by decide +kernel,.inl rfl⟩⟩
 ·exact .inr ⟨by decide +kernel,by decide +kernel,[],aP.nil 0,by decide,.inl ⟨⟨#[]⟩,["x"],by decide +kernel,.inl rfl⟩⟩
 ·exact .inr ⟨by decide +kernel,by decide +kernel,[],aP.nil 0,by decide,.inl ⟨⟨#[]⟩,[""],by decide +kernel,.inl rfl⟩⟩
 ·exact .inr ⟨by decide +kernel,by decide +kernel,[.pl xS],gx 0,by decide,.inl ⟨⟨#[]⟩,["y"],by decide +kernel,.inl rfl⟩⟩
 ·exact .inr ⟨by decide +kernel,by decide +kernel,[.op .c0,.pl xS],ur 0,by decide,.inr ⟨by decide +kernel,by simp[rn,bX]⟩⟩
 ·exact .inr ⟨by decide +kernel,by decide +kernel,[.pl xS],gx 0,by decide,.inl ⟨⟨#[62]⟩,[],by decide +kernel,.inr ⟨rfl,rfl⟩⟩⟩
 exact .inl rfl
noncomputable abbrev kJ:List Mm.Ev:=[.op .c0,.pl xS,.cl]
theorem Cq(n:Nat):dG n [.pl xS]:=⟨gx n,rfl,by decide⟩
theorem Cr(n:Nat):dG n kJ:=⟨Co n,rfl,by decide⟩
theorem ut:fC [] []="alike":=if_pos rfl
theorem uu:fC [] [kJ]="alike":=if_pos (by decide +kernel)
theorem uv:fC [] [kJ,[]]="0":=if_neg (by decide +kernel)
theorem uw:nF (S0 0)=[]:=by decide +kernel
theorem ux:fD (S0 0) 0=([""]:List Str):=by decide +kernel
theorem uy:(nz (S0 0).rws).map aM=([""]:List Str):=by decide +kernel
inductive uz (K:W.Frag) (vs:List V) (H:Hp) (Q:VK) (E:XK):Prop
 |mk:∀(a:Addr) (ns:List Int) (k:Nat),vs=[.ref a,.int ((k:Nat):Int)]->ae K H a (ns.map V.int)->(∀c:Int,Q (.int c) H)->uz K vs H Q E
noncomputable abbrev Cs:List Str:=Yk
theorem Ct:aK Cs Yk (aA mQ):=⟨rfl,rfl,rfl,by decide +kernel,rfl,by decide +kernel,by decide +kernel⟩
theorem Cu(T:All P w K mg AA DD):aF P w K mg base aJ 1 AA.Zl DD.Zl Yk (uz K):=by
 refine T.z_Zl.F.ok Ct (λvs H Q E h=>?_) (λCJ A outer s H vs Q E hr h=>?_)
 ·obtain⟨a,ns,k,rfl,_⟩:=h;rfl
 obtain⟨a,ns,k,rfl,ha,kk⟩:=h;refine⟨_,(ah (aB (ax fS (pv 1) (bc fX rfl T.n_len bw (aa (pv 0) ac)) (aq _)) (ak (ay (aY (lM (K:=K) rfl) (pv 0) (pv 1) (λ_ _=>rfl)))) aI) (ak (ay ag))),?_⟩;refine⟨_,rfl,_,rfl,a,_,rfl,.inl ha,_,_,rfl,rfl,_,rfl,?_⟩;rw[Qb];refine b4 (λh=>?_) (λ_=>kk 0);have h:=QO h;exact⟨_,rfl,_,rfl,a,_,_,_,rfl,rfl,ha,aX (by rw[Qi,Qc (by omega)];rfl),kk _⟩
structure Wd(C:Addr)(B H:Hp)(D D2:aT)(S S2:DS):Prop where
 sm:av B H
 n1:B D.o=none/\B D.lr=none
 n2:B D2.o=none/\B D2.lr=none
 a1:a5 C H D S
 a2:a5 C H D2 S2
 k1:bg S
 k2:bg S2
 oo:D.o≠D2.o
 ll:D.lr≠D2.lr
theorem Wd.same{C:Addr}{B H H':Hp}{D D2:aT}{S S2:DS}(h:Wd C B H D D2 S S2)(s:av H H'):Wd C B H' D D2 S S2:=⟨h.sm.trans s,h.n1,h.n2,h.a1.same s,h.a2.same s,h.k1,h.k2,h.oo,h.ll⟩
theorem Wd.swap{C:Addr}{B H:Hp}{D D2:aT}{S S2:DS}(h:Wd C B H D D2 S S2):Wd C B H D2 D S2 S:=⟨h.sm,h.n2,h.n1,h.a2,h.a1,h.k2,h.k1,h.oo.symm,h.ll.symm⟩
theorem Wd.ol{C:Addr}{B H:Hp}{D D2:aT}{S S2:DS}(h:Wd C B H D D2 S S2):D2.o≠D.lr:=dI h.a2.ins h.a1.rws (by intro z;cases z)
theorem Wd.mv{C:Addr}{B H H':Hp}{D D' D2:aT}{S S' S2:DS}(h:Wd C B H D D2 S S2)(m:Mv C D H D' S' H'):Wd C B H' D' D2 S' S2:=by
 refine⟨λb u e=>m.fr b u (h.sm b u e) (aH e h.n1.1) (aH e h.n1.2),⟨by rw[m.o];exact h.n1.1,?_⟩,h.n2,m.at_,⟨m.fr _ _ h.a2.ins h.oo.symm h.ol,m.fr _ _ h.a2.rws h.swap.ol.symm h.ll.symm⟩,m.ok,h.k2,by rw[m.o];exact h.oo,?_⟩
 ·rcases m.lr with q|q
  ·rw[q];exact h.n1.2
  exact none_of h.sm q
 rcases m.lr with q|q
 ·rw[q];exact h.ll
 exact(aH h.a2.rws q).symm
theorem Mv.keep{C:Addr}{H H':Hp}{D D':aT}{S S':DS}{p:Addr}{xs:List V}(d:a5 C H D S)(m:Mv C D H D' S' H')(h:H p=some (.lst xs))(n:p≠D.lr):H' p=some (.lst xs)/\p≠D'.lr:=by
 refine⟨m.fr _ _ h (dI h d.ins (by intro z;cases z)) n,?_⟩;rcases m.lr with q|q
 ·rw[q];exact n
 exact aH h q
theorem made{C:Addr}{H H1:Hp}{o dx lr:Addr}(ho:H o=none)(hdx:H dx=none)(hl:ai (ai H dx (.own o)) o (.ins C dx []) lr=none)(hf:∀b u,ai (ai H dx (.own o)) o (.ins C dx []) b=some u->b≠o->H1 b=some u):av H H1/\H lr=none:=by
 refine⟨λb u e=>?_,?_⟩
 ·have n:=aH e ho;exact hf b u (by rw[am n,am (aH e hdx)];exact e) n
 cases e:H lr with
 |none=>rfl
 |some u=>rw[am (aH e ho),am (aH e hdx),e] at hl;cases hl
theorem nK{C CG:Addr}{D:aT}{S S':DS}{H:Hp}{O:Om}{z:Str}{Q:VK}{E:XK}(hD:a5 C H D S)(hS:bg S)(hC:cm S O S')(e:z=O.txt)(k:∀D' q H',Mv C D H D' S' H'->q≠D'.lr->H' q=some (.lst (([]:List Str).map V.str))->Q (.ref q) H') :
  hJ C [.ref D.o,.str z] H Q E∨hU C [.ref D.o,.str z] H Q E∨je C CG [.ref D.o,.str z] H Q E:=
 .inl ⟨D,S,S',O,by rw[e],hD,hS,hC,λD' q H' eo el hf hd nq e=>k D' q H' ⟨eo,el,hf,hd,hC.dok hS⟩ nq e⟩
theorem nL{C CG:Addr}{D:aT}{S:DS}{H:Hp}{O:Om}{z:Str}{ts:List Str}{Q:VK}{E:XK}(hD:a5 C H D S)(hS:bg S)(hA:bK S O ts)(e:z=O.txt)(k:∀q H',av H H'->H q=none->H' q=some (.lst (ts.map V.str))->bu ts->Q (.ref q) H') :
  hJ C [.ref D.o,.str z] H Q E∨hU C [.ref D.o,.str z] H Q E∨je C CG [.ref D.o,.str z] H Q E:=
 .inr (.inl ⟨D,S,O,ts,by rw[e],hD,hS,hA,λq H' s hq e=>k q H' s hq e (hA.c128 hS)⟩)
theorem gu{C CG:Addr}{D:aT}{S S':DS}{H:Hp}{O:Om}{z:Str}{Q:VK}{E:XK}{o:Addr}(ho:D.o=o)(hD:a5 C H D S)(hS:bg S)(hC:cm S O S')(e:z=O.txt)(k:∀D' q H',Mv C D H D' S' H'->q≠D'.lr->H' q=some (.lst (([]:List Str).map V.str))->Q (.ref q) H') :
  hJ C [.ref o,.str z] H Q E∨hU C [.ref o,.str z] H Q E∨je C CG [.ref o,.str z] H Q E:=by subst ho;exact nK hD hS hC e k
theorem gv{C CG:Addr}{D:aT}{S:DS}{H:Hp}{O:Om}{z:Str}{ts:List Str}{Q:VK}{E:XK}{o:Addr}(ho:D.o=o)(hD:a5 C H D S)(hS:bg S)(hA:bK S O ts)(e:z=O.txt)(k:∀q H',av H H'->H q=none->H' q=some (.lst (ts.map V.str))->bu ts->Q (.ref q) H') :
  hJ C [.ref o,.str z] H Q E∨hU C [.ref o,.str z] H Q E∨je C CG [.ref o,.str z] H Q E:=by subst ho;exact nL hD hS hA e k
theorem uA:(nz ([]++[[.pl xS]])).map aM=([xS]:List Str):=by decide +kernel
theorem Cv:("switches":Str)++" "="switches ":=by decide +kernel
theorem uB(n:Nat):("switches ":Str)++nS n=(Om.num "switches" n).txt:=by show _=("switches":Str)++" "++nS n;rw[Cv]
theorem uC{n:Nat}(h:n<=6):("switches ":Str).length+(nS n).length<=sizeLine:=by
 have h1:("switches ":Str).length=9:=by decide +kernel
 have h2:=g6 n (by lia);exact Qg (show _<=11 by lia) (by decide)
theorem uD{n:Nat}:((2^2^n:Nat):Int)-1=((aS n:Nat):Int):=by have:=Nat.two_pow_pos (2^n);unfold aS;omega
theorem Cw(ns:List Int):∃cs:List Int,cJ (ns.map V.int) (some 1) (some 13)=cs.map V.int/\cs.length<=12:=by unfold cJ;rw[show(some 1:Option Int)=some ((1:Nat):Int) from rfl,show(some 13:Option Int)=some ((13:Nat):Int) from rfl,HT.sIx_nat,HT.sIx_nat];refine⟨(ns.drop _).take _,by rw[List.map_take,List.map_drop],?_⟩;rw[QL,Qb];omega
inductive jf (K:W.Frag) (vs:List V) (H:Hp) (Q:VK) (E:XK):Prop
 |mk:∀(a:Addr) (ns:List Int),vs=[.ref a]->ae K H a (ns.map V.int)->ns.length<=63->(∀H',Q (.bl true) H')->jf K vs H Q E
noncomputable abbrev uE:List Str:=["_law_script","_law_desk","_law_beside","_law_state","_law_n","_law_cell","_law_good","_law_found"]
theorem uF:aK uE YF (aA kj):=⟨rfl,rfl,rfl,by decide +kernel,rfl,by decide +kernel,by decide +kernel⟩
theorem Cy(T:All P w K mg AA DD){f:Addr}{fd:FuncData}(F:fY K "law" "law" kj f fd):aF P w K mg base aJ 60 f fd YF (jf K):=by
 have GDI:=BK (base:=base) T;have GNP:=Cd (base:=base) T;have GCE:=Cu (base:=base) T;have Dc:=kH (base:=base) T;have GTU:=Cn (base:=base) T;have GLK:=Ci (base:=base) T;refine F.ok uF (λvs H Q E h=>?_) (λCJ A outer s H vs Q E hr h=>?_)
 ·obtain⟨a,ns,rfl,_⟩:=h;rfl
 obtain⟨a,ns,rfl,hS,CN,k⟩:=h;have nd:=uF.nd;have hu:=hr.units;have CO:au 1 _:=hr.mono (by decide);have Dr:au 3 _:=hr.mono (by decide);have CM:au 17 _:=hr.mono (by decide);have hr18:au 18 _:=hr.mono (by decide);refine⟨_,(@ah _ _ _ _ _ (@aD _ _ 1 _ _ _ _ nd rfl (Or.inl rfl) (oB T.M_Desk GDI Dr rfl T.m_Desk T.z_ZH.b .nil cK) (by rfl) (by first|exact .inl rfl|exact .inr rfl|assumption)) (@ah _ _ _ _ _ (@aD _ _ 2 _ _ _ _ nd rfl (Or.inr rfl) (oB T.M_Desk GDI Dr rfl T.m_Desk T.z_ZH.b .nil cK) (by rfl) (by first|exact .inl rfl|exact .inr rfl|assumption)) (@ah _ _ _ _ _ (@aB _ _ _ _ _ _ _ _ (fK (cQ (bc (o9 rfl) rfl T.n_all pd (@aa _ _ _ _ _ (cU (aA kj) uE ["_law_beside"] [2] rfl (by decide +kernel) rfl rfl (nX (@aO _ _ _ _ (@aa _ _ _ _ _ ao (@aa _ _ _ _ _ ao (@aa _ _ _ _ _ ao (@aa _ _ _ _ _ ao (@aa _ _ _ _ _ ao (@aa _ _ _ _ _ ao (@aa _ _ _ _ _ ao ac (by rfl)) (by rfl)) (by rfl)) (by rfl)) (by rfl)) (by rfl)) (by rfl)))) (λ_ _ _ _=>cy) (λ_ _ _ _=>(aE GNP hr18 rfl T.z_Zm (@aa _ _ _ _ _ (pv 1) (@aa _ _ _ _ _ (pv 0) ac (by rfl)) (by rfl))))) ac (by rfl))))) (@ak _ _ _ (@ay _ _ _ _ dJ)) aI) (@ah _ _ _ _ _ (@aD _ _ 3 _ _ _ _ nd rfl (Or.inl rfl) (@cH _ _ _ _ _ (@aa _ _ _ _ _ ag (@aa _ _ _ _ _ (@aO _ _ _ _ ac) (@aa _ _ _ _ _ ag ac (by rfl)) (by rfl)) (by rfl))) (by rfl) (by first|exact .inl rfl|exact .inr rfl|assumption)) (@ah _ _ _ _ _ (@aB _ _ _ _ _ _ _ _ (@ax _ _ _ _ _ _ _ _ cF (@aj _ _ _ _ _ _ _ _ bn (aE GCE CO rfl T.z_Zl (@aa _ _ _ _ _ (pv 0) (@aa _ _ _ _ _ ag ac (by rfl)) (by rfl))) ag) ag (aq _)) (@ah _ _ _ _ _ (@aD _ _ 4 _ _ _ _ nd rfl (Or.inl rfl) (@aj _ _ _ _ _ _ _ _ bn (aE GCE CO rfl T.z_Zl (@aa _ _ _ _ _ (pv 0) (@aa _ _ _ _ _ ag ac (by rfl)) (by rfl))) ag) (by rfl) (by first|exact .inl rfl|exact .inr rfl|assumption)) (@ah _ _ _ _ _ (@aB _ _ _ _ _ _ _ _ (@ax _ _ _ _ _ _ _ _ (cf (K:=K) rfl hu) (bf (pv 1) T.cl_Desk T.M_ZX Dc CM T.z_ZX.b .nil bv (@aa _ _ _ _ _ (@aj _ _ _ _ _ _ _ _ bP ao (cI gP rfl T.n_str du (@aa _ _ _ _ _ (pv 4) ac (by rfl)))) ac (by rfl))) (@aO _ _ _ _ ac) (aq _)) (@ak _ _ _ (@ay _ _ _ _ dJ)) aI) (@ak _ _ _ (@aD _ _ 3 _ _ _ _ nd rfl (Or.inl rfl) (@cH _ _ _ _ _ (@aa _ _ _ _ _ (pv 4) (@aa _ _ _ _ _ (@aO _ _ _ _ ac) (@aa _ _ _ _ _ (@aj _ _ _ _ _ _ _ _ eQ (@aj _ _ _ _ _ _ _ _ cc ag (@aj _ _ _ _ _ _ _ _ cc ag (pv 4))) ag) ac (by rfl)) (by rfl)) (by rfl))) (by rfl) (by first|exact .inl rfl|exact .inr rfl|assumption))))) aI) (@ah _ _ _ _ _ (@eB _ _ _ _ _ _ _ _ PassesOwn.never rfl (nX (gC lv (pv 0) (fV ag) (fV ag))) (bq (i:=5) nd rfl (Or.inl rfl)) (@ah _ _ _ _ _ (@aB _ _ _ _ _ _ _ _ (@ax _ _ _ _ _ _ _ _ aN (@aj _ _ _ _ _ _ _ _ bn (@aj _ _ _ _ _ _ _ _ bV (pv 5) ag) ag) ag (aq _)) (@ah _ _ _ _ _ (@aD _ _ 4 _ _ _ _ nd rfl (Or.inl rfl) (@aj _ _ _ _ _ _ _ _ bn (@aj _ _ _ _ _ _ _ _ bV (pv 5) ag) ag) (by rfl) (by first|exact .inl rfl|exact .inr rfl|assumption)) (@ah _ _ _ _ _ (@aD _ _ 3 _ _ _ _ nd rfl (Or.inl rfl) (@cH _ _ _ _ _ (@aa _ _ _ _ _ (pv 4) (@aa _ _ _ _ _ (@aO _ _ _ _ ac) (@aa _ _ _ _ _ (@aj _ _ _ _ _ _ _ _ eQ (@aj _ _ _ _ _ _ _ _ cc ag (@aj _ _ _ _ _ _ _ _ cc ag (pv 4))) ag) ac (by rfl)) (by rfl)) (by rfl))) (by rfl) (by first|exact .inl rfl|exact .inr rfl|assumption)) (@ak _ _ _ (@aB _ _ _ _ _ _ _ _ (@ax _ _ _ _ _ _ _ _ (cf (K:=K) rfl hu) (bf (pv 1) T.cl_Desk T.M_ZX Dc CM T.z_ZX.b .nil bv (@aa _ _ _ _ _ (@aj _ _ _ _ _ _ _ _ bP ao (cI gP rfl T.n_str du (@aa _ _ _ _ _ (pv 4) ac (by rfl)))) ac (by rfl))) (@aO _ _ _ _ ac) (aq _)) (@ak _ _ _ (@ay _ _ _ _ dJ)) aI)))) aI) (@ah _ _ _ _ _ (nQ (aE GTU hr18 rfl T.z_ZW (@aa _ _ _ _ _ (pv 1) (@aa _ _ _ _ _ (pv 3) (@aa _ _ _ _ _ (pv 5) ac (by rfl)) (by rfl)) (by rfl))) (kS rfl (bU (bq (i:=6) nd rfl (Or.inl rfl)) (bU (bq (i:=3) nd rfl (Or.inl rfl)) eh)))) (@ak _ _ _ (@aB _ _ _ _ _ _ _ _ (PW.pt (dj (fK (cQ (pv 6))) (eg (fK (cQ (aE GLK hr18 rfl T.z_Zw (@aa _ _ _ _ _ (pv 1) (@aa _ _ _ _ _ (@aY _ _ _ _ _ _ _ (lP (K:=K) rfl) (pv 3) ag (λ_ _=>rfl)) (@aa _ _ _ _ _ (@aY _ _ _ _ _ _ _ (lP (K:=K) rfl) (pv 3) ag (λ_ _=>rfl)) (@aa _ _ _ _ _ (@aY _ _ _ _ _ _ _ (lP (K:=K) rfl) (pv 3) ag (λ_ _=>rfl)) (@aa _ _ _ _ _ (@aj _ _ _ _ _ _ _ _ bn (@aj _ _ _ _ _ _ _ _ bV (pv 5) ag) ag) ac (by rfl)) (by rfl)) (by rfl)) (by rfl)) (by rfl)))))))) (@ak _ _ _ (@ay _ _ _ _ dJ)) aI)))) (by intro _;rfl)) (@ah _ _ _ _ _ (@aD _ _ 7 _ _ _ _ nd rfl (Or.inl rfl) (bf (pv 1) T.cl_Desk T.M_ZX Dc CM T.z_ZX.b .nil bv (@aa _ _ _ _ _ ao ac (by rfl))) (by rfl) (by first|exact .inl rfl|exact .inr rfl|assumption)) (@ah _ _ _ _ _ (@bE _ _ _ _ (jE PySem.F.plainAttrs_list PySem.F.slot_list_append PySem.F.type_list_append lC (pv 7) (@aa _ _ _ _ _ ao ac (by rfl))) (by rfl)) (@ah _ _ _ _ _ (@aB _ _ _ _ _ _ _ _ (@ax _ _ _ _ _ _ _ _ (eH (K:=K) rfl hu) (bf (pv 1) T.cl_Desk T.M_ZX Dc CM T.z_ZX.b .nil bv (@aa _ _ _ _ _ ao ac (by rfl))) (pv 7) (aq _)) (@ak _ _ _ (@ay _ _ _ _ dJ)) aI) (@ah _ _ _ _ _ (@aB _ _ _ _ _ _ _ _ (PW.pt (dj (@ax _ _ _ _ _ _ _ _ (cf (K:=K) rfl hu) (bf (pv 2) T.cl_Desk T.M_ZX Dc CM T.z_ZX.b .nil bv (@aa _ _ _ _ _ ao ac (by rfl))) (@aO _ _ _ _ ac) (aq _)) (dj (@ax _ _ _ _ _ _ _ _ (cf (K:=K) rfl hu) (bf (pv 2) T.cl_Desk T.M_ZX Dc CM T.z_ZX.b .nil bv (@aa _ _ _ _ _ ao ac (by rfl))) (@aO _ _ _ _ ac) (aq _)) (eg (@ax _ _ _ _ _ _ _ _ (cf (K:=K) rfl hu) (bf (pv 2) T.cl_Desk T.M_ZX Dc CM T.z_ZX.b .nil bv (@aa _ _ _ _ _ ao ac (by rfl))) (@aO _ _ _ _ (@aa _ _ _ _ _ ao ac (by rfl))) (aq _)))))) (@ak _ _ _ (@ay _ _ _ _ dJ)) aI) (@ah _ _ _ _ _ (@bE _ _ _ _ (bf (pv 2) T.cl_Desk T.M_ZX Dc CM T.z_ZX.b .nil bv (@aa _ _ _ _ _ ao ac (by rfl))) (by rfl)) (@ah _ _ _ _ _ (@aB _ _ _ _ _ _ _ _ (PW.pt (dj (@ax _ _ _ _ _ _ _ _ (cf (K:=K) rfl hu) (bf (pv 2) T.cl_Desk T.M_ZX Dc CM T.z_ZX.b .nil bv (@aa _ _ _ _ _ ao ac (by rfl))) (@aO _ _ _ _ ac) (aq _)) (dj (@ax _ _ _ _ _ _ _ _ (cf (K:=K) rfl hu) (bf (pv 2) T.cl_Desk T.M_ZX Dc CM T.z_ZX.b .nil bv (@aa _ _ _ _ _ ao ac (by rfl))) (@aO _ _ _ _ (@aa _ _ _ _ _ ao ac (by rfl))) (aq _)) (eg (@ax _ _ _ _ _ _ _ _ (cf (K:=K) rfl hu) (bf (pv 2) T.cl_Desk T.M_ZX Dc CM T.z_ZX.b .nil bv (@aa _ _ _ _ _ ao ac (by rfl))) (@aO _ _ _ _ ac) (aq _)))))) (@ak _ _ _ (@ay _ _ _ _ dJ)) aI) (@ah _ _ _ _ _ (@aB _ _ _ _ _ _ _ _ (PW.pt (dj (@ax _ _ _ _ _ _ _ _ (cf (K:=K) rfl hu) (bf (pv 2) T.cl_Desk T.M_ZX Dc CM T.z_ZX.b .nil bv (@aa _ _ _ _ _ ao ac (by rfl))) (@aO _ _ _ _ (@aa _ _ _ _ _ ao ac (by rfl))) (aq _)) (dj (@ax _ _ _ _ _ _ _ _ (cf (K:=K) rfl hu) (bf (pv 2) T.cl_Desk T.M_ZX Dc CM T.z_ZX.b .nil bv (@aa _ _ _ _ _ ao ac (by rfl))) (@aO _ _ _ _ ac) (aq _)) (eg (@ax _ _ _ _ _ _ _ _ (cf (K:=K) rfl hu) (bf (pv 2) T.cl_Desk T.M_ZX Dc CM T.z_ZX.b .nil bv (@aa _ _ _ _ _ ao ac (by rfl))) (@aO _ _ _ _ (@aa _ _ _ _ _ ao ac (by rfl))) (aq _)))))) (@ak _ _ _ (@ay _ _ _ _ dJ)) aI) (@ah _ _ _ _ _ (@bE _ _ _ _ (bf (pv 2) T.cl_Desk T.M_ZX Dc CM T.z_ZX.b .nil bv (@aa _ _ _ _ _ ao ac (by rfl))) (by rfl)) (@ak _ _ _ (@ay _ _ _ _ (dM (@bM _ _ _ _ _ _ _ _ (eH (K:=K) rfl hu) (bf (pv 2) T.cl_Desk T.M_ZX Dc CM T.z_ZX.b .nil bv (@aa _ _ _ _ _ ao ac (by rfl))) (@aO _ _ _ _ (@aa _ _ _ _ _ ao ac (by rfl))) (aq _)) (dM (@bM _ _ _ _ _ _ _ _ (eH (K:=K) rfl hu) (bf (pv 2) T.cl_Desk T.M_ZX Dc CM T.z_ZX.b .nil bv (@aa _ _ _ _ _ ao ac (by rfl))) (@aO _ _ _ _ (@aa _ _ _ _ _ ao ac (by rfl))) (aq _)) (eO (@bM _ _ _ _ _ _ _ _ (eH (K:=K) rfl hu) (bf (pv 2) T.cl_Desk T.M_ZX Dc CM T.z_ZX.b .nil bv (@aa _ _ _ _ _ ao ac (by rfl))) (@aO _ _ _ _ ac) (aq _))))))))))))))))))))),?_⟩
 refine λo dx ho hdx _=>⟨o,dx,rfl,af,λlr H1 hl1 hf1 hd1=>⟨rfl,?_⟩⟩
 obtain⟨s1,nl1⟩:=made ho hdx hl1 hf1
 try dsimp only[a7]
 refine λo2 dx2 ho2 hdx2 _=>⟨o2,dx2,rfl,af,λlr2 H2 hl2 hf2 hd2=>⟨rfl,?_⟩⟩
 obtain⟨s2,nl2⟩:=made ho2 hdx2 hl2 hf2
 try dsimp only[a7]
 have hS0:=nC (show 0<=6 by decide)
 have hW:Wd AA.c_Desk H H2 ⟨o,dx,lr⟩ ⟨o2,dx2,lr2⟩ (S0 0) (S0 0):=⟨s1.trans s2,⟨ho,nl1⟩,⟨none_of s1 ho2,none_of s1 nl2⟩,hd1.same s2,hd2,hS0,hS0,aH hd1.ins ho2,aH hd1.rws nl2⟩
 clear hl1 hf1 hd1 hl2 hf2 hd2 s1 s2 nl1 nl2 ho hdx ho2 hdx2;generalize hDe:aT.mk o dx lr=D at hW;generalize hDe2:aT.mk o2 dx2 lr2=D2 at hW;have eo:o=D.o:=by rw[<-hDe]
 have eo2:o2=D2.o:=by rw[<-hDe2]
 subst eo eo2;clear hDe hDe2;refine fh (λσ' H'=>Wd AA.c_Desk H H' D D2 (S0 0) (S0 0)/\σ'=[some (.ref a),some (.ref D.o),some (.ref D2.o),none,none,none,none,none]) (λR hR=>?_) ?_
 ·refine⟨(by show 7<=sizeLine;decide),λpl C5=>⟨pl,rfl,⟨_,ae.of af⟩,?_⟩⟩;have sl:=ap (o:=.lst (fE.map V.str)) C5;have hL:ai H2 pl (.lst (fE.map V.str)) pl=some (.lst (fE.map V.str)):=af;refine iw (K:=K) (a:=pl) (xs:=fE.map V.str) (λi ys H'=>av (ai H2 pl (.lst (fE.map V.str))) H'/\i<=7/\ys=(List.replicate i true).map V.bl) ⟨av.refl _,Ql _,rfl⟩ (λi ys H' _ h=>ae.of (h.1 _ _ hL)) ?_ ?_
  ·rintro i x ys H' hx ⟨sm,hi,rfl⟩;refine dt ?_;rw[if_pos rfl];rw[Qi] at hx;obtain⟨z,hz,rfl⟩:=Option.map_eq_some_iff.mp hx;have hi7:i<7:=(Qj hz).1;refine⟨_,rfl,_,rfl,D2,z,rfl,hW.a2.same (sl.trans sm),Cp z (QM hz),λH'' s4=>⟨(by simp;exact a8 (by lia)),sm.trans s4,hi7,?_⟩⟩;rw[List.replicate_succ',QH];rfl
  rintro ys H' ⟨sm,_,rfl⟩ p hp;refine⟨p,_,rfl,ae.of af,?_⟩;have ea:(List.replicate (fE.map V.str).length true).all id=true:=rfl;rw[ea];refine⟨_,rfl,aw ?_⟩;exact hR _ _ ⟨hW.same ((sl.trans sm).trans (ap hp)),rfl⟩
 rintro σ' H3 ⟨hW,rfl⟩;refine⟨Ql _,λr0 hr0=>⟨fF,λt0 ht0=>?_⟩⟩
 try dsimp only[a7]
 have sA:=ap (o:=.lst []) hr0;have sB:=ap (o:=.tup [.int 0,.ref r0,.int 1]) ht0
 have hB:Bk (ai (ai H3 r0 (.lst [])) t0 (.tup [.int 0,.ref r0,.int 1])) D (S0 0) t0 r0:=⟨af,sB _ _ af,(aH hW.a1.rws hr0).symm⟩
 have hW:=hW.same (sA.trans sB);generalize ai (ai H3 r0 (.lst [])) t0 (.tup [.int 0,.ref r0,.int 1])=H4 at hB hW ⊢;clear sA sB hr0 ht0;refine lR (λσ' H'=>∃(D':aT) (n:Nat) (t r:Addr) (x:Option V),n<=6/\Wd AA.c_Desk H H' D' D2 (S0 n) (S0 0)/\Bk H' D' (S0 n) t r/\σ'=[some (.ref a),some (.ref D'.o),some (.ref D2.o),some (.ref t),x,none,none,none]) (λR hR=>?_) ?_
 ·refine⟨_,rfl,a,ns,0,rfl,hW.sm.seq hS,λc=>?_⟩;refine⟨_,_,rfl,rfl,(by show(0:Int)<8;decide),_,_,rfl,rfl,_,rfl,?_⟩;refine b4 (λ_=>?_) (λ_=>hR _ _ ⟨D,0,_,_,none,by decide,hW,hB,rfl⟩);refine⟨_,rfl,a,ns,0,rfl,hW.sm.seq hS,λc=>?_⟩;refine⟨_,_,rfl,rfl,(by show(0:Int)<7;decide),?_⟩;obtain⟨n,en,hn⟩:=dC (a:=c) (n:=7) (by decide);have en:c%7=((n:Nat):Int):=en;rw[en];have hn:n<=6:=by lia
  try dsimp only[a7]
  refine⟨_,rfl,D.o,D.dx,_,rfl,hW.a1.ins,rfl,_,rfl,_,rfl,fA n (by lia),_,_,rfl,rfl,uC hn,?_⟩;refine nK hW.a1 hW.k1 (.sw _ n hn) (uB n) λD' q H5 hM nq e5=>?_;have hW:=hW.mv hM;refine⟨Ql _,λpe CP=>⟨_,_,bi (ts:=[]) (ap CP _ _ e5),bi (ts:=[]) af,ca,ca,?_⟩⟩;rw[eM];refine⟨_,rfl,aw ?_⟩;have hW:=hW.same (ap (o:=.lst []) CP);generalize ai H5 pe (.lst [])=H6 at hW ⊢;refine⟨_,rfl,Ql _,λr1 CO=>?_⟩;have h64:=fB hn;refine⟨_,rfl,_,_,rfl,rfl,cM (by lia),_,_,rfl,rfl,?_,?_⟩
  ·rw[cu];exact cM (by generalize 2^n=N at h64 ⊢;lia)
  rw[cu,cu];refine⟨_,_,rfl,rfl,fF,λt1 ht1=>?_⟩;rw[uD];have sA:=ap (o:=.lst []) CO;have sB:=ap (o:=.tup [.int ((n:Nat):Int),.ref r1,.int ((aS n:Nat):Int)]) ht1;exact hR _ _ ⟨D',n,t1,r1,_,hn,hW.same (sA.trans sB),⟨af,sB _ _ af,(aH hW.a1.rws CO).symm⟩,by rw[hM.o];rfl⟩
 rintro σ' H5 ⟨D',n,t,r,x,hn,hW,hB,rfl⟩;refine gL (λσ' H'=>∃(D':aT) (S':DS) (x3 x4 x5 x6:Option V),Wd AA.c_Desk H H' D' D2 S' (S0 0)/\σ'=[some (.ref a),some (.ref D'.o),some (.ref D2.o),x3,x4,x5,x6,none]) (λR hR=>?_) ?_
 ·obtain⟨cs,ecs,hcl⟩:=Cw ns;refine⟨_,rfl,1,rfl,13,rfl,a,_,rfl,hW.sm.seq hS,λp hp=>?_⟩;rw[ecs];have sp:=ap (o:=.lst (cs.map V.int)) hp;have hP:ai H5 p (.lst (cs.map V.int)) p=some (.lst (cs.map V.int)):=af;have C5:p≠D'.lr:=(aH hW.a1.rws hp).symm;have hW:=hW.same sp;have hB:=hB.same sp;generalize ai H5 p (.lst (cs.map V.int))=H6 at hP hW hB ⊢;refine⟨p,rfl,⟨_,ae.of hP⟩,?_⟩
  refine ie (K:=K) (a:=p) (xs:=cs.map V.int) (λi σ' H'=>∃(D':aT) (S':DS) (t r:Addr) (x4 x5 x6:Option V),Wd AA.c_Desk H H' D' D2 S' (S0 0)/\Bk H' D' S' t r/\S'.rws.length<=i/\i<=12/\H' p=some (.lst (cs.map V.int))/\p≠D'.lr/\σ'=[some (.ref a),some (.ref D'.o),some (.ref D2.o),some (.ref t),x4,x5,x6,none])
   ⟨D',_,t,r,x,none,none,hW,hB,Ql _,Ql _,hP,C5,rfl⟩ (λi σ' H' _ hsl90=>by obtain⟨_,_,_,_,_,_,_,_,_,_,_,h,_⟩:=hsl90;exact ae.of h) ?_ ?_
  ·clear hW hB hP C5 hp sp;rintro i v σ' H7 hv ⟨D',S',t,r,x4,x5,x6,hW,hB,hl,hi,hP,C5,rfl⟩;rw[Qi] at hv;obtain⟨c,hc,rfl⟩:=Option.map_eq_some_iff.mp hv;have hi12:i<12:=Qe (Qj hc).1 hcl
   try dsimp only[a7]
   refine lR (λσ' H'=>∃(D':aT) (S':DS) (t r:Addr) (x4:Option V),Wd AA.c_Desk H H' D' D2 S' (S0 0)/\Bk H' D' S' t r/\S'.rws.length<=i/\H' p=some (.lst (cs.map V.int))/\p≠D'.lr/\σ'=[some (.ref a),some (.ref D'.o),some (.ref D2.o),some (.ref t),x4,some (.int c),x6,none]) (λR hR=>?_) ?_
   ·refine⟨_,rfl,_,_,rfl,rfl,⟨by decide,by decide⟩,_,_,rfl,rfl,(by show(0:Int)<40;decide),rfl,_,rfl,?_⟩;refine b4 (λ_=>?_) (λ_=>hR _ _ ⟨D',S',t,r,_,hW,hB,hl,hP,C5,rfl⟩);refine⟨_,rfl,_,_,rfl,rfl,⟨by decide,by decide⟩,_,_,rfl,rfl,(by show(0:Int)<7;decide),?_⟩;obtain⟨n,en,hn⟩:=dC (a:=c/160) (n:=7) (by decide);have en:c/160%7=((n:Nat):Int):=en;rw[en];have hn:n<=6:=by lia
    have h64:=fB hn;refine⟨_,rfl,Ql _,λr1 CO=>?_⟩;refine⟨_,rfl,_,_,rfl,rfl,cM (by lia),_,_,rfl,rfl,?_,?_⟩
    ·rw[cu];exact cM (by generalize 2^n=N at h64 ⊢;lia)
    rw[cu,cu];refine⟨_,_,rfl,rfl,fF,λt1 ht1=>?_⟩;rw[uD];have sA:=ap (o:=.lst []) CO;have sB:=ap (o:=.tup [.int ((n:Nat):Int),.ref r1,.int ((aS n:Nat):Int)]) ht1;have hT8:ai (ai H7 r1 (.lst [])) t1 (.tup [.int ((n:Nat):Int),.ref r1,.int ((aS n:Nat):Int)]) t1=some (.tup [.int ((n:Nat):Int),.ref r1,.int ((aS n:Nat):Int)]):=af;have hr8:=sB _ _ (af (H:=H7) (a:=r1) (o:=.lst []));have Dg:r1≠D'.lr:=(aH hW.a1.rws CO).symm;have hW:=hW.same (sA.trans sB);have hP8:=(sA.trans sB) _ _ hP;generalize ai (ai H7 r1 (.lst [])) t1 (.tup [.int ((n:Nat):Int),.ref r1,.int ((aS n:Nat):Int)])=H8 at hT8 hr8 hW hP8 ⊢
    try dsimp only[a7]
    refine⟨_,rfl,D'.o,D'.dx,_,rfl,hW.a1.ins,rfl,_,rfl,_,rfl,fA n (by lia),_,_,rfl,rfl,uC hn,?_⟩;refine nK hW.a1 hW.k1 (.sw _ n hn) (uB n) λE' q H9 hM nq e9=>?_;obtain⟨hr9,hrl9⟩:=hM.keep hW.a1 hr8 Dg;obtain⟨hP9,hpl9⟩:=hM.keep hW.a1 hP8 C5;have hT9:=hM.fr _ _ hT8 (dI hT8 hW.a1.ins (by intro z;cases z)) (dI hT8 hW.a1.rws (by intro z;cases z));have hW:=hW.mv hM;refine⟨Ql _,λpe CP=>⟨_,_,bi (ts:=[]) (ap CP _ _ e9),bi (ts:=[]) af,ca,ca,?_⟩⟩;rw[eM];refine⟨_,rfl,aw ?_⟩;have sE:=ap (o:=.lst []) CP;have hW:=hW.same sE;refine hR _ _ ⟨E',_,t1,r1,_,hW,⟨sE _ _ hT9,sE _ _ hr9,hrl9⟩,Ql _,sE _ _ hP9,hpl9,by rw[hM.o];rfl⟩
   clear hW hB hl hP C5;rintro σ' H8 ⟨D',S',t,r,x4,hW,hB,hl,hP,C5,rfl⟩;refine⟨_,rfl,_,rfl,_,rfl,D',S',t,r,c,rfl,hW.a1,hW.k1,hB,by lia,λD9 S9 t9 r9 u H9 hM hB9 hl9 hu9=>?_⟩;obtain⟨hP9,hpl9⟩:=hM.keep hW.a1 hP C5;have hW9:=hW.mv hM;refine⟨u,_,rfl,aW.of hu9,rfl,_,_,rfl,_,_,rfl,rfl,?_⟩;have eo:D'.o=D9.o:=hM.o.symm;refine⟨_,rfl,_,rfl,aw ?_⟩;refine⟨_,by rw[eo];rfl,_,rfl,t9,_,1,_,rfl,rfl,aW.of hB9.bt,aX (j:=1) rfl,_,rfl,t9,_,2,_,rfl,rfl,aW.of hB9.bt,aX (j:=2) rfl,_,rfl,t9,_,0,_,rfl,rfl,aW.of hB9.bt,aX (j:=0) rfl,?_⟩;refine⟨_,rfl,_,_,rfl,rfl,⟨by decide,by decide⟩,_,_,rfl,rfl,(by show(0:Int)<64;decide),?_⟩;refine⟨D9,S9,r9,_,rfl,hW9.a1,hW9.k1,hB9.br,λHA sA=>⟨_,rfl,aw ?_⟩⟩;exact⟨D9,S9,t9,r9,_,_,_,hW9.same sA,hB9.same sA,by lia,by lia,sA _ _ hP9,hpl9,by rw[eo];rfl⟩
  rintro σ' H7 ⟨D',S',t,r,x4,x5,x6,hW,_,_,_,_,_,rfl⟩;exact hR _ _ ⟨D',S',_,_,_,_,hW,rfl⟩
 rintro σ' H6 ⟨D',S',x3,x4,x5,x6,hW,rfl⟩;have hbl:∀{i:Nat},i<=200->i<=sizeLine:=λh=>Qg h (by decide);refine⟨_,rfl,D'.o,D'.dx,_,rfl,hW.a1.ins,rfl,?_⟩;refine nL hW.a1 hW.k1 (.text S') rfl λq H7 s7 hq e7 h7=>?_
 try dsimp only[a7]
 have hl60:((nz S'.rws).map aM).length<=60:=by rw[Qb];exact hW.k1.grs.2.1
 generalize hTS:(nz S'.rws).map aM=ts at e7 h7 hl60;refine⟨_,rfl,.inl ⟨rfl,_,ae.of e7⟩,q,_,_,rfl,rfl,e7,(by rw[Qb];exact a8 (by lia)),?_⟩;have eA:ts.map V.str++[V.str xS]=(ts++[xS]).map V.str:=by rw[QH];rfl
 rw[show V.str "x"=V.str xS from rfl,eA];have sP:=z9 (o:=.lst ((ts++[xS]).map V.str)) s7 hq;have hQ:ai H7 q (.lst ((ts++[xS]).map V.str)) q=some (.lst ((ts++[xS]).map V.str)):=af;have hW:=hW.same sP;generalize ai H7 q (.lst ((ts++[xS]).map V.str))=H8 at hQ hW ⊢;clear sP e7 s7 hq eA;have h8:bu (ts++[xS]):=λz hz=>(Qx hz).elim (h7 z) λh=>by rw[List.mem_singleton.mp h];decide +kernel
 try dsimp only
 refine lR (λσ' H'=>Wd AA.c_Desk H H' D' D2 S' (S0 0)/\σ'=[some (.ref a),some (.ref D'.o),some (.ref D2.o),x3,x4,x5,x6,some (.ref q)]) (λR hR=>?_) ?_
 ·refine⟨_,rfl,D'.o,D'.dx,_,rfl,hW.a1.ins,rfl,?_⟩;refine nL hW.a1 hW.k1 (.text S') rfl λq2 H9 s9 hq2 e9 h9=>?_;rw[hTS] at e9 h9;refine⟨_,rfl,?_⟩;refine nH (us:=ts++[xS]) e9 (s9 _ _ hQ) h9 h8 ?_;rw[Qd (λz=>by have:=congrArg List.length z;simp at this)];refine⟨_,rfl,aw ?_⟩;exact hR _ _ ⟨hW.same s9,rfl⟩
 clear hQ h8 h7 hTS hl60;rintro σ' H9 ⟨hW,rfl⟩;generalize some (V.ref q)=x7;clear q;generalize hb:D2.o=b;have ho:=hb;clear hb;refine⟨_,rfl,b,D2.dx,_,rfl,(by rw[<-ho];exact hW.a2.ins),rfl,?_⟩;refine gu ho hW.a2 hW.k2 (.tidy _ rfl) (rfl) λE1 q HX hM _ e5=>?_;have ho:=hM.o.trans ho;have hW:=(hW.swap.mv hM).swap;clear hM;refine⟨Ql _,λpe CP=>⟨_,_,bi (ts:=[]) (ap CP _ _ e5),bi (ts:=[]) af,ca,ca,?_⟩⟩;rw[eM];refine⟨_,rfl,aw ?_⟩;have hW:=hW.same (ap (o:=.lst []) CP);clear e5;generalize ai HX pe (.lst [])=HY at hW ⊢;clear CP;refine⟨_,rfl,b,E1.dx,_,rfl,(by rw[<-ho];exact hW.a2.ins),rfl,?_⟩;refine gu ho hW.a2 hW.k2 (.row _ [.pl xS] (Cq 0) (by decide)) (by decide +kernel) λE2 q HX hM _ e5=>?_;have ho:=hM.o.trans ho;have hW:=(hW.swap.mv hM).swap;clear hM;refine⟨Ql _,λpe CP=>⟨_,_,bi (ts:=[]) (ap CP _ _ e5),bi (ts:=[]) af,ca,ca,?_⟩⟩;rw[eM];refine⟨_,rfl,aw ?_⟩;have hW:=hW.same (ap (o:=.lst []) CP);clear e5;generalize ai HX pe (.lst [])=HY at hW ⊢;clear CP;refine⟨_,rfl,b,E2.dx,_,rfl,(by rw[<-ho];exact hW.a2.ins),rfl,?_⟩;refine gv ho hW.a2 hW.k2 (.text _) (rfl) λq HX sX _ e5 h5=>?_;have e5:HX q=some (.lst (([xS]:List Str).map V.str)):=(congrArg (λz:List Str=>HX q=some (.lst (z.map V.str))) uA).mp e5;have h5:bu [xS]:=(congrArg bu uA).mp h5;have hW:=hW.same sX;refine⟨bZ,λpe CP=>?_⟩;have sY:=ap (o:=.lst [V.str xS]) CP;refine gs (ts:=[xS]) (sY _ _ e5) af h5 ⟨_,rfl,aw ?_⟩;have hW:=hW.same sY;clear sX e5 h5;generalize ai HX pe (.lst [V.str xS])=HY at hW ⊢;clear sY CP;refine⟨_,rfl,b,E2.dx,_,rfl,(by rw[<-ho];exact hW.a2.ins),rfl,?_⟩;refine gu ho hW.a2 hW.k2 (.sw _ 0 (by decide)) (by decide +kernel) λE3 q HX hM _ e5=>?_;have ho:=hM.o.trans ho;have hW:=(hW.swap.mv hM).swap;clear hM;refine⟨_,rfl,b,E3.dx,_,rfl,(by rw[<-ho];exact hW.a2.ins),rfl,?_⟩;refine gu ho hW.a2 hW.k2 (.keep _) (rfl) λE4 q HX hM _ e5=>?_;have ho:=hM.o.trans ho;have hW:=(hW.swap.mv hM).swap;clear hM;refine⟨Ql _,λpe CP=>⟨_,_,bi (ts:=[]) (ap CP _ _ e5),bi (ts:=[]) af,ca,ca,?_⟩⟩;rw[eM];refine⟨_,rfl,aw ?_⟩;have hW:=hW.same (ap (o:=.lst []) CP);clear e5;generalize ai HX pe (.lst [])=HY at hW ⊢;clear CP;refine⟨_,rfl,b,E4.dx,_,rfl,(by rw[<-ho];exact hW.a2.ins),rfl,?_⟩;refine gv ho hW.a2 hW.k2 (.part _ [] rfl rfl rfl) (rfl) λq HX sX _ e5 h5=>?_;have e5:HX q=some (.lst ((["alike"]:List Str).map V.str)):=(congrArg (λz:List Str=>HX q=some (.lst (z.map V.str))) (congrArg (λz=>[z]) ut)).mp e5;have h5:bu ["alike"]:=(congrArg bu (congrArg (λz=>[z]) ut)).mp h5;have hW:=hW.same sX;refine⟨bZ,λpe CP=>?_⟩;have sY:=ap (o:=.lst [V.str "alike"]) CP;refine gs (ts:=["alike"]) (sY _ _ e5) af h5 ⟨_,rfl,aw ?_⟩;have hW:=hW.same sY;clear sX e5 h5;generalize ai HX pe (.lst [V.str "alike"])=HY at hW ⊢;clear sY CP;refine⟨_,rfl,b,E4.dx,_,rfl,(by rw[<-ho];exact hW.a2.ins),rfl,?_⟩;refine gu ho hW.a2 hW.k2 (.row _ kJ (Cr 0) (by decide)) (by decide +kernel) λE5 q HX hM _ e5=>?_;have ho:=hM.o.trans ho;have hW:=(hW.swap.mv hM).swap;clear hM;refine⟨Ql _,λpe CP=>⟨_,_,bi (ts:=[]) (ap CP _ _ e5),bi (ts:=[]) af,ca,ca,?_⟩⟩;rw[eM];refine⟨_,rfl,aw ?_⟩;have hW:=hW.same (ap (o:=.lst []) CP);clear e5;generalize ai HX pe (.lst [])=HY at hW ⊢;clear CP;refine⟨_,rfl,b,E5.dx,_,rfl,(by rw[<-ho];exact hW.a2.ins),rfl,?_⟩;refine gv ho hW.a2 hW.k2 (.part _ [] rfl rfl rfl) (rfl) λq HX sX _ e5 h5=>?_;have e5:HX q=some (.lst ((["alike"]:List Str).map V.str)):=(congrArg (λz:List Str=>HX q=some (.lst (z.map V.str))) (congrArg (λz=>[z]) uu)).mp e5;have h5:bu ["alike"]:=(congrArg bu (congrArg (λz=>[z]) uu)).mp h5;have hW:=hW.same sX;refine⟨bZ,λpe CP=>?_⟩;have sY:=ap (o:=.lst [V.str "alike"]) CP;refine gs (ts:=["alike"]) (sY _ _ e5) af h5 ⟨_,rfl,aw ?_⟩;have hW:=hW.same sY;clear sX e5 h5;generalize ai HX pe (.lst [V.str "alike"])=HY at hW ⊢;clear sY CP;refine⟨_,rfl,b,E5.dx,_,rfl,(by rw[<-ho];exact hW.a2.ins),rfl,?_⟩;refine gu ho hW.a2 hW.k2 (.row _ [] (dG.nil 0) (by decide)) (by decide +kernel) λE6 q HX hM _ e5=>?_;have ho:=hM.o.trans ho;have hW:=(hW.swap.mv hM).swap;clear hM;refine⟨Ql _,λpe CP=>⟨_,_,bi (ts:=[]) (ap CP _ _ e5),bi (ts:=[]) af,ca,ca,?_⟩⟩;rw[eM];refine⟨_,rfl,aw ?_⟩;have hW:=hW.same (ap (o:=.lst []) CP);clear e5;generalize ai HX pe (.lst [])=HY at hW ⊢;clear CP;refine⟨_,rfl,b,E6.dx,_,rfl,(by rw[<-ho];exact hW.a2.ins),rfl,?_⟩;refine gv ho hW.a2 hW.k2 (.part _ [] rfl rfl rfl) (rfl) λq HX sX _ e5 h5=>?_;have e5:HX q=some (.lst ((["0"]:List Str).map V.str)):=(congrArg (λz:List Str=>HX q=some (.lst (z.map V.str))) (congrArg (λz=>[z]) uv)).mp e5;have h5:bu ["0"]:=(congrArg bu (congrArg (λz=>[z]) uv)).mp h5;have hW:=hW.same sX;refine⟨bZ,λpe CP=>?_⟩;have sY:=ap (o:=.lst [V.str "0"]) CP;refine gs (ts:=["0"]) (sY _ _ e5) af h5 ⟨_,rfl,aw ?_⟩;have hW:=hW.same sY;clear sX e5 h5;generalize ai HX pe (.lst [V.str "0"])=HY at hW ⊢;clear sY CP;refine⟨_,rfl,b,E6.dx,_,rfl,(by rw[<-ho];exact hW.a2.ins),rfl,?_⟩;refine gu ho hW.a2 hW.k2 (.sw _ 0 (by decide)) (by decide +kernel) λE7 q HX hM _ e5=>?_;have ho:=hM.o.trans ho;have hW:=(hW.swap.mv hM).swap;clear hM;refine⟨_,rfl,b,E7.dx,_,rfl,(by rw[<-ho];exact hW.a2.ins),rfl,?_⟩;refine gv ho hW.a2 hW.k2 (.text _) (rfl) λq HX sX _ e5 h5=>?_;have e5:HX q=some (.lst (([""]:List Str).map V.str)):=(congrArg (λz:List Str=>HX q=some (.lst (z.map V.str))) uy).mp e5;have h5:bu [""]:=(congrArg bu uy).mp h5;have hW:=hW.same sX;refine⟨bZ,λpe CP=>?_⟩;have sY:=ap (o:=.lst [V.str ""]) CP;refine⟨_,_,bi (sY _ _ e5),bi (ts:=[""]) af,(cB h5).ok (by decide),(cB h5).ok (by decide),?_⟩;rw[eqT];refine⟨_,rfl,?_⟩;refine aQ ?_;have hW:=hW.same sY;clear sX e5 h5;generalize ai HX pe (.lst [V.str ""])=HY at hW ⊢;clear sY CP;refine⟨_,rfl,b,E7.dx,_,rfl,(by rw[<-ho];exact hW.a2.ins),rfl,?_⟩;refine gv ho hW.a2 hW.k2 (.cut _ 0 (by decide)) (by decide +kernel) λq HX sX _ e5 h5=>?_;have e5:HX q=some (.lst (([""]:List Str).map V.str)):=(congrArg (λz:List Str=>HX q=some (.lst (z.map V.str))) ux).mp e5;have h5:bu [""]:=(congrArg bu ux).mp h5;have hW:=hW.same sX;refine⟨bZ,λpe CP=>?_⟩;have sY:=ap (o:=.lst [V.str ""]) CP;refine⟨_,_,bi (sY _ _ e5),bi (ts:=[""]) af,(cB h5).ok (by decide),(cB h5).ok (by decide),?_⟩;rw[eqT];refine⟨_,rfl,?_⟩;refine aQ ?_;have hW:=hW.same sY;clear sX e5 h5;generalize ai HX pe (.lst [V.str ""])=HY at hW ⊢;clear sY CP;refine⟨_,rfl,b,E7.dx,_,rfl,(by rw[<-ho];exact hW.a2.ins),rfl,?_⟩;refine gv ho hW.a2 hW.k2 (.dead _) (rfl) λq HX sX _ e5 h5=>?_;have e5:HX q=some (.lst (([]:List Str).map V.str)):=(congrArg (λz:List Str=>HX q=some (.lst (z.map V.str))) (congrArg (λz:List Nat=>z.map nS) uw)).mp e5;have h5:bu []:=(congrArg bu (congrArg (λz:List Nat=>z.map nS) uw)).mp h5;have hW:=hW.same sX;refine⟨(by show 0<=sizeLine;decide),λpe CP=>?_⟩;have sY:=ap (o:=.lst []) CP;refine⟨_,_,bi (sY _ _ e5),bi (ts:=[]) af,(cB h5).ok (by decide),(cB h5).ok (by decide),?_⟩;rw[eqT];exact k _
end
def FG(K:W.Frag)(n q:Str)(st:Stmt)(ps:List Str):Prop:=∃f fd,W.nsIn K mainGlobals n=some (some (.ref f))/\FB K n q st ps f fd
def MG(K:W.Frag)(c:Addr)(n q:Str)(st:Stmt)(ps:List Str):Prop:=∃f fd,W.findIn K (.ref c) n=some (some (.ref f))/\W.isFn K (.ref f)=true/\FB K n q st ps f fd
def CG(K:W.Frag)(n:Str)(c:Tok->Value):Prop:=∃t,W.nsIn K mainGlobals n=some (some (c t))
def DG(P:Program)(w:World)(K:W.Frag)(n:Str)(CK:List (Str×Int)):Prop:=∃d,W.nsIn K mainGlobals n=some (some (.ref d))/\eY P w K d CK
def IG(K:W.Frag)(x:Addr)(bm:List Value)(s:String)(q:Str)(st:Stmt)(ps:List Str):Prop:=∃f fd,l9 K x f bm s/\FB K "__init__" q st ps f fd
section
variable {K:W.Frag}{n q:Str}{st:Stmt}{ps:List Str}{f c:Addr}{oc kV dc pm cd ct:Value}{od an:Option Addr}{sl:Array (Option Value)}
theorem fb(l:K.lookup f=some ⟨oc,od,.func (W.fnOf n q (gF st) (eV st) (aA st) .none kV dc pm an cd ct),sl⟩)(e:W.codeIn K cd q=true)(k:W.keepIn K (.ref f)=true)
  (b:∀us:List Value,us.length=ps.length->bindArgs (W.fnOf n q (gF st) (eV st) (aA st) .none kV dc pm an cd ct) ⟨us,[]⟩=pure (ps.zip us)):FB K n q st ps f (W.fnOf n q (gF st) (eV st) (aA st) .none kV dc pm an cd ct):=
 ⟨k,xE l e k,.all b⟩
theorem fg{fd:FuncData}(a:W.nsIn K mainGlobals n=some (some (.ref f)))(b:FB K n q st ps f fd):FG K n q st ps:=⟨f,fd,a,b⟩
theorem mg{fd:FuncData}(a:W.findIn K (.ref c) n=some (some (.ref f)))(i:W.isFn K (.ref f)=true)(b:FB K n q st ps f fd):MG K c n q st ps:=⟨f,fd,a,i,b⟩
theorem cg{c:Tok->Value}{t:Tok}(a:W.nsIn K mainGlobals n=some (some (c t))):CG K n c:=⟨t,a⟩
theorem ig{fd:FuncData}{bm:List Value}{s:String}(a:W.findIn K (.ref c) "__init__"=some (some (.ref f)))(i:W.isFn K (.ref f)=true)(m:jV K c bm s f=true)(b:FB K "__init__" q st ps f fd):IG K c bm s q st ps:=⟨f,fd,⟨m,i⟩,b⟩
end
noncomputable def uG(x:DictEntry):gH:=match x with
 |⟨_,.str a b,.int c d⟩=>(a,b,c,d)
 |_=>("",0,0,0)
theorem dg{P:Program}{w:World}{K:W.Frag}{n:Str}{CK:List (Str×Int)}{d:Addr}{ep:Nat}{A:Array DictEntry}(a:W.nsIn K mainGlobals n=some (some (.ref d)))(l:K.lookup d=some ⟨.type "dict",none,.dict A ep,#[]⟩)(s:(d==sysModules)=false)
  (e:A=((A.toList.map uG).map (jM w)).toArray) (k:(A.toList.map uG).map (λe=>(e.1,e.2.2.1))=CK) (nd:(CK.map (·.1)).Nodup):DG P w K n CK:=by
 refine⟨d,a,?_⟩;rw[<-k,List.map_map] at nd;rw[<-k];exact ye s (by rw[<-e];exact l) nd
def uH(P:Program)(w:World)(K:W.Frag)(n:Str)(CK:List (Str×List Str)):Prop:=∃d,W.nsIn K mainGlobals n=some (some (.ref d))/\j1 P w K d CK
noncomputable def uI:DictEntry->Str×Tok×Addr
 |⟨_,.str a b,.ref q⟩=>(a,b,q)
 |_=>("",0,0)
noncomputable def kK:List Value->List Str
 |.str a _::r=>a::kK r
 |_=>[]
theorem uJ:∀{l:List Value} {fs:List Str},kK l=fs->l.length=fs.length->aG (fs.map V.str) l
 | [],[],_,_=>.nil
 |.str a t::r,f::fs,h,k=>by have h:a::kK r=f::fs:=h;injection h with h1 h2;subst h1;exact .cons ⟨t,rfl⟩ (uJ h2 (Nat.succ.inj k))
theorem Cz{K:W.Frag}{z y:Str}{t:Tok}{q:Addr}{fs:List Str}{es:List (Str×Tok×Addr)}{CK:List (Str×List Str)}{od:Option Addr}{its:Array Value}{m:Nat}{sl:Array (Option Value)}(l:K.lookup q=some ⟨.type "tuple",od,.seq its m,sl⟩)(hz:z=y)(h:kK its.toList=fs)(k:its.toList.length=fs.length)(k5:its.size<=5)(r:dR K es CK):dR K ((z,t,q)::es) ((y,fs)::CK):=by subst hz;exact .cons (λH=>.inr ⟨_,its,m,l,rfl,rfl,Qg k5 (by decide),uJ h k⟩) r
theorem CA{P:Program}{w:World}{K:W.Frag}{n:Str}{CK:List (Str×List Str)}{d:Addr}{ep:Nat}{A:Array DictEntry}(a:W.nsIn K mainGlobals n=some (some (.ref d)))(l:K.lookup d=some ⟨.type "dict",none,.dict A ep,#[]⟩)(s:(d==sysModules)=false)
  (e:A=((A.toList.map uI).map (j2 w)).toArray) (nd:(CK.map (·.1)).Nodup) (v:dR K (A.toList.map uI) CK):uH P w K n CK:=⟨d,a,zX s (by rw[<-e];exact l) nd v⟩
def uK(K:W.Frag)(n q:Str)(st:Stmt)(ps:List Str):Prop:=∃f fd,W.nsIn K mainGlobals n=some (some (.ref f))/\FB K q q st ps f fd
theorem CB{K:W.Frag}{n q:Str}{st:Stmt}{ps:List Str}{f:Addr}{fd:FuncData}(a:W.nsIn K mainGlobals n=some (some (.ref f)))(b:FB K q q st ps f fd):uK K n q st ps:=⟨f,fd,a,b⟩
theorem CC{l:W.OpenLaw}{w:World}{K:W.Frag}{h:Heap}{mg:Str->Option Value}{fa c_Desk x_NoGroup:Addr}(X:K.In h)(G:h.Ns mainGlobals mg)(hfa:mg "law"=some (.ref fa))
  (aC_Desk:W.nsIn K mainGlobals "Desk"=some (some (.ref c_Desk)))
  (Eg:W.nsIn K mainGlobals "NoGroup"=some (some (.ref x_NoGroup)))
  (g_Z6:FG K "every" "every" ml ["n"])
  (g_Zj:FG K "switch_mask" "switch_mask" mm ["k","n"])
  (g_ZI:FG K "is_whole" "is_whole" mn ["value"])
  (g_ZY:FG K "is_mask" "is_mask" mo YD)
  (g_has:FG K "has" "has" mq ["mask","s"])
  (g_ZJ:FG K "settings" "settings" j3 ["mask"])
  (g_ZK:FG K "how_many" "how_many" mr ["mask"])
  (g_Z7:FG K "least" "least" ms ["mask"])
  (g_ZZ:FG K "with_on" "with_on" mw Ym)
  (g_ZL:FG K "with_off" "with_off" my Ym)
  (g_Z4:FG K "all_of" "all_of" mz ["pairs"])
  (g_Z0:FG K "made_of" "made_of" j4 Yr)
  (g_ZA:FG K "is_number" "is_number" mB ["word"])
  (g_ZB:FG K "read_wish" "read_wish" mC ["text","n"])
  (g_Zd:FG K "mask_of_text" "mask_of_text" j5 ["text","n"])
  (g_Za:uK K "reckoned_wishes" "reckoned" mD Yu)
  (g_Z8:FG K "taken" "taken" mE YI)
  (g_ZM:FG K "value_of" "value_of" mF Yv)
  (g_Ze:FG K "put_together" "put_together" mG Yl)
  (g_Zq:FG K "shown_wish" "shown_wish" mH ["mask","n"])
  (g_Zr:FG K "shown_from" "shown_from" mI YJ)
  (g_ZC:FG K "read_rows" "read_rows" j6 ["text","n"])
  (g_Zs:FG K "read_words" "read_words" mJ YC)
  (g_ZN:FG K "words_of" "words_of" mK ["row"])
  (g_Zt:FG K "group_mask" "group_mask" mL Yx)
  (g_Z3:FG K "cut_row" "cut_row" j7 ["row","s"])
  (g_ZO:FG K "cut_rows" "cut_rows" j8 ["rows","s"])
  (g_ZP:FG K "cut_text" "cut_text" j9 YK)
  (g_Zu:FG K "is_setting" "is_setting" mM ["s","n"])
  (g_ZD:FG K "dead_rows" "dead_rows" ka Yj)
  (g_Zk:FG K "lonely_rows" "lonely_rows" kc Yj)
  (g_ZQ:FG K "standing" "standing" kd YG)
  (g_ZR:FG K "ask_rule" "ask_rule" mO ["rule","n"])
  (g_Z5:FG K "parted" "parted" mP Yw)
  (g_Zv:FG K "read_order" "read_order" ke ["row"])
  (g_ZE:FG K "read_word" "read_word" kf Yo)
  (g_ZF:FG K "in_blanks" "in_blanks" kg ["values"])
  (g_Zl:FG K "_law_cell_at" "_law_cell_at" mQ Yk)
  (g_ZG:FG K "_law_drawn" "_law_drawn" mR Yt)
  (g_ZS:FG K "_law_wish" "_law_wish" mS Yb)
  (g_ZU:FG K "_law_word" "_law_word" kh ["_law_x"])
  (g_ZV:FG K "_law_made" "_law_made" mT Yb)
  (g_Zf:FG K "_law_wish_due" "_law_wish_due" ki Yh)
  (g_Zw:FG K "_law_looked" "_law_looked" iS Yd)
  (g_ZW:FG K "_law_turn" "_law_turn" mU Yi)
  (g_Zm:FG K "_law_not_put" "_law_not_put" mV Yy)
  (g_ZH:MG K c_Desk "__init__" "Desk.__init__" mW ["self"])
  (g_ZX:MG K c_Desk "say" "Desk.say" mX Ys)
  (g_Zn:MG K c_Desk "change" "Desk.change" mY Yn)
  (g_Zx:MG K c_Desk "begin" "Desk.begin" mZ ["self","n"])
  (g_Zg:MG K c_Desk "put_row" "Desk.put_row" m4 Ys)
  (g_Zy:MG K c_Desk "whole" "Desk.whole" m5 ["self"])
  (g_Zp:MG K c_Desk "answer" "Desk.answer" iT Yn)
  (g_Zb:MG K c_Desk "wish_text" "Desk.wish_text" m6 ["self","text"])
  (g_Zc:MG K c_Desk "part_text" "Desk.part_text" m7 ["self"])
  (g_Zh:IG K x_NoGroup iG "ValueError.__new__" "NoGroup.__init__" m8 YA)
  (g_law:FG K "law" "law" kj YF)
  (Er:W.plainGet K c_Desk Str.empty=true)
  (Es:W.hasDictIn K c_Desk=true)
  (Ep:W.plainOver K c_Desk=true)
  (Eo:W.findIn K (.ref c_Desk) "__setattr__"=some (some (.builtin "object.__setattr__")))
  (mk_Desk:W.makesIn K c_Desk=true)
  (kc_Desk:W.keepIn K (.ref c_Desk)=true)
  (na_Desk_n:W.findIn K (.ref c_Desk) "n"=some none)
  (na_Desk_rule:W.findIn K (.ref c_Desk) "rule"=some none)
  (na_Desk_rows:W.findIn K (.ref c_Desk) "rows"=some none)
  (na_Desk_kept:W.findIn K (.ref c_Desk) "kept"=some none)
  (t1_Desk:W.findIn K (.ref c_Desk) "__class__"=some (some (.builtin "object.__class__")))
  (t2:W.specialIn K (.builtin "object.__class__") "__get__"=some (some (.builtin "getset_descriptor.__get__")))
  (t3:W.takesIn K (.builtin "object.__class__")=some true)
  (t4_Desk:W.mroIn K c_Desk (.type "object")=some true)
  (EB:CG K "LETTERS" (Value.str "abcdefghij"))
  (Dk:CG K "DEEPEST_GROUP" (Value.int (5)))
  (EC:CG K "FIGURES" (Value.str "0123456789"))
  (CY:CG K "LONGEST_NUMBER_phrases" (Value.int (18)))
  (Dj:CG K "MOST_SWITCHES" (Value.int (6)))
  (DQ:CG K "MOST_ROWS" (Value.int (60)))
  (C3:CG K "LONGEST_NUMBER_desk" (Value.int (6)))
  (DE:CG K "MOST_STEPS" (Value.int (400)))
  (g_NEEDS:DG l.prog w K "NEEDS" [("!",1),("&",2),("|",2),("^",2),("?",3)])
  (Ec:W.findIn K (.ref x_NoGroup) "__getattribute__"=some (some (.builtin "BaseException.__getattribute__")))
  (Eb:W.findIn K (.ref x_NoGroup) "__getattr__"=some none)
  (Ed:W.mroIn K x_NoGroup (.type "BaseException")=some true)
  (D7:W.findIn K (.ref x_NoGroup) "__class__"=some (some (.builtin "object.__class__")))
  (D6:W.mroIn K x_NoGroup (.type "object")=some true)
  (Ea:(W.clsIn K x_NoGroup).any (λcd=>iH 2 cd.mro)=true)
  (D8:W.findIn K (.ref x_NoGroup) "__setattr__"=some (some (.builtin "object.__setattr__")))
  (Ee:W.hasDictIn K x_NoGroup=true)
  (na_NoGroup_at:W.findIn K (.ref x_NoGroup) "at"=some none)
  (em_NoGroup_NoGroup:W.exmOne K (.ref x_NoGroup) (.ref x_NoGroup)=some true)
  (z_len:W.nsIn K mainGlobals "len"=some none)
  (z_range:W.nsIn K mainGlobals "range"=some none)
  (z_int:W.nsIn K mainGlobals "int"=some none)
  (z_bool:W.nsIn K mainGlobals "bool"=some none)
  (z_list:W.nsIn K mainGlobals "list"=some none)
  (D5:W.nsIn K mainGlobals "reversed"=some none)
  (DO:W.nsIn K mainGlobals "enumerate"=some none)
  (DB:W.nsIn K mainGlobals "isinstance"=some none)
  (z_str:W.nsIn K mainGlobals "str"=some none)
  (z_all:W.nsIn K mainGlobals "all"=some none)
  (z_any:W.nsIn K mainGlobals "any"=some none)
  (z_zip:W.nsIn K mainGlobals "zip"=some none)
  (z_min:W.nsIn K mainGlobals "min"=some none)
  (g_FORMS:uH l.prog w K "FORMS" [("switches",["number"]),("rule",["wish"]),("row",["text"]),("tidy",[]),("keep",[]),("text",[]),("wish",["wish"]),("cut",["number"]),("dead",[]),("lonely",[]),("faults",[]),("run",YH),("runs",["most"]),("part",[])])
  :
  ∃fd:FuncData,(∀(s:Shared) (v:Value),BindsTo s fd ⟨[v],[]⟩ [("_law_script",v)])/\∀base:Heap,K.In base->base.Ns mainGlobals mg->aF l.prog w K mg base aJ 60 fa fd YF (jf K):=by
 obtain⟨_,_,a_Z6,u_Z6⟩:=g_Z6;obtain⟨_,_,a_Zj,u_Zj⟩:=g_Zj;obtain⟨_,_,a_ZI,u_ZI⟩:=g_ZI;obtain⟨_,_,a_ZY,u_ZY⟩:=g_ZY;obtain⟨_,_,a_has,u_has⟩:=g_has;obtain⟨_,_,a_ZJ,u_ZJ⟩:=g_ZJ;obtain⟨_,_,a_ZK,u_ZK⟩:=g_ZK;obtain⟨_,_,a_Z7,u_Z7⟩:=g_Z7;obtain⟨_,_,a_ZZ,u_ZZ⟩:=g_ZZ;obtain⟨_,_,a_ZL,u_ZL⟩:=g_ZL;obtain⟨_,_,a_Z4,u_Z4⟩:=g_Z4;obtain⟨_,_,a_Z0,u_Z0⟩:=g_Z0;obtain⟨_,_,a_ZA,u_ZA⟩:=g_ZA;obtain⟨_,_,a_ZB,u_ZB⟩:=g_ZB;obtain⟨_,_,a_Zd,u_Zd⟩:=g_Zd;obtain⟨_,_,a_Za,u_Za⟩:=g_Za;obtain⟨_,_,a_Z8,u_Z8⟩:=g_Z8;obtain⟨_,_,a_ZM,u_ZM⟩:=g_ZM;obtain⟨_,_,a_Ze,u_Ze⟩:=g_Ze;obtain⟨_,_,a_Zq,u_Zq⟩:=g_Zq;obtain⟨_,_,a_Zr,u_Zr⟩:=g_Zr;obtain⟨_,_,a_ZC,u_ZC⟩:=g_ZC;obtain⟨_,_,a_Zs,u_Zs⟩:=g_Zs;obtain⟨_,_,a_ZN,u_ZN⟩:=g_ZN;obtain⟨_,_,a_Zt,u_Zt⟩:=g_Zt;obtain⟨_,_,a_Z3,u_Z3⟩:=g_Z3;obtain⟨_,_,a_ZO,u_ZO⟩:=g_ZO;obtain⟨_,_,a_ZP,u_ZP⟩:=g_ZP;obtain⟨_,_,a_Zu,u_Zu⟩:=g_Zu;obtain⟨_,_,a_ZD,u_ZD⟩:=g_ZD;obtain⟨_,_,a_Zk,u_Zk⟩:=g_Zk;obtain⟨_,_,a_ZQ,u_ZQ⟩:=g_ZQ;obtain⟨_,_,a_ZR,u_ZR⟩:=g_ZR;obtain⟨_,_,a_Z5,u_Z5⟩:=g_Z5;obtain⟨_,_,a_Zv,u_Zv⟩:=g_Zv;obtain⟨_,_,a_ZE,u_ZE⟩:=g_ZE;obtain⟨_,_,a_ZF,u_ZF⟩:=g_ZF;obtain⟨_,_,a_Zl,u_Zl⟩:=g_Zl;obtain⟨_,_,a_ZG,u_ZG⟩:=g_ZG;obtain⟨_,_,a_ZS,u_ZS⟩:=g_ZS;obtain⟨_,_,a_ZU,u_ZU⟩:=g_ZU;obtain⟨_,_,a_ZV,u_ZV⟩:=g_ZV;obtain⟨_,_,a_Zf,u_Zf⟩:=g_Zf;obtain⟨_,_,a_Zw,u_Zw⟩:=g_Zw;obtain⟨_,_,a_ZW,u_ZW⟩:=g_ZW;obtain⟨_,_,a_Zm,u_Zm⟩:=g_Zm;obtain⟨_,_,a_ZH,i_ZH,u_ZH⟩:=g_ZH;obtain⟨_,_,a_ZX,i_ZX,u_ZX⟩:=g_ZX;obtain⟨_,_,a_Zn,i_Zn,u_Zn⟩:=g_Zn;obtain⟨_,_,a_Zx,i_Zx,u_Zx⟩:=g_Zx;obtain⟨_,_,a_Zg,i_Zg,u_Zg⟩:=g_Zg;obtain⟨_,_,a_Zy,i_Zy,u_Zy⟩:=g_Zy;obtain⟨_,_,a_Zp,i_Zp,u_Zp⟩:=g_Zp;obtain⟨_,_,a_Zb,i_Zb,u_Zb⟩:=g_Zb;obtain⟨_,_,a_Zc,i_Zc,u_Zc⟩:=g_Zc;obtain⟨_,_,i_Zh,u_Zh⟩:=g_Zh;obtain⟨_,_,a_law,u_law⟩:=g_law;obtain⟨_,v_LETTERS⟩:=EB;obtain⟨_,v_DEEPEST_GROUP⟩:=Dk;obtain⟨_,v_FIGURES⟩:=EC;obtain⟨_,v_LONGEST_NUMBER_phrases⟩:=CY;obtain⟨_,v_MOST_SWITCHES⟩:=Dj;obtain⟨_,v_MOST_ROWS⟩:=DQ;obtain⟨_,v_LONGEST_NUMBER_desk⟩:=C3;obtain⟨_,v_MOST_STEPS⟩:=DE;obtain⟨_,a_NEEDS,D_NEEDS⟩:=g_NEEDS;obtain⟨_,a_FORMS,D_FORMS⟩:=g_FORMS;have e:=hfa.symm.trans (W.mg_of X G a_law);cases e
 have T:All l.prog w K mg ⟨_,_,_,_,_,_,_,_,_,_,_,_,_,_,_,_,_,_,_,_,_,_,_,_,_,_,_,_,_,_,_,_,_,_,_,_,_,_,_,_,_,_,_,_,_,_,_,_,_,_,_,_,_,_,_,_,_,_,_,_⟩ ⟨_,_,_,_,_,_,_,_,_,_,_,_,_,_,_,_,_,_,_,_,_,_,_,_,_,_,_,_,_,_,_,_,_,_,_,_,_,_,_,_,_,_,_,_,_,_,_,_,_,_,_,_,_,_,_,_⟩:=⟨⟨u_Z6,W.mg_of X G a_Z6⟩,
  ⟨u_Zj,W.mg_of X G a_Zj⟩,
  ⟨u_ZI,W.mg_of X G a_ZI⟩,
  ⟨u_ZY,W.mg_of X G a_ZY⟩,
  ⟨u_has,W.mg_of X G a_has⟩,
  ⟨u_ZJ,W.mg_of X G a_ZJ⟩,
  ⟨u_ZK,W.mg_of X G a_ZK⟩,
  ⟨u_Z7,W.mg_of X G a_Z7⟩,
  ⟨u_ZZ,W.mg_of X G a_ZZ⟩,
  ⟨u_ZL,W.mg_of X G a_ZL⟩,
  ⟨u_Z4,W.mg_of X G a_Z4⟩,
  ⟨u_Z0,W.mg_of X G a_Z0⟩,
  ⟨u_ZA,W.mg_of X G a_ZA⟩,
  ⟨u_ZB,W.mg_of X G a_ZB⟩,
  ⟨u_Zd,W.mg_of X G a_Zd⟩,
  W.mg_of X G a_Za,
  u_Za,
  ⟨u_Z8,W.mg_of X G a_Z8⟩,
  ⟨u_ZM,W.mg_of X G a_ZM⟩,
  ⟨u_Ze,W.mg_of X G a_Ze⟩,
  ⟨u_Zq,W.mg_of X G a_Zq⟩,
  ⟨u_Zr,W.mg_of X G a_Zr⟩,
  ⟨u_ZC,W.mg_of X G a_ZC⟩,
  ⟨u_Zs,W.mg_of X G a_Zs⟩,
  ⟨u_ZN,W.mg_of X G a_ZN⟩,
  ⟨u_Zt,W.mg_of X G a_Zt⟩,
  ⟨u_Z3,W.mg_of X G a_Z3⟩,
  ⟨u_ZO,W.mg_of X G a_ZO⟩,
  ⟨u_ZP,W.mg_of X G a_ZP⟩,
  ⟨u_Zu,W.mg_of X G a_Zu⟩,
  ⟨u_ZD,W.mg_of X G a_ZD⟩,
  ⟨u_Zk,W.mg_of X G a_Zk⟩,
  ⟨u_ZQ,W.mg_of X G a_ZQ⟩,
  ⟨u_ZR,W.mg_of X G a_ZR⟩,
  ⟨u_Z5,W.mg_of X G a_Z5⟩,
  ⟨u_Zv,W.mg_of X G a_Zv⟩,
  ⟨u_ZE,W.mg_of X G a_ZE⟩,
  ⟨u_ZF,W.mg_of X G a_ZF⟩,
  ⟨u_Zl,W.mg_of X G a_Zl⟩,
  ⟨u_ZG,W.mg_of X G a_ZG⟩,
  ⟨u_ZS,W.mg_of X G a_ZS⟩,
  ⟨u_ZU,W.mg_of X G a_ZU⟩,
  ⟨u_ZV,W.mg_of X G a_ZV⟩,
  ⟨u_Zf,W.mg_of X G a_Zf⟩,
  ⟨u_Zw,W.mg_of X G a_Zw⟩,
  ⟨u_ZW,W.mg_of X G a_ZW⟩,
  ⟨u_Zm,W.mg_of X G a_Zm⟩,
  ⟨mk_Desk,a_ZH,i_ZH,kc_Desk⟩,
  u_ZH,
  ⟨a_ZX,i_ZX,u_ZX.k⟩,
  u_ZX,
  ⟨a_Zn,i_Zn,u_Zn.k⟩,
  u_Zn,
  ⟨a_Zx,i_Zx,u_Zx.k⟩,
  u_Zx,
  ⟨a_Zg,i_Zg,u_Zg.k⟩,
  u_Zg,
  ⟨a_Zy,i_Zy,u_Zy.k⟩,
  u_Zy,
  ⟨a_Zp,i_Zp,u_Zp.k⟩,
  u_Zp,
  ⟨a_Zb,i_Zb,u_Zb.k⟩,
  u_Zb,
  ⟨a_Zc,i_Zc,u_Zc.k⟩,
  u_Zc,
  i_Zh,
  ⟨⟨2,Ea⟩,D8,Ee⟩,
  na_NoGroup_at,
  u_Zh,
  W.mg_of X G aC_Desk,
  ⟨Er,Es,Ep,Eo⟩,
  na_Desk_n,
  na_Desk_rule,
  na_Desk_rows,
  na_Desk_kept,
  λH a dx fs e=>.ins e ⟨Er,Es,Ep,Eo⟩ t1_Desk t2 t3 t4_Desk,
  yl _ _,
  ⟨_,W.mg_of X G v_LETTERS⟩,
  ⟨_,W.mg_of X G v_DEEPEST_GROUP⟩,
  ⟨_,W.mg_of X G v_FIGURES⟩,
  ⟨_,W.mg_of X G v_LONGEST_NUMBER_phrases⟩,
  ⟨_,W.mg_of X G v_MOST_SWITCHES⟩,
  ⟨_,W.mg_of X G v_MOST_ROWS⟩,
  ⟨_,W.mg_of X G v_LONGEST_NUMBER_desk⟩,
  ⟨_,W.mg_of X G v_MOST_STEPS⟩,
  W.mg_of X G a_NEEDS,
  D_NEEDS,
  W.mg_of X G Eg,
  ⟨Ec,Eb,Ed,D7,t2,t3,D6⟩,
  em_NoGroup_NoGroup,
  W.mg_none_of X G z_len,
  W.mg_none_of X G z_range,
  W.mg_none_of X G z_int,
  W.mg_none_of X G z_bool,
  W.mg_none_of X G z_list,
  W.mg_none_of X G D5,
  W.mg_none_of X G DO,
  W.mg_none_of X G DB,
  W.mg_none_of X G z_str,
  W.mg_none_of X G z_all,
  W.mg_none_of X G z_any,
  W.mg_none_of X G z_zip,
  W.mg_none_of X G z_min,
  W.mg_of X G a_FORMS,D_FORMS⟩
 obtain⟨_,_,_,_,_,_,_,_,_,e,_⟩:=u_law.F.ex;exact⟨_,λs v=>by rw[e];exact .of_eq rfl,λbase _ _=>Cy T u_law.F⟩
theorem CD{l:W.OpenLaw}{q:Program}{loose:List Str}{XP:(Str->Option Value)->Heap->Prop}{YP:World->Heap->Prop}{d:DefRec}{K:Params->W.Frag}(hn:l.most=some 63)(hdf:d.params.defaults=[])
  (hY:∀(w:World) (h:Heap),YP w h->(K w.params).In h)
  (F:∀(w:World) (mg:Str->Option Value) (fa:Addr) (h:Heap),(K w.params).In h->h.Ns mainGlobals mg->mg d.name=some (.ref fa) ->
   ∃fd:FuncData,(∀(s:Shared) (u:Value),BindsTo s fd ⟨[u],[]⟩ [("_law_script",u)])/\∀base:Heap,(K w.params).In base->base.Ns mainGlobals mg->aF l.prog w (K w.params) mg base aJ 60 fa fd YF (jf (K w.params))) :
  W.WalkO q loose XP YP l.row.toRowW d [] (λf vs=>PySem.call f vs):=
 L2.xD (n:=63) (k:=60) (x:="_law_script") (CX:=λ_=>aJ) (sp:=λw=>jf (K w.params)) hn (by decide) hdf ⟨rfl,by decide,by decide⟩ hY F (λ_ _ a ns hl _ hS=>⟨a,ns,rfl,hS,hl,λ_=>rfl⟩) λ_ _ _ _ _ z=>z
end K85
open PySem PySem.W PyProof.Rows
set_option maxRecDepth 100000 in
set_option maxHeartbeats 0 in
theorem PySem.Challenge.cw_manymakes_k85_desk_texts_holds : PySem.Challenge.rw_manymakes_k85_desk_texts.Holds := by
 rw[<-K85.rwe]
 w_on;o_law
 refine PySem.W.holds_open (r:=OpenLaw.row K85.rw) (q:=K85.vw) (loose:=["reckoned_plainrun","MAKES","ASKS","NEEDS","reckoned_wishes","variants","FORMS"]) (Xt:=K85.xt) (XP:=XL K85.vw [])
  (Yf:=(kHook K85.pre.heap_1 K85.as K85.ase).obs) (Ya:=(kHook K85.pre.heap_1 K85.as K85.ase).val) (YP:=(kHook K85.pre.heap_1 K85.as K85.ase).says)
  (N:=20038) (show LeftO K85.pw _ _ _ _ _ _ from K85.left)
  ((kHook K85.pre.heap_1 K85.as K85.ase).of) ((kHook K85.pre.heap_1 K85.as K85.ase).keeps) (λs e=>xl_of s (Mm.both_true e).1)
  (XL.keeps) (by rfl) (by rfl) (by rfl) (λs e=>recFacts_of (Mm.both_true e).2)
  (by rfl) (by assumption) (by decide +kernel)
  ⟨rfl,rfl,rfl,rfl,rfl,by decide +kernel⟩ ?hw ?hc
 (case hw=>exact⟨[.list []],by decide +kernel,by decide +kernel⟩)
 k_fill
 refine K85.CD (l:=K85.rw) rfl rfl (λw h Y=>PySem.W.kIn_of Y) ?F
 case F =>
  intro w mg fa h KX G hmg;apply K85.CC KX G hmg
  all_goals first|(apply K85.fg;k_is;apply K85.fb;k_is;k_is;k_is;intro us hl;(rcases us with _|⟨_,_|⟨_,_|⟨_,_|⟨_,_|⟨_,_|⟨_,_|_⟩⟩⟩⟩⟩⟩)<;>first|(simp at hl;done)|rfl)|(apply K85.CB;k_is;apply K85.fb;k_is;k_is;k_is;intro us hl;(rcases us with _|⟨_,_|⟨_,_|⟨_,_|⟨_,_|⟨_,_|⟨_,_|_⟩⟩⟩⟩⟩⟩)<;>first|(simp at hl;done)|rfl)|(apply K85.mg;k_is;k_is;apply K85.fb;k_is;k_is;k_is;intro us hl;(rcases us with _|⟨_,_|⟨_,_|⟨_,_|⟨_,_|⟨_,_|⟨_,_|_⟩⟩⟩⟩⟩⟩)<;>first|(simp at hl;done)|rfl)|(apply K85.cg;k_is)|(apply K85.CA;k_is;k_is;rfl;rfl;decide +kernel;repeat (first|exact L2.dR.nil|(apply K85.Cz;k_is;rfl;rfl;rfl;decide)))|(apply K85.dg;k_is;k_is;all_goals first|rfl|decide +kernel)|(apply K85.ig;k_is;k_is;kernel_rfl;apply K85.fb;k_is;k_is;k_is;intro us hl;(rcases us with _|⟨_,_|⟨_,_|⟨_,_|⟨_,_|⟨_,_|⟨_,_|_⟩⟩⟩⟩⟩⟩)<;>first|(simp at hl;done)|rfl)|k_is|kernel_rfl|kts_exm|kit_is
