import PyProof.Rows.All
import Wide.All
import OpenK.AllK
import Wide.FinOn
import Lean
import PyProof.EqAt
import PyProof.EqKinds
import PyProof.TupleCall
import PyProof.Rows.BitMore
import KE.IntBitsLaws
import KE.KRevIter
import KE.KTryMore
import PyProof.StrLawsRepr
import KE.KIsAll
import KE.RegKIsAll
import KE.RegKTryMore
import PyProof.StrCalls2
import PyProof.StrLawsTight
import PyProof.StrLawsChain
import PyProof.Rows.StrItems
import PyProof.Rows.StrWeight2
import PyProof.EnumMake
import PyProof.EnumStmt
import PyProof.Rows.EnumRows
import PyProof.Rows.ZipGen
import PyProof.Rows.FactsT2
import PyProof.IsiH_list
import PyProof.AttrMiss
import KE.KDictOf
import PyProof.IsiH_tuple
import PyProof.Rows.EqDataRows
import PyProof.P3Eq
import PyProof.Rows.SortRev
import KE.KSortTup
import PyProof.StrWalks
import KE.KIntText
import KE.IntTextLaws
import PyProof.CallStr
import KE.KDictSum
import PyProof.FString5
import PyProof.PureInt
import PyProof.FactsAll.tuple_1
import PyProof.NeData
import PySem.Challenge.RW_manymakes_k47_whole_shared_kinds_cut
set_option Elab.async false
set_option maxRecDepth 100000
set_option linter.all false
set_option maxHeartbeats 4000000
section
open PySem PySem.Spec PyProof.Rows PySem.W
theorem eZ:0<=sizeLine:=by decide
theorem cO:1<=sizeLine:=by decide
theorem aM:2<=sizeLine:=by decide
theorem dt:3<=sizeLine:=by decide
theorem iG:4<=sizeLine:=by decide
theorem Qa:type_of% @List.getElem?_eq_getElem:=@List.getElem?_eq_getElem
theorem Qb:type_of% @wpAny_bind:=@wpAny_bind
theorem Qc:type_of% @Nat.le_refl:=@Nat.le_refl
theorem Qd:type_of% @Heap.get?_push_of_some:=@Heap.get?_push_of_some
theorem Qe:type_of% @List.length_map:=@List.length_map
theorem Qf:type_of% @wpAny_pure:=@wpAny_pure
theorem Qg:type_of% @List.getD_eq_getElem?_getD:=@List.getD_eq_getElem?_getD
theorem Qh {α:Type _} {l:List α} {i:Nat} {a:α} (h:l[i]?=some a):∃ h:i<l.length,l[i]=a:=List.getElem?_eq_some_iff.mp h
theorem Qi:type_of% @List.take_succ_eq_append_getElem:=@List.take_succ_eq_append_getElem
theorem Qj:type_of% @decide_eq_false:=@decide_eq_false
theorem Qk:type_of% @List.size_toArray:=@List.size_toArray
theorem Ql:type_of% @Heap.lt_size:=@Heap.lt_size
theorem Qm {α:Type _} {l:List α} {a b:α} (h:a∈b::l):a=b∨a∈l:=List.mem_cons.mp h
theorem Qn:type_of% @Heap.get?_push_size:=@Heap.get?_push_size
theorem Qo:type_of% @List.take_of_length_le:=@List.take_of_length_le
theorem Qp:type_of% @Option.some.inj:=@Option.some.inj
theorem Qq:type_of% @Nat.le_trans:=@Nat.le_trans
theorem Qr:type_of% @Nat.zero_le:=@Nat.zero_le
theorem Qs:type_of% @decide_eq_true:=@decide_eq_true
theorem Qt:type_of% @Bool.false_ne_true:=@Bool.false_ne_true
theorem Qu:type_of% @List.getElem?_map:=@List.getElem?_map
theorem Qv:type_of% @Array.length_toList:=@Array.length_toList
theorem Qw:type_of% @List.mem_cons_of_mem:=@List.mem_cons_of_mem
theorem Qx:type_of% @List.mem_append_right:=@List.mem_append_right
theorem Qy:type_of% @Int.toNat_natCast:=@Int.toNat_natCast
theorem Qz:type_of% @List.mem_of_getElem?:=@List.mem_of_getElem?
theorem QA:type_of% @List.mem_cons_self:=@List.mem_cons_self
theorem QB:type_of% @List.getElem_mem:=@List.getElem_mem
theorem QC:type_of% @Nat.ne_of_lt:=@Nat.ne_of_lt
theorem QD:type_of% @Nat.lt_of_le_of_lt:=@Nat.lt_of_le_of_lt
theorem QE:type_of% @List.length_append:=@List.length_append
theorem QF:type_of% @List.getElem?_append_right:=@List.getElem?_append_right
theorem QG:type_of% @Nat.lt_of_lt_of_le:=@Nat.lt_of_lt_of_le
theorem QH:type_of% @Array.toList_append:=@Array.toList_append
theorem QI:type_of% @List.getElem?_append_left:=@List.getElem?_append_left
theorem QJ:type_of% @List.length_take:=@List.length_take
theorem QK {α:Type _} {l r:List α} {a:α} (h:a∈l++r):a∈l∨a∈r:=List.mem_append.mp h
theorem QL {α:Type _} {a b:α} (h:a∈[b]):a=b:=List.mem_singleton.mp h
theorem QM:type_of% @Bool.false_eq_true:=@Bool.false_eq_true
theorem QN:type_of% @List.length_cons:=@List.length_cons
theorem QO:type_of% @List.append_nil:=@List.append_nil
theorem QP:type_of% @Nat.le_of_lt:=@Nat.le_of_lt
theorem QQ:type_of% @List.append_assoc:=@List.append_assoc
theorem QR:type_of% @wpAny_mono:=@wpAny_mono
theorem QS:type_of% @Heap.get?_update_ne:=@Heap.get?_update_ne
theorem QT {α β:Type _} {f:α->β} {l:List α} {b:β} (h:b∈l.map f):∃ a,a∈l∧f a=b:=List.mem_map.mp h
theorem QU:type_of% @List.map_append:=@List.map_append
end
section
open PySem PySem.W
noncomputable def Mm.hdTr {α:Type} (_:α):Prop:=True
noncomputable def Mm.hdPk {α:Type} (s:α) (_:Mm.hdTr s):α:=s
theorem Mm.hdOf {α:Type} {a s:α} (_:a=s):Mm.hdTr s:=trivial
abbrev K47.g (i:Nat):Stmt:=PySem.Challenge.pw_manymakes_k47_whole_shared_kinds_cut.main.body.getD i (Stmt.Pass ⟨0,0,0,0⟩)
noncomputable def K47.t0:Stmt:=Mm.hdPk (Stmt.Assign _ _ _) (Mm.hdOf (a:=K47.g 0) rfl)
noncomputable def K47.t1:Stmt:=Mm.hdPk (Stmt.FunctionDef _ _ _ _ _ _ _ _ _ _) (Mm.hdOf (a:=K47.g 1) rfl)
noncomputable def K47.t2:Stmt:=Mm.hdPk (Stmt.FunctionDef _ _ _ _ _ _ _ _ _ _) (Mm.hdOf (a:=K47.g 2) rfl)
noncomputable def K47.t3:Stmt:=Mm.hdPk (Stmt.FunctionDef _ _ _ _ _ _ _ _ _ _) (Mm.hdOf (a:=K47.g 3) rfl)
noncomputable def K47.t4:Stmt:=Mm.hdPk (Stmt.FunctionDef _ _ _ _ _ _ _ _ _ _) (Mm.hdOf (a:=K47.g 4) rfl)
noncomputable def K47.t5:Stmt:=Mm.hdPk (Stmt.FunctionDef _ _ _ _ _ _ _ _ _ _) (Mm.hdOf (a:=K47.g 5) rfl)
noncomputable def K47.t6:Stmt:=Mm.hdPk (Stmt.FunctionDef _ _ _ _ _ _ _ _ _ _) (Mm.hdOf (a:=K47.g 6) rfl)
noncomputable def K47.t7:Stmt:=Mm.hdPk (Stmt.Assign _ _ _) (Mm.hdOf (a:=K47.g 7) rfl)
noncomputable def K47.t8:Stmt:=Mm.hdPk (Stmt.FunctionDef _ _ _ _ _ _ _ _ _ _) (Mm.hdOf (a:=K47.g 8) rfl)
noncomputable def K47.t9:Stmt:=Mm.hdPk (Stmt.FunctionDef _ _ _ _ _ _ _ _ _ _) (Mm.hdOf (a:=K47.g 9) rfl)
noncomputable def K47.t10:Stmt:=Mm.hdPk (Stmt.FunctionDef _ _ _ _ _ _ _ _ _ _) (Mm.hdOf (a:=K47.g 10) rfl)
noncomputable def K47.t11:Stmt:=Mm.hdPk (Stmt.FunctionDef _ _ _ _ _ _ _ _ _ _) (Mm.hdOf (a:=K47.g 11) rfl)
noncomputable def K47.t12:Stmt:=Mm.hdPk (Stmt.FunctionDef _ _ _ _ _ _ _ _ _ _) (Mm.hdOf (a:=K47.g 12) rfl)
noncomputable def K47.t13:Stmt:=Mm.hdPk (Stmt.FunctionDef _ _ _ _ _ _ _ _ _ _) (Mm.hdOf (a:=K47.g 13) rfl)
noncomputable def K47.t14:Stmt:=Mm.hdPk (Stmt.Assign _ _ _) (Mm.hdOf (a:=K47.g 14) rfl)
noncomputable def K47.t15:Stmt:=Mm.hdPk (Stmt.Assign _ _ _) (Mm.hdOf (a:=K47.g 15) rfl)
noncomputable def K47.t16:Stmt:=Mm.hdPk (Stmt.FunctionDef _ _ _ _ _ _ _ _ _ _) (Mm.hdOf (a:=K47.g 16) rfl)
noncomputable def K47.t17:Stmt:=Mm.hdPk (Stmt.FunctionDef _ _ _ _ _ _ _ _ _ _) (Mm.hdOf (a:=K47.g 17) rfl)
noncomputable def K47.t18:Stmt:=Mm.hdPk (Stmt.FunctionDef _ _ _ _ _ _ _ _ _ _) (Mm.hdOf (a:=K47.g 18) rfl)
noncomputable def K47.t19:Stmt:=Mm.hdPk (Stmt.FunctionDef _ _ _ _ _ _ _ _ _ _) (Mm.hdOf (a:=K47.g 19) rfl)
noncomputable def K47.t20:Stmt:=Mm.hdPk (Stmt.Assign _ _ _) (Mm.hdOf (a:=K47.g 20) rfl)
noncomputable def K47.t21:Stmt:=Mm.hdPk (Stmt.Assign _ _ _) (Mm.hdOf (a:=K47.g 21) rfl)
noncomputable def K47.t22:Stmt:=Mm.hdPk (Stmt.Assign _ _ _) (Mm.hdOf (a:=K47.g 22) rfl)
noncomputable def K47.t23:Stmt:=Mm.hdPk (Stmt.ClassDef _ _ _ _ _ _ _ _ _ _ _) (Mm.hdOf (a:=K47.g 23) rfl)
noncomputable def K47.t24:Stmt:=Mm.hdPk (Stmt.FunctionDef _ _ _ _ _ _ _ _ _ _) (Mm.hdOf (a:=K47.g 24) rfl)
noncomputable def K47.t25:Stmt:=Mm.hdPk (Stmt.FunctionDef _ _ _ _ _ _ _ _ _ _) (Mm.hdOf (a:=K47.g 25) rfl)
noncomputable def K47.t26:Stmt:=Mm.hdPk (Stmt.FunctionDef _ _ _ _ _ _ _ _ _ _) (Mm.hdOf (a:=K47.g 26) rfl)
noncomputable def K47.t27:Stmt:=Mm.hdPk (Stmt.FunctionDef _ _ _ _ _ _ _ _ _ _) (Mm.hdOf (a:=K47.g 27) rfl)
noncomputable def K47.t28:Stmt:=Mm.hdPk (Stmt.FunctionDef _ _ _ _ _ _ _ _ _ _) (Mm.hdOf (a:=K47.g 28) rfl)
noncomputable def K47.t29:Stmt:=Mm.hdPk (Stmt.Assign _ _ _) (Mm.hdOf (a:=K47.g 29) rfl)
noncomputable def K47.t30:Stmt:=Mm.hdPk (Stmt.FunctionDef _ _ _ _ _ _ _ _ _ _) (Mm.hdOf (a:=K47.g 30) rfl)
noncomputable def K47.t31:Stmt:=Mm.hdPk (Stmt.FunctionDef _ _ _ _ _ _ _ _ _ _) (Mm.hdOf (a:=K47.g 31) rfl)
noncomputable def K47.t32:Stmt:=Mm.hdPk (Stmt.FunctionDef _ _ _ _ _ _ _ _ _ _) (Mm.hdOf (a:=K47.g 32) rfl)
noncomputable def K47.t33:Stmt:=Mm.hdPk (Stmt.FunctionDef _ _ _ _ _ _ _ _ _ _) (Mm.hdOf (a:=K47.g 33) rfl)
noncomputable def K47.t34:Stmt:=Mm.hdPk (Stmt.FunctionDef _ _ _ _ _ _ _ _ _ _) (Mm.hdOf (a:=K47.g 34) rfl)
noncomputable def K47.t35:Stmt:=Mm.hdPk (Stmt.FunctionDef _ _ _ _ _ _ _ _ _ _) (Mm.hdOf (a:=K47.g 35) rfl)
noncomputable def K47.t36:Stmt:=Mm.hdPk (Stmt.FunctionDef _ _ _ _ _ _ _ _ _ _) (Mm.hdOf (a:=K47.g 36) rfl)
noncomputable def K47.t37:Stmt:=Mm.hdPk (Stmt.FunctionDef _ _ _ _ _ _ _ _ _ _) (Mm.hdOf (a:=K47.g 37) rfl)
noncomputable def K47.t38:Stmt:=Mm.hdPk (Stmt.FunctionDef _ _ _ _ _ _ _ _ _ _) (Mm.hdOf (a:=K47.g 38) rfl)
noncomputable def K47.t39:Stmt:=Mm.hdPk (Stmt.FunctionDef _ _ _ _ _ _ _ _ _ _) (Mm.hdOf (a:=K47.g 39) rfl)
noncomputable def K47.t40:Stmt:=Mm.hdPk (Stmt.FunctionDef _ _ _ _ _ _ _ _ _ _) (Mm.hdOf (a:=K47.g 40) rfl)
noncomputable def K47.t41:Stmt:=Mm.hdPk (Stmt.FunctionDef _ _ _ _ _ _ _ _ _ _) (Mm.hdOf (a:=K47.g 41) rfl)
noncomputable def K47.t42:Stmt:=Mm.hdPk (Stmt.FunctionDef _ _ _ _ _ _ _ _ _ _) (Mm.hdOf (a:=K47.g 42) rfl)
noncomputable def K47.t43:Stmt:=Mm.hdPk (Stmt.FunctionDef _ _ _ _ _ _ _ _ _ _) (Mm.hdOf (a:=K47.g 43) rfl)
noncomputable def K47.t44:Stmt:=Mm.hdPk (Stmt.FunctionDef _ _ _ _ _ _ _ _ _ _) (Mm.hdOf (a:=K47.g 44) rfl)
noncomputable def K47.t45:Stmt:=Mm.hdPk (Stmt.FunctionDef _ _ _ _ _ _ _ _ _ _) (Mm.hdOf (a:=K47.g 45) rfl)
noncomputable def K47.t46:Stmt:=Mm.hdPk (Stmt.FunctionDef _ _ _ _ _ _ _ _ _ _) (Mm.hdOf (a:=K47.g 46) rfl)
noncomputable def K47.t47:Stmt:=Mm.hdPk (Stmt.FunctionDef _ _ _ _ _ _ _ _ _ _) (Mm.hdOf (a:=K47.g 47) rfl)
noncomputable def K47.t48:Stmt:=Mm.hdPk (Stmt.FunctionDef _ _ _ _ _ _ _ _ _ _) (Mm.hdOf (a:=K47.g 48) rfl)
noncomputable def K47.t49:Stmt:=Mm.hdPk (Stmt.FunctionDef _ _ _ _ _ _ _ _ _ _) (Mm.hdOf (a:=K47.g 49) rfl)
noncomputable def K47.sc:Scope:=Mm.hdPk (Scope.mk _ _ _ _ _) (Mm.hdOf (a:=PySem.Challenge.pw_manymakes_k47_whole_shared_kinds_cut.main.scope) rfl)
noncomputable def K47.pw:Program:=Mm.hdPk (Program.mk (Module.mk (K47.t0::K47.t1::K47.t2::K47.t3::K47.t4::K47.t5::K47.t6::K47.t7::K47.t8::K47.t9::K47.t10::K47.t11::K47.t12::K47.t13::K47.t14::K47.t15::K47.t16::K47.t17::K47.t18::K47.t19::K47.t20::K47.t21::K47.t22::K47.t23::K47.t24::K47.t25::K47.t26::K47.t27::K47.t28::K47.t29::K47.t30::K47.t31::K47.t32::K47.t33::K47.t34::K47.t35::K47.t36::K47.t37::K47.t38::K47.t39::K47.t40::K47.t41::K47.t42::K47.t43::K47.t44::K47.t45::K47.t46::K47.t47::K47.t48::K47.t49::List.nil) K47.sc _ _ _) _ _ _ _ _) (Mm.hdOf (a:=PySem.Challenge.pw_manymakes_k47_whole_shared_kinds_cut) rfl)
noncomputable def K47.rw:OpenLaw:=Mm.hdPk { prog:=K47.pw,name:=_,about:=_,foot:=_,most:=_,bound:=_,writes:=_ } (Mm.hdOf (a:=PySem.Challenge.rw_manymakes_k47_whole_shared_kinds_cut) rfl)
theorem K47.rwe:K47.rw=PySem.Challenge.rw_manymakes_k47_whole_shared_kinds_cut:=rfl
end
section
open PySem PySem.W PyProof.Rows
theorem K47.pwe:PySem.Challenge.pw_manymakes_k47_whole_shared_kinds_cut=K47.pw:=rfl
noncomputable def K47.vw:Program:={ K47.pw with main:={ K47.pw.main with body:=K47.t1::K47.t2::K47.t3::K47.t4::K47.t5::K47.t6::K47.t8::K47.t9::K47.t10::K47.t11::K47.t12::K47.t13::K47.t14::K47.t16::K47.t17::K47.t18::K47.t19::K47.t21::K47.t22::K47.t23::K47.t24::K47.t25::K47.t26::K47.t27::K47.t28::K47.t30::K47.t31::K47.t32::K47.t33::K47.t34::K47.t35::K47.t36::K47.t37::K47.t38::K47.t39::K47.t40::K47.t41::K47.t42::K47.t43::K47.t44::K47.t45::K47.t46::K47.t47::K47.t48::K47.t49::List.nil } }
theorem Mm.keepIt (_:Hook) {p:Prop} (h:p):p:=h
section
local macro_rules | `(tactic| o_head $H)=>`(tactic| exact Mm.keepIt $H (by assumption))
set_option maxHeartbeats 0 in
theorem K47.pre (h:(OpenLaw.row PySem.Challenge.rw_manymakes_k47_whole_shared_kinds_cut).Holds):(OpenLaw.row PySem.Challenge.rw_manymakes_k47_whole_shared_kinds_cut).Holds:=by k_head
end
def K47.as:List Addr:=[2,3,15,17,18,20,21,22,24,25,27,28,29,31,32,34,35,36,39,40,41,43,44,46,47,48,51,52,53,56,57,58,61,62,63,65,66,68,69,70,73,74,75,78,79,80,83,84,85,86,88,89,91,92,93,95,96,98,99,100,102,103,105,106,107,109,110,112,113,114,115,123,125,126,128,129,130,132,133,135,136,137,139,140,142,143,144,147,148,149,152,153,154,156,157,159,160,161,163,164,166,167,168,171,172,173,175,176,178,179,180,183,184,185,186,187,188,189,192,195,196,197,199,200,202,203,204,206,207,209,210,211,213,214,216,217,218,221,222,223,225,226,228,229,230,232,233,235,236,237,239,240,242,243,244,246,247,249,250,251,254,255,256,258,259,261,262,263,265,266,268,269,270,272,273,275,276,277,279,280,282,283,284,286,287,289,290,291,293,294,296,297,298,300,301,303,304,305,307,308,310,311,312,315,316,317,319,320,322,323,324,326,327,329,330,331,333,334,336,337,338,340,341,343,344,345,347,348,350,351,352,355,356]
theorem K47.ase (P:Params):K47.as=(K47.pre.heap_1 P).map (·.1):=by kernel_rfl
theorem Mm.both_true {a b:Bool} (h:(a&&b)=true):a=true/\b=true:=by cases a<;>cases b<;>simp_all
noncomputable abbrev K47.xt:Shared->Bool:=fun s=>(xlAt K47.vw [] s)&&(recOk (RowW.records (OpenRow.toRowW (OpenLaw.row K47.rw))) s)
noncomputable def K47.oe (w:World):Option Shared :=
 (importEnds treeTable (opening K47.pw) w 4350 (start (opening K47.pw)).1 (start (opening K47.pw)).2).bind fun s=>(fenceModules? K47.pw s).bind fun s₀ =>
 match s₀.heap.isNs mainGlobals&&s₀.gens.size == 0 with
 | true=>(topRun treeTable K47.pw w s₀.heap.objs.size (s₀.heap.nsMap mainGlobals "__annotations__") 4350 s₀ (topStub K47.pw)).bind fun s₁=>match staticsOk (importedModules K47.pw.main.body) s₀.heap s₁.heap&&namesBound K47.pw s₁.heap&&gensDone s₁&&laidKept s₀.heap s₁.heap with
   | true=>some s₁
   | false=>none
 | false=>none
theorem Mm.bindAss {α β γ:Type} (o:Option α) (f:α->Option β) (g:β->Option γ):(o.bind f).bind g=o.bind fun s=>(f s).bind g:=by cases o<;>rfl
theorem K47.oe_eq (w:World):openEnds treeTable PySem.Challenge.pw_manymakes_k47_whole_shared_kinds_cut w 4350=K47.oe w:=by rw [K47.pwe];show ((importEnds _ _ _ _ _ _).bind _).bind _=_;rw [Mm.bindAss];rfl
noncomputable def K47.ga (w:World):=Option.map (openSeen K47.vw ["MAKES","ASKS"] (importedModules K47.pw.main.body) K47.xt true) (K47.oe w)
noncomputable def K47.gb:=some (openGood K47.vw ["MAKES","ASKS"])
noncomputable def K47.oa (w:World):Option (List (Option Obj)):=Option.map (fun s=>K47.as.map s.heap.get?) (K47.oe w)
def Mm.hdTt {α:Type} (_:α):Bool:=true
theorem K47.lay1:Mm.hdTt K47.ga=true:=by k_qdec
theorem K47.lay2:Mm.hdTt K47.gb=true:=by k_qdec
theorem K47.lay3:Mm.hdTt K47.oa=true:=by k_qdec
theorem K47.la0 (w:World):PySem.W.Fast.tw419946756915883453 (w.withFollow "special-get-raises" false)=PySem.W.Fast.tw14362615398311315251:=by kernel_rfl
theorem K47.lb0 (w:World):PySem.W.Fast.tw5971239059411947102 (w.withFollow "special-get-raises" false)=some ((K47.pre.heap_1 (w.withFollow "special-get-raises" false).params).map fun p=>some p.2):=by kernel_rfl
theorem K47.la1 (w:World):PySem.W.Fast.tw419946756915883453 (w.withFollow "special-get-raises" true)=PySem.W.Fast.tw14362615398311315251:=by kernel_rfl
theorem K47.lb1 (w:World):PySem.W.Fast.tw5971239059411947102 (w.withFollow "special-get-raises" true)=some ((K47.pre.heap_1 (w.withFollow "special-get-raises" true).params).map fun p=>some p.2):=by kernel_rfl
theorem K47.la (w:World):PySem.W.Fast.tw419946756915883453 w=PySem.W.Fast.tw14362615398311315251:=byRow2 "special-get-raises" (P:=fun w=>PySem.W.Fast.tw419946756915883453 w=PySem.W.Fast.tw14362615398311315251) K47.la0 K47.la1 w
theorem K47.lb (w:World):PySem.W.Fast.tw5971239059411947102 w=some ((K47.pre.heap_1 w.params).map fun p=>some p.2):=byRow2 "special-get-raises" (P:=fun w=>PySem.W.Fast.tw5971239059411947102 w=some ((K47.pre.heap_1 w.params).map fun p=>some p.2)) K47.lb0 K47.lb1 w
theorem Mm.dM {α β γ:Type} {o:Option α} {f:α->β} {g:α->γ} {b:β} {c:γ} (h1:o.map f=some b) (h2:o.map g=some c):o.map (fun s=>(f s,g s))=some (b,c):=by
 cases o with
 | none=>cases h1
 | some s =>
  have h1:=Qp h1;have h2:=Qp h2;show some (f s,g s)=_;rw [h1,h2]
theorem K47.left:LeftO PySem.Challenge.pw_manymakes_k47_whole_shared_kinds_cut K47.vw ["MAKES","ASKS"] K47.xt (kHook K47.pre.heap_1 K47.as K47.ase).obs (kHook K47.pre.heap_1 K47.as K47.ase).val 4350:=fun w=>by rw [K47.oe_eq];exact Mm.dM ((congrFun PySem.W.Fast.te419946756915883453 w).trans ((K47.la w).trans PySem.W.Fast.te14362615398311315251.symm)) ((congrFun PySem.W.Fast.te5971239059411947102 w).trans (K47.lb w))
end
namespace L2
theorem ci {p:Prop} (h:∀ G:Prop,(p->G)->G):p:=h p id
theorem hid2.{u,v} {α:Sort u} {β:Sort v} {p:α->β->Prop} (c:α) (y:β) (h:∀ G:α->β->Prop,(∀ a b,p a b->G a b)->G c y):p c y:=h p fun _ _ x=>x
end L2
namespace L2
open PySem PySem.Spec PyProof.Rows
abbrev ae:=Sum Int Str
noncomputable def iH:ae->Value->Bool
 | .inl k,v=>Value.isInt k v
 | .inr x,v=>Value.isStrOf x v
noncomputable def ye (w:World):ae->Int
 | .inl k=>hashInt k
 | .inr x=>hashStr w x
theorem fM:∀ {k:ae} {v:Value},iH k v=true->(∃ i t,k=Sum.inl i/\v=Value.int i t)∨(∃ x t,k=Sum.inr x/\v=Value.str x t)
 | .inl i,v,h=>by obtain ⟨t,e⟩:=Value.isInt_shape (k:=i) (v:=v) h;exact .inl ⟨i,t,rfl,e⟩
 | .inr x,v,h=>by obtain ⟨t,e⟩:=Value.isStrOf_shape (x:=x) (v:=v) h;exact .inr ⟨x,t,rfl,e⟩
theorem yf (i:Int) (t:Tok):iH (.inl i) (.int i t)=true:=by simp [iH,Value.isInt]
theorem yg (x:Str) (t:Tok):iH (.inr x) (.str x t)=true:=by simp [iH,Value.isStrOf]
theorem yh (a b:Int):decide ((Sum.inl a:ae)=Sum.inl b)=(a == b):=by
 by_cases e:a=b
 ·subst e;simp
 ·have h:¬ (Sum.inl a:ae)=Sum.inl b:=fun q=>e (Sum.inl.inj q);rw [Qj h];exact (beq_eq_false_iff_ne.mpr e).symm
theorem yi (a b:Str):decide ((Sum.inr a:ae)=Sum.inr b)=decide (a=b):=by
 by_cases e:a=b
 ·subst e;simp
 ·have h:¬ (Sum.inr a:ae)=Sum.inr b:=fun q=>e (Sum.inr.inj q);rw [Qj h,Qj e]
theorem yj (a:Int) (b:Str):decide ((Sum.inl a:ae)=Sum.inr b)=false:=Qj (fun q=>nomatch q)
theorem yk (a:Str) (b:Int):decide ((Sum.inr a:ae)=Sum.inl b)=false:=Qj (fun q=>nomatch q)
noncomputable def bF (prog:Program) (w:World):PySem.KeyKind prog w ae where
 is:=iH
 hash:=ye w
 inj:=fun v a b ha hb=>by
  rcases fM ha with ⟨i,t,rfl,rfl⟩ | ⟨x,t,rfl,rfl⟩
  ·rcases fM hb with ⟨j,u,rfl,e⟩ | ⟨y,u,rfl,e⟩
   ·injection e with e1 _;rw [e1]
   ·exact nomatch e
  ·rcases fM hb with ⟨j,u,rfl,e⟩ | ⟨y,u,rfl,e⟩
   ·exact nomatch e
   ·injection e with e1 _;rw [e1]
 byValue:=fun k v h=>by rcases fM h with ⟨i,t,rfl,rfl⟩ | ⟨x,t,rfl,rfl⟩<;>rfl
 pyHash:=fun hv h=>by
  rcases fM hv with ⟨i,t,rfl,rfl⟩ | ⟨x,t,rfl,rfl⟩
  ·exact wpAny_pyHash_int h
  ·exact wpAny_pyHash_str h
 eqBool:=fun hu hv h=>by
  rcases fM hu with ⟨i,t,rfl,rfl⟩ | ⟨x,t,rfl,rfl⟩
  ·rcases fM hv with ⟨j,u,rfl,rfl⟩ | ⟨y,u,rfl,rfl⟩
   ·rw [yh] at h;exact wpAny_eqBool_int h
   ·rw [yj] at h;exact SeqAt.EqAt.int_str i t y u _ _ _ _ h
  ·rcases fM hv with ⟨j,u,rfl,rfl⟩ | ⟨y,u,rfl,rfl⟩
   ·rw [yk] at h;exact SeqAt.EqAt.str_int x t j u _ _ _ _ h
   ·rw [yi] at h;exact wpAny_eqBool_str h
 «strs»:=fun k x t v h=>by
  rcases fM h with ⟨i,u,rfl,e⟩ | ⟨y,u,rfl,e⟩
  ·exact nomatch e
  ·injection e with e1 _;subst e1;cases v<;>rfl
theorem yl (prog:Program) (w:World) (i:Int) (t:Tok):(bF prog w).is (.inl i) (.int i t)=true:=yf i t
theorem k5 (prog:Program) (w:World) (x:Str) (t:Tok):(bF prog w).is (.inr x) (.str x t)=true:=yg x t
inductive V where
 | non | bl (b:Bool) | int (i:Int) | str (x:Str) | byt (b:Array UInt8) | flt (b:UInt64) | ref (a:Addr) | ty (n:String)
 deriving DecidableEq
def RelV:V->Value->Prop
 | .non,u=>u=Value.none
 | .bl b,u=>u=Value.bool b
 | .int i,u=>∃ t,u=Value.int i t
 | .str x,u=>∃ t,u=Value.str x t
 | .byt b,u=>∃ t,u=Value.bytes b t
 | .flt b,u=>∃ t,u=Value.float b t
 | .ref a,u=>u=Value.ref a
 | .ty n,u=>u=Value.type n
abbrev aD:List V->List Value->Prop:=Paired RelV
theorem aD.length {xs:List V} {us:List Value} (r:aD xs us):xs.length=us.length:=Paired.length r
theorem aD.get:∀ {xs:List V} {us:List Value} {i:Nat} {x:V},aD xs us->xs[i]?=some x->∃ u,us[i]?=some u/\RelV x u
 | _,_,_,_,.nil,e=>by simp at e
 | _,_,0,_,.cons r _,e=>by simp at e;subst e;exact ⟨_,rfl,r⟩
 | _,_,i+1,x,.cons _ t,e=>by obtain ⟨u,h1,h2⟩:=aD.get (i:=i) (x:=x) t (by simpa using e);exact ⟨u,by simpa using h1,h2⟩
theorem aD.append:∀ {xs ys:List V} {us ws:List Value},aD xs us->aD ys ws->aD (xs++ys) (us++ws)
 | _,_,_,_,.nil,s=>s
 | _,_,_,_,.cons r t,s=>.cons r (aD.append t s)
theorem aD.take:∀ {xs:List V} {us:List Value} (n:Nat),aD xs us->aD (xs.take n) (us.take n)
 | _,_,0,_=>.nil
 | _,_,_+1,.nil=>.nil
 | _,_,n+1,.cons r t=>.cons r (aD.take n t)
theorem aD.drop:∀ {xs:List V} {us:List Value} (n:Nat),aD xs us->aD (xs.drop n) (us.drop n)
 | _,_,0,r=>r
 | _,_,_+1,.nil=>.nil
 | _,_,n+1,.cons _ t=>aD.drop n t
def cP:Option V->Option Value->Prop
 | some v,some u=>RelV v u
 | none,none=>True
 | _,_=>False
def KV {κ:Type}:List (κ × V)->List (κ × Value)->Prop:=Paired fun (p:κ × V) (q:κ × Value)=>p.1=q.1/\RelV p.2 q.2
noncomputable def kV:ae->V
 | .inl i=>.int i
 | .inr x=>.str x
inductive HO where
 | lst (xs:List V)
 | tup (xs:List V)
 | dK (Fe:List (ae × V)) | dT (Fe:List (List ae × V))
 | set (S:Int->Bool) (n:Nat)
 | ins (C dx:Addr) (fs:List (Str × V))
 | own (x:Addr)
 | xd (fs:List (Str × V))
 | met (f x:Addr)
 | rng (lo hi:Int)
 | frz (o:Obj) (u:HO)
 | tbl (ps:Array Value)
 | ext (φ:Heap->Prop)
abbrev Hp:=Addr->Option HO
noncomputable def upd (H:Hp) (a:Addr) (o:HO):Hp:=fun b=>if b=a then some o else H b
theorem af {H:Hp} {a:Addr} {o:HO}:upd H a o a=some o:=by unfold upd;rw [if_pos rfl]
theorem ay {H:Hp} {a b:Addr} {o:HO} (h:b≠a):upd H a o b=H b:=by unfold upd;rw [if_neg h]
theorem ym {H:Hp} {a:Addr} {o u:HO}:upd (upd H a o) a u=upd H a u:=by funext b;unfold upd;split<;>rfl
theorem yn {H:Hp} {a b:Addr} {o u:HO} (h:H a=some o) (h':H b=some u) (d:o≠u):a≠b:=by intro e;subst e;rw [h] at h';exact d (Qp h')
theorem dG {H:Hp} {a b:Addr} {o:HO} (h:H a=some o) (h':H b=none):a≠b:=by intro e;subst e;rw [h] at h';cases h'
def iI (h:Heap) (a:Addr):Prop:=∃ o:Obj,h.get? a=some o/\o.dict=none
theorem iI.new (h:Heap) (items:Array Value):iI (h.push { cls:=.type "tuple",data:=.seq items }) h.objs.size:=⟨_,Qn _ rfl,rfl⟩
section
variable (P:Program) (w:World)
def bJ (H:Hp) (h:Heap) (a:Addr):HO->Prop
 | .lst xs=>xs.length<=sizeLine/\∃ (its:List Value) (n:Nat),aD xs its/\h.get? a=some { cls:=.type "list",data:=.seq its.toArray n }
 | .tup xs=>xs.length<=sizeLine/\∃ its:List Value,aD xs its/\IsTup h a its.toArray/\iI h a
 | .dK Fe=>Fe.length<=sizeLine/\(a == sysModules)=false/\∃ vs,KV Fe vs/\h.DictOf (bF P w) a vs
 | .dT Fe=>Fe.length<=sizeLine/\(a == sysModules)=false/\∃ xs:List (List ae × Addr × Value),
   Paired (fun (p:List ae × V) (q:List ae × Addr × Value)=>p.1=q.1/\H q.2.1=some (.tup (p.1.map kV))/\RelV p.2 q.2.2) Fe xs /\
   ∃ o es ep,h.get? a=some o/\o.ExactDict/\o.data=.dict es ep/\es.toList=xs.map (entryOfKey (tupleKind (bF P w)))/\(xs.map (·.1)).Nodup
 | .set S n=>h.SetOf (intKind P w) a S n
 | .ins C dx fs=>H dx=some (.own a)/\fs.length<=1000/\dx≠a/\h.get? a=some (PySem.W.instObj C dx) /\
   ∃ mA,h.Ns1 dx mA/\(∀ f,cP (fs.lookup f) (mA f))/\PySem.Within mA (fs.map (·.1))
 | .own _=>∃ o,h.get? a=some o
 | .xd fs=>∃ mA,h.Ns1 a mA/\∀ f,cP (fs.lookup f) (mA f)
 | .rng lo hi=>∃ t u v,h.get? a=some { cls:=.type "range",data:=.fields #[.int lo t,.int hi u,.int 1 v] }
 | .frz o u=>h.get? a=some o/\bJ H h a u
 | .tbl ps=>h.get? a=some { cls:=.none,data:=.fields ps }
 | .met f x=>h.get? a=some (PySem.W.methodObj (.ref f) (.ref x))
 | .ext φ=>φ h/\(∃ o,h.get? a=some o)/\∀ h1 h2:Heap,φ h1->(∀ o,h1.get? a=some o->h2.get? a=some o)->φ h2
def bC (H:Hp) (h:Heap):Prop:=∀ a o,H a=some o->bJ P w H h a o
end
section
variable {P:Program} {w:World} {H H':Hp} {h h':Heap} {a:Addr} {o:HO}
theorem bJ.lt (x:bJ P w H h a o):a<h.objs.size:=by
 cases o with
 | lst xs=>obtain ⟨_,_,_,_,e⟩:=x;exact Ql e
 | tup xs=>obtain ⟨_,_,_,p,_⟩:=x;exact p.lt
 | dK Fe=>obtain ⟨_,_,_,_,o,_,_,e,_⟩:=x;exact Ql e
 | dT Fe=>obtain ⟨_,_,_,_,o,_,_,e,_⟩:=x;exact Ql e
 | set S n=>obtain ⟨o,_,_,_,e,_⟩:=x;exact Ql e
 | ins C dx fs=>obtain ⟨_,_,_,e,_⟩:=x;exact Ql e
 | own y=>obtain ⟨_,e⟩:=x;exact Ql e
 | xd fs=>obtain ⟨_,⟨_,_,_,e,_⟩,_⟩:=x;exact Ql e
 | rng lo hi=>obtain ⟨_,_,_,e⟩:=x;exact Ql e
 | frz ob u=>obtain ⟨e,_⟩:=x;exact Ql e
 | tbl ps=>exact Ql (show h.get? a=some _ from x)
 | met f y=>exact Ql (show h.get? a=some _ from x)
 | ext φ=>obtain ⟨_,⟨_,e⟩,_⟩:=x;exact Ql e
theorem Paired.mapP {α β:Type} {F G:α->β->Prop}:∀ {l₁:List α} {l₂:List β},Paired F l₁ l₂->(∀ a b,F a b->G a b)->Paired G l₁ l₂
 | _,_,.nil,_=>.nil
 | _,_,.cons r t,f=>.cons (f _ _ r) (Paired.mapP t f)
theorem bJ.stay (x:bJ P w H h a o) (k:∀ b u,(b=a∨H b=some (.own a))->h.get? b=some u->h'.get? b=some u)
  (ho:∀ b,H b=some (.own a)->H' b=some (.own a)) (ht:∀ b xs,H b=some (.tup xs)->H' b=some (.tup xs)):bJ P w H' h' a o:=by
 induction o with
 | lst xs=>obtain ⟨z,its,n,r,e⟩:=x;exact ⟨z,its,n,r,k _ _ (.inl rfl) e⟩
 | tup xs=>obtain ⟨z,its,r,⟨ob,e,c⟩,ob2,e2,c2⟩:=x;exact ⟨z,its,r,⟨ob,k _ _ (.inl rfl) e,c⟩,ob2,k _ _ (.inl rfl) e2,c2⟩
 | dK Fe=>obtain ⟨z,y,vs,r,ob,es,ep,e,c⟩:=x;exact ⟨z,y,vs,r,ob,es,ep,k _ _ (.inl rfl) e,c⟩
 | dT Fe =>
  obtain ⟨z,y,xs,r,ob,es,ep,e,c⟩:=x;exact ⟨z,y,xs,Paired.mapP r fun p q z=>⟨z.1,ht _ _ z.2.1,z.2.2⟩,ob,es,ep,k _ _ (.inl rfl) e,c⟩
 | set S n=>obtain ⟨ob,es,ep,t,e,c⟩:=x;exact ⟨ob,es,ep,t,k _ _ (.inl rfl) e,c⟩
 | ins C dx fs =>
  obtain ⟨d,z,ne,e,mA,⟨od,es,ep,e2,c⟩,r⟩:=x;exact ⟨ho _ d,z,ne,k _ _ (.inl rfl) e,mA,⟨od,es,ep,k _ _ (.inr d) e2,c⟩,r⟩
 | own y=>obtain ⟨ob,e⟩:=x;exact ⟨ob,k _ _ (.inl rfl) e⟩
 | xd fs=>obtain ⟨mA,⟨od,es,ep,e,c⟩,r⟩:=x;exact ⟨mA,⟨od,es,ep,k _ _ (.inl rfl) e,c⟩,r⟩
 | rng lo hi=>obtain ⟨t,u,v,e⟩:=x;exact ⟨t,u,v,k _ _ (.inl rfl) e⟩
 | frz ob u ih=>obtain ⟨e,q⟩:=x;exact ⟨k _ _ (.inl rfl) e,ih q⟩
 | tbl ps =>
  have e:h.get? a=some { cls:=.none,data:=.fields ps }:=x;show h'.get? a=some { cls:=.none,data:=.fields ps };exact k a _ (.inl rfl) e
 | met f y =>
  have e:h.get? a=some (PySem.W.methodObj (.ref f) (.ref y)):=x;show h'.get? a=some (PySem.W.methodObj (.ref f) (.ref y));exact k a _ (.inl rfl) e
 | ext φ=>obtain ⟨p,⟨o,e⟩,st⟩:=x;exact ⟨st _ _ p fun o q=>k _ _ (.inl rfl) q,⟨o,k _ _ (.inl rfl) e⟩,st⟩
theorem bC.lt (x:bC P w H h) (e:H a=some o):a<h.objs.size:=(x a o e).lt
theorem bC.fresh (x:bC P w H h) (e:h.objs.size<=a):H a=none:=by
 cases q:H a with
 | none=>rfl
 | some u=>exact absurd (QG (x.lt q) e) (Nat.lt_irrefl _)
theorem bC.kept (x:bC P w H h) (k:∀ b u,h.get? b=some u->h'.get? b=some u):bC P w H h':=fun a o e =>
 (x a o e).stay (fun b u _ q=>k b u q) (fun _ q=>q) fun _ _ q=>q
theorem bC.laid (x:bC P w H h) (k:∀ b u,h.get? b=some u->h'.get? b=some u) (hp:h.objs.size<=a) (new:bJ P w (upd H a o) h' a o):bC P w (upd H a o) h':=fun b u e=>by
 have hn:=x.fresh hp;by_cases hb:b=a
 ·subst hb;rw [af] at e;cases e;exact new
 ·rw [ay hb] at e;exact (x b u e).stay (fun c v _ q=>k c v q) (fun c q=>by rw [ay (dG q hn)];exact q) fun c xs q=>by rw [ay (dG q hn)];exact q
end
def Rd (H:Hp) (a:Addr) (u:HO):Prop:=H a=some u∨∃ o,H a=some (.frz o u)
theorem Rd.ok {P:Program} {w:World} {H:Hp} {h:Heap} {a:Addr} {u:HO} (r:Rd H a u) (x:bC P w H h):bJ P w H h a u:=by
 rcases r with r | ⟨o,r⟩
 ·exact x a u r
 ·obtain ⟨_,q⟩:=x a _ r;exact q
def jK:Option HO->Prop
 | some (.lst _)=>True
 | some (.dK _)=>True
 | some (.dT _)=>True
 | some (.set _ _)=>True
 | some (.ins _ _ _)=>True
 | some (.ext _)=>True
 | _=>False
section
variable {P:Program} {w:World} {H:Hp} {h h':Heap} {x e:Addr} {o':HO}
theorem bC.write (ok:bC P w H h) (mu:jK (H x)) (he:e=x∨H e=some (.own x)) (k:∀ b u,b≠e->h.get? b=some u->h'.get? b=some u) (heo:∃ u,h'.get? e=some u)
  (new:bJ P w (upd H x o') h' x o'):bC P w (upd H x o') h':=fun b u q=>by
 have nown:∀ c y,H c=some (.own y)->c≠x:=fun c y r z=>by subst z;rw [r] at mu;exact mu
 have ntup:∀ c xs,H c=some (.tup xs)->c≠x:=fun c xs r z=>by subst z;rw [r] at mu;exact mu
 by_cases hb:b=x
 ·subst hb;rw [af] at q;cases q;exact new
 ·rw [ay hb] at q;by_cases hbe:b=e
  ·have q':H b=some (.own x):=by
    rcases he with z | z
    ·exact absurd (hbe.trans z) hb
    ·rw [hbe];exact z
   rw [q] at q';cases q';obtain ⟨v,hv⟩:=heo;exact ⟨v,by rw [hbe];exact hv⟩
  ·refine (ok b u q).stay (fun c v hc r=>k c v ?_ r) (fun c r=>by rw [ay (nown c b r)];exact r) fun c xs r=>by rw [ay (ntup c xs r)];exact r
   rcases hc with rfl | hc
   ·exact hbe
   ·rintro rfl;rcases he with z | z
    ·exact nown c b hc z
    ·rw [hc] at z;cases z;exact hb rfl
end
structure Un (fs ex:List Addr) (H H':Hp) (h h':Heap):Prop where
 keep:∀ b o,h.get? b=some o->H b=none->b∉fs->b∉ex->h'.get? b=some o
 slot:∀ b o,h.get? b=some o->H b=none->b∈fs->b∉ex->∃ sl,h'.get? b=some { o with slots:=sl }
 free:∀ b o,h.get? b=some o->H b=none->b∉ex->H' b=none
 there:∀ b o,h.get? b=some o->b∉ex->∃ o',h'.get? b=some o'
 tups:∀ b xs,H b=some (.tup xs)->H' b=some (.tup xs)
 frzs:∀ b o u,H b=some (.frz o u)->H' b=some (.frz o u)
 tbls:∀ b ps,H b=some (.tbl ps)->∃ more,H' b=some (.tbl (ps++more))
section
variable {fs fs' ex ex':List Addr} {H H1 H2:Hp} {h h1 h2 h':Heap} {a x e:Addr} {o:HO}
theorem Un.any (u:Un fs ex H H1 h h1) {b:Addr} {ob:Obj} (q:h.get? b=some ob) (n:H b=none) (hx:b∉ex):∃ sl,h1.get? b=some { ob with slots:=sl }:=by
 by_cases hb:b∈fs
 ·exact u.slot b ob q n hb hx
 ·exact ⟨ob.slots,u.keep b ob q n hb hx⟩
theorem Un.kept (k:∀ b u,h.get? b=some u->h'.get? b=some u):Un fs ex H H h h' :=
 ⟨fun b ob q _ _ _=>k b ob q,fun b ob q _ _ _=>⟨ob.slots,k b ob q⟩,fun _ _ _ n _=>n,fun b ob q _=>⟨ob,k b ob q⟩,fun _ _ q=>q,fun _ _ _ q=>q,fun _ ps q=>⟨#[],by rw [q];simp⟩⟩
theorem Un.refl:Un fs ex H H h h:=Un.kept fun _ _ q=>q
theorem Un.laid (k:∀ b u,h.get? b=some u->h'.get? b=some u) (hp:h.objs.size<=a) (hn:H a=none):Un fs ex H (upd H a o) h h' where
 keep:=fun b u q _ _ _=>k b u q
 slot:=fun b u q _ _ _=>⟨u.slots,k b u q⟩
 free:=fun b u q n _=>by rw [ay (QC (QG (Ql q) hp))];exact n
 there:=fun b u q _=>⟨u,k b u q⟩
 tups:=fun b xs q=>by rw [ay (dG q hn)];exact q
 frzs:=fun b u xs q=>by rw [ay (dG q hn)];exact q
 tbls:=fun b ps q=>⟨#[],by rw [ay (dG q hn),q];simp⟩
theorem Un.write (mu:jK (H x)) (he:e=x∨H e=some (.own x)) (k:∀ b u,b≠e->h.get? b=some u->h'.get? b=some u) (heo:∃ u,h'.get? e=some u):Un fs ex H (upd H x o) h h':=by
 have hx:∀ b,H b=none->b≠x:=fun b n z=>by subst z;rw [n] at mu;exact mu
 have hb:∀ b,H b=none->b≠e:=fun b n z=>by
  subst z;rcases he with r | r
  ·exact hx b n r
  ·rw [n] at r;cases r
 have hm:∀ b u,H b=some u->¬ jK (some u)->b≠x:=fun b u q nm z=>by subst z;rw [q] at mu;exact nm mu
 refine ⟨fun b u q n _ _=>k b u (hb b n) q,fun b u q n _ _=>⟨u.slots,k b u (hb b n) q⟩,fun b u q n _=>by rw [ay (hx b n)];exact n,fun b u q _=>?_,
  fun b xs q=>by rw [ay (hm b _ q fun z=>z)];exact q,fun b u xs q=>by rw [ay (hm b _ q fun z=>z)];exact q,fun b ps q=>⟨#[],by rw [ay (hm b _ q fun z=>z),q];simp⟩⟩
 by_cases hbe:b=e
 ·subst hbe;exact heo
 ·exact ⟨u,k b u hbe q⟩
end
noncomputable def k6 (h:Heap) (H:Hp):List Addr:=(List.range h.objs.size).filter fun a=>(H a).isSome
noncomputable def fN (h:Heap) (H:Hp):Heap:=PySem.W.hideAll h (k6 h H)
theorem yo (h:Heap) (H:Hp):(fN h H).objs.size=h.objs.size:=PySem.W.hideAll_size _ _
theorem yp {h:Heap} {H:Hp} {b:Addr} {o:Obj} (e:h.get? b=some o) (n:H b=none):(fN h H).get? b=some o :=
 PySem.W.hideAll_get _ e fun hm=>by have q:(H b).isSome=true:=(List.mem_filter.mp hm).2;rw [n] at q;simp at q
theorem yq {h:Heap} {H:Hp} {b:Addr} {o:Obj} (e:(fN h H).get? b=some o):h.get? b=some o/\H b=none:=by
 have e':h.get? b=some o:=PySem.W.of_hideAll (k6 h H) e;refine ⟨e',?_⟩
 cases q:H b with
 | none=>rfl
 | some x =>
  have hm:b∈k6 h H:=List.mem_filter.mpr ⟨List.mem_range.mpr (Ql e'),by simp [q]⟩;have z:(fN h H).get? b=none:=PySem.W.hideAll_none (k6 h H) hm;rw [z] at e;cases e
structure Mod (K:PySem.W.Frag) (mg:Str->Option Value) (base:Heap):Prop where
 kin:K.In base
 glob:base.Ns mainGlobals mg
 blt:∃ mb,base.Ns builtinsNs mb/\∀ x:Str,x≠"__name__"->mb x=bootBuiltins x
 nolimit:base.NoLimit
structure Cx where
 prog:Program
 w:World
 K:PySem.W.Frag
 mg:Str->Option Value
 base:Heap
 A:Around
 N:List Str
 s₀:Shared
 H₀:Hp
 env:Env
 outer:List Env
 stack:List Env
 ex:List Addr
 fn:Str->Bool
 calm:Bool
 pn:List (Addr × Obj)
 xe:Value->Shared->Prop
noncomputable def dO (l:List Env):List Addr:=l.filterMap (·.frame)
noncomputable abbrev Cx.fs (X:Cx):List Addr:=dO X.outer
def nC (sc:Scope) (x:Str):Prop:=sc.names.lookup x=some .local∨sc.names.lookup x=some .cell∨sc.names.lookup x=some .free
def Loc (sc:Scope) (x:Str):Prop:=sc.names.lookup x=some .local∨sc.names.lookup x=some .cell
def Look (env:Env) (h:Heap) (m:Str->Option Value) (x:Str) (u:Value):Prop :=
 (env.kindOf x=some .local/\m x=some u)∨((env.kindOf x=some .cell∨env.kindOf x=some .free)/\∃ c,env.cells.lookup x=some c/\h.IsCell c (some u))
structure Cx.Ok (X:Cx):Prop where
 mod:Mod X.K X.mg X.base
 kind:X.env.scope.kind=.function
 glob:X.env.globals=mainGlobals
 blt:X.env.builtins=builtinsNs
 above:X.s₀.heap.objs.size<=X.env.locals
 inj:∀ x y c,X.env.cells.lookup x=some c->X.env.cells.lookup y=some c->x=y
 has:∀ x,(X.env.kindOf x=some .cell∨X.env.kindOf x=some .free)->∃ c,X.env.cells.lookup x=some c
 cab:∀ x c,X.fn x=true->X.env.cells.lookup x=some c->X.s₀.heap.objs.size<=c
 hd:X.calm=true->X.A.handled=none
 frames:X.A.frames=some X.stack
 stk:X.stack=X.outer∨(X.stack=X.env::X.outer/\X.env.frame=some X.env.locals)
 exf:∀ b∈X.ex,b≠X.env.locals/\∀ x c,X.env.cells.lookup x=some c->c≠b
 bs:∀ b o,X.base.get? b=some o->X.s₀.heap.get? b=some o/\X.H₀ b=none
 bsz:X.base.objs.size<=X.s₀.heap.objs.size
 noex:∀ b o,X.base.get? b=some o->b∉X.ex
 exfs:∀ b∈X.ex,b∉X.fs
 funs:X.s₀.heap.FunFrames X.base X.outer
 frf:∀ b∈X.fs,X.H₀ b=none
structure Inv (X:Cx) (Fd:List (Addr × Obj)) (σ:List (Option V)) (H:Hp) (s:Shared):Prop where
 ok:X.Ok
 os:s.os=X.s₀.os
 bare:AllBare s.gens
 base:Un X.fs X.ex X.H₀ H X.s₀.heap s.heap
 loc:∃ m,s.heap.Ns X.env.locals m/\∀ (i:Nat) (x:Str) (v:V),X.N[i]?=some x->σ[i]?=some (some v)->nC X.env.scope x->∃ u,RelV v u/\Look X.env s.heap m x u
 cell:∀ x c,X.env.cells.lookup x=some c->∃ v,s.heap.IsCell c v
 free:H X.env.locals=none
 freeC:∀ x c,X.env.cells.lookup x=some c->H c=none
 pin:∀ p∈X.pn++Fd,s.heap.get? p.1=some p.2/\H p.1=none/\p.1≠X.env.locals/\p.1∉X.fs/\∀ v,p.2.data≠.cell v
 hok:bC X.prog X.w H s.heap
 len:σ.length=X.N.length
section
variable {X:Cx} {Fd:List (Addr × Obj)} {σ:List (Option V)} {H H':Hp} {s:Shared} {h':Heap}
theorem Cx.Ok.nofr (ok:X.Ok) {b:Addr} {o:Obj} (e:X.base.get? b=some o):b∉X.fs:=fun hb=>by have:=(ok.funs.mem hb).1;rw [e] at this;cases this
theorem Inv.bs (I:Inv X Fd σ H s):∀ b o,X.base.get? b=some o->s.heap.get? b=some o/\H b=none:=fun b o e =>
 ⟨I.base.keep b o (I.ok.bs b o e).1 (I.ok.bs b o e).2 (I.ok.nofr e) (I.ok.noex b o e),I.base.free b o (I.ok.bs b o e).1 (I.ok.bs b o e).2 (I.ok.noex b o e)⟩
theorem Inv.bk (I:Inv X Fd σ H s):∀ b o,X.base.get? b=some o->s.heap.get? b=some o:=fun b o e=>(I.bs b o e).1
theorem Inv.mod (I:Inv X Fd σ H s):Mod X.K X.mg X.base:=I.ok.mod
theorem Inv.kIn (I:Inv X Fd σ H s):X.K.In s.heap:=I.ok.mod.kin.keeps I.bk
theorem Inv.lt (I:Inv X Fd σ H s):X.env.locals<s.heap.objs.size:=by obtain ⟨_,hn,_⟩:=I.loc;exact hn.lt
theorem Inv.sz (I:Inv X Fd σ H s):X.s₀.heap.objs.size<=s.heap.objs.size:=Qq I.ok.above (QP I.lt)
theorem Inv.nofs (I:Inv X Fd σ H s) {a:Addr} (h:s.heap.objs.size<=a):a∉X.fs:=fun hb=>by obtain ⟨_,o,ho,_⟩:=I.ok.funs.mem hb;exact absurd (QG (Ql ho) (Qq I.sz h)) (Nat.lt_irrefl _)
theorem Inv.cne (I:Inv X Fd σ H s):∀ x c,X.env.cells.lookup x=some c->c≠X.env.locals:=fun x c e z=>by obtain ⟨v,o,ho,hd⟩:=I.cell x c e;obtain ⟨m,⟨o',es,ep,ho',hd',_⟩,_⟩:=I.loc;rw [z,ho'] at ho;cases ho;rw [hd'] at hd;cases hd
theorem Inv.funs (I:Inv X Fd σ H s):s.heap.FunFrames X.base X.outer:=by
 have all:∀ (l:List Env),(∀ b∈dO l,b∈X.fs)->X.s₀.heap.FunFrames X.base l->s.heap.FunFrames X.base l:=by
  intro l
  induction l with
  | nil=>intro _ _;trivial
  | cons env r ih =>
   intro hs hl;obtain ⟨hk,⟨L,o,hf,hn,ho,hd⟩,hr⟩:=hl;have hL:L∈X.fs:=hs L (by unfold dO;rw [List.filterMap_cons,hf];exact QA);obtain ⟨sl,e⟩:=I.base.slot L o ho (I.ok.frf L hL) hL fun z=>I.ok.exfs L z hL;exact ⟨hk,⟨L,_,hf,hn,e,hd⟩,ih (fun b hb=>hs b (by unfold dO;rw [List.filterMap_cons,hf];exact Qw _ hb)) hr⟩
 exact all X.outer (fun _ hb=>hb) I.ok.funs
theorem Inv.stack (I:Inv X Fd σ H s):s.heap.FunFrames X.base X.stack:=by
 rcases I.ok.stk with e | ⟨e,hf⟩
 ·rw [e];exact I.funs
 ·rw [e];obtain ⟨m,hn,_⟩:=I.loc;refine .cons (by rw [I.ok.kind];decide) hf hn ?_ I.funs;exact Heap.get?_none_of_le (Qq I.ok.bsz I.ok.above)
theorem Inv.stkSub (I:Inv X Fd σ H s):∀ b∈dO X.stack,b∈X.env.locals::X.fs:=fun b hb=>by
 rcases I.ok.stk with e | ⟨e,hf⟩
 ·rw [e] at hb;exact Qw _ hb
 ·rw [e] at hb;unfold dO at hb;rw [List.filterMap_cons,hf] at hb;exact hb
theorem Inv.stkFree (I:Inv X Fd σ H s):∀ b∈dO X.stack,H b=none:=fun b hb=>by
 rcases Qm (I.stkSub b hb) with e | hb
 ·rw [e];exact I.free
 ·obtain ⟨_,o,ho,_⟩:=I.ok.funs.mem hb;exact I.base.free b o ho (I.ok.frf b hb) fun z=>I.ok.exfs b z hb
theorem Inv.step {g':Array GenState} {t':Nat} {d':Drawn} {ch:List Addr} (I:Inv X Fd σ H s)
  (hch:∀ b∈ch,(b∈X.ex∨X.s₀.heap.objs.size<=b)/\b≠X.env.locals/\(∀ x c,X.env.cells.lookup x=some c->c≠b)/\∀ p∈X.pn++Fd,p.1≠b)
  (keep:∀ b o,b≠X.env.locals->b∉X.fs->b∉ch->s.heap.get? b=some o->H b=none->h'.get? b=some o)
  (slot:∀ b o,b≠X.env.locals->b∈X.fs->b∉ch->s.heap.get? b=some o->H b=none->∃ sl,h'.get? b=some { o with slots:=sl }) (free:∀ b o,b∉ch->s.heap.get? b=some o->H b=none->H' b=none)
  (there:∀ b o,b∉ch->s.heap.get? b=some o->∃ o',h'.get? b=some o')
  (tups:∀ b xs,H b=some (.tup xs)->H' b=some (.tup xs)) (frzs:∀ b o u,H b=some (.frz o u)->H' b=some (.frz o u)) (tbls:∀ b ps,H b=some (.tbl ps)->∃ more,H' b=some (.tbl (ps++more)))
  (ns:∀ m,s.heap.Ns X.env.locals m->h'.Ns X.env.locals m) (hok:bC X.prog X.w H' h') (hg:AllBare g') :
  Inv X Fd σ H' { s with heap:=h',gens:=g',drawn:=d',toks:=t' }:=by
 have neL:∀ b o,X.s₀.heap.get? b=some o->b≠X.env.locals:=fun b o e=>QC (QG (Ql e) I.ok.above)
 have neC:∀ b o,X.s₀.heap.get? b=some o->b∉X.ex->b∉ch:=fun b o e hx hb=>by
  rcases (hch b hb).1 with z | z
  ·exact hx z
  ·exact absurd (QG (Ql e) z) (Nat.lt_irrefl _)
 have cellK:∀ x c,X.env.cells.lookup x=some c->∀ v,s.heap.IsCell c v->h'.IsCell c v:=fun x c e v ⟨o,ho,hd⟩=>by
  have nch:c∉ch:=fun z=>(hch c z).2.2.1 x c e rfl;by_cases hc:c∈X.fs
  ·obtain ⟨sl,q⟩:=slot c o (I.cne x c e) hc nch ho (I.freeC x c e);exact ⟨_,q,hd⟩
  ·exact ⟨o,keep c o (I.cne x c e) hc nch ho (I.freeC x c e),hd⟩
 refine ⟨I.ok,I.os,hg,⟨fun b o e n hb hx=>?_,fun b o e n hb hx=>?_,fun b o e n hx=>?_,fun b o e hx=>?_,fun b xs e=>tups b xs (I.base.tups b xs e),fun b o xs e=>frzs b o xs (I.base.frzs b o xs e),fun b ps e=>?_⟩,?_,fun x c e=>?_,?_,fun x c e=>?_,fun p hp=>?_,hok,I.len⟩
 ·exact keep b o (neL b o e) hb (neC b o e hx) (I.base.keep b o e n hb hx) (I.base.free b o e n hx)
 ·obtain ⟨sl,e1⟩:=I.base.slot b o e n hb hx;obtain ⟨sl',e2⟩:=slot b _ (neL b o e) hb (neC b o e hx) e1 (I.base.free b o e n hx);exact ⟨sl',e2⟩
 ·obtain ⟨o',e1⟩:=I.base.there b o e hx;exact free b o' (neC b o e hx) e1 (I.base.free b o e n hx)
 ·obtain ⟨o',e1⟩:=I.base.there b o e hx;exact there b o' (neC b o e hx) e1
 ·obtain ⟨m1,e1⟩:=I.base.tbls b ps e;obtain ⟨m2,e2⟩:=tbls b _ e1;exact ⟨m1++m2,by rw [e2,Array.append_assoc]⟩
 ·obtain ⟨m,hn,hl⟩:=I.loc;refine ⟨m,ns m hn,fun i x v e1 e2 e3=>?_⟩;obtain ⟨u,r,l⟩:=hl i x v e1 e2 e3;refine ⟨u,r,?_⟩
  rcases l with l | ⟨k,c,e,z⟩
  ·exact .inl l
  ·exact .inr ⟨k,c,e,cellK x c e _ z⟩
 ·obtain ⟨v,z⟩:=I.cell x c e;exact ⟨v,cellK x c e v z⟩
 ·obtain ⟨m,⟨o,_,_,ho,_⟩,_⟩:=I.loc;exact free _ o (fun z=>(hch _ z).2.1 rfl) ho I.free
 ·obtain ⟨v,o,ho,hd⟩:=I.cell x c e;exact free c o (fun z=>(hch c z).2.2.1 x c e rfl) ho (I.freeC x c e)
 ·obtain ⟨e,n,ne,nf,d⟩:=I.pin p hp;have nch:p.1∉ch:=fun z=>(hch p.1 z).2.2.2 p hp rfl;exact ⟨keep p.1 p.2 ne nf nch e n,free p.1 p.2 nch e n,ne,nf,d⟩
theorem Inv.un {t':Nat} (I:Inv X Fd σ H s) (u:Un X.fs [] H H' s.heap h') (hok:bC X.prog X.w H' h'):Inv X Fd σ H' { s with heap:=h',toks:=t' }:=by
 obtain ⟨m,⟨o,es,ep,ho,r⟩,_⟩:=id I.loc;obtain ⟨sl,hL⟩:=u.any ho I.free (by simp)
 exact I.step (g':=s.gens) (d':=s.drawn) (ch:=[]) (fun _ z=>nomatch z) (fun b o _ hb _ e n=>u.keep b o e n hb (by simp)) (fun b o _ hb _ e n=>u.slot b o e n hb (by simp)) (fun b o _ e n=>u.free b o e n (by simp)) (fun b o _ e=>u.there b o e (by simp)) u.tups u.frzs u.tbls (fun m' hm=>by
  obtain ⟨o',es',ep',ho',r'⟩:=hm;rw [ho] at ho';cases ho'
  exact ⟨_,es',ep',hL,r'⟩) hok I.bare
theorem Inv.call {g':Array GenState} {t':Nat} {d':Drawn} {ch:List Addr} (I:Inv X Fd σ H s) (u:Un (dO X.stack) ch H H' s.heap h') (hok:bC X.prog X.w H' h') (hg:AllBare g')
  (hch:∀ b∈ch,(b∈X.ex∨X.s₀.heap.objs.size<=b)/\b≠X.env.locals/\(∀ x c,X.env.cells.lookup x=some c->c≠b)/\∀ p∈X.pn++Fd,p.1≠b) :
  Inv X Fd σ H' { s with heap:=h',gens:=g',drawn:=d',toks:=t' }:=by
 obtain ⟨m,⟨o,es,ep,ho,r⟩,_⟩:=id I.loc;obtain ⟨sl,hL⟩:=u.any ho I.free fun z=>(hch _ z).2.1 rfl
 exact I.step (ch:=ch) hch (fun b o hL hb hc e n=>u.keep b o e n (fun z=>(Qm (I.stkSub b z)).elim hL hb) hc) (fun b o _ _ hc e n=>u.any e n hc) (fun b o hc e n=>u.free b o e n hc) (fun b o hc e=>u.there b o e hc) u.tups u.frzs u.tbls (fun m' hm=>by
  obtain ⟨o',es',ep',ho',r'⟩:=hm;rw [ho] at ho';cases ho'
  exact ⟨_,es',ep',hL,r'⟩) hok hg
theorem Inv.turned {t':Nat} {it:Addr} (I:Inv X Fd σ H s) (k:∀ b o,b≠it->s.heap.get? b=some o->h'.get? b=some o) (hn:H it=none) (hL:it≠X.env.locals)
  (h1:it∈X.ex∨X.s₀.heap.objs.size<=it) (h2:∀ x c,X.env.cells.lookup x=some c->c≠it) (h3:∀ p∈X.pn++Fd,p.1≠it):Inv X Fd σ H { s with heap:=h',toks:=t' }:=by
 have nit:∀ b u,H b=some u->b≠it:=fun b u e z=>by rw [z,hn] at e;cases e
 refine I.step (g':=s.gens) (d':=s.drawn) (ch:=[it]) (fun b hb=>?_) (fun b o _ _ hc e _=>k b o (fun z=>hc (by simp [z])) e) (fun b o _ _ hc e _=>⟨o.slots,k b o (fun z=>hc (by simp [z])) e⟩) (fun _ _ _ _ n=>n)
  (fun b o hc e=>⟨o,k b o (fun z=>hc (by simp [z])) e⟩) (fun _ _ e=>e) (fun _ _ _ e=>e) (fun b ps e=>⟨#[],by rw [e];simp⟩) (fun m hm=>?_) (fun b u e=>?_) I.bare
 ·have e:b=it:=by simpa using hb
  subst e;exact ⟨h1,hL,h2,h3⟩
 ·obtain ⟨o,es,ep,ho,r⟩:=hm;exact ⟨o,es,ep,k _ o (Ne.symm hL) ho,r⟩
 ·refine (I.hok b u e).stay (fun c v hc q=>k c v ?_ q) (fun _ q=>q) fun _ _ q=>q;rcases hc with z | z
  ·rw [z];exact nit b u e
  ·exact nit c _ z
theorem Inv.tok (I:Inv X Fd σ H s) (t:Nat):Inv X Fd σ H { s with toks:=t }:=I.un (h':=s.heap) (t':=t) Un.refl I.hok
theorem Inv.kept {t':Nat} (I:Inv X Fd σ H s) (k:∀ b u,s.heap.get? b=some u->h'.get? b=some u):Inv X Fd σ H { s with heap:=h',toks:=t' }:=I.un (Un.kept k) (I.hok.kept k)
theorem Inv.laid {a:Addr} {o:HO} {t':Nat} (I:Inv X Fd σ H s) (k:∀ b u,s.heap.get? b=some u->h'.get? b=some u) (hp:s.heap.objs.size<=a) (new:bJ X.prog X.w (upd H a o) h' a o) :
  Inv X Fd σ (upd H a o) { s with heap:=h',toks:=t' }:=I.un (Un.laid k hp (I.hok.fresh hp)) (I.hok.laid k hp new)
theorem Inv.write {x e:Addr} {o:HO} {t':Nat} (I:Inv X Fd σ H s) (mu:jK (H x)) (he:e=x∨H e=some (.own x)) (k:∀ b u,b≠e->s.heap.get? b=some u->h'.get? b=some u) (heo:∃ u,h'.get? e=some u)
  (new:bJ X.prog X.w (upd H x o) h' x o):Inv X Fd σ (upd H x o) { s with heap:=h',toks:=t' }:=I.un (Un.write mu he k heo) (I.hok.write mu he k heo new)
theorem Inv.pins_of {pins':List (Addr × Obj)} (I:Inv X Fd σ H s) (h:∀ p∈pins',s.heap.get? p.1=some p.2/\H p.1=none/\p.1≠X.env.locals/\p.1∉X.fs/\∀ v,p.2.data≠.cell v):Inv X pins' σ H s :=
 ⟨I.ok,I.os,I.bare,I.base,I.loc,I.cell,I.free,I.freeC,fun p hp=>(QK hp).elim (fun z=>I.pin p (List.mem_append_left _ z)) (h p),I.hok,I.len⟩
theorem ri {N:List Str} (hN:N.Nodup) {i j:Nat} {x:Str} (a:N[i]?=some x) (b:N[j]?=some x):i=j:=by obtain ⟨h1,e1⟩:=Qh a;obtain ⟨h2,e2⟩:=Qh b;exact (List.getElem_inj hN).mp (e1.trans e2.symm)
theorem rl {M:Model} {A:Around} {E:Value->Shared->Prop} {i:Nat} {x:Str} {v:V} {u:Value} {Q:Unit->Shared->Prop} (I:Inv X Fd σ H s) (hN:X.N.Nodup) (hi:X.N[i]?=some x) (hx:Loc X.env.scope x) (r:RelV v u)
  (h:∀ s',Inv X Fd (σ.set i (some v)) H s'->(∃ a,Heap.SameBut a s.heap s'.heap/\(a=X.env.locals∨X.env.cells.lookup x=some a))->Q () s') (hf:X.fn x=true∨X.env.scope.names.lookup x=some .local:=by first | exact .inl rfl | exact .inr rfl | assumption):wpAny M A (storeName X.env x u) Q E s:=by
 obtain ⟨m,hn,hl⟩:=id I.loc;have hcls:(X.env.scope.kind == .class||(X.env.scope.kind == .module&&X.env.locals != X.env.globals))=false:=by rw [I.ok.kind];rfl
 have hiσ:i<σ.length:=by rw [I.len];exact (Qh hi).1
 have cne:=I.cne
 have Iy:∀ {a:Addr} {h':Heap},(∃ o,s.heap.get? a=some o/\H a=none)->Heap.SameBut a s.heap h'->bC X.prog X.w H h':=fun {a h'} ha hs b ob e=>by
  obtain ⟨_,_,F0⟩:=ha;refine (I.hok b ob e).stay (fun c w' hc q=>(hs.2 c ?_).trans q) (fun _ q=>q) fun _ _ q=>q;rintro rfl;rcases hc with rfl | hc
  ·rw [F0] at e;cases e
  ·rw [F0] at hc;cases hc
 rcases hx with hk | hk
 ·refine wpAny_storeName_local hk hn (fun h' hn' hs=>?_) hcls;obtain ⟨oL,_,_,Ji,_⟩:=id hn;refine h _ ⟨I.ok,I.os,I.bare,⟨fun b o e n hb hx=>?_,fun b o e n hb hx=>?_,I.base.free,fun b o e hx=>?_,I.base.tups,I.base.frzs,I.base.tbls⟩,⟨_,hn',fun j y v' e1 e2 e3=>?_⟩,fun y c e=>?_,I.free,I.freeC,fun p hp=>?_,Iy ⟨oL,Ji,I.free⟩ hs,by simpa using I.len⟩ ⟨_,hs,.inl rfl⟩
  ·exact (hs.2 b (QC (QG (Ql e) I.ok.above))).trans (I.base.keep b o e n hb hx)
  ·obtain ⟨sl,e1⟩:=I.base.slot b o e n hb hx;exact ⟨sl,(hs.2 b (QC (QG (Ql e) I.ok.above))).trans e1⟩
  ·obtain ⟨o',e1⟩:=I.base.there b o e hx;exact ⟨o',(hs.2 b (QC (QG (Ql e) I.ok.above))).trans e1⟩
  ·by_cases hj:j=i
   ·subst hj;rw [hi] at e1;cases e1;rw [List.getElem?_set_self hiσ] at e2;cases e2;exact ⟨u,r,.inl ⟨hk,by simp⟩⟩
   ·rw [List.getElem?_set_ne (Ne.symm hj)] at e2;obtain ⟨u',r',q⟩:=hl j y v' e1 e2 e3;refine ⟨u',r',?_⟩
    rcases q with ⟨k,e⟩ | ⟨k,c,e,z⟩
    ·refine .inl ⟨k,?_⟩;have:y≠x:=fun e=>hj (ri hN e1 (e ▸ hi));simp [this,e]
    ·exact .inr ⟨k,c,e,z.sameBut hs (cne y c e)⟩
  ·obtain ⟨w',z⟩:=I.cell y c e;exact ⟨w',z.sameBut hs (cne y c e)⟩
  ·obtain ⟨e,n,ne,nf,d⟩:=I.pin p hp;exact ⟨(hs.2 p.1 ne).trans e,n,ne,nf,d⟩
 ·have hfn:X.fn x=true:=by
   rcases hf with z | z
   ·exact z
   ·rw [z] at hk;cases hk
  obtain ⟨c,hc⟩:=I.ok.has x (.inl hk);obtain ⟨w',z⟩:=I.cell x c hc;refine wpAny_storeName_cell I.ok.kind hk hc z (fun h' Jo hs=>?_);obtain ⟨oc,hoc,hocd⟩:=id z;refine h { s with heap:=h' } ⟨I.ok,I.os,I.bare,⟨fun b o e n hb hx=>?_,fun b o e n hb hx=>?_,I.base.free,fun b o e hx=>?_,I.base.tups,I.base.frzs,I.base.tbls⟩,⟨m,hn.sameBut hs (Ne.symm (cne x c hc)),fun j y v' e1 e2 e3=>?_⟩,fun y c' e=>?_,I.free,I.freeC,fun p hp=>?_,Iy ⟨oc,hoc,I.freeC x c hc⟩ hs,by simpa using I.len⟩ ⟨c,hs,.inr hc⟩
  ·exact (hs.2 b (QC (QG (Ql e) (I.ok.cab x c hfn hc)))).trans (I.base.keep b o e n hb hx)
  ·obtain ⟨sl,e1⟩:=I.base.slot b o e n hb hx;exact ⟨sl,(hs.2 b (QC (QG (Ql e) (I.ok.cab x c hfn hc)))).trans e1⟩
  ·obtain ⟨o',e1⟩:=I.base.there b o e hx;exact ⟨o',(hs.2 b (QC (QG (Ql e) (I.ok.cab x c hfn hc)))).trans e1⟩
  ·by_cases hj:j=i
   ·subst hj;rw [hi] at e1;cases e1;rw [List.getElem?_set_self hiσ] at e2;cases e2;exact ⟨u,r,.inr ⟨.inl hk,c,hc,Jo⟩⟩
   ·rw [List.getElem?_set_ne (Ne.symm hj)] at e2;obtain ⟨u',r',q⟩:=hl j y v' e1 e2 e3;refine ⟨u',r',?_⟩
    rcases q with q | ⟨k,c',e,z'⟩
    ·exact .inl q
    ·refine .inr ⟨k,c',e,z'.sameBut hs ?_⟩;rintro rfl;exact hj (ri hN e1 (I.ok.inj _ _ _ e hc ▸ hi))
  ·by_cases hcc:c'=c
   ·subst hcc;exact ⟨_,Jo⟩
   ·obtain ⟨w2,z2⟩:=I.cell y c' e;exact ⟨w2,z2.sameBut hs hcc⟩
  ·obtain ⟨e,n,ne,nf,d⟩:=I.pin p hp;refine ⟨(hs.2 p.1 ?_).trans e,n,ne,nf,d⟩;intro q;rw [q,hoc] at e;have q':oc=p.2:=Qp e;exact d w' (by rw [<- q'];exact hocd)
theorem rm {M:Model} {A:Around} {E:Value->Shared->Prop} {i:Nat} {x:Str} {v:V} {u:Value} {Q:Unit->Shared->Prop} (I:Inv X Fd σ H s) (hN:X.N.Nodup) (hi:X.N[i]?=some x) (hx:Loc X.env.scope x) (r:RelV v u)
  (h:∀ s',Inv X Fd (σ.set i (some v)) H s'->Q () s') (hf:X.fn x=true∨X.env.scope.names.lookup x=some .local:=by first | exact .inl rfl | exact .inr rfl | assumption):wpAny M A (storeName X.env x u) Q E s :=
 rl I hN hi hx r (fun s' I' _=>h s' I') hf
theorem Inv.call' {s':Shared} {ch:List Addr} (I:Inv X Fd σ H s) (ho:s'.os=s.os) (u:Un (dO X.stack) ch H H' s.heap s'.heap) (hok:bC X.prog X.w H' s'.heap) (hg:AllBare s'.gens)
  (hch:∀ b∈ch,(b∈X.ex∨X.s₀.heap.objs.size<=b)/\b≠X.env.locals/\(∀ x c,X.env.cells.lookup x=some c->c≠b)/\∀ p∈X.pn++Fd,p.1≠b):Inv X Fd σ H' s':=by
 obtain ⟨h',g',d',t',o'⟩:=s';have e:o'=s.os:=ho;subst e;exact I.call (g':=g') (t':=t') (d':=d') u hok hg hch
end
abbrev XK:=Value->Option Addr->Hp->Prop
abbrev St:=List (Option V)
abbrev VK:=V->Hp->Prop
abbrev TE:=St->Hp->VK->Prop
abbrev TT:=St->Hp->(Bool->Hp->Prop)->Prop
abbrev TA:=St->Hp->(List V->Hp->Prop)->Prop
structure cE where
 nx:St->Hp->Prop
 rt:VK
 bk:St->Hp->Prop:=fun _ _=>False
 ct:St->Hp->Prop:=fun _ _=>False
abbrev TS:=cE->St->Hp->Prop
def EP (X:Cx) (Fd:List (Addr × Obj)) (σ:St) (Q:VK) (u:Value) (s':Shared):Prop:=∃ v H',Inv X Fd σ H' s'/\RelV v u/\Q v H'
def TP (X:Cx) (Fd:List (Addr × Obj)) (σ:St) (Q:Bool->Hp->Prop) (b:Bool) (s':Shared):Prop:=∃ H',Inv X Fd σ H' s'/\Q b H'
def AP (X:Cx) (Fd:List (Addr × Obj)) (σ:St) (Q:List V->Hp->Prop) (us:List Value) (s':Shared):Prop:=∃ vs H',Inv X Fd σ H' s'/\aD vs us/\Q vs H'
def SP (X:Cx) (Fd:List (Addr × Obj)) (D:cE) (f:Flow) (s':Shared):Prop :=
 match f with
 | .next=>∃ σ' H',Inv X Fd σ' H' s'/\D.nx σ' H'
 | .brk=>∃ σ' H',Inv X Fd σ' H' s'/\D.bk σ' H'
 | .cont=>∃ σ' H',Inv X Fd σ' H' s'/\D.ct σ' H'
 | .ret u=>∃ v σ' H',Inv X Fd σ' H' s'/\RelV v u/\D.rt v H'
def PE (X:Cx) (e:Expr) (t:TE):Prop :=
 ∀ (Fd:List (Addr × Obj)) (s:Shared) (σ:St) (H:Hp) (Q:VK),Inv X Fd σ H s->t σ H Q->wpAny (model X.prog X.w) X.A (eval e X.env) (EP X Fd σ Q) X.xe s
def PT (X:Cx) (e:Expr) (t:TT):Prop :=
 ∀ (Fd:List (Addr × Obj)) (s:Shared) (σ:St) (H:Hp) (Q:Bool->Hp->Prop),Inv X Fd σ H s->t σ H Q->wpAny (model X.prog X.w) X.A (isTrue e X.env (eval e X.env)) (TP X Fd σ Q) X.xe s
def PW (X:Cx) (e:Expr) (t:TT):Prop :=
 ∀ (Iu:Sem Value) (Fd:List (Addr × Obj)) (s:Shared) (σ:St) (H:Hp) (Q:Bool->Hp->Prop),Inv X Fd σ H s->t σ H Q->wpAny (model X.prog X.w) X.A (isTrue e X.env Iu) (TP X Fd σ Q) X.xe s
theorem PW.pt {X:Cx} {e:Expr} {t:TT} (h:PW X e t):PT X e t:=h _
def PA (X:Cx) (es:List Expr) (t:TA):Prop :=
 ∀ (pos:Pos) (Fd:List (Addr × Obj)) (s:Shared) (σ:St) (H:Hp) (Q:List V->Hp->Prop),Inv X Fd σ H s->t σ H Q->wpAny (model X.prog X.w) X.A (spliced (backTo pos (starEach es X.env))) (AP X Fd σ Q) X.xe s
def PS (X:Cx) (st:Stmt) (t:TS):Prop :=
 ∀ (Fd:List (Addr × Obj)) (s:Shared) (σ:St) (H:Hp) (D:cE),Inv X Fd σ H s->t D σ H->wpAny (model X.prog X.w) X.A (exec st X.env) (SP X Fd D) X.xe s
def dP (X:Cx) (st:List Stmt) (t:TS):Prop :=
 ∀ (Fd:List (Addr × Obj)) (s:Shared) (σ:St) (H:Hp) (D:cE),Inv X Fd σ H s->t D σ H->wpAny (model X.prog X.w) X.A (execs st X.env) (SP X Fd D) X.xe s
theorem az {α:Type} {t:Sem α} {Q Q':α->Shared->Prop} {M:Model} {A:Around} {E:Value->Shared->Prop} {s:Shared} (h:wpAny M A t Q E s) (hQ:∀ a s,Q a s->Q' a s):wpAny M A t Q' E s:=QR h hQ fun _ _ x=>x
section
variable {X:Cx}
inductive k7 (i:Nat) (σ:St) (H:Hp) (Q:VK):Prop
 | mk:∀ v,σ[i]?=some (some v)->Q v H->k7 i σ H Q
def tC (v:V):TE:=fun _ H Q=>Q v H
theorem yr {i:Nat} {x:Str} {pos:Pos} (hN:X.N[i]?=some x) (hv:nC X.env.scope x) (hd:(x == ("__debug__":Str))=false:=by decide) (hcd:(x == ("__classdict__":Str))=false:=by decide):PE X (.Name x pos) (k7 i):=by
 intro Fd s σ H Q I h;obtain ⟨v,e,h⟩:=h;obtain ⟨m,hn,hl⟩:=I.loc;obtain ⟨u,r,l⟩:=hl i x v hN e hv
 have fin:EP X Fd σ Q u s:=⟨v,H,I,r,h⟩
 rcases l with ⟨hk,hm⟩ | ⟨hk,c,hc,hcell⟩
 ·exact wpAny_Name (wpAny_loadName_local I.ok.kind hk hn hm fin) hd
 ·rcases hk with hk | hk
  ·exact wpAny_Name (wpAny_loadName_cell I.ok.kind hk hc hcell fin) hd
  ·exact wpAny_Name (wpAny_loadName_free I.ok.kind hk hc hcell fin hcd) hd
theorem ah {i j pos}:PE X (.Constant (.int i) j pos) (tC (.int i)):=fun _ _ _ H _ I h=>wpAny_Constant_int ⟨.int i,H,I.tok _,⟨_,rfl⟩,h⟩
theorem gP {b j pos}:PE X (.Constant (.bool b) j pos) (tC (.bl b)):=fun _ _ _ H _ I h=>Constant_bool ⟨.bl b,H,I,rfl,h⟩
theorem k8 {j pos}:PE X (.Constant .none j pos) (tC .non):=fun _ _ _ H _ I h=>Constant_none ⟨.non,H,I,rfl,h⟩
theorem ap {x j pos}:PE X (.Constant (.str x) j pos) (tC (.str x)):=fun _ _ _ H _ I h=>Calls.Constant_str ⟨.str x,H,I.tok _,⟨_,rfl⟩,h⟩
def Gl (X:Cx) (x:Str):Prop:=X.env.kindOf x=some .globalImplicit
theorem jL {E:Value->Shared->Prop} {Fd:List (Addr × Obj)} {s:Shared} {σ:St} {H:Hp} {x:Str} {u:Value} {pos:Pos} {Q:Value->Shared->Prop} (I:Inv X Fd σ H s) (hg:Gl X x) (hm:X.mg x=some u) (h:Q u s)
  (hd:(x == ("__debug__":Str))=false:=by decide):wpAny (model X.prog X.w) X.A (eval (.Name x pos) X.env) Q E s :=
 Calls.Name_function_global I.ok.kind hg (Calls.loadGlobal_global (by rw [I.ok.glob];exact I.mod.glob.keeps I.bk) hm h) hd
theorem iJ {E:Value->Shared->Prop} {Fd:List (Addr × Obj)} {s:Shared} {σ:St} {H:Hp} {x:Str} {u:Value} {pos:Pos} {Q:Value->Shared->Prop} (I:Inv X Fd σ H s) (hg:Gl X x) (hm:X.mg x=none) (hv:bootBuiltins x=some u) (h:Q u s)
  (hn:x≠"__name__":=by decide) (hd:(x == ("__debug__":Str))=false:=by decide):wpAny (model X.prog X.w) X.A (eval (.Name x pos) X.env) Q E s:=by
 obtain ⟨mb,h1,h2⟩:=I.mod.blt;exact Calls.Name_function_global I.ok.kind hg (Calls.loadGlobal_builtin (by rw [I.ok.glob];exact I.mod.glob.keeps I.bk) hm (by rw [I.ok.blt];exact h1.keeps I.bk) ((h2 x hn).trans hv) h) hd
theorem yt {x:Str} {v:V} {u:Value} {pos:Pos} (hg:Gl X x) (hm:X.mg x=some u) (r:RelV v u) (hd:(x == ("__debug__":Str))=false:=by decide):PE X (.Name x pos) (tC v) :=
 fun _ _ _ H _ I h=>jL I hg hm ⟨v,H,I,r,h⟩ hd
theorem gQ {x:Str} {v:V} {u:Value} {pos:Pos} (hg:Gl X x) (hm:X.mg x=none) (hv:bootBuiltins x=some u) (r:RelV v u) (hn:x≠"__name__":=by decide) (hd:(x == ("__debug__":Str))=false:=by decide):PE X (.Name x pos) (tC v) :=
 fun _ _ _ H _ I h=>iJ I hg hm hv ⟨v,H,I,r,h⟩ hn hd
variable {a b:Expr} {ta tb:TE} {pos:Pos}
def PC (X:Cx) (op:CmpOp) (a b:Expr) (t:TE):Prop :=
 ∀ (Fd:List (Addr × Obj)) (s:Shared) (σ:St) (H:Hp) (Q:VK),Inv X Fd σ H s->t σ H Q ->
  wpAny (model X.prog X.w) X.A (eval a X.env) (fun v s₁=>wpAny (model X.prog X.w) X.A (eval b X.env) (fun u s₂=>wpAny (model X.prog X.w) X.A (compareOp op v u) (EP X Fd σ Q) X.xe s₂) X.xe s₁) X.xe s
theorem rn (b:Expr) {op:CmpOp} (h:op≠.In) (h2:op≠.NotIn):behindInMarks op b=false:=by
 have e1:(op == CmpOp.In)=false:=by cases op<;>first | rfl | exact absurd rfl h
 have e2:(op == CmpOp.NotIn)=false:=by cases op<;>first | rfl | exact absurd rfl h2
 cases b<;>simp [behindInMarks,e1,e2]
def yu (ta:TE):TE:=fun σ H Q=>ta σ H fun x H1=>Q (.bl (decide (x=.non))) H1
def yv (ta:TE):TE:=fun σ H Q=>ta σ H fun x H1=>Q (.bl (!decide (x=.non))) H1
theorem RelV.none_iff {x:V} {v:Value} (r:RelV x v):(v == Value.none)=decide (x=.non):=by
 cases x with
 | non=>cases r;rfl
 | bl _=>cases r;rfl
 | int _=>obtain ⟨t,rfl⟩:=r;rfl
 | str _=>obtain ⟨t,rfl⟩:=r;rfl
 | byt _=>obtain ⟨t,rfl⟩:=r;rfl
 | flt _=>obtain ⟨t,rfl⟩:=r;rfl
 | ref _=>cases r;rfl
 | ty _=>cases r;rfl
theorem yw {j Gm} (ha:PE X a ta):PC X .Is a (.Constant .none j Gm) (yu ta):=by intro Fd s σ H Q I h;refine az (ha Fd s σ H _ I h) fun v s1 hsl1=>?_;obtain ⟨x,H1,I1,r1,q1⟩:=hsl1;exact Constant_none (is_none_gen ⟨.bl _,H1,I1,by rw [r1.none_iff];rfl,q1⟩)
theorem nE {j Gm} (ha:PE X a ta):PC X .IsNot a (.Constant .none j Gm) (yv ta):=by intro Fd s σ H Q I h;refine az (ha Fd s σ H _ I h) fun v s1 hsl2=>?_;obtain ⟨x,H1,I1,r1,q1⟩:=hsl2;exact Constant_none (isnot_none_gen ⟨.bl _,H1,I1,by rw [r1.none_iff];rfl,q1⟩)
inductive eD (Q:Bool->Hp->Prop) (x:V) (H:Hp):Prop
 | mk:∀ c,x=.bl c->Q c H->eD Q x H
def tB (t:TE):TT:=fun σ H Q=>t σ H (eD Q)
theorem yx {op:CmpOp} {t:TE} (h:PC X op a b t) (h1:behindInMarks op b=false:=by first | exact rn _ (by decide) (by decide) | rfl):PE X (.Compare a [op] [b] pos) t:=fun Fd s σ H Q I hw=>wpAny_Compare1 (h Fd s σ H Q I hw) h1
theorem k9 {op:CmpOp} {t:TE} (h:PC X op a b t) (h1:behindInMarks op b=false:=by first | exact rn _ (by decide) (by decide) | rfl):PT X (.Compare a [op] [b] pos) (tB t):=by intro Fd s σ H Q I hw;refine wpAny_isTrue_Compare1 (az (h Fd s σ H _ I hw) fun v s1 h1=>az h1 fun u s2 h2=>az h2 fun c s3 hsl3=>?_) h1;obtain ⟨x,H1,I1,r1,q1⟩:=hsl3;obtain ⟨d,rfl,q⟩:=q1;cases r1;exact wpAny_truthy_bool ⟨H1,I1,q⟩
theorem fc {e:Expr} {t:TE} (h:PE X e t) (he:∀ Iu,isTrue e X.env Iu=(do let v <- Iu;standAt e.pos;holding [v] (truthy v)):=by intro _;rfl):PT X e (tB t):=by intro Fd s σ H Q I hw;refine isTrue_plain (az (h Fd s σ H _ I hw) fun v s1 hsl4=>?_) (he _);obtain ⟨x,H1,I1,r1,q1⟩:=hsl4;obtain ⟨d,rfl,q⟩:=q1;cases r1;exact wpAny_truthy_bool ⟨H1,I1,q⟩
variable {tA tB':TT} {FE:List Expr}
def yy (t u:TT):TT:=fun σ H Q=>t σ H fun c H1=>if c=true then u σ H1 Q else Q false H1
def yz (t u:TT):TT:=fun σ H Q=>t σ H fun c H1=>if c=true then Q true H1 else u σ H1 Q
def yA (t:TT):TT:=fun σ H Q=>t σ H fun c H1=>Q (!c) H1
theorem lc (ha:PT X a tA):PW X (.BoolOp .And [a] pos) tA:=by
 intro wh Fd s σ H Q I h;refine isTrue_and (az (ha Fd s σ H Q I h) fun c s1 e=>?_)
 cases c with
 | true=>exact isTrue_and_nil e
 | false=>exact e
theorem jM (ha:PT X a tA):PW X (.BoolOp .Or [a] pos) tA:=by
 intro wh Fd s σ H Q I h;refine isTrue_or (az (ha Fd s σ H Q I h) fun c s1 e=>?_)
 cases c with
 | false=>exact isTrue_or_nil e
 | true=>exact e
theorem jO (ha:PT X a tA) (hb:PW X (.BoolOp .And (b::FE) pos) tB'):PW X (.BoolOp .And (a::b::FE) pos) (yy tA tB'):=by
 intro wh Fd s σ H Q I h;refine isTrue_and (az (ha Fd s σ H _ I h) fun c s1 hsl5=>?_);obtain ⟨H1,I1,q1⟩:=hsl5
 cases c with
 | true=>exact hb wh Fd s1 σ H1 Q I1 q1
 | false=>exact ⟨H1,I1,q1⟩
theorem gf (ha:PT X a tA) (hb:PW X (.BoolOp .Or (b::FE) pos) tB'):PW X (.BoolOp .Or (a::b::FE) pos) (yz tA tB'):=by
 intro wh Fd s σ H Q I h;refine isTrue_or (az (ha Fd s σ H _ I h) fun c s1 hsl6=>?_);obtain ⟨H1,I1,q1⟩:=hsl6
 cases c with
 | true=>exact ⟨H1,I1,q1⟩
 | false=>exact hb wh Fd s1 σ H1 Q I1 q1
theorem lg (ha:PT X a tA):PT X (.UnaryOp .Not a pos) (yA tA):=by intro Fd s σ H Q I h;exact isTrue_not (ha Fd s σ H (fun c H1=>Q (!c) H1) I h)
def yB (ta tb:TE):TE:=fun σ H Q=>ta σ H fun x H1=>∃ c,x=.bl c/\if c=true then tb σ H1 Q else Q (.bl false) H1
theorem yC {op} {t:TE} (h:PE X a t):PE X (.BoolOp op [a] pos) t:=fun Fd s σ H Q I hw=>BoolOp_one (h Fd s σ H Q I hw)
theorem yD (ha:PE X a ta) (hb:PE X (.BoolOp .And (b::FE) pos) tb):PE X (.BoolOp .And (a::b::FE) pos) (yB ta tb):=by
 intro Fd s σ H Q I h;refine BoolOp_and (az (ha Fd s σ H _ I h) fun v s1 hsl7=>?_);obtain ⟨x,H1,I1,r1,q1⟩:=hsl7;obtain ⟨c,rfl,q1⟩:=q1;cases r1;refine wpAny_truthy_bool ?_
 cases c with
 | true=>exact hb Fd s1 σ H1 Q I1 q1
 | false=>exact ⟨.bl false,H1,I1,rfl,q1⟩
def yE (t:TT) (ta tb:TE):TE:=fun σ H Q=>t σ H fun c H1=>if c=true then ta σ H1 Q else tb σ H1 Q
theorem lh {c:Expr} (hc:PT X c tA) (ha:PE X a ta) (hb:PE X b tb):PE X (.IfExp c a b pos) (yE tA ta tb):=by
 intro Fd s σ H Q I h;refine wpAny_IfExp (az (hc Fd s σ H _ I h) fun d s1 hsl8=>?_);obtain ⟨H1,I1,q1⟩:=hsl8
 cases d with
 | true=>exact ha Fd s1 σ H1 Q I1 q1
 | false=>exact hb Fd s1 σ H1 Q I1 q1
end
def ak (K:PySem.W.Frag) (H:Hp) (a:Addr) (xs:List V):Prop :=
 Rd H a (.lst xs) ∨
  ∃ (o:Obj) (its:Array Value) (n:Nat),K.lookup a=some o/\o.cls=.type "list"/\o.dict=none/\o.data=.seq its n/\its.size<=sizeLine/\aD xs its.toList
def au (K:PySem.W.Frag) (H:Hp) (a:Addr) (xs:List V):Prop :=
 Rd H a (.tup xs) ∨
  ∃ (o:Obj) (its:Array Value) (n:Nat),K.lookup a=some o/\o.cls=.type "tuple"/\o.data=.seq its n/\its.size<=sizeLine/\aD xs its.toList
noncomputable def yF:Value->Option V
 | .none=>some .non
 | .bool b=>some (.bl b)
 | .int i _=>some (.int i)
 | .str x _=>some (.str x)
 | .bytes b _=>some (.byt b)
 | .float b _=>some (.flt b)
 | .ref a=>some (.ref a)
 | .type n=>some (.ty n)
 | _=>none
theorem RelV.abs {x:V} {u:Value} (r:RelV x u):yF u=some x:=by
 cases x with
 | non=>cases r;rfl
 | bl _=>cases r;rfl
 | int _=>obtain ⟨t,rfl⟩:=r;rfl
 | str _=>obtain ⟨t,rfl⟩:=r;rfl
 | byt _=>obtain ⟨t,rfl⟩:=r;rfl
 | flt _=>obtain ⟨t,rfl⟩:=r;rfl
 | ref _=>cases r;rfl
 | ty _=>cases r;rfl
theorem RelV.inj {x y:V} {u:Value} (r:RelV x u) (q:RelV y u):x=y:=Qp (r.abs.symm.trans q.abs)
theorem aD.inj:∀ {xs ys:List V} {us:List Value},aD xs us->aD ys us->xs=ys
 | _,_,_,.nil,.nil=>rfl
 | _,_,_,.cons r t,.cons r' t'=>by rw [r.inj r',aD.inj t t']
section
variable {X:Cx} {Fd:List (Addr × Obj)} {σ:St} {H:Hp} {s:Shared} {a:Addr} {xs ys:List V}
theorem ak.of {K:PySem.W.Frag} (h:H a=some (.lst xs)):ak K H a xs:=.inl (.inl h)
theorem au.of {K:PySem.W.Frag} (h:H a=some (.tup xs)):au K H a xs:=.inl (.inl h)
theorem Inv.list (I:Inv X Fd σ H s) (h:ak X.K H a xs):∃ its:List Value,aD xs its/\PlainL s.heap a its.toArray/\xs.length<=sizeLine:=by
 rcases h with h | ⟨o,its,n,hk,hc,hd,hs,hz,r⟩
 ·obtain ⟨z,its,n,r,e⟩:=h.ok I.hok;exact ⟨its,r,⟨_,n,e,rfl,rfl,rfl⟩,z⟩
 ·refine ⟨its.toList,r,⟨o,n,I.kIn a o hk,hc,hd,by simpa using hs⟩,?_⟩;have e:=r.length;simp only [Qv] at e;lia
theorem Inv.tuple (I:Inv X Fd σ H s) (h:au X.K H a xs):∃ its:List Value,aD xs its/\IsTup s.heap a its.toArray/\xs.length<=sizeLine:=by
 rcases h with h | ⟨o,its,n,hk,hc,hs,hz,r⟩
 ·obtain ⟨z,its,r,p,_⟩:=h.ok I.hok;exact ⟨its,r,p,z⟩
 ·refine ⟨its.toList,r,⟨o,I.kIn a o hk,hc,n,by simpa using hs⟩,?_⟩;have e:=r.length;simp only [Qv] at e;lia
theorem Inv.list_inj (I:Inv X Fd σ H s) (h:ak X.K H a xs) (h':ak X.K H a ys):xs=ys:=by
 obtain ⟨its,r,⟨o,n,e,_,_,d⟩,_⟩:=I.list h;obtain ⟨its',r',⟨o',n',e',_,_,d'⟩,_⟩:=I.list h';rw [e] at e';cases e';rw [d] at d';injection d' with d1 _;have:its=its':=by simpa using congrArg Array.toList d1
 subst this;exact r.inj r'
theorem Inv.tuple_inj (I:Inv X Fd σ H s) (h:au X.K H a xs) (h':au X.K H a ys):xs=ys:=by
 obtain ⟨its,r,⟨o,e,_,n,d⟩,_⟩:=I.tuple h;obtain ⟨its',r',⟨o',e',_,n',d'⟩,_⟩:=I.tuple h';rw [e] at e';cases e';rw [d] at d';injection d' with d1 _;have:its=its':=by simpa using congrArg Array.toList d1
 subst this;exact r.inj r'
end
noncomputable abbrev Cx.wish (X:Cx) (E:Value->Shared->Prop):Cx:={ X with xe:=E }
noncomputable abbrev Cx.nox (X:Cx):Cx:=X.wish fun _ _=>False
theorem Cx.Ok.wish {X:Cx} (ok:X.Ok) (E:Value->Shared->Prop):(X.wish E).Ok :=
 ⟨ok.mod,ok.kind,ok.glob,ok.blt,ok.above,ok.inj,ok.has,ok.cab,ok.hd,ok.frames,ok.stk,ok.exf,ok.bs,ok.bsz,ok.noex,ok.exfs,ok.funs,ok.frf⟩
theorem Cx.Ok.unwish {X:Cx} {E:Value->Shared->Prop} (ok:(X.wish E).Ok):X.Ok :=
 ⟨ok.mod,ok.kind,ok.glob,ok.blt,ok.above,ok.inj,ok.has,ok.cab,ok.hd,ok.frames,ok.stk,ok.exf,ok.bs,ok.bsz,ok.noex,ok.exfs,ok.funs,ok.frf⟩
section
variable {X:Cx} {Fd:List (Addr × Obj)} {σ:St} {H:Hp} {s:Shared} {E:Value->Shared->Prop}
theorem Inv.wish (I:Inv X Fd σ H s) (E:Value->Shared->Prop):Inv (X.wish E) Fd σ H s:=⟨I.ok.wish E,I.os,I.bare,I.base,I.loc,I.cell,I.free,I.freeC,I.pin,I.hok,I.len⟩
theorem Inv.unwish (I:Inv (X.wish E) Fd σ H s):Inv X Fd σ H s:=⟨I.ok.unwish,I.os,I.bare,I.base,I.loc,I.cell,I.free,I.freeC,I.pin,I.hok,I.len⟩
theorem SP.unwish {D:cE} {f:Flow} {s':Shared} (h:SP (X.wish E) Fd D f s'):SP X Fd D f s':=by
 cases f with
 | next=>obtain ⟨σ',H',I,q⟩:=h;exact ⟨σ',H',I.unwish,q⟩
 | brk=>obtain ⟨σ',H',I,q⟩:=h;exact ⟨σ',H',I.unwish,q⟩
 | cont=>obtain ⟨σ',H',I,q⟩:=h;exact ⟨σ',H',I.unwish,q⟩
 | ret u=>obtain ⟨v,σ',H',I,r,q⟩:=h;exact ⟨v,σ',H',I.unwish,r,q⟩
theorem dP.nox {st:List Stmt} {t:TS} (h:dP X.nox st t):dP X st t:=fun Fd s σ H D I hw =>
 QR (h Fd s σ H D (I.wish _) hw) (fun _ _ q=>q.unwish) fun _ _ z=>False.elim z
end
section
variable {X:Cx} {st:Stmt} {FE:List Stmt} {t u:TS} {e:Expr} {te:TE} {pos:Pos}
def rp:TS:=fun D σ H=>D.nx σ H
def gR (t u:TS):TS:=fun D σ H=>t { D with nx:=u D } σ H
theorem bb:dP X [] rp:=fun _ _ σ H _ I h=>wpAny_execs_nil ⟨σ,H,I,h⟩
theorem ai (h1:PS X st t) (h2:dP X FE u):dP X (st::FE) (gR t u):=by
 intro Fd s σ H D I h;refine wpAny_execs_cons (az (h1 Fd s σ H { D with nx:=u D } I h) fun f s1 q=>?_)
 cases f with
 | next =>
  obtain ⟨σ',H',I',q⟩:=q;exact h2 Fd s1 σ' H' D I' q
 | ret v=>exact q
 | brk=>exact q
 | cont=>exact q
theorem aj (h1:PS X st t):dP X [st] t:=by
 intro Fd s σ H D I h;refine wpAny_execs_cons (az (h1 Fd s σ H D I h) fun f s1 q=>?_)
 cases f with
 | next=>exact wpAny_execs_nil q
 | ret v=>exact q
 | brk=>exact q
 | cont=>exact q
theorem Inv.quiet {Fd:List (Addr × Obj)} {σ:St} {H:Hp} {s:Shared} (I:Inv X Fd σ H s):interactive X.env=false:=by simp [interactive,I.ok.kind]
def yG (te:TE):TS:=fun D σ H=>te σ H fun _ H1=>D.nx σ H1
theorem bO (he:PE X e te) (hs:swapsWith e none pos.line X.env=pure false:=by rfl):PS X (.Expr e pos) (yG te):=by intro Fd s σ H D I h;exact wpAny_Expr_any (az (he Fd s σ H _ I h) fun v s1 hsl11=>by obtain ⟨x,H1,I1,r1,q1⟩:=hsl11;exact ⟨σ,H1,I1,q1⟩) I.quiet hs
def nF (te:TE):TS:=fun D σ H=>te σ H D.rt
theorem aH (he:PE X e te):PS X (.Return (some e) pos) (nF te):=by intro Fd s σ H D I h;exact wpAny_Return_some (az (he Fd s σ H _ I h) fun v s1 hsl12=>by obtain ⟨x,H1,I1,r1,q1⟩:=hsl12;exact ⟨x,σ,H1,I1,r1,q1⟩)
def nG (c:TT) (t u:TS):TS:=fun D σ H=>c σ H fun b H1=>if b=true then t D σ H1 else u D σ H1
theorem aX {c:Expr} {a b:List Stmt} {tc:TT} (hc:PT X c tc) (ha:dP X a t) (hb:dP X b u):PS X (.If c a b pos) (nG tc t u):=by
 intro Fd s σ H D I h;refine wpAny_If (az (hc Fd s σ H _ I h) fun d s1 hsl13=>?_);obtain ⟨H1,I1,q1⟩:=hsl13
 cases d with
 | true=>exact ha Fd s1 σ H1 D I1 q1
 | false=>exact hb Fd s1 σ H1 D I1 q1
end
abbrev TG:=V->St->Hp->(St->Hp->Prop)->Prop
abbrev gg:=List V->St->Hp->(St->Hp->Prop)->Prop
def PG (X:Cx) (target:Expr) (t:TG):Prop :=
 ∀ (Fd:List (Addr × Obj)) (s:Shared) (σ:St) (H:Hp) (v:V) (u:Value) (Q:St->Hp->Prop),Inv X Fd σ H s->RelV v u->t v σ H Q ->
  wpAny (model X.prog X.w) X.A (assign target X.env u) (fun _ s'=>∃ σ' H',Inv X Fd σ' H' s'/\Q σ' H') X.xe s
def iK (X:Cx) (ts:List Expr) (t:gg):Prop :=
 ∀ (Fd:List (Addr × Obj)) (s:Shared) (σ:St) (H:Hp) (vs:List V) (us:List Value) (Q:St->Hp->Prop),Inv X Fd σ H s->aD vs us->t vs σ H Q ->
  wpAny (model X.prog X.w) X.A (assignInOrder ((assignEach ts X.env).map (·.2)) us) (fun _ s'=>∃ σ' H',Inv X Fd σ' H' s'/\Q σ' H') X.xe s
section
variable {X:Cx} {pos:Pos}
def aK (i:Nat):TG:=fun v σ H Q=>Q (σ.set i (some v)) H
theorem a8 {i:Nat} {x:Str} (hN:X.N.Nodup) (hi:X.N[i]?=some x) (hx:Loc X.env.scope x) (hf:X.fn x=true∨X.env.scope.names.lookup x=some .local:=by first | exact .inl rfl | exact .inr rfl | assumption):PG X (.Name x pos) (aK i):=by intro Fd s σ H v u Q I r h;exact wpAny_assign_Name (rm I hN hi hx r (fun s' I'=>⟨_,H,I',h⟩) hf)
def rq:gg:=fun vs σ H Q=>vs=[]/\Q σ H
inductive nH (t:TG) (u:gg) (vs:List V) (σ:St) (H:Hp) (Q:St->Hp->Prop):Prop
 | mk:∀ v r,vs=v::r->(t v σ H fun σ' H'=>u r σ' H' Q)->nH t u vs σ H Q
theorem cQ:iK X [] rq:=by intro Fd s σ H vs us Q I r h;obtain ⟨e,h⟩:=h;subst e;cases r;exact assignInOrder_nil ⟨σ,H,I,h⟩
theorem bm {e:Expr} {es:List Expr} {t:TG} {u:gg} (h1:PG X e t) (h2:iK X es u)
  (hs:(assignEach (e::es) X.env).map (·.2)=assign e X.env::(assignEach es X.env).map (·.2):=by rfl):iK X (e::es) (nH t u):=by
 intro Fd s σ H vs us Q I r h;obtain ⟨v,vr,e1,h⟩:=h;subst e1
 cases r with
 | cons r rr =>
  rw [hs];refine assignInOrder_cons (az (h1 Fd s σ H _ _ _ I r h) fun _ s1 hsl14=>?_);obtain ⟨σ1,H1,I1,q1⟩:=hsl14;exact h2 Fd s1 σ1 H1 _ _ Q I1 rr q1
inductive ll (K:PySem.W.Frag) (n:Nat) (t:gg) (v:V) (σ:St) (H:Hp) (Q:St->Hp->Prop):Prop
 | mk:∀ a xs,v=.ref a->au K H a xs->xs.length=n->t xs σ H Q->ll K n t v σ H Q
theorem rA {es:List Expr} {k:Nat} {t:gg} {n:Nat} (hc:X.calm=true) (h:iK X es t)
  (hn:(assignEach es X.env).length=n:=by rfl) (Jc:(assignEach es X.env).findIdx? (·.1)=none:=by rfl):PG X (.Tuple es k pos) (ll X.K n t):=by
 intro Fd s σ H v u Q I r hw;obtain ⟨a,xs,e1,hq,hl,hw⟩:=hw;subst e1;cases r;obtain ⟨its,rv,ht,hz⟩:=I.tuple hq;refine assign_Tuple_tuple (I.ok.hd hc) ht (by simp [hn,<- hl,rv.length]) Jc fun h' hx=>?_;have I1:Inv X Fd σ H { s with heap:=h' }:=I.kept (t':=s.toks) fun b o e=>hx b o (QC (Ql e)) e;exact h Fd _ σ H xs _ Q I1 (by simpa using rv) hw
def ln (te:TE) (g:TG):TS:=fun D σ H=>te σ H fun x H1=>g x σ H1 D.nx
theorem yH {tg e:Expr} {te:TE} {g:TG} (he:PE X e te) (hg:PG X tg g) (hs:swapsWithSole [tg] e pos.line X.env=pure false:=by rfl) (hw:swappedStores [tg] e X.env=pure none:=by rfl)
  (h1:(assignEach [tg] X.env).map (·.2)=[assign tg X.env]:=by rfl):PS X (.Assign [tg] e pos) (ln te g):=by
 intro Fd s σ H D I h;refine wpAny_Assign_stores (az (he Fd s σ H _ I h) fun v s1 hsl15=>?_) hs hw;obtain ⟨x,H1,I1,r1,q1⟩:=hsl15;rw [h1];exact az (hg Fd s1 σ H1 x v _ I1 r1 q1) fun _ s2 q=>q
theorem aL {i:Nat} {x:Str} {e:Expr} {te:TE} {Gm:Pos} (hN:X.N.Nodup) (hi:X.N[i]?=some x) (hx:Loc X.env.scope x) (he:PE X e te) (hs:swapsWith e (some (.Name x Gm)) pos.line X.env=pure false:=by rfl) (hf:X.fn x=true∨X.env.scope.names.lookup x=some .local:=by first | exact .inl rfl | exact .inr rfl | assumption) :
  PS X (.Assign [.Name x Gm] e pos) (ln te (aK i)):=by
 intro Fd s σ H D I h;refine wpAny_Assign_Name (az (he Fd s σ H _ I h) fun v s1 hsl16=>?_) hs;obtain ⟨y,H1,I1,r1,q1⟩:=hsl16;exact rm I1 hN hi hx r1 (fun s2 I2=>⟨_,H1,I2,q1⟩) hf
def nI (c:TT) (tb:TS):TS:=fun D σ H=>∃ W:Nat->St->Hp->Prop,(∃ m,W m σ H)/\∀ m σ H,W m σ H ->
 c σ H fun b H1=>if b=true then ∃ N:St->Hp->Prop,(∀ σ' H',N σ' H'->∃ m',m'<m/\W m' σ' H')/\tb { D with nx:=N,ct:=N,bk:=D.nx } σ H1 else D.nx σ H1
theorem yI {c:Expr} {body:List Stmt} {tc:TT} {tb:TS} (hp:PassesOwn (model X.prog X.w) X.A X.env X.xe) (hc:PT X c tc) (hb:dP X body tb):PS X (.While c body [] pos) (nI tc tb):=by
 intro Fd s σ H D I h;obtain ⟨W,⟨m0,w0⟩,turn⟩:=h;refine wpAny_While (codeAny_whileLoop (fun n s'=>∃ σ' H',Inv X Fd σ' H' s'/\W n σ' H') ?_ m0 ⟨σ,H,I,w0⟩);rintro n s1 ⟨σ1,H1,I1,w1⟩;refine wpAny_passesOwn hp (az (hc Fd s1 σ1 H1 _ I1 (turn n σ1 H1 w1)) fun b s2 hsl17=>?_);obtain ⟨H2,I2,q2⟩:=hsl17
 cases b with
 | true =>
  obtain ⟨N,hN,q2⟩:=q2;rw [if_pos rfl];refine wpAny_passesOwn hp (az (hb Fd s2 σ1 H2 _ I2 q2) fun f s3 q3=>?_)
  cases f with
  | next =>
   obtain ⟨σ3,H3,I3,n3⟩:=q3;obtain ⟨m',hm,w3⟩:=hN σ3 H3 n3;exact ⟨m',hm,σ3,H3,I3,w3⟩
  | cont =>
   obtain ⟨σ3,H3,I3,n3⟩:=q3;obtain ⟨m',hm,w3⟩:=hN σ3 H3 n3;exact ⟨m',hm,σ3,H3,I3,w3⟩
  | brk=>exact q3
  | ret v=>exact q3
 | false =>
  rw [if_neg Qt];exact wpAny_execs_nil ⟨σ1,H2,I2,q2⟩
end
structure It where
 go:Nat->Hp->Prop
 yld:Nat->Hp->V->Hp->Prop
 stop:Nat->Hp->Prop
def cR (X:Cx) (Fd:List (Addr × Obj)) (H:Hp) (b:Addr):Prop :=
 H b=none/\b≠X.env.locals/\b∉X.fs/\(b∈X.ex∨X.s₀.heap.objs.size<=b)/\(∀ x c,X.env.cells.lookup x=some c->c≠b)/\∀ p∈X.pn++Fd,p.1≠b
theorem Inv.fpOk {X:Cx} {Fd:List (Addr × Obj)} {σ:St} {H H':Hp} {s:Shared} {b:Addr} (I:Inv X Fd σ H s) (hb:s.heap.objs.size<=b) (hn:H' b=none):cR X Fd H' b:=by
 refine ⟨hn,Nat.ne_of_gt (QG I.lt hb),I.nofs hb,.inr (Qq I.sz hb),fun x c e z=>?_,fun p hp z=>?_⟩
 ·obtain ⟨v,q⟩:=I.cell x c e;exact absurd (QG q.lt (by rw [z];exact hb)) (Nat.lt_irrefl _)
 ·exact absurd (QG (Ql (I.pin p hp).1) (by rw [z];exact hb)) (Nat.lt_irrefl _)
structure eE (P:Program) (w:World) (K:PySem.W.Frag) (tg:Expr) (J:It) (fp:List Addr) (it:Addr) (tn:Nat->Heap->Prop):Prop where
 mem:it∈fp
 obj:∀ i h,tn i h->∀ b∈fp,∃ o,h.get? b=some o/\∀ v,o.data≠.cell v
 keep:∀ i h h',tn i h->(∀ b∈fp,∀ o,h.get? b=some o->h'.get? b=some o)->tn i h'
 item:∀ (X:Cx),X.prog=P->X.w=w->X.K=K->X.calm=true->∀ (i:Nat) (Fd:List (Addr × Obj)) (s:Shared) (σ:St) (H:Hp) (E:Value->Shared->Prop),Inv X Fd σ H s->(∀ b∈fp,cR X Fd H b)->tn i s.heap->J.go i H ->
  wpAny (model P w) X.A (pyNext (.ref it)) (fun r s1=>∃ u,r=some u /\
   wpAny (model P w) X.A (letOwnedTupleGo tg (.ref it) u) (fun _ s2=>∃ x H',Inv X Fd σ H' s2/\RelV x u/\J.yld i H x H'/\tn (i+1) s2.heap/\∀ b∈fp,H' b=none) E s1) E s
 done:∀ (X:Cx),X.prog=P->X.w=w->X.K=K->X.calm=true->∀ (i:Nat) (Fd:List (Addr × Obj)) (s:Shared) (σ:St) (H:Hp) (E:Value->Shared->Prop),Inv X Fd σ H s->(∀ b∈fp,cR X Fd H b)->tn i s.heap->J.stop i H ->
  wpAny (model P w) X.A (pyNext (.ref it)) (fun r s1=>r=none/\Inv X Fd σ H s1) E s
 self:∀ (A:Around) (i:Nat) (s:Shared) (Q:Value->Shared->Prop) (E:Value->Shared->Prop),tn i s.heap->Q (.ref it) s->wpAny (model P w) A (pyIter (.ref it)) Q E s
abbrev TI:=St->Hp->(It->Hp->Prop)->Prop
def rB (X:Cx) (Fd:List (Addr × Obj)) (σ:St) (tg:Expr) (R:It->Hp->Prop) (itv:Value) (s2:Shared):Prop :=
 ∃ (it:Addr) (fp:List Addr) (tn:Nat->Heap->Prop) (J:It) (H':Hp),itv=.ref it/\Inv X Fd σ H' s2/\eE X.prog X.w X.K tg J fp it tn/\tn 0 s2.heap/\(∀ b∈fp,cR X Fd H' b)/\R J H'
def PI (X:Cx) (tg iter:Expr) (wi:TI):Prop :=
 ∀ (Fd:List (Addr × Obj)) (s:Shared) (σ:St) (H:Hp) (R:It->Hp->Prop),Inv X Fd σ H s->wi σ H R ->
  wpAny (model X.prog X.w) X.A (eval iter X.env) (fun v s1=>wpAny (model X.prog X.w) X.A (pyIter v) (rB X Fd σ tg R) X.xe s1) X.xe s
theorem lq {M:Model} {A:Around} {E:Value->Shared->Prop} {s:Shared} {tg:Expr} {it:Addr} {u:Value} {o:Obj} {n:String} {vs:Array Value} {Q:Unit->Shared->Prop} (ho:s.heap.get? it=some o) (hc:o.cls=.type n) (hd:o.data=.fields vs)
  (hn:["enumerate","zip","dict_itemiterator","dict_reverseitemiterator","odict_iterator","itertools.zip_longest","itertools.pairwise"].contains n=false) (hQ:Q () s):wpAny M A (letOwnedTupleGo tg (.ref it) u) Q E s:=by
 unfold letOwnedTupleGo
 cases tg<;>first
  | exact Qf hQ
  | (cases u<;>first
    | exact Qf hQ
    | (refine Qb (wpAny_load ho ?_)
       rw [hc,hd];show wpAny M A (if (["enumerate","zip","dict_itemiterator","dict_reverseitemiterator","odict_iterator","itertools.zip_longest","itertools.pairwise"].contains n&&vs[0]? == some (rawInt _))=true then _ else _) Q E s;rw [if_neg (by intro h;rw [hn,Bool.false_and] at h;cases h)]
       exact Qf hQ))
noncomputable def dZ (K:PySem.W.Frag) (a:Addr):It :=
 ⟨fun i H=>∃ xs x,ak K H a xs/\xs[i]?=some x,fun i H x H'=>H'=H/\∀ xs,ak K H a xs->xs[i]?=some x,fun i H=>∃ xs,ak K H a xs/\xs.length<=i⟩
noncomputable def eF (K:PySem.W.Frag) (a:Addr):It :=
 ⟨fun i H=>∃ xs x,au K H a xs/\xs[i]?=some x,fun i H x H'=>H'=H/\∀ xs,au K H a xs->xs[i]?=some x,fun i H=>∃ xs,au K H a xs/\xs.length<=i⟩
noncomputable def fO (lo:Int) (n:Nat):It:=⟨fun i _=>i<n,fun i H x H'=>H'=H/\x=.int (lo+i),fun i _=>n<=i⟩
theorem yJ {P:Program} {w:World} {K:PySem.W.Frag} {tg:Expr} (a it:Addr):eE P w K tg (dZ K a) [it] it (fun i h=>h.IsListIter it a i) where
 mem:=by simp
 obj:=fun i h st b hb=>by
  have e:b=it:=by simpa using hb
  subst e;obtain ⟨o,e,c,d⟩:=st;exact ⟨o,e,fun v z=>by rw [d] at z;cases z⟩
 keep:=fun i h h' st k=>st.at fun o e=>k it (by simp) o e
 item:=by intro X hP hw hK hc i Fd s σ H E I hf st hg;subst hP hw hK;obtain ⟨xs,x,hq,hx⟩:=hg;obtain ⟨its,rv,p,hz⟩:=I.list hq;obtain ⟨u,hu,ru⟩:=rv.get hx;obtain ⟨f0,f1,f2,f3,f4,f5⟩:=hf it (by simp);refine wpAny_pyNext_list_item st p.isList (x:=u) (by simpa using hu) fun h' FL sb=>?_;have I1:Inv X Fd σ H { s with heap:=h' }:=I.turned (t':=s.toks) (fun b o hb e=>(sb.2 b hb).trans e) f0 f1 f3 f4 f5;obtain ⟨o,e,c,d⟩:=id FL;exact ⟨u,rfl,lq (s:={ s with heap:=h' }) e c d (by decide) ⟨x,H,I1,ru,⟨rfl,fun ys hy=>by rw [I.list_inj hy hq];exact hx⟩,FL,fun b hb=>(hf b hb).1⟩⟩
 done:=by
  intro X hP hw hK hc i Fd s σ H E I hf st hg;subst hP hw hK;obtain ⟨xs,hq,hx⟩:=hg;obtain ⟨its,rv,p,hz⟩:=I.list hq;obtain ⟨f0,f1,f2,f3,f4,f5⟩:=hf it (by simp);have hl:=rv.length
  exact wpAny_pyNext_list_end (I.ok.hd hc) st p.isList (by simp;lia) fun h' eb=>⟨rfl,I.turned (t':=s.toks) (fun b o hb e=>eb b o hb e) f0 f1 f3 f4 f5⟩
 self:=fun _ _ _ _ _ st h=>wpAny_pyIter_listiter st h
theorem yK {P:Program} {w:World} {K:PySem.W.Frag} {tg:Expr} (a it:Addr):eE P w K tg (eF K a) [it] it (fun i h=>h.IsTupleIter it a i) where
 mem:=by simp
 obj:=fun i h st b hb=>by
  have e:b=it:=by simpa using hb
  subst e;obtain ⟨o,e,c,d⟩:=st;exact ⟨o,e,fun v z=>by rw [d] at z;cases z⟩
 keep:=fun i h h' st k=>st.at fun o e=>k it (by simp) o e
 item:=by intro X hP hw hK hc i Fd s σ H E I hf st hg;subst hP hw hK;obtain ⟨xs,x,hq,hx⟩:=hg;obtain ⟨its,rv,p,hz⟩:=I.tuple hq;obtain ⟨u,hu,ru⟩:=rv.get hx;obtain ⟨f0,f1,f2,f3,f4,f5⟩:=hf it (by simp);refine wpAny_pyNext_tuple_item st (show s.heap.IsTuple a its.toArray from p) (x:=u) (by simpa using hu) fun h' FL sb=>?_;have I1:Inv X Fd σ H { s with heap:=h' }:=I.turned (t':=s.toks) (fun b o hb e=>(sb.2 b hb).trans e) f0 f1 f3 f4 f5;obtain ⟨o,e,c,d⟩:=id FL;exact ⟨u,rfl,lq (s:={ s with heap:=h' }) e c d (by decide) ⟨x,H,I1,ru,⟨rfl,fun ys hy=>by rw [I.tuple_inj hy hq];exact hx⟩,FL,fun b hb=>(hf b hb).1⟩⟩
 done:=by
  intro X hP hw hK hc i Fd s σ H E I hf st hg;subst hP hw hK;obtain ⟨xs,hq,hx⟩:=hg;obtain ⟨its,rv,p,hz⟩:=I.tuple hq;obtain ⟨f0,f1,f2,f3,f4,f5⟩:=hf it (by simp);have hl:=rv.length
  exact wpAny_pyNext_tuple_end (I.ok.hd hc) st (show s.heap.IsTuple a its.toArray from p) (by simp;lia) fun h' eb=>⟨rfl,I.turned (t':=s.toks) (fun b o hb e=>eb b o hb e) f0 f1 f3 f4 f5⟩
 self:=fun _ _ _ _ _ st h=>wpAny_pyIter_tupleiter st h
theorem yL {P:Program} {w:World} {K:PySem.W.Frag} {tg:Expr} (it:Addr) (lo:Int) (n:Nat):eE P w K tg (fO lo n) [it] it (fun i h=>IsRangeIter h it (lo+(i:Nat)*1) ((n:Int)-(i:Nat)) 1) where
 mem:=by simp
 obj:=fun i h st b hb=>by
  have e:b=it:=by simpa using hb
  subst e
  exact ⟨_,st,fun v z=>by
   have z':Data.fields _=Data.cell v:=z
   cases z'⟩
 keep:=fun i h h' st k=>k it (by simp) _ st
 item:=by intro X hP hw hK hc i Fd s σ H E I hf st hg;subst hP hw hK;obtain ⟨f0,f1,f2,f3,f4,f5⟩:=hf it (by simp);have W:=Walks.range (prog:=X.prog) (w:=X.w) (I.ok.hd hc) it lo 1 n;refine W.item i s _ _ hg st fun v h' tk hv FL kk=>?_;obtain ⟨t,rfl⟩:=hv;have I1:Inv X Fd σ H { s with heap:=h',toks:=tk }:=I.turned (fun b o hb e=>kk b o (by simpa using hb) e) f0 f1 f3 f4 f5;refine ⟨_,rfl,lq (s:={ s with heap:=h',toks:=tk }) (n:="range_iterator") FL rfl rfl (by decide) ⟨.int (lo+i),H,I1,⟨t,?_⟩,⟨rfl,rfl⟩,FL,fun b hb=>(hf b hb).1⟩⟩;rw [Int.mul_one]
 done:=by
  intro X hP hw hK hc i Fd s σ H E I hf st hg;subst hP hw hK;obtain ⟨f0,f1,f2,f3,f4,f5⟩:=hf it (by simp)
  exact wpAny_pyNext_range_end (I.ok.hd hc) st (by have:n<=i:=hg;lia) fun h' eb=>⟨rfl,I.turned (t':=s.toks) (fun b o hb e=>eb b o hb e) f0 f1 f3 f4 f5⟩
 self:=fun _ _ _ _ _ st h=>wpAny_pyIter_rangeiter st h
section
variable {X:Cx} {tg:Expr}
def yM (K:PySem.W.Frag) (tl:TE):TI:=fun σ H R=>tl σ H fun x H1=>∃ a,x=.ref a/\(∃ xs,ak K H1 a xs)/\R (dZ K a) H1
def yN (K:PySem.W.Frag) (tl:TE):TI:=fun σ H R=>tl σ H fun x H1=>∃ a,x=.ref a/\(∃ xs,au K H1 a xs)/\R (eF K a) H1
theorem yO {Fd:List (Addr × Obj)} {σ:St} {H:Hp} {s:Shared} {R:It->Hp->Prop} {E:Value->Shared->Prop} {lo hi:Int} {t u v:Tok} {tk:Nat} (I:Inv X Fd σ H s) (h1:-(2 ^ 62)<=lo) (h2:lo<2 ^ 62) (h3:-(2 ^ 62)<=hi) (h4:hi<2 ^ 62)
  (q:R (fO lo (hi-lo).toNat) H):wpAny (model X.prog X.w) X.A (pyIter (.ref s.heap.objs.size)) (rB X Fd σ tg R) E { s with heap:=s.heap.push { cls:=.type "range",data:=.fields #[.int lo t,.int hi u,.int 1 v] },toks:=tk }:=by
 refine wpAny_pyIter_range (IsRange.new ..) (small_one h1 h2 h3 h4) ?_;have I1:Inv X Fd σ H { s with heap:=s.heap.push { cls:=.type "range",data:=.fields #[.int lo t,.int hi u,.int 1 v] },toks:=tk }:=I.kept fun b o e=>Qd _ e
 refine ⟨(s.heap.push { cls:=.type "range",data:=.fields #[.int lo t,.int hi u,.int 1 v] }).objs.size,[(s.heap.push { cls:=.type "range",data:=.fields #[.int lo t,.int hi u,.int 1 v] }).objs.size],_,_,H,rfl,
  I1.kept (t':=tk) fun b o e=>Qd _ e,yL _ lo (hi-lo).toNat,?_,fun b hb=>?_,q⟩
 ·have e1:lo+((0:Nat):Int)*1=lo:=by simp
  have e2:(((hi-lo).toNat:Nat):Int)-((0:Nat):Int)=Builtin.Range.rangeSize lo hi 1:=by rw [rangeSize_one];split<;>lia
  show IsRangeIter _ _ (lo+((0:Nat):Int)*1) ((((hi-lo).toNat:Nat):Int)-((0:Nat):Int)) 1;rw [e1,e2];exact Qn _ rfl
 ·have e:b=(s.heap.push { cls:=.type "range",data:=.fields #[.int lo t,.int hi u,.int 1 v] }).objs.size:=by simpa using hb
  subst e;exact I1.fpOk (Qc _) (I1.hok.fresh (Qc _))
def yP (ta:TA):TI:=fun σ H R=>ta σ H fun vs H1=>∃ j:Int,vs=[.int j]/\-(2 ^ 62)<=j/\j<2 ^ 62/\R (fO 0 j.toNat) H1
theorem iL {a:Expr} {ta:TA} {p pos:Pos} (hg:Gl X "range") (hm:X.mg "range"=none) (ha:PA X [a] ta) (hs:starEach [a] X.env=[(false,eval a X.env)]:=by rfl):PI X tg (.Call (.Name "range" p) [a] [] pos) (yP ta):=by
 intro Fd s σ H R I h;refine Call_ (iJ I hg hm boot_range (PyProof.Rows.callWith_type1 (az (ha pos Fd s σ H _ I h) fun us s1 hsl18=>?_) hs rfl));obtain ⟨vs,H1,I1,r1,q1⟩:=hsl18;obtain ⟨j,e,q1,q2,q⟩:=q1;subst e
 cases r1 with
 | cons r rr =>
  cases rr;obtain ⟨t,rfl⟩:=r;exact call_range_1 (yO I1 (by lia) (by lia) q1 q2 (by simpa using q))
def nJ (wi:TI) (g:TG) (tb:TS):TS:=fun D σ H=>wi σ H fun J H1=>∃ W:Nat->Nat->St->Hp->Prop,(∃ m,W 0 m σ H1)/\∀ i m σ H,W i m σ H ->
 (J.stop i H/\D.nx σ H)∨(J.go i H/\∃ N:St->Hp->Prop,(∀ σ' H',N σ' H'->∃ m',m'<m/\W (i+1) m' σ' H')/\∀ x H',J.yld i H x H'->g x σ H' fun σ2 H2=>tb { D with nx:=N,ct:=N,bk:=D.nx } σ2 H2)
noncomputable def gT (fp:List Addr) (h:Heap):List (Addr × Obj):=fp.filterMap fun b=>(h.get? b).map fun o=>(b,o)
theorem gh {fp:List Addr} {h:Heap} {b:Addr} {o:Obj} (hb:b∈fp) (e:h.get? b=some o):(b,o)∈gT fp h:=List.mem_filterMap.mpr ⟨b,hb,by rw [e];rfl⟩
theorem rC {fp:List Addr} {h:Heap} {p:Addr × Obj} (hp:p∈gT fp h):p.1∈fp/\h.get? p.1=some p.2:=by
 obtain ⟨b,hb,e⟩:=List.mem_filterMap.mp hp
 cases q:h.get? b with
 | none=>rw [q] at e;cases e
 | some o =>
  rw [q] at e;have e':(b,o)=p:=Qp e;subst e';exact ⟨hb,q⟩
theorem Inv.pinned {Fd:List (Addr × Obj)} {σ:St} {H:Hp} {s:Shared} {fp:List Addr} (I:Inv X Fd σ H s) (hf:∀ b∈fp,cR X Fd H b) (ho:∀ b∈fp,∃ o,s.heap.get? b=some o/\∀ v,o.data≠.cell v):Inv X (Fd++gT fp s.heap) σ H s :=
 I.pins_of fun p hp=>(QK hp).elim (fun z=>I.pin p (Qx _ z)) fun z=>by obtain ⟨hb,e⟩:=rC z;obtain ⟨f0,f1,f2,_⟩:=hf p.1 hb;obtain ⟨o,e',d⟩:=ho p.1 hb;rw [e] at e';cases e';exact ⟨e,f0,f1,f2,d⟩
theorem Inv.unpinned {Fd pl:List (Addr × Obj)} {σ:St} {H:Hp} {s:Shared} (I:Inv X (Fd++pl) σ H s):Inv X Fd σ H s:=I.pins_of fun p hp=>I.pin p (Qx _ (List.mem_append_left _ hp))
theorem cY {iter:Expr} {body:List Stmt} {wi:TI} {g:TG} {tb:TS} {pos:Pos} (hp:PassesOwn (model X.prog X.w) X.A X.env X.xe) (hc:X.calm=true) (hi:PI X tg iter wi) (hg:PG X tg g) (hb:dP X body tb)
  (hs:∀ x,foldedSetIterable iter X.env x=pure x:=by intro _;rfl):PS X (.For tg iter body [] pos) (nJ wi g tb):=by
 intro Fd s σ H D I h;refine wpAny_For (az (hi Fd s σ H _ I h) fun v s1 h1=>az h1 fun itv s2 h2=>?_) hs;obtain ⟨it,fp,tn,J,H2,e,I2,T,IA,f2,W,⟨m0,w0⟩,turn⟩:=h2;subst e
 have stat:∀ {H':Hp},(∀ b∈fp,H' b=none)->∀ b∈fp,cR X Fd H' b:=fun hn b hb=>⟨hn b hb,(f2 b hb).2⟩
 refine codeAny_forLoop_any (fun n s'=>∃ i σ' H',Inv X Fd σ' H' s'/\tn i s'.heap/\(∀ b∈fp,H' b=none)/\W i n σ' H') ?_ m0 ⟨0,σ,H2,I2,IA,fun b hb=>(f2 b hb).1,w0⟩;rintro n s3 ⟨i,σ3,H3,I3,st3,fr3,w3⟩
 rcases turn i n σ3 H3 w3 with ⟨stop,qn⟩ | ⟨go,N,hN,step⟩
 ·refine wpAny_passesOwn hp (az (T.done X rfl rfl rfl hc i Fd s3 σ3 H3 X.xe I3 (stat fr3) st3 stop) fun r s4 hsl19=>?_);obtain ⟨hr,I4⟩:=hsl19;subst hr;exact wpAny_execs_nil ⟨σ3,H3,I4,qn⟩
 ·refine wpAny_passesOwn hp (az (T.item X rfl rfl rfl hc i Fd s3 σ3 H3 X.xe I3 (stat fr3) st3 go) fun r s4 hsl20=>?_);obtain ⟨u,hr,h4⟩:=hsl20;subst hr;refine wpAny_passesOwn hp (az h4 fun _ s5 hsl21=>?_);obtain ⟨x,H5,I5,r5,y5,st5,fr5⟩:=hsl21;have I5':=I5.pinned (stat fr5) (T.obj _ _ st5);refine wpAny_passesOwn hp (az (hg _ s5 σ3 H5 x u _ I5' r5 (step x H5 y5)) fun _ s6 hsl22=>?_);obtain ⟨σ6,H6,I6,q6⟩:=hsl22;refine wpAny_passesOwn hp (az (hb _ s6 σ6 H6 _ I6 q6) fun f s7 q7=>?_);have again:∀ {σ7:St} {H7:Hp},Inv X (Fd++gT fp s5.heap) σ7 H7 s7->N σ7 H7->∃ m,m<n/\∃ i σ' H',Inv X Fd σ' H' s7/\tn i s7.heap/\(∀ b∈fp,H' b=none)/\W i m σ' H':=fun {σ7 H7} I7 n7=>by obtain ⟨m',hm,w7⟩:=hN σ7 H7 n7;refine ⟨m',hm,i+1,σ7,H7,I7.unpinned,T.keep _ _ _ st5 fun b hb o e=>(I7.pin (b,o) (Qx _ (Qx _ (gh hb e)))).1,fun b hb=>?_,w7⟩;obtain ⟨o,e,d⟩:=T.obj _ _ st5 b hb;exact (I7.pin (b,o) (Qx _ (Qx _ (gh hb e)))).2.1
  cases f with
  | next=>obtain ⟨σ7,H7,I7,n7⟩:=q7;exact again I7 n7
  | cont=>obtain ⟨σ7,H7,I7,n7⟩:=q7;exact again I7 n7
  | brk=>obtain ⟨σ7,H7,I7,q7⟩:=q7;exact ⟨σ7,H7,I7.unpinned,q7⟩
  | ret v=>obtain ⟨x7,σ7,H7,I7,r7,q7⟩:=q7;exact ⟨x7,σ7,H7,I7.unpinned,r7,q7⟩
end
theorem rD {K:PySem.W.Frag} {a:Addr} {xs:List V} {g:TG} {tb:TS} {D:cE} {σ:St} {H:Hp} (Pv:Nat->St->Hp->Prop) (h0:Pv 0 σ H) (hl:∀ i σ H,i<=xs.length->Pv i σ H->ak K H a xs)
  (hs:∀ i x σ H,xs[i]?=some x->Pv i σ H->g x σ H fun σ2 H2=>tb { D with nx:=Pv (i+1),ct:=Pv (i+1),bk:=D.nx } σ2 H2) (hd:∀ σ H,Pv xs.length σ H->D.nx σ H) :
  ∃ W:Nat->Nat->St->Hp->Prop,(∃ m,W 0 m σ H)/\∀ i m σ H,W i m σ H ->
   ((dZ K a).stop i H/\D.nx σ H)∨((dZ K a).go i H/\∃ N:St->Hp->Prop,(∀ σ' H',N σ' H'->∃ m',m'<m/\W (i+1) m' σ' H')/\∀ x H',(dZ K a).yld i H x H'->g x σ H' fun σ2 H2=>tb { D with nx:=N,ct:=N,bk:=D.nx } σ2 H2):=by
 refine ⟨fun i m σ H=>m=xs.length-i/\i<=xs.length/\Pv i σ H,⟨xs.length,by simp,Qr _,h0⟩,?_⟩;rintro i m σ H ⟨rfl,hi,p⟩;have q:=hl i σ H hi p;by_cases Fl:i<xs.length
 ·refine .inr ⟨⟨xs,xs[i],q,by simp [Fl]⟩,Pv (i+1),fun σ' H' p'=>⟨xs.length-(i+1),by omega,rfl,Fl,p'⟩,fun x H' y=>?_⟩;obtain ⟨e,y⟩:=y;subst e;exact hs i x σ _ (y xs q) p
 ·have e:i=xs.length:=by omega
  subst e;exact .inl ⟨⟨xs,q,Qc _⟩,hd σ H p⟩
theorem yQ {K:PySem.W.Frag} {a:Addr} {xs:List V} {g:TG} {tb:TS} {D:cE} {σ:St} {H:Hp} (Pv:Nat->St->Hp->Prop) (h0:Pv 0 σ H) (hl:∀ i σ H,i<=xs.length->Pv i σ H->au K H a xs)
  (hs:∀ i x σ H,xs[i]?=some x->Pv i σ H->g x σ H fun σ2 H2=>tb { D with nx:=Pv (i+1),ct:=Pv (i+1),bk:=D.nx } σ2 H2) (hd:∀ σ H,Pv xs.length σ H->D.nx σ H) :
  ∃ W:Nat->Nat->St->Hp->Prop,(∃ m,W 0 m σ H)/\∀ i m σ H,W i m σ H ->
   ((eF K a).stop i H/\D.nx σ H)∨((eF K a).go i H/\∃ N:St->Hp->Prop,(∀ σ' H',N σ' H'->∃ m',m'<m/\W (i+1) m' σ' H')/\∀ x H',(eF K a).yld i H x H'->g x σ H' fun σ2 H2=>tb { D with nx:=N,ct:=N,bk:=D.nx } σ2 H2):=by
 refine ⟨fun i m σ H=>m=xs.length-i/\i<=xs.length/\Pv i σ H,⟨xs.length,by simp,Qr _,h0⟩,?_⟩;rintro i m σ H ⟨rfl,hi,p⟩;have q:=hl i σ H hi p;by_cases Fl:i<xs.length
 ·refine .inr ⟨⟨xs,xs[i],q,by simp [Fl]⟩,Pv (i+1),fun σ' H' p'=>⟨xs.length-(i+1),by omega,rfl,Fl,p'⟩,fun x H' y=>?_⟩;obtain ⟨e,y⟩:=y;subst e;exact hs i x σ _ (y xs q) p
 ·have e:i=xs.length:=by omega
  subst e;exact .inl ⟨⟨xs,q,Qc _⟩,hd σ H p⟩
theorem nK {lo:Int} {n:Nat} {g:TG} {tb:TS} {D:cE} {σ:St} {H:Hp} (Pv:Nat->St->Hp->Prop) (h0:Pv 0 σ H)
  (hs:∀ i σ H,i<n->Pv i σ H->g (.int (lo+i)) σ H fun σ2 H2=>tb { D with nx:=Pv (i+1),ct:=Pv (i+1),bk:=D.nx } σ2 H2) (hd:∀ σ H,Pv n σ H->D.nx σ H) :
  ∃ W:Nat->Nat->St->Hp->Prop,(∃ m,W 0 m σ H)/\∀ i m σ H,W i m σ H ->
   ((fO lo n).stop i H/\D.nx σ H)∨((fO lo n).go i H/\∃ N:St->Hp->Prop,(∀ σ' H',N σ' H'->∃ m',m'<m/\W (i+1) m' σ' H')/\∀ x H',(fO lo n).yld i H x H'->g x σ H' fun σ2 H2=>tb { D with nx:=N,ct:=N,bk:=D.nx } σ2 H2):=by
 refine ⟨fun i m σ H=>m=n-i/\i<=n/\Pv i σ H,⟨n,by simp,Qr _,h0⟩,?_⟩;rintro i m σ H ⟨rfl,hi,p⟩;by_cases Fl:i<n
 ·refine .inr ⟨Fl,Pv (i+1),fun σ' H' p'=>⟨n-(i+1),by omega,rfl,Fl,p'⟩,fun x H' y=>?_⟩;obtain ⟨e,y⟩:=y;subst e y;exact hs i σ _ Fl p
 ·have e:i=n:=by omega
  subst e;exact .inl ⟨Qc _,hd σ H p⟩
abbrev R2:=V->V->Hp->VK->Prop
def bD (X:Cx) (f:Value->Value->Sem Value) (r:R2):Prop :=
 ∀ (Fd:List (Addr × Obj)) (s:Shared) (σ:St) (H:Hp) (x y:V) (v u:Value) (Q:VK),Inv X Fd σ H s->RelV x v->RelV y u->r x y H Q ->
  wpAny (model X.prog X.w) X.A (f v u) (EP X Fd σ Q) X.xe s
def d0 (X:Cx) (f:Value) (r:List V->Hp->VK->Prop):Prop :=
 ∀ (Fd:List (Addr × Obj)) (s:Shared) (σ:St) (H:Hp) (xs:List V) (us:List Value) (Q:VK),Inv X Fd σ H s->aD xs us->r xs H Q ->
  wpAny (model X.prog X.w) X.A (call f us) (EP X Fd σ Q) X.xe s
def gU (r:R2) (ta tb:TE):TE:=fun σ H Q=>ta σ H fun x H1=>tb σ H1 fun y H2=>r x y H2 Q
inductive rI (C:Int->Int->Prop) (g:Int->Int->V) (x y:V) (H:Hp) (Q:VK):Prop
 | mk:∀ i j,x=.int i->y=.int j->C i j->Q (g i j) H->rI C g x y H Q
inductive eG (g:Int->Int->V) (x y:V) (H:Hp) (Q:VK):Prop
 | mk:∀ i j,x=.int i->y=.int j->Q (g i j) H->eG g x y H Q
section
variable {X:Cx} {a b c:Expr} {ta tb tc:TE} {pos:Pos}
theorem nM (ha:PE X a ta) (hb:PE X b tb) {Fd:List (Addr × Obj)} {s:Shared} {σ:St} {H:Hp} {R:V->V->Hp->Prop} (I:Inv X Fd σ H s)
  (h:ta σ H fun x H1=>tb σ H1 fun y H2=>R x y H2) {Q:Value->Shared->Prop} {f:Value->Value->Sem Value}
  (hf:∀ v u s2 x y H2,Inv X Fd σ H2 s2->RelV x v->RelV y u->R x y H2->wpAny (model X.prog X.w) X.A (f v u) Q X.xe s2) :
  wpAny (model X.prog X.w) X.A (eval a X.env) (fun v s₁=>wpAny (model X.prog X.w) X.A (eval b X.env) (fun u s₂=>wpAny (model X.prog X.w) X.A (f v u) Q X.xe s₂) X.xe s₁) X.xe s:=by
 refine az (ha Fd s σ H _ I h) fun v s1 hsl23=>?_;obtain ⟨x,H1,I1,r1,q1⟩:=hsl23;refine az (hb Fd s1 σ H1 _ I1 q1) fun u s2 hsl24=>?_;obtain ⟨y,H2,I2,r2,q2⟩:=hsl24;exact hf v u s2 x y H2 I2 r1 r2 q2
theorem am {op:Operator} {r:R2} (ho:bD X (binaryOp op) r) (ha:PE X a ta) (hb:PE X b tb):PE X (.BinOp a op b pos) (gU r ta tb):=by intro Fd s σ H Q I h;exact wpAny_BinOp (nM ha hb I h fun v u s2 x y H2 I2 rx ry q=>ho Fd s2 σ H2 x y v u Q I2 rx ry q)
theorem iM {f:Value->Value->Sem Value} {C:Int->Int->Prop} {g:Int->Int->Int}
  (rule:∀ (i j:Int) (t u:Tok) (s:Shared) (Q:Value->Shared->Prop) (E:Value->Shared->Prop),C i j->Q (.int (g i j) s.toks) { s with toks:=s.toks+1 }->wpAny (model X.prog X.w) X.A (f (.int i t) (.int j u)) Q E s) :
  bD X f (rI C fun i j=>.int (g i j)):=by
 intro Fd s σ H x y v u Q I rx ry h;obtain ⟨i,j,rfl,rfl,hc,q⟩:=h;obtain ⟨t,rfl⟩:=rx;obtain ⟨t',rfl⟩:=ry;exact rule i j t t' s _ _ hc ⟨.int (g i j),H,I.tok _,⟨_,rfl⟩,q⟩
theorem jP {f:Value->Value->Sem Value} {g:Int->Int->Int}
  (rule:∀ (i j:Int) (t u:Tok) (s:Shared) (Q:Value->Shared->Prop) (E:Value->Shared->Prop),Q (.int (g i j) s.toks) { s with toks:=s.toks+1 }->wpAny (model X.prog X.w) X.A (f (.int i t) (.int j u)) Q E s) :
  bD X f (eG fun i j=>.int (g i j)):=by
 intro Fd s σ H x y v u Q I rx ry h;obtain ⟨i,j,rfl,rfl,q⟩:=h;obtain ⟨t,rfl⟩:=rx;obtain ⟨t',rfl⟩:=ry;exact rule i j t t' s _ _ ⟨.int (g i j),H,I.tok _,⟨_,rfl⟩,q⟩
theorem nN {f:Value->Value->Sem Value} {g:Int->Int->Bool}
  (rule:∀ (i j:Int) (t u:Tok) (s:Shared) (Q:Value->Shared->Prop) (E:Value->Shared->Prop),Q (.bool (g i j)) s->wpAny (model X.prog X.w) X.A (f (.int i t) (.int j u)) Q E s) :
  bD X f (eG fun i j=>.bl (g i j)):=by
 intro Fd s σ H x y v u Q I rx ry h;obtain ⟨i,j,rfl,rfl,q⟩:=h;obtain ⟨t,rfl⟩:=rx;obtain ⟨t',rfl⟩:=ry;exact rule i j t t' s _ _ ⟨.bl (g i j),H,I,rfl,q⟩
def yR (i j:Int):Prop:=0<j/\j<1073741824
def yS (i j:Int):Prop:=0<=j/\j<=1000000/\i.natAbs<2 ^ 64
def nO (i j:Int):Prop:=(-(2 ^ 64)<i/\i<2 ^ 64)∨(-(2 ^ 64)<j/\j<2 ^ 64)
theorem nO.ok {i j:Int} (h:nO i j):IntMulOk i j:=by
 rcases h with ⟨h1,h2⟩ | ⟨h1,h2⟩
 ·exact .of_left (intBits_le_64 h1 h2)
 ·exact .of_right (intBits_le_64 h1 h2)
theorem yT (k:Nat):(0:Int)<=2 ^ k:=by rw [two_pow_cast];exact Int.natCast_nonneg _
theorem bS:bD X (binaryOp .Add) (eG fun i j=>.int (i+j)):=jP fun _ _ _ _ _ _ _ q=>add_int q
theorem gi:bD X (binaryOp .Sub) (eG fun i j=>.int (i-j)):=jP fun _ _ _ _ _ _ _ q=>sub_int q
theorem gj:bD X (binaryOp .Mult) (rI nO fun i j=>.int (i*j)):=iM fun _ _ _ _ _ _ _ hc q=>mul_int q hc.ok
theorem rE:bD X (binaryOp .FloorDiv) (rI yR fun i j=>.int (i / j)):=iM fun i j _ _ _ _ _ hc q=>by have h1:(0:Int)<j:=hc.1;have h2:j<1073741824:=hc.2;exact floordiv_int (by omega) (by rw [Int.fdiv_eq_ediv_of_nonneg i (by omega)];exact q) (.inl (PyProof.noPylong_small (by omega)))
theorem bx:bD X (binaryOp .Mod) (rI (fun _ j=>0<j) fun i j=>.int (i % j)):=iM fun i j _ _ _ _ _ hc q=>by have h1:(0:Int)<j:=hc;exact mod_int' (by lia) (by rw [Int.fmod_eq_emod_of_nonneg i (by lia)];exact q)
theorem yU:bD X (binaryOp .Pow) (rI yS fun i j=>.int (i ^ j.toNat)):=iM fun _ _ _ _ _ _ _ hc q=>pow_int_small hc.1 hc.2.1 hc.2.2 q
theorem nP:bD X (binaryOp .RShift) (rI (fun _ j=>0<=j) fun i j=>.int (i / 2 ^ j.toNat)):=iM fun i j _ _ _ _ _ hc q =>
 rshift_int hc (by rw [Int.fdiv_eq_ediv_of_nonneg i (yT _)];exact q)
theorem fe:bD X (binaryOp .BitAnd) (eG fun i j=>.int (Builtin.bitAnd i j)):=jP fun _ _ _ _ _ _ _ q=>and_int q
theorem nQ:bD X (binaryOp .BitOr) (eG fun i j=>.int (Builtin.bitOr i j)):=jP fun _ _ _ _ _ _ _ q=>or_int q
theorem eI:bD X (binaryOp .BitXor) (eG fun i j=>.int (Builtin.bitXor i j)):=jP fun _ _ _ _ _ _ _ q=>xor_int q
end
noncomputable def rF:V->V->Bool
 | .non,.non=>true | .non,.int _=>true | .int _,.non=>true | .non,.bl _=>true | .bl _,.non=>true | .non,.str _=>true | .str _,.non=>true
 | .int _,.int _=>true | .bl _,.bl _=>true | .str _,.str _=>true | .byt _,.byt _=>true
 | .int _,.str _=>true | .str _,.int _=>true | .bl _,.str _=>true | .str _,.bl _=>true
 | _,_=>false
def yV:R2:=fun x y H Q=>rF x y=true/\Q (.bl (decide (x=y))) H
def yW:R2:=fun x y H Q=>rF x y=true/\Q (.bl (!decide (x=y))) H
theorem cx {i j:Int}:decide (V.int i=V.int j)=(i == j):=by rw [Bool.eq_iff_iff];simp
theorem rG {i j:Bool}:decide (V.bl i=V.bl j)=(i == j):=by rw [Bool.eq_iff_iff];simp
theorem rH {i j:Str}:decide (V.str i=V.str j)=(i == j):=by rw [Bool.eq_iff_iff];simp
theorem rJ {i j:Array UInt8}:decide (V.byt i=V.byt j)=(i.toList == j.toList):=by rw [Bool.eq_iff_iff];cases i;cases j;simp
section
variable {X:Cx} {a b c:Expr} {ta tb tc:TE} {pos:Pos}
theorem bK {Fd:List (Addr × Obj)} {σ:St} {H:Hp} {s:Shared} {Q:VK} {k k':Bool} (I:Inv X Fd σ H s) (q:Q (.bl k) H) (e:k=k'):EP X Fd σ Q (.bool k') s:=by subst e;exact ⟨.bl k,H,I,rfl,q⟩
theorem bp:bD X (compareOp .Eq) yV:=by
 intro Fd s σ H x y v u Q I rx ry h;obtain ⟨hs,q⟩:=h
 cases x with
 | non =>
  cases rx
  cases y with
  | non=>cases ry;exact PySem.EqNone.eq_none_none (bK I q (by simp))
  | bl j=>cases ry;exact PySem.EqNone.eq_none_bool (bK I q (by simp))
  | int j=>obtain ⟨t',rfl⟩:=ry;exact PySem.EqNone.eq_none_int (bK I q (by simp))
  | str j=>obtain ⟨t',rfl⟩:=ry;exact PySem.EqNone.eq_none_str (bK I q (by simp))
  | _=>exact absurd (show false=true from hs) Qt
 | bl i =>
  cases rx
  cases y with
  | non=>cases ry;exact PySem.EqNone.eq_bool_none (bK I q (by simp))
  | bl j=>cases ry;exact eq_bool (bK I q rG)
  | str j=>obtain ⟨t',rfl⟩:=ry;exact PySem.EqMixed.eq_bool_str (bK I q (by simp))
  | _=>exact absurd (show false=true from hs) Qt
 | int i =>
  obtain ⟨t,rfl⟩:=rx
  cases y with
  | non=>cases ry;exact PySem.EqNone.eq_int_none (bK I q (by simp))
  | int j=>obtain ⟨t',rfl⟩:=ry;exact eq_int (bK I q cx)
  | str j=>obtain ⟨t',rfl⟩:=ry;exact PySem.EqMixed.eq_int_str (bK I q (by simp))
  | _=>exact absurd (show false=true from hs) Qt
 | str i =>
  obtain ⟨t,rfl⟩:=rx
  cases y with
  | non=>cases ry;exact PySem.EqNone.eq_str_none (bK I q (by simp))
  | bl j=>cases ry;exact PySem.EqMixed.eq_str_bool (bK I q (by simp))
  | int j=>obtain ⟨t',rfl⟩:=ry;exact PySem.EqMixed.eq_str_int (bK I q (by simp))
  | str j=>obtain ⟨t',rfl⟩:=ry;exact eq_str (bK I q rH)
  | _=>exact absurd (show false=true from hs) Qt
 | byt i =>
  obtain ⟨t,rfl⟩:=rx
  cases y with
  | byt j=>obtain ⟨t',rfl⟩:=ry;exact PySem.W.eq_bytes (bK I q rJ)
  | _=>exact absurd (show false=true from hs) Qt
 | _=>cases y<;>exact absurd (show false=true from hs) Qt
theorem eJ:bD X (compareOp .NotEq) yW:=by
 intro Fd s σ H x y v u Q I rx ry h;obtain ⟨hs,q⟩:=h
 cases x with
 | non =>
  cases rx
  cases y with
  | non=>cases ry;exact PySem.EqNone.ne_none_none (bK I q (by simp))
  | bl j=>cases ry;exact PySem.EqNone.ne_none_bool (bK I q (by simp))
  | int j=>obtain ⟨t',rfl⟩:=ry;exact PySem.EqNone.ne_none_int (bK I q (by simp))
  | str j=>obtain ⟨t',rfl⟩:=ry;exact PySem.EqNone.ne_none_str (bK I q (by simp))
  | _=>exact absurd (show false=true from hs) Qt
 | bl i =>
  cases rx
  cases y with
  | non=>cases ry;exact PySem.EqNone.ne_bool_none (bK I q (by simp))
  | bl j=>cases ry;exact ne_bool (bK I q (congrArg not rG))
  | str j=>obtain ⟨t',rfl⟩:=ry;exact PySem.EqMixed.ne_bool_str (bK I q (by simp))
  | _=>exact absurd (show false=true from hs) Qt
 | int i =>
  obtain ⟨t,rfl⟩:=rx
  cases y with
  | non=>cases ry;exact PySem.EqNone.ne_int_none (bK I q (by simp))
  | int j=>obtain ⟨t',rfl⟩:=ry;exact ne_int (bK I q (congrArg not cx))
  | str j=>obtain ⟨t',rfl⟩:=ry;exact PySem.EqMixed.ne_int_str (bK I q (by simp))
  | _=>exact absurd (show false=true from hs) Qt
 | str i =>
  obtain ⟨t,rfl⟩:=rx
  cases y with
  | non=>cases ry;exact PySem.EqNone.ne_str_none (bK I q (by simp))
  | bl j=>cases ry;exact PySem.EqMixed.ne_str_bool (bK I q (by simp))
  | int j=>obtain ⟨t',rfl⟩:=ry;exact PySem.EqMixed.ne_str_int (bK I q (by simp))
  | str j=>obtain ⟨t',rfl⟩:=ry;exact ne_str (bK I q (congrArg not rH))
  | _=>exact absurd (show false=true from hs) Qt
 | byt i =>
  obtain ⟨t,rfl⟩:=rx
  cases y with
  | byt j=>obtain ⟨t',rfl⟩:=ry;exact PySem.W.ne_bytes (bK I q (congrArg not rJ))
  | _=>exact absurd (show false=true from hs) Qt
 | _=>cases y<;>exact absurd (show false=true from hs) Qt
theorem gk:bD X (compareOp .Lt) (eG fun i j=>.bl (decide (i<j))):=nN fun _ _ _ _ _ _ _ q=>lt_int q
theorem yX:bD X (compareOp .LtE) (eG fun i j=>.bl (decide (i<=j))):=nN fun _ _ _ _ _ _ _ q=>le_int q
theorem nR:bD X (compareOp .Gt) (eG fun i j=>.bl (decide (j<i))):=nN fun _ _ _ _ _ _ _ q=>gt_int q
theorem aQ (b:Expr) {op:CmpOp} (h:op≠.In:=by decide) (h2:op≠.NotIn:=by decide):behindInMarks op b=false:=by
 have e1:(op == CmpOp.In)=false:=by cases op<;>first | rfl | exact absurd rfl h
 have e2:(op == CmpOp.NotIn)=false:=by cases op<;>first | rfl | exact absurd rfl h2
 cases b<;>simp [behindInMarks,e1,e2]
theorem rK {op:CmpOp} {r:R2} (ho:bD X (compareOp op) r) (ha:PE X a ta) (hb:PE X b tb) (hm:behindInMarks op b=false):PE X (.Compare a [op] [b] pos) (gU r ta tb):=by intro Fd s σ H Q I h;exact wpAny_Compare1 (nM ha hb I h fun v u s2 x y H2 I2 rx ry q=>ho Fd s2 σ H2 x y v u Q I2 rx ry q) hm
def yY (t:TE):TT:=fun σ H Q=>t σ H (eD Q)
theorem aN {op:CmpOp} {r:R2} (ho:bD X (compareOp op) r) (ha:PE X a ta) (hb:PE X b tb) (hm:behindInMarks op b=false):PT X (.Compare a [op] [b] pos) (yY (gU r ta tb)):=by
 intro Fd s σ H Q I h
 refine wpAny_isTrue_Compare1 (az (ha Fd s σ H _ I h) fun v s1 ⟨x,H1,I1,r1,q1⟩=>az (hb Fd s1 σ H1 _ I1 q1) fun u s2 ⟨y,H2,I2,r2,q2⟩ =>
  az (ho Fd s2 σ H2 x y v u _ I2 r1 r2 q2) fun c s3 ⟨z,H3,I3,r3,k,e,q3⟩=>?_) hm
 subst e;cases r3;exact wpAny_truthy_bool ⟨H3,I3,q3⟩
theorem jQ:(sizeLine:Nat)<2 ^ 63:=by rw [sizeLine_eq];decide
theorem nS:bD X (binaryOp .Add) (fun x y H Q=>∃ i j,x=.str i/\y=.str j/\i.length+j.length<=sizeLine/\Q (.str (i++j)) H):=by intro Fd s σ H x y v u Q I rx ry h;obtain ⟨i,j,rfl,rfl,hz,q⟩:=h;obtain ⟨t,rfl⟩:=rx;obtain ⟨t',rfl⟩:=ry;exact add_str (fun t' tk=>⟨.str (i++j),H,I.tok _,⟨_,rfl⟩,q⟩) hz
theorem vals1 {x:V} {us:List Value} (r:aD [x] us):∃ u,us=[u]/\RelV x u:=by
 cases r with
 | cons r1 r2=>cases r2;exact ⟨_,rfl,r1⟩
theorem vals2 {x y:V} {us:List Value} (r:aD [x,y] us):∃ u w',us=[u,w']/\RelV x u/\RelV y w':=by
 cases r with
 | cons r1 r2 =>
  cases r2 with
  | cons r3 r4=>cases r4;exact ⟨_,_,rfl,r1,r3⟩
theorem yZ:d0 X (.builtin "abs") (fun xs H Q=>∃ i,xs=[.int i]/\Q (.int (if i<0 then -i else i)) H):=by
 intro Fd s σ H xs us Q I r h;obtain ⟨i,rfl,q⟩:=h;obtain ⟨u,rfl,t,rfl⟩:=vals1 r
 exact call_abs_int fun u tk=>⟨.int (if i<0 then -i else i),H,I.tok _,⟨_,rfl⟩,q⟩
end
structure gW (h:Heap) (x dx C:Addr) (mA:Str->Option Value):Prop where
 obj:h.get? x=some (PySem.W.instObj C dx)
 ns:h.Ns1 dx mA
 ne:dx≠x
theorem y6 {h:Heap} {dx:Addr} {mA:Str->Option Value} (n:h.Ns1 dx mA):∃ od,h.get? dx=some od/\∀ name,PySem.W.lookIn name od=some (mA name):=by
 obtain ⟨o,es,ep,ho,hd,hk,_,hm⟩:=n;refine ⟨o,ho,fun name=>?_⟩;have e:=hm name;unfold nsFind findBy at e;rw [<- Array.find?_toList] at e;unfold PySem.W.lookIn;rw [hd];dsimp only;split
 ·rename_i y q;rw [q] at e;exact congrArg some e
 ·rename_i q;rw [q] at e;have a:es.toList.any (·.refKey)=false:=by rw [List.any_eq_false];intro y hy;obtain ⟨z,t,hkey⟩:=hk y (Array.mem_toList_iff.mp hy);simp [DictEntry.refKey,hkey]
  have a':¬ es.toList.any (·.refKey)=true:=by rw [a];exact Qt
  rw [if_neg a'];exact congrArg some e
theorem gW.look {h:Heap} {x dx C:Addr} {mA:Str->Option Value} (I:gW h x dx C mA):∃ od,PySem.W.InstAt h x (PySem.W.instObj C dx) C (some od)/\∀ name,PySem.W.lookIn name od=some (mA name) :=
 let ⟨od,ho,hl⟩:=y6 I.ns
 ⟨od,⟨I.obj,rfl,rfl,ho⟩,hl⟩
section
variable {prog:Program} {w:World} {A:Around} {E:Value->Shared->Prop} {s:Shared} {K:PySem.W.Frag} {x dx C f:Addr} {mA:Str->Option Value} {name:Str} {v:Value}
theorem y7 {expr:Bool} {Q:Value->Shared->Prop} (X:K.In s.heap) (I:gW s.heap x dx C mA) (hg:PySem.W.plainGet K C name=true) (hh:PySem.W.hasDictIn K C=true)
  (ha:PySem.W.findIn K (.ref C) name=some none) (hv:mA name=some v) (hv':PySem.W.handedIn v=true) (h:Q v { s with toks:=s.toks+1 }) :
  wpAny (model prog w) A (getAttr (.ref x) name expr) Q E s:=by
 obtain ⟨od,J,hl⟩:=I.look;exact PySem.W.get_value X J (PySem.W.plainGet_of hg).1 (PySem.W.findObj_own hh ha rfl (by rw [hl,hv])) hv' h
theorem y9 {pl:Sem Bool} {Q:Value × List Value->Shared->Prop} (X:K.In s.heap) (I:gW s.heap x dx C mA) (hg:PySem.W.plainGet K C name=true)
  (hf:PySem.W.findIn K (.ref C) name=some (some (.ref f))) (ht:PySem.W.isFn K (.ref f)=true) (hv:mA name=none) (h:Q (.ref f,[.ref x]) s) :
  wpAny (model prog w) A (getMethod (.ref x) name pl) Q E s:=by
 obtain ⟨od,J,hl⟩:=I.look;exact PySem.W.method_fn X J (PySem.W.plainGet_of hg).1 (PySem.W.plainGet_of hg).2 hf (beq_iff_eq.mp ht) (by show (PySem.W.lookIn name od).map (·.isSome)=some false;rw [hl,hv];rfl) h
theorem za {ns:List Str} {Q:Unit->Shared->Prop} (X:K.In s.heap) (I:gW s.heap x dx C mA)
  (hs:PySem.W.findIn K (.ref C) "__setattr__"=some (some (.builtin "object.__setattr__"))) (hp:PySem.W.plainOver K C=true) (ht:PySem.W.takerIn K C name=some none) (hh:PySem.W.hasDictIn K C=true)
  (hw:PySem.Within mA ns) (hsz:ns.length<=sizeLine)
  (h:∀ h',gW h' x dx C (fun y=>if y=name then some v else mA y)->Heap.SameBut dx s.heap h'->Q () { s with heap:=h',toks:=s.toks+2 }) :
  wpAny (model prog w) A (setAttr (.ref x) name v) Q E s:=by
 obtain ⟨od,J,hl⟩:=I.look;refine PySem.W.set_plain X J hs (PySem.W.osa_open (s:={ s with toks:=s.toks+1 }) (r:=none) X J hp ht fun b=>?_);obtain ⟨cd,hc,hd'⟩:=PySem.W.any_some hh;have hx:s.heap.get? x=some ⟨.ref C,some dx,.plain,#[]⟩:=I.obj;refine Qb (Qf (Qb (Qb (wpAny_loadPart hx (Qb (PySem.W.Looks.here (s:={ s with toks:=s.toks+1 }) (PySem.W.looks_clsIn X hc) ?_))))));rw [hd'];refine Qf (a:=some dx) (Qb (Qf (Qb ?_)));refine wpAny_nsSet1 (s:={ s with toks:=s.toks+1 }) I.ns fun h' Ge FD=>?_;obtain ⟨oD,esD,epD,hoD,hdD,hcD⟩:=Ge.count (PySem.Within.cons name v hw);refine Qb (wpAny_lookBehind hoD (by rw [hdD];exact pastItsLine_dict (Qq hcD (by rw [QN];lia))) ?_);exact Qf (h _ ⟨(FD.2 _ (Ne.symm I.ne)).trans I.obj,Ge,I.ne⟩ FD)
theorem zb {R:Result->Shared->Prop} {vs:List Value} {kw:List (Str × Value)} (X:K.In s.heap) (hm:PySem.W.makesIn K C=true)
  (hi:PySem.W.findIn K (.ref C) "__init__"=some (some (.ref f))) (hf:PySem.W.typeIn K (.ref f)=some (.type "function"))
  (h:codeAny (model prog w) (A.under (.builtin "type.__call__" ⟨.ref C::vs,kw⟩)) (.call (.ref f) ⟨.ref (s.heap.objs.size+1)::vs,kw⟩) (PySem.W.InitBack (s.heap.objs.size+1) R)
   { s with heap:=(s.heap.push PySem.W.emptyDict).push (PySem.W.instObj C s.heap.objs.size) }) :
  codeAny (model prog w) A (.call (.ref C) ⟨vs,kw⟩) R s:=by
 obtain ⟨hh,g,d,t,os⟩:=s;exact PySem.W.make_core (PySem.W.makes_of X hm) (PySem.W.looks_findIn X hi) (fun self=>PySem.W.bind_fn X self hf) (.inl rfl) h
end
noncomputable def dh (f:Str) (v:V):List (Str × V)->List (Str × V)
 | []=>[(f,v)]
 | (g,x)::r=>if g=f then (g,v)::r else (g,x)::dh f v r
theorem rL (f g:Str) (v:V):∀ fs:List (Str × V),(dh f v fs).lookup g=if g=f then some v else fs.lookup g
 | []=>by
  show List.lookup g [(f,v)]=_;by_cases h:g=f
  ·have hb:(g == f)=true:=beq_iff_eq.mpr h;simp only [List.lookup,hb,if_pos h]
  ·have hb:(g == f)=false:=beq_eq_false_iff_ne.mpr h;simp only [List.lookup,hb,if_neg h]
 | (k,x)::r=>by
  have ih:=rL f g v r;rw [show dh f v ((k,x)::r)=(if k=f then (k,v)::r else (k,x)::dh f v r) from rfl];by_cases hk:k=f
  ·rw [if_pos hk];by_cases h:g=k
   ·have hb:(g == k)=true:=beq_iff_eq.mpr h;simp only [List.lookup,hb,if_pos (h.trans hk)]
   ·have hb:(g == k)=false:=beq_eq_false_iff_ne.mpr h;simp only [List.lookup,hb,if_neg (fun e:g=f=>h (e.trans hk.symm))]
  ·rw [if_neg hk];by_cases h:g=k
   ·have hb:(g == k)=true:=beq_iff_eq.mpr h;simp only [List.lookup,hb,if_neg (fun e:g=f=>hk (h.symm.trans e))]
   ·have hb:(g == k)=false:=beq_eq_false_iff_ne.mpr h;simp only [List.lookup,hb];exact ih
theorem nT (f:Str) (v:V):∀ fs:List (Str × V),f∈(dh f v fs).map (·.1)/\∀ g,g∈fs.map (·.1)->g∈(dh f v fs).map (·.1)
 | []=>⟨by simp [dh],fun g h=>by simp at h⟩
 | (k,x)::r=>by
  obtain ⟨i1,i2⟩:=nT f v r;rw [show dh f v ((k,x)::r)=(if k=f then (k,v)::r else (k,x)::dh f v r) from rfl];by_cases hk:k=f
  ·rw [if_pos hk];subst hk;exact ⟨by simp,fun g h=>by simpa using h⟩
  ·rw [if_neg hk];refine ⟨?_,fun g h=>?_⟩
   ·rw [List.map_cons];exact Qw _ i1
   ·rw [List.map_cons] at h ⊢;rcases Qm h with e | e
    ·exact List.mem_cons.mpr (.inl e)
    ·exact Qw _ (i2 g e)
theorem rM (f:Str) (v:V):∀ fs:List (Str × V),(dh f v fs).length<=fs.length+1
 | []=>by simp [dh]
 | (k,x)::r=>by
  have ih:=rM f v r;rw [show dh f v ((k,x)::r)=(if k=f then (k,v)::r else (k,x)::dh f v r) from rfl];by_cases hk:k=f
  ·rw [if_pos hk,QN,QN];lia
  ·rw [if_neg hk,QN,QN];lia
theorem cP.some_of {v:V} {o:Option Value} (r:cP (some v) o):∃ u,o=some u/\RelV v u:=by
 cases o with
 | none=>exact (show False from r).elim
 | some u=>exact ⟨u,rfl,r⟩
theorem cP.none_of {o:Option Value} (r:cP none o):o=none:=by
 cases o with
 | none=>rfl
 | some u=>exact (show False from r).elim
theorem zc {v:V} {u:Value} (r:RelV v u):PySem.W.handedIn u=true:=by
 cases v with
 | non=>cases (show u=Value.none from r);rfl
 | bl b=>cases (show u=Value.bool b from r);rfl
 | int i=>obtain ⟨t,e⟩:=(show ∃ t,u=Value.int i t from r);cases e;rfl
 | str x=>obtain ⟨t,e⟩:=(show ∃ t,u=Value.str x t from r);cases e;rfl
 | byt b=>obtain ⟨t,e⟩:=(show ∃ t,u=Value.bytes b t from r);cases e;rfl
 | flt b=>obtain ⟨t,e⟩:=(show ∃ t,u=Value.float b t from r);cases e;rfl
 | ref a=>cases (show u=Value.ref a from r);rfl
 | ty n=>cases (show u=Value.type n from r);rfl
section
variable {P:Program} {w:World} {H H':Hp} {h h':Heap} {a C dx:Addr} {fs fs':List (Str × V)}
theorem lr (hok:bC P w H h) (e:H a=some (.ins C dx fs)):∃ mA,gW h a dx C mA/\(∀ f,cP (fs.lookup f) (mA f))/\PySem.Within mA (fs.map (·.1))/\fs.length<=1000/\H dx=some (.own a):=by
 obtain ⟨d,z,ne,ob,mA,n,r,q⟩:=(show bJ P w H h a (.ins C dx fs) from hok a _ e)
 exact ⟨mA,⟨ob,n,ne⟩,r,q,z,d⟩
end
structure ff (K:PySem.W.Frag) (C:Addr):Prop where
 pg:PySem.W.plainGet K C Str.empty=true
 hd:PySem.W.hasDictIn K C=true
 po:PySem.W.plainOver K C=true
 sa:PySem.W.findIn K (.ref C) "__setattr__"=some (some (.builtin "object.__setattr__"))
theorem ff.get {K:PySem.W.Frag} {C:Addr} (c:ff K C) (f:Str):PySem.W.plainGet K C f=true:=c.pg
def gl (K:PySem.W.Frag) (C:Addr) (f:Str):Prop:=PySem.W.findIn K (.ref C) f=some none
theorem gl.taker {K:PySem.W.Frag} {C:Addr} {f:Str} (n:gl K C f):PySem.W.takerIn K C f=some none:=by unfold PySem.W.takerIn;rw [show PySem.W.findIn K (.ref C) f=some none from n];rfl
structure eK (K:PySem.W.Frag) (C:Addr) (m:Str) (f:Addr):Prop where
 at_:PySem.W.findIn K (.ref C) m=some (some (.ref f))
 fn:PySem.W.isFn K (.ref f)=true
 kp:PySem.W.keepIn K (.ref f)=true
section
variable {X:Cx} {Fd:List (Addr × Obj)} {σ:St} {H:Hp} {s:Shared} {a C dx:Addr} {fs:List (Str × V)} {f:Str} {v:V} {A:Around} {E:Value->Shared->Prop}
theorem zd {b:Bool} {Q:Value->Shared->Prop} (I:Inv X Fd σ H s) (e:H a=some (.ins C dx fs)) (c:ff X.K C) (n:gl X.K C f) (l:fs.lookup f=some v)
  (h:∀ u s',Inv X Fd σ H s'->RelV v u->Q u s'):wpAny (model X.prog X.w) A (getAttr (.ref a) f b) Q E s:=by
 obtain ⟨mA,O,r,_,_,_⟩:=lr I.hok e;obtain ⟨u,hu,ru⟩:=cP.some_of (v:=v) (o:=mA f) (by rw [<- l];exact r f);exact y7 I.kIn O (c.get f) c.hd n hu (zc ru) (h u _ (I.tok _) ru)
theorem ze {m:Str} {g:Addr} {pl:Sem Bool} {Q:Value × List Value->Shared->Prop} (I:Inv X Fd σ H s) (e:H a=some (.ins C dx fs)) (c:ff X.K C) (k:eK X.K C m g) (l:fs.lookup m=none)
  (h:Q (.ref g,[.ref a]) s):wpAny (model X.prog X.w) A (getMethod (.ref a) m pl) Q E s:=by
 obtain ⟨mA,O,r,_,_,_⟩:=lr I.hok e;have hn:mA m=none:=cP.none_of (by rw [<- l];exact r m);exact y9 I.kIn O (c.get m) k.at_ k.fn hn h
theorem zf {y:V} {u:Value} {Q:Unit->Shared->Prop} (I:Inv X Fd σ H s) (e:H a=some (.ins C dx fs)) (c:ff X.K C) (n:gl X.K C f) (hl:fs.length<1000) (ry:RelV y u)
  (h:∀ s',Inv X Fd σ (upd H a (.ins C dx (dh f y fs))) s'->Q () s'):wpAny (model X.prog X.w) A (setAttr (.ref a) f u) Q E s:=by
 obtain ⟨mA,O,r,wi,_,ho⟩:=lr I.hok e;have hz:(fs.map (·.1)).length<=sizeLine:=by rw [Qe,sizeLine_eq];lia
 refine za I.kIn O c.sa c.po n.taker c.hd wi hz fun h' O' sb=>h _ ?_;have hd:∃ o,h'.get? dx=some o:=by obtain ⟨o,_,_,e',_⟩:=O'.ns;exact ⟨o,e'⟩
 refine I.write (x:=a) (e:=dx) (by rw [e];exact True.intro) (.inr ho) (fun b q hb z=>(sb.2 b hb).trans z) hd ?_;refine ⟨by rw [ay O.ne];exact ho,?_,O.ne,O'.obj,_,O'.ns,fun g=>?_,fun g hg=>?_⟩
 ·have:=rM f y fs;lia
 ·show cP ((dh f y fs).lookup g) (if g=f then some u else mA g);rw [rL];by_cases q:g=f
  ·rw [if_pos q,if_pos q];exact ry
  ·rw [if_neg q,if_neg q];exact r g
 ·by_cases q:g=f
  ·rw [q];exact (nT f y fs).1
  ·refine (nT f y fs).2 g (wi g fun z=>hg ?_);show (if g=f then some u else mA g)=none;rw [if_neg q];exact z
theorem Inv.made (I:Inv X Fd σ H s):Inv X Fd σ (upd (upd H s.heap.objs.size (.own (s.heap.objs.size+1))) (s.heap.objs.size+1) (.ins C s.heap.objs.size []))
  { s with heap:=(s.heap.push PySem.W.emptyDict).push (PySem.W.instObj C s.heap.objs.size) }:=by
 have e1:(s.heap.push PySem.W.emptyDict).get? s.heap.objs.size=some PySem.W.emptyDict:=Qn s.heap rfl;have e2:((s.heap.push PySem.W.emptyDict).push (PySem.W.instObj C s.heap.objs.size)).get? (s.heap.objs.size+1)=some (PySem.W.instObj C s.heap.objs.size):=by have:=Qn (s.heap.push PySem.W.emptyDict) (o:=PySem.W.instObj C s.heap.objs.size) rfl;rwa [Heap.size_push] at this
 have e3:(s.heap.push PySem.W.emptyDict).Ns s.heap.objs.size (fun _=>none):=⟨PySem.W.emptyDict,#[],_,e1,rfl,(fun e he=>absurd he (by simp)),fun _=>rfl⟩
 have I1:=I.laid (a:=s.heap.objs.size) (o:=.own (s.heap.objs.size+1)) (h':=s.heap.push PySem.W.emptyDict) (t':=s.toks) (fun b u q=>Qd _ q) (Qc _) ⟨_,e1⟩;refine I1.laid (a:=s.heap.objs.size+1) (o:=.ins C s.heap.objs.size []) (t':=s.toks) (fun b u q=>Qd _ q) (Nat.le_of_eq (Heap.size_push _ _)) ?_;have ne:s.heap.objs.size≠s.heap.objs.size+1:=QC (Nat.lt_succ_self _);refine ⟨by rw [ay ne,af],Qr _,ne,e2,fun _=>none,(Heap.Ns1.of_empty e3).at fun o q=>Qd _ q,fun _=>True.intro,fun y hy=>absurd rfl hy⟩
theorem zg {prog:Program} {w:World} {env:Env} {e:Expr} {f:Str} {pos:Pos} {s:Shared} {Q:Value->Shared->Prop} (hb:attributeBase e f env (eval e env)=eval e env)
  (h:wpAny (model prog w) A (eval e env) (fun o s₁=>wpAny (model prog w) A (getAttr o f true) Q E s₁) E s):wpAny (model prog w) A (eval (.Attribute e f pos) env) Q E s :=
 Attribute_any_ h (by rw [arm_eval_Attribute,hb])
end
inductive rN (K:PySem.W.Frag) (f:Str) (Q:VK) (x:V) (H:Hp):Prop
 | mk:∀ a C dx fs v,x=.ref a->H a=some (.ins C dx fs)->ff K C->gl K C f->fs.lookup f=some v->Q v H->rN K f Q x H
def zh (K:PySem.W.Frag) (ta:TE) (f:Str):TE:=fun σ H Q=>ta σ H (rN K f Q)
def zi (K:PySem.W.Frag) (ta tv:TE) (f:Str):TS:=fun D σ H=>tv σ H fun y H1=>ta σ H1 fun x H2=>∃ a C dx fs,x=.ref a/\H2 a=some (.ins C dx fs)/\ff K C/\gl K C f/\fs.length<1000 /\
 D.nx σ (upd H2 a (.ins C dx (dh f y fs)))
section
variable {X:Cx} {o e value:Expr} {f:Str} {pos Gm Jt:Pos} {ta tv:TE}
theorem lu (he:PE X e ta) (hb:attributeBase e f X.env (eval e X.env)=eval e X.env):PE X (.Attribute e f pos) (zh X.K ta f):=by
 intro Fd s σ H Q I h;refine zg hb (az (he Fd s σ H _ I h) fun u s1 hsl25=>?_);obtain ⟨x,H1,I1,rx,a,C,dx,fs,v,ex,ea,c,n,l,q⟩:=hsl25;subst ex;obtain rfl:u=Value.ref a:=rx
 exact zd I1 ea c n l fun u' s2 I2 ru=>⟨v,H1,I2,ru,q⟩
theorem rO (ha:PE X o ta) (hv:PE X value tv) (hs:swapsWith value (some (.Attribute o f Gm)) pos.line X.env=pure false):PS X (.Assign [.Attribute o f Gm] value pos) (zi X.K ta tv f):=by
 intro Fd s σ H D I h;refine plainObj_wpAny_Assign_Attribute (az (hv Fd s σ H _ I h) fun u s1 ⟨y,H1,I1,ry,q⟩=>az (ha Fd s1 σ H1 _ I1 q) fun ov s2 hsl26=>?_) hs;obtain ⟨x,H2,I2,rx,a,C,dx,fs,ex,ea,c,n,l,q2⟩:=hsl26;subst ex;obtain rfl:ov=Value.ref a:=rx
 exact zf I2 ea c n l ry fun s3 I3=>⟨σ,_,I3,q2⟩
end
section
variable {X:Cx} {Fd:List (Addr × Obj)} {σ:St} {H:Hp} {s:Shared} {A:Around} {E:Value->Shared->Prop} {Q:Value->Shared->Prop} {c:Value} {b:Bool}
inductive cZ (K:PySem.W.Frag) (H:Hp):V->Value->Prop where
 | non:cZ K H .non (.type "NoneType")
 | bl (x:Bool):cZ K H (.bl x) (.type "bool")
 | int (i:Int):cZ K H (.int i) (.type "int")
 | str (x:Str):cZ K H (.str x) (.type "str")
 | flt (x:UInt64):cZ K H (.flt x) (.type "float")
 | lst {a:Addr} {xs:List V} (e:H a=some (.lst xs)):cZ K H (.ref a) (.type "list")
 | frz {a:Addr} {o:Obj} {xs:List V} (e:H a=some (.frz o (.lst xs))):cZ K H (.ref a) (.type "list")
 | tup {a:Addr} {xs:List V} (e:H a=some (.tup xs)):cZ K H (.ref a) (.type "tuple")
 | dK {a:Addr} {Fe:List (ae × V)} (e:H a=some (.dK Fe)):cZ K H (.ref a) (.type "dict")
 | dT {a:Addr} {Fe:List (List ae × V)} (e:H a=some (.dT Fe)):cZ K H (.ref a) (.type "dict")
 | ins {a C dx:Addr} {fs:List (Str × V)} (e:H a=some (.ins C dx fs)) (cl:ff K C) (ha:PySem.W.findIn K (.ref C) "__class__"=some (some (.builtin "object.__class__")))
   (hn:PySem.W.specialIn K (.builtin "object.__class__") "__get__"=some (some (.builtin "getset_descriptor.__get__"))) (GP:PySem.W.takesIn K (.builtin "object.__class__")=some true)
   (hm:PySem.W.mroIn K C (.type "object")=some true):cZ K H (.ref a) (.ref C)
theorem zj {x:V} {u t:Value} (I:Inv X Fd σ H s) (rx:RelV x u) (ty:cZ X.K H x t) (e:PySem.W.kitOne X.K t c=some b) (h:∀ tk,Q (.bool b) { s with toks:=tk }) :
  wpAny (model X.prog X.w) A (call (.builtin "isinstance") [u,c]) Q E s:=by
 cases ty with
 | non=>cases (show u=Value.none from rx);exact PySem.W.kia_one PySem.W.kitx_none I.kIn True.intro e (fun z=>nomatch z) h
 | bl y=>cases (show u=Value.bool y from rx);exact PySem.W.kia_one PySem.W.kitx_bool I.kIn True.intro e (fun z=>nomatch z) h
 | int i=>obtain ⟨t,q⟩:=(show ∃ t,u=Value.int i t from rx);cases q;exact PySem.W.kia_one PySem.W.kitx_int I.kIn True.intro e (fun z=>nomatch z) h
 | str y=>obtain ⟨t,q⟩:=(show ∃ t,u=Value.str y t from rx);cases q;exact PySem.W.kia_one PySem.W.kitx_str I.kIn True.intro e (fun z=>nomatch z) h
 | flt y=>obtain ⟨t,q⟩:=(show ∃ t,u=Value.float y t from rx);cases q;exact PySem.W.kia_one PySem.W.kitx_float I.kIn True.intro e (fun z=>nomatch z) h
 | @lst a xs ea =>
  cases (show u=Value.ref a from rx)
  obtain ⟨_,_,n,_,h1⟩:=(show bJ X.prog X.w H s.heap a (.lst xs) from I.hok a _ ea)
  exact PySem.W.kia_one PySem.W.kitx_list I.kIn ⟨_,h1,rfl⟩ e (fun z=>nomatch z) h
 | @frz a ob xs ea =>
  cases (show u=Value.ref a from rx)
  obtain ⟨_,_,_,n,_,h1⟩:=(show bJ X.prog X.w H s.heap a (.frz ob (.lst xs)) from I.hok a _ ea)
  exact PySem.W.kia_one PySem.W.kitx_list I.kIn ⟨_,h1,rfl⟩ e (fun z=>nomatch z) h
 | @tup a xs ea =>
  cases (show u=Value.ref a from rx)
  obtain ⟨_,_,_,p,_⟩:=(show bJ X.prog X.w H s.heap a (.tup xs) from I.hok a _ ea)
  obtain ⟨o,h1,h2,_⟩:=p;exact PySem.W.kia_one PySem.W.kitx_tuple I.kIn ⟨o,h1,h2⟩ e (fun z=>nomatch z) h
 | @dK a Fe ea =>
  cases (show u=Value.ref a from rx)
  obtain ⟨_,_,vs,_,p⟩:=(show bJ X.prog X.w H s.heap a (.dK Fe) from I.hok a _ ea)
  obtain ⟨o,es,ep,h1,h2,_⟩:=p;exact PySem.W.kia_one PySem.W.kitx_dict I.kIn ⟨o,h1,h2.1⟩ e (fun z=>nomatch z) h
 | @dT a Fe ea =>
  cases (show u=Value.ref a from rx)
  obtain ⟨_,_,xs,_,o,es,ep,h1,h2,_⟩:=(show bJ X.prog X.w H s.heap a (.dT Fe) from I.hok a _ ea)
  exact PySem.W.kia_one PySem.W.kitx_dict I.kIn ⟨o,h1,h2.1⟩ e (fun z=>nomatch z) h
 | @ins a C dx fs ea cl ha hn GP hm =>
  cases (show u=Value.ref a from rx);obtain ⟨mA,O,_⟩:=lr I.hok ea;obtain ⟨od,J,_⟩:=O.look;exact PySem.W.kia_one (PySem.W.kitx_own (cl.get _) cl.hd ha hn GP hm) I.kIn J e (fun z=>nomatch z) h
end
structure ar (k:Nat) (A:Around):Prop where
 hd:A.handled=none
 dp:A.depth+3*k+5<recursionLimit
 un:A.units+16*k+200<cLine
theorem ar.mono {j k:Nat} {A:Around} (r:ar k A) (h:j<=k):ar j A:=⟨r.hd,by have:=r.dp;lia,by have:=r.un;lia⟩
theorem ar.deeper {k:Nat} {A:Around} (r:ar (k+1) A) (env:Env):ar k (A.deeper env) :=
 ⟨r.hd,by have:=r.dp;show A.depth+1+3*k+5<_;lia,by have:=r.un;show A.units+3+16*k+200<_;lia⟩
theorem ar.in1 {k:Nat} {A:Around} (r:ar (k+1) A):ar k A.in1 :=
 ⟨r.hd,by have:=r.dp;show A.depth+3*k+5<_;lia,by have:=r.un;show A.units+1+16*k+200<_;lia⟩
theorem zk {A:Around} {C:Addr} {us:List Value} {kw:List (Str × Value)}:(A.under (.builtin "type.__call__" ⟨.ref C::us,kw⟩)).depth=A.depth+1:=by
 first | rfl | simp [Around.under,Code.weight,Code.isCreation,Code.isGuard,Code.isCaller,Code.frames,Code.isFrame,guardIds]
theorem zm {A:Around} {C:Addr} {us:List Value} {kw:List (Str × Value)}:(A.under (.builtin "type.__call__" ⟨.ref C::us,kw⟩)).units=A.units+1:=by
 first | rfl | simp [Around.under,Code.cUnits,Code.frames,Code.isFrame]
theorem ar.make {k:Nat} {A:Around} (r:ar (k+1) A) (C:Addr) (us:List Value) (kw:List (Str × Value)):ar k (A.under (.builtin "type.__call__" ⟨.ref C::us,kw⟩)) :=
 ⟨r.hd,by have:=r.dp;rw [zk];omega,by have:=r.un;rw [zm];omega⟩
theorem ar.depth {k:Nat} {A:Around} (r:ar k A):A.depth<recursionLimit:=by have:=r.dp;omega
theorem ar.units {k:Nat} {A:Around} (r:ar k A):A.units+64<cLine:=by have:=r.un;lia
def rP:TA:=fun _ H Q=>Q [] H
def rQ (ta:TE) (tr:TA):TA:=fun σ H Q=>ta σ H fun x H1=>tr σ H1 fun xs H2=>Q (x::xs) H2
section
variable {X:Cx} {e:Expr} {es:List Expr} {te:TE} {t:TA} {pos:Pos}
theorem ab:PA X [] rP:=fun _ _ _ _ H Q I h=>Calls.spliced_nil ⟨[],H,I,.nil,h⟩
theorem aa (ha:PE X e te) (hr:PA X es t) (hs:starEach (e::es) X.env=(false,eval e X.env)::starEach es X.env:=by rfl):PA X (e::es) (rQ te t):=by intro pos Fd s σ H Q I h;rw [hs];show wpAny _ _ (spliced ((false,eval e X.env)::backTo pos (starEach es X.env))) _ _ s;refine Calls.spliced_cons (az (ha Fd s σ H _ I h) fun u s1 hsl28=>?_);obtain ⟨x,H1,I1,r1,q1⟩:=hsl28;exact az (hr pos Fd s1 σ H1 _ I1 q1) fun us s2 hsl29=>by obtain ⟨xs,H2,I2,r2,q2⟩:=hsl29;exact ⟨x::xs,H2,I2,.cons r1 r2,q2⟩
def zn (t:TA):TE:=fun σ H Q=>t σ H fun xs H1=>xs.length<=sizeLine/\∀ p,H1 p=none->Q (.ref p) (upd H1 p (.tup xs))
def zo (t:TA):TE:=fun σ H Q=>t σ H fun xs H1=>xs.length<=sizeLine/\∀ p,H1 p=none->Q (.ref p) (upd H1 p (.lst xs))
theorem aF {x1} (h:PA X es t):PE X (.Tuple es x1 pos) (zn t):=by intro Fd s σ H Q I hq;refine wpAny_Tuple_spliced (az (h pos Fd s σ H _ I hq) fun us s1 ⟨xs,H1,I1,r,z,q⟩=>⟨by rw [<- r.length];exact z,?_⟩);have hf:H1 s1.heap.objs.size=none:=I1.hok.fresh (Qc _);refine ⟨.ref s1.heap.objs.size,upd H1 s1.heap.objs.size (.tup xs),I1.laid (t':=s1.toks) (fun b u e=>Qd _ e) (Qc _) ?_,rfl,q _ hf⟩;exact ⟨z,us,r,⟨_,Qn _ rfl,rfl,_,rfl⟩,_,Qn _ rfl,rfl⟩
theorem bG (h:PA X es t):PE X (.List es pos) (zo t):=by intro Fd s σ H Q I hq;refine wpAny_List_spliced (az (h pos Fd s σ H _ I hq) fun us s1 ⟨xs,H1,I1,r,z,q⟩=>⟨by rw [<- r.length];exact z,?_⟩);have hf:H1 s1.heap.objs.size=none:=I1.hok.fresh (Qc _);refine ⟨.ref s1.heap.objs.size,upd H1 s1.heap.objs.size (.lst xs),I1.laid (t':=s1.toks) (fun b u e=>Qd _ e) (Qc _) ?_,rfl,q _ hf⟩;exact ⟨z,us,0,r,Qn _ rfl⟩
end
abbrev Sp:=List V->Hp->VK->XK->Prop
abbrev eL:=List Env->Hp->Shared->XK->Value->Shared->Prop
structure d5 (P:Program) (w:World) (K:PySem.W.Frag) (mg:Str->Option Value) (base:Heap) (A:Around) (outer:List Env) (s:Shared) (H:Hp):Prop where
 frames:A.frames=some outer
 mod:Mod K mg base
 bs:∀ b o,base.get? b=some o->s.heap.get? b=some o/\H b=none
 bsz:base.objs.size<=s.heap.objs.size
 funs:s.heap.FunFrames base outer
 frf:∀ b∈dO outer,H b=none
 hok:bC P w H s.heap
 bare:AllBare s.gens
def CE (outer:List Env) (P:Program) (w:World) (H:Hp) (s:Shared) (Q:VK) (u:Value) (s':Shared):Prop :=
 ∃ v H',s'.os=s.os/\AllBare s'.gens/\Un (dO outer) [] H H' s.heap s'.heap/\bC P w H' s'.heap/\RelV v u/\Q v H'
def CR (CX:eL) (outer:List Env) (P:Program) (w:World) (H:Hp) (s:Shared) (Q:VK) (E:XK) (r:Result) (s':Shared):Prop :=
 match r with
 | .ok (.ret u)=>CE outer P w H s Q u s'
 | .ok _=>False
 | .error e=>CX outer H s E e s'
structure aB (P:Program) (w:World) (K:PySem.W.Frag) (mg:Str->Option Value) (base:Heap) (CX:eL) (k:Nat) (f:Addr) (fd:FuncData) (ps:List Str) (sp:Sp):Prop where
 len:∀ vs H Q E,sp vs H Q E->vs.length=ps.length
 run:∀ (A:Around) (outer:List Env) (s:Shared) (H:Hp) (args:Args) (us:List Value) (vs:List V) (Q:VK) (E:XK),ar k A->d5 P w K mg base A outer s H->BindsTo s fd args (ps.zip us)->aD vs us->sp vs H Q E ->
  codeAny (model P w) A (.call (.ref f) args) (CR CX outer P w H s Q E) s
theorem d5.make {P:Program} {w:World} {K:PySem.W.Frag} {mg:Str->Option Value} {base:Heap} {A:Around} {outer:List Env} {s:Shared} {H:Hp} (e:d5 P w K mg base A outer s H) (C:Addr) (us:List Value) (kw:List (Str × Value)) :
  d5 P w K mg base (A.under (.builtin "type.__call__" ⟨.ref C::us,kw⟩)) outer s H:=⟨by first | exact e.frames | (simpa [Around.under,Code.envs,Code.isFrame,pushEnvs] using e.frames),e.mod,e.bs,e.bsz,e.funs,e.frf,e.hok,e.bare⟩
theorem d5.in1 {P:Program} {w:World} {K:PySem.W.Frag} {mg:Str->Option Value} {base:Heap} {A:Around} {outer:List Env} {s:Shared} {H:Hp} (e:d5 P w K mg base A outer s H) :
  d5 P w K mg base A.in1 outer s H:=⟨e.frames,e.mod,e.bs,e.bsz,e.funs,e.frf,e.hok,e.bare⟩
section
variable {X:Cx} {Fd:List (Addr × Obj)} {σ:St} {H:Hp} {s s':Shared}
theorem Inv.env0 (I:Inv X Fd σ H s):d5 X.prog X.w X.K X.mg X.base X.A X.stack s H :=
 ⟨I.ok.frames,I.ok.mod,I.bs,Qq I.ok.bsz I.sz,I.stack,I.stkFree,I.hok,I.bare⟩
theorem Inv.after {Q:VK} {u:Value} (I:Inv X Fd σ H s) (h:CE X.stack X.prog X.w H s Q u s'):EP X Fd σ Q u s':=by obtain ⟨v,H',os,bare,un,hok,r,q⟩:=h;obtain ⟨hh,g,d,t,os'⟩:=s';obtain rfl:os'=s.os:=os;exact ⟨v,H',I.call (h':=hh) (g':=g) (d':=d) (t':=t) (ch:=[]) un hok bare (fun b z=>absurd z (by simp)),r,q⟩
end
def rR (sp:Sp) (FV:List V) (E:XK) (t:TA):TE:=fun σ H Q=>t σ H fun vs H1=>sp (vs++FV) H1 Q E
inductive rS (C:Addr) (m:Str) (sp:Sp) (FV:List V) (E:XK) (t:TA) (σ:St) (Q:VK) (x:V) (H:Hp):Prop
 | mk:∀ a dx fs,x=.ref a->H a=some (.ins C dx fs)->fs.lookup m=none->(t σ H fun vs H2=>sp (x::(vs++FV)) H2 Q E)->rS C m sp FV E t σ Q x H
def zp (C:Addr) (m:Str) (sp:Sp) (FV:List V) (E:XK) (ta:TE) (t:TA):TE:=fun σ H Q=>ta σ H (rS C m sp FV E t σ Q)
def zq (C:Addr) (sp:Sp) (FV:List V) (E:XK) (t:TA):TE:=fun σ H Q=>t σ H fun vs H1=>∀ x dx,H1 x=none->H1 dx=none->dx≠x ->
 sp (.ref x::(vs++FV)) (upd (upd H1 dx (.own x)) x (.ins C dx [])) (fun v H2=>v=.non/\Q (.ref x) H2) E
def Binds (K:PySem.W.Frag) (fd:FuncData) (ps:List Str) (ds:List Value):Prop :=
 ∀ (s:Shared) (us:List Value),K.In s.heap->(us++ds).length=ps.length->BindsTo s fd ⟨us,[]⟩ (ps.zip (us++ds))
theorem Binds.all {K:PySem.W.Frag} {fd:FuncData} {ps:List Str} (h:∀ us:List Value,us.length=ps.length->bindArgs fd ⟨us,[]⟩=pure (ps.zip us)):Binds K fd ps []:=fun s us _ hl=>by rw [QO] at hl ⊢;exact .of_eq (h us hl)
def iN (CX:eL) (X:Cx) (E:XK):Prop:=∀ (Fd:List (Addr × Obj)) (σ:St) (H:Hp) (s:Shared) (e:Value) (s':Shared),Inv X Fd σ H s->CX X.stack H s E e s'->X.xe e s'
section
variable {X:Cx} {CX:eL} {k:Nat} {f C:Addr} {fd:FuncData} {ps:List Str} {sp:Sp} {FV:List V} {ds:List Value} {E:XK} {x m:Str} {p pos apos:Pos} {e o:Expr} {es:List Expr} {ta:TE} {t:TA}
theorem rT {Fd:List (Addr × Obj)} {σ:St} {H:Hp} {s:Shared} {Q:VK} {us:List Value} {vs:List V} (F:aB X.prog X.w X.K X.mg X.base CX k f fd ps sp) (hr:ar k X.A) (hb:Binds X.K fd ps ds) (hd:aD FV ds) (hx:iN CX X E)
  (I:Inv X Fd σ H s) (r:aD vs us) (h:sp (vs++FV) H Q E):wpAny (model X.prog X.w) X.A (call (.ref f) us) (EP X Fd σ Q) X.xe s:=by
 have r2:aD (vs++FV) (us++ds):=r.append hd;have hl:(us++ds).length=ps.length:=by rw [<- r2.length];exact F.len _ _ _ _ h
 refine wpAny_call (codeAny_mono (F.run X.A X.stack s H ⟨us,[]⟩ (us++ds) (vs++FV) Q E hr I.env0 (hb s us I.kIn hl) r2 h) fun r s' hq=>?_)
 cases r with
 | error e=>exact hx Fd σ H s e s' I hq
 | ok fl =>
  cases fl with
  | ret u=>exact I.after hq
  | next=>exact False.elim hq
  | brk=>exact False.elim hq
  | cont=>exact False.elim hq
theorem zr (F:aB X.prog X.w X.K X.mg X.base CX k f fd ps sp) (hr:ar k X.A) (hg:Gl X x) (hm:X.mg x=some (.ref f)) (hk:PySem.W.keepIn X.K (.ref f)=true) (hb:Binds X.K fd ps ds) (hd:aD FV ds) (hx:iN CX X E)
  (ha:PA X (e::es) t) (hdb:(x == ("__debug__":Str))=false:=by decide) (he:starEach (e::es) X.env=(false,eval e X.env)::starEach es X.env:=by rfl) (F8:(backTo pos (starEach es X.env)).any (·.1)=false:=by rfl) :
  PE X (.Call (.Name x p) (e::es) [] pos) (rR sp FV E t):=by
 intro Fd s σ H Q I h;refine wpAny_Call_Name_kw (jL I hg hm ?_ hdb);refine PySem.W.callWith_K (h₀:=X.base) I.ok.mod.kin hk (az (ha pos Fd s σ H _ I h) fun us s1 ⟨vs,H1,I1,r,q⟩=>⟨I1.kIn,?_⟩) he F8;exact rT F hr hb hd hx I1 r q
theorem cy {pl:Sem Bool} (he:PE X o ta) (c:ff X.K C) (hm:eK X.K C m f) (F:aB X.prog X.w X.K X.mg X.base CX k f fd ps sp) (hr:ar k X.A) (hb:Binds X.K fd ps ds) (hd:aD FV ds) (hx:iN CX X E) (ha:PA X (e::es) t)
  (Jc:starEach (e::es) X.env=(false,eval e X.env)::starEach es X.env:=by rfl) (F8:(backTo pos (starEach es X.env)).any (·.1)=false:=by rfl)
  (ht:eval (.Call (.Attribute o m apos) (e::es) [] pos) X.env=(do
   let ov <- eval o X.env
   standAt apos.atName
   let (f,first) <- holding [ov] (getMethod ov m pl)
   callWith pos f first (backTo pos (starEach (e::es) X.env)) (backToKw pos (keywordEach [] X.env))):=by rfl) :
  PE X (.Call (.Attribute o m apos) (e::es) [] pos) (zp C m sp FV E ta t):=by
 intro Fd s σ H Q I h;refine PySem.W.methodCall_KW (pl:=pl) (az (he Fd s σ H _ I h) fun u s1 hsl30=>?_) ht;obtain ⟨x,H1,I1,rx,a,dx,fs,ex,ea,l,q⟩:=hsl30;subst ex;obtain rfl:u=Value.ref a:=rx;refine ze I1 ea c hm l ?_;refine PySem.W.callWith_K (first:=[.ref a]) (h₀:=X.base) I.ok.mod.kin hm.kp (az (ha pos Fd s1 σ H1 _ I1 q) fun us s2 ⟨vs,H2,I2,r,q2⟩=>⟨I2.kIn,?_⟩) Jc F8;exact rT (us:=.ref a::us) (vs:=.ref a::vs) F hr hb hd hx I2 (.cons rfl r) q2
structure Mk (K:PySem.W.Frag) (C f:Addr):Prop where
 makes:PySem.W.makesIn K C=true
 init:PySem.W.findIn K (.ref C) "__init__"=some (some (.ref f))
 fn:PySem.W.isFn K (.ref f)=true
 kp:PySem.W.keepIn K (.ref C)=true
theorem zt {Fd:List (Addr × Obj)} {σ:St} {H:Hp} {s:Shared} {Q:VK} {us:List Value} {vs:List V} (M:Mk X.K C f) (F:aB X.prog X.w X.K X.mg X.base CX k f fd ps sp) (hr:ar (k+1) X.A) (hb:Binds X.K fd ps ds) (hd:aD FV ds)
  (hx:iN CX X E) (I:Inv X Fd σ H s) (r:aD vs us)
  (h:∀ x dx,H x=none->H dx=none->dx≠x->sp (.ref x::(vs++FV)) (upd (upd H dx (.own x)) x (.ins C dx [])) (fun v H2=>v=.non/\Q (.ref x) H2) E) :
  wpAny (model X.prog X.w) X.A (call (.ref C) us) (EP X Fd σ Q) X.xe s:=by
 have hq:=h (s.heap.objs.size+1) s.heap.objs.size (I.hok.fresh (Nat.le_succ _)) (I.hok.fresh (Qc _)) (QC (Nat.lt_succ_self _));have I2:=Inv.made (C:=C) I;have r2:aD (V.ref (s.heap.objs.size+1)::(vs++FV)) (Value.ref (s.heap.objs.size+1)::(us++ds)):=.cons rfl (r.append hd);have hl:(Value.ref (s.heap.objs.size+1)::us++ds).length=ps.length:=by have e:=r2.length;rw [F.len _ _ _ _ hq] at e;exact e.symm
 refine wpAny_call (zb (f:=f) I.kIn M.makes M.init (beq_iff_eq.mp M.fn) (codeAny_mono (F.run _ X.stack _ _ ⟨Value.ref (s.heap.objs.size+1)::us,[]⟩ (Value.ref (s.heap.objs.size+1)::(us++ds)) _ _ E (hr.make C us [])
  (I2.env0.make C us []) (hb _ (Value.ref (s.heap.objs.size+1)::us) I2.kIn hl) r2 hq) fun r s' hq'=>?_))
 cases r with
 | error e=>exact hx Fd σ _ _ e s' I2 hq'
 | ok fl =>
  cases fl with
  | ret u =>
   obtain ⟨v,H',I3,rv,ev,q3⟩:=I2.after hq';subst ev;exact ⟨rv,⟨V.ref (s.heap.objs.size+1),H',I3,rfl,q3⟩⟩
  | next=>exact False.elim hq'
  | brk=>exact False.elim hq'
  | cont=>exact False.elim hq'
theorem zu (M:Mk X.K C f) (F:aB X.prog X.w X.K X.mg X.base CX k f fd ps sp) (hr:ar (k+1) X.A) (hg:Gl X x) (hm:X.mg x=some (.ref C)) (hb:Binds X.K fd ps ds) (hd:aD FV ds) (hx:iN CX X E)
  (ha:PA X (e::es) t) (hdb:(x == ("__debug__":Str))=false:=by decide) (he:starEach (e::es) X.env=(false,eval e X.env)::starEach es X.env:=by rfl) (F8:(backTo pos (starEach es X.env)).any (·.1)=false:=by rfl) :
  PE X (.Call (.Name x p) (e::es) [] pos) (zq C sp FV E t):=by
 intro Fd s σ H Q I h;refine wpAny_Call_Name_kw (jL I hg hm ?_ hdb);refine PySem.W.callWith_K (h₀:=X.base) I.ok.mod.kin M.kp (az (ha pos Fd s σ H _ I h) fun us s1 ⟨vs,H1,I1,r,q⟩=>⟨I1.kIn,?_⟩) he F8;exact zt M F hr hb hd hx I1 r q
end
def PK (X:Cx) (kws:List Keyword) (t:TA):Prop :=
 ∀ (pos:Pos) (Fd:List (Addr × Obj)) (s:Shared) (σ:St) (H:Hp) (Q:List V->Hp->Prop),Inv X Fd σ H s->t σ H Q->wpAny (model X.prog X.w) X.A (evalAll ((backToKw pos (keywordEach kws X.env)).map (·.2))) (AP X Fd σ Q) X.xe s
section
variable {X:Cx} {CX:eL} {k:Nat} {f C:Addr} {fd:FuncData} {ps ks:List Str} {sp:Sp} {E:XK} {x m:Str} {p pos apos kpos:Pos} {e o:Expr} {es:List Expr} {kws:List Keyword} {te ta:TE} {t tk:TA} {nm:Option Str}
theorem zv:PK X [] rP:=fun _ _ _ _ H Q I h=>wpAny_evalAll_nil ⟨[],H,I,.nil,h⟩
theorem zw (ha:PE X e te) (hr:PK X kws t):PK X (⟨nm,e,kpos⟩::kws) (rQ te t):=by intro pos Fd s σ H Q I h;show wpAny _ _ (evalAll ((do let v <- eval e X.env;standAt pos;pure v)::(backToKw pos (keywordEach kws X.env)).map (·.2))) _ _ s;refine wpAny_evalAll_cons (Qb (az (ha Fd s σ H _ I h) fun u s1 ⟨x,H1,I1,r1,q1⟩=>Qb (wpAny_standAt (Qf ?_))));exact az (hr pos Fd s1 σ H1 _ I1 q1) fun us s2 hsl31=>by obtain ⟨xs,H2,I2,r2,q2⟩:=hsl31;exact ⟨x::xs,H2,I2,.cons r1 r2,q2⟩
variable {g:List Value->List Value->List Value} {gV:List V->List V->List V}
end
structure aT (N P:List Str) (sc:Scope):Prop where
 kind:sc.kind=.function
 co:sc.isCoroutine=false
 gen:sc.isGenerator=false
 nd:N.Nodup
 pre:N.take P.length=P
 par:∀ x∈P,sc.names.lookup x=some .local∨sc.names.lookup x=some .cell
 nofree:∀ y∈sc.names,y.2≠.free
theorem rU {kindOf:Str->Option NameKind} {x:Str}:∀ {HH:List (Str × Value)} {m:Str->Option Value},(∀ v,(x,v)∉HH)->bindL kindOf HH m x=m x
 | [],_,_=>rfl
 | (n,v)::r,m,h=>by
  unfold bindL;rw [rU fun w hw=>h w (Qw _ hw)];split
  ·have:x≠n:=by rintro rfl;exact h v QA
   simp [this]
  ·rfl
theorem rV {kindOf:Str->Option NameKind} {x:Str}:∀ {HH:List (Str × Value)} {m:Str->Option Value},(∀ v,(x,v)∉HH)->bindC kindOf HH m x=m x
 | [],_,_=>rfl
 | (n,v)::r,m,h=>by
  unfold bindC;rw [rV fun w hw=>h w (Qw _ hw)];split
  ·rfl
  ·have:x≠n:=by rintro rfl;exact h v QA
   simp [this]
theorem rW {kindOf:Str->Option NameKind} {x:Str} {v:Value}:∀ {P:List Str} {vs:List Value} {i:Nat} {m:Str->Option Value},P.Nodup->P[i]?=some x->vs[i]?=some v->kindOf x=some .local ->
  bindL kindOf (P.zip vs) m x=some v
 | [],_,_,_,_,h,_,_=>by simp at h
 | _::_,[],_,_,_,_,h,_=>by simp at h
 | p::P,w::vs,0,m,nd,h1,h2,hk=>by simp at h1 h2;subst h1;subst h2;show bindL kindOf ((p,w)::P.zip vs) m p=_;unfold bindL;rw [rU fun v hv=>(List.nodup_cons.mp nd).1 (List.of_mem_zip hv).1,if_pos hk];simp
 | p::P,w::vs,i+1,m,nd,h1,h2,hk=>by show bindL kindOf ((p,w)::P.zip vs) m x=_;unfold bindL;exact rW (i:=i) (List.nodup_cons.mp nd).2 (by simpa using h1) (by simpa using h2) hk
theorem rX {kindOf:Str->Option NameKind} {x:Str} {v:Value}:∀ {P:List Str} {vs:List Value} {i:Nat} {m:Str->Option Value},P.Nodup->P[i]?=some x->vs[i]?=some v->kindOf x≠some .local ->
  bindC kindOf (P.zip vs) m x=some v
 | [],_,_,_,_,h,_,_=>by simp at h
 | _::_,[],_,_,_,_,h,_=>by simp at h
 | p::P,w::vs,0,m,nd,h1,h2,hk=>by simp at h1 h2;subst h1;subst h2;show bindC kindOf ((p,w)::P.zip vs) m p=_;unfold bindC;rw [rV fun v hv=>(List.nodup_cons.mp nd).1 (List.of_mem_zip hv).1,if_neg hk];simp
 | p::P,w::vs,i+1,m,nd,h1,h2,hk=>by show bindC kindOf ((p,w)::P.zip vs) m x=_;unfold bindC;exact rX (i:=i) (List.nodup_cons.mp nd).2 (by simpa using h1) (by simpa using h2) hk
noncomputable def start (N:List Str) (vs:List V):St:=vs.map some++List.replicate (N.length-vs.length) none
noncomputable def fP (CX:eL) (P:Program) (w:World) (K:PySem.W.Frag) (mg:Str->Option Value) (base:Heap) (N:List Str) (qual:Str) (scope:Scope) (f:Addr) (cd:Value) (A:Around) (outer:List Env) (s:Shared) (H:Hp) (E:XK):Cx where
 prog:=P
 w:=w
 K:=K
 mg:=mg
 base:=base
 A:=A.deeper (envOfC qual scope s.heap.objs.size f cd)
 N:=N
 s₀:=s
 H₀:=H
 env:=envOfC qual scope s.heap.objs.size f cd
 outer:=outer
 stack:=envOfC qual scope s.heap.objs.size f cd::outer
 ex:=[]
 calm:=true
 fn:=fun _=>true
 pn:=[]
 xe:=fun e s'=>wpAny (model P w) (A.deeper (envOfC qual scope s.heap.objs.size f cd)) (leaving (envOfC qual scope s.heap.objs.size f cd) e) (fun _ s''=>CX outer H s E e s'') (fun e' s''=>CX outer H s E e' s'') s'
theorem rY {sc:Scope} {n:Nat} {x:Str} (h:sc.names.lookup x=some .cell):∃ c,(cellsFrom n sc.names []).lookup x=some c:=by have q:=PySem.W.cellsFrom_some sc.names n [] (.inl h);exact Option.isSome_iff_exists.mp q
theorem zx {CX:eL} {P:Program} {w:World} {K:PySem.W.Frag} {mg:Str->Option Value} {base:Heap} {N ps:List Str} {qual:Str} {scope:Scope} {f:Addr} {cd:Value} {A:Around} {outer:List Env} {s s1:Shared} {H:Hp} {E:XK} {us:List Value} {vs:List V}
  (S:aT N ps scope) (hd:A.handled=none) (e0:d5 P w K mg base A outer s H) (hl:vs.length=ps.length) (r:aD vs us)
  (x:InCallC s s.heap.objs.size (bindL (envOfC qual scope s.heap.objs.size f cd).kindOf (ps.zip us) fun _=>none) (cellsFrom (s.heap.objs.size+1) scope.names []) (bindC (envOfC qual scope s.heap.objs.size f cd).kindOf (ps.zip us) fun _=>none) s1) :
  Inv (fP CX P w K mg base N qual scope f cd A outer s H E) [] (start N vs) H s1:=by
 have F8:ps.length<=N.length:=by have:=congrArg List.length S.pre;rw [QJ] at this;lia
 obtain ⟨h1,tk,rfl,hk⟩:=x.done;have noA:∀ b:Addr,b∉(fP CX P w K mg base N qual scope f cd A outer s H E).ex:=fun b z=>absurd (show b∈([]:List Addr) from z) (by simp)
 refine ⟨⟨e0.mod,S.kind,rfl,rfl,Qc _,fun y z c h1 h2=>?_,fun y hy=>?_,fun y c _ h=>?_,fun _=>hd,Around.frames_deeper e0.frames,.inr ⟨rfl,rfl⟩,fun b z=>absurd z (noA b),e0.bs,e0.bsz,fun b _ _=>noA b,fun b z=>absurd z (noA b),e0.funs,e0.frf⟩,
  rfl,e0.bare,Un.kept hk,⟨_,x.toInCall.ns,fun i y v h1 h2 h3=>?_⟩,fun y c h=>⟨_,x.cell y c h⟩,e0.hok.fresh (Qc _),fun y c h=>?_,fun p hp=>absurd (show p∈([]:List (Addr × Obj)) from hp) (by simp),e0.hok.kept hk,?_⟩
 ·exact name_of_addr x.apart (PySem.mem_of_lookup h1) (PySem.mem_of_lookup h2)
 ·have hy:scope.names.lookup y=some .cell∨scope.names.lookup y=some .free:=hy;rcases hy with hy | hy
  ·exact rY hy
  ·exact absurd rfl (S.nofree _ (PySem.mem_of_lookup hy))
 ·exact QP (x.above y c (PySem.mem_of_lookup h))
 ·have hi:i<vs.length:=by
   unfold start at h2;by_cases hi:i<vs.length
   ·exact hi
   ·rw [QF (by simpa using hi)] at h2;rw [List.getElem?_replicate] at h2;split at h2<;>cases h2
  have ha:vs[i]?=some v:=by
   unfold start at h2;rw [QI (by simpa using hi),Qu] at h2
   cases e:vs[i]? with
   | none=>rw [e] at h2;cases h2
   | some a=>rw [e] at h2;cases h2;rfl
  obtain ⟨u,hu,rv⟩:=r.get ha;have hp:ps[i]?=some y:=by rw [<- S.pre,List.getElem?_take_of_lt (by lia)];exact h1
  have ndP:ps.Nodup:=by rw [<- S.pre];exact S.nd.sublist (List.take_sublist _ _)
  refine ⟨u,rv,?_⟩;rcases S.par y (Qz hp) with k | k
  ·exact .inl ⟨k,rW ndP hp hu k⟩
  ·obtain ⟨c,e⟩:=rY (n:=s.heap.objs.size+1) k;refine .inr ⟨.inl k,c,e,?_⟩;have q:=x.cell y c e;rw [rX ndP hp hu (by show scope.names.lookup y≠_;rw [k];decide)] at q;exact q
 ·exact e0.hok.fresh (QP (x.above y c (PySem.mem_of_lookup h)))
 ·unfold start;show _=N.length;rw [QE,Qe,List.length_replicate];lia
theorem zy {CX:eL} {P:Program} {w:World} {K:PySem.W.Frag} {mg:Str->Option Value} {base:Heap} {k:Nat} {f:Addr} {name qual:Str} {params:Arguments} {body:List Stmt} {scope:Scope} {dV kV Io pm Fk ct oc:Value} {an od:Option Addr}
  {osl:Array (Option Value)} {N ps:List Str} {sp:Sp} (lk:K.lookup f=some ⟨oc,od,.func (PySem.W.fnOf name qual params body scope dV kV Io pm an Fk ct),osl⟩) (hcd:PySem.W.codeIn K Fk qual=true) (S:aT N ps scope)
  (len:∀ vs H Q E,sp vs H Q E->vs.length=ps.length)
  (JD:∀ (A:Around) (outer:List Env) (s:Shared) (H:Hp) (vs:List V) (Q:VK) (E:XK),ar k (A.deeper (envOfC qual scope s.heap.objs.size f Fk))->sp vs H Q E ->
   ∃ t,dP (fP CX P w K mg base N qual scope f Fk A outer s H E) body t/\t { nx:=fun _ H'=>Q .non H',rt:=Q } (start N vs) H) :
  aB P w K mg base CX (k+1) f (PySem.W.fnOf name qual params body scope dV kV Io pm an Fk ct) ps sp:=by
 refine ⟨len,fun A outer s H args us vs Q E hr e0 hb r Jd=>?_⟩;have hl:=len _ _ _ _ Jd;have KX:K.In s.heap:=e0.mod.kin.keeps fun b o e=>(e0.bs b o e).1;have lim:s.heap.NoLimit:=e0.mod.nolimit.keeps fun b o e=>(e0.bs b o e).1
 have hkind:∀ y∈ps.zip us,scope.names.lookup y.1=some .local∨(scope.names.lookup y.1=some .cell/\((cellsFrom (s.heap.objs.size+1) scope.names []).lookup y.1).isSome=true):=fun ⟨n,v⟩ hy=>by
  rcases S.par n (List.of_mem_zip hy).1 with q | q
  ·exact .inl q
  ·exact .inr ⟨q,PySem.W.cellsFrom_some _ _ _ (.inl q)⟩
 refine codeAny_call_function hr.depth (KX _ _ lk) rfl S.co S.gen rfl (PySem.W.codeRec_of KX hcd) (hb _ _ _ _ ?_);refine wpAny_newFunctionEnv_cells S.kind hkind fun env he s1 x=>?_;subst he;refine ⟨lim.keeps x.toInCall.keep,codeAny_func ?_⟩;obtain ⟨t,ht,hq⟩:=JD A outer s H vs Q E (hr.deeper _) Jd;have I:Inv (fP CX P w K mg base N qual scope f Fk A outer s H E) [] (start N vs) H s1:=zx S hr.hd e0 hl r x;refine QR (ht [] s1 (start N vs) H _ I hq) (fun fl s' hs=>?_) fun e s' hs=>hs
 have fin:∀ {σ':St} {H':Hp} {v:V} {u:Value},Inv (fP CX P w K mg base N qual scope f Fk A outer s H E) [] σ' H' s'->RelV v u->Q v H'->CE outer P w H s Q u s' :=
  fun {σ' H' v u} J rv q=>⟨v,H',J.os,J.bare,J.base,J.hok,rv,q⟩
 cases fl with
 | ret u =>
  obtain ⟨v,σ',H',J,rv,q⟩:=hs;exact fin J rv q
 | next =>
  obtain ⟨σ',H',J,q⟩:=hs;exact fin (v:=V.non) (u:=Value.none) J rfl q
 | brk =>
  obtain ⟨_,_,_,q⟩:=hs;exact False.elim q
 | cont =>
  obtain ⟨_,_,_,q⟩:=hs;exact False.elim q
section
variable {X:Cx} {x:Str} {p pos:Pos} {e:Expr} {es:List Expr} {t:TA} {id T:String} {r:List V->Hp->VK->Prop}
def rZ (r:List V->Hp->VK->Prop) (t:TA):TE:=fun σ H Q=>t σ H fun vs H1=>r vs H1 Q
theorem di (hc:d0 X (.builtin id) r) (hg:Gl X x) (hm:X.mg x=none) (hv:bootBuiltins x=some (.builtin id)) (ha:PA X (e::es) t) (hn:x≠"__name__":=by decide) (hdb:(x == ("__debug__":Str))=false:=by decide)
  (he:starEach (e::es) X.env=(false,eval e X.env)::starEach es X.env:=by rfl) (F8:(backTo pos (starEach es X.env)).any (·.1)=false:=by rfl):PE X (.Call (.Name x p) (e::es) [] pos) (rZ r t):=by
 intro Fd s σ H Q I h;refine wpAny_Call_Name_kw (iJ I hg hm hv ?_ hn hdb);exact PyProof.Rows.callWith_builtin1 (az (ha pos Fd s σ H _ I h) fun us s1 hsl32=>by obtain ⟨vs,H1,I1,r1,q1⟩:=hsl32;exact hc Fd s1 σ H1 vs us Q I1 r1 q1) he F8
theorem iO (hc:d0 X (.type T) r) (hg:Gl X x) (hm:X.mg x=none) (hv:bootBuiltins x=some (.type T)) (ha:PA X (e::es) t) (hn:x≠"__name__":=by decide) (hdb:(x == ("__debug__":Str))=false:=by decide)
  (he:starEach (e::es) X.env=(false,eval e X.env)::starEach es X.env:=by rfl) (F8:(backTo pos (starEach es X.env)).any (·.1)=false:=by rfl):PE X (.Call (.Name x p) (e::es) [] pos) (rZ r t):=by
 intro Fd s σ H Q I h;refine wpAny_Call_Name_kw (iJ I hg hm hv ?_ hn hdb);exact PyProof.Rows.callWith_type1 (az (ha pos Fd s σ H _ I h) fun us s1 hsl33=>by obtain ⟨vs,H1,I1,r1,q1⟩:=hsl33;exact hc Fd s1 σ H1 vs us Q I1 r1 q1) he F8
end
end L2
namespace HT
open PySem PyProof.Rows
section
variable {prog:Program} {w:World} {A:Around} {E:Value->Shared->Prop} {s:Shared}
theorem cat_tup {t b:Addr} {vs ws:List Value} {Q:Value->Shared->Prop} (ht:IsTup s.heap t vs.toArray) (hb:IsTup s.heap b ws.toArray) (hv:vs≠[])
  (h1:ws=[]->Q (.ref t) s) (h2:ws≠[]->Q (.ref s.heap.objs.size) { s with heap:=s.heap.push { cls:=.type "tuple",data:=.seq (vs++ws).toArray } })
  (hsz:vs.length+ws.length<=sizeLine):wpAny (model prog w) A (binaryOp .Add (.ref t) (.ref b)) Q E s:=by
 obtain ⟨⟨cls,dd,data,sl⟩,ho,hc,n,hd⟩:=id ht;obtain ⟨⟨cls2,dd2,data2,sl2⟩,Hw,hc2,n2,IG⟩:=id hb;simp only at hc hd hc2 IG;subst hc hd hc2 IG;have e:vs.toArray++ws.toArray=(vs++ws).toArray:=by simp
 by_cases hw:ws=[]
 ·exact concat_meets ⟨_,ho,rfl⟩ ⟨_,Hw,rfl⟩ noFill_tuple_add seq_tuple_add PySem.F.slot_tuple_add PySem.F.entry_tuple_add (PySem.F.args_tuple_add_2 _ _)
   (tuple_addW1 t b vs.toArray ws.toArray n n2 dd dd2 sl sl2 (by simpa using hv) (by simp [hw])) ⟨ho,Hw,h1 hw⟩
 ·refine concat_meets ⟨_,ho,rfl⟩ ⟨_,Hw,rfl⟩ noFill_tuple_add seq_tuple_add PySem.F.slot_tuple_add PySem.F.entry_tuple_add (PySem.F.args_tuple_add_2 _ _)
   (tuple_addW2 t b vs.toArray ws.toArray n n2 dd dd2 sl sl2 (by simpa using hv) (by simpa using hw) (by rw [Qk,Qk];exact hsz)) ⟨ho,Hw,?_⟩
  rw [e];exact h2 hw
noncomputable def sIx (n d:Nat):Option Int->Nat
 | none=>d
 | some v=>if v<0 then (v+(n:Int)).toNat else min v.toNat n
theorem sIx_le (n d:Nat) (hd:d<=n) (o:Option Int):sIx n d o<=n:=by
 cases o with
 | none=>exact hd
 | some v =>
  show (if v<0 then (v+(n:Int)).toNat else min v.toNat n)<=n;by_cases hv:v<0
  ·rw [if_pos hv];lia
  ·rw [if_neg hv];exact Nat.min_le_right _ _
theorem r9 (v:Int) (n d:Nat):(if v<0 then max (v+(n:Int)) 0 else min v (n:Int))=((sIx n d (some v):Nat):Int):=by
 show (if v<0 then max (v+(n:Int)) 0 else min v (n:Int))=(((if v<0 then (v+(n:Int)).toNat else min v.toNat n):Nat):Int);by_cases hv:v<0
 ·simp only [if_pos hv];lia
 ·simp only [if_neg hv];lia
theorem zz (lo hi:Option Int) (n:Nat):Builtin.Slice.sliceAdjust lo hi 1 (n:Int)=(((sIx n 0 lo:Nat):Int),((sIx n n hi:Nat):Int)):=by
 have h1:¬ ((1:Int)<0):=by omega
 unfold Builtin.Slice.sliceAdjust;simp only [h1,if_false];refine Prod.ext ?_ ?_
 ·cases lo with
  | none=>rfl
  | some v=>exact r9 v n 0
 ·cases hi with
  | none=>rfl
  | some v=>exact r9 v n n
theorem zA (i j:Nat):Builtin.Slice.slicePlaces (i:Int) (j:Int) 1=j-i:=by
 unfold Builtin.Slice.slicePlaces;have h1:(1:Int)>0:=by lia
 simp only [h1,if_true,Int.ediv_one];split<;>lia
theorem si {v:Value} {o:Option Int} {Q:Option Int->Shared->Prop} (p:IsPart v o) (h:Q o s):wpAny (model prog w) A (Builtin.Slice.slicePartIndex v) Q E s:=by
 cases p with
 | none=>exact slicePart_none h
 | int i t=>exact slicePart_int h
theorem zB {sl:Addr} {vl vu:Value} {lo hi:Option Int} {n:Nat} {Q:Int × Int × Nat->Shared->Prop} (hs:s.heap.IsSliceOf sl vl vu .none) (pl:IsPart vl lo) (pu:IsPart vu hi)
  (h:Q (((sIx n 0 lo:Nat):Int),1,sIx n n hi-sIx n 0 lo) s):wpAny (model prog w) A (Builtin.Slice.sliceApplied (.ref sl) (pure (n:Int))) Q E s:=by
 obtain ⟨os,F4,hcs,hds⟩:=id hs;unfold Builtin.Slice.sliceApplied Builtin.Slice.sliceFields;refine Qb (Qb (wpAny_field F4 hds (x:=vl) rfl (Qb (wpAny_field F4 hds (x:=vu) rfl (Qb (wpAny_field F4 hds (x:=.none) rfl (Qf ?_)))))));refine Qb (slicePart_none ?_);show wpAny _ _ (if ((1:Int) == 0)=true then _ else _) _ _ s;rw [if_neg (by decide)];refine Qb (si pl (Qb (si pu (Qb (Qf ?_)))));show wpAny _ _ (match Builtin.Slice.sliceAdjust lo hi 1 (n:Int) with | (lo,hi)=>pure (lo,(1:Int),Builtin.Slice.slicePlaces lo hi 1)) _ _ s;rw [zz lo hi n];show wpAny _ _ (pure (((sIx n 0 lo:Nat):Int),(1:Int),Builtin.Slice.slicePlaces ((sIx n 0 lo:Nat):Int) ((sIx n n hi:Nat):Int) 1)) _ _ s;rw [zA];exact Qf h
theorem zC (xs:Array Value) (i k:Nat):((List.range k).filterMap fun (m:Nat)=>xs[((i:Int)+(m:Int)*1).toNat]?).toArray=((xs.toList.drop i).take k).toArray:=by
 have e:(fun (m:Nat)=>xs[((i:Int)+(m:Int)*1).toNat]?)=fun m=>xs[i+m]?:=by
  funext m;have:((i:Int)+(m:Int)*1).toNat=i+m:=by lia
  rw [this]
 rw [e];have:=pick_run xs i k;rw [List.filterMap_map] at this;have e2:((fun x=>xs[x]?)∘fun x=>i+x)=fun m=>xs[i+m]?:=rfl;rw [e2] at this;rw [this]
theorem getItem_tuple_cut {t sl:Addr} {items:Array Value} {vl vu:Value} {lo hi:Option Int} {Q:Value->Shared->Prop} (ht:IsTup s.heap t items) (hs:s.heap.IsSliceOf sl vl vu .none) (pl:IsPart vl lo) (pu:IsPart vu hi)
  (hw:¬ (sIx items.size 0 lo=0/\sIx items.size items.size hi=items.size))
  (h:Q (.ref s.heap.objs.size) { s with heap:=s.heap.push { cls:=.type "tuple",data:=.seq ((items.toList.drop (sIx items.size 0 lo)).take (sIx items.size items.size hi-sIx items.size 0 lo)).toArray } })
  (hsz:items.size<=sizeLine):wpAny (model prog w) A (getItem (.ref t) (.ref sl)) Q E s:=by
 have Iv:sizeOk (.seq ((items.toList.drop (sIx items.size 0 lo)).take (sIx items.size items.size hi-sIx items.size 0 lo)).toArray):=by show ((items.toList.drop (sIx items.size 0 lo)).take (sIx items.size items.size hi-sIx items.size 0 lo)).toArray.size<=sizeLine;rw [Qk,QJ,List.length_drop,Qv];omega
 have hj:sIx items.size items.size hi<=items.size:=sIx_le _ _ (Qc _) hi;obtain ⟨os,F4,hcs,hds⟩:=id hs
 have hTs:s.TypeIs (.ref sl) "slice":=⟨os,F4,hcs⟩
 unfold getItem
 try with_reducible refine wpAny_holding ?_
 first | refine Qb (Qf ?_) | skip
 refine Qb (wpAny_sequenceKey ht.typeIs (by decide) ?_)
 refine Qb (wpAny_callSpecial?_slot (name:=Str.ofString "__getitem__") ht.typeIs PyProof.Rows.slot_tuple_getitem
  (wpAny_call_entry PyProof.Rows.slot_tuple_getitem ht.typeIs entry_tuple_getitem ?_ (args_tuple_getitem _ _)))
 show wpAny _ _ (Builtin.Tuple.tupleItemsOf (.ref t) >>= _) _ _ s;refine Qb (tupleItemsOf_ ht ?_);refine Qb (wpAny_typeOf hTs ?_);rw [if_pos (by decide)];refine Qb (zB hs pl pu ?_);have hno:¬ ((((sIx items.size 0 lo:Nat):Int) == 0&&(1:Int) == 1&&(sIx items.size items.size hi-sIx items.size 0 lo) == items.size)=true):=by intro q;rw [Bool.and_eq_true,Bool.and_eq_true] at q;have q1:((sIx items.size 0 lo:Nat):Int)=0:=eq_of_beq q.1.1;have q2:sIx items.size items.size hi-sIx items.size 0 lo=items.size:=eq_of_beq q.2;exact hw ⟨by omega,by omega⟩
 show wpAny _ _ (if (((sIx items.size 0 lo:Nat):Int) == 0&&(1:Int) == 1&&(sIx items.size items.size hi-sIx items.size 0 lo) == items.size)=true then _ else _) _ _ s;rw [if_neg hno,zC]
 first
  | exact Qb (m:=Builtin.Tuple.tupleExact _) (wpAny_newObj_type (Qf ⟨_,rfl,Qf h⟩) Iv)
  | exact Qb (m:=Builtin.Tuple.tupleExact _) (wpAny_newObj_type (Qb (Qf (Qf ⟨_,rfl,Qf h⟩))) Iv)
  | exact Qb (Qb (m:=Builtin.Tuple.tupleExact _) (wpAny_newObj_type (Qf (Qf ⟨_,rfl,Qf h⟩)) Iv))
  | exact Qb (Qb (m:=Builtin.Tuple.tupleExact _) (wpAny_newObj_type (Qf ⟨_,rfl,Qf h⟩) Iv))
end
end HT
namespace L2
open PySem PySem.Spec PyProof.Rows
abbrev TO:=St->Hp->(Option Int->Hp->Prop)->Prop
def PO (X:Cx) (e:Option Expr) (t:TO):Prop :=
 ∀ (Fd:List (Addr × Obj)) (s:Shared) (σ:St) (H:Hp) (Q:Option Int->Hp->Prop),Inv X Fd σ H s->t σ H Q ->
  wpAny (model X.prog X.w) X.A (evalPart e X.env) (fun u s'=>∃ o H',Inv X Fd σ H' s'/\IsPart u o/\Q o H') X.xe s
def zD:TO:=fun _ H Q=>Q none H
def zE (t:TE):TO:=fun σ H Q=>t σ H fun x H1=>∃ i,x=.int i/\Q (some i) H1
section
variable {X:Cx} {e:Expr} {te:TE} {lo hi:Option Expr} {tl th:TO} {pos p2:Pos}
theorem fh:PO X none zD:=by intro Fd s σ H Q I h;rw [evalPart_none];exact Qf ⟨none,H,I,.none,h⟩
theorem fi (h:PE X e te):PO X (some e) (zE te):=by intro Fd s σ H Q I hw;rw [evalPart_some];refine az (h Fd s σ H _ I hw) fun u s1 hsl34=>?_;obtain ⟨x,H1,I1,r1,q1⟩:=hsl34;obtain ⟨i,rfl,q⟩:=q1;obtain ⟨t,rfl⟩:=r1;exact ⟨some i,H1,I1,.int i t,q⟩
def iP (X:Cx) (r:V->Option Int->Option Int->Hp->VK->Prop):Prop :=
 ∀ (Fd:List (Addr × Obj)) (s:Shared) (σ:St) (H:Hp) (x:V) (v vl vu:Value) (lo hi:Option Int) (sl:Addr) (Q:VK),Inv X Fd σ H s->RelV x v->s.heap.IsSliceOf sl vl vu .none->IsPart vl lo->IsPart vu hi->r x lo hi H Q ->
  ∃ T id,typeLookup (.type T) "__getitem__"=pure (some (.builtin id))/\s.TypeIs v T/\wpAny (model X.prog X.w) X.A (getItem v (.ref sl)) (EP X Fd σ Q) X.xe s
def zF (r:V->Option Int->Option Int->Hp->VK->Prop) (te:TE) (tl th:TO):TE:=fun σ H Q=>te σ H fun x H1=>tl σ H1 fun l H2=>th σ H2 fun u H3=>r x l u H3 Q
theorem fj {r:V->Option Int->Option Int->Hp->VK->Prop} (hr:iP X r) (he:PE X e te) (hl:PO X lo tl) (hu:PO X hi th):PE X (.Subscript e (.Slice lo hi none p2) pos) (zF r te tl th):=by intro Fd s σ H Q I h;refine Subscript_ (az (he Fd s σ H _ I h) fun v s1 hsl35=>?_);obtain ⟨x,H1,I1,r1,q1⟩:=hsl35;refine wpAny_Slice (az (hl Fd s1 σ H1 _ I1 q1) fun vl s2 ⟨l,H2,I2,pl,q2⟩=>az (hu Fd s2 σ H2 _ I2 q2) fun vu s3 hsl36=>?_);obtain ⟨u,H3,I3,pu,q3⟩:=hsl36;rw [evalPart_none];refine Qf ?_;have I4:Inv X Fd σ H3 { s3 with heap:=s3.heap.push { cls:=.type "slice",data:=.fields #[vl,vu,.none] } }:=I3.kept (t':=s3.toks) fun b ob q=>Qd _ q;obtain ⟨T,id,hT,ht,hg⟩:=hr Fd { s3 with heap:=s3.heap.push { cls:=.type "slice",data:=.fields #[vl,vu,.none] } } σ H3 x v vl vu l u s3.heap.objs.size Q I4 r1 (Heap.IsSliceOf.new ..) pl pu q3;show wpAny (model X.prog X.w) X.A (subscriptTail e (.Slice lo hi none p2) v (.ref s3.heap.objs.size)) (EP X Fd σ Q) X.xe { s3 with heap:=s3.heap.push { cls:=.type "slice",data:=.fields #[vl,vu,.none] } };exact tail_any (ops:=[.ref s3.heap.objs.size,v]) ht hT hg (by with_unfolding_all rfl)
noncomputable def dQ (xs:List V) (lo hi:Option Int):List V:=(xs.drop (HT.sIx xs.length 0 lo)).take (HT.sIx xs.length xs.length hi-HT.sIx xs.length 0 lo)
theorem sj (xs:List V) (lo hi:Option Int):(dQ xs lo hi).length<=xs.length:=by unfold dQ;rw [QJ,List.length_drop];omega
inductive nU (K:PySem.W.Frag) (x:V) (lo hi:Option Int) (H:Hp) (Q:VK):Prop
 | mk:∀ a xs,x=.ref a->au K H a xs->¬ (HT.sIx xs.length 0 lo=0/\HT.sIx xs.length xs.length hi=xs.length)->(∀ p,H p=none->Q (.ref p) (upd H p (.tup (dQ xs lo hi))))->nU K x lo hi H Q
theorem zG:iP X (nU X.K):=by
 intro Fd s σ H x v vl vu lo hi sl Q I rx hs pl pu h;obtain ⟨a,xs,rfl,hx,hw,q⟩:=h;cases rx;obtain ⟨its,r,ht,hz⟩:=I.tuple hx;have Fj:its.toArray.size=xs.length:=by rw [Qk];exact r.length.symm
 refine ⟨"tuple",_,PyProof.Rows.slot_tuple_getitem.lookup,ht.typeIs,?_⟩;refine HT.getItem_tuple_cut ht hs pl pu (by rw [Fj];exact hw) ?_ (by rw [Fj];exact hz);rw [Fj];refine ⟨.ref s.heap.objs.size,_,I.laid (t':=s.toks) (o:=.tup (dQ xs lo hi)) (fun b ob q=>Qd _ q) (Qc _) ?_,rfl,q _ (I.hok.fresh (Qc _))⟩;exact ⟨Qq (sj xs lo hi) hz,_,(r.drop (HT.sIx xs.length 0 lo)).take (HT.sIx xs.length xs.length hi-HT.sIx xs.length 0 lo),IsTup.new _ _,iI.new _ _⟩
inductive nV (K:PySem.W.Frag) (x y:V) (H:Hp) (Q:VK):Prop
 | mk:∀ a b xs ys,x=.ref a->y=.ref b->au K H a xs->au K H b ys->xs≠[]->xs.length+ys.length<=sizeLine->(ys=[]->Q (.ref a) H)->(ys≠[]->∀ p,H p=none->Q (.ref p) (upd H p (.tup (xs++ys))))->nV K x y H Q
theorem aD.nil_iff {xs:List V} {us:List Value} (r:aD xs us):us=[]↔xs=[]:=by
 cases r with
 | nil=>simp
 | cons _ _=>simp
theorem lv:bD X (binaryOp .Add) (nV X.K):=by intro Fd s σ H x y v u Q I rx ry h;obtain ⟨a,b,xs,ys,rfl,rfl,ha,hb,hx,hz,q1,q2⟩:=h;cases rx;cases ry;obtain ⟨its,r1,p1,_⟩:=I.tuple ha;obtain ⟨Gz,r2,p2,_⟩:=I.tuple hb;refine HT.cat_tup p1 p2 (fun z=>hx (r1.nil_iff.mp z)) (fun z=>⟨.ref a,H,I,rfl,q1 (r2.nil_iff.mp z)⟩) (fun z=>?_) (by rw [<- r1.length,<- r2.length];exact hz);refine ⟨.ref s.heap.objs.size,_,I.laid (t':=s.toks) (o:=.tup (xs++ys)) (fun b ob q=>Qd _ q) (Qc _) ?_,rfl,q2 (fun w=>z (r2.nil_iff.mpr w)) _ (I.hok.fresh (Qc _))⟩;exact ⟨by rw [QE];exact hz,_,r1.append r2,IsTup.new _ _,iI.new _ _⟩
end
noncomputable def iQ (n:Nat) (i:Int):Option Nat:=if 0<=i then (if i<n then some i.toNat else none) else if -(n:Int)<=i then some (i+n).toNat else none
noncomputable def gm {α:Type} (xs:List α) (i:Int):Option α:=(iQ xs.length i).bind fun j=>xs[j]?
theorem zH {n:Nat} {i:Int} {j:Nat} (h:iQ n i=some j):seqIndex? i n=some j/\j<n/\-(n:Int)<=i/\i<n:=by
 unfold iQ at h;by_cases h0:0<=i
 ·rw [if_pos h0] at h;by_cases h1:i<n
  ·rw [if_pos h1] at h;have e:i.toNat=j:=Qp h;exact ⟨by rw [seqIndex_of h0 h1,e],by lia,by lia,h1⟩
  ·rw [if_neg h1] at h;cases h
 ·rw [if_neg h0] at h;by_cases h1:-(n:Int)<=i
  ·rw [if_pos h1] at h;have e:(i+n).toNat=j:=Qp h;exact ⟨by rw [seqIndex_neg (by lia) h1,e],by lia,h1,by lia⟩
  ·rw [if_neg h1] at h;cases h
theorem nW {α:Type} {xs:List α} {i:Int} {v:α} (h:gm xs i=some v):∃ j,seqIndex? i xs.length=some j/\xs[j]?=some v/\j<xs.length/\-(xs.length:Int)<=i/\i<xs.length:=by
 unfold gm at h
 cases e:iQ xs.length i with
 | none=>rw [e] at h;cases h
 | some j =>
  rw [e] at h;obtain ⟨h1,h2,h3,h4⟩:=zH e;exact ⟨j,h1,h,h2,h3,h4⟩
theorem bn {α:Type} {xs:List α} {j:Nat} {v:α} (h:xs[j]?=some v):gm xs (j:Int)=some v:=by
 have hj:j<xs.length:=(Qh h).1;have e:iQ xs.length (j:Int)=some j:=by unfold iQ;rw [if_pos (by lia),if_pos (by lia)];simp
 unfold gm;rw [e];exact h
def sk (b:Expr):Prop:=∀ o i,subscripted b false o i=operate [o,i] (getItem o i)
def gX (X:Cx) (r:R2):Prop :=
 ∀ (value slice:Expr) (Fd:List (Addr × Obj)) (s:Shared) (σ:St) (H:Hp) (x y:V) (v u:Value) (Q:VK),Inv X Fd σ H s->RelV x v->RelV y u->r x y H Q ->
  subscripted slice false v u=operate [v,u] (getItem v u)->wpAny (model X.prog X.w) X.A (subscriptTail value slice v u) (EP X Fd σ Q) X.xe s
def nX (X:Cx) (id:String) (r:V->List V->Hp->VK->Prop):Prop :=
 ∀ (Fd:List (Addr × Obj)) (s:Shared) (σ:St) (H:Hp) (x:V) (xs:List V) (v:Value) (us:List Value) (Q:VK),Inv X Fd σ H s->RelV x v->aD xs us->r x xs H Q ->
  wpAny (model X.prog X.w) X.A (call (.builtin id) (v::us)) (EP X Fd σ Q) X.xe s
section
variable {X:Cx} {a b:Expr} {ta tb:TE} {pos:Pos}
theorem cB {r:R2} (hr:gX X r) (ha:PE X a ta) (hb:PE X b tb) (hs:sk b):PE X (.Subscript a b pos) (gU r ta tb):=by intro Fd s σ H Q I h;exact Subscript_ (nM ha hb I h fun v u s2 x y H2 I2 rx ry q=>hr a b Fd s2 σ H2 x y v u Q I2 rx ry q (hs _ _))
inductive jR (K:PySem.W.Frag) (x y:V) (H:Hp) (Q:VK):Prop
 | mk:∀ p xs i v,x=.ref p->y=.int i->ak K H p xs->gm xs i=some v->Q v H->jR K x y H Q
inductive jS (K:PySem.W.Frag) (x y:V) (H:Hp) (Q:VK):Prop
 | mk:∀ p xs i v,x=.ref p->y=.int i->au K H p xs->gm xs i=some v->Q v H->jS K x y H Q
inductive sn (x y:V) (H:Hp) (Q:VK):Prop
 | mk:∀ z i c,x=.str z->y=.int i->z.length<=sizeLine->gm z.cps.toList i=some c->Q (.str ⟨#[c]⟩) H->sn x y H Q
theorem sr:gX X (jR X.K):=by
 intro value slice Fd s σ H x y v u Q I rx ry h hs;obtain ⟨p,xs,i,z,rfl,rfl,hq,he,q⟩:=h;cases rx;obtain ⟨t,rfl⟩:=ry;obtain ⟨its,r,pl,hz⟩:=I.list hq;obtain ⟨j,h1,h2,h3,h4,h5⟩:=nW he;obtain ⟨w,ew,Hq⟩:=r.get h2;have hl:=r.length;have hn:=jQ
 have fin:EP X Fd σ Q w s:=⟨z,H,I,Hq,q⟩
 by_cases h0:0<=i
 ·have hj:i.toNat=j:=by rw [seqIndex_of h0 h5] at h1;exact Qp h1
  exact item_listR pl.isList h0 (by lia) (by rw [hj];simpa using ew) fin hs
 ·have hj:(i+(its.toArray.size:Int)).toNat=j:=by rw [seqIndex_neg (by lia) h4] at h1;rw [Qk,<- hl];exact Qp h1
  exact subscriptTail_builtinR (x:=w) pl.isList.typeIs slot_list_getitem.lookup
   (wpAny_getItem_list_neg (Q:=fun r s'=>r=w/\EP X Fd σ Q r s') pl.isList (by lia) (by rw [Qk]<;>lia) (by lia) (by rw [hj];simpa using ew) ⟨rfl,fin⟩) hs
theorem zI:gX X (jS X.K):=by
 intro value slice Fd s σ H x y v u Q I rx ry h hs;obtain ⟨p,xs,i,z,rfl,rfl,hq,he,q⟩:=h;cases rx;obtain ⟨t,rfl⟩:=ry;obtain ⟨its,r,pl,hz⟩:=I.tuple hq;obtain ⟨j,h1,h2,h3,h4,h5⟩:=nW he;obtain ⟨w,ew,Hq⟩:=r.get h2;have hl:=r.length;have hn:=jQ
 have fin:EP X Fd σ Q w s:=⟨z,H,I,Hq,q⟩
 exact subscriptTail_builtinR (x:=w) pl.typeIs slot_tuple_getitem.lookup
  (getItem_tuple (j:=j) (Q:=fun r s'=>r=w/\EP X Fd σ Q r s') pl (by lia) (by lia) (by rw [Qk,<- hl];exact h1) (by simpa using ew) ⟨rfl,fin⟩) hs
theorem jT:gX X sn:=by
 intro value slice Fd s σ H x y v u Q I rx ry h hs;obtain ⟨z,i,c,rfl,rfl,hz,he,q⟩:=h;obtain ⟨t,rfl⟩:=rx;obtain ⟨t',rfl⟩:=ry;obtain ⟨j,h1,h2,h3,h4,h5⟩:=nW he;have hl:z.cps.toList.length=z.length:=by simp [Str.length]
 rw [hl] at h1 h4 h5;have hn:=jQ
 exact tail_any (typeIs_str s z t) slot_str_getitem.lookup (getItem_str (c:=c) (by
  have e1:decide (i < -(2 ^ 63:Int))=false:=Qj (by lia);have e2:decide (i ≥ 2 ^ 63)=false:=Qj (by lia)
  rw [e1,e2,Bool.or_false]) (by rw [h1];simpa using h2) ⟨.str ⟨#[c]⟩,H,I.tok _,⟨_,rfl⟩,q⟩) hs
theorem zJ (lo hi:Option Int) (n:Nat):(sliceBounds lo hi none n).1=((HT.sIx n 0 lo:Nat):Int)/\(sliceBounds lo hi none n).2.1=((HT.sIx n n hi:Nat):Int)/\(sliceBounds lo hi none n).2.2=1:=by
 refine ⟨?_,?_,rfl⟩
 ·cases lo with
  | none=>simp [sliceBounds,HT.sIx]
  | some i =>
   simp only [sliceBounds,HT.sIx,Option.getD_none,show (1:Int)>0 by decide,if_true];by_cases h:i<0
   ·simp only [h,if_true]<;>lia
   ·simp only [h,if_false]<;>lia
 ·cases hi with
  | none=>simp [sliceBounds,HT.sIx]
  | some i =>
   simp only [sliceBounds,HT.sIx,Option.getD_none,show (1:Int)>0 by decide,if_true];by_cases h:i<0
   ·simp only [h,if_true]<;>lia
   ·simp only [h,if_false]<;>lia
theorem zK (its:List Value) (lo hi:Option Int):slicePick its.toArray lo hi none=((its.drop (HT.sIx its.length 0 lo)).take (HT.sIx its.length its.length hi-HT.sIx its.length 0 lo)).toArray:=by obtain ⟨h1,h2,h3⟩:=zJ lo hi its.toArray.size;unfold slicePick;rw [h1,h2,h3];simp only [sliceRange_one,pick_run,Qk]<;>rfl
inductive nY (K:PySem.W.Frag) (x:V) (lo hi:Option Int) (H:Hp) (Q:VK):Prop
 | mk:∀ a xs,x=.ref a->ak K H a xs->(∀ p,H p=none->Q (.ref p) (upd H p (.lst (dQ xs lo hi))))->nY K x lo hi H Q
theorem zL:iP X (nY X.K):=by intro Fd s σ H x v vl vu lo hi sl Q I rx hs pl pu h;obtain ⟨a,xs,rfl,hx,q⟩:=h;cases rx;obtain ⟨its,r,ht,hz⟩:=I.list hx;have Fj:=r.length;refine ⟨"list",_,slot_list_getitem.lookup,ht.isList.typeIs,?_⟩;refine wpAny_getItem_list_slice ht.isList hs pl pu .none (by simp) ?_ (by rw [Qk]<;>lia);rw [zK,<- Fj];refine ⟨.ref s.heap.objs.size,_,I.laid (t':=s.toks) (o:=.lst (dQ xs lo hi)) (fun b ob q=>Qd _ q) (Qc _) ?_,rfl,q _ (I.hok.fresh (Qc _))⟩;exact ⟨Qq (sj xs lo hi) hz,_,0,(r.drop (HT.sIx xs.length 0 lo)).take (HT.sIx xs.length xs.length hi-HT.sIx xs.length 0 lo),Qn _ rfl⟩
noncomputable def gn:V->Bool
 | .non=>true
 | .bl _=>true
 | .int _=>true
 | .str _=>true
 | _=>false
noncomputable def gp:V->V->Bool
 | .non,.non=>true
 | .bl a,.bl b=>a == b
 | .bl a,.int b=>(if a then 1 else 0) == b
 | .int a,.bl b=>a == (if b then 1 else 0)
 | .int a,.int b=>a == b
 | .str a,.str b=>a == b
 | _,_=>false
theorem zM {A:Around} {s:Shared} {y x:V} {u v:Value} (ry:RelV y u) (rx:RelV x v) (fy:gn y=true) (fx:gn x=true):SeqAt.EqAt A s u v (gp y x):=by
 cases y with
 | non =>
  cases ry
  cases x with
  | non=>cases rx;exact SeqAt.EqAt.same _
  | bl b=>cases rx;exact SeqAt.EqAt.none_bool b
  | int b=>obtain ⟨t,rfl⟩:=rx;exact SeqAt.EqAt.none_int b t
  | str b=>obtain ⟨t,rfl⟩:=rx;exact SeqAt.EqAt.none_str b t
  | _=>exact absurd (show false=true from fx) Qt
 | bl a =>
  cases ry
  cases x with
  | non=>cases rx;exact SeqAt.EqAt.bool_none a
  | bl b=>cases rx;exact SeqAt.EqAt.bool_bool a b
  | int b=>obtain ⟨t,rfl⟩:=rx;exact SeqAt.EqAt.bool_int a b t
  | str b=>obtain ⟨t,rfl⟩:=rx;exact SeqAt.EqAt.bool_str a b t
  | _=>exact absurd (show false=true from fx) Qt
 | int a =>
  obtain ⟨t',rfl⟩:=ry
  cases x with
  | non=>cases rx;exact SeqAt.EqAt.int_none a t'
  | bl b=>cases rx;exact SeqAt.EqAt.int_bool a t' b
  | int b=>obtain ⟨t,rfl⟩:=rx;exact SeqAt.EqAt.int_int a t' b t
  | str b=>obtain ⟨t,rfl⟩:=rx;exact SeqAt.EqAt.int_str a t' b t
  | _=>exact absurd (show false=true from fx) Qt
 | str a =>
  obtain ⟨t',rfl⟩:=ry
  cases x with
  | non=>cases rx;exact SeqAt.EqAt.str_none a t'
  | bl b=>cases rx;exact SeqAt.EqAt.str_bool a t' b
  | int b=>obtain ⟨t,rfl⟩:=rx;exact SeqAt.EqAt.str_int a t' b t
  | str b=>obtain ⟨t,rfl⟩:=rx;exact SeqAt.EqAt.str_str a t' b t
  | _=>exact absurd (show false=true from fx) Qt
 | _=>exact absurd (show false=true from fy) Qt
noncomputable def dy (x:V) (u:Value):Bool:=match u with
 | .none=>gp .non x
 | .bool b=>gp (.bl b) x
 | .int i _=>gp (.int i) x
 | .str z _=>gp (.str z) x
 | _=>false
theorem ss {x y:V} {u:Value} (r:RelV y u) (f:gn y=true):dy x u=gp y x:=by
 cases y with
 | non=>cases r;rfl
 | bl b=>cases r;rfl
 | int i=>obtain ⟨t,rfl⟩:=r;rfl
 | str z=>obtain ⟨t,rfl⟩:=r;rfl
 | _=>exact absurd (show false=true from f) Qt
theorem jU {x:V}:∀ {xs:List V} {us:List Value},aD xs us->xs.all gn=true->us.any (dy x)=xs.any fun y=>gp y x
 | _,_,.nil,_=>rfl
 | y::xs,u::us,.cons r t,f=>by rw [List.all_cons,Bool.and_eq_true] at f;rw [List.any_cons,List.any_cons,ss r f.1,jU t f.2]
theorem jV {A:Around} {s:Shared} {x:V} {v:Value} (rx:RelV x v) (fx:gn x=true):∀ {xs:List V} {us:List Value},aD xs us->xs.all gn=true->∀ u∈us,SeqAt.EqAt A s u v (dy x u)
 | _,_,.nil,_=>fun u hu=>by cases hu
 | y::xs,u::us,.cons r t,f=>fun u' hu=>by
  rw [List.all_cons,Bool.and_eq_true] at f;rcases Qm hu with rfl | hu
  ·rw [ss r f.1];exact zM r rx f.1 fx
  ·exact jV rx fx t f.2 u' hu
noncomputable def gY (x:V) (xs:List V):Bool:=xs.any fun y=>gp y x
inductive jW (K:PySem.W.Frag) (neg:Bool) (x y:V) (H:Hp) (Q:VK):Prop
 | mk:∀ p xs,y=.ref p->(ak K H p xs∨au K H p xs)->gn x=true->xs.all gn=true->Q (.bl (if neg then !gY x xs else gY x xs)) H->jW K neg x y H Q
theorem zN:bD X (compareOp .In) (jW X.K false):=by
 intro Fd s σ H x y v u Q I rx ry h;obtain ⟨p,xs,rfl,hq,fx,fs,q⟩:=h;cases ry;rcases hq with hq | hq
 ·obtain ⟨its,r,pl,hz⟩:=I.list hq;refine SeqAt.in_listAt (dy x) pl.isList (fun w hw=>jV rx fx r fs w (by simpa using hw)) ⟨.bl _,H,I,rfl,?_⟩;rw [show its.toArray.any (dy x)=its.any (dy x) by simp,jU r fs];exact q
 ·obtain ⟨its,r,pl,hz⟩:=I.tuple hq;refine SeqAt.in_tupleAt (dy x) pl (fun w hw=>jV rx fx r fs w (by simpa using hw)) ⟨.bl _,H,I,rfl,?_⟩;rw [show its.toArray.any (dy x)=its.any (dy x) by simp,jU r fs];exact q
theorem zO:bD X (compareOp .NotIn) (jW X.K true):=by
 intro Fd s σ H x y v u Q I rx ry h;obtain ⟨p,xs,rfl,hq,fx,fs,q⟩:=h;cases ry;rcases hq with hq | hq
 ·obtain ⟨its,r,pl,hz⟩:=I.list hq;refine SeqAt.notIn_listAt (dy x) pl.isList (fun w hw=>jV rx fx r fs w (by simpa using hw)) ⟨.bl _,H,I,rfl,?_⟩;rw [show its.toArray.any (dy x)=its.any (dy x) by simp,jU r fs];exact q
 ·obtain ⟨its,r,pl,hz⟩:=I.tuple hq;refine SeqAt.notIn_tupleAt (dy x) pl (fun w hw=>jV rx fx r fs w (by simpa using hw)) ⟨.bl _,H,I,rfl,?_⟩;rw [show its.toArray.any (dy x)=its.any (dy x) by simp,jU r fs];exact q
theorem nZ:d0 X (.builtin "len") (fun xs H Q=>∃ p ys,xs=[.ref p]/\(ak X.K H p ys∨au X.K H p ys)/\Q (.int ys.length) H):=by
 intro Fd s σ H xs us Q I r h;obtain ⟨p,ys,rfl,hq,q⟩:=h;obtain ⟨u,rfl,rx⟩:=vals1 r;cases rx;have hn:=jQ;rcases hq with hq | hq
 ·obtain ⟨its,r',pl,hz⟩:=I.list hq;have Fj:=r'.length;exact Calls.call_len_list pl.isList (by simp only [Qk]<;>lia) ⟨.int ys.length,H,I.tok _,⟨s.toks+1,by rw [Qk,Fj]⟩,q⟩
 ·obtain ⟨its,r',pl,hz⟩:=I.tuple hq;have Fj:=r'.length;exact len_tuple pl (by simp only [Qk]<;>lia) ⟨.int ys.length,H,I.tok _,⟨s.toks+1,by rw [Qk,Fj]⟩,q⟩
theorem zP:d0 X (.builtin "len") (fun xs H Q=>∃ z,xs=[.str z]/\z.length<=sizeLine/\Q (.int z.length) H):=by intro Fd s σ H xs us Q I r h;obtain ⟨z,rfl,hz,q⟩:=h;obtain ⟨u,rfl,t,rfl⟩:=vals1 r;have hn:=jQ;exact len_str (by lia) ⟨.int z.length,H,I.tok _,⟨_,rfl⟩,q⟩
theorem zQ:d0 X (.type "tuple") (fun xs H Q=>∃ p ys,xs=[.ref p]/\((ak X.K H p ys/\∀ l,H l=none->Q (.ref l) (upd H l (.tup ys)))∨(au X.K H p ys/\Q (.ref p) H))):=by
 intro Fd s σ H xs us Q I r h;obtain ⟨p,ys,rfl,h⟩:=h;obtain ⟨u,rfl,rx⟩:=vals1 r;cases rx
 rcases h with ⟨hq,q⟩ | ⟨hq,q⟩
 ·obtain ⟨its,r',pl,hz⟩:=I.list hq;have Fj:=r'.length;refine call_tuple_list pl.isList (fun h' kp=>?_) (by simp only [Qk]<;>lia);have I1:Inv X Fd σ H { s with heap:=h' }:=I.kept (t':=s.toks) kp
  have I2:Inv X Fd σ (upd H h'.objs.size (.tup ys)) { s with heap:=h'.push { cls:=.type "tuple",data:=.seq its.toArray } } :=
   I1.laid (t':=s.toks) (fun b o e=>Qd _ e) (Qc _) (show bJ X.prog X.w _ _ _ (.tup ys) from ⟨hz,its,r',IsTup.new _ _,iI.new _ _⟩)
  exact ⟨.ref h'.objs.size,_,I2,rfl,q _ (I1.hok.fresh (Qc _))⟩
 ·obtain ⟨its,r',pl,hz⟩:=I.tuple hq;exact call_tuple_same pl ⟨.ref p,H,I,rfl,q⟩
def iR (K:PySem.W.Frag) (T:String) (x:V) (H:Hp):Prop:=match x with
 | .str _=>T="str"
 | .int _=>T="int"
 | .ref p=>(T="list"/\∃ xs,ak K H p xs)∨(T="tuple"/\∃ o,K.lookup p=some o/\o.cls=.type "tuple"/\o.dict=none) ∨
   (T="dict"/\((∃ Fe,H p=some (.dK Fe))∨∃ Fe,H p=some (.dT Fe)))∨(T="set"/\∃ S n,H p=some (.set S n))
 | _=>False
theorem n0 {Fd:List (Addr × Obj)} {σ:St} {H:Hp} {s:Shared} {T:String} {x:V} {v:Value} (I:Inv X Fd σ H s) (r:RelV x v) (ty:iR X.K T x H) :
  s.TypeIs v T/\∀ a,v=.ref a->∃ ob,s.heap.get? a=some ob/\ob.dict=none:=by
 cases x with
 | str z =>
  obtain ⟨t,rfl⟩:=r;cases (show T="str" from ty);exact ⟨typeIs_str s z t,fun _ e=>nomatch e⟩
 | int i =>
  obtain ⟨t,rfl⟩:=r;cases (show T="int" from ty);exact ⟨typeIs_int s i t,fun _ e=>nomatch e⟩
 | ref p =>
  cases r
  rcases ty with ⟨rfl,xs,hq⟩ | ⟨rfl,o,hk,hc,hd⟩ | ⟨rfl,hk⟩ | ⟨rfl,S,n,hk⟩
  ·obtain ⟨its,_,pl,_⟩:=I.list hq;refine ⟨pl.isList.typeIs,fun a e=>?_⟩;cases e;obtain ⟨o,n,e,c,hd,_⟩:=pl;exact ⟨o,e,hd⟩
  ·refine ⟨⟨o,I.kIn p o hk,hc⟩,fun a e=>?_⟩;cases e;exact ⟨o,I.kIn _ o hk,hd⟩
  ·have z:∃ o,s.heap.get? p=some o/\o.ExactDict:=by
    rcases hk with ⟨Fe,hk⟩ | ⟨Fe,hk⟩
    ·obtain ⟨_,_,_,_,o,_,_,e,ex,_⟩:=I.hok p _ hk;exact ⟨o,e,ex⟩
    ·obtain ⟨_,_,_,_,o,_,_,e,ex,_⟩:=I.hok p _ hk;exact ⟨o,e,ex⟩
   obtain ⟨o,e,ex⟩:=z;refine ⟨⟨o,e,ex.1⟩,fun a e2=>?_⟩;cases e2;exact ⟨o,e,ex.2.1⟩
  ·obtain ⟨o,_,_,_,e,ex,_⟩:=I.hok p _ hk;refine ⟨⟨o,e,ex.1⟩,fun a e2=>?_⟩;cases e2;exact ⟨o,e,ex.2.1⟩
 | _=>exact False.elim ty
def zR (K:PySem.W.Frag) (T:String) (r:V->List V->Hp->VK->Prop) (to:TE):TE:=fun σ H Q=>to σ H fun x H1=>iR K T x H1/\r x [] H1 Q
def su (K:PySem.W.Frag) (T:String) (r:V->List V->Hp->VK->Prop) (to:TE) (t:TA):TE:=fun σ H Q=>to σ H fun x H1=>iR K T x H1/\t σ H1 fun xs H2=>r x xs H2 Q
variable {o e:Expr} {es:List Expr} {to:TE} {t:TA} {name:Str} {apos Fx:Pos} {T id:String} {r:V->List V->Hp->VK->Prop}
theorem zS (pa:PlainAttrs T) (slot:Slot T name id) (hty:typeOf (.builtin id)=pure (.type "method_descriptor")) (hm:nX X id r) (ho:PE X o to)
  (HG:attributeBase o name X.env (eval o X.env)=eval o X.env:=by rfl) (HF:(apos.endLine == Fx.line)=true:=by rfl):PE X (.Call (.Attribute o name apos) [] [] Fx) (zR X.K T r to):=by
 intro Fd s σ H Q I h;refine wpAny_Call_method0_late HG HF (az (ho Fd s σ H _ I h) fun v s1 hsl37=>?_);obtain ⟨x,H1,I1,r1,ty,q1⟩:=hsl37;obtain ⟨h1,h2⟩:=n0 I1 r1 ty;exact ⟨T,id,pa,slot,hty,h1,h2,Calls.callWith_builtin rfl (PySem.evalArgs_none (hm Fd s1 σ H1 x [] v [] Q I1 r1 .nil q1))⟩
theorem jX (pa:PlainAttrs T) (slot:Slot T name id) (hty:typeOf (.builtin id)=pure (.type "method_descriptor")) (hm:nX X id r) (ho:PE X o to) (ha:PA X (e::es) t)
  (HG:attributeBase o name X.env (eval o X.env)=eval o X.env:=by rfl)
  (hfew:((backTo Fx (starEach (e::es) X.env)).all (fun x=>!x.1)&&(backToKw Fx (keywordEach [] X.env)).all (fun x=>x.1.isSome)
   && decide ((e::es).length+([]:List Keyword).length+(if ([]:List Keyword).isEmpty then 0 else 1)<30))=true:=by rfl)
  (HF:(apos.endLine == Fx.line)=true:=by rfl) (hs:starEach (e::es) X.env=(false,eval e X.env)::starEach es X.env:=by rfl) (Ih:(backTo Fx (starEach es X.env)).any (·.1)=false:=by rfl) :
  PE X (.Call (.Attribute o name apos) (e::es) [] Fx) (su X.K T r to t):=by
 intro Fd s σ H Q I h;refine wpAny_Call_method_late HG hfew HF rfl (az (ho Fd s σ H _ I h) fun v s1 hsl38=>?_);obtain ⟨x,H1,I1,r1,ty,q1⟩:=hsl38;obtain ⟨h1,h2⟩:=n0 I1 r1 ty;refine ⟨T,id,pa,slot,hty,h1,h2,?_⟩;have hA:=ha Fx Fd s1 σ H1 _ I1 q1;rw [hs] at hA ⊢;refine Calls.callWith_builtin (by show (false||(backTo Fx (starEach es X.env)).any (·.1))=false;rw [Ih]<;>rfl) (Calls.evalArgs_plain ?_);exact az hA fun us s2 hsl39=>by obtain ⟨vs,H2,I2,r2,q2⟩:=hsl39;exact hm Fd s2 σ H2 x vs v us Q I2 r1 r2 q2
end
def sv (X:Cx) (id:String) (r:V->List V->Hp->VK->Prop):Prop :=
 ∀ (Fd:List (Addr × Obj)) (s:Shared) (σ:St) (H:Hp) (x:V) (xs:List V) (v:Value) (us:List Value) (Q:VK),Inv X Fd σ H s->RelV x v->aD xs us->r x xs H Q ->
  wpAny (model X.prog X.w) X.A (call (.builtin id) (v::us)) (EP X Fd σ Q) X.xe s
theorem aD.one:∀ {x:V} {us:List Value},aD [x] us->∃ u,us=[u]/\RelV x u
 | _,_,.cons r .nil=>⟨_,rfl,r⟩
section
variable {X:Cx} {Fd:List (Addr × Obj)} {σ:St} {H:Hp} {s:Shared} {l b:Addr} {xs ys zs:List V}
theorem Inv.lset {its its':List Value} {n:Nat} {f:Array Value->Array Value} {t':Nat} (I:Inv X Fd σ H s) (hH:H l=some (.lst xs))
  (e:s.heap.get? l=some { cls:=.type "list",data:=.seq its.toArray n }) (hf:f its.toArray=its'.toArray) (hv:aD ys its') (hz:ys.length<=sizeLine) :
  Inv X Fd σ (upd H l (.lst ys)) { s with heap:=s.heap.update l (Obj.mapSeq f),toks:=t' }:=by
 have q:=PySem.IsL.update e f;rw [hf] at q;refine I.write (x:=l) (e:=l) (by rw [hH];exact trivial) (.inl rfl) (fun b' u hb hu=>(Heap.get?_update_other s.heap (Obj.mapSeq f) (Ne.symm hb)).trans hu) ⟨_,q⟩ ?_;exact ⟨hz,its',_,hv,q⟩
theorem Inv.lnew {its:List Value} {t':Nat} (I:Inv X Fd σ H s) (hv:aD ys its) (hz:ys.length<=sizeLine) :
  Inv X Fd σ (upd H s.heap.objs.size (.lst ys)) { s with heap:=s.heap.push { cls:=.type "list",data:=.seq its.toArray },toks:=t' } :=
 I.laid (fun _ _ q=>Qd _ q) (Qc _) ⟨hz,its,0,hv,Qn _ rfl⟩
theorem Inv.fresh (I:Inv X Fd σ H s):H s.heap.objs.size=none:=I.hok.fresh (Qc _)
theorem Inv.lstM (I:Inv X Fd σ H s) (hH:H l=some (.lst xs)):xs.length<=sizeLine/\∃ (its:List Value) (n:Nat),aD xs its/\xs.length=its.length/\s.heap.get? l=some { cls:=.type "list",data:=.seq its.toArray n }:=by obtain ⟨z,its,n,r,e⟩:=I.hok l _ hH;exact ⟨z,its,n,r,r.length,e⟩
theorem zT {n:Nat} (h:n<=sizeLine):Builtin.List.listTooLong n=false:=by unfold Builtin.List.listTooLong;exact Qj (by lia)
end
section
variable {X:Cx}
inductive n5 (x:V) (vs:List V) (H:Hp) (Q:VK):Prop
 | mk:∀ l xs y,x=.ref l->vs=[y]->H l=some (.lst xs)->xs.length<sizeLine->Q .non (upd H l (.lst (xs++[y])))->n5 x vs H Q
theorem zU:sv X "list.append" n5:=by intro Fd s σ H x vs v us Q I rx rv h;obtain ⟨l,xs,y,rfl,rfl,hH,hz,q⟩:=h;cases rx;obtain ⟨u,rfl,ru⟩:=rv.one;obtain ⟨z,its,n,r,hl,e⟩:=I.lstM hH;refine call_meets F.slot_list_append ⟨_,e,rfl⟩ F.entry_list_append (F.args_list_append_2 _ _) (PySem.list_append l its.toArray n u (by rw [Qk];lia)) ⟨e,?_⟩;refine ⟨.non,_,I.lset (its':=its++[u]) hH e (by simp) (r.append (.cons ru .nil)) ?_,rfl,q⟩;rw [QE,List.length_singleton];lia
inductive sw (x:V) (vs:List V) (H:Hp) (Q:VK):Prop
 | mk:∀ l b xs zs,x=.ref l->vs=[.ref b]->H l=some (.lst xs)->H b=some (.lst zs)->xs.length+zs.length<=sizeLine->Q .non (upd H l (.lst (xs++zs)))->sw x vs H Q
theorem jY:sv X "list.extend" sw:=by
 intro Fd s σ H x vs v us Q I rx rv h;obtain ⟨l,b,xs,zs,rfl,rfl,hH,hB,hz,q⟩:=h;cases rx;obtain ⟨u,rfl,ru⟩:=rv.one;cases ru;obtain ⟨z,its,n,r,hl,e⟩:=I.lstM hH;obtain ⟨z2,Gz,n2,r2,Jm,e2⟩:=I.lstM hB;have hsz:its.toArray.size+Gz.toArray.size<=sizeLine:=by rw [Qk,Qk];lia
 have hlong:¬ (!its.toArray.isEmpty&&Builtin.List.listTooLong (its.toArray.size+Gz.toArray.size))=true:=by rw [zT hsz,Bool.and_false];exact Qt
 refine call_meets F.slot_list_extend ⟨_,e,rfl⟩ F.entry_list_extend (F.args_list_extend_2 _ _)
  (AutoSeq1.list_extend_list_list_0 l its.toArray n b Gz.toArray n2 hlong (by rw [Qk];lia) (by lia)) ⟨e,e2,?_⟩
 refine ⟨.non,_,I.lset (its':=its++Gz) hH e (by simp) (r.append r2) ?_,rfl,q⟩;rw [QE];lia
inductive sx (x y:V) (H:Hp) (Q:VK):Prop
 | mk:∀ l b xs zs,x=.ref l->y=.ref b->H l=some (.lst xs)->H b=some (.lst zs)->xs.length+zs.length<=sizeLine->(∀ p,H p=none->Q (.ref p) (upd H p (.lst (xs++zs))))->sx x y H Q
theorem n6:bD X (binaryOp .Add) sx:=by
 intro Fd s σ H x y v u Q I rx ry h;obtain ⟨l,b,xs,zs,rfl,rfl,hH,hB,hz,q⟩:=h;cases rx;cases ry;obtain ⟨z,its,n,r,hl,e⟩:=I.lstM hH;obtain ⟨z2,Gz,n2,r2,Jm,e2⟩:=I.lstM hB;refine PySem.P.add_list e e2 ?_ (by rw [Qk,Qk];omega);have ea:its.toArray++Gz.toArray=(its++Gz).toArray:=by simp
 rw [ea];exact ⟨.ref _,_,I.lnew (t':=s.toks) (r.append r2) (by rw [QE];omega),rfl,q _ I.fresh⟩
end
end L2
namespace Att
open PySem PySem.W PySem.Calls PyProof.Rows
theorem zV {P:Params} {h:Heap}:∀ (ns:List Int) (vs:List Value),WellAll P h vs (ns.map WData.int)->IntsAre vs ns:=by
 intro ns
 induction ns with
 | nil =>
  intro vs w;rw [List.map_nil] at w;cases w;exact .nil
 | cons n ns ih =>
  intro vs w;rw [List.map_cons] at w
  cases w with
  | cons a b =>
   cases a;exact .cons _ _ (ih _ b)
theorem zW {l:OpenLaw} {n:Nat} (hn:l.most=some n) {P:Params} {h:Heap} {args:List WData} {vals:List Value}
  (hpre:l.row.toRowW.claim.pre args=true) (hwl:WellAll P h vals args) :
  ∃ a vs ns,vals=[Value.ref a]/\args=[WData.list (ns.map WData.int)]/\h.get? a=some { cls:=.type "list",data:=.seq vs.toArray }/\IntsAre vs ns/\ns.length<=n:=by
 have FR:WShape.hasAll [] args [.list .int]=true:=(pre_splitW hpre).1;have hc:l.pre.holds [] { args:=args }=true:=(pre_splitW hpre).2;obtain ⟨d,r,rfl,h1,h2⟩:=hasAllW_cons FR;obtain rfl:=hasAllW_nil h2;obtain ⟨xs,rfl,h3⟩:=hasW_list h1;obtain ⟨ns,rfl⟩:=items_int h3
 have Fj:ns.length<=n:=by
  unfold OpenLaw.pre at hc;have h4:(WTm.not (.lt (.lit (.int (n:Int))) (.len (.arg 0)))).holds [] { args:=[.list (ns.map .int)] }=true:=by have h4:=(holds_andW hc).1;rw [hn] at h4;exact h4
  have h5:=condW_of h4 (w_not (w_lt w_lit (w_len_list (w_arg rfl))));rw [Qe] at h5;refine Nat.le_of_not_lt fun q=>?_;have q':(n:Int)<((ns.length:Nat):Int):=by omega
  first
   | (rw [Qs q'] at h5;exact absurd h5 (by decide))
   | (simp at h5;omega)
 cases hwl with
 | cons w1 w2 =>
  cases w2
  cases w1 with
  | list ho hall=>exact ⟨_,_,ns,rfl,rfl,ho,zV ns _ hall,Fj⟩
theorem zX (l:OpenLaw) (args:List WData):l.row.toRowW.claim.post args (.bool true) args=true :=
 postW_of (r:=l.row.toRowW) (X:=(true == true))
  (show WShape.has [] (.bool true) .bool=true by first | rfl | decide | simp [WShape.has,WShape.arms,WShape.armsAll])
  (show (WTm.eq .res (.lit (.bool true))).value [] { args:=args,res:=some (.bool true),after:=args }=some (.bool (true == true)) from w_eq_bool (w_res rfl) w_lit) rfl
theorem attach_call {l:OpenLaw} {n:Nat} {q:Program} {loose:List Str} {XP:(Str->Option Value)->Heap->Prop} {YP:World->Heap->Prop} {d:DefRec}
  (hn:l.most=some n) (hdf:d.params.defaults=[])
  (call:∀ (w:World) (s₀ s₁:Shared) (mg mb:Str->Option Value) (fa:Addr) (o:Obj) (pm cd Io:Value) (a:Addr) (vs:List Value) (ns:List Int),
   Ground q loose [] XP w s₀ mg mb s₁.heap->YP w s₁.heap ->
   s₁.heap.get? fa=some o->o.data=.func (docDef d.name d.params d.body d.scope pm cd Io)->s₁.heap.CodeRec cd d.name->mg d.name=some (.ref fa) ->
   s₁.heap.get? a=some { cls:=.type "list",data:=.seq vs.toArray }->IntsAre vs ns->ns.length<=n->s₁.gens=#[] ->
   codeAny (model l.prog w) callerA (.call (.ref fa) ⟨[.ref a],[]⟩) (fun r s'=>r=.ok (.ret (.bool true))/\OldK s₁.heap s'.heap/\s'.os=s₁.os/\AllBare s'.gens) s₁) :
  WalkO q loose XP YP l.row.toRowW d [] (fun f vs=>PySem.call f vs):=by
 intro w s₀ s₁ mg mb G Y fa o pm cd Io dV kV ho hd hcd hD hmg hg args vals as hpre hlay hrd hwl Fh;obtain rfl:dV=.none:=Dflts.none hD hdf;obtain rfl:kV=.none:=Dflts.noKw hD;obtain ⟨a,vs,ns,rfl,rfl,hobj,JC,Fj⟩:=zW hn hpre hwl;refine enter_call (codeAny_mono (call w s₀ s₁ mg mb fa o pm cd Io a vs ns G Y ho (fd_plain hd) hcd hmg hobj JC Fj hg) fun r s' hq=>?_);obtain ⟨rfl,h2,h3,h4⟩:=hq;exact ⟨.inl ⟨.bool true,.bool true,[],rfl,fun _=>rfl,.bool true,zX l _,fun _=>⟨List.Pairwise.nil,fun _ hm=>(nomatch hm)⟩⟩,h2,h3,h4⟩
end Att
namespace L2
open PySem PySem.Spec PyProof.Rows
theorem sy:∀ {vs:List Value} {ns:List Int},IntsAre vs ns->aD (ns.map V.int) vs
 | _,_,.nil=>.nil
 | _,_,.cons n t h=>.cons ⟨t,rfl⟩ (sy h)
def n8 (H:Hp):Prop:=∀ b,H b=none∨∃ o xs,H b=some (.frz o (.lst xs))
theorem zY {P:Program} {w:World} {K:PySem.W.Frag} {mg mb:Str->Option Value} {CX:eL} {k:Nat} {fa a:Addr} {fd:FuncData} {x:Str} {sp:Sp} {s₁:Shared} {vs:List Value} {ns:List Int}
  (KX:K.In s₁.heap) (hns:s₁.heap.Ns mainGlobals mg) (hb:s₁.heap.Ns builtinsNs mb) (hbb:∀ x:Str,x≠"__name__"->mb x=bootBuiltins x) (hlim:s₁.heap.NoLimit) (hg:s₁.gens=#[])
  (ha:s₁.heap.get? a=some { cls:=.type "list",data:=.seq vs.toArray }) (hi:IntsAre vs ns) (hl:ns.length<=sizeLine) (hr:ar k callerA)
  (F:∀ base:Heap,K.In base->base.Ns mainGlobals mg->aB P w K mg base CX k fa fd [x] sp) (hbind:∀ (s:Shared) (u:Value),BindsTo s fd ⟨[u],[]⟩ [(x,u)])
  (Jd:∀ H:Hp,n8 H->ak K H a (ns.map V.int)->sp [.ref a] H (fun v _=>v=.bl true) fun _ _ _=>False)
  (hCX:∀ H e s',CX [] H s₁ (fun _ _ _=>False) e s'->False) :
  codeAny (model P w) callerA (.call (.ref fa) ⟨[.ref a],[]⟩) (fun r s'=>r=.ok (.ret (.bool true))/\OldK s₁.heap s'.heap/\s'.os=s₁.os/\AllBare s'.gens) s₁:=by
 have rv:=sy hi;have lenV:=hi.length
 have core:∀ H:Hp,n8 H->ak K H a (ns.map V.int)->bC P w H s₁.heap->(∀ b,H b≠none->b=a)->(H a≠none->K.lookup a=none) ->
   codeAny (model P w) callerA (.call (.ref fa) ⟨[.ref a],[]⟩) (fun r s'=>r=.ok (.ret (.bool true))/\OldK s₁.heap s'.heap/\s'.os=s₁.os/\AllBare s'.gens) s₁:=by
  intro H hO hS hok hA hK;have Iz:∀ {b:Addr} {o:Obj},s₁.heap.get? b=some o->H b=none->(fN s₁.heap H).get? b=some o:=fun e n=>yp e n
  have noA:∀ {b:Addr} {o:Obj} {es:Array DictEntry} {ep:Nat},s₁.heap.get? b=some o->o.data=.dict es ep->H b=none:=fun {b o es ep} e d=>by
   cases q:H b with
   | none=>rfl
   | some u =>
    have e':b=a:=hA b (by rw [q];simp);subst e';rw [ha] at e;cases e;have d':Data.seq vs.toArray _=Data.dict es ep:=d;cases d'
  have nsK:∀ {b:Addr} {m:Str->Option Value},s₁.heap.Ns b m->(fN s₁.heap H).Ns b m:=fun {b m} ⟨o,es,ep,e,d,r⟩=>⟨o,es,ep,Iz e (noA e d),d,r⟩
  have hKb:K.In (fN s₁.heap H):=fun b o e=>Iz (KX b o e) (by
   cases q:H b with
   | none=>rfl
   | some u =>
    have e':b=a:=hA b (by rw [q];simp);subst e'
    rw [hK (by rw [q];simp)] at e;cases e)
  have hM:Mod K mg (fN s₁.heap H):=⟨hKb,nsK hns,⟨mb,nsK hb,hbb⟩,by obtain ⟨mc,h1,h2⟩:=hlim;exact ⟨mc,nsK h1,h2⟩⟩
  have e0:d5 P w K mg (fN s₁.heap H) callerA [] s₁ H:=⟨rfl,hM,fun b o e=>yq e,Nat.le_of_eq (yo _ _),trivial,fun b hb=>absurd (show b∈([]:List Addr) from hb) (by simp),hok,.of_eq hg⟩
  refine codeAny_mono ((F _ hKb (nsK hns)).run callerA [] s₁ H ⟨[.ref a],[]⟩ [.ref a] [.ref a] _ _ hr e0 (hbind s₁ (.ref a)) (.cons rfl .nil) (Jd H hO hS)) fun r s' h=>?_
  cases r with
  | error e=>exact (hCX H e s' h).elim
  | ok fl =>
   cases fl with
   | next=>exact False.elim h
   | brk=>exact False.elim h
   | cont=>exact False.elim h
   | ret u =>
    obtain ⟨v,H',os,bare,un,hok',r',q⟩:=h;have q':v=.bl true:=q;subst q';obtain rfl:u=Value.bool true:=r';refine ⟨rfl,OldK.of_keep fun b o e=>?_,os,bare⟩
    cases q:H b with
    | none=>exact un.keep b o e q (by intro z;exact absurd (show b∈([]:List Addr) from z) (by simp)) (by simp)
    | some u =>
     rcases hO b with z | ⟨ob,xs,z⟩
     ·rw [q] at z;cases z
     ·have z2:=un.frzs b ob _ z;obtain ⟨e1,_⟩:=hok b _ z;obtain ⟨e2,_⟩:=hok' b _ z2;rw [e] at e1;cases e1;exact e2
 cases hk:K.lookup a with
 | some o =>
  have e:=KX a o hk;rw [ha] at e;cases e;refine core (fun _=>none) (fun _=>.inl rfl) (.inr ⟨_,vs.toArray,_,hk,rfl,rfl,rfl,by rw [Qk,lenV];exact hl,by simpa using rv⟩) (fun b u z=>by have z':(none:Option HO)=some u:=z;cases z') (fun b z=>absurd rfl z) fun z=>absurd rfl z
 | none =>
  refine core (fun b=>if b=a then some (.frz { cls:=.type "list",data:=.seq vs.toArray } (.lst (ns.map V.int))) else none) (fun b=>?_) (.inl (.inr ⟨{ cls:=.type "list",data:=.seq vs.toArray },if_pos rfl⟩)) (fun b u z=>?_) (fun b z=>?_) fun _=>hk
  ·by_cases hb:b=a
   ·exact .inr ⟨_,_,if_pos hb⟩
   ·exact .inl (if_neg hb)
  ·by_cases hb:b=a
   ·have z':=(if_pos hb).symm.trans z;cases z';subst hb;exact ⟨ha,by rw [Qe];exact hl,vs,_,rv,ha⟩
   ·have z':=(if_neg hb).symm.trans z;cases z'
  ·by_cases hb:b=a
   ·exact hb
   ·exact absurd (if_neg hb) z
theorem zZ {l:PySem.W.OpenLaw} {n k:Nat} {q:Program} {loose:List Str} {XP:(Str->Option Value)->Heap->Prop} {YP:World->Heap->Prop} {d:DefRec} {K:Params->PySem.W.Frag} {CX:World->eL} {sp:World->Sp} {x:Str}
  (hn:l.most=some n) (Ge:n<=sizeLine) (hdf:d.params.defaults=[]) (hr:ar k callerA)
  (hY:∀ (w:World) (h:Heap),YP w h->(K w.params).In h)
  (F:∀ (w:World) (mg:Str->Option Value) (fa:Addr) (h:Heap),(K w.params).In h->h.Ns mainGlobals mg->mg d.name=some (.ref fa) ->
   ∃ fd:FuncData,(∀ (s:Shared) (u:Value),BindsTo s fd ⟨[u],[]⟩ [(x,u)]) /\
    ∀ base:Heap,(K w.params).In base->base.Ns mainGlobals mg->aB l.prog w (K w.params) mg base (CX w) k fa fd [x] (sp w))
  (Jd:∀ (w:World) (H:Hp) (a:Addr) (ns:List Int),ns.length<=n->n8 H->ak (K w.params) H a (ns.map V.int)->sp w [.ref a] H (fun v _=>v=.bl true) fun _ _ _=>False)
  (hCX:∀ (w:World) (H:Hp) (s:Shared) (e:Value) (s':Shared),CX w [] H s (fun _ _ _=>False) e s'->False) :
  PySem.W.WalkO q loose XP YP l.row.toRowW d [] (fun f vs=>PySem.call f vs):=by
 refine Att.attach_call hn hdf fun w s₀ s₁ mg mb fa o pm cd Io a vs ns G Y ho hd hcd hmg hobj JC Fj hg=>?_;have KX:=hY w _ Y;obtain ⟨fd,hb,hF⟩:=F w mg fa _ KX G.T.g hmg;exact zY KX G.T.g G.T.b G.T.builtins G.T.nolimit hg hobj JC (Qq Fj Ge) hr hF hb (fun H hO hS=>Jd w H a ns Fj hO hS) fun H e s'=>hCX w H s₁ e s'
noncomputable def fk (s:Stmt) (j:Nat):Stmt:=match s with
 | .ClassDef _ _ _ body _ _ _ _ _ _ _=>body.getD j (.Pass ⟨0,0,0,0⟩)
 | _=>.Pass ⟨0,0,0,0⟩
noncomputable def iS (s:Stmt):Arguments:=match s with
 | .FunctionDef _ a _ _ _ _ _ _ _ _=>a
 | _=>{ posonlyargs:=[],args:=[],vararg:=none,kwonlyargs:=[],kw_defaults:=[],kwarg:=none,defaults:=[] }
noncomputable def gZ (s:Stmt):List Stmt:=match s with
 | .FunctionDef _ _ b _ _ _ _ _ _ _=>b
 | _=>[]
noncomputable def aI (s:Stmt):Scope:=match s with
 | .FunctionDef _ _ _ _ _ _ sc _ _ _=>sc
 | _=>{ kind:=.function,names:=[],isGenerator:=false,isCoroutine:=false }
abbrev aE:eL:=fun _ _ _ _ _ _=>False
abbrev E0:XK:=fun _ _ _=>False
theorem cj {X:Cx}:iN aE X E0:=fun _ _ _ _ _ _ _ h=>h.elim
structure jZ (K:PySem.W.Frag) (x qual:Str) (st:Stmt) (f:Addr) (fd:FuncData):Prop where
 ex:∃ (oc:Value) (od:Option Addr) (kV Io pm:Value) (an:Option Addr) (Fk ct:Value) (osl:Array (Option Value)),
  fd=PySem.W.fnOf x qual (iS st) (gZ st) (aI st) .none kV Io pm an Fk ct/\K.lookup f=some ⟨oc,od,.func fd,osl⟩/\PySem.W.codeIn K Fk qual=true
 kp:PySem.W.keepIn K (.ref f)=true
section
variable {P:Program} {w:World} {K:PySem.W.Frag} {mg:Str->Option Value} {base:Heap}
theorem jZ.ok {x qual:Str} {st:Stmt} {f:Addr} {fd:FuncData} {N ps:List Str} {k:Nat} {sp:Sp} (F:jZ K x qual st f fd) (S:aT N ps (aI st)) (len:∀ vs H Q E,sp vs H Q E->vs.length=ps.length)
  (JD:∀ (Fk:Value) (A:Around) (outer:List Env) (s:Shared) (H:Hp) (vs:List V) (Q:VK) (E:XK),ar k (A.deeper (envOfC qual (aI st) s.heap.objs.size f Fk))->sp vs H Q E ->
   ∃ t,dP (fP aE P w K mg base N qual (aI st) f Fk A outer s H E).nox (gZ st) t/\t { nx:=fun _ H'=>Q .non H',rt:=Q } (start N vs) H):aB P w K mg base aE (k+1) f fd ps sp:=by
 obtain ⟨oc,od,kV,Io,pm,an,Fk,ct,osl,rfl,lk,hcd⟩:=F.ex;refine zy lk hcd S len fun A outer s H vs Q E hr Jd=>?_;obtain ⟨t,h,q⟩:=JD Fk A outer s H vs Q E hr Jd;exact ⟨t,h.nox,q⟩
theorem z0 {x qual:Str} {st:Stmt} {f:Addr} {oc:Value} {od an:Option Addr} {osl:Array (Option Value)} {kV Io pm Fk ct:Value} (l:K.lookup f=some ⟨oc,od,.func (PySem.W.fnOf x qual (iS st) (gZ st) (aI st) .none kV Io pm an Fk ct),osl⟩)
  (c:PySem.W.codeIn K Fk qual=true) (k:PySem.W.keepIn K (.ref f)=true):jZ K x qual st f (PySem.W.fnOf x qual (iS st) (gZ st) (aI st) .none kV Io pm an Fk ct):=⟨⟨oc,od,kV,Io,pm,an,Fk,ct,osl,rfl,l,c⟩,k⟩
end
theorem lw {n:Nat} (h:n<=1000):n<sizeLine:=QD h (by decide)
section
variable {X:Cx}
theorem pv (i:Nat) {x:Str} {pos:Pos} (hN:X.N[i]?=some x:=by rfl) (hv:nC X.env.scope x:=by first | exact Or.inl rfl | exact Or.inr (Or.inl rfl) | exact Or.inr (Or.inr rfl)) (hd:(x == ("__debug__":Str))=false:=by decide)
  (hcd:(x == ("__classdict__":Str))=false:=by decide):PE X (.Name x pos) (k7 i):=yr hN hv hd hcd
end
theorem cS {A B:Prop} (h:B):if false=true then A else B:=by rw [if_neg Qt];exact h
theorem j0 {A B:Prop} (h:A):if true=true then A else B:=by rw [if_pos rfl];exact h
theorem bT {c A B:Prop} [Decidable c] (h1:c->A) (h2:¬ c->B):if c then A else B:=by
 by_cases h:c
 ·rw [if_pos h];exact h1 h
 ·rw [if_neg h];exact h2 h
def Same (H H':Hp):Prop:=∀ b o,H b=some o->H' b=some o
theorem Same.refl (H:Hp):Same H H:=fun _ _ h=>h
theorem Same.trans {H H1 H2:Hp} (a:Same H H1) (b:Same H1 H2):Same H H2:=fun c o h=>b c o (a c o h)
theorem Same.free {H H':Hp} (e:Same H H') {l:Addr} (h:H' l=Option.none):H l=Option.none:=by
 cases q:H l with
 | none=>rfl
 | some o =>
  rw [e l o q] at h;cases h
theorem Same.seq {K:PySem.W.Frag} {H H':Hp} {a:Addr} {xs:List V} (e:Same H H') (h:ak K H a xs):ak K H' a xs:=by
 rcases h with (h | ⟨o,h⟩) | h
 ·exact .inl (.inl (e _ _ h))
 ·exact .inl (.inr ⟨o,e _ _ h⟩)
 ·exact .inr h
noncomputable abbrev sC (Gs:List Expr) (env:Env):Sem Bool :=
 forIn Gs true fun c r=>if r=true then do let ok <- isTrue c env (eval c env);pure (ForInStep.yield ok) else pure (ForInStep.yield r)
noncomputable def cr (cells:List (Str × Addr)):List (Str × NameKind)->List (Str × Addr)->List (Str × Addr)
 | [],FC=>FC
 | (n,k)::r,FC=>cr cells r (if k == .free then (n,(cells.lookup n).getD 0)::FC else FC)
theorem og {env:Env}:∀ (ns:List (Str × NameKind)) (FC:List (Str × Addr)),(∀ y∈ns,y.2=.free->∃ c,env.cells.lookup y.1=some c) ->
  (forIn ns FC fun (p:Str × NameKind) (cs:List (Str × Addr))=>(if p.2 == .free then (do let c <- cellOf env p.1;pure (ForInStep.yield ((p.1,c)::cs))) else pure (ForInStep.yield cs):Sem (ForInStep (List (Str × Addr)))))=(pure (cr env.cells ns FC):Sem (List (Str × Addr)))
 | [],FC,_=>rfl
 | (n,k)::r,FC,h=>by
  rw [List.forIn_cons];by_cases hk:k=.free
  ·subst hk;obtain ⟨c,hc⟩:=h (n,.free) QA rfl;have e1:cellOf env n=pure c:=by unfold cellOf;rw [show env.cells.lookup n=some c from hc]
   simp only [beq_self_eq_true,if_true,e1,cr,hc,Option.getD_some];exact og r ((n,c)::FC) fun y hy=>h y (Qw _ hy)
  ·have hb:(k == NameKind.free)=false:=by simpa using hk
   simp only [hb,QM,if_false,cr];exact og r FC fun y hy=>h y (Qw _ hy)
theorem oh {env:Env} {sc:Scope} (h:∀ y∈sc.names,y.2=.free->∃ c,env.cells.lookup y.1=some c):closureFor sc env=pure (cr env.cells sc.names []):=by unfold closureFor;have q:=og (env:=env) sc.names [] h;have e:(forIn sc.names [] fun (p:Str × NameKind) (cs:List (Str × Addr))=>(match p with | (name,kind)=>if kind == .free then (do let c <- cellOf env name;pure (ForInStep.yield ((name,c)::cs))) else pure (ForInStep.yield cs):Sem (ForInStep (List (Str × Addr)))))=(pure (cr env.cells sc.names []):Sem (List (Str × Addr))):=q;simp only [e];rfl
theorem oi {cells:List (Str × Addr)}:∀ (ns:List (Str × NameKind)) (FC:List (Str × Addr)),(∀ y∈ns,y.2=.free->∃ c,cells.lookup y.1=some c)->(∀ y c,FC.lookup y=some c->cells.lookup y=some c) ->
  (∀ y c,(cr cells ns FC).lookup y=some c->cells.lookup y=some c)/\(∀ y,(FC.lookup y).isSome=true->((cr cells ns FC).lookup y).isSome=true)/\(∀ y,(y,NameKind.free)∈ns->((cr cells ns FC).lookup y).isSome=true)
 | [],FC,_,h2=>⟨h2,fun _ h=>h,fun _ h=>nomatch h⟩
 | (n,k)::r,FC,h1,h2=>by
  have h1':∀ y∈r,y.2=.free->∃ c,cells.lookup y.1=some c:=fun y hy=>h1 y (Qw _ hy);by_cases hk:k=.free
  ·subst hk;obtain ⟨c,hc⟩:=h1 (n,.free) QA rfl;have Jo:cells.lookup n=some c:=hc;have e:cr cells ((n,.free)::r) FC=cr cells r ((n,c)::FC):=by simp only [cr,beq_self_eq_true,if_true,Jo,Option.getD_some]
   have ih:=oi (cells:=cells) r ((n,c)::FC) h1' (fun y d hy=>by
    rw [List.lookup_cons] at hy
    cases q:y == n with
    | true=>rw [q] at hy;cases hy;rw [eq_of_beq q];exact Jo
    | false=>rw [q] at hy;exact h2 y d hy)
   rw [e];refine ⟨ih.1,fun y hy=>ih.2.1 y ?_,fun y hy=>?_⟩
   ·rw [List.lookup_cons];split
    ·rfl
    ·exact hy
   ·rcases Qm hy with z | z
    ·cases z;exact ih.2.1 n (by rw [List.lookup_cons];simp)
    ·exact ih.2.2 y z
  ·have hb:(k == NameKind.free)=false:=by simpa using hk
   have e:cr cells ((n,k)::r) FC=cr cells r FC:=by simp only [cr,hb,QM,if_false]
   have ih:=oi (cells:=cells) r FC h1' h2;rw [e];refine ⟨ih.1,ih.2.1,fun y hy=>?_⟩;rcases Qm hy with z | z
   ·cases z;exact absurd rfl hk
   ·exact ih.2.2 y z
theorem sD {env:Env} (hk:env.scope.kind=.function):∀ {ns:List (Str × NameKind)} {y:Str},ns.lookup y=some .free->env.kindOf y=some .cell ->
  (ns.map fun (n,k)=>if (k == NameKind.free&&env.scope.kind == .function&&env.kindOf n == some .cell) then (n,NameKind.cell) else (n,k)).lookup y=some .cell
 | [],_,h,_=>by simp at h
 | (n,k)::r,y,h,hc=>by
  have ih:=@sD env hk r y;show List.lookup y ((if (k == NameKind.free&&env.scope.kind == .function&&env.kindOf n == some .cell)=true then (n,NameKind.cell) else (n,k))::_)=_
  cases hx:y == n with
  | true =>
   simp only [List.lookup_cons,hx] at h;cases h;have e:y=n:=eq_of_beq hx;subst e;simp [List.lookup_cons,hc,hk]
  | false =>
   simp only [List.lookup_cons,hx] at h
   split<;>(simp only [List.lookup_cons,hx];exact ih h hc)
theorem sE {env:Env}:∀ {ns:List (Str × NameKind)} {y:Str},(∀ z∈ns,z.2≠.cell) ->
  ((ns.map fun (n,k)=>if (k == NameKind.free&&env.scope.kind == .function&&env.kindOf n == some .cell) then (n,NameKind.cell) else (n,k)).lookup y=some .cell ∨
   (ns.map fun (n,k)=>if (k == NameKind.free&&env.scope.kind == .function&&env.kindOf n == some .cell) then (n,NameKind.cell) else (n,k)).lookup y=some .free)->(y,NameKind.free)∈ns
 | [],_,_,h=>by simp at h
 | (n,k)::r,y,hz,h=>by
  have ih:=@sE env r y fun z hm=>hz z (Qw _ hm);have hk:k≠.cell:=hz (n,k) QA;rw [List.map_cons] at h;by_cases hc:(k == NameKind.free&&env.scope.kind == .function&&env.kindOf n == some .cell)=true
  ·have hf:k=.free:=by rw [Bool.and_eq_true,Bool.and_eq_true] at hc;exact eq_of_beq hc.1.1
   simp only [hc,if_true,List.lookup_cons] at h
   cases hx:y == n with
   | true=>rw [eq_of_beq hx,hf];exact QA
   | false=>rw [hx] at h;exact Qw _ (ih h)
  ·rw [Bool.not_eq_true] at hc;simp only [hc,QM,if_false,List.lookup_cons] at h
   cases hx:y == n with
   | true =>
    rw [hx] at h;rcases h with h | h
    ·exact absurd (Qp h) hk
    ·have:k=.free:=Qp h;rw [eq_of_beq hx,this];exact QA
   | false=>rw [hx] at h;exact Qw _ (ih h)
noncomputable def cF (js:List Nat) (σ:St):St:=js.map fun j=>(σ[j]?).getD none
noncomputable abbrev xc (X:Cx) (sc:Scope) (x:Str) (fv:List Str) (C:Addr) (s0:Shared) (H0:Hp) (ex:List Addr):Cx :=
 { X with N:=x::fv,s₀:=s0,H₀:=H0,env:=compEnvC sc (cr X.env.cells sc.names []) C X.env,outer:=X.stack,ex:=ex,fn:=fun _=>false,pn:=[],xe:=fun _ _=>False }
def hV (X:Cx) (Gs:List Expr) (t:TT):Prop :=
 ∀ (Fd:List (Addr × Obj)) (s:Shared) (σ:St) (H:Hp) (Q:Bool->Hp->Prop),Inv X Fd σ H s->t σ H Q->wpAny (model X.prog X.w) X.A (sC Gs X.env) (TP X Fd σ Q) X.xe s
def sF:TT:=fun _ H Q=>Q true H
theorem fm {σ:St} {H:Hp} {Q:Bool->Hp->Prop} (h:Q true H):sF σ H Q:=h
theorem fq {X:Cx}:hV X [] sF:=fun _ _ _ H _ I h=>wpAny_tests_nil ⟨H,I,h⟩
theorem hW {X:Cx} {c:Expr} {t:TT} (hc:PT X c t):hV X [c] t:=fun Fd s σ H Q I h=>wpAny_tests_one (hc Fd s σ H Q I h)
def lx (J:It) (js:List Nat) (tt:TT) (te:TE):TE:=fun σ H1 Q=>∃ W:Nat->Nat->List V->Hp->Prop,(∃ m,W 0 m [] H1)/\∀ i m ys H,W i m ys H ->
 (J.stop i H/\∀ p,H p=none->Q (.ref p) (upd H p (.lst ys))) ∨
 (J.go i H/\∃ N:List V->Hp->Prop,(∀ Ho H',N Ho H'->∃ m',m'<m/\W (i+1) m' Ho H') /\
  ∀ x H',J.yld i H x H'->tt (some x::cF js σ) H' fun b H2=>if b=true then te (some x::cF js σ) H2 fun y H3=>ys.length<sizeLine/\N (ys++[y]) H3 else N ys H2)
def z3 (wi:TI) (js:List Nat) (tt:TT) (te:TE):TE:=fun σ H Q=>wi σ H fun J H1=>lx J js tt te σ H1 Q
section
variable {X:Cx} {Fd:List (Addr × Obj)} {σ:St} {H2:Hp} {s2:Shared} {Hl iter:Expr} {x:Str} {px:Pos} {Gs:List Expr} {sc Gr:Scope} {pos:Pos} {fv:List Str} {js:List Nat} {tt:TT} {te:TE}
theorem j1 {K:PySem.W.Frag} {a:Addr} {xs:List V} {σ:St} {H:Hp} {Q:VK} (Pv:Nat->List V->Hp->Prop) (h0:Pv 0 [] H) (hl:∀ i ys H,i<=xs.length->Pv i ys H->ak K H a xs)
  (hs:∀ i x ys H,xs[i]?=some x->Pv i ys H->tt (some x::cF js σ) H fun b H2=>if b=true then te (some x::cF js σ) H2 fun y H3=>ys.length<sizeLine/\Pv (i+1) (ys++[y]) H3 else Pv (i+1) ys H2)
  (hd:∀ ys H,Pv xs.length ys H->∀ p,H p=none->Q (.ref p) (upd H p (.lst ys))) :
  lx (dZ K a) js tt te σ H Q:=by
 refine ⟨fun i m ys H=>m=xs.length-i/\i<=xs.length/\Pv i ys H,⟨xs.length,by simp,Qr _,h0⟩,?_⟩;rintro i m ys H ⟨rfl,hi,p⟩;have q:=hl i ys H hi p;by_cases Fl:i<xs.length
 ·refine .inr ⟨⟨xs,xs[i],q,by simp [Fl]⟩,Pv (i+1),fun Ho H' p'=>⟨xs.length-(i+1),by lia,rfl,Fl,p'⟩,fun x H' y=>?_⟩;obtain ⟨e,y⟩:=y;subst e;exact hs i x ys _ (y xs q) p
 ·have e:i=xs.length:=by lia
  subst e;exact .inl ⟨⟨xs,q,Qc _⟩,hd ys H p⟩
end
end L2
namespace Mm
open PySem
theorem sG:∀ (n a b:Nat),a<=n->(a ||| b)=(a ^^^ b)+(a &&& b)
 | 0,a,b,h=>by
  have:a=0:=by lia
  subst this;simp
 | n+1,a,b,h=>by
  by_cases ha:a=0
  ·subst ha;simp
  ·have ih:=sG n (a / 2) (b / 2) (by lia);have e1:(a ||| b) / 2=a / 2 ||| b / 2:=Nat.or_div_two
   have e2:(a ^^^ b) / 2=a / 2 ^^^ b / 2:=Nat.xor_div_two;have e3:(a &&& b) / 2=a / 2 &&& b / 2:=Nat.and_div_two;have m1:(a ||| b) % 2=(a % 2 ||| b % 2):=by simpa using Nat.or_mod_two_pow (a:=a) (b:=b) (n:=1)
   have m2:(a ^^^ b) % 2=(a % 2 ^^^ b % 2):=by simpa using Nat.xor_mod_two_pow (a:=a) (b:=b) (n:=1)
   have m3:(a &&& b) % 2=(a % 2 &&& b % 2):=by simpa using Nat.and_mod_two_pow (a:=a) (b:=b) (n:=1)
   have d:∀ x<2,∀ y<2,(x ||| y)=(x ^^^ y)+(x &&& y):=by decide
   have dd:=d (a % 2) (by lia) (b % 2) (by lia);lia
theorem gq (a b:Nat):Builtin.bitAnd (a:Int) (b:Int)=((a &&& b:Nat):Int):=by rw [PyProof.Rows.bitAnd_pp (by lia) (by lia)];simp
theorem ly (a b:Nat):Builtin.bitOr (a:Int) (b:Int)=((a ||| b:Nat):Int):=by
 have ha:¬ 0<=Builtin.bitNot (a:Int):=by unfold Builtin.bitNot;lia
 have hb:¬ 0<=Builtin.bitNot (b:Int):=by unfold Builtin.bitNot;lia
 unfold Builtin.bitOr;rw [PyProof.Rows.bitAnd_nn ha hb,PyProof.Rows.bitNot_bitNot,PyProof.Rows.bitNot_bitNot,PyProof.Rows.bitNot_bitNot];simp
theorem j2 (a b:Nat):Builtin.bitXor (a:Int) (b:Int)=((a ^^^ b:Nat):Int):=by unfold Builtin.bitXor;rw [ly,gq];have:=sG a a b (Qc _);lia
theorem z4 {a m:Nat} (h:a<2 ^ m):(Builtin.Int.intBits (a:Int):Nat)<=m:=intBits_le_iff.mpr (by simpa using h)
end Mm
namespace L2
open PySem PySem.Spec PyProof.Rows
section
variable {X:Cx}
def z5 (i j:Int):Prop:=0<=j/\∃ m:Nat,i.natAbs<2 ^ m/\(m:Int)+j<=2 ^ 27
theorem sH:bD X (binaryOp .LShift) (rI z5 fun i j=>.int (i*2 ^ j.toNat)):=iM fun i j _ _ _ _ _ hc q=>by obtain ⟨h0,m,hm,hs⟩:=hc;have hb:(Builtin.Int.intBits i:Nat)<=m:=intBits_le_iff.mpr hm;exact lshift_int h0 (by lia) q
theorem z6 {n:String}:d0 X (.builtin "isinstance") (fun xs H Q=>∃ x t b,xs=[x,.ty n]/\cZ X.K H x t/\PySem.W.kitOne X.K t (.type n)=some b/\Q (.bl b) H):=by
 intro Fd s σ H xs us Q I r h;obtain ⟨x,t,b,rfl,ty,e,q⟩:=h;obtain ⟨u,w',rfl,rx,Hq⟩:=vals2 r;cases (show w'=Value.type n from Hq)
 exact zj I rx ty e fun tk=>⟨.bl b,H,I.tok _,rfl,q⟩
end
theorem hX:bootBuiltins "len"=some (.builtin "len"):=by decide +kernel
theorem hZ:bootBuiltins "isinstance"=some (.builtin "isinstance"):=by decide +kernel
theorem z7:bootBuiltins "int"=some (.type "int"):=by decide +kernel
theorem z8:bootBuiltins "bool"=some (.type "bool"):=by decide +kernel
theorem sI {X:Cx} {K:PySem.W.Frag} (h:X.K=K):gX X (jR K):=by subst h;exact sr
theorem z9 {prog:Program} {w:World} {A:Around} {R:Result->Shared->Prop} {s:Shared} {Hl iter:Expr} {tg:Expr} {Gs:List Expr} {sc:Scope} {pos:Pos} {it FC:Value} {env:Env} (J:Nat->Shared->Prop)
  (one:∀ k st,J k st->wpAny (model prog w) A (pyNext it) (fun r s₁=>match r with
   | none=>R (.ok .next) s₁
   | some v=>wpAny (model prog w) A (letOwnedTupleGo tg it v) (fun _ sg=>wpAny (model prog w) A (assign tg env v) (fun _ s₂ =>
     wpAny (model prog w) A (sC Gs env) (fun ok s₃ =>
      if ok=true then wpAny (model prog w) A (eval Hl env) (fun y s₄=>wpAny (model prog w) A (call (.builtin "list.append") [FC,y]) (fun _ s₅=>∃ m,m<k/\J m s₅) (fun _ _=>False) s₄) (fun _ _=>False) s₃
      else ∃ m,m<k/\J m s₃) (fun _ _=>False) s₂) (fun _ _=>False) sg) (fun _ _=>False) s₁) (fun _ _=>False) st)
  (k0:Nat) (h0:J k0 s):codeAny (model prog w) A (.compLoop (.ListComp Hl [⟨tg,iter,Gs,0⟩] sc pos) 0 it FC env) R s:=by
 refine codeAny_loop rfl J (fun k st hk=>?_) k0 h0;show wpAny _ A ((compTurn (.ListComp Hl [⟨tg,iter,Gs,0⟩] sc pos) 0 it FC env).onRaise (fun y=>do noteFrame y env;theTreesLotGoes y)) _ _ st;refine wpAny_noted ?_;rw [compTurn_list];refine Qb (wpAny_standAt (Qb (QR (one k st hk) (fun r s₁ h₁=>?_) fun _ _ z=>z.elim)))
 cases r with
 | none=>exact Qf h₁
 | some v =>
  refine Qb (QR h₁ (fun _ sg hg=>?_) fun _ _ z=>z.elim);refine Qb (QR hg (fun _ s₂ h₂=>?_) fun _ _ z=>z.elim);refine Qb (QR h₂ (fun ok s₃ h₃=>?_) fun _ _ z=>z.elim)
  cases ok with
  | false=>exact Qf ⟨rfl,h₃⟩
  | true =>
   refine Qb (Qb (QR h₃ (fun y s₄ h₄=>?_) fun _ _ z=>z.elim));exact Qb (QR h₄ (fun _ s₅ h₅=>Qf (Qf ⟨rfl,h₅⟩)) fun _ _ z=>z.elim)
structure iT (Gr sc:Scope) (NX:List Str) (xs:List Str) (fv:List Str) (js:List Nat):Prop where
 kind:sc.kind=.function
 kindX:Gr.kind=.function
 cell:∀ y∈sc.names,y.2≠.cell
 own:∀ x∈xs,sc.names.lookup x=some .local
 names:∀ y∈sc.names,y.2=.local->sc.names.lookup y.1=some .local
 free:∀ y∈sc.names,y.2=.free->Gr.names.lookup y.1=some .cell
 nd:(xs++fv).Nodup
 at':js.map (fun j=>NX[j]?)=fv.map some
 fr:∀ y∈fv,sc.names.lookup y=some .free
noncomputable abbrev dz (X:Cx) (sc:Scope) (xs:List Str) (fv:List Str) (C:Addr) (s0:Shared) (H0:Hp) (ex:List Addr):Cx :=
 { X with N:=xs++fv,s₀:=s0,H₀:=H0,env:=compEnvC sc (cr X.env.cells sc.names []) C X.env,outer:=X.stack,ex:=ex,fn:=fun _=>false,pn:=[],xe:=fun _ _=>False }
def j3 (k:Nat) (js:List Nat) (g:TG) (tt:TT) (te:TE) (σ:St) (ys:List V) (N:List V->Hp->Prop) (x:V) (H':Hp):Prop :=
 ∀ os:List (Option V),os.length=k->g x (os++cF js σ) H' fun σ6 H6=>(∃ os':List (Option V),os'.length=k/\σ6=os'++cF js σ) /\
  tt σ6 H6 fun b H2=>if b=true then te σ6 H2 fun y H3=>ys.length<sizeLine/\N (ys++[y]) H3 else N ys H2
def lz (J:It) (k:Nat) (js:List Nat) (g:TG) (tt:TT) (te:TE):TE:=fun σ H1 Q=>∃ W:Nat->Nat->List V->Hp->Prop,(∃ m,W 0 m [] H1)/\∀ i m ys H,W i m ys H ->
 (J.stop i H/\∀ p,H p=none->Q (.ref p) (upd H p (.lst ys))) ∨
 (J.go i H/\∃ N:List V->Hp->Prop,(∀ Ho H',N Ho H'->∃ m',m'<m/\W (i+1) m' Ho H')/\∀ x H',J.yld i H x H'->j3 k js g tt te σ ys N x H')
def sJ (wi:TI) (k:Nat) (js:List Nat) (g:TG) (tt:TT) (te:TE):TE:=fun σ H Q=>wi σ H fun J H1=>lz J k js g tt te σ H1 Q
section
variable {X:Cx} {Fd:List (Addr × Obj)} {σ:St} {H2:Hp} {s2:Shared} {Hl iter tg:Expr} {xs:List Str} {Gs:List Expr} {sc Gr:Scope} {pos:Pos} {fv:List Str} {js:List Nat} {g:TG} {tt:TT} {te:TE}
theorem oj (S:iT Gr sc X.N xs fv js) (Ik:X.env.scope=Gr) (F1:X.calm=true) (hgg:∀ C s0 H0 ex,PG (dz X sc xs fv C s0 H0 ex) tg g)
  (ht:∀ C s0 H0 ex,hV (dz X sc xs fv C s0 H0 ex) Gs tt) (he:∀ C s0 H0 ex,PE (dz X sc xs fv C s0 H0 ex) Hl te)
  {it:Addr} {fp:List Addr} {tn:Nat->Heap->Prop} {J:It} (I2:Inv X Fd σ H2 s2) (T:eE X.prog X.w X.K tg J fp it tn) (IA:tn 0 s2.heap) (f2:∀ b∈fp,cR X Fd H2 b)
  {Q:VK} {W:Nat->Nat->List V->Hp->Prop} (w0:∃ m,W 0 m [] H2)
  (step:∀ i m ys H,W i m ys H->(J.stop i H/\∀ p,H p=none->Q (.ref p) (upd H p (.lst ys))) ∨
   (J.go i H/\∃ N:List V->Hp->Prop,(∀ Ho H',N Ho H'->∃ m',m'<m/\W (i+1) m' Ho H') /\
    ∀ x H',J.yld i H x H'->j3 xs.length js g tt te σ ys N x H'))
  {RR:Value->Addr->Result->Shared->Prop} {E:Value->Shared->Prop}
  (fin:∀ (D C:Addr) (s':Shared) (H':Hp),Inv X Fd σ H' s'->Q (.ref D) H'->(∃ m,s'.heap.Ns C m)->cR X Fd H' C->RR (.ref D) C (.ok .next) s') :
  wpAny (model X.prog X.w) X.A (newList []) (fun FC s₃=>wpAny (model X.prog X.w) X.A (newFunctionEnv sc X.env.globals (cr X.env.cells sc.names []) [] X.env.qual none .none (some X.env)) (fun JA s₄ =>
   codeAny (model X.prog X.w) X.A (.compStart (.ListComp Hl [⟨tg,iter,Gs,0⟩] sc pos) 0 (.ref it) FC { JA with scope:=relabel sc X.env }) (RR FC JA.locals) s₄) E s₃) E s2:=by
 have F0:∀ y∈sc.names,y.2=.free->∃ c,X.env.cells.lookup y.1=some c:=fun y hy hf=>I2.ok.has y.1 (.inl (by show X.env.scope.names.lookup y.1=_;rw [Ik];exact S.free y hy hf));obtain ⟨cl1,_,cl3⟩:=oi (cells:=X.env.cells) sc.names [] F0 (fun y c h=>by simp at h);refine wpAny_newObj_type (wpAny_newFunctionEnv S.cell (by intro y hy;simp at hy) (fun h₁ hns₁ hsb₁=>?_) S.kind);dsimp only at hns₁ hsb₁ ⊢;generalize hG:s2.heap.push { cls:=.type "list",dict:=none,data:=.seq ([]:List Value).toArray }=G at hns₁ hsb₁ ⊢;have hGz:G.objs.size=s2.heap.objs.size+1:=by rw [<- hG,Heap.size_push]
 have IQ:∀ b o,s2.heap.get? b=some o->G.get? b=some o:=fun b o e=>hG ▸ Qd _ e;have upH:∀ b o,G.get? b=some o->h₁.get? b=some o:=fun b o e=>hsb₁.extBut b o (QC (Ql e)) (Qd _ e);have ltD:∀ b o,s2.heap.get? b=some o->b≠s2.heap.objs.size:=fun b o e=>QC (Ql e);have fpo:∀ b∈fp,∃ o,s2.heap.get? b=some o:=fun b hb=>by obtain ⟨o,e,_⟩:=T.obj 0 _ IA b hb;exact ⟨o,e⟩
 have fpD:∀ b∈fp,b≠s2.heap.objs.size:=fun b hb=>by obtain ⟨o,e⟩:=fpo b hb;exact ltD b o e
 have fpC:∀ b∈fp,b≠G.objs.size:=fun b hb=>by obtain ⟨o,e⟩:=fpo b hb;exact QC (Ql (IQ b o e))
 have cellO:∀ y c,(cr X.env.cells sc.names []).lookup y=some c->∃ v,s2.heap.IsCell c v:=fun y c e=>I2.cell y c (cl1 y c e);have cellD:∀ y c,(cr X.env.cells sc.names []).lookup y=some c->c≠s2.heap.objs.size:=fun y c e=>by obtain ⟨v,q⟩:=cellO y c e;exact QC q.lt
 have Dfs:s2.heap.objs.size∉dO X.stack:=fun hb=>by
  rcases Qm (I2.stkSub _ hb) with z | z
  ·exact absurd I2.lt (by rw [<- z];exact Nat.lt_irrefl _)
  ·exact I2.nofs (Qc _) z
 have fpfs:∀ b∈fp,b∉dO X.stack:=fun b hb hz=>by
  refine ci fun _ γ=>?_;obtain ⟨_,f1,f2',_⟩:=f2 b hb;refine γ ?_;rcases Qm (I2.stkSub _ hz) with z | z
  ·exact f1 z
  ·exact f2' z
 have HD:H2 s2.heap.objs.size=none:=I2.hok.fresh (Qc _);have HC:H2 G.objs.size=none:=I2.hok.fresh (by rw [hGz];exact Nat.le_succ _);have DC:s2.heap.objs.size≠G.objs.size:=by rw [hGz];exact QC (Nat.lt_succ_self _)
 have okC:Cx.Ok (dz X sc xs fv G.objs.size { s2 with heap:=G } H2 (s2.heap.objs.size::fp)):=by
  refine ⟨I2.ok.mod,S.kind,I2.ok.glob,I2.ok.blt,Qc _,fun y z c h1 h2=>I2.ok.inj y z c (cl1 _ _ h1) (cl1 _ _ h2),fun y hy=>?_,fun y c hfn _=>(by cases hfn),I2.ok.hd,I2.ok.frames,.inl rfl,fun b hb=>?_,fun b o e=>?_,?_,fun b o e hb=>?_,fun b hb=>?_,?_,I2.stkFree⟩
  ·exact Option.isSome_iff_exists.mp (cl3 y (sE S.cell hy))
  ·rcases Qm hb with z | z
   ·subst z;exact ⟨DC,cellD⟩
   ·refine ⟨fpC b z,fun y c e=>?_⟩;refine ci fun _ γ=>?_;obtain ⟨_,_,_,_,f4,_⟩:=f2 b z;refine γ ?_;exact f4 y c (cl1 y c e)
  ·exact ⟨IQ b o (I2.bs b o e).1,(I2.bs b o e).2⟩
  ·show X.base.objs.size<=G.objs.size;rw [hGz];exact Nat.le_succ_of_le (Qq I2.ok.bsz I2.sz)
  ·rcases Qm hb with z | z
   ·exact ltD b o (I2.bk b o e) z
   ·refine ci fun _ γ=>?_;obtain ⟨_,_,_,f3,_⟩:=f2 b z;refine γ ?_;rcases f3 with q | q
    ·exact I2.ok.noex b o e q
    ·exact absurd (QG (Ql e) (Qq I2.ok.bsz q)) (Nat.lt_irrefl _)
  ·rcases Qm hb with z | z
   ·subst z;exact Dfs
   ·exact fpfs b z
  ·exact (I2.stack).of_keeps fun b o e _=>⟨o,IQ b o e,rfl⟩
 have lenC:∀ os:List (Option V),os.length=xs.length->(os++cF js σ).length=(xs++fv).length:=fun os ho=>by have:=congrArg List.length S.at';simp only [Qe] at this;simp [cF,this,ho]
 have hacc:h₁.get? s2.heap.objs.size=some { cls:=.type "list",dict:=none,data:=.seq ([]:List Value).toArray }:=upH _ _ (hG ▸ Qn _ rfl)
 have I4:Inv (dz X sc xs fv G.objs.size { s2 with heap:=G } H2 (s2.heap.objs.size::fp)) [(s2.heap.objs.size,{ cls:=.type "list",dict:=none,data:=.seq ([]:List Value).toArray })] (xs.map (fun _=>none)++cF js σ) H2 { s2 with heap:=h₁,toks:=s2.toks+([]:List (Str × Value)).length }:=by
  refine ⟨okC,rfl,I2.bare,Un.kept upH,⟨_,hns₁,fun i y v e1 e2 e3=>?_⟩,fun y c e=>?_,HC,fun y c e=>I2.freeC y c (cl1 y c e),fun p hp=>?_,I2.hok.kept fun b u e=>upH b u (IQ b u e),lenC _ (by simp)⟩
  ·by_cases Hr:i<xs.length
   ·have:(xs.map (fun _=>(none:Option V))++cF js σ)[i]?=some none:=by rw [QI (by simpa using Hr),Qu,Qa Hr];rfl
    rw [this] at e2;cases e2
   ·obtain ⟨i',rfl⟩:∃ i',i=xs.length+i':=⟨i-xs.length,by lia⟩
    have e1':fv[i']?=some y:=by have e1a:(xs++fv)[xs.length+i']?=some y:=e1;rw [QF (by lia),Nat.add_sub_cancel_left] at e1a;exact e1a
    have e2':(cF js σ)[i']?=some (some v):=by have e2a:=e2;rw [QF (by simp),Qe,Nat.add_sub_cancel_left] at e2a;exact e2a
    have q:=congrArg (fun l=>l[i']?) S.at';simp only [Qu,e1',Option.map_some] at q
    cases hj:js[i']? with
    | none=>rw [hj] at q;cases q
    | some j =>
     rw [hj] at q;have hj':X.N[j]?=some y:=Qp q;unfold cF at e2';rw [Qu,hj] at e2';have e2'':(σ[j]?).getD none=some v:=Qp e2'
     have e2b:σ[j]?=some (some v):=by
      cases hh:σ[j]? with
      | none=>rw [hh] at e2'';cases e2''
      | some o=>rw [hh] at e2'';exact congrArg some e2''
     have hm:y∈fv:=Qz e1';have hcX:Gr.names.lookup y=some .cell:=S.free (y,.free) (PySem.mem_of_lookup (S.fr y hm)) rfl;have kX:X.env.kindOf y=some .cell:=by show X.env.scope.names.lookup y=_;rw [Ik];exact hcX
     obtain ⟨m,hn,hl⟩:=I2.loc;obtain ⟨u,r,lk⟩:=hl j y v hj' e2b (.inr (.inl kX));refine ⟨u,r,?_⟩
     rcases lk with ⟨k,_⟩ | ⟨_,c,ec,z⟩
     ·rw [kX] at k;cases k
     ·refine .inr ⟨.inl (sD (by rw [Ik];exact S.kindX) (S.fr y hm) kX),c,?_,?_⟩
      ·obtain ⟨c',ec'⟩:=Option.isSome_iff_exists.mp (cl3 y (PySem.mem_of_lookup (S.fr y hm)));have:=cl1 y c' ec';rw [ec] at this;cases this;exact ec'
      ·obtain ⟨o,ho,hd⟩:=z;exact ⟨o,upH c o (IQ c o ho),hd⟩
  ·refine ci fun _ γ=>?_;obtain ⟨v,o,ho,hd⟩:=cellO y c e;refine γ ?_;exact ⟨v,o,upH c o (IQ c o ho),hd⟩
  ·have HV:p=(s2.heap.objs.size,{ cls:=.type "list",dict:=none,data:=.seq ([]:List Value).toArray }):=by simpa using hp
   subst HV;exact ⟨hacc,HD,DC,Dfs,fun v z=>by cases z⟩
 have loop:codeAny (model X.prog X.w) X.A (.compLoop (.ListComp Hl [⟨tg,iter,Gs,0⟩] sc pos) 0 (.ref it) (.ref s2.heap.objs.size) (compEnvC sc (cr X.env.cells sc.names []) G.objs.size X.env)) (RR (.ref s2.heap.objs.size) G.objs.size) { s2 with heap:=h₁,toks:=s2.toks+([]:List (Str × Value)).length }:=by
  obtain ⟨m0,w0⟩:=w0
  have fok:∀ {H':Hp} {o:Obj},(∀ b∈fp,H' b=none)->∀ b∈fp,cR (dz X sc xs fv G.objs.size { s2 with heap:=G } H2 (s2.heap.objs.size::fp)) [(s2.heap.objs.size,o)] H' b:=fun {H' o} hn b hb=>by
   refine ⟨hn b hb,fpC b hb,fpfs b hb,.inl (Qw _ hb),fun y c e=>?_,fun p hp=>?_⟩
   ·refine ci fun _ γ=>?_;obtain ⟨_,_,_,_,f4,_⟩:=f2 b hb;refine γ ?_;exact f4 y c (cl1 y c e)
   ·have HV:p=(s2.heap.objs.size,o):=by simpa using hp
    subst HV;exact (fpD b hb).symm
  refine z9 (fun k st=>∃ (i:Nat) (ys:List V) (its:List Value) (n:Nat) (os:List (Option V)) (H':Hp),os.length=xs.length/\Inv (dz X sc xs fv G.objs.size { s2 with heap:=G } H2 (s2.heap.objs.size::fp)) [(s2.heap.objs.size,{ cls:=.type "list",data:=.seq its.toArray n })] (os++cF js σ) H' st /\
   aD ys its/\ys.length<=sizeLine/\tn i st.heap/\(∀ b∈fp,H' b=none)/\W i k ys H') ?_ m0
   ⟨0,[],[],_,xs.map (fun _=>none),H2,by simp,I4,.nil,Qr _,T.keep _ _ _ IA fun b _ o e=>upH b o (IQ b o e),fun b hb=>(f2 b hb).1,w0⟩
  rintro k s3 hh;refine ci fun _ γ=>?_;obtain ⟨i,ys,its,n,os,H3,F4,I3,rv,hz,st3,fr3,w3⟩:=hh;refine γ ?_
  rcases step i k ys H3 w3 with ⟨stop,q⟩ | ⟨go,N,hN,hgo⟩
  ·refine az (T.done (dz X sc xs fv G.objs.size { s2 with heap:=G } H2 (s2.heap.objs.size::fp)) rfl rfl rfl F1 i _ s3 _ H3 _ I3 (fok fr3) st3 stop) fun r s4 hsl40=>?_;obtain ⟨hr,I4⟩:=hsl40;subst hr;refine ci fun _ γ=>?_;obtain ⟨pD,pn,_,_,_⟩:=I4.pin _ (Qx _ QA);refine γ ?_;have B:=I4.base;have nD:∀ b o,s2.heap.get? b=some o->b∉fp->b∉s2.heap.objs.size::fp:=fun b o e hx hm=>(Qm hm).elim (ltD b o e) hx;have neH:∀ b u,H2 b=some u->b≠s2.heap.objs.size:=fun b u e z=>by rw [z,HD] at e;cases e
   have JX:Inv X Fd σ (upd H3 s2.heap.objs.size (.lst ys)) s4:=by
    refine I2.call' (ch:=fp) I4.os ⟨fun b o e hn hb hx=>B.keep b o (IQ b o e) hn hb (nD b o e hx),fun b o e hn hb hx=>B.slot b o (IQ b o e) hn hb (nD b o e hx),fun b o e hn hx=>?_,fun b o e hx=>B.there b o (IQ b o e) (nD b o e hx),fun b xs e=>?_,fun b o u e=>?_,fun b ps e=>?_⟩ (fun b u e=>?_) I4.bare fun b hb=>?_
    ·rw [ay (ltD b o e)];exact B.free b o (IQ b o e) hn (nD b o e hx)
    ·rw [ay (neH b _ e)];exact B.tups b xs e
    ·rw [ay (neH b _ e)];exact B.frzs b o u e
    ·rw [ay (neH b _ e)];exact B.tbls b ps e
    ·by_cases hb:b=s2.heap.objs.size
     ·subst hb;rw [af] at e;cases e;exact ⟨hz,its,n,rv,pD⟩
     ·rw [ay hb] at e;exact (I4.hok b u e).stay (fun _ _ _ z=>z) (fun c z=>by rw [ay (dG z pn)];exact z) fun c xs z=>by rw [ay (dG z pn)];exact z
    ·refine ci fun _ γ=>?_;obtain ⟨_,f1,_,f3,f4,f5⟩:=f2 b hb;refine γ ?_;exact ⟨f3,f1,f4,f5⟩
   refine fin _ _ s4 _ JX (q _ pn) (by obtain ⟨m,hm,_⟩:=I4.loc;exact ⟨m,hm⟩) (I2.fpOk (by rw [hGz];exact Nat.le_succ _) ?_);rw [ay DC.symm];exact I4.free
  ·refine az (T.item (dz X sc xs fv G.objs.size { s2 with heap:=G } H2 (s2.heap.objs.size::fp)) rfl rfl rfl F1 i _ s3 _ H3 _ I3 (fok fr3) st3 go) fun r s4 hsl41=>?_;obtain ⟨u,hr,h4⟩:=hsl41;subst hr;refine az h4 fun _ s5 hsl42=>?_;obtain ⟨y,H5,I5,r5,y5,st5,fr5⟩:=hsl42;have I5':=I5.pinned (fok fr5) (T.obj _ _ st5);refine az (hgg _ _ _ _ _ s5 _ H5 y u _ I5' r5 (hgo y _ y5 os F4)) fun _ s6 hsl43=>?_;obtain ⟨σ6,H6,I6,⟨os',hos',eσ⟩,q6⟩:=hsl43;subst eσ;refine az (ht _ _ _ _ _ s6 _ _ _ I6 q6) fun b s7 hsl44=>?_;obtain ⟨H7,I7,q7⟩:=hsl44
   cases b with
   | false =>
    rw [if_neg Qt] at q7 ⊢;obtain ⟨m',hm,w7⟩:=hN ys H7 q7
    exact ⟨m',hm,i+1,ys,its,n,os',H7,hos',I7.unpinned,rv,hz,T.keep _ _ _ st5 fun b hb o e=>(I7.pin (b,o) (Qx _ (Qx _ (gh hb e)))).1,fun b hb=>by
     obtain ⟨o,e,d⟩:=T.obj _ _ st5 b hb
     exact (I7.pin (b,o) (Qx _ (Qx _ (gh hb e)))).2.1,w7⟩
   | true =>
    rw [if_pos rfl] at q7 ⊢;refine az (he _ _ _ _ _ s7 _ H7 _ I7 q7) fun u8 s8 hsl45=>?_;obtain ⟨y8,H8,I8,r8,Jl,q8⟩:=hsl45;obtain ⟨m',hm,w8⟩:=hN _ H8 q8;refine ci fun _ γ=>?_;obtain ⟨pD,pn,pC,pf,_⟩:=I8.pin _ (Qx _ (List.mem_append_left _ QA));refine γ ?_;refine wpAny_list_append_plain (items:=its.toArray) ⟨n,pD⟩ (fun h9 hl9 sb9=>?_) (by rw [Qk,<- rv.length];exact QP Jl);have pinF:∀ p∈gT fp s5.heap,p∈[(s2.heap.objs.size,({ cls:=.type "list",data:=.seq its.toArray n }:Obj))]++gT fp s5.heap:=fun p hp=>Qx _ hp;have I8a:=I8.pins_of (pins':=gT fp s5.heap) fun p hp=>I8.pin p (Qx _ (pinF p hp));have I9:=I8a.turned (it:=s2.heap.objs.size) (h':=h9) (t':=s8.toks) (fun b o hb e=>(sb9.2 b hb).trans e) pn DC (.inl QA) (fun y c e=>cellD y c e) fun p hp=>fpD p.1 (rC (by simpa using hp)).1;obtain ⟨n9,e9⟩:=hl9;have e9':h9.get? s2.heap.objs.size=some { cls:=.type "list",data:=.seq (its++[u8]).toArray n9 }:=by rw [e9,show (its++[u8]).toArray=its.toArray.push u8 by simp]
    refine ⟨m',hm,i+1,ys++[y8],its++[u8],n9,os',H8,hos',I9.pins_of fun p hp=>?_,rv.append (.cons r8 .nil),by rw [QE];exact Jl,T.keep _ _ _ st5 fun b hb o e=>(I9.pin (b,o) (Qx _ (gh hb e))).1,fun b hb=>?_,w8⟩
    ·have HV:p=(s2.heap.objs.size,{ cls:=.type "list",data:=.seq (its++[u8]).toArray n9 }):=by simpa using hp
     subst HV;exact ⟨e9',pn,DC,pf,fun v z=>by cases z⟩
    ·obtain ⟨o,e,d⟩:=T.obj _ _ st5 b hb;exact (I9.pin (b,o) (Qx _ (gh hb e))).2.1
 exact codeAny_compStart_list loop (T.self _ 0 _ _ _ (T.keep _ _ _ IA fun b _ o e=>upH b o (IQ b o e)) loop)
theorem iU {wi:TI} (Gr:Scope) (NX fv:List Str) (js:List Nat) (hNX:X.N=NX) (S:iT Gr sc NX xs fv js) (Ik:X.env.scope=Gr) (F1:X.calm=true) (hi:PI X tg iter wi) (hgg:∀ C s0 H0 ex,PG (dz X sc xs fv C s0 H0 ex) tg g)
  (ht:∀ C s0 H0 ex,hV (dz X sc xs fv C s0 H0 ex) Gs tt) (he:∀ C s0 H0 ex,PE (dz X sc xs fv C s0 H0 ex) Hl te)
  (hs:∀ v,foldedSetIterable iter X.env v=pure v:=by intro _;rfl):PE X (.ListComp Hl [⟨tg,iter,Gs,0⟩] sc pos) (sJ wi xs.length js g tt te):=by
 intro Fd s σ H Q I h;rw [<- hNX] at S;have F0:∀ y∈sc.names,y.2=.free->∃ c,X.env.cells.lookup y.1=some c:=fun y hy hf=>I.ok.has y.1 (.inl (by show X.env.scope.names.lookup y.1=_;rw [Ik];exact S.free y hy hf));rw [eval_ListComp];refine wpAny_comprehension_free (use:=none) rfl hs (oh F0) S.kind S.names (az (hi Fd s σ H _ I h) fun v s1 h1=>az h1 fun itv s2 h2=>?_);obtain ⟨it,fp,tn,J,H2,e,I2,T,IA,f2,W,w0,step⟩:=h2;subst e;refine oj (RR:=fun FC C=>compPost (model X.prog X.w) X.A X.xe none (EP X Fd σ Q) FC C) S Ik F1 hgg ht he I2 T IA f2 w0 step fun D C s' H' I' q hsl46 hC=>?_;obtain ⟨m,hm⟩:=hsl46;obtain ⟨f0,f1,_,f3,f4,f5⟩:=hC;exact ⟨m,hm,fun h' sb=>⟨.ref D,H',I'.turned (t':=s'.toks) (fun b o hb e=>(sb.2 b hb).trans e) f0 f1 f3 f4 f5,rfl,q⟩⟩
theorem sK {wi:TI} {i:Nat} {y:Str} {py spos:Pos} (Gr:Scope) (NX fv:List Str) (js:List Nat) (hNX:X.N=NX) (S:iT Gr sc NX xs fv js) (Ik:X.env.scope=Gr) (F1:X.calm=true) (hi:PI X tg iter wi) (hgg:∀ C s0 H0 ex,PG (dz X sc xs fv C s0 H0 ex) tg g)
  (ht:∀ C s0 H0 ex,hV (dz X sc xs fv C s0 H0 ex) Gs tt) (he:∀ C s0 H0 ex,PE (dz X sc xs fv C s0 H0 ex) Hl te)
  (hN:X.N.Nodup) (hy:X.N[i]?=some y) (hl:X.env.scope.names.lookup y=some .local) (hsw:swapsWith (.ListComp Hl [⟨tg,iter,Gs,0⟩] sc pos) (some (.Name y py)) spos.line X.env=pure true)
  (hs:∀ v,foldedSetIterable iter X.env v=pure v:=by intro _;rfl):PS X (.Assign [.Name y py] (.ListComp Hl [⟨tg,iter,Gs,0⟩] sc pos) spos) (ln (sJ wi xs.length js g tt te) (aK i)):=by
 intro Fd s σ H D I h;rw [<- hNX] at S;have F0:∀ y∈sc.names,y.2=.free->∃ c,X.env.cells.lookup y.1=some c:=fun y hy hf=>I.ok.has y.1 (.inl (by show X.env.scope.names.lookup y.1=_;rw [Ik];exact S.free y hy hf));rw [exec_Assign_Name_used _ _ _ _ hsw];refine Qb (wpAny_standAt (Qb ?_));show wpAny _ _ (do let _ <- comprehension (.ListComp Hl [⟨tg,iter,Gs,0⟩] sc pos) sc X.env _ (newList []) false (eval iter X.env) (some (assign (.Name y py) X.env))) _ _ s
 refine Qb (QR (wpAny_comprehension_free (use:=some (assign (.Name y py) X.env)) (Q:=fun _ st=>SP X Fd D .next st) rfl hs (oh F0) S.kind S.names
  (az (hi Fd s σ H _ I h) fun v s1 h1=>az h1 fun itv s2 h2=>?_)) (fun _ st hq=>Qf (Qf hq)) fun _ _ e=>e)
 obtain ⟨it,fp,tn,J,H2,e,I2,T,IA,f2,W,w0,step⟩:=h2;subst e;refine oj (Q:=fun v H1=>aK i v σ H1 D.nx) (RR:=fun FC C=>compPost (model X.prog X.w) X.A X.xe (some (assign (.Name y py) X.env)) (fun _ st=>SP X Fd D .next st) FC C) S Ik F1 hgg ht he I2 T IA f2 w0 step fun Dl C s' H' I' q hsl47 hC=>?_;obtain ⟨m,hm⟩:=hsl47;obtain ⟨f0,f1,_,f3,f4,f5⟩:=hC;refine wpAny_assign_Name (rl I' hN hy (.inl hl) (show RelV (.ref Dl) (.ref Dl) from rfl) (fun s'' I'' hsl48=>?_) (.inr hl));obtain ⟨a,sb,ha⟩:=hsl48
 have aC:C≠a:=fun z=>by
  rcases ha with ha | ha
  ·exact f1 (z.trans ha)
  ·exact f4 y a ha z.symm
 refine ⟨m,hm.sameBut sb aC,fun h' sb'=>?_⟩;exact ⟨_,_,I''.turned (t':=s''.toks) (fun b o hb e=>(sb'.2 b hb).trans e) f0 f1 f3 f4 f5,q⟩
end
section
variable {X:Cx} {Fd:List (Addr × Obj)} {σ:St} {H2:Hp} {s2:Shared} {Hl iter:Expr} {x:Str} {px:Pos} {Gs:List Expr} {sc Gr:Scope} {pos:Pos} {fv:List Str} {js:List Nat} {tt:TT} {te:TE}
theorem Aa (S:iT Gr sc X.N [x] fv js) (Ik:X.env.scope=Gr) (F1:X.calm=true)
  (ht:∀ C s0 H0 ex,hV (xc X sc x fv C s0 H0 ex) Gs tt) (he:∀ C s0 H0 ex,PE (xc X sc x fv C s0 H0 ex) Hl te)
  {it:Addr} {fp:List Addr} {tn:Nat->Heap->Prop} {J:It} (I2:Inv X Fd σ H2 s2) (T:eE X.prog X.w X.K (.Name x px) J fp it tn) (IA:tn 0 s2.heap) (f2:∀ b∈fp,cR X Fd H2 b)
  {Q:VK} {W:Nat->Nat->List V->Hp->Prop} (w0:∃ m,W 0 m [] H2)
  (step:∀ i m ys H,W i m ys H->(J.stop i H/\∀ p,H p=none->Q (.ref p) (upd H p (.lst ys))) ∨
   (J.go i H/\∃ N:List V->Hp->Prop,(∀ Ho H',N Ho H'->∃ m',m'<m/\W (i+1) m' Ho H') /\
    ∀ x H',J.yld i H x H'->tt (some x::cF js σ) H' fun b H2=>if b=true then te (some x::cF js σ) H2 fun y H3=>ys.length<sizeLine/\N (ys++[y]) H3 else N ys H2))
  {RR:Value->Addr->Result->Shared->Prop} {E:Value->Shared->Prop}
  (fin:∀ (D C:Addr) (s':Shared) (H':Hp),Inv X Fd σ H' s'->Q (.ref D) H'->(∃ m,s'.heap.Ns C m)->cR X Fd H' C->RR (.ref D) C (.ok .next) s') :
  wpAny (model X.prog X.w) X.A (newList []) (fun FC s₃=>wpAny (model X.prog X.w) X.A (newFunctionEnv sc X.env.globals (cr X.env.cells sc.names []) [] X.env.qual none .none (some X.env)) (fun JA s₄ =>
   codeAny (model X.prog X.w) X.A (.compStart (.ListComp Hl [⟨.Name x px,iter,Gs,0⟩] sc pos) 0 (.ref it) FC { JA with scope:=relabel sc X.env }) (RR FC JA.locals) s₄) E s₃) E s2:=by
 refine oj (xs:=[x]) (g:=aK 0) (RR:=RR) S Ik F1 (fun C s0 H0 ex=>a8 S.nd rfl (.inl (lookup_relabel_local (S.own _ (.head _)))) (.inr (lookup_relabel_local (S.own _ (.head _))))) ht he I2 T IA f2 w0 (fun i m ys H w=>?_) fin
 rcases step i m ys H w with h | ⟨go,N,hN,st⟩
 ·exact .inl h
 ·refine .inr ⟨go,N,hN,fun y H' hy os F4=>?_⟩;obtain ⟨o,rfl⟩:=List.length_eq_one_iff.mp F4;exact ⟨⟨[some y],rfl,rfl⟩,st y H' hy⟩
theorem fQ {wi:TI} (Gr:Scope) (NX fv:List Str) (js:List Nat) (hNX:X.N=NX) (S:iT Gr sc NX [x] fv js) (Ik:X.env.scope=Gr) (F1:X.calm=true) (hi:PI X (.Name x px) iter wi)
  (ht:∀ C s0 H0 ex,hV (xc X sc x fv C s0 H0 ex) Gs tt) (he:∀ C s0 H0 ex,PE (xc X sc x fv C s0 H0 ex) Hl te)
  (hs:∀ v,foldedSetIterable iter X.env v=pure v:=by intro _;rfl):PE X (.ListComp Hl [⟨.Name x px,iter,Gs,0⟩] sc pos) (z3 wi js tt te):=by
 intro Fd s σ H Q I h;rw [<- hNX] at S;have F0:∀ y∈sc.names,y.2=.free->∃ c,X.env.cells.lookup y.1=some c:=fun y hy hf=>I.ok.has y.1 (.inl (by show X.env.scope.names.lookup y.1=_;rw [Ik];exact S.free y hy hf));rw [eval_ListComp];refine wpAny_comprehension_free (use:=none) rfl hs (oh F0) S.kind S.names (az (hi Fd s σ H _ I h) fun v s1 h1=>az h1 fun itv s2 h2=>?_);obtain ⟨it,fp,tn,J,H2,e,I2,T,IA,f2,W,w0,step⟩:=h2;subst e;refine Aa (RR:=fun FC C=>compPost (model X.prog X.w) X.A X.xe none (EP X Fd σ Q) FC C) S Ik F1 ht he I2 T IA f2 w0 step fun D C s' H' I' q hsl49 hC=>?_;obtain ⟨m,hm⟩:=hsl49;obtain ⟨f0,f1,_,f3,f4,f5⟩:=hC;exact ⟨m,hm,fun h' sb=>⟨.ref D,H',I'.turned (t':=s'.toks) (fun b o hb e=>(sb.2 b hb).trans e) f0 f1 f3 f4 f5,rfl,q⟩⟩
end
end L2
namespace L2
open PySem
noncomputable instance {N P:List Str} {sc:Scope}:Decidable (aT N P sc):=decidable_of_iff (sc.kind=.function/\sc.isCoroutine=false/\sc.isGenerator=false/\N.Nodup/\N.take P.length=P/\(∀ x∈P,sc.names.lookup x=some .local∨sc.names.lookup x=some .cell)/\∀ y∈sc.names,y.2≠.free) ⟨fun hsl50=>by obtain ⟨a,b,c,d,e,f,g⟩:=hsl50;exact ⟨a,b,c,d,e,f,g⟩,fun hsl51=>by obtain ⟨a,b,c,d,e,f,g⟩:=hsl51;exact ⟨a,b,c,d,e,f,g⟩⟩
noncomputable instance {Gr sc:Scope} {NX:List Str} {xs:List Str} {fv:List Str} {js:List Nat}:Decidable (iT Gr sc NX xs fv js):=decidable_of_iff (sc.kind=.function/\Gr.kind=.function/\(∀ y∈sc.names,y.2≠.cell)/\(∀ x∈xs,sc.names.lookup x=some .local)/\(∀ y∈sc.names,y.2=.local->sc.names.lookup y.1=some .local)/\(∀ y∈sc.names,y.2=.free->Gr.names.lookup y.1=some .cell)/\(xs++fv).Nodup/\js.map (fun j=>NX[j]?)=fv.map some/\∀ y∈fv,sc.names.lookup y=some .free) ⟨fun hsl52=>by obtain ⟨a,b,c,d,e,f,g,h,i⟩:=hsl52;exact ⟨a,b,c,d,e,f,g,h,i⟩,fun hsl53=>by obtain ⟨a,b,c,d,e,f,g,h,i⟩:=hsl53;exact ⟨a,b,c,d,e,f,g,h,i⟩⟩
end L2
namespace L2
open PySem PySem.Spec PyProof.Rows
section
variable {X:Cx}
theorem Ab:nX X "int.bit_length" (fun x xs H Q=>∃ i,x=.int i/\xs=[]/\Q (.int ((Builtin.Int.intBits i:Nat):Int)) H):=by intro Fd s σ H x xs v us Q I rx rs h;obtain ⟨i,rfl,rfl,q⟩:=h;obtain ⟨t,rfl⟩:=rx;cases rs;exact call_int_bit_length ⟨.int _,H,I.tok _,⟨_,rfl⟩,q⟩
end
theorem lA:bootBuiltins "list"=some (.type "list"):=by decide +kernel
section
variable {X:Cx}
noncomputable def iV (z:Str) (lo hi:Option Int):Str:=⟨((z.cps.toList.drop (HT.sIx z.length 0 lo)).take (HT.sIx z.length z.length hi-HT.sIx z.length 0 lo)).toArray⟩
theorem sL (n d:Nat) (v:Option Int):(match v with | none=>(d:Int) | some i=>max 0 (min (if i<0 then i+(n:Int) else i) (n:Int)))=((HT.sIx n d v:Nat):Int):=by
 cases v with
 | none=>rfl
 | some i =>
  show max 0 (min (if i<0 then i+(n:Int) else i) (n:Int))=(((if i<0 then (i+(n:Int)).toNat else min i.toNat n):Nat):Int);by_cases h:i<0
  ·simp only [if_pos h];lia
  ·simp only [if_neg h];lia
theorem Ac (lo hi:Option Int) (n:Nat):Builtin.Str.strSliceIndices lo hi 1 n=(List.range (HT.sIx n n hi-HT.sIx n 0 lo)).map (HT.sIx n 0 lo+·):=by rw [<- sliceRange_one];have e1:=sL n 0 lo;have e2:=sL n n hi;rw [<- e1,<- e2];rfl
theorem Ad (z:Str) (lo hi:Option Int):Txt.slice z lo hi=iV z lo hi:=by
 have hL:=HT.sIx_le z.length 0 (Qr _) lo;have hH:=HT.sIx_le z.length z.length (Qc _) hi;have hz:z.cps.toList.length=z.length:=by simp [Str.length]
 unfold Txt.slice iV;rw [Ac];split
 ·rename_i h;have h':HT.sIx z.length z.length hi-HT.sIx z.length 0 lo=z.length:=by simpa using h
  rw [h'];by_cases h0:HT.sIx z.length 0 lo=0
  ·rw [h0,List.drop_zero,Qo (by lia)]
  ·have:z.length=0:=by lia
   lia
 ·rw [pick_run]
theorem sM (z:Str) (lo hi:Option Int):(iV z lo hi).length<=z.length:=by
 show ((z.cps.toList.drop (HT.sIx z.length 0 lo)).take (HT.sIx z.length z.length hi-HT.sIx z.length 0 lo)).toArray.size<=z.length;rw [Qk,QJ,List.length_drop];have hz:z.cps.toList.length=z.length:=by simp [Str.length]
 omega
theorem sN:iP X (fun x lo hi H Q=>∃ z,x=.str z/\z.length<=sizeLine/\Q (.str (iV z lo hi)) H):=by
 intro Fd s σ H x v vl vu lo hi sl Q I rx hs pl pu h;obtain ⟨z,rfl,hz,q⟩:=h;obtain ⟨t,rfl⟩:=rx;rw [<- Ad] at q;refine ⟨"str",_,slot_str_getitem.lookup,typeIs_str s z t,?_⟩;have key:∀ (l u:Option (Int × Tok)),s.heap.IsSliceOf sl (partValue l) (partValue u) .none->l.map (·.1)=lo->u.map (·.1)=hi->wpAny (model X.prog X.w) X.A (getItem (.str z t) (.ref sl)) (EP X Fd σ Q) X.xe s:=by intro l u hs' hl hu;subst hl hu;exact wpAny_getItem_str_slice (l:=l) (u:=u) (st:=none) hs' rfl (post_val_or_str ⟨Qq (Txt.slice_le z _ _) hz,fun t' k=>⟨.str (Txt.slice z (l.map (·.1)) (u.map (·.1))),H,I.tok k,⟨t',rfl⟩,q⟩⟩)
 cases pl with
 | none=>cases pu with
  | none=>exact key none none hs rfl rfl
  | int j tj=>exact key none (some (j,tj)) hs rfl rfl
 | int i ti=>cases pu with
  | none=>exact key (some (i,ti)) none hs rfl rfl
  | int j tj=>exact key (some (i,ti)) (some (j,tj)) hs rfl rfl
noncomputable def ol (n:Nat) (y:Nat->V):It:=⟨fun i _=>i<n,fun i H x H'=>H'=H/\x=y i,fun i _=>n<=i⟩
end
theorem Ae (K:PySem.W.Frag) (C:Addr):PySem.W.kitOne K (.ref C) (.ref C)=some true:=by unfold PySem.W.kitOne;rw [if_pos (by simp)]
section
variable {κ:Type} [DecidableEq κ]
noncomputable def a9 (Fe:List (κ × V)) (k:κ):Option V:=(Fe.find? fun kv=>decide (kv.1=k)).map (·.2)
noncomputable def ba (Fe:List (κ × V)) (k:κ) (v:V):List (κ × V) :=
 if (Fe.any fun kv=>decide (kv.1=k))=true then Fe.map (fun kv=>if kv.1=k then (kv.1,v) else kv) else Fe++[(k,v)]
theorem iW {k:κ}:a9 ([]:List (κ × V)) k=none:=rfl
theorem c6 {p:κ × V} {r:List (κ × V)} {k:κ} (e:p.1=k):a9 (p::r) k=some p.2:=by simp [a9,List.find?_cons,e]
theorem bf {p:κ × V} {r:List (κ × V)} {k:κ} (e:¬ p.1=k):a9 (p::r) k=a9 r k:=by simp [a9,List.find?_cons,e]
theorem iX (k:κ):∀ Fe:List (κ × V),(Fe.any fun kv=>decide (kv.1=k))=(a9 Fe k).isSome
 | []=>rfl
 | p::r=>by
  rw [List.any_cons];by_cases e:p.1=k
  ·simp only [c6 e,Qs e,Bool.true_or,Option.isSome_some]
  ·rw [bf e,Qj e,Bool.false_or];exact iX k r
theorem sO (k j:κ) (y:V):∀ Fe:List (κ × V),a9 (Fe.map fun kv=>if kv.1=k then (kv.1,y) else kv) j=(a9 Fe j).map fun x=>if j=k then y else x
 | []=>rfl
 | p::r=>by
  have ih:=sO k j y r;rw [List.map_cons];by_cases h:p.1=k
  ·rw [if_pos h];by_cases e:p.1=j
   ·rw [c6 (p:=(p.1,y)) e,c6 e,Option.map_some,if_pos (e.symm.trans h)]
   ·rw [bf (p:=(p.1,y)) e,bf e,ih]
  ·rw [if_neg h];by_cases e:p.1=j
   ·rw [c6 (p:=p) e,c6 e,Option.map_some,if_neg (fun z=>h (e.trans z))]
   ·rw [bf (p:=p) e,bf e,ih]
theorem sP (k j:κ) (y:V):∀ Fe:List (κ × V),a9 Fe k=none->a9 (Fe++[(k,y)]) j=if j=k then some y else a9 Fe j
 | [],_=>by
  by_cases e:k=j
  ·rw [if_pos e.symm];exact c6 (p:=(k,y)) e
  ·rw [if_neg (fun z=>e z.symm)];exact bf (p:=(k,y)) e
 | p::r,hn=>by
  rw [List.cons_append];have hk:¬ p.1=k:=fun z=>by rw [c6 z] at hn;cases hn
  rw [bf hk] at hn;have ih:=sP k j y r hn;by_cases e:p.1=j
  ·rw [c6 e,c6 e,if_neg (fun z=>hk (e.trans z))]
  ·rw [bf e,bf e,ih]
theorem j4 (Fe:List (κ × V)) (k j:κ) (y:V):a9 (ba Fe k y) j=if j=k then some y else a9 Fe j:=by
 unfold ba;by_cases a:(Fe.any fun kv=>decide (kv.1=k))=true
 ·rw [if_pos a,sO];rw [iX] at a;by_cases e:j=k
  ·obtain ⟨x,hx⟩:=Option.isSome_iff_exists.mp a;rw [if_pos e,e,hx,Option.map_some,if_pos rfl]
  ·rw [if_neg e]
   cases a9 Fe j with
   | none=>rfl
   | some x=>rw [Option.map_some,if_neg e]
 ·rw [if_neg a];refine sP k j y Fe ?_;rw [iX] at a
  cases q:a9 Fe k with
  | none=>rfl
  | some x=>rw [q] at a;exact (a rfl).elim
theorem iY (Fe:List (κ × V)) (k:κ) (v:V):(ba Fe k v).length<=Fe.length+1:=by
 unfold ba;split
 ·rw [Qe];lia
 ·rw [QE,QN,List.length_nil];lia
theorem iZ {Fe:List (κ × V)} {k:κ} (v:V) (h:a9 Fe k=none):ba Fe k v=Fe++[(k,v)]:=by unfold ba;rw [iX,h];exact if_neg (by decide)
theorem cP.isSome_eq {o:Option V} {u:Option Value} (r:cP o u):o.isSome=u.isSome:=by
 cases o with
 | none=>cases u with
  | none=>rfl
  | some _=>exact (show False from r).elim
 | some _=>cases u with
  | none=>exact (show False from r).elim
  | some _=>rfl
theorem cP.getD {o:Option V} {u:Option Value} {d:V} {d':Value} (r:cP o u) (rd:RelV d d'):RelV (o.getD d) (u.getD d'):=by
 cases o with
 | none=>cases u with
  | none=>exact rd
  | some _=>exact (show False from r).elim
 | some _=>cases u with
  | none=>exact (show False from r).elim
  | some _=>exact r
theorem KV.val {Fe:List (κ × V)} {vs:List (κ × Value)} (r:KV Fe vs) (k:κ):cP (a9 Fe k) (valueAt vs k):=by
 unfold KV at r
 induction r with
 | nil=>exact True.intro
 | @cons p q ps qs h t ih =>
  obtain ⟨h1,h2⟩:=h;by_cases e:p.1=k
  ·have e':q.1=k:=h1.symm.trans e;have b:valueAt (q::qs) k=some q.2:=by simp [valueAt,List.find?_cons,e']
   rw [c6 e,b];exact h2
  ·have e':¬ q.1=k:=fun z=>e (h1.trans z);have b:valueAt (q::qs) k=valueAt qs k:=by simp [valueAt,List.find?_cons,e']
   rw [bf e,b];exact ih
theorem KV.any {Fe:List (κ × V)} {vs:List (κ × Value)} (r:KV Fe vs) (k:κ):(Fe.any fun kv=>decide (kv.1=k))=vs.any fun kv=>decide (kv.1=k):=by
 unfold KV at r
 induction r with
 | nil=>rfl
 | cons h t ih=>rw [List.any_cons,List.any_cons,ih,h.1]
theorem KV.repl {Fe:List (κ × V)} {vs:List (κ × Value)} (r:KV Fe vs) (k:κ) {y:V} {u:Value} (ry:RelV y u) :
  KV (Fe.map fun kv=>if kv.1=k then (kv.1,y) else kv) (vs.map fun kv=>if kv.1=k then (kv.1,u) else kv):=by
 unfold KV at r ⊢
 induction r with
 | nil=>exact .nil
 | @cons p q ps qs h t ih =>
  rw [List.map_cons,List.map_cons];refine .cons ?_ ih;obtain ⟨h1,h2⟩:=h;by_cases e:p.1=k
  ·rw [if_pos e,if_pos (h1.symm.trans e)];exact ⟨h1,ry⟩
  ·rw [if_neg e,if_neg (fun z=>e (h1.trans z))];exact ⟨h1,h2⟩
theorem KV.put {Fe:List (κ × V)} {vs:List (κ × Value)} (r:KV Fe vs) (k:κ) {y:V} {u:Value} (ry:RelV y u):KV (ba Fe k y) (stored vs k u):=by
 unfold ba stored;rw [r.any k];by_cases e:(vs.any fun kv=>decide (kv.1=k))=true
 ·rw [if_pos e,if_pos e];exact r.repl k ry
 ·rw [if_neg e,if_neg e];exact Paired.snoc r ⟨rfl,ry⟩
theorem KV.length {Fe:List (κ × V)} {vs:List (κ × Value)} (r:KV Fe vs):Fe.length=vs.length:=Paired.length r
end
theorem fR {P:Program} {w:World} {k:ae} {u:Value} (r:RelV (kV k) u):(bF P w).is k u=true:=by
 cases k with
 | inl i=>obtain ⟨t,e⟩:=(show ∃ t,u=Value.int i t from r);subst e;exact yl P w i t
 | inr x=>obtain ⟨t,e⟩:=(show ∃ t,u=Value.str x t from r);subst e;exact k5 P w x t
theorem sQ {P:Program} {w:World}:∀ {ks:List ae} {us:List Value},aD (ks.map kV) us->ItemsAre (bF P w) ks us
 | [],_,r=>by rw [List.map_nil] at r;cases r;exact .nil
 | k::ks,_,r=>by
  rw [List.map_cons] at r
  cases r with
  | cons h t=>exact .cons (fR h) (sQ t)
abbrev KT (H:Hp):List (List ae × V)->List (List ae × Addr × Value)->Prop:=Paired fun p q=>p.1=q.1/\H q.2.1=some (.tup (p.1.map kV))/\RelV p.2 q.2.2
theorem KT.val {H:Hp} {Fe:List (List ae × V)} {xs:List (List ae × Addr × Value)} (r:KT H Fe xs) (k:List ae):cP (a9 Fe k) ((atKey xs k).map (·.2)):=by
 induction r with
 | nil=>exact True.intro
 | @cons p q ps qs h t ih =>
  obtain ⟨h1,_,h2⟩:=h;by_cases e:p.1=k
  ·have e':q.1=k:=h1.symm.trans e;have b:atKey (q::qs) k=some q.2:=by simp [atKey,List.find?_cons,e']
   rw [c6 e,b];exact h2
  ·have e':¬ q.1=k:=fun z=>e (h1.trans z);have b:atKey (q::qs) k=atKey qs k:=by simp [atKey,List.find?_cons,e']
   rw [bf e,b];exact ih
theorem KT.repl {H:Hp} {Fe:List (List ae × V)} {xs:List (List ae × Addr × Value)} (r:KT H Fe xs) (k:List ae) {y:V} {u:Value} (ry:RelV y u) :
  KT H (Fe.map fun kv=>if kv.1=k then (kv.1,y) else kv) (xs.map (putAt k u)):=by
 induction r with
 | nil=>exact .nil
 | @cons p q ps qs h t ih =>
  rw [List.map_cons,List.map_cons];refine .cons ?_ ih;obtain ⟨h1,h2,h3⟩:=h;unfold putAt;by_cases e:p.1=k
  ·rw [if_pos e,if_pos (h1.symm.trans e)];exact ⟨h1,h2,ry⟩
  ·rw [if_neg e,if_neg (fun z=>e (h1.trans z))];exact ⟨h1,h2,h3⟩
theorem KT.put {H:Hp} {Fe:List (List ae × V)} {xs:List (List ae × Addr × Value)} (r:KT H Fe xs) (k:List ae) {b:Addr} {y:V} {u:Value} (hb:H b=some (.tup (k.map kV))) (ry:RelV y u) :
  KT H (ba Fe k y) (storedH xs k b u):=by
 have e:(Fe.any fun kv=>decide (kv.1=k))=(atKey xs k).isSome:=by rw [iX,(r.val k).isSome_eq,Option.isSome_map]
 unfold ba storedH;rw [e];by_cases q:(atKey xs k).isSome=true
 ·rw [if_pos q,if_pos q];exact r.repl k ry
 ·rw [if_neg q,if_neg q];exact Paired.snoc r ⟨rfl,hb,ry⟩
theorem KT.keeps {H H':Hp} {Fe:List (List ae × V)} {xs:List (List ae × Addr × Value)} (r:KT H Fe xs) (ht:∀ b ys,H b=some (.tup ys)->H' b=some (.tup ys)):KT H' Fe xs :=
 Paired.mapP r fun _ _ z=>⟨z.1,ht _ _ z.2.1,z.2.2⟩
section
variable {P:Program} {w:World} {H:Hp} {h:Heap} {a:Addr}
theorem sR {u:HO} (ok:bC P w H h) (e:Rd H a u):bJ P w H h a u:=e.ok ok
theorem i6 {Fe:List (ae × V)} (ok:bC P w H h) (e:Rd H a (.dK Fe)):Fe.length<=sizeLine/\(a == sysModules)=false/\∃ vs,KV Fe vs/\h.DictOf (bF P w) a vs :=
 show bJ P w H h a (.dK Fe) from sR ok e
theorem sS {Fe:List (ae × V)} (ok:bC P w H h) (e:H a=some (.dK Fe)):Fe.length<=sizeLine/\(a == sysModules)=false/\∃ vs,KV Fe vs/\h.DictOf (bF P w) a vs:=i6 ok (.inl e)
theorem j5 {ks:List ae} (ok:bC P w H h) (e:H a=some (.tup (ks.map kV))):(tupleKind (bF P w)).is h ks a:=by
 obtain ⟨_,its,r,⟨o,h1,h2,n,h3⟩,_⟩:=(show bJ P w H h a (.tup (ks.map kV)) from ok a _ e)
 exact ⟨o,its.toArray,n,h1,h2,h3,by simpa using sQ r⟩
theorem i7 {Fe:List (List ae × V)} (ok:bC P w H h) (e:Rd H a (.dT Fe)):Fe.length<=sizeLine/\(a == sysModules)=false /\
  ∃ xs,KT H Fe xs/\h.DictOfH (tupleKind (bF P w)) a xs:=by
 obtain ⟨z,y,xs,r,o,es,ep,h1,h2,h3,h4,h5⟩:=(show bJ P w H h a (.dT Fe) from sR ok e)
 refine ⟨z,y,xs,r,o,es,ep,h1,h2,h3,h4,fun x hx=>?_,h5⟩
 have all:∀ {l:List (List ae × V)} {m:List (List ae × Addr × Value)},KT H l m->∀ x∈m,(tupleKind (bF P w)).is h x.1 x.2.1:=by
  intro l m q
  induction q with
  | nil=>intro x hx;exact nomatch hx
  | @cons p q ps qs hq t ih =>
   intro x hx;rcases Qm hx with e | hx
   ·subst e;exact j5 ok (by rw [<- hq.1];exact hq.2.1)
   ·exact ih x hx
 exact all r x hx
theorem sT {Fe:List (List ae × V)} (ok:bC P w H h) (e:H a=some (.dT Fe)):Fe.length<=sizeLine/\(a == sysModules)=false /\
  ∃ xs,KT H Fe xs/\h.DictOfH (tupleKind (bF P w)) a xs:=i7 ok (.inl e)
end
def bz (H:Hp) (a:Addr) (y:V) (r:Option V):Prop :=
 (∃ Fe k,Rd H a (.dK Fe)/\y=kV k/\r=a9 Fe k)∨∃ Fe k b,Rd H a (.dT Fe)/\y=.ref b/\H b=some (.tup (k.map kV))/\r=a9 Fe k
def cG (H:Hp) (a:Addr) (y v:V) (H':Hp):Prop :=
 (∃ Fe k,H a=some (.dK Fe)/\y=kV k/\Fe.length<sizeLine/\H'=upd H a (.dK (ba Fe k v))) ∨
 ∃ Fe k b,H a=some (.dT Fe)/\y=.ref b/\H b=some (.tup (k.map kV))/\Fe.length<sizeLine/\H'=upd H a (.dT (ba Fe k v))
theorem bz.k {H:Hp} {a:Addr} {Fe:List (ae × V)} {k:ae} (e:H a=some (.dK Fe)):bz H a (kV k) (a9 Fe k):=.inl ⟨Fe,k,.inl e,rfl,rfl⟩
theorem bz.t {H:Hp} {a b:Addr} {Fe:List (List ae × V)} {k:List ae} (e:H a=some (.dT Fe)) (eb:H b=some (.tup (k.map kV))):bz H a (.ref b) (a9 Fe k):=.inr ⟨Fe,k,b,.inl e,rfl,eb,rfl⟩
theorem cG.k {H:Hp} {a:Addr} {Fe:List (ae × V)} {k:ae} {v:V} (e:H a=some (.dK Fe)) (hl:Fe.length<sizeLine):cG H a (kV k) v (upd H a (.dK (ba Fe k v))):=.inl ⟨Fe,k,e,rfl,hl,rfl⟩
theorem cG.t {H:Hp} {a b:Addr} {Fe:List (List ae × V)} {k:List ae} {v:V} (e:H a=some (.dT Fe)) (eb:H b=some (.tup (k.map kV))) (hl:Fe.length<sizeLine) :
  cG H a (.ref b) v (upd H a (.dT (ba Fe k v))):=.inr ⟨Fe,k,b,e,rfl,eb,hl,rfl⟩
section
variable {X:Cx} {Fd:List (Addr × Obj)} {σ:St} {H:Hp} {s:Shared} {a:Addr} {y v:V} {u r:Value} {o:Option V} {A:Around} {E:Value->Shared->Prop}
theorem Inv.big (I:Inv X Fd σ H s):sysModules<s.heap.objs.size:=by have h:mainGlobals<s.heap.objs.size:=(I.mod.glob.keeps I.bk).lt;exact Nat.lt_trans (by decide) h
theorem Af {Q:Value->Shared->Prop} (hu:A.units+1<cLine) (I:Inv X Fd σ H s) (g:bz H a y (some v)) (ry:RelV y u) (h:∀ w' s',Inv X Fd σ H s'->RelV v w'->Q w' s') :
  wpAny (model X.prog X.w) A (getItem (.ref a) u) Q E s:=by
 rcases g with ⟨Fe,k,e,ey,l⟩ | ⟨Fe,k,b,e,ey,eb,l⟩
 ·subst ey;obtain ⟨z,hd,vs,Ga,dd⟩:=i6 I.hok e;obtain ⟨w',hw,Hq⟩:=cP.some_of (v:=v) (o:=valueAt vs k) (by rw [l];exact Ga.val k);exact wpAny_getItem_of (fR ry) dd.mapOf hw (h w' _ (I.tok _) Hq)
 ·subst ey;cases (show u=Value.ref b from ry);obtain ⟨z,hd,xs,Ga,dd⟩:=i7 I.hok e;obtain ⟨w',hw,Hq⟩:=cP.some_of (v:=v) (o:=(atKey xs k).map (·.2)) (by rw [l];exact Ga.val k);obtain ⟨p,hp,Hu⟩:=Option.map_eq_some_iff.mp hw;refine wpAny_getItem_heap (tupleKind_room_in1 hu) (j5 I.hok eb) dd hp ?_;rw [Hu];exact h w' _ (I.tok _) Hq
theorem Ag {Q:Value->Shared->Prop} (hu:A.units+1<cLine) (I:Inv X Fd σ H s) (g:bz H a y o) (ry:RelV y u) (h:∀ s',Inv X Fd σ H s'->Q (.bool o.isSome) s') :
  wpAny (model X.prog X.w) A (compareOp .In u (.ref a)) Q E s:=by
 rcases g with ⟨Fe,k,e,ey,l⟩ | ⟨Fe,k,b,e,ey,eb,l⟩
 ·subst ey;obtain ⟨z,hd,vs,Ga,dd⟩:=i6 I.hok e;refine wpAny_in_of (fR ry) hd dd.mapOf ?_;rw [<- (Ga.val k).isSome_eq,<- l];exact h _ (I.tok _)
 ·subst ey;cases (show u=Value.ref b from ry);obtain ⟨z,hd,xs,Ga,dd⟩:=i7 I.hok e;refine wpAny_in_heap (tupleKind_room_in1 hu) (j5 I.hok eb) hd dd ?_;have q:=(Ga.val k).isSome_eq;rw [Option.isSome_map] at q;rw [<- q,<- l];exact h _ (I.tok _)
theorem om {h':Heap} {t':Nat} {ob:HO} (I:Inv X Fd σ H s) (mu:jK (H a)) (hs:Heap.SameBut a s.heap h') (he:∃ q,h'.get? a=some q) (new:bJ X.prog X.w (upd H a ob) h' a ob) :
  Inv X Fd σ (upd H a ob) { s with heap:=h',toks:=t' } :=
 I.write (x:=a) (e:=a) mu (.inl rfl) (fun b q hb z=>(hs.2 b hb).trans z) he new
theorem oo {P:Program} {w:World} {H':Hp} {h':Heap} {Fe:List (ae × V)} {vs:List (ae × Value)} (z:Fe.length<=sizeLine) (hd:(a == sysModules)=false) (Ga:KV Fe vs) (dd:h'.DictOf (bF P w) a vs) :
  bJ P w H' h' a (.dK Fe):=⟨z,hd,vs,Ga,dd⟩
theorem Ah {H':Hp} {Q:Unit->Shared->Prop} (hu:A.units+1<cLine) (I:Inv X Fd σ H s) (g:cG H a y v H') (ry:RelV y u) (rv:RelV v r) (h:∀ s',Inv X Fd σ H' s'->Q () s') :
  wpAny (model X.prog X.w) A (setItem (.ref a) u r) Q E s:=by
 rcases g with ⟨Fe,k,e,ey,l,eH⟩ | ⟨Fe,k,b,e,ey,eb,l,eH⟩
 ·subst ey eH;obtain ⟨z,hd,vs,Ga,dd⟩:=sS I.hok e;have hz:vs.length<=sizeLine:=by rw [<- Ga.length];exact z
  have hl:(ba Fe k v).length<=sizeLine:=by have:=iY Fe k v;lia
  refine wpAny_setItem_pairs (hsz:=hz) (fR ry) dd fun h' dd' hs=>h _ ?_;have he:∃ q,h'.get? a=some q:=by obtain ⟨q,_,_,hq,_⟩:=dd';exact ⟨q,hq⟩
  exact om I (by rw [e];exact True.intro) hs he (oo hl hd (Ga.put k rv) dd')
 ·subst ey eH;cases (show u=Value.ref b from ry);obtain ⟨z,hd,xs,Ga,dd⟩:=sT I.hok e;have hz:xs.length<=sizeLine:=by rw [<- Paired.length Ga];exact z
  have hl:(ba Fe k v).length<=sizeLine:=by have:=iY Fe k v;lia
  refine wpAny_setItem_heap (hsz:=hz) (tupleKind_room_in1 hu) (j5 I.hok eb) dd fun h' dd' hs=>h _ ?_;obtain ⟨q,es,ep,hq,h2,h3,h4,_,h5⟩:=dd';refine om I (by rw [e];exact True.intro) hs ⟨q,hq⟩ ⟨hl,hd,_,(Ga.put k eb rv).keeps fun c ys ec=>?_,q,es,ep,hq,h2,h3,h4,h5⟩;rw [ay (yn ec e (fun z=>nomatch z))];exact ec
end
def sU (i:Expr):Prop:=∀ ov iv,subscripted i false ov iv=operate [ov,iv] (getItem ov iv)
theorem Ai {prog:Program} {w:World} {A:Around} {E:Value->Shared->Prop} {s:Shared} {env:Env} {value slice:Expr} {pos:Pos} {T id:String} {Q:Value->Shared->Prop}
  (hl:typeLookup (.type T) "__getitem__"=pure (some (.builtin id))) (hs:sU slice)
  (h:wpAny (model prog w) A (eval value env) (fun o s₁=>wpAny (model prog w) A (eval slice env) (fun i s₂=>s₂.TypeIs o T/\wpAny (model prog w) A (getItem o i) Q E s₂) E s₁) E s) :
  wpAny (model prog w) A (eval (.Subscript value slice pos) env) Q E s:=by
 refine Subscript_ (QR h (fun o s₁ h₁=>QR h₁ (fun i s₂ h₂=>?_) fun _ _ x=>x) fun _ _ x=>x);obtain ⟨hT,h₂⟩:=h₂;unfold subscriptTail;refine Qb ?_;rw [getitemInPython_of_ne hT.not_modules];refine Qb (wpAny_specialOf hT hl ?_);have fin:wpAny (model prog w) A (subscripted slice false o i) (fun r s₃=>wpAny (model prog w) A (letTemporaryGo value o r >>= fun _=>pure r) Q E s₃) E s₂:=by rw [hs o i];exact wpAny_operating (QR h₂ (fun r s₃ h₃=>Qb (wpAny_letTemporaryGo (Qf h₃))) fun _ _ x=>x)
 first
  | exact Qf (Qb fin)
  | exact Qb (Qf (Qb fin))
  | exact Qb fin
theorem Aj {X:Cx} {Fd:List (Addr × Obj)} {σ:St} {H:Hp} {s:Shared} {a:Addr} {y:V} {o:Option V} (I:Inv X Fd σ H s) (g:bz H a y o):s.TypeIs (.ref a) "dict":=by
 rcases g with ⟨Fe,k,e,_,_⟩ | ⟨Fe,k,b,e,_,_,_⟩
 ·obtain ⟨_,_,vs,_,dd⟩:=i6 I.hok e;exact dd.typeIs
 ·obtain ⟨_,_,xs,_,dd⟩:=i7 I.hok e;exact dd.typeIs
def Ak (td ty:TE):TE:=fun σ H Q=>td σ H fun x H1=>ty σ H1 fun y H2=>∃ a v,x=.ref a/\bz H2 a y (some v)/\Q v H2
def Al (ty td:TE):TE:=fun σ H Q=>ty σ H fun y H1=>td σ H1 fun x H2=>∃ a o,x=.ref a/\bz H2 a y o/\Q (.bl o.isSome) H2
def Am (td ty tv:TE):TS:=fun D σ H=>tv σ H fun v H1=>td σ H1 fun x H2=>ty σ H2 fun y H3=>∃ a H4,x=.ref a/\cG H3 a y v H4/\D.nx σ H4
section
variable {X:Cx} {o i e value:Expr} {pos Gm Jt:Pos} {td ty tv:TE}
theorem cT (hu:X.A.units+1<cLine) (ho:PE X o td) (hi:PE X i ty) (hs:sU i):PE X (.Subscript o i pos) (Ak td ty):=by intro Fd s σ H Q I h;refine Ai PySem.F.slot_dict_getitem.lookup hs (az (ho Fd s σ H _ I h) fun u s1 ⟨x,H1,I1,rx,q1⟩=>az (hi Fd s1 σ H1 _ I1 q1) fun iv s2 hsl54=>?_);obtain ⟨y,H2,I2,ry,a,v,ex,g,q2⟩:=hsl54;subst ex;obtain rfl:u=Value.ref a:=rx;exact ⟨Aj I2 g,Af hu I2 g ry fun w' s3 I3 Hq=>⟨v,H2,I3,Hq,q2⟩⟩
theorem An (hu:X.A.units+1<cLine) (hi:PE X i ty) (ho:PE X o td):PC X .In i o (Al ty td):=by
 intro Fd s σ H Q I h;refine az (hi Fd s σ H _ I h) fun iv s1 ⟨y,H1,I1,ry,q1⟩=>az (ho Fd s1 σ H1 _ I1 q1) fun u s2 hsl55=>?_;obtain ⟨x,H2,I2,rx,a,ov,ex,g,q2⟩:=hsl55;subst ex;obtain rfl:u=Value.ref a:=rx
 exact Ag hu I2 g ry fun s3 I3=>⟨.bl ov.isSome,H2,I3,rfl,q2⟩
theorem gu (hu:X.A.units+1<cLine) (ho:PE X o td) (hi:PE X i ty) (hv:PE X value tv) (hs:swapsWith value (some (.Subscript o i Gm)) pos.line X.env=pure false) :
  PS X (.Assign [.Subscript o i Gm] value pos) (Am td ty tv):=by
 intro Fd s σ H D I h;refine wpAny_Assign_Subscript (az (hv Fd s σ H _ I h) fun r s1 ⟨v,H1,I1,rv,q1⟩=>az (ho Fd s1 σ H1 _ I1 q1) fun u s2 ⟨x,H2,I2,rx,q2⟩=>az (hi Fd s2 σ H2 _ I2 q2) fun iv s3 hsl56=>?_) hs;obtain ⟨y,H3,I3,ry,a,H4,ex,g,q3⟩:=hsl56;subst ex;obtain rfl:u=Value.ref a:=rx
 exact Ah hu I3 g ry rv fun s4 I4=>⟨σ,H4,I4,q3⟩
end
theorem sV {P:Program} {w:World} {H:Hp} (h:Heap) (hb:sysModules<h.objs.size):bJ P w H (h.push { cls:=.type "dict",data:=.dict #[] }) h.objs.size (.dK []) :=
 ⟨Qr _,beq_eq_false_iff_ne.mpr (Ne.symm (QC hb)),[],.nil,Heap.DictOf.new h⟩
theorem Ao {P:Program} {w:World} {H:Hp} (h:Heap) (hb:sysModules<h.objs.size):bJ P w H (h.push { cls:=.type "dict",data:=.dict #[] }) h.objs.size (.dT []) :=
 ⟨Qr _,beq_eq_false_iff_ne.mpr (Ne.symm (QC hb)),[],.nil,_,#[],0,Qn _ rfl,⟨rfl,rfl,rfl⟩,rfl,rfl,List.nodup_nil⟩
def Ap:TE:=fun _ H Q=>∀ p,H p=none->Q (.ref p) (upd H p (.dK []))
def Aq:TE:=fun _ H Q=>∀ p,H p=none->Q (.ref p) (upd H p (.dT []))
section
variable {X:Cx} {pos:Pos}
theorem Ar:PE X (.Dict [] [] pos) Ap:=fun Fd s σ H Q I h =>
 wpAny_Dict_empty ⟨.ref s.heap.objs.size,_,I.laid (a:=s.heap.objs.size) (o:=.dK []) (t':=s.toks) (fun _ _ q=>Qd _ q) (Qc _) (sV s.heap I.big),rfl,h _ (I.hok.fresh (Qc _))⟩
theorem sW:PE X (.Dict [] [] pos) Aq:=fun Fd s σ H Q I h =>
 wpAny_Dict_empty ⟨.ref s.heap.objs.size,_,I.laid (a:=s.heap.objs.size) (o:=.dT []) (t':=s.toks) (fun _ _ q=>Qd _ q) (Qc _) (Ao s.heap I.big),rfl,h _ (I.hok.fresh (Qc _))⟩
end
def oq:List (TE × TE)->St->Hp->(List (V × V)->Hp->Prop)->Prop
 | [],_,H,Q=>Q [] H
 | (tk,tv)::r,σ,H,Q=>tk σ H fun x H1=>tv σ H1 fun y H2=>oq r σ H2 fun ps H3=>Q ((x,y)::ps) H3
abbrev VV:List (V × V)->List (Value × Value)->Prop:=Paired fun p q=>RelV p.1 q.1/\RelV p.2 q.2
def lB (X:Cx) (pos:Pos) (Gy:List (Option Expr)) (GE:List Expr) (trs:List (TE × TE)):Prop :=
 ∀ (Fd:List (Addr × Obj)) (s:Shared) (σ:St) (H:Hp) (Q:List (V × V)->Hp->Prop),Inv X Fd σ H s->oq trs σ H Q ->
  wpAny (model X.prog X.w) X.A (evalPairs (pairTrees Gy GE X.env pos)) (fun vs s'=>∃ ps H',Inv X Fd σ H' s'/\VV ps vs/\Q ps H') X.xe s
theorem As {X:Cx} {pos:Pos}:lB X pos [] [] []:=fun Fd s σ H Q I h=>pairTrees_nil_walk ⟨[],H,I,.nil,h⟩
theorem i8 {X:Cx} {pos:Pos} {k v:Expr} {ks:List (Option Expr)} {vs:List Expr} {tk tv:TE} {trs:List (TE × TE)} (hk:PE X k tk) (hv:PE X v tv) (hr:lB X pos ks vs trs) :
  lB X pos (some k::ks) (v::vs) ((tk,tv)::trs):=fun Fd s σ H Q I h =>
 pairTrees_cons_walk (az (hk Fd s σ H _ I h) fun u s1 ⟨x,H1,I1,rx,q1⟩=>az (hv Fd s1 σ H1 _ I1 q1) fun w2 s2 ⟨y,H2,I2,ry,q2⟩ =>
  az (hr Fd s2 σ H2 _ I2 q2) fun ws s3 hsl57=>by obtain ⟨ps,H3,I3,Ga,q3⟩:=hsl57;exact ⟨(x,y)::ps,H3,I3,.cons ⟨rx,ry⟩ Ga,q3⟩)
noncomputable def i9 (Fe more:List (ae × V)):List (ae × V):=more.foldl (fun FC kv=>ba FC kv.1 kv.2) Fe
theorem KV.merge:∀ {more:List (ae × V)} {rs:List (ae × Value)} {Fe:List (ae × V)} {vs:List (ae × Value)},KV more rs->KV Fe vs->KV (i9 Fe more) (merged vs rs):=by
 intro more rs Fe vs r;unfold KV at r
 induction r generalizing Fe vs with
 | nil=>intro q;exact q
 | @cons p q ps qs h t ih =>
  intro r0;have e:KV (ba Fe p.1 p.2) (stored vs q.1 q.2):=by have:=r0.put p.1 h.2;rw [<- h.1];exact this
  exact ih e
theorem sX:∀ (more Fe:List (ae × V)),(i9 Fe more).length<=Fe.length+more.length
 | [],Fe=>by show Fe.length<=Fe.length+0;lia
 | p::r,Fe=>by have h1:=sX r (ba Fe p.1 p.2);have h2:=iY Fe p.1 p.2;show (i9 (ba Fe p.1 p.2) r).length<=_;rw [QN];lia
theorem sY {P:Program} {w:World}:∀ {Fe:List (ae × V)} {ws:List (Value × Value)},VV (Fe.map fun kv=>(kV kv.1,kv.2)) ws->∃ rs,Carries (bF P w) ws rs/\KV Fe rs
 | [],_,r=>by rw [List.map_nil] at r;cases r;exact ⟨[],True.intro,.nil⟩
 | p::Fe,_,r=>by
  rw [List.map_cons] at r
  cases r with
  | @cons a b as bs h t =>
   obtain ⟨rs,c,q⟩:=sY (P:=P) (w:=w) t;obtain ⟨b1,b2⟩:=b;exact ⟨(p.1,b2)::rs,⟨fR h.1,rfl,c⟩,.cons ⟨rfl,h.2⟩ q⟩
def At (trs:List (TE × TE)):TE:=fun σ H Q=>∀ p,H p=none->oq trs σ (upd H p (.dK [])) fun ps H2=>H2 p=some (.dK [])/\∃ Fe:List (ae × V),ps=Fe.map (fun kv=>(kV kv.1,kv.2))/\Fe.length<=15/\Q (.ref p) (upd H2 p (.dK (i9 [] Fe)))
theorem Au {X:Cx} {pos:Pos} {Gy:List (Option Expr)} {GE:List Expr} {trs:List (TE × TE)} (h:lB X pos Gy GE trs) (hall:Gy.all (·.isSome)=true) (hl:Gy.length=GE.length) (h0:Gy≠[])
  (h15:Gy.length<=15):PE X (.Dict Gy GE pos) (At trs):=by
 intro Fd s σ H Q I q;have hn:=I.hok.fresh (Qc s.heap.objs.size);have I1:=I.laid (a:=s.heap.objs.size) (o:=.dK []) (h':=s.heap.push { cls:=.type "dict",data:=.dict #[] }) (t':=s.toks) (fun _ _ q=>Qd _ q) (Qc _) (sV s.heap I.big);refine wpAny_Dict_walk (knd:=bF X.prog X.w) hall hl h0 h15 (az (h Fd _ σ _ _ I1 (q _ hn)) fun ws s2 hsl58=>?_);obtain ⟨ps,H2,I2,Ga,e,Fe,ep,lk,q2⟩:=hsl58;subst ep;obtain ⟨rs,c,rk⟩:=sY (P:=X.prog) (w:=X.w) Ga;obtain ⟨z,hd,vs0,r0,dd⟩:=sS I2.hok e;cases r0;refine ⟨rs,c,dd,fun h' dd' hs=>⟨.ref s.heap.objs.size,_,?_,rfl,q2⟩⟩;have hz:(i9 [] Fe).length<=sizeLine:=by have h1:=sX Fe [];rw [List.length_nil] at h1;rw [sizeLine_eq];lia
 have he:∃ q,h'.get? s.heap.objs.size=some q:=by obtain ⟨q,_,_,hq,_⟩:=dd';exact ⟨q,hq⟩
 exact om I2 (by rw [e];exact True.intro) hs he (oo hz hd (rk.merge .nil) dd')
structure M2 (X:Cx) (o:Expr) (m:Str) (apos:Pos) (e f:Expr) (Fx:Pos):Prop where
 base:attributeBase o m X.env (eval o X.env)=eval o X.env
 few:((backTo Fx (starEach [e,f] X.env)).all (fun x=>!x.1)&&(backToKw Fx (keywordEach [] X.env)).all (fun x=>x.1.isSome)
  && decide (([e,f]:List Expr).length+([]:List Keyword).length+(if ([]:List Keyword).isEmpty then 0 else 1)<30))=true
 line:(apos.endLine == Fx.line)=true
 trees:backTo Fx (starEach [e,f] X.env)=[(false,eval e X.env),(false,eval f X.env)]
def ou (H:Hp) (a:Addr):Prop:=(∃ Fe,Rd H a (.dK Fe))∨∃ Fe,Rd H a (.dT Fe)
theorem Av {X:Cx} {Fd:List (Addr × Obj)} {σ:St} {H:Hp} {s:Shared} {a:Addr} (I:Inv X Fd σ H s) (d:ou H a) :
  s.TypeIs (.ref a) "dict"/\(∀ b,Value.ref a=.ref b->∃ ob,s.heap.get? b=some ob/\ob.dict=none)/\(a == sysModules)=false:=by
 rcases d with ⟨Fe,e⟩ | ⟨Fe,e⟩
 ·obtain ⟨_,hd,vs,_,dd⟩:=i6 I.hok e;refine ⟨dd.typeIs,fun b q=>?_,hd⟩;cases q;obtain ⟨ob,_,_,h1,h2,_⟩:=dd;exact ⟨ob,h1,h2.2.1⟩
 ·obtain ⟨_,hd,xs,_,dd⟩:=i7 I.hok e;refine ⟨dd.typeIs,fun b q=>?_,hd⟩;cases q;obtain ⟨ob,_,_,h1,h2,_⟩:=dd;exact ⟨ob,h1,h2.2.1⟩
section
variable {X:Cx} {Fd:List (Addr × Obj)} {σ:St} {H:Hp} {s:Shared} {a:Addr} {y d:V} {u r:Value} {o:Option V} {A:Around} {E:Value->Shared->Prop}
theorem Aw {Q:Value->Shared->Prop} (hu:A.units+1<cLine) (I:Inv X Fd σ H s) (g:bz H a y o) (ry:RelV y u) (rd:RelV d r) (h:∀ w' s',Inv X Fd σ H s'->RelV (o.getD d) w'->Q w' s') :
  wpAny (model X.prog X.w) A (call (.builtin "dict.get") [.ref a,u,r]) Q E s:=by
 rcases g with ⟨Fe,k,e,ey,l⟩ | ⟨Fe,k,b,e,ey,eb,l⟩
 ·subst ey;obtain ⟨z,hd,vs,Ga,dd⟩:=i6 I.hok e;refine call_meetsIn PySem.F.slot_dict_get dd.typeIs PySem.F.entry_dict_get (PySem.F.args_dict_get_3 _ _ _) (meets_dict_get_default (bF X.prog X.w) a (fR ry) hd r) ⟨_,dd.mapOf,h _ _ (I.tok _) ?_⟩;rw [l];exact (Ga.val k).getD rd
 ·subst ey;cases (show u=Value.ref b from ry);obtain ⟨z,hd,xs,Ga,dd⟩:=i7 I.hok e;refine call_meetsIn PySem.F.slot_dict_get dd.typeIs PySem.F.entry_dict_get (PySem.F.args_dict_get_3 _ _ _) (meetsH_dict_get_default (tupleKind (bF X.prog X.w)) a b hd r) ⟨tupleKind_room_in1 hu,k,xs,j5 I.hok eb,dd,h _ _ (I.tok _) ?_⟩;rw [l];exact (Ga.val k).getD rd
end
def Ax (td ty tx:TE):TE:=fun σ H Q=>td σ H fun x H1=>∃ a,x=.ref a/\ou H1 a/\ty σ H1 fun y H2=>tx σ H2 fun z H3=>∃ o,bz H3 a y o/\Q (o.getD z) H3
section
variable {X:Cx} {o e f:Expr} {apos Fx:Pos} {td ty tx:TE}
theorem ja (hu:X.A.units+1<cLine) (ho:PE X o td) (he:PE X e ty) (hf:PE X f tx) (m:M2 X o "get" apos e f Fx):PE X (.Call (.Attribute o "get" apos) [e,f] [] Fx) (Ax td ty tx):=by
 intro Fd s σ H Q I h;refine wpAny_Call_method m.base m.few m.line PySem.F.plainAttrs_dict PySem.F.slot_dict_get PySem.F.type_dict_get (az (ho Fd s σ H _ I h) fun u s1 hsl59=>?_);obtain ⟨x,H1,I1,rx,a,ex,d,q1⟩:=hsl59;subst ex;obtain rfl:u=Value.ref a:=rx;obtain ⟨t1,t2,_⟩:=Av I1 d;refine ⟨t1,t2,?_⟩;rw [m.trees]
 refine Calls.callWith_builtin rfl (Calls.evalArgs_plain (Calls.spliced_cons (az (he Fd s1 σ H1 _ I1 q1) fun iv s2 ⟨y,H2,I2,ry,q2⟩ =>
  Calls.spliced_cons (az (hf Fd s2 σ H2 _ I2 q2) fun fv s3 ⟨z,H3,I3,rz,ov,g,q3⟩=>Calls.spliced_nil ?_))))
 exact Aw hu I3 g ry rz fun w' s4 I4 Hq=>⟨_,H3,I4,Hq,q3⟩
end
end L2
namespace Mm
open PySem
theorem ow:∀ (n m:Nat),m<=n->m≠0->∃ t q,m=2 ^ (t+1)*q+2 ^ t
 | 0,m,h,h0=>absurd (by lia) h0
 | n+1,m,h,h0=>by
  by_cases hm:m % 2=1
  ·exact ⟨0,m / 2,by simp;lia⟩
  ·obtain ⟨t,q,e⟩:=ow n (m / 2) (by lia) (by lia);refine ⟨t+1,q,?_⟩;have e1:2 ^ (t+1+1)*q=2*(2 ^ (t+1)*q):=by rw [Nat.pow_succ 2 (t+1),Nat.mul_comm (2 ^ (t+1)) 2,Nat.mul_assoc]
   have e2:2 ^ (t+1)=2*2 ^ t:=by rw [Nat.pow_succ,Nat.mul_comm]
   rw [e1];lia
theorem Ay (t q:Nat):(2 ^ (t+1)*q+2 ^ t).testBit t=true:=by rw [Nat.testBit_two_pow_mul_add _ (Nat.pow_lt_pow_right (by decide) (by lia)),if_pos (by lia),Nat.testBit_two_pow];simp
theorem sZ (t q:Nat):(2 ^ (t+1)*q+2 ^ t) ^^^ (2 ^ (t+1)*q+2 ^ t-1)=2 ^ (t+1)-1:=by
 have hp:=Nat.two_pow_pos t;have e2:2 ^ (t+1)=2*2 ^ t:=by rw [Nat.pow_succ,Nat.mul_comm]
 have e:2 ^ (t+1)*q+2 ^ t-1=2 ^ (t+1)*q+(2 ^ t-1):=by omega
 rw [e];refine Nat.eq_of_testBit_eq fun j=>?_;rw [Nat.testBit_xor,Nat.testBit_two_pow_mul_add _ (show 2 ^ t<2 ^ (t+1) by omega),Nat.testBit_two_pow_mul_add _ (show 2 ^ t-1<2 ^ (t+1) by omega),Nat.testBit_two_pow_sub_one];by_cases hj:j<t+1
 ·rw [if_pos hj,if_pos hj,Nat.testBit_two_pow,Nat.testBit_two_pow_sub_one];by_cases hjt:j<t
  ·have:¬ t=j:=by omega
   simp [hj,hjt,this]
  ·have:t=j:=by omega
   subst this;simp
 ·rw [if_neg hj,if_neg hj];simp [hj]
theorem tf (t:Nat):Builtin.Int.intBits ((2 ^ (t+1)-1:Nat):Int)=t+1:=by
 have hp:=Nat.two_pow_pos t;have e2:2 ^ (t+1)=2*2 ^ t:=by rw [Nat.pow_succ,Nat.mul_comm]
 have h1:Builtin.Int.intBits ((2 ^ (t+1)-1:Nat):Int)<=t+1:=z4 (by omega);have h2:¬ Builtin.Int.intBits ((2 ^ (t+1)-1:Nat):Int)<=t:=fun h=>by have:=intBits_le_iff.mp h;rw [Int.natAbs_natCast] at this;omega
 omega
end Mm
namespace Mm
open PySem L2
theorem lC:bootBuiltins "tuple"=some (.type "tuple"):=by decide +kernel
theorem ox {js:List Nat} {tt:TT} {te:TE} {K:PySem.W.Frag} {a:Addr} {xs:List V} {σ:St} {H:Hp} {Q:VK} (Pv:Nat->List V->Hp->Prop) (h0:Pv 0 [] H) (hl:∀ i ys H,i<=xs.length->Pv i ys H->au K H a xs)
  (hs:∀ i x ys H,xs[i]?=some x->Pv i ys H->tt (some x::cF js σ) H fun b H2=>if b=true then te (some x::cF js σ) H2 fun y H3=>ys.length<sizeLine/\Pv (i+1) (ys++[y]) H3 else Pv (i+1) ys H2)
  (hd:∀ ys H,Pv xs.length ys H->∀ p,H p=none->Q (.ref p) (upd H p (.lst ys))) :
  lx (eF K a) js tt te σ H Q:=by
 refine ⟨fun i m ys H=>m=xs.length-i/\i<=xs.length/\Pv i ys H,⟨xs.length,by simp,Qr _,h0⟩,?_⟩;rintro i m ys H ⟨rfl,hi,p⟩;have q:=hl i ys H hi p;by_cases Fl:i<xs.length
 ·refine .inr ⟨⟨xs,xs[i],q,by simp [Fl]⟩,Pv (i+1),fun Ho H' p'=>⟨xs.length-(i+1),by omega,rfl,Fl,p'⟩,fun x H' y=>?_⟩;obtain ⟨e,y⟩:=y;subst e;exact hs i x ys _ (y xs q) p
 ·have e:i=xs.length:=by omega
  subst e;exact .inl ⟨⟨xs,q,Qc _⟩,hd ys H p⟩
theorem lD {v:V} {i:Nat} {b:TS} {D:cE} {σ:St} {H:Hp} (h:b D (σ.set i (some v)) H):gR (ln (tC v) (aK i)) b D σ H:=h
theorem gv {c:TT} {t u b:TS} {D:cE} {σ:St} {H:Hp} (P:St->Hp->Prop) (h1:∀ R:St->Hp->Prop,(∀ σ' H',P σ' H'->R σ' H')->nG c t u { D with nx:=R } σ H) (h2:∀ σ' H',P σ' H'->b D σ' H'):gR (nG c t u) b D σ H:=h1 (b D) h2
theorem ic {wi:TI} {g:TG} {tb b:TS} {D:cE} {σ:St} {H:Hp} (P:St->Hp->Prop) (h1:∀ R:St->Hp->Prop,(∀ σ' H',P σ' H'->R σ' H')->nJ wi g tb { D with nx:=R } σ H) (h2:∀ σ' H',P σ' H'->b D σ' H'):gR (nJ wi g tb) b D σ H:=h1 (b D) h2
theorem Az {c:TT} {tb b:TS} {D:cE} {σ:St} {H:Hp} (P:St->Hp->Prop) (h1:∀ R:St->Hp->Prop,(∀ σ' H',P σ' H'->R σ' H')->nI c tb { D with nx:=R } σ H) (h2:∀ σ' H',P σ' H'->b D σ' H'):gR (nI c tb) b D σ H:=h1 (b D) h2
end Mm
namespace L2
open PySem PySem.Spec PyProof.Rows
theorem AB {X:Cx} {K:PySem.W.Frag} {es:List Expr} {k:Nat} {pos:Pos} {t:gg} {n:Nat} (hK:X.K=K) (hc:X.calm=true) (h:iK X es t)
  (hn:(assignEach es X.env).length=n:=by rfl) (Jc:(assignEach es X.env).findIdx? (·.1)=none:=by rfl):PG X (.Tuple es k pos) (ll K n t):=by
 subst hK;exact rA hc h hn Jc
section
variable {k:Nat} {js:List Nat} {g:TG} {tt:TT} {te:TE}
theorem oy {K:PySem.W.Frag} {a:Addr} {xs:List V} {σ:St} {H:Hp} {Q:VK} (Pv:Nat->List V->Hp->Prop) (h0:Pv 0 [] H) (hl:∀ i ys H,i<=xs.length->Pv i ys H->ak K H a xs)
  (hs:∀ i x ys H,xs[i]?=some x->Pv i ys H->j3 k js g tt te σ ys (Pv (i+1)) x H)
  (hd:∀ ys H,Pv xs.length ys H->∀ p,H p=none->Q (.ref p) (upd H p (.lst ys))):lz (dZ K a) k js g tt te σ H Q:=by
 refine ⟨fun i m ys H=>m=xs.length-i/\i<=xs.length/\Pv i ys H,⟨xs.length,by simp,Qr _,h0⟩,?_⟩;rintro i m ys H ⟨rfl,hi,p⟩;have q:=hl i ys H hi p;by_cases Fl:i<xs.length
 ·refine .inr ⟨⟨xs,xs[i],q,by simp [Fl]⟩,Pv (i+1),fun Ho H' p'=>⟨xs.length-(i+1),by lia,rfl,Fl,p'⟩,fun x H' y=>?_⟩;obtain ⟨e,y⟩:=y;subst e;exact hs i x ys _ (y xs q) p
 ·have e:i=xs.length:=by lia
  subst e;exact .inl ⟨⟨xs,q,Qc _⟩,hd ys H p⟩
end
section
variable {prog:Program} {w:World} {A:Around} {E:Value->Shared->Prop} {s:Shared}
theorem oz {c t:Addr} {i:Nat} {zs:Array Value} {x:Value} {Q:Value->Shared->Prop} (g:s.heap.IsTupleIter c t i) (gt:s.heap.IsTuple t zs) (gx:zs[i]?=some x)
  (k:∀ hp,hp.IsTupleIter c t (i+1)->Heap.SameBut c s.heap hp->Q x { s with heap:=hp }):wpAny (model prog w) A (Builtin.SmallTypes.nextOf (.ref c)) Q E s:=by
 have ty:=g.typeIs;obtain ⟨o,h1,h2,h3⟩:=id g;obtain ⟨q,hq,_,m,hm⟩:=gt;unfold Builtin.SmallTypes.nextOf;refine Qb (wpAny_callSpecial?_slot (name:=Str.ofString "__next__") ty F.slot_tuple_iterator_next (wpAny_call_entry F.slot_tuple_iterator_next ty F.entry_tuple_iterator_next ?_ (F.args_tuple_iterator_next_1 _)));change wpAny _ _ (field (.ref c) 0 >>= _) _ _ _;refine Qb (wpAny_field h1 h3 (x:=.ref t) rfl ?_);change wpAny _ _ (if (Value.ref t == Value.none)=true then _ else _) _ _ _;rw [if_neg (by exact Qt)];change wpAny _ _ (field (.ref c) 1 >>= _) _ _ _;refine Qb (wpAny_field h1 h3 (x:=.int i 0) rfl ?_);change wpAny _ _ (seqItems? (.ref t) >>= _) _ _ _;refine Qb (wpAny_seqItems hq hm ?_);simp only [Qy,gx];have z:=fun hp a b=>Qf (M:=model prog w) (A:=A) (E:=E) (k hp a b);refine Qb (wpAny_setField h1 h3 (by simp) (Qf ⟨x,rfl,z _ ⟨_,Heap.get?_update_self _ h1 (Obj.isFreed_of_fields (Obj.data_mapFields h3 _)),(Obj.cls_mapFields ..).trans h2,?_⟩ (Heap.SameBut.update ..)⟩));rw [Obj.data_mapFields h3];simp [rawInt]
theorem tm {c t:Addr} {i:Nat} {zs:Array Value} {Q:Value->Shared->Prop} (hh:A.handled=none) (g:s.heap.IsTupleIter c t i) (gt:s.heap.IsTuple t zs) (gx:zs[i]?=none)
  (k:∀ hp e,Heap.ExtBut c s.heap hp->(∃ o,hp.get? e=some o/\o.cls=.type "StopIteration")->E (.ref e) { s with heap:=hp }):wpAny (model prog w) A (Builtin.SmallTypes.nextOf (.ref c)) Q E s:=by
 have ty:=g.typeIs;obtain ⟨o,h1,h2,h3⟩:=id g;obtain ⟨q,hq,_,m,hm⟩:=gt;unfold Builtin.SmallTypes.nextOf;refine Qb (wpAny_callSpecial?_slot (name:=Str.ofString "__next__") ty F.slot_tuple_iterator_next (wpAny_call_entry F.slot_tuple_iterator_next ty F.entry_tuple_iterator_next ?_ (F.args_tuple_iterator_next_1 _)));change wpAny _ _ (field (.ref c) 0 >>= _) _ _ _;refine Qb (wpAny_field h1 h3 (x:=.ref t) rfl ?_);change wpAny _ _ (if (Value.ref t == Value.none)=true then _ else _) _ _ _;rw [if_neg (by exact Qt)];change wpAny _ _ (field (.ref c) 1 >>= _) _ _ _;refine Qb (wpAny_field h1 h3 (x:=.int i 0) rfl ?_);change wpAny _ _ (seqItems? (.ref t) >>= _) _ _ _;refine Qb (wpAny_seqItems hq hm ?_);simp only [Qy,gx];refine Qb (wpAny_rule (Qb (wpAny_setField h1 h3 (by simp) ?_)));change wpAny _ _ (newExc (.type "StopIteration") [] >>= _) _ _ _;refine Qb ?_;simp only [newTuple,newExc];refine Qb (wpAny_newObj_type ?_ (by size_fits));refine Qb (m:=firstArgMember _ _) (wpAny_of_eq (a:=Value.none) rfl ?_);refine wpAny_newObj_type ?_ (by size_fits);simp only [raiseNew];refine Qb (wpAny_handled ?_)
 first | rw [hh] | rw [show A.in1.handled=none from hh]
 exact Qb (Qf (wpAny_throw (k _ _ (((Heap.SameBut.update ..).extBut.push _).push _) ⟨_,Qn _ rfl,rfl⟩)))
def cH (l:Bool) (h:Heap) (b:Addr) (ys:Array Value):Prop:=∃ o,h.get? b=some o/\o.cls=.type (bif l then "list" else "tuple")/\∃ n,o.data=.seq ys n
def d6 (l:Bool) (h:Heap) (d b:Addr) (k:Nat):Prop:=∃ o,h.get? d=some o/\o.cls=.type (bif l then "list_iterator" else "tuple_iterator")/\o.data=.fields #[.ref b,.int k 0]
def gw (l:Bool) (K:PySem.W.Frag) (H:Hp) (b:Addr) (ys:List V):Prop:=bif l then ak K H b ys else au K H b ys
theorem cH.extBut {l:Bool} {h h':Heap} {b c:Addr} {ys:Array Value} (p:cH l h b ys) (e:Heap.ExtBut c h h') (n:b≠c):cH l h' b ys :=
 let ⟨o,q,r⟩:=p;⟨o,e b o n q,r⟩
theorem d6.at {l:Bool} {h h':Heap} {d b:Addr} {k:Nat} (p:d6 l h d b k) (e:∀ o,h.get? d=some o->h'.get? d=some o):d6 l h' d b k :=
 let ⟨o,q,r⟩:=p;⟨o,e o q,r⟩
theorem d6.extBut {l:Bool} {h h':Heap} {d b c:Addr} {k:Nat} (p:d6 l h d b k) (e:Heap.ExtBut c h h') (n:d≠c):d6 l h' d b k:=p.at fun o r=>e d o n r
theorem AC {l:Bool} {c t:Addr} {i:Nat} {zs:Array Value} {x:Value} {Q:Value->Shared->Prop} (g:d6 l s.heap c t i) (gt:cH l s.heap t zs) (gx:zs[i]?=some x)
  (k:∀ hp,d6 l hp c t (i+1)->Heap.SameBut c s.heap hp->Q x { s with heap:=hp }):wpAny (model prog w) A (Builtin.SmallTypes.nextOf (.ref c)) Q E s:=by
 cases l
 ·exact oz g gt gx k
 ·exact wpAny_nextOf_list_item g gt gx k
theorem AD {l:Bool} {c t:Addr} {i:Nat} {zs:Array Value} {Q:Value->Shared->Prop} (hh:A.handled=none) (g:d6 l s.heap c t i) (gt:cH l s.heap t zs) (gx:zs[i]?=none)
  (k:∀ hp e,Heap.ExtBut c s.heap hp->(∃ o,hp.get? e=some o/\o.cls=.type "StopIteration")->E (.ref e) { s with heap:=hp }):wpAny (model prog w) A (Builtin.SmallTypes.nextOf (.ref c)) Q E s:=by
 cases l
 ·exact tm hh g gt gx k
 ·exact wpAny_nextOf_list_end hh g gt gx k
theorem Inv.seqS {l:Bool} {X:Cx} {Fd:List (Addr × Obj)} {σ:St} {H:Hp} {a:Addr} {xs:List V} (I:Inv X Fd σ H s) (h:gw l X.K H a xs):∃ its:List Value,aD xs its/\cH l s.heap a its.toArray/\xs.length<=sizeLine:=by
 cases l
 ·exact I.tuple h
 ·obtain ⟨its,r,⟨o,n,e,c,_,d⟩,z⟩:=I.list h;exact ⟨its,r,⟨o,e,c,n,d⟩,z⟩
theorem Inv.seqS_inj {l:Bool} {X:Cx} {Fd:List (Addr × Obj)} {σ:St} {H:Hp} {a:Addr} {xs ys:List V} (I:Inv X Fd σ H s) (h:gw l X.K H a xs) (h':gw l X.K H a ys):xs=ys:=by
 cases l
 ·exact I.tuple_inj h h'
 ·exact I.list_inj h h'
structure ZT (l:Bool) (h:Heap) (z TI TO c d a b:Addr) (k:Nat) (f:Value):Prop where
 zip:IsZip h z TI TO f
 its:IsPair h TI (.ref c) (.ref d)
 own:∃ p q,IsPair h TO p q
 fst:h.IsTupleIter c a k
 snd:d6 l h d b k
theorem ZT.zip_item {l:Bool} {z TI TO c d a b:Addr} {k:Nat} {xs ys:Array Value} {x y:Value} {Q:Value->Shared->Prop} (D:ZipApart z TI TO c d a b) (Z:ZT l s.heap z TI TO c d a b k .none)
  (ha:s.heap.IsTuple a xs) (hb:cH l s.heap b ys) (hx:xs[k]?=some x) (hy:ys[k]?=some y)
  (kq:∀ hp,ZT l hp z TI TO c d a b (k+1) (rawInt s.heap.objs.size)->IsPair hp s.heap.objs.size x y->(∀ e o,e≠z->e≠TO->e≠c->e≠d->s.heap.get? e=some o->hp.get? e=some o)->Q (.ref s.heap.objs.size) { s with heap:=hp }) :
  wpAny (model prog w) A (Builtin.«zip.__next__» ⟨[.ref z],[]⟩) (fun fin s'=>∃ v,fin=.done (.ret v)/\Q v s') E s:=by
 obtain ⟨Zz,Zi,⟨p,q,Zo⟩,Z1,Z2⟩:=Z;change wpAny _ _ (field (.ref z) 2 >>= _) _ _ _;refine Qb (wpAny_field Zz rfl (x:=.bool false) rfl ?_);change wpAny _ _ (field (.ref z) 3 >>= _) _ _ _;refine Qb (wpAny_field Zz rfl (x:=.ref TI) rfl (Qb (wpAny_seqItems Zi rfl ?_)));change wpAny _ _ (Builtin.SmallTypes.ownedTupleIsFree (.ref z) >>= _) _ _ _;refine Qb ?_;unfold Builtin.SmallTypes.ownedTupleIsFree;refine Qb (wpAny_field Zz rfl (x:=.none) rfl (Qf ?_));simp only [if_true];refine Qb (wpAny_rule (Qb (wpAny_field Zz rfl (x:=.ref TO) rfl ?_)));refine Qb (wpAny_setField_rec Zz (by simp) fun g1 Zz1 e1=>?_);have Zz1:IsZip g1 z TI TO .ellipsis:=Zz1;refine Qb ?_;simp only [List.zipIdx_cons,List.zipIdx_nil,List.forIn_cons,List.forIn_nil];refine Qb (Qb (wpAny_onRaise ?_));change wpAny _ _ (Builtin.SmallTypes.nextOf (.ref c) >>= _) _ _ _;refine Qb (oz (Z1.extBut e1.extBut D.i1z) (ha.extBut e1.extBut D.l1z) hx fun g2 Y1 e2=>Qf ?_);have O2:IsPair g2 TO p q:=e2.extBut _ _ D.TOi1 (e1.extBut _ _ D.TOz Zo);refine Qb (wpAny_seqItems O2 rfl (Qb (wpAny_updateSeq_pair O2 fun g3 O3 e3=>?_)));have O3:IsPair g3 TO x q:=O3;refine Qb (wpAny_letGo (Qf (Qb (Qb (wpAny_onRaise ?_)))));change wpAny _ _ (Builtin.SmallTypes.nextOf (.ref d) >>= _) _ _ _;refine Qb (AC (((Z2.extBut e1.extBut D.i2z).extBut e2.extBut D.i12.symm).extBut e3.extBut D.TOi2.symm) (((hb.extBut e1.extBut D.l2z).extBut e2.extBut D.l2i1).extBut e3.extBut D.l2TO) hy fun g4 Y2 e4=>Qf ?_);have O4:IsPair g4 TO x q:=e4.extBut _ _ D.TOi2 O3;refine Qb (wpAny_seqItems O4 rfl (Qb (wpAny_updateSeq_pair O4 fun g5 O5 e5=>?_)));have O5:IsPair g5 TO x y:=O5;refine Qb (wpAny_letGo (Qf (Qf (Qb (wpAny_seqItems O5 rfl (Qb (wpAny_newTuple ?_)))))));have sz:g5.objs.size=s.heap.objs.size:=by rw [e5.1,e4.1,e3.1,e2.1,e1.1]
 have Zz5:IsZip g5 z TI TO .ellipsis:=e5.extBut _ _ D.TOz.symm (e4.extBut _ _ D.i2z.symm (e3.extBut _ _ D.TOz.symm (e2.extBut _ _ D.i1z.symm Zz1)));have up5:∀ e o,e≠z->e≠TO->e≠c->e≠d->s.heap.get? e=some o->g5.get? e=some o:=fun e o n1 n2 n3 n4 r=>e5.extBut _ _ n2 (e4.extBut _ _ n4 (e3.extBut _ _ n2 (e2.extBut _ _ n3 (e1.extBut _ _ n1 r))));have Y15:g5.IsTupleIter c a (k+1):=((Y1.extBut e3.extBut D.TOi1.symm).extBut e4.extBut D.i12).extBut e5.extBut D.TOi1.symm;have Y25:d6 l g5 d b (k+1):=Y2.extBut e5.extBut D.TOi2.symm;have zl:z<g5.objs.size:=Ql Zz5;change wpAny _ _ (Builtin.SmallTypes.ownedTupleHandOut (.ref z) (.ref g5.objs.size) >>= _) _ _ _;refine Qb ?_;unfold Builtin.SmallTypes.ownedTupleHandOut;have Zz6:IsZip (g5.push { cls:=.type "tuple",data:=.seq #[x,y] }) z TI TO .ellipsis:=Qd _ Zz5;refine Qb (wpAny_setField_rec Zz6 (by simp) fun g7 Zz7 e7=>?_);have Zz7:IsZip g7 z TI TO (rawInt g5.objs.size):=Zz7;refine wpAny_setField_rec Zz7 (by simp) fun g8 Zz8 e8=>?_;have Zz8:IsZip g8 z TI TO (rawInt g5.objs.size):=Zz8;have up:∀ e o,e≠z->g5.get? e=some o->g8.get? e=some o:=fun e o n r=>e8.extBut _ _ n (e7.extBut _ _ n (Qd _ r));have T8:IsPair g8 g5.objs.size x y:=e8.extBut _ _ (Nat.ne_of_gt zl) (e7.extBut _ _ (Nat.ne_of_gt zl) (Qn _ rfl));rw [sz] at Zz8 T8;refine Qf ⟨_,rfl,?_⟩;change Q (.ref g5.objs.size) _;rw [sz];exact kq g8 ⟨Zz8,up _ _ D.TIz (up5 _ _ D.TIz D.TITO D.TIi1 D.TIi2 Zi),⟨_,_,up _ _ D.TOz O5⟩,Y15.at fun o r=>up _ o D.i1z r,Y25.at fun o r=>up _ o D.i2z r⟩ T8 fun e o n1 n2 n3 n4 r=>up e o n1 (up5 e o n1 n2 n3 n4 r)
theorem ZT.zip_end {l:Bool} {z TI TO c d a b:Addr} {k:Nat} {xs ys:Array Value} {Q:Fin->Shared->Prop} (hh:A.handled=none) (D:ZipApart z TI TO c d a b) (Z:ZT l s.heap z TI TO c d a b k .none)
  (ha:s.heap.IsTuple a xs) (hb:cH l s.heap b ys) (HA:xs[k]?=none∨ys[k]?=none)
  (kq:∀ hp e,(∀ e o,e≠z->e≠TO->e≠c->e≠d->s.heap.get? e=some o->hp.get? e=some o)->(∃ o,hp.get? e=some o/\o.cls=.type "StopIteration")->E (.ref e) { s with heap:=hp }) :
  wpAny (model prog w) A (Builtin.«zip.__next__» ⟨[.ref z],[]⟩) Q E s:=by
 obtain ⟨Zz,Zi,⟨p,q,Zo⟩,Z1,Z2⟩:=Z;change wpAny _ _ (field (.ref z) 2 >>= _) _ _ _;refine Qb (wpAny_field Zz rfl (x:=.bool false) rfl ?_);change wpAny _ _ (field (.ref z) 3 >>= _) _ _ _;refine Qb (wpAny_field Zz rfl (x:=.ref TI) rfl (Qb (wpAny_seqItems Zi rfl ?_)));change wpAny _ _ (Builtin.SmallTypes.ownedTupleIsFree (.ref z) >>= _) _ _ _;refine Qb ?_;unfold Builtin.SmallTypes.ownedTupleIsFree;refine Qb (wpAny_field Zz rfl (x:=.none) rfl (Qf ?_));simp only [if_true];refine Qb (wpAny_rule (Qb (wpAny_field Zz rfl (x:=.ref TO) rfl ?_)));refine Qb (wpAny_setField_rec Zz (by simp) fun g1 Zz1 e1=>?_);have Zz1:IsZip g1 z TI TO .ellipsis:=Zz1;refine Qb ?_;simp only [List.zipIdx_cons,List.zipIdx_nil,List.forIn_cons,List.forIn_nil];refine Qb (Qb (wpAny_onRaise ?_));change wpAny _ _ (Builtin.SmallTypes.nextOf (.ref c) >>= _) _ _ _;have off:∀ {hp:Heap} {e:Addr},IsZip hp z TI TO .ellipsis->(∃ o,hp.get? e=some o/\o.cls=.type "StopIteration")->e≠z:=fun i ⟨o,h1,h2⟩ y=>by subst y;rw [i] at h1;cases h1;simp at h2
 cases hx:xs[k]? with
 | none =>
  refine Qb (tm hh (Z1.extBut e1.extBut D.i1z) (ha.extBut e1.extBut D.l1z) hx fun g2 e e2 he=>?_);have Zz2:IsZip g2 z TI TO .ellipsis:=e2 _ _ D.i1z.symm Zz1;have n:=off Zz2 he;obtain ⟨oe,he1,he2⟩:=he;exact wpAny_setField_rec Zz2 (by simp) fun g3 _ e3=>kq g3 e (fun u o n1 _ n3 _ r=>e3.extBut _ _ n1 (e2 _ _ n3 (e1.extBut _ _ n1 r))) ⟨oe,e3.extBut _ _ n he1,he2⟩
 | some x =>
  have hy:ys[k]?=none:=HA.resolve_left (by rw [hx];simp);refine Qb (oz (Z1.extBut e1.extBut D.i1z) (ha.extBut e1.extBut D.l1z) hx fun g2 Y1 e2=>Qf ?_);have O2:IsPair g2 TO p q:=e2.extBut _ _ D.TOi1 (e1.extBut _ _ D.TOz Zo);refine Qb (wpAny_seqItems O2 rfl (Qb (wpAny_updateSeq_pair O2 fun g3 O3 e3=>?_)));refine Qb (wpAny_letGo (Qf (Qb (Qb (wpAny_onRaise ?_)))));change wpAny _ _ (Builtin.SmallTypes.nextOf (.ref d) >>= _) _ _ _;refine Qb (AD hh (((Z2.extBut e1.extBut D.i2z).extBut e2.extBut D.i12.symm).extBut e3.extBut D.TOi2.symm) (((hb.extBut e1.extBut D.l2z).extBut e2.extBut D.l2i1).extBut e3.extBut D.l2TO) hy fun g4 e e4 he=>?_);have Zz4:IsZip g4 z TI TO .ellipsis:=e4 _ _ D.i2z.symm (e3.extBut _ _ D.TOz.symm (e2.extBut _ _ D.i1z.symm Zz1));have n:=off Zz4 he;obtain ⟨oe,he1,he2⟩:=he;exact wpAny_setField_rec Zz4 (by simp) fun g5 _ e5=>kq g5 e (fun u o n1 n2 n3 n4 r=>e5.extBut _ _ n1 (e4 _ _ n4 (e3.extBut _ _ n2 (e2.extBut _ _ n3 (e1.extBut _ _ n1 r))))) ⟨oe,e5.extBut _ _ n he1,he2⟩
theorem ZT.next {l:Bool} {z TI TO c d a b:Addr} {k:Nat} {xs ys:Array Value} {x y:Value} {Q:Option Value->Shared->Prop} (D:ZipApart z TI TO c d a b) (Z:ZT l s.heap z TI TO c d a b k .none)
  (ha:s.heap.IsTuple a xs) (hb:cH l s.heap b ys) (hx:xs[k]?=some x) (hy:ys[k]?=some y)
  (kq:∀ hp,ZT l hp z TI TO c d a b (k+1) (rawInt s.heap.objs.size)->IsPair hp s.heap.objs.size x y->(∀ e o,e≠z->e≠TO->e≠c->e≠d->s.heap.get? e=some o->hp.get? e=some o)->Q (some (.ref s.heap.objs.size)) { s with heap:=hp }) :
  wpAny (model prog w) A (pyNext (.ref z)) Q E s:=by
 have ty:s.TypeIs (.ref z) "zip":=⟨_,Z.zip,rfl⟩
 unfold pyNext;refine Qb (wpAny_attempt (wpAny_callSpecial?_slot (name:=Str.ofString "__next__") ty F.slot_zip_next (wpAny_call_entry F.slot_zip_next ty F.entry_zip_next ?_ (F.args_zip_next_1 _))));exact Z.zip_item D ha hb hx hy fun hp p1 p2 p3=>Qf (kq hp p1 p2 p3)
theorem ZT.ends {l:Bool} {z TI TO c d a b:Addr} {k:Nat} {xs ys:Array Value} {Q:Option Value->Shared->Prop} (hh:A.handled=none) (D:ZipApart z TI TO c d a b) (Z:ZT l s.heap z TI TO c d a b k .none)
  (ha:s.heap.IsTuple a xs) (hb:cH l s.heap b ys) (HA:xs[k]?=none∨ys[k]?=none)
  (kq:∀ hp,(∀ e o,e≠z->e≠TO->e≠c->e≠d->s.heap.get? e=some o->hp.get? e=some o)->Q none { s with heap:=hp }):wpAny (model prog w) A (pyNext (.ref z)) Q E s:=by
 have ty:s.TypeIs (.ref z) "zip":=⟨_,Z.zip,rfl⟩
 unfold pyNext;refine Qb (wpAny_attempt (wpAny_callSpecial?_slot (name:=Str.ofString "__next__") ty F.slot_zip_next (wpAny_call_entry F.slot_zip_next ty F.entry_zip_next (Z.zip_end hh D ha hb HA fun hp e up ⟨o,h1,h2⟩=>?_) (F.args_zip_next_1 _))));exact Qb (wpAny_isInstance (T:="StopIteration") (b:=true) ⟨o,h1,h2⟩ isSubtype_stop (Qf (kq _ up)))
end
noncomputable def j6 (l:Bool) (K:PySem.W.Frag) (a b:Addr):It:=⟨fun i H=>∃ xs ys x y,au K H a xs/\gw l K H b ys/\xs[i]?=some x/\ys[i]?=some y,fun i H v H'=>∃ (t:Addr) (x y:V),(∀ xs,au K H a xs->xs[i]?=some x)/\(∀ ys,gw l K H b ys->ys[i]?=some y)/\H t=none/\v=.ref t/\H'=upd H t (.tup [x,y]),fun i H=>∃ xs ys,au K H a xs/\gw l K H b ys/\(xs.length<=i∨ys.length<=i)⟩
theorem AE {l:Bool} {P:Program} {w:World} {K:PySem.W.Frag} {elts:List Expr} {n:Nat} {Jt:Pos} {z TI TO c d a b:Addr} (D:ZipApart z TI TO c d a b) :
  eE P w K (.Tuple elts n Jt) (j6 l K a b) [z,TI,TO,c,d] z (fun i h=>ZT l h z TI TO c d a b i .none) where
 mem:=by simp
 obj:=fun i h st e he=>by
  obtain ⟨Zz,Zi,⟨p,q,Zo⟩,⟨o1,p1,p2,p3⟩,⟨o2,q1,q2,q3⟩⟩:=st;simp only [List.mem_cons,List.mem_nil_iff,or_false] at he;rcases he with rfl | rfl | rfl | rfl | rfl
  ·exact ⟨_,Zz,fun v y=>by cases y⟩
  ·exact ⟨_,Zi,fun v y=>by cases y⟩
  ·exact ⟨_,Zo,fun v y=>by cases y⟩
  ·exact ⟨_,p1,fun v y=>by rw [p3] at y;cases y⟩
  ·exact ⟨_,q1,fun v y=>by rw [q3] at y;cases y⟩
 keep:=fun i h h' st kk=>by obtain ⟨Zz,Zi,⟨p,q,Zo⟩,Z1,Z2⟩:=st;exact ⟨kk z (by simp) _ Zz,kk TI (by simp) _ Zi,⟨p,q,kk TO (by simp) _ Zo⟩,Z1.at fun o r=>kk c (by simp) o r,Z2.at fun o r=>kk d (by simp) o r⟩
 item:=by
  intro X hP hw hK hc i Fd s σ H E I hf st hg;subst hP hw hK;obtain ⟨xs,ys,x,y,hqx,hqy,hx,hy⟩:=hg;obtain ⟨its,rv,pa,hz⟩:=I.tuple hqx;obtain ⟨jts,Hq,pb,FQ⟩:=I.seqS hqy;obtain ⟨u,hu,ru⟩:=rv.get hx;obtain ⟨v,hv,rv'⟩:=Hq.get hy;refine st.next D (show s.heap.IsTuple a its.toArray from pa) pb (x:=u) (y:=v) (by simpa using hu) (by simpa using hv) fun h1 Z1 ht kk=>?_;refine ⟨_,rfl,?_⟩
  have lt:∀ e∈[z,TI,TO,c,d],e<s.heap.objs.size:=fun e he=>by
   obtain ⟨Zz,Zi,⟨p,q,Zo⟩,⟨o1,p1,_⟩,⟨o2,q1,_⟩⟩:=st;simp only [List.mem_cons,List.mem_nil_iff,or_false] at he;rcases he with rfl | rfl | rfl | rfl | rfl
   ·exact Ql Zz
   ·exact Ql Zi
   ·exact Ql Zo
   ·exact Ql p1
   ·exact Ql q1
  refine wpAny_letOwnedTupleGo_zip (s:={ s with heap:=h1 }) Z1.zip fun h2 Zz2 FD=>?_;have FD:Heap.SameBut z h1 h2:=FD;have kk2:∀ e o,e∉[z,TI,TO,c,d]->s.heap.get? e=some o->h2.get? e=some o:=fun e o n r=>by simp only [List.mem_cons,List.mem_nil_iff,or_false,not_or] at n;exact (FD.2 e n.1).trans (kk e o n.1 n.2.2.1 n.2.2.2.1 n.2.2.2.2 r)
  have hzl:=lt z (by simp);have FM:h2.get? s.heap.objs.size=some { cls:=.type "tuple",data:=.seq #[u,v] }:=(FD.2 _ (Nat.ne_of_gt hzl)).trans ht;have hT:H s.heap.objs.size=none:=I.fresh
  have I2:Inv X Fd σ (upd H s.heap.objs.size (.tup [x,y])) { s with heap:=h2 }:=by
   refine I.call' (ch:=[z,TI,TO,c,d]) rfl ⟨fun b o q hn hb hx=>kk2 b o hx q,fun b o q hn hb hx=>⟨o.slots,kk2 b o hx q⟩,fun b o q hn hx=>?_,fun b o q hx=>⟨o,kk2 b o hx q⟩,fun b ys q=>?_,fun b o v q=>?_,fun b ps q=>?_⟩ (fun b v q=>?_) I.bare fun b hb=>?_
   ·rw [ay (QC (Ql q))];exact hn
   ·rw [ay (dG q hT)];exact q
   ·rw [ay (dG q hT)];exact q
   ·exact ⟨#[],by rw [ay (dG q hT)];simpa using q⟩
   ·by_cases hb:b=s.heap.objs.size
    ·subst hb;rw [af] at q;cases q;exact ⟨aM,[u,_],.cons ru (.cons rv' .nil),⟨_,FM,rfl,_,rfl⟩,_,FM,rfl⟩
    ·rw [ay hb] at q;refine (I.hok b v q).stay (fun e o hcb r=>kk2 e o (fun he=>?_) r) (fun e r=>by rw [ay (dG r hT)];exact r) fun e ys r=>by rw [ay (dG r hT)];exact r
     have e0:=(hf e he).1;rcases hcb with r | r
     ·subst r;rw [e0] at q;cases q
     ·rw [e0] at r;cases r
   ·obtain ⟨f0,f1,f2,f3,f4,f5⟩:=hf b hb;exact ⟨f3,f1,f4,f5⟩
  refine ⟨.ref s.heap.objs.size,_,I2,rfl,⟨_,x,y,fun zs hq=>by rw [I.tuple_inj hq hqx];exact hx,fun zs hq=>by rw [I.seqS_inj hq hqy];exact hy,hT,rfl,rfl⟩,?_,fun e he=>?_⟩
  ·obtain ⟨_,Zi,⟨p,q,Zo⟩,Y1,Y2⟩:=Z1;exact ⟨Zz2,FD.extBut _ _ D.TIz Zi,⟨p,q,FD.extBut _ _ D.TOz Zo⟩,Y1.extBut FD.extBut D.i1z,Y2.extBut FD.extBut D.i2z⟩
  ·rw [ay (QC (lt e he))];exact (hf e he).1
 done:=by
  intro X hP hw hK hc i Fd s σ H E I hf st hg;subst hP hw hK;obtain ⟨xs,ys,hqx,hqy,hx⟩:=hg;obtain ⟨its,rv,pa,hz⟩:=I.tuple hqx;obtain ⟨jts,Hq,pb,FQ⟩:=I.seqS hqy;have l1:=rv.length;have l2:=Hq.length
  refine st.ends (I.ok.hd hc) D (show s.heap.IsTuple a its.toArray from pa) pb ?_ fun h' up=>⟨rfl,?_⟩
  ·rcases hx with hx | hx
   ·left;simp;lia
   ·right;simp;lia
  ·have kk2:∀ e o,e∉[z,TI,TO,c,d]->s.heap.get? e=some o->h'.get? e=some o:=fun e o n r=>by simp only [List.mem_cons,List.mem_nil_iff,or_false,not_or] at n;exact up e o n.1 n.2.2.1 n.2.2.2.1 n.2.2.2.2 r
   refine I.call' (s':={ s with heap:=h' }) (ch:=[z,TI,TO,c,d]) rfl ⟨fun b o q hn hb hx=>kk2 b o hx q,fun b o q hn hb hx=>⟨o.slots,kk2 b o hx q⟩,fun b o q hn hx=>hn,fun b o q hx=>⟨o,kk2 b o hx q⟩,fun b ys q=>q,fun b o v q=>q,fun b ps q=>⟨#[],by simpa using q⟩⟩ (fun b v q=>?_) I.bare fun b hb=>?_
   ·refine (I.hok b v q).stay (fun e o hcb r=>kk2 e o (fun he=>?_) r) (fun e r=>r) fun e ys r=>r;have e0:=(hf e he).1;rcases hcb with r | r
    ·subst r;rw [e0] at q;cases q
    ·rw [e0] at r;cases r
   ·obtain ⟨f0,f1,f2,f3,f4,f5⟩:=hf b hb;exact ⟨f3,f1,f4,f5⟩
 self:=fun _ _ _ _ _ st h=>wpAny_pyIter_zip st.zip h
section
variable {prog:Program} {w:World} {A:Around} {E:Value->Shared->Prop} {s:Shared}
noncomputable abbrev tu (t:Addr):Obj:={ cls:=.type "tuple_iterator",data:=.fields #[.ref t,.int 0 0] }
noncomputable abbrev lE (x y:Value):Obj:={ cls:=.type "tuple",data:=.seq #[x,y] }
noncomputable abbrev j7 (h:Heap) (a:Addr):Heap:=h.push (tu a)
noncomputable abbrev oA (l:Bool) (t:Addr):Obj:={ cls:=.type (bif l then "list_iterator" else "tuple_iterator"),data:=.fields #[.ref t,.int 0 0] }
noncomputable abbrev j8 (l:Bool) (h:Heap) (a b:Addr):Heap:=(j7 h a).push (oA l b)
noncomputable abbrev j9 (l:Bool) (h:Heap) (a b:Addr):Heap:=(j8 l h a b).push (lE (.ref h.objs.size) (.ref (j7 h a).objs.size))
noncomputable abbrev lF (l:Bool) (h:Heap) (a b:Addr):Heap:=(j9 l h a b).push (lE .none .none)
noncomputable abbrev jb (l:Bool) (h:Heap) (a b:Addr):Heap:=(lF l h a b).push { cls:=.type "zip",data:=.fields #[.none,.bool false,.bool false,.ref (j8 l h a b).objs.size,.ref (j9 l h a b).objs.size] }
theorem AF (l:Bool) (a b:Addr) (xs ys:Array Value) :
  Meets (Builtin.«zip.__new__» ⟨[.type "zip",.ref a,.ref b],[]⟩) (fun _ R s=>s.heap.IsTuple a xs/\cH l s.heap b ys/\R (.ok (.ret (.ref (lF l s.heap a b).objs.size))) { s with heap:=jb l s.heap a b }) :=
 .of_wp fun prog w A R s h=>by
  obtain ⟨hp,g,d,tk,os⟩:=s;obtain ⟨ha,hb,h⟩:=h;have Gn:=sub_zip;have t1:Heap.IsTuple (Shared.heap ⟨hp,g,d,tk,os⟩) a xs:=ha;cases l
  ·have t2:Heap.IsTuple (Shared.heap ⟨hp.push { cls:=.type "tuple_iterator",data:=.fields #[.ref a,.int 0 0] },g,d,tk,os⟩) b ys:=Heap.IsTuple.push hb _
   wp_walk using wpAny_pyIter_tuple t1,wpAny_pyIter_tuple t2
   exact ⟨_,rfl,h⟩
  ·have t2:Heap.IsList (Shared.heap ⟨hp.push { cls:=.type "tuple_iterator",data:=.fields #[.ref a,.int 0 0] },g,d,tk,os⟩) b ys:=Heap.IsList.push hb _
   wp_walk using wpAny_pyIter_tuple t1,wpAny_pyIter_list t2
   exact ⟨_,rfl,h⟩
theorem AG {l:Bool} {a b:Addr} {xs ys:Array Value} {Q:Value->Shared->Prop} (ha:s.heap.IsTuple a xs) (hb:cH l s.heap b ys)
  (k:∀ hp,ZT l hp (s.heap.objs.size+4) (s.heap.objs.size+2) (s.heap.objs.size+3) s.heap.objs.size (s.heap.objs.size+1) a b 0 .none->(∀ e o,s.heap.get? e=some o->hp.get? e=some o)->Q (.ref (s.heap.objs.size+4)) { s with heap:=hp }) :
  wpAny (model prog w) A (call (.type "zip") [.ref a,.ref b]) Q E s:=by
 refine callType_new F.called_zip (by decide) (F.typeCall_zip_2 _ _) (F.newCall_zip_2 _ _) (fun obj=>F.args_object_init_3 obj _ _) F.entry_zip_new (AF l a b xs ys) ⟨ha,hb,?_⟩;have up:∀ {h:Heap} {e:Addr} {o o':Obj},h.get? e=some o->(h.push o').get? e=some o:=fun r=>Qd _ r;have y1:(j7 s.heap a).objs.size=s.heap.objs.size+1:=Heap.size_push ..;have y2:(j8 l s.heap a b).objs.size=s.heap.objs.size+2:=by rw [Heap.size_push,y1]
 have y3:(j9 l s.heap a b).objs.size=s.heap.objs.size+3:=by rw [Heap.size_push,y2]
 have y4:(lF l s.heap a b).objs.size=s.heap.objs.size+4:=by rw [Heap.size_push,y3]
 have g0:(jb l s.heap a b).get? s.heap.objs.size=some (tu a):=up (up (up (up (Qn _ rfl))));have g1:(jb l s.heap a b).get? (j7 s.heap a).objs.size=some (oA l b):=up (up (up (Qn _ rfl)));have g2:(jb l s.heap a b).get? (j8 l s.heap a b).objs.size=some (lE (.ref s.heap.objs.size) (.ref (j7 s.heap a).objs.size)):=up (up (Qn _ rfl));have g3:(jb l s.heap a b).get? (j9 l s.heap a b).objs.size=some (lE .none .none):=up (Qn _ rfl);have g4:(jb l s.heap a b).get? (lF l s.heap a b).objs.size=some { cls:=.type "zip",data:=.fields #[.none,.bool false,.bool false,.ref (j8 l s.heap a b).objs.size,.ref (j9 l s.heap a b).objs.size] }:=Qn _ rfl;rw [y1,y2] at g2;rw [y1] at g1;rw [y3] at g3;rw [y2,y3,y4] at g4;show _/\_;rw [y4];exact ⟨⟨_,g4,rfl⟩,k _ ⟨g4,g2,⟨_,_,g3⟩,⟨_,g0,rfl,rfl⟩,⟨_,g1,rfl,rfl⟩⟩ fun e o r=>up (up (up (up (up r))))⟩
end
section
variable {X:Cx}
def AH (l:Bool) (K:PySem.W.Frag) (ta:TA):TI:=fun σ H R=>ta σ H fun vs H1=>∃ a b xs ys,vs=[.ref a,.ref b]/\au K H1 a xs/\gw l K H1 b ys/\R (j6 l K a b) H1
theorem AI (l:Bool) {e f:Expr} {ta:TA} {p pos Jt:Pos} {elts:List Expr} {n:Nat} (hg:Gl X "zip") (hm:X.mg "zip"=none) (ha:PA X [e,f] ta) (hs:starEach [e,f] X.env=(false,eval e X.env)::starEach [f] X.env:=by rfl)
  (hp:(backTo pos (starEach [f] X.env)).any (·.1)=false:=by rfl):PI X (.Tuple elts n Jt) (.Call (.Name "zip" p) [e,f] [] pos) (AH l X.K ta):=by
 intro Fd s σ H R I h;refine Call_ (iJ I hg hm boot_zip (PyProof.Rows.callWith_type1 (az (ha pos Fd s σ H _ I h) fun us s1 hsl60=>?_) hs hp));obtain ⟨vs,H1,I1,r1,q1⟩:=hsl60;obtain ⟨a,b,xs,ys,rfl,hqa,hqb,q⟩:=q1
 cases r1 with
 | cons ra r2 =>
 cases r2 with
 | cons rb r3 =>
 cases r3;cases ra;cases rb;obtain ⟨its,rv,pa,hz⟩:=I1.tuple hqa;obtain ⟨jts,Hq,pb,FQ⟩:=I1.seqS hqb;have pa':s1.heap.IsTuple a its.toArray:=pa;have pb':cH l s1.heap b jts.toArray:=pb;have al:a<s1.heap.objs.size:=by obtain ⟨_,r,_⟩:=pa';exact Ql r
 have bl:b<s1.heap.objs.size:=by obtain ⟨_,r,_⟩:=pb';exact Ql r
 refine AG pa' pb' fun hp Z kk=>?_;refine wpAny_pyIter_zip (s:={ s1 with heap:=hp }) Z.zip ?_;refine ⟨_,[s1.heap.objs.size+4,s1.heap.objs.size+2,s1.heap.objs.size+3,s1.heap.objs.size,s1.heap.objs.size+1],_,_,H1,rfl,I1.kept (t':=s1.toks) kk,AE (zipApart_new al bl),Z,fun e he=>?_,q⟩
 have IX:s1.heap.objs.size<=e:=by
  simp only [List.mem_cons,List.mem_nil_iff,or_false] at he
  rcases he with rfl | rfl | rfl | rfl | rfl<;>(show (_:Nat)<=_;lia)
 exact I1.fpOk IX (I1.hok.fresh IX)
end
theorem AJ {l:Bool} {K:PySem.W.Frag} {a b:Addr} {xs ys:List V} {g:TG} {tb:TS} {D:cE} {σ:St} {H:Hp} (Pv:Nat->St->Hp->Prop) (h0:Pv 0 σ H) (hl:∀ i σ H,Pv i σ H->au K H a xs/\gw l K H b ys)
  (hs:∀ i x y σ H t,xs[i]?=some x->ys[i]?=some y->Pv i σ H->H t=none->g (.ref t) σ (upd H t (.tup [x,y])) fun σ2 H2=>tb { D with nx:=Pv (i+1),ct:=Pv (i+1),bk:=D.nx } σ2 H2) (hd:∀ σ H,Pv (min xs.length ys.length) σ H->D.nx σ H) :
  ∃ W:Nat->Nat->St->Hp->Prop,(∃ m,W 0 m σ H)/\∀ i m σ H,W i m σ H ->
   ((j6 l K a b).stop i H/\D.nx σ H)∨((j6 l K a b).go i H/\∃ N:St->Hp->Prop,(∀ σ' H',N σ' H'->∃ m',m'<m/\W (i+1) m' σ' H')/\∀ x H',(j6 l K a b).yld i H x H'->g x σ H' fun σ2 H2=>tb { D with nx:=N,ct:=N,bk:=D.nx } σ2 H2):=by
 refine ⟨fun i m σ H=>m=min xs.length ys.length-i/\i<=min xs.length ys.length/\Pv i σ H,⟨min xs.length ys.length,by simp,Qr _,h0⟩,?_⟩;rintro i m σ H ⟨rfl,hi,p⟩;obtain ⟨q1,q2⟩:=hl i σ H p;by_cases Fl:i<min xs.length ys.length
 ·have hx:i<xs.length:=by omega
  have hy:i<ys.length:=by omega
  refine .inr ⟨⟨xs,ys,xs[i],ys[i],q1,q2,by simp [hx],by simp [hy]⟩,Pv (i+1),fun σ' H' p'=>⟨min xs.length ys.length-(i+1),by omega,rfl,Fl,p'⟩,fun v H' w=>?_⟩;obtain ⟨t,x,y,h1,h2,hn,rfl,rfl⟩:=w;exact hs i x y σ _ t (h1 xs q1) (h2 ys q2) p hn
 ·have e:i=min xs.length ys.length:=by omega
  subst e;exact .inl ⟨⟨xs,ys,q1,q2,by omega⟩,hd σ H p⟩
theorem AK:typeLookup (.type "list") "keys"=pure none:=by rw [typeLookup_type,builtinLookup_eq_fast];kernel_rfl
theorem AL:typeLookup (.type "list") "__getattr__"=pure none:=by rw [typeLookup_type,builtinLookup_eq_fast];kernel_rfl
section
variable {prog:Program} {w:World} {A:Around} {E:Value->Shared->Prop} {h:Heap} {g:Array GenState} {d:Drawn} {t:Nat} {os:OsState} {a:Addr} {its:Array Value} {nn:Nat} {sl:Array (Option Value)}
noncomputable abbrev lG (its:Array Value) (nn:Nat) (sl:Array (Option Value)):Obj:={ cls:=.type "list",dict:=none,data:=.seq its nn,slots:=sl }
theorem AM {tk:Tok} {Q:Fin->Shared->Prop} (hx:h.get? a=some (lG its nn sl)) (hh:A.handled=none)
  (hq:∀ hp tk e,Heap.NewAttrErr h hp e (.ref a) "keys"->E (.ref e) ⟨hp,g,d,tk,os⟩):wpAny (model prog w) A (Builtin.«object.__getattribute__» ⟨[.ref a,.str "keys" tk],[]⟩) Q E ⟨h,g,d,t,os⟩:=by
 have hT:(⟨h,g,d,t,os⟩:Shared).TypeIs (.ref a) "list":=⟨_,hx,rfl⟩
 have f4:=AK
 repeat (any_goals (first | assumption | wp_step))
 exact wpAny_raiseAttrError hh hq (attrMsg_fits (by decide +kernel) (by decide +kernel))
theorem AN {tk:Tok} {R:Result->Shared->Prop} (hx:h.get? a=some (lG its nn sl)) (hh:A.handled=none) (hq:∀ hp tk e,Heap.NewAttrErr h hp e (.ref a) "keys"->R (.error (.ref e)) ⟨hp,g,d,tk,os⟩) :
  codeAny (model prog w) A (.call (.builtin "list.__getattribute__") ⟨[.ref a,.str "keys" tk],[]⟩) R ⟨h,g,d,t,os⟩:=by
 refine codeAny_call_builtin F.slot_list_getattribute.plain F.entry_list_ga (F.slot_list_getattribute.check _ _ _ _ _ _ _ _ (show (⟨h,g,d,t,os⟩:Shared).TypeIs (.ref a) "list" from ⟨_,hx,rfl⟩) (F.args_list_getattribute_2 _ _) (AM hx (by simpa using hh) hq))
theorem AO {tk:Tok} {Q:Value->Shared->Prop} (hx:h.get? a=some (lG its nn sl)) (hh:A.handled=none) (hq:∀ hp tk e,Heap.NewAttrErr h hp e (.ref a) "keys"->E (.ref e) ⟨hp,g,d,tk,os⟩) :
  wpAny (model prog w) A (getAttrBy (.ref a) (.str "keys" tk) false) Q E ⟨h,g,d,t,os⟩:=by
 have hT:(⟨h,g,d,t,os⟩:Shared).TypeIs (.ref a) "list":=⟨_,hx,rfl⟩
 have f1:=sub_AttributeError;have f2:=F.slot_list_getattribute.lookup;have f3:=F.slot_list_getattribute.bind (.ref a);have f5:=AL;unfold getAttrBy
 repeat (any_goals (first | assumption | wp_step))
 refine AN hx hh fun hp tk' e hn=>?_;obtain ⟨t',u',he⟩:=hn.there;show wpAny _ _ (getattributeRaised _ _ _ _ _ _ _) _ _ _;unfold getattributeRaised
 repeat (any_goals (first | assumption | wp_step))
 exact hq _ _ _ hn
theorem AQ {Q:Option Value->Shared->Prop} (hx:h.get? a=some (lG its nn sl)) (hh:A.handled=none) (hq:∀ hp tk e,Heap.NewAttrErr h hp e (.ref a) "keys"->Q none ⟨hp,g,d,tk,os⟩) :
  wpAny (model prog w) A (getAttr? (.ref a) "keys") Q E ⟨h,g,d,t,os⟩:=by
 unfold getAttr? getAttrBy?;refine Qb (wpAny_mkText (Qb (wpAny_attempt (AO hx hh fun hp tk' e hn=>?_))));obtain ⟨t',u',he⟩:=hn.there;have f1:=sub_AttributeError
 repeat (any_goals (first | assumption | wp_step))
 exact hq _ _ _ hn
end
theorem AR:typeLookup (.type "tuple") "keys"=pure none:=by rw [typeLookup_type,builtinLookup_eq_fast];kernel_rfl
theorem AS:typeLookup (.type "tuple") "__getattr__"=pure none:=by rw [typeLookup_type,builtinLookup_eq_fast];kernel_rfl
section
variable {prog:Program} {w:World} {A:Around} {E:Value->Shared->Prop} {h:Heap} {g:Array GenState} {d:Drawn} {t:Nat} {os:OsState} {a:Addr} {its:Array Value} {nn:Nat} {sl:Array (Option Value)}
noncomputable abbrev lH (its:Array Value) (nn:Nat) (sl:Array (Option Value)):Obj:={ cls:=.type "tuple",dict:=none,data:=.seq its nn,slots:=sl }
theorem AT {tk:Tok} {Q:Fin->Shared->Prop} (hx:h.get? a=some (lH its nn sl)) (hh:A.handled=none)
  (hq:∀ hp tk e,Heap.NewAttrErr h hp e (.ref a) "keys"->E (.ref e) ⟨hp,g,d,tk,os⟩):wpAny (model prog w) A (Builtin.«object.__getattribute__» ⟨[.ref a,.str "keys" tk],[]⟩) Q E ⟨h,g,d,t,os⟩:=by
 have hT:(⟨h,g,d,t,os⟩:Shared).TypeIs (.ref a) "tuple":=⟨_,hx,rfl⟩
 have f4:=AR
 repeat (any_goals (first | assumption | wp_step))
 exact wpAny_raiseAttrError hh hq (attrMsg_fits (by decide +kernel) (by decide +kernel))
theorem AU {tk:Tok} {R:Result->Shared->Prop} (hx:h.get? a=some (lH its nn sl)) (hh:A.handled=none) (hq:∀ hp tk e,Heap.NewAttrErr h hp e (.ref a) "keys"->R (.error (.ref e)) ⟨hp,g,d,tk,os⟩) :
  codeAny (model prog w) A (.call (.builtin "tuple.__getattribute__") ⟨[.ref a,.str "keys" tk],[]⟩) R ⟨h,g,d,t,os⟩:=by
 refine codeAny_call_builtin F.slot_tuple_getattribute.plain F.entry_tuple_ga (F.slot_tuple_getattribute.check _ _ _ _ _ _ _ _ (show (⟨h,g,d,t,os⟩:Shared).TypeIs (.ref a) "tuple" from ⟨_,hx,rfl⟩) (F.args_tuple_getattribute_2 _ _) (AT hx (by simpa using hh) hq))
theorem AV {tk:Tok} {Q:Value->Shared->Prop} (hx:h.get? a=some (lH its nn sl)) (hh:A.handled=none) (hq:∀ hp tk e,Heap.NewAttrErr h hp e (.ref a) "keys"->E (.ref e) ⟨hp,g,d,tk,os⟩) :
  wpAny (model prog w) A (getAttrBy (.ref a) (.str "keys" tk) false) Q E ⟨h,g,d,t,os⟩:=by
 have hT:(⟨h,g,d,t,os⟩:Shared).TypeIs (.ref a) "tuple":=⟨_,hx,rfl⟩
 have f1:=sub_AttributeError;have f2:=F.slot_tuple_getattribute.lookup;have f3:=F.slot_tuple_getattribute.bind (.ref a);have f5:=AS;unfold getAttrBy
 repeat (any_goals (first | assumption | wp_step))
 refine AU hx hh fun hp tk' e hn=>?_;obtain ⟨t',u',he⟩:=hn.there;show wpAny _ _ (getattributeRaised _ _ _ _ _ _ _) _ _ _;unfold getattributeRaised
 repeat (any_goals (first | assumption | wp_step))
 exact hq _ _ _ hn
theorem AW {Q:Option Value->Shared->Prop} (hx:h.get? a=some (lH its nn sl)) (hh:A.handled=none) (hq:∀ hp tk e,Heap.NewAttrErr h hp e (.ref a) "keys"->Q none ⟨hp,g,d,tk,os⟩) :
  wpAny (model prog w) A (getAttr? (.ref a) "keys") Q E ⟨h,g,d,t,os⟩:=by
 unfold getAttr? getAttrBy?;refine Qb (wpAny_mkText (Qb (wpAny_attempt (AV hx hh fun hp tk' e hn=>?_))));obtain ⟨t',u',he⟩:=hn.there;have f1:=sub_AttributeError
 repeat (any_goals (first | assumption | wp_step))
 exact hq _ _ _ hn
end
theorem tz:entryFor table "dict.update.loop"=some Builtin.«dict.update.loop»:=entryFor_of_tree (by kernel_rfl)
theorem lI:plainId "dict.update.loop"=true:=by decide +kernel
noncomputable def eN (ps:List (ae × Value)):List (ae × Value):=ps.foldl (fun q p=>stored q p.1 p.2) []
theorem AX (ps:List (ae × Value)) (p:ae × Value):eN (ps++[p])=stored (eN ps) p.1 p.2:=by unfold eN;rw [List.foldl_append];rfl
section
variable {prog:Program} {w:World} {A:Around} {E:Value->Shared->Prop} {s:Shared} {R:Result->Shared->Prop} {I:Addr} {fp wr:List Addr} {G:Array GenState->Array GenState->Prop} {n:Nat} {P:Nat->Value->Prop} {St:Nat->Shared->Prop}
theorem AY (W:WalksS prog w A.in1 I fp wr G n P St) (S:Addr) (hSf:S∉fp) (ps:List (ae × Value)) (hn:ps.length=n) (tp:Nat->Addr) (kyv:Nat->Value) (hky:∀ i p,ps[i]?=some p->(bF prog w).is p.1 (kyv i)=true)
  (hval:∀ i v,P i v->v=.ref (tp i)) (hw:∀ i,tp i∉wr/\tp i≠S) (hsz:∀ i,(eN (ps.take i)).length<=sizeLine) :
  ∀ (k i:Nat) (j:Tok) (s:Shared),n-i=k->i<=n->St i s->s.heap.DictOf (bF prog w) S (eN (ps.take i))->(∀ i p,ps[i]?=some p->s.heap.IsTuple (tp i) #[kyv i,p.2]) ->
   (∀ s',Moved (S::wr) G s s'->s'.heap.DictOf (bF prog w) S (eN ps)->R (.ok (.ret .none)) s') ->
   codeAny (model prog w) A (.builtin "dict.update.loop" ⟨[.ref S,.ref I,.int i j,.none],[]⟩) R s:=by
 have hSw:S∉wr:=fun h=>hSf (W.sub _ h);have Gn:∀ b∈wr,b∈S::wr:=fun b hb=>Qw _ hb;have dk:∀ {s s':Shared} {q},Moved wr G s s'->s.heap.DictOf (bF prog w) S q->s'.heap.DictOf (bF prog w) S q:=fun hm hD=>by obtain ⟨o,es,ep,ho,FE⟩:=hD;exact ⟨o,es,ep,hm.heap S _ hSw ho,FE⟩
 intro k
 induction k with
 | zero =>
  intro i j s hk hi Jc hS hT hR;have hin:i=n:=by lia
  subst hin;refine codeAny_builtin tz ?_;rw [Around.under_plainId lI _];show wpAny _ A.in1 (pyNext (.ref I) >>= _) _ _ s;refine Qb (W.done s _ _ Jc fun s' hm=>?_);show wpAny _ _ (Builtin.Dict.addKeywords S [] >>= _) _ _ _;refine Qb (Qf (Qf (hR s' (hm.mono Gn) ?_)));rw [Qo (by lia)] at hS;exact dk hm hS
 | succ k ih =>
  intro i j s hk hi Jc hS hT hR;have Fl:i<n:=by lia
  have He:i<ps.length:=by lia
  refine codeAny_builtin tz ?_;rw [Around.under_plainId lI _];show wpAny _ A.in1 (pyNext (.ref I) >>= _) _ _ s;refine Qb (W.item i s _ _ Fl Jc fun v s' hP hst' hm=>?_);obtain rfl:=hval i v hP;have hT1:∀ i p,ps[i]?=some p->s'.heap.IsTuple (tp i) #[kyv i,p.2]:=fun i p h=>(hT i p h).at fun o r=>hm.heap _ o (hw i).1 r;have hti:=hT1 i ps[i] (Qa He);have hky:=hky i ps[i] (Qa He);refine Qb (wpAny_holding (Qb (wpAny_tryCatch ?_)));unfold Builtin.Dict.pairItems;refine Qb (wpAny_typeOf hti.typeIs ?_);obtain ⟨ot,h1,h2,nt,h3⟩:=id hti;rw [if_pos (by decide)];refine Qb (wpAny_seqItems h1 h3 (Qf ?_));show wpAny _ _ (holding [kyv i,ps[i].2] (dictSet S (kyv i) ps[i].2)) _ _ _;refine wpAny_holding (wpAny_dictSet_pairs (hsz:=hsz i) hky (dk hm hS) fun h' dd hs=>?_);rw [<- AX,<- Qi He] at dd;refine Qf ⟨plainId_quiet lI _,ih (i+1) _ _ (by lia) Fl (W.frame _ s' _ _ hst' (Nat.le_succ _) fun b hb o e=>?_) dd (fun i p h=>(hT1 i p h).at fun o r=>?_) fun s2 hm2 IJ=>?_⟩
  ·rw [hs.2 b (fun h:b=S=>hSf (by rw [<- h];exact hb))];exact e
  ·exact (hs.2 _ (hw i).2).trans r
  ·refine hR s2 (Moved.trans W.gtrans ((hm.mono Gn).then_heap (Nat.le_succ _) fun b o hb e=>?_) hm2) IJ;rw [hs.2 b (fun h:b=S=>hb (by rw [h];exact QA))];exact e
end
theorem cH.at {l:Bool} {h h':Heap} {b:Addr} {ys:Array Value} (p:cH l h b ys) (e:∀ o,h.get? b=some o->h'.get? b=some o):cH l h' b ys :=
 let ⟨o,q,r⟩:=p;⟨o,e o q,r⟩
theorem AZ {prog:Program} {w:World} {A:Around} {E:Value->Shared->Prop} {s:Shared} {l:Bool} {a:Addr} {its:Array Value} {Q:Value->Shared->Prop} (h:cH l s.heap a its) (hq:Q (.ref s.heap.objs.size) { s with heap:=s.heap.push (oA l a) }):wpAny (model prog w) A (pyIter (.ref a)) Q E s:=by
 cases l
 ·exact wpAny_pyIter_tuple h hq
 ·exact wpAny_pyIter_list h hq
theorem A0 (l:Bool) {prog:Program} {w:World} {A:Around} (hh:A.handled=none) (I ax:Addr) (Fq:ax≠I) (items:Array Value) :
  Walks prog w A I [I,ax] [I] items.size (fun i v=>items[i]?=some v) (fun i h=>d6 l h I ax i/\cH l h ax items):=by
 cases l
 ·exact .tuple hh I ax Fq items
 ·exact .list hh I ax Fq items
section
variable {prog:Program} {w:World} {A:Around} {E:Value->Shared->Prop} {s:Shared}
noncomputable abbrev oB (l:Bool) (its:Array Value) (nn:Nat) (sl:Array (Option Value)):Obj:={ cls:=.type (bif l then "list" else "tuple"),dict:=none,data:=.seq its nn,slots:=sl }
noncomputable abbrev jc:Obj:={ cls:=.type "dict",data:=.dict #[] }
theorem A1 {c:Bool} {l:Addr} {items:Array Value} {nn:Nat} {sl:Array (Option Value)} {Q:Value->Shared->Prop} (hl:s.heap.get? l=some (oB c items nn sl)) (hh:A.handled=none) (ps:List (ae × Value)) (tp:Nat->Addr) (kyv:Nat->Value)
  (Fj:ps.length=items.size) (hky:∀ i p,ps[i]?=some p->(bF prog w).is p.1 (kyv i)=true) (hit:∀ (i:Nat) (v:Value),items[i]?=some v->v=.ref (tp i)) (htp:∀ i,tp i<s.heap.objs.size) (hsz:∀ i,(eN (ps.take i)).length<=sizeLine)
  (hT:∀ i p,ps[i]?=some p->s.heap.IsTuple (tp i) #[kyv i,p.2])
  (k:∀ (hp:Heap) (tk:Nat),hp.DictOf (bF prog w) s.heap.objs.size (eN ps)->(∀ b o,s.heap.get? b=some o->hp.get? b=some o)->Q (.ref s.heap.objs.size) { s with heap:=hp,toks:=tk }) :
  wpAny (model prog w) A (call (.type "dict") [.ref l]) Q E s:=by
 refine callType_codes (Q₁:=fun obj s₁=>obj=.ref s.heap.objs.size/\s₁={ s with heap:=s.heap.push jc }) F.kt_called_dict (F.kt_typeCall_dict_1 _) F.entry_dict_init (kt_code_dict_new _ ⟨rfl,rfl⟩) ?_;rintro obj s₁ ⟨rfl,rfl⟩;have hnew:(s.heap.push jc).DictOf (bF prog w) s.heap.objs.size []:=Heap.DictOf.new s.heap;have Hi:(s.heap.push jc).get? l=some (oB c items nn sl):=Qd _ hl;have hll:l<s.heap.objs.size:=Ql hl;refine ⟨hnew.typeIs,F.args_dict_init_2 _ _,?_⟩;unfold Builtin.«dict.__init__»;refine Qb ?_;unfold Builtin.Dict.selfAndRest;refine Qb (wpAny_notOrdered_dict hnew.typeIs (Qf ?_));change wpAny _ _ (Builtin.Dict.updateFrom "dict.__init__" s.heap.objs.size (.ref l) [] .none) _ _ _;unfold Builtin.Dict.updateFrom
 have ty:Shared.TypeIs { s with heap:=s.heap.push jc } (.ref l) (bif c then "list" else "tuple"):=⟨_,Hi,rfl⟩
 refine Qb (wpAny_typeOf ty ?_);rw [if_pos (by cases c<;>decide)]
 have kn:∀ {Q:Option Value->Shared->Prop} {E:Value->Shared->Prop},(∀ hp tk e,Heap.NewAttrErr (s.heap.push jc) hp e (.ref l) "keys"->Q none ⟨hp,s.gens,s.drawn,tk,s.os⟩)->wpAny (model prog w) A.in1.in1 (getAttr? (.ref l) "keys") Q E { s with heap:=s.heap.push jc }:=fun hq=>by
  cases c
  ·exact AW Hi (by simpa using hh) hq
  ·exact AQ Hi (by simpa using hh) hq
 refine Qb (kn fun hp tk e hn=>?_);have kp:∀ b o,s.heap.get? b=some o->hp.get? b=some o:=fun b o r=>hn.keeps b o (Qd _ r);have hD:hp.DictOf (bF prog w) s.heap.objs.size []:=by obtain ⟨o,es,ep,ho,FE⟩:=hnew;exact ⟨o,es,ep,hn.keeps _ _ ho,FE⟩
 have hSl:s.heap.objs.size<hp.objs.size:=by obtain ⟨o,es,ep,ho,FE⟩:=hD;exact Ql ho
 rw [if_pos (by rfl)];refine Qb (wpAny_rule ?_)
 have hlp:cH c hp l items:=⟨_,kp _ _ hl,rfl,nn,rfl⟩
 refine Qb (AZ (s:=⟨hp,s.gens,s.drawn,tk,s.os⟩) hlp ?_);refine Qf ⟨plainId_quiet lI _,?_⟩;have hneI:l≠hp.objs.size:=QC (Nat.lt_trans hll hSl);have hSf:s.heap.objs.size∉[hp.objs.size,l]:=by simp only [List.mem_cons,List.mem_singleton,List.not_mem_nil,or_false,not_or];exact ⟨QC hSl,Nat.ne_of_gt hll⟩
 have W:=(A0 c (prog:=prog) (w:=w) (A:=A.in1.in1) (by simp [hh]) hp.objs.size l hneI items).toS;refine AY W s.heap.objs.size hSf ps Fj tp kyv hky hit (fun i=>?_) hsz (items.size-0) 0 0 _ (by lia) (Qr _) ⟨⟨_,Qn _ rfl,rfl,rfl⟩,hlp.at fun o r=>Qd _ r⟩ ?_ (fun i p h=>((hT i p h).at fun o r=>kp _ o r).push _) fun s' hm hS'=>?_
 ·refine ⟨?_,QC (htp i)⟩;simp only [List.mem_cons,List.mem_singleton,List.not_mem_nil,or_false];exact QC (Nat.lt_trans (htp i) hSl)
 ·obtain ⟨o,es,ep,ho,FE⟩:=hD;exact ⟨o,es,ep,Qd _ ho,FE⟩
 ·obtain ⟨h',g',d',tk',os'⟩:=s';have eg:g'=s.gens:=hm.gens;have ed:d'=s.drawn:=hm.drawn;have eo:os'=s.os:=hm.os;subst eg;subst ed;subst eo;refine ⟨rfl,k h' tk' hS' fun b o r=>?_⟩;have hb:b<s.heap.objs.size:=Ql r;refine hm.heap b o ?_ (Qd _ (kp b o r));simp only [List.mem_cons,List.mem_singleton,List.not_mem_nil,or_false,not_or];exact ⟨QC hb,QC (Nat.lt_trans hb hSl)⟩
end
theorem oC:bootBuiltins "dict"=some (.type "dict"):=by decide +kernel
noncomputable def d7 (ps:List (ae × V)):List (ae × V):=ps.foldl (fun q p=>ba q p.1 p.2) []
theorem oE (ps:List (ae × V)):(d7 ps).length<=ps.length:=by
 have go:∀ (ps:List (ae × V)) (q:List (ae × V)),(ps.foldl (fun q p=>ba q p.1 p.2) q).length<=q.length+ps.length:=fun ps=>by
  induction ps with
  | nil=>intro q;simp
  | cons p ps ih=>intro q;have h1:=ih (ba q p.1 p.2);have h2:=iY q p.1 p.2;simp only [List.foldl_cons,QN];lia
 simpa [d7] using go ps []
theorem tD:∀ {ps:List (ae × V)} {qs:List (ae × Value)},ps.length=qs.length->(∀ (i:Nat) (p:ae × V) (q:ae × Value),ps[i]?=some p->qs[i]?=some q->p.1=q.1/\RelV p.2 q.2)->KV (d7 ps) (eN qs):=by
 have go:∀ (ps:List (ae × V)) (qs:List (ae × Value)) (a:List (ae × V)) (b:List (ae × Value)),KV a b->ps.length=qs.length->(∀ (i:Nat) (p:ae × V) (q:ae × Value),ps[i]?=some p->qs[i]?=some q->p.1=q.1/\RelV p.2 q.2) ->
   KV (ps.foldl (fun q p=>ba q p.1 p.2) a) (qs.foldl (fun q p=>stored q p.1 p.2) b):=fun ps=>by
  induction ps with
  | nil=>intro qs a b h hl _;cases qs with | nil=>exact h | cons _ _=>simp at hl
  | cons p ps ih =>
   intro qs a b h hl hr
   cases qs with
   | nil=>simp at hl
   | cons q qs =>
    obtain ⟨e,r⟩:=hr 0 p q rfl rfl;simp only [List.foldl_cons];refine ih qs _ _ ?_ (by simpa using hl) fun i p' q' h1 h2=>hr (i+1) p' q' (by simpa using h1) (by simpa using h2);rw [e];exact h.put q.1 r
 intro ps qs hl hr;exact go ps qs [] [] .nil hl hr
section
variable {X:Cx}
theorem oF (c:Bool) (hc:X.calm=true):d0 X (.type "dict") (fun xs H Q=>∃ (l:Addr) (ts:List Addr) (ps:List (ae × V)),xs=[V.ref l]/\H l=some (bif c then .lst (ts.map V.ref) else .tup (ts.map V.ref))/\ts.length=ps.length /\
  (∀ (i:Nat) (t:Addr) (p:ae × V),ts[i]?=some t->ps[i]?=some p->H t=some (.tup [kV p.1,p.2]))/\∀ q,H q=none->Q (.ref q) (upd H q (.dK (d7 ps)))):=by
 intro Fd s σ H xs us Q I r h;obtain ⟨l,ts,ps,rfl,hl,htl,Jp,kq⟩:=h;obtain ⟨u,rfl,ru⟩:=vals1 r;cases (show u=Value.ref l from ru)
 obtain ⟨its,rv,n,sl,ho,hz⟩:∃ its,aD (ts.map V.ref) its/\∃ n sl,s.heap.get? l=some (oB c its.toArray n sl)/\(ts.map V.ref).length<=sizeLine:=by
  cases c
  ·obtain ⟨hz,its,rv,⟨o,ho,hcl,n,hda⟩,o2,Hw,hd⟩:=(show bJ X.prog X.w H s.heap l (.tup (ts.map V.ref)) from I.hok l _ hl)
   rw [ho] at Hw;cases Hw;obtain ⟨ocls,odict,odata,oslots⟩:=o;simp only at hcl hd hda;subst hcl;subst hd;subst hda;exact ⟨its,rv,n,_,ho,hz⟩
  ·obtain ⟨its,rv,⟨o,n,ho,hcl,hd,hda⟩,hz⟩:=I.list (ak.of hl);obtain ⟨ocls,odict,odata,oslots⟩:=o;simp only at hcl hd hda;subst hcl;subst hd;subst hda;exact ⟨its,rv,n,_,ho,hz⟩
 have FY:its.length=ts.length:=by rw [<- rv.length,Qe]
 obtain ⟨tp,htpe⟩:∃ tp:Nat->Addr,∀ i,tp i=ts.getD i l:=⟨_,fun _=>rfl⟩
 have pr:∀ i:Nat,∃ q:Value × Value,i<ps.length->its[i]?=some (.ref (tp i))/\IsTup s.heap (tp i) #[q.1,q.2]/\∀ p,ps[i]?=some p->RelV (kV p.1) q.1/\RelV p.2 q.2:=fun i=>by
  by_cases hi:i<ps.length
  ·have hti:i<ts.length:=by lia
   have h1:ts[i]?=some ts[i]:=Qa hti;have h2:ps[i]?=some ps[i]:=Qa hi;have et:tp i=ts[i]:=by rw [htpe,Qg,h1];rfl
   obtain ⟨v,hv,rvv⟩:=rv.get (i:=i) (x:=.ref ts[i]) (by rw [Qu,h1];rfl);cases (show v=Value.ref ts[i] from rvv);obtain ⟨jts,rj,pj,_⟩:=I.tuple (au.of (Jp i _ _ h1 h2))
   cases rj with
   | cons ra r2 =>
   cases r2 with
   | cons rb r3 =>
   cases r3;refine ⟨(_,_),fun _=>⟨by rw [et];exact hv,by rw [et];exact pj,fun p hp=>?_⟩⟩;rw [h2] at hp;cases hp;exact ⟨ra,rb⟩
  ·exact ⟨(.none,.none),fun h=>absurd h hi⟩
 obtain ⟨qv,IL⟩:=Classical.axiomOfChoice pr
 obtain ⟨qs,hqs⟩:∃ qs:List (ae × Value),qs=(List.range ps.length).map fun i=>((ps.getD i (.inl 0,.non)).1,(qv i).2):=⟨_,rfl⟩
 have qsl:qs.length=ps.length:=by rw [hqs];simp
 have qsg:∀ (i:Nat) (q:ae × Value),qs[i]?=some q->i<ps.length/\∃ p,ps[i]?=some p/\q=(p.1,(qv i).2):=fun i q h=>by
  have hi:i<ps.length:=by have:=(Qh h).1;lia
  refine ⟨hi,ps[i],Qa hi,?_⟩;rw [hqs,Qu,List.getElem?_range hi] at h;have h:=Qp h;rw [<- h];show ((ps.getD i (.inl 0,.non)).1,(qv i).2)=_;rw [Qg,Qa hi];rfl
 have Ga:KV (d7 ps) (eN qs):=tD qsl.symm fun i p q h1 h2=>by obtain ⟨hi,p',HV,rfl⟩:=qsg i q h2;rw [h1] at HV;cases HV;exact ⟨rfl,((IL i hi).2.2 p h1).2⟩
 have relT:∀ i,KV (d7 (ps.take i)) (eN (qs.take i)):=fun i=>tD (by simp [qsl]) fun j p q h1 h2=>by
  rw [List.getElem?_take] at h1 h2;split at h1
  ·rename_i hj;rw [if_pos hj] at h2;obtain ⟨hi,p',HV,rfl⟩:=qsg j q h2;rw [h1] at HV;cases HV;exact ⟨rfl,((IL j hi).2.2 p h1).2⟩
  ·cases h1
 have hpz:ps.length<=sizeLine:=by rw [Qe] at hz;lia
 refine A1 ho (I.ok.hd hc) qs tp (fun i=>(qv i).1) (by rw [qsl];simp;lia) (fun i q h=>?_) (fun i v h=>?_) (fun i=>?_) (fun i=>?_) (fun i q h=>?_) fun hp tk hD kk=>?_
 ·obtain ⟨hi,p,hp,rfl⟩:=qsg i q h;exact fR ((IL i hi).2.2 p hp).1
 ·have hi:i<ps.length:=by have:=(Array.getElem?_eq_some_iff.mp h).1;simp at this;lia
  have:=(IL i hi).1;have h:its[i]?=some v:=by simpa using h
  rw [this] at h;exact (Qp h).symm
 ·by_cases hi:i<ps.length
  ·obtain ⟨_,⟨o,r,_⟩,_⟩:=IL i hi;exact Ql r
  ·have:tp i=l:=by rw [htpe,Qg,List.getElem?_eq_none (by lia)];rfl
   rw [this];exact Ql ho
 ·rw [<- (relT i).length];have:=oE (ps.take i);rw [QJ] at this;lia
 ·obtain ⟨hi,p,hp,rfl⟩:=qsg i q h;exact (IL i hi).2.1
 ·have hf:=oE ps;refine ⟨.ref s.heap.objs.size,_,I.laid (a:=s.heap.objs.size) (o:=.dK (d7 ps)) (t':=tk) kk (Qc _) (oo (by lia) (beq_eq_false_iff_ne.mpr (Ne.symm (QC I.big))) Ga hD),rfl,kq _ I.fresh⟩
end
structure ie (P:Program) (w:World) (K:PySem.W.Frag) (a:Addr) (Fe:List (Str × Str)):Prop where
 ns:(a == sysModules)=false
 ob:∃ (o:Obj) (vs:List (ae × Value)),K.lookup a=some o/\o.cls=.type "dict"/\o.dict=none/\(∀ h:Heap,h.get? a=some o->h.DictOf (bF P w) a vs) /\
  ∀ k:Str,(∀ i,Fe.lookup k=some i->∃ t,valueAt vs (Sum.inr k:ae)=some (.str i t))/\(Fe.lookup k=none->valueAt vs (Sum.inr k:ae)=none)
abbrev jd:=Str × Tok × Str × Tok
noncomputable def lJ (w:World) (e:jd):DictEntry:=⟨hashStr w e.1,.str e.1 e.2.1,.str e.2.2.1 e.2.2.2⟩
noncomputable def fu (e:jd):ae × Value:=(Sum.inr e.1,.str e.2.2.1 e.2.2.2)
theorem tE {P:Program} {w:World}:∀ es:List jd,Pairs (bF P w) (es.map (lJ w)) (es.map fu)
 | []=>.nil
 | e::r=>.cons (k5 P w e.1 e.2.1) rfl (tE r)
theorem tF (k:Str):∀ es:List jd,(∀ i,(es.map fun e=>(e.1,e.2.2.1)).lookup k=some i->∃ t,valueAt (es.map fu) (Sum.inr k:ae)=some (.str i t))/\((es.map fun e=>(e.1,e.2.2.1)).lookup k=none->valueAt (es.map fu) (Sum.inr k:ae)=none)
 | []=>⟨fun i h=>by simp at h,fun _=>rfl⟩
 | e::r=>by
  obtain ⟨h1,h2⟩:=tF k r;simp only [List.map_cons,List.lookup_cons];by_cases hk:k=e.1
  ·subst hk;simp only [beq_self_eq_true];refine ⟨fun i h=>?_,fun h=>nomatch h⟩;cases h;exact ⟨e.2.2.2,by simp [valueAt,fu]⟩
  ·have hb:(k == e.1)=false:=beq_eq_false_iff_ne.mpr hk
   have hn:¬ ((fu e).1=(Sum.inr k:ae)):=fun z=>hk (by
    have z':(Sum.inr e.1:ae)=Sum.inr k:=z;injection z' with z'
    exact z'.symm)
   have ev:valueAt (fu e::r.map fu) (Sum.inr k:ae)=valueAt (r.map fu) (Sum.inr k:ae):=by unfold valueAt;rw [List.find?_cons_of_neg (by simpa using hn)]
   rw [hb,ev];exact ⟨h1,h2⟩
theorem A2 {P:Program} {w:World} {K:PySem.W.Frag} {a:Addr} {ep:Nat} {es:List jd} (hs:(a == sysModules)=false)
  (hl:K.lookup a=some ⟨.type "dict",none,.dict (es.map (lJ w)).toArray ep,#[]⟩) (nd:(es.map (·.1)).Nodup):ie P w K a (es.map fun e=>(e.1,e.2.2.1)):=by
 refine ⟨hs,_,es.map fu,hl,rfl,rfl,fun h e=>⟨_,_,_,e,⟨rfl,rfl,rfl⟩,rfl,?_,tE es,?_⟩,fun k=>tF k es⟩
 ·intro x hx;have hx':x∈es.map (lJ w):=by simpa using hx
  obtain ⟨y,_,rfl⟩:=QT hx';exact ⟨Sum.inr y.1,k5 P w y.1 y.2.1,rfl⟩
 ·have e1:(es.map fu).map (·.1)=(es.map (·.1)).map (Sum.inr:Str->ae):=by rw [List.map_map,List.map_map];rfl
  rw [e1];refine List.Pairwise.map _ (fun x y hxy hz=>hxy ?_) nd;injection hz
section
variable {X:Cx} {a:Addr} {Fe:List (Str × Str)} {x:Str} {p pos apos Fx:Pos} {e f:Expr} {ty tx:TE}
theorem ie.here {Fd:List (Addr × Obj)} {σ:St} {H:Hp} {s:Shared} (D:ie X.prog X.w X.K a Fe) (I:Inv X Fd σ H s) :
  ∃ vs:List (ae × Value),s.heap.DictOf (bF X.prog X.w) a vs/\(∀ b,Value.ref a=.ref b->∃ ob,s.heap.get? b=some ob/\ob.dict=none) /\
   ∀ k:Str,(∀ i,Fe.lookup k=some i->∃ t,valueAt vs (Sum.inr k:ae)=some (.str i t))/\(Fe.lookup k=none->valueAt vs (Sum.inr k:ae)=none):=by
 obtain ⟨o,vs,hk,hc,hd,hh,hv⟩:=D.ob;have e:=I.kIn a o hk;exact ⟨vs,hh _ e,fun b q=>by cases q;exact ⟨o,e,hd⟩,hv⟩
def A3 (Fe:List (Str × Str)) (ty:TE):TE:=fun σ H Q=>ty σ H fun y H1=>∃ (k:Str) (i:Str),y=.str k/\Fe.lookup k=some i/\Q (.str i) H1
theorem tG (D:ie X.prog X.w X.K a Fe) (hg:Gl X x) (hm:X.mg x=some (.ref a)) (he:PE X e ty) (hs:sk e) (hd:(x == ("__debug__":Str))=false:=by decide):PE X (.Subscript (.Name x p) e pos) (A3 Fe ty):=by intro Fd s σ H Q I h;refine Subscript_ (jL I hg hm ?_ hd);refine az (he Fd s σ H _ I h) fun iv s1 hsl61=>?_;obtain ⟨y,H1,I1,ry,k,i,ey,hk,q⟩:=hsl61;subst ey;obtain ⟨t,rfl⟩:=ry;obtain ⟨vs,dd,_,hv⟩:=D.here I1;obtain ⟨t',e⟩:=(hv k).1 i hk;exact tail_any dd.typeIs PySem.F.slot_dict_getitem.lookup (wpAny_getItem_of (k:=(Sum.inr k:ae)) (k5 _ _ k t) dd.mapOf e ⟨.str i,H1,I1.tok _,⟨t',rfl⟩,q⟩) (hs _ _)
end
theorem A4 (a v:Value):argsOk "list.sort" ⟨[a],[(Str.ofString "key",v)]⟩:=by unfold argsOk;kernel_rfl
theorem A5 (a v:Value):argsOk "sorted" ⟨[a],[(Str.ofString "key",v)]⟩:=by unfold argsOk;kernel_rfl
theorem A6 (a f:Addr):Builtin.«list.sort» ⟨[.ref a],[(Str.ofString "key",.ref f)]⟩=(do
  let items <- Builtin.List.listItems (.ref a)
  Builtin.List.listUpdate (.ref a) fun _=>#[]
  let before <- seqEpoch a;let held <- newTuple items.toList;let keyStore <- newList []
  holding [held,keyStore] do
   rule "list.sort.key"
   for x in items do
    match <- (call (.ref f) [x]).attempt with
    | .ok k=>Builtin.List.listUpdate keyStore (·.push k)
    | .error e =>
     rule "list.sort.key-raised"
     let made <- Builtin.List.listItems keyStore
     Builtin.List.listUpdate keyStore fun _=>#[]
     letGo made.toList.reverse [e]
     Builtin.List.listUpdate (.ref a) fun _=>items;throw e
   let Gy <- Builtin.List.listItems keyStore
   let kind <- if items.size<2 then pure general' else keyKind' Gy
   let ((),s) <- (if items.size<2 then pure () else sortRuns').run (SortSt.mk' kind (Gy.zip items) #[] 7 none);let sorted:=(arrOf s).map (·.2)
   Builtin.List.listUpdate keyStore fun _=>#[]
   letGo ((arrOf s).map (·.1)).toList (failedOf s).toList
   let touched:=(<- seqEpoch a) != before
   Builtin.List.listUpdate (.ref a) fun _=>sorted
   if let some e:=failedOf s then rule "list.sort.comparison-raised";throw e
   if touched then rule "list.sort.modified";raiseError "ValueError" "list modified during sort"
   ret .none):=by
 first | rfl | (fail "not by rfl")
theorem Inv.adopt {X:Cx} {Fd:List (Addr × Obj)} {σ:St} {H:Hp} {s:Shared} {a:Addr} {o:HO} (I:Inv X Fd σ H s) (f:cR X Fd H a) (new:bJ X.prog X.w (upd H a o) s.heap a o):Inv X Fd σ (upd H a o) s:=by
 obtain ⟨f0,f1,f2,f3,f4,f5⟩:=f;have ne:∀ b u,H b=some u->b≠a:=fun b u e=>dG e f0
 have hok:bC X.prog X.w (upd H a o) s.heap:=fun b u e=>by
  by_cases hb:b=a
  ·subst hb;rw [af] at e;cases e;exact new
  ·rw [ay hb] at e;exact (I.hok b u e).stay (fun c v _ q=>q) (fun c q=>by rw [ay (ne c _ q)];exact q) fun c xs q=>by rw [ay (ne c _ q)];exact q
 have nc:∀ {b:Addr},b∉[a]->b≠a:=fun h z=>h (by simp [z])
 exact I.step (g':=s.gens) (d':=s.drawn) (t':=s.toks) (h':=s.heap) (ch:=[a]) (fun b hb=>by
   have e:b=a:=by simpa using hb
   subst e
   exact ⟨f3,f1,f4,f5⟩)
  (fun b o _ _ _ e _=>e) (fun b o _ _ _ e _=>⟨o.slots,e⟩) (fun b o hc e n=>by rw [ay (nc hc)];exact n) (fun b o _ e=>⟨o,e⟩)
  (fun b xs e=>by rw [ay (ne b _ e)];exact e) (fun b o u e=>by rw [ay (ne b _ e)];exact e) (fun b ps e=>⟨#[],by rw [ay (ne b _ e),e];simp⟩) (fun m hm=>hm) hok I.bare
end L2
namespace L2
open PySem PySem.Spec PyProof.Rows PySem.W
def aV (n:Nat) (p:Array Nat):Prop:=∀ x∈p.toList,x<n
theorem aV.at {n:Nat} {p:Array Nat} (h0:0<n) (h:aV n p) (k:Nat):p.getD k 0<n:=by
 rw [Array.getD_eq_getD_getElem?]
 cases e:p[k]? with
 | none=>exact h0
 | some x =>
  refine h x ?_;rw [<- Array.getElem?_toList] at e;exact Qz e
structure Ev where
 κ:SortKind
 it:Array Keyed
def oG (n:Nat) (lt:Nat->Nat->Bool) (e:Ev) (prog:Program) (w:World) (A:Around) (s:Shared):Prop :=
 ∀ i j,i<n->j<n->∀ C:Bool->Shared->Prop,C (lt i j) s->kas_cmp prog w A e.κ e.it i j C s
def aJ (n:Nat) (lt:Nat->Nat->Bool) {α:Type} (m:Ev->StateT SortSt Sem α) (x:Ev->SortSt) (R:(Ev->α)->(Ev->SortSt)->Prop):Prop :=
 ∃ (a:Ev->α) (y:Ev->SortSt),R a y/\∀ (e:Ev) (prog:Program) (w:World) (A:Around) (E:Value->Shared->Prop) (s:Shared),oG n lt e prog w A s ->
  ∀ Q:α->SortSt->Shared->Prop,Q (a e) (y e) s->kasC (model prog w) A E (m e) Q (x e) s
section
variable {n:Nat} {lt:Nat->Nat->Bool} {α β:Type} {x:Ev->SortSt}
theorem aG {a:Ev->α} {R:(Ev->α)->(Ev->SortSt)->Prop} (h:R a x):aJ n lt (fun e=>pure (a e)) x R :=
 ⟨a,x,h,fun e prog w A E s _ Q q=>kasC_pure q⟩
theorem aw {m:Ev->StateT SortSt Sem α} {f:Ev->α->StateT SortSt Sem β} {R:(Ev->β)->(Ev->SortSt)->Prop} (h:aJ n lt m x (fun a y=>aJ n lt (fun e=>f e (a e)) y R)):aJ n lt (fun e=>m e >>= f e) x R:=by obtain ⟨a,y,⟨b,z,r,h2⟩,h1⟩:=h;exact ⟨b,z,r,fun e prog w A E s ho Q q=>kasC_bind (h1 e prog w A E s ho _ (h2 e prog w A E s ho Q q))⟩
theorem aJ.mono {m:Ev->StateT SortSt Sem α} {R R':(Ev->α)->(Ev->SortSt)->Prop} (h:aJ n lt m x R) (hr:∀ a y,R a y->R' a y):aJ n lt m x R':=by obtain ⟨a,y,r,h1⟩:=h;exact ⟨a,y,hr a y r,h1⟩
theorem tH {R:(Ev->SortSt)->(Ev->SortSt)->Prop} (h:R x x):aJ n lt (fun _=>(get:StateT SortSt Sem SortSt)) x R :=
 ⟨x,x,h,fun e prog w A E s _ Q q=>kasC_get q⟩
theorem je {f:Ev->SortSt->SortSt} {R:(Ev->PUnit)->(Ev->SortSt)->Prop} (h:R (fun _=>⟨⟩) (fun e=>f e (x e))):aJ n lt (fun e=>(modify (f e):StateT SortSt Sem PUnit)) x R :=
 ⟨_,_,h,fun e prog w A E s _ Q q=>kasC_modify q⟩
theorem A7 {f:Ev->SortSt} {R:(Ev->PUnit)->(Ev->SortSt)->Prop} (h:R (fun _=>⟨⟩) f):aJ n lt (fun e=>(set (f e):StateT SortSt Sem PUnit)) x R :=
 ⟨_,_,h,fun e prog w A E s _ Q q=>by unfold kasC;rw [StateT.run_set];exact Qf q⟩
theorem jf {t:String} {R:(Ev->Unit)->(Ev->SortSt)->Prop} (h:R (fun _=>()) x):aJ n lt (fun _=>(liftM (rule t):StateT SortSt Sem Unit)) x R :=
 ⟨_,_,h,fun e prog w A E s _ Q q=>kasC_lift (wpAny_rule q)⟩
theorem bd {c:Prop} {inst:Ev->Decidable c} {p q:Ev->StateT SortSt Sem α} {R:(Ev->α)->(Ev->SortSt)->Prop} (h1:c->aJ n lt p x R) (h2:¬c->aJ n lt q x R):aJ n lt (fun e=>@ite _ c (inst e) (p e) (q e)) x R:=by
 by_cases h:c
 ·simp only [if_pos h];exact h1 h
 ·simp only [if_neg h];exact h2 h
theorem tI {β:Type} {f:Ev->Nat->β->StateT SortSt Sem (ForInStep β)} (I:List Nat->(Ev->β)->(Ev->SortSt)->Prop) (Q:(Ev->β)->(Ev->SortSt)->Prop)
  (Iw:∀ i l c y,I (i::l) c y->aJ n lt (fun e=>f e i (c e)) y (fun r z=>(∃ c',r=(fun e=>.done (c' e))/\Q c' z)∨(∃ c',r=(fun e=>.yield (c' e))/\I l c' z)))
  (HA:∀ c y,I [] c y->Q c y):∀ (l:List Nat) (c:Ev->β) (x:Ev->SortSt),I l c x->aJ n lt (fun e=>forIn l (c e) (f e)) x Q
 | [],c,x,h=>⟨c,x,HA c x h,fun e prog w A E s _ Q q=>kasC_nil q⟩
 | i::l,c,x,h=>by
  obtain ⟨r,z,hr,h1⟩:=Iw i l c x h
  rcases hr with ⟨c',rfl,hq⟩ | ⟨c',rfl,hi⟩
  ·exact ⟨c',z,hq,fun e prog w A E s ho Q q=>kasC_cons (h1 e prog w A E s ho _ q)⟩
  ·obtain ⟨b,y,r,h2⟩:=tI I Q Iw HA l c' z hi;exact ⟨b,y,r,fun e prog w A E s ho Q q=>kasC_cons (h1 e prog w A E s ho _ (h2 e prog w A E s ho Q q))⟩
theorem cI {β:Type} {a b:Nat} {c:Ev->β} {f:Ev->Nat->β->StateT SortSt Sem (ForInStep β)} (I:Nat->(Ev->β)->(Ev->SortSt)->Prop) (Q:(Ev->β)->(Ev->SortSt)->Prop)
  (Iw:∀ i c y,a<=i->i<b->I i c y->aJ n lt (fun e=>f e i (c e)) y (fun r z=>(∃ c',r=(fun e=>.done (c' e))/\Q c' z)∨(∃ c',r=(fun e=>.yield (c' e))/\I (i+1) c' z)))
  (HA:∀ c y,I (max a b) c y->Q c y) (h:I a c x):aJ n lt (fun e=>forIn [a:b] (c e) (f e)) x Q:=by
 have key:aJ n lt (fun e=>forIn (List.range' a (b-a)) (c e) (f e)) x Q:=by
  refine tI (fun l c y=>∃ i,a<=i/\i<=max a b/\l=List.range' i (max a b-i) 1/\I i c y) Q ?_ ?_ _ c x ⟨a,Qc _,by lia,by congr 1;lia,h⟩
  ·rintro j l c y ⟨i,hai,Hk,hl,hI⟩
   have Fl:i<max a b:=by
    rcases Nat.lt_or_ge i (max a b) with h' | h'
    ·exact h'
    ·rw [show max a b-i=0 by lia] at hl;simp at hl
   obtain ⟨k,hk⟩:∃ k,max a b-i=k+1:=⟨max a b-i-1,by lia⟩
   rw [hk,List.range'_succ] at hl;obtain ⟨rfl,rfl⟩:=List.cons.inj hl;refine (Iw j c y hai (by lia) hI).mono fun r z hr=>?_
   rcases hr with hr | ⟨c',e',h'⟩
   ·exact .inl hr
   ·exact .inr ⟨c',e',j+1,by lia,by lia,by congr 1;lia,h'⟩
  ·rintro c y ⟨i,hai,Hk,hl,hI⟩
   have:i=max a b:=by
    rcases Nat.lt_or_ge i (max a b) with h' | h'
    ·obtain ⟨k,hk⟩:∃ k,max a b-i=k+1:=⟨max a b-i-1,by lia⟩
     rw [hk,List.range'_succ] at hl;simp at hl
    ·lia
   subst this;exact HA _ _ hI
 obtain ⟨b',y,r,h1⟩:=key;exact ⟨b',y,r,fun e prog w A E s ho Q q=>kasC_range (h1 e prog w A E s ho Q q)⟩
end
noncomputable def dj (e:Ev) (i:Nat):Keyed:=kas_item e.it i
noncomputable def aR (e:Ev) (p:Array Nat):Array Keyed:=p.map (dj e)
noncomputable def av (p:Array Nat) (Ff:Array (Nat × Nat × Nat)) (g:Nat):Ev->SortSt:=fun e=>SortSt.mk' e.κ (aR e p) Ff g none
theorem dm {e:Ev} {p:Array Nat}:(aR e p).size=p.size:=Array.size_map ..
section
variable {n:Nat} {lt:Nat->Nat->Bool} {p:Array Nat} {Ff:Array (Nat × Nat × Nat)} {g:Nat}
theorem A8 {e:Ev} {i:Nat} (hi:i<p.size):(aR e p)[i]?=some (dj e (p.getD i 0)):=by
 have e1:p.getD i 0=p[i]:=by simp [Array.getD,hi]
 rw [e1];simp [aR,hi]
theorem ck {i:Nat} {x:Ev->SortSt} {R:(Ev->Keyed)->(Ev->SortSt)->Prop} (hi:i<p.size) (h:R (fun e=>dj e (p.getD i 0)) x):aJ n lt (fun e=>elem' (aR e p) i) x R:=by refine ⟨_,_,h,fun e prog w A E s _ Q q=>?_⟩;show kasC _ _ _ (elem' (aR e p) i) _ _ _;rw [elem'_eq,A8 hi];exact kasC_pure q
theorem ka {i j:Nat} {R:(Ev->Option Bool)->(Ev->SortSt)->Prop} (hi:i<n) (hj:j<n) (h:R (fun _=>some (lt i j)) (av p Ff g)):aJ n lt (fun e=>lt' (dj e i) (dj e j)) (av p Ff g) R:=by refine ⟨_,_,h,fun e prog w A E s ho Q q=>?_⟩;show kasC _ _ _ (lt' (dj e i) (dj e j)) _ _ _;rw [lt'_eq];refine kasC_bind (kasC_get ?_);refine kasC_bind (kasC_lift (wpAny_attempt (QR (ho i j hi hj (fun b s'=>b=lt i j/\s'=s) ⟨rfl,rfl⟩) (fun c s' hc=>?_) fun _ _ hF=>hF.elim)));obtain ⟨rfl,rfl⟩:=hc;exact kasC_pure q
theorem jg {i j:Nat} {R:(Ev->Option Bool)->(Ev->SortSt)->Prop} (h0:0<n) (hp:aV n p) (hi:i<p.size) (hj:j<p.size) (h:R (fun _=>some (lt (p.getD i 0) (p.getD j 0))) (av p Ff g)):aJ n lt (fun _=>ltAt' i j) (av p Ff g) R:=by refine aw (tH ?_);refine aw (ck (p:=p) hi ?_);refine aw (ck (p:=p) hj ?_);exact ka (hp.at h0 _) (hp.at h0 _) h
theorem lK {i j:Nat} {R:(Ev->Unit)->(Ev->SortSt)->Prop} (h:R (fun _=>()) (av (kas_rev p i j) Ff g)):aJ n lt (fun _=>reverseSlice' i j) (av p Ff g) R:=by
 simp only [reverseSlice'_eq];refine je ?_;have e:(fun e=>setArr (av p Ff g e) (mirror (arrOf (av p Ff g e)) i j ((j-i) / 2)))=av (kas_rev p i j) Ff g:=by funext e;show SortSt.mk' e.κ (mirror (aR e p) i j ((j-i) / 2)) Ff g none=SortSt.mk' e.κ (aR e (kas_rev p i j)) Ff g none;have e1:mirror (aR e p) i j ((j-i) / 2)=aR e (kas_rev p i j):=kas_swaps_map (dj e) (fun k=>i+k) (fun k=>j-1-k) _ p;rw [e1]
 rw [e];exact h
theorem A9 {k l:Nat} {R:(Ev->Unit)->(Ev->SortSt)->Prop} (h:R (fun _=>()) (av (bubble p k (k-l)) Ff g)):aJ n lt (fun _=>moveDown' k l) (av p Ff g) R:=by
 simp only [moveDown'_eq];refine je ?_;have e:(fun e=>setArr (av p Ff g e) (bubble (arrOf (av p Ff g e)) k (k-l)))=av (bubble p k (k-l)) Ff g:=by funext e;show SortSt.mk' e.κ (bubble (aR e p) k (k-l)) Ff g none=SortSt.mk' e.κ (aR e (bubble p k (k-l))) Ff g none;have e1:bubble (aR e p) k (k-l)=aR e (bubble p k (k-l)):=kas_swaps_map (dj e) (fun i=>k-i) (fun i=>k-i-1) _ p;rw [e1]
 rw [e];exact h
end
noncomputable def Ba:Bool->Keyed->Array Keyed->Nat->Nat->Nat->StateT SortSt Sem (Option Nat):=sortPriv% PySem.Builtin.gallop
noncomputable def Bb:Array Keyed->Array Keyed->StateT SortSt Sem (Array Keyed):=sortPriv% PySem.Builtin.mergeLo
noncomputable def Bc:Array Keyed->Array Keyed->StateT SortSt Sem (Array Keyed):=sortPriv% PySem.Builtin.mergeHi
noncomputable def Bd:Nat->StateT SortSt Sem Unit:=sortPriv% PySem.Builtin.setMinGallop
theorem dH {e:Ev} {p:Array Nat} {i:Nat}:(aR e p).push (dj e i)=aR e (p.push i):=by simp [aR]
theorem dI {e:Ev} {p q:Array Nat}:aR e p++aR e q=aR e (p++q):=by simp [aR]
theorem dA {e:Ev} {p:Array Nat} {i j:Nat}:(aR e p).extract i j=aR e (p.extract i j):=by simp [aR]
theorem dJ {e:Ev} {i:Nat}:#[dj e i]=aR e #[i]:=by simp [aR]
theorem ig {e:Ev} {p:Array Nat}:(aR e p).reverse=aR e p.reverse:=by simp [aR]
theorem aV.push {n:Nat} {p:Array Nat} (h:aV n p) {i:Nat} (hi:i<n):aV n (p.push i):=by
 intro x hx;rw [Array.toList_push,List.mem_append] at hx;rcases hx with hx | hx
 ·exact h x hx
 ·rw [List.mem_singleton] at hx;exact hx ▸ hi
theorem aV.app {n:Nat} {p q:Array Nat} (h:aV n p) (h':aV n q):aV n (p++q):=by intro x hx;rw [QH,List.mem_append] at hx;exact hx.elim (h x) (h' x)
theorem aV.ext {n:Nat} {p:Array Nat} (h:aV n p) (i j:Nat):aV n (p.extract i j):=by intro x hx;rw [Array.toList_extract] at hx;exact h x (List.mem_of_mem_drop (List.mem_of_mem_take hx))
theorem aV.reverse {n:Nat} {p:Array Nat} (h:aV n p):aV n p.reverse:=by intro x hx;rw [Array.toList_reverse,List.mem_reverse] at hx;exact h x hx
section
variable {n:Nat} {lt:Nat->Nat->Bool} {α:Type} {x:Ev->SortSt} {P:Array Nat} {Ff:Array (Nat × Nat × Nat)} {g:Nat}
theorem dB {a b:Nat} {inst:Ev->Decidable ((a == b)=true)} {p q:Ev->StateT SortSt Sem α} {R:(Ev->α)->(Ev->SortSt)->Prop} (h1:a=b->aJ n lt p x R) (h2:a≠b->aJ n lt q x R):aJ n lt (fun e=>@ite _ ((a == b)=true) (inst e) (p e) (q e)) x R :=
 bd (fun h=>h1 (by simpa using h)) (fun h=>h2 (by simpa using h))
theorem lL {k:Nat} {R:(Ev->Unit)->(Ev->SortSt)->Prop} (h:R (fun _=>()) (av P Ff k)):aJ n lt (fun _=>Bd k) (av P Ff g) R:=je h
theorem fw {γ:Type} {f:Ev->SortSt->StateT SortSt Sem γ} {R:(Ev->γ)->(Ev->SortSt)->Prop} (h:aJ n lt (fun e=>f e (SortSt.mk' e.κ (aR e P) Ff g none)) (av P Ff g) R):aJ n lt (fun e=>get >>= f e) (av P Ff g) R:=aw (tH h)
theorem tJ {c:Prop} {inst:Ev->Decidable c} {q:Ev->StateT SortSt Sem α} {R:(Ev->α)->(Ev->SortSt)->Prop} {X:Nat->Ev->StateT SortSt Sem α} (v:Nat) (e:q=X v) (h:∀ v,aJ n lt (X v) x R):∀ m1,aJ n lt (fun e=>@ite _ c (inst e) (X m1 e) (q e)) x R :=
 fun m1=>bd (fun _=>h m1) (fun _=>e ▸ h v)
variable {pa pb:Array Nat}
end
theorem Be (p:Array Nat) (i j:Nat):(kas_rev p i j).size=p.size:=mirror_size _ _ _ _
noncomputable def putN (po:List Nat) (k:Nat) (s:Nat) (p:Array Nat):Array Nat:=(po.zipIdx k).foldl (fun a x=>a.setIfInBounds (s+x.2) x.1) p
theorem tK {α:Type} (f:Nat->α) (s:Nat):∀ (po:List Nat) (k:Nat) (p:Array Nat),((po.map f).zipIdx k).foldl (fun a (x:α × Nat)=>a.setIfInBounds (s+x.2) x.1) (p.map f)=(putN po k s p).map f
 | [],k,p=>rfl
 | a::po,k,p=>by show ((po.map f).zipIdx (k+1)).foldl _ ((p.map f).setIfInBounds (s+k) (f a))=(putN po (k+1) s (p.setIfInBounds (s+k) a)).map f;rw [<- tK f s po (k+1),Array.map_setIfInBounds]
theorem tL (s:Nat):∀ (po:List Nat) (k:Nat) (p:Array Nat),(putN po k s p).size=p.size
 | [],k,p=>rfl
 | a::po,k,p=>by show (putN po (k+1) s (p.setIfInBounds (s+k) a)).size=p.size;rw [tL s po,Array.size_setIfInBounds]
def Ch:Nat->List (Nat × Nat × Nat)->Nat->Prop
 | s,[],e=>s=e
 | s,(a,k,_)::l,e=>a=s/\0<k/\Ch (s+k) l e
theorem Ch.le:∀ {s:Nat} {l:List (Nat × Nat × Nat)} {e:Nat},Ch s l e->s<=e
 | s,[],e,h=>Nat.le_of_eq h
 | s,(a,k,_)::l,e,h=>Qq (Nat.le_add_right s k) h.2.2.le
theorem Ch.two:∀ {s:Nat} {l:List (Nat × Nat × Nat)} {e:Nat} (i:Nat),Ch s l e->i+1<l.length->∃ a k u m v,l[i]?=some (a,k,u)/\l[i+1]?=some (a+k,m,v)/\0<k/\0<m/\a+k+m<=e/\Ch s ((l.set i (a,k+m,u)).eraseIdx (i+1)) e
 | s,[],e,i,h,hi=>absurd hi (by simp)
 | s,[x],e,i,h,hi=>absurd hi (by simp)
 | s,(a,k,u)::(b,m,v)::l,e,0,h,hi=>by obtain ⟨rfl,hk,rfl,hm,h⟩:=h;exact ⟨a,k,u,m,v,rfl,rfl,hk,hm,h.le,rfl,by lia,by rw [<- Nat.add_assoc];exact h⟩
 | s,(a,k,u)::y::l,e,i+1,h,hi=>by obtain ⟨rfl,hk,h⟩:=h;obtain ⟨b,m,v,m2,v2,e1,e2,h1,h2,h3,h4⟩:=Ch.two i h (by simpa using hi);exact ⟨b,m,v,m2,v2,e1,e2,h1,h2,h3,rfl,hk,h4⟩
theorem Ch.push:∀ {s:Nat} {l:List (Nat × Nat × Nat)} {e:Nat} (k u:Nat),Ch s l e->0<k->Ch s (l++[(e,k,u)]) (e+k)
 | s,[],e,k,u,h,hk=>by cases (show s=e from h);exact ⟨rfl,hk,rfl⟩
 | s,(a,m,v)::l,e,k,u,h,hk=>⟨h.1,h.2.1,Ch.push k u h.2.2 hk⟩
theorem Ch.mod:∀ {s:Nat} {l:List (Nat × Nat × Nat)} {e:Nat} (i u:Nat),Ch s l e->Ch s (l.modify i fun x=>(x.1,x.2.1,u)) e
 | s,[],e,i,u,h=>by cases i<;>exact h
 | s,(a,m,v)::l,e,0,u,h=>h
 | s,(a,m,v)::l,e,i+1,u,h=>⟨h.1,h.2.1,Ch.mod i u h.2.2⟩
section
variable {n:Nat} {lt:Nat->Nat->Bool} {α:Type} {x:Ev->SortSt} {p:Array Nat} {Ff:Array (Nat × Nat × Nat)} {g:Nat}
theorem Bf {pend':Array (Nat × Nat × Nat)} {R:(Ev->PUnit)->(Ev->SortSt)->Prop} (h:R (fun _=>⟨⟩) (av p pend' g)):aJ n lt (fun e=>(set (SortSt.mk' e.κ (aR e p) pend' g none):StateT SortSt Sem PUnit)) x R:=A7 h
theorem Bg {f:Ev->SortSt->SortSt} {p':Array Nat} {pend':Array (Nat × Nat × Nat)} {g':Nat} {R:(Ev->PUnit)->(Ev->SortSt)->Prop} (e:∀ e,f e (av p Ff g e)=av p' pend' g' e) (h:R (fun _=>⟨⟩) (av p' pend' g')):aJ n lt (fun e=>(modify (f e):StateT SortSt Sem PUnit)) (av p Ff g) R :=
 je (by rw [funext e];exact h)
theorem Bh {c:Prop} {inst:Decidable c} {a b:Nat} (h:a+1<b):(@ite _ c inst (a-1) a)+1<b:=by
 by_cases hc:c
 ·rw [if_pos hc];omega
 ·rw [if_neg hc];exact h
theorem lM {v:Nat × Nat × Nat} {R:(Ev->PUnit)->(Ev->SortSt)->Prop} (h:R (fun _=>⟨⟩) (av p (Ff.push v) g)):aJ n lt (fun _=>(modify fun s=>setPending s ((pendingOf s).push v):StateT SortSt Sem PUnit)) (av p Ff g) R:=je h
theorem tM {f:Nat × Nat × Nat->Nat × Nat × Nat} {R:(Ev->PUnit)->(Ev->SortSt)->Prop} (h:R (fun _=>⟨⟩) (av p (Ff.modify (Ff.size-1) f) g)):aJ n lt (fun _=>(modify fun s=>setPending s ((pendingOf s).modify ((pendingOf s).size-1) f):StateT SortSt Sem PUnit)) (av p Ff g) R:=je h
end
noncomputable def bq (left:Bool) (lt:Nat->Nat->Bool) (p:Array Nat) (k base i:Nat):Bool:=if left=true then lt (p.getD (base+i) 0) k else !(lt k (p.getD (base+i) 0))
section
variable {n:Nat} {lt:Nat->Nat->Bool} {p P:Array Nat} {Ff:Array (Nat × Nat × Nat)} {g:Nat}
theorem kc {left:Bool} {k base i:Nat} {R:(Ev->Option Bool)->(Ev->SortSt)->Prop} (h0:0<n) (hk:k<n) (hp:aV n p) (hb:base+i<p.size) (h:R (fun _=>some (bq left lt p k base i)) (av P Ff g)) :
  aJ n lt (fun e=>elem' (aR e p) (base+i) >>= fun x=>if left=true then lt' x (dj e k) else lt' (dj e k) x >>= fun r=>pure (r.map (!·))) (av P Ff g) R:=by
 refine aw (ck (p:=p) hb (bd (fun z=>ka (hp.at h0 _) hk ?_) (fun z=>aw (ka hk (hp.at h0 _) (aG ?_)))))
 ·rw [bq,if_pos z] at h;exact h
 ·rw [bq,if_neg z] at h;exact h
theorem jh {left:Bool} {k base m hint:Nat} {R:(Ev->Option Nat)->(Ev->SortSt)->Prop} (h0:0<n) (hk:k<n) (hp:aV n p) (hh:hint<m) (hb:base+m<=p.size)
  (hm:∀ i j,i<=j->j<m->bq left lt p k base j=true->bq left lt p k base i=true)
  (h:∀ r,r<=m->(∀ i,i<r->bq left lt p k base i=true)->(∀ i,r<=i->i<m->bq left lt p k base i=false)->R (fun _=>some r) (av P Ff g)) :
  aJ n lt (fun e=>Ba left (dj e k) (aR e p) base m hint) (av P Ff g) R:=by
 have hm':∀ i j,i<=j->j<m->bq left lt p k base i=false->bq left lt p k base j=false:=fun i j Hj hj z=>by
  cases e:bq left lt p k base j with
  | false=>rfl
  | true=>rw [hm i j Hj hj e] at z;cases z
 refine aw (kc h0 hk hp (by omega) ?_);dsimp only;refine bd (fun z=>?_) (fun z=>?_)
 ·refine aw (aJ.mono (cI (fun i c y=>∃ la of:Nat,c=(fun _=>(none,la,of))/\y=av P Ff g/\la<of/\i+1<=of/\hint+la<m/\bq left lt p k base (hint+la)=true)
   (fun c y=>∃ la of:Nat,c=(fun _=>(none,la,of))/\y=av P Ff g/\la<of/\hint+la<m/\bq left lt p k base (hint+la)=true/\(m-hint<=of∨(hint+of<m/\bq left lt p k base (hint+of)=false))) ?_ ?_ ⟨_,_,rfl,rfl,by omega,by omega,by omega,z⟩) ?_)
  ·rintro i c0 y0 _ _ hh;apply hid2 c0 y0;intro _ γ;obtain ⟨la,of,rfl,rfl,h1,h2,h3,Gv⟩:=hh;refine γ _ _ ?_;dsimp only;refine bd (fun IX=>aG (.inl ⟨_,rfl,_,_,rfl,rfl,h1,h3,Gv,.inl IX⟩)) (fun Fl=>?_);refine aw (kc h0 hk hp (by omega) ?_);dsimp only;exact bd (fun q=>aG (.inl ⟨_,rfl,_,_,rfl,rfl,h1,h3,Gv,.inr ⟨by omega,by simpa using q⟩⟩)) (fun q=>aG (.inr ⟨_,rfl,_,_,rfl,rfl,by omega,by omega,by omega,by simpa using q⟩))
  ·rintro c0 y0 hh;apply hid2 c0 y0;intro _ γ;obtain ⟨la,of,rfl,rfl,h1,h2,h3,Gv⟩:=hh;refine γ _ _ ?_;exact ⟨la,of,rfl,rfl,h1,h3,Gv,.inl (by omega)⟩
  ·rintro c0 y0 hh;apply hid2 c0 y0;intro _ γ;obtain ⟨la,of,rfl,rfl,h1,h3,Gv,Hy⟩:=hh;refine γ _ _ ?_;dsimp only
   refine aw (aJ.mono (cI (fun i c y=>∃ lo hi,c=(fun _=>(none,lo,hi))/\y=av P Ff g/\lo<=hi/\hi<=m/\hi-lo<=m-i/\(∀ i,i<lo->bq left lt p k base i=true)/\(∀ i,hi<=i->i<m->bq left lt p k base i=false))
    (fun c y=>∃ lo hi,c=(fun _=>(none,lo,hi))/\y=av P Ff g/\lo=hi/\hi<=m/\(∀ i,i<lo->bq left lt p k base i=true)/\(∀ i,hi<=i->i<m->bq left lt p k base i=false)) ?_ ?_ ⟨_,_,rfl,rfl,by omega,by omega,by omega,?_,?_⟩) ?_)
   ·rintro i c0 y0 _ _ hh;apply hid2 c0 y0;intro _ γ;obtain ⟨lo,hi,rfl,rfl,h1,h2,h3,hA,hB⟩:=hh;refine γ _ _ ?_;dsimp only;refine bd (fun IX=>aG (.inl ⟨_,rfl,_,_,rfl,rfl,by omega,h2,hA,hB⟩)) (fun Fl=>?_);refine aw (kc h0 hk hp (by omega) ?_);dsimp only;refine bd (fun q=>aG (.inr ⟨_,rfl,_,_,rfl,rfl,by omega,h2,by omega,fun i hi=>hm i _ (by omega) (by omega) q,hB⟩)) (fun q=>aG (.inr ⟨_,rfl,_,_,rfl,rfl,by omega,by omega,by omega,hA,fun i h1 h2=>hm' _ i h1 h2 (by simpa using q)⟩))
   ·rintro c0 y0 hh;apply hid2 c0 y0;intro _ γ;obtain ⟨lo,hi,rfl,rfl,h1,h2,h3,hA,hB⟩:=hh;refine γ _ _ ?_;exact ⟨lo,hi,rfl,rfl,by omega,h2,hA,hB⟩
   ·exact fun i hi=>hm i _ (by omega) h3 Gv
   ·intro i h4 h5
    rcases Hy with Hy | ⟨Hy,hex2⟩
    ·omega
    ·exact hm' _ i (by omega) h5 hex2
   ·rintro c0 y0 hh;apply hid2 c0 y0;intro _ γ;obtain ⟨lo,hi,rfl,rfl,rfl,h2,hA,hB⟩:=hh;refine γ _ _ ?_;exact aG (h _ h2 hA hB)
 ·refine aw (aJ.mono (cI (fun i c y=>∃ la of:Nat,c=(fun _=>(none,la,of))/\y=av P Ff g/\la<of/\i+1<=of/\la<=hint/\bq left lt p k base (hint-la)=false)
   (fun c y=>∃ la of:Nat,c=(fun _=>(none,la,of))/\y=av P Ff g/\la<of/\la<=hint/\bq left lt p k base (hint-la)=false/\(hint+1<=of∨(of<=hint/\bq left lt p k base (hint-of)=true))) ?_ ?_ ⟨_,_,rfl,rfl,by omega,by omega,by omega,by simpa using z⟩) ?_)
  ·rintro i c0 y0 _ _ hh;apply hid2 c0 y0;intro _ γ;obtain ⟨la,of,rfl,rfl,h1,h2,h3,Gv⟩:=hh;refine γ _ _ ?_;dsimp only;refine bd (fun IX=>aG (.inl ⟨_,rfl,_,_,rfl,rfl,h1,h3,Gv,.inl IX⟩)) (fun Fl=>?_);refine aw (kc h0 hk hp (by omega) ?_);dsimp only;exact bd (fun q=>aG (.inl ⟨_,rfl,_,_,rfl,rfl,h1,h3,Gv,.inr ⟨by omega,q⟩⟩)) (fun q=>aG (.inr ⟨_,rfl,_,_,rfl,rfl,by omega,by omega,by omega,by simpa using q⟩))
  ·rintro c0 y0 hh;apply hid2 c0 y0;intro _ γ;obtain ⟨la,of,rfl,rfl,h1,h2,h3,Gv⟩:=hh;refine γ _ _ ?_;exact ⟨la,of,rfl,rfl,h1,h3,Gv,.inl (by omega)⟩
  ·rintro c0 y0 hh;apply hid2 c0 y0;intro _ γ;obtain ⟨la,of,rfl,rfl,h1,h3,Gv,Hy⟩:=hh;refine γ _ _ ?_;dsimp only
   refine aw (aJ.mono (cI (fun i c y=>∃ lo hi,c=(fun _=>(none,lo,hi))/\y=av P Ff g/\lo<=hi/\hi<=m/\hi-lo<=m-i/\(∀ i,i<lo->bq left lt p k base i=true)/\(∀ i,hi<=i->i<m->bq left lt p k base i=false))
    (fun c y=>∃ lo hi,c=(fun _=>(none,lo,hi))/\y=av P Ff g/\lo=hi/\hi<=m/\(∀ i,i<lo->bq left lt p k base i=true)/\(∀ i,hi<=i->i<m->bq left lt p k base i=false)) ?_ ?_ ⟨_,_,rfl,rfl,by omega,by omega,by omega,?_,?_⟩) ?_)
   ·rintro i c0 y0 _ _ hh;apply hid2 c0 y0;intro _ γ;obtain ⟨lo,hi,rfl,rfl,h1,h2,h3,hA,hB⟩:=hh;refine γ _ _ ?_;dsimp only;refine bd (fun IX=>aG (.inl ⟨_,rfl,_,_,rfl,rfl,by omega,h2,hA,hB⟩)) (fun Fl=>?_);refine aw (kc h0 hk hp (by omega) ?_);dsimp only;refine bd (fun q=>aG (.inr ⟨_,rfl,_,_,rfl,rfl,by omega,h2,by omega,fun i hi=>hm i _ (by omega) (by omega) q,hB⟩)) (fun q=>aG (.inr ⟨_,rfl,_,_,rfl,rfl,by omega,by omega,by omega,hA,fun i h1 h2=>hm' _ i h1 h2 (by simpa using q)⟩))
   ·rintro c0 y0 hh;apply hid2 c0 y0;intro _ γ;obtain ⟨lo,hi,rfl,rfl,h1,h2,h3,hA,hB⟩:=hh;refine γ _ _ ?_;exact ⟨lo,hi,rfl,rfl,by omega,h2,hA,hB⟩
   ·intro i h4
    rcases Hy with Hy | ⟨Hy,hex2⟩
    ·omega
    ·exact hm i _ (by omega) (by omega) hex2
   ·exact fun i h4 h5=>hm' _ i h4 h5 Gv
   ·rintro c0 y0 hh;apply hid2 c0 y0;intro _ γ;obtain ⟨lo,hi,rfl,rfl,rfl,h2,hA,hB⟩:=hh;refine γ _ _ ?_;exact aG (h _ h2 hA hB)
end
def cJ (lt:Nat->Nat->Bool) (l:List Nat):Prop:=l.Pairwise fun a b=>lt b a=false
structure d8 (lt:Nat->Nat->Bool):Prop where
 as:∀ a b,lt a b=true->lt b a=false
 tr:∀ a b c,lt b a=false->lt c b=false->lt c a=false
structure MM (lt:Nat->Nat->Bool) (A o a b:List Nat):Prop where
 pm:(o++(a++b)).Perm A
 so:cJ lt o
 sa:cJ lt a
 sb:cJ lt b
 le:∀ x∈o,∀ y∈a++b,lt y x=false
structure MF (lt:Nat->Nat->Bool) (A o:List Nat):Prop where
 pm:o.Perm A
 so:cJ lt o
section
variable {lt:Nat->Nat->Bool} {A o a b t:List Nat}
theorem fz:cJ lt (a++b)↔cJ lt a/\cJ lt b/\∀ x∈a,∀ y∈b,lt y x=false:=List.pairwise_append
theorem MM.takeA (h:MM lt A o (t++a) b) (hb:∀ x∈t,∀ y∈b,lt y x=false):MM lt A (o++t) a b:=by
 obtain ⟨p,s1,s2,s3,l⟩:=h;obtain ⟨q1,q2,q3⟩:=fz.mp s2;refine ⟨by simpa [QQ] using p,fz.mpr ⟨s1,q1,fun x hx y hy=>l x hx y (by simp [hy])⟩,q2,s3,fun x hx y hy=>?_⟩;rcases QK hx with hx | hx
 ·exact l x hx y (by rcases QK hy with z | z<;>simp [z])
 ·rcases QK hy with z | z
  ·exact q3 x hx y z
  ·exact hb x hx y z
theorem MM.takeB (h:MM lt A o a (t++b)) (ha:∀ x∈t,∀ y∈a,lt y x=false):MM lt A (o++t) a b:=by
 obtain ⟨p,s1,s2,s3,l⟩:=h;obtain ⟨q1,q2,q3⟩:=fz.mp s3;refine ⟨?_,fz.mpr ⟨s1,q1,fun x hx y hy=>l x hx y (by simp [hy])⟩,s2,q2,fun x hx y hy=>?_⟩
 ·refine List.Perm.trans ?_ p;rw [QQ];refine List.Perm.append_left o ?_;rw [<- QQ,<- QQ];exact List.Perm.append_right b List.perm_append_comm
 rcases QK hx with hx | hx
 ·exact l x hx y (by rcases QK hy with z | z<;>simp [z])
 ·rcases QK hy with z | z
  ·exact ha x hx y z
  ·exact q3 x hx y z
theorem MM.endA (h:MM lt A o a []):MF lt A (o++a):=by obtain ⟨p,s1,s2,s3,l⟩:=h;exact ⟨by simpa using p,fz.mpr ⟨s1,s2,fun x hx y hy=>l x hx y (by simpa using hy)⟩⟩
theorem MM.endB (h:MM lt A o [] b):MF lt A (o++b):=by obtain ⟨p,s1,s2,s3,l⟩:=h;exact ⟨by simpa using p,fz.mpr ⟨s1,s3,fun x hx y hy=>l x hx y (by simpa using hy)⟩⟩
theorem MM.endBA (h:MM lt A o a b) (hb:∀ x∈b,∀ y∈a,lt y x=false):MF lt A (o++(b++a)):=by obtain ⟨p,s1,s2,s3,l⟩:=h;refine ⟨List.Perm.trans (List.Perm.append_left o List.perm_append_comm) p,fz.mpr ⟨s1,fz.mpr ⟨s3,s2,hb⟩,fun x hx y hy=>l x hx y ?_⟩⟩;rcases QK hy with z | z<;>simp [z]
end
theorem tN {p:Array Nat} {i:Nat} (h:i<p.size):p.toList.drop i=p.getD i 0::p.toList.drop (i+1):=by
 have e1:p.getD i 0=p[i]:=by simp [Array.getD,h]
 rw [e1,List.drop_eq_getElem_cons (by simpa using h)];simp
theorem lN {p:Array Nat} {i k:Nat} (h:i+k<=p.size):p.toList.drop i=(p.extract i (i+k)).toList++p.toList.drop (i+k):=by rw [Array.toList_extract];simp only [List.extract];rw [show i+k-i=k by omega,<- List.drop_drop];exact (List.take_append_drop k _).symm
theorem ji {p:Array Nat} {i:Nat}:(p.extract i p.size).toList=p.toList.drop i:=by rw [Array.toList_extract];simp only [List.extract];rw [Qo (by simp)]
theorem lO {p:Array Nat} {i:Nat} {y:Nat} (h:y∈p.toList.drop i):∃ j,i<=j/\j<p.size/\y=p.getD j 0:=by obtain ⟨j,hj,e⟩:=List.mem_iff_getElem.mp h;rw [List.length_drop,Qv] at hj;refine ⟨i+j,by lia,by lia,?_⟩;rw [List.getElem_drop] at e;rw [<- e];simp [Array.getD,show i+j<p.size by lia]
theorem ke {p:Array Nat} {i k:Nat} {y:Nat} (h:y∈(p.extract i (i+k)).toList):∃ j,j<k/\i+j<p.size/\y=p.getD (i+j) 0:=by obtain ⟨j,hj,e⟩:=List.mem_iff_getElem.mp h;simp at hj;refine ⟨j,by omega,by omega,?_⟩;rw [<- e];simp [Array.getD,show i+j<p.size by omega]
theorem ii {lt:Nat->Nat->Bool} {p:Array Nat} (h:cJ lt p.toList) {i j:Nat} (Hj:i<j) (hj:j<p.size):lt (p.getD j 0) (p.getD i 0)=false:=by have:=List.pairwise_iff_getElem.mp h i j (by simpa using Nat.lt_trans Hj hj) (by simpa using hj) Hj;simpa [Array.getD,hj,Nat.lt_trans Hj hj] using this
structure bA (n:Nat) (lt:Nat->Nat->Bool) (pa pb po:Array Nat) (ia ib:Nat):Prop where
 en:aV n po
 mm:MM lt (pa.toList++pb.toList) po.toList (pa.toList.drop ia) (pb.toList.drop ib)
structure GF (n:Nat) (lt:Nat->Nat->Bool) (A:List Nat) (po:Array Nat):Prop where
 en:aV n po
 mf:MF lt A po.toList
section
variable {n:Nat} {lt:Nat->Nat->Bool} {pa pb po:Array Nat} {ia ib k:Nat}
theorem bA.pushB (h0:0<n) (hb:aV n pb) (h:bA n lt pa pb po ia ib) (hi:ib<pb.size) (q:∀ y∈pa.toList.drop ia,lt y (pb.getD ib 0)=false):bA n lt pa pb (po.push (pb.getD ib 0)) ia (ib+1):=by obtain ⟨e,m⟩:=h;rw [tN hi] at m;refine ⟨e.push (hb.at h0 _),?_⟩;rw [Array.toList_push];exact MM.takeB (t:=[pb.getD ib 0]) m fun x hx y hy=>by rw [QL hx];exact q y hy
theorem bA.pushA (h0:0<n) (ha:aV n pa) (h:bA n lt pa pb po ia ib) (hi:ia<pa.size) (q:∀ y∈pb.toList.drop ib,lt y (pa.getD ia 0)=false):bA n lt pa pb (po.push (pa.getD ia 0)) (ia+1) ib:=by obtain ⟨e,m⟩:=h;rw [tN hi] at m;refine ⟨e.push (ha.at h0 _),?_⟩;rw [Array.toList_push];exact MM.takeA (t:=[pa.getD ia 0]) m fun x hx y hy=>by rw [QL hx];exact q y hy
theorem bA.extB (hb:aV n pb) (h:bA n lt pa pb po ia ib) (hi:ib+k<=pb.size) (q:∀ j,j<k->∀ y∈pa.toList.drop ia,lt y (pb.getD (ib+j) 0)=false):bA n lt pa pb (po++pb.extract ib (ib+k)) ia (ib+k):=by obtain ⟨e,m⟩:=h;rw [lN hi] at m;refine ⟨e.app (hb.ext _ _),?_⟩;rw [QH];refine MM.takeB m fun x hx y hy=>?_;obtain ⟨j,h1,h2,rfl⟩:=ke hx;exact q j h1 y hy
theorem bA.extA (ha:aV n pa) (h:bA n lt pa pb po ia ib) (hi:ia+k<=pa.size) (q:∀ j,j<k->∀ y∈pb.toList.drop ib,lt y (pa.getD (ia+j) 0)=false):bA n lt pa pb (po++pa.extract ia (ia+k)) (ia+k) ib:=by obtain ⟨e,m⟩:=h;rw [lN hi] at m;refine ⟨e.app (ha.ext _ _),?_⟩;rw [QH];refine MM.takeA m fun x hx y hy=>?_;obtain ⟨j,h1,h2,rfl⟩:=ke hx;exact q j h1 y hy
theorem tO {p:Array Nat} {i:Nat} (h:p.size<=i):p.toList.drop i=[]:=List.drop_eq_nil_of_le (by simpa using h)
theorem bA.finB (ha:aV n pa) (hb:aV n pb) (h:bA n lt pa pb po ia ib) (e:pb.size<=ib):GF n lt (pa.toList++pb.toList) (po++pa.extract ia pa.size++pb.extract ib pb.size):=by obtain ⟨en,m⟩:=h;refine ⟨(en.app (ha.ext _ _)).app (hb.ext _ _),?_⟩;rw [QH,QH,ji,ji];rw [tO e] at m ⊢;rw [QO];exact m.endA
theorem bA.finA (ha:aV n pa) (hb:aV n pb) (h:bA n lt pa pb po ia ib) (e:pa.size<=ia):GF n lt (pa.toList++pb.toList) (po++pa.extract ia pa.size++pb.extract ib pb.size):=by obtain ⟨en,m⟩:=h;refine ⟨(en.app (ha.ext _ _)).app (hb.ext _ _),?_⟩;rw [QH,QH,ji,ji];rw [tO e] at m ⊢;rw [QO];exact m.endB
theorem bA.finL (ha:aV n pa) (hb:aV n pb) (hl:∀ y∈pb.toList,lt (pa.getD (pa.size-1) 0) y=false) (h:bA n lt pa pb po ia ib) (e:ia+1=pa.size):GF n lt (pa.toList++pb.toList) (po++pb.extract ib pb.size++pa.extract ia pa.size):=by obtain ⟨en,m⟩:=h;refine ⟨(en.app (hb.ext _ _)).app (ha.ext _ _),?_⟩;rw [QH,QH,ji,ji,QQ];refine m.endBA fun x hx y hy=>?_;obtain ⟨j,h1,h2,rfl⟩:=lO hy;rw [show j=pa.size-1 by lia];exact hl x (List.mem_of_mem_drop hx)
theorem jj (O:d8 lt) (sa:cJ lt pa.toList) {x:Nat} (h:lt (pa.getD ia 0) x=false):∀ y∈pa.toList.drop ia,lt y x=false:=fun y hy=>by
 obtain ⟨j,h1,h2,rfl⟩:=lO hy;by_cases e:j=ia
 ·subst e;exact h
 ·exact O.tr _ _ _ h (ii sa (by lia) h2)
end
section
variable {n:Nat} {lt:Nat->Nat->Bool} {α:Type} {x:Ev->SortSt}
theorem tP {c:Prop} {i0:Ev->Decidable c} {q:Ev->StateT SortSt Sem α} {R:(Ev->α)->(Ev->SortSt)->Prop} {X d:Array Nat->Nat->Ev->StateT SortSt Sem α} {c1:Nat->Prop} {i1:∀ v,Ev->Decidable (c1 v)}
  (po:Array Nat) (ia:Nat) (e:q=X po ia) (C J:Array Nat->Nat->Prop) (c0:¬c->C po ia) (h:∀ po ia,C po ia->aJ n lt (X po ia) x R) (hd:∀ po ia,J po ia->c1 ia->aJ n lt (d po ia) x R) (hx:∀ po ia,J po ia->¬c1 ia->C po ia) :
  ∀ Gb Gu,J Gb Gu->aJ n lt (fun e=>@ite _ c (i0 e) (@ite _ (c1 Gu) (i1 Gu e) (d Gb Gu e) (X Gb Gu e)) (q e)) x R :=
 fun Gb Gu hj=>bd (fun _=>bd (fun z=>hd _ _ hj z) (fun z=>h _ _ (hx _ _ hj z))) (fun z=>e ▸ h _ _ (c0 z))
theorem tQ {c:Prop} {i0:Ev->Decidable c} {q:Ev->StateT SortSt Sem α} {R:(Ev->α)->(Ev->SortSt)->Prop} {X d d2:Array Nat->Nat->Ev->StateT SortSt Sem α} {c1 c2:Nat->Prop} {i1:∀ v,Ev->Decidable (c1 v)} {i2:∀ v,Ev->Decidable (c2 v)}
  (po:Array Nat) (ia:Nat) (e:q=X po ia) (C J:Array Nat->Nat->Prop) (c0:¬c->C po ia) (h:∀ po ia,C po ia->aJ n lt (X po ia) x R) (hd:∀ po ia,J po ia->c1 ia->aJ n lt (d po ia) x R) (IG:∀ po ia,J po ia->c2 ia->aJ n lt (d2 po ia) x R) (hx:∀ po ia,J po ia->¬c1 ia->¬c2 ia->C po ia) :
  ∀ Gb Gu,J Gb Gu->aJ n lt (fun e=>@ite _ c (i0 e) (@ite _ (c1 Gu) (i1 Gu e) (d Gb Gu e) (@ite _ (c2 Gu) (i2 Gu e) (d2 Gb Gu e) (X Gb Gu e))) (q e)) x R :=
 fun Gb Gu hj=>bd (fun _=>bd (fun z=>hd _ _ hj z) (fun z=>bd (fun z2=>IG _ _ hj z2) (fun z2=>h _ _ (hx _ _ hj z z2)))) (fun z=>e ▸ h _ _ (c0 z))
end
section
variable {n:Nat} {lt:Nat->Nat->Bool} {P pa pb:Array Nat} {Ff:Array (Nat × Nat × Nat)} {g:Nat}
theorem Bi {R:(Ev->Array Keyed)->(Ev->SortSt)->Prop} (O:d8 lt) (h0:0<n) (ha:aV n pa) (hb:aV n pb) (ha0:0<pa.size) (hb0:0<pb.size) (sa:cJ lt pa.toList) (sb:cJ lt pb.toList)
  (hf:lt (pb.getD 0 0) (pa.getD 0 0)=true) (hl:∀ y∈pb.toList,lt (pa.getD (pa.size-1) 0) y=false) (h:∀ po g',GF n lt (pa.toList++pb.toList) po->R (fun e=>aR e po) (av P Ff g')) :
  aJ n lt (fun e=>Bb (aR e pa) (aR e pb)) (av P Ff g) R:=by
 have G0:bA n lt pa pb #[pb.getD 0 0] 0 1:=by
  have G:bA n lt pa pb #[] 0 0:=⟨fun x hx=>by simp at hx,by simp,List.Pairwise.nil,by simpa using sa,by simpa using sb,fun x hx=>by simp at hx⟩
  simpa using G.pushB h0 hb hb0 (jj O sa (O.as _ _ hf))
 refine aw (jf ?_);refine aw (ck (p:=pb) hb0 ?_);dsimp only
 try simp only [dm,dH,dI,dA,dJ]
 refine dB (fun z=>aG (h _ _ (G0.finB ha hb (by omega)))) (fun Gv=>dB (fun z=>aG (h _ _ (G0.finL ha hb hl (by omega)))) (fun ha1=>fw ?_));dsimp only
 refine aw (aJ.mono (cI
  (fun i c y=>∃ po ia ib mg g',c=(fun e=>(none,aR e po,ia,ib,mg))/\y=av P Ff g'/\bA n lt pa pb po ia ib/\ia+1<pa.size/\ib<pb.size/\i+1<=ia+ib)
  (fun c y=>∃ po,∃ r:Ev->Array Keyed × Nat × Nat × Nat,∃ g',c=(fun e=>(some (aR e po),r e))/\y=av P Ff g'/\GF n lt (pa.toList++pb.toList) po) ?_ ?_ ⟨_,_,_,_,_,rfl,rfl,G0,by omega,by omega,by omega⟩) ?_)
 ·rintro t c0 y0 _ htt hh;apply hid2 c0 y0;intro _ γ;obtain ⟨po,ia,ib,mg,g',rfl,rfl,Fs,IW,Hk,G5⟩:=hh;refine γ _ _ ?_;dsimp only
  refine aw (aJ.mono (cI
   (fun i c y=>∃ po ia ib ac bc g',c=(fun e=>(none,aR e po,ia,ib,ac,bc))/\y=av P Ff g'/\bA n lt pa pb po ia ib/\ia+1<pa.size/\ib<pb.size/\i+t+1<=ia+ib)
   (fun c y=>(∃ po,∃ r:Ev->Array Keyed × Nat × Nat × Nat × Nat,∃ g',c=(fun e=>(some (aR e po),r e))/\y=av P Ff g'/\GF n lt (pa.toList++pb.toList) po)∨∃ po ia ib ac bc g',c=(fun e=>(none,aR e po,ia,ib,ac,bc))/\y=av P Ff g'/\bA n lt pa pb po ia ib/\ia+1<pa.size/\ib<pb.size/\t+2<=ia+ib) ?_ ?_ ⟨_,_,_,_,_,_,rfl,rfl,Fs,IW,Hk,by omega⟩) ?_)
  ·rintro i c0 y0 _ _ hh;apply hid2 c0 y0;intro _ γ;obtain ⟨po,ia,ib,ac,bc,g',rfl,rfl,Fs,IW,Hk,G5⟩:=hh;refine γ _ _ ?_;dsimp only;refine aw (ck Hk (aw (ck (by omega) (aw (ka (hb.at h0 _) (ha.at h0 _) ?_)))));dsimp only;refine bd (fun zl=>aw (ck Hk ?_)) (fun zl=>aw (ck (by omega) ?_))
   ·have G:=Fs.pushB h0 hb Hk (jj O sa (O.as _ _ zl));dsimp only
    try simp only [dm,dH,dI,dA,dJ]
    exact dB (fun z=>aG (.inl ⟨_,rfl,.inl ⟨_,_,_,rfl,rfl,G.finB ha hb (by omega)⟩⟩)) (fun _=>bd (fun _=>aG (.inl ⟨_,rfl,.inr ⟨_,_,_,_,_,_,rfl,rfl,G,by omega,by omega,by omega⟩⟩)) (fun _=>aG (.inr ⟨_,rfl,⟨_,_,_,_,_,_,rfl,rfl,G,by omega,by omega,by omega⟩⟩)))
   ·have G:=Fs.pushA h0 ha (by omega) (jj O sb (by simpa using zl));dsimp only
    try simp only [dm,dH,dI,dA,dJ]
    exact dB (fun z=>aG (.inl ⟨_,rfl,.inl ⟨_,_,_,rfl,rfl,G.finL ha hb hl (by omega)⟩⟩)) (fun _=>bd (fun _=>aG (.inl ⟨_,rfl,.inr ⟨_,_,_,_,_,_,rfl,rfl,G,by omega,by omega,by omega⟩⟩)) (fun _=>aG (.inr ⟨_,rfl,⟨_,_,_,_,_,_,rfl,rfl,G,by omega,by omega,by omega⟩⟩)))
  ·rintro c0 y0 hh;apply hid2 c0 y0;intro _ γ;obtain ⟨po,ia,ib,ac,bc,g',rfl,rfl,Fs,IW,Hk,G5⟩:=hh;refine γ _ _ ?_;exact .inr ⟨po,ia,ib,ac,bc,g',rfl,rfl,Fs,IW,Hk,by omega⟩
  ·rintro c0 y0 hh;apply hid2 c0 y0;intro _ γ;obtain (⟨po,r,g',rfl,rfl,Fs⟩ | ⟨po,ia,ib,ac,bc,g',rfl,rfl,Fs,IW,Hk,G5⟩):=hh<;>refine γ _ _ ?_
   ·exact aG (.inl ⟨_,rfl,_,_,_,rfl,rfl,Fs⟩)
   refine aw (jf ?_);dsimp only
   refine aw (aJ.mono (cI
    (fun i c y=>∃ po ia ib mg ac bc g',c=(fun e=>(none,aR e po,ia,ib,mg,ac,bc))/\y=av P Ff g'/\bA n lt pa pb po ia ib/\ia+1<pa.size/\ib<pb.size/\t+2<=ia+ib)
    (fun c y=>(∃ po,∃ r:Ev->Array Keyed × Nat × Nat × Nat × Nat × Nat,∃ g',c=(fun e=>(some (aR e po),r e))/\y=av P Ff g'/\GF n lt (pa.toList++pb.toList) po)∨∃ po ia ib mg ac bc g',c=(fun e=>(none,aR e po,ia,ib,mg,ac,bc))/\y=av P Ff g'/\bA n lt pa pb po ia ib/\ia+1<pa.size/\ib<pb.size/\t+2<=ia+ib) ?_ (fun _ _ z=>.inr z) ⟨_,_,_,_,_,_,_,rfl,rfl,Fs,IW,Hk,G5⟩) ?_)
   ·rintro i c0 y0 _ _ hh;apply hid2 c0 y0;intro _ γ;obtain ⟨po,ia,ib,mg,ac,bc,g',rfl,rfl,Fs,IW,Hk,G5⟩:=hh;refine γ _ _ ?_;dsimp only;dsimp +instances only;generalize mg-1=m1;revert m1;refine tJ mg rfl fun mg=>?_;refine aw (lL (aw (ck Hk (aw (jh h0 (hb.at h0 _) ha (by omega) (by omega) ?_ fun k hk hA hB=>?_)))))
    ·intro i j Hj hj;simp only [bq,QM,if_false,Bool.not_eq_true'];intro z;by_cases e:i=j
     ·subst e;exact z
     ·exact O.tr _ _ _ (ii sa (by omega) (by omega)) z
    dsimp +instances only
    try simp only [dm,dH,dI,dA,dJ]
    simp only [bq,QM,if_false,Bool.not_eq_true',Bool.not_eq_false'] at hA hB;have hJ:bA n lt pa pb (po++pa.extract ia (ia+k)) (ia+k) ib/\ia<=ia+k/\ia+k<=pa.size/\(∀ y∈pa.toList.drop (ia+k),lt y (pb.getD ib 0)=false):=by refine ⟨Fs.extA ha (by omega) fun j hj=>jj O sb (hA j hj),by omega,by omega,fun y hy=>?_⟩;refine ci fun _ γ=>?_;obtain ⟨j,h1,h2,rfl⟩:=lO hy;refine γ ?_;have:=hB (j-ia) (by omega) (by omega);rw [show ia+(j-ia)=j by omega] at this;exact O.as _ _ this
    have hK:¬k>0->bA n lt pa pb po ia ib/\ia+1<pa.size/\t+2<=ia+ib/\(∀ y∈pa.toList.drop ia,lt y (pb.getD ib 0)=false):=fun z=>by
     have e:ia+k=ia:=by omega
     exact ⟨Fs,IW,G5,by have:=hJ.2.2.2;rwa [e] at this⟩
    clear hA hB;generalize po++pa.extract ia (ia+k)=Gb at hJ ⊢;generalize ia+k=Gu at hJ ⊢;revert hJ;revert Gu;revert Gb
    refine tQ po ia rfl (fun po ia=>bA n lt pa pb po ia ib/\ia+1<pa.size/\t+2<=ia+ib/\(∀ y∈pa.toList.drop ia,lt y (pb.getD ib 0)=false)) (fun Gb Gu=>bA n lt pa pb Gb Gu ib/\ia<=Gu/\Gu<=pa.size/\(∀ y∈pa.toList.drop Gu,lt y (pb.getD ib 0)=false)) hK ?_
     (fun po ia hj z=>aG (.inl ⟨_,rfl,.inl ⟨_,_,_,rfl,rfl,hj.1.finL ha hb hl (by simpa using z)⟩⟩)) (fun po ia hj z=>aG (.inl ⟨_,rfl,.inl ⟨_,_,_,rfl,rfl,hj.1.finA ha hb (by simp only [beq_iff_eq] at z;omega)⟩⟩)) (fun po ia hj z1 z2=>by simp only [beq_iff_eq] at z1 z2;exact ⟨hj.1,by omega,by omega,hj.2.2.2⟩)
    rintro po ia hh;refine ci fun _ γ=>?_;obtain ⟨Fs,IW,G5,hq⟩:=hh;refine γ ?_;refine aw (ck Hk ?_);have G:=Fs.pushB h0 hb Hk hq;dsimp +instances only
    try simp only [dm,dH,dI,dA,dJ]
    refine dB (fun z=>aG (.inl ⟨_,rfl,.inl ⟨_,_,_,rfl,rfl,G.finB ha hb (by omega)⟩⟩)) fun Fy=>aw (ck (by omega) (aw (jh h0 (ha.at h0 _) hb (by omega) (by omega) ?_ fun k' IV hA hB=>?_)))
    ·intro i j Hj hj;simp only [bq,if_true];intro z;by_cases e:i=j
     ·subst e;exact z
     ·have h1:=ii sb (i:=ib+1+i) (j:=ib+1+j) (by omega) (by omega)
      cases e2:lt (pb.getD (ib+1+i) 0) (pa.getD ia 0) with
      | true=>rfl
      | false=>rw [O.tr _ _ _ e2 h1] at z;cases z
    dsimp +instances only
    try simp only [dm,dH,dI,dA,dJ]
    simp only [bq,if_true] at hA hB
    have G1:ib+1<pb.size/\t+3<=ia+(ib+1):=⟨by omega,by omega⟩
    generalize po.push (pb.getD ib 0)=po at G ⊢;clear hq Fs;generalize ib+1=ib at G1 IV hA hB G ⊢;have hJ:bA n lt pa pb (po++pb.extract ib (ib+k')) ia (ib+k')/\ib<=ib+k'/\ib+k'<=pb.size/\(∀ y∈pb.toList.drop (ib+k'),lt y (pa.getD ia 0)=false):=by refine ⟨G.extB hb (by omega) fun j hj=>jj O sa (O.as _ _ (hA j hj)),by omega,by omega,fun y hy=>?_⟩;refine ci fun _ γ=>?_;obtain ⟨j,h1,h2,rfl⟩:=lO hy;refine γ ?_;have:=hB (j-ib) (by omega) (by omega);rwa [show ib+(j-ib)=j by omega] at this
    have hK:¬k'>0->bA n lt pa pb po ia ib/\ib<pb.size/\t+2<=ia+ib/\(∀ y∈pb.toList.drop ib,lt y (pa.getD ia 0)=false):=fun z=>by
     have e:ib+k'=ib:=by omega
     exact ⟨G,G1.1,by omega,by have:=hJ.2.2.2;rwa [e] at this⟩
    clear hA hB;generalize po++pb.extract ib (ib+k')=Gb at hJ ⊢;generalize ib+k'=ib1 at hJ ⊢;revert hJ;revert ib1;revert Gb
    refine tP po ib rfl (fun po ib=>bA n lt pa pb po ia ib/\ib<pb.size/\t+2<=ia+ib/\(∀ y∈pb.toList.drop ib,lt y (pa.getD ia 0)=false)) (fun Gb ib1=>bA n lt pa pb Gb ia ib1/\ib<=ib1/\ib1<=pb.size/\(∀ y∈pb.toList.drop ib1,lt y (pa.getD ia 0)=false)) hK ?_
     (fun po ib hj z=>aG (.inl ⟨_,rfl,.inl ⟨_,_,_,rfl,rfl,hj.1.finB ha hb (by simp only [beq_iff_eq] at z;omega)⟩⟩)) (fun po ib hj z1=>by simp only [beq_iff_eq] at z1;exact ⟨hj.1,by omega,by omega,hj.2.2.2⟩)
    rintro po ib hh;refine ci fun _ γ=>?_;obtain ⟨Fs,Hk,G5,hq⟩:=hh;refine γ ?_;refine aw (ck (by omega) ?_);have G:=Fs.pushA h0 ha (by omega) hq;dsimp +instances only
    try simp only [dm,dH,dI,dA,dJ]
    exact dB (fun z=>aG (.inl ⟨_,rfl,.inl ⟨_,_,_,rfl,rfl,G.finL ha hb hl (by omega)⟩⟩)) fun _=>bd (fun _=>aG (.inl ⟨_,rfl,.inr ⟨_,_,_,_,_,_,_,rfl,rfl,G,by omega,by omega,by omega⟩⟩)) (fun _=>aG (.inr ⟨_,rfl,⟨_,_,_,_,_,_,_,rfl,rfl,G,by omega,by omega,by omega⟩⟩))
   ·rintro c0 y0 hh;apply hid2 c0 y0;intro _ γ;obtain (⟨po,r,g',rfl,rfl,Fs⟩ | ⟨po,ia,ib,mg,ac,bc,g',rfl,rfl,Fs,IW,Hk,G5⟩):=hh<;>refine γ _ _ ?_
    ·exact aG (.inl ⟨_,rfl,_,_,_,rfl,rfl,Fs⟩)
    dsimp only;exact aw (lL (aG (.inr ⟨_,rfl,_,_,_,_,_,rfl,rfl,Fs,IW,Hk,by omega⟩)))
 ·rintro c0 y0 hh;apply hid2 c0 y0;intro _ γ;obtain ⟨po,ia,ib,mg,g',rfl,rfl,Fs,IW,Hk,G5⟩:=hh;refine γ _ _ ?_;exfalso;omega
 ·rintro c0 y0 hh;apply hid2 c0 y0;intro _ γ;obtain ⟨po,r,g',rfl,rfl,Fs⟩:=hh;refine γ _ _ ?_;exact aG (h _ _ Fs)
end
noncomputable def kg (lt:Nat->Nat->Bool):Nat->Nat->Bool:=fun a b=>lt b a
section
variable {lt:Nat->Nat->Bool} {A o a b t:List Nat}
theorem MM.endAB (h:MM lt A o a b) (hb:∀ x∈a,∀ y∈b,lt y x=false):MF lt A (o++(a++b)):=by obtain ⟨p,s1,s2,s3,l⟩:=h;exact ⟨p,fz.mpr ⟨s1,fz.mpr ⟨s2,s3,hb⟩,l⟩⟩
theorem tR {l:List Nat} (h:cJ lt l):cJ (kg lt) l.reverse:=List.pairwise_reverse.mpr h
theorem MF.rev (h:MF (kg lt) A o):MF lt A o.reverse:=⟨(List.reverse_perm o).trans h.pm,List.pairwise_reverse.mpr h.so⟩
end
theorem lP {p:Array Nat} {i:Nat} (h0:0<i) (h:i<=p.size):(p.toList.take i).reverse=p.getD (i-1) 0::(p.toList.take (i-1)).reverse:=by
 obtain ⟨j,rfl⟩:∃ j,i=j+1:=⟨i-1,by lia⟩
 have hj:j<p.size:=by lia
 have e1:p.getD j 0=p[j]:=by simp [Array.getD,hj]
 rw [show j+1-1=j by lia,e1,Qi (by simpa using hj),List.reverse_append];simp
theorem tS {p:Array Nat} {i j:Nat} (h:i<=j) (hj:j<=p.size):(p.toList.take j).reverse=((p.extract i j).reverse).toList++(p.toList.take i).reverse:=by
 rw [Array.toList_reverse,Array.toList_extract,<- List.reverse_append];simp only [List.extract];congr 1
 obtain ⟨k,rfl⟩:∃ k,j=i+k:=⟨j-i,by omega⟩
 rw [show i+k-i=k by omega,List.take_add]
theorem jk {p:Array Nat} {i:Nat}:(p.extract 0 i).toList=p.toList.take i:=by rw [Array.toList_extract];simp [List.extract]
theorem kh {p:Array Nat} {i y:Nat} (h:y∈(p.toList.take i).reverse):∃ j,j<i/\j<p.size/\y=p.getD j 0:=by obtain ⟨j,hj,e⟩:=List.mem_iff_getElem.mp (List.mem_reverse.mp h);rw [QJ,Qv] at hj;refine ⟨j,by lia,by lia,?_⟩;rw [List.getElem_take] at e;rw [<- e];simp [Array.getD,show j<p.size by lia]
theorem tT {p:Array Nat} {i j y:Nat} (h:y∈((p.extract i j).reverse).toList):∃ k,i<=k/\k<j/\k<p.size/\y=p.getD k 0:=by rw [Array.toList_reverse] at h;obtain ⟨k,hk,e⟩:=List.mem_iff_getElem.mp (List.mem_reverse.mp h);simp at hk;refine ⟨i+k,by lia,by lia,by lia,?_⟩;rw [<- e];simp [Array.getD,show i+k<p.size by lia]
structure bB (n:Nat) (lt:Nat->Nat->Bool) (pa pb po:Array Nat) (na nb:Nat):Prop where
 en:aV n po
 mm:MM (kg lt) (pa.toList++pb.toList) po.toList (pa.toList.take na).reverse (pb.toList.take nb).reverse
section
variable {n:Nat} {lt:Nat->Nat->Bool} {pa pb po:Array Nat} {na nb k:Nat}
theorem bB.pushB (h0:0<n) (hb:aV n pb) (h:bB n lt pa pb po na nb) (hi:0<nb) (hj:nb<=pb.size) (q:∀ y∈(pa.toList.take na).reverse,lt (pb.getD (nb-1) 0) y=false):bB n lt pa pb (po.push (pb.getD (nb-1) 0)) na (nb-1):=by obtain ⟨e,m⟩:=h;rw [lP hi hj] at m;refine ⟨e.push (hb.at h0 _),?_⟩;rw [Array.toList_push];exact MM.takeB (t:=[pb.getD (nb-1) 0]) m fun x hx y hy=>by rw [QL hx];exact q y hy
theorem bB.pushA (h0:0<n) (ha:aV n pa) (h:bB n lt pa pb po na nb) (hi:0<na) (hj:na<=pa.size) (q:∀ y∈(pb.toList.take nb).reverse,lt (pa.getD (na-1) 0) y=false):bB n lt pa pb (po.push (pa.getD (na-1) 0)) (na-1) nb:=by obtain ⟨e,m⟩:=h;rw [lP hi hj] at m;refine ⟨e.push (ha.at h0 _),?_⟩;rw [Array.toList_push];exact MM.takeA (t:=[pa.getD (na-1) 0]) m fun x hx y hy=>by rw [QL hx];exact q y hy
theorem bB.extB (hb:aV n pb) (h:bB n lt pa pb po na nb) (hi:k<=nb) (hj:nb<=pb.size) (q:∀ j,k<=j->j<nb->∀ y∈(pa.toList.take na).reverse,lt (pb.getD j 0) y=false):bB n lt pa pb (po++(pb.extract k nb).reverse) na k:=by obtain ⟨e,m⟩:=h;rw [tS hi hj] at m;refine ⟨e.app (hb.ext _ _).reverse,?_⟩;rw [QH];refine MM.takeB m fun x hx y hy=>?_;obtain ⟨j,h1,h2,_,rfl⟩:=tT hx;exact q j h1 h2 y hy
theorem bB.extA (ha:aV n pa) (h:bB n lt pa pb po na nb) (hi:k<=na) (hj:na<=pa.size) (q:∀ j,k<=j->j<na->∀ y∈(pb.toList.take nb).reverse,lt (pa.getD j 0) y=false):bB n lt pa pb (po++(pa.extract k na).reverse) k nb:=by obtain ⟨e,m⟩:=h;rw [tS hi hj] at m;refine ⟨e.app (ha.ext _ _).reverse,?_⟩;rw [QH];refine MM.takeA m fun x hx y hy=>?_;obtain ⟨j,h1,h2,_,rfl⟩:=tT hx;exact q j h1 h2 y hy
theorem bB.finA (ha:aV n pa) (hb:aV n pb) (h:bB n lt pa pb po na nb) (e:na=0):GF n lt (pa.toList++pb.toList) (pa.extract 0 na++pb.extract 0 nb++po.reverse):=by
 subst e;obtain ⟨en,m⟩:=h;refine ⟨((ha.ext _ _).app (hb.ext _ _)).app en.reverse,?_⟩;rw [QH,QH,jk,jk,Array.toList_reverse];have m':MM (kg lt) (pa.toList++pb.toList) po.toList [] (pb.toList.take nb).reverse:=by simpa using m
 have q:=m'.endB.rev;rw [List.reverse_append,List.reverse_reverse] at q;simpa using q
theorem bB.finB (ha:aV n pa) (hb:aV n pb) (h:bB n lt pa pb po na nb) (e:nb=0):GF n lt (pa.toList++pb.toList) (pa.extract 0 na++pb.extract 0 nb++po.reverse):=by
 subst e;obtain ⟨en,m⟩:=h;refine ⟨((ha.ext _ _).app (hb.ext _ _)).app en.reverse,?_⟩;rw [QH,QH,jk,jk,Array.toList_reverse];have m':MM (kg lt) (pa.toList++pb.toList) po.toList (pa.toList.take na).reverse []:=by simpa using m
 have q:=m'.endA.rev;rw [List.reverse_append,List.reverse_reverse] at q;simpa using q
theorem bB.finL (ha:aV n pa) (hb:aV n pb) (hl:∀ y∈pa.toList,lt y (pb.getD 0 0)=false) (h:bB n lt pa pb po na nb) (e:nb=1):GF n lt (pa.toList++pb.toList) (pb.extract 0 nb++pa.extract 0 na++po.reverse):=by
 subst e;obtain ⟨en,m⟩:=h;refine ⟨((hb.ext _ _).app (ha.ext _ _)).app en.reverse,?_⟩;rw [QH,QH,jk,jk,Array.toList_reverse]
 have:=(m.endAB fun x hx y hy=>by
  obtain ⟨j,h1,h2,rfl⟩:=kh hy;rw [show j=0 by lia]
  exact hl x (List.mem_of_mem_take (List.mem_reverse.mp hx))).rev
 simpa using this
theorem lQ (O:d8 lt) (sa:cJ lt pa.toList) {x:Nat} (hn:na<=pa.size) (h:lt x (pa.getD (na-1) 0)=false):∀ y∈(pa.toList.take na).reverse,lt x y=false:=fun y hy=>by
 obtain ⟨j,h1,h2,rfl⟩:=kh hy;by_cases e:j=na-1
 ·subst e;exact h
 ·exact O.tr _ _ _ (ii sa (i:=j) (j:=na-1) (by lia) (by lia)) h
end
section
variable {n:Nat} {lt:Nat->Nat->Bool} {P pa pb:Array Nat} {Ff:Array (Nat × Nat × Nat)} {g:Nat}
theorem Bj {R:(Ev->Array Keyed)->(Ev->SortSt)->Prop} (O:d8 lt) (h0:0<n) (ha:aV n pa) (hb:aV n pb) (ha0:0<pa.size) (hb0:0<pb.size) (sa:cJ lt pa.toList) (sb:cJ lt pb.toList)
  (hf:lt (pb.getD 0 0) (pa.getD 0 0)=true) (hl:∀ y∈pb.toList,lt (pa.getD (pa.size-1) 0) y=false) (h:∀ po g',GF n lt (pa.toList++pb.toList) po->R (fun e=>aR e po) (av P Ff g')) :
  aJ n lt (fun e=>Bc (aR e pa) (aR e pb)) (av P Ff g) R:=by
 have Jn:∀ y∈pa.toList,lt y (pb.getD 0 0)=false:=by simpa using jj O sa (ia:=0) (O.as _ _ hf)
 have G0:bB n lt pa pb #[pa.getD (pa.size-1) 0] (pa.size-1) pb.size:=by
  have G:bB n lt pa pb #[] pa.size pb.size:=by
   refine ⟨fun x hx=>by simp at hx,?_,List.Pairwise.nil,?_,?_,fun x hx=>by simp at hx⟩
   ·rw [Qo (by simp),Qo (by simp)];simp only [List.nil_append];exact (List.reverse_perm _).append (List.reverse_perm _)
   ·rw [Qo (by simp)];exact tR sa
   ·rw [Qo (by simp)];exact tR sb
  simpa using G.pushA h0 ha ha0 (Qc _) fun y hy=>by refine ci fun _ γ=>?_;obtain ⟨j,h1,h2,rfl⟩:=kh hy;refine γ ?_;exact hl _ (by simp [Array.getD,h2])
 refine aw (jf ?_);dsimp only;simp only [dm];refine aw (ck (p:=pa) (by omega) ?_);dsimp only
 try simp only [dm,dH,dI,dA,dJ,ig]
 refine dB (fun z=>aG (h _ _ (G0.finA ha hb (by omega)))) (fun ha1=>dB (fun z=>aG (h _ _ (G0.finL ha hb Jn (by omega)))) (fun Gv=>fw ?_));dsimp only
 refine aw (aJ.mono (cI
  (fun i c y=>∃ na nb po mg g',c=(fun e=>(none,na,nb,aR e po,mg))/\y=av P Ff g'/\bB n lt pa pb po na nb/\0<na/\na<=pa.size/\1<nb/\nb<=pb.size/\na+nb+i+1<=pa.size+pb.size)
  (fun c y=>∃ po,∃ r:Ev->Nat × Nat × Array Keyed × Nat,∃ g',c=(fun e=>(some (aR e po),r e))/\y=av P Ff g'/\GF n lt (pa.toList++pb.toList) po) ?_ ?_ ⟨_,_,_,_,_,rfl,rfl,G0,by omega,by omega,by omega,by omega,by omega⟩) ?_)
 ·rintro t c0 y0 _ htt hh;apply hid2 c0 y0;intro _ γ;obtain ⟨na,nb,po,mg,g',rfl,rfl,Fs,FH,Hx,Fy,HZ,G5⟩:=hh;refine γ _ _ ?_;dsimp only
  refine aw (aJ.mono (cI
   (fun i c y=>∃ na nb po ac bc g',c=(fun e=>(none,na,nb,aR e po,ac,bc))/\y=av P Ff g'/\bB n lt pa pb po na nb/\0<na/\na<=pa.size/\1<nb/\nb<=pb.size/\na+nb+t+i+1<=pa.size+pb.size)
   (fun c y=>(∃ po,∃ r:Ev->Nat × Nat × Array Keyed × Nat × Nat,∃ g',c=(fun e=>(some (aR e po),r e))/\y=av P Ff g'/\GF n lt (pa.toList++pb.toList) po)∨∃ na nb po ac bc g',c=(fun e=>(none,na,nb,aR e po,ac,bc))/\y=av P Ff g'/\bB n lt pa pb po na nb/\0<na/\na<=pa.size/\1<nb/\nb<=pb.size/\na+nb+t+2<=pa.size+pb.size) ?_ ?_ ⟨_,_,_,_,_,_,rfl,rfl,Fs,FH,Hx,Fy,HZ,by omega⟩) ?_)
  ·rintro i c0 y0 _ _ hh;apply hid2 c0 y0;intro _ γ;obtain ⟨na,nb,po,ac,bc,g',rfl,rfl,Fs,FH,Hx,Fy,HZ,G5⟩:=hh;refine γ _ _ ?_;dsimp only;refine aw (ck (by omega) (aw (ck (by omega) (aw (ka (hb.at h0 _) (ha.at h0 _) ?_)))));dsimp only;refine bd (fun zl=>aw (ck (by omega) ?_)) (fun zl=>aw (ck (by omega) ?_))
   ·have G:=Fs.pushA h0 ha FH Hx (lQ O sb HZ (O.as _ _ zl));dsimp only
    try simp only [dm,dH,dI,dA,dJ,ig]
    exact dB (fun z=>aG (.inl ⟨_,rfl,.inl ⟨_,_,_,rfl,rfl,G.finA ha hb (by omega)⟩⟩)) (fun _=>bd (fun _=>aG (.inl ⟨_,rfl,.inr ⟨_,_,_,_,_,_,rfl,rfl,G,by omega,by omega,by omega,by omega,by omega⟩⟩)) (fun _=>aG (.inr ⟨_,rfl,⟨_,_,_,_,_,_,rfl,rfl,G,by omega,by omega,by omega,by omega,by omega⟩⟩)))
   ·have G:=Fs.pushB h0 hb (by omega) HZ (lQ O sa Hx (by simpa using zl));dsimp only
    try simp only [dm,dH,dI,dA,dJ,ig]
    exact dB (fun z=>aG (.inl ⟨_,rfl,.inl ⟨_,_,_,rfl,rfl,G.finL ha hb Jn (by omega)⟩⟩)) (fun _=>bd (fun _=>aG (.inl ⟨_,rfl,.inr ⟨_,_,_,_,_,_,rfl,rfl,G,by omega,by omega,by omega,by omega,by omega⟩⟩)) (fun _=>aG (.inr ⟨_,rfl,⟨_,_,_,_,_,_,rfl,rfl,G,by omega,by omega,by omega,by omega,by omega⟩⟩)))
  ·rintro c0 y0 hh;apply hid2 c0 y0;intro _ γ;obtain ⟨na,nb,po,ac,bc,g',rfl,rfl,Fs,FH,Hx,Fy,HZ,G5⟩:=hh;refine γ _ _ ?_;exact .inr ⟨na,nb,po,ac,bc,g',rfl,rfl,Fs,FH,Hx,Fy,HZ,by omega⟩
  ·rintro c0 y0 hh;apply hid2 c0 y0;intro _ γ;obtain (⟨po,r,g',rfl,rfl,Fs⟩ | ⟨na,nb,po,ac,bc,g',rfl,rfl,Fs,FH,Hx,Fy,HZ,G5⟩):=hh<;>refine γ _ _ ?_
   ·exact aG (.inl ⟨_,rfl,_,_,_,rfl,rfl,Fs⟩)
   refine aw (jf ?_);dsimp only
   refine aw (aJ.mono (cI
    (fun i c y=>∃ na nb po mg ac bc g',c=(fun e=>(none,na,nb,aR e po,mg,ac,bc))/\y=av P Ff g'/\bB n lt pa pb po na nb/\0<na/\na<=pa.size/\1<nb/\nb<=pb.size/\na+nb+t+2<=pa.size+pb.size)
    (fun c y=>(∃ po,∃ r:Ev->Nat × Nat × Array Keyed × Nat × Nat × Nat,∃ g',c=(fun e=>(some (aR e po),r e))/\y=av P Ff g'/\GF n lt (pa.toList++pb.toList) po)∨∃ na nb po mg ac bc g',c=(fun e=>(none,na,nb,aR e po,mg,ac,bc))/\y=av P Ff g'/\bB n lt pa pb po na nb/\0<na/\na<=pa.size/\1<nb/\nb<=pb.size/\na+nb+t+2<=pa.size+pb.size) ?_ (fun _ _ z=>.inr z) ⟨_,_,_,_,_,_,_,rfl,rfl,Fs,FH,Hx,Fy,HZ,G5⟩) ?_)
   ·rintro i c0 y0 _ _ hh;apply hid2 c0 y0;intro _ γ;obtain ⟨na,nb,po,mg,ac,bc,g',rfl,rfl,Fs,FH,Hx,Fy,HZ,G5⟩:=hh;refine γ _ _ ?_;dsimp only;dsimp +instances only;generalize mg-1=m1;revert m1;refine tJ mg rfl fun mg=>?_;refine aw (lL (aw (ck (by omega) (aw (jh h0 (hb.at h0 _) ha (by omega) (by omega) ?_ fun Ir hk hA hB=>?_)))))
    ·intro i j Hj hj;simp only [bq,QM,if_false,Bool.not_eq_true',Nat.zero_add];intro z;by_cases e:i=j
     ·subst e;exact z
     ·exact O.tr _ _ _ (ii sa (by omega) (by omega)) z
    dsimp +instances only
    try simp only [dm,dH,dI,dA,dJ,ig]
    simp only [bq,QM,if_false,Bool.not_eq_true',Bool.not_eq_false',Nat.zero_add] at hA hB;generalize F9:na-Ir=k;have hJ:bB n lt pa pb (po++(pa.extract Ir na).reverse) Ir nb/\Ir<=na/\na-Ir=k/\(∀ y∈(pa.toList.take Ir).reverse,lt (pb.getD (nb-1) 0) y=false):=by refine ⟨Fs.extA ha hk Hx fun j h1 h2=>lQ O sb HZ (O.as _ _ (hB j h1 h2)),hk,F9,fun y hy=>?_⟩;refine ci fun _ γ=>?_;obtain ⟨j,h1,h2,rfl⟩:=kh hy;refine γ ?_;exact hA j h1
    have hK:¬k>0->bB n lt pa pb po na nb/\0<na/\na<=pa.size/\na+nb+t+2<=pa.size+pb.size/\(∀ y∈(pa.toList.take na).reverse,lt (pb.getD (nb-1) 0) y=false):=fun z=>by
     have e:Ir=na:=by omega
     exact ⟨Fs,FH,Hx,G5,by have:=hJ.2.2.2;rwa [e] at this⟩
    clear hA hB hk F9;generalize po++(pa.extract Ir na).reverse=Gb at hJ ⊢;revert hJ;revert Ir;revert Gb
    refine tP po na rfl (fun po na=>bB n lt pa pb po na nb/\0<na/\na<=pa.size/\na+nb+t+2<=pa.size+pb.size/\(∀ y∈(pa.toList.take na).reverse,lt (pb.getD (nb-1) 0) y=false)) (fun Gb Ir=>bB n lt pa pb Gb Ir nb/\Ir<=na/\na-Ir=k/\(∀ y∈(pa.toList.take Ir).reverse,lt (pb.getD (nb-1) 0) y=false)) hK ?_
     (fun po na hj z=>aG (.inl ⟨_,rfl,.inl ⟨_,_,_,rfl,rfl,hj.1.finA ha hb (by simpa using z)⟩⟩)) (fun po na hj z1=>by simp only [beq_iff_eq] at z1;exact ⟨hj.1,by omega,by omega,by omega,hj.2.2.2⟩)
    rintro po na hh;refine ci fun _ γ=>?_;obtain ⟨Fs,FH,Hx,G5,hq⟩:=hh;refine γ ?_;refine aw (ck (by omega) ?_);have G:=Fs.pushB h0 hb (by omega) HZ hq;dsimp +instances only
    try simp only [dm,dH,dI,dA,dJ,ig]
    refine dB (fun z=>aG (.inl ⟨_,rfl,.inl ⟨_,_,_,rfl,rfl,G.finL ha hb Jn (by omega)⟩⟩)) fun hnb1=>aw (ck (by omega) (aw (jh h0 (ha.at h0 _) hb (by omega) (by omega) ?_ fun Iq IV hA hB=>?_)))
    ·intro i j Hj hj;simp only [bq,if_true,Nat.zero_add];intro z;by_cases e:i=j
     ·subst e;exact z
     ·have h1:=ii sb (i:=i) (j:=j) (by omega) (by omega)
      cases e2:lt (pb.getD i 0) (pa.getD (na-1) 0) with
      | true=>rfl
      | false=>rw [O.tr _ _ _ e2 h1] at z;cases z
    dsimp +instances only
    try simp only [dm,dH,dI,dA,dJ,ig]
    simp only [bq,if_true,Nat.zero_add] at hA hB;generalize po.push (pb.getD (nb-1) 0)=po at G ⊢;clear hq Fs
    have G1:1<nb-1/\nb-1<=pb.size/\na+(nb-1)+t+2<=pa.size+pb.size:=⟨by omega,by omega,by omega⟩
    generalize nb-1=nb at G1 IV hA hB G ⊢;generalize F9:nb-Iq=k2;have hJ:bB n lt pa pb (po++(pb.extract Iq nb).reverse) na Iq/\Iq<=nb/\nb-Iq=k2/\(∀ y∈(pb.toList.take Iq).reverse,lt (pa.getD (na-1) 0) y=false):=by refine ⟨G.extB hb IV G1.2.1 fun j h1 h2=>lQ O sa Hx (hB j h1 h2),IV,F9,fun y hy=>?_⟩;refine ci fun _ γ=>?_;obtain ⟨j,h1,h2,rfl⟩:=kh hy;refine γ ?_;exact O.as _ _ (hA j h1)
    have hK:¬k2>0->bB n lt pa pb po na nb/\1<nb/\nb<=pb.size/\na+nb+t+2<=pa.size+pb.size/\(∀ y∈(pb.toList.take nb).reverse,lt (pa.getD (na-1) 0) y=false):=fun z=>by
     have e:Iq=nb:=by omega
     exact ⟨G,G1.1,G1.2.1,G1.2.2,by have:=hJ.2.2.2;rwa [e] at this⟩
    clear hA hB IV F9;generalize po++(pb.extract Iq nb).reverse=Gb at hJ ⊢;revert hJ;revert Iq;revert Gb
    refine tQ po nb rfl (fun po nb=>bB n lt pa pb po na nb/\1<nb/\nb<=pb.size/\na+nb+t+2<=pa.size+pb.size/\(∀ y∈(pb.toList.take nb).reverse,lt (pa.getD (na-1) 0) y=false)) (fun Gb Iq=>bB n lt pa pb Gb na Iq/\Iq<=nb/\nb-Iq=k2/\(∀ y∈(pb.toList.take Iq).reverse,lt (pa.getD (na-1) 0) y=false)) hK ?_
     (fun po nb hj z=>aG (.inl ⟨_,rfl,.inl ⟨_,_,_,rfl,rfl,hj.1.finL ha hb Jn (by simpa using z)⟩⟩)) (fun po nb hj z=>aG (.inl ⟨_,rfl,.inl ⟨_,_,_,rfl,rfl,hj.1.finB ha hb (by simpa using z)⟩⟩)) (fun po nb hj z1 z2=>by simp only [beq_iff_eq] at z1 z2;exact ⟨hj.1,by omega,by omega,by omega,hj.2.2.2⟩)
    rintro po nb hh;refine ci fun _ γ=>?_;obtain ⟨Fs,Fy,HZ,G5,hq⟩:=hh;refine γ ?_;refine aw (ck (by omega) ?_);have G:=Fs.pushA h0 ha FH Hx hq;dsimp +instances only
    try simp only [dm,dH,dI,dA,dJ,ig]
    exact dB (fun z=>aG (.inl ⟨_,rfl,.inl ⟨_,_,_,rfl,rfl,G.finA ha hb (by omega)⟩⟩)) fun _=>bd (fun _=>aG (.inl ⟨_,rfl,.inr ⟨_,_,_,_,_,_,_,rfl,rfl,G,by omega,by omega,by omega,by omega,by omega⟩⟩)) (fun _=>aG (.inr ⟨_,rfl,⟨_,_,_,_,_,_,_,rfl,rfl,G,by omega,by omega,by omega,by omega,by omega⟩⟩))
   ·rintro c0 y0 hh;apply hid2 c0 y0;intro _ γ;obtain (⟨po,r,g',rfl,rfl,Fs⟩ | ⟨na,nb,po,mg,ac,bc,g',rfl,rfl,Fs,FH,Hx,Fy,HZ,G5⟩):=hh<;>refine γ _ _ ?_
    ·exact aG (.inl ⟨_,rfl,_,_,_,rfl,rfl,Fs⟩)
    dsimp only;exact aw (lL (aG (.inr ⟨_,rfl,_,_,_,_,_,rfl,rfl,Fs,FH,Hx,Fy,HZ,by omega⟩)))
 ·rintro c0 y0 hh;apply hid2 c0 y0;intro _ γ;obtain ⟨na,nb,po,mg,g',rfl,rfl,Fs,FH,Hx,Fy,HZ,G5⟩:=hh;refine γ _ _ ?_;exfalso;omega
 ·rintro c0 y0 hh;apply hid2 c0 y0;intro _ γ;obtain ⟨po,r,g',rfl,rfl,Fs⟩:=hh;refine γ _ _ ?_;exact aG (h _ _ Fs)
end
def Sg (lt:Nat->Nat->Bool) (p:Array Nat) (i j:Nat):Prop:=∀ a b,i<=a->a<b->b<j->lt (p.getD b 0) (p.getD a 0)=false
def Dg (lt:Nat->Nat->Bool) (p:Array Nat) (i j:Nat):Prop:=∀ a b,i<=a->a<b->b<j->lt (p.getD a 0) (p.getD b 0)=false
structure Kp (p p':Array Nat) (lo hi:Nat):Prop where
 sz:p'.size=p.size
 pm:p'.Perm p
 out:∀ k,k<lo∨hi<=k->p'.getD k 0=p.getD k 0
theorem getD_at {p q:Array Nat} {i j:Nat} (h:p[i]?=q[j]?):p.getD i 0=q.getD j 0:=by rw [Array.getD_eq_getD_getElem?,Array.getD_eq_getD_getElem?,h]
theorem eO {p:Array Nat} {i j:Nat} (hj:j<=p.size) (k:Nat):(kas_rev p i j).getD k 0=if i<=k/\k<j then p.getD (i+j-1-k) 0 else p.getD k 0:=by
 have e:=getElem?_mirror_all (xs:=p) (i:=i) hj k;unfold kas_rev;split at e<;>rename_i h
 ·rw [if_pos h];exact getD_at e
 ·rw [if_neg h];exact getD_at e
theorem oH {p:Array Nat} {s l:Nat} (hs:s<p.size) (hl:l<=s) (k:Nat):(bubble p s (s-l)).getD k 0=if k=l then p.getD s 0 else if l<k/\k<=s then p.getD (k-1) 0 else p.getD k 0:=by
 have e:=getElem?_bubble hs (s-l) (by (exact Nat.sub_le _ _)) k;rw [show s-(s-l)=l by (clear hs;omega)] at e;split at e<;>rename_i h
 ·rw [if_pos h];exact getD_at e
 ·rw [if_neg h];split at e<;>rename_i h2
  ·rw [if_pos h2];exact getD_at e
  ·rw [if_neg h2];exact getD_at e
section
variable {n:Nat} {lt:Nat->Nat->Bool} {p p' p'':Array Nat} {lo hi i j k:Nat}
theorem Kp.refl:Kp p p lo hi:=⟨rfl,Array.Perm.refl _,fun _ _=>rfl⟩
theorem Kp.trans (h:Kp p p' lo hi) (h':Kp p' p'' lo hi):Kp p p'' lo hi:=⟨h'.sz.trans h.sz,h'.pm.trans h.pm,fun k hk=>(h'.out k hk).trans (h.out k hk)⟩
theorem Kp.ent (h:Kp p p' lo hi) (e:aV n p):aV n p':=fun x hx=>e x ((Array.perm_iff_toList_perm.mp h.pm).mem_iff.mp hx)
theorem Kp.rev (h1:lo<=i) (h2:j<=hi) (hj:j<=p.size):Kp p (kas_rev p i j) lo hi:=⟨Be _ _ _,mirror_perm _ _ _ _,fun k hk=>by rw [eO hj,if_neg (by (clear hj;omega))]⟩
theorem Kp.bub (h1:lo<=i) (h2:j<hi) (Hj:i<=j) (hj:j<p.size):Kp p (bubble p j (j-i)) lo hi:=⟨bubble_size _ _ _,bubble_perm _ _ _,fun k hk=>by rw [oH hj Hj,if_neg (by lia),if_neg (by (clear hj Hj;lia))]⟩
theorem Sg.out (h:Sg lt p i j) (q:Kp p p' lo hi) (d:j<=lo∨hi<=i):Sg lt p' i j:=fun a b h1 h2 h3=>by rw [q.out a (by lia),q.out b (by lia)];exact h a b h1 h2 h3
theorem Sg.snoc (O:d8 lt) (h:Sg lt p i j) (e:i<j->lt (p.getD j 0) (p.getD (j-1) 0)=false):Sg lt p i (j+1):=fun a b h1 h2 h3=>by
 by_cases hb:b<j
 ·exact h a b h1 h2 hb
 ·obtain rfl:b=j:=by (clear h2 h1 e;lia)
  by_cases ha:a=b-1
  ·subst ha;exact e (by (exact QD (by assumption) (by assumption)))
  ·exact O.tr _ _ _ (h a (b-1) h1 (by (clear hb h3 e h1;lia)) (by (clear ha hb h3 e h1;lia))) (e (by (exact QD (by assumption) (by assumption))))
theorem Dg.snoc (O:d8 lt) (h:Dg lt p i j) (e:i<j->lt (p.getD (j-1) 0) (p.getD j 0)=false):Dg lt p i (j+1):=fun a b h1 h2 h3=>by
 by_cases hb:b<j
 ·exact h a b h1 h2 hb
 ·obtain rfl:b=j:=by lia
  by_cases ha:a=b-1
  ·subst ha;exact e (by lia)
  ·exact O.tr _ _ _ (e (by (exact QD (by assumption) (by assumption)))) (h a (b-1) h1 (by lia) (by lia))
theorem Sg.one:Sg lt p i (i+1):=fun a b h1 h2 h3=>by omega
theorem Dg.one:Dg lt p i (i+1):=fun a b h1 h2 h3=>by omega
theorem Sg.rev (h:Sg lt p i j) (hj:j<=p.size):Dg lt (kas_rev p i j) i j:=fun a b h1 h2 h3=>by
 rw [eO hj,eO hj,if_pos (by (clear hj;lia)),if_pos (by (clear hj;lia))];exact h _ _ (by (clear h2 h1 hj;lia)) (by (clear h1 hj;lia)) (by (clear h2 hj;lia))
theorem Dg.rev (h:Dg lt p i j) (hj:j<=p.size):Sg lt (kas_rev p i j) i j:=fun a b h1 h2 h3=>by rw [eO hj,eO hj,if_pos (by lia),if_pos (by lia)];exact h _ _ (by lia) (by lia) (by lia)
theorem Dg.tail (h:Dg lt p i j) (t:Sg lt p k j) (hk:i<=k) (hj:j<=p.size):Dg lt (kas_rev p k j) i j:=fun a b h1 h2 h3=>by
 rw [eO hj,eO hj];by_cases ha:k<=a
 ·rw [if_pos (by (clear h1 hj hk;omega)),if_pos (by (clear h1 hj hk;omega))];exact t _ _ (by (clear ha h2 h1 hj hk;omega)) (by (clear ha h1 hj hk;omega)) (by (clear h2 h1 hj hk;omega))
 ·rw [if_neg (by (clear h3 h2 h1 hj hk;omega))];by_cases hb:k<=b
  ·rw [if_pos (by (solve_by_elim (maxDepth:=4) only [*,QG,QP,Nat.succ_le_of_lt,Qc]))];exact h _ _ h1 (by (clear hb h2 h1 hj hk;omega)) (by (clear ha h2 h1 hj hk;omega))
  ·rw [if_neg (by (clear ha h3 h2 h1 hj hk;omega))];exact h _ _ h1 h2 h3
end
section
variable {n:Nat} {lt:Nat->Nat->Bool} {p:Array Nat} {Ff:Array (Nat × Nat × Nat)} {g:Nat}
theorem oI {α:Type} {c:Prop} {inst:Ev->Decidable c} {q r:Ev->StateT SortSt Sem α} {R:(Ev->α)->(Ev->SortSt)->Prop} (C:Array Nat->Prop) (c0:¬c->C p) (h:∀ p',C p'->aJ n lt q (av p' Ff g) R) (h1:c->(∀ p',C p'->aJ n lt q (av p' Ff g) R)->aJ n lt r (av p Ff g) R):aJ n lt (fun e=>@ite _ c (inst e) (r e) (q e)) (av p Ff g) R :=
 bd (fun z=>h1 z h) (fun z=>h p (c0 z))
theorem Bk {lo m:Nat} {R:(Ev->Option Nat)->(Ev->SortSt)->Prop} (O:d8 lt) (h0:0<n) (hp:aV n p) (hm:0<m) (Fh:lo+m<=p.size) (h:∀ p' k,Kp p p' lo (lo+m)->0<k->k<=m->Sg lt p' lo (lo+k)->(Sg lt p lo (lo+m)->p'=p/\k=m)->R (fun _=>some k) (av p' Ff g)) :
  aJ n lt (fun _=>countRun' lo m) (av p Ff g) R:=by
 refine aw (aJ.mono (cI (fun i c y=>∃ k,c=(fun _=>(none,k))/\y=av p Ff g/\0<k/\k=i/\Sg lt p lo (lo+k)) (fun c y=>∃ k,c=(fun _=>(none,k))/\y=av p Ff g/\0<k/\k<=m/\Sg lt p lo (lo+k)/\(k<m->lt (p.getD (lo+k) 0) (p.getD (lo+k-1) 0)=true)) ?_ ?_ ⟨_,rfl,rfl,by (exact Nat.lt_succ_self _),by (rfl),Sg.one⟩) ?_)
 ·rintro i c0 y0 _ _ hh;apply hid2 c0 y0;intro _ γ;obtain ⟨k,rfl,rfl,h1,h2,hS⟩:=hh;refine γ _ _ ?_;refine aw (jg h0 hp (by dsimp only;(clear h1 h hm h0;lia)) (by dsimp only;(clear h1 h hm h0;lia)) ?_);dsimp only;exact bd (fun z=>aG (.inl ⟨_,rfl,_,rfl,rfl,h1,by (clear h1 h Fh hm h0;lia),hS,fun _=>z⟩)) (fun z=>aG (.inr ⟨_,rfl,_,rfl,rfl,by (exact Nat.lt_succ_of_lt (by assumption)),by (clear z h1 h Fh hm h0;lia),hS.snoc O fun _=>by simpa using z⟩))
 ·rintro c0 y0 hh;apply hid2 c0 y0;intro _ γ;obtain ⟨k,rfl,rfl,h1,h2,hS⟩:=hh;refine γ _ _ ?_;exact ⟨k,rfl,rfl,h1,by (clear h1 h Fh h0;lia),hS,fun z=>by lia⟩
 rintro c0 y0 hh;apply hid2 c0 y0;intro _ γ;obtain ⟨k,rfl,rfl,h1,h2,hS,hx⟩:=hh;refine γ _ _ ?_;dsimp only;refine dB (fun e=>aG (h _ _ Kp.refl h1 h2 hS fun _=>⟨rfl,e⟩)) fun Fq=>?_;have hx:=hx (by (clear hx h1 h Fh hm h0;lia));have no:¬Sg lt p lo (lo+m):=fun q=>by have:=q (lo+k-1) (lo+k) (by (clear Fq h2 h Fh hm h0;lia)) (by (clear Fq h2 h Fh hm h0;lia)) (by (clear h1 h Fh hm h0;lia));rw [hx] at this;cases this
 refine oI (fun p'=>Kp p p' lo (lo+m)/\Dg lt p' lo (lo+k+1)) (fun hk=>⟨Kp.refl,?_⟩) ?_ (fun hk key=>aw (jg h0 hp (by (clear key hk no Fq h2 h1 h h0;lia)) (by (clear key hk no Fq h1 h h0;lia)) ?_))
 ·obtain rfl:k=1:=by (clear no Fq h2 h Fh hm h0;lia)
  exact Dg.one.snoc O fun _=>O.as _ _ hx
 rotate_left
 ·dsimp only;refine bd (fun _=>aG (h _ _ Kp.refl h1 h2 hS fun q=>absurd q no)) (fun z=>aw (lK (key _ ⟨Kp.rev (Qc _) (by (clear z key hk no Fq h1 h Fh hm h0;lia)) (by (clear z key hk no Fq h1 h hm h0;lia)),?_⟩)));refine (hS.rev (by lia)).snoc O fun _=>?_;rw [eO (by lia),eO (by lia),if_pos (by (clear z key hk no Fq h2 h1 h Fh hm h0;lia)),if_neg (by (simp;done)),show lo+(lo+k)-1-(lo+k-1)=lo by (clear z key hk no Fq h2 h1 h Fh hm h0;lia)];exact O.tr _ _ _ (O.as _ _ hx) (by simpa using z)
 rintro p1 ⟨Fo,Ft⟩;refine aw (jf ?_)
 refine aw (aJ.mono (cI (fun i c y=>∃ p' j q,c=(fun _=>(none,j,q))/\y=av p' Ff g/\Kp p p' lo (lo+m)/\j=i/\q+1<=j/\Dg lt p' lo (lo+j)/\Sg lt p' (lo+j-(q+1)) (lo+j))
  (fun c y=>∃ p' j q,c=(fun _=>(none,j,q))/\y=av p' Ff g/\Kp p p' lo (lo+m)/\j<=m/\q+1<=j/\Dg lt p' lo (lo+j)/\Sg lt p' (lo+j-(q+1)) (lo+j)) ?_ ?_ ⟨_,_,_,rfl,rfl,Fo,by (rfl),by (exact Nat.lt_succ_of_lt (by assumption)),Ft,fun a b h1 h2 h3=>by (clear no Fq h Fh hm h0;lia)⟩) ?_)
 ·rintro i c0 y0 _ _ hh;apply hid2 c0 y0;intro _ γ;obtain ⟨p2,j,q,rfl,rfl,Fi,h3,h4,hD,hS⟩:=hh;refine γ _ _ ?_;have Hu:=Fi.ent hp;have FD:=Fi.sz;dsimp only;refine aw (jg h0 Hu (by (clear h4 no Fq h2 h1 h hm h0;lia)) (by (clear h4 no Fq h2 h1 h hm h0;lia)) ?_);dsimp only;refine bd (fun z=>oI (fun p'=>Kp p p' lo (lo+m)/\Dg lt p' lo (lo+j+1)) (fun _=>⟨Fi,hD.snoc O fun _=>O.as _ _ z⟩) (fun p' HV=>aG (.inr ⟨_,rfl,_,_,_,rfl,rfl,HV.1,by (clear HV FD h4 no Fq h2 h1 h Fh hm h0;lia),by (exact Nat.le_add_left _ _),HV.2,fun a b h1 h2 h3=>by (clear HV FD h4 no Fq h Fh hm h0;lia)⟩)) (fun _ key=>aw (lK (key _ ⟨Fi.trans (Kp.rev (by (clear key FD h3 no Fq h2 h1 h Fh hm h0;lia)) (by (clear key FD h4 no Fq h2 h1 h Fh hm h0;lia)) (by (clear key h4 no Fq h2 h1 h hm h0;lia))),?_⟩)))) (fun z=>?_)
  ·refine (hD.tail hS (by lia) (by lia)).snoc O fun _=>?_;rw [eO (by lia),eO (by lia),if_pos (by (clear key FD h4 h3 no Fq h2 h1 h Fh hm h0;lia)),if_neg (by (simp;done)),show lo+j-(q+1)+(lo+j)-1-(lo+j-1)=lo+j-(q+1) by (clear key FD h4 h3 no Fq h2 h1 h Fh hm h0;lia)];by_cases hq:q=0
   ·subst hq;exact O.as _ _ z
   ·exact O.tr _ _ _ (O.as _ _ z) (hD _ _ (by lia) (by (clear hq key FD h4 no Fq h2 h Fh hm h0;lia)) (by (clear hq key FD h4 h3 no Fq h2 h1 h Fh hm h0;lia)))
  refine aw (jg h0 Hu (by lia) (by lia) ?_);dsimp only
  exact bd (fun _=>aG (.inl ⟨_,rfl,_,_,_,rfl,rfl,Fi,by (clear z FD h4 no Fq h2 h1 h Fh hm h0;lia),h4,hD,hS⟩)) (fun z2=>aG (.inr ⟨_,rfl,_,_,_,rfl,rfl,Fi,by lia,by (exact Nat.lt_succ_of_le (by assumption)),hD.snoc O fun _=>by simpa using z2,by
   rw [show lo+(j+1)-(q+1+1)=lo+j-(q+1) by lia]
   exact hS.snoc O fun _=>by simpa using z⟩))
 ·rintro c0 y0 hh;apply hid2 c0 y0;intro _ γ;obtain ⟨p2,j,q,rfl,rfl,Fi,h3,h4,hD,hS⟩:=hh;refine γ _ _ ?_;exact ⟨p2,j,q,rfl,rfl,Fi,by (clear h4 no h1 h Fh hm h0;lia),h4,hD,hS⟩
 rintro c0 y0 hh;apply hid2 c0 y0;intro _ γ;obtain ⟨p2,j,q,rfl,rfl,Fi,h3,h4,hD,hS⟩:=hh;refine γ _ _ ?_;have FD:=Fi.sz;dsimp only;refine oI (fun p'=>Kp p p' lo (lo+m)/\Dg lt p' lo (lo+j)) (fun _=>⟨Fi,hD⟩) ?_ (fun _ key=>aw (lK (key _ ⟨Fi.trans (Kp.rev (by (clear key FD h3 no Fq h2 h1 h Fh hm h0;lia)) (by (clear key FD h4 no Fq h2 h1 h Fh hm h0;lia)) (by (clear key h4 no Fq h2 h1 h hm h0;lia))),hD.tail hS (by lia) (by lia)⟩)));rintro p3 ⟨Fg,Fz⟩;have HY:=Fg.sz;refine aw (lK ?_);have Fn:Kp p (kas_rev p3 lo (lo+j)) lo (lo+m):=Fg.trans (Kp.rev (Qc _) (by (clear HY FD h4 no Fq h2 h1 h Fh hm h0;lia)) (by (clear FD h4 no Fq h2 h1 h hm h0;lia)));have hS4:=Fz.rev (by lia);generalize kas_rev p3 lo (lo+j)=p4 at Fn hS4 ⊢;have hs4:=Fn.sz;have IC:=Fn.ent hp;refine aw (aJ.mono (cI (fun i c y=>∃ k,c=(fun _=>(none,k))/\y=av p4 Ff g/\0<k/\k=i/\Sg lt p4 lo (lo+k)) (fun c y=>∃ k,c=(fun _=>(none,k))/\y=av p4 Ff g/\0<k/\k<=m/\Sg lt p4 lo (lo+k)) ?_ ?_ ⟨_,rfl,rfl,by (clear hs4 HY FD h3 no Fq h2 h1 h Fh hm h0;lia),by (rfl),hS4⟩) ?_)
 ·rintro i c0 y0 _ _ hh;apply hid2 c0 y0;intro _ γ;obtain ⟨k,rfl,rfl,h1,h2,hS⟩:=hh;refine γ _ _ ?_;refine aw (jg h0 IC (by dsimp only;(clear h1 HY FD h4 h3 no Fq h hm h0;lia)) (by dsimp only;(clear h1 HY FD h4 h3 no Fq h hm h0;lia)) ?_);dsimp only;exact bd (fun _=>aG (.inl ⟨_,rfl,_,rfl,rfl,h1,by (clear h1 hs4 HY FD h4 h3 no Fq h Fh hm h0;lia),hS⟩)) (fun z=>aG (.inr ⟨_,rfl,_,rfl,rfl,by (exact Nat.lt_succ_of_lt (by assumption)),by (clear z h1 hs4 HY FD h4 h3 no Fq h Fh hm h0;lia),hS.snoc O fun _=>by simpa using z⟩))
 ·rintro c0 y0 hh;apply hid2 c0 y0;intro _ γ;obtain ⟨k,rfl,rfl,h1,h2,hS⟩:=hh;refine γ _ _ ?_;exact ⟨k,rfl,rfl,h1,by (clear h1 hs4 HY FD h4 no Fq h Fh hm h0;lia),hS⟩
 rintro c0 y0 hh;apply hid2 c0 y0;intro _ γ;obtain ⟨k,rfl,rfl,h1,h2,hS⟩:=hh;refine γ _ _ ?_;exact aG (h _ _ Fn h1 h2 hS fun q=>absurd q no)
theorem Bl {lo m ok:Nat} {R:(Ev->Bool)->(Ev->SortSt)->Prop} (O:d8 lt) (h0:0<n) (hp:aV n p) (Fh:lo+m<=p.size) (hok:0<ok) (hm:ok<=m) (I0:Sg lt p lo (lo+ok)) (h:∀ p',Kp p p' lo (lo+m)->Sg lt p' lo (lo+m)->(ok=m->p'=p)->R (fun _=>true) (av p' Ff g)) :
  aJ n lt (fun _=>binarySort' lo m ok) (av p Ff g) R:=by
 refine aw (aJ.mono (cI (fun i c y=>∃ p',c=(fun _=>(none,()))/\y=av p' Ff g/\Kp p p' lo (lo+m)/\Sg lt p' lo (lo+i)/\(i<=ok->p'=p)) (fun c y=>∃ p',c=(fun _=>(none,()))/\y=av p' Ff g/\Kp p p' lo (lo+m)/\Sg lt p' lo (lo+m)/\(ok=m->p'=p)) ?_ ?_ ⟨_,rfl,rfl,Kp.refl,by rw [show max ok 1=ok by (clear h hm Fh h0;omega)];exact I0,fun _=>rfl⟩) ?_)
 ·rintro i c0 y0 FO hi hh;apply hid2 c0 y0;intro _ γ;obtain ⟨p1,rfl,rfl,Fo,IK,_⟩:=hh;refine γ _ _ ?_;have Hv:=Fo.ent hp;have Fv:=Fo.sz;dsimp only
  refine aw (aJ.mono (cI (fun t c y=>∃ l r,c=(fun _=>(none,l,r))/\y=av p1 Ff g/\l<=r/\r<=i/\r-l<=i-t/\(∀ a,a<l->lt (p1.getD (lo+i) 0) (p1.getD (lo+a) 0)=false)/\(∀ a,r<=a->a<i->lt (p1.getD (lo+i) 0) (p1.getD (lo+a) 0)=true))
   (fun c y=>∃ l r:Nat,c=(fun _=>(none,l,r))/\y=av p1 Ff g/\l<=i/\(∀ a,a<l->lt (p1.getD (lo+i) 0) (p1.getD (lo+a) 0)=false)/\(∀ a,l<=a->a<i->lt (p1.getD (lo+i) 0) (p1.getD (lo+a) 0)=true)) ?_ ?_ ⟨_,_,rfl,rfl,Qr _,Qc _,by (exact Nat.sub_le _ _),fun a h=>by (contradiction),fun a h1 h2=>by (clear Fv hi FO h hm hok Fh h0;omega)⟩) ?_)
  ·rintro k c0 y0 _ hk hh;apply hid2 c0 y0;intro _ γ;obtain ⟨l,r,rfl,rfl,h1,h2,h3,hA,hB⟩:=hh;refine γ _ _ ?_;dsimp only;refine bd (fun z=>aG (.inl ⟨_,rfl,_,_,rfl,rfl,by (exact Qq (by assumption) (by assumption)),hA,fun a q=>hB a (by (exact Qq (by assumption) (by assumption)))⟩)) (fun hlr=>aw (jg h0 Hv (by (clear hlr hB hA h3 h2 h1 hk FO h hm hok h0;omega)) (by (clear hlr hB hA h3 hk FO h hm hok h0;omega)) ?_));dsimp only;refine bd (fun z=>aG (.inr ⟨_,rfl,_,_,rfl,rfl,by (clear hlr hB hA h3 h2 hk Fv hi FO h hm hok Fh h0;omega),by (clear hlr hB hA h3 hk Fv hi FO h hm hok Fh h0;omega),by (clear hlr hB hA h2 h1 hk Fv hi FO h hm hok Fh h0;omega),hA,fun a q1 q2=>?_⟩)) (fun z=>aG (.inr ⟨_,rfl,_,_,rfl,rfl,by (clear z hB hA h3 h2 h1 hk Fv hi FO h hm hok Fh h0;omega),by (assumption),by (clear z hlr hB hA h2 h1 hk Fv hi FO h hm hok Fh h0;omega),fun a q1=>?_,hB⟩))
   ·by_cases e:a=(l+r) / 2
    ·subst e;exact z
    ·cases e2:lt (p1.getD (lo+i) 0) (p1.getD (lo+a) 0) with
     | true=>rfl
     | false=>rw [O.tr _ _ _ (IK (lo+(l+r) / 2) (lo+a) (by (exact Nat.le_add_right _ _)) (by (clear q2 hlr hB hA h3 h2 h1 hk Fv hi FO h hm hok Fh h0;omega)) (by (clear e q1 hlr hB hA h3 h2 h1 hk Fv hi FO h hm hok Fh h0;omega))) e2] at z;cases z
   ·by_cases e:a=(l+r) / 2
    ·subst e;simpa using z
    ·exact O.tr _ _ _ (IK (lo+a) (lo+(l+r) / 2) (by (exact Nat.le_add_right _ _)) (by (clear z hlr hB hA h3 h2 h1 hk Fv hi FO h hm hok Fh h0;omega)) (by (clear e q1 z hB hA h3 h1 hk Fv hi FO h hm hok Fh h0;omega))) (by simpa using z)
  ·rintro c0 y0 hh;apply hid2 c0 y0;intro _ γ;obtain ⟨l,r,rfl,rfl,h1,h2,h3,hA,hB⟩:=hh;refine γ _ _ ?_;exact ⟨l,r,rfl,rfl,by (exact Qq (by assumption) (by assumption)),hA,fun a q=>hB a (by (clear hB hA h2 h1 Fv hi FO h hm hok Fh h0;omega))⟩
  rintro c0 y0 hh;apply hid2 c0 y0;intro _ γ;obtain ⟨l,r,rfl,rfl,hl,hA,hB⟩:=hh;refine γ _ _ ?_;dsimp only;refine aw (A9 (aG (.inr ⟨_,rfl,_,rfl,rfl,Fo.trans (Kp.bub (by (exact Nat.le_add_right _ _)) (by (clear hB hA hl Fv FO h hm hok Fh h0;omega)) (by (clear hB hA Fv hi FO h hm hok Fh h0;omega)) (by (clear hB hA hl FO h hm hok h0;omega))),fun a b h1 h2 h3=>?_,fun q=>absurd q (by (clear q hB hA hl Fv hi h hm hok Fh h0;omega))⟩)));rw [oH (by omega) (by (clear h3 h2 h1 hB hA Fv hi FO h hm hok Fh h0;omega)),oH (by omega) (by omega)];have key:∀ a,lo<=a->a<lo+l->lt (p1.getD (lo+i) 0) (p1.getD a 0)=false:=fun a q1 q2=>by have:=hA (a-lo) (by (clear h3 h2 h1 hB hA hl Fv hi FO h hm hok Fh h0;omega));rwa [show lo+(a-lo)=a by (clear q2 h3 h2 h1 hB hA hl Fv hi FO h hm hok Fh h0;omega)] at this
  have FW:∀ a,lo+l<=a->a<lo+i->lt (p1.getD (lo+i) 0) (p1.getD a 0)=true:=fun a q1 q2=>by have:=hB (a-lo) (by (clear q2 key h3 h2 h1 hB hA hl Fv hi FO h hm hok Fh h0;omega)) (by omega);rwa [show lo+(a-lo)=a by (clear q2 key h3 h2 h1 hB hA hl Fv hi FO h hm hok Fh h0;omega)] at this
  by_cases ea:a=lo+l
  ·rw [if_pos ea,if_neg (by (clear FW key h3 h1 hB hA hl Fv hi FO h hm hok Fh h0;omega)),if_pos (by (clear FW key h1 hB hA hl Fv hi FO h hm hok Fh h0;omega))];exact O.as _ _ (FW _ (by (clear FW key h3 h1 hB hA hl Fv hi FO h hm hok Fh h0;omega)) (by (clear ea FW key h2 h1 hB hA hl Fv hi h hm hok Fh h0;omega)))
  ·rw [if_neg ea];by_cases eb:b=lo+l
   ·rw [if_pos eb,if_neg (by (clear ea FW key h3 h1 hB hA hl Fv hi FO h hm hok Fh h0;omega))];exact key a h1 (by (clear ea FW key h3 h1 hB hA hl Fv hi FO h hm hok Fh h0;omega))
   ·rw [if_neg eb];by_cases ha:lo+l<a
    ·rw [if_pos (by (clear eb ea FW key h1 hB hA hl Fv hi FO h hm hok Fh h0;omega)),if_pos (by (clear eb ea FW key h1 hB hA hl Fv hi FO h hm hok Fh h0;omega))];exact IK _ _ (by (clear eb ea FW key h3 h2 h1 hB hA hl Fv hi FO h hm hok Fh h0;omega)) (by (clear eb ea FW key h3 h1 hB hA hl Fv hi FO h hm hok Fh h0;omega)) (by omega)
    ·rw [if_neg (show ¬(lo+l<a/\a<=lo+i) by (clear eb ea FW key h3 h2 h1 hB hA hl Fv hi FO h hm hok Fh h0;omega))];by_cases hb:lo+l<b
     ·rw [if_pos (by (clear ha eb ea FW key h2 h1 hB hA hl Fv hi FO h hm hok Fh h0;omega))];exact IK _ _ (by (assumption)) (by (clear eb FW key h3 h2 h1 hB hA hl Fv hi FO h hm hok Fh h0;omega)) (by omega)
     ·rw [if_neg (by (clear ha eb ea FW key h3 h2 h1 hB hA hl Fv hi FO h hm hok Fh h0;omega))];exact IK _ _ (by (assumption)) (by (assumption)) (by (clear ha ea FW key h3 h2 h1 hB hA Fv hi FO h hm hok Fh h0;omega))
 ·rintro c0 y0 hh;apply hid2 c0 y0;intro _ γ;obtain ⟨p1,rfl,rfl,Fo,IK,he⟩:=hh;refine γ _ _ ?_;exact ⟨p1,rfl,rfl,Fo,by rwa [show max (max ok 1) m=m by (clear he h Fh h0;omega)] at IK,fun q=>he (by (clear he h hm Fh h0;omega))⟩
 rintro c0 y0 hh;apply hid2 c0 y0;intro _ γ;obtain ⟨p1,rfl,rfl,Fo,IK,he⟩:=hh;refine γ _ _ ?_;exact aG (h _ Fo IK he)
end
theorem tU (s:Nat):∀ (po:List Nat) (k:Nat) (p:Array Nat) (j:Nat),s+k+po.length<=p.size->(putN po k s p).getD j 0=if s+k<=j/\j<s+k+po.length then po.getD (j-(s+k)) 0 else p.getD j 0
 | [],k,p,j,h=>by rw [if_neg (fun q=>by have:=q.2;simp at this;(clear h;lia))];rfl
 | a::po,k,p,j,h=>by
  show (putN po (k+1) s (p.setIfInBounds (s+k) a)).getD j 0=_;rw [QN] at h ⊢;rw [tU s po (k+1) _ j (by rw [Array.size_setIfInBounds];lia)];by_cases h1:j=s+k
  ·subst h1;rw [if_neg (by (clear h;lia)),if_pos (by (simp;done))];simp [Array.getD,show s+k<p.size by lia]
  ·have e:(p.setIfInBounds (s+k) a).getD j 0=p.getD j 0:=getD_at (by rw [Array.getElem?_setIfInBounds];rw [if_neg (by (solve_by_elim (maxDepth:=4) only [*,QG,QP,Nat.succ_le_of_lt,Qc]))]);rw [e];by_cases h2:s+k<=j/\j<s+k+(po.length+1)
   ·rw [if_pos h2,if_pos (by (clear e h;lia)),show j-(s+k)=(j-(s+(k+1)))+1 by (clear e h;lia),List.getD_cons_succ]
   ·rw [if_neg h2,if_neg (by (clear e h1 h;lia))]
theorem tV (s:Nat):∀ (po:List Nat) (k:Nat) (p:Array Nat),s+k+po.length<=p.size->(putN po k s p).toList=p.toList.take (s+k)++po++p.toList.drop (s+k+po.length)
 | [],k,p,h=>by simp [putN]
 | a::po,k,p,h=>by
  show (putN po (k+1) s (p.setIfInBounds (s+k) a)).toList=_;rw [QN] at h ⊢;rw [tV s po (k+1) _ (by rw [Array.size_setIfInBounds];lia),Array.toList_setIfInBounds,List.set_eq_take_append_cons_drop,if_pos (by simp;lia)];have hl:(p.toList.take (s+k)).length=s+k:=by rw [QJ,Qv];lia
  have e1:(p.toList.take (s+k)++a::p.toList.drop (s+k+1)).take (s+(k+1))=p.toList.take (s+k)++[a]:=by
   rw [show s+(k+1)=(p.toList.take (s+k)).length+1 by (clear h;lia),List.take_length_add_append];simp
  have e2:(p.toList.take (s+k)++a::p.toList.drop (s+k+1)).drop (s+(k+1)+po.length)=p.toList.drop (s+k+(po.length+1)):=by
   rw [show s+(k+1)+po.length=(p.toList.take (s+k)).length+(1+po.length) by (clear h;lia),List.drop_length_add_append,show 1+po.length=po.length+1 by (simp only [Nat.add_comm];done),List.drop_succ_cons,List.drop_drop];congr 1
   (clear hl h;lia)
  rw [e1,e2];simp
theorem Ch.ge:∀ {s:Nat} {l:List (Nat × Nat × Nat)} {e:Nat},Ch s l e->∀ x∈l,s<=x.1
 | s,[],e,h,x,hx=>by simp at hx
 | s,(a,k,u)::l,e,h,x,hx=>by
  obtain ⟨rfl,hk,h⟩:=h;rcases Qm hx with z | z
  ·subst z;exact Qc _
  ·exact Qq (Nat.le_add_right _ _) (h.ge x z)
theorem Ch.two2 {S S':Nat × Nat × Nat->Prop}:∀ {s:Nat} {l:List (Nat × Nat × Nat)} {e:Nat} (i a k u m v:Nat),Ch s l e->l[i]?=some (a,k,u)->l[i+1]?=some (a+k,m,v)->(∀ x∈l,S x)->(∀ x,S x->(x.1+x.2.1<=a∨a+k+m<=x.1)->S' x)->S' (a,k+m,u) ->
  ∀ x∈(l.set i (a,k+m,u)).eraseIdx (i+1),S' x
 | s,[],e,i,a,k,u,m,v,h,h1,h2,hS,hk,hn,x,hx=>by simp at h1
 | s,[y],e,i,a,k,u,m,v,h,h1,h2,hS,hk,hn,x,hx=>by cases i<;>simp at h1 h2
 | s,(a',k',u')::(b',m',v')::l,e,0,a,k,u,m,v,h,h1,h2,hS,hk,hn,x,hx=>by
  have e1:=Qp (show some (a',k',u')=some (a,k,u) from h1);have e2:=Qp (show some (b',m',v')=some (a+k,m,v) from h2);simp only [Prod.mk.injEq] at e1 e2;obtain ⟨g1,g2,g3,g4,h⟩:=h;have hx:x∈(a,k+m,u)::l:=hx;rcases Qm hx with z | z
  ·subst z;exact hn
  ·refine hk x (hS x (by simp [z])) (.inr ?_);have:=h.ge x z;lia
 | s,(a',k',u')::y::l,e,i+1,a,k,u,m,v,h,h1,h2,hS,hk,hn,x,hx=>by
  obtain ⟨rfl,IV,h⟩:=h;have hx:x∈(a',k',u')::((y::l).set i (a,k+m,u)).eraseIdx (i+1):=hx;rcases Qm hx with z | z
  ·subst z;refine hk _ (hS _ (by simp)) (.inl ?_);have h1':(y::l)[i]?=some (a,k,u):=h1;exact h.ge _ (Qz h1')
  ·exact Ch.two2 i a k u m v h h1 h2 (fun x hx=>hS x (Qw _ hx)) hk hn x z
theorem oJ {p:Array Nat} {i j k:Nat} (hj:j<=p.size) (hk:i+k<j):(p.extract i j).getD k 0=p.getD (i+k) 0:=by
 have h1:k<(p.extract i j).size:=by simp;lia
 simp [Array.getD,show k<min j p.size-i by lia,show i+k<p.size by (exact QG (by assumption) (by assumption))]
theorem Sg.asc {lt:Nat->Nat->Bool} {p:Array Nat} {i j:Nat} (h:Sg lt p i j) (hj:j<=p.size):cJ lt (p.extract i j).toList:=by refine List.pairwise_iff_getElem.mpr fun a b ha hb hab=>?_;simp at ha hb;have:=h (i+a) (i+b) (by (exact Nat.le_add_right _ _)) (by (clear hb ha hj;omega)) (by (clear ha hab hj;omega));simpa [Array.getD,show i+a<p.size by omega,show i+b<p.size by omega] using this
def Rs (lt:Nat->Nat->Bool) (p:Array Nat) (l:List (Nat × Nat × Nat)):Prop:=∀ x∈l,Sg lt p x.1 (x.1+x.2.1)
section
variable {n:Nat} {lt:Nat->Nat->Bool} {p:Array Nat} {Ff:Array (Nat × Nat × Nat)} {g:Nat}
theorem Bm (O:d8 lt) {sa na nb k k2:Nat} {po:Array Nat} (hz:sa+na+nb<=p.size) (hk:k<na) (Fi:0<k2) (Fg:k2<=nb) (sA:Sg lt p sa (sa+na)) (sB:Sg lt p (sa+na) (sa+na+nb))
  (hA:∀ i,i<k->lt (p.getD (sa+na) 0) (p.getD (sa+i) 0)=false) (hB:∀ i,k2<=i->i<nb->lt (p.getD (sa+na+i) 0) (p.getD (sa+na-1) 0)=false)
  (G:GF n lt ((p.extract (sa+k) (sa+na)).toList++(p.extract (sa+na) (sa+na+k2)).toList) po) :
  Kp p (putN po.toList 0 (sa+k) p) sa (sa+na+nb)/\Sg lt (putN po.toList 0 (sa+k) p) sa (sa+na+nb):=by
 have hl:po.toList.length=na-k+k2:=by rw [G.mf.pm.length_eq,QE,Qv,Qv,Array.size_extract,Array.size_extract,Nat.min_eq_left (Qq (Nat.le_add_right _ nb) hz),Nat.min_eq_left (Qq (Nat.add_le_add_left Fg _) hz),Nat.add_sub_add_left,Nat.add_sub_cancel_left]
 have at_:∀ j,(putN po.toList 0 (sa+k) p).getD j 0=if sa+k<=j/\j<sa+na+k2 then po.getD (j-(sa+k)) 0 else p.getD j 0:=fun j=>by
  rw [tU (sa+k) po.toList 0 p j (by lia)];by_cases h:sa+k<=j/\j<sa+na+k2
  ·rw [if_pos h,if_pos (by (clear hB hA Fg Fi hk hz;lia)),Nat.add_zero];have h2:j-(sa+k)<po.size:=by rw [<- Qv];(clear hB hA Fg Fi hk hz;lia)
   simp [Array.getD,List.getD,h2]
  ·rw [if_neg h,if_neg (by (clear hB hA Fg Fi hz;lia))]
 have mem:∀ j,sa+k<=j->j<sa+na+k2->∃ i,sa+k<=i/\i<sa+na+k2/\po.getD (j-(sa+k)) 0=p.getD i 0:=fun j h1 h2=>by
  have h3:j-(sa+k)<po.size:=by rw [<- Qv];(clear h1 at_ hB hA Fg Fi hz;lia)
  have hm:po.getD (j-(sa+k)) 0∈po.toList:=by simp [Array.getD,h3]
  rcases QK (G.mf.pm.mem_iff.mp hm) with z | z
  ·rw [show sa+na=sa+k+(na-k) by (clear h3 h2 h1 at_ hl hB hA Fg Fi hz;lia)] at z;obtain ⟨i,q1,q2,q3⟩:=ke z;exact ⟨sa+k+i,by (exact Nat.le_add_right _ _),by (clear q3 q2 h3 h2 h1 at_ hl hB hA Fg Fi hk hz;lia),q3⟩
  ·obtain ⟨i,q1,q2,q3⟩:=ke z;exact ⟨sa+na+i,by (clear q3 q2 q1 h3 h2 h1 at_ hl hB hA Fg Fi hz;lia),by (clear q3 q2 h3 h2 h1 at_ hl hB hA Fg Fi hk hz;lia),q3⟩
 have Hd:∀ a i,sa<=a->a<sa+k->a<i->i<sa+na+nb->lt (p.getD i 0) (p.getD a 0)=false:=fun a i h1 h2 h3 h4=>by
  by_cases hi:i<sa+na
  ·exact sA a i h1 h3 hi
  ·have e:=hA (a-sa) (by (clear hi h4 h3 mem at_ hl hB hA Fg Fi hk hz;lia));rw [show sa+(a-sa)=a by (clear hi h4 h3 h2 mem at_ hl hB hA Fg Fi hk hz;lia)] at e;by_cases h:i=sa+na
   ·subst h;exact e
   ·exact O.tr _ _ _ e (sB (sa+na) i (Qc _) (by (clear h4 h3 h2 h1 mem at_ hl hB hA Fg Fi hk hz;lia)) h4)
 have F3:∀ b i,sa+na+k2<=b->b<sa+na+nb->sa<=i->i<b->lt (p.getD b 0) (p.getD i 0)=false:=fun b i h1 h2 h3 h4=>by
  by_cases hi:i<sa+na
  ·have e:=hB (b-(sa+na)) (by (clear hi h4 h3 h2 Hd mem at_ hl hB hA Fg Fi hk hz;lia)) (by (clear hi h4 h3 h1 Hd mem at_ hl hB hA hk hz;lia));rw [show sa+na+(b-(sa+na))=b by (clear hi h4 h3 h2 Hd mem at_ hl hB hA Fg Fi hk hz;lia)] at e;by_cases h:i=sa+na-1
   ·subst h;exact e
   ·exact O.tr _ _ _ (sA i (sa+na-1) h3 (by (clear h4 h3 h2 h1 Hd mem at_ hl hB hA Fg Fi hk hz;lia)) (by (clear h hi h4 h3 h2 h1 Hd mem at_ hl hB hA Fg Fi hz;lia))) e
  ·exact sB i b (by (exact Nat.le_of_not_lt (by assumption))) h4 h2
 refine ⟨⟨tL _ _ _ _,Array.perm_iff_toList_perm.mpr ?_,fun j hj=>by rw [at_,if_neg (by (clear F3 Hd mem at_ hl hB hA Fi hk hz;lia))]⟩,fun a b h1 h2 h3=>?_⟩
 ·rw [tV (sa+k) po.toList 0 p (by lia),Nat.add_zero]
  have e:p.toList=p.toList.take (sa+k)++((p.extract (sa+k) (sa+na)).toList++(p.extract (sa+na) (sa+na+k2)).toList)++p.toList.drop (sa+k+po.toList.length):=by
   have e1:=lN (p:=p) (i:=sa+k) (k:=na-k) (by (clear F3 Hd mem at_ hl hB hA Fg Fi;lia));rw [show sa+k+(na-k)=sa+na by (clear F3 Hd mem at_ hl hB hA Fg Fi hz;lia),lN (p:=p) (i:=sa+na) (k:=k2) (by (clear F3 Hd mem at_ hl hB hA Fi hk;lia))] at e1;rw [hl,show sa+k+(na-k+k2)=sa+na+k2 by lia,QQ,QQ,<- e1,List.take_append_drop]
  conv=>rhs;rw [e]
  exact List.Perm.append_right _ (List.Perm.append_left _ G.mf.pm)
 ·rw [at_,at_];by_cases ha:sa+k<=a/\a<sa+na+k2
  ·rw [if_pos ha];by_cases hb:sa+k<=b/\b<sa+na+k2
   ·rw [if_pos hb];exact ii G.mf.so (by (clear hb h3 h1 F3 Hd mem at_ hl hB hA Fg Fi hk hz;lia)) (by rw [<- Qv];(clear ha h3 h2 h1 F3 Hd mem at_ hB hA Fg Fi hk hz;lia))
   ·rw [if_neg hb];obtain ⟨i,q1,q2,q3⟩:=mem a ha.1 ha.2;rw [q3];exact F3 b i (by (clear q3 q2 q1 h3 h1 F3 Hd mem at_ hl hB hA Fg Fi hk hz;lia)) h3 (by (clear q3 q2 hb ha h3 h2 h1 F3 Hd mem at_ hl hB hA Fg Fi hk hz;lia)) (by (clear q3 q1 h3 h1 F3 Hd mem at_ hl hB hA Fg Fi hk hz;lia))
  ·rw [if_neg ha];by_cases hb:sa+k<=b/\b<sa+na+k2
   ·rw [if_pos hb];obtain ⟨i,q1,q2,q3⟩:=mem b hb.1 hb.2;rw [q3];exact Hd a i h1 (by (clear q3 q2 q1 h3 h1 F3 Hd mem at_ hl hB hA Fg Fi hk hz;lia)) (by (clear q3 q2 h3 h1 F3 Hd mem at_ hl hB hA Fg Fi hk hz;lia)) (by (clear q3 q1 hb ha h3 h2 h1 F3 Hd mem at_ hl hB hA Fi hk hz;lia))
   ·rw [if_neg hb];by_cases h:a<sa+k
    ·exact Hd a b h1 h h2 h3
    ·exact F3 b a (by (clear hb h3 h1 F3 Hd mem at_ hl hB hA Fg Fi hk hz;lia)) h3 h1 h2
theorem oK {i lo:Nat} {R:(Ev->Bool)->(Ev->SortSt)->Prop} (O:d8 lt) (h0:0<n) (hp:aV n p) (hc:Ch 0 Ff.toList lo) (hr:Rs lt p Ff.toList) (Fh:lo<=p.size) (hi:i+1<Ff.size)
  (h:∀ p' pend' g',Kp p p' 0 lo->Ch 0 pend'.toList lo->Rs lt p' pend'.toList->pend'.size+1=Ff.size->R (fun _=>true) (av p' pend' g')):aJ n lt (fun _=>mergeAt' i) (av p Ff g) R:=by
 obtain ⟨sa,na,u,nb,v,e1,e2,FH,Fy,Gk,Jo⟩:=hc.two i (by simpa using hi);have sA:=hr _ (Qz e1);have sB:=hr _ (Qz e2);dsimp only at sA sB;have e3:((Ff.setIfInBounds i (sa,na+nb,u)).eraseIdxIfInBounds (i+1)).toList=(Ff.toList.set i (sa,na+nb,u)).eraseIdx (i+1):=by simp
 have FS:∀ p',Kp p p' sa (sa+na+nb)->Sg lt p' sa (sa+na+nb)->Rs lt p' ((Ff.setIfInBounds i (sa,na+nb,u)).eraseIdxIfInBounds (i+1)).toList:=fun p' hk hS=>by rw [e3];exact Ch.two2 (S:=fun x=>Sg lt p x.1 (x.1+x.2.1)) (S':=fun x=>Sg lt p' x.1 (x.1+x.2.1)) i sa na u nb v hc e1 e2 hr (fun x hx d=>hx.out hk d) (by show Sg lt p' sa (sa+(na+nb));rw [<- Nat.add_assoc];exact hS)
 rw [<- e3] at Jo
 have FQ:((Ff.setIfInBounds i (sa,na+nb,u)).eraseIdxIfInBounds (i+1)).size+1=Ff.size:=by
  have:((Ff.setIfInBounds i (sa,na+nb,u)).eraseIdxIfInBounds (i+1)).toList.length+1=Ff.size:=by rw [e3,List.length_eraseIdx,List.length_set,Qv,if_pos hi];(clear FS Gk Fy FH h Fh h0;lia)
  rwa [Qv] at this
 rw [Array.getElem?_toList] at e1 e2
 have up:∀ {p'},Kp p p' sa (sa+na+nb)->Kp p p' 0 lo:=fun q=>⟨q.sz,q.pm,fun k hk=>q.out k (by (clear FQ FS Fy FH h hi Fh h0;lia))⟩
 refine fw ?_;dsimp only;simp only [e1,e2];refine aw (Bf ?_);generalize (Ff.setIfInBounds i (sa,na+nb,u)).eraseIdxIfInBounds (i+1)=pend' at Jo FS FQ ⊢;refine aw (ck (by (clear FQ FS up FH h hi h0;lia)) (aw (jh h0 (hp.at h0 _) hp FH (by (clear FQ FS up Fy FH h hi h0;lia)) ?_ fun k hk hA hB=>?_)))
 ·intro i j Hj hj;simp only [bq,QM,if_false,Bool.not_eq_true'];intro z;by_cases e:i=j
  ·subst e;exact z
  ·exact O.tr _ _ _ (sA (sa+i) (sa+j) (by (exact Nat.le_add_right _ _)) (by (clear hj FQ FS up Gk Fy FH h hi Fh h0;lia)) (by (clear e Hj FQ FS up Gk Fy FH h hi Fh h0;lia))) z
 simp only [bq,QM,if_false,Bool.not_eq_true',Bool.not_eq_false'] at hA hB;dsimp only;refine dB (fun z=>aG (h _ _ _ Kp.refl Jo (FS _ Kp.refl ?_) FQ)) fun Fi=>aw (ck (by (clear Fi hB hA FQ FS up Fy h hi h0;lia)) (aw (jh h0 (hp.at h0 _) hp (by (exact Nat.sub_lt_sub_left (by assumption) (Nat.lt_succ_self _))) (by (exact Qq (by assumption) (by assumption))) ?_ fun k2 Fg G4 Gw=>?_)))
 ·intro a b h1 h2 h3;by_cases hb:b<sa+na
  ·exact sA a b h1 h2 hb
  ·by_cases ha:a<sa+na
   ·have e:=hA (a-sa) (by (clear hb h3 h2 h1 hB hA hk FQ FS up Gk Fy h hi Fh h0;lia));rw [show sa+(a-sa)=a by (clear ha hb h3 h2 z hB hA hk FQ FS up Gk Fy FH h hi Fh h0;lia)] at e;by_cases q:b=sa+na
    ·subst q;exact e
    ·exact O.tr _ _ _ e (sB (sa+na) b (Qc _) (by (clear ha h3 h2 h1 z hB hA hk FQ FS up Gk Fy FH h hi Fh h0;lia)) h3)
   ·exact sB a b (by (exact Nat.le_of_not_lt (by assumption))) h2 h3
 ·intro i j Hj hj;simp only [bq,if_true];intro z;by_cases e:i=j
  ·subst e;exact z
  ·have q1:=sB (sa+na+i) (sa+na+j) (by (exact Nat.le_add_right _ _)) (by (clear hj Fi hB hA hk FQ FS up Gk Fy FH h hi Fh h0;lia)) (by (clear e Hj Fi hB hA hk FQ FS up Gk Fy FH h hi Fh h0;lia))
   cases e2:lt (p.getD (sa+na+i) 0) (p.getD (sa+k+(na-k)-1) 0) with
   | true=>rfl
   | false=>rw [O.tr _ _ _ e2 q1] at z;cases z
 simp only [bq,if_true] at G4 Gw;rw [show sa+k+(na-k)-1=sa+na-1 by lia] at G4 Gw;dsimp only;refine dB (fun z=>aG (h _ _ _ Kp.refl Jo (FS _ Kp.refl ?_) FQ)) fun Fn=>?_
 ·intro a b h1 h2 h3;by_cases hb:b<sa+na
  ·exact sA a b h1 h2 hb
  ·by_cases ha:a<sa+na
   ·have e:=Gw (b-(sa+na)) (by (clear ha hb h3 h2 h1 Gw G4 Fg Fi hB hA hk FQ FS up Gk Fy FH h hi Fh h0;lia)) (by (clear ha hb h2 h1 z Gw G4 Fg Fi hB hA hk FQ FS up Gk FH h hi Fh h0;lia));rw [show sa+na+(b-(sa+na))=b by (clear ha h3 h2 h1 z Gw G4 Fg Fi hB hA hk FQ FS up Gk Fy FH h hi Fh h0;lia)] at e;by_cases q:a=sa+na-1
    ·subst q;exact e
    ·exact O.tr _ _ _ (sA a (sa+na-1) h1 (by (clear hb h3 h2 h1 z Gw G4 Fg Fi hB hA hk FQ FS up Gk Fy FH h hi Fh h0;lia)) (by (clear q ha hb h3 h2 h1 z Gw G4 Fg Fi hB hA hk FQ FS up Gk Fy h hi Fh h0;lia))) e
   ·exact sB a b (by (exact Nat.le_of_not_lt (by assumption))) h2 h3
 simp only [dA]
 have fin:∀ (po:Array Nat) (g':Nat),GF n lt ((p.extract (sa+k) (sa+na)).toList++(p.extract (sa+na) (sa+na+k2)).toList) po->R (fun _=>true) (av (putN po.toList 0 (sa+k) p) pend' g'):=fun po g' Fs=>by
  obtain ⟨q1,q2⟩:=Bm O (by (exact Qq (by assumption) (by assumption))) (by (clear Fn Gw G4 Fg hB hA hk FQ FS up Gk Fy FH h hi Fh h0;lia)) (by (exact Nat.pos_of_ne_zero (by assumption))) Fg sA sB hA Gw Fs;exact h _ _ _ (up q1) Jo (FS _ q1 q2) FQ
 have put:∀ (e:Ev) (po:Array Nat),(aR e po).toList.zipIdx.foldl (fun a (x:Keyed × Nat)=>a.setIfInBounds (sa+k+x.2) x.1) (aR e p)=aR e (putN po.toList 0 (sa+k) p):=fun e po=>by rw [show (aR e po).toList=po.toList.map (dj e) from Array.toList_map];exact tK (dj e) (sa+k) po.toList 0 p
 have FJ:∀ (po:Array Nat) (g':Nat),GF n lt ((p.extract (sa+k) (sa+na)).toList++(p.extract (sa+na) (sa+na+k2)).toList) po->aJ n lt (fun e=>(do
   modify fun s=>SortSt.mk' (kindOf s) ((aR e po).toList.zipIdx.foldl (fun a (x:Keyed × Nat)=>a.setIfInBounds (sa+k+x.2) x.1) (arrOf s)) (pendingOf s) (gallopOf s) (failedOf s)
   let s <- get
   pure (failedOf s).isNone:StateT SortSt Sem Bool)) (av p pend' g') R:=fun po g' Fs =>
  aw (Bg (p':=putN po.toList 0 (sa+k) p) (pend':=pend') (g':=g') (fun e=>congrArg (fun a=>SortSt.mk' e.κ a pend' g' none) (put e po)) (fw (aG (fin po g' Fs))))
 have hz:sa+na+nb<=p.size:=Qq Gk Fh;have z1:(p.extract (sa+k) (sa+na)).size=na-k:=by rw [Array.size_extract,Nat.min_eq_left (Qq (Nat.le_add_right _ nb) hz),Nat.add_sub_add_left]
 have z2:(p.extract (sa+na) (sa+na+k2)).size=k2:=by rw [Array.size_extract,Nat.min_eq_left (Qq (Nat.add_le_add_left Fg _) hz),Nat.add_sub_cancel_left]
 have s1:cJ lt (p.extract (sa+k) (sa+na)).toList:=Sg.asc (fun a b q1 q2 q3=>sA a b (by (clear q3 q2 z2 z1 hz FJ put fin Fn Gw G4 Fg Fi hB hA hk FQ FS up Gk Fy FH h hi Fh h0;lia)) q2 q3) (by (clear z2 z1 hz FJ put fin Fn Gw G4 Fg Fi hB hA hk FQ FS up Fy FH h hi h0;lia));have s2:cJ lt (p.extract (sa+na) (sa+na+k2)).toList:=Sg.asc (fun a b q1 q2 q3=>sB a b (by (assumption)) q2 (by (clear q2 q1 z2 z1 hz FJ put fin Fn Gw G4 Fi hB hA hk FQ FS up Gk Fy FH h hi Fh h0;lia))) (by (clear z2 z1 hz FJ put fin Fn Gw G4 Fi hB hA hk FQ FS up Fy FH h hi h0;lia))
 have hf:lt ((p.extract (sa+na) (sa+na+k2)).getD 0 0) ((p.extract (sa+k) (sa+na)).getD 0 0)=true:=by
  rw [oJ (by lia) (by (clear z2 z1 hz FJ put fin Gw G4 Fg Fi hB hA hk FQ FS up Gk Fy FH h hi Fh h0;lia)),oJ (by lia) (by (clear z2 z1 hz FJ put fin Fn Gw G4 Fg hB hA hk FQ FS up Gk Fy FH h hi Fh h0;lia))];exact hB k (Qc _) (by (clear z2 z1 hz FJ put fin Fn Gw G4 Fg hB hA hk FQ FS up Gk Fy FH h hi Fh h0;lia))
 have hl:∀ y∈(p.extract (sa+na) (sa+na+k2)).toList,lt ((p.extract (sa+k) (sa+na)).getD ((p.extract (sa+k) (sa+na)).size-1) 0) y=false:=fun y hy=>by obtain ⟨j,q1,q2,rfl⟩:=ke hy;rw [z1,oJ (by (clear q2 q1 z2 z1 hz FJ put fin Fn Gw G4 Fg Fi hB hA hk FQ FS up Fy FH h hi h0;lia)) (by (clear q2 q1 z2 z1 hz FJ put fin Fn Gw G4 Fg hB hA hk FQ FS up Gk Fy FH h hi Fh h0;lia)),show sa+k+(na-k-1)=sa+na-1 by (clear q2 q1 z2 z1 hz FJ put fin Fn Gw G4 Fg hB hA hk FQ FS up Gk Fy FH h hi Fh h0;lia)];exact O.as _ _ (G4 j q1)
 refine bd (fun _=>aw (Bi O h0 (hp.ext _ _) (hp.ext _ _) (by (clear hl z2 hz FJ put fin Fn Gw G4 Fg hB hA hk FQ FS up Gk Fy FH h hi Fh h0;lia)) (by (clear hl z1 hz FJ put fin Fn Gw G4 Fg hB hA hk FQ FS up Gk Fy FH h hi Fh h0;lia)) s1 s2 hf hl fun po g' Fs=>?_)) (fun _=>aw (Bj O h0 (hp.ext _ _) (hp.ext _ _) (by (clear hl z2 hz FJ put fin Fn Gw G4 Fg Fi hB hA hk FQ FS up Gk Fy FH h hi Fh h0;lia)) (by lia) s1 s2 hf hl fun po g' Fs=>?_))
 ·exact FJ po g' Fs
 ·exact FJ po g' Fs
end
theorem Rs.push {lt:Nat->Nat->Bool} {p:Array Nat} {l:List (Nat × Nat × Nat)} {a k:Nat} (u:Nat) (h:Rs lt p l) (q:Sg lt p a (a+k)):Rs lt p (l++[(a,k,u)]):=fun x hx=>by
 rcases QK hx with z | z
 ·exact h x z
 ·rw [QL z];exact q
theorem Rs.mod {lt:Nat->Nat->Bool} {p:Array Nat}:∀ {l:List (Nat × Nat × Nat)} (i u:Nat),Rs lt p l->Rs lt p (l.modify i fun x=>(x.1,x.2.1,u))
 | [],i,u,h=>by cases i<;>exact h
 | y::l,0,u,h=>fun x hx=>by
  have hx:x∈(y.1,y.2.1,u)::l:=hx;rcases Qm hx with z | z
  ·subst z;exact h y (by simp)
  ·exact h x (by simp [z])
 | y::l,i+1,u,h=>fun x hx=>by
  have hx:x∈y::l.modify i fun x=>(x.1,x.2.1,u):=hx;rcases Qm hx with z | z
  ·subst z;exact h x (by simp)
  ·exact Rs.mod i u (fun x hx=>h x (Qw _ hx)) x z
theorem Rs.out {lt:Nat->Nat->Bool} {p p':Array Nat} {l:List (Nat × Nat × Nat)} {lo hi:Nat} (h:Rs lt p l) (hc:Ch 0 l lo) (q:Kp p p' lo hi):Rs lt p' l:=fun x hx=>by
 refine (h x hx).out q (.inl ?_)
 have go:∀ {s:Nat} {l:List (Nat × Nat × Nat)} {e:Nat},Ch s l e->∀ x∈l,x.1+x.2.1<=e:=by
  intro s l
  induction l generalizing s with
  | nil=>intro e _ x hx;simp at hx
  | cons y l ih =>
   intro e h x hx;obtain ⟨a,k,u⟩:=y;obtain ⟨rfl,hk,h⟩:=h;rcases Qm hx with z | z
   ·subst z;exact h.le
   ·exact ih h x z
 exact go hc x hx
theorem Ch.len:∀ {s:Nat} {l:List (Nat × Nat × Nat)} {e:Nat},Ch s l e->s+l.length<=e
 | s,[],e,h=>by simpa using Nat.le_of_eq h
 | s,(a,k,u)::l,e,h=>by have:=h.2.2.len;have:=h.2.1;simp;lia
section
variable {n:Nat} {lt:Nat->Nat->Bool} {p:Array Nat} {g:Nat}
theorem Bn {R:(Ev->Unit)->(Ev->SortSt)->Prop} (O:d8 lt) (h0:0<n) (hp:aV n p) (hs:p.size=n) (h:∀ p' pend' g',p'.Perm p->Sg lt p' 0 n->(Sg lt p 0 n->p'=p)->R (fun _=>()) (av p' pend' g')) :
  aJ n lt (fun _=>sortRuns') (av p #[] g) R:=by
 refine fw ?_;dsimp only;simp only [dm,hs];refine aw (aJ.mono (cI (fun i c y=>∃ p' pend' g' lo,c=(fun _=>(none,lo))/\y=av p' pend' g'/\Kp p p' 0 n/\Ch 0 pend'.toList lo/\Rs lt p' pend'.toList/\lo<=n/\i<=lo/\(Sg lt p 0 n->p'=p/\(lo=0∨lo=n/\pend'.size<=1))) (fun c y=>∃ p' pend' g' lo,c=(fun _=>(none,lo))/\y=av p' pend' g'/\Kp p p' 0 n/\Ch 0 pend'.toList lo/\Rs lt p' pend'.toList/\lo=n/\(Sg lt p 0 n->p'=p/\pend'.size<=1)) ?_ ?_ ⟨_,_,_,_,rfl,rfl,Kp.refl,rfl,fun x hx=>by simp at hx,Qr _,Qr _,fun _=>⟨rfl,.inl rfl⟩⟩) ?_)
 ·rintro i c0 y0 _ _ hh;apply hid2 c0 y0;intro _ γ;obtain ⟨p1,pe1,g1,lo,rfl,rfl,Fo,IH,Fw,Hi,G8,hT⟩:=hh;refine γ _ _ ?_;have Fv:=Fo.sz;dsimp only;refine bd (fun _=>aG (.inl ⟨_,rfl,_,_,_,_,rfl,rfl,Fo,IH,Fw,by (exact Nat.le_antisymm (by assumption) (by assumption)),fun q=>⟨(hT q).1,by rcases (hT q).2 with z | z<;>lia⟩⟩)) (fun Fl=>?_);refine aw (Bk O h0 (Fo.ent hp) (by (clear Fv hT G8 Hi h hs h0;lia)) (by (clear Fl hT G8 h h0;lia)) fun p2 k Fi FN IT IZ hE=>?_)
  have hq:Sg lt p 0 n->p2=p/\lo=0/\k=n/\pe1=#[]:=fun q=>by
   obtain ⟨e1,e2⟩:=hT q
   obtain rfl:lo=0:=by (clear hE IT FN Fv hT G8 Hi h hs h0;lia)
   have e3:=hE (by rw [e1];simpa using q);have e4:=IH.len;exact ⟨e3.1.trans e1,rfl,by (clear e4 e2 hE IT Fl hT G8 Hi FN Fv h hs h0;lia),by apply Array.eq_empty_of_size_eq_zero;rw [<- Qv];(clear e3 e2 hE IT Fl hT G8 Hi FN Fv h hs h0;lia)⟩
  have FD:=Fi.sz;have hk2':Kp p p2 0 n:=Fo.trans ⟨Fi.sz,Fi.pm,fun k hk=>Fi.out k (by (clear FD hq hE IT FN Fl Fv hT G8 Hi h hs h0;lia))⟩;have Fm:=Fw.out IH Fi;dsimp only;refine bd (fun hmr=>aw (jf (aw (Bl O h0 (hk2'.ent hp) (by lia) FN (by (clear FD hq hE FN Fl Fv hT G8 Hi h hs h0;lia)) IZ fun p5 G7 hSP hE5=>?_)))) (fun _=>?_)
  ·have hP:Kp p p5 0 n:=hk2'.trans ⟨G7.sz,G7.pm,fun k hk=>G7.out k (by (clear hE5 hmr FD hq hE IT FN Fl Fv hT G8 Hi h hs h0;lia))⟩;have hrP:=Fm.out IH G7;have Il:Sg lt p 0 n->p5=p/\lo=0/\min (n-lo) ((sortPriv% PySem.Builtin.minRun) n n 0)=n/\pe1=#[]:=fun q=>by refine ci fun _ γ=>?_;obtain ⟨e1,e2,e3,e4⟩:=hq q;refine γ ?_;exact ⟨(hE5 (by (clear e2 hE5 FD hq hE FN Fl Fv hT G8 Hi h hs h0;lia))).trans e1,e2,by (clear e2 hE5 FD hq hE FN Fl Fv hT G8 Hi h hs h0;lia),e4⟩
   refine bd (fun z=>absurd z (by decide)) (fun _=>?_)
   have F9:0<min (n-lo) ((sortPriv% PySem.Builtin.minRun) n n 0):=by (clear Il hE5 FD hq hE IT FN Fv hT G8 Hi h hs h0;lia)
   have FT:lo+min (n-lo) ((sortPriv% PySem.Builtin.minRun) n n 0)<=n:=by (clear F9 Il hE5 hmr FD hq hE IT FN Fl Fv hT G8 h hs h0;lia)
   refine fw ?_;dsimp only
   cases hb:pe1.back? with
   | none =>
    simp only [hb]
    exact aw (lM (aG (.inr ⟨_,rfl,_,_,_,_,rfl,rfl,hP,by rw [Array.toList_push];exact IH.push _ 0 F9,by rw [Array.toList_push];exact hrP.push 0 hSP,FT,by lia,fun q=>by
     refine ci fun _ γ=>?_;obtain ⟨e1,e2,e3,e4⟩:=Il q;refine γ ?_
     exact ⟨e1,.inr ⟨by lia,by rw [e4];simp⟩⟩⟩)))
   | some y =>
    obtain ⟨s1,n1,u1⟩:=y;simp only [hb];refine aw (aJ.mono (cI (fun _ c y=>∃ p' pend' g',c=(fun _=>(none,()))/\y=av p' pend' g'/\Kp p p' 0 n/\Ch 0 pend'.toList lo/\Rs lt p' pend'.toList/\Sg lt p' lo (lo+min (n-lo) ((sortPriv% PySem.Builtin.minRun) n n 0))) (fun c y=>∃ p' pend' g',c=(fun _=>(none,()))/\y=av p' pend' g'/\Kp p p' 0 n/\Ch 0 pend'.toList lo/\Rs lt p' pend'.toList/\Sg lt p' lo (lo+min (n-lo) ((sortPriv% PySem.Builtin.minRun) n n 0))) ?_ (fun _ _ z=>z) ⟨_,_,_,rfl,rfl,hP,IH,hrP,hSP⟩) ?_)
    ·rintro j c0 y0 _ _ hh;apply hid2 c0 y0;intro _ γ;obtain ⟨p3,IR,g3,rfl,rfl,Fg,Hf,FF,IJ⟩:=hh;refine γ _ _ ?_;have HY:=Fg.sz;refine fw ?_;dsimp only;by_cases hz:IR.size>1
     ·obtain ⟨a,b,u,m,v,e1,_⟩:=Hf.two (IR.size-2) (by rw [Qv];(clear HY FT F9 Il hE5 hmr FD hq hE IT FN Fl Fv hT G8 Hi h hs h0;lia));rw [Array.getElem?_toList] at e1;simp only [if_pos hz,e1];refine bd (fun _=>aG (.inl ⟨_,rfl,_,_,_,rfl,rfl,Fg,Hf,FF,IJ⟩)) (fun _=>aw (oK O h0 (Fg.ent hp) Hf FF (by (clear hz FT F9 Il hE5 hmr FD hq hE IT FN Fl Fv hT G8 h h0;lia)) (by (clear HY FT F9 Il hE5 hmr FD hq hE IT FN Fl Fv hT G8 Hi h hs h0;lia)) fun p4 pe4 g4 Fn hc4 GQ _=>?_));exact bd (fun z=>absurd z (by decide)) (fun _=>aG (.inr ⟨_,rfl,_,_,_,rfl,rfl,Fg.trans ⟨Fn.sz,Fn.pm,fun k hk=>Fn.out k (by (clear hz HY FT F9 Il hE5 hmr FD hq hE IT FN Fl Fv hT G8 h hs h0;lia))⟩,hc4,GQ,IJ.out Fn (.inr (Qc _))⟩))
     ·simp only [if_neg hz];exact aG (.inl ⟨_,rfl,_,_,_,rfl,rfl,Fg,Hf,FF,IJ⟩)
    ·rintro c0 y0 hh;apply hid2 c0 y0;intro _ γ;obtain ⟨p3,IR,g3,rfl,rfl,Fg,Hf,FF,IJ⟩:=hh;refine γ _ _ ?_;dsimp only;refine aw (tM ?_)
     refine aw (lM (aG (.inr ⟨_,rfl,_,_,_,_,rfl,rfl,Fg,?_,?_,FT,by lia,fun q=>by
      refine ci fun _ γ=>?_;obtain ⟨e1,e2,e3,e4⟩:=Il q;refine γ ?_;rw [e4] at hb
      simp at hb⟩)))
     ·rw [Array.toList_push,Array.toList_modify];exact (Hf.mod _ _).push _ _ F9
     ·rw [Array.toList_push,Array.toList_modify];exact (FF.mod _ _).push _ IJ
  ·have Il:=hq;have hP:=hk2';have hrP:=Fm;have hSP:=IZ;have F9:=FN
   have FT:lo+k<=n:=by (clear F9 Il FD hq hE FN Fl Fv hT G8 h hs h0;lia)
   refine fw ?_;dsimp only
   cases hb:pe1.back? with
   | none =>
    simp only [hb]
    exact aw (lM (aG (.inr ⟨_,rfl,_,_,_,_,rfl,rfl,hP,by rw [Array.toList_push];exact IH.push _ 0 F9,by rw [Array.toList_push];exact hrP.push 0 hSP,FT,by (clear FT F9 Il FD hq hE IT Fl Fv hT Hi h hs h0;lia),fun q=>by
     refine ci fun _ γ=>?_;obtain ⟨e1,e2,e3,e4⟩:=Il q;refine γ ?_
     exact ⟨e1,.inr ⟨by (clear e2 FT F9 Il FD hq hE FN Fl Fv hT G8 Hi h hs h0;lia),by rw [e4];simp⟩⟩⟩)))
   | some y =>
    obtain ⟨s1,n1,u1⟩:=y;simp only [hb];refine aw (aJ.mono (cI (fun _ c y=>∃ p' pend' g',c=(fun _=>(none,()))/\y=av p' pend' g'/\Kp p p' 0 n/\Ch 0 pend'.toList lo/\Rs lt p' pend'.toList/\Sg lt p' lo (lo+k)) (fun c y=>∃ p' pend' g',c=(fun _=>(none,()))/\y=av p' pend' g'/\Kp p p' 0 n/\Ch 0 pend'.toList lo/\Rs lt p' pend'.toList/\Sg lt p' lo (lo+k)) ?_ (fun _ _ z=>z) ⟨_,_,_,rfl,rfl,hP,IH,hrP,hSP⟩) ?_)
    ·rintro j c0 y0 _ _ hh;apply hid2 c0 y0;intro _ γ;obtain ⟨p3,IR,g3,rfl,rfl,Fg,Hf,FF,IJ⟩:=hh;refine γ _ _ ?_;have HY:=Fg.sz;refine fw ?_;dsimp only;by_cases hz:IR.size>1
     ·obtain ⟨a,b,u,m,v,e1,_⟩:=Hf.two (IR.size-2) (by rw [Qv];lia);rw [Array.getElem?_toList] at e1;simp only [if_pos hz,e1];refine bd (fun _=>aG (.inl ⟨_,rfl,_,_,_,rfl,rfl,Fg,Hf,FF,IJ⟩)) (fun _=>aw (oK O h0 (Fg.ent hp) Hf FF (by lia) (by lia) fun p4 pe4 g4 Fn hc4 GQ _=>?_));exact bd (fun z=>absurd z (by decide)) (fun _=>aG (.inr ⟨_,rfl,_,_,_,rfl,rfl,Fg.trans ⟨Fn.sz,Fn.pm,fun k hk=>Fn.out k (by lia)⟩,hc4,GQ,IJ.out Fn (.inr (Qc _))⟩))
     ·simp only [if_neg hz];exact aG (.inl ⟨_,rfl,_,_,_,rfl,rfl,Fg,Hf,FF,IJ⟩)
    ·rintro c0 y0 hh;apply hid2 c0 y0;intro _ γ;obtain ⟨p3,IR,g3,rfl,rfl,Fg,Hf,FF,IJ⟩:=hh;refine γ _ _ ?_;dsimp only;refine aw (tM ?_)
     refine aw (lM (aG (.inr ⟨_,rfl,_,_,_,_,rfl,rfl,Fg,?_,?_,FT,by lia,fun q=>by
      refine ci fun _ γ=>?_;obtain ⟨e1,e2,e3,e4⟩:=Il q;refine γ ?_;rw [e4] at hb
      simp at hb⟩)))
     ·rw [Array.toList_push,Array.toList_modify];exact (Hf.mod _ _).push _ _ F9
     ·rw [Array.toList_push,Array.toList_modify];exact (FF.mod _ _).push _ IJ
 ·rintro c0 y0 hh;apply hid2 c0 y0;intro _ γ;obtain ⟨p1,pe1,g1,lo,rfl,rfl,Fo,IH,Fw,Hi,G8,hT⟩:=hh;refine γ _ _ ?_;exact ⟨p1,pe1,g1,lo,rfl,rfl,Fo,IH,Fw,by (exact Nat.le_antisymm (by assumption) (by assumption)),fun q=>⟨(hT q).1,by rcases (hT q).2 with z | z<;>lia⟩⟩
 rintro c0 y0 hh;apply hid2 c0 y0;intro _ γ;obtain ⟨p1,pe1,g1,lo,rfl,rfl,Fo,IH,Fw,rfl,hT⟩:=hh;refine γ _ _ ?_;dsimp only;have Fj:=IH.len;rw [Qv] at Fj;refine aw (aJ.mono (cI (fun j c y=>∃ p' pend' g',c=(fun _=>(none,()))/\y=av p' pend' g'/\Kp p p' 0 lo/\Ch 0 pend'.toList lo/\Rs lt p' pend'.toList/\pend'.size+j<=lo/\(Sg lt p 0 lo->p'=p/\pend'.size<=1)) (fun c y=>∃ p' pend' g',c=(fun _=>(none,()))/\y=av p' pend' g'/\Kp p p' 0 lo/\Ch 0 pend'.toList lo/\Rs lt p' pend'.toList/\pend'.size<=1/\(Sg lt p 0 lo->p'=p)) ?_ ?_ ⟨_,_,_,rfl,rfl,Fo,IH,Fw,by (clear hT h hs h0;lia),hT⟩) ?_)
 ·rintro j c0 y0 _ _ hh;apply hid2 c0 y0;intro _ γ;obtain ⟨p3,IR,g3,rfl,rfl,Fg,Hf,FF,hz3,hT3⟩:=hh;refine γ _ _ ?_;have HY:=Fg.sz;refine fw ?_;dsimp +instances only;refine bd (fun z=>aG (.inl ⟨_,rfl,_,_,_,rfl,rfl,Fg,Hf,FF,z,fun q=>(hT3 q).1⟩)) (fun hz=>aw (oK O h0 (Fg.ent hp) Hf FF (by (clear hz hT3 hz3 Fj hT h h0;lia)) ?_ fun p4 pe4 g4 Fn hc4 GQ hz4=>?_))
  ·exact Bh (by (clear HY hT3 hz3 Fj hT h hs h0;lia))
  ·exact bd (fun z=>absurd z (by decide)) (fun _=>aG (.inr ⟨_,rfl,_,_,_,rfl,rfl,Fg.trans Fn,hc4,GQ,by (clear hz HY hT3 Fj hT h hs h0;lia),fun q=>absurd (hT3 q).2 hz⟩))
 ·rintro c0 y0 hh;apply hid2 c0 y0;intro _ γ;obtain ⟨p3,IR,g3,rfl,rfl,Fg,Hf,FF,hz3,hT3⟩:=hh;refine γ _ _ ?_;exact ⟨p3,IR,g3,rfl,rfl,Fg,Hf,FF,by (clear hT3 Fj hT h hs h0;lia),fun q=>(hT3 q).1⟩
 ·rintro c0 y0 hh;apply hid2 c0 y0;intro _ γ;obtain ⟨p3,IR,g3,rfl,rfl,Fg,Hf,FF,hz3,hT3⟩:=hh;refine γ _ _ ?_;refine aG (h _ _ _ Fg.pm ?_ hT3);rw [<- Qv] at hz3
  match hq:IR.toList,hz3,Hf,FF with
  | [],_,hc,_=>exact absurd (show 0=lo from hc) (by (exact QC (by assumption)))
  | [(a,k,u)],_,hc,hr =>
   obtain ⟨rfl,_,rfl⟩:=hc;exact hr (0,k,u) (by simp)
end
theorem tW (n:Nat) (lt:Nat->Nat->Bool) (h0:0<n) (as:∀ a b,a<n->b<n->lt a b=true->lt b a=false) (tr:∀ a b c,a<n->b<n->c<n->lt b a=false->lt c b=false->lt c a=false) :
  ∃ P:Array Nat,(P.Perm (List.range n).toArray/\Sg lt P 0 n/\(Sg lt (List.range n).toArray 0 n->P=(List.range n).toArray))/\∃ (Ff:Array (Nat × Nat × Nat)) (g:Nat),∀ (e:Ev) (prog:Program) (w:World) (A:Around) (E:Value->Shared->Prop) (s:Shared),oG n lt e prog w A s ->
  ∀ Q:Unit->SortSt->Shared->Prop,Q () (av P Ff g e) s->kasC (model prog w) A E sortRuns' Q (av (List.range n).toArray #[] 7 e) s:=by
 obtain ⟨c,hc⟩:∃ c:Nat->Nat,∀ i,c i=if i<n then i else 0:=⟨_,fun _=>rfl⟩
 have cn:∀ i,c i<n:=fun i=>by rw [hc];split<;>(assumption)
 have ce:∀ i,i<n->c i=i:=fun i h=>by rw [hc,if_pos h]
 have O:d8 fun i j=>lt (c i) (c j):=⟨fun a b h=>as _ _ (cn a) (cn b) h,fun a b d h1 h2=>tr _ _ _ (cn a) (cn b) (cn d) h1 h2⟩
 obtain ⟨a,y,⟨P,Ff,g,h1,h2,h4,rfl⟩,h3⟩:=Bn (n:=n) (g:=7) (p:=(List.range n).toArray) (R:=fun _ y=>∃ P Ff g,P.Perm (List.range n).toArray/\Sg (fun i j=>lt (c i) (c j)) P 0 n/\(Sg (fun i j=>lt (c i) (c j)) (List.range n).toArray 0 n->P=(List.range n).toArray)/\y=av P Ff g) O h0 (fun x hx=>by simpa using hx) (by simp) fun p' pend' g' h1 h2 h4=>⟨p',pend',g',h1,h2,h4,rfl⟩
 have hz:P.size=n:=by rw [h1.size_eq];simp
 have ent:∀ i,i<n->P.getD i 0<n:=fun i hi=>by
  have hm:P.getD i 0∈P.toList:=by simp [Array.getD,show i<P.size by lia]
  simpa using (Array.perm_iff_toList_perm.mp h1).mem_iff.mp hm
 refine ⟨P,⟨h1,fun i j q1 q2 q3=>?_,fun q=>h4 fun i j q1 q2 q3=>?_⟩,Ff,g,fun e prog w A E s ho=>h3 e prog w A E s fun i j hi hj C hC=>ho i j hi hj C (by have hC:C (lt (c i) (c j)) s:=hC;rwa [ce i hi,ce j hj] at hC)⟩
 ·have:=(show lt (c (P.getD j 0)) (c (P.getD i 0))=false from h2 i j q1 q2 q3)
  rwa [ce _ (ent i (by (exact Nat.lt_trans (by assumption) (by assumption)))),ce _ (ent j q3)] at this
 ·have e:∀ i,i<n->(List.range n).toArray.getD i 0=i:=fun i h=>by simp [Array.getD,h]
  have:=q i j q1 q2 q3;show lt (c _) (c _)=false;rw [e i (by (exact Nat.lt_trans (by assumption) (by assumption))),e j q3] at this ⊢;rwa [ce i (by (exact Nat.lt_trans (by assumption) (by assumption))),ce j q3]
noncomputable def br:ae->Bool
 | .inl _=>true
 | .inr _=>false
noncomputable def dR:ae->ae->Bool
 | .inl i,.inl j=>decide (i<j)
 | .inr a,.inr c=>decide (a.cps.toList<c.cps.toList)
 | _,_=>false
noncomputable def bg:List ae->List ae->Bool
 | a::r,b::q=>if a=b then bg r q else dR a b
 | _,_=>false
theorem Bo {a c:Str} (h:a.cps.toList=c.cps.toList):a=c:=by obtain ⟨x⟩:=a;obtain ⟨y⟩:=c;have:x=y:=Array.toList_inj.mp h;rw [this]
theorem Bp {a b c:ae} (h:dR a b=true) (g:dR b c=true):dR a c=true:=by cases a<;>cases b<;>cases c<;>simp only [dR,decide_eq_true_eq] at*<;>first | lia | exact List.lt_trans h g | cases h | cases g
theorem tX {a b:ae} (h:dR a b=true):dR b a=false:=by cases a<;>cases b<;>simp only [dR,decide_eq_true_eq,decide_eq_false_iff_not] at*<;>first | lia | exact List.lt_asymm h | cases h
theorem Bq {a b:ae} (hs:br a=br b) (hn:a≠b) (h:dR a b=false):dR b a=true:=by
 cases a<;>cases b<;>simp only [dR,decide_eq_true_eq,decide_eq_false_iff_not] at *
 ·rename_i i j;have:i≠j:=fun e=>hn (by rw [e]);lia
 ·cases hs
 ·cases hs
 ·rename_i x y;refine Classical.byContradiction fun g=>hn ?_;rw [Bo (List.le_antisymm (List.not_lt.mp g) (List.not_lt.mp h))]
theorem tY:∀ {a b c:List ae},bg a b=true->bg b c=true->bg a c=true
 | a::r,b::q,c::p,h,g=>by
  unfold bg at h g ⊢;by_cases e1:a=b
  ·subst e1;rw [if_pos rfl] at h;by_cases e2:a=c
   ·subst e2;rw [if_pos rfl] at g ⊢;exact tY h g
   ·rw [if_neg e2] at g ⊢;exact g
  ·rw [if_neg e1] at h;by_cases e2:b=c
   ·subst e2;rw [if_neg e1];exact h
   ·rw [if_neg e2] at g;have e3:a≠c:=fun z=>by subst z;rw [tX h] at g;cases g
    rw [if_neg e3];exact Bp h g
 | [],_,_,h,_=>by unfold bg at h;cases h
 | _::_,[],_,h,_=>by unfold bg at h;cases h
 | _::_,_::_,[],_,g=>by unfold bg at g;cases g
theorem gy:∀ {a b:List ae},bg a b=true->bg b a=false
 | a::r,b::q,h=>by
  unfold bg at h ⊢;by_cases e1:a=b
  ·subst e1;rw [if_pos rfl] at h ⊢;exact gy h
  ·rw [if_neg e1] at h;rw [if_neg (Ne.symm e1)];exact tX h
 | [],_,h=>by unfold bg at h;cases h
 | _::_,[],h=>by unfold bg at h;cases h
theorem lR:∀ {a b:List ae},a.map br=b.map br->a≠b->bg a b=false->bg b a=true
 | a::r,b::q,hs,hn,h=>by
  unfold bg at h ⊢;have hs':=List.cons.inj hs;by_cases e1:a=b
  ·subst e1;rw [if_pos rfl] at h ⊢;exact lR hs'.2 (fun z=>hn (by rw [z])) h
  ·rw [if_neg e1] at h;rw [if_neg (Ne.symm e1)];exact Bq hs'.1 e1 h
 | [],[],_,hn,_=>absurd rfl hn
 | [],_::_,hs,_,_=>by cases hs
 | _::_,[],hs,_,_=>by cases hs
theorem Br {prog:Program} {w:World} {A:Around} {E:Value->Shared->Prop} {fl:Bool} {Q:Bool->Shared->Prop} {s:Shared} {a b:ae} {u v:Value} (ra:RelV (kV a) u) (rb:RelV (kV b) v) (h:br a=br b) (q:Q (dR a b) s):wpAny (model prog w) A (oneLt' fl u v) Q E s:=by
 cases a with
 | inl i =>
  cases b with
  | inr y=>cases h
  | inl j =>
   obtain ⟨t,rfl⟩:=(show ∃ t,u=Value.int i t from ra)
   obtain ⟨t',rfl⟩:=(show ∃ t,v=Value.int j t from rb)
   cases fl with
   | true=>exact kat_lt_int q
   | false=>exact kat_one _ _ (lt_int q)
 | inr x =>
  cases b with
  | inl j=>cases h
  | inr y =>
   obtain ⟨t,rfl⟩:=(show ∃ t,u=Value.str x t from ra)
   obtain ⟨t',rfl⟩:=(show ∃ t,v=Value.str y t from rb)
   cases fl with
   | true=>exact kas_lt_str q
   | false=>exact kat_one _ _ (lt_str q)
theorem oM {prog:Program} {w:World} {A:Around} {fl:Bool} {Q:Bool->Shared->Prop} {s:Shared}:∀ {a b:List ae} {us vs:List Value} (i:Nat),aD (a.map kV) us->aD (b.map kV) vs->a.map br=b.map br->Q (bg a b) s->KatLex prog w A fl false Q (us.zip vs) i s
 | [],[],us,vs,i,ra,rb,h,q=>by cases ra;cases rb;unfold KatLex;exact q
 | [],_::_,us,vs,i,ra,rb,h,q=>by cases h
 | _::_,[],us,vs,i,ra,rb,h,q=>by cases h
 | a::r,b::t,us,vs,i,ra,rb,h,q=>by
  cases ra with
  | @cons _ u _ us ra1 ra2 =>
   cases rb with
   | @cons _ v _ vs rb1 rb2 =>
    simp only [List.map_cons,List.cons.injEq] at h;show KatLex prog w A fl false Q ((u,v)::us.zip vs) i s;unfold KatLex;refine (bF prog w).eqBool (fR ra1) (fR rb1) ?_;unfold bg at q;by_cases e:a=b
    ·rw [if_pos e] at q;rw [if_pos (Qs e)];exact oM (i+1) ra2 rb2 h.2 q
    ·rw [if_neg e] at q;rw [if_neg (by rw [Qj e];exact Qt)];exact Br ra1 rb1 h.1 q
noncomputable def eP (ds:List (List ae)) (i j:Nat):Bool:=bg (ds.getD i []) (ds.getD j [])
structure ki (n:Nat) (lt:Nat->Nat->Bool):Prop where
 as:∀ a b,a<n->b<n->lt a b=true->lt b a=false
 tr:∀ a b c,a<n->b<n->c<n->lt b a=false->lt c b=false->lt c a=false
open Classical in
noncomputable def c7 (n:Nat) (lt:Nat->Nat->Bool):Array Nat:=if h:0<n/\ki n lt then Classical.choose (tW n lt h.1 h.2.as h.2.tr) else (List.range n).toArray
theorem oN {n:Nat} {lt:Nat->Nat->Bool} (h0:0<n) (o:ki n lt):((c7 n lt).Perm (List.range n).toArray/\Sg lt (c7 n lt) 0 n/\(Sg lt (List.range n).toArray 0 n->c7 n lt=(List.range n).toArray))/\∃ (Ff:Array (Nat × Nat × Nat)) (g:Nat),∀ (e:Ev) (prog:Program) (w:World) (A:Around) (E:Value->Shared->Prop) (s:Shared),oG n lt e prog w A s ->
  ∀ Q:Unit->SortSt->Shared->Prop,Q () (av (c7 n lt) Ff g e) s->kasC (model prog w) A E sortRuns' Q (av (List.range n).toArray #[] 7 e) s:=by
 unfold c7;rw [dif_pos ⟨h0,o⟩];exact Classical.choose_spec (tW n lt h0 o.as o.tr)
theorem tZ (n:Nat) (lt:Nat->Nat->Bool):(c7 n lt).Perm (List.range n).toArray:=by
 by_cases h:0<n/\ki n lt
 ·exact (oN h.1 h.2).1.1
 ·unfold c7;rw [dif_neg h]
theorem ua (n:Nat) (lt:Nat->Nat->Bool):(c7 n lt).size=n:=by rw [(tZ n lt).size_eq];simp
theorem oO {n:Nat} (lt:Nat->Nat->Bool) (h0:0<n):aV n (c7 n lt):=fun x hx=>by simpa using (Array.perm_iff_toList_perm.mp (tZ n lt)).mem_iff.mp hx
theorem oP {ds:List (List ae)} {sh:List Bool} (FR:∀ d∈ds,d.map br=sh):ki ds.length (eP ds):=by
 have gd:∀ i,i<ds.length->(ds.getD i []).map br=sh:=fun i hi=>FR _ (by
  rw [Qg,Qa hi]
  exact QB hi)
 have ir:∀ x:List ae,bg x x=false:=fun x=>by
  cases e:bg x x with
  | false=>rfl
  | true=>rw [gy e] at e;cases e
 refine ⟨fun a b _ _ h=>gy h,fun a b c ha hb hc h1 h2=>?_⟩;unfold eP at h1 h2 ⊢;have s1:=gd a ha;have s2:=gd b hb;have s3:=gd c hc;generalize ds.getD a []=x at *;generalize ds.getD b []=y at *;generalize ds.getD c []=z at *;by_cases e1:y=x
 ·subst e1;exact h2
 by_cases e2:z=y
 ·subst e2;exact h1
 exact gy (tY (lR (s2.trans s1.symm) e1 h1) (lR (s3.trans s2.symm) e2 h2))
theorem ub {prog:Program} {w:World} {A:Around} {E:Value->Shared->Prop} {κ:SortKind} {ks vs:List Value} {lt:Nat->Nat->Bool} {s:Shared} (hl:ks.length=vs.length) (h2:2<=vs.length) (ho:ki vs.length lt)
  (hc:∀ i j,i<vs.length->j<vs.length->∀ C:Bool->Shared->Prop,C (lt i j) s->kas_ask prog w A κ ks i j C s) :
  wpAny (model prog w) A ((sortRuns').run (SortSt.mk' κ (ks.toArray.zip vs.toArray) #[] 7 none)) (fun r s'=>s'=s/\failedOf r.2=none/\(arrOf r.2).size=vs.length/\arrOf r.2=Array.map (kas_item (ks.toArray.zip vs.toArray)) (c7 vs.length lt)) E s:=by
 obtain ⟨⟨h3,h4⟩,Ff,g,run⟩:=oN (n:=vs.length) (lt:=lt) (by lia) ho;have est:SortSt.mk' κ (ks.toArray.zip vs.toArray) #[] 7 none=av (List.toArray (List.range vs.length)) #[] 7 ⟨κ,ks.toArray.zip vs.toArray⟩:=by have e:=kas_range (ks.toArray.zip vs.toArray);rw [show (ks.toArray.zip vs.toArray).size=vs.length by simp [hl]] at e;exact congrArg (fun a=>SortSt.mk' κ a #[] 7 none) e.symm
 rw [est];rw [kat_ask_eq hl] at hc;exact run ⟨κ,ks.toArray.zip vs.toArray⟩ prog w A E s hc (fun r FL s'=>s'=s/\failedOf FL=none/\(arrOf FL).size=vs.length/\arrOf FL=Array.map (kas_item (ks.toArray.zip vs.toArray)) (c7 vs.length lt)) ⟨rfl,rfl,by show (Array.map _ _).size=_;rw [Array.size_map];exact ua _ _,rfl⟩
noncomputable def cC (ds:List (List ae)):List Nat:=if ds.length<2 then List.range ds.length else (c7 ds.length (eP ds)).toList
noncomputable def bZ (ds:List (List ae)) (xs:List V):List V:=(cC ds).map fun i=>xs.getD i .non
def bP (H:Hp) (xs:List V) (ds:List (List ae)):Prop:=xs.length=ds.length/\∀ (i:Nat) (x:V) (d:List ae),xs[i]?=some x->ds[i]?=some d->∃ t,x=.ref t/\H t=some (.tup (d.map kV))
theorem kj {X:Cx} {Fd:List (Addr × Obj)} {σ:St} {H:Hp} {s:Shared} (I:Inv X Fd σ H s) {t:Addr} {d:List ae} (h:H t=some (.tup (d.map kV))):∃ (o:Obj) (vs:List Value) (n:Nat),s.heap.get? t=some o/\o.cls=.type "tuple"/\o.data=.seq vs.toArray n/\aD (d.map kV) vs:=by obtain ⟨_,its,rv,⟨o,ho,hc,n,hd⟩,_⟩:=I.hok t _ h;exact ⟨o,its,n,ho,hc,hd,rv⟩
theorem oQ {X:Cx} {Fd:List (Addr × Obj)} {σ:St} {H:Hp} {s:Shared} (I:Inv X Fd σ H s):∀ {xs:List V} {ds:List (List ae)} {its:List Value},aD xs its->bP H xs ds->(∀ d∈ds,d≠[])->∃ fs:List Value,KatTups s.heap its fs/\fs.length=ds.length/\∀ (i:Nat) (f:Value) (d:List ae),fs[i]?=some f->ds[i]?=some d->∃ k r,d=k::r/\RelV (kV k) f
 | [],[],_,rv,h,_=>by cases rv;exact ⟨[],KatTups.nil,rfl,fun i f d h=>by simp at h⟩
 | [],_::_,_,_,h,_=>by simp [bP] at h
 | _::_,[],_,_,h,_=>by simp [bP] at h
 | x::xs,d::ds,_,rv,h,hn=>by
  cases rv with
  | @cons _ u _ us r1 r2 =>
   obtain ⟨t,rfl,ht⟩:=h.2 0 x d rfl rfl;cases (show u=Value.ref t from r1);obtain ⟨o,vs,n,ho,hc,hd,rd⟩:=kj I ht;obtain ⟨fs,k1,k2,k3⟩:=oQ I r2 (ds:=ds) ⟨by simpa using h.1,fun i y e a b=>h.2 (i+1) y e a b⟩ fun e he=>hn e (Qw _ he)
   cases d with
   | nil=>exact absurd rfl (hn [] (by simp))
   | cons k r =>
    cases rd with
    | @cons _ f _ gs q1 q2 =>
     refine ⟨f::fs,KatTups.cons ho hc hd (by simp) k1,by simp [k2],fun i g e a b=>?_⟩
     cases i with
     | zero =>
      have e1:f=g:=by simpa using a
      have e2:k::r=e:=by simpa using b
      subst e1 e2;exact ⟨k,r,rfl,q1⟩
     | succ i=>exact k3 i g e a b
theorem lS:∀ {xs:List V} {vs:List Value},aD xs vs->∀ i,i<xs.length->RelV (xs.getD i .non) (vs.getD i Value.none)
 | _,_,.nil,i,h=>by simp at h
 | _,_,.cons r1 r2,0,_=>r1
 | _,_,.cons r1 r2,i+1,h=>lS r2 i (by simpa using h)
theorem oR {xs:List V} {vs:List Value} (r:aD xs vs):∀ p:List Nat,(∀ i∈p,i<xs.length)->aD (p.map fun i=>xs.getD i .non) (p.map fun i=>vs.getD i Value.none)
 | [],_=>.nil
 | i::p,h=>.cons (lS r i (h i (by simp))) (oR r p fun j hj=>h j (Qw _ hj))
theorem uc {α:Type} (d:α):∀ xs:List α,(List.range xs.length).map (fun i=>xs.getD i d)=xs:=by intro xs;refine List.ext_getElem (by simp) fun i h1 h2=>?_;simp [Qa h2]
section
variable {X:Cx} {Fd:List (Addr × Obj)} {σ:St} {H:Hp} {s:Shared} {xs:List V} {ds:List (List ae)} {sh:List Bool}
theorem Bs {A:Around} {E:Value->Shared->Prop} {a:Addr} {its:List Value} {n:Nat} {P:Fin->Shared->Prop}
  (I:Inv X Fd σ H s) (fa:cR X Fd H a) (ho:s.heap.get? a=some (seqObj "list" its.toArray n)) (rv:aD xs its) (hz:xs.length<=sizeLine) (ht:bP H xs ds) (FR:∀ d∈ds,d.map br=sh) (Fq:sh≠[])
  (fin:∀ (s':Shared) (out:Array Value) (n':Nat),Inv X Fd σ H s'->s'.heap.get? a=some (seqObj "list" out n')->out.size<=sizeLine->aD (bZ ds xs) out.toList->P (.done (.ret .none)) s') :
  wpAny (model X.prog X.w) A (Builtin.«list.sort» ⟨[.ref a],[]⟩) P E s:=by
 have FY:its.length=xs.length:=rv.length.symm;rw [<- FY] at hz;obtain ⟨f0,f1,f2,f3,f4,f5⟩:=id fa;rw [list_sort_plain];refine Qb (listItems_at ho rfl ?_);refine Qb (listUpdate_at ho rfl ?_ (by rw [Qk];exact hz) (by show (#[]:Array Value).size<=_;simp))
 obtain ⟨e1,Jj⟩:∃ e1,(s.heap.update a (Obj.mapSeq fun _=>#[])).get? a=some (seqObj "list" #[] e1):=⟨_,get?_update_seq ho (fun _=>#[])⟩
 have I1:Inv X Fd σ H { s with heap:=s.heap.update a (Obj.mapSeq fun _=>#[]) }:=I.turned (t':=s.toks) (fun b o hb e=>by rw [QS _ _ _ _ hb];exact e) f0 f1 f3 f4 f5;generalize s.heap.update a (Obj.mapSeq fun _=>#[])=h1 at Jj I1;refine Qb (seqEpoch_at (s:={ s with heap:=h1 }) Jj rfl ?_);refine Qb (wpAny_newTuple (s:={ s with heap:=h1 }) ?_ (by simpa using hz));have Hw:=Qd (seqObj "tuple" its.toArray.toList.toArray 0) Jj;have I2:Inv X Fd σ H { s with heap:=h1.push (seqObj "tuple" its.toArray.toList.toArray 0) }:=I1.kept (t':=s.toks) fun b o e=>Qd _ e;change wpAny _ _ _ _ _ { s with heap:=h1.push (seqObj "tuple" its.toArray.toList.toArray 0) };generalize h1.push (seqObj "tuple" its.toArray.toList.toArray 0)=h2 at Hw I2;refine Qb (wpAny_newList (s:={ s with heap:=h2 }) ?_ (by simp));have ho3:=Qd (seqObj "list" #[] 0) Hw;have I3:Inv X Fd σ H { s with heap:=h2.push (seqObj "list" #[] 0) }:=I2.kept (t':=s.toks) fun b o e=>Qd _ e;change wpAny _ _ _ _ _ { s with heap:=h2.push (seqObj "list" #[] 0) };generalize h2.push (seqObj "list" #[] 0)=h3 at ho3 I3;dsimp only;refine wpAny_holding ?_;have ho3:({ s with heap:=h3 }:Shared).heap.get? a=some (seqObj "list" #[] e1):=ho3;generalize { s with heap:=h3 }=s3 at I3 ho3 ⊢
 have FJ:∀ FL:SortSt,failedOf FL=none->((arrOf FL).map (·.2)).size<=sizeLine->aD (bZ ds xs) ((arrOf FL).map (·.2)).toList->wpAny (model X.prog X.w) A (do
   let __do_lift <- seqEpoch a
   Builtin.List.listUpdate (Value.ref a) fun x=>Array.map (fun x=>x.snd) (arrOf FL)
   match failedOf FL with
    | some e=>do
     rule "list.sort.comparison-raised"
     throw e
     if (__do_lift != e1)=true then do
         rule "list.sort.modified"
         raiseErrorWords "ValueError" "list modified during sort"
         ret Value.none
      else ret Value.none
    | x =>
     if (__do_lift != e1)=true then do
      rule "list.sort.modified"
      raiseErrorWords "ValueError" "list modified during sort"
      ret Value.none
     else ret Value.none) P E s3:=by
  intro FL hf hsz hv;refine Qb (seqEpoch_at ho3 rfl ?_);refine Qb (listUpdate_at ho3 rfl ?_ (by simp) (Nat.le_succ_of_le hsz));rw [hf];simp only [bne_self_eq_false,QM,if_false];exact Qf (fin _ _ _ (I3.turned (t':=s3.toks) (fun b o hb e=>by rw [QS _ _ _ _ hb];exact e) f0 f1 f3 f4 f5) (get?_update_seq ho3 (fun _=>(arrOf FL).map (·.2))) hsz hv)
 have HW:ds.length=its.length:=by rw [FY];exact ht.1.symm
 by_cases h2:its.toArray.size<2
 ·rw [if_pos h2];refine Qb (Qf ?_);rw [if_pos h2,StateT.run_pure];refine Qb (Qf ?_);have e:((arrOf (SortSt.mk' general' (its.toArray.zip its.toArray) #[] 7 none)).map (·.2))=its.toArray:=by show (its.toArray.zip its.toArray).map (·.2)=its.toArray;rw [<- Array.toList_inj];simp [List.map_snd_zip]
  refine FJ _ rfl (by rw [e,Qk];exact hz) ?_;rw [e];rw [Qk] at h2;unfold bZ cC;rw [if_pos (by rw [HW];exact h2),HW,FY,uc];exact rv
 ·rw [if_neg h2];rw [Qk] at h2;have hnn:∀ d∈ds,d≠[]:=fun d hd z=>Fq (by rw [<- FR d hd,z];rfl);obtain ⟨fs,kt,kl,kf⟩:=oQ I3 rv ht hnn;have hds:2<=its.length:=by lia
  obtain ⟨b0,sh',rfl⟩:∃ b r,sh=b::r:=by
   cases sh with
   | nil=>exact absurd rfl Fq
   | cons b r=>exact ⟨b,r,rfl⟩
  refine Qb (kat_kind (T:=if b0=true then Value.type "int" else Value.type "str") kt (by rw [kl,HW];lia) (fun v hv=>?_) (by cases b0<;>rfl) ?_)
  ·obtain ⟨i,hi⟩:=List.mem_iff_getElem?.mp hv;have hil2:=(Qh hi).1;have IE:i<ds.length:=by rw [<- kl];exact hil2
   obtain ⟨k,r,ed,rk⟩:=kf i v ds[i] hi (Qa IE);have hs:=FR ds[i] (QB IE);rw [ed,List.map_cons] at hs;have hb:br k=b0:=(List.cons.inj hs).1
   cases k with
   | inl m =>
    obtain ⟨t,rfl⟩:=(show ∃ t,v=Value.int m t from rk)
    rw [<- hb];exact fun A Q E s _ q=>Qf q
   | inr z =>
    obtain ⟨t,rfl⟩:=(show ∃ t,v=Value.str z t from rk)
    rw [<- hb];exact fun A Q E s _ q=>Qf q
  rw [if_neg (by rw [Qk];exact h2)];refine Qb (QR (ub (vs:=its) (ks:=its) (lt:=eP ds) rfl hds (by rw [FY,ht.1];exact oP FR) fun i j hi hj C hC=>?_) ?_ fun _ _ e=>e)
  ·have one:∀ i,i<its.length->∃ (t:Addr) (o:Obj) (vs:List Value) (m:Nat),its.getD i Value.none=.ref t/\s3.heap.get? t=some o/\o.data=.seq vs.toArray m/\aD ((ds.getD i []).map kV) vs/\(ds.getD i []).map br=b0::sh':=fun i hi=>by
    have Hr:i<xs.length:=by rw [<- FY];exact hi
    have IE:i<ds.length:=by rw [HW];exact hi
    obtain ⟨t,ex,hH⟩:=ht.2 i xs[i] ds[i] (Qa Hr) (Qa IE);obtain ⟨o,vs,m,ho,hc,hd,rd⟩:=kj I3 hH;have rg:=lS rv i Hr;have e1:xs.getD i .non=.ref t:=by rw [Qg,Qa Hr,ex];rfl
    have e2:ds.getD i []=ds[i]:=by rw [Qg,Qa IE];rfl
    rw [e1] at rg;exact ⟨t,o,vs,m,rg,ho,hd,by rw [e2];exact rd,by rw [e2];exact FR _ (QB IE)⟩
   obtain ⟨t1,o1,v1,m1,a1,a2,a3,a4,a5⟩:=one i hi;obtain ⟨t2,o2,v2,m2,c1,c2,c3,c4,c5⟩:=one j hj;show wpAny (model X.prog X.w) A (keyLt' _ (its.getD i Value.none) (its.getD j Value.none)) C _ s3;rw [a1,c1];have hl:v1.length=v2.length:=by have q1:=a4.length;have q2:=c4.length;have q3:=congrArg List.length (a5.trans c5.symm);simp only [Qe] at q1 q2 q3;lia
   refine kat_lt a2 a3 c2 c3 ?_;rw [Qj (by simp [hl])];exact oM 0 a4 c4 (a5.trans c5.symm) hC
  rintro ⟨⟨⟩,FL⟩ s2 ⟨rfl,hf,hsz,ha⟩;have hp:aV its.length (c7 its.length (eP ds)):=oO _ (by lia);have em:((arrOf FL).map (·.2)).toList=(c7 its.length (eP ds)).toList.map fun i=>its.getD i Value.none:=by rw [ha,Array.toList_map,Array.toList_map,List.map_map];refine List.map_congr_left fun i _=>?_;show (kas_item (its.toArray.zip its.toArray) i).2=_;rw [kat_item rfl]
  refine FJ FL hf ?_ ?_
  ·rw [Array.size_map,hsz];exact hz
  ·rw [em];unfold bZ cC;rw [if_neg (by rw [HW];exact h2),HW];exact oR rv _ fun i hi=>by rw [<- FY];exact hp i hi
end
section
variable {X:Cx} {k:Nat} {f:Addr} {fd:FuncData} {ps:List Str} {sp:Sp} {FV:List V} {ds:List Value} {Fd:List (Addr × Obj)} {σ:St} {H:Hp} {s:Shared} {xs:List V} {FP:List (List ae)} {sh:List Bool}
theorem Bt {A:Around} {E:Value->Shared->Prop} {a:Addr} {its:List Value} {n:Nat} {P:Fin->Shared->Prop} (F:aB X.prog X.w X.K X.mg X.base aE k f fd ps sp) (hr:ar k A)
  (hA:∀ s H,d5 X.prog X.w X.K X.mg X.base X.A X.stack s H->d5 X.prog X.w X.K X.mg X.base A X.stack s H) (hb:Binds X.K fd ps ds) (hd:aD FV ds)
  (I:Inv X Fd σ H s) (fa:cR X Fd H a) (ho:s.heap.get? a=some (seqObj "list" its.toArray n)) (rv:aD xs its) (h64:xs.length<64) (hl:FP.length=xs.length) (FR:∀ d∈FP,d.map br=sh) (Fq:sh≠[])
  (hk:∀ (i:Nat) (x:V) (d:List ae) (H':Hp),Same H H'->xs[i]?=some x->FP[i]?=some d->∀ Q':VK,(∀ t H2,Same H' H2->H2 t=some (.tup (d.map kV))->Q' (.ref t) H2)->sp ([x]++FV) H' Q' E0)
  (fin:∀ (s':Shared) (H':Hp) (out:Array Value) (n':Nat),Same H H'->H' a=none->Inv X Fd σ H' s'->s'.heap.get? a=some (seqObj "list" out n')->out.size<=sizeLine->aD (bZ FP xs) out.toList->P (.done (.ret .none)) s') :
  wpAny (model X.prog X.w) A (Builtin.«list.sort» ⟨[.ref a],[(Str.ofString "key",.ref f)]⟩) P E s:=by
 have FY:its.length=xs.length:=rv.length.symm;have hz:its.length<=sizeLine:=by rw [sizeLine_eq];lia
 obtain ⟨f0,f1,f2,f3,f4,f5⟩:=id fa;rw [A6];refine Qb (listItems_at ho rfl ?_);refine Qb (listUpdate_at ho rfl ?_ (by rw [Qk];exact hz) (by show (#[]:Array Value).size<=_;simp))
 obtain ⟨e1,Jj⟩:∃ e1,(s.heap.update a (Obj.mapSeq fun _=>#[])).get? a=some (seqObj "list" #[] e1):=⟨_,get?_update_seq ho (fun _=>#[])⟩
 have I1:Inv X Fd σ H { s with heap:=s.heap.update a (Obj.mapSeq fun _=>#[]) }:=I.turned (t':=s.toks) (fun b o hb e=>by rw [QS _ _ _ _ hb];exact e) f0 f1 f3 f4 f5;generalize s.heap.update a (Obj.mapSeq fun _=>#[])=h1 at Jj I1;refine Qb (seqEpoch_at (s:={ s with heap:=h1 }) Jj rfl ?_);refine Qb (wpAny_newTuple (s:={ s with heap:=h1 }) ?_ (by simpa using hz));have Hw:=Qd (seqObj "tuple" its.toArray.toList.toArray 0) Jj;have I2:Inv X Fd σ H { s with heap:=h1.push (seqObj "tuple" its.toArray.toList.toArray 0) }:=I1.kept (t':=s.toks) fun b o e=>Qd _ e;change wpAny _ _ _ _ _ { s with heap:=h1.push (seqObj "tuple" its.toArray.toList.toArray 0) };generalize h1.push (seqObj "tuple" its.toArray.toList.toArray 0)=h2 at Hw I2;refine Qb (wpAny_newList (s:={ s with heap:=h2 }) ?_ (by simp));have ho3:=Qd (seqObj "list" #[] 0) Hw;have hK3:(h2.push (seqObj "list" #[] 0)).get? h2.objs.size=some (seqObj "list" #[] 0):=Qn _ rfl;have fK:cR X Fd H h2.objs.size:=I2.fpOk (Qc _) (I2.hok.fresh (Qc _));have naK:a≠h2.objs.size:=QC (Ql Hw);have I3:Inv X Fd σ H { s with heap:=h2.push (seqObj "list" #[] 0) }:=I2.kept (t':=s.toks) fun b o e=>Qd _ e;change wpAny _ _ _ _ _ { s with heap:=h2.push (seqObj "list" #[] 0) };generalize h2.push (seqObj "list" #[] 0)=h3 at ho3 hK3 I3;dsimp only;generalize h2.objs.size=K at hK3 fK naK;obtain ⟨g0,g1,g2,g3,g4,g5⟩:=id fK;refine wpAny_holding ?_;refine Qb (wpAny_rule ?_);refine Qb ?_;rw [<- Array.forIn_toList]
 refine wpAny_forIn_list _ (fun FE _ s'=>∃ (i:Nat) (kv:List Value) (kx:List V) (n':Nat) (H':Hp),FE=its.drop i/\Same H H'/\H' a=none/\H' K=none/\Inv X Fd σ H' s'/\s'.heap.get? a=some (seqObj "list" #[] e1)/\s'.heap.get? K=some (seqObj "list" kv.toArray n')/\aD kx kv/\bP H' kx (FP.take i)/\i<=its.length) _ ?_ ?_ _ _
  ⟨0,[],[],0,H,by simp,Same.refl _,f0,g0,I3,ho3,hK3,.nil,⟨by simp,fun i x d h=>by simp at h⟩,Qr _⟩
 ·rintro x FE b s' ⟨i,kv,kx,n',H1,er,sm,na1,nK1,I',hoa,hoK,rk,tk,hi⟩;have Fl:i<its.length:=by have:=congrArg List.length er;simp at this;lia
  have e2:its[i]?=some x/\its.drop (i+1)=FE:=by rw [List.drop_eq_getElem_cons Fl] at er;obtain ⟨z1,z2⟩:=List.cons.inj er;exact ⟨by rw [Qa Fl,z1],z2.symm⟩
  have Hr:i<xs.length:=by lia
  have Gq:i<FP.length:=by lia
  obtain ⟨u,eu,ru⟩:=rv.get (Qa Hr);rw [e2.1] at eu;cases eu;have r1:aD ([xs[i]]++FV) ([x]++ds):=aD.append (.cons ru .nil) hd
  have Jd:=hk i xs[i] FP[i] H1 sm (Qa Hr) (Qa Gq) (fun v H2=>∃ t,v=.ref t/\Same H1 H2/\H2 t=some (.tup (FP[i].map kV))) fun t H2 a b=>⟨t,rfl,a,b⟩
  have Fj:([x]++ds).length=ps.length:=by rw [<- r1.length];exact F.len _ _ _ _ Jd
  have ho2':∀ b∈[a,K],∃ o,s'.heap.get? b=some o/\∀ v,o.data≠.cell v:=by
   intro b hb;rcases Qm hb with z | z
   ·subst z;exact ⟨_,hoa,fun v z=>nomatch z⟩
   ·have z:b=K:=by simpa using z
    subst z;exact ⟨_,hoK,fun v z=>nomatch z⟩
  have hf2:∀ b∈[a,K],cR X Fd H1 b:=by
   intro b hb;rcases Qm hb with z | z
   ·subst z;exact ⟨na1,fa.2⟩
   ·have z:b=K:=by simpa using z
    subst z;exact ⟨nK1,fK.2⟩
  have Ip:=I'.pinned hf2 ho2';refine Qb (wpAny_attempt ?_);refine wpAny_call (codeAny_mono (F.run A X.stack s' H1 ⟨[x],[]⟩ ([x]++ds) ([xs[i]]++FV) _ E0 hr (hA _ _ I'.env0) (hb s' [x] I'.kIn Fj) r1 Jd) fun r s2 hq=>?_)
  cases r with
  | error e=>exact False.elim hq
  | ok fl =>
   cases fl with
   | next=>exact False.elim hq
   | brk=>exact False.elim hq
   | cont=>exact False.elim hq
   | ret u =>
    obtain ⟨v,H2,os,bare,un,hok,rr,t,ev,sm2,FM⟩:=(show CE X.stack X.prog X.w H1 s' _ u s2 from hq)
    subst ev;cases (show u=Value.ref t from rr);have I2':=Ip.call' os un hok bare (fun b z=>absurd z (by simp));have pa:=I2'.pin (a,_) (Qx _ (Qx _ (gh (by simp) hoa)));have pK:=I2'.pin (K,_) (Qx _ (Qx _ (gh (by simp) hoK)));have Jw:=pa.1;have hoK2:=pK.1;have I3':=I2'.unpinned;have Ij:kx.length=i:=by have:=tk.1;rw [QJ] at this;lia
    have FT:kv.length<=64:=by have:=rk.length;lia
    dsimp only;refine Qb (listUpdate_at hoK2 rfl ?_ (by rw [Qk,sizeLine_eq];lia) (by rw [Array.size_push,Qk,sizeLine_eq];lia))
    obtain ⟨n2,Ge⟩:∃ n2,(s2.heap.update K (Obj.mapSeq (·.push (Value.ref t)))).get? K=some (seqObj "list" (kv++[Value.ref t]).toArray n2):=⟨_,(get?_update_seq hoK2 (·.push (Value.ref t))).trans (by rw [List.push_toArray])⟩
    refine Qf ⟨i+1,kv++[Value.ref t],kx++[.ref t],n2,H2,e2.2.symm,sm.trans sm2,pa.2.1,pK.2.1,I3'.turned (t':=s2.toks) (fun b o hb e=>by rw [QS _ _ _ _ hb];exact e) pK.2.1 g1 g3 g4 g5,?_,Ge,rk.append (.cons (show RelV (.ref t) (Value.ref t) from rfl) .nil),?_,Fl⟩
    ·show (s2.heap.update K _).get? a=_;rw [QS _ _ _ _ naK];exact Jw
    ·rw [Qi Gq];refine ⟨by simp only [QE,QJ,QN,List.length_nil];lia,fun j y d hy hd'=>?_⟩;by_cases hj:j<i
     ·rw [QI (by lia)] at hy;rw [QI (by rw [QJ];lia)] at hd';obtain ⟨t',a1,a2⟩:=tk.2 j y d hy hd';exact ⟨t',a1,sm2 _ _ a2⟩
     ·rw [QF (by lia)] at hy;rw [QF (by rw [QJ];lia)] at hd';have hj2:=(Qh hy).1;have hji:j-kx.length=0:=by simp at hj2;lia
      rw [hji] at hy;rw [show j-(List.take i FP).length=0 by rw [QJ];lia] at hd';have y1:V.ref t=y:=by simpa using hy
      have d1:FP[i]=d:=by simpa using hd'
      exact ⟨t,y1.symm,by rw [<- d1];exact FM⟩
 ·rintro b s' ⟨i,kv,kx,n',H1,er,sm,na1,nK1,I',hoa,hoK,rk,tk,hi⟩;have hi':i=its.length:=by have:=congrArg List.length er;simp at this;lia
  have tk':bP H1 kx FP:=by rw [hi',Qo (by lia)] at tk;exact tk
  have FT:kv.length=its.length:=by rw [<- rk.length,tk'.1];lia
  clear tk er hi hi';have HW:FP.length=its.length:=by lia
  refine Qb (listItems_at hoK rfl ?_)
  have FJ:∀ FL:SortSt,failedOf FL=none->((arrOf FL).map (·.2)).size=its.length->aD (bZ FP xs) ((arrOf FL).map (·.2)).toList->wpAny (model X.prog X.w) A (do
    Builtin.List.listUpdate (.ref K) fun _=>#[]
    letGo ((arrOf FL).map (·.1)).toList (failedOf FL).toList
    let touched:=(<- seqEpoch a) != e1
    Builtin.List.listUpdate (.ref a) fun _=>(arrOf FL).map (·.2)
    if let some e:=failedOf FL then rule "list.sort.comparison-raised";throw e
    if touched then rule "list.sort.modified";raiseError "ValueError" "list modified during sort"
    ret .none) P E s':=by
   intro FL hf hsz vy;refine Qb (listUpdate_at hoK rfl ?_ (by rw [Qk];lia) (by show (#[]:Array Value).size<=_;simp));refine Qb (wpAny_letGo ?_);have Jw:(s'.heap.update K (Obj.mapSeq fun _=>#[])).get? a=some (seqObj "list" #[] e1):=by rw [QS _ _ _ _ naK];exact hoa
   have I2:Inv X Fd σ H1 { s' with heap:=s'.heap.update K (Obj.mapSeq fun _=>#[]) }:=I'.turned (t':=s'.toks) (fun b o hb e=>by rw [QS _ _ _ _ hb];exact e) nK1 g1 g3 g4 g5;refine Qb (seqEpoch_at (s:={ s' with heap:=s'.heap.update K (Obj.mapSeq fun _=>#[]) }) Jw rfl ?_);refine Qb (listUpdate_at (s:={ s' with heap:=s'.heap.update K (Obj.mapSeq fun _=>#[]) }) Jw rfl ?_ (by simp) (by rw [hsz];lia));rw [hf];simp only [bne_self_eq_false,QM,if_false];exact Qf (fin _ H1 _ _ sm na1 (I2.turned (t':=s'.toks) (fun b o hb e=>by rw [QS _ _ _ _ hb];exact e) na1 f1 f3 f4 f5) (get?_update_seq Jw (fun _=>(arrOf FL).map (·.2))) (by show ((arrOf FL).map (·.2)).size<=_;rw [hsz];exact hz) vy)
  by_cases h2:its.toArray.size<2
  ·rw [if_pos h2,if_pos h2];refine Qb (Qf ?_);rw [StateT.run_pure];refine Qb (Qf ?_);have e:((arrOf (SortSt.mk' general' (kv.toArray.zip its.toArray) #[] 7 none)).map (·.2))=its.toArray:=by show (kv.toArray.zip its.toArray).map (·.2)=its.toArray;rw [<- Array.toList_inj];simp [List.map_snd_zip,FT]
   refine FJ _ rfl (by rw [e,Qk]) ?_;rw [e];rw [Qk] at h2;unfold bZ cC;rw [if_pos (by rw [HW];exact h2),HW,FY,uc];exact rv
  ·rw [if_neg h2,if_neg h2];rw [Qk] at h2;have hnn:∀ d∈FP,d≠[]:=fun d hd z=>Fq (by rw [<- FR d hd,z];rfl);obtain ⟨fs,kt,kl,kf⟩:=oQ I' rk tk' hnn;have hds:2<=its.length:=by lia
   obtain ⟨b0,sh',rfl⟩:∃ b r,sh=b::r:=by
    cases sh with
    | nil=>exact absurd rfl Fq
    | cons b r=>exact ⟨b,r,rfl⟩
   refine Qb (kat_kind (T:=if b0=true then Value.type "int" else Value.type "str") kt (by rw [kl,HW];lia) (fun v hv=>?_) (by cases b0<;>rfl) ?_)
   ·obtain ⟨i,hi⟩:=List.mem_iff_getElem?.mp hv;have hil2:=(Qh hi).1;have IE:i<FP.length:=by rw [<- kl];exact hil2
    obtain ⟨k,r,ed,rk⟩:=kf i v FP[i] hi (Qa IE);have hs:=FR FP[i] (QB IE);rw [ed,List.map_cons] at hs;have hb:br k=b0:=(List.cons.inj hs).1
    cases k with
    | inl m =>
     obtain ⟨t,rfl⟩:=(show ∃ t,v=Value.int m t from rk)
     rw [<- hb];exact fun A Q E s _ q=>Qf q
    | inr z =>
     obtain ⟨t,rfl⟩:=(show ∃ t,v=Value.str z t from rk)
     rw [<- hb];exact fun A Q E s _ q=>Qf q
   refine Qb (QR (ub (vs:=its) (ks:=kv) (lt:=eP FP) FT hds (by rw [FY,<- hl];exact oP FR) fun i j hi hj C hC=>?_) ?_ fun _ _ e=>e)
   ·have one:∀ i,i<its.length->∃ (t:Addr) (o:Obj) (vs:List Value) (m:Nat),kv.getD i Value.none=.ref t/\s'.heap.get? t=some o/\o.data=.seq vs.toArray m/\aD ((FP.getD i []).map kV) vs/\(FP.getD i []).map br=b0::sh':=fun i hi=>by
     have Hr:i<kx.length:=by rw [tk'.1,HW];exact hi
     have IE:i<FP.length:=by rw [HW];exact hi
     obtain ⟨t,ex,hH⟩:=tk'.2 i kx[i] FP[i] (Qa Hr) (Qa IE);obtain ⟨o,vs,m,ho,hc,hd,rd⟩:=kj I' hH;have rg:=lS rk i Hr;have e1:kx.getD i .non=.ref t:=by rw [Qg,Qa Hr,ex];rfl
     have e2:FP.getD i []=FP[i]:=by rw [Qg,Qa IE];rfl
     rw [e1] at rg;exact ⟨t,o,vs,m,rg,ho,hd,by rw [e2];exact rd,by rw [e2];exact FR _ (QB IE)⟩
    obtain ⟨t1,o1,v1,m1,a1,a2,a3,a4,a5⟩:=one i hi;obtain ⟨t2,o2,v2,m2,c1,c2,c3,c4,c5⟩:=one j hj;show wpAny (model X.prog X.w) A (keyLt' _ (kv.getD i Value.none) (kv.getD j Value.none)) C _ s';rw [a1,c1];have hl:v1.length=v2.length:=by have q1:=a4.length;have q2:=c4.length;have q3:=congrArg List.length (a5.trans c5.symm);simp only [Qe] at q1 q2 q3;lia
    refine kat_lt a2 a3 c2 c3 ?_;rw [Qj (by simp [hl])];exact oM 0 a4 c4 (a5.trans c5.symm) hC
   rintro ⟨⟨⟩,FL⟩ s2 ⟨rfl,hf,hsz,ha⟩;have hp:aV its.length (c7 its.length (eP FP)):=oO _ (by lia);have em:((arrOf FL).map (·.2)).toList=(c7 its.length (eP FP)).toList.map fun i=>its.getD i Value.none:=by rw [ha,Array.toList_map,Array.toList_map,List.map_map];refine List.map_congr_left fun i _=>?_;show (kas_item (kv.toArray.zip its.toArray) i).2=_;rw [kat_item FT]
   refine FJ FL hf (by rw [Array.size_map,hsz]) ?_;rw [em];unfold bZ cC;rw [if_neg (by rw [HW];exact h2),HW];exact oR rv _ fun i hi=>by rw [<- FY];exact hp i hi
theorem Bv {Q:VK} {l:Addr} (F:aB X.prog X.w X.K X.mg X.base aE k f fd ps sp) (hr:ar (k+2) X.A) (hb:Binds X.K fd ps ds) (hd:aD FV ds)
  (I:Inv X Fd σ H s) (hq:ak X.K H l xs) (h64:xs.length<64) (hl:FP.length=xs.length) (FR:∀ d∈FP,d.map br=sh) (Fq:sh≠[])
  (hk:∀ (i:Nat) (x:V) (d:List ae) (H':Hp),Same H H'->xs[i]?=some x->FP[i]?=some d->∀ Q':VK,(∀ t H2,Same H' H2->H2 t=some (.tup (d.map kV))->Q' (.ref t) H2)->sp ([x]++FV) H' Q' E0)
  (q:∀ p H',Same H H'->H' p=none->Q (.ref p) (upd H' p (.lst (bZ FP xs)))) :
  wpAny (model X.prog X.w) X.A (call (.builtin "sorted") [.ref l] [(Str.ofString "key",.ref f)]) (EP X Fd σ Q) X.xe s:=by
 obtain ⟨its,rv,pl,hz⟩:=I.list hq;have FY:its.length=xs.length:=rv.length.symm;refine call_function_entry_kw kind_sorted plain_sorted entry_sorted (A5 _ _) ?_;unfold Builtin.«sorted»;refine Qb (m:=checkCount "sorted" 1 1 _) (Qf ?_);refine Qb (collect_list pl.isList ?_ (by rw [FY];exact hz));have I1:Inv X Fd σ H { s with heap:=(s.heap.push (seqObj "list" #[] 0)).update s.heap.objs.size (Obj.mapSeq (·++its.toArray)) }:=I.kept (t':=s.toks) fun b o e=>by rw [QS _ _ _ _ (QC (Ql e))];exact Qd _ e
 generalize (s.heap.push (seqObj "list" #[] 0)).update s.heap.objs.size (Obj.mapSeq (·++its.toArray))=h1 at I1;refine Qb (wpAny_newList (s:={ s with heap:=h1 }) ?_ (by rw [FY];exact hz));have Ji:(h1.push (seqObj "list" its.toArray 0)).get? h1.objs.size=some (seqObj "list" its.toArray 0):=Qn _ rfl;have I2:Inv X Fd σ H { s with heap:=h1.push (seqObj "list" its.toArray 0) }:=I1.kept (t':=s.toks) fun b o e=>Qd _ e;have fL:cR X Fd H h1.objs.size:=I1.fpOk (Qc _) (I1.hok.fresh (Qc _));change wpAny _ _ _ _ _ { s with heap:=h1.push (seqObj "list" its.toArray 0) };dsimp only;generalize h1.push (seqObj "list" its.toArray 0)=h2 at Ji I2;generalize h1.objs.size=L at Ji fL;have Fm:ar k X.A.in1.in1:=(ar.in1 (k:=k+1) hr).in1;refine Qb (wpAny_holding (wpAny_call_entry_kw (s:={ s with heap:=h2 }) slot_list_sort ⟨_,Ji,rfl⟩ entry_list_sort (Bt F Fm (fun _ _ e=>e.in1.in1) hb hd I2 fL Ji rv h64 hl FR Fq hk fun s' H' out n' sm nL I' hoa F4 vy=>⟨_,rfl,?_⟩) (A4 _ _)));refine Qf ⟨_,rfl,.ref L,upd H' L (.lst (bZ FP xs)),I'.adopt ⟨nL,fL.2⟩ ?_,rfl,q L H' sm nL⟩;have Gc:(bZ FP xs).length<=sizeLine:=by rw [vy.length,Qv];exact F4
 exact ⟨Gc,out.toList,n',vy,by simpa using hoa⟩
end
def Bw (sp:Sp) (FV:List V) (K:PySem.W.Frag) (t:TE):TE:=fun σ H Q=>t σ H fun x H1=>∃ (l:Addr) (xs:List V) (FP:List (List ae)) (sh:List Bool),x=.ref l/\ak K H1 l xs/\xs.length<64/\FP.length=xs.length/\(∀ d∈FP,d.map br=sh)/\sh≠[] /\
 (∀ (i:Nat) (x:V) (d:List ae) (H':Hp),Same H1 H'->xs[i]?=some x->FP[i]?=some d->∀ Q':VK,(∀ t H2,Same H' H2->H2 t=some (.tup (d.map kV))->Q' (.ref t) H2)->sp ([x]++FV) H' Q' E0)/\∀ p H',Same H1 H'->H' p=none->Q (.ref p) (upd H' p (.lst (bZ FP xs)))
theorem Bx {X:Cx} {k:Nat} {f:Addr} {fd:FuncData} {ps:List Str} {sp:Sp} {FV:List V} {ds:List Value} {K:PySem.W.Frag} {e:Expr} {t:TE} {y:Str} {p p2 p3 pos:Pos} (hK:X.K=K) (F:aB X.prog X.w X.K X.mg X.base aE k f fd ps sp) (hr:ar (k+2) X.A) (hb:Binds X.K fd ps ds) (hd:aD FV ds)
  (hg:Gl X "sorted") (hm:X.mg "sorted"=none) (hgf:Gl X y) (hmf:X.mg y=some (.ref f)) (he:PE X e t) (hy:(y == ("__debug__":Str))=false:=by decide)
  (hs:starEach [e] X.env=(false,eval e X.env)::starEach [] X.env:=by rfl) :
  PE X (.Call (.Name "sorted" p) [e] [⟨some "key",.Name y p2,p3⟩] pos) (Bw sp FV K t):=by
 intro Fd s σ H Q I h;subst hK;refine wpAny_Call_Name_kw (iJ I hg hm (show bootBuiltins "sorted"=some (.builtin "sorted") from by decide +kernel) ?_);refine callWith_kw ?_ (by rw [hs];rfl) (by rw [hs];rfl);rw [hs];show wpAny _ _ (spliced ((false,eval e X.env)::backTo pos (starEach [] X.env))) _ _ s;refine Calls.spliced_cons (az (he Fd s σ H _ I h) fun u s1 ⟨x,H1,I1,r1,q1⟩=>Calls.spliced_nil ?_);obtain ⟨l,xs,FP,sh,e1,hq,h64,hl,FR,Fq,hk,q⟩:=q1;subst e1;cases (show u=Value.ref l from r1);refine az ((zw (te:=fun _ H Q=>Q (.ref f) H) (fun Fd s σ H Q I h=>jL I hgf hmf ⟨.ref f,H,I,rfl,h⟩ hy) zv) pos Fd s1 σ H1 (fun zs H2=>zs=[.ref f]/\H2=H1) I1 ⟨rfl,rfl⟩) fun ws s2 hsl62=>?_;obtain ⟨zs,H2,I2,rz,ez,eH⟩:=hsl62;subst ez eH;obtain ⟨u,rfl,ru⟩:=vals1 rz;cases (show u=Value.ref f from ru);exact Bv F hr hb hd I2 hq h64 hl FR Fq hk q
end L2
namespace L2
open PySem PySem.Spec PyProof.Rows
noncomputable def oS (z:Str) (i:Nat):V:=.str ⟨#[z.cps.toList.getD i 0]⟩
theorem By {P:Program} {w:World} {K:PySem.W.Frag} {tg:Expr} (it:Addr) (z:Str) (t:Tok) :
  eE P w K tg (ol z.length (oS z)) [it] it (fun i h=>i<=z.length/\h.IsStrIter it "str_ascii_iterator" z t i) where
 mem:=by simp
 obj:=fun i h st b hb=>by
  have e:b=it:=by simpa using hb
  subst e;obtain ⟨_,o,e,c,d⟩:=st;exact ⟨o,e,fun v z=>by rw [d] at z;cases z⟩
 keep:=fun i h h' st k=>⟨st.1,by obtain ⟨o,e,r⟩:=st.2;exact ⟨o,k it (by simp) o e,r⟩⟩
 item:=by
  intro X hP hw hK hc i Fd s σ H E I hf st hg;subst hP hw hK;have hg:i<z.length:=hg;obtain ⟨f0,f1,f2,f3,f4,f5⟩:=hf it (by simp);have hl:z.cps.toList.length=z.length:=by simp [Str.length]
  have hcc:z.cps[i]?=some (z.cps.toList.getD i 0):=by rw [Qg,Qa (by lia),<- Array.getElem?_toList,Qa (by lia)];rfl
  refine wpAny_pyNext_ascii_item st.2 hcc fun h' FL sb=>?_;have I1:Inv X Fd σ H { s with heap:=h',toks:=s.toks+1 }:=I.turned (fun b o hb e=>(sb.2 b hb).trans e) f0 f1 f3 f4 f5;obtain ⟨o,e,c,d⟩:=id FL;exact ⟨_,rfl,lq (s:={ s with heap:=h',toks:=s.toks+1 }) e c d (by decide) ⟨oS z i,H,I1,⟨s.toks,rfl⟩,⟨rfl,rfl⟩,⟨hg,FL⟩,fun b hb=>(hf b hb).1⟩⟩
 done:=by
  intro X hP hw hK hc i Fd s σ H E I hf st hg;subst hP hw hK;have hg:z.length<=i:=hg;obtain ⟨f0,f1,f2,f3,f4,f5⟩:=hf it (by simp)
  exact wpAny_pyNext_ascii_end (I.ok.hd hc) st.2 (Array.getElem?_eq_none (by show z.length<=i;exact hg)) fun h' eb=>⟨rfl,I.turned (t':=s.toks) (fun b o hb e=>eb b o hb e) f0 f1 f3 f4 f5⟩
 self:=fun _ _ _ _ _ st h=>wpAny_pyIter_striter_ascii st.2 h
section
variable {X:Cx} {tg:Expr}
def Bz (te:TE):TI:=fun σ H R=>te σ H fun x H1=>∃ z:Str,x=.str z/\z.cps.all (·<128)=true/\R (ol z.length (oS z)) H1
theorem BA {e:Expr} {te:TE} (he:PE X e te):PI X tg e (Bz te):=by
 intro Fd s σ H R I h;refine az (he Fd s σ H _ I h) fun v s1 hsl63=>?_;obtain ⟨x,H1,I1,r1,q1⟩:=hsl63;obtain ⟨z,e,ha,q⟩:=q1;subst e;obtain ⟨t,rfl⟩:=r1;refine wpAny_pyIter_ascii ha ?_;refine ⟨s1.heap.objs.size,[s1.heap.objs.size],_,_,H1,rfl,I1.kept (t':=s1.toks) fun b o e=>Qd _ e,By _ z t,⟨Qr _,_,Qn _ rfl,rfl,rfl⟩,fun b hb=>?_,q⟩;have e:b=s1.heap.objs.size:=by simpa using hb
 subst e;exact I1.fpOk (Qc _) (I1.hok.fresh (Qc _))
end
section
variable {X:Cx}
theorem BB {K:PySem.W.Frag} (hK:X.K=K):bD X (compareOp .NotIn) (jW K true):=by subst hK;exact zO
end
section
variable {js:List Nat} {tt:TT} {te:TE}
theorem BC {n:Nat} {y:Nat->V} {σ:St} {H:Hp} {Q:VK} (Pv:Nat->List V->Hp->Prop) (h0:Pv 0 [] H)
  (hs:∀ i ys H,i<n->Pv i ys H->tt (some (y i)::cF js σ) H fun b H2=>if b=true then te (some (y i)::cF js σ) H2 fun z H3=>ys.length<sizeLine/\Pv (i+1) (ys++[z]) H3 else Pv (i+1) ys H2)
  (hd:∀ ys H,Pv n ys H->∀ p,H p=none->Q (.ref p) (upd H p (.lst ys))):lx (ol n y) js tt te σ H Q:=by
 refine ⟨fun i m ys H=>i+m=n/\Pv i ys H,⟨n,by simp,h0⟩,?_⟩;rintro i m ys H1 ⟨e,q⟩;rcases Nat.lt_or_ge i n with Fl | IX
 ·refine .inr ⟨Fl,fun Ho H'=>Pv (i+1) Ho H',fun Ho H' q'=>⟨m-1,by lia,by lia,q'⟩,?_⟩;rintro x H' ⟨rfl,rfl⟩;exact hs i ys _ Fl q
 ·have:i=n:=by lia
  subst this;exact .inl ⟨IX,hd ys H1 q⟩
end
end L2
namespace Mm
open PySem L2 PyProof.Rows
noncomputable def ij:List Str:=["+","-","*","less","same","and","or"]
inductive Ex where
 | num (n:Int)
 | truth (z:Str)
 | name (z:Str)
 | not (e:Ex)
 | op (w:Str) (a b:Ex)
 | of (n:Str) (e:Ex)
 | many (w n:Str) (es:List Ex)
mutual
inductive aS (H:Hp):V->Ex->Prop where
 | num {t:Addr} {n:Int}:H t=some (.tup [.str "num",.int n])->aS H (.ref t) (.num n)
 | truth {t:Addr} {z:Str}:H t=some (.tup [.str "truth",.str z])->aS H (.ref t) (.truth z)
 | name {t:Addr} {z:Str}:H t=some (.tup [.str "name",.str z])->aS H (.ref t) (.name z)
 | not {t:Addr} {v:V} {e:Ex}:H t=some (.tup [.str "not",v])->aS H v e->aS H (.ref t) (.not e)
 | op {t:Addr} {z:Str} {v u:V} {a b:Ex}:H t=some (.tup [.str z,v,u])->aS H v a->aS H u b->aS H (.ref t) (.op z a b)
 | of {t:Addr} {n:Str} {v:V} {e:Ex}:H t=some (.tup [.str "of",.str n,v])->aS H v e->aS H (.ref t) (.of n e)
 | many {t l:Addr} {z n:Str} {vs:List V} {es:List Ex}:H t=some (.tup [.str z,.str n,.ref l])->H l=some (.tup vs)->ExsAt H vs es->aS H (.ref t) (.many z n es)
inductive ExsAt (H:Hp):List V->List Ex->Prop where
 | nil:ExsAt H [] []
 | cons {v:V} {vs:List V} {e:Ex} {es:List Ex}:aS H v e->ExsAt H vs es->ExsAt H (v::vs) (e::es)
end
def oT (H H':Hp):Prop:=∀ b xs,H b=some (.tup xs)->H' b=some (.tup xs)
mutual
theorem aS.kept {H H':Hp} (s:oT H H'):∀ {v:V} {e:Ex},aS H v e->aS H' v e
 | _,_,.num h=>.num (s _ _ h)
 | _,_,.truth h=>.truth (s _ _ h)
 | _,_,.name h=>.name (s _ _ h)
 | _,_,.not h a=>.not (s _ _ h) (a.kept s)
 | _,_,.op h a b=>.op (s _ _ h) (a.kept s) (b.kept s)
 | _,_,.of h a=>.of (s _ _ h) (a.kept s)
 | _,_,.many h l a=>.many (s _ _ h) (s _ _ l) (a.kept s)
theorem ExsAt.kept {H H':Hp} (s:oT H H'):∀ {vs:List V} {es:List Ex},ExsAt H vs es->ExsAt H' vs es
 | _,_,.nil=>.nil
 | _,_,.cons a b=>.cons (a.kept s) (b.kept s)
end
theorem _root_.L2.Same.tups {H H':Hp} (s:Same H H'):oT H H':=fun _ _ h=>s _ _ h
end Mm
namespace L2
open PySem PySem.Spec PyProof.Rows PySem.W
theorem BD:bootBuiltins "sorted"=some (.builtin "sorted"):=by decide +kernel
theorem ud (ds:List (List ae)):(cC ds).length=ds.length:=by
 unfold cC;split
 ·simp
 ·rw [Qv];exact ua _ _
end L2
namespace Mm
open PySem L2 PyProof.Rows
inductive Tr where
 | set (m r:Nat) (n:Str) (e:Ex)
 | tell (m r:Nat) (e:Ex)
 | iff (m r:Nat) (e:Ex) (b o:List Tr)
 | whl (m r:Nat) (e:Ex) (b:List Tr)
 | give (m r:Nat) (e:Ex)
 | df (m r:Nat) (n k:Str) (ps:List (Str × Str)) (b:List Tr)
 | kd (m r:Nat) (n:Str) (ps:List (Str × Str))
noncomputable def Tr.mask:Tr->Nat
 | .set m _ _ _=>m
 | .tell m _ _=>m
 | .iff m _ _ _ _=>m
 | .whl m _ _ _=>m
 | .give m _ _=>m
 | .df m _ _ _ _ _=>m
 | .kd m _ _ _=>m
noncomputable def Tr.row:Tr->Nat
 | .set _ r _ _=>r
 | .tell _ r _=>r
 | .iff _ r _ _ _=>r
 | .whl _ r _ _=>r
 | .give _ r _=>r
 | .df _ r _ _ _ _=>r
 | .kd _ r _ _=>r
mutual
noncomputable def Tr.deep:Tr->Nat
 | .set _ _ _ _=>0
 | .tell _ _ _=>0
 | .iff _ _ _ b o=>max (deeps b) (deeps o)
 | .whl _ _ _ b=>deeps b
 | .give _ _ _=>0
 | .df _ _ _ _ _ b=>deeps b
 | .kd _ _ _ _=>0
noncomputable def deeps:List Tr->Nat
 | []=>0
 | t::ts=>max (t.deep+1) (deeps ts)
end
inductive aW where
 | s (z:Str)
 | i (n:Nat)
 | e (x:Ex)
 | b (ts:List Tr)
 | p (ps:List (Str × Str))
noncomputable def Tr.parts:Tr->List aW
 | .set _ r n e=>[.s "set",.i r,.s n,.e e]
 | .tell _ r e=>[.s "tell",.i r,.e e]
 | .iff _ r e b o=>[.s "if",.i r,.e e,.b b,.b o]
 | .whl _ r e b=>[.s "while",.i r,.e e,.b b]
 | .give _ r e=>[.s "give",.i r,.e e]
 | .df _ r n k ps b=>[.s "def",.i r,.s n,.s k,.p ps,.b b]
 | .kd _ r n ps=>[.s "kind",.i r,.s n,.p ps]
theorem Tr.parts_len (t:Tr):t.parts.length<=6:=by cases t<;>simp [Tr.parts]
def cU (H:Hp) (v:V) (ps:List (Str × Str)):Prop:=∃ (t:Addr) (us:List Addr),v=.ref t/\H t=some (.tup (us.map V.ref))/\us.length=ps.length/\∀ (i:Nat) (u:Addr) (q:Str × Str),us[i]?=some u->ps[i]?=some q->H u=some (.tup [.str q.1,.str q.2])
mutual
inductive bi (H:Hp) (sh:Bool):V->Tr->Prop where
 | mk {t:Addr} {vs:List V} {x:Tr}:H t=some (.tup vs)->PsAt H sh vs x.parts->bi H sh (.ref t) x
inductive PsAt (H:Hp) (sh:Bool):List V->List aW->Prop where
 | nil:PsAt H sh [] []
 | cons {v:V} {vs:List V} {p:aW} {ps:List aW}:PAt H sh v p->PsAt H sh vs ps->PsAt H sh (v::vs) (p::ps)
inductive PAt (H:Hp) (sh:Bool):V->aW->Prop where
 | s (z:Str):PAt H sh (.str z) (.s z)
 | i (n:Nat):PAt H sh (.int (n:Int)) (.i n)
 | e {v:V} {x:Ex}:aS H v x->PAt H sh v (.e x)
 | b {l:Addr} {xs:List V} {ts:List Tr}:H l=some (.lst xs)->LAt H sh xs ts->PAt H sh (.ref l) (.b ts)
 | p {v:V} {ps:List (Str × Str)}:cU H v ps->PAt H sh v (.p ps)
inductive LAt (H:Hp) (sh:Bool):List V->List Tr->Prop where
 | nil:LAt H sh [] []
 | cons {v:V} {vs:List V} {t:Tr} {ts:List Tr}:OAt H sh v t->LAt H sh vs ts->LAt H sh (v::vs) (t::ts)
inductive OAt (H:Hp) (sh:Bool):V->Tr->Prop where
 | plain {v:V} {t:Tr}:sh=false->t.mask=1->bi H sh v t->OAt H sh v t
 | shared {p:Addr} {v:V} {t:Tr}:sh=true->H p=some (.tup [.int ((t.mask:Nat):Int),v])->bi H sh v t->OAt H sh (.ref p) t
end
structure bo (H H':Hp):Prop where
 t:∀ b xs,H b=some (.tup xs)->H' b=some (.tup xs)
 l:∀ b xs,H b=some (.lst xs)->H' b=some (.lst xs)
 z:∀ b o x,H b=some (.frz o x)->H' b=some (.frz o x)
 b:∀ b ps,H b=some (.tbl ps)->H' b=some (.tbl ps)
theorem bo.refl (H:Hp):bo H H:=⟨fun _ _ h=>h,fun _ _ h=>h,fun _ _ _ h=>h,fun _ _ h=>h⟩
theorem bo.trans {H H1 H2:Hp} (a:bo H H1) (b:bo H1 H2):bo H H2:=⟨fun _ _ h=>b.1 _ _ (a.1 _ _ h),fun _ _ h=>b.2 _ _ (a.2 _ _ h),fun _ _ _ h=>b.z _ _ _ (a.z _ _ _ h),fun _ _ h=>b.b _ _ (a.b _ _ h)⟩
theorem bo.seq {K:PySem.W.Frag} {H H':Hp} (s:bo H H') {a:Addr} {xs:List V} (h:ak K H a xs):ak K H' a xs:=by
 rcases h with (h | ⟨o,h⟩) | h
 ·exact .inl (.inl (s.2 _ _ h))
 ·exact .inl (.inr ⟨o,s.z _ _ _ h⟩)
 ·exact .inr h
theorem _root_.L2.Same.ls {H H':Hp} (s:Same H H'):bo H H':=⟨fun _ _ h=>s _ _ h,fun _ _ h=>s _ _ h,fun _ _ _ h=>s _ _ h,fun _ _ h=>s _ _ h⟩
structure fA (H H':Hp):Prop where
 t:∀ b xs,H b=some (.tup xs)->H' b=some (.tup xs)
 l:∀ b xs,H b=some (.lst xs)->H' b=some (.lst xs)
theorem bo.w {H H':Hp} (s:bo H H'):fA H H':=⟨s.1,s.2⟩
theorem cU.keep {H H':Hp} {v:V} {ps:List (Str × Str)} (h:cU H v ps) (s:fA H H'):cU H' v ps:=by obtain ⟨t,us,a,b,c,d⟩:=h;exact ⟨t,us,a,s.1 _ _ b,c,fun i u q x y=>s.1 _ _ (d i u q x y)⟩
mutual
theorem bi.keep {H H':Hp} {sh:Bool} (s:fA H H'):∀ {v:V} {t:Tr},bi H sh v t->bi H' sh v t
 | _,_,.mk h a=>.mk (s.1 _ _ h) (a.keep s)
theorem PsAt.keep {H H':Hp} {sh:Bool} (s:fA H H'):∀ {vs:List V} {ps:List aW},PsAt H sh vs ps->PsAt H' sh vs ps
 | _,_,.nil=>.nil
 | _,_,.cons a b=>.cons (a.keep s) (b.keep s)
theorem PAt.keep {H H':Hp} {sh:Bool} (s:fA H H'):∀ {v:V} {p:aW},PAt H sh v p->PAt H' sh v p
 | _,_,.s z=>.s z
 | _,_,.i n=>.i n
 | _,_,.e a=>.e (a.kept s.1)
 | _,_,.b l a=>.b (s.2 _ _ l) (a.keep s)
 | _,_,.p a=>.p (a.keep s)
theorem LAt.keep {H H':Hp} {sh:Bool} (s:fA H H'):∀ {vs:List V} {ts:List Tr},LAt H sh vs ts->LAt H' sh vs ts
 | _,_,.nil=>.nil
 | _,_,.cons a b=>.cons (a.keep s) (b.keep s)
theorem OAt.keep {H H':Hp} {sh:Bool} (s:fA H H'):∀ {v:V} {t:Tr},OAt H sh v t->OAt H' sh v t
 | _,_,.plain e m a=>.plain e m (a.keep s)
 | _,_,.shared e h a=>.shared e (s.1 _ _ h) (a.keep s)
end
theorem cU.kept {H H':Hp} {v:V} {ps:List (Str × Str)} (h:cU H v ps) (s:bo H H'):cU H' v ps:=h.keep s.w
theorem bi.kept {H H':Hp} {sh:Bool} (s:bo H H') {v:V} {t:Tr} (h:bi H sh v t):bi H' sh v t:=h.keep s.w
theorem PsAt.kept {H H':Hp} {sh:Bool} (s:bo H H') {vs:List V} {ps:List aW} (h:PsAt H sh vs ps):PsAt H' sh vs ps:=h.keep s.w
theorem PAt.kept {H H':Hp} {sh:Bool} (s:bo H H') {v:V} {p:aW} (h:PAt H sh v p):PAt H' sh v p:=h.keep s.w
theorem LAt.kept {H H':Hp} {sh:Bool} (s:bo H H') {vs:List V} {ts:List Tr} (h:LAt H sh vs ts):LAt H' sh vs ts:=h.keep s.w
theorem OAt.kept {H H':Hp} {sh:Bool} (s:bo H H') {v:V} {t:Tr} (h:OAt H sh v t):OAt H' sh v t:=h.keep s.w
theorem PsAt.length {H:Hp} {sh:Bool}:∀ {vs:List V} {ps:List aW},PsAt H sh vs ps->vs.length=ps.length
 | _,_,.nil=>rfl
 | _,_,.cons _ b=>by simp [b.length]
theorem PsAt.get {H:Hp} {sh:Bool}:∀ {vs:List V} {ps:List aW},PsAt H sh vs ps->∀ {i:Nat} {v:V},vs[i]?=some v->∃ p,ps[i]?=some p/\PAt H sh v p
 | _,_,.nil,i,v,h=>by simp at h
 | _,_,.cons a b,0,v,h=>by cases (show some _=some v from h);exact ⟨_,rfl,a⟩
 | _,_,.cons a b,i+1,v,h=>b.get h
theorem PsAt.snoc {H:Hp} {sh:Bool}:∀ {vs:List V} {ps:List aW} {v:V} {p:aW},PsAt H sh vs ps->PAt H sh v p->PsAt H sh (vs++[v]) (ps++[p])
 | _,_,_,_,.nil,h=>.cons h .nil
 | _,_,_,_,.cons a b,h=>.cons a (b.snoc h)
theorem PAt.other {H:Hp} {sh sh':Bool} {v:V} {p:aW} (h:PAt H sh v p) (n:∀ ts,p≠.b ts):PAt H sh' v p:=by
 cases h with
 | s z=>exact .s z
 | i m=>exact .i m
 | e a=>exact .e a
 | b _ _=>exact absurd rfl (n _)
 | p a=>exact .p a
theorem aS.tup {H:Hp} {v:V} {e:Ex} (h:aS H v e):∃ t xs,v=.ref t/\H t=some (.tup xs):=by
 cases h with
 | num h=>exact ⟨_,_,rfl,h⟩
 | truth h=>exact ⟨_,_,rfl,h⟩
 | name h=>exact ⟨_,_,rfl,h⟩
 | not h _=>exact ⟨_,_,rfl,h⟩
 | op h _ _=>exact ⟨_,_,rfl,h⟩
 | of h _=>exact ⟨_,_,rfl,h⟩
 | many h _ _=>exact ⟨_,_,rfl,h⟩
theorem BE (K:PySem.W.Frag):PySem.W.kitOne K (.type "int") (.type "list")=some false:=by rfl
theorem BF (K:PySem.W.Frag):PySem.W.kitOne K (.type "str") (.type "list")=some false:=by rfl
theorem ue (K:PySem.W.Frag):PySem.W.kitOne K (.type "tuple") (.type "list")=some false:=by rfl
theorem PAt.isL {K:PySem.W.Frag} {H:Hp} {sh:Bool} {v:V} {p:aW} (h:PAt H sh v p):(∃ ts l xs,p=.b ts/\v=.ref l/\H l=some (.lst xs)/\LAt H sh xs ts/\cZ K H v (.type "list")/\PySem.W.kitOne K (.type "list") (.type "list")=some true) ∨
  (∀ ts,p≠.b ts)/\∃ t,cZ K H v t/\PySem.W.kitOne K t (.type "list")=some false:=by
 cases h with
 | s z=>exact .inr ⟨fun _ h=>(nomatch h),_,.str z,BF K⟩
 | i n=>exact .inr ⟨fun _ h=>(nomatch h),_,.int _,BE K⟩
 | e a =>
  obtain ⟨t,xs,rfl,ht⟩:=aS.tup a;exact .inr ⟨fun _ h=>(nomatch h),_,.tup ht,ue K⟩
 | b h a=>exact .inl ⟨_,_,_,rfl,rfl,h,a,.lst h,by rfl⟩
 | p a =>
  obtain ⟨t,us,rfl,ht,_⟩:=a;exact .inr ⟨fun _ h=>(nomatch h),_,.tup ht,ue K⟩
theorem LAt.length {H:Hp} {sh:Bool}:∀ {vs:List V} {ts:List Tr},LAt H sh vs ts->vs.length=ts.length
 | _,_,.nil=>rfl
 | _,_,.cons _ b=>by simp [b.length]
theorem LAt.get {H:Hp} {sh:Bool}:∀ {vs:List V} {ts:List Tr},LAt H sh vs ts->∀ {i:Nat} {v:V},vs[i]?=some v->∃ t,ts[i]?=some t/\OAt H sh v t
 | _,_,.nil,i,v,h=>by simp at h
 | _,_,.cons a b,0,v,h=>by cases (show some _=some v from h);exact ⟨_,rfl,a⟩
 | _,_,.cons a b,i+1,v,h=>b.get h
theorem LAt.snoc {H:Hp} {sh:Bool}:∀ {vs:List V} {ts:List Tr} {v:V} {t:Tr},LAt H sh vs ts->OAt H sh v t->LAt H sh (vs++[v]) (ts++[t])
 | _,_,_,_,.nil,h=>.cons h .nil
 | _,_,_,_,.cons a b,h=>.cons a (b.snoc h)
mutual
noncomputable def Tr.cnt:Tr->Nat
 | .set _ _ _ _=>1
 | .tell _ _ _=>1
 | .iff _ _ _ b o=>1+(cnts b+cnts o)
 | .whl _ _ _ b=>1+cnts b
 | .give _ _ _=>1
 | .df _ _ _ _ _ b=>1+cnts b
 | .kd _ _ _ _=>1
noncomputable def cnts:List Tr->Nat
 | []=>0
 | t::ts=>t.cnt+cnts ts
end
theorem uf:∀ (a b:List Tr),cnts (a++b)=cnts a+cnts b
 | [],b=>by simp [cnts]
 | t::a,b=>by simp [cnts,uf a b];lia
mutual
noncomputable def Ex.deep:Ex->Nat
 | .num _=>0
 | .truth _=>0
 | .name _=>0
 | .not e=>e.deep+1
 | .op _ a b=>max a.deep b.deep+1
 | .of _ e=>e.deep+1
 | .many _ _ es=>d9 es+1
noncomputable def d9:List Ex->Nat
 | []=>0
 | e::es=>max e.deep (d9 es)
end
mutual
def Ex.good:Ex->Prop
 | .num _=>True
 | .truth _=>True
 | .name _=>True
 | .not e=>e.good
 | .op w a b=>w∈ij/\a.good/\b.good
 | .of _ e=>e.good
 | .many w _ es=>(w="do"∨w="new")/\es.length<=20/\km es
def km:List Ex->Prop
 | []=>True
 | e::es=>e.good/\km es
end
theorem ug:∀ {es:List Ex} {e:Ex},e∈es->e.deep<=d9 es
 | x::es,e,h=>by
  rcases Qm h with z | z
  ·subst z;simp [d9];lia
  ·have:=ug z;simp [d9];lia
theorem uh:∀ {es:List Ex} {e:Ex},km es->e∈es->e.good
 | x::es,e,g,h=>by
  rcases Qm h with z | z
  ·subst z;exact g.1
  ·exact uh g.2 z
def Ex.fit (e:Ex):Prop:=e.good/\e.deep<8
def subs (m:Nat) (ts:List Tr):Prop:=∀ t∈ts,t.mask &&& m=t.mask
def aY (m:Nat):Prop:=0<m/\m<256
def fS (t u:Tr):Prop:=t.row<=u.row/\(t.row=u.row->t.mask &&& u.mask=0)
mutual
def Tr.asc:Tr->Prop
 | .set _ _ _ e=>e.fit
 | .tell _ _ e=>e.fit
 | .iff m _ e b o=>e.fit/\(b.length<=40/\subs m b/\ascs b)/\o.length<=40/\subs m o/\ascs o
 | .whl m _ e b=>e.fit/\b.length<=40/\subs m b/\ascs b
 | .give _ _ e=>e.fit
 | .df m _ _ _ ps b=>ps.length<=20/\b.length<=40/\subs m b/\ascs b
 | .kd _ _ _ ps=>ps.length<=20
def ascs:List Tr->Prop
 | []=>True
 | t::ts=>(aY t.mask/\t.row<200)/\t.asc/\(∀ u∈ts,fS t u)/\ascs ts
end
theorem ExsAt.get {H:Hp}:∀ {vs:List V} {es:List Ex},ExsAt H vs es->∀ {i:Nat} {v:V},vs[i]?=some v->∃ e,es[i]?=some e/\aS H v e
 | _,_,.nil,i,v,h=>by simp at h
 | _,_,.cons a b,0,v,h=>by cases (show some _=some v from h);exact ⟨_,rfl,a⟩
 | _,_,.cons a b,i+1,v,h=>ExsAt.get b h
theorem ExsAt.len {H:Hp}:∀ {vs:List V} {es:List Ex},ExsAt H vs es->vs.length=es.length
 | _,_,.nil=>rfl
 | _,_,.cons a b=>by simp [ExsAt.len b]
theorem jl {t:Tr} {ts:List Tr} (h:aW.b ts∈t.parts):deeps ts<=t.deep:=by
 cases t with
 | set m r n e=>simp [Tr.parts] at h
 | tell m r e=>simp [Tr.parts] at h
 | iff m r e b o =>
  simp [Tr.parts] at h;rcases h with h | h<;>subst h<;>simp [Tr.deep]<;>lia
 | whl m r e b=>simp [Tr.parts] at h;subst h;simp [Tr.deep]
 | give m r e=>simp [Tr.parts] at h
 | df m r n k ps b=>simp [Tr.parts] at h;subst h;simp [Tr.deep]
 | kd m r n ps=>simp [Tr.parts] at h
theorem fT {t:Tr} {ts:List Tr} (a:t.asc) (h:aW.b ts∈t.parts):ts.length<=40/\subs t.mask ts/\ascs ts:=by
 cases t with
 | set m r n e=>simp [Tr.parts] at h
 | tell m r e=>simp [Tr.parts] at h
 | iff m r e b o =>
  simp [Tr.parts] at h;rcases h with h | h<;>subst h
  ·exact a.2.1
  ·exact a.2.2
 | whl m r e b=>simp [Tr.parts] at h;subst h;exact a.2
 | give m r e=>simp [Tr.parts] at h
 | df m r n k ps b=>simp [Tr.parts] at h;subst h;exact a.2
 | kd m r n ps=>simp [Tr.parts] at h
theorem jm:∀ {ts:List Tr} {t:Tr},t∈ts->t.deep+1<=deeps ts
 | u::ts,t,h=>by
  rcases Qm h with z | z
  ·subst z;simp [deeps];lia
  ·have:=jm z;simp [deeps];lia
theorem gz:∀ {ts:List Tr} {t:Tr},ascs ts->t∈ts->(aY t.mask/\t.row<200)/\t.asc
 | u::ts,t,a,h=>by
  rcases Qm h with z | z
  ·subst z;exact ⟨a.1,a.2.1⟩
  ·exact gz a.2.2.2 z
theorem ui:∀ {ts:List Tr},ascs ts->ts.Pairwise fS
 | [],_=>.nil
 | t::ts,h=>.cons h.2.2.1 (ui h.2.2.2)
theorem oU:∀ {ts:List Tr},(∀ t∈ts,(aY t.mask/\t.row<200)/\t.asc)->ts.Pairwise fS->ascs ts
 | [],_,_=>trivial
 | t::ts,h,p=>by rw [List.pairwise_cons] at p;exact ⟨(h t (by simp)).1,(h t (by simp)).2,p.1,oU (fun x hx=>h x (by simp [hx])) p.2⟩
end Mm
namespace L2
open PySem PySem.Spec PyProof.Rows PySem.W
theorem uj:∀ {a b:List (List ae)},a.Pairwise (fun x y=>bg x y=true)->b.Pairwise (fun x y=>bg x y=true)->(∀ d,d∈a↔d∈b)->a=b
 | [],[],_,_,_=>rfl
 | [],y::b,_,_,h=>nomatch (h y).mpr QA
 | x::a,[],_,_,h=>nomatch (h x).mp QA
 | x::a,y::b,ha,hb,h=>by
  have Jq:=List.pairwise_cons.mp ha;have Ic:=List.pairwise_cons.mp hb
  have e:x=y:=by
   rcases Qm ((h x).mp QA) with e | h1
   ·exact e
   ·rcases Qm ((h y).mpr QA) with e | h2
    ·exact e.symm
    ·have g1:=Ic.1 x h1;have g2:=Jq.1 y h2;rw [gy g1] at g2;cases g2
  subst e;have nx:∀ {l:List (List ae)},(∀ z∈l,bg x z=true)->x∉l:=fun hl hm=>by have:=hl x hm;have g:=gy this;rw [this] at g;cases g
  rw [uj Jq.2 Ic.2 fun d=>?_];constructor
  ·intro hd;rcases Qm ((h d).mp (Qw _ hd)) with e | g
   ·subst e;exact absurd hd (nx Jq.1)
   ·exact g
  ·intro hd;rcases Qm ((h d).mpr (Qw _ hd)) with e | g
   ·subst e;exact absurd hd (nx Ic.1)
   ·exact g
theorem uk {ds:List (List ae)} {sh:List Bool} (FR:∀ d∈ds,d.map br=sh) (nd:ds.Nodup) :
  ((cC ds).map fun i=>ds.getD i []).Pairwise (fun x y=>bg x y=true)/\(∀ i∈cC ds,i<ds.length)/\∀ j,j<ds.length->j∈cC ds:=by
 unfold cC;by_cases h2:ds.length<2
 ·rw [if_pos h2];refine ⟨?_,fun i hi=>List.mem_range.mp hi,fun j hj=>List.mem_range.mpr hj⟩
  match ds,h2 with
  | [],_=>exact .nil
  | [a],_=>exact List.pairwise_singleton ..
 ·rw [if_neg h2];have gd:∀ i,i<ds.length->ds.getD i []∈ds:=fun i hi=>by rw [Qg,Qa hi];exact QB hi
  have ok:=(oN (by omega) (oP FR)).1;generalize c7 ds.length (eP ds)=q at ok;obtain ⟨pm,sg,_⟩:=ok;have pl:=Array.perm_iff_toList_perm.mp pm;have hm:∀ i,i∈q.toList↔i<ds.length:=fun i=>by rw [pl.mem_iff];simp
  refine ⟨?_,fun i hi=>(hm i).mp hi,fun j hj=>(hm j).mpr hj⟩;rw [List.pairwise_map];refine List.pairwise_iff_getElem.mpr fun i j hi hj Hj=>?_;have ndq:q.toList.Nodup:=pl.nodup_iff.mpr (by simpa using List.nodup_range);have Fq:q.toList[i]≠q.toList[j]:=List.pairwise_iff_getElem.mp ndq i j hi hj Hj;have li:=(hm _).mp (QB hi);have lj:=(hm _).mp (QB hj);have hq:∀ i (h:i<q.toList.length),q.toList[i]=q.getD i 0:=fun i h=>by rw [Qv] at h;simp [Array.getD,h]
  have hz:q.toList.length=ds.length:=by rw [pl.length_eq];simp
  have h1:=sg i j (Qr _) Hj (by omega);rw [<- hq i hi,<- hq j hj] at h1;refine lR ((FR _ (gd _ lj)).trans (FR _ (gd _ li)).symm) (fun e=>Fq ?_) h1;rw [Qg,Qg,Qa li,Qa lj] at e;have pw:=List.pairwise_iff_getElem.mp nd;rcases Nat.lt_trichotomy q.toList[i] q.toList[j] with g | g | g
  ·exact absurd e.symm (pw _ _ li lj g)
  ·exact g
  ·exact absurd e (pw _ _ lj li g)
end L2
namespace Mm
open PySem L2 PyProof.Rows
theorem oV:∀ ts:List Tr,cnts ts=(ts.map Tr.cnt).sum
 | []=>by simp [cnts]
 | t::ts=>by simp [cnts,oV ts]
mutual
noncomputable def aA (s:Nat):Tr->Tr
 | .set _ r n e=>.set 1 r n e
 | .tell _ r e=>.tell 1 r e
 | .iff _ r e b o=>.iff 1 r e (cutM s b) (cutM s o)
 | .whl _ r e b=>.whl 1 r e (cutM s b)
 | .give _ r e=>.give 1 r e
 | .df _ r n k ps b=>.df 1 r n k ps (cutM s b)
 | .kd _ r n ps=>.kd 1 r n ps
noncomputable def cutM (s:Nat):List Tr->List Tr
 | []=>[]
 | t::ts=>if t.mask.testBit s=true then aA s t::cutM s ts else cutM s ts
end
theorem gA (s:Nat):∀ a b:List Tr,cutM s (a++b)=cutM s a++cutM s b
 | [],b=>by simp [cutM]
 | t::a,b=>by rw [List.cons_append,cutM,cutM,gA s a b];split<;>rfl
theorem ik (s:Nat) (t:Tr):cutM s [t]=if t.mask.testBit s=true then [aA s t] else []:=by rw [cutM,cutM]
theorem gB {s:Nat} {x:Tr}:∀ {ts:List Tr},x∈cutM s ts↔∃ t∈ts,t.mask.testBit s=true/\x=aA s t
 | []=>by simp [cutM]
 | t::ts=>by
  rw [cutM];split
  ·rename_i h;rw [List.mem_cons,gB];constructor
   ·rintro (e | ⟨u,hu,q⟩)
    ·exact ⟨t,by simp,h,e⟩
    ·exact ⟨u,by simp [hu],q⟩
   ·rintro ⟨u,hu,q1,q2⟩;rcases Qm hu with rfl | hu
    ·exact .inl q2
    ·exact .inr ⟨u,hu,q1,q2⟩
  ·rename_i h;rw [gB];constructor
   ·rintro ⟨u,hu,q⟩;exact ⟨u,by simp [hu],q⟩
   ·rintro ⟨u,hu,q1,q2⟩;rcases Qm hu with rfl | hu
    ·exact absurd q1 h
    ·exact ⟨u,hu,q1,q2⟩
theorem il (s:Nat) (t:Tr):(aA s t).row=t.row:=by cases t<;>simp [aA,Tr.row]
theorem lT {m n s:Nat} (h:m &&& n=0) (hm:m.testBit s=true):n.testBit s=false:=by have:=congrArg (fun x=>x.testBit s) h;simp only [Nat.testBit_and,hm,Bool.true_and,Nat.zero_testBit] at this;exact this
theorem BG {m n s:Nat} (h:m &&& n=m) (hn:n.testBit s=false):m.testBit s=false:=by have:=congrArg (fun x=>x.testBit s) h;simp only [Nat.testBit_and,hn,Bool.and_false] at this;exact this.symm
theorem oW {m s:Nat} {ts:List Tr} (h:subs m ts) (hs:m.testBit s=false):cutM s ts=[]:=by
 cases e:cutM s ts with
 | nil=>rfl
 | cons x xs =>
  obtain ⟨t,ht,hb,_⟩:=gB.mp (show x∈cutM s ts by rw [e];simp);rw [BG (h t ht) hs] at hb;cases hb
theorem lU {s:Nat}:∀ {ts:List Tr},ts.Pairwise fS->(cutM s ts).Pairwise fun a b=>a.row<b.row
 | [],_=>by rw [cutM];exact .nil
 | t::ts,h=>by
  rw [List.pairwise_cons] at h;rw [cutM];split
  ·rename_i hb;refine .cons (fun x hx=>?_) (lU h.2);obtain ⟨u,hu,q1,rfl⟩:=gB.mp hx;obtain ⟨g1,g2⟩:=h.1 u hu;rw [il,il];rcases Nat.lt_or_eq_of_le g1 with z | z
   ·exact z
   ·have:=lT (g2 z) hb;rw [q1] at this;cases this
  ·exact lU h.2
theorem ul:∀ {a b:List Tr},a.Pairwise (fun x y=>x.row<y.row)->b.Pairwise (fun x y=>x.row<y.row)->(∀ d,d∈a↔d∈b)->a=b
 | [],[],_,_,_=>rfl
 | [],y::b,_,_,h=>nomatch (h y).mpr QA
 | x::a,[],_,_,h=>nomatch (h x).mp QA
 | x::a,y::b,ha,hb,h=>by
  have Jq:=List.pairwise_cons.mp ha;have Ic:=List.pairwise_cons.mp hb
  have e:x=y:=by
   rcases Qm ((h x).mp QA) with e | h1
   ·exact e
   ·rcases Qm ((h y).mpr QA) with e | h2
    ·exact e.symm
    ·have g1:=Ic.1 x h1;have g2:=Jq.1 y h2;omega
  subst e;have nx:∀ {l:List Tr},(∀ z∈l,x.row<z.row)->x∉l:=fun hl hm=>Nat.lt_irrefl _ (hl x hm);rw [ul Jq.2 Ic.2 fun d=>?_];constructor
  ·intro hd;rcases Qm ((h d).mp (Qw _ hd)) with e | g
   ·subst e;exact absurd hd (nx Jq.1)
   ·exact g
  ·intro hd;rcases Qm ((h d).mpr (Qw _ hd)) with e | g
   ·subst e;exact absurd hd (nx Ic.1)
   ·exact g
noncomputable def dC (m:Nat):Nat:=Builtin.Int.intBits ((m ^^^ (m-1):Nat):Int)-1
theorem um {m t q:Nat} (e:m=2 ^ (t+1)*q+2 ^ t):dC m=t:=by unfold dC;rw [e,sZ,tf];rfl
theorem lV {m:Nat} (h:m≠0):m.testBit (dC m)=true:=by obtain ⟨t,q,e⟩:=ow m m (Qc _) h;rw [um e,e];exact Ay t q
noncomputable def cD (t:Tr):List ae:=[.inl ((t.row:Nat):Int),.inl ((dC t.mask:Nat):Int)]
theorem BH {a b:Tr} (h:bg (cD a) (cD b)=true):a.row<=b.row:=by
 have e:bg (cD a) (cD b)=if (Sum.inl ((a.row:Nat):Int):ae)=Sum.inl ((b.row:Nat):Int) then bg [.inl ((dC a.mask:Nat):Int)] [.inl ((dC b.mask:Nat):Int)] else dR (Sum.inl ((a.row:Nat):Int)) (Sum.inl ((b.row:Nat):Int)):=rfl
 rw [e] at h;split at h
 ·rename_i q;injection q with q;lia
 ·have:=of_decide_eq_true (show decide (((a.row:Nat):Int)<((b.row:Nat):Int))=true from h);lia
structure ko (rule:Nat) (ts us:List Tr):Prop where
 asc:ascs us
 dp:deeps us<=deeps ts
 len:us.length<=ts.length
 sub:subs rule us
 sub2:∀ m,subs m ts->subs m us
 cut:∀ s,rule.testBit s=true->cutM s us=cutM s ts
 cn:cnts us<=cnts ts
structure lW (rule:Nat) (t u:Tr):Prop where
 mask:u.mask=t.mask &&& rule
 row:u.row=t.row
 asc:u.asc
 dp:u.deep<=t.deep
 cut:∀ s,rule.testBit s=true->aA s u=aA s t
 cn:u.cnt<=t.cnt
inductive im (rule:Nat):aW->aW->Prop
 | b {ts us:List Tr}:ko rule ts us->im rule (.b ts) (.b us)
 | o {p:aW}:(∀ ts,p≠.b ts)->im rule p p
inductive dr (rule:Nat):List aW->List aW->Prop
 | nil:dr rule [] []
 | cons {p q:aW} {ps qs:List aW}:im rule p q->dr rule ps qs->dr rule (p::ps) (q::qs)
theorem dr.snoc {rule:Nat}:∀ {ps qs:List aW} {p q:aW},dr rule ps qs->im rule p q->dr rule (ps++[p]) (qs++[q])
 | _,_,_,_,.nil,h=>.cons h .nil
 | _,_,_,_,.cons a b,h=>.cons a (b.snoc h)
theorem uo {rule:Nat} {p:aW} {ps qs:List aW} (h:dr rule (p::ps) qs):∃ q r,qs=q::r/\im rule p q/\dr rule ps r:=by cases h with | cons a b=>exact ⟨_,_,rfl,a,b⟩
theorem io {rule:Nat} {qs:List aW} (h:dr rule [] qs):qs=[]:=by cases h;rfl
theorem BI {rule:Nat} {p q:aW} (h:im rule p q) (n:∀ ts,p≠.b ts):q=p:=by
 cases h with
 | b _=>exact absurd rfl (n _)
 | o _=>rfl
theorem BJ {rule:Nat} {ts:List Tr} {q:aW} (h:im rule (.b ts) q):∃ us,q=.b us/\ko rule ts us:=by
 cases h with
 | b k=>exact ⟨_,rfl,k⟩
 | o n=>exact absurd rfl (n _)
theorem bW {rule:Nat} {p:aW} {ps qs:List aW} (n:∀ ts,p≠.b ts) (h:dr rule (p::ps) qs):∃ r,qs=p::r/\dr rule ps r:=by obtain ⟨q,r,e,h1,h2⟩:=uo h;exact ⟨r,by rw [e,BI h1 n],h2⟩
theorem lX {rule:Nat} {ts:List Tr} {ps qs:List aW} (h:dr rule (.b ts::ps) qs):∃ us r,qs=.b us::r/\ko rule ts us/\dr rule ps r:=by obtain ⟨q,r,e,h1,h2⟩:=uo h;obtain ⟨us,e2,k⟩:=BJ h1;exact ⟨us,r,by rw [e,e2],k,h2⟩
theorem lY {m rule:Nat} {us:List Tr} (h1:subs m us) (h2:subs rule us):subs (m &&& rule) us:=fun t ht=>by rw [<- Nat.and_assoc,h1 t ht,h2 t ht]
theorem BK {rule:Nat} {t:Tr} {qs:List aW} (ha:t.asc) (h:dr rule t.parts qs):∃ u,u.parts=qs/\lW rule t u:=by
 cases t with
 | set m r n e =>
  obtain ⟨r1,e1,h⟩:=bW (by intro _ z;cases z) h;obtain ⟨r2,e2,h⟩:=bW (by intro _ z;cases z) h;obtain ⟨r3,e3,h⟩:=bW (by intro _ z;cases z) h;obtain ⟨r4,e4,h⟩:=bW (by intro _ z;cases z) h;exact ⟨.set (m &&& rule) r n e,by rw [e1,e2,e3,e4,io h];rfl,rfl,rfl,ha,Qc _,fun s _=>by simp [aA],Qc _⟩
 | tell m r e =>
  obtain ⟨r1,e1,h⟩:=bW (by intro _ z;cases z) h;obtain ⟨r2,e2,h⟩:=bW (by intro _ z;cases z) h;obtain ⟨r3,e3,h⟩:=bW (by intro _ z;cases z) h;exact ⟨.tell (m &&& rule) r e,by rw [e1,e2,e3,io h];rfl,rfl,rfl,ha,Qc _,fun s _=>by simp [aA],Qc _⟩
 | give m r e =>
  obtain ⟨r1,e1,h⟩:=bW (by intro _ z;cases z) h;obtain ⟨r2,e2,h⟩:=bW (by intro _ z;cases z) h;obtain ⟨r3,e3,h⟩:=bW (by intro _ z;cases z) h;exact ⟨.give (m &&& rule) r e,by rw [e1,e2,e3,io h];rfl,rfl,rfl,ha,Qc _,fun s _=>by simp [aA],Qc _⟩
 | kd m r n ps =>
  obtain ⟨r1,e1,h⟩:=bW (by intro _ z;cases z) h;obtain ⟨r2,e2,h⟩:=bW (by intro _ z;cases z) h;obtain ⟨r3,e3,h⟩:=bW (by intro _ z;cases z) h;obtain ⟨r4,e4,h⟩:=bW (by intro _ z;cases z) h;exact ⟨.kd (m &&& rule) r n ps,by rw [e1,e2,e3,e4,io h];rfl,rfl,rfl,ha,Qc _,fun s _=>by simp [aA],Qc _⟩
 | whl m r e b =>
  obtain ⟨r1,e1,h⟩:=bW (by intro _ z;cases z) h;obtain ⟨r2,e2,h⟩:=bW (by intro _ z;cases z) h;obtain ⟨r3,e3,h⟩:=bW (by intro _ z;cases z) h;obtain ⟨us,r4,e4,k,h⟩:=lX h;refine ⟨.whl (m &&& rule) r e us,by rw [e1,e2,e3,e4,io h];rfl,rfl,rfl,⟨ha.1,Qq k.len ha.2.1,lY (k.sub2 m ha.2.2.1) k.sub,k.asc⟩,?_,fun s hs=>by simp [aA,k.cut s hs],by have:=k.cn;simp [Tr.cnt];lia⟩;have:=k.dp;simpa [Tr.deep] using this
 | df m r n kk ps b =>
  obtain ⟨r1,e1,h⟩:=bW (by intro _ z;cases z) h;obtain ⟨r2,e2,h⟩:=bW (by intro _ z;cases z) h;obtain ⟨r3,e3,h⟩:=bW (by intro _ z;cases z) h;obtain ⟨r5,e5,h⟩:=bW (by intro _ z;cases z) h;obtain ⟨r6,e6,h⟩:=bW (by intro _ z;cases z) h;obtain ⟨us,r4,e4,k,h⟩:=lX h;refine ⟨.df (m &&& rule) r n kk ps us,by rw [e1,e2,e3,e5,e6,e4,io h];rfl,rfl,rfl,⟨ha.1,Qq k.len ha.2.1,lY (k.sub2 m ha.2.2.1) k.sub,k.asc⟩,?_,fun s hs=>by simp [aA,k.cut s hs],by have:=k.cn;simp [Tr.cnt];lia⟩;have:=k.dp;simpa [Tr.deep] using this
 | iff m r e b o =>
  obtain ⟨r1,e1,h⟩:=bW (by intro _ z;cases z) h;obtain ⟨r2,e2,h⟩:=bW (by intro _ z;cases z) h;obtain ⟨r3,e3,h⟩:=bW (by intro _ z;cases z) h;obtain ⟨us,r4,e4,k,h⟩:=lX h;obtain ⟨vs,r5,e5,k2,h⟩:=lX h;refine ⟨.iff (m &&& rule) r e us vs,by rw [e1,e2,e3,e4,e5,io h];rfl,rfl,rfl,⟨ha.1,⟨Qq k.len ha.2.1.1,lY (k.sub2 m ha.2.1.2.1) k.sub,k.asc⟩,Qq k2.len ha.2.2.1,lY (k2.sub2 m ha.2.2.2.1) k2.sub,k2.asc⟩,?_,fun s hs=>by simp [aA,k.cut s hs,k2.cut s hs],by have:=k.cn;have:=k2.cn;simp [Tr.cnt];lia⟩;have h1:=k.dp;have h2:=k2.dp;simp [Tr.deep];lia
inductive cV (rule:Nat):List Tr->List Tr->Prop
 | nil:cV rule [] []
 | skip {ts us:List Tr} {t:Tr}:cV rule ts us->t.mask &&& rule=0->cV rule (ts++[t]) us
 | keep {ts us:List Tr} {t u:Tr}:cV rule ts us->t.mask &&& rule≠0->lW rule t u->cV rule (ts++[t]) (us++[u])
theorem cV.from {rule:Nat} {ts us:List Tr} (h:cV rule ts us):∀ u∈us,∃ t∈ts,lW rule t u/\t.mask &&& rule≠0:=by
 induction h with
 | nil=>intro u hu;simp at hu
 | skip _ _ ih=>intro u hu;obtain ⟨t,ht,q⟩:=ih u hu;exact ⟨t,by simp [ht],q⟩
 | keep _ hm hk ih =>
  intro u hu;rcases QK hu with hu | hu
  ·obtain ⟨t,ht,q⟩:=ih u hu;exact ⟨t,by simp [ht],q⟩
  ·rw [QL hu];exact ⟨_,by simp,hk,hm⟩
theorem cV.len {rule:Nat} {ts us:List Tr} (h:cV rule ts us):us.length<=ts.length:=by
 induction h with
 | nil=>exact Qc _
 | skip _ _ ih=>simp;lia
 | keep _ _ _ ih=>simp;lia
theorem cV.cn {rule:Nat} {ts us:List Tr} (h:cV rule ts us):(us.map Tr.cnt).sum<=(ts.map Tr.cnt).sum:=by
 induction h with
 | nil=>exact Qc _
 | skip _ _ ih=>simp;omega
 | keep _ _ hk ih =>
  have h2:=hk.cn;simp;omega
theorem BL {a b r:Nat} (h:a &&& b=0):(a &&& r) &&& (b &&& r)=0:=by
 have e:(a &&& r) &&& (b &&& r)=(a &&& b) &&& r:=by refine Nat.eq_of_testBit_eq fun i=>?_;simp only [Nat.testBit_and];cases a.testBit i<;>cases b.testBit i<;>cases r.testBit i<;>rfl
 rw [e,h,Nat.zero_and]
theorem cV.pw {rule:Nat} {ts us:List Tr} (h:cV rule ts us) (p:ts.Pairwise fS):us.Pairwise fS:=by
 induction h with
 | nil=>exact .nil
 | skip _ _ ih=>exact ih (List.pairwise_append.mp p).1
 | keep hk _ hs ih =>
  obtain ⟨p1,_,p3⟩:=List.pairwise_append.mp p;refine List.pairwise_append.mpr ⟨ih p1,by simp,fun a ha b hb=>?_⟩;rw [QL hb];obtain ⟨t,ht,k,_⟩:=hk.from a ha;obtain ⟨g1,g2⟩:=p3 t ht _ (List.mem_singleton.mpr rfl);refine ⟨by rw [k.row,hs.row];exact g1,fun e=>?_⟩;rw [k.row,hs.row] at e;rw [k.mask,hs.mask];exact BL (g2 e)
theorem cV.cut {rule s:Nat} {ts us:List Tr} (h:cV rule ts us) (hs:rule.testBit s=true):cutM s us=cutM s ts:=by
 induction h with
 | nil=>rfl
 | @skip ts us t _ hm ih =>
  rw [gA,ih,ik,if_neg,QO];have:=lT (show rule &&& t.mask=0 by rw [Nat.and_comm];exact hm) hs;rw [this];exact fun z=>nomatch z
 | @keep ts us t u _ _ hk ih =>
  rw [gA,gA,ih,ik,ik,hk.mask,Nat.testBit_and,hs,Bool.and_true,hk.cut s hs]
theorem uq {a b:Nat} (h:a<256):a &&& b<256:=QD Nat.and_le_left h
theorem BM {l:List Tr} (h:l.Pairwise fS) {a b:Tr} (ha:a∈l) (hb:b∈l) (Fq:a≠b) (hr:a.row=b.row):a.mask &&& b.mask=0:=by
 obtain ⟨i,hi,rfl⟩:=List.mem_iff_getElem.mp ha;obtain ⟨j,hj,rfl⟩:=List.mem_iff_getElem.mp hb;have pw:=List.pairwise_iff_getElem.mp h;rcases Nat.lt_trichotomy i j with z | z | z
 ·exact (pw i j hi hj z).2 hr
 ·subst z;exact absurd rfl Fq
 ·rw [Nat.and_comm];exact (pw j i hj hi z).2 hr.symm
theorem oX {us:List Tr} {d:Nat}:∀ {vs:List Tr},(∀ t∈vs,t.deep+1<=d)->deeps vs<=d
 | [],_=>by simp [deeps]
 | t::ts,h=>by have h1:=h t (by simp);have h2:=oX (us:=us) (vs:=ts) fun x hx=>h x (by simp [hx]);rw [deeps];lia
noncomputable def ur:Tr:=.kd 0 0 "" []
noncomputable def dL (us:List Tr):List Tr:=(cC (us.map cD)).map fun i=>us.getD i ur
theorem BN {us:List Tr} (h:us.Pairwise fS) (ho:∀ u∈us,aY u.mask):(us.map cD).Nodup:=by
 refine List.pairwise_map.mpr (List.Pairwise.imp_of_mem (fun {a b} ha hb g e=>?_) h)
 have e1:a.row=b.row:=by
  have:(Sum.inl ((a.row:Nat):Int):ae)=Sum.inl ((b.row:Nat):Int):=by injection e
  injection this with this;lia
 have e2:dC a.mask=dC b.mask:=by
  have:([.inl ((dC a.mask:Nat):Int)]:List ae)=[.inl ((dC b.mask:Nat):Int)]:=by injection e
  injection this with this;injection this with this;lia
 have h1:=lV (Nat.ne_of_gt (ho a ha).1);have h2:=lV (Nat.ne_of_gt (ho b hb).1);have:=lT (g.2 e1) h1;rw [e2,h2] at this;cases this
theorem BO {rule:Nat} {ts us:List Tr} (ha:ascs ts) (h:cV rule ts us):ko rule ts (dL us)/\(dL us).length=us.length:=by
 have pw:=h.pw (ui ha);have hok:∀ u∈us,(aY u.mask/\u.row<200)/\u.asc/\u.mask &&& rule=u.mask:=fun u hu=>by obtain ⟨t,ht,k,hm⟩:=h.from u hu;obtain ⟨o1,o2⟩:=gz ha ht;refine ⟨⟨⟨by rw [k.mask];exact Nat.pos_of_ne_zero hm,by rw [k.mask];exact uq o1.1.2⟩,by rw [k.row];exact o1.2⟩,k.asc,by rw [k.mask,Nat.and_assoc,Nat.and_self]⟩
 have nd:=BN pw fun u hu=>(hok u hu).1.1;obtain ⟨u1,u2,u3⟩:=uk (ds:=us.map cD) (sh:=[true,true]) (fun d hd=>by obtain ⟨t,_,rfl⟩:=QT hd;rfl) nd;have Fj:(dL us).length=us.length:=by unfold dL;rw [Qe,ud,Qe]
 rw [Qe] at u2 u3
 have mem:∀ u,u∈dL us↔u∈us:=fun u=>by
  unfold dL;rw [List.mem_map];constructor
  ·rintro ⟨i,hi,rfl⟩;rw [Qg,Qa (u2 i hi)];exact QB _
  ·intro hu;obtain ⟨j,hj,rfl⟩:=List.mem_iff_getElem.mp hu;exact ⟨j,u3 j hj,by rw [Qg,Qa hj];rfl⟩
 have pk:(dL us).Pairwise fun a b=>bg (cD a) (cD b)=true:=by
  unfold dL;rw [List.pairwise_map] at u1 ⊢;refine List.Pairwise.imp_of_mem (fun {a b} Jq Ic g=>?_) u1;have e:∀ i,i∈cC (us.map cD)->(us.map cD).getD i []=cD (us.getD i ur):=fun i hi=>by rw [Qg,Qg,Qu,Qa (u2 i hi)];rfl
  rw [e a Jq,e b Ic] at g;exact g
 have pb:(dL us).Pairwise fS:=List.Pairwise.imp_of_mem (fun {a b} Jq Ic g=>⟨BH g,fun e=>BM pw ((mem a).mp Jq) ((mem b).mp Ic) (fun z=>by rw [z] at g;have:=gy g;rw [g] at this;cases this) e⟩) pk;have und:us.Nodup:=(List.pairwise_map.mp nd).imp fun {a b} g z=>g (by rw [z]);have snd:(dL us).Nodup:=pk.imp fun {a b} g z=>by rw [z] at g;have:=gy g;rw [g] at this;cases this
 have pm:(dL us).Perm us:=(List.perm_ext_iff_of_nodup snd und).mpr mem;refine ⟨⟨oU (fun u hu=>let q:=hok u ((mem u).mp hu);⟨q.1,q.2.1⟩) pb,oX (us:=us) fun u hu=>?_,by rw [Fj];exact h.len,fun u hu=>(hok u ((mem u).mp hu)).2.2,fun m hs u hu=>?_,fun s hs=>?_,by rw [oV,oV,(pm.map _).sum_nat];exact h.cn⟩,Fj⟩
 ·obtain ⟨t,ht,k,_⟩:=h.from u ((mem u).mp hu);exact Qq (Nat.succ_le_succ k.dp) (jm ht)
 ·obtain ⟨t,ht,k,_⟩:=h.from u ((mem u).mp hu);rw [k.mask,Nat.and_assoc,Nat.and_comm rule m,<- Nat.and_assoc,hs t ht]
 ·rw [<- h.cut hs];refine ul (lU pb) (lU pw) fun d=>?_;rw [gB,gB];constructor
  ·rintro ⟨t,ht,q⟩;exact ⟨t,(mem t).mp ht,q⟩
  ·rintro ⟨t,ht,q⟩;exact ⟨t,(mem t).mpr ht,q⟩
theorem BP {H:Hp} {sh:Bool} {ys:List V} {us:List Tr} (h:LAt H sh ys us) (hl:∀ i∈cC (us.map cD),i<us.length):LAt H sh (bZ (us.map cD) ys) (dL us):=by
 unfold bZ dL;generalize cC (us.map cD)=is at hl;have Gc:=h.length
 induction is with
 | nil=>exact .nil
 | cons i is ih =>
  have hi:=hl i (by simp);have hiy:i<ys.length:=by lia
  obtain ⟨t,ht,hO⟩:=h.get (Qa hiy);refine .cons ?_ (ih fun j hj=>hl j (by simp [hj]));dsimp only;rw [Qg,Qg,Qa hiy,ht];exact hO
end Mm
namespace L2
open PySem PySem.Spec PyProof.Rows
section
variable {prog:Program} {w:World} {A:Around} {E:Value->Shared->Prop} {s:Shared} {it d:Addr} {i ep:Nat} {es:Array DictEntry} {od:Obj}
theorem BQ {Q:Option Value->Shared->Prop} (hit:s.heap.IsKeyIter it d i es.size ep) (Jh:s.heap.get? d=some od) (Im:od.data=.dict es ep) (Fl:i<es.size)
  (hQ:∀ h',h'.IsKeyIter it d (i+1) es.size ep->Heap.SameBut it s.heap h'->Q (some es[i].key) { s with heap:=h' }):wpAny (model prog w) A (pyNext (.ref it)) Q E s:=by
 have hT:=hit.typeIs;obtain ⟨o,ho,hc,hd⟩:=hit;unfold pyNext;refine Qb (wpAny_attempt (wpAny_callSpecial?_slot (name:=Str.ofString "__next__") hT F.slot_dict_keyiterator_next (wpAny_call_entry F.slot_dict_keyiterator_next hT F.entry_dict_keyiterator_next ?_ (F.args_dict_keyiterator_next_1 _))));refine Qb (Qf (Qb (Qb ?_)))
 first | refine Qb (wpAny_typeNameOfWhole_keyiter hT (Qf (Qb (wpAny_fieldsOf ho hd ?_)))) | refine Qb (wpAny_typeNameOf_keyiter hT (Qf (Qb (wpAny_fieldsOf ho hd ?_))))
 simp only [show Builtin.Dict_items.ownsTuple "dict_keyiterator"=false by decide,QM,if_false];show wpAny _ _ (if (Value.ref d == Value.none)=true then _ else _) _ _ _;rw [if_neg (show ¬ (Value.ref d == Value.none)=true from fun z=>by cases z)];refine Qb (Qf (Qb (wpAny_dictEntries Jh Im ?_)));rw [if_neg (by simp)];refine Qb (Qf (Qb (wpAny_dictEpoch Jh Im ?_)));rw [if_neg (by simp)];refine Qf ?_;simp only [show ¬ ((i:Int)<0) by lia,if_false,Qy,Array.getElem?_eq_getElem Fl];refine Qb ?_
 first | refine Qb (wpAny_typeNameOfWhole_keyiter hT (Qf (Qb (wpAny_isOneOf_keyiter hT ?_)))) | refine Qb (wpAny_typeNameOf_keyiter hT (Qf (Qb (wpAny_isOneOf_keyiter hT ?_))))
 show wpAny _ _ (setField (.ref it) 1 (rawInt ((i:Int)+1)) >>= _) _ _ _;refine Qb (wpAny_setField ho hd (by simp) (Qb (wpAny_holding ?_)));have hi2:(s.heap.update it (Obj.mapFields (·.setIfInBounds 1 (rawInt ((i:Int)+1))))).IsKeyIter it d (i+1) es.size ep:=by refine ⟨_,Heap.get?_update_self _ ho (Obj.isFreed_of_fields (Obj.data_mapFields hd _)),(Obj.cls_mapFields ..).trans hc,?_⟩;rw [Obj.data_mapFields hd];simp [rawInt]
 refine Qb (wpAny_isOneOf_keyiter (s:={ s with heap:=s.heap.update it (Obj.mapFields (·.setIfInBounds 1 (rawInt ((i:Int)+1)))) }) hi2.typeIs ?_);show wpAny _ _ (pure es[i].key) _ _ _;exact Qf (Qf ⟨_,rfl,Qf (hQ _ hi2 (Heap.SameBut.update ..))⟩)
theorem BR {Q:Option Value->Shared->Prop} (hh:A.handled=none) (hit:s.heap.IsKeyIter it d i es.size ep) (Jh:s.heap.get? d=some od) (Im:od.data=.dict es ep) (IX:es.size<=i)
  (hQ:∀ h',Heap.ExtBut it s.heap h'->Q none { s with heap:=h' }):wpAny (model prog w) A (pyNext (.ref it)) Q E s:=by
 have hT:=hit.typeIs;obtain ⟨o,ho,hc,hd⟩:=hit;unfold pyNext;refine Qb (wpAny_attempt (wpAny_callSpecial?_slot (name:=Str.ofString "__next__") hT F.slot_dict_keyiterator_next (wpAny_call_entry F.slot_dict_keyiterator_next hT F.entry_dict_keyiterator_next ?_ (F.args_dict_keyiterator_next_1 _))));refine Qb (Qf (Qb (Qb ?_)))
 first | refine Qb (wpAny_typeNameOfWhole_keyiter hT (Qf (Qb (wpAny_fieldsOf ho hd ?_)))) | refine Qb (wpAny_typeNameOf_keyiter hT (Qf (Qb (wpAny_fieldsOf ho hd ?_))))
 simp only [show Builtin.Dict_items.ownsTuple "dict_keyiterator"=false by decide,QM,if_false];show wpAny _ _ (if (Value.ref d == Value.none)=true then _ else _) _ _ _;rw [if_neg (show ¬ (Value.ref d == Value.none)=true from fun z=>by cases z)];refine Qb (Qf (Qb (wpAny_dictEntries Jh Im ?_)));rw [if_neg (by simp)];refine Qb (Qf (Qb (wpAny_dictEpoch Jh Im ?_)));rw [if_neg (by simp)];refine Qf ?_;simp only [show ¬ ((i:Int)<0) by omega,if_false,Qy,Array.getElem?_eq_none IX];refine Qb ?_
 first | refine Qb (wpAny_typeNameOfWhole_keyiter hT (Qf ?_)) | refine Qb (wpAny_typeNameOf_keyiter hT (Qf ?_))
 show wpAny _ _ (setField (.ref it) 0 .none >>= _) _ _ _;refine Qb (wpAny_setField ho hd (by simp) ?_);show wpAny _ _ (newExc (.type "StopIteration") [] >>= _) _ _ _;refine Qb ?_;simp only [newExc,newTuple];refine Qb (wpAny_newObj_type (Qb (m:=firstArgMember _ _) (wpAny_of_eq (a:=Value.none) (by first | rfl | (simp only [firstArgMember];rfl)) (wpAny_newObj_type ?_ (by size_fits)))) (by size_fits));simp only [raiseNew];refine Qb (wpAny_handled ?_);rw [show A.in1.handled=none from hh];refine (Qb (Qf (wpAny_throw ?_)));refine (Qb (wpAny_isInstance (T:="StopIteration") (b:=true) ⟨_,Qn _ rfl,rfl⟩ isSubtype_stop (Qf (hQ _ ?_))));exact ((Heap.SameBut.update ..).extBut.push _).push _
theorem BS {Q:Value->Shared->Prop} (hT:s.TypeIs (.ref d) "dict") (hd:(d == sysModules)=false) (Jh:s.heap.get? d=some od) (Im:od.data=.dict es ep)
  (hQ:Q (.ref s.heap.objs.size) { s with heap:=s.heap.push { cls:=.type "dict_keyiterator",data:=.fields #[.ref d,.int 0 0,.int es.size 0,.int ep 0] } }):wpAny (model prog w) A (pyIter (.ref d)) Q E s:=by
 refine wpAny_pyIter_slot hT F.slot_dict_iter (wpAny_call_entry F.slot_dict_iter hT F.entry_dict_iter ?_ (F.args_dict_iter_1 _));unfold Builtin.«dict.__iter__» Builtin.Dict.dictSlotNone;refine Qb (Qb (wpAny_notOrdered_dict hT ?_));show wpAny _ _ (pure (Value.ref d)) _ _ _;refine Qf ?_;show wpAny _ _ (Builtin.Dict.showsAll d >>= _) _ _ _;unfold Builtin.Dict.showsAll;rw [if_neg (show ¬ (d == sysModules)=true by rw [hd];decide)];refine Qb (Qf (Qb (wpAny_dictEntries Jh Im (Qb (wpAny_dictEpoch Jh Im ?_)))));refine Qb (wpAny_newObj_type (Qf ⟨_,rfl,"dict_keyiterator",_,⟨_,Qn _ rfl,rfl⟩,F.slot_dict_keyiterator_next.lookup,?_⟩));simpa [rawInt] using hQ
end
theorem BU {P:Program} {w:World} {H:Hp} {h:Heap} {d:Addr} {od:Obj} {Fe:List (List ae × V)} {es:Array DictEntry} {ep:Nat} (ok:bC P w H h) (e:H d=some (.frz od (.dT Fe))) (Im:od.data=.dict es ep) :
  h.get? d=some od/\es.size=Fe.length/\∀ (i:Nat) (hi:i<es.size) kv,Fe[i]?=some kv->∃ b,es[i].key=.ref b/\H b=some (.tup (kv.1.map kV)):=by
 obtain ⟨Jh,_,_,xs,r,o,es',ep',h1,_,h3,h4,_⟩:=(show bJ P w H h d (.frz od (.dT Fe)) from ok d _ e)
 rw [Jh] at h1;cases h1;rw [Im] at h3;cases h3;have hl:es.size=xs.length:=by rw [<- Qv,h4,Qe]
 refine ⟨Jh,by rw [hl];exact (Paired.length r).symm,fun i hi kv hk=>?_⟩;have Hr:i<xs.length:=by lia
 have ek:es[i]=entryOfKey (tupleKind (bF P w)) xs[i]:=by have:=congrArg (fun l=>l[i]?) h4;simp only [Qu,Qa Hr] at this;rw [Array.getElem?_toList,Array.getElem?_eq_getElem hi] at this;exact Qp this
 have pr:∀ {l:List (List ae × V)} {m:List (List ae × Addr × Value)},Paired (fun (p:List ae × V) (q:List ae × Addr × Value)=>p.1=q.1/\H q.2.1=some (.tup (p.1.map kV))/\RelV p.2 q.2.2) l m->∀ (i:Nat) p q,l[i]?=some p->m[i]?=some q->H q.2.1=some (.tup (p.1.map kV)):=by
  intro l m pq
  induction pq with
  | nil=>intro i p q h;simp at h
  | cons hq _ ih =>
   intro i p q h1 h2
   cases i with
   | zero =>
    simp only [List.getElem?_cons_zero,Option.some.injEq] at h1 h2;subst h1 h2;exact hq.2.1
   | succ j =>
    simp only [List.getElem?_cons_succ] at h1 h2;exact ih j p q h1 h2
 exact ⟨xs[i].2.1,by rw [ek];rfl,pr r i kv xs[i] hk (Qa Hr)⟩
section
variable {X:Cx} {tg:Expr}
theorem Inv.freeze {Fd:List (Addr × Obj)} {σ:St} {H:Hp} {s:Shared} {d:Addr} {Fe:List (List ae × V)} {od:Obj} (I:Inv X Fd σ H s) (e:H d=some (.dT Fe)) (ho:s.heap.get? d=some od):Inv X Fd σ (upd H d (.frz od (.dT Fe))) s:=by
 have h0:∀ {t:Nat},Inv X Fd σ (upd H d (.frz od (.dT Fe))) { s with heap:=s.heap,toks:=t }:=by intro t;refine I.write (x:=d) (e:=d) (by rw [e];trivial) (.inl rfl) (fun b q hb z=>z) ⟨_,ho⟩ ⟨ho,?_⟩;have q:=I.hok d _ e;exact q.stay (fun _ _ _ z=>z) (fun c z=>by rw [ay (fun y=>by rw [y,e] at z;cases z)];exact z) fun c xs z=>by rw [ay (fun y=>by rw [y,e] at z;cases z)];exact z
 exact h0 (t:=s.toks)
end
end L2
namespace L2
open PySem PySem.Spec PyProof.Rows PySem.W
theorem BV {prog:Program} {w:World} {d:Addr} {od:Obj} {es:Array DictEntry} {ep:Nat} (hc:od.cls=.type "dict") (Im:od.data=.dict es ep) (hs:(d == sysModules)=false) :
  KdlSrc prog w "dict" d d es.size (fun i v=>∃ h:i<es.size,v=es[i].key) (fun h=>h.get? d=some od) where
 type:=fun s h=>⟨od,h,hc⟩
 there:=fun h e=>⟨Ql e,Ql e⟩
 keep:=fun h h' e k=>k d (.inl rfl) _ e
 notList:=by decide
 notTuple:=by decide
 hint:=fun A E s Q h q=>kdl_hint_dict ⟨od,h,hc⟩ q
 iter:=fun A s hh h=>by
  refine ⟨_,fun i h'=>h'.IsKeyIter s.heap.objs.size d i es.size ep/\h'.get? d=some od,fun E Q q=>BS ⟨od,h,hc⟩ hs h Im q,?_,?_⟩
  ·have Fq:d≠s.heap.objs.size:=QC (Ql h);refine ⟨fun b hb=>List.mem_cons.mpr (.inl (by simpa using hb)),fun i h1 h2 st k=>⟨st.1.at fun o e=>k _ (by simp) o e,k d (by simp) _ st.2⟩,?_,?_,?_⟩
   ·intro i s1 Q E hi st q;refine BQ st.1 st.2 Im hi fun h' FL sb=>?_;exact q _ h' s1.toks ⟨hi,rfl⟩ ⟨FL,(sb.2 d Fq).trans st.2⟩ fun b o hb e=>(sb.2 b (by simpa using hb)).trans e
   ·intro s1 Q E st q;refine BR hh st.1 st.2 Im (Qc _) fun h' eb=>?_;exact q h' s1.toks fun b o hb e=>eb b o (by simpa using hb) e
   ·intro i s1 Q E st q;exact wpAny_pyIter_keyiter st.1 q
  ·exact ⟨⟨_,Qn _ rfl,rfl,rfl⟩,Qd _ h⟩
section
variable {X:Cx}
theorem BW (hc:X.calm=true):d0 X (.builtin "sorted") (fun as H Q=>∃ (d:Addr) (Fe:List (List ae × V)) (sh:List Bool),as=[.ref d]/\H d=some (.dT Fe)/\Fe.length<1000000/\(∀ kv∈Fe,kv.1.map br=sh)/\sh≠[] /\
  ∀ p xs,H p=none->bP H xs (Fe.map (·.1))->Q (.ref p) (upd H p (.lst (bZ (Fe.map (·.1)) xs)))):=by
 intro Fd s σ H as us Q I r h;obtain ⟨d,Fe,sh,rfl,hd,h64,FR,Fq,q⟩:=h;obtain ⟨u,rfl,ru⟩:=vals1 r;cases (show u=Value.ref d from ru);obtain ⟨z,hs,ys,Ga,dd⟩:=sT I.hok hd;have hT:=dd.typeIs;obtain ⟨od,es,ep,ho,hcl,hdat,_⟩:=dd;have hcl:od.cls=.type "dict":=by obtain ⟨o,e,c⟩:=hT;rw [ho] at e;cases e;exact c
 have If:=I.freeze hd ho;obtain ⟨_,hsz,Jp⟩:=BU If.hok af hdat;refine Calls.call_function_entry kind_sorted plain_sorted entry_sorted (args_sorted1 _) ?_;unfold Builtin.«sorted»;refine Qb (m:=checkCount "sorted" 1 1 _) (Qf ?_);refine Qb (kdu_collect (BV hcl hdat hs) (I.ok.hd hc) ho (by rw [hsz,sizeLine_eq];lia) fun h1 tk FC hk hacc=>?_);obtain ⟨IY,hav⟩:=hacc;have I1:Inv X Fd σ H { s with heap:=h1,toks:=tk }:=I.kept (t':=tk) hk
 have each:∀ (i:Nat) (v:Value),FC.toList[i]?=some v->∃ b kv,v=.ref b/\Fe[i]?=some kv/\H b=some (.tup (kv.1.map kV)):=fun i v hv=>by
  rw [Array.getElem?_toList] at hv;obtain ⟨hi,rfl⟩:=hav i v hv;have Gq:i<Fe.length:=by rw [<- hsz];exact hi
  obtain ⟨b,e1,e2⟩:=Jp i hi Fe[i] (Qa Gq);have hbd:b≠d:=fun z=>by rw [z,af] at e2;cases e2
  rw [ay hbd] at e2;exact ⟨b,Fe[i],e1,Qa Gq,e2⟩
 obtain ⟨xs,rv,hxt⟩:∃ xs:List V,aD xs FC.toList/\∀ (i:Nat) (x:V),xs[i]?=some x->∃ b kv,x=.ref b/\Fe[i]?=some kv/\H b=some (.tup (kv.1.map kV)):=by
  have go:∀ (vs:List Value) (f:Nat->Option (List ae × V)),(∀ (i:Nat) (v:Value),vs[i]?=some v->∃ b kv,v=.ref b/\f i=some kv/\H b=some (.tup (kv.1.map kV)))->∃ xs:List V,aD xs vs/\∀ (i:Nat) (x:V),xs[i]?=some x->∃ b kv,x=.ref b/\f i=some kv/\H b=some (.tup (kv.1.map kV)):=by
   intro vs
   induction vs with
   | nil=>intro f _;exact ⟨[],.nil,fun i x h=>by simp at h⟩
   | cons v vs ih =>
    intro f h;obtain ⟨b,kv,rfl,e2,e3⟩:=h 0 v rfl;obtain ⟨xs,r1,r2⟩:=ih (fun i=>f (i+1)) fun i v hv=>h (i+1) v hv;refine ⟨.ref b::xs,.cons rfl r1,fun i x hx=>?_⟩
    cases i with
    | zero =>
     have:V.ref b=x:=by simpa using hx
     subst this;exact ⟨b,kv,rfl,e2,e3⟩
    | succ i=>exact r2 i x hx
  exact go FC.toList (fun i=>Fe[i]?) each
 have Ij:xs.length=Fe.length:=by rw [rv.length,Qv,IY,hsz]
 have ht:bP H xs (Fe.map (·.1)):=⟨by rw [Ij,Qe],fun i x k hx hk=>by
  obtain ⟨b,kv,e1,e2,e3⟩:=hxt i x hx;rw [Qu,e2] at hk;have:kv.1=k:=by simpa using hk
  exact ⟨b,e1,by rw [<- this];exact e3⟩⟩
 have hsh2:∀ k∈Fe.map (·.1),k.map br=sh:=fun k hk=>by obtain ⟨kv,h1,rfl⟩:=QT hk;exact FR kv h1
 have h64x:xs.length<1000000:=by rw [Ij];exact h64
 generalize FC.toList=its at rv;have FY:its.length=xs.length:=rv.length.symm;have hz:its.length<=sizeLine:=by rw [sizeLine_eq];lia
 refine Qb (wpAny_newList (s:={ s with heap:=h1,toks:=tk }) ?_ hz);have Ji:(h1.push (seqObj "list" its.toArray 0)).get? h1.objs.size=some (seqObj "list" its.toArray 0):=Qn _ rfl;have I2:Inv X Fd σ H { s with heap:=h1.push (seqObj "list" its.toArray 0),toks:=tk }:=I1.kept (t':=tk) fun b o e=>Qd _ e;have fL:cR X Fd H h1.objs.size:=I1.fpOk (Qc _) (I1.hok.fresh (Qc _));change wpAny _ _ _ _ _ { s with heap:=h1.push (seqObj "list" its.toArray 0),toks:=tk };dsimp only;generalize h1.push (seqObj "list" its.toArray 0)=h2 at Ji I2;generalize h1.objs.size=L at Ji fL;refine Qb (wpAny_holding (wpAny_call_entry (s:={ s with heap:=h2,toks:=tk }) slot_list_sort ⟨_,Ji,rfl⟩ entry_list_sort (Bs I2 fL Ji rv (by rw [<- FY];exact hz) ht hsh2 Fq fun s' out n' I' hoa F4 vy=>⟨_,rfl,?_⟩) (args_list_sort _)));refine Qf ⟨_,rfl,.ref L,upd H L (.lst (bZ (Fe.map (·.1)) xs)),I'.adopt fL ?_,rfl,q L xs fL.1 ht⟩;have Gc:(bZ (Fe.map (·.1)) xs).length<=sizeLine:=by rw [vy.length,Qv];exact F4
 exact ⟨Gc,out.toList,n',vy,by simpa using hoa⟩
end
end L2
namespace L2
open PySem PySem.Spec PyProof.Rows
theorem ip {X:Cx} {K:PySem.W.Frag} {n:String} (hK:X.K=K):d0 X (.builtin "isinstance") (fun xs H Q=>∃ x t b,xs=[x,.ty n]/\cZ K H x t/\PySem.W.kitOne K t (.type n)=some b/\Q (.bl b) H):=by subst hK;exact z6
end L2
namespace L2
theorem BX {α:Type}:∀ {us:List α},us.length=1->∃ a,us=[a]
 | [a],_=>⟨a,rfl⟩
theorem ut {α:Type} {n:Nat}:∀ {us:List α},us.length=n+1->∃ a r,us=a::r/\r.length=n
 | a::r,h=>⟨a,r,rfl,Nat.succ.inj h⟩
theorem gC {α:Type} {us:List α} (h:us.length=2):∃ a b,us=[a,b]:=by obtain ⟨a,r,rfl,k⟩:=ut h;obtain ⟨b,rfl⟩:=BX k;exact ⟨a,b,rfl⟩
theorem BY {α:Type} {us:List α} (h:us.length=3):∃ a b c,us=[a,b,c]:=by obtain ⟨a,r,rfl,k⟩:=ut h;obtain ⟨b,c,rfl⟩:=gC k;exact ⟨a,b,c,rfl⟩
end L2
namespace L2
open PySem
theorem gD {K:PySem.W.Frag} {a:Addr} {xs:List V} {g:TG} {tb:TS} {D:cE} {σ:St} {H:Hp} (Pv:Nat->St->Hp->Prop) (h0:Pv 0 σ H) (hl:∀ i σ H,i<=xs.length->Pv i σ H->ak K H a xs)
  (hs:∀ i x σ H,xs[i]?=some x->Pv i σ H->∀ E:cE,(∀ σ H,Pv (i+1) σ H->E.nx σ H)->g x σ H fun σ2 H2=>tb E σ2 H2) (hd:∀ σ H,Pv xs.length σ H->D.nx σ H) :
  ∃ W:Nat->Nat->St->Hp->Prop,(∃ m,W 0 m σ H)/\∀ i m σ H,W i m σ H ->
   ((dZ K a).stop i H/\D.nx σ H)∨((dZ K a).go i H/\∃ N:St->Hp->Prop,(∀ σ' H',N σ' H'->∃ m',m'<m/\W (i+1) m' σ' H')/\∀ x H',(dZ K a).yld i H x H'->g x σ H' fun σ2 H2=>tb { D with nx:=N,ct:=N,bk:=D.nx } σ2 H2) :=
 rD Pv h0 hl (fun i x σ H hx hp=>hs i x σ H hx hp _ fun _ _ h=>h) hd
theorem lZ {lo:Int} {n:Nat} {g:TG} {tb:TS} {D:cE} {σ:St} {H:Hp} (Pv:Nat->St->Hp->Prop) (h0:Pv 0 σ H)
  (hs:∀ i σ H,i<n->Pv i σ H->∀ E:cE,(∀ σ H,Pv (i+1) σ H->E.nx σ H)->g (.int (lo+i)) σ H fun σ2 H2=>tb E σ2 H2) (hd:∀ σ H,Pv n σ H->D.nx σ H) :
  ∃ W:Nat->Nat->St->Hp->Prop,(∃ m,W 0 m σ H)/\∀ i m σ H,W i m σ H ->
   ((fO lo n).stop i H/\D.nx σ H)∨((fO lo n).go i H/\∃ N:St->Hp->Prop,(∀ σ' H',N σ' H'->∃ m',m'<m/\W (i+1) m' σ' H')/\∀ x H',(fO lo n).yld i H x H'->g x σ H' fun σ2 H2=>tb { D with nx:=N,ct:=N,bk:=D.nx } σ2 H2) :=
 nK Pv h0 (fun i σ H hi hp=>hs i σ H hi hp _ fun _ _ h=>h) hd
theorem BZ {K:PySem.W.Frag} {a:Addr} {xs:List V} {g:TG} {tb:TS} {D:cE} {σ:St} {H:Hp} (Pv:Nat->St->Hp->Prop) (h0:Pv 0 σ H) (hl:∀ i σ H,i<=xs.length->Pv i σ H->au K H a xs)
  (hs:∀ i x σ H,xs[i]?=some x->Pv i σ H->∀ E:cE,(∀ σ H,Pv (i+1) σ H->E.nx σ H)->g x σ H fun σ2 H2=>tb E σ2 H2) (hd:∀ σ H,Pv xs.length σ H->D.nx σ H) :
  ∃ W:Nat->Nat->St->Hp->Prop,(∃ m,W 0 m σ H)/\∀ i m σ H,W i m σ H ->
   ((eF K a).stop i H/\D.nx σ H)∨((eF K a).go i H/\∃ N:St->Hp->Prop,(∀ σ' H',N σ' H'->∃ m',m'<m/\W (i+1) m' σ' H')/\∀ x H',(eF K a).yld i H x H'->g x σ H' fun σ2 H2=>tb { D with nx:=N,ct:=N,bk:=D.nx } σ2 H2) :=
 yQ Pv h0 hl (fun i x σ H hx hp=>hs i x σ H hx hp _ fun _ _ h=>h) hd
theorem gE {α β:Type} {f:α->β} {l:List α} {i:Nat} {x:β} (h:(l.map f)[i]?=some x):∃ h:i<l.length,x=f l[i]:=by rw [Qu] at h;obtain ⟨a,h1,h2⟩:=Option.map_eq_some_iff.mp h;obtain ⟨h3,h4⟩:=Qh h1;exact ⟨h3,by rw [h4,h2]⟩
end L2
namespace L2
open PySem PySem.Spec PyProof.Rows
noncomputable def K0:PySem.W.Frag:=[]
theorem ak.up {K:PySem.W.Frag} {H:Hp} {a:Addr} {xs:List V} (h:ak K0 H a xs):ak K H a xs:=h.elim .inl fun hsl64=>by obtain ⟨_,_,_,e,_⟩:=hsl64;exact nomatch e
theorem au.up {K:PySem.W.Frag} {H:Hp} {a:Addr} {xs:List V} (h:au K0 H a xs):au K H a xs:=h.elim .inl fun hsl65=>by obtain ⟨_,_,_,e,_⟩:=hsl65;exact nomatch e
section
variable {X:Cx} {tg:Expr}
theorem B0:gX X (jS K0):=by rintro va sl Fd s σ H x y v u Q I rx ry ⟨p,xs,i,v,e1,e2,h,e3,q⟩;exact zI va sl Fd s σ H x y _ u Q I rx ry ⟨p,xs,i,v,e1,e2,h.up,e3,q⟩
theorem ef:gX X (jR K0):=by rintro va sl Fd s σ H x y v u Q I rx ry ⟨p,xs,i,v,e1,e2,h,e3,q⟩;exact sr va sl Fd s σ H x y _ u Q I rx ry ⟨p,xs,i,v,e1,e2,h.up,e3,q⟩
theorem aO {a:Expr} {ta:TE} {pos p2:Pos} {i:Int} {j} (ha:PE X a ta):PE X (.Subscript a (.Constant (.int i) j p2) pos) (gU (jS K0) ta (tC (.int i))):=cB B0 ha ah (fun _ _=>rfl)
theorem eQ {a:Expr} {ta:TE} {pos p2:Pos} {i:Int} {j} (ha:PE X a ta):PE X (.Subscript a (.Constant (.int i) j p2) pos) (gU (jR K0) ta (tC (.int i))):=cB ef ha ah (fun _ _=>rfl)
theorem aP {i:Nat} {σ:St} {H:Hp} {Q:VK} {t:Addr} {xs:List V} {v:V} (j:Nat) (h1:σ[i]?=some (some (.ref t))) (h2:H t=some (.tup xs)) (h3:xs[j]?=some v) (k:Q v H):gU (jS K0) (k7 i) (tC (.int (j:Int))) σ H Q:=⟨_,h1,t,xs,_,v,rfl,rfl,au.of h2,bn h3,k⟩
theorem B1:iP X (nY K0):=by rintro Fd s σ H x v vl vu lo hi sl Q I rx hs pl pu ⟨a,xs,e,h,q⟩;exact zL Fd s σ H x v vl vu lo hi sl Q I rx hs pl pu ⟨a,xs,e,h.up,q⟩
theorem iq:iP X (nU K0):=by rintro Fd s σ H x v vl vu lo hi sl Q I rx hs pl pu ⟨a,xs,e,h,n,q⟩;exact zG Fd s σ H x v vl vu lo hi sl Q I rx hs pl pu ⟨a,xs,e,h.up,n,q⟩
theorem oY:bD X (compareOp .In) (jW K0 false):=by rintro Fd s σ H x y v u Q I rx ry ⟨p,xs,e,h,f,g,q⟩;exact zN Fd s σ H x y v u Q I rx ry ⟨p,xs,e,h.imp ak.up au.up,f,g,q⟩
theorem B2:bD X (binaryOp .Add) (nV K0):=by rintro Fd s σ H x y v u Q I rx ry ⟨a,b,xs,ys,e1,e2,h1,h2,n,l,q1,q2⟩;exact lv Fd s σ H x y v u Q I rx ry ⟨a,b,xs,ys,e1,e2,h1.up,h2.up,n,l,q1,q2⟩
inductive uv (xs:List V) (H:Hp) (Q:VK):Prop
 | mk:∀ p ys,xs=[.ref p]->(ak K0 H p ys∨au K0 H p ys)->Q (.int ys.length) H->uv xs H Q
theorem ma:d0 X (.builtin "len") uv:=by rintro Fd s σ H xs us Q I r ⟨p,ys,e,h,q⟩;exact nZ Fd s σ H xs us Q I r ⟨p,ys,e,h.imp ak.up au.up,q⟩
theorem oZ:d0 X (.type "tuple") (fun xs H Q=>∃ p ys,xs=[.ref p]/\((ak K0 H p ys/\∀ l,H l=none->Q (.ref l) (upd H l (.tup ys)))∨(au K0 H p ys/\Q (.ref p) H))):=by rintro Fd s σ H xs us Q I r ⟨p,ys,e,h⟩;exact zQ Fd s σ H xs us Q I r ⟨p,ys,e,h.imp (fun h=>⟨h.1.up,h.2⟩) fun h=>⟨h.1.up,h.2⟩⟩
theorem c8 {es:List Expr} {k:Nat} {pos:Pos} {t:gg} {n:Nat} (hc:X.calm=true) (h:iK X es t)
  (hn:(assignEach es X.env).length=n:=by rfl) (Jc:(assignEach es X.env).findIdx? (·.1)=none:=by rfl):PG X (.Tuple es k pos) (ll K0 n t):=by
 rintro Fd s σ H v u Q I r ⟨a,xs,e1,hq,hl,hw⟩;exact rA hc h hn Jc Fd s σ H v u Q I r ⟨a,xs,e1,hq.up,hl,hw⟩
theorem eE.mono {P:Program} {w:World} {K:PySem.W.Frag} {J J':It} {fp:List Addr} {it:Addr} {tn:Nat->Heap->Prop} (T:eE P w K tg J fp it tn) (g:∀ i H,J'.go i H->J.go i H) (y:∀ i H x H',J.yld i H x H'->J'.yld i H x H') (d:∀ i H,J'.stop i H->J.stop i H):eE P w K tg J' fp it tn :=
 ⟨T.mem,T.obj,T.keep,fun X a b c cl i Fd s σ H E I f t h=>QR (T.item X a b c cl i Fd s σ H E I f t (g i H h)) (fun _ _ hsl66=>by obtain ⟨u,e,z⟩:=hsl66;exact ⟨u,e,QR z (fun _ _ hsl67=>by obtain ⟨x,H',q1,q2,q3,q4⟩:=hsl67;exact ⟨x,H',q1,q2,y _ _ _ _ q3,q4⟩) fun _ _ z=>z⟩) fun _ _ z=>z,fun X a b c cl i Fd s σ H E I f t h=>T.done X a b c cl i Fd s σ H E I f t (d i H h),T.self⟩
theorem cz {l:Expr} {tl:TE} (hl:PE X l tl):PI X tg l (yM K0 tl):=by intro Fd s σ H R I h;refine az (hl Fd s σ H _ I h) fun v s1 hsl68=>?_;obtain ⟨x,H1,I1,r1,a,e,⟨xs,hq⟩,q⟩:=hsl68;subst e;cases r1;obtain ⟨its,rv,p,hz⟩:=I1.list hq.up;refine wpAny_pyIter_list p.isList ⟨s1.heap.objs.size,[s1.heap.objs.size],_,dZ K0 a,H1,rfl,I1.kept (t':=s1.toks) fun b o e=>Qd _ e,(yJ a _).mono (fun i H hsl69=>by obtain ⟨xs,x,h,e⟩:=hsl69;exact ⟨xs,x,h.up,e⟩) (fun i H x H' hsl70=>by obtain ⟨e,h⟩:=hsl70;exact ⟨e,fun xs z=>h xs z.up⟩) (fun i H hsl71=>by obtain ⟨xs,h,e⟩:=hsl71;exact ⟨xs,h.up,e⟩),⟨_,Qn _ rfl,rfl,rfl⟩,fun b hb=>?_,q⟩;rw [QL hb];exact I1.fpOk (Qc _) (I1.hok.fresh (Qc _))
theorem kr {l:Expr} {tl:TE} (hl:PE X l tl):PI X tg l (yN K0 tl):=by intro Fd s σ H R I h;refine az (hl Fd s σ H _ I h) fun v s1 hsl72=>?_;obtain ⟨x,H1,I1,r1,a,e,⟨xs,hq⟩,q⟩:=hsl72;subst e;cases r1;obtain ⟨its,rv,p,hz⟩:=I1.tuple hq.up;refine wpAny_pyIter_tuple (show s1.heap.IsTuple a its.toArray from p) ⟨s1.heap.objs.size,[s1.heap.objs.size],_,eF K0 a,H1,rfl,I1.kept (t':=s1.toks) fun b o e=>Qd _ e,(yK a _).mono (fun i H hsl73=>by obtain ⟨xs,x,h,e⟩:=hsl73;exact ⟨xs,x,h.up,e⟩) (fun i H x H' hsl74=>by obtain ⟨e,h⟩:=hsl74;exact ⟨e,fun xs z=>h xs z.up⟩) (fun i H hsl75=>by obtain ⟨xs,h,e⟩:=hsl75;exact ⟨xs,h.up,e⟩),⟨_,Qn _ rfl,rfl,rfl⟩,fun b hb=>?_,q⟩;rw [QL hb];exact I1.fpOk (Qc _) (I1.hok.fresh (Qc _))
theorem iR.up {K:PySem.W.Frag} {T:String} {x:V} {H:Hp} (h:iR K0 T x H):iR K T x H:=by
 cases x with
 | ref p=>exact h.elim (fun ⟨e,xs,z⟩=>.inl ⟨e,xs,z.up⟩) fun h=>h.elim (fun ⟨_,_,e,_⟩=>nomatch e) fun h=>.inr (.inr h)
 | _=>exact h
section
variable {o e:Expr} {es:List Expr} {to:TE} {t:TA} {apos Fx:Pos}
theorem jn (ho:PE X o to) (ha:PA X (e::es) t)
  (HG:attributeBase o "append" X.env (eval o X.env)=eval o X.env:=by rfl)
  (hfew:((backTo Fx (starEach (e::es) X.env)).all (fun x=>!x.1)&&(backToKw Fx (keywordEach [] X.env)).all (fun x=>x.1.isSome)
   && decide ((e::es).length+([]:List Keyword).length+(if ([]:List Keyword).isEmpty then 0 else 1)<30))=true:=by rfl)
  (HF:(apos.endLine == Fx.line)=true:=by rfl) (hs:starEach (e::es) X.env=(false,eval e X.env)::starEach es X.env:=by rfl) (Ih:(backTo Fx (starEach es X.env)).any (·.1)=false:=by rfl) :
  PE X (.Call (.Attribute o "append" apos) (e::es) [] Fx) (su K0 "list" n5 to t):=by
 intro Fd s σ H Q I h;refine wpAny_Call_method_late HG hfew HF rfl (az (ho Fd s σ H _ I h) fun v s1 hsl76=>?_);obtain ⟨x,H1,I1,r1,ty,q1⟩:=hsl76;obtain ⟨h1,h2⟩:=n0 I1 r1 ty.up;refine ⟨_,_,PySem.F.plainAttrs_list,PySem.F.slot_list_append,PySem.F.type_list_append,h1,h2,?_⟩;have hA:=ha Fx Fd s1 σ H1 _ I1 q1;rw [hs] at hA ⊢;refine Calls.callWith_builtin (by show (false||(backTo Fx (starEach es X.env)).any (·.1))=false;rw [Ih]<;>rfl) (Calls.evalArgs_plain ?_);exact az hA fun us s2 hsl77=>by obtain ⟨vs,H2,I2,r2,q2⟩:=hsl77;exact zU Fd s2 σ H2 x vs v us Q I2 r1 r2 q2
end
end
end L2
namespace L2
open PySem PySem.Spec PyProof.Rows PySem.W
inductive eh:List Value->List ae->Prop
 | nil:eh [] []
 | int {vs:List Value} {ks:List ae} (i:Int) (t:Tok):eh vs ks->eh (.int i t::vs) (.inl i::ks)
 | str {vs:List Value} {ks:List ae} (x:Str) (t:Tok):eh vs ks->eh (.str x t::vs) (.inr x::ks)
theorem eh.length:∀ {vs:List Value} {ks:List ae},eh vs ks->vs.length=ks.length
 | _,_,.nil=>rfl
 | _,_,.int _ _ h=>by simp [h.length]
 | _,_,.str _ _ h=>by simp [h.length]
theorem md:∀ {ks:List ae} {us:List Value},aD (ks.map kV) us->eh us ks
 | [],us,h=>by cases h;exact .nil
 | .inl i::ks,us,h=>by
  cases h with
  | cons a b =>
   obtain ⟨t,rfl⟩:=(show ∃ t,_=Value.int i t from a)
   exact .int i t (md b)
 | .inr x::ks,us,h=>by
  cases h with
  | cons a b =>
   obtain ⟨t,rfl⟩:=(show ∃ t,_=Value.str x t from a)
   exact .str x t (md b)
section
open PySem.SeqAt
open PySem.AutoSeq1 (wpAny_loadPart')
open PySem.MeetsSeq PySem.MeetsSeq2 PySem.MeetsSeq3
theorem B3 (l b:Addr) (items Hm:Array Value) (n n2:Nat) (dd dd2:Option Addr) (sl sl2:Array (Option Value)) (ns ms:List ae) (hi:eh items.toList ns) (hj:eh Hm.toList ms) (FR:ns.map br=ms.map br) :
  Meets (Builtin.«tuple.__ge__» ⟨[.ref l,.ref b],[]⟩)
   (fun _ R s=>s.heap.get? l=some { cls:=.type "tuple",dict:=dd,data:=.seq items n,slots:=sl }/\s.heap.get? b=some { cls:=.type "tuple",dict:=dd2,data:=.seq Hm n2,slots:=sl2 } /\
    R (.ok (.ret (.bool (!bg ns ms)))) s) :=
 .of_wp fun prog w A R s h=>by
  obtain ⟨hp,g,d,tk,os⟩:=s;obtain ⟨hl,hb,h⟩:=h;have f2:=AutoSeq1.sub_tuple_tuple;have hll:ns.length=ms.length:=by have:=congrArg List.length FR;simpa using this
  have z1:items.size=ns.length:=by rw [<- hi.length];simp
  have z2:Hm.size=ms.length:=by rw [<- hj.length];simp
  wp_walk using wpAny_loadPart' hl,wpAny_loadPart' hb,wpAny_forIn_list _ (fun FE b s'=>b.1=none/\s'=⟨hp,g,d,tk,os⟩/\∃ (vs ws:List Value) (ns' ms':List ae),FE=vs.zip ws /\
   eh vs ns'/\eh ws ms'/\ns'.map br=ms'.map br/\R (.ok (.ret (.bool (!bg ns' ms')))) ⟨hp,g,d,tk,os⟩) _
  case turn =>
   rintro ⟨y,x⟩ FE b s' ⟨Ic,rfl,vs,ws,ns',ms',hz,hvi,hwi,Fj,hR⟩
   cases hvi with
   | nil=>rw [List.zip_nil_left] at hz;cases hz
   | int a t hvi' =>
    cases hwi with
    | nil=>rw [List.zip_nil_right] at hz;cases hz
    | str c u hwi'=>simp [br] at Fj
    | int c u hwi' =>
     rw [List.zip_cons_cons] at hz;injection hz with hyx hrest;injection hyx with hy hx;subst hy hx;rename_i ks1 _ ks2
     have Fl:bg (Sum.inl a::ks1) (Sum.inl c::ks2)=if (Sum.inl a:ae)=Sum.inl c then bg ks1 ks2 else decide (a<c):=rfl
     rw [Fl] at hR;have Fj:ks1.map br=ks2.map br:=by simpa [br] using Fj
     refine Qb (SeqAt.EqAt.int_int a t c u prog w _ _ ?_);by_cases e:a=c
     ·rw [if_pos (by rw [e])] at hR;rw [show (a == c)=true by simp [e]]
      wp_walk
      exact ⟨rfl,rfl,_,_,_,_,hrest,hvi',hwi',Fj,hR⟩
     ·rw [if_neg (fun z=>e (by injection z))] at hR;rw [show (a == c)=false by simp [e]]
      have hri:∀ (E:Value->Shared->Prop) (Q:Value->Shared->Prop) (h:Q (.bool (decide (a ≥ c))) ⟨hp,g,d,tk,os⟩),wpAny (model prog w) A.in1 (richCompare .GtE (.int a t) (.int c u)) Q E ⟨hp,g,d,tk,os⟩:=fun E Q h=>(PySem.P.ge_int h:wpAny (model prog w) A.in1 (compareOp .GtE (.int a t) (.int c u)) Q E ⟨hp,g,d,tk,os⟩)
      wp_walk using hri
      have ed:(!decide (a<c))=decide (a ≥ c):=by
       by_cases q:a<c
       ·rw [Qs q,Qj (by lia)];rfl
       ·rw [Qj q,Qs (by lia)];rfl
      rw [ed] at hR;exact ⟨_,rfl,by simpa using hR⟩
   | str a t hvi' =>
    cases hwi with
    | nil=>rw [List.zip_nil_right] at hz;cases hz
    | int c u hwi'=>simp [br] at Fj
    | str c u hwi' =>
     rw [List.zip_cons_cons] at hz;injection hz with hyx hrest;injection hyx with hy hx;subst hy hx;rename_i ks1 _ ks2
     have Fl:bg (Sum.inr a::ks1) (Sum.inr c::ks2)=if (Sum.inr a:ae)=Sum.inr c then bg ks1 ks2 else decide (a.cps.toList<c.cps.toList):=rfl
     rw [Fl] at hR;have Fj:ks1.map br=ks2.map br:=by simpa [br] using Fj
     refine Qb (SeqAt.EqAt.str_str a t c u prog w _ _ ?_);by_cases e:a=c
     ·rw [if_pos (by rw [e])] at hR;rw [show (a == c)=true by simp [e]]
      wp_walk
      exact ⟨rfl,rfl,_,_,_,_,hrest,hvi',hwi',Fj,hR⟩
     ·rw [if_neg (fun z=>e (by injection z))] at hR;rw [show (a == c)=false by simp [e]]
      have hri:∀ (E:Value->Shared->Prop) (Q:Value->Shared->Prop) (h:Q (.bool (!(a.cps.toList<c.cps.toList))) ⟨hp,g,d,tk,os⟩),wpAny (model prog w) A.in1 (richCompare .GtE (.str a t) (.str c u)) Q E ⟨hp,g,d,tk,os⟩:=fun E Q h=>(PySem.P.ge_str h:wpAny (model prog w) A.in1 (compareOp .GtE (.str a t) (.str c u)) Q E ⟨hp,g,d,tk,os⟩)
      wp_walk using hri
      exact ⟨_,rfl,by simpa using hR⟩
  case fin =>
   rintro ⟨b1,b2⟩ s' ⟨Ic,rfl,vs,ws,ns',ms',hz,hvi,hwi,Fj,hR⟩;simp only at Ic;subst Ic
   have hv:bg ns' ms'=false:=by
    cases hvi with
    | nil=>rfl
    | int a t hv =>
     cases hwi with
     | nil=>rfl
     | int c u hw=>rw [List.zip_cons_cons] at hz;cases hz
     | str c u hw=>rw [List.zip_cons_cons] at hz;cases hz
    | str a t hv =>
     cases hwi with
     | nil=>rfl
     | int c u hw=>rw [List.zip_cons_cons] at hz;cases hz
     | str c u hw=>rw [List.zip_cons_cons] at hz;cases hz
   rw [hv] at hR
   wp_walk
   exact ⟨_,rfl,by simpa [Builtin.Tuple.tupleCompareSizes,z1,z2,hll] using hR⟩
  case h =>
   exact ⟨rfl,rfl,items.toList,Hm.toList,ns,ms,rfl,hi,hj,FR,h⟩
end
theorem B4 {X:Cx} (hu:X.A.units<cLine):bD X (compareOp .GtE) (fun x y H Q=>∃ (a b:Addr) (ds es:List ae),x=.ref a/\y=.ref b/\H a=some (.tup (ds.map kV))/\H b=some (.tup (es.map kV))/\ds.map br=es.map br/\Q (.bl (!bg ds es)) H):=by
 intro Fd s σ H x y v u Q I rx ry h;obtain ⟨a,b,ds,es,rfl,rfl,ha,hb,FR,q⟩:=h;cases rx;cases ry;obtain ⟨⟨cls,dd,data,sl⟩,vs,n,ho,hc,hd,rv⟩:=kj I ha;obtain ⟨⟨cls2,dd2,data2,sl2⟩,vs2,n2,Hw,hc2,IG,rv2⟩:=kj I hb;simp only at hc hd hc2 IG;subst hc hd hc2 IG
 exact richCompare_meets_room (op:=.GtE) ⟨_,ho,rfl⟩ ⟨_,Hw,rfl⟩ PySem.F.slot_tuple_ge PySem.F.entry_tuple_ge (PySem.F.args_tuple_ge_2 _ _) (B3 a b vs.toArray vs2.toArray n n2 dd dd2 sl sl2 ds es (md (by simpa using rv)) (md (by simpa using rv2)) FR)
  ⟨ho,Hw,show Value.bool (!bg ds es)≠Value.notImplemented/\_ from ⟨(fun x=>nomatch x),.bl _,H,I,rfl,q⟩⟩ hu
end L2
namespace L2
open PySem PySem.Spec PyProof.Rows Mm
def dD (R:V->V->Prop):List V->List V->Prop
 | [],[]=>True
 | x::xs,y::ys=>R x y/\dD R xs ys
 | _,_=>False
noncomputable def me:V->Bool
 | .int _=>true
 | .str _=>true
 | _=>false
def bU (H:Hp):Nat->V->V->Prop
 | 0,x,y=>x=y/\me x=true
 | n+1,x,y=>x=y/\me x=true∨∃ (a b:Addr) (xs ys:List V),x=.ref a/\y=.ref b/\(H a=some (.tup xs)/\H b=some (.tup ys)∨H a=some (.lst xs)/\H b=some (.lst ys))/\dD (bU H n) xs ys
theorem bU.at {H:Hp} {x:V} (h:me x=true):∀ n,bU H n x x
 | 0=>⟨rfl,h⟩
 | n+1=>.inl ⟨rfl,h⟩
theorem bU.tup {H:Hp} {n:Nat} {a b:Addr} {xs ys:List V} (h:H a=some (.tup xs)) (h':H b=some (.tup ys)) (e:dD (bU H n) xs ys):bU H (n+1) (.ref a) (.ref b):=.inr ⟨a,b,xs,ys,rfl,rfl,.inl ⟨h,h'⟩,e⟩
theorem mh {A:Around} {s:Shared} {R:V->V->Prop} (hR:∀ x y v u,R x y->RelV x v->RelV y u->SeqAt.EqAt A s v u true):∀ {xs ys:List V} {vs us:List Value},dD R xs ys->aD xs vs->aD ys us->vs.length=us.length/\∀ (j:Nat) (h1:j<vs.toArray.size) (h2:j<us.toArray.size),SeqAt.EqAt A s vs.toArray[j] us.toArray[j] true
 | [],[],_,_,_,.nil,.nil=>⟨rfl,fun j h=>absurd h (Nat.not_lt_zero _)⟩
 | x::xs,y::ys,_,_,h,.cons r rs,.cons q qs=>by
  obtain ⟨i1,i2⟩:=mh hR h.2 rs qs;refine ⟨congrArg (·+1) i1,fun j h1 h2=>?_⟩
  cases j with
  | zero=>exact hR x y _ _ h.1 r q
  | succ j=>exact i2 j (by simpa using h1) (by simpa using h2)
 | [],_::_,_,_,h,_,_=>h.elim
 | _::_,[],_,_,h,_,_=>h.elim
section
variable {X:Cx} {Fd:List (Addr × Obj)} {σ:St} {H:Hp} {s:Shared}
theorem uw {A:Around} {x:V} {v u:Value} (h:me x=true) (r:RelV x v) (q:RelV x u):SeqAt.EqAt A s v u true:=by
 cases x with
 | int i =>
  obtain ⟨t,rfl⟩:=r;obtain ⟨t2,rfl⟩:=q;have:=SeqAt.EqAt.int_int (A:=A) (s:=s) i t i t2;rwa [beq_self_eq_true] at this
 | str z =>
  obtain ⟨t,rfl⟩:=r;obtain ⟨t2,rfl⟩:=q;have:=SeqAt.EqAt.str_str (A:=A) (s:=s) z t z t2;rwa [beq_self_eq_true] at this
 | _=>cases h
theorem B5 (I:Inv X Fd σ H s) {n:Nat} {A:Around} {a b:Addr} {xs ys:List V} (hu:A.units+n<cLine) (hR:∀ x y v u,bU H n x y->RelV x v->RelV y u->SeqAt.EqAt A.in1 s v u true) (h:H a=some (.tup xs)/\H b=some (.tup ys)∨H a=some (.lst xs)/\H b=some (.lst ys)) (e:dD (bU H n) xs ys):SeqAt.RcAt A s (.ref a) (.ref b) true:=by
 have all:∀ n,(List.range n).all (fun _=>true)=true:=fun n=>List.all_eq_true.mpr fun _ _=>rfl
 rcases h with ⟨h,h'⟩ | ⟨h,h'⟩
 ·obtain ⟨its,rv,pl,_⟩:=I.tuple (au.of h);obtain ⟨Gz,rv2,pl2,_⟩:=I.tuple (au.of h');obtain ⟨z,q⟩:=mh hR e rv rv2;have:=SeqAt.RcAt.tuples (A:=A) (e:=fun _=>true) pl pl2 (by lia) q;rw [all,Bool.true_and,Qk,Qk,z,beq_self_eq_true] at this;exact this
 ·obtain ⟨its,rv,pl,_⟩:=I.list (ak.of h);obtain ⟨Gz,rv2,pl2,_⟩:=I.list (ak.of h');obtain ⟨z,q⟩:=mh hR e rv rv2;have:=SeqAt.RcAt.lists (A:=A) (e:=fun _=>true) pl.isList pl2.isList (by simp [z]) (by lia) q;rw [all] at this;exact this
theorem ux (I:Inv X Fd σ H s):∀ (n:Nat) {A:Around} {x y:V} {v u:Value},A.units+n<cLine->bU H n x y->RelV x v->RelV y u->SeqAt.EqAt A s v u true
 | 0,A,x,y,v,u,hu,h,r,q=>by obtain ⟨rfl,h⟩:=h;exact uw h r q
 | n+1,A,x,y,v,u,hu,h,r,q=>by
  rcases h with ⟨rfl,h⟩ | ⟨a,b,xs,ys,rfl,rfl,h,e⟩
  ·exact uw h r q
  ·cases (show v=Value.ref a from r);cases (show u=Value.ref b from q);by_cases hab:a=b
   ·rw [hab];exact SeqAt.EqAt.same _
   ·exact SeqAt.EqAt.of_refs hab (B5 I (A:=A) (by lia) (fun x y v u=>ux I n (A:=A.in1) (by show A.units+1+n<cLine;lia)) h e)
theorem uy (hu:X.A.units+64<cLine):bD X (compareOp .NotEq) (fun x y H Q=>∃ (a b:Addr) (xs ys:List V),x=.ref a/\y=.ref b/\H a=some (.lst xs)/\H b=some (.lst ys)/\dD (bU H 61) xs ys/\Q (.bl false) H):=by intro Fd s σ H x y v u Q I rx ry h;obtain ⟨p,q,xs,ys,rfl,rfl,h1,h2,e,k⟩:=h;cases (show v=Value.ref p from rx);cases (show u=Value.ref q from ry);obtain ⟨its,rv,pl,_⟩:=I.list (ak.of h1);obtain ⟨Gz,rv2,pl2,_⟩:=I.list (ak.of h2);obtain ⟨z,g⟩:=mh (fun x y v u=>ux I 61 (A:=X.A.in1) (by show X.A.units+1+61<cLine;omega)) e rv rv2;have:=SeqAt.RcNeAt.lists (A:=X.A) (e:=fun _=>true) pl.isList pl2.isList (by simp [z]) (by omega) g;rw [show ∀ n,(List.range n).all (fun _=>true)=true from fun n=>List.all_eq_true.mpr fun _ _=>rfl] at this;exact this _ _ _ _ ⟨.bl false,H,I,rfl,k⟩
end
theorem dD.tups {H:Hp}:∀ {xs ys:List V} {ks:List (List ae)},bP H xs ks->bP H ys ks->∀ n,dD (bU H (n+1)) xs ys
 | [],[],_,_,_,_=>trivial
 | [],_::_,_,h,h',_=>by have:=h.1;have:=h'.1;simp at *;lia
 | _::_,[],_,h,h',_=>by have:=h.1;have:=h'.1;simp at *;lia
 | x::xs,y::ys,[],h,_,_=>by have:=h.1;simp at this
 | x::xs,y::ys,k::ks,h,h',n=>by
  obtain ⟨a,rfl,ha⟩:=h.2 0 x k rfl rfl;obtain ⟨b,rfl,hb⟩:=h'.2 0 y k rfl rfl
  have ek:∀ (d:List ae),dD (bU H n) (d.map kV) (d.map kV):=fun d=>by
   induction d with
   | nil=>trivial
   | cons k d ih=>exact ⟨bU.at (by cases k<;>rfl) n,ih⟩
  exact ⟨bU.tup ha hb (ek k),dD.tups ⟨by simpa using h.1,fun i x d h1 h2=>h.2 (i+1) x d h1 h2⟩ ⟨by simpa using h'.1,fun i x d h1 h2=>h'.2 (i+1) x d h1 h2⟩ n⟩
def B6 (H:Hp) (vs:List V):Ex->Prop
 | .num n=>vs=[.str "num",.int n]
 | .truth z=>vs=[.str "truth",.str z]
 | .name z=>vs=[.str "name",.str z]
 | .not e=>∃ v,vs=[.str "not",v]/\aS H v e
 | .op w a b=>∃ v u,vs=[.str w,v,u]/\aS H v a/\aS H u b
 | .of n e=>∃ v,vs=[.str "of",.str n,v]/\aS H v e
 | .many w z es=>∃ l us,vs=[.str w,.str z,.ref l]/\H l=some (.tup us)/\ExsAt H us es
theorem uz {H:Hp} {v:V} {e:Ex} (h:aS H v e):∃ t vs,v=.ref t/\H t=some (.tup vs)/\B6 H vs e:=by
 cases h with
 | num h=>exact ⟨_,_,rfl,h,rfl⟩
 | truth h=>exact ⟨_,_,rfl,h,rfl⟩
 | name h=>exact ⟨_,_,rfl,h,rfl⟩
 | not h a=>exact ⟨_,_,rfl,h,_,rfl,a⟩
 | op h a b=>exact ⟨_,_,rfl,h,_,_,rfl,a,b⟩
 | of h a=>exact ⟨_,_,rfl,h,_,rfl,a⟩
 | many h l a=>exact ⟨_,_,rfl,h,_,_,rfl,l,a⟩
theorem uA {H:Hp} {vs:List V} {e:Ex} {es:List Ex} (h:ExsAt H vs (e::es)):∃ v us,vs=v::us/\aS H v e/\ExsAt H us es:=by
 cases h with
 | cons a b=>exact ⟨_,_,rfl,a,b⟩
theorem uB {H:Hp} {vs:List V} (h:ExsAt H vs []):vs=[]:=by cases h;rfl
mutual
theorem jo {H:Hp} (e:Ex) (n:Nat) {v u:V} (z:2*e.deep<n) (h:aS H v e) (h':aS H u e):bU H n v u:=by
 obtain ⟨n,rfl⟩:∃ k,n=k+1:=⟨n-1,by omega⟩
 obtain ⟨t,vs,rfl,ht,b⟩:=uz h;obtain ⟨t',us,rfl,ht',b'⟩:=uz h';refine bU.tup ht ht' ?_
 match e,z,b,b' with
 | .num k,_,b,b'=>rw [show vs=_ from b,show us=_ from b'];exact ⟨.at rfl _,.at rfl _,trivial⟩
 | .truth k,_,b,b'=>rw [show vs=_ from b,show us=_ from b'];exact ⟨.at rfl _,.at rfl _,trivial⟩
 | .name k,_,b,b'=>rw [show vs=_ from b,show us=_ from b'];exact ⟨.at rfl _,.at rfl _,trivial⟩
 | .not e,z,b,b' =>
  simp only [Ex.deep] at z;obtain ⟨v,rfl,a⟩:=b;obtain ⟨u,rfl,a'⟩:=b';exact ⟨.at rfl _,jo e n (by omega) a a',trivial⟩
 | .of k e,z,b,b' =>
  simp only [Ex.deep] at z;obtain ⟨v,rfl,a⟩:=b;obtain ⟨u,rfl,a'⟩:=b';exact ⟨.at rfl _,.at rfl _,jo e n (by omega) a a',trivial⟩
 | .op w x y,z,b,b' =>
  simp only [Ex.deep] at z;obtain ⟨v,v2,rfl,a,b⟩:=b;obtain ⟨u,u2,rfl,a',b'⟩:=b';exact ⟨.at rfl _,jo x n (by omega) a a',jo y n (by omega) b b',trivial⟩
 | .many w k es,z,b,b' =>
  simp only [Ex.deep] at z;obtain ⟨l,vs,rfl,l1,a⟩:=b;obtain ⟨l',us,rfl,l2,a'⟩:=b'
  obtain ⟨n,rfl⟩:∃ k,n=k+1:=⟨n-1,by omega⟩
  exact ⟨.at rfl _,.at rfl _,bU.tup l1 l2 (uC es n (by omega) a a'),trivial⟩
theorem uC {H:Hp} (es:List Ex) (n:Nat) {vs us:List V} (z:2*d9 es<n) (h:ExsAt H vs es) (h':ExsAt H us es):dD (bU H n) vs us:=by
 match es,z,h,h' with
 | [],_,h,h'=>rw [uB h,uB h'];trivial
 | e::es,z,h,h' =>
  simp only [d9] at z;obtain ⟨v,vs,rfl,a,b⟩:=uA h;obtain ⟨u,us,rfl,a',b'⟩:=uA h';exact ⟨jo e n (by lia) a a',uC es n (by lia) b b'⟩
end
theorem uD {H:Hp}:∀ {ps:List (Str × Str)} {us vs:List Addr},us.length=ps.length->vs.length=ps.length->(∀ (i:Nat) (u:Addr) (q:Str × Str),us[i]?=some u->ps[i]?=some q->H u=some (.tup [.str q.1,.str q.2]))->(∀ (i:Nat) (u:Addr) (q:Str × Str),vs[i]?=some u->ps[i]?=some q->H u=some (.tup [.str q.1,.str q.2]))->∀ n,dD (bU H (n+1)) (us.map V.ref) (vs.map V.ref)
 | [],[],[],_,_,_,_,_=>trivial
 | q::ps,u::us,v::vs,h1,h2,a,b,n=>⟨bU.tup (a 0 u q rfl rfl) (b 0 v q rfl rfl) ⟨.at rfl _,.at rfl _,trivial⟩,uD (by simpa using h1) (by simpa using h2) (fun i x y h g=>a (i+1) x y h g) (fun i x y h g=>b (i+1) x y h g) n⟩
def uE (n:Nat):aW->Prop
 | .e x=>x.deep<8
 | .b ts=>ascs ts/\deeps ts<=n
 | _=>True
theorem B7 {t:Tr} {n:Nat} (h:t.asc) (hd:t.deep<=n):∀ p∈t.parts,uE n p:=by
 intro p hp
 cases p with
 | b ts=>exact ⟨(fT h hp).2.2,Qq (jl hp) hd⟩
 | e x=>cases t<;>simp [Tr.parts] at hp<;>subst hp<;>first | exact h.2 | exact h.1.2
 | _=>trivial
def B8 (H:Hp) (v:V):aW->Prop
 | .s z=>v=.str z
 | .i n=>v=.int (n:Int)
 | .e x=>aS H v x
 | .b ts=>∃ l xs,v=.ref l/\H l=some (.lst xs)/\LAt H true xs ts
 | .p ps=>cU H v ps
theorem uF {H:Hp} {vs:List V} {p:aW} {ps:List aW} (h:PsAt H true vs (p::ps)):∃ v us,vs=v::us/\B8 H v p/\PsAt H true us ps:=by
 cases h with
 | cons a b =>
  refine ⟨_,_,rfl,?_,b⟩
  cases a with
  | s=>rfl
  | i=>rfl
  | e x=>exact x
  | b l x=>exact ⟨_,_,rfl,l,x⟩
  | p x=>exact x
theorem uG {H:Hp} {vs:List V} (h:PsAt H true vs []):vs=[]:=by cases h;rfl
theorem uH {H:Hp} {vs:List V} {t:Tr} {ts:List Tr} (h:LAt H true vs (t::ts)):∃ p a us ws,vs=.ref p::us/\H p=some (.tup [.int ((t.mask:Nat):Int),.ref a])/\H a=some (.tup ws)/\PsAt H true ws t.parts/\LAt H true us ts:=by
 cases h with
 | cons a b =>
  cases a with
  | plain e=>cases e
  | shared _ h0 a=>cases a with | mk h p=>exact ⟨_,_,_,_,rfl,h0,h,p,b⟩
theorem mi {H:Hp} {vs:List V} (h:LAt H true vs []):vs=[]:=by cases h;rfl
theorem B9 {H:Hp} {m n:Nat} (hm:16<=m) (ih:∀ (ts:List Tr) (xs ys:List V),ascs ts->deeps ts<=n->LAt H true xs ts->LAt H true ys ts->dD (bU H m) xs ys) (ps:List aW):∀ {vs us:List V},(∀ p∈ps,uE n p)->PsAt H true vs ps->PsAt H true us ps->dD (bU H (m+1)) vs us:=by
 induction ps with
 | nil=>intro vs us _ h h';rw [uG h,uG h'];trivial
 | cons p ps ihp =>
  intro vs us hb h h';obtain ⟨v,vs,rfl,a,b⟩:=uF h;obtain ⟨u,us,rfl,a',b'⟩:=uF h';refine ⟨?_,ihp (fun q hq=>hb q (.tail _ hq)) b b'⟩;have hq:=hb p (.head _)
  cases p with
  | s z=>rw [show v=_ from a,show u=_ from a'];exact .at rfl _
  | i k=>rw [show v=_ from a,show u=_ from a'];exact .at rfl _
  | e x=>exact jo x _ (by have h:_<8:=hq;lia) a a'
  | b ts =>
   obtain ⟨l,xs,rfl,l1,x⟩:=a;obtain ⟨l',ys,rfl,l2,x'⟩:=a';exact .inr ⟨_,_,_,_,rfl,rfl,.inr ⟨l1,l2⟩,ih _ _ _ hq.1 hq.2 x x'⟩
  | p ps =>
   obtain ⟨t,us,rfl,h1,h2,h3⟩:=a;obtain ⟨t',us',rfl,g1,g2,g3⟩:=a'
   obtain ⟨m,rfl⟩:∃ k,m=k+1:=⟨m-1,by lia⟩
   exact bU.tup h1 g1 (uD h2 g2 h3 g3 m)
theorem Ca {H:Hp} (n:Nat):∀ (ts:List Tr) (xs ys:List V),ascs ts->deeps ts<=n->LAt H true xs ts->LAt H true ys ts->dD (bU H (3*n+16)) xs ys:=by
 induction n with
 | zero =>
  intro ts xs ys _ hd h h'
  cases ts with
  | nil=>rw [mi h,mi h'];trivial
  | cons t ts=>rw [deeps] at hd;lia
 | succ n ih =>
  intro ts
  induction ts with
  | nil=>intro xs ys _ _ h h';rw [mi h,mi h'];trivial
  | cons t ts iht =>
   intro xs ys ha hd h h';rw [deeps] at hd;obtain ⟨p0,a,xs,ws,rfl,h0,h1,p,b⟩:=uH h;obtain ⟨p0',a',ys,ws',rfl,h0',h1',p',b'⟩:=uH h';exact ⟨bU.tup h0 h0' ⟨.at rfl _,bU.tup h1 h1' (B9 (by lia) ih _ (B7 ha.2.1 (by lia)) p p'),trivial⟩,iht xs ys ha.2.2.2 (by lia) b b'⟩
end L2
namespace K47
open PySem L2 Mm
noncomputable def aZ (i:Nat):Stmt:=PySem.Challenge.pw_manymakes_k47_whole_shared_kinds_cut.main.body.getD i (.Pass ⟨0,0,0,0⟩)
noncomputable abbrev o0:Stmt:=aZ 1
noncomputable abbrev o4:Stmt:=aZ 2
noncomputable abbrev o5:Stmt:=aZ 3
noncomputable abbrev mj:Stmt:=aZ 4
noncomputable abbrev o6:Stmt:=aZ 5
noncomputable abbrev ml:Stmt:=aZ 6
noncomputable abbrev mn:Stmt:=aZ 8
noncomputable abbrev mo:Stmt:=aZ 9
noncomputable abbrev o7:Stmt:=aZ 10
noncomputable abbrev mr:Stmt:=aZ 11
noncomputable abbrev mv:Stmt:=aZ 12
noncomputable abbrev mw:Stmt:=aZ 13
noncomputable abbrev o8:Stmt:=aZ 16
noncomputable abbrev o9:Stmt:=aZ 17
noncomputable abbrev pd:Stmt:=aZ 18
noncomputable abbrev pe:Stmt:=aZ 19
noncomputable abbrev mx:Stmt:=aZ 24
noncomputable abbrev ph:Stmt:=aZ 25
noncomputable abbrev pz:Stmt:=aZ 26
noncomputable abbrev pA:Stmt:=aZ 27
noncomputable abbrev my:Stmt:=aZ 28
noncomputable abbrev pB:Stmt:=aZ 30
noncomputable abbrev pE:Stmt:=aZ 31
noncomputable abbrev pF:Stmt:=aZ 32
noncomputable abbrev pG:Stmt:=aZ 33
noncomputable abbrev mz:Stmt:=aZ 34
noncomputable abbrev pH:Stmt:=aZ 35
noncomputable abbrev pI:Stmt:=aZ 36
noncomputable abbrev pJ:Stmt:=aZ 37
noncomputable abbrev pL:Stmt:=aZ 38
noncomputable abbrev pM:Stmt:=aZ 39
noncomputable abbrev pN:Stmt:=aZ 40
noncomputable abbrev pO:Stmt:=aZ 41
noncomputable abbrev pP:Stmt:=aZ 42
noncomputable abbrev mB:Stmt:=aZ 43
noncomputable abbrev pQ:Stmt:=aZ 44
noncomputable abbrev pR:Stmt:=aZ 45
noncomputable abbrev pS:Stmt:=aZ 46
noncomputable abbrev pT:Stmt:=aZ 47
noncomputable abbrev pU:Stmt:=aZ 48
noncomputable abbrev pV:Stmt:=fk (aZ 23) 0
noncomputable abbrev pW:Stmt:=fk (aZ 23) 1
noncomputable abbrev pX:Stmt:=fk (aZ 23) 2
noncomputable abbrev mC:Stmt:=fk (aZ 23) 3
noncomputable abbrev mD:Stmt:=fk (aZ 23) 4
noncomputable abbrev pY:Stmt:=fk (aZ 23) 5
noncomputable abbrev pZ:Stmt:=fk (aZ 23) 6
noncomputable abbrev ku:Stmt:=fk (aZ 23) 7
noncomputable abbrev p6:Stmt:=fk (aZ 23) 8
noncomputable abbrev mE:Stmt:=fk (aZ 23) 9
noncomputable abbrev mF:Stmt:=aZ 49
structure p8 where
 Z0:Addr
 ZP:Addr
 ZX:Addr
 Zs:Addr
 ZY:Addr
 Zt:Addr
 Zy:Addr
 Zj:Addr
 Zk:Addr
 ZA:Addr
 Zh:Addr
 ZB:Addr
 Zu:Addr
 ZJ:Addr
 ZQ:Addr
 ZK:Addr
 Z3:Addr
 ZC:Addr
 ZZ:Addr
 Zn:Addr
 Zq:Addr
 Zr:Addr
 ZD:Addr
 ZE:Addr
 ZL:Addr
 ZF:Addr
 ZM:Addr
 Zv:Addr
 ZN:Addr
 ZG:Addr
 ZR:Addr
 ZS:Addr
 ZU:Addr
 ZV:Addr
 Zw:Addr
 ZH:Addr
 ZO:Addr
 ZW:Addr
 Zx:Addr
 ZI:Addr
 Zl:Addr
 Zm:Addr
 Zb:Addr
 Zd:Addr
 Ze:Addr
 Zf:Addr
 Zp:Addr
 Zg:Addr
 Zc:Addr
 Za:Addr
 c_KindLook:Addr
 d_MAKES:Addr
 d_ASKS:Addr
 q_PLAIN_KINDS:Addr
structure qb where
 Z0:FuncData
 ZP:FuncData
 ZX:FuncData
 Zs:FuncData
 ZY:FuncData
 Zt:FuncData
 Zy:FuncData
 Zj:FuncData
 Zk:FuncData
 ZA:FuncData
 Zh:FuncData
 ZB:FuncData
 Zu:FuncData
 ZJ:FuncData
 ZQ:FuncData
 ZK:FuncData
 Z3:FuncData
 ZC:FuncData
 ZZ:FuncData
 Zn:FuncData
 Zq:FuncData
 Zr:FuncData
 ZD:FuncData
 ZE:FuncData
 ZL:FuncData
 ZF:FuncData
 ZM:FuncData
 Zv:FuncData
 ZN:FuncData
 ZG:FuncData
 ZR:FuncData
 ZS:FuncData
 ZU:FuncData
 ZV:FuncData
 Zw:FuncData
 ZH:FuncData
 ZO:FuncData
 ZW:FuncData
 Zx:FuncData
 ZI:FuncData
 Zl:FuncData
 Zm:FuncData
 Zb:FuncData
 Zd:FuncData
 Ze:FuncData
 Zf:FuncData
 Zp:FuncData
 Zg:FuncData
 Zc:FuncData
 Za:FuncData
structure FB (K:W.Frag) (n q:Str) (st:Stmt) (ps:List Str) (f:Addr) (fd:FuncData):Prop where
 k:W.keepIn K (.ref f)=true
 F:jZ K n q st f fd
 b:Binds K fd ps []
structure FZ (K:W.Frag) (mg:Str->Option Value) (n q:Str) (st:Stmt) (ps:List Str) (f:Addr) (fd:FuncData):Prop extends FB K n q st ps f fd where
 m:mg n=some (.ref f)
theorem ao {X:Cx} {k:Nat} {f:Addr} {fd:FuncData} {ps:List Str} {sp:Sp} {x q:Str} {st:Stmt} {e:Expr} {es:List Expr} {p pos:Pos} {t:TA} (F:aB X.prog X.w X.K X.mg X.base aE k f fd ps sp) (hr:ar k X.A) (hg:Gl X x) (z:FZ X.K X.mg x q st ps f fd) (ha:PA X (e::es) t) (hdb:(x == ("__debug__":Str))=false:=by decide) (he:starEach (e::es) X.env=(false,eval e X.env)::starEach es X.env:=by rfl) (F8:(backTo pos (starEach es X.env)).any (·.1)=false:=by rfl) :
  PE X (.Call (.Name x p) (e::es) [] pos) (rR sp [] E0 t):=zr F hr hg z.m z.k z.b .nil cj ha hdb he F8
structure All (P:Program) (w:World) (K:W.Frag) (mg:Str->Option Value) (A:p8) (D:qb):Prop where
 z_Z0:FZ K mg "least" "least" o0 ["mask"] A.Z0 D.Z0
 z_ZP:FZ K mg "without" "without" o4 ["mask","other"] A.ZP D.ZP
 z_ZX:FZ K mg "all_of" "all_of" o5 ["pairs"] A.ZX D.ZX
 z_Zs:FZ K mg "kept_pairs" "kept_pairs" mj ["pairs","mask"] A.Zs D.Zs
 z_ZY:FZ K mg "add_to" "add_to" o6 ["found","key","mask"] A.ZY D.ZY
 z_Zt:FZ K mg "with_masks" "with_masks" ml ["found"] A.Zt D.Zt
 z_Zy:FZ K mg "kept_tree" "kept_tree" mn ["tree","mask"] A.Zy D.Zy
 z_Zj:FZ K mg "kept_statement" "kept_statement" mo ["one","mask"] A.Zj D.Zj
 z_Zk:FZ K mg "row_and_least" "row_and_least" o7 ["pair"] A.Zk D.Zk
 z_ZA:FZ K mg "shared_of" "shared_of" mr ["tree"] A.ZA D.ZA
 z_Zh:FZ K mg "shared_statement" "shared_statement" mv ["one"] A.Zh D.Zh
 z_ZB:FZ K mg "blocks_of" "blocks_of" mw ["one"] A.ZB D.ZB
 z_Zu:FZ K mg "first_rows" "first_rows" o8 ["tree"] A.Zu D.Zu
 z_ZJ:FZ K mg "pairs_of" "pairs_of" o9 ["one"] A.ZJ D.ZJ
 z_ZQ:FZ K mg "expr_of" "expr_of" pd ["one"] A.ZQ D.ZQ
 z_ZK:FZ K mg "exprs_in" "exprs_in" pe ["e"] A.ZK D.ZK
 z_Z3:FZ K mg "unfit" "unfit" mx ["kinds","due"] A.Z3 D.Z3
 z_ZC:FZ K mg "is_record" "is_record" ph ["kind"] A.ZC D.ZC
 z_ZZ:FZ K mg "giving" "giving" pz ["body"] A.ZZ D.ZZ
 z_Zn:FZ K mg "shared_kinds" "shared_kinds" pA ["tree","mask"] A.Zn D.Zn
 z_Zq:FZ K mg "plain_kinds" "plain_kinds" my ["tree"] A.Zq D.Zq
 z_Zr:FZ K mg "_law_cell_at" "_law_cell_at" pB ["_law_script","_law_k"] A.Zr D.Zr
 z_ZD:FZ K mg "_law_mixed" "_law_mixed" pE ["_law_cell","_law_k"] A.ZD D.ZD
 z_ZE:FZ K mg "_law_draws" "_law_draws" pF ["_law_script"] A.ZE D.ZE
 z_ZL:FZ K mg "_law_next" "_law_next" pG ["_law_draws_here"] A.ZL D.ZL
 z_ZF:FZ K mg "_law_names" "_law_names" mz ["_law_draws_here"] A.ZF D.ZF
 z_ZM:FZ K mg "_law_mask" "_law_mask" pH ["_law_draws_here","_law_within"] A.ZM D.ZM
 z_Zv:FZ K mg "_law_number" "_law_number" pI ["_law_draws_here"] A.Zv D.Zv
 z_ZN:FZ K mg "_law_expr" "_law_expr" pJ ["_law_draws_here","_law_known","_law_names_here","_law_deep"] A.ZN D.ZN
 z_ZG:FZ K mg "_law_first" "_law_first" pL ["_law_draws_here","_law_names_here"] A.ZG D.ZG
 z_ZR:FZ K mg "_law_two" "_law_two" pM ["_law_draws_here","_law_at","_law_within","_law_name","_law_one","_law_other"] A.ZR D.ZR
 z_ZS:FZ K mg "_law_row" "_law_row" pN ["_law_draws_here","_law_at","_law_within","_law_known","_law_names_here"] A.ZS D.ZS
 z_ZU:FZ K mg "_law_end" "_law_end" pO ["_law_draws_here","_law_at","_law_within","_law_known","_law_names_here"] A.ZU D.ZU
 z_ZV:FZ K mg "_law_def" "_law_def" pP ["_law_draws_here","_law_at","_law_mask_here","_law_param","_law_names_here"] A.ZV D.ZV
 z_Zw:FZ K mg "_law_fields" "_law_fields" mB ["_law_draws_here"] A.Zw D.Zw
 z_ZH:FZ K mg "_law_heads" "_law_heads" pQ ["_law_draws_here","_law_full","_law_names_here"] A.ZH D.ZH
 z_ZO:FZ K mg "_law_tree" "_law_tree" pR ["_law_draws_here","_law_full"] A.ZO D.ZO
 z_ZW:FZ K mg "_law_cut" "_law_cut" pS ["_law_block","_law_s"] A.ZW D.ZW
 z_Zx:FZ K mg "_law_sorted" "_law_sorted" pT ["_law_found","_law_rule"] A.Zx D.Zx
 z_ZI:FZ K mg "_law_built" "_law_built" pU ["_law_script"] A.ZI D.ZI
 M_KindLook:Mk K A.c_KindLook A.Zl
 z_Zl:FB K "__init__" "KindLook.__init__" pV ["self","tree"] A.Zl D.Zl
 M_Zm:eK K A.c_KindLook "note" A.Zm
 z_Zm:FB K "note" "KindLook.note" pW ["self","mask","at","what"] A.Zm D.Zm
 M_Zb:eK K A.c_KindLook "look_body" A.Zb
 z_Zb:FB K "look_body" "KindLook.look_body" pX ["self","statements","names","due"] A.Zb D.Zb
 M_Zd:eK K A.c_KindLook "look_def" A.Zd
 z_Zd:FB K "look_def" "KindLook.look_def" mC ["self","mask","one"] A.Zd D.Zd
 M_Ze:eK K A.c_KindLook "look_row" A.Ze
 z_Ze:FB K "look_row" "KindLook.look_row" mD ["self","one","kinds","names","due"] A.Ze D.Ze
 M_Zf:eK K A.c_KindLook "look_set" A.Zf
 z_Zf:FB K "look_set" "KindLook.look_set" pY ["self","one","kinds","names"] A.Zf D.Zf
 M_Zp:eK K A.c_KindLook "ask" A.Zp
 z_Zp:FB K "ask" "KindLook.ask" pZ ["self","mask","e","due","at","names"] A.Zp D.Zp
 M_Zg:eK K A.c_KindLook "kinds_of" A.Zg
 z_Zg:FB K "kinds_of" "KindLook.kinds_of" ku ["self","mask","e","at","names"] A.Zg D.Zg
 M_Zc:eK K A.c_KindLook "used_rows" A.Zc
 z_Zc:FB K "used_rows" "KindLook.used_rows" p6 ["self","mask","e","word","at","names"] A.Zc D.Zc
 M_Za:eK K A.c_KindLook "field_kinds" A.Za
 z_Za:FB K "field_kinds" "KindLook.field_kinds" mE ["self","mask","kind","field","at"] A.Za D.Za
 m_KindLook:mg "KindLook"=some (.ref A.c_KindLook)
 cl_KindLook:ff K A.c_KindLook
 na_KindLook_faults:gl K A.c_KindLook "faults"
 na_KindLook_firsts:gl K A.c_KindLook "firsts"
 ty_KindLook:∀ (H:Hp) (a dx:Addr) (fs:List (Str × V)),H a=some (.ins A.c_KindLook dx fs)->cZ K H (.ref a) (.ref A.c_KindLook)
 is_KindLook:W.kitOne K (.ref A.c_KindLook) (.ref A.c_KindLook)=some true
 m_MAKES:mg "MAKES"=some (.ref A.d_MAKES)
 D_MAKES:ie P w K A.d_MAKES [("num","num"),("truth","truth"),("+","num"),("-","num"),("*","num"),("less","truth"),("same","truth"),("and","truth"),("or","truth"),("not","truth")]
 m_ASKS:mg "ASKS"=some (.ref A.d_ASKS)
 D_ASKS:ie P w K A.d_ASKS [("+","num"),("-","num"),("*","num"),("less","num"),("same","num"),("and","truth"),("or","truth"),("not","truth")]
 m_PLAIN_KINDS:mg "PLAIN_KINDS"=some (.ref A.q_PLAIN_KINDS)
 Q_PLAIN_KINDS:∀ H,au K H A.q_PLAIN_KINDS [.str "num",.str "truth"]
 n_len:mg "len"=none
 n_range:mg "range"=none
 n_list:mg "list"=none
 n_dict:mg "dict"=none
 n_tuple:mg "tuple"=none
 n_sorted:mg "sorted"=none
 n_isinstance:mg "isinstance"=none
 n_zip:mg "zip"=none
 n_int:mg "int"=none
 n_bool:mg "bool"=none
 n_abs:mg "abs"=none
theorem ag {H:Hp} {p:Addr} {o:HO} (h:H p=none):Same H (upd H p o):=fun b u e=>by rw [ay (dG e h)];exact e
noncomputable def ca (fs:List (List ae)):List (List ae):=(cC fs).map fun i=>fs.getD i []
theorem qc {fs:List (List ae)}:∀ i∈cC fs,i<fs.length:=by
 unfold cC;split
 ·intro i hi;simpa using hi
 ·intro i hi;exact oO (eP fs) (by omega) i hi
theorem Cb {H:Hp} {xs:List V} {fs:List (List ae)} (h:bP H xs fs):bP H (bZ fs xs) (ca fs):=by
 refine ⟨by simp [bZ,ca],fun j x d hx hd=>?_⟩;unfold bZ at hx;unfold ca at hd;rw [Qu] at hx hd;obtain ⟨i,hi,rfl⟩:=Option.map_eq_some_iff.mp hx;rw [hi] at hd;have hd:fs.getD i []=d:=by simpa using hd
 have Fl:=qc i (Qz hi);have hlx:i<xs.length:=by rw [h.1];exact Fl
 refine h.2 i _ d ?_ ?_
 ·rw [Qa hlx,Qg,Qa hlx];rfl
 ·rw [<- hd,Qa Fl,Qg,Qa Fl];rfl
section
variable {P:Program} {w:World} {K:W.Frag} {mg:Str->Option Value} {base:Heap} {AA:p8} {DD:qb}
theorem c9 {H:Hp} {sh:Bool} {vs:List V} {p:aW} {ps:List aW} (h:PsAt H sh vs (p::ps)):∃ v r,vs=v::r/\PAt H sh v p/\PsAt H sh r ps:=by cases h with | cons a b=>exact ⟨_,_,rfl,a,b⟩
theorem jp {H:Hp} {sh:Bool} {vs:List V} (h:PsAt H sh vs []):vs=[]:=by cases h;rfl
theorem jq {H:Hp} {sh:Bool} {v:V} {z:Str} (h:PAt H sh v (.s z)):v=.str z:=by cases h;rfl
theorem Cc {H:Hp} {sh:Bool} {v:V} {n:Nat} (h:PAt H sh v (.i n)):v=.int ((n:Nat):Int):=by cases h;rfl
theorem qf {H:Hp} {sh:Bool} {v:V} {x:Ex} (h:PAt H sh v (.e x)):aS H v x:=by cases h with | e a=>exact a
theorem mG {H:Hp} {sh:Bool} {v:V} {ts:List Tr} (h:PAt H sh v (.b ts)):∃ l xs,v=.ref l/\H l=some (.lst xs)/\LAt H sh xs ts:=by cases h with | b l a=>exact ⟨_,_,rfl,l,a⟩
theorem uI {H:Hp} {sh:Bool} {v:V} {ps:List (Str × Str)} (h:PAt H sh v (.p ps)):cU H v ps:=by cases h with | p a=>exact a
theorem fU {H:Hp} {sh:Bool} {v:V} {t:Tr} (h:bi H sh v t):∃ a vs,v=.ref a/\H a=some (.tup vs)/\PsAt H sh vs t.parts:=by cases h with | mk a b=>exact ⟨_,_,rfl,a,b⟩
theorem fB {H:Hp} {sh:Bool} {vs:List V} {z:Str} {n:Nat} {ps:List aW} (h:PsAt H sh vs (.s z::.i n::ps)):∃ r,vs=.str z::.int ((n:Nat):Int)::r/\PsAt H sh r ps:=by obtain ⟨a,r,e,h1,h⟩:=c9 h;obtain ⟨b,r',e',h2,h⟩:=c9 h;exact ⟨r',by rw [e,e',jq h1,Cc h2],h⟩
theorem qg {H:Hp} {sh:Bool} {vs:List V} {x:Ex} (h:PsAt H sh vs [.e x]):∃ v,vs=[v]/\aS H v x:=by obtain ⟨a,r,e,h1,h⟩:=c9 h;exact ⟨a,by rw [e,jp h],qf h1⟩
theorem uJ {H:Hp} {sh:Bool} {v:V} {m r:Nat} {z:Str} {e:Ex} (h:bi H sh v (.set m r z e)):∃ t ve,v=.ref t/\H t=some (.tup [.str "set",.int ((r:Nat):Int),.str z,ve])/\aS H ve e:=by obtain ⟨t,vs,e1,ht,h⟩:=fU h;obtain ⟨q,e2,h⟩:=fB h;obtain ⟨a,q',e3,h1,h⟩:=c9 h;obtain ⟨ve,e4,hx⟩:=qg h;exact ⟨t,ve,e1,by rw [ht,e2,e3,jq h1,e4],hx⟩
theorem Cd {H:Hp} {sh:Bool} {v:V} {m r:Nat} {e:Ex} (h:bi H sh v (.tell m r e)):∃ t ve,v=.ref t/\H t=some (.tup [.str "tell",.int ((r:Nat):Int),ve])/\aS H ve e:=by obtain ⟨t,vs,e1,ht,h⟩:=fU h;obtain ⟨q,e2,h⟩:=fB h;obtain ⟨ve,e4,hx⟩:=qg h;exact ⟨t,ve,e1,by rw [ht,e2,e4],hx⟩
theorem Ce {H:Hp} {sh:Bool} {v:V} {m r:Nat} {e:Ex} (h:bi H sh v (.give m r e)):∃ t ve,v=.ref t/\H t=some (.tup [.str "give",.int ((r:Nat):Int),ve])/\aS H ve e:=by obtain ⟨t,vs,e1,ht,h⟩:=fU h;obtain ⟨q,e2,h⟩:=fB h;obtain ⟨ve,e4,hx⟩:=qg h;exact ⟨t,ve,e1,by rw [ht,e2,e4],hx⟩
theorem uK {H:Hp} {sh:Bool} {v:V} {m r:Nat} {e:Ex} {b o:List Tr} (h:bi H sh v (.iff m r e b o)):∃ t ve lb xb lo xo,v=.ref t/\H t=some (.tup [.str "if",.int ((r:Nat):Int),ve,.ref lb,.ref lo])/\aS H ve e/\H lb=some (.lst xb)/\LAt H sh xb b/\H lo=some (.lst xo)/\LAt H sh xo o:=by obtain ⟨t,vs,e1,ht,h⟩:=fU h;obtain ⟨q,e2,h⟩:=fB h;obtain ⟨ve,q',e3,h1,h⟩:=c9 h;obtain ⟨vb,q2,e4,h2,h⟩:=c9 h;obtain ⟨vo,q3,e5,h3,h⟩:=c9 h;obtain ⟨lb,xb,f1,f2,f3⟩:=mG h2;obtain ⟨lo,xo,g1,g2,g3⟩:=mG h3;exact ⟨t,ve,lb,xb,lo,xo,e1,by rw [ht,e2,e3,e4,e5,jp h,f1,g1],qf h1,f2,f3,g2,g3⟩
theorem uL {H:Hp} {sh:Bool} {v:V} {m r:Nat} {e:Ex} {b:List Tr} (h:bi H sh v (.whl m r e b)):∃ t ve lb xb,v=.ref t/\H t=some (.tup [.str "while",.int ((r:Nat):Int),ve,.ref lb])/\aS H ve e/\H lb=some (.lst xb)/\LAt H sh xb b:=by obtain ⟨t,vs,e1,ht,h⟩:=fU h;obtain ⟨q,e2,h⟩:=fB h;obtain ⟨ve,q',e3,h1,h⟩:=c9 h;obtain ⟨vb,q2,e4,h2,h⟩:=c9 h;obtain ⟨lb,xb,f1,f2,f3⟩:=mG h2;exact ⟨t,ve,lb,xb,e1,by rw [ht,e2,e3,e4,jp h,f1],qf h1,f2,f3⟩
theorem mH {H:Hp} {sh:Bool} {v:V} {m r:Nat} {n k:Str} {ps:List (Str × Str)} {b:List Tr} (h:bi H sh v (.df m r n k ps b)):∃ t vp lb xb,v=.ref t/\H t=some (.tup [.str "def",.int ((r:Nat):Int),.str n,.str k,vp,.ref lb])/\cU H vp ps/\H lb=some (.lst xb)/\LAt H sh xb b:=by obtain ⟨t,vs,e1,ht,h⟩:=fU h;obtain ⟨q,e2,h⟩:=fB h;obtain ⟨a,q1,e3,h1,h⟩:=c9 h;obtain ⟨c,q2,e4,h2,h⟩:=c9 h;obtain ⟨vp,q3,e5,h3,h⟩:=c9 h;obtain ⟨vb,q4,e6,h4,h⟩:=c9 h;obtain ⟨lb,xb,f1,f2,f3⟩:=mG h4;exact ⟨t,vp,lb,xb,e1,by rw [ht,e2,e3,e4,e5,e6,jp h,f1,jq h1,jq h2],uI h3,f2,f3⟩
theorem qh {H:Hp} {sh:Bool} {v:V} {m r:Nat} {n:Str} {ps:List (Str × Str)} (h:bi H sh v (.kd m r n ps)):∃ t vp,v=.ref t/\H t=some (.tup [.str "kind",.int ((r:Nat):Int),.str n,vp])/\cU H vp ps:=by obtain ⟨t,vs,e1,ht,h⟩:=fU h;obtain ⟨q,e2,h⟩:=fB h;obtain ⟨a,q1,e3,h1,h⟩:=c9 h;obtain ⟨vp,q3,e5,h3,h⟩:=c9 h;exact ⟨t,vp,e1,by rw [ht,e2,e3,e5,jp h,jq h1],uI h3⟩
theorem bX {n:Nat} (h:n<1000):n<sizeLine:=by rw [sizeLine_eq];omega
inductive jr (k:Nat) (vs:List V) (H:Hp) (Q:VK) (E:XK):Prop
 | mk:∀ (l:Addr) (xs:List V) (ts:List Tr),vs=[.ref l]->H l=some (.lst xs)->LAt H false xs ts->deeps ts<k->ts.length<=40->ascs ts->(∀ p ys H',Same H H'->H' p=some (.lst ys)->LAt H' true ys ts->Q (.ref p) H')->jr k vs H Q E
inductive qj (k:Nat) (vs:List V) (H:Hp) (Q:VK) (E:XK):Prop
 | mk:∀ (v:V) (t:Tr),vs=[v]->bi H false v t->t.deep<k->t.asc->(∀ v' H',Same H H'->bi H' true v' t->Q v' H')->qj k vs H Q E
noncomputable abbrev uM:List Str:=["one"]
theorem uN:aT uM ["one"] (aI mv):=by decide +kernel
theorem Cf (T:All P w K mg AA DD) (k:Nat) (GF:aB P w K mg base aE (2*k+1) AA.ZA DD.ZA ["tree"] (jr k)):aB P w K mg base aE (2*k+2) AA.Zh DD.Zh ["one"] (qj k):=by
 refine T.z_Zh.F.ok uN (fun vs H Q E h=>by cases h;subst_vars;rfl) fun Fk A outer s H vs Q E hr h=>?_;obtain ⟨v,t,rfl,hS,hd,ha,kq⟩:=h;have nd:=uN.nd;have hrF:ar (2*k+1) _:=hr;refine ⟨_,(aj (aH (iO oZ rfl T.n_tuple lC (aa (fQ (aI mv) uM [] [] rfl (by decide +kernel) rfl rfl (kr (pv 0)) (fun _ _ _ _=>fq) (fun _ _ _ _=>(lh (fc (di (ip (K:=K) (n:="list") rfl) rfl T.n_isinstance hZ (aa (pv 0) (aa (gQ (v:=.ty "list") rfl T.n_list lA rfl) ab)))) (ao GF hrF rfl T.z_ZA (aa (pv 0) ab)) (pv 0)))) ab)))),?_⟩
 cases hS with
 | @mk t0 xs _ ht GT =>
 refine ⟨_,rfl,t0,rfl,⟨_,au.of ht⟩,?_⟩;have F8:=t.parts_len;have Ij:=GT.length;refine ox (K:=K0) (a:=t0) (xs:=xs) (fun i ys H'=>Same H H'/\i<=xs.length/\PsAt H' true ys (t.parts.take i)) ⟨Same.refl _,Qr _,by simpa using PsAt.nil⟩ (fun i ys H' _ h=>au.of (h.1 _ _ ht)) ?_ ?_
 ·rintro i x ys H1 hx ⟨sm,hi,FA⟩;obtain ⟨p,hp,hP⟩:=GT.get hx;have hP1:=hP.kept sm.ls;have Jy:=(Qh hx).1;have Gc:=FA.length;rw [QJ] at Gc;have FY:i<t.parts.length:=by omega
  have GP:t.parts.take (i+1)=t.parts.take i++[p]:=by rw [Qi FY];rw [Qa FY] at hp;rw [Qp hp]
  refine fm ?_;rw [if_pos rfl]
  rcases hP1.isL (K:=K) with ⟨bs,l,zs,e1,e2,hl,hL,ty,kb⟩ | ⟨nb,ty0,ty,kb⟩
  ·subst e1 e2;have hm:aW.b bs∈t.parts:=Qz hp;refine ⟨_,rfl,_,_,true,rfl,ty,kb,_,rfl,j0 ?_⟩;refine ⟨_,rfl,l,zs,bs,rfl,hl,hL,QD (jl hm) hd,(fT ha hm).1,(fT ha hm).2.2,fun q us H2 s2 hq hL2=>?_⟩;refine ⟨bX (by omega),sm.trans s2,by omega,?_⟩;rw [GP];exact (FA.kept s2.ls).snoc (.b hq hL2)
  ·refine ⟨_,rfl,_,_,false,rfl,ty,kb,_,rfl,cS ?_⟩;refine ⟨_,rfl,bX (by omega),sm,by omega,?_⟩;rw [GP];exact FA.snoc (hP1.other nb)
 ·rintro ys H1 ⟨sm,hi,FA⟩ p hp;have s1:=ag (o:=.lst ys) hp;refine ⟨p,ys,rfl,.inl ⟨ak.of af,fun l hl=>?_⟩⟩;have s2:=ag (o:=.tup ys) hl;refine kq _ _ ((sm.trans s1).trans s2) (.mk af ?_);rw [Qo (by omega)] at FA;exact FA.kept (s1.trans s2).ls
noncomputable abbrev uO:List Str:=["tree"]
theorem qk:aT uO ["tree"] (aI mr):=by decide +kernel
theorem Cg (T:All P w K mg AA DD) (k:Nat) (GS:aB P w K mg base aE (2*k+2) AA.Zh DD.Zh ["one"] (qj k)):aB P w K mg base aE (2*(k+1)+1) AA.ZA DD.ZA ["tree"] (jr (k+1)):=by
 refine T.z_ZA.F.ok qk (fun vs H Q E h=>by cases h;subst_vars;rfl) fun Fk A outer s H vs Q E hr h=>?_;obtain ⟨l,xs,ts,rfl,hl,hL,hd,h20,ha,kq⟩:=h;have nd:=qk.nd;have hrS:ar (2*k+2) _:=hr;refine ⟨_,(aj (aH (fQ (aI mr) uO [] [] rfl (by decide +kernel) rfl rfl (cz (pv 0)) (fun _ _ _ _=>fq) (fun _ _ _ _=>(aF (aa ah (aa (ao GS hrS rfl T.z_Zh (aa (pv 0) ab)) ab))))))),?_⟩;refine ⟨_,rfl,l,rfl,⟨_,ak.of hl⟩,?_⟩;have Ij:=hL.length;refine j1 (K:=K0) (a:=l) (xs:=xs) (fun i ys H'=>Same H H'/\i<=xs.length/\LAt H' true ys (ts.take i)) ⟨Same.refl _,Qr _,by simpa using LAt.nil⟩ (fun i ys H' _ h=>ak.of (h.1 _ _ hl)) ?_ ?_
 ·rintro i x ys H1 hx ⟨sm,hi,FA⟩;obtain ⟨t,ht,hO⟩:=hL.get hx;have Jy:=(Qh hx).1;have Gc:=FA.length;rw [QJ] at Gc;have FY:i<ts.length:=by omega
  have GP:ts.take (i+1)=ts.take i++[t]:=by rw [Qi FY];rw [Qa FY] at ht;rw [Qp ht]
  have hm:t∈ts:=Qz ht
  obtain ⟨hm1,hS⟩:t.mask=1/\bi H1 false x t:=by
   cases hO with
   | plain _ hm a=>exact ⟨hm,a.kept sm.ls⟩
   | shared e _ _=>cases e
  refine fm ?_;rw [if_pos rfl];refine ⟨_,rfl,x,t,rfl,hS,by have:=jm hm;omega,(gz ha hm).2,fun v' H2 s2 IZ=>?_⟩;refine ⟨aM,fun q hq=>?_⟩;have s3:=ag (o:=.tup [.int 1,v']) hq;refine ⟨bX (by omega),(sm.trans s2).trans s3,by omega,?_⟩;rw [GP];exact (FA.kept (s2.trans s3).ls).snoc (.shared rfl (by rw [hm1];exact af) (IZ.kept s3.ls))
 ·rintro ys H1 ⟨sm,hi,FA⟩ p hp;have s1:=ag (o:=.lst ys) hp;rw [Qo (by omega)] at FA;exact kq p ys _ (sm.trans s1) af (FA.kept s1.ls)
theorem Ci (T:All P w K mg AA DD):aB P w K mg base aE 1 AA.ZA DD.ZA ["tree"] (jr 0):=by
 have no:∀ vs H Q E,¬ jr 0 vs H Q E:=fun vs H Q E h=>by obtain ⟨l,xs,ts,_,_,_,z,_⟩:=h;omega
 exact T.z_ZA.F.ok qk (fun vs H Q E h=>(no _ _ _ _ h).elim) (fun Fk A outer s H vs Q E hr h=>(no _ _ _ _ h).elim)
theorem uP (T:All P w K mg AA DD):∀ k:Nat,aB P w K mg base aE (2*k+1) AA.ZA DD.ZA ["tree"] (jr k)
 | 0=>Ci T
 | k+1=>Cg T k (Cf T k (uP T k))
theorem da {w z:Str} {a b:Prop} (h:w≠z) (k:b):if decide (V.str w=V.str z)=true then a else b:=by rw [Qj fun q=>h (by injection q)];exact k
theorem fV {v:V} {a b:Prop} (k:a):if decide (v=v)=true then a else b:=by rw [Qs rfl];exact k
theorem bN {c:Bool} {a b:Prop} (h:c=false) (k:b):if c=true then a else b:=by rw [h];exact k
theorem cu {c:Bool} {a b:Prop} (h:c=true) (k:a):if c=true then a else b:=by rw [h];exact k
inductive uQ (vs:List V) (H:Hp) (Q:VK) (E:XK):Prop
 | mk:∀ m:Nat,vs=[.int m]->m≠0->Q (.int ((dC m:Nat):Int)) H->uQ vs H Q E
noncomputable abbrev Cj:List Str:=["mask"]
theorem uR:aT Cj ["mask"] (aI o0):=by decide +kernel
theorem Ck (T:All P w K mg AA DD):aB P w K mg base aE 1 AA.Z0 DD.Z0 ["mask"] uQ:=by
 refine T.z_Z0.F.ok uR (fun vs H Q E h=>by cases h;subst_vars;rfl) fun Fk A outer s H vs Q E hr h=>?_;obtain ⟨m,rfl,h',k⟩:=h;have nd:=uR.nd;refine ⟨_,(ai (aX (aN bp (pv 0) ah (aQ _)) (aj (aH k8)) bb) (aj (aH (am gi (zS PySem.F.plainAttrs_int PySem.F.slot_int_bit_length PySem.F.type_int_bit_length Ab (am eI (pv 0) (am gi (pv 0) ah))) ah)))),?_⟩;refine ⟨_,rfl,rfl,_,rfl,?_⟩;rw [Qj (fun z=>h' (by injection z with z;omega))];refine cS ?_;obtain ⟨t,q,e⟩:=ow m m (Qc _) h';refine ⟨_,rfl,_,rfl,_,_,rfl,rfl,_,_,rfl,rfl,rfl,_,rfl,rfl,_,_,rfl,rfl,?_⟩;have hp:=Nat.two_pow_pos t;have e1:(m:Int)-1=((m-1:Nat):Int):=by omega
 have e2:Builtin.bitXor (m:Int) ((m:Int)-1)=((2 ^ (t+1)-1:Nat):Int):=by rw [e1,j2,e,sZ]
 rw [e2,tf];have e3:(((t+1:Nat):Int))-1=(t:Int):=by omega
 dsimp only;rw [e3];rw [um e] at k;exact k
theorem Cm {H:Hp} {sh:Bool} {vs:List V} {t:Tr} (h:PsAt H sh vs t.parts):∃ (a:V) (r:List V),vs=a::.int ((t.row:Nat):Int)::r:=by
 have g:∃ a ps,t.parts=.s a::.i t.row::ps:=by cases t<;>exact ⟨_,_,rfl⟩
 obtain ⟨a,ps,e⟩:=g;rw [e] at h;obtain ⟨r,e2,_⟩:=fB h;exact ⟨_,r,e2⟩
inductive uS (vs:List V) (H:Hp) (Q:VK) (E:XK):Prop
 | mk:∀ (v:V) (t:Tr),vs=[v]->OAt H true v t->t.mask≠0->(∀ q H',Same H H'->H' q=some (.tup ((cD t).map kV))->Q (.ref q) H')->uS vs H Q E
noncomputable abbrev Cn:List Str:=["pair"]
theorem uT:aT Cn ["pair"] (aI o7):=by decide +kernel
theorem Co (T:All P w K mg AA DD):aB P w K mg base aE 2 AA.Zk DD.Zk ["pair"] uS:=by
 have GL:=Ck (base:=base) T;refine T.z_Zk.F.ok uT (fun vs H Q E h=>by cases h;subst_vars;rfl) fun Fk A outer s H vs Q E hr h=>?_;obtain ⟨v,t,rfl,hO,hm,k⟩:=h;have nd:=uT.nd;have Fw:ar 1 _:=hr;refine ⟨_,(aj (aH (aF (aa (aO (aO (pv 0))) (aa (ao GL Fw rfl T.z_Z0 (aa (aO (pv 0)) ab)) ab))))),?_⟩
 cases hO with
 | plain e _=>cases e
 | @shared p x _ _ hp hS =>
 cases hS with
 | @mk t0 vs _ ht GT =>
 obtain ⟨a,r,rfl⟩:=Cm GT;refine ⟨_,rfl,p,_,_,_,rfl,rfl,au.of hp,rfl,?_⟩;refine ⟨t0,_,_,_,rfl,rfl,au.of ht,bn (j:=1) rfl,?_⟩;refine ⟨_,rfl,p,_,_,_,rfl,rfl,au.of hp,rfl,?_⟩;refine ⟨t.mask,rfl,hm,aM,fun q hq=>?_⟩;exact k q _ (ag hq) af
inductive jt (k:Nat) (vs:List V) (H:Hp) (Q:VK) (E:XK):Prop
 | mk:∀ (l:Addr) (xs:List V) (ts:List Tr) (rule:Nat),vs=[.ref l,.int ((rule:Nat):Int)]->H l=some (.lst xs)->LAt H true xs ts->deeps ts<k->ts.length<=40->ascs ts->(∀ p ys us H',Same H H'->H' p=some (.lst ys)->LAt H' true ys us->ko rule ts us->Q (.ref p) H')->jt k vs H Q E
inductive ql (k:Nat) (vs:List V) (H:Hp) (Q:VK) (E:XK):Prop
 | mk:∀ (v:V) (t:Tr) (rule:Nat),vs=[v,.int ((rule:Nat):Int)]->bi H true v t->t.deep<k->t.asc->(∀ v' u H',Same H H'->bi H' true v' u->lW rule t u->Q v' H')->ql k vs H Q E
noncomputable abbrev uU:List Str:=["one","mask"]
theorem uV:aT uU ["one","mask"] (aI mo):=by decide +kernel
theorem Cp (T:All P w K mg AA DD) (k:Nat) (GF:aB P w K mg base aE (2*k+5) AA.Zy DD.Zy ["tree","mask"] (jt k)):aB P w K mg base aE (2*k+6) AA.Zj DD.Zj ["one","mask"] (ql k):=by
 refine T.z_Zj.F.ok uV (fun vs H Q E h=>by cases h;subst_vars;rfl) fun Fk A outer s H vs Q E hr h=>?_;obtain ⟨v,t,rule,rfl,hS,hd,ha,kq⟩:=h;have nd:=uV.nd;have hrF:ar (2*k+5) _:=hr;refine ⟨_,(aj (aH (iO oZ rfl T.n_tuple lC (aa (fQ (aI mo) uU ["mask"] [1] rfl (by decide +kernel) rfl rfl (kr (pv 0)) (fun _ _ _ _=>fq) (fun _ _ _ _=>(lh (fc (di (ip (K:=K) (n:="list") rfl) rfl T.n_isinstance hZ (aa (pv 0) (aa (gQ (v:=.ty "list") rfl T.n_list lA rfl) ab)))) (ao GF hrF rfl T.z_Zy (aa (pv 0) (aa (pv 1) ab))) (pv 0)))) ab)))),?_⟩
 cases hS with
 | @mk t0 xs _ ht GT =>
 refine ⟨_,rfl,t0,rfl,⟨_,au.of ht⟩,?_⟩;have F8:=t.parts_len;have Ij:=GT.length;refine ox (K:=K0) (a:=t0) (xs:=xs) (fun i ys H'=>Same H H'/\i<=xs.length/\∃ qs,PsAt H' true ys qs/\dr rule (t.parts.take i) qs/\qs.length=i) ⟨Same.refl _,Qr _,[],.nil,by simpa using dr.nil,rfl⟩ (fun i ys H' _ h=>au.of (h.1 _ _ ht)) ?_ ?_
 ·rintro i x ys H1 hx ⟨sm,hi,qs,FA,hqs,hql⟩;obtain ⟨p,hp,hP⟩:=GT.get hx;have hP1:=hP.kept sm.ls;have Jy:=(Qh hx).1;have Gc:=FA.length;have FY:i<t.parts.length:=by omega
  have GP:t.parts.take (i+1)=t.parts.take i++[p]:=by rw [Qi FY];rw [Qa FY] at hp;rw [Qp hp]
  refine fm ?_;rw [if_pos rfl]
  rcases hP1.isL (K:=K) with ⟨bs,l,zs,e1,e2,hl,hL,ty,kb⟩ | ⟨nb,ty0,ty,kb⟩
  ·subst e1 e2;have hm:aW.b bs∈t.parts:=Qz hp;refine ⟨_,rfl,_,_,true,rfl,ty,kb,_,rfl,j0 ?_⟩;refine ⟨_,rfl,_,rfl,l,zs,bs,rule,rfl,hl,hL,QD (jl hm) hd,(fT ha hm).1,(fT ha hm).2.2,fun q vs us H2 s2 hq hL2 hk=>?_⟩;refine ⟨bX (by omega),sm.trans s2,by omega,qs++[.b us],(FA.kept s2.ls).snoc (.b hq hL2),?_,by simp [hql]⟩;rw [GP];exact hqs.snoc (.b hk)
  ·refine ⟨_,rfl,_,_,false,rfl,ty,kb,_,rfl,cS ?_⟩;refine ⟨_,rfl,bX (by omega),sm,by omega,qs++[p],FA.snoc hP1,?_,by simp [hql]⟩;rw [GP];exact hqs.snoc (.o nb)
 ·rintro ys H1 ⟨sm,hi,qs,FA,hqs,hql⟩ p hp;have s1:=ag (o:=.lst ys) hp;refine ⟨p,ys,rfl,.inl ⟨ak.of af,fun l hl=>?_⟩⟩;have s2:=ag (o:=.tup ys) hl;rw [Qo (by omega)] at hqs;obtain ⟨u,eu,hk⟩:=BK ha hqs;refine kq _ u _ ((sm.trans s1).trans s2) (.mk af ?_) hk;rw [eu];exact FA.kept (s1.trans s2).ls
noncomputable abbrev uW:List Str:=["tree","mask","kept"]
theorem qm:aT uW ["tree","mask"] (aI mn):=by decide +kernel
theorem Cq (T:All P w K mg AA DD) (k:Nat) (GS:aB P w K mg base aE (2*k+6) AA.Zj DD.Zj ["one","mask"] (ql k)):aB P w K mg base aE (2*(k+1)+5) AA.Zy DD.Zy ["tree","mask"] (jt (k+1)):=by
 have GR:=Co (base:=base) T;refine T.z_Zy.F.ok qm (fun vs H Q E h=>by cases h;subst_vars;rfl) fun Fk A outer s H vs Q E hr h=>?_;obtain ⟨l,xs,ts,rule,rfl,hl,hL,hd,h20,ha,kq⟩:=h;have nd:=qm.nd;have hrS:ar (2*k+6) _:=hr;have GQ:ar 4 _:=hrS.mono (by omega);refine ⟨_,(ai (sK (i:=2) (xs:=["there","one"]) (aI mn) uW ["mask"] [1] rfl (by decide +kernel) rfl rfl (cz (pv 0)) (fun _ _ _ _=>(c8 (n:=2) rfl (bm (a8 (i:=0) (show (["there","one","mask"]:List Str).Nodup by decide +kernel) rfl (Or.inl rfl)) (bm (a8 (i:=1) (show (["there","one","mask"]:List Str).Nodup by decide +kernel) rfl (Or.inl rfl)) cQ)))) (fun _ _ _ _=>hW (aN eJ (am fe (pv 0) (pv 2)) ah (aQ _))) (fun _ _ _ _=>(aF (aa (am fe (pv 0) (pv 2)) (aa (ao GS hrS rfl T.z_Zj (aa (pv 1) (aa (pv 2) ab))) ab)))) nd rfl rfl rfl) (aj (aH (Bx (K:=K) rfl GR GQ T.z_Zk.b .nil rfl T.n_sorted rfl T.z_Zk.m (pv 2))))),?_⟩;refine ⟨_,rfl,l,rfl,⟨_,ak.of hl⟩,?_⟩;have Ij:=hL.length;refine oy (K:=K0) (a:=l) (xs:=xs) (fun i ys H'=>Same H H'/\i<=xs.length/\∃ us,LAt H' true ys us/\cV rule (ts.take i) us) ⟨Same.refl _,Qr _,[],.nil,by simpa using cV.nil⟩ (fun i ys H' _ h=>ak.of (h.1 _ _ hl)) ?_ ?_
 ·rintro i x ys H1 hx ⟨sm,hi,us,FA,GJ⟩;obtain ⟨t,ht,hO⟩:=hL.get hx;have hO:=hO.kept sm.ls;have Jy:=(Qh hx).1;have Gc:=FA.length;have HU:=GJ.len;rw [QJ] at HU;have FY:i<ts.length:=by omega
  have GP:ts.take (i+1)=ts.take i++[t]:=by rw [Qi FY];rw [Qa FY] at ht;rw [Qp ht]
  have hm:t∈ts:=Qz ht
  cases hO with
  | plain e _=>cases e
  | @shared q y _ _ hq hS =>
  intro os F4;obtain ⟨a,b,rfl⟩:=gC F4;refine ⟨q,_,rfl,au.of hq,rfl,_,_,rfl,_,_,rfl,rfl,⟨[_,_],rfl,rfl⟩,?_⟩;refine ⟨_,rfl,_,rfl,_,_,rfl,rfl,rfl,_,rfl,?_⟩;have hb:Builtin.bitAnd ((t.mask:Nat):Int) ((rule:Nat):Int)=((t.mask &&& rule:Nat):Int):=gq _ _;by_cases h0:t.mask &&& rule=0
  ·refine bN (by
    show (!decide (V.int (Builtin.bitAnd ((t.mask:Nat):Int) ((rule:Nat):Int))=V.int 0))=false
    rw [hb,h0];rfl) ?_
   refine ⟨sm,by omega,us,FA,?_⟩;rw [GP];exact GJ.skip h0
  ·refine cu (by
    show (!decide (V.int (Builtin.bitAnd ((t.mask:Nat):Int) ((rule:Nat):Int))=V.int 0))=true
    rw [hb,Qj (fun z=>h0 (by injection z with z;omega))];rfl) ?_
   refine ⟨_,rfl,_,rfl,_,_,rfl,rfl,_,rfl,_,rfl,y,t,rule,rfl,hS,by have:=jm hm;omega,(gz ha hm).2,fun v' u H2 s2 IZ hk=>?_⟩;refine ⟨aM,fun q2 FX=>?_⟩;dsimp only;rw [hb];have s3:=ag (o:=.tup [.int ((t.mask &&& rule:Nat):Int),v']) FX;refine ⟨bX (by omega),(sm.trans s2).trans s3,by omega,us++[u],(FA.kept (s2.trans s3).ls).snoc (.shared rfl (by rw [hk.mask];exact af) (IZ.kept s3.ls)),?_⟩;rw [GP];exact GJ.keep h0 hk
 ·rintro ys H1 ⟨sm,hi,us,FA,GJ⟩ p hp;have s1:=ag (o:=.lst ys) hp;rw [Qo (by omega)] at GJ;have Gc:=FA.length;have HU:=GJ.len;have hys1:=FA.kept s1.ls;obtain ⟨FN,FT⟩:=BO ha GJ;refine ⟨_,rfl,p,ys,us.map cD,[true,true],rfl,ak.of af,by omega,by simp [Gc],fun d hd=>?_,by simp,fun i x d H' s2 hx hd Q' kQ=>?_,fun q H' s2 hq=>?_⟩
  ·obtain ⟨t,_,rfl⟩:=QT hd;rfl
  ·obtain ⟨t,ht,hO⟩:=hys1.get hx;rw [Qu,ht] at hd;cases (show some (cD t)=some d from hd);obtain ⟨t1,Fu,k1,hm1⟩:=GJ.from t (Qz ht);exact ⟨x,t,rfl,hO.kept s2.ls,by rw [k1.mask];exact hm1,fun q H2 s3 hq=>kQ q H2 s3 hq⟩
  ·have s3:=ag (o:=.lst (bZ (us.map cD) ys)) hq;have Fl:∀ i∈cC (us.map cD),i<us.length:=fun i hi=>by have:=qc i hi;rwa [Qe] at this
   exact kq q _ (dL us) _ (((sm.trans s1).trans s2).trans s3) af ((BP hys1 Fl).kept (s2.trans s3).ls) FN
theorem Cr (T:All P w K mg AA DD):aB P w K mg base aE 5 AA.Zy DD.Zy ["tree","mask"] (jt 0):=by
 have no:∀ vs H Q E,¬ jt 0 vs H Q E:=fun vs H Q E h=>by obtain ⟨l,xs,ts,rule,_,_,_,z,_⟩:=h;omega
 exact T.z_Zy.F.ok qm (fun vs H Q E h=>(no _ _ _ _ h).elim) (fun Fk A outer s H vs Q E hr h=>(no _ _ _ _ h).elim)
theorem uX (T:All P w K mg AA DD):∀ k:Nat,aB P w K mg base aE (2*k+5) AA.Zy DD.Zy ["tree","mask"] (jt k)
 | 0=>Cr T
 | k+1=>Cq T k (Cp T k (uX T k))
theorem ky {H:Hp} {d:Addr} {ob ob':HO} (h:H d=some ob) (n1:∀ xs,ob≠.tup xs) (n2:∀ xs,ob≠.lst xs) (n3:∀ o x,ob≠.frz o x) (n4:∀ ps,ob≠.tbl ps:=by intro _ z;cases z):bo H (upd H d ob') :=
 ⟨fun b xs e=>(by rw [ay (fun z=>by rw [z,h] at e;exact n1 _ (Qp e))];exact e),fun b xs e=>(by rw [ay (fun z=>by rw [z,h] at e;exact n2 _ (Qp e))];exact e),fun b o xs e=>by rw [ay (fun z=>by rw [z,h] at e;exact n3 _ _ (Qp e))];exact e,fun b ps e=>by rw [ay (fun z=>by rw [z,h] at e;exact n4 _ (Qp e))];exact e⟩
inductive uY (vs:List V) (H:Hp) (Q:VK) (E:XK):Prop
 | mk:∀ m o:Nat,vs=[.int m,.int o]->Q (.int ((m ^^^ (m &&& o):Nat):Int)) H->uY vs H Q E
noncomputable abbrev Cs:List Str:=["mask","other"]
theorem uZ:aT Cs ["mask","other"] (aI o4):=by decide +kernel
theorem kA (T:All P w K mg AA DD):aB P w K mg base aE 1 AA.ZP DD.ZP ["mask","other"] uY:=by
 refine T.z_ZP.F.ok uZ (fun vs H Q E h=>by cases h;subst_vars;rfl) fun Fk A outer s H vs Q E hr h=>?_;obtain ⟨m,o,rfl,k⟩:=h;have nd:=uZ.nd;refine ⟨_,(aj (aH (am eI (pv 0) (am fe (pv 0) (pv 1))))),?_⟩;refine ⟨_,rfl,_,rfl,_,rfl,_,_,rfl,rfl,_,_,rfl,rfl,?_⟩;dsimp only;rw [gq,j2];exact k
inductive u0 (vs:List V) (H:Hp) (Q:VK) (E:XK):Prop
 | mk:∀ (d:Addr) (y:V) (m:Nat),vs=[.ref d,y,.int ((m:Nat):Int)]->ou H d->((m=0/\Q .non H)∨(m≠0/\∃ (o:Option V) (n:Nat) (H':Hp),bz H d y o/\((o=none/\n=0)∨o=some (.int ((n:Nat):Int)))/\cG H d y (.int ((n ||| m:Nat):Int)) H'/\Q .non H'))->u0 vs H Q E
noncomputable abbrev Ct:List Str:=["found","key","mask"]
theorem u4:aT Ct ["found","key","mask"] (aI o6):=by decide +kernel
theorem Cu (T:All P w K mg AA DD):aB P w K mg base aE 1 AA.ZY DD.ZY ["found","key","mask"] u0:=by
 refine T.z_ZY.F.ok u4 (fun vs H Q E h=>by cases h;subst_vars;rfl) fun Fk A outer s H vs Q E hr h=>?_;obtain ⟨d,y,m,rfl,hI,h⟩:=h;have nd:=u4.nd;have hu:_+1<cLine:=QD (Nat.add_le_add_left (show 1<=16*0+200 by decide) _) (by have:=hr.un;omega);refine ⟨_,(aj (aX (aN eJ (pv 2) ah (aQ _)) (aj (gu hu (pv 0) (pv 1) (am nQ (ja hu (pv 0) (pv 1) ah ⟨by rfl,by rfl,by rfl,by rfl⟩) (pv 2)) rfl)) bb)),?_⟩;refine ⟨_,rfl,rfl,_,rfl,?_⟩
 rcases h with ⟨rfl,k⟩ | ⟨h0,o,n,H',g,ho,hp,k⟩
 ·exact cS k
 ·refine cu (by
   show (!decide (V.int ((m:Nat):Int)=V.int 0))=true
   rw [Qj (fun z=>h0 (by injection z with z;omega))];rfl) ?_
  refine ⟨_,rfl,d,rfl,hI,_,rfl,o,g,?_⟩
  have e:o.getD (V.int 0)=.int ((n:Nat):Int):=by
   rcases ho with ⟨z,z2⟩ | z<;>rw [z]
   ·rw [z2];rfl
   ·rfl
  rw [e];refine ⟨_,rfl,_,_,rfl,rfl,?_⟩;dsimp only;rw [ly];exact ⟨_,rfl,_,rfl,d,H',rfl,hp,k⟩
def _root_.Mm.Ex.bas:Ex->Prop
 | .op w _ _=>w∈ij/\True
 | .of _ _=>False
 | .many _ _ _=>False
 | _=>True
noncomputable def _root_.Mm.Ex.kids:Ex->List Ex
 | .not e=>[e]
 | .op _ a b=>[a,b]
 | _=>[]
inductive u6 (vs:List V) (H:Hp) (Q:VK) (E:XK):Prop
 | mk:∀ (v:V) (e:Ex),vs=[v]->aS H v e->e.bas->(∀ t ys H',Same H H'->H' t=some (.tup ys)->ExsAt H' ys e.kids->Q (.ref t) H')->u6 vs H Q E
noncomputable def ju:List Str:=["num","truth","name"]
noncomputable def mI:List Str:=["do","new"]
theorem Cv:∀ z∈ij,z∉ju/\z∉mI/\z≠"of"/\z≠"name"/\z≠"do"/\z≠"new":=by decide +kernel
theorem Cw:("not":Str)∉ju/\("not":Str)∉mI/\("not":Str)≠"of"/\("not":Str)≠"name"/\("not":Str)≠"do"/\("not":Str)≠"new":=by decide +kernel
theorem Cy {H:Hp} {v:V} {e:Ex} (h:aS H v e) (hp:e.bas):∃ (t:Addr) (z:Str) (ys:List V),v=.ref t/\H t=some (.tup (.str z::ys))/\((z∈ju/\e.kids=[]) ∨
  (z∉ju/\z∉mI/\z≠"of"/\z≠"name"/\z≠"do"/\z≠"new")/\ExsAt H ys e.kids/\ys.length<=2/\ys≠[]):=by
 cases h with
 | num h=>exact ⟨_,_,_,rfl,h,.inl ⟨by decide,rfl⟩⟩
 | truth h=>exact ⟨_,_,_,rfl,h,.inl ⟨by decide,rfl⟩⟩
 | name h=>exact ⟨_,_,_,rfl,h,.inl ⟨by decide,rfl⟩⟩
 | not h a=>exact ⟨_,_,_,rfl,h,.inr ⟨Cw,.cons a .nil,by simp,by simp⟩⟩
 | op h a b=>exact ⟨_,_,_,rfl,h,.inr ⟨Cv _ hp.1,.cons a (.cons b .nil),by simp,by simp⟩⟩
 | of h a=>exact hp.elim
 | many h l a=>exact hp.elim
theorem mJ (a:V) (ys:List V):dQ (a::ys) (some 1) none=ys:=by
 unfold dQ;have h1:HT.sIx (a::ys).length 0 (some 1)=1:=by simp [HT.sIx]
 have h2:HT.sIx (a::ys).length (a::ys).length none=ys.length+1:=by simp [HT.sIx]
 rw [h1,h2];simp
theorem u7 (z:Str) (l:List Str):gY (.str z) (l.map V.str)=decide (z∈l):=by
 induction l with
 | nil=>rfl
 | cons a r ih =>
  show ((a == z)||gY (.str z) (r.map V.str))=_;rw [ih];by_cases h:a=z
  ·subst h;simp
  ·have:¬ z=a:=fun e=>h e.symm;simp [h,this]
theorem kB {z:Str} {zs:List Str} {b:Bool} (h:decide (z∈zs)=b):(if false=true then !gY (V.str z) (zs.map V.str) else gY (V.str z) (zs.map V.str))=b:=by rw [<- h];exact u7 _ _
noncomputable abbrev Cz:List Str:=["e"]
theorem u9:aT Cz ["e"] (aI pe):=by decide +kernel
theorem CA (T:All P w K mg AA DD):aB P w K mg base aE 1 AA.ZK DD.ZK ["e"] u6:=by
 refine T.z_ZK.F.ok u9 (fun vs H Q E h=>by cases h;subst_vars;rfl) fun Fk A outer s H vs Q E hr h=>?_;obtain ⟨v,e,rfl,hE,F8,k⟩:=h;have nd:=u9.nd;refine ⟨_,(ai (aX (aN oY (aO (pv 0)) (aF (aa ap (aa ap (aa ap ab)))) rfl) (aj (aH (aF ab))) bb) (ai (aX (aN oY (aO (pv 0)) (aF (aa ap (aa ap ab))) rfl) (aj (aH (aO (pv 0)))) bb) (ai (aX (aN bp (aO (pv 0)) ap (aQ _)) (aj (aH (aF (aa (aO (pv 0)) ab)))) bb) (aj (aH (fj iq (pv 0) (fi ah) fh)))))),?_⟩;obtain ⟨t,z,ys,rfl,ht,hc⟩:=Cy hE F8;refine aP 0 rfl ht rfl ⟨dt,fun pt hpt=>⟨pt,ju.map V.str,rfl,.inr (au.of af),rfl,rfl,_,rfl,?_⟩⟩;have s1:=ag (o:=.tup (ju.map V.str)) hpt;have Fu:=s1 _ _ ht
 change if _=true then _ else _
 generalize hH1:upd H pt _=H1;have s1:Same H H1:=by rw [<- hH1];exact ag hpt
 have Fu:=s1 _ _ ht
 rcases hc with ⟨hz,hk⟩ | ⟨⟨n1,n2,n3,_⟩,hk,hl,hn⟩
 ·rw [kB (Qs hz)];refine j0 ?_;refine ⟨eZ,fun p hp=>?_⟩;exact k p _ _ (s1.trans (ag hp)) af (by rw [hk];exact .nil)
 ·rw [kB (Qj n1)];refine cS ?_;refine aP 0 rfl Fu rfl ⟨aM,fun pu hpu=>⟨pu,mI.map V.str,rfl,.inr (au.of af),rfl,rfl,_,rfl,?_⟩⟩
  change if _=true then _ else _
  generalize hH2:upd H1 pu _=H2;have s2:Same H1 H2:=by rw [<- hH2];exact ag hpu
  have FM:=s2 _ _ Fu;rw [kB (Qj n2)];refine cS ?_;refine aP 0 rfl FM rfl ⟨rfl,_,rfl,da n3 ?_⟩;refine ⟨_,rfl,_,rfl,t,_,rfl,au.of FM,?_,fun p hp=>?_⟩
  ·rintro ⟨q,_⟩;simp [HT.sIx] at q
  rw [mJ];exact k p _ _ ((s1.trans s2).trans (ag hp)) af ((hk.kept ((s1.trans s2).trans (ag hp)).tups))
theorem CB {e:Ex} (hg:e.good):∀ x∈e.kids,x.good/\x.deep+1<=e.deep:=by
 cases e with
 | not e=>intro x h;simp [Ex.kids] at h;subst h;exact ⟨hg,by simp [Ex.deep]⟩
 | op w a b =>
  intro x h;simp [Ex.kids] at h;rcases h with rfl | rfl
  ·exact ⟨hg.2.1,by simp [Ex.deep];omega⟩
  ·exact ⟨hg.2.2,by simp [Ex.deep];omega⟩
 | _=>intro x h;simp [Ex.kids] at h
noncomputable def _root_.Mm.Tr.kw:Tr->Str
 | .set _ _ _ _=>"set"
 | .tell _ _ _=>"tell"
 | .iff _ _ _ _ _=>"if"
 | .whl _ _ _ _=>"while"
 | .give _ _ _=>"give"
 | .df _ _ _ _ _ _=>"def"
 | .kd _ _ _ _=>"kind"
noncomputable def _root_.Mm.Tr.ex:Tr->Option Ex
 | .set _ _ _ e=>some e
 | .tell _ _ e=>some e
 | .iff _ _ e _ _=>some e
 | .whl _ _ e _=>some e
 | .give _ _ e=>some e
 | .df _ _ _ _ _ _=>none
 | .kd _ _ _ _=>none
noncomputable def _root_.Mm.Tr.blocks:Tr->List (List Tr)
 | .iff _ _ _ b o=>[b,o]
 | .whl _ _ _ b=>[b]
 | .df _ _ _ _ _ b=>[b]
 | _=>[]
noncomputable def eD:aW->Bool
 | .b _=>true
 | _=>false
theorem vc (t:Tr):t.parts.filter eD=t.blocks.map aW.b:=by cases t<;>rfl
theorem CC (t:Tr):t.cnt=1+(t.blocks.map cnts).sum:=by cases t<;>simp [Tr.cnt,Tr.blocks]
theorem vd {t:Tr} {e:Ex} (h:t.ex=some e):t.kw≠"def"/\t.kw≠"kind":=by cases t<;>first | (simp only [Tr.kw];decide +kernel) | cases h
theorem kC {H:Hp} {sh:Bool} {vs:List V} {t:Tr} (h:PsAt H sh vs t.parts):∃ (r:List V),vs=.str t.kw::.int ((t.row:Nat):Int)::r:=by
 have g:∃ ps,t.parts=.s t.kw::.i t.row::ps:=by cases t<;>exact ⟨_,rfl⟩
 obtain ⟨ps,e⟩:=g;rw [e] at h;obtain ⟨r,e2,_⟩:=fB h;exact ⟨r,e2⟩
inductive vf (vs:List V) (H:Hp) (Q:VK) (E:XK):Prop
 | mk:∀ (v:V) (t:Tr) (e:Ex),vs=[v]->bi H true v t->t.ex=some e->(∀ x,aS H x e->Q x H)->vf vs H Q E
noncomputable abbrev CD:List Str:=["one"]
theorem vg:aT CD ["one"] (aI pd):=by decide +kernel
theorem CF (T:All P w K mg AA DD):aB P w K mg base aE 1 AA.ZQ DD.ZQ ["one"] vf:=by
 refine T.z_ZQ.F.ok vg (fun vs H Q E h=>by cases h;subst_vars;rfl) fun Fk A outer s H vs Q E hr h=>?_;obtain ⟨v,t,e0,rfl,hS,IB,k⟩:=h;have nd:=vg.nd
 obtain ⟨t0,vs,j,x,ev,ht,h0,hj,hx,hb⟩:∃ t0 vs j x,v=.ref t0/\H t0=some (.tup vs)/\vs[0]?=some (.str t.kw)/\vs[j]?=some x/\aS H x e0/\((t.kw="set"/\j=3)∨(t.kw≠"set"/\j=2)):=by
  cases t with
  | set m r n e=>cases IB;obtain ⟨t0,ve,e1,ht,hx⟩:=uJ hS;exact ⟨t0,_,3,ve,e1,ht,rfl,rfl,hx,.inl ⟨rfl,rfl⟩⟩
  | tell m r e=>cases IB;obtain ⟨t0,ve,e1,ht,hx⟩:=Cd hS;exact ⟨t0,_,2,ve,e1,ht,rfl,rfl,hx,.inr ⟨by show ("tell":Str)≠"set";decide,rfl⟩⟩
  | iff m r e b o=>cases IB;obtain ⟨t0,ve,_,_,_,_,e1,ht,hx,_⟩:=uK hS;exact ⟨t0,_,2,ve,e1,ht,rfl,rfl,hx,.inr ⟨by show ("if":Str)≠"set";decide,rfl⟩⟩
  | whl m r e b=>cases IB;obtain ⟨t0,ve,_,_,e1,ht,hx,_⟩:=uL hS;exact ⟨t0,_,2,ve,e1,ht,rfl,rfl,hx,.inr ⟨by show ("while":Str)≠"set";decide,rfl⟩⟩
  | give m r e=>cases IB;obtain ⟨t0,ve,e1,ht,hx⟩:=Ce hS;exact ⟨t0,_,2,ve,e1,ht,rfl,rfl,hx,.inr ⟨by show ("give":Str)≠"set";decide,rfl⟩⟩
  | df m r n k ps b=>cases IB
  | kd m r n ps=>cases IB
 subst ev;refine ⟨_,(aj (aH (lh (aN bp (aO (pv 0)) ap (aQ _)) (aO (pv 0)) (aO (pv 0))))),?_⟩;refine ⟨_,rfl,t0,_,_,_,rfl,rfl,au.of ht,bn (j:=0) h0,rfl,_,rfl,?_⟩;rcases hb with ⟨hw,e⟩ | ⟨hw,e⟩<;>subst e
 ·exact cu (Qs (by rw [hw])) ⟨_,rfl,t0,_,_,_,rfl,rfl,au.of ht,bn (j:=3) hj,k _ hx⟩
 ·exact da hw ⟨_,rfl,t0,_,_,_,rfl,rfl,au.of ht,bn (j:=2) hj,k _ hx⟩
inductive vh (vs:List V) (H:Hp) (Q:VK) (E:XK):Prop
 | mk:∀ (v:V) (t:Tr),vs=[v]->bi H true v t->(∀ p ys H',Same H H'->H' p=some (.lst ys)->PsAt H' true ys (t.blocks.map aW.b)->Q (.ref p) H')->vh vs H Q E
noncomputable abbrev vi:List Str:=["one"]
theorem vj:aT vi ["one"] (aI mw):=by decide +kernel
theorem CG (T:All P w K mg AA DD):aB P w K mg base aE 1 AA.ZB DD.ZB ["one"] vh:=by
 refine T.z_ZB.F.ok vj (fun vs H Q E h=>by cases h;subst_vars;rfl) fun Fk A outer s H vs Q E hr h=>?_;obtain ⟨v,t,rfl,hS,k⟩:=h;have nd:=vj.nd;refine ⟨_,(aj (aH (fQ (aI mw) vi [] [] rfl (by decide +kernel) rfl rfl (kr (pv 0)) (fun _ _ _ _=>hW (fc (di (ip (K:=K) (n:="list") rfl) rfl T.n_isinstance hZ (aa (pv 0) (aa (gQ (v:=.ty "list") rfl T.n_list lA rfl) ab))))) (fun _ _ _ _=>(pv 0))))),?_⟩
 cases hS with
 | @mk t0 xs _ ht GT =>
 refine ⟨_,rfl,t0,rfl,⟨_,au.of ht⟩,?_⟩;have F8:=t.parts_len;have Ij:=GT.length;refine ox (K:=K0) (a:=t0) (xs:=xs) (fun i ys H'=>H'=H/\i<=xs.length/\ys.length<=i/\PsAt H true ys ((t.parts.take i).filter eD)) ⟨rfl,Qr _,Qr _,by simpa using PsAt.nil⟩ (fun i ys H' _ h=>by rw [h.1];exact au.of ht) ?_ ?_
 ·rintro i x ys H1 hx ⟨rfl,hi,hy,FA⟩;obtain ⟨p,hp,hP⟩:=GT.get hx;have Jy:=(Qh hx).1;have FY:i<t.parts.length:=by omega
  have GP:(t.parts.take (i+1)).filter eD=(t.parts.take i).filter eD++[p].filter eD:=by rw [Qi FY,List.filter_append];rw [Qa FY] at hp;rw [Qp hp]
  rcases hP.isL (K:=K) with ⟨bs,l,zs,e1,e2,hl,hL,ty,kb⟩ | ⟨nb,ty0,ty,kb⟩
  ·subst e1 e2;refine ⟨_,rfl,_,_,true,rfl,ty,kb,_,rfl,j0 ?_⟩;refine ⟨_,rfl,bX (by omega),rfl,by omega,by simp;omega,?_⟩;rw [GP];exact FA.snoc hP
  ·refine ⟨_,rfl,_,_,false,rfl,ty,kb,_,rfl,cS ?_⟩;refine ⟨rfl,by omega,by omega,?_⟩;rw [GP]
   have:[p].filter eD=[]:=by
    cases p with
    | b ts=>exact absurd rfl (nb ts)
    | s z=>rfl
    | i n=>rfl
    | e x=>rfl
    | p x=>rfl
   rw [this,QO];exact FA
 ·rintro ys H1 ⟨rfl,hi,hy,FA⟩ p hp;rw [Qo (by omega),vc] at FA;have s1:=ag (o:=.lst ys) hp;exact k p ys _ s1 af (FA.kept s1.ls)
noncomputable def _root_.Mm.Tr.hd:Tr->Option (Str × Str)
 | .df _ _ n _ _ _=>some ("def",n)
 | .kd _ _ n _=>some ("kind",n)
 | _=>none
noncomputable def cm (k:Str × Str) (ts:List Tr):Option Tr:=ts.find? fun t=>decide (t.hd=some k)
noncomputable def dE (k:Str × Str):List ae:=[.inr k.1,.inr k.2]
theorem CH {a b:Str × Str} (h:dE a=dE b):a=b:=by simp [dE] at h;exact Prod.ext h.1 h.2
noncomputable def kD:List Str:=["def","kind"]
theorem CI {H:Hp} {sh:Bool} {vs:List V} {t:Tr} (h:PsAt H sh vs t.parts):(t.kw∉kD/\t.hd=none)∨(t.kw∈kD/\∃ z r,t.hd=some (t.kw,z)/\vs=.str t.kw::.int ((t.row:Nat):Int)::.str z::r):=by
 have g:(t.kw∉kD/\t.hd=none)∨(t.kw∈kD/\∃ z ps,t.hd=some (t.kw,z)/\t.parts=.s t.kw::.i t.row::.s z::ps):=by
  cases t with
  | df m r n k ps b=>exact .inr ⟨by simp only [Tr.kw];decide +kernel,n,_,rfl,rfl⟩
  | kd m r n ps=>exact .inr ⟨by simp only [Tr.kw];decide +kernel,n,_,rfl,rfl⟩
  | _=>exact .inl ⟨by simp only [Tr.kw];decide +kernel,rfl⟩
 rcases g with g | ⟨g1,z,ps,g2,g3⟩
 ·exact .inl g
 ·rw [g3] at h;obtain ⟨r,e,h⟩:=fB h;obtain ⟨a,r',e',h1,h⟩:=c9 h;exact .inr ⟨g1,z,r',g2,by rw [e,e',jq h1]⟩
noncomputable def _root_.Mm.Tr.prs:Tr->List (Str × Str)
 | .df _ _ _ _ ps _=>ps
 | .kd _ _ _ ps=>ps
 | _=>[]
inductive vk (vs:List V) (H:Hp) (Q:VK) (E:XK):Prop
 | mk:∀ (v:V) (t:Tr),vs=[v]->bi H true v t->t.hd≠none->(∀ x,cU H x t.prs->Q x H)->vk vs H Q E
noncomputable abbrev CJ:List Str:=["one"]
theorem vm:aT CJ ["one"] (aI o9):=by decide +kernel
theorem CK (T:All P w K mg AA DD):aB P w K mg base aE 1 AA.ZJ DD.ZJ ["one"] vk:=by
 refine T.z_ZJ.F.ok vm (fun vs H Q E h=>by cases h;subst_vars;rfl) fun Fk A outer s H vs Q E hr h=>?_;obtain ⟨v,t,rfl,hS,hn,k⟩:=h;have nd:=vm.nd
 obtain ⟨t0,vs,j,x,ev,ht,h0,hj,hp,hb⟩:∃ t0 vs j x,v=.ref t0/\H t0=some (.tup vs)/\vs[0]?=some (.str t.kw)/\vs[j]?=some x/\cU H x t.prs/\((t.kw="def"/\j=4)∨(t.kw≠"def"/\j=3)):=by
  cases t with
  | df m r n kd ps b=>obtain ⟨t0,vp,_,_,e1,ht,hp,_⟩:=mH hS;exact ⟨t0,_,4,vp,e1,ht,rfl,rfl,hp,.inl ⟨rfl,rfl⟩⟩
  | kd m r n ps=>obtain ⟨t0,vp,e1,ht,hp⟩:=qh hS;exact ⟨t0,_,3,vp,e1,ht,rfl,rfl,hp,.inr ⟨by show ("kind":Str)≠"def";decide,rfl⟩⟩
  | _=>exact absurd rfl hn
 subst ev;refine ⟨_,(aj (aH (lh (aN bp (aO (pv 0)) ap (aQ _)) (aO (pv 0)) (aO (pv 0))))),?_⟩;refine ⟨_,rfl,t0,_,_,_,rfl,rfl,au.of ht,bn (j:=0) h0,rfl,_,rfl,?_⟩;rcases hb with ⟨hw,e⟩ | ⟨hw,e⟩<;>subst e
 ·exact cu (Qs (by rw [hw])) ⟨_,rfl,t0,_,_,_,rfl,rfl,au.of ht,bn (j:=4) hj,k _ hp⟩
 ·exact da hw ⟨_,rfl,t0,_,_,_,rfl,rfl,au.of ht,bn (j:=3) hj,k _ hp⟩
abbrev fW (H:Hp) (ts:List Addr) (ps:List (Nat × V)):Prop:=ts.length=ps.length/\∀ (i:Nat) (t:Addr) (q:Nat × V),ts[i]?=some t->ps[i]?=some q->H t=some (.tup [.int ((q.1:Nat):Int),q.2])
theorem fW.snoc {H:Hp} {ts:List Addr} {ps:List (Nat × V)} {t:Addr} {q:Nat × V} (h:fW H ts ps) (ht:H t=some (.tup [.int ((q.1:Nat):Int),q.2])):fW H (ts++[t]) (ps++[q]):=by
 refine ⟨by simp [h.1],fun i u k x y=>?_⟩;by_cases hi:i<ts.length
 ·rw [QI hi] at x;rw [QI (by rw [<- h.1];exact hi)] at y;exact h.2 i u k x y
 ·rw [QF (by omega)] at x;rw [QF (by rw [<- h.1];omega),<- h.1] at y;obtain ⟨hj,e⟩:=Qh x;rw [List.length_singleton] at hj;have h0:i-ts.length=0:=by omega
  rw [h0] at x y;cases x;cases y;exact ht
def bu (H:Hp) (p:Addr) (ps:List (Nat × V)):Prop:=∃ ts:List Addr,H p=some (.lst (ts.map V.ref))/\fW H ts ps
theorem bu.kept {H H':Hp} {p:Addr} {ps:List (Nat × V)} (h:bu H p ps) (s:bo H H'):bu H' p ps:=by obtain ⟨ts,a,b,c⟩:=h;exact ⟨ts,s.2 _ _ a,b,fun i t k x y=>s.1 _ _ (c i t k x y)⟩
theorem bu.nil {H:Hp} {p:Addr} (h:H p=some (.lst [])):bu H p []:=⟨[],h,rfl,fun i t k x=>by simp at x⟩
theorem bu.one {H:Hp} {p t:Addr} {q:Nat × V} (h:H p=some (.lst [.ref t])) (ht:H t=some (.tup [.int ((q.1:Nat):Int),q.2])):bu H p [q]:=⟨[t],h,fW.snoc (ps:=[]) (ts:=[]) ⟨rfl,fun i t k x=>by simp at x⟩ ht⟩
theorem bu.cat {H:Hp} {p q:Addr} {a b:List (Nat × V)} (ha:bu H p a) (hb:bu H q b):∃ xs ys,H p=some (.lst xs)/\H q=some (.lst ys)/\xs.length=a.length/\ys.length=b.length/\∀ l H',H' l=some (.lst (xs++ys))->(∀ b xs,H b=some (.tup xs)->H' b=some (.tup xs))->bu H' l (a++b):=by
 obtain ⟨ts,a1,a2,a3⟩:=ha;obtain ⟨us,b1,b2,b3⟩:=hb;refine ⟨_,_,a1,b1,by simpa using a2,by simpa using b2,fun l H' hl s=>⟨ts++us,by rw [hl,QU],by simp [a2,b2],fun i t k x y=>?_⟩⟩;by_cases hi:i<ts.length
 ·rw [QI hi] at x;rw [QI (by omega)] at y;exact s _ _ (a3 i t k x y)
 ·rw [QF (by omega)] at x;rw [QF (by omega),<- a2] at y;exact s _ _ (b3 _ t k x y)
def vn (o:Option (Nat × V)) (ys:List V) (N:List V->Hp->Prop) (H1:Hp):Prop:=match o with
 | none=>∀ H2,Same H1 H2->N ys H2
 | some q=>∀ t2 H2,Same H1 H2->H2 t2=some (.tup [.int ((q.1:Nat):Int),q.2])->ys.length<sizeLine/\N (ys++[.ref t2]) H2
theorem kE {α:Type} {k:Nat} {js:List Nat} {g:TG} {tt:TT} {te:TE} {σ:St} {H:Hp} {Q:VK} {p:Addr} {ps:List α} (pr:α->Nat × V) (hp:bu H p (ps.map pr)) (h2:ps.length<=200) (G:α->Option (Nat × V))
  (hs:∀ (t:Addr) (q:α) (ys:List V) (H1:Hp) (N:List V->Hp->Prop),q∈ps->Same H H1->H1 t=some (.tup [.int (((pr q).1:Nat):Int),(pr q).2])->vn (G q) ys N H1->j3 k js g tt te σ ys N (.ref t) H1)
  (hd:∀ p' H',Same H H'->bu H' p' (ps.filterMap G)->Q (.ref p') H'):(∃ xs,ak K0 H p xs)/\lz (dZ K0 p) k js g tt te σ H Q:=by
 obtain ⟨ts,hp,htl,Jp⟩:=hp;rw [Qe] at htl;refine ⟨⟨_,ak.of hp⟩,oy (K:=K0) (a:=p) (xs:=ts.map V.ref) (fun i ys H'=>Same H H'/\i<=ts.length/\∃ us:List Addr,ys=us.map V.ref/\fW H' us ((ps.take i).filterMap G)) ⟨Same.refl _,Qr _,[],rfl,rfl,fun j t q h=>by simp at h⟩ (fun i ys H' _ hsl78=>by obtain ⟨e,_⟩:=hsl78;exact ak.of (e _ _ hp)) ?_ ?_⟩
 ·rintro i x ys H1 hx ⟨sm,FO,us,rfl,hu⟩;obtain ⟨hi,ex⟩:=gE hx;have Gq:i<ps.length:=by omega
  subst ex;have hT:=sm _ _ (Jp i ts[i] (pr ps[i]) (Qa hi) (by rw [Qu,Qa Gq];rfl));have HU:us.length<=200:=by rw [hu.1];refine Qq (List.length_filterMap_le _ _) ?_;rw [QJ];omega
  refine hs _ ps[i] _ _ _ (QB Gq) sm hT ?_;rw [Qi Gq,List.filterMap_append];unfold vn
  cases hG:G ps[i] with
  | none =>
   intro H2 s2;refine ⟨sm.trans s2,hi,us,rfl,?_⟩;rw [List.filterMap_cons_none hG,List.filterMap_nil,QO];exact ⟨hu.1,fun i t k x y=>s2 _ _ (hu.2 i t k x y)⟩
  | some q =>
   intro t2 H2 s2 FM;refine ⟨by rw [Qe];exact bX (by omega),sm.trans s2,hi,us++[t2],by simp,?_⟩;rw [List.filterMap_cons_some hG,List.filterMap_nil];exact fW.snoc ⟨hu.1,fun i t k x y=>s2 _ _ (hu.2 i t k x y)⟩ FM
 ·rintro ys H1 ⟨sm,_,us,rfl,hu⟩ q hq;have sq:=ag (o:=.lst (us.map V.ref)) hq;rw [Qe,htl,List.take_length] at hu;exact hd q _ (sm.trans sq) ⟨us,af,hu.1,fun i t k' x y=>sq _ _ (hu.2 i t k' x y)⟩
noncomputable def orM:List (Nat × V)->Nat
 | []=>0
 | q::ps=>q.1 ||| orM ps
theorem CL (ps:List (Nat × V)) (q:Nat × V):orM (ps++[q])=orM ps ||| q.1:=by
 induction ps with
 | nil=>simp [orM]
 | cons a r ih=>rw [List.cons_append,orM,orM,ih,Nat.or_assoc]
theorem CM (ps:List (Nat × V)) (s:Nat):(orM ps).testBit s=ps.any fun q=>q.1.testBit s:=by
 induction ps with
 | nil=>simp [orM]
 | cons a r ih=>rw [orM,Nat.testBit_or,ih];rfl
inductive vq (vs:List V) (H:Hp) (Q:VK) (E:XK):Prop
 | mk:∀ (p:Addr) (ps:List (Nat × V)),vs=[.ref p]->bu H p ps->Q (.int ((orM ps:Nat):Int)) H->vq vs H Q E
noncomputable abbrev CN:List Str:=["pairs","found","mask","value"]
theorem vt:aT CN ["pairs"] (aI o5):=by decide +kernel
theorem kF (T:All P w K mg AA DD):aB P w K mg base aE 1 AA.ZX DD.ZX ["pairs"] vq:=by
 refine T.z_ZX.F.ok vt (fun vs H Q E h=>by cases h;subst_vars;rfl) fun Fk A outer s H vs Q E hr h=>?_;obtain ⟨l,ps,rfl,⟨ts,hl,htl,Jp⟩,k⟩:=h;have nd:=vt.nd;refine ⟨_,(ai (aL (i:=1) nd rfl (Or.inl rfl) ah) (ai (cY PassesOwn.never rfl (cz (pv 0)) (c8 rfl (bm (a8 (i:=2) nd rfl (Or.inl rfl)) (bm (a8 (i:=3) nd rfl (Or.inl rfl)) cQ))) (aj (aL (i:=1) nd rfl (Or.inl rfl) (am nQ (pv 1) (pv 2)))) (by intro _;rfl)) (aj (aH (pv 1))))),?_⟩;refine lD ?_;dsimp only [aK];refine ⟨_,rfl,l,rfl,⟨_,ak.of hl⟩,?_⟩;refine gD (K:=K0) (a:=l) (xs:=ts.map V.ref) (fun i σ' H'=>H'=H/\∃ s2 s3:Option V,σ'=[some (.ref l),some (.int ((orM (ps.take i):Nat):Int)),s2,s3]) ⟨rfl,none,none,rfl⟩ (fun i σ' H' _ hsl79=>by obtain ⟨e,_⟩:=hsl79;rw [e];exact ak.of hl) ?_ ?_
 ·rintro i x σ' H1 hx ⟨rfl,s2,s3,rfl⟩ E1 hN;obtain ⟨hi,ex⟩:=gE hx;have Gq:i<ps.length:=by omega
  subst ex;have ht:=Jp i ts[i] ps[i] (Qa hi) (Qa Gq);refine ⟨ts[i],_,rfl,au.of ht,rfl,_,_,rfl,_,_,rfl,rfl,?_⟩;refine ⟨_,rfl,_,rfl,_,_,rfl,rfl,hN _ _ ⟨rfl,some (.int ((ps[i].1:Nat):Int)),some ps[i].2,?_⟩⟩;rw [Qi Gq,CL,<- ly];rfl
 ·rintro σ' H1 ⟨rfl,s2,s3,rfl⟩;rw [Qe,htl,List.take_length];exact ⟨_,rfl,k⟩
noncomputable def cb {α:Type} (ps:List (Nat × α)) (m:Nat):List (Nat × α):=ps.filterMap fun p=>if p.1 &&& m=0 then none else some (p.1 &&& m,p.2)
theorem vv {α:Type} (ps:List (Nat × α)) (m:Nat):(cb ps m).length<=ps.length:=List.length_filterMap_le _ _
inductive vx (vs:List V) (H:Hp) (Q:VK) (E:XK):Prop
 | mk:∀ (p:Addr) (ps:List (Nat × V)) (m:Nat),vs=[.ref p,.int ((m:Nat):Int)]->bu H p ps->ps.length<=200->(∀ q H',Same H H'->bu H' q (cb ps m)->Q (.ref q) H')->vx vs H Q E
theorem vz {a m:Nat}:(!decide (V.int (Builtin.bitAnd ((a:Nat):Int) ((m:Nat):Int))=V.int 0))=!decide (a &&& m=0):=by rw [gq];congr 1;exact decide_eq_decide.mpr ⟨fun z=>by injection z with z;omega,fun z=>by rw [z];rfl⟩
noncomputable abbrev vA:List Str:=["pairs","mask"]
theorem vB:aT vA ["pairs","mask"] (aI mj):=by decide +kernel
theorem kG (T:All P w K mg AA DD):aB P w K mg base aE 1 AA.Zs DD.Zs ["pairs","mask"] vx:=by
 refine T.z_Zs.F.ok vB (fun vs H Q E h=>by cases h;subst_vars;rfl) fun Fk A outer s H vs Q E hr h=>?_;obtain ⟨p,ks,m,rfl,hp,FT,k⟩:=h;have nd:=vB.nd;refine ⟨_,(aj (aH (iU (xs:=["there","value"]) (aI mj) vA ["mask"] [1] rfl (by decide +kernel) rfl rfl (cz (pv 0)) (fun _ _ _ _=>(c8 (n:=2) rfl (bm (a8 (i:=0) (show (["there","value","mask"]:List Str).Nodup by decide +kernel) rfl (Or.inl rfl)) (bm (a8 (i:=1) (show (["there","value","mask"]:List Str).Nodup by decide +kernel) rfl (Or.inl rfl)) cQ)))) (fun _ _ _ _=>hW (aN eJ (am fe (pv 0) (pv 2)) ah (aQ _))) (fun _ _ _ _=>(aF (aa (am fe (pv 0) (pv 2)) (aa (pv 1) ab))))))),?_⟩;refine ⟨_,rfl,p,rfl,kE (fun q=>q) (by rw [List.map_id'];exact hp) FT _ (fun t q ys H1 N hq sm hT hN=>?_) k⟩;intro os F4;obtain ⟨a,b,rfl⟩:=gC F4;refine ⟨t,_,rfl,au.of hT,rfl,_,_,rfl,_,_,rfl,rfl,⟨[_,_],rfl,rfl⟩,?_⟩;refine ⟨_,rfl,_,rfl,_,_,rfl,rfl,rfl,_,rfl,?_⟩;by_cases h0:q.1 &&& m=0
 ·refine bN (vz.trans (by rw [Qs h0];rfl)) ?_;rw [if_pos h0] at hN;exact hN _ (Same.refl _)
 ·refine cu (vz.trans (by rw [Qj h0];rfl)) ?_;rw [if_neg h0] at hN;refine ⟨_,rfl,_,rfl,_,_,rfl,rfl,_,rfl,aM,fun t2 FM=>?_⟩;exact hN t2 _ (ag FM) (by rw [af,gq])
noncomputable def atS {α:Type} (ps:List (Nat × α)) (s:Nat):List α:=(ps.filter fun q=>q.1.testBit s).map (·.2)
theorem mK {α:Type} (s:Nat):atS ([]:List (Nat × α)) s=[]:=rfl
theorem gF {α:Type} (a b:List (Nat × α)) (s:Nat):atS (a++b) s=atS a s++atS b s:=by unfold atS;rw [List.filter_append,QU]
theorem iu {α:Type} (m:Nat) (k:α) (s:Nat):atS [(m,k)] s=if m.testBit s=true then [k] else []:=by unfold atS;by_cases h:m.testBit s=true<;>simp [h]
theorem kH {α:Type} (q:Nat × α) (ps:List (Nat × α)) (s:Nat):atS (q::ps) s=(if q.1.testBit s=true then [q.2] else [])++atS ps s:=by rw [<- iu q.1 q.2 s,<- gF];rfl
theorem vC {α:Type} (q:Nat × α) (ps:List (Nat × α)) (m:Nat):cb (q::ps) m=(if q.1 &&& m=0 then [] else [(q.1 &&& m,q.2)])++cb ps m:=by
 unfold cb;rw [List.filterMap_cons];by_cases h:q.1 &&& m=0
 ·rw [if_pos h,if_pos h];rfl
 ·rw [if_neg h,if_neg h];rfl
theorem kI {α:Type} (m s:Nat):∀ ps:List (Nat × α),atS (cb ps m) s=if m.testBit s=true then atS ps s else []
 | []=>by rw [show cb ([]:List (Nat × α)) m=[] from rfl,mK,ite_self]
 | q::ps=>by
  rw [vC,gF,kI m s ps,kH];have hb:(q.1 &&& m).testBit s=(q.1.testBit s&&m.testBit s):=Nat.testBit_and _ _ _;by_cases h:q.1 &&& m=0
  ·rw [if_pos h,mK,List.nil_append];rw [h,Nat.zero_testBit] at hb;by_cases hm:m.testBit s=true
   ·rw [if_pos hm,if_pos hm,if_neg (fun z=>by rw [z,hm] at hb;cases hb)];rfl
   ·rw [if_neg hm,if_neg hm]
  ·rw [if_neg h,iu,hb];by_cases hm:m.testBit s=true
   ·rw [if_pos hm,if_pos hm,hm,Bool.and_true]
   ·rw [if_neg hm,if_neg hm,if_neg (fun z=>hm (by cases hq:q.1.testBit s<;>simp_all)),List.nil_append]
theorem mL {α:Type} {ps:List (Nat × α)} {m:Nat} (h:∀ q∈ps,aY q.1):∀ q∈cb ps m,aY q.1:=fun q hq=>by
 obtain ⟨p,hp,e⟩:=List.mem_filterMap.mp hq;by_cases h0:p.1 &&& m=0
 ·rw [if_pos h0] at e;cases e
 ·rw [if_neg h0] at e;cases e;exact ⟨Nat.pos_of_ne_zero h0,uq (h p hp).2⟩
theorem vD {α β:Type} (g:α->β) (ps:List (Nat × α)) (m:Nat):cb (ps.map fun q=>(q.1,g q.2)) m=(cb ps m).map fun q=>(q.1,g q.2):=by unfold cb;rw [List.filterMap_map,List.map_filterMap];congr 1;funext q;show (if q.1 &&& m=0 then none else some (q.1 &&& m,g q.2))=(if q.1 &&& m=0 then none else some (q.1 &&& m,q.2)).map _;split<;>rfl
theorem vE {α:Type} (g:α->V) (ps:List (Nat × α)) (s:Nat):(orM (ps.map fun q=>(q.1,g q.2))).testBit s=!(atS ps s).isEmpty:=by
 rw [CM,List.any_map];unfold atS
 induction ps with
 | nil=>rfl
 | cons q ps ih =>
  rw [List.any_cons,ih,List.filter_cons];cases h:q.1.testBit s<;>simp [h]
theorem mM {α:Type} {ps:List (Nat × α)} (h:∀ q∈ps,aY q.1) (h1:∀ s,(atS ps s).length<=1):ps.length<=8:=by
 have key:∀ ps:List (Nat × α),(∀ q∈ps,aY q.1)->ps.length<=((List.range 8).map fun s=>(atS ps s).length).sum:=by
  intro ps
  induction ps with
  | nil=>simp
  | cons q ps ih =>
   intro h;have h2:=ih fun x hx=>h x (by simp [hx]);obtain ⟨q0,q1⟩:=h q (by simp);have e:(fun s=>(atS (q::ps) s).length)=fun s=>(if q.1.testBit s=true then 1 else 0)+(atS ps s).length:=by funext s;rw [kH,QE];split<;>simp
   have h3:((List.range 8).map fun s=>(if q.1.testBit s=true then 1 else 0)+(atS ps s).length).sum=((List.range 8).map fun s=>if q.1.testBit s=true then 1 else 0).sum+((List.range 8).map fun s=>(atS ps s).length).sum:=by simp only [List.range,List.range.loop,List.map_cons,List.map_nil,List.sum_cons,List.sum_nil];omega
   have h4:1<=((List.range 8).map fun s=>if q.1.testBit s=true then 1 else 0).sum:=by
    have hb:=lV (Nat.ne_of_gt q0)
    have hl:dC q.1<8:=by
     rcases Nat.lt_or_ge (dC q.1) 8 with z | z
     ·exact z
     ·rw [Nat.testBit_lt_two_pow (QG q1 (Nat.pow_le_pow_right (n:=2) (by decide) z))] at hb;cases hb
    have hm:(1:Nat)∈(List.range 8).map fun s=>if q.1.testBit s=true then 1 else 0:=List.mem_map.mpr ⟨dC q.1,by simpa using hl,by rw [if_pos hb]⟩
    have le:∀ {l:List Nat},1∈l->1<=l.sum:=by
     intro l
     induction l with
     | nil=>intro z;cases z
     | cons a l ih=>intro z;rw [List.sum_cons];rcases Qm z with z | z;· omega
                    have:=ih z;omega
    exact le hm
   rw [e,h3,QN];omega
 have h5:=key ps h;have h6:((List.range 8).map fun s=>(atS ps s).length).sum<=8:=by have a:=h1 0;have b:=h1 1;have c:=h1 2;have d:=h1 3;have e:=h1 4;have f:=h1 5;have g:=h1 6;have i:=h1 7;simp only [List.range,List.range.loop,List.map_cons,List.map_nil,List.sum_cons,List.sum_nil];omega
 omega
theorem qo {a b:Nat} (h:a<256) (h':b<256):a ||| b<256:=Nat.or_lt_two_pow (n:=8) h h'
theorem vF:∀ {ps:List (Nat × V)},(∀ q∈ps,q.1<256)->orM ps<256
 | [],_=>by decide
 | q::ps,h=>qo (h q (by simp)) (vF fun x hx=>h x (by simp [hx]))
abbrev cK:=Nat × V × Tr
noncomputable def cc (ps:List cK):List (Nat × V):=ps.map fun q=>(q.1,q.2.1)
structure fX (H:Hp) (o:Option V) (k:Str × Str) (tt:Nat->List Tr) (ps:List cK):Prop where
 at_:(o=none/\ps=[])∨∃ p,o=some (.ref p)/\bu H p (cc ps)
 ok:∀ q∈ps,aY q.1/\bi H true q.2.1 q.2.2/\q.2.2.hd=some k
 fst:∀ s,(atS ps s).map (fun x=>aA s x.2)=(cm k (tt s)).toList
theorem fX.len {H:Hp} {o:Option V} {k:Str × Str} {tt:Nat->List Tr} {ps:List cK} (h:fX H o k tt ps):ps.length<=8:=mM (fun q hq=>(h.ok q hq).1) fun s=>by rw [<- Qe (f:=fun x:V × Tr=>aA s x.2),h.fst s];cases cm k (tt s)<;>simp
def dS (H:Hp) (F:List (List ae × V)) (tt:Nat->List Tr):Prop:=∀ k:Str × Str,∃ ps,fX H (a9 F (dE k)) k tt ps
theorem fX.kept {H H':Hp} {o:Option V} {k:Str × Str} {tt:Nat->List Tr} {ps:List cK} (h:fX H o k tt ps) (s:bo H H'):fX H' o k tt ps :=
 ⟨h.at_.imp_right fun hsl80=>by obtain ⟨p,a,b⟩:=hsl80;exact ⟨p,a,b.kept s⟩,fun q hq=>by obtain ⟨a,b,c⟩:=h.ok q hq;exact ⟨a,b.kept s,c⟩,h.fst⟩
theorem dS.kept {H H':Hp} {F:List (List ae × V)} {tt:Nat->List Tr} (h:dS H F tt) (s:bo H H'):dS H' F tt:=fun k=>by obtain ⟨ps,q⟩:=h k;exact ⟨ps,q.kept s⟩
theorem CO (s:Nat) (t:Tr):(aA s t).hd=t.hd:=by cases t<;>simp [aA,Tr.hd]
theorem qp (s:Nat) (t:Tr):(aA s t).prs=t.prs:=by cases t<;>simp [aA,Tr.prs]
theorem vG (k:Str × Str) {ts:List Tr} {i:Nat} {t:Tr} (ht:ts[i]?=some t) (s:Nat):cm k (cutM s (ts.take (i+1)))=(cm k (cutM s (ts.take i))).or (if t.mask.testBit s=true/\t.hd=some k then some (aA s t) else none):=by
 obtain ⟨hi,e⟩:=Qh ht;rw [Qi hi,e,gA,ik];unfold cm;rw [List.find?_append];congr 1;by_cases h1:t.mask.testBit s=true
 ·rw [if_pos h1,List.find?_cons,CO];by_cases h2:t.hd=some k
  ·rw [if_pos ⟨h1,h2⟩,Qs h2]
  ·rw [if_neg (fun z=>h2 z.2),Qj h2];rfl
 ·rw [if_neg h1,if_neg (fun z=>h1 z.1)];rfl
theorem fX.other {H:Hp} {o:Option V} {k:Str × Str} {ts:List Tr} {i:Nat} {t:Tr} {ps:List cK} (h:fX H o k (fun s=>cutM s (ts.take i)) ps) (ht:ts[i]?=some t) (hk:t.hd≠some k):fX H o k (fun s=>cutM s (ts.take (i+1))) ps:=by refine ⟨h.at_,h.ok,fun s=>?_⟩;show _=(cm k (cutM s (ts.take (i+1)))).toList;rw [vG k ht,if_neg (fun z=>hk z.2),Option.or_none];exact h.fst s
theorem qq (m o:Nat):m &&& (m ^^^ (m &&& o))=m ^^^ (m &&& o):=by refine Nat.eq_of_testBit_eq fun i=>?_;simp only [Nat.testBit_and,Nat.testBit_xor];cases m.testBit i<;>cases o.testBit i<;>rfl
theorem kJ (m o s:Nat):(m ^^^ (m &&& o)).testBit s=(m.testBit s&&!o.testBit s):=by simp only [Nat.testBit_and,Nat.testBit_xor];cases m.testBit s<;>cases o.testBit s<;>rfl
theorem mN {m o:Nat} (h:m<256):m ^^^ (m &&& o)<256:=by rw [<- qq];exact QD Nat.and_le_left h
noncomputable def eA {α:Type} (m:Nat) (x:α):List (Nat × α):=if m=0 then [] else [(m,x)]
theorem CP {α:Type} (m:Nat) (x:α) (s:Nat):atS (eA m x) s=if m.testBit s=true then [x] else []:=by
 unfold eA;by_cases h:m=0
 ·rw [if_pos h,h,Nat.zero_testBit];rfl
 ·rw [if_neg h,iu]
theorem CQ {α:Type} (m o:Nat) (x:α):cb [(m,x)] (m ^^^ (m &&& o))=eA (m ^^^ (m &&& o)) x:=by rw [vC,qq];unfold eA;split<;>simp [cb]
theorem CS {k:Str × Str} {ts:List Tr} {i:Nat} {t:Tr} {v:V} {ps:List cK} (hf:∀ s,(atS ps s).map (fun x=>aA s x.2)=(cm k (cutM s (ts.take i))).toList) (ht:ts[i]?=some t) (hk:t.hd=some k) (s:Nat) :
  (atS (ps++eA (t.mask ^^^ (t.mask &&& orM (cc ps))) (v,t)) s).map (fun x=>aA s x.2)=(cm k (cutM s (ts.take (i+1)))).toList:=by
 have hb:=vE (fun x:V × Tr=>x.1) ps s;have hf:=hf s;rw [vG k ht,gF,QU,CP,kJ,show (orM (cc ps)).testBit s=_ from hb]
 cases hp:atS ps s with
 | nil =>
  rw [hp] at hf
  have h0:cm k (cutM s (ts.take i))=none:=by
   cases e:cm k (cutM s (ts.take i)) with
   | none=>rfl
   | some x=>rw [e] at hf;cases hf
  rw [h0,Option.none_or];cases t.mask.testBit s<;>simp [hk]
 | cons x r =>
  rw [hp] at hf;rw [hf]
  cases e:cm k (cutM s (ts.take i)) with
  | none=>rw [e] at hf;cases hf
  | some y=>simp
inductive vH (vs:List V) (H:Hp) (Q:VK) (E:XK):Prop
 | mk:∀ (l:Addr) (xs:List V) (ts:List Tr),vs=[.ref l]->H l=some (.lst xs)->LAt H true xs ts->ts.length<=50->(∀ t∈ts,aY t.mask)->(∀ d F H',Same H H'->H' d=some (.dT F)->dS H' F (fun s=>cutM s ts)->Q (.ref d) H')->vH vs H Q E
noncomputable abbrev CT:List Str:=["tree","found","mask","one","key","rows"]
theorem vI:aT CT ["tree"] (aI o8):=by decide +kernel
theorem CU (T:All P w K mg AA DD):aB P w K mg base aE 2 AA.Zu DD.Zu ["tree"] vH:=by
 have GA:=kF (base:=base) T;have GN:=kA (base:=base) T;have GB:=kG (base:=base) T;refine T.z_Zu.F.ok vI (fun vs H Q E h=>by cases h;subst_vars;rfl) fun Fk A outer s H vs Q E hr h=>?_;obtain ⟨l,xs,ts,rfl,hl,hL,h50,hom,kq⟩:=h;have nd:=vI.nd;have Fw:ar 1 _:=hr;have hu:=QD (Nat.add_le_add_left (show 1<=64 by decide) _) hr.units;refine ⟨_,(ai (aL (i:=1) nd rfl (Or.inl rfl) (sW)) (ai (cY PassesOwn.never rfl (cz (pv 0)) (c8 rfl (bm (a8 (i:=2) nd rfl (Or.inl rfl)) (bm (a8 (i:=3) nd rfl (Or.inl rfl)) cQ))) (aj (aX (aN oY (aO (pv 3)) (aF (aa ap (aa ap ab))) rfl) (ai (aL (i:=4) nd rfl (Or.inl rfl) (aF (aa (aO (pv 3)) (aa (aO (pv 3)) ab)))) (ai (aL (i:=5) nd rfl (Or.inl rfl) (ja hu (pv 1) (pv 4) (bG ab) ⟨by rfl,by rfl,by rfl,by rfl⟩)) (aj (gu hu (pv 1) (pv 4) (am n6 (pv 5) (ao GB Fw rfl T.z_Zs (aa (bG (aa (aF (aa (pv 2) (aa (pv 3) ab))) ab)) (aa (ao GN Fw rfl T.z_ZP (aa (pv 2) (aa (ao GA Fw rfl T.z_ZX (aa (pv 5) ab)) ab))) ab)))) rfl)))) bb)) (by intro _;rfl)) (aj (aH (pv 1))))),?_⟩;dsimp only [fP];refine fun d hd=>?_;have s1:=ag (o:=.dT []) hd;dsimp only [aK];have Ij:=hL.length;have HW:∀ {H':Hp} {F},H' d=some (.dT F)->∀ F',bo H' (upd H' d (.dT F')):=fun h F'=>ky h (fun _ z=>nomatch z) (fun _ z=>nomatch z) fun _ _ z=>nomatch z
 refine ⟨_,rfl,l,rfl,⟨_,ak.of (s1 _ _ hl)⟩,?_⟩;refine gD (K:=K0) (a:=l) (xs:=xs) (fun i σ' H'=>(∃ F,H' d=some (.dT F)/\dS H' F (fun s=>cutM s (ts.take i))/\F.length<=i)/\(∀ a,a≠d->∀ o,H a=some o->H' a=some o)/\∃ x2 x3 x4 x5,σ'=[some (.ref l),some (.ref d),x2,x3,x4,x5]) ⟨⟨[],af,fun k=>⟨[],.inl ⟨rfl,rfl⟩,fun q hq=>by simp at hq,fun s=>by rw [List.take_zero,cutM];rfl⟩,Qc _⟩,fun a ha o h=>by rw [ay ha];exact h,_,_,_,_,rfl⟩ (fun i σ' H' _ h=>ak.of (h.2.1 _ (fun z=>by rw [z] at hl;rw [hl] at hd;cases hd) _ hl)) ?_ ?_
 ·rintro i x σ' H1 hx ⟨⟨F,hF,hFs,Hz⟩,sm,x2,x3,x4,x5,rfl⟩ D1 hN;obtain ⟨t,ht,hO⟩:=hL.get hx;have FY:i<xs.length:=(Qh hx).1;have hokt:=hom t (Qz ht)
  have ls1:bo H H1:=⟨fun b xs h=>sm b (fun z=>by rw [z,hd] at h;cases h) _ h,fun b xs h=>sm b (fun z=>by rw [z,hd] at h;cases h) _ h,fun b o x h=>sm b (fun z=>by rw [z,hd] at h;cases h) _ h,fun b x h=>sm b (fun z=>by rw [z,hd] at h;cases h) _ h⟩
  have hO1:=hO.kept ls1
  cases hO1 with
  | plain e _=>cases e
  | @shared p y _ _ hp hS =>
  have I0:=hS
  cases hS with
  | @mk t0 vs _ FI GT =>
  have hda:=CI GT;obtain ⟨vr,rfl⟩:=kC GT;refine ⟨p,_,rfl,au.of hp,rfl,_,_,rfl,_,_,rfl,rfl,?_⟩;refine aP 0 rfl FI rfl ⟨aM,fun pt hpt=>⟨pt,kD.map V.str,rfl,.inr (au.of af),rfl,rfl,_,rfl,?_⟩⟩;have s2:=ag (o:=.tup [V.str "def",V.str "kind"]) hpt
  rcases hda with ⟨hh,hn⟩ | ⟨hh,z,r,hz,ev⟩
  ·refine bN (kB (Qj hh)) ?_;refine hN _ _ ⟨⟨F,s2 _ _ hF,fun k=>?_,by omega⟩,fun a ha o h=>s2 _ _ (sm a ha o h),_,_,_,_,rfl⟩;obtain ⟨ps,q⟩:=hFs k;exact ⟨ps,(q.kept s2.ls).other ht (by rw [hn];exact fun z=>nomatch z)⟩
  ·refine cu (kB (Qs hh)) ?_;have ev2:vr=.str z::r:=by injection ev with _ q;injection q
   subst ev2;have FM:=s2 _ _ FI;have hF2:=s2 _ _ hF;have hFs2:=hFs.kept s2.ls;have sm2:∀ a,a≠d->∀ o,H a=some o->upd H1 pt (.tup [V.str "def",V.str "kind"]) a=some o:=fun a ha o h=>s2 _ _ (sm a ha o h);have IZ:=I0.kept s2.ls;generalize upd H1 pt (.tup [V.str "def",V.str "kind"])=H2 at FM hF2 hFs2 sm2 IZ ⊢;refine aP 0 rfl FM rfl (aP 2 rfl FM rfl ⟨aM,fun q hq=>?_⟩);have s3:=ag (o:=.tup [.str t.kw,.str z]) hq;dsimp only [aK];refine ⟨_,rfl,d,rfl,.inr ⟨F,.inl (s3 _ _ hF2)⟩,_,rfl,eZ,fun q2 FX=>?_⟩;have s4:=ag (o:=.lst []) FX;have HR:=s3.trans s4;have F9:upd (upd H2 q (.tup [.str t.kw,.str z])) q2 (.lst []) q=some (.tup ((dE (t.kw,z)).map kV)):=s4 _ _ af;refine ⟨_,bz.t (k:=dE (t.kw,z)) (HR _ _ hF2) F9,?_⟩;obtain ⟨ps,hK⟩:=hFs2 (t.kw,z)
   obtain ⟨l3,el3,hl3⟩:∃ l3,(a9 F (dE (t.kw,z))).getD (V.ref q2)=.ref l3/\bu (upd (upd H2 q (.tup [.str t.kw,.str z])) q2 (.lst [])) l3 (cc ps):=by
    rcases hK.at_ with ⟨a,b⟩ | ⟨p',a,b⟩
    ·exact ⟨q2,by rw [a];rfl,by rw [b];exact bu.nil af⟩
    ·exact ⟨p',by rw [a];rfl,b.kept HR.ls⟩
   rw [el3];have hF4:=HR _ _ hF2;have HX:=HR _ _ FM;have hS4:=IZ.kept HR.ls;have hFs4:=hFs2.kept HR.ls;have hK4:=hK.kept HR.ls;have sm4:∀ a,a≠d->∀ o,H a=some o->upd (upd H2 q (.tup [.str t.kw,.str z])) q2 (.lst []) a=some o:=fun a ha o h=>HR _ _ (sm2 a ha o h);generalize upd (upd H2 q (.tup [.str t.kw,.str z])) q2 (.lst [])=H4 at F9 hl3 hF4 HX hS4 hFs4 sm4 hK4 ⊢;dsimp only [aK];refine ⟨_,rfl,_,rfl,_,rfl,aM,fun tp htp=>⟨cO,fun lp hlp=>?_⟩⟩;have s5:=ag (o:=.tup [.int ((t.mask:Nat):Int),.ref t0]) htp;have s6:=ag (o:=.lst [.ref tp]) hlp;have F5:=s5.trans s6;have hlp6:bu (upd (upd H4 tp (.tup [.int ((t.mask:Nat):Int),.ref t0])) lp (.lst [.ref tp])) lp [(t.mask,.ref t0)]:=bu.one af (s6 _ _ af);have hl6:=hl3.kept F5.ls;have hF6:=F5 _ _ hF4;have hS6:=hS4.kept F5.ls;have hFs6:=hFs4.kept F5.ls;have hK6:=hK4.kept F5.ls;have hkk6:=F5 _ _ F9;have sm6:∀ a,a≠d->∀ o,H a=some o->upd (upd H4 tp (.tup [.int ((t.mask:Nat):Int),.ref t0])) lp (.lst [.ref tp]) a=some o:=fun a ha o h=>F5 _ _ (sm4 a ha o h);generalize upd (upd H4 tp (.tup [.int ((t.mask:Nat):Int),.ref t0])) lp (.lst [.ref tp])=H6 at hlp6 hl6 hF6 hS6 hFs6 hK6 hkk6 sm6 ⊢;refine ⟨_,rfl,_,rfl,l3,cc ps,rfl,hl6,?_⟩;refine ⟨t.mask,orM (cc ps),rfl,lp,[(t.mask,.ref t0)],t.mask ^^^ (t.mask &&& orM (cc ps)),rfl,hlp6,by simp,fun p3 H7 s7 hK7=>?_⟩;rw [CQ] at hK7;have hfm:=CS (v:=V.ref t0) hK.fst ht hz;have hwl:t.mask ^^^ (t.mask &&& orM (cc ps))<256:=mN hokt.2;generalize t.mask ^^^ (t.mask &&& orM (cc ps))=m at hK7 hfm hwl;have Gd:∀ {α:Type} (x:α),(eA m x).length<=1:=fun x=>by unfold eA;split<;>simp
   obtain ⟨Ii,HQ,h1,h2,h3,h4,h5⟩:=(hl6.kept s7.ls).cat hK7;have F8:=hK.len;have epr:cc ps++eA m (V.ref t0)=cc (ps++eA m (V.ref t0,t)):=by unfold cc eA;rw [QU];split<;>rfl
   have h3':Ii.length=ps.length:=by rw [h3];unfold cc;rw [Qe]
   have h4':HQ.length<=1:=by rw [h4];exact Gd _
   refine ⟨l3,p3,Ii,HQ,rfl,rfl,h1,h2,QP (bX (by omega)),fun l8 Jl=>?_⟩;have s8:=ag (o:=.lst (Ii++HQ)) Jl;have hK8:=h5 l8 _ af s8.tups;rw [epr] at hK8;have s78:=s7.trans s8;have hF8:=s78 _ _ hF6;have hFs8:=hFs6.kept s78.ls;have hK9:=hK6.kept s78.ls;have hS8:=hS6.kept s78.ls;have lsd:=HW hF8 (ba F (dE (t.kw,z)) (.ref l8));refine ⟨_,rfl,_,rfl,d,_,rfl,cG.t hF8 (s78 _ _ hkk6) (bX (by omega)),hN _ _ ⟨⟨_,af,fun k=>?_,?_⟩,fun a ha o h=>by rw [ay ha];exact s78 _ _ (sm6 a ha o h),_,_,_,_,rfl⟩⟩
   ·rw [j4];by_cases hk:k=(t.kw,z)
    ·subst hk;rw [if_pos rfl];refine ⟨ps++eA m (V.ref t0,t),.inr ⟨l8,rfl,hK8.kept lsd⟩,fun q hq=>?_,hfm⟩;rcases QK hq with hq | hq
     ·obtain ⟨a,b,c⟩:=hK9.ok q hq;exact ⟨a,b.kept lsd,c⟩
     ·unfold eA at hq;split at hq
      ·simp at hq
      ·rename_i hm0;rw [QL hq];exact ⟨⟨Nat.pos_of_ne_zero hm0,hwl⟩,hS8.kept lsd,hz⟩
    ·rw [if_neg (fun q=>hk (CH q))];obtain ⟨ps',q'⟩:=hFs8 k;exact ⟨ps',(q'.kept lsd).other ht (by rw [hz];exact fun e=>hk (by injection e with e;exact e.symm))⟩
   ·have:=iY F (dE (t.kw,z)) (V.ref l8);omega
 ·rintro σ' H1 ⟨⟨F,a,b,_⟩,sm,x2,x3,x4,x5,rfl⟩;rw [Qo (by omega)] at b;exact ⟨_,rfl,kq d F _ (fun b o h=>sm b (fun z=>by rw [z,hd] at h;cases h) o h) a b⟩
abbrev Kd:=Option Str
noncomputable def bM:Kd->V
 | some k=>.str k
 | none=>.non
abbrev cf:=List (Nat × Kd)
noncomputable def kv (ps:cf):List (Nat × V):=ps.map fun q=>(q.1,bM q.2)
theorem mO (ps:cf) (m:Nat):cb (kv ps) m=kv (cb ps m):=vD bM ps m
structure Rp (ps:cf) (f:Nat->Option Kd):Prop where
 ok:∀ q∈ps,aY q.1
 val:∀ s,atS ps s=(f s).toList
theorem Rp.len {ps:cf} {f:Nat->Option Kd} (h:Rp ps f):ps.length<=8:=mM h.ok fun s=>by rw [h.val];cases f s<;>simp
theorem Rp.nil:Rp [] fun _=>none:=⟨fun q h=>by simp at h,fun _=>rfl⟩
theorem Rp.kep {ps:cf} {f:Nat->Option Kd} (h:Rp ps f) (m:Nat):Rp (cb ps m) fun s=>if m.testBit s=true then f s else none:=⟨mL h.ok,fun s=>by
 rw [kI,h.val]
 split<;>rfl⟩
theorem Rp.one {m:Nat} (h:aY m) (k:Kd):Rp [(m,k)] fun s=>if m.testBit s=true then some k else none:=⟨fun q hq=>by rw [QL hq];exact h,fun s=>by
 rw [iu]
 split<;>rfl⟩
def KM (H:Hp) (p:Addr) (ps:cf):Prop:=bu H p (kv ps)
theorem KM.kept {H H':Hp} {p:Addr} {ps:cf} (h:KM H p ps) (s:bo H H'):KM H' p ps:=bu.kept h s
theorem mP (a b:cf):kv a++kv b=kv (a++b):=List.map_append.symm
theorem fC (a:cf):(kv a).length=a.length:=Qe _
theorem vJ (ps:cf) (s:Nat):(orM (kv ps)).testBit s=!(atS ps s).isEmpty:=vE bM ps s
theorem Rp.or {ps:cf} {f:Nat->Option Kd} (h:Rp ps f) (s:Nat):(orM (kv ps)).testBit s=(f s).isSome:=by rw [vJ,h.val];cases f s<;>rfl
theorem CV {ps:cf} (h:∀ q∈ps,aY q.1):orM (kv ps)<256:=vF fun q hq=>by obtain ⟨p,hp,rfl⟩:=QT hq;exact (h p hp).2
theorem vK (g:Kd->Bool) (s:Nat):∀ ps:cf,atS (ps.filter fun q=>g q.2) s=(atS ps s).filter g
 | []=>rfl
 | q::ps=>by rw [kH,List.filter_append,<- vK g s ps,List.filter_cons];cases hg:g q.2<;>by_cases hb:q.1.testBit s=true<;>simp [hb,hg,kH]
noncomputable def mQ (Gx k:Kd):Bool:=match k with
 | none=>false
 | some x=>!decide (V.str x=bM Gx)
noncomputable def fY (Gx:Kd) (o:Option Kd):Bool:=o.any (mQ Gx)
theorem vL {ps:cf} {f:Nat->Option Kd} (h:Rp ps f) (g:Kd->Bool) (s:Nat):(orM (kv (ps.filter fun q=>g q.2))).testBit s=(f s).any g:=by
 rw [vJ,vK,h.val]
 cases f s with
 | none=>rfl
 | some k=>cases hg:g k<;>simp [hg]
theorem vM {ps:cf} {f:Nat->Option Kd} (h:Rp ps f) (g:Kd->Bool):orM (kv (ps.filter fun q=>g q.2))<256:=CV fun q hq=>h.ok q (List.mem_filter.mp hq).1
theorem CW (g:Kd->Bool) (ps:cf):ps.filterMap (fun q=>if g q.2=true then some (q.1,bM q.2) else none)=kv (ps.filter fun q=>g q.2):=by
 unfold kv
 induction ps with
 | nil=>rfl
 | cons q ps ih =>
  rw [List.filterMap_cons,ih,List.filter_cons];cases g q.2<;>rfl
inductive vN (vs:List V) (H:Hp) (Q:VK) (E:XK):Prop
 | mk:∀ (p:Addr) (ps:cf) (f:Nat->Option Kd) (Gx:Kd),vs=[.ref p,bM Gx]->KM H p ps->Rp ps f->(∀ m H',Same H H'->m<256->(∀ s,m.testBit s=fY Gx (f s))->Q (.int ((m:Nat):Int)) H')->vN vs H Q E
noncomputable abbrev vO:List Str:=["kinds","due"]
theorem vP:aT vO ["kinds","due"] (aI mx):=by decide +kernel
theorem qr (T:All P w K mg AA DD):aB P w K mg base aE 2 AA.Z3 DD.Z3 ["kinds","due"] vN:=by
 have GA:=kF (base:=base) T;refine T.z_Z3.F.ok vP (fun vs H Q E h=>by cases h;subst_vars;rfl) fun Fk A outer s H vs Q E hr h=>?_;obtain ⟨p,ks,f,Gx,rfl,hK,hf,k⟩:=h;have nd:=vP.nd;have Fw:ar 1 _:=hr;have hl:=hf.len;refine ⟨_,(aj (aH (ao GA Fw rfl T.z_ZX (aa (iU (xs:=["mask","kind"]) (aI mx) vO ["due"] [1] rfl (by decide +kernel) rfl rfl (cz (pv 0)) (fun _ _ _ _=>(c8 (n:=2) rfl (bm (a8 (i:=0) (show (["mask","kind","due"]:List Str).Nodup by decide +kernel) rfl (Or.inl rfl)) (bm (a8 (i:=1) (show (["mask","kind","due"]:List Str).Nodup by decide +kernel) rfl (Or.inl rfl)) cQ)))) (fun _ _ _ _=>hW (PW.pt (jO (k9 (nE (pv 1))) (lc (aN eJ (pv 1) (pv 2) (aQ _)))))) (fun _ _ _ _=>(aF (aa (pv 0) (aa (pv 1) ab))))) ab)))),?_⟩;refine ⟨_,rfl,p,rfl,kE (fun q:Nat × Kd=>(q.1,bM q.2)) hK (by omega) (fun q=>if mQ Gx q.2=true then some (q.1,bM q.2) else none) (fun t q ys H1 N hq sm hT hN=>?_) fun p' H' s' hP=>?_⟩
 ·obtain ⟨m,kd⟩:=q;intro os F4;obtain ⟨a,b,rfl⟩:=gC F4;refine ⟨t,_,rfl,au.of hT,rfl,_,_,rfl,_,_,rfl,rfl,⟨[_,_],rfl,rfl⟩,?_⟩
  cases kd with
  | none=>exact ⟨_,rfl,_,rfl,bN (by rw [Qs (show bM none=V.non from rfl)];rfl) (hN _ (Same.refl _))⟩
  | some kd =>
  refine ⟨_,rfl,_,rfl,cu (by rw [Qj (fun z=>by cases z)];rfl) ⟨_,rfl,_,rfl,(by cases Gx<;>rfl),_,rfl,?_⟩⟩;by_cases h0:mQ Gx (some kd)=true
  ·refine cu h0 ?_;rw [if_pos h0] at hN;exact ⟨_,rfl,_,rfl,aM,fun t2 FM=>hN t2 _ (ag FM) af⟩
  ·refine bN (by cases hb:mQ Gx (some kd) with | true=>exact absurd hb h0 | false=>exact hb) ?_;rw [if_neg h0] at hN;exact hN _ (Same.refl _)
 ·rw [CW] at hP;exact ⟨p',_,rfl,hP,k _ _ s' (vM hf _) (vL hf _)⟩
noncomputable def vQ:List Str:=["num","truth"]
noncomputable def isRec (k:Kd):Bool:=match k with
 | none=>false
 | some z=>!decide (z∈vQ)
inductive vR (vs:List V) (H:Hp) (Q:VK) (E:XK):Prop
 | mk:∀ k:Kd,vs=[bM k]->Q (.bl (isRec k)) H->vR vs H Q E
noncomputable abbrev CY:List Str:=["kind"]
theorem vS:aT CY ["kind"] (aI ph):=by decide +kernel
theorem CZ (T:All P w K mg AA DD):aB P w K mg base aE 1 AA.ZC DD.ZC ["kind"] vR:=by
 refine T.z_ZC.F.ok vS (fun vs H Q E h=>by cases h;subst_vars;rfl) fun Fk A outer s H vs Q E hr h=>?_;obtain ⟨kd,rfl,k⟩:=h;have nd:=vS.nd;refine ⟨_,(aj (aH (yD (yx (nE (pv 0))) (yC (@rK _ _ _ _ _ _ _ _ (BB (K:=K) rfl) (pv 0) (yt (v:=.ref AA.q_PLAIN_KINDS) rfl T.m_PLAIN_KINDS rfl) rfl))))),?_⟩
 cases kd with
 | none =>
  refine ⟨_,rfl,_,rfl,bN (by rw [Qs (show bM none=V.non from rfl)];rfl) ?_⟩;exact k
 | some z =>
 refine ⟨_,rfl,_,rfl,cu (by rw [Qj (fun z=>by cases z)];rfl) ?_⟩;refine ⟨_,rfl,AA.q_PLAIN_KINDS,[.str "num",.str "truth"],rfl,.inr (T.Q_PLAIN_KINDS H),rfl,rfl,?_⟩;show Q (V.bl (!gY (V.str z) (vQ.map V.str))) H;rw [u7];exact k
structure bH (H H':Hp):Prop where
 ls:bo H H'
 dk:∀ a kv,H a=some (.dK kv)->H' a=some (.dK kv)
theorem bH.refl (H:Hp):bH H H:=⟨bo.refl _,fun _ _ h=>h⟩
theorem bH.trans {H H1 H2:Hp} (a:bH H H1) (b:bH H1 H2):bH H H2:=⟨a.ls.trans b.ls,fun _ _ h=>b.dk _ _ (a.dk _ _ h)⟩
theorem bV {H H':Hp} (s:Same H H'):bH H H':=⟨s.ls,fun _ _ h=>s _ _ h⟩
noncomputable def kk (r:Nat) (what:Str):List ae:=[.inl ((r:Nat):Int),.inr what]
theorem C0 {r r':Nat} {w w':Str} (h:kk r w=kk r' w'):r=r'/\w=w':=by unfold kk at h;injection h with h1 h2;injection h1 with h1;injection h2 with h2;injection h2 with h2;exact ⟨by omega,h2⟩
noncomputable def mR:List Str:=["kind","field","tell","truth","give"]
noncomputable def mS:List (List ae):=(List.range 200).flatMap fun r=>mR.map fun w=>kk r w
theorem C1 {r:Nat} {w:Str} (hr:r<200) (hw:w∈mR):kk r w∈mS:=List.mem_flatMap.mpr ⟨r,by simpa using hr,List.mem_map.mpr ⟨w,hw,rfl⟩⟩
theorem C2 {k:List ae} (h:k∈mS):∃ r w,k=kk r w:=by obtain ⟨r,_,h⟩:=List.mem_flatMap.mp h;obtain ⟨w,_,h⟩:=QT h;exact ⟨r,w,h.symm⟩
theorem vT {α:Type} [DecidableEq α]:∀ {l m:List α},l.Nodup->(∀ x∈l,x∈m)->l.length<=m.length
 | [],_,_,_=>Qr _
 | x::l,m,nd,h=>by rw [List.nodup_cons] at nd;have hx:=h x (by simp);have:=vT (m:=m.erase x) nd.2 fun y hy=>(List.mem_erase_of_ne (fun (e:y=x)=>nd.1 (e ▸ hy))).mpr (h y (by simp [hy]));rw [List.length_erase_of_mem hx] at this;have:=List.length_pos_of_mem hx;rw [QN];omega
abbrev Dm:=List (List ae × Nat)
noncomputable def dV (D:Dm):List (List ae × V):=D.map fun q=>(q.1,.int ((q.2:Nat):Int))
noncomputable def valN (D:Dm) (k:List ae):Option Nat:=(D.find? fun q=>decide (q.1=k)).map (·.2)
noncomputable def eR (D:Dm) (k:List ae) (n:Nat):Dm:=if (D.any fun q=>decide (q.1=k))=true then D.map (fun q=>if q.1=k then (k,n) else q) else D++[(k,n)]
theorem mT (D:Dm) (k:List ae):a9 (dV D) k=(valN D k).map fun n=>.int ((n:Nat):Int):=by unfold a9 valN dV;rw [List.find?_map,Option.map_map,Option.map_map];rfl
theorem vU (D:Dm) (k:List ae) (n:Nat):ba (dV D) k (.int ((n:Nat):Int))=dV (eR D k n):=by
 unfold ba eR dV;rw [List.any_map];have e:((fun kv:List ae × V=>decide (kv.1=k))∘fun q:List ae × Nat=>(q.1,V.int ((q.2:Nat):Int)))=fun q=>decide (q.1=k):=rfl;rw [e];split
 ·rw [List.map_map,List.map_map];refine List.map_congr_left fun q _=>?_;show (if q.1=k then (q.1,V.int ((n:Nat):Int)) else (q.1,V.int ((q.2:Nat):Int)))=((if q.1=k then (k,n) else q).1,V.int (((if q.1=k then (k,n) else q).2:Nat):Int));by_cases h:q.1=k<;>simp [h]
 ·rw [QU];rfl
theorem C3 (D:Dm) (k:List ae) (n:Nat) (k':List ae):valN (eR D k n) k'=if k'=k then some n else valN D k':=by
 have h1:=mT (eR D k n) k';rw [<- vU,j4,mT] at h1;by_cases h:k'=k
 ·rw [if_pos h] at h1 ⊢
  cases e:valN (eR D k n) k' with
  | none=>rw [e] at h1;cases h1
  | some x =>
   rw [e] at h1;have h1:some (V.int ((n:Nat):Int))=some (V.int ((x:Nat):Int)):=h1;injection h1 with h1;injection h1 with h1;congr 1;omega
 ·rw [if_neg h] at h1 ⊢
  cases e:valN (eR D k n) k' with
  | none =>
   rw [e] at h1
   cases e2:valN D k' with
   | none=>rfl
   | some y=>rw [e2] at h1;cases h1
  | some x =>
   rw [e] at h1
   cases e2:valN D k' with
   | none=>rw [e2] at h1;cases h1
   | some y =>
    rw [e2] at h1;have h1:some (V.int ((y:Nat):Int))=some (V.int ((x:Nat):Int)):=h1;injection h1 with h1;injection h1 with h1;congr 1;omega
theorem C4 {D:Dm} {k:List ae} {n:Nat} {q:List ae × Nat} (h:q∈eR D k n):q∈D∨q=(k,n):=by
 unfold eR at h;split at h
 ·obtain ⟨p,hp,rfl⟩:=QT h;by_cases e:p.1=k
  ·rw [if_pos e];exact .inr rfl
  ·rw [if_neg e];exact .inl hp
 ·rcases QK h with h | h
  ·exact .inl h
  ·exact .inr (by simpa using h)
theorem C5 {D:Dm} {k:List ae} {n:Nat} (h:(D.map (·.1)).Nodup):((eR D k n).map (·.1)).Nodup:=by
 unfold eR;split
 ·have e:(D.map fun q=>if q.1=k then (k,n) else q).map (·.1)=D.map (·.1):=by rw [List.map_map];refine List.map_congr_left fun q _=>?_;show (if q.1=k then (k,n) else q).1=q.1;by_cases h:q.1=k<;>simp [h]
  rw [e];exact h
 ·rename_i hn;rw [QU];refine List.nodup_append.mpr ⟨h,by simp,fun a ha b hb e=>hn ?_⟩;obtain ⟨q,hq,rfl⟩:=QT ha;have hb:b=k:=by simpa using hb
  exact List.any_eq_true.mpr ⟨q,hq,Qs (by rw [e,hb])⟩
abbrev bQ:=Nat->Nat->Str->Prop
structure cL (D:Dm) (fs:bQ):Prop where
 nd:(D.map (·.1)).Nodup
 ok:∀ q∈D,aY q.2/\q.1∈mS
 bit:∀ r w s,((valN D (kk r w)).getD 0).testBit s=true↔fs s r w
theorem cL.len {D:Dm} {fs:bQ} (h:cL D fs):D.length<=1000:=by
 have:=vT (m:=mS) h.nd fun k hk=>by obtain ⟨q,hq,rfl⟩:=QT hk;exact (h.ok q hq).2
 rw [Qe] at this;exact Qq this (by decide +kernel)
def bj (m r:Nat) (fs:bQ) (ks:Nat->Str->Prop):bQ:=fun s r' w=>fs s r' w∨(m.testBit s=true/\r'=r/\ks s w)
theorem C6 (r:Nat) (fs:bQ) (ks:Nat->Str->Prop):bj 0 r fs ks=fs:=by funext s r' w;unfold bj;rw [Nat.zero_testBit];exact propext ⟨fun h=>h.elim id (fun z=>nomatch z.1),.inl⟩
theorem mU (m r:Nat) (fs:bQ):bj m r fs (fun _ _=>False)=fs:=by funext s r' w;exact propext ⟨fun h=>h.elim id (fun z=>z.2.2.elim),.inl⟩
theorem mV {m m2 r:Nat} {fs:bQ} {A B C:Nat->Str->Prop} (h:∀ s w,(m2.testBit s=true/\B s w)↔(m.testBit s=true/\C s w)):bj m2 r (bj m r fs A) B=bj m r fs fun s w=>A s w∨C s w:=by
 funext s r' w;have q:=h s w;refine propext ⟨?_,?_⟩
 ·rintro ((h | ⟨a,b,c⟩) | ⟨a,b,c⟩)
  ·exact .inl h
  ·exact .inr ⟨a,b,.inl c⟩
  ·obtain ⟨a2,c2⟩:=q.mp ⟨a,c⟩;exact .inr ⟨a2,b,.inr c2⟩
 ·rintro (h | ⟨a,b,c | c⟩)
  ·exact .inl (.inl h)
  ·exact .inl (.inr ⟨a,b,c⟩)
  ·obtain ⟨a2,c2⟩:=q.mpr ⟨a,c⟩;exact .inr ⟨a2,b,c2⟩
theorem cL.note {D:Dm} {fs:bQ} (h:cL D fs) {m r:Nat} {w:Str} (h0:m≠0) (hm:m<256) (hr:r<200) (hw:w∈mR):cL (eR D (kk r w) (((valN D (kk r w)).getD 0) ||| m)) (bj m r fs fun _ x=>x=w):=by
 have Fl:(valN D (kk r w)).getD 0<256:=by
  unfold valN
  cases e:D.find? fun q=>decide (q.1=kk r w) with
  | none=>decide
  | some q=>exact (h.ok q (List.mem_of_find?_eq_some e)).1.2
 refine ⟨C5 h.nd,fun q hq=>?_,fun r' w' s=>?_⟩
 ·rcases C4 hq with hq | hq
  ·exact h.ok q hq
  ·rw [hq];refine ⟨⟨Nat.pos_of_ne_zero fun z=>h0 ?_,qo Fl hm⟩,C1 hr hw⟩;exact (Nat.or_eq_zero_iff.mp z).2
 ·rw [C3];by_cases e:kk r' w'=kk r w
  ·obtain ⟨rfl,rfl⟩:=C0 e;rw [if_pos rfl];show (((valN D (kk r' w')).getD 0) ||| m).testBit s=true↔_;rw [Nat.testBit_or,Bool.or_eq_true,h.bit];exact or_congr Iff.rfl ⟨fun z=>⟨z,rfl,rfl⟩,fun z=>z.1⟩
  ·rw [if_neg e,h.bit];exact ⟨.inl,fun z=>z.elim id fun hsl81=>by obtain ⟨_,a,b⟩:=hsl81;exact (e (by rw [a,b])).elim⟩
structure bv (H:Hp) (C o dx d2:Addr) (F:List (List ae × V)) (fs:bQ):Prop where
 ins:∃ d1,H o=some (.ins C dx [("firsts",.ref d1),("faults",.ref d2)])/\H d1=some (.dT F)/\d1≠d2
 flt:∃ D,H d2=some (.dT (dV D))/\cL D fs
theorem bv.same {H H':Hp} {C o dx d2:Addr} {F:List (List ae × V)} {fs:bQ} (h:bv H C o dx d2 F fs) (s:Same H H'):bv H' C o dx d2 F fs:=by obtain ⟨⟨d1,h1,h3,h4⟩,D,h2,h5⟩:=h;exact ⟨⟨d1,s _ _ h1,s _ _ h3,h4⟩,D,s _ _ h2,h5⟩
inductive vV (C:Addr) (vs:List V) (H:Hp) (Q:VK) (E:XK):Prop
 | mk:∀ (o dx d2:Addr) (F:List (List ae × V)) (fs:bQ) (m r:Nat) (z:Str),vs=[.ref o,.int ((m:Nat):Int),.int ((r:Nat):Int),.str z]->bv H C o dx d2 F fs->m<256->r<200->z∈mR->(∀ H',bH H H'->bv H' C o dx d2 F (bj m r fs fun _ x=>x=z)->Q .non H')->vV C vs H Q E
noncomputable abbrev C7:List Str:=["self","mask","at","what"]
theorem vW:aT C7 ["self","mask","at","what"] (aI pW):=by decide +kernel
theorem kK (T:All P w K mg AA DD):aB P w K mg base aE 2 AA.Zm DD.Zm ["self","mask","at","what"] (vV AA.c_KindLook):=by
 have GD:=Cu (base:=base) T;refine T.z_Zm.F.ok vW (fun vs H Q E h=>by cases h;subst_vars;rfl) fun Fk A outer s H vs Q E hr h=>?_;obtain ⟨o,dx,d2,F,fs,m,r,z,rfl,hk,hm,Fm,hz,k⟩:=h;have nd:=vW.nd;have Fw:ar 1 _:=hr;refine ⟨_,(aj (bO (ao GD Fw rfl T.z_ZY (aa (lu (pv 0) rfl) (aa (aF (aa (pv 2) (aa (pv 3) ab))) (aa (pv 1) ab)))) (by rfl))),?_⟩;obtain ⟨d1,hi,_⟩:=hk.ins;refine ⟨_,rfl,o,AA.c_KindLook,dx,_,_,rfl,hi,T.cl_KindLook,T.na_KindLook_faults,rfl,?_⟩;refine ⟨_,rfl,_,rfl,aM,fun t ht=>?_⟩;have s1:=ag (o:=.tup [.int ((r:Nat):Int),.str z]) ht;have Fo:=hk.same s1;have e1:upd H t (.tup [.int ((r:Nat):Int),.str z]) t=some (.tup ((kk r z).map kV)):=af;generalize upd H t (.tup [.int ((r:Nat):Int),.str z])=H1 at s1 Fo e1 ⊢;obtain ⟨⟨d1',g1,g2,g3⟩,D,hD,Hz⟩:=Fo;refine ⟨_,rfl,d2,.ref t,m,rfl,.inr ⟨_,.inl hD⟩,?_⟩;by_cases h0:m=0
 ·subst h0;rw [C6] at k;exact .inl ⟨rfl,k _ (bV s1) ⟨⟨d1',g1,g2,g3⟩,D,hD,Hz⟩⟩
 ·have hDl:=Hz.len;refine .inr ⟨h0,_,(valN D (kk r z)).getD 0,_,bz.t hD e1,?_,cG.t hD e1 ?_,?_⟩
  ·rw [mT]
   cases valN D (kk r z) with
   | none=>exact .inl ⟨rfl,rfl⟩
   | some n=>exact .inr rfl
  ·unfold dV;rw [Qe];exact lw hDl
  ·rw [vU];refine k _ ((bV s1).trans ⟨ky hD (fun _ z=>nomatch z) (fun _ z=>nomatch z) (fun _ _ z=>nomatch z),fun a kv e=>by rw [ay (fun z=>by rw [z,hD] at e;cases e)];exact e⟩) ⟨⟨d1',?_,?_,g3⟩,_,af,Hz.note h0 hm Fm hz⟩
   ·rw [ay (fun z=>by rw [z,hD] at g1;cases g1)];exact g1
   ·rw [ay g3];exact g2
noncomputable def mW:List (Str × Str):=[("num","num"),("truth","truth"),("+","num"),("-","num"),("*","num"),("less","truth"),("same","truth"),("and","truth"),("or","truth"),("not","truth")]
noncomputable def kL:List (Str × Str):=[("+","num"),("-","num"),("*","num"),("less","num"),("same","num"),("and","truth"),("or","truth"),("not","truth")]
noncomputable def eS:Ex->Str
 | .num _=>"num"
 | .truth _=>"truth"
 | .not _=>"not"
 | .op w _ _=>w
 | _=>"num"
noncomputable def fD (e:Ex):Str:=(mW.lookup (eS e)).getD "num"
noncomputable def fE (e:Ex):Str:=(kL.lookup (eS e)).getD "truth"
theorem C8:∀ z∈ij,(mW.lookup z).isSome=true/\(kL.lookup z).isSome=true/\z≠"name"/\z≠"do"/\z≠"new"/\z≠"of":=by decide +kernel
theorem qt:∀ z∈(["num","truth","not"]:List Str),(mW.lookup z).isSome=true/\z≠"name"/\z≠"do"/\z≠"new"/\z≠"of":=by decide +kernel
theorem C9:kL.lookup ("not":Str)=some "truth":=by decide +kernel
theorem Da {H:Hp} {v:V} {e:Ex} (h:aS H v e) (hp:e.bas) (hn:∀ z,e≠.name z):∃ (t:Addr) (ys:List V),v=.ref t/\H t=some (.tup (.str (eS e)::ys))/\eS e≠"name"/\eS e≠"do"/\eS e≠"new"/\eS e≠"of"/\mW.lookup (eS e)=some (fD e)/\(e.kids≠[]->kL.lookup (eS e)=some (fE e)):=by
 have g:∀ {l:List (Str × Str)} {z d:Str},(l.lookup z).isSome=true->l.lookup z=some ((l.lookup z).getD d):=fun {l z d} hs=>by
  cases h:l.lookup z with
  | none=>rw [h] at hs;cases hs
  | some x=>rfl
 cases h with
 | num h =>
  obtain ⟨m1,n1,n2,n3,n4⟩:=qt "num" (by simp);exact ⟨_,_,rfl,h,n1,n2,n3,n4,g m1,fun z=>absurd rfl z⟩
 | truth h =>
  obtain ⟨m1,n1,n2,n3,n4⟩:=qt "truth" (by simp);exact ⟨_,_,rfl,h,n1,n2,n3,n4,g m1,fun z=>absurd rfl z⟩
 | name h=>exact (hn _ rfl).elim
 | not h a =>
  obtain ⟨m1,n1,n2,n3,n4⟩:=qt "not" (by simp);exact ⟨_,_,rfl,h,n1,n2,n3,n4,g m1,fun _=>g (by show (kL.lookup ("not":Str)).isSome=true;rw [C9];rfl)⟩
 | op h a b =>
  obtain ⟨m1,m2,n1,n2,n3,n4⟩:=C8 _ hp.1;exact ⟨_,_,rfl,h,n1,n2,n3,n4,g m1,fun _=>g m2⟩
 | of h a=>exact hp.elim
 | many h l a=>exact hp.elim
theorem Db {e:Ex} (h:e.good) (hm:∀ w z es,e≠.many w z es) (ho:∀ n x,e≠.of n x):e.bas:=by
 cases e with
 | op w a b=>exact ⟨h.1,trivial⟩
 | of n e=>exact (ho _ _ rfl).elim
 | many w z es=>exact (hm _ _ _ rfl).elim
 | _=>trivial
abbrev Env:=Str->Option Kd
def fZ (H:Hp) (o:Option V) (f:Nat->Option Kd):Prop:=∃ ps,Rp ps f/\((o=none/\ps=[])∨∃ p,o=some (.ref p)/\KM H p ps)
def cv (H:Hp) (d:Addr) (ρ:Nat->Env) (n:Nat):Prop:=∃ Fe:List (ae × V),H d=some (.dK Fe)/\Fe.length<=n/\∀ z:Str,fZ H (a9 Fe (.inr z)) fun s=>ρ s z
theorem fZ.kept {H H':Hp} {o:Option V} {f:Nat->Option Kd} (h:fZ H o f) (s:bo H H'):fZ H' o f:=by obtain ⟨ps,a,b⟩:=h;exact ⟨ps,a,b.imp_right fun hsl82=>by obtain ⟨p,c,e⟩:=hsl82;exact ⟨p,c,e.kept s⟩⟩
theorem cv.kept {H H':Hp} {d:Addr} {ρ:Nat->Env} {n:Nat} (h:cv H d ρ n) (s:bH H H'):cv H' d ρ n:=by obtain ⟨Fe,a,b,c⟩:=h;exact ⟨Fe,s.dk _ _ a,b,fun z=>(c z).kept s.ls⟩
theorem fZ.get {H:Hp} {o:Option V} {f:Nat->Option Kd} (h:fZ H o f) {q:Addr} (hq:H q=some (.lst [])):∃ l ps,o.getD (.ref q)=.ref l/\KM H l ps/\Rp ps f:=by
 obtain ⟨ps,hf,⟨e1,e2⟩ | ⟨p,e1,e2⟩⟩:=h
 ·subst e2;exact ⟨q,[],by rw [e1];rfl,bu.nil hq,hf⟩
 ·exact ⟨p,ps,by rw [e1];rfl,e2,hf⟩
noncomputable def _root_.Mm.Tr.knd:Tr->Str
 | .df _ _ _ k _ _=>k
 | _=>""
noncomputable def dU (w:Str):Str:=if w="do" then "def" else "kind"
theorem qu:dU "do"="def":=if_pos rfl
theorem qw:dU "new"="kind":=if_neg (by decide)
noncomputable def cW (ps:List (Str × Str)) (n:Str):Option Str:=ps.foldl (fun o p=>if p.1=n then some p.2 else o) none
noncomputable def jv (ts:List Tr) (k:Kd) (n:Str):Kd:=match k with
 | none=>none
 | some k=>match cm ("kind",k) ts with
  | none=>none
  | some t=>cW t.prs n
noncomputable def cM (ts:List Tr) (ρ:Env):Ex->Option Kd
 | .name z=>ρ z
 | .many w z _=>(cm (dU w,z) ts).map fun t=>some (if w="do" then t.knd else z)
 | .of n e=>(cM ts ρ e).map fun k=>jv ts k n
 | .num n=>some (some (fD (.num n)))
 | .truth n=>some (some (fD (.truth n)))
 | .not e=>some (some (fD (.not e)))
 | .op w a b=>some (some (fD (.op w a b)))
def kM (o:Option Kd) (Gx w:Str):Prop:=w="kind"/\fY (some Gx) o=true
def f6 (ts:List Tr) (o:Option Kd) (n w:Str):Prop:=w="field"/\∃ k,o=some (some k)/\jv ts (some k) n=none
mutual
def cg (ts:List Tr) (ρ:Env):Ex->Str->Prop
 | .not e,w=>cg ts ρ e w∨kM (cM ts ρ e) (fE (.not e)) w
 | .op x a b,w=>(cg ts ρ a w∨kM (cM ts ρ a) (fE (.op x a b)) w)∨(cg ts ρ b w∨kM (cM ts ρ b) (fE (.op x a b)) w)
 | .many x z es,w=>∃ t,cm (dU x,z) ts=some t/\exZ ts ρ es t.prs w
 | .of n e,w=>cg ts ρ e w∨f6 ts (cM ts ρ e) n w
 | .num _,_=>False
 | .truth _,_=>False
 | .name _,_=>False
def exZ (ts:List Tr) (ρ:Env):List Ex->List (Str × Str)->Str->Prop
 | e::es,q::qs,w=>(cg ts ρ e w∨kM (cM ts ρ e) q.2 w)∨exZ ts ρ es qs w
 | _,_,_=>False
end
def fF (ts:List Tr) (ρ:Env) (Gx:Str) (e:Ex) (w:Str):Prop:=cg ts ρ e w∨kM (cM ts ρ e) Gx w
theorem Dc (ts:List Tr) (ρ:Env) {e:Ex} (h:e.bas) (w:Str):cg ts ρ e w↔∃ c∈e.kids,fF ts ρ (fE e) c w:=by
 cases e with
 | of n e=>exact h.elim
 | many w n es=>exact h.elim
 | _=>simp [cg,Ex.kids,fF]
theorem qx (ts:List Tr) (ρ:Env) (w:Str):∀ (es:List Ex) (qs:List (Str × Str)),exZ ts ρ es qs w↔∃ x∈es.zip qs,fF ts ρ x.2.2 x.1 w
 | [],qs=>by simp [exZ]
 | e::es,[]=>by simp [exZ]
 | e::es,q::qs=>by rw [exZ,qx ts ρ w es qs];simp [fF]
theorem Dd {α:Type} {l:List α} {i:Nat} {c:α} (h:l[i]?=some c) (P:α->Prop):(∃ x∈l.take (i+1),P x)↔(∃ x∈l.take i,P x)∨P c:=by
 obtain ⟨hi,e⟩:=Qh h;rw [Qi hi,e];constructor
 ·rintro ⟨x,hx,p⟩;rcases QK hx with hx | hx
  ·exact .inl ⟨x,hx,p⟩
  ·rw [QL hx] at p;exact .inr p
 ·rintro (⟨x,hx,p⟩ | p)
  ·exact ⟨x,by simp [hx],p⟩
  ·exact ⟨c,by simp,p⟩
theorem jw {α:Type} {m m2 r:Nat} {fs:bQ} {l:List α} {i:Nat} {c:α} (h:l[i]?=some c) {A:Nat->α->Str->Prop} {B:Nat->Str->Prop} (hb:∀ s w,(m2.testBit s=true/\B s w)↔(m.testBit s=true/\A s c w)):bj m2 r (bj m r fs fun s w=>∃ x∈l.take i,A s x w) B=bj m r fs fun s w=>∃ x∈l.take (i+1),A s x w:=by rw [mV hb];congr 1;funext s w;exact (propext (Dd h fun x=>A s x w)).symm
theorem kN {α:Type} {m r:Nat} {fs:bQ} {l:List α} {A:Nat->α->Str->Prop}:(bj m r fs fun s w=>∃ x∈l.take 0,A s x w)=fs:=by
 have e:(fun (s:Nat) (w:Str)=>∃ x∈l.take 0,A s x w)=fun _ _=>False:=by funext s w;exact propext ⟨fun hsl83=>by obtain ⟨x,hx,_⟩:=hsl83;simp at hx,False.elim⟩
 rw [e,mU]
noncomputable def bE {α:Type} (m:Nat) (f:Nat->Option α):Nat->Option α:=fun s=>if m.testBit s=true then f s else none
theorem mX {m m2:Nat} {f:Nat->Option Kd} {Gx:Kd} {x:Str} (h:∀ s,m2.testBit s=fY Gx (bE m f s)) (s:Nat) (w:Str):(m2.testBit s=true/\w=x)↔(m.testBit s=true/\w=x/\fY Gx (f s)=true):=by
 rw [h];unfold bE;by_cases hm:m.testBit s=true
 ·rw [if_pos hm];exact ⟨fun z=>⟨hm,z.2,z.1⟩,fun z=>⟨z.2.2,z.2.1⟩⟩
 ·rw [if_neg hm];exact ⟨(fun z=>nomatch z.1),fun z=>absurd z.1 hm⟩
inductive iw (C:Addr) (k:Nat) (vs:List V) (H:Hp) (Q:VK) (E:XK):Prop
 | mk:∀ (o dx d2:Addr) (F:List (List ae × V)) (tt:Nat->List Tr) (fs:bQ) (v:V) (d3:Addr) (ρ:Nat->Env) (n:Nat) (e:Ex) (m r:Nat),vs=[.ref o,.int ((m:Nat):Int),v,.int ((r:Nat):Int),.ref d3]->aS H v e->e.good->cv H d3 ρ n->dS H F tt->e.deep<k->bv H C o dx d2 F fs->aY m->r<200->(∀ p ps H',bH H H'->bv H' C o dx d2 F (bj m r fs fun s=>cg (tt s) (ρ s) e)->KM H' p ps->Rp ps (bE m fun s=>cM (tt s) (ρ s) e)->Q (.ref p) H')->iw C k vs H Q E
inductive mY (C:Addr) (k:Nat) (vs:List V) (H:Hp) (Q:VK) (E:XK):Prop
 | mk:∀ (o dx d2:Addr) (F:List (List ae × V)) (tt:Nat->List Tr) (fs:bQ) (v:V) (d3:Addr) (ρ:Nat->Env) (n:Nat) (e:Ex) (m r:Nat) (Gx:Str),vs=[.ref o,.int ((m:Nat):Int),v,.str Gx,.int ((r:Nat):Int),.ref d3]->aS H v e->e.good->cv H d3 ρ n->dS H F tt->e.deep<k->bv H C o dx d2 F fs->aY m->r<200->(∀ H',bH H H'->bv H' C o dx d2 F (bj m r fs fun s=>fF (tt s) (ρ s) Gx e)->Q .non H')->mY C k vs H Q E
noncomputable abbrev De:List Str:=["self","mask","e","due","at","names"]
theorem vX:aT De ["self","mask","e","due","at","names"] (aI pZ):=by decide +kernel
theorem vY (T:All P w K mg AA DD) (k:Nat) (GKO:aB P w K mg base aE (3*k+3) AA.Zg DD.Zg ["self","mask","e","at","names"] (iw AA.c_KindLook k)) :
  aB P w K mg base aE (3*k+4) AA.Zp DD.Zp ["self","mask","e","due","at","names"] (mY AA.c_KindLook k):=by
 have GU:=qr (base:=base) T;have GO:=kK (base:=base) T;refine T.z_Zp.F.ok vX (fun vs H Q E h=>by cases h;subst_vars;rfl) fun Fk A outer s H vs Q E hr h=>?_;obtain ⟨o,dx,d2,F,tt,fs,v,d3,ρ,n,e,m,r,Gx,rfl,hE,hp,hn,hF,hd,hk,hm,Gj,k'⟩:=h;have nd:=vX.nd;have hrK:ar (3*k+3) _:=hr;have Fm:ar 2 _:=hrK.mono (by omega);refine ⟨_,(aj (bO (cy (pv 0) T.cl_KindLook T.M_Zm GO Fm T.z_Zm.b .nil cj (aa (ao GU Fm rfl T.z_Z3 (aa (cy (pv 0) T.cl_KindLook T.M_Zg GKO hrK T.z_Zg.b .nil cj (aa (pv 1) (aa (pv 2) (aa (pv 4) (aa (pv 5) ab))))) (aa (pv 3) ab))) (aa (pv 4) (aa ap ab)))) (by rfl))),?_⟩;obtain ⟨d1,hi,_⟩:=hk.ins;refine ⟨_,rfl,o,dx,_,rfl,hi,rfl,_,rfl,o,dx,_,rfl,hi,rfl,?_⟩;refine ⟨_,rfl,_,rfl,_,rfl,_,rfl,o,dx,d2,F,tt,fs,v,d3,ρ,n,e,m,r,rfl,hE,hp,hn,hF,hd,hk,hm,Gj,fun p ps H1 ls1 Fo hK1 hf1=>?_⟩;refine ⟨_,rfl,p,ps,_,some Gx,rfl,hK1,hf1,fun m2 H2 s2 hm2 G1=>⟨_,rfl,?_⟩⟩;refine ⟨o,dx,d2,F,_,m2,r,"kind",rfl,Fo.same s2,hm2,Gj,by decide,fun H3 ls3 Fg=>k' _ ((ls1.trans (bV s2)).trans ls3) ?_⟩;rw [mV (mX G1)] at Fg;exact Fg
structure dW (H:Hp) (p:Addr) (m:Nat) (k:Str × Str) (tt:Nat->List Tr) (us:List cK):Prop where
 at_:bu H p (cc us)
 ok:∀ q∈us,aY q.1/\bi H true q.2.1 q.2.2/\q.2.2.hd=some k
 fst:∀ s,(atS us s).map (fun x=>aA s x.2)=(bE m (fun s=>cm k (tt s)) s).toList
theorem dW.kept {H H':Hp} {p:Addr} {m:Nat} {k:Str × Str} {tt:Nat->List Tr} {us:List cK} (h:dW H p m k tt us) (s:bo H H'):dW H' p m k tt us:=⟨h.at_.kept s,fun q hq=>by obtain ⟨a,b,c⟩:=h.ok q hq;exact ⟨a,b.kept s,c⟩,h.fst⟩
theorem dW.len {H:Hp} {p:Addr} {m:Nat} {k:Str × Str} {tt:Nat->List Tr} {us:List cK} (h:dW H p m k tt us):us.length<=8:=mM (fun q hq=>(h.ok q hq).1) fun s=>by rw [<- Qe (f:=fun x:V × Tr=>aA s x.2),h.fst s];cases bE m (fun s=>cm k (tt s)) s<;>simp
theorem mZ {α:Type} {ps:List (Nat × α)} {s:Nat} {x:α}:x∈atS ps s↔∃ q∈ps,q.1.testBit s=true/\q.2=x:=by unfold atS;rw [List.mem_map];exact ⟨fun hsl84=>by obtain ⟨q,hq,e⟩:=hsl84;exact ⟨q,(List.mem_filter.mp hq).1,(List.mem_filter.mp hq).2,e⟩,fun hsl85=>by obtain ⟨q,hq,b,e⟩:=hsl85;exact ⟨q,List.mem_filter.mpr ⟨hq,b⟩,e⟩⟩
theorem dW.iff {H:Hp} {p:Addr} {m:Nat} {k:Str × Str} {tt:Nat->List Tr} {us:List cK} (h:dW H p m k tt us) {s:Nat} {P:List (Str × Str)->Prop}:(∃ q∈us,q.1.testBit s=true/\P q.2.2.prs)↔(m.testBit s=true/\∃ t,cm k (tt s)=some t/\P t.prs):=by
 have hf:=h.fst s;unfold bE at hf;constructor
 ·rintro ⟨q,hq,hb,hP⟩;have hx:aA s q.2.2∈(atS us s).map fun x=>aA s x.2:=List.mem_map.mpr ⟨q.2,mZ.mpr ⟨q,hq,hb,rfl⟩,rfl⟩;rw [hf] at hx;split at hx
  ·rename_i hm;exact ⟨hm,_,by simpa using hx,by rw [qp];exact hP⟩
  ·simp at hx
 ·rintro ⟨hm,t,ht,hP⟩;dsimp only at hf;rw [if_pos hm,ht] at hf;have hx:t∈(atS us s).map fun x=>aA s x.2:=by rw [hf];simp
  obtain ⟨x,hx,e⟩:=QT hx;obtain ⟨q,hq,hb,rfl⟩:=mZ.mp hx;exact ⟨q,hq,hb,by rw [<- e,qp] at hP;exact hP⟩
theorem dW.sub {H:Hp} {p:Addr} {m:Nat} {k:Str × Str} {tt:Nat->List Tr} {us:List cK} (h:dW H p m k tt us) {q:cK} (hq:q∈us) {s:Nat} (hb:q.1.testBit s=true):m.testBit s=true:=(h.iff (P:=fun _=>True) |>.mp ⟨q,hq,hb,trivial⟩).1
theorem vZ {H H2:Hp} {F:List (List ae × V)} {tt:Nat->List Tr} (hF:dS H F tt) (s:bo H H2) (k:Str × Str) {q:Addr} (hq:H2 q=some (.lst [])):∃ l ps,(a9 F (dE k)).getD (V.ref q)=.ref l/\bu H2 l (cc ps)/\(cc ps).length<=200/\∀ m p H3,Same H2 H3->bu H3 p (cb (cc ps) m)->dW H3 p m k tt (cb ps m):=by
 obtain ⟨ps,hK⟩:=hF k;have hK:=hK.kept s
 obtain ⟨l,el,hl⟩:∃ l,(a9 F (dE k)).getD (V.ref q)=.ref l/\bu H2 l (cc ps):=by
  rcases hK.at_ with ⟨e1,e2⟩ | ⟨p',e1,e2⟩
  ·exact ⟨q,by rw [e1];rfl,by rw [e2];exact bu.nil hq⟩
  ·exact ⟨p',by rw [e1];rfl,e2⟩
 refine ⟨l,ps,el,hl,by have:=hK.len;unfold cc;rw [Qe];omega,fun m p H3 s3 hp=>⟨?_,fun x hx=>?_,fun s=>?_⟩⟩
 ·rw [show cb (cc ps) m=cc (cb ps m) from vD (fun x:V × Tr=>x.1) ps m] at hp;exact hp
 ·refine ⟨mL (fun q hq=>(hK.ok q hq).1) x hx,?_⟩;obtain ⟨y,hy,e⟩:=List.mem_filterMap.mp hx;split at e
  ·cases e
  ·cases e;exact ⟨(hK.ok y hy).2.1.kept s3.ls,(hK.ok y hy).2.2⟩
 ·rw [kI];unfold bE;split
  ·exact hK.fst s
  ·rfl
inductive qy (C:Addr) (k:Nat) (vs:List V) (H:Hp) (Q:VK) (E:XK):Prop
 | mk:∀ (o dx d2:Addr) (F:List (List ae × V)) (tt:Nat->List Tr) (fs:bQ) (v:V) (d3:Addr) (ρ:Nat->Env) (n:Nat) (w z:Str) (es:List Ex) (m r:Nat),vs=[.ref o,.int ((m:Nat):Int),v,.str (dU w),.int ((r:Nat):Int),.ref d3]->aS H v (.many w z es)->km es->cv H d3 ρ n->dS H F tt->d9 es<k->bv H C o dx d2 F fs->aY m->r<200->(∀ p us H',bH H H'->bv H' C o dx d2 F (bj m r fs fun s=>cg (tt s) (ρ s) (.many w z es))->dW H' p m (dU w,z) tt us->Q (.ref p) H')->qy C k vs H Q E
noncomputable abbrev Df:List Str:=["self","mask","e","word","at","names","rows","here","one","inner","pair"]
theorem v0:aT Df ["self","mask","e","word","at","names"] (aI p6):=by decide +kernel
theorem Dh (T:All P w K mg AA DD) (k:Nat) (GAK:aB P w K mg base aE (3*k+4) AA.Zp DD.Zp ["self","mask","e","due","at","names"] (mY AA.c_KindLook k)) :
  aB P w K mg base aE (3*k+5) AA.Zc DD.Zc ["self","mask","e","word","at","names"] (qy AA.c_KindLook k):=by
 have GB:=kG (base:=base) T;have GPO:=CK (base:=base) T;refine T.z_Zc.F.ok v0 (fun vs H Q E h=>by cases h;subst_vars;rfl) fun Fk A outer s H vs Q E hr h=>?_;obtain ⟨o,dx,d2,F,tt,fs,v,d3,ρ,n,w,z,es,m,r,rfl,hE,hg,hn,hF,hd,hk,hm,Gj,kq⟩:=h;have nd:=v0.nd;have hrA:ar (3*k+4) _:=hr;have Fw:ar 1 _:=hrA.mono (by omega);have hu:=QD (Nat.add_le_add_left (show 1<=64 by decide) _) hr.units;refine ⟨_,(ai (aL (i:=6) nd rfl (Or.inl rfl) (ao GB Fw rfl T.z_Zs (aa (ja hu (lu (pv 0) rfl) (aF (aa (pv 3) (aa (aO (pv 2)) ab))) (bG ab) ⟨by rfl,by rfl,by rfl,by rfl⟩) (aa (pv 1) ab)))) (ai (cY PassesOwn.never rfl (cz (pv 6)) (c8 rfl (bm (a8 (i:=7) nd rfl (Or.inl rfl)) (bm (a8 (i:=8) nd rfl (Or.inl rfl)) cQ))) (aj (cY PassesOwn.never rfl (AI false rfl T.n_zip (aa (aO (pv 2)) (aa (ao GPO Fw rfl T.z_ZJ (aa (pv 8) ab)) ab))) (c8 rfl (bm (a8 (i:=9) nd rfl (Or.inl rfl)) (bm (a8 (i:=10) nd rfl (Or.inl rfl)) cQ))) (aj (bO (cy (pv 0) T.cl_KindLook T.M_Zp GAK hrA T.z_Zp.b .nil cj (aa (pv 7) (aa (pv 9) (aa (aO (pv 10)) (aa (pv 4) (aa (pv 5) ab)))))) (by rfl))) (by intro _;rfl))) (by intro _;rfl)) (aj (aH (pv 6))))),?_⟩
 cases hE with
 | @many t l _ _ vs _ ht hl hvs =>
 obtain ⟨d1,hi,Ib,Fq⟩:=hk.ins;refine ⟨_,rfl,o,AA.c_KindLook,dx,_,_,rfl,hi,T.cl_KindLook,T.na_KindLook_firsts,rfl,d1,rfl,.inr ⟨F,.inl Ib⟩,?_⟩;refine ⟨_,rfl,aP 1 rfl ht rfl ⟨aM,fun q hq=>⟨eZ,fun q2 FX=>?_⟩⟩⟩;have F6:=(ag (o:=.tup [.str (dU w),.str z]) hq).trans (ag (o:=.lst []) FX);have F9:upd (upd H q (.tup [.str (dU w),.str z])) q2 (.lst []) q=some (.tup ((dE (dU w,z)).map kV)):=ag FX _ _ af;refine ⟨_,bz.t (k:=dE (dU w,z)) (F6 _ _ Ib) F9,_,rfl,?_⟩;obtain ⟨l3,ps,el3,hl3,h200,GJ⟩:=vZ hF F6.ls (dU w,z) af;rw [el3];refine ⟨l3,cc ps,m,rfl,hl3,h200,fun p H3 s3 GV=>?_⟩;have hU:=GJ m p H3 s3 GV;have s13:=F6.trans s3;have Fg:=hk.same s13;have Hh:=s13 _ _ ht;have hl3':=s13 _ _ hl;have hvs3:=hvs.kept s13.ls.1;have GZ:=hn.kept (bV s13);have hF3:=hF.kept s13.ls;have lk3:=bV s13;generalize cb ps m=us at hU;dsimp only [aK];obtain ⟨as,Ht,IY,Ig⟩:=hU.at_;have HU:as.length=us.length:=by rw [IY];exact Qe _
 have hu8:=hU.len;refine ⟨_,rfl,p,rfl,⟨_,ak.of Ht⟩,?_⟩;refine gD (K:=K0) (a:=p) (xs:=as.map V.ref) (fun i σ' H'=>bH H3 H'/\bv H' AA.c_KindLook o dx d2 F (bj m r fs fun s w=>∃ q∈us.take i,q.1.testBit s=true/\exZ (tt s) (ρ s) es q.2.2.prs w)/\∃ x7 x8 x9 x10,σ'=[some (.ref o),some (.int ((m:Nat):Int)),some (.ref t),some (.str (dU w)),some (.int ((r:Nat):Int)),some (.ref d3),some (.ref p),x7,x8,x9,x10]) ⟨bH.refl _,by rw [kN];exact Fg,_,_,_,_,rfl⟩ (fun i σ' H' _ h=>ak.of (h.1.ls.2 _ _ Ht)) ?_ ?_
 ·rintro i x σ' H4 hx ⟨l4,Fn,x7,x8,x9,x10,rfl⟩ E1 hN;obtain ⟨IF,ex⟩:=gE hx;subst ex;have hiu:i<us.length:=by omega
  obtain ⟨hokq,hSq,hhd⟩:=hU.ok us[i] (QB hiu);have Gn:∀ {s},us[i].1.testBit s=true->m.testBit s=true:=fun h=>hU.sub (QB hiu) h;have hui:us[i]?=some us[i]:=Qa hiu;have Jr:=l4.ls.1 _ _ (Ig i as[i] (us[i].1,us[i].2.1) (Qa IF) (by unfold cc;rw [Qu,hui];rfl));generalize us[i]=q at hokq hSq hhd Gn hui Jr;obtain ⟨m2,y,t'⟩:=q;have hSy:=hSq.kept l4.ls;refine ⟨as[i],_,rfl,au.of Jr,rfl,_,_,rfl,_,_,rfl,rfl,?_⟩;refine aP 2 rfl (l4.ls.1 _ _ Hh) rfl ⟨_,rfl,?_⟩;refine ⟨y,t',rfl,hSy,by rw [hhd];simp,fun xp hxp=>?_⟩;obtain ⟨tpp,uu,rfl,htpp,huul,huat⟩:=hxp;refine ⟨l,tpp,vs,uu.map V.ref,rfl,au.of (l4.ls.1 _ _ hl3'),au.of htpp,?_⟩;have hvs4:=hvs3.kept l4.ls.1;have hvl:=hvs4.len;generalize hfs4:(bj m r fs fun s w=>∃ q∈us.take i,q.1.testBit s=true/\exZ (tt s) (ρ s) es q.2.2.prs w)=fs4 at Fn;refine AJ (K:=K) (a:=l) (b:=tpp) (xs:=vs) (ys:=uu.map V.ref) (fun j σ' H'=>bH H4 H'/\bv H' AA.c_KindLook o dx d2 F (bj m2 r fs4 fun s w=>∃ x∈(es.zip t'.prs).take j,fF (tt s) (ρ s) x.2.2 x.1 w)/\∃ x9 x10,σ'=[some (.ref o),some (.int ((m:Nat):Int)),some (.ref t),some (.str (dU w)),some (.int ((r:Nat):Int)),some (.ref d3),some (.ref p),some (.int ((m2:Nat):Int)),some y,x9,x10]) ⟨bH.refl _,by rw [kN];exact Fn,_,_,rfl⟩ (fun j σ' H' h=>⟨au.of (h.1.ls.1 _ _ (l4.ls.1 _ _ hl3')),au.of (h.1.ls.1 _ _ htpp)⟩) ?_ ?_
  ·rintro j x y2 σ' H5 tt5 hx5 hy5 ⟨l5,G7,x9,x10,rfl⟩ htt;obtain ⟨c,hc,hcx⟩:=hvs4.get hx5;rw [Qu] at hy5;obtain ⟨u5,hu5,rfl⟩:=Option.map_eq_some_iff.mp hy5;have hju:=(Qh hu5).1;have hjp:j<t'.prs.length:=by omega
   have hq5:t'.prs[j]?=some t'.prs[j]:=Qa hjp;have htu:=huat j u5 t'.prs[j] hu5 hq5;have hzc:(es.zip t'.prs)[j]?=some (c,t'.prs[j]):=by rw [List.getElem?_zip_eq_some];exact ⟨hc,hq5⟩
   have s6:=ag (o:=.tup [x,.ref u5]) htt;have l6:=l5.trans (bV s6);have l46:=l4.trans l6;have IU:=G7.same s6;obtain ⟨d1',hi6,_⟩:=IU.ins;refine ⟨tt5,_,rfl,au.of af,rfl,_,_,rfl,_,_,rfl,rfl,?_⟩;have hcm:c∈es:=Qz hc;refine ⟨_,rfl,o,dx,_,rfl,hi6,rfl,_,rfl,_,rfl,aP 1 rfl (l6.ls.1 _ _ htu) rfl ⟨_,rfl,_,rfl,?_⟩⟩;refine ⟨o,dx,d2,F,tt,_,x,d3,ρ,n,c,m2,r,t'.prs[j].2,rfl,hcx.kept l6.ls.1,uh hg hcm,GZ.kept l46,hF3.kept l46.ls,by have:=ug hcm;omega,IU,hokq,Gj,fun H7 l7 hk7=>?_⟩;rw [jw hzc (A:=fun s x w=>fF (tt s) (ρ s) x.2.2 x.1 w) fun s w=>Iff.rfl] at hk7;exact ⟨l6.trans l7,hk7,_,_,rfl⟩
  ·rintro σ' H5 ⟨l5,G7,x9,x10,rfl⟩;rw [Qe,Qo (by rw [List.length_zip];omega),<- hfs4] at G7;refine hN _ _ ⟨l4.trans l5,?_,_,_,_,_,rfl⟩;rw [jw hui (A:=fun s q w=>q.1.testBit s=true/\exZ (tt s) (ρ s) es q.2.2.prs w) fun s w=>⟨fun hsl86=>by obtain ⟨a,b⟩:=hsl86;exact ⟨Gn a,a,(qx _ _ _ _ _).mpr b⟩,fun hsl87=>by obtain ⟨_,a,b⟩:=hsl87;exact ⟨a,(qx _ _ _ _ _).mp b⟩⟩] at G7;exact G7
 ·rintro σ' H4 ⟨l4,Fn,x7,x8,x9,x10,rfl⟩;rw [Qe,HU,List.take_length] at Fn
  have hfin:(bj m r fs fun s w=>∃ q∈us,q.1.testBit s=true/\exZ (tt s) (ρ s) es q.2.2.prs w)=bj m r fs fun s=>cg (tt s) (ρ s) (.many w z es):=by
   funext s r' w';refine propext (or_congr Iff.rfl ⟨fun ⟨a,b,c⟩=>⟨a,b,?_⟩,fun ⟨a,b,c⟩=>⟨a,b,?_⟩⟩)
   ·show cg (tt s) (ρ s) (.many w z es) w';rw [cg];exact (hU.iff (P:=fun qs=>exZ (tt s) (ρ s) es qs w') |>.mp c).2
   ·have c:cg (tt s) (ρ s) (.many w z es) w':=c;rw [cg] at c;exact (hU.iff (P:=fun qs=>exZ (tt s) (ρ s) es qs w')).mpr ⟨a,c⟩
  rw [hfin] at Fn;exact ⟨_,rfl,kq p us H4 (lk3.trans l4) Fn (hU.kept l4.ls)⟩
noncomputable def m4 (ps:List (Str × Str)):List (ae × V):=d7 (ps.map fun p=>(Sum.inr p.1,V.str p.2))
theorem v3 (ps:List (Str × Str)) (n:Str):a9 (m4 ps) (.inr n)=(cW ps n).map V.str:=by
 have go:∀ (ps:List (Str × Str)) (kv:List (ae × V)) (o:Option Str),a9 kv (.inr n)=o.map V.str->a9 ((ps.map fun p=>((Sum.inr p.1:ae),V.str p.2)).foldl (fun q p=>ba q p.1 p.2) kv) (.inr n)=(ps.foldl (fun o p=>if p.1=n then some p.2 else o) o).map V.str:=by
  intro ps
  induction ps with
  | nil=>exact fun kv o h=>h
  | cons p ps ih =>
   intro kv o h;refine ih _ _ ?_;rw [j4];show (if (Sum.inr n:ae)=Sum.inr p.1 then some (V.str p.2) else a9 kv (.inr n))=(if p.1=n then some p.2 else o).map V.str;by_cases hp:p.1=n
   ·rw [if_pos (by rw [hp]),if_pos hp];rfl
   ·rw [if_neg (fun z=>hp (Sum.inr.inj z).symm),if_neg hp];exact h
 exact go ps [] none rfl
noncomputable def gG (g:Tr->Option Kd) (us:List cK):cf:=us.filterMap fun q=>(g q.2.2).map fun k=>(q.1,k)
theorem v4 (g:Tr->Option Kd) (s:Nat):∀ us:List cK,atS (gG g us) s=(atS us s).filterMap fun x=>g x.2
 | []=>rfl
 | q::us=>by
  have e:gG g (q::us)=(match g q.2.2 with | none=>[] | some k=>[(q.1,k)])++gG g us:=by unfold gG;rw [List.filterMap_cons];cases g q.2.2<;>rfl
  rw [e,gF,v4 g s us,kH,List.filterMap_append];congr 1
  cases hg:g q.2.2 with
  | none=>by_cases hb:q.1.testBit s=true<;>simp [hb,hg,mK]
  | some k=>rw [iu];by_cases hb:q.1.testBit s=true<;>simp [hb,hg]
theorem dW.kinds {H:Hp} {p:Addr} {m:Nat} {k:Str × Str} {tt:Nat->List Tr} {us:List cK} (h:dW H p m k tt us) (g:Tr->Option Kd) (hg:∀ s t,g (aA s t)=g t):Rp (gG g us) (bE m fun s=>(cm k (tt s)).bind g):=by
 refine ⟨fun q hq=>?_,fun s=>?_⟩
 ·obtain ⟨x,hx,e⟩:=List.mem_filterMap.mp hq;obtain ⟨kd,_,rfl⟩:=Option.map_eq_some_iff.mp e;exact (h.ok x hx).1
 ·have hf:=h.fst s;rw [v4];have e:((atS us s).filterMap fun x=>g x.2)=((atS us s).map fun x=>aA s x.2).filterMap g:=by rw [List.filterMap_map];congr 1;funext x;exact (hg s x.2).symm
  rw [e,hf];unfold bE;by_cases hm:m.testBit s=true
  ·rw [if_pos hm,if_pos hm];dsimp only
   cases cm k (tt s) with
   | none=>rfl
   | some t=>show [t].filterMap g=(g t).toList;cases hgt:g t<;>simp [hgt]
  ·rw [if_neg hm,if_neg hm];rfl
theorem qz (g:Tr->Option Kd) (us:List cK):us.filterMap (fun q=>(g q.2.2).map fun k=>(q.1,bM k))=kv (gG g us):=by unfold kv gG;rw [List.map_filterMap];congr 1;funext q;cases g q.2.2<;>rfl
theorem Di (s:Nat) (t:Tr):(aA s t).knd=t.knd:=by cases t<;>simp [aA,Tr.knd]
theorem Dj (o:Option Tr) (n:Str):(o.bind fun t=>(cW t.prs n).map some).toList++(if (true&&(match o with | none=>none | some t=>cW t.prs n:Kd).isNone)=true then [none] else [])=[(match o with | none=>none | some t=>cW t.prs n:Kd)]:=by
 cases o with
 | none=>rfl
 | some t=>show ((cW t.prs n).map some).toList++(if (true&&(cW t.prs n).isNone)=true then [none] else [])=[cW t.prs n];cases cW t.prs n<;>rfl
inductive v5 (C:Addr) (vs:List V) (H:Hp) (Q:VK) (E:XK):Prop
 | mk:∀ (o dx d2:Addr) (F:List (List ae × V)) (tt:Nat->List Tr) (fs:bQ) (k:Kd) (n:Str) (m r:Nat),vs=[.ref o,.int ((m:Nat):Int),bM k,.str n,.int ((r:Nat):Int)]->dS H F tt->bv H C o dx d2 F fs->aY m->r<200->(∀ p ps H',bH H H'->bv H' C o dx d2 F (bj m r fs fun s=>f6 (tt s) (some k) n)->KM H' p ps->Rp ps (bE m fun s=>some (jv (tt s) k n))->Q (.ref p) H')->v5 C vs H Q E
noncomputable abbrev v6:List Str:=["self","mask","kind","field","at","rows","kinds","missing"]
theorem v7:aT v6 ["self","mask","kind","field","at"] (aI mE):=by decide +kernel
theorem Dk (T:All P w K mg AA DD):aB P w K mg base aE 3 AA.Za DD.Za ["self","mask","kind","field","at"] (v5 AA.c_KindLook):=by
 have GB:=kG (base:=base) T;have GA:=kF (base:=base) T;have GN:=kA (base:=base) T;have GO:=kK (base:=base) T;refine T.z_Za.F.ok v7 (fun vs H Q E h=>by cases h;subst_vars;rfl) fun Fk A outer s H vs Q E hr h=>?_;obtain ⟨o,dx,d2,F,tt,fs,k,n,m,r,rfl,hF,hk,hm,Gj,kq⟩:=h;have nd:=v7.nd;have Fm:ar 2 _:=hr;have Fw:ar 1 _:=Fm.mono (by omega);have hu:=QD (Nat.add_le_add_left (show 1<=64 by decide) _) hr.units;refine ⟨_,(ai (aX (k9 (yw (pv 2))) (aj (aH (bG (aa (aF (aa (pv 1) (aa k8 ab))) ab)))) bb) (ai (aL (i:=5) nd rfl (Or.inl rfl) (ao GB Fw rfl T.z_Zs (aa (ja hu (lu (pv 0) rfl) (aF (aa ap (aa (pv 2) ab))) (bG ab) ⟨by rfl,by rfl,by rfl,by rfl⟩) (aa (pv 1) ab)))) (ai (sK (i:=6) (xs:=["here","one"]) (aI mE) v6 ["field"] [3] rfl (by decide +kernel) rfl rfl (cz (pv 5)) (fun _ _ _ _=>(c8 (n:=2) rfl (bm (a8 (i:=0) (show (["here","one","field"]:List Str).Nodup by decide +kernel) rfl (Or.inl rfl)) (bm (a8 (i:=1) (show (["here","one","field"]:List Str).Nodup by decide +kernel) rfl (Or.inl rfl)) cQ)))) (fun _ _ _ _=>hW (k9 (An hu (pv 2) (iO (oF false rfl) rfl T.n_dict oC (aa (aO (pv 1)) ab))))) (fun _ _ _ _=>(aF (aa (pv 0) (aa (cT hu (iO (oF false rfl) rfl T.n_dict oC (aa (aO (pv 1)) ab)) (pv 2) (fun _ _=>rfl)) ab)))) nd rfl rfl rfl) (ai (aL (i:=7) nd rfl (Or.inl rfl) (ao GN Fw rfl T.z_ZP (aa (pv 1) (aa (ao GA Fw rfl T.z_ZX (aa (pv 6) ab)) ab)))) (ai (bO (cy (pv 0) T.cl_KindLook T.M_Zm GO Fm T.z_Zm.b .nil cj (aa (pv 7) (aa (pv 4) (aa ap ab)))) (by rfl)) (aj (aH (am n6 (pv 6) (ao GB Fw rfl T.z_Zs (aa (bG (aa (aF (aa (pv 1) (aa k8 ab))) ab)) (aa (pv 7) ab))))))))))),?_⟩
 cases k with
 | none =>
  refine ⟨_,rfl,_,rfl,cu (by rw [Qs (show bM none=V.non from rfl)]) ?_⟩;refine ⟨_,rfl,aM,fun t ht=>⟨cO,fun p hp=>?_⟩⟩;have s1:=ag (o:=.tup [.int ((m:Nat):Int),.non]) ht;have s2:=ag (o:=.lst [.ref t]) hp;refine kq p [(m,none)] _ (bV (s1.trans s2)) ?_ (bu.one (q:=(m,bM none)) af (s2 _ _ af)) (Rp.one hm none);have e:(fun s=>f6 (tt s) (some none) n)=fun _ _=>False:=by funext s w;exact propext ⟨(fun hsl88=>by obtain ⟨_,k,e,_⟩:=hsl88;cases e),False.elim⟩
  rw [e,mU];exact hk.same (s1.trans s2)
 | some k =>
  refine ⟨_,rfl,_,rfl,bN (by rw [Qj (fun z=>by cases z)]) ?_⟩;obtain ⟨d1,hi,Ib,Fq⟩:=hk.ins;refine ⟨_,rfl,o,AA.c_KindLook,dx,_,_,rfl,hi,T.cl_KindLook,T.na_KindLook_firsts,rfl,d1,rfl,.inr ⟨F,.inl Ib⟩,?_⟩;refine ⟨_,rfl,aM,fun q hq=>⟨eZ,fun q2 FX=>?_⟩⟩;have F6:=(ag (o:=.tup [.str "kind",.str k]) hq).trans (ag (o:=.lst []) FX);have F9:upd (upd H q (.tup [.str "kind",.str k])) q2 (.lst []) q=some (.tup ((dE ("kind",k)).map kV)):=ag FX _ _ af;refine ⟨_,bz.t (k:=dE ("kind",k)) (F6 _ _ Ib) F9,_,rfl,?_⟩;obtain ⟨l3,ps,el3,hl3,h200,GJ⟩:=vZ hF F6.ls ("kind",k) af;rw [el3];refine ⟨l3,cc ps,m,rfl,hl3,h200,fun p H3 s3 GV=>?_⟩;have hU:=GJ m p H3 s3 GV;have s13:=F6.trans s3;have Fg:=hk.same s13;generalize cb ps m=us at hU;have HU:=hU.len;dsimp only [aK];have hR:=hU.kinds (fun t=>(cW t.prs n).map some) (fun s t=>by rw [qp]);refine ⟨_,rfl,p,rfl,kE (fun q:cK=>(q.1,q.2.1)) hU.at_ (by omega) (fun q=>((cW q.2.2.prs n).map some).map fun k=>(q.1,bM k)) (fun t q ys H1 N hq sm hT hN=>?_) fun p' H' s' hP=>?_⟩
  ·obtain ⟨mq,y,t'⟩:=q;obtain ⟨_,hS,hhd⟩:=hU.ok _ hq;intro os F4;obtain ⟨a,b,rfl⟩:=gC F4
   obtain ⟨t1,x0,x1,x2,vp,rfl,Fu,hvp⟩:∃ t1 x0 x1 x2 vp,y=.ref t1/\H1 t1=some (.tup [x0,x1,x2,vp])/\cU H1 vp t'.prs:=by
    cases t' with
    | kd m r n ps =>
     obtain ⟨t1,vp,e1,Fu,hv⟩:=qh (hS.kept sm.ls);exact ⟨t1,_,_,_,vp,e1,Fu,hv⟩
    | df m r n k ps b=>exact absurd (congrArg Prod.fst (Qp hhd)) (show ¬ ("def":Str)="kind" by decide)
    | _=>cases hhd
   obtain ⟨tp,ws,rfl,htp,hwl,hwat⟩:=hvp;have dT:∀ {H':Hp},Same H1 H'->∀ (i:Nat) (t:Addr) (p:ae × V),ws[i]?=some t->(t'.prs.map fun p=>((Sum.inr p.1:ae),V.str p.2))[i]?=some p->H' t=some (.tup [kV p.1,p.2]):=fun s i t p x y=>by rw [Qu] at y;obtain ⟨c,hc,rfl⟩:=Option.map_eq_some_iff.mp y;exact s _ _ (hwat i t c x hc)
   have F8:ws.length=(t'.prs.map fun p=>((Sum.inr p.1:ae),V.str p.2)).length:=by rw [Qe];exact hwl
   refine ⟨t,_,rfl,au.of hT,rfl,_,_,rfl,_,_,rfl,rfl,⟨[_,_],rfl,rfl⟩,?_⟩;refine ⟨_,rfl,aP 3 rfl Fu rfl ⟨tp,ws,_,rfl,htp,F8,dT (Same.refl _),fun qd hqd=>?_⟩⟩;have sd:=ag (o:=.dK (m4 t'.prs)) hqd;refine ⟨qd,_,rfl,bz.k (k:=.inr n) af,_,rfl,?_⟩;rw [show a9 (d7 (t'.prs.map fun p=>((Sum.inr p.1:ae),V.str p.2))) (.inr n)=(cW t'.prs n).map V.str from v3 _ _];dsimp only at hN
   cases hfl:cW t'.prs n with
   | none=>rw [hfl] at hN;exact cS (hN _ sd)
   | some kd =>
    rw [hfl] at hN;refine j0 ⟨_,rfl,aP 3 rfl (sd _ _ Fu) rfl ⟨tp,ws,_,rfl,sd _ _ htp,F8,dT sd,fun qe hqe=>?_⟩⟩;have se:=sd.trans (ag (o:=.dK (m4 t'.prs)) hqe);exact ⟨_,rfl,qe,.str kd,rfl,by rw [show some (V.str kd)=a9 (m4 t'.prs) (.inr n) from by rw [v3,hfl];rfl];exact bz.k (k:=.inr n) af,aM,fun q2 FX=>hN q2 _ (se.trans (ag FX)) af⟩
  ·rw [qz (fun t:Tr=>(cW t.prs n).map some)] at hP;have hK4:KM H' p' _:=hP;generalize gG (fun t:Tr=>(cW t.prs n).map some) us=ks at hK4 hR;have Fn:=Fg.same s';obtain ⟨d1',IF,_⟩:=Fn.ins;refine ⟨_,rfl,_,rfl,p',kv ks,rfl,hK4,m,orM (kv ks),rfl,?_⟩
   have hb:∀ s,(m ^^^ (m &&& orM (kv ks))).testBit s=(m.testBit s&&(jv (tt s) (some k) n).isNone):=fun s=>by
    rw [kJ,hR.or];unfold bE jv
    cases m.testBit s with
    | false=>rfl
    | true =>
     dsimp only;rw [if_pos rfl]
     cases cm ("kind",k) (tt s) with
     | none=>rfl
     | some t=>show (true&&!((cW t.prs n).map some).isSome)=(true&&(cW t.prs n).isNone);cases cW t.prs n<;>rfl
   have Fl:m ^^^ (m &&& orM (kv ks))<256:=mN hm.2;have hand:m &&& (m ^^^ (m &&& orM (kv ks)))=m ^^^ (m &&& orM (kv ks)):=qq _ _;generalize m ^^^ (m &&& orM (kv ks))=mm at hb Fl hand;dsimp only [aK];refine ⟨_,rfl,o,dx,_,rfl,IF,rfl,_,rfl,_,rfl,o,dx,d2,F,fs,mm,r,"field",rfl,Fn,Fl,Gj,by decide,fun H6 l6 IU=>?_⟩;refine ⟨_,rfl,_,rfl,aM,fun t7 ht7=>⟨cO,fun p7 hp7=>⟨_,rfl,?_⟩⟩⟩;have s7:=ag (o:=.tup [.int ((m:Nat):Int),.non]) ht7;have s8:=ag (o:=.lst [.ref t7]) hp7;have s78:=s7.trans s8;refine ⟨p7,[(m,.non)],mm,rfl,bu.one af (s8 _ _ af),by simp,fun q9 H9 s9 hK9=>?_⟩;have s79:=s78.trans s9;have hK9:KM H9 q9 (cb [(m,none)] mm):=by have:=mO [(m,none)] mm;show bu H9 q9 _;rw [<- this];exact hK9
   obtain ⟨Ii,HQ,e1,e2,e3,e4,e5⟩:=((hK4.kept l6.ls).kept s79.ls).cat hK9;have h8:=hR.len;have h9:=vv [(m,(none:Kd))] mm;rw [fC] at e3 e4;refine ⟨p',q9,Ii,HQ,rfl,rfl,e1,e2,QP (bX (by simp at h9;omega)),fun l4 hl4=>?_⟩;have s4:=ag (o:=.lst (Ii++HQ)) hl4;have hK5:=e5 l4 _ af s4.tups;rw [mP] at hK5;have sf:=s79.trans s4;refine kq l4 _ _ (((bV (s13.trans s')).trans l6).trans (bV sf)) ?_ hK5 ⟨fun x hx=>?_,fun s=>?_⟩
   ·have e:bj mm r fs (fun _ x=>x="field")=bj m r fs fun s=>f6 (tt s) (some (some k)) n:=by
     funext s r' w';refine propext (or_congr Iff.rfl ⟨fun ⟨a,b,c⟩=>?_,fun ⟨a,b,c,k',e,f⟩=>?_⟩)
     ·rw [hb] at a;obtain ⟨a1,a2⟩:=Bool.and_eq_true_iff.mp a;exact ⟨a1,b,c,k,rfl,Option.isNone_iff_eq_none.mp a2⟩
     ·cases e;exact ⟨by rw [hb,a,f];rfl,b,c⟩
    rw [<- e];exact IU.same sf
   ·rcases QK hx with hx | hx
    ·exact hR.ok x hx
    ·exact mL (fun q hq=>by rw [QL hq];exact hm) x hx
   ·rw [gF,hR.val,kI,iu,hb];unfold bE
    cases m.testBit s with
    | false=>rfl
    | true=>exact Dj (cm ("kind",k) (tt s)) n
theorem bH.off {H H':Hp} {a:Addr} {o:HO} (l:bH H H') (h:H a=none):bH H (upd H' a o) :=
 ⟨⟨fun b xs hb=>by rw [ay (fun z=>by rw [z,h] at hb;cases hb)];exact l.ls.1 _ _ hb,fun b xs hb=>by rw [ay (fun z=>by rw [z,h] at hb;cases hb)];exact l.ls.2 _ _ hb,fun b o x hb=>by rw [ay (fun z=>by rw [z,h] at hb;cases hb)];exact l.ls.z _ _ _ hb,fun b x hb=>by rw [ay (fun z=>by rw [z,h] at hb;cases hb)];exact l.ls.b _ _ hb⟩,fun b kv hb=>by rw [ay (fun z=>by rw [z,h] at hb;cases hb)];exact l.dk _ _ hb⟩
theorem bv.off {H:Hp} {C o dx d2 a:Addr} {F:List (List ae × V)} {fs:bQ} {xs:List V} {ob:HO} (h:bv H C o dx d2 F fs) (ha:H a=some (.lst xs)):bv (upd H a ob) C o dx d2 F fs:=by obtain ⟨⟨d1,h1,h3,h4⟩,D,h2,h5⟩:=h;exact ⟨⟨d1,by rw [ay (fun z=>by rw [z,ha] at h1;cases h1)];exact h1,by rw [ay (fun z=>by rw [z,ha] at h3;cases h3)];exact h3,h4⟩,D,by rw [ay (fun z=>by rw [z,ha] at h2;cases h2)];exact h2,h5⟩
theorem Rp.ex {ps:cf} {f:Nat->Option Kd} (h:Rp ps f) {s:Nat} {P:Kd->Prop}:(∃ q∈ps,q.1.testBit s=true/\P q.2)↔∃ k,f s=some k/\P k:=by
 have hv:=h.val s;constructor
 ·rintro ⟨q,hq,hb,hP⟩;have hx:q.2∈atS ps s:=mZ.mpr ⟨q,hq,hb,rfl⟩;rw [hv] at hx;exact ⟨q.2,by simpa using hx,hP⟩
 ·rintro ⟨k,hk,hP⟩;have hx:k∈atS ps s:=by rw [hv,hk];simp
  obtain ⟨q,hq,hb,e⟩:=mZ.mp hx;exact ⟨q,hq,hb,by rw [e];exact hP⟩
theorem Rp.sub {ps:cf} {m:Nat} {f:Nat->Option Kd} (h:Rp ps (bE m f)) {q:Nat × Kd} (hq:q∈ps) {s:Nat} (hb:q.1.testBit s=true):m.testBit s=true:=by
 obtain ⟨k,hk,_⟩:=(h.ex (P:=fun _=>True)).mp ⟨q,hq,hb,trivial⟩;unfold bE at hk;split at hk
 ·assumption
 ·cases hk
theorem lP {α:Type} (ps:List (Nat × α)) (i s:Nat):(atS (ps.take i) s).length<=(atS ps s).length:=by unfold atS;rw [Qe,Qe];exact ((List.take_sublist i ps).filter _).length_le
theorem Rp.one_at {ps:cf} {f:Nat->Option Kd} (h:Rp ps f) (s:Nat):(atS ps s).length<=1:=by rw [h.val];cases f s<;>simp
theorem Dn {H:Hp} {y:V} {t:Tr} {z:Str} (h:bi H true y t) (hd:t.hd=some (("def":Str),z)):∃ t1 x0 x1 x2 r1,y=.ref t1/\H t1=some (.tup (x0::x1::x2::.str t.knd::r1)):=by
 cases t with
 | df m r n k ps b=>obtain ⟨t1,vp,lb,xb,e,ht,_⟩:=mH h;exact ⟨t1,_,_,_,_,e,ht⟩
 | kd m r n ps=>exact absurd (congrArg Prod.fst (Qp hd)) (show ¬ ("kind":Str)="def" by decide)
 | _=>cases hd
theorem Do {H:Hp} {y:V} {t:Tr} {z:Str} (h:bi H true y t) (hd:t.hd=some (("kind":Str),z)):∃ t1 x0 x1 r1,y=.ref t1/\H t1=some (.tup (x0::x1::.str z::r1)):=by
 cases t with
 | kd m r n ps =>
  obtain ⟨t1,vp,e1,Fu,_⟩:=qh h;have en:n=z:=congrArg Prod.snd (Qp hd);subst en;exact ⟨t1,_,_,_,e1,Fu⟩
 | df m r n k ps b=>exact absurd (congrArg Prod.fst (Qp hd)) (show ¬ ("def":Str)="kind" by decide)
 | _=>cases hd
noncomputable abbrev qA:List Str:=["self","mask","e","at","names","rows","found","here","kind","inner"]
theorem qB:aT qA ["self","mask","e","at","names"] (aI ku):=by decide +kernel
theorem Dp (T:All P w K mg AA DD) (k:Nat) (GAK:aB P w K mg base aE (3*k+4) AA.Zp DD.Zp ["self","mask","e","due","at","names"] (mY AA.c_KindLook k)) (GUR:aB P w K mg base aE (3*k+5) AA.Zc DD.Zc ["self","mask","e","word","at","names"] (qy AA.c_KindLook k)) (GKO:aB P w K mg base aE (3*k+3) AA.Zg DD.Zg ["self","mask","e","at","names"] (iw AA.c_KindLook k)) :
  aB P w K mg base aE (3*(k+1)+3) AA.Zg DD.Zg ["self","mask","e","at","names"] (iw AA.c_KindLook (k+1)):=by
 have GI:=CA (base:=base) T;have GB:=kG (base:=base) T;have GFK:=Dk (base:=base) T;refine T.z_Zg.F.ok qB (fun vs H Q E h=>by cases h;subst_vars;rfl) fun Fk A outer s H vs Q E hr h=>?_;obtain ⟨o,dx,d2,F,tt,fs,v,d3,ρ,n,e,m,r,rfl,hE,hp,hn,hF,hd,hk,hm,Gj,k'⟩:=h;have nd:=qB.nd;have hrU:ar (3*k+5) _:=hr;have hrA:ar (3*k+4) _:=hrU.mono (by omega);have hrK:ar (3*k+3) _:=hrA.mono (by omega);have FF:ar 3 _:=hrA.mono (by omega);have Fw:ar 1 _:=hrA.mono (by omega);have hu:=QD (Nat.add_le_add_left (show 1<=64 by decide) _) hr.units;refine ⟨_,(ai (aX (aN bp (aO (pv 2)) ap (aQ _)) (aj (aH (ao GB Fw rfl T.z_Zs (aa (ja hu (pv 4) (aO (pv 2)) (bG ab) ⟨by rfl,by rfl,by rfl,by rfl⟩) (aa (pv 1) ab))))) bb) (ai (aX (aN bp (aO (pv 2)) ap (aQ _)) (ai (aL (i:=5) nd rfl (Or.inl rfl) (cy (pv 0) T.cl_KindLook T.M_Zc GUR hrU T.z_Zc.b .nil cj (aa (pv 1) (aa (pv 2) (aa ap (aa (pv 3) (aa (pv 4) ab))))))) (aj (aH (iU (xs:=["here","one"]) (aI ku) qA [] [] rfl (by decide +kernel) rfl rfl (cz (pv 5)) (fun _ _ _ _=>(c8 (n:=2) rfl (bm (a8 (i:=0) (show (["here","one"]:List Str).Nodup by decide +kernel) rfl (Or.inl rfl)) (bm (a8 (i:=1) (show (["here","one"]:List Str).Nodup by decide +kernel) rfl (Or.inl rfl)) cQ)))) (fun _ _ _ _=>fq) (fun _ _ _ _=>(aF (aa (pv 0) (aa (aO (pv 1)) ab)))))))) bb) (ai (aX (aN bp (aO (pv 2)) ap (aQ _)) (ai (aL (i:=5) nd rfl (Or.inl rfl) (cy (pv 0) T.cl_KindLook T.M_Zc GUR hrU T.z_Zc.b .nil cj (aa (pv 1) (aa (pv 2) (aa ap (aa (pv 3) (aa (pv 4) ab))))))) (aj (aH (iU (xs:=["here","one"]) (aI ku) qA [] [] rfl (by decide +kernel) rfl rfl (cz (pv 5)) (fun _ _ _ _=>(c8 (n:=2) rfl (bm (a8 (i:=0) (show (["here","one"]:List Str).Nodup by decide +kernel) rfl (Or.inl rfl)) (bm (a8 (i:=1) (show (["here","one"]:List Str).Nodup by decide +kernel) rfl (Or.inl rfl)) cQ)))) (fun _ _ _ _=>fq) (fun _ _ _ _=>(aF (aa (pv 0) (aa (aO (pv 1)) ab)))))))) bb) (ai (aX (aN bp (aO (pv 2)) ap (aQ _)) (ai (aL (i:=6) nd rfl (Or.inl rfl) (bG ab)) (ai (cY PassesOwn.never rfl (cz (cy (pv 0) T.cl_KindLook T.M_Zg GKO hrK T.z_Zg.b .nil cj (aa (pv 1) (aa (aO (pv 2)) (aa (pv 3) (aa (pv 4) ab)))))) (c8 rfl (bm (a8 (i:=7) nd rfl (Or.inl rfl)) (bm (a8 (i:=8) nd rfl (Or.inl rfl)) cQ))) (aj (bO (jX PySem.F.plainAttrs_list PySem.F.slot_list_extend PySem.F.type_list_extend jY (pv 6) (aa (cy (pv 0) T.cl_KindLook T.M_Za GFK FF T.z_Za.b .nil cj (aa (pv 7) (aa (pv 8) (aa (aO (pv 2)) (aa (pv 3) ab))))) ab)) (by rfl))) (by intro _;rfl)) (aj (aH (pv 6))))) bb) (ai (cY PassesOwn.never rfl (kr (ao GI Fw rfl T.z_ZK (aa (pv 2) ab))) (a8 (i:=9) nd rfl (Or.inl rfl)) (aj (bO (cy (pv 0) T.cl_KindLook T.M_Zp GAK hrA T.z_Zp.b .nil cj (aa (pv 1) (aa (pv 9) (aa (tG T.D_ASKS rfl T.m_ASKS (aO (pv 2)) (fun _ _=>rfl)) (aa (pv 3) (aa (pv 4) ab)))))) (by rfl))) (by intro _;rfl)) (aj (aH (bG (aa (aF (aa (pv 1) (aa (tG T.D_MAKES rfl T.m_MAKES (aO (pv 2)) (fun _ _=>rfl)) ab))) ab))))))))),?_⟩;obtain ⟨d1,hi,_⟩:=hk.ins;by_cases hnm:∃ z,e=.name z
 ·obtain ⟨z,rfl⟩:=hnm
  cases hE with
  | @name t _ ht =>
  refine aP 0 rfl ht rfl ⟨rfl,_,rfl,fV ?_⟩;obtain ⟨Fe,hd3,hkn,hz⟩:=hn;refine ⟨_,rfl,d3,rfl,.inl ⟨Fe,.inl hd3⟩,aP 1 rfl ht rfl ?_⟩;refine ⟨eZ,fun q hq=>?_⟩;have s1:=ag (o:=.lst []) hq;refine ⟨_,bz.k (k:=.inr z) (s1 _ _ hd3),_,rfl,?_⟩;obtain ⟨l,ps,el,hl,hf⟩:=((hz z).kept s1.ls).get af;rw [el];have h8:=hf.len;refine ⟨l,kv ps,m,rfl,hl,by rw [fC];omega,fun q' H' s' hK=>?_⟩;rw [mO] at hK;refine k' q' _ H' (bV (s1.trans s')) ?_ hK (hf.kep m);have e:(fun s=>cg (tt s) (ρ s) (.name z))=fun _ _=>False:=by funext s w;rw [cg]
  rw [e,mU];exact hk.same (s1.trans s')
 have hnm:∀ z,e≠.name z:=fun z q=>hnm ⟨z,q⟩;by_cases hmn:∃ w z es,e=.many w z es
 ·obtain ⟨w,z,es,rfl⟩:=hmn
  obtain ⟨hw,_,hes⟩:=(show (w="do"∨w="new")/\es.length<=20/\km es from hp)
  have hE0:=hE
  cases hE with
  | @many t l _ _ vs _ ht hl hvs =>
  rcases hw with hw | hw
  ·subst hw;refine aP 0 rfl ht rfl ⟨rfl,_,rfl,da (by decide) ?_⟩;refine aP 0 rfl ht rfl ⟨rfl,_,rfl,fV ?_⟩;refine ⟨_,rfl,o,dx,_,rfl,hi,rfl,_,rfl,_,rfl,_,rfl,_,rfl,?_⟩;refine ⟨o,dx,d2,F,tt,fs,.ref t,d3,ρ,n,"do",z,es,m,r,by rw [qu];rfl,hE0,hes,hn,hF,(by simp [Ex.deep] at hd;omega),hk,hm,Gj,fun p us H1 l1 Fo hU=>?_⟩;rw [qu] at hU;dsimp only [aK];have h8:=hU.len;refine ⟨_,rfl,p,rfl,kE (fun q:cK=>(q.1,q.2.1)) hU.at_ (by omega) (fun q=>(some (some q.2.2.knd)).map fun k=>(q.1,bM k)) (fun t2 q ys H2 N hq sm hT hN=>?_) fun p' H' s' hP=>?_⟩
   ·obtain ⟨mq,y,t'⟩:=q;obtain ⟨_,hS,hhd⟩:=hU.ok _ hq;obtain ⟨t1,x0,x1,x2,r1,rfl,Fu⟩:=Dn (hS.kept sm.ls) hhd;intro os F4;obtain ⟨a,b,rfl⟩:=gC F4;refine ⟨t2,_,rfl,au.of hT,rfl,_,_,rfl,_,_,rfl,rfl,⟨[_,_],rfl,rfl⟩,fm ?_⟩;rw [if_pos rfl];exact ⟨_,rfl,aP 3 rfl Fu rfl ⟨aM,fun q2 FX=>hN q2 _ (ag FX) af⟩⟩
   ·rw [qz (fun t:Tr=>some (some t.knd))] at hP;have hR:=hU.kinds (fun t:Tr=>some (some t.knd)) fun s t=>by rw [Di]
    refine k' p' _ H' (l1.trans (bV s')) (Fo.same s') hP ⟨hR.ok,fun s=>(hR.val s).trans ?_⟩;unfold bE;split
    ·dsimp only;rw [cM,qu];cases cm ("def",z) (tt s)<;>rfl
    ·rfl
  ·subst hw;refine aP 0 rfl ht rfl ⟨rfl,_,rfl,da (by decide) ?_⟩;refine aP 0 rfl ht rfl ⟨rfl,_,rfl,da (by decide) ?_⟩;refine aP 0 rfl ht rfl ⟨rfl,_,rfl,fV ?_⟩;refine ⟨_,rfl,o,dx,_,rfl,hi,rfl,_,rfl,_,rfl,_,rfl,_,rfl,?_⟩;refine ⟨o,dx,d2,F,tt,fs,.ref t,d3,ρ,n,"new",z,es,m,r,by rw [qw];rfl,hE0,hes,hn,hF,(by simp [Ex.deep] at hd;omega),hk,hm,Gj,fun p us H1 l1 Fo hU=>?_⟩;rw [qw] at hU;dsimp only [aK];have h8:=hU.len;refine ⟨_,rfl,p,rfl,kE (fun q:cK=>(q.1,q.2.1)) hU.at_ (by omega) (fun q=>(some (some z)).map fun k=>(q.1,bM k)) (fun t2 q ys H2 N hq sm hT hN=>?_) fun p' H' s' hP=>?_⟩
   ·obtain ⟨mq,y,t'⟩:=q;obtain ⟨_,hS,hhd⟩:=hU.ok _ hq;obtain ⟨t1,x0,x1,r1,rfl,Fu⟩:=Do (hS.kept sm.ls) hhd;intro os F4;obtain ⟨a,b,rfl⟩:=gC F4;refine ⟨t2,_,rfl,au.of hT,rfl,_,_,rfl,_,_,rfl,rfl,⟨[_,_],rfl,rfl⟩,fm ?_⟩;rw [if_pos rfl];exact ⟨_,rfl,aP 2 rfl Fu rfl ⟨aM,fun q2 FX=>hN q2 _ (ag FX) af⟩⟩
   ·rw [qz (fun t:Tr=>some (some z))] at hP;have hR:=hU.kinds (fun t:Tr=>some (some z)) fun s t=>rfl;refine k' p' _ H' (l1.trans (bV s')) (Fo.same s') hP ⟨hR.ok,fun s=>(hR.val s).trans ?_⟩;unfold bE;split
    ·dsimp only;rw [cM,qw];cases cm ("kind",z) (tt s)<;>rfl
    ·rfl
 by_cases hof:∃ n x,e=.of n x
 ·obtain ⟨fn,e1,rfl⟩:=hof
  cases hE with
  | @of t _ v1 _ ht hv1 =>
  have Hv:e1.good:=hp;have Ib:e1.deep<k:=by simp [Ex.deep] at hd;omega
  refine aP 0 rfl ht rfl ⟨rfl,_,rfl,da (by decide) ?_⟩;refine aP 0 rfl ht rfl ⟨rfl,_,rfl,da (by decide) ?_⟩;refine aP 0 rfl ht rfl ⟨rfl,_,rfl,da (by decide) ?_⟩;refine aP 0 rfl ht rfl ⟨rfl,_,rfl,fV ?_⟩;refine ⟨eZ,fun fo hfo=>?_⟩;have s0:=ag (o:=.lst []) hfo;dsimp only [aK];have hk0:=hk.same s0;obtain ⟨d1',FO,_⟩:=hk0.ins;refine ⟨_,rfl,o,dx,_,rfl,FO,rfl,_,rfl,aP 2 rfl (s0 _ _ ht) rfl ⟨_,rfl,_,rfl,?_⟩⟩;refine ⟨o,dx,d2,F,tt,fs,v1,d3,ρ,n,e1,m,r,rfl,hv1.kept s0.ls.1,Hv,hn.kept (bV s0),hF.kept s0.ls,Ib,hk0,hm,Gj,fun p ps H1 l1 Fo hK1 hf1=>?_⟩;have l01:=(bV s0).trans l1;have hfo1:H1 fo=some (.lst []):=l1.ls.2 _ _ af;have Fu:=l01.ls.1 _ _ ht;obtain ⟨as,Ht,IY,Ig⟩:=hK1;rw [fC] at IY;have h8:=hf1.len;generalize hfs1:(bj m r fs fun s=>cg (tt s) (ρ s) e1)=fs1 at Fo;refine ⟨p,rfl,⟨_,ak.of Ht⟩,?_⟩;refine gD (K:=K0) (a:=p) (xs:=as.map V.ref) (fun i σ' H'=>bH H H'/\H' p=some (.lst (as.map V.ref))/\(∀ b xs,H1 b=some (.tup xs)->H' b=some (.tup xs))/\bv H' AA.c_KindLook o dx d2 F (bj m r fs1 fun s w=>∃ q∈ps.take i,q.1.testBit s=true/\f6 (tt s) (some q.2) fn w)/\(∃ gs,KM H' fo gs/\(∀ q∈gs,aY q.1)/\∀ s,atS gs s=(atS (ps.take i) s).map fun k=>jv (tt s) k fn)/\∃ x5 x6 x8 x9,σ'=[some (.ref o),some (.int ((m:Nat):Int)),some (.ref t),some (.int ((r:Nat):Int)),some (.ref d3),x5,some (.ref fo),x6,x8,x9]) ⟨l01,Ht,fun _ _ h=>h,by rw [kN];exact Fo,⟨[],bu.nil hfo1,fun q h=>by simp at h,fun s=>rfl⟩,_,_,_,_,rfl⟩ (fun i σ' H' _ h=>ak.of h.2.1) ?_ ?_
  ·rintro i x σ' H4 hx ⟨l4,IC,t4,Fn,⟨gs,hg4,hgo,hga⟩,x5,x6,x8,x9,rfl⟩ E1 hN;obtain ⟨IF,ex⟩:=gE hx;subst ex
   have hpf:p≠fo:=fun z=>by
    rw [z,hfo1] at Ht;have:as.map V.ref=[]:=by injection Ht with Ht;injection Ht with Ht;exact Ht.symm
    rw [List.map_eq_nil_iff] at this;rw [this] at IF;exact absurd IF (Nat.not_lt_zero _)
   have He:i<ps.length:=by omega
   have Jr:=t4 _ _ (Ig i as[i] (ps[i].1,bM ps[i].2) (Qa IF) (by unfold kv;rw [Qu,Qa He];rfl));have hok:=hf1.ok _ (QB He);have Gn:∀ {s},ps[i].1.testBit s=true->m.testBit s=true:=fun h=>hf1.sub (QB He) h;have hpi:ps[i]?=some ps[i]:=Qa He;have hg8:gs.length<=8:=mM hgo fun s=>by rw [hga,Qe];exact Qq (lP ps i s) (hf1.one_at s)
   have GP:ps.take (i+1)=ps.take i++[ps[i]]:=Qi He;generalize ps[i]=q at Jr hok Gn hpi GP;obtain ⟨m2,k2⟩:=q;obtain ⟨gx,hgx,_⟩:=id hg4;obtain ⟨d1',hi4',_⟩:=Fn.ins;refine ⟨as[i],_,rfl,au.of Jr,rfl,_,_,rfl,_,_,rfl,rfl,?_⟩;refine ⟨_,rfl,.inl ⟨rfl,_,ak.of hgx⟩,_,rfl,o,dx,_,rfl,hi4',rfl,_,rfl,_,rfl,aP 1 rfl (l4.ls.1 _ _ ht) rfl ⟨_,rfl,?_⟩⟩;refine ⟨o,dx,d2,F,tt,_,k2,fn,m2,r,rfl,hF.kept l4.ls,Fn,hok,Gj,fun p9 qs H9 l9 hk9 hK9 hf9=>?_⟩;obtain ⟨Ii,HQ,e1,e2,e3,e4,e5⟩:=(hg4.kept l9.ls).cat hK9;rw [fC] at e3 e4;have h9:=hf9.len;refine ⟨fo,p9,Ii,HQ,rfl,rfl,e1,e2,QP (bX (by omega)),hN _ _ ⟨(l4.trans l9).off hfo,by rw [ay hpf];exact l9.ls.2 _ _ IC,fun b xs h=>?_,?_,⟨gs++qs,?_,fun q hq=>?_,fun s=>?_⟩,_,_,_,_,rfl⟩⟩
   ·have II:=l9.ls.1 _ _ (t4 _ _ h);rw [ay (fun z=>by rw [z,e1] at II;cases II)];exact II
   ·rw [jw hpi (A:=fun s q w=>q.1.testBit s=true/\f6 (tt s) (some q.2) fn w) fun s w=>⟨fun hsl89=>by obtain ⟨a,b⟩:=hsl89;exact ⟨Gn a,a,b⟩,fun hsl90=>by obtain ⟨_,a,b⟩:=hsl90;exact ⟨a,b⟩⟩] at hk9;exact hk9.off e1
   ·have:=e5 fo (upd H9 fo (.lst (Ii++HQ))) af fun b xs hb=>by rw [ay (fun z=>by rw [z,e1] at hb;cases hb)];exact hb
    rw [mP] at this;exact this
   ·rcases QK hq with hq | hq
    ·exact hgo q hq
    ·exact hf9.ok q hq
   ·rw [gF,hga,hf9.val,GP,gF,QU,iu];congr 1;unfold bE;split<;>rfl
  ·rintro σ' H4 ⟨l4,IC,t4,Fn,⟨gs,hg4,hgo,hga⟩,x5,x6,x8,x9,rfl⟩;rw [Qe,IY,List.take_length] at Fn hga;refine ⟨_,rfl,k' fo gs H4 l4 ?_ hg4 ⟨hgo,fun s=>?_⟩⟩
   ·rw [<- hfs1,mV (C:=fun s=>f6 (tt s) (cM (tt s) (ρ s) e1) fn) fun s w=>?_] at Fn
    ·have e:(fun s=>cg (tt s) (ρ s) (.of fn e1))=fun s w=>cg (tt s) (ρ s) e1 w∨f6 (tt s) (cM (tt s) (ρ s) e1) fn w:=by funext s w;rw [cg]
     rw [e];exact Fn
    ·refine and_congr_right fun hb=>(hf1.ex (P:=fun k=>f6 (tt s) (some k) fn w)).trans ?_;unfold bE;rw [if_pos hb];dsimp only;exact ⟨fun hsl91=>by obtain ⟨k,e,h⟩:=hsl91;rw [e];exact h,fun hsl92=>by obtain ⟨a,k,e,h⟩:=hsl92;exact ⟨_,e,a,k,rfl,h⟩⟩
   ·rw [hga,hf1.val];unfold bE;split
    ·dsimp only;rw [cM];cases cM (tt s) (ρ s) e1<;>rfl
    ·rfl
 have Jz:e.bas:=Db hp (fun w z es q=>hmn ⟨w,z,es,q⟩) fun n x q=>hof ⟨n,x,q⟩;obtain ⟨t,ys,rfl,ht,n1,n2,n3,n4,lm,la⟩:=Da hE Jz hnm
 have ekd:∀ s,cM (tt s) (ρ s) e=some (some (fD e)):=fun s=>by
  cases e with
  | name z=>exact (hnm _ rfl).elim
  | many w z es=>exact Jz.elim
  | of n x=>exact Jz.elim
  | _=>rfl
 refine aP 0 rfl ht rfl ⟨rfl,_,rfl,da n1 ?_⟩;refine aP 0 rfl ht rfl ⟨rfl,_,rfl,da n2 ?_⟩;refine aP 0 rfl ht rfl ⟨rfl,_,rfl,da n3 ?_⟩;refine aP 0 rfl ht rfl ⟨rfl,_,rfl,da n4 ?_⟩;refine ⟨_,rfl,_,e,rfl,hE,Jz,fun tk zs H2 s2 GP FA=>⟨tk,rfl,⟨_,au.of GP⟩,?_⟩⟩;have FT:=FA.len;have Fi:=hk.same s2;have FM:=s2 _ _ ht;refine BZ (K:=K0) (a:=tk) (xs:=zs) (fun i σ' H'=>bH H H'/\bH H2 H'/\(∃ x5 x6 x7 x8 x9,σ'=[some (.ref o),some (.int ((m:Nat):Int)),some (.ref t),some (.int ((r:Nat):Int)),some (.ref d3),x5,x6,x7,x8,x9])/\bv H' AA.c_KindLook o dx d2 F (bj m r fs fun s w=>∃ c∈e.kids.take i,fF (tt s) (ρ s) (fE e) c w)) ⟨bV s2,bH.refl _,⟨_,_,_,_,_,rfl⟩,by rw [kN];exact Fi⟩ (fun i σ' H' _ h=>au.of (h.2.1.ls.1 _ _ GP)) ?_ ?_
 ·rintro i x σ' H3 hx ⟨l3,l23,⟨x5,x6,x7,x8,x9,rfl⟩,Fg⟩ E1 hN;obtain ⟨c,hc,hcx⟩:=FA.get hx;have hcm:=CB hp c (Qz hc);obtain ⟨d1,hi3,_⟩:=Fg.ins;have la':=la (fun z=>by rw [z] at hc;simp at hc);refine ⟨_,rfl,o,dx,_,rfl,hi3,rfl,_,rfl,_,rfl,aP 0 rfl (l23.ls.1 _ _ FM) rfl ⟨eS e,fE e,rfl,la',_,rfl,_,rfl,o,dx,d2,F,tt,_,x,d3,ρ,n,c,m,r,fE e,rfl,hcx.kept l23.ls.1,hcm.1,hn.kept l3,hF.kept l3.ls,by omega,Fg,hm,Gj,fun H' ls IV=>?_⟩⟩;rw [jw hc (A:=fun s c w=>fF (tt s) (ρ s) (fE e) c w) fun s w=>Iff.rfl] at IV;exact hN _ _ ⟨l3.trans ls,l23.trans ls,⟨_,_,_,_,_,rfl⟩,IV⟩
 ·rintro σ' H3 ⟨l3,l23,⟨x5,x6,x7,x8,x9,rfl⟩,Fg⟩;rw [Qo (by omega)] at Fg;have ek:(fun s w=>∃ c∈e.kids,fF (tt s) (ρ s) (fE e) c w)=fun s=>cg (tt s) (ρ s) e:=by funext s w;exact propext (Dc _ _ Jz w).symm
  rw [ek] at Fg;dsimp only;refine ⟨_,rfl,aP 0 rfl (l23.ls.1 _ _ FM) rfl ⟨eS e,fD e,rfl,lm,aM,fun t3 Hh=>⟨cO,fun p GV=>?_⟩⟩⟩;have s3:=ag (o:=.tup [.int ((m:Nat):Int),.str (fD e)]) Hh;have s4:=ag (o:=.lst [.ref t3]) GV;refine k' p [(m,some (fD e))] _ (l3.trans (bV (s3.trans s4))) (Fg.same (s3.trans s4)) (bu.one (q:=(m,bM (some (fD e)))) af (s4 _ _ af)) ⟨(Rp.one hm _).ok,fun s=>((Rp.one hm _).val s).trans ?_⟩;unfold bE;dsimp only;rw [ekd]
theorem Dq (T:All P w K mg AA DD):aB P w K mg base aE 3 AA.Zg DD.Zg ["self","mask","e","at","names"] (iw AA.c_KindLook 0):=by
 have no:∀ vs H Q E,¬ iw AA.c_KindLook 0 vs H Q E:=fun vs H Q E h=>by obtain ⟨o,dx,d2,F,tt,fs,v,d3,ρ,n,e,m,r,_,_,_,_,_,z,_⟩:=h;omega
 exact T.z_Zg.F.ok qB (fun vs H Q E h=>(no _ _ _ _ h).elim) (fun Fk A outer s H vs Q E hr h=>(no _ _ _ _ h).elim)
theorem m5 (T:All P w K mg AA DD):∀ k:Nat,aB P w K mg base aE (3*k+3) AA.Zg DD.Zg ["self","mask","e","at","names"] (iw AA.c_KindLook k)
 | 0=>Dq T
 | k+1=>Dp T k (vY T k (m5 T k)) (Dh T k (vY T k (m5 T k))) (m5 T k)
structure dF (d:Addr) (H H':Hp):Prop where
 ls:bo H H'
 dk:∀ a kv,a≠d->H a=some (.dK kv)->H' a=some (.dK kv)
theorem dF.refl (d:Addr) (H:Hp):dF d H H:=⟨bo.refl _,fun _ _ _ h=>h⟩
theorem dF.trans {d:Addr} {H H1 H2:Hp} (a:dF d H H1) (b:dF d H1 H2):dF d H H2:=⟨a.ls.trans b.ls,fun _ _ n h=>b.dk _ _ n (a.dk _ _ n h)⟩
theorem bH.d {H H':Hp} (s:bH H H') {d:Addr}:dF d H H':=⟨s.ls,fun _ _ _ h=>s.dk _ _ h⟩
noncomputable def jx (ρ:Env) (z:Str) (k:Option Kd):Env:=fun x=>if x=z then (ρ z).or k else ρ x
def gH (o:Option Kd) (k:Option Kd):Prop:=∃ x,k=some (some x)/\fY (some x) o=true
theorem Dr {H:Hp} {v:V} {m r:Nat} {z:Str} {e:Ex} (h:bi H true v (.set m r z e)):∃ t0 x,v=.ref t0/\H t0=some (.tup [.str "set",.int ((r:Nat):Int),.str z,x]):=by obtain ⟨t0,x,e1,ht,_⟩:=uJ h;exact ⟨t0,x,e1,ht⟩
theorem cv.put {H:Hp} {d:Addr} {ρ:Nat->Env} {n:Nat} (h:cv H d ρ n) {z:Str} {f:Nat->Option Kd} {l:Addr} {ks:cf} (hl:KM H l ks) (e:Rp ks fun s=>(ρ s z).or (f s)) (hn:n<900) :
  ∃ H',cG H d (.str z) (.ref l) H'/\bo H H'/\cv H' d (fun s=>jx (ρ s) z (f s)) (n+1)/\(∀ a,a≠d->H' a=H a)/\∃ kv,H d=some (.dK kv):=by
 obtain ⟨Fe,a,b,c⟩:=h;have lsd:∀ ob',bo H (upd H d ob'):=fun ob'=>ky a (fun _ z=>nomatch z) (fun _ z=>nomatch z) fun _ _ z=>nomatch z
 refine ⟨_,cG.k (k:=.inr z) a (bX (by omega)),lsd _,⟨_,af,?_,fun x=>?_⟩,fun a ha=>ay ha,Fe,a⟩
 ·exact Qq (iY _ _ _) (by omega)
 ·rw [j4];unfold jx;by_cases hx:x=z
  ·subst hx;rw [if_pos rfl];refine ⟨ks,?_,.inr ⟨l,rfl,hl.kept (lsd _)⟩⟩;simpa using e
  ·rw [if_neg (fun q=>hx (by injection q))];simpa [hx] using (c x).kept (lsd _)
inductive v8 (C:Addr) (vs:List V) (H:Hp) (Q:VK) (E:XK):Prop
 | mk:∀ (o dx d2 d3 p:Addr) (F:List (List ae × V)) (fs:bQ) (ρ:Nat->Env) (n m0 m r:Nat) (v:V) (z:Str) (e:Ex) (ps:cf) (f:Nat->Option Kd),vs=[.ref o,v,.ref p,.ref d3]->bi H true v (.set m0 r z e)->KM H p ps->Rp ps (bE m f)->bv H C o dx d2 F fs->cv H d3 ρ n->r<200->n<900->(∀ H',dF d3 H H'->bv H' C o dx d2 F (bj m r fs fun s w=>w="kind"/\gH (ρ s z) (f s))->cv H' d3 (fun s=>jx (ρ s) z (bE m f s)) (n+1)->Q .non H')->v8 C vs H Q E
noncomputable abbrev Ds:List Str:=["self","one","kinds","names","known","mask","kind"]
theorem v9:aT Ds ["self","one","kinds","names"] (aI pY):=by decide +kernel
theorem Dt (T:All P w K mg AA DD):aB P w K mg base aE 3 AA.Zf DD.Zf ["self","one","kinds","names"] (v8 AA.c_KindLook):=by
 have GU:=qr (base:=base) T;have GO:=kK (base:=base) T;have GA:=kF (base:=base) T;have GB:=kG (base:=base) T;have GN:=kA (base:=base) T;refine T.z_Zf.F.ok v9 (fun vs H Q E h=>by cases h;subst_vars;rfl) fun Fk A outer s H vs Q E hr h=>?_;obtain ⟨o,dx,d2,d3,p,F,fs,ρ,n,m0,m,r,v,z,e,ps,f,rfl,hS,hK,hf,hk,hn,Gj,Jk,kq⟩:=h;have nd:=v9.nd;have Fm:ar 2 _:=hr;have Fw:ar 1 _:=Fm.mono (by decide);have hu:=QD (Nat.add_le_add_left (show 1<=64 by decide) _) hr.units;refine ⟨_,(ai (aL (i:=4) nd rfl (Or.inl rfl) (ja hu (pv 3) (aO (pv 1)) (bG ab) ⟨by rfl,by rfl,by rfl,by rfl⟩)) (ai (cY PassesOwn.never rfl (cz (pv 2)) (c8 rfl (bm (a8 (i:=5) nd rfl (Or.inl rfl)) (bm (a8 (i:=6) nd rfl (Or.inl rfl)) cQ))) (aj (aX (k9 (nE (pv 6))) (aj (bO (cy (pv 0) T.cl_KindLook T.M_Zm GO Fm T.z_Zm.b .nil cj (aa (ao GU Fm rfl T.z_Z3 (aa (ao GB Fw rfl T.z_Zs (aa (pv 4) (aa (pv 5) ab))) (aa (pv 6) ab))) (aa (aO (pv 1)) (aa ap ab)))) (by rfl))) bb)) (by intro _;rfl)) (aj (gu hu (pv 3) (aO (pv 1)) (am n6 (pv 4) (ao GB Fw rfl T.z_Zs (aa (pv 2) (aa (ao GN Fw rfl T.z_ZP (aa (ao GA Fw rfl T.z_ZX (aa (pv 2) ab)) (aa (ao GA Fw rfl T.z_ZX (aa (pv 4) ab)) ab))) ab)))) rfl)))),?_⟩;obtain ⟨t0,x0,rfl,FI⟩:=Dr hS;obtain ⟨Fe,hd3,hkn,hz⟩:=id hn;refine ⟨_,rfl,d3,rfl,.inl ⟨Fe,.inl hd3⟩,aP 2 rfl FI rfl ?_⟩;refine ⟨eZ,fun q hq=>?_⟩;have s1:=ag (o:=.lst []) hq;refine ⟨_,bz.k (k:=.inr z) (s1 _ _ hd3),?_⟩;obtain ⟨l,gs,el,hKl,hg⟩:=((hz z).kept s1.ls).get af;rw [el];have Fo:=hk.same s1;have F2:=hn.kept (bV s1);have hK1:=hK.kept s1.ls;have Fu:=s1 _ _ FI;have ls1:=bV s1;have h8:=hf.len;have g8:=hg.len;generalize upd H q (.lst [])=H1 at hKl Fo F2 hK1 Fu ls1 ⊢;dsimp only [aK];obtain ⟨as,Ht,IY,Ig⟩:=id hK1;rw [fC] at IY;refine ⟨_,rfl,p,rfl,⟨_,ak.of Ht⟩,?_⟩;refine gD (K:=K0) (a:=p) (xs:=as.map V.ref) (fun i σ' H'=>bH H1 H'/\bv H' AA.c_KindLook o dx d2 F (bj m r fs fun s w=>∃ q∈ps.take i,q.1.testBit s=true/\w="kind"/\gH (ρ s z) (some q.2))/\∃ s5 s6:Option V,σ'=[some (.ref o),some (.ref t0),some (.ref p),some (.ref d3),some (.ref l),s5,s6]) ⟨bH.refl _,by rw [kN];exact Fo,none,none,rfl⟩ (fun i σ' H' _ h=>ak.of (h.1.ls.2 _ _ Ht)) ?_ ?_
 ·rintro i x σ' H4 hx ⟨l4,Fn,x5,x6,rfl⟩ E1 hN;obtain ⟨IF,ex⟩:=gE hx;subst ex;have He:i<ps.length:=by omega
  have Jr:=l4.ls.1 _ _ (Ig i as[i] (ps[i].1,bM ps[i].2) (Qa IF) (by unfold kv;rw [Qu,Qa He];rfl));have hok:=hf.ok _ (QB He);have Gn:∀ {s},ps[i].1.testBit s=true->m.testBit s=true:=fun h=>hf.sub (QB He) h;have hpi:ps[i]?=some ps[i]:=Qa He;generalize ps[i]=q at Jr hok Gn hpi;obtain ⟨m2,k2⟩:=q;refine ⟨as[i],_,rfl,au.of Jr,rfl,_,_,rfl,_,_,rfl,rfl,?_⟩
  cases k2 with
  | none =>
   refine ⟨_,rfl,_,rfl,bN (by rw [Qs (show bM none=V.non from rfl)];rfl) (hN _ _ ⟨l4,?_,_,_,rfl⟩)⟩;rw [<- jw (m2:=m2) hpi (B:=fun _ _=>False) (A:=fun s q w=>q.1.testBit s=true/\w="kind"/\gH (ρ s z) (some q.2)) (fun s w=>⟨fun z=>z.2.elim,(fun hsl93=>by obtain ⟨_,_,_,x,e,_⟩:=hsl93;cases e)⟩),mU];exact Fn
  | some kd =>
  obtain ⟨d1,hi2,_⟩:=Fn.ins;refine ⟨_,rfl,_,rfl,cu (by rw [Qj (fun z=>by cases z)];rfl) ⟨_,rfl,o,dx,_,rfl,hi2,rfl,_,rfl,_,rfl,l,kv gs,m2,rfl,hKl.kept l4.ls,by rw [fC];omega,fun l3 H3 s3 hK3=>?_⟩⟩;rw [mO] at hK3;refine ⟨_,rfl,l3,_,_,some kd,rfl,hK3,hg.kep m2,fun mm H5 s5 hmm hb=>?_⟩;have s35:=s3.trans s5;refine aP 1 rfl (s35 _ _ (l4.ls.1 _ _ Fu)) rfl ?_;refine ⟨o,dx,d2,F,_,mm,r,"kind",rfl,Fn.same s35,hmm,Gj,by decide,fun H6 l6 IU=>hN _ _ ⟨(l4.trans (bV s35)).trans l6,?_,_,_,rfl⟩⟩;rw [jw hpi (A:=fun s q w=>q.1.testBit s=true/\w="kind"/\gH (ρ s z) (some q.2)) fun s w=>(mX hb s w).trans ⟨fun hsl94=>by obtain ⟨a,b,c⟩:=hsl94;exact ⟨Gn a,a,b,kd,rfl,c⟩,fun hsl95=>by obtain ⟨_,a,b,x,e,c⟩:=hsl95;exact ⟨a,b,by cases e;exact c⟩⟩] at IU;exact IU
 ·rintro σ' H2 ⟨l2,Fi,s5,s6,rfl⟩;rw [Qe,IY,List.take_length] at Fi;have efs:(bj m r fs fun s w=>∃ q∈ps,q.1.testBit s=true/\w="kind"/\gH (ρ s z) (some q.2))=bj m r fs fun s w=>w="kind"/\gH (ρ s z) (f s):=by funext s r' w';refine propext (or_congr Iff.rfl (and_congr_right fun hb=>and_congr_right fun _=>(hf.ex (P:=fun k=>w'="kind"/\gH (ρ s z) (some k))).trans ?_));unfold bE;rw [if_pos hb];exact ⟨fun hsl96=>by obtain ⟨k,e,a,b⟩:=hsl96;exact ⟨a,by rw [e];exact b⟩,fun hsl97=>by obtain ⟨a,x,e,b⟩:=hsl97;exact ⟨some x,e,a,x,rfl,b⟩⟩
  rw [efs] at Fi;have hK2:=hK1.kept l2.ls;have hKl2:=hKl.kept l2.ls;refine ⟨_,rfl,_,rfl,_,rfl,p,kv ps,rfl,hK2,_,rfl,l,kv gs,rfl,hKl2,?_⟩;refine ⟨orM (kv ps),orM (kv gs),rfl,?_⟩;have hb:∀ s,(orM (kv ps) ^^^ (orM (kv ps) &&& orM (kv gs))).testBit s=((bE m f s).isSome&&(ρ s z).isNone):=fun s=>by rw [kJ,hf.or,hg.or];cases ρ s z<;>rfl
  generalize orM (kv ps) ^^^ (orM (kv ps) &&& orM (kv gs))=mm at hb;refine ⟨p,kv ps,mm,rfl,hK2,by rw [fC];omega,fun p3 H3 s3 hK3=>?_⟩;rw [mO] at hK3;have h9:=vv ps mm;obtain ⟨Ii,HQ,h1,h2,h3,h4,h5⟩:=(hKl2.kept s3.ls).cat hK3;rw [fC] at h3 h4;refine ⟨l,p3,Ii,HQ,rfl,rfl,h1,h2,QP (bX (by omega)),fun l4 hl4=>?_⟩;have s4:=ag (o:=.lst (Ii++HQ)) hl4;have hK4:=h5 l4 _ af s4.tups;rw [mP] at hK4;have lk4:bH H1 (upd H3 l4 (.lst (Ii++HQ))):=l2.trans (bV (s3.trans s4))
  have hR:Rp (gs++cb ps mm) fun s=>(ρ s z).or (bE m f s):=⟨fun q hq=>by
   rcases QK hq with hq | hq
   ·exact hg.ok q hq
   ·exact mL hf.ok q hq,fun s=>by
   rw [gF,hg.val,kI,hf.val,hb]
   cases ρ s z<;>cases bE m f s<;>rfl⟩
  obtain ⟨H5,hput,ls5,ID,hoth,kv,hkv⟩:=(F2.kept lk4).put hK4 hR Jk;refine ⟨_,rfl,aP 2 rfl (lk4.ls.1 _ _ Fu) rfl ⟨d3,H5,rfl,hput,?_⟩⟩;refine kq H5 ((ls1.trans lk4).d.trans ⟨ls5,fun a kv n h=>by rw [hoth _ n];exact h⟩) ?_ ID;obtain ⟨⟨d1,i1,i3,i4⟩,D,i2,i5⟩:=Fi.same (s3.trans s4);refine ⟨⟨d1,?_,?_,i4⟩,D,?_,i5⟩
  ·rw [hoth _ (fun q=>by rw [q,hkv] at i1;cases i1)];exact i1
  ·rw [hoth _ (fun q=>by rw [q,hkv] at i3;cases i3)];exact i3
  ·rw [hoth _ (fun q=>by rw [q,hkv] at i2;cases i2)];exact i2
theorem cv.mono {H:Hp} {d:Addr} {ρ:Nat->Env} {n m:Nat} (h:cv H d ρ n) (q:n<=m):cv H d ρ m:=by obtain ⟨Fe,a,b,c⟩:=h;exact ⟨Fe,a,Qq b q,c⟩
def f7 (t:Tr) (ρ:Env) (du:Kd) (k:Option Kd) (w:Str):Prop:=match t with
 | .set _ _ z _=>w="kind"/\gH (ρ z) k
 | .tell _ _ _=>w="tell"/\k.any isRec=true
 | .give _ _ _=>w="kind"/\fY du k=true
 | _=>w="truth"/\fY (some "truth") k=true
noncomputable def jy (t:Tr) (ρ:Env) (k:Option Kd):Env:=match t with
 | .set _ _ z _=>jx ρ z k
 | _=>ρ
inductive wa (C:Addr) (vs:List V) (H:Hp) (Q:VK) (E:XK):Prop
 | mk:∀ (o dx d2 d3 p:Addr) (F:List (List ae × V)) (fs:bQ) (ρ:Nat->Env) (n m:Nat) (v:V) (t:Tr) (ps:cf) (f:Nat->Option Kd) (du:Kd) (e:Ex),vs=[.ref o,v,.ref p,.ref d3,bM du]->bi H true v t->t.ex=some e->KM H p ps->Rp ps (bE m f)->bv H C o dx d2 F fs->cv H d3 ρ n->t.row<200->n<900->(∀ H',dF d3 H H'->bv H' C o dx d2 F (bj m t.row fs fun s=>f7 t (ρ s) du (f s))->cv H' d3 (fun s=>jy t (ρ s) (bE m f s)) (n+1)->Q .non H')->wa C vs H Q E
theorem Du {t:Tr} {e:Ex} (he:t.ex=some e):(∃ m r z e,t=.set m r z e)∨(t.kw≠"set"/\(∀ ρ k,jy t ρ k=ρ)/\((t.kw="give"/\∀ ρ du k,f7 t ρ du k=fun w:Str=>w="kind"/\fY du k=true)∨(t.kw≠"give"/\((t.kw="tell"/\∀ ρ du k,f7 t ρ du k=fun w:Str=>w="tell"/\k.any isRec=true)∨(t.kw≠"tell"/\∀ ρ du k,f7 t ρ du k=fun w:Str=>w="truth"/\fY (some "truth") k=true))))):=by
 cases t with
 | set m r n e=>exact .inl ⟨m,r,n,e,rfl⟩
 | tell m r e=>exact .inr ⟨by show ("tell":Str)≠"set";decide,fun _ _=>rfl,.inr ⟨by show ("tell":Str)≠"give";decide,.inl ⟨rfl,fun _ _ _=>rfl⟩⟩⟩
 | give m r e=>exact .inr ⟨by show ("give":Str)≠"set";decide,fun _ _=>rfl,.inl ⟨rfl,fun _ _ _=>rfl⟩⟩
 | iff m r e b o=>exact .inr ⟨by show ("if":Str)≠"set";decide,fun _ _=>rfl,.inr ⟨by show ("if":Str)≠"give";decide,.inr ⟨by show ("if":Str)≠"tell";decide,fun _ _ _=>rfl⟩⟩⟩
 | whl m r e b=>exact .inr ⟨by show ("while":Str)≠"set";decide,fun _ _=>rfl,.inr ⟨by show ("while":Str)≠"give";decide,.inr ⟨by show ("while":Str)≠"tell";decide,fun _ _ _=>rfl⟩⟩⟩
 | df m r n k ps b=>cases he
 | kd m r n ps=>cases he
theorem Dv {m m2 r:Nat} {fs:bQ} {x:Str} {B:Nat->Str->Prop} (h:∀ s w,(m2.testBit s=true/\w=x)↔(m.testBit s=true/\B s w)):bj m2 r fs (fun _ w=>w=x)=bj m r fs B:=by
 funext s r' w;refine propext (or_congr Iff.rfl ⟨fun ⟨a,b,c⟩=>?_,fun ⟨a,b,c⟩=>?_⟩)
 ·obtain ⟨a,c⟩:=(h s w).mp ⟨a,c⟩;exact ⟨a,b,c⟩
 ·obtain ⟨a,c⟩:=(h s w).mpr ⟨a,c⟩;exact ⟨a,b,c⟩
noncomputable abbrev wb:List Str:=["self","one","kinds","names","due","at"]
theorem wc:aT wb ["self","one","kinds","names","due"] (aI mD):=by decide +kernel
theorem Dx (T:All P w K mg AA DD):aB P w K mg base aE 4 AA.Ze DD.Ze ["self","one","kinds","names","due"] (wa AA.c_KindLook):=by
 have GU:=qr (base:=base) T;have GO:=kK (base:=base) T;have GA:=kF (base:=base) T;have GIR:=CZ (base:=base) T;have GLS:=Dt (base:=base) T;refine T.z_Ze.F.ok wc (fun vs H Q E h=>by cases h;subst_vars;rfl) fun Fk A outer s H vs Q E hr h=>?_;obtain ⟨o,dx,d2,d3,p,F,fs,ρ,n,m,v,t,ps,f,du,e0,rfl,hS,Hy,hK,hf,hk,hn,Gj,Jk,kq⟩:=h;have nd:=wc.nd;have FF:ar 3 _:=hr;have Fm:ar 2 _:=FF.mono (by decide);have Fw:ar 1 _:=FF.mono (by decide);refine ⟨_,(ai (aL (i:=5) nd rfl (Or.inl rfl) (aO (pv 1))) (aj (aX (aN bp (aO (pv 1)) ap (aQ _)) (aj (bO (cy (pv 0) T.cl_KindLook T.M_Zf GLS FF T.z_Zf.b .nil cj (aa (pv 1) (aa (pv 2) (aa (pv 3) ab)))) (by rfl))) (aj (aX (aN bp (aO (pv 1)) ap (aQ _)) (aj (bO (cy (pv 0) T.cl_KindLook T.M_Zm GO Fm T.z_Zm.b .nil cj (aa (ao GU Fm rfl T.z_Z3 (aa (pv 2) (aa (pv 4) ab))) (aa (pv 5) (aa ap ab)))) (by rfl))) (aj (aX (aN bp (aO (pv 1)) ap (aQ _)) (aj (bO (cy (pv 0) T.cl_KindLook T.M_Zm GO Fm T.z_Zm.b .nil cj (aa (ao GA Fw rfl T.z_ZX (aa (fQ (aI mD) wb [] [] rfl (by decide +kernel) rfl rfl (cz (pv 2)) (fun _ _ _ _=>hW (fc (ao GIR Fw rfl T.z_ZC (aa (aO (pv 0)) ab)))) (fun _ _ _ _=>(pv 0))) ab)) (aa (pv 5) (aa ap ab)))) (by rfl))) (aj (bO (cy (pv 0) T.cl_KindLook T.M_Zm GO Fm T.z_Zm.b .nil cj (aa (ao GU Fm rfl T.z_Z3 (aa (pv 2) (aa ap ab))) (aa (pv 5) (aa ap ab)))) (by rfl)))))))))),?_⟩;have I0:=hS
 cases hS with
 | @mk t0 vs _ FI GT =>
 obtain ⟨vr,rfl⟩:=kC GT;obtain ⟨d1,hi,_⟩:=hk.ins;refine aP 1 rfl FI rfl ?_;dsimp only [aK];refine aP 0 rfl FI rfl ⟨rfl,_,rfl,?_⟩
 rcases Du Hy with ⟨m0,r,z,e,rfl⟩ | ⟨n1,hE,hc⟩
 ·refine fV ?_;refine ⟨_,rfl,o,dx,_,rfl,hi,rfl,_,rfl,_,rfl,_,rfl,?_⟩;exact ⟨o,dx,d2,d3,p,F,fs,ρ,n,m0,m,r,.ref t0,z,e,ps,f,rfl,I0,hK,hf,hk,hn,Gj,Jk,kq⟩
 refine da n1 ?_
 have kq':∀ (m2:Nat) (x:Str) (B:Nat->Str->Prop) H',bH H H'->(∀ s w,(m2.testBit s=true/\w=x)↔(m.testBit s=true/\B s w))->(∀ s,f7 t (ρ s) du (f s)=B s)->bv H' AA.c_KindLook o dx d2 F (bj m2 t.row fs fun _ w=>w=x)->Q .non H':=fun m2 x B H' lk hb hB h=>kq H' lk.d (by rw [show (fun s=>f7 t (ρ s) du (f s))=B from funext hB,<- Dv hb];exact h) (by
  rw [show (fun s=>jy t (ρ s) (bE m f s))=ρ from funext fun s=>hE _ _]
  exact (hn.kept lk).mono (by omega))
 refine aP 0 rfl FI rfl ⟨rfl,_,rfl,?_⟩
 rcases hc with ⟨hw,ht⟩ | ⟨n2,hc⟩
 ·refine cu (Qs (by rw [hw])) ?_;refine ⟨_,rfl,o,dx,_,rfl,hi,rfl,_,rfl,_,rfl,p,ps,_,du,rfl,hK,hf,fun m2 H2 s2 hm2 hb=>⟨_,rfl,?_⟩⟩;exact ⟨o,dx,d2,F,fs,m2,t.row,"kind",rfl,hk.same s2,hm2,Gj,by decide,fun H3 ls3 Fg=>kq' m2 _ _ _ ((bV s2).trans ls3) (mX hb) (fun s=>ht _ _ _) Fg⟩
 refine da n2 ?_;refine aP 0 rfl FI rfl ⟨rfl,_,rfl,?_⟩
 rcases hc with ⟨hw,ht⟩ | ⟨hw,ht⟩
 ·refine cu (Qs (by rw [hw])) ?_;refine ⟨_,rfl,o,dx,_,rfl,hi,rfl,?_⟩;obtain ⟨as,Ht,IY,Ig⟩:=hK;rw [fC] at IY;have h8:=hf.len;refine ⟨_,rfl,p,rfl,⟨_,ak.of Ht⟩,j1 (K:=K0) (a:=p) (xs:=as.map V.ref) (fun i ys H'=>H'=H/\i<=as.length/\∃ us:List Addr,ys=us.map V.ref/\fW H us (kv ((ps.take i).filter fun q=>isRec q.2))) ⟨rfl,Qr _,[],rfl,rfl,fun j t q h=>by simp at h⟩ (fun i ys H' _ h=>by rw [h.1];exact ak.of Ht) ?_ ?_⟩
  ·rintro i x ys H1 hx ⟨rfl,_,us,rfl,hu⟩;obtain ⟨IF,ex⟩:=gE hx;subst ex;have He:i<ps.length:=by omega
   have Jr:=Ig i as[i] (ps[i].1,bM ps[i].2) (Qa IF) (by unfold kv;rw [Qu,Qa He];rfl);have HU:us.length<=8:=by rw [hu.1,fC];exact Qq (List.length_filter_le _ _) (by rw [QJ];omega)
   rw [Qi He,List.filter_append];refine ⟨_,rfl,as[i],_,_,_,rfl,rfl,au.of Jr,bn (j:=1) rfl,ps[i].2,rfl,_,rfl,?_⟩
   cases hb:isRec ps[i].2 with
   | false =>
    refine bN rfl ⟨rfl,IF,us,rfl,?_⟩;rw [List.filter_cons_of_neg (by simp [hb]),List.filter_nil,QO];exact hu
   | true =>
    refine cu rfl ⟨_,rfl,by rw [Qe];exact bX (by omega),rfl,IF,us++[as[i]],by simp,?_⟩;rw [List.filter_cons_of_pos (by simp [hb]),List.filter_nil,<- mP];exact fW.snoc hu Jr
  ·rintro ys H1 ⟨rfl,_,us,rfl,hu⟩ q hq;rw [Qe,IY,List.take_length] at hu;have sq:=ag (o:=.lst (us.map V.ref)) hq;refine ⟨q,_,rfl,⟨us,af,hu.1,fun i t k x y=>sq _ _ (hu.2 i t k x y)⟩,_,rfl,?_⟩;refine ⟨o,dx,d2,F,fs,_,t.row,"tell",rfl,hk.same sq,vM hf _,Gj,by decide,fun H3 ls3 Fg=>kq' _ _ _ _ ((bV sq).trans ls3) (fun s w=>?_) (fun s=>ht _ _ _) Fg⟩;rw [vL hf];unfold bE;by_cases hm:m.testBit s=true
   ·rw [if_pos hm];exact ⟨fun z=>⟨hm,z.2,z.1⟩,fun z=>⟨z.2.2,z.2.1⟩⟩
   ·rw [if_neg hm];exact ⟨(fun z=>nomatch z.1),fun z=>absurd z.1 hm⟩
 ·refine da hw ?_;refine ⟨_,rfl,o,dx,_,rfl,hi,rfl,_,rfl,p,ps,_,some "truth",rfl,hK,hf,fun m2 H2 s2 hm2 hb=>⟨_,rfl,?_⟩⟩;exact ⟨o,dx,d2,F,fs,m2,t.row,"truth",rfl,hk.same s2,hm2,Gj,by decide,fun H3 ls3 Fg=>kq' m2 _ _ _ ((bV s2).trans ls3) (mX hb) (fun s=>ht _ _ _) Fg⟩
noncomputable def jz:Tr->Bool
 | .give _ _ _=>true
 | _=>false
noncomputable def jA (ts:List Tr):Bool:=(ts.getLast?).any jz
theorem Dy (s:Nat) (t:Tr):jz (aA s t)=jz t:=by cases t<;>simp [aA,jz]
theorem wd (t:Tr):jz t=decide (t.kw="give"):=by cases t<;>first | rfl | (show false=_;exact (Qj (by simp only [Tr.kw];decide +kernel)).symm)
theorem we {ts:List Tr} {i:Nat} {t:Tr} (h:ts[i]?=some t) (s:Nat):jA (cutM s (ts.take (i+1)))=if t.mask.testBit s=true then jz t else jA (cutM s (ts.take i)):=by
 obtain ⟨hi,e⟩:=Qh h;rw [Qi hi,e,gA,ik];unfold jA;split
 ·rw [List.getLast?_concat];exact Dy s t
 ·rw [QO]
inductive wf (vs:List V) (H:Hp) (Q:VK) (E:XK):Prop
 | mk:∀ (l:Addr) (xs:List V) (ts:List Tr),vs=[.ref l]->H l=some (.lst xs)->LAt H true xs ts->(∀ t∈ts,t.mask<256)->(∀ m:Nat,m<256->(∀ s,m.testBit s=jA (cutM s ts))->Q (.int ((m:Nat):Int)) H)->wf vs H Q E
noncomputable abbrev Dz:List Str:=["body","found","mask","one"]
theorem wg:aT Dz ["body"] (aI pz):=by decide +kernel
theorem DA (T:All P w K mg AA DD):aB P w K mg base aE 2 AA.ZZ DD.ZZ ["body"] wf:=by
 have GN:=kA (base:=base) T;refine T.z_ZZ.F.ok wg (fun vs H Q E h=>by cases h;subst_vars;rfl) fun Fk A outer s H vs Q E hr h=>?_;obtain ⟨l,xs,ts,rfl,hl,hL,hms,k⟩:=h;have nd:=wg.nd;have Fw:ar 1 _:=hr;refine ⟨_,(ai (aL (i:=1) nd rfl (Or.inl rfl) ah) (ai (cY PassesOwn.never rfl (cz (pv 0)) (c8 rfl (bm (a8 (i:=2) nd rfl (Or.inl rfl)) (bm (a8 (i:=3) nd rfl (Or.inl rfl)) cQ))) (aj (aX (aN bp (aO (pv 3)) ap (aQ _)) (aj (aL (i:=1) nd rfl (Or.inl rfl) (am nQ (pv 1) (pv 2)))) (aj (aL (i:=1) nd rfl (Or.inl rfl) (ao GN Fw rfl T.z_ZP (aa (pv 1) (aa (pv 2) ab))))))) (by intro _;rfl)) (aj (aH (pv 1))))),?_⟩;refine lD ?_;dsimp only [aK];have Ij:=hL.length;refine ⟨_,rfl,l,rfl,⟨_,ak.of hl⟩,?_⟩;refine gD (K:=K0) (a:=l) (xs:=xs) (fun i σ' H'=>H'=H/\∃ (g:Nat) (x2 x3:Option V),g<256/\(∀ s,g.testBit s=jA (cutM s (ts.take i)))/\σ'=[some (.ref l),some (.int ((g:Nat):Int)),x2,x3]) ⟨rfl,0,_,_,by decide,fun s=>by rw [List.take_zero,cutM,Nat.zero_testBit];rfl,rfl⟩ (fun i σ' H' _ h=>by rw [h.1];exact ak.of hl) ?_ ?_
 ·rintro i x σ' H1 hx ⟨rfl,g,x2,x3,hg,hgb,rfl⟩ E1 hN;obtain ⟨t,ht,hO⟩:=hL.get hx;have hmt:=hms t (Qz ht)
  cases hO with
  | plain e _=>cases e
  | @shared p y _ _ hp hS =>
  cases hS with
  | @mk t0 vs _ FI GT =>
  obtain ⟨vr,rfl⟩:=kC GT;refine ⟨p,_,rfl,au.of hp,rfl,_,_,rfl,_,_,rfl,rfl,?_⟩;refine aP 0 rfl FI rfl ⟨rfl,_,rfl,?_⟩;by_cases hw:t.kw="give"
  ·refine cu (Qs (by rw [hw])) ?_;refine ⟨_,rfl,_,rfl,_,_,rfl,rfl,hN _ _ ⟨rfl,g ||| t.mask,some (.int ((t.mask:Nat):Int)),some (.ref t0),qo hg hmt,fun s=>?_,?_⟩⟩
   ·rw [we ht,Nat.testBit_or,hgb,wd,Qs hw];cases t.mask.testBit s<;>simp
   ·rw [<- ly];rfl
  ·refine da hw ?_;refine ⟨_,rfl,_,rfl,g,t.mask,rfl,hN _ _ ⟨rfl,g ^^^ (g &&& t.mask),some (.int ((t.mask:Nat):Int)),some (.ref t0),mN hg,fun s=>?_,rfl⟩⟩;rw [we ht,kJ,hgb,wd,Qj hw];cases t.mask.testBit s<;>simp
 ·rintro σ' H1 ⟨rfl,g,x2,x3,hg,hgb,rfl⟩;rw [Qo (by omega)] at hgb;exact ⟨_,rfl,k g hg hgb⟩
theorem DB {k:Nat} {js:List Nat} {g:TG} {tt:TT} {te:TE} {K:W.Frag} {a:Addr} {xs:List V} {σ:St} {H:Hp} {Q:VK} (Pv:Nat->List V->Hp->Prop) (h0:Pv 0 [] H) (hl:∀ i ys H,i<=xs.length->Pv i ys H->au K H a xs)
  (hs:∀ i x ys H,xs[i]?=some x->Pv i ys H->j3 k js g tt te σ ys (Pv (i+1)) x H)
  (hd:∀ ys H,Pv xs.length ys H->∀ p,H p=none->Q (.ref p) (upd H p (.lst ys))):lz (eF K a) k js g tt te σ H Q:=by
 refine ⟨fun i m ys H=>m=xs.length-i/\i<=xs.length/\Pv i ys H,⟨xs.length,by simp,Qr _,h0⟩,?_⟩;rintro i m ys H ⟨rfl,hi,p⟩;have q:=hl i ys H hi p;by_cases Fl:i<xs.length
 ·refine .inr ⟨⟨xs,xs[i],q,by simp [Fl]⟩,Pv (i+1),fun Ho H' p'=>⟨xs.length-(i+1),by omega,rfl,Fl,p'⟩,fun x H' y=>?_⟩;obtain ⟨e,y⟩:=y;subst e;exact hs i x ys _ (y xs q) p
 ·have e:i=xs.length:=by omega
  subst e;exact .inl ⟨⟨xs,q,Qc _⟩,hd ys H p⟩
noncomputable def env0:Env:=fun _=>none
noncomputable def ix (ps:List (Str × Str)):Env:=ps.foldl (fun ρ q=>fun z=>if z=q.1 then some (some q.2) else ρ z) env0
theorem DE {H:Hp} {m:Nat} (hm:aY m) (pv:List (ae × V)) (ps:List (Str × Str)) (hl:pv.length=ps.length) (hr:∀ (i:Nat) (p:ae × V) (q:Str × Str),pv[i]?=some p->ps[i]?=some q->∃ l,p=(.inr q.1,.ref l)/\KM H l [(m,some q.2)])
  (z:Str):fZ H (a9 (d7 pv) (.inr z)) fun s=>if m.testBit s=true then ix ps z else none:=by
 have go:∀ (pv:List (ae × V)) (ps:List (Str × Str)) (a:List (ae × V)) (ρ:Env),pv.length=ps.length->(∀ (i:Nat) (p:ae × V) (q:Str × Str),pv[i]?=some p->ps[i]?=some q->∃ l,p=(.inr q.1,.ref l)/\KM H l [(m,some q.2)]) ->
   (fZ H (a9 a (.inr z)) fun s=>if m.testBit s=true then ρ z else none) ->
   fZ H (a9 (pv.foldl (fun q p=>ba q p.1 p.2) a) (.inr z)) fun s=>if m.testBit s=true then ps.foldl (fun ρ q=>fun z=>if z=q.1 then some (some q.2) else ρ z) ρ z else none:=fun pv=>by
  induction pv with
  | nil=>intro ps a ρ hl _ h;cases ps with | nil=>exact h | cons _ _=>simp at hl
  | cons p pv ih =>
   intro ps a ρ hl hr h
   cases ps with
   | nil=>simp at hl
   | cons q ps =>
    obtain ⟨l,rfl,hK⟩:=hr 0 p q rfl rfl;simp only [List.foldl_cons];refine ih ps _ _ (by simpa using hl) (fun i p' q' h1 h2=>hr (i+1) p' q' (by simpa using h1) (by simpa using h2)) ?_;rw [j4];by_cases hz:z=q.1
    ·rw [if_pos (by rw [hz]),if_pos hz];exact ⟨_,Rp.one hm _,.inr ⟨l,rfl,hK⟩⟩
    ·rw [if_neg (fun e=>hz (by injection e)),if_neg hz];exact h
 exact go pv ps [] env0 hl hr ⟨[],⟨fun q h=>by simp at h,fun s=>by rw [mK];split<;>rfl⟩,.inl ⟨rfl,rfl⟩⟩
theorem wj:∀ {ts:List Tr} {i:Nat} {t:Tr},ts[i]?=some t->cnts (ts.take (i+1))=cnts (ts.take i)+t.cnt/\cnts (ts.take i)+t.cnt<=cnts ts
 | x::ts,0,t,h=>by cases (show some x=some t from h);simp [cnts]
 | x::ts,i+1,t,h=>by obtain ⟨a,b⟩:=wj (ts:=ts) (i:=i) h;simp [cnts,a];omega
theorem wk {t:Tr} {bs:List Tr} (h:bs∈t.blocks):aW.b bs∈t.parts:=by
 have:aW.b bs∈t.parts.filter eD:=by rw [vc];exact List.mem_map.mpr ⟨bs,h,rfl⟩
 exact (List.mem_filter.mp this).1
theorem wl:∀ {bs:List (List Tr)} {i:Nat} {b:List Tr},bs[i]?=some b->((bs.take (i+1)).map cnts).sum=((bs.take i).map cnts).sum+cnts b/\((bs.take i).map cnts).sum+cnts b<=(bs.map cnts).sum
 | x::bs,0,b,h=>by cases (show some x=some b from h);simp
 | x::bs,i+1,b,h=>by obtain ⟨a,c⟩:=wl (bs:=bs) (i:=i) h;simp only [List.take_succ_cons,List.map_cons,List.sum_cons,a];omega
abbrev db:=Env × (Nat->Str->Prop)
noncomputable def eT (tt:List Tr) (du:Kd) (t:Tr) (e:Ex) (q:db):db:=(jy t q.1 (cM tt q.1 e),fun r w=>q.2 r w∨(r=t.row/\(cg tt q.1 e w∨f7 t q.1 du (cM tt q.1 e) w)))
def gI (r:Nat) (b:List Tr) (P:Nat->Str->Prop):Nat->Str->Prop:=fun r' w=>P r' w∨(r'=r/\w="give"/\jA b=false)
mutual
noncomputable def cA (tt:List Tr) (du:Kd):Tr->db->db
 | .set m r n e,q=>eT tt du (.set m r n e) e q
 | .tell m r e,q=>eT tt du (.tell m r e) e q
 | .give m r e,q=>eT tt du (.give m r e) e q
 | .iff m r e b o,q=>kfTs tt du o (kfTs tt du b (eT tt du (.iff m r e b o) e q))
 | .whl m r e b,q=>kfTs tt du b (eT tt du (.whl m r e b) e q)
 | .df _ r _ k ps b,q=>(q.1,(kfTs tt (some k) b (ix ps,gI r b q.2)).2)
 | .kd _ _ _ _,q=>q
noncomputable def kfTs (tt:List Tr) (du:Kd):List Tr->db->db
 | [],q=>q
 | t::ts,q=>kfTs tt du ts (cA tt du t q)
end
theorem wm (tt:List Tr) (du:Kd):∀ (a b:List Tr) (q:db),kfTs tt du (a++b) q=kfTs tt du b (kfTs tt du a q)
 | [],_,_=>by simp [kfTs]
 | t::a,b,q=>by show kfTs tt du (a++b) (cA tt du t q)=kfTs tt du b (kfTs tt du a (cA tt du t q));exact wm tt du a b _
theorem DF (tt:List Tr) (du:Kd) (s:Nat) {t:Tr} {e:Ex} (h:t.ex=some e) (q:db):cA tt du (aA s t) q=t.blocks.foldl (fun q b=>kfTs tt du (cutM s b) q) (eT tt du t e q):=by cases t<;>first | (cases h;simp [aA,cA,Tr.blocks,eT,jy,f7,Tr.row];done) | cases h
theorem wn {tt:List Tr} {du:Kd} {s:Nat}:∀ {bs:List (List Tr)} {q:db},(∀ b∈bs,cutM s b=[])->bs.foldl (fun q b=>kfTs tt du (cutM s b) q) q=q
 | [],_,_=>rfl
 | b::bs,q,h=>by rw [List.foldl_cons,h b (by simp),kfTs];exact wn fun x hx=>h x (by simp [hx])
noncomputable def cw (m:Nat) (q g:Nat->db):Nat->db:=fun s=>if m.testBit s=true then g s else q s
theorem DH (tt:Nat->List Tr) (du:Kd) {ts:List Tr} {i:Nat} {t:Tr} (h:ts[i]?=some t) (q:Nat->db):(fun s=>kfTs (tt s) du (cutM s (ts.take (i+1))) (q s))=cw t.mask (fun s=>kfTs (tt s) du (cutM s (ts.take i)) (q s)) fun s=>cA (tt s) du (aA s t) (kfTs (tt s) du (cutM s (ts.take i)) (q s)):=by
 obtain ⟨hi,e⟩:=Qh h;funext s;unfold cw;rw [Qi hi,e,gA,wm,ik];split
 ·rw [kfTs,kfTs]
 ·rw [kfTs]
theorem m6 {m s:Nat} (h:¬ m.testBit s=true):m.testBit s=false:=by cases e:m.testBit s with | true=>exact absurd e h | false=>rfl
theorem DI (tt:Nat->List Tr) (du:Kd) {t:Tr} {e:Ex} (h:t.ex=some e) (ha:t.asc) (q:Nat->db):(fun s=>t.blocks.foldl (fun q b=>kfTs (tt s) du (cutM s b) q) (cw t.mask q (fun s=>eT (tt s) du t e (q s)) s))=cw t.mask q fun s=>cA (tt s) du (aA s t) (q s):=by
 funext s;unfold cw;by_cases hb:t.mask.testBit s=true
 ·rw [if_pos hb,if_pos hb];exact (DF _ _ _ h _).symm
 ·rw [if_neg hb,if_neg hb];exact wn fun b hm=>oW (fT ha (wk hm)).2.1 (m6 hb)
theorem DJ {tt:Nat->List Tr} {du:Kd} {t:Tr} {e:Ex} {q:Nat->db} {m:Nat}:bj m t.row (bj m t.row (fun s=>(q s).2) fun s=>cg (tt s) (q s).1 e) (fun s=>f7 t (q s).1 du (cM (tt s) (q s).1 e))=fun s=>(cw m q (fun s=>eT (tt s) du t e (q s)) s).2:=by
 rw [mV fun s w=>Iff.rfl];funext s r w;unfold cw bj;by_cases hb:m.testBit s=true
 ·rw [if_pos hb];exact propext (or_congr Iff.rfl ⟨fun z=>z.2,fun z=>⟨hb,z⟩⟩)
 ·rw [if_neg hb];exact propext ⟨fun z=>z.elim id fun z=>absurd z.1 hb,.inl⟩
theorem DK {tt:Nat->List Tr} {du:Kd} {t:Tr} {e:Ex} {q:Nat->db} {m:Nat}:(fun s=>jy t (q s).1 (bE m (fun s=>cM (tt s) (q s).1 e) s))=fun s=>(cw m q (fun s=>eT (tt s) du t e (q s)) s).1:=by
 funext s;unfold cw bE;by_cases hb:m.testBit s=true
 ·rw [if_pos hb,if_pos hb];rfl
 ·rw [if_neg hb,if_neg hb]
  cases t with
  | set _ _ z _ =>
   funext x;show jx (q s).1 z none x=_;unfold jx;by_cases hx:x=z
   ·rw [if_pos hx,Option.or_none,hx]
   ·rw [if_neg hx]
  | _=>rfl
theorem DL {t:Tr} (h:t.asc) {e:Ex} (q:t.ex=some e):e.fit:=by
 cases t with
 | set m r n e=>cases q;exact h
 | tell m r e=>cases q;exact h
 | iff m r e b o=>cases q;exact h.1
 | whl m r e b=>cases q;exact h.1
 | give m r e=>cases q;exact h
 | _=>cases q
inductive iy (C:Addr) (k:Nat) (vs:List V) (H:Hp) (Q:VK) (E:XK):Prop
 | mk:∀ (o dx d2 d3 l:Addr) (F:List (List ae × V)) (tt:Nat->List Tr) (n:Nat) (xs:List V) (ts:List Tr) (du:Kd) (q:Nat->db),vs=[.ref o,.ref l,.ref d3,bM du]->H l=some (.lst xs)->LAt H true xs ts->deeps ts<k->ascs ts->bv H C o dx d2 F (fun s=>(q s).2)->dS H F tt->cv H d3 (fun s=>(q s).1) n->n+cnts ts<800->cnts ts<700->(∀ H',dF d3 H H'->bv H' C o dx d2 F (fun s=>(kfTs (tt s) du (cutM s ts) (q s)).2)->cv H' d3 (fun s=>(kfTs (tt s) du (cutM s ts) (q s)).1) (n+cnts ts)->Q .non H')->iy C k vs H Q E
inductive wo (C:Addr) (k:Nat) (vs:List V) (H:Hp) (Q:VK) (E:XK):Prop
 | mk:∀ (o dx d2:Addr) (F:List (List ae × V)) (tt:Nat->List Tr) (v:V) (m r:Nat) (z kd:Str) (ps:List (Str × Str)) (b:List Tr) (fs:bQ),vs=[.ref o,.int ((m:Nat):Int),v]->bi H true v (.df m r z kd ps b)->aY m->r<200->(Tr.df m r z kd ps b).asc->deeps b<k->bv H C o dx d2 F fs->dS H F tt->cnts b<700->(∀ H',bH H H'->bv H' C o dx d2 F (fun s=>if m.testBit s=true then (kfTs (tt s) (some kd) (cutM s b) (ix ps,gI r (cutM s b) (fs s))).2 else fs s)->Q .non H')->wo C k vs H Q E
noncomputable abbrev wp:List Str:=["self","mask","one"]
theorem wq:aT wp ["self","mask","one"] (aI mC):=by decide +kernel
theorem DM (T:All P w K mg AA DD) (k:Nat) (GY:aB P w K mg base aE (2*k+28) AA.Zb DD.Zb ["self","statements","names","due"] (iy AA.c_KindLook k)) :
  aB P w K mg base aE (2*k+29) AA.Zd DD.Zd ["self","mask","one"] (wo AA.c_KindLook k):=by
 have GO:=kK (base:=base) T;have GN:=kA (base:=base) T;have GGV:=DA (base:=base) T;refine T.z_Zd.F.ok wq (fun vs H Q E h=>by cases h;subst_vars;rfl) fun Fk A outer s H vs Q E hr h=>?_;obtain ⟨o,dx,d2,F,tt,v,m,r,z,kd,ps,b,fs,rfl,hS,hm,Gj,⟨GT,_,hsb,ha⟩,hd,hk,hF,hc,kq⟩:=h;have nd:=wq.nd;have Jf:ar (2*k+28) _:=hr;have Fm:ar 2 _:=Jf.mono (by omega);have Fw:ar 1 _:=Jf.mono (by omega);obtain ⟨t0,vp,lb,zs,ev,FI,hp,hlb,hLb⟩:=mH hS;subst ev;refine ⟨_,(ai (bO (cy (pv 0) T.cl_KindLook T.M_Zm GO Fm T.z_Zm.b .nil cj (aa (ao GN Fw rfl T.z_ZP (aa (pv 1) (aa (ao GGV Fm rfl T.z_ZZ (aa (aO (pv 2)) ab)) ab))) (aa (aO (pv 2)) (aa ap ab)))) (by rfl)) (aj (bO (cy (pv 0) T.cl_KindLook T.M_Zb GY Jf T.z_Zb.b .nil cj (aa (aO (pv 2)) (aa (iO (oF true rfl) rfl T.n_dict oC (aa (iU (xs:=["name","kind"]) (aI mC) wp ["mask"] [1] rfl (by decide +kernel) rfl rfl (kr (aO (pv 2))) (fun _ _ _ _=>(c8 (n:=2) rfl (bm (a8 (i:=0) (show (["name","kind","mask"]:List Str).Nodup by decide +kernel) rfl (Or.inl rfl)) (bm (a8 (i:=1) (show (["name","kind","mask"]:List Str).Nodup by decide +kernel) rfl (Or.inl rfl)) cQ)))) (fun _ _ _ _=>fq) (fun _ _ _ _=>(aF (aa (pv 0) (aa (bG (aa (aF (aa (pv 2) (aa (pv 1) ab))) ab)) ab))))) ab)) (aa (aO (pv 2)) ab)))) (by rfl)))),?_⟩;obtain ⟨d1,hi,_⟩:=hk.ins;refine ⟨_,rfl,o,dx,_,rfl,hi,rfl,_,rfl,aP 5 rfl FI rfl ?_⟩;refine ⟨lb,zs,b,rfl,hlb,hLb,fun t ht=>(gz ha ht).1.1.2,fun g hg hgb=>⟨m,g,rfl,?_⟩⟩;refine aP 1 rfl FI rfl ?_;refine ⟨o,dx,d2,F,fs,m ^^^ (m &&& g),r,"give",rfl,hk,mN hm.2,Gj,by decide,fun H1 l1 Fo=>?_⟩
 have efs:bj (m ^^^ (m &&& g)) r fs (fun _ x=>x="give")=fun s=>if m.testBit s=true then gI r (cutM s b) (fs s) else fs s:=by
  funext s r' w;unfold bj gI;rw [kJ,hgb];by_cases hb:m.testBit s=true
  ·rw [if_pos hb,hb,Bool.true_and];refine propext (or_congr Iff.rfl ⟨fun hsl98=>by obtain ⟨a,b,c⟩:=hsl98;exact ⟨b,c,by simpa using a⟩,fun hsl99=>by obtain ⟨b,c,a⟩:=hsl99;exact ⟨by simpa using a,b,c⟩⟩)
  ·rw [if_neg hb,m6 hb,Bool.false_and];exact propext ⟨fun z=>z.elim id (fun z=>nomatch z.1),.inl⟩
 rw [efs] at Fo;dsimp only [aK];obtain ⟨tp,us,rfl,htp,HU,huat⟩:=hp.kept l1.ls;obtain ⟨d1',G8,_⟩:=Fo.ins;have Fu:=l1.ls.1 _ _ FI;have hlb1:=l1.ls.2 _ _ hlb;have hLb1:=hLb.kept l1.ls;refine ⟨_,rfl,o,dx,_,rfl,G8,rfl,aP 5 rfl Fu rfl ?_⟩;refine aP 4 rfl Fu rfl ⟨tp,rfl,⟨_,au.of htp⟩,?_⟩
 refine DB (K:=K0) (a:=tp) (xs:=us.map V.ref) (fun i ys H'=>Same H1 H'/\i<=us.length/\∃ (ts:List Addr) (pv:List (ae × V)),ys=ts.map V.ref/\ts.length=i/\pv.length=i/\(∀ (j:Nat) (t:Addr) (p:ae × V),ts[j]?=some t->pv[j]?=some p->H' t=some (.tup [kV p.1,p.2]))/\∀ (j:Nat) (p:ae × V) (q:Str × Str),pv[j]?=some p->ps[j]?=some q->∃ l,p=(.inr q.1,.ref l)/\KM H' l [(m,some q.2)])
  ⟨Same.refl _,Qr _,[],[],rfl,rfl,rfl,fun j t p h=>by simp at h,fun j p q h=>by simp at h⟩ (fun i ys H' _ h=>au.of (h.1 _ _ htp)) ?_ ?_
 ·rintro i x ys H2 hx ⟨s2,hi2,ts,pv,rfl,htl,F8,Jp,hpat⟩;obtain ⟨Hr,ex⟩:=gE hx;subst ex;have He:i<ps.length:=by omega
  have hu2:=s2 _ _ (huat i us[i] ps[i] (Qa Hr) (Qa He));intro os F4;obtain ⟨o1,o2,rfl⟩:=gC F4;refine ⟨us[i],_,rfl,au.of hu2,rfl,_,_,rfl,_,_,rfl,rfl,⟨[_,_],rfl,rfl⟩,?_⟩;refine fm ?_;rw [if_pos rfl];refine ⟨_,rfl,_,rfl,_,rfl,aM,fun q1 hq1=>⟨cO,fun q2 FX=>⟨aM,fun q3 hq3=>?_⟩⟩⟩;have s3:=ag (o:=.tup [.int ((m:Nat):Int),.str ps[i].2]) hq1;have s4:=ag (o:=.lst [.ref q1]) FX;have s5:=ag (o:=.tup [.str ps[i].1,.ref q2]) hq3;have s345:=(s3.trans s4).trans s5;refine ⟨by rw [Qe];exact bX (by omega),s2.trans s345,by omega,ts++[q3],pv++[(.inr ps[i].1,.ref q2)],by simp,by simp [htl],by simp [F8],fun j t p h1 h2=>?_,fun j p q h1 h2=>?_⟩
  ·by_cases hj:j<i
   ·rw [QI (by omega)] at h1 h2;exact s345 _ _ (Jp j t p h1 h2)
   ·have hj0:j=i:=by have:=(Qh h1).1;simp at this;omega
    subst hj0;rw [QF (by omega)] at h1 h2;have e1:t=q3:=by simpa [htl] using h1.symm
    have e2:p=(.inr ps[j].1,.ref q2):=by simpa [F8] using h2.symm
    subst e1 e2;exact af
  ·by_cases hj:j<i
   ·rw [QI (by omega)] at h1;obtain ⟨l,e,hK⟩:=hpat j p q h1 h2;exact ⟨l,e,hK.kept s345.ls⟩
   ·have hj0:j=i:=by have:=(Qh h1).1;simp at this;omega
    subst hj0;rw [QF (by omega)] at h1;have e2:p=(.inr ps[j].1,.ref q2):=by simpa [F8] using h1.symm
    rw [Qa He] at h2;have e3:=Qp h2;subst e2 e3;exact ⟨q2,rfl,bu.one (q:=(m,bM (some ps[j].2))) (s5 _ _ af) (s5 _ _ (s4 _ _ af))⟩
 ·rintro ys H2 ⟨s2,_,ts,pv,rfl,htl,F8,Jp,hpat⟩ q hq;rw [Qe] at htl F8;have sq:=ag (o:=.lst (ts.map V.ref)) hq;refine ⟨q,ts,pv,rfl,af,by omega,fun j t p h1 h2=>sq _ _ (Jp j t p h1 h2),fun d3 hd3=>?_⟩;have s4:=sq.trans (ag (o:=.dK (d7 pv)) hd3);have s3:=s2.trans s4;have lk3:=bV s3;have Ib:H1 d3=none:=Same.free (s2.trans sq) hd3;refine aP 3 rfl (s3 _ _ Fu) rfl ?_;refine ⟨o,dx,d2,d3,lb,F,tt,ps.length,zs,b,some kd,fun s=>(fun z=>if m.testBit s=true then ix ps z else none,if m.testBit s=true then gI r (cutM s b) (fs s) else fs s),rfl,s3 _ _ hlb1,hLb1.kept s3.ls,hd,ha,Fo.same s3,(hF.kept l1.ls).kept s3.ls,⟨d7 pv,af,?_,?_⟩,by omega,hc,fun H4 l4 Fn _=>?_⟩
  ·have:=oE pv;omega
  ·exact DE hm pv ps (by omega) fun i p q h1 h2=>by obtain ⟨l,e,hK⟩:=hpat i p q h1 h2;exact ⟨l,e,hK.kept s4.ls⟩
  ·have e4:(fun s=>(kfTs (tt s) (some kd) (cutM s b) (fun z=>if m.testBit s=true then ix ps z else none,if m.testBit s=true then gI r (cutM s b) (fs s) else fs s)).2)=fun s=>if m.testBit s=true then (kfTs (tt s) (some kd) (cutM s b) (ix ps,gI r (cutM s b) (fs s))).2 else fs s:=by
    funext s;by_cases hb:m.testBit s=true
    ·simp only [if_pos hb]
    ·simp only [if_neg hb];rw [oW hsb (m6 hb),kfTs]
   rw [e4] at Fn;exact kq H4 (l1.trans ⟨lk3.ls.trans l4.ls,fun a kv h=>l4.dk _ _ (fun z=>by rw [z,Ib] at h;cases h) (lk3.dk _ _ h)⟩) Fn
noncomputable abbrev DN:List Str:=["self","statements","names","due","mask","one","block"]
theorem qC:aT DN ["self","statements","names","due"] (aI pX):=by decide +kernel
theorem DO (T:All P w K mg AA DD) (k:Nat) (GY:aB P w K mg base aE (2*k+28) AA.Zb DD.Zb ["self","statements","names","due"] (iy AA.c_KindLook k)) :
  aB P w K mg base aE (2*(k+1)+28) AA.Zb DD.Zb ["self","statements","names","due"] (iy AA.c_KindLook (k+1)):=by
 have GKO:=m5 (base:=base) T 8;have GLR:=Dx (base:=base) T;have GX:=CF (base:=base) T;have GK:=CG (base:=base) T;have GLD:=DM (base:=base) T k GY;refine T.z_Zb.F.ok qC (fun vs H Q E h=>by cases h;subst_vars;rfl) fun Fk A outer s H vs Q E hr h=>?_;obtain ⟨o,dx,d2,d3,l,F,tt,n,xs,ts,du,q,rfl,hl,hL,hd,ha,hk,hF,hnm,Ia,hn7,kq⟩:=h;have nd:=qC.nd;have hrL:ar (2*k+29) _:=hr;have Jf:ar (2*k+28) _:=hrL.mono (by omega);have hrK:ar (3*8+3) _:=Jf.mono (by omega);have GQ:ar 4 _:=Jf.mono (by omega);have Fw:ar 1 _:=Jf.mono (by omega);refine ⟨_,(aj (cY PassesOwn.never rfl (cz (pv 1)) (c8 rfl (bm (a8 (i:=4) nd rfl (Or.inl rfl)) (bm (a8 (i:=5) nd rfl (Or.inl rfl)) cQ))) (aj (aX (aN bp (aO (pv 5)) ap (aQ _)) (aj (bO (cy (pv 0) T.cl_KindLook T.M_Zd GLD hrL T.z_Zd.b .nil cj (aa (pv 4) (aa (pv 5) ab))) (by rfl))) (aj (aX (aN eJ (aO (pv 5)) ap (aQ _)) (ai (bO (cy (pv 0) T.cl_KindLook T.M_Ze GLR GQ T.z_Ze.b .nil cj (aa (pv 5) (aa (cy (pv 0) T.cl_KindLook T.M_Zg GKO hrK T.z_Zg.b .nil cj (aa (pv 4) (aa (ao GX Fw rfl T.z_ZQ (aa (pv 5) ab)) (aa (aO (pv 5)) (aa (pv 2) ab))))) (aa (pv 2) (aa (pv 3) ab))))) (by rfl)) (aj (cY PassesOwn.never rfl (cz (ao GK Fw rfl T.z_ZB (aa (pv 5) ab))) (a8 (i:=6) nd rfl (Or.inl rfl)) (aj (bO (cy (pv 0) T.cl_KindLook T.M_Zb GY Jf T.z_Zb.b .nil cj (aa (pv 6) (aa (pv 2) (aa (pv 3) ab)))) (by rfl))) (by intro _;rfl)))) bb)))) (by intro _;rfl))),?_⟩;refine ⟨_,rfl,l,rfl,⟨_,ak.of hl⟩,?_⟩;have Ij:=hL.length;refine gD (K:=K0) (a:=l) (xs:=xs) (fun i σ' H'=>dF d3 H H'/\(∃ x4 x5 x6,σ'=[some (.ref o),some (.ref l),some (.ref d3),some (bM du),x4,x5,x6])/\∃ g:Nat->db,(fun s=>kfTs (tt s) du (cutM s (ts.take i)) (q s))=g/\bv H' AA.c_KindLook o dx d2 F (fun s=>(g s).2)/\cv H' d3 (fun s=>(g s).1) (n+cnts (ts.take i))) ⟨dF.refl _ _,⟨_,_,_,rfl⟩,q,funext fun s=>by rw [List.take_zero,cutM,kfTs],hk,by simpa [cnts] using hnm⟩ (fun i σ' H' _ h=>ak.of (h.1.ls.2 _ _ hl)) ?_ ?_
 ·rintro i x σ' H1 hx ⟨l1,⟨x4,x5,x6,rfl⟩,g,hg,Fo,F2⟩ E1 hN;obtain ⟨t,ht,hO⟩:=hL.get hx;have hO1:=hO.kept l1.ls;have hF1:=hF.kept l1.ls;have hm:t∈ts:=Qz ht;obtain ⟨⟨hom,Gj⟩,hta⟩:=gz ha hm;have hdm:=jm hm;obtain ⟨ft,hnf⟩:=wj ht;have Ix:=DH tt du ht q;rw [hg] at Ix;rw [show (fun s=>cA (tt s) du (aA s t) (kfTs (tt s) du (cutM s (ts.take i)) (q s)))=fun s=>cA (tt s) du (aA s t) (g s) from funext fun s=>by rw [<- hg]] at Ix;rw [Ix,ft] at hN;generalize hnn:n+cnts (ts.take i)=nn at F2;rw [show n+(cnts (ts.take i)+t.cnt)=nn+t.cnt by omega] at hN;have hN':∀ x4 x5 x6 H',dF d3 H H'->bv H' AA.c_KindLook o dx d2 F (fun s=>(cw t.mask g (fun s=>cA (tt s) du (aA s t) (g s)) s).2)->cv H' d3 (fun s=>(cw t.mask g (fun s=>cA (tt s) du (aA s t) (g s)) s).1) (nn+t.cnt)->E1.nx [some (.ref o),some (.ref l),some (.ref d3),some (bM du),x4,x5,x6] H':=fun x4 x5 x6 H' a b c=>hN _ _ ⟨a,⟨_,_,_,rfl⟩,_,rfl,b,c⟩;clear hN Ix hg
  cases hO1 with
  | plain e _=>cases e
  | @shared p y _ _ hp hS =>
  have I0:=hS
  cases hS with
  | @mk t0 vs _ FI GT =>
  obtain ⟨vr,rfl⟩:=kC GT;obtain ⟨d1,hi,_⟩:=Fo.ins;refine ⟨p,_,rfl,au.of hp,rfl,_,_,rfl,_,_,rfl,rfl,?_⟩;refine aP 0 rfl FI rfl ⟨rfl,_,rfl,?_⟩
  cases Hy:t.ex with
  | none =>
   cases t with
   | df m r z kd ps b =>
    refine fV ?_;have hb:deeps b<=(Tr.df m r z kd ps b).deep:=jl (by simp [Tr.parts]);have hcn:(Tr.df m r z kd ps b).cnt=1+cnts b:=by simp [Tr.cnt]
    refine ⟨_,rfl,o,dx,_,rfl,hi,rfl,_,rfl,_,rfl,o,dx,d2,F,tt,.ref t0,m,r,z,kd,ps,b,_,rfl,I0,hom,Gj,hta,by omega,Fo,hF1,by omega,fun H2 l2 Fi=>?_⟩;refine hN' _ _ _ _ (l1.trans l2.d) ?_ ?_
    ·have e2:(fun s=>(cw m g (fun s=>cA (tt s) du (aA s (.df m r z kd ps b)) (g s)) s).2)=fun s=>if m.testBit s=true then (kfTs (tt s) (some kd) (cutM s b) (ix ps,gI r (cutM s b) (g s).2)).2 else (g s).2:=by
      funext s;unfold cw;split
      ·dsimp only;rw [aA,cA]
      ·rfl
     show bv H2 _ _ _ _ _ (fun s=>(cw m g (fun s=>cA (tt s) du (aA s (.df m r z kd ps b)) (g s)) s).2);rw [e2];exact Fi
    ·have e2:(fun s=>(cw m g (fun s=>cA (tt s) du (aA s (.df m r z kd ps b)) (g s)) s).1)=fun s=>(g s).1:=by
      funext s;unfold cw;split
      ·dsimp only;rw [aA,cA]
      ·rfl
     show cv H2 _ (fun s=>(cw m g (fun s=>cA (tt s) du (aA s (.df m r z kd ps b)) (g s)) s).1) _;rw [e2];exact (F2.kept l2).mono (by omega)
   | kd m r z ps =>
    refine bN (Qj (by intro q;injection q with q;exact absurd q (by simp only [Tr.kw];decide +kernel))) ?_;refine aP 0 rfl FI rfl ⟨rfl,_,rfl,?_⟩
    refine bN (by
     show (!decide (V.str "kind"=V.str "kind"))=false
     rw [Qs rfl];rfl) ?_
    have e2:(cw m g fun s=>cA (tt s) du (aA s (.kd m r z ps)) (g s))=g:=by
     funext s;unfold cw;split
     ·dsimp only;rw [aA,cA]
     ·rfl
    have hN2:=hN' (some (.int ((m:Nat):Int))) (some (.ref t0)) x6 H1 l1;rw [show (cw (Tr.kd m r z ps).mask g fun s=>cA (tt s) du (aA s (.kd m r z ps)) (g s))=g from e2] at hN2;exact hN2 Fo (F2.mono (by omega))
   | _=>cases Hy
  | some ee =>
  refine bN (Qj fun z=>(vd Hy).1 (by injection z)) ?_;refine aP 0 rfl FI rfl ⟨rfl,_,rfl,?_⟩
  refine cu (by
   show (!decide (V.str t.kw=V.str "kind"))=true
   rw [Qj fun z=>(vd Hy).2 (by injection z)];rfl) ?_
  have hfit:=DL hta Hy;have hcb:=CC t;refine ⟨_,rfl,o,dx,_,rfl,hi,rfl,_,rfl,_,rfl,o,dx,_,rfl,hi,rfl,_,rfl,?_⟩;refine ⟨_,rfl,.ref t0,t,ee,rfl,I0,Hy,fun x hx=>?_⟩;refine aP 1 rfl FI rfl ⟨_,rfl,o,dx,d2,F,tt,_,x,d3,fun s=>(g s).1,_,ee,t.mask,t.row,rfl,hx,hfit.1,F2,hF1,hfit.2,Fo,hom,Gj,fun p2 ps H2 l2 Fi hK2 hf2=>?_⟩;refine ⟨_,rfl,_,rfl,o,dx,d2,d3,p2,F,_,fun s=>(g s).1,_,t.mask,.ref t0,t,ps,_,du,ee,rfl,I0.kept l2.ls,Hy,hK2,hf2,Fi,F2.kept l2,Gj,by omega,fun H3 l3 Fg GZ=>?_⟩;rw [DJ] at Fg;rw [DK (du:=du)] at GZ;dsimp only;refine ⟨_,rfl,.ref t0,t,rfl,(I0.kept l2.ls).kept l3.ls,fun pb ys H4 s4 hpb FA=>⟨pb,rfl,⟨_,ak.of hpb⟩,?_⟩⟩;have Fn:=Fg.same s4;have IS:=GZ.kept (bV s4);have l4:=(l1.trans l2.d).trans (l3.trans (bV s4).d);have hF4:=hF.kept l4.ls;have Gc:=FA.length;rw [Qe] at Gc;have hfin:=DI tt du Hy hta g;generalize (cw t.mask g fun s=>eT (tt s) du t ee (g s))=g1 at Fn IS hfin;refine gD (K:=K0) (a:=pb) (xs:=ys) (fun j σ' H'=>dF d3 H4 H'/\(∃ x6,σ'=[some (.ref o),some (.ref l),some (.ref d3),some (bM du),some (.int ((t.mask:Nat):Int)),some (.ref t0),x6])/\bv H' AA.c_KindLook o dx d2 F (fun s=>((t.blocks.take j).foldl (fun q b=>kfTs (tt s) du (cutM s b) q) (g1 s)).2)/\cv H' d3 (fun s=>((t.blocks.take j).foldl (fun q b=>kfTs (tt s) du (cutM s b) q) (g1 s)).1) (nn+1+((t.blocks.take j).map cnts).sum)) ⟨dF.refl _ _,⟨_,rfl⟩,by simpa using Fn,by simpa using IS⟩ (fun j σ' H' _ h=>ak.of (h.1.ls.2 _ _ hpb)) ?_ ?_
  ·rintro j v σ' H5 hv ⟨l5,⟨x6',rfl⟩,G7,Jx⟩ E2 hN2;obtain ⟨pp,hpp,hPP⟩:=FA.get hv;rw [Qu] at hpp;obtain ⟨bs,hbs,rfl⟩:=Option.map_eq_some_iff.mp hpp;have hbm:=Qz hbs;obtain ⟨fb,ID⟩:=wl hbs;have hPP:=hPP.kept l5.ls
   cases hPP with
   | @b lb zs _ hlb hLb =>
   obtain ⟨d1,hi5,_⟩:=G7.ins;obtain ⟨hj',ej⟩:=Qh hbs;have e2:∀ s,(t.blocks.take (j+1)).foldl (fun q b=>kfTs (tt s) du (cutM s b) q) (g1 s)=kfTs (tt s) du (cutM s bs) ((t.blocks.take j).foldl (fun q b=>kfTs (tt s) du (cutM s b) q) (g1 s)):=fun s=>by rw [Qi hj',ej,List.foldl_append];rfl
   simp only [e2,fb] at hN2;have hpt:=wk hbm;have hdb:=jl hpt;refine ⟨_,rfl,o,dx,_,rfl,hi5,rfl,_,rfl,_,rfl,_,rfl,o,dx,d2,d3,lb,F,tt,_,zs,bs,du,_,rfl,hlb,hLb,by omega,(fT hta hpt).2.2,G7,hF4.kept l5.ls,Jx,by omega,by omega,fun H' ls IV hn'=>hN2 _ _ ⟨l5.trans ls,⟨_,rfl⟩,IV,hn'.mono (by omega)⟩⟩
  ·rintro σ' H5 ⟨l5,⟨x6',rfl⟩,G7,Jx⟩;rw [Qo (by omega)] at G7 Jx;have e5:∀ s,t.blocks.foldl (fun q b=>kfTs (tt s) du (cutM s b) q) (g1 s)=cw t.mask g (fun s=>cA (tt s) du (aA s t) (g s)) s:=fun s=>congrFun hfin s;simp only [e5] at G7 Jx;exact hN' _ _ _ _ (l4.trans l5) G7 (Jx.mono (by omega))
 ·rintro σ' H1 ⟨l1,⟨x4,x5,x6,rfl⟩,g,hg,Fo,F2⟩;rw [Qo (by omega)] at hg F2;subst hg;exact kq _ l1 Fo F2
theorem DP (T:All P w K mg AA DD):aB P w K mg base aE (2*0+28) AA.Zb DD.Zb ["self","statements","names","due"] (iy AA.c_KindLook 0):=by
 have no:∀ vs H Q E,¬ iy AA.c_KindLook 0 vs H Q E:=fun vs H Q E h=>by obtain ⟨o,dx,d2,d3,l,F,tt,n,xs,ts,du,q,_,_,_,z,_⟩:=h;omega
 exact T.z_Zb.F.ok qC (fun vs H Q E h=>(no _ _ _ _ h).elim) (fun Fk A outer s H vs Q E hr h=>(no _ _ _ _ h).elim)
theorem wt (T:All P w K mg AA DD):∀ k:Nat,aB P w K mg base aE (2*k+28) AA.Zb DD.Zb ["self","statements","names","due"] (iy AA.c_KindLook k)
 | 0=>DP T
 | k+1=>DO T k (wt T k)
inductive wu (C:Addr) (vs:List V) (H:Hp) (Q:VK) (E:XK):Prop
 | mk:∀ (o dx l:Addr) (xs:List V) (ts:List Tr),vs=[.ref o,.ref l]->H o=some (.ins C dx [])->H l=some (.lst xs)->LAt H true xs ts->ts.length<=50->(∀ t∈ts,aY t.mask)->(∀ d2 F H',bo H H'->bv H' C o dx d2 F (fun _ _ _=>False)->dS H' F (fun s=>cutM s ts)->Q .non H')->wu C vs H Q E
theorem cL.nil:cL [] fun _ _ _=>False:=⟨.nil,fun q h=>by simp at h,fun r w s=>by
 show (0:Nat).testBit s=true↔False
 rw [Nat.zero_testBit];simp⟩
noncomputable abbrev DQ:List Str:=["self","tree"]
theorem wv:aT DQ ["self","tree"] (aI pV):=by decide +kernel
theorem DR (T:All P w K mg AA DD):aB P w K mg base aE 3 AA.Zl DD.Zl ["self","tree"] (wu AA.c_KindLook):=by
 have GA:=CU (base:=base) T;refine T.z_Zl.F.ok wv (fun vs H Q E h=>by cases h;subst_vars;rfl) fun Fk A outer s H vs Q E hr h=>?_;obtain ⟨o,dx,l,xs,ts,rfl,ho,hl,hL,h50,hom,kq⟩:=h;have nd:=wv.nd;have Fm:ar 2 _:=hr;refine ⟨_,(ai (rO (pv 0) (ao GA Fm rfl T.z_Zu (aa (pv 1) ab)) rfl) (aj (rO (pv 0) (sW) rfl))),?_⟩;refine ⟨_,rfl,l,xs,ts,rfl,hl,hL,h50,hom,fun d1 F H1 s1 Ib hF=>?_⟩;have Jj:=s1 _ _ ho;refine ⟨_,rfl,o,AA.c_KindLook,dx,_,rfl,Jj,T.cl_KindLook,T.na_KindLook_firsts,(by show 0<1000;decide),?_⟩;refine fun d2 IG=>?_;have s3:=ag (o:=.dT []) IG;refine ⟨_,rfl,o,AA.c_KindLook,dx,_,rfl,s3 _ _ af,T.cl_KindLook,T.na_KindLook_faults,(by show 1<1000;decide),?_⟩;have b1:=ky (ob':=.ins AA.c_KindLook dx [("firsts",.ref d1)]) Jj (fun _ z=>nomatch z) (fun _ z=>nomatch z) fun _ _ z=>nomatch z
 have h3:=s3 _ _ (af (H:=H1) (a:=o) (o:=.ins AA.c_KindLook dx [("firsts",.ref d1)]));have b2:=ky (ob':=.ins AA.c_KindLook dx [("firsts",.ref d1),("faults",.ref d2)]) h3 (fun _ z=>nomatch z) (fun _ z=>nomatch z) fun _ _ z=>nomatch z
 have Fq:d2≠o:=fun z=>by rw [z,af] at IG;cases IG
 have hne1:d1≠o:=fun z=>by rw [z,Jj] at Ib;cases Ib
 have hd12:upd H1 o (.ins AA.c_KindLook dx [("firsts",.ref d1)]) d1=some (.dT F):=by rw [ay hne1];exact Ib
 have hne2:d1≠d2:=fun z=>by rw [<- z] at IG;exact absurd (hd12.symm.trans IG) (fun z=>by cases z)
 refine kq d2 F _ (((s1.ls.trans b1).trans s3.ls).trans b2) ⟨⟨d1,af,?_,hne2⟩,[],?_,cL.nil⟩ (((hF.kept b1).kept s3.ls).kept b2)
 ·rw [ay hne1];exact s3 _ _ hd12
 ·rw [ay Fq,af];rfl
theorem qD {H:Hp}:bP H [] []:=⟨rfl,fun i x d hx=>by simp at hx⟩
theorem qE {H:Hp} {xs ys:List V} {ds es:List (List ae)} (h:bP H xs ds) (g:bP H ys es):bP H (xs++ys) (ds++es):=by
 refine ⟨by rw [QE,QE,h.1,g.1],fun i x d hx hd=>?_⟩;by_cases hi:i<xs.length
 ·rw [QI hi] at hx;rw [QI (by rw [<- h.1];exact hi)] at hd;exact h.2 i x d hx hd
 ·rw [QF (by omega)] at hx;rw [QF (by rw [<- h.1];omega),<- h.1] at hd;exact g.2 _ x d hx hd
theorem gJ {H H':Hp} {xs:List V} {ds:List (List ae)} (h:bP H xs ds) (s:∀ b xs,H b=some (.tup xs)->H' b=some (.tup xs)):bP H' xs ds:=⟨h.1,fun i x d hx hd=>by obtain ⟨t,a,b⟩:=h.2 i x d hx hd;exact ⟨t,a,s _ _ b⟩⟩
theorem qF {H:Hp} {t:Addr} {d:List ae} (h:H t=some (.tup (d.map kV))):bP H [.ref t] [d]:=⟨rfl,fun i x k h1 h2=>by
 cases i with
 | succ i=>simp at h1
 | zero=>cases h1;cases h2;exact ⟨t,rfl,h⟩⟩
theorem ww {fs:List (List ae)} {k:List ae} (h:k∈ca fs):k∈fs:=by obtain ⟨j,hj,e⟩:=QT h;rw [<- e,Qg,Qa (qc j hj)];exact QB _
theorem qG (fs:List (List ae)):(ca fs).length=fs.length:=by unfold ca;rw [Qe,ud]
noncomputable def iA (D:Dm):List (List ae):=(ca (D.map (·.1))).map fun k=>.inl (((valN D k).getD 0:Nat):Int)::k
theorem wx {D:Dm} {k:List ae} (h:k∈D.map (·.1)):∃ n,valN D k=some n:=by
 obtain ⟨q0,hq0,rfl⟩:=QT h;unfold valN
 cases e:D.find? fun q=>decide (q.1=q0.1) with
 | none=>exact absurd (Qs rfl) (List.find?_eq_none.mp e q0 hq0)
 | some q=>exact ⟨q.2,rfl⟩
inductive wy (vs:List V) (H:Hp) (Q:VK) (E:XK):Prop
 | mk:∀ (d:Addr) (D:Dm) (fs:bQ),vs=[.ref d]->H d=some (.dT (dV D))->cL D fs->(∀ p ys H',Same H H'->H' p=some (.lst ys)->bP H' ys (iA D)->Q (.ref p) H')->wy vs H Q E
theorem cL.k2 {D:Dm} {fs:bQ} (h:cL D fs):∀ k∈D.map (·.1),∃ r w,k=kk r w:=fun k hk=>by obtain ⟨q,hq,rfl⟩:=QT hk;exact C2 (h.ok q hq).2
noncomputable abbrev wz:List Str:=["found"]
theorem wA:aT wz ["found"] (aI ml):=by decide +kernel
theorem DS (T:All P w K mg AA DD):aB P w K mg base aE 1 AA.Zt DD.Zt ["found"] wy:=by
 refine T.z_Zt.F.ok wA (fun vs H Q E h=>by cases h;subst_vars;rfl) fun Fk A outer s H vs Q E hr h=>?_;obtain ⟨d,D,fs0,rfl,hd,Hz,kq⟩:=h;have nd:=wA.nd;have hu:=QD (Nat.add_le_add_left (show 1<=64 by decide) _) hr.units;refine ⟨_,(aj (aH (fQ (aI ml) wz ["found"] [0] rfl (by decide +kernel) rfl rfl (cz (di (BW rfl) rfl T.n_sorted BD (aa (pv 0) ab))) (fun _ _ _ _=>fq) (fun _ _ _ _=>(am B2 (aF (aa (cT hu (pv 1) (pv 0) (fun _ _=>rfl)) ab)) (pv 0)))))),?_⟩;have hmp:(dV D).map (·.1)=D.map (·.1):=by unfold dV;rw [List.map_map];rfl
 have FR:=Hz.k2;have hDl:=Hz.len;have hvm:=@wx D;unfold iA at kq;generalize hfs:D.map (·.1)=fs at hmp FR kq hvm;have hfl:fs.length=D.length:=by rw [<- hfs,Qe]
 refine ⟨_,rfl,d,dV D,[true,false],rfl,hd,(by unfold dV;rw [Qe];omega),fun kv hkv=>?_,by simp,fun p xs hp hT=>?_⟩
 ·obtain ⟨r,w,e⟩:=FR kv.1 (by rw [<- hmp];exact List.mem_map.mpr ⟨kv,hkv,rfl⟩);rw [e];rfl
 rw [hmp] at hT ⊢;have s1:=ag (o:=.lst (bZ fs xs)) hp;have hS:=Cb hT;have hsl:=qG fs;refine ⟨p,rfl,⟨_,ak.of af⟩,?_⟩;refine j1 (K:=K0) (a:=p) (xs:=bZ fs xs) (fun i ys H'=>Same (upd H p (.lst (bZ fs xs))) H'/\bP H' ys (((ca fs).take i).map fun k=>.inl (((valN D k).getD 0:Nat):Int)::k)) ⟨Same.refl _,qD⟩ (fun i ys H' _ h=>ak.of (h.1 _ _ af)) ?_ ?_
 ·rintro i x ys H1 hx ⟨sm,FA⟩;have Gq:i<(ca fs).length:=by rw [<- hS.1];exact (Qh hx).1
  obtain ⟨t,rfl,ht⟩:=hS.2 i x (ca fs)[i] hx (Qa Gq);have Gc:=FA.1;rw [Qe,QJ] at Gc;have IN:=ww (QB Gq);have Fu:=sm _ _ (s1 _ _ ht);have Ib:=sm _ _ (s1 _ _ hd);rw [Qi Gq,QU];generalize (ca fs)[i]=k at Fu IN ⊢;obtain ⟨nv,hval⟩:=hvm IN;obtain ⟨r,z,rfl⟩:=FR k IN;refine fm ?_;rw [if_pos rfl];refine ⟨_,rfl,_,rfl,d,.int ((nv:Nat):Int),rfl,by rw [show (some (V.int ((nv:Nat):Int)):Option V)=a9 (dV D) (kk r z) by rw [mT,hval];rfl];exact bz.t Ib Fu,cO,fun q hq=>?_⟩;have s2:=ag (o:=.tup [.int ((nv:Nat):Int)]) hq;refine ⟨_,rfl,q,t,[.int ((nv:Nat):Int)],_,rfl,rfl,au.of af,au.of (s2 _ _ Fu),by simp,(by show 1+2<=sizeLine;decide),fun z=>absurd z (by simp [kk]),fun _ q2 FX=>?_⟩;have s3:=s2.trans (ag (o:=.tup ([.int ((nv:Nat):Int)]++(kk r z).map kV)) FX);refine ⟨bX (by omega),sm.trans s3,qE (gJ FA s3.tups) (qF ?_)⟩;rw [af];dsimp only;rw [hval];rfl
 ·rintro ys H1 ⟨sm,FA⟩ q hq;have s2:=ag (o:=.lst ys) hq;rw [Qo (by rw [hS.1];exact Qc _)] at FA;exact kq q ys _ ((s1.trans sm).trans s2) af (gJ FA s2.tups)
def FK (ts:List Tr):Nat->Str->Prop:=(kfTs ts none ts (env0,fun _ _=>False)).2
def fG (rule:Nat) (ts:List Tr):bQ:=fun s=>if rule.testBit s=true then FK (cutM s ts) else fun _ _=>False
def iB (ts:List Tr):Prop:=deeps ts<5/\ts.length<=40/\ascs ts/\cnts ts<700
inductive wB (vs:List V) (H:Hp) (Q:VK) (E:XK):Prop
 | mk:∀ (l:Addr) (xs:List V) (ts:List Tr) (rule:Nat),vs=[.ref l,.int ((rule:Nat):Int)]->H l=some (.lst xs)->LAt H true xs ts->iB ts->(∀ p ys D H',bo H H'->H' p=some (.lst ys)->bP H' ys (iA D)->cL D (fG rule ts)->Q (.ref p) H')->wB vs H Q E
noncomputable abbrev DT:List Str:=["tree","mask","kept","look"]
theorem wC:aT DT ["tree","mask"] (aI pA):=by decide +kernel
theorem wD (T:All P w K mg AA DD):aB P w K mg base aE 39 AA.Zn DD.Zn ["tree","mask"] wB:=by
 have GF:=uX (base:=base) T 5;have GC:=DR (base:=base) T;have GY:=wt (base:=base) T 5;have GW:=DS (base:=base) T;refine T.z_Zn.F.ok wC (fun vs H Q E h=>by cases h;subst_vars;rfl) fun Fk A outer s H vs Q E hr h=>?_;obtain ⟨l,xs,ts,rule,rfl,hl,hL,⟨hd,h40,ha,hcn⟩,kq⟩:=h;have nd:=wC.nd;have Jf:ar (2*5+28) _:=hr;have hrF:ar 15 _:=Jf.mono (by omega);have GQ:ar 4 _:=hrF.mono (by omega);have FF:ar 3 _:=hrF.mono (by omega);have Fw:ar 1 _:=hrF.mono (by omega);refine ⟨_,(ai (aL (i:=2) nd rfl (Or.inl rfl) (ao GF hrF rfl T.z_Zy (aa (pv 0) (aa (pv 1) ab)))) (ai (aL (i:=3) nd rfl (Or.inl rfl) (zu T.M_KindLook GC GQ rfl T.m_KindLook T.z_Zl.b .nil cj (aa (pv 2) ab))) (ai (bO (cy (pv 3) T.cl_KindLook T.M_Zb GY Jf T.z_Zb.b .nil cj (aa (pv 2) (aa Ar (aa k8 ab)))) (by rfl)) (aj (aH (ao GW Fw rfl T.z_Zt (aa (lu (pv 3) rfl) ab))))))),?_⟩;refine ⟨_,rfl,_,rfl,l,xs,ts,rule,rfl,hl,hL,hd,h40,ha,fun p ys us H1 s1 hp FA FN=>?_⟩;have HU:=FN.len;have hom:∀ t∈us,aY t.mask:=fun t ht=>(gz FN.asc ht).1.1;have hcn2:=FN.cn;have hdp:=FN.dp;dsimp only [aK];refine ⟨_,rfl,fun o dx ho hdx ne=>?_⟩;have s2:Same H1 (upd (upd H1 dx (.own o)) o (.ins AA.c_KindLook dx [])):=(ag (o:=.own o) hdx).trans (ag (by rw [ay (Ne.symm ne)];exact ho));refine ⟨o,dx,p,ys,us,rfl,af,s2 _ _ hp,FA.kept s2.ls,by omega,hom,fun d2 F H3 l3 Fg hF3=>⟨rfl,?_⟩⟩;have GV:=l3.2 _ _ (s2 _ _ hp);have hL3:=(FA.kept s2.ls).kept l3;obtain ⟨d1,hi3,_⟩:=Fg.ins;dsimp only [aK];refine ⟨_,rfl,o,dx,_,rfl,hi3,rfl,_,rfl,fun g hg'=>?_⟩;have s5:=ag (o:=.dK []) hg';refine ⟨o,dx,d2,g,p,F,fun s=>cutM s us,0,ys,us,none,fun s=>(env0,fun _ _=>False),rfl,s5 _ _ GV,hL3.kept s5.ls,by omega,FN.asc,Fg.same s5,hF3.kept s5.ls,⟨[],af,Qc _,fun z=>⟨[],Rp.nil,.inl ⟨rfl,rfl⟩⟩⟩,by omega,by omega,fun H6 l6 IU _=>?_⟩;obtain ⟨d1',hi6,_⟩:=IU.ins;obtain ⟨D,hD,Hz⟩:=IU.flt
 have e6:(fun s=>(kfTs (cutM s us) none (cutM s us) (env0,fun _ _=>False)).2)=fG rule ts:=by
  funext s;unfold fG;by_cases hb:rule.testBit s=true
  ·rw [if_pos hb,<- FN.cut s hb];rfl
  ·rw [if_neg hb,oW FN.sub (m6 hb),kfTs]
 have Hz:cL D (fG rule ts):=e6 ▸ Hz;exact ⟨_,rfl,o,AA.c_KindLook,dx,_,_,rfl,hi6,T.cl_KindLook,T.na_KindLook_faults,rfl,d2,D,_,rfl,hD,Hz,fun q zs H7 s7 hq hT=>kq q zs D H7 (((((s1.trans s2).ls.trans l3).trans s5.ls).trans l6.ls).trans s7.ls) hq hT Hz⟩
theorem DU {fs:List (List ae)} (hj:∀ j,j<fs.length->j∈cC fs) {k:List ae} (h:k∈fs):k∈ca fs:=by obtain ⟨j,hl,e⟩:=List.getElem_of_mem h;unfold ca;refine List.mem_map.mpr ⟨j,hj j hl,?_⟩;rw [Qg,Qa hl];exact e
theorem m7 {D:Dm} {fs:bQ} (h:cL D fs):(ca (D.map (·.1))).Pairwise (fun x y=>bg x y=true)/\∀ k,k∈ca (D.map (·.1))↔k∈D.map (·.1):=by
 obtain ⟨u1,u2,u3⟩:=uk (ds:=D.map (·.1)) (sh:=[true,false]) (fun d hd=>by obtain ⟨r,w,rfl⟩:=h.k2 d hd;rfl) h.nd;exact ⟨u1,fun k=>⟨ww,DU u3⟩⟩
theorem cL.mem {D:Dm} {fs:bQ} (h:cL D fs) {r:Nat} {w:Str}:kk r w∈D.map (·.1)↔∃ s,fs s r w:=by
 constructor
 ·intro hk;obtain ⟨q,hq,e⟩:=QT hk;obtain ⟨n,hn⟩:=wx hk;unfold valN at hn;obtain ⟨q2,FX,e2⟩:=Option.map_eq_some_iff.mp hn;have h0:=(h.ok q2 (List.mem_of_find?_eq_some FX)).1.1;refine ⟨dC q2.2,(h.bit r w _).mp ?_⟩;unfold valN;rw [FX];exact lV (Nat.ne_of_gt h0)
 ·rintro ⟨s,hs⟩;have hb:=(h.bit r w s).mpr hs;unfold valN at hb
  cases e:D.find? fun q=>decide (q.1=kk r w) with
  | none=>rw [e] at hb;simp at hb
  | some q =>
   have h0:=List.find?_some e;exact List.mem_map.mpr ⟨q,List.mem_of_find?_eq_some e,of_decide_eq_true h0⟩
def wE (ts:List Tr) (ks:List (List ae)):Prop:=ks.Pairwise (fun x y=>bg x y=true)/\(∀ k∈ks,∃ r w,k=kk r w)/\∀ r w,kk r w∈ks↔FK ts r w
inductive wF (vs:List V) (H:Hp) (Q:VK) (E:XK):Prop
 | mk:∀ (l:Addr) (xs:List V) (ts:List Tr),vs=[.ref l]->H l=some (.lst xs)->LAt H false xs ts->iB ts->(∀ p ys ks H',bo H H'->H' p=some (.lst ys)->bP H' ys ks->wE (cutM 0 ts) ks->Q (.ref p) H')->wF vs H Q E
noncomputable abbrev wG:List Str:=["tree"]
theorem wH:aT wG ["tree"] (aI my):=by decide +kernel
theorem DV (T:All P w K mg AA DD):aB P w K mg base aE 40 AA.Zq DD.Zq ["tree"] wF:=by
 have GF:=uP (base:=base) T 5;have GS:=wD (base:=base) T;refine T.z_Zq.F.ok wH (fun vs H Q E h=>by cases h;subst_vars;rfl) fun Fk A outer s H vs Q E hr h=>?_;obtain ⟨l,xs,ts,rfl,hl,hL,hok,kq⟩:=h;have nd:=wH.nd;have hrS:ar 39 _:=hr;have hrF:ar 11 _:=hrS.mono (by omega);refine ⟨_,(aj (aH (iU (xs:=["mask","at","what"]) (aI my) wG [] [] rfl (by decide +kernel) rfl rfl (cz (ao GS hrS rfl T.z_Zn (aa (ao GF hrF rfl T.z_ZA (aa (pv 0) ab)) (aa ah ab)))) (fun _ _ _ _=>(AB (K:=K) (n:=3) rfl rfl (bm (a8 (i:=0) (show (["mask","at","what"]:List Str).Nodup by decide +kernel) rfl (Or.inl rfl)) (bm (a8 (i:=1) (show (["mask","at","what"]:List Str).Nodup by decide +kernel) rfl (Or.inl rfl)) (bm (a8 (i:=2) (show (["mask","at","what"]:List Str).Nodup by decide +kernel) rfl (Or.inl rfl)) cQ))))) (fun _ _ _ _=>fq) (fun _ _ _ _=>(aF (aa (pv 1) (aa (pv 2) ab))))))),?_⟩;refine ⟨_,rfl,l,xs,ts,rfl,hl,hL,hok.1,hok.2.1,hok.2.2.1,fun p ys H1 s1 hp FA=>?_⟩;refine ⟨p,ys,ts,1,rfl,hp,FA,hok,fun q zs D H2 l2 hq hT Hz=>?_⟩;obtain ⟨f1,f2⟩:=m7 Hz;have FR:∀ k∈ca (D.map (·.1)),∃ r w,k=kk r w:=fun k hk=>Hz.k2 k ((f2 k).mp hk)
 have IN:∀ r w,kk r w∈ca (D.map (·.1))↔FK (cutM 0 ts) r w:=fun r w=>by
  rw [f2,Hz.mem];unfold fG;constructor
  ·rintro ⟨s,hs⟩;by_cases h0:s=0
   ·subst h0;rw [if_pos (by decide)] at hs;exact hs
   ·rw [if_neg (by rw [show (1:Nat)=2 ^ 0 from rfl,Nat.testBit_two_pow];simp;omega)] at hs;exact hs.elim
  ·exact fun h=>⟨0,by rw [if_pos (by decide)];exact h⟩
 have hll:=qG (D.map (·.1));rw [Qe] at hll;have hDl:=Hz.len;unfold iA at hT;generalize ca (D.map (·.1))=ks at hT f1 f2 FR IN hll;refine ⟨q,rfl,⟨_,ak.of hq⟩,?_⟩;have hzl:=hT.1;rw [Qe] at hzl;refine oy (K:=K0) (a:=q) (xs:=zs) (fun i ys H'=>Same H2 H'/\bP H' ys (ks.take i)) ⟨Same.refl _,qD⟩ (fun i ys H' _ h=>ak.of (h.1 _ _ hq)) ?_ ?_
 ·rintro i x us H3 hx ⟨sm,GJ⟩;have Gq:i<ks.length:=by rw [<- hzl];exact (Qh hx).1
  obtain ⟨t,rfl,ht⟩:=hT.2 i x _ hx (by rw [Qu,Qa Gq];rfl);have HU:=GJ.1;rw [QJ] at HU;have ek:=FR _ (QB Gq);rw [Qi Gq];generalize ks[i]=k at ht ek ⊢;obtain ⟨r,z,rfl⟩:=ek;intro os F4;obtain ⟨a1,b1,c1,rfl⟩:=BY F4;refine ⟨t,_,rfl,au.of (sm _ _ ht),rfl,_,_,rfl,_,_,rfl,_,_,rfl,rfl,⟨[_,_,_],rfl,rfl⟩,?_⟩;refine fm ?_;rw [if_pos rfl];refine ⟨_,rfl,_,rfl,aM,fun q2 FX=>?_⟩;have s3:=ag (o:=.tup ((kk r z).map kV)) FX;exact ⟨lw (by omega),sm.trans s3,qE (gJ GJ s3.tups) (qF af)⟩
 ·rintro us H3 ⟨sm,GJ⟩ q3 hq3;have s3:=ag (o:=.lst us) hq3;rw [Qo (by omega)] at GJ;exact kq q3 us ks _ (((s1.ls.trans l2).trans sm.ls).trans s3.ls) af (gJ GJ s3.tups) ⟨f1,FR,IN⟩
end
theorem wI (a b:Str):(a++b).length=a.length+b.length:=Array.size_append ..
theorem m8 (c:Nat):(⟨#[c]⟩:Str).length=1:=rfl
theorem DW (z:Str):z.cps.toList.length=z.length:=by simp [Str.length]
theorem dX {a:Int} {n:Nat} (h:0<n):∃ j:Nat,a % (n:Int)=(j:Int)/\j<n:=⟨(a % (n:Int)).toNat,by
 have:=Int.emod_nonneg a (show (n:Int)≠0 by omega)
 omega,by
 have:=Int.emod_nonneg a (show (n:Int)≠0 by omega);have:=Int.emod_lt_of_pos a (show (0:Int)<(n:Int) by omega)
 omega⟩
section
variable {P:Program} {w:World} {K:W.Frag} {mg:Str->Option Value} {base:Heap} {AA:p8} {DD:qb}
noncomputable def f8 (ns:List Int) (j:Nat):Int:=ns.getD j 0
inductive wJ (K:W.Frag) (vs:List V) (H:Hp) (Q:VK) (E:XK):Prop
 | mk:∀ (a:Addr) (ns:List Int) (j:Nat),vs=[.ref a,.int ((j:Nat):Int)]->ak K H a (ns.map V.int)->Q (.int (f8 ns j)) H->wJ K vs H Q E
noncomputable abbrev DX:List Str:=["_law_script","_law_k"]
theorem wK:aT DX ["_law_script","_law_k"] (aI pB):=by decide +kernel
theorem wL (T:All P w K mg AA DD):aB P w K mg base aE 1 AA.Zr DD.Zr ["_law_script","_law_k"] (wJ K):=by
 refine T.z_Zr.F.ok wK (fun vs H Q E h=>?_) (fun Fk A outer s H vs Q E hr h=>?_)
 ·obtain ⟨a,ns,k,rfl,_⟩:=h;rfl
 ·obtain ⟨a,ns,j,rfl,hS,k⟩:=h;have nd:=wK.nd;refine ⟨_,(ai (aX (aN gk (pv 1) (di nZ rfl T.n_len hX (aa (pv 0) ab)) (aQ _)) (aj (aH (cB (sI (K:=K) rfl) (pv 0) (pv 1) (fun _ _=>rfl)))) bb) (aj (aH ah))),?_⟩;refine ⟨_,rfl,_,rfl,a,_,rfl,.inl hS,_,_,rfl,rfl,_,rfl,?_⟩;rw [Qe];unfold f8 at k;refine bT (fun h1=>?_) (fun h1=>?_)
  ·have h1:((j:Nat):Int)<(ns.length:Int):=of_decide_eq_true h1;refine ⟨_,rfl,_,rfl,a,_,_,_,rfl,rfl,hS,bn (j:=j) (by rw [Qu,Qa (by omega)];rfl),?_⟩;rw [Qg,Qa (by omega)] at k;exact k
  ·have h1:¬((j:Nat):Int)<(ns.length:Int):=fun z=>h1 (Qs z);rw [Qg,List.getElem?_eq_none (by omega)] at k;exact k
noncomputable def jB (c k:Int):Int:=((c+7919*k+1)*48271 % 2147483647)*((c+7919*k+1)*48271 % 2147483647 / 1009+69621) % 2147483647
inductive wM (vs:List V) (H:Hp) (Q:VK) (E:XK):Prop
 | mk:∀ c k:Int,vs=[.int c,.int k]->Q (.int (jB c k)) H->wM vs H Q E
noncomputable abbrev DY:List Str:=["_law_cell","_law_k","_law_number_here"]
theorem wN:aT DY ["_law_cell","_law_k"] (aI pE):=by decide +kernel
theorem DZ (T:All P w K mg AA DD):aB P w K mg base aE 1 AA.ZD DD.ZD ["_law_cell","_law_k"] wM:=by
 refine T.z_ZD.F.ok wN (fun vs H Q E h=>?_) (fun Fk A outer s H vs Q E hr h=>?_)
 ·obtain ⟨c,k,rfl,_⟩:=h;rfl
 ·obtain ⟨c,j,rfl,k⟩:=h;have nd:=wN.nd;unfold jB at k;refine ⟨_,(ai (aL (i:=2) nd rfl (Or.inl rfl) (am bx (am gj (am bS (am bS (pv 0) (am gj ah (pv 1))) ah) ah) ah)) (aj (aH (am bx (am gj (pv 2) (am bS (am rE (pv 2) ah) ah)) ah)))),?_⟩;refine ⟨_,rfl,_,rfl,_,_,rfl,rfl,.inl ⟨by decide,by decide⟩,_,_,rfl,rfl,_,_,rfl,rfl,_,_,rfl,rfl,.inr ⟨by decide,by decide⟩,_,_,rfl,rfl,(by show (0:Int)<2147483647;decide),?_⟩
  try dsimp only [aK]
  have b0:=Int.emod_nonneg ((c+7919*j+1)*48271) (show (2147483647:Int)≠0 by decide);have b1:=Int.emod_lt_of_pos ((c+7919*j+1)*48271) (show (0:Int)<2147483647 by decide);generalize (c+7919*j+1)*48271 % 2147483647=y at b0 b1 k ⊢;exact ⟨_,rfl,_,rfl,_,_,rfl,rfl,⟨by decide,by decide⟩,_,_,rfl,rfl,_,_,rfl,rfl,.inl ⟨by omega,by omega⟩,_,_,rfl,rfl,(by show (0:Int)<2147483647;decide),k⟩
theorem D0:bootBuiltins "abs"=some (.builtin "abs"):=by decide +kernel
noncomputable def bh (a:Addr) (w l:Int) (t:Nat) (x:Int) (k:Nat):List (ae × V):=[(.inr "script",.ref a),(.inr "way",.int w),(.inr "left",.int l),(.inr "at",.int ((t:Nat):Int)),(.inr "number",.int x),(.inr "k",.int ((k:Nat):Int))]
theorem a6 {a b:Str} (h:a≠b):¬ ((.inr a:ae)=.inr b):=fun z=>h (by injection z)
section
variable (a:Addr) (w l:Int) (t:Nat) (x:Int) (k:Nat)
theorem D2:a9 (bh a w l t x k) (.inr "script")=some (.ref a):=c6 rfl
theorem D3:a9 (bh a w l t x k) (.inr "way")=some (.int w):=by unfold bh;rw [bf (a6 (by decide +kernel)),c6 rfl]
theorem wO:a9 (bh a w l t x k) (.inr "left")=some (.int l):=by unfold bh;rw [bf (a6 (by decide +kernel)),bf (a6 (by decide +kernel)),c6 rfl]
theorem wP:a9 (bh a w l t x k) (.inr "at")=some (.int ((t:Nat):Int)):=by unfold bh;rw [bf (a6 (by decide +kernel)),bf (a6 (by decide +kernel)),bf (a6 (by decide +kernel)),c6 rfl]
theorem wR:a9 (bh a w l t x k) (.inr "number")=some (.int x):=by unfold bh;rw [bf (a6 (by decide +kernel)),bf (a6 (by decide +kernel)),bf (a6 (by decide +kernel)),bf (a6 (by decide +kernel)),c6 rfl]
theorem wS:a9 (bh a w l t x k) (.inr "k")=some (.int ((k:Nat):Int)):=by unfold bh;rw [bf (a6 (by decide +kernel)),bf (a6 (by decide +kernel)),bf (a6 (by decide +kernel)),bf (a6 (by decide +kernel)),bf (a6 (by decide +kernel)),c6 rfl]
theorem m9 {Fe:List (ae × V)} {k:ae} {v:V} (h:(a9 Fe k).isSome=true):ba Fe k v=Fe.map (fun kv=>if kv.1=k then (kv.1,v) else kv):=by unfold ba;rw [iX,h,if_pos rfl]
theorem D4 (l':Int):ba (bh a w l t x k) (.inr "left") (.int l')=bh a w l' t x k:=by
 rw [m9 (by rw [wO];rfl)];unfold bh;simp only [List.map_cons,List.map_nil];rw [if_neg (a6 (by decide +kernel)),if_neg (a6 (by decide +kernel)),if_pos trivial,if_neg (a6 (by decide +kernel)),if_neg (a6 (by decide +kernel)),if_neg (a6 (by decide +kernel))]
theorem D5 (t':Nat):ba (bh a w l t x k) (.inr "at") (.int ((t':Nat):Int))=bh a w l t' x k:=by
 rw [m9 (by rw [wP];rfl)];unfold bh;simp only [List.map_cons,List.map_nil];rw [if_neg (a6 (by decide +kernel)),if_neg (a6 (by decide +kernel)),if_neg (a6 (by decide +kernel)),if_pos trivial,if_neg (a6 (by decide +kernel)),if_neg (a6 (by decide +kernel))]
theorem D6 (x':Int):ba (bh a w l t x k) (.inr "number") (.int x')=bh a w l t x' k:=by
 rw [m9 (by rw [wR];rfl)];unfold bh;simp only [List.map_cons,List.map_nil];rw [if_neg (a6 (by decide +kernel)),if_neg (a6 (by decide +kernel)),if_neg (a6 (by decide +kernel)),if_neg (a6 (by decide +kernel)),if_pos trivial,if_neg (a6 (by decide +kernel))]
theorem D7 (k':Nat):ba (bh a w l t x k) (.inr "k") (.int ((k':Nat):Int))=bh a w l t x k':=by
 rw [m9 (by rw [wS];rfl)];unfold bh;simp only [List.map_cons,List.map_nil];rw [if_neg (a6 (by decide +kernel)),if_neg (a6 (by decide +kernel)),if_neg (a6 (by decide +kernel)),if_neg (a6 (by decide +kernel)),if_neg (a6 (by decide +kernel)),if_pos trivial]
end
theorem D8 (a:Addr) (w x:Int):i9 [] [(.inr "script",.ref a),(.inr "way",.int w),(.inr "left",.int 0),(.inr "at",.int 1),(.inr "number",.int x),(.inr "k",.int 0)]=bh a w 0 1 x 0:=by have p0:ba ([]:List (ae × V)) (.inr "script") (.ref a)=[(.inr "script",.ref a)]:=iZ _ iW;have p1:ba ([(.inr "script",.ref a)]:List (ae × V)) (.inr "way") (.int w)=[(.inr "script",.ref a),(.inr "way",.int w)]:=iZ _ (by rw [bf (a6 (by decide +kernel)),iW]);have p2:ba ([(.inr "script",.ref a),(.inr "way",.int w)]:List (ae × V)) (.inr "left") (.int 0)=[(.inr "script",.ref a),(.inr "way",.int w),(.inr "left",.int 0)]:=iZ _ (by rw [bf (a6 (by decide +kernel)),bf (a6 (by decide +kernel)),iW]);have p3:ba ([(.inr "script",.ref a),(.inr "way",.int w),(.inr "left",.int 0)]:List (ae × V)) (.inr "at") (.int 1)=[(.inr "script",.ref a),(.inr "way",.int w),(.inr "left",.int 0),(.inr "at",.int 1)]:=iZ _ (by rw [bf (a6 (by decide +kernel)),bf (a6 (by decide +kernel)),bf (a6 (by decide +kernel)),iW]);have p4:ba ([(.inr "script",.ref a),(.inr "way",.int w),(.inr "left",.int 0),(.inr "at",.int 1)]:List (ae × V)) (.inr "number") (.int x)=[(.inr "script",.ref a),(.inr "way",.int w),(.inr "left",.int 0),(.inr "at",.int 1),(.inr "number",.int x)]:=iZ _ (by rw [bf (a6 (by decide +kernel)),bf (a6 (by decide +kernel)),bf (a6 (by decide +kernel)),bf (a6 (by decide +kernel)),iW]);have p5:ba ([(.inr "script",.ref a),(.inr "way",.int w),(.inr "left",.int 0),(.inr "at",.int 1),(.inr "number",.int x)]:List (ae × V)) (.inr "k") (.int 0)=[(.inr "script",.ref a),(.inr "way",.int w),(.inr "left",.int 0),(.inr "at",.int 1),(.inr "number",.int x),(.inr "k",.int 0)]:=iZ _ (by rw [bf (a6 (by decide +kernel)),bf (a6 (by decide +kernel)),bf (a6 (by decide +kernel)),bf (a6 (by decide +kernel)),bf (a6 (by decide +kernel)),iW]);show ba (ba (ba (ba (ba (ba ([]:List (ae × V)) (.inr "script") (.ref a)) (.inr "way") (.int w)) (.inr "left") (.int 0)) (.inr "at") (.int 1)) (.inr "number") (.int x)) (.inr "k") (.int 0)=_;rw [p0,p1,p2,p3,p4,p5];rfl
structure aq where
 w:Int
 l:Int
 x:Int
 t:Nat
 k:Nat
def Dw (K:W.Frag) (H:Hp) (d:Addr) (ns:List Int) (q:aq):Prop:=∃ a,0<=q.l/\H d=some (.dK (bh a q.w q.l q.t q.x q.k))/\ak K H a (ns.map V.int)
def Bu (d:Addr) (H H':Hp):Prop:=∀ b u,H b=some u->b≠d->H' b=some u
theorem Bu.upd {d:Addr} {B H:Hp} (h:Bu d B H) (x:HO):Bu d B (upd H d x):=fun b u e n=>by rw [ay n];exact h b u e n
theorem Bu.seq {d:Addr} {H H':Hp} {kv:List (ae × V)} (b:Bu d H H') (hd:H d=some (.dK kv)) {c:Addr} {xs:List V} (s:ak K H c xs):ak K H' c xs:=by
 rcases s with (s | ⟨o,s⟩) | s
 ·exact .inl (.inl (b _ _ s (by rintro rfl;rw [hd] at s;cases s)))
 ·exact .inl (.inr ⟨o,b _ _ s (by rintro rfl;rw [hd] at s;cases s)⟩)
 ·exact .inr s
def gK (H:Hp) (d a:Addr):Prop:=∃ q:aq,H d=some (.dK (bh a q.w q.l q.t q.x q.k))
theorem gK.inj {H:Hp} {d a b:Addr} (h:gK H d a) (g:gK H d b):a=b:=by obtain ⟨q,e⟩:=h;obtain ⟨q',e'⟩:=g;rw [e] at e';injection e' with e';injection e' with e';simp [bh] at e';exact e'.1
structure be (d:Addr) (H H':Hp):Prop where
 b:Bu d H H'
 r:∀ a,gK H d a->gK H' d a
theorem be.refl (d:Addr) (H:Hp):be d H H:=⟨fun _ _ h _=>h,fun _ h=>h⟩
theorem be.trans {d:Addr} {H H1 H2:Hp} (a:be d H H1) (b:be d H1 H2):be d H H2:=⟨fun _ _ h n=>b.b _ _ (a.b _ _ h n) n,fun x h=>b.r x (a.r x h)⟩
theorem be.same {d:Addr} {B H H':Hp} (h:be d B H) (s:Same H H'):be d B H':=⟨fun b u e n=>s _ _ (h.b b u e n),fun x g=>by obtain ⟨q,e⟩:=h.r x g;exact ⟨q,s _ _ e⟩⟩
theorem Dw.is {H:Hp} {d:Addr} {ns:List Int} {q:aq} (h:Dw K H d ns q):∃ kv,H d=some (.dK kv):=by obtain ⟨_,_,e,_⟩:=h;exact ⟨_,e⟩
theorem Dw.same {H H':Hp} {d:Addr} {ns:List Int} {q:aq} (h:Dw K H d ns q) (s:Same H H'):Dw K H' d ns q:=by obtain ⟨a,h0,e,h1⟩:=h;exact ⟨a,h0,s _ _ e,s.seq h1⟩
theorem be.at {d b:Addr} {H H':Hp} {o:HO} {ns:List Int} {q:aq} (h:be d H H') (hd:Dw K H d ns q) (e:H b=some o) (n:∀ kv,o≠.dK kv):H' b=some o:=by obtain ⟨kv,hk⟩:=hd.is;exact h.b _ _ e fun z=>by rw [z,hk] at e;exact n kv (Qp e).symm
theorem be.tups {d:Addr} {H H':Hp} {ns:List Int} {q:aq} (h:be d H H') (hd:Dw K H d ns q):∀ b xs,H b=some (.tup xs)->H' b=some (.tup xs):=fun b xs e=>h.at hd e fun _ z=>by cases z
theorem be.lst {d b:Addr} {xs:List V} {H H':Hp} {ns:List Int} {q:aq} (h:be d H H') (hd:Dw K H d ns q) (e:H b=some (.lst xs)):H' b=some (.lst xs):=h.at hd e fun _ z=>by cases z
theorem be.free {d p:Addr} {H H':Hp} {ns:List Int} {q:aq} (h:be d H H') (hd:Dw K H' d ns q) (e:H' p=none):H p=none:=by
 obtain ⟨kv,hk⟩:=hd.is
 cases hp:H p with
 | none=>rfl
 | some o=>rw [h.b _ _ hp fun z=>by rw [z,hk] at e;cases e] at e;cases e
theorem be.new {d p:Addr} {H H':Hp} {o:HO} {xs:List V} (h:be d H H') (hp:H p=none) (hl:H' p=some (.lst xs)):be d H (upd H' p o) :=
 ⟨fun b u e n=>by rw [ay fun z=>by rw [z,hp] at e;cases e];exact h.b b u e n,fun a g=>by obtain ⟨q,e⟩:=h.r a g;exact ⟨q,by rw [ay fun z=>by rw [z,hl] at e;cases e];exact e⟩⟩
theorem Dw.new {d p:Addr} {H H':Hp} {o:HO} {xs:List V} {ns:List Int} {q q':aq} (h:Dw K H' d ns q') (h0:Dw K H d ns q) (b:be d H H') (hp:H p=none) (hl:H' p=some (.lst xs)):Dw K (upd H' p o) d ns q':=by
 obtain ⟨a,g0,e,g1⟩:=h;obtain ⟨a0,_,e0,g2⟩:=h0;have ea:a0=a:=gK.inj (b.r a0 ⟨q,e0⟩) ⟨q',e⟩;subst ea;refine ⟨a0,g0,by rw [ay fun z=>by rw [z,hl] at e;cases e];exact e,?_⟩;rcases g2 with (g2 | ⟨o',g2⟩) | g2
 ·exact .inl (.inl (by rw [ay fun z=>by rw [z,hp] at g2;cases g2];exact b.b _ _ g2 fun z=>by rw [z,e0] at g2;cases g2))
 ·exact .inl (.inr ⟨o',by rw [ay fun z=>by rw [z,hp] at g2;cases g2];exact b.b _ _ g2 fun z=>by rw [z,e0] at g2;cases g2⟩)
 ·exact .inr g2
section
variable {H:Hp} {d a:Addr} {w l x:Int} {t k:Nat} (h:H d=some (.dK (bh a w l t x k)))
include h
theorem qH:bz H d (.str "script") (some (.ref a)):=by have:=bz.k (k:=.inr "script") h;rw [D2] at this;exact this
theorem D9:bz H d (.str "way") (some (.int w)):=by have:=bz.k (k:=.inr "way") h;rw [D3] at this;exact this
theorem ng:bz H d (.str "left") (some (.int l)):=by have:=bz.k (k:=.inr "left") h;rw [wO] at this;exact this
theorem qI:bz H d (.str "at") (some (.int ((t:Nat):Int))):=by have:=bz.k (k:=.inr "at") h;rw [wP] at this;exact this
theorem wT:bz H d (.str "number") (some (.int x)):=by have:=bz.k (k:=.inr "number") h;rw [wR] at this;exact this
theorem qJ:bz H d (.str "k") (some (.int ((k:Nat):Int))):=by have:=bz.k (k:=.inr "k") h;rw [wS] at this;exact this
theorem wU (l':Int):cG H d (.str "left") (.int l') (upd H d (.dK (bh a w l' t x k))):=by have:=cG.k (k:=.inr "left") (v:=.int l') h (by show 6<sizeLine;decide);rw [D4] at this;exact this
theorem Ea (t':Nat):cG H d (.str "at") (.int ((t':Nat):Int)) (upd H d (.dK (bh a w l t' x k))):=by have:=cG.k (k:=.inr "at") (v:=.int ((t':Nat):Int)) h (by show 6<sizeLine;decide);rw [D5] at this;exact this
theorem Eb (x':Int):cG H d (.str "number") (.int x') (upd H d (.dK (bh a w l t x' k))):=by have:=cG.k (k:=.inr "number") (v:=.int x') h (by show 6<sizeLine;decide);rw [D6] at this;exact this
theorem Ec (k':Nat):cG H d (.str "k") (.int ((k':Nat):Int)) (upd H d (.dK (bh a w l t x k'))):=by have:=cG.k (k:=.inr "k") (v:=.int ((k':Nat):Int)) h (by show 6<sizeLine;decide);rw [D7] at this;exact this
end
noncomputable def iC (x:Int):Int:=if x<0 then -x else x
theorem Ed (x:Int):0<=iC x:=by unfold iC;split<;>omega
noncomputable def eB (ns:List Int):aq:=⟨f8 ns 0 % 2,0,f8 ns 0,1,0⟩
inductive wV (K:W.Frag) (vs:List V) (H:Hp) (Q:VK) (E:XK):Prop
 | mk:∀ (a:Addr) (ns:List Int),vs=[.ref a]->ak K H a (ns.map V.int)->(∀ d H',H d=none->Same H H'->Dw K H' d ns (eB ns)->Q (.ref d) H')->wV K vs H Q E
noncomputable abbrev Ee:List Str:=["_law_script","_law_first_here"]
theorem wW:aT Ee ["_law_script"] (aI pF):=by decide +kernel
theorem Ef (T:All P w K mg AA DD):aB P w K mg base aE 2 AA.ZE DD.ZE ["_law_script"] (wV K):=by
 have GCA:=wL (base:=base) T;refine T.z_ZE.F.ok wW (fun vs H Q E h=>?_) (fun Fk A outer s H vs Q E hr h=>?_)
 ·obtain ⟨a,ns,rfl,_⟩:=h;rfl
 ·obtain ⟨a,ns,rfl,hS,k⟩:=h;have nd:=wW.nd;have Fw:ar 1 _:=hr;refine ⟨_,(ai (aL (i:=1) nd rfl (Or.inl rfl) (ao GCA Fw rfl T.z_Zr (aa (pv 0) (aa ah ab)))) (aj (aH (Au (i8 ap (pv 0) (i8 ap (am bx (pv 1) ah) (i8 ap ah (i8 ap ah (i8 ap (pv 1) (i8 ap ah As)))))) rfl rfl (by simp) (by decide))))),?_⟩;refine ⟨_,rfl,a,ns,0,rfl,hS,?_⟩
  try dsimp only [aK]
  refine fun p hp=>?_;refine ⟨_,rfl,_,rfl,_,_,rfl,rfl,(by show (0:Int)<2;decide),_,rfl,af,[(.inr "script",.ref a),(.inr "way",.int (f8 ns 0 % 2)),(.inr "left",.int 0),(.inr "at",.int 1),(.inr "number",.int (f8 ns 0)),(.inr "k",.int 0)],rfl,by show 6<=15;decide,?_⟩;rw [D8,ym];exact k p _ hp (ag hp) ⟨a,Int.le_refl 0,af,(ag hp).seq hS⟩
def kO (ns:List Int) (q:aq):Prop:=q.w=1/\q.l=0/\q.t<ns.length
noncomputable instance (ns:List Int) (q:aq):Decidable (kO ns q):=instDecidableAnd
noncomputable def gL (ns:List Int):Nat->aq->aq
 | 0,q=>q
 | n+1,q=>if kO ns q then gL ns n { q with l:=iC (ns.getD q.t 0),t:=q.t+1 } else q
theorem Eg {ns:List Int} {q:aq} (h:¬ kO ns q) (n:Nat):gL ns n q=q:=by
 cases n with
 | zero=>rfl
 | succ n=>rw [gL,if_neg h]
noncomputable def qK (ns:List Int) (q:aq):Int × aq :=
 let p:=gL ns (ns.length-q.t) q
 if 0<p.l then (p.l % 1000003,{ p with l:=p.l / 1000003 }) else (jB (jB (p.x+f8 ns (p.k+1)) ((p.k+1:Nat):Int)) 7,{ p with x:=jB (p.x+f8 ns (p.k+1)) ((p.k+1:Nat):Int),k:=p.k+1 })
noncomputable def dv (ns:List Int) (q:aq):Int:=(qK ns q).1
noncomputable def dn (ns:List Int) (q:aq):aq:=(qK ns q).2
inductive wX (K:W.Frag) (vs:List V) (H:Hp) (Q:VK) (E:XK):Prop
 | mk:∀ (d:Addr) (ns:List Int) (q:aq),vs=[.ref d]->Dw K H d ns q->(∀ H',be d H H'->Dw K H' d ns (dn ns q)->Q (.int (dv ns q)) H')->wX K vs H Q E
noncomputable abbrev Eh:List Str:=["_law_draws_here","_law_found","_law_number_here"]
theorem wY:aT Eh ["_law_draws_here"] (aI pG):=by decide +kernel
theorem eC (T:All P w K mg AA DD):aB P w K mg base aE 2 AA.ZL DD.ZL ["_law_draws_here"] (wX K):=by
 have GCA:=wL (base:=base) T;have GX:=DZ (base:=base) T;refine T.z_ZL.F.ok wY (fun vs H Q E h=>?_) (fun Fk A outer s H vs Q E hr h=>?_)
 ·obtain ⟨d,ns,q,rfl,_⟩:=h;rfl
 ·obtain ⟨d,ns,q,rfl,⟨a,h00,e0,hS⟩,k⟩:=h;have nd:=wY.nd;have hu:=QD (Nat.add_le_add_left (show 1<=64 by decide) _) hr.units;have Fw:ar 1 _:=hr;refine ⟨_,(ai (@yI _ _ _ _ _ _ PassesOwn.never (PW.pt (jO (aN bp (cT hu (pv 0) ap (fun _ _=>rfl)) ah (aQ _)) (jO (aN bp (cT hu (pv 0) ap (fun _ _=>rfl)) ah (aQ _)) (lc (aN gk (cT hu (pv 0) ap (fun _ _=>rfl)) (di nZ rfl T.n_len hX (aa (cT hu (pv 0) ap (fun _ _=>rfl)) ab)) (aQ _)))))) (ai (gu hu (pv 0) ap (di yZ rfl T.n_abs D0 (aa (cB (sI (K:=K) rfl) (cT hu (pv 0) ap (fun _ _=>rfl)) (cT hu (pv 0) ap (fun _ _=>rfl)) (fun _ _=>rfl)) ab)) rfl) (aj (gu hu (pv 0) ap (am bS (cT hu (pv 0) ap (fun _ _=>rfl)) ah) rfl)))) (ai (aX (aN nR (cT hu (pv 0) ap (fun _ _=>rfl)) ah (aQ _)) (ai (aL (i:=1) nd rfl (Or.inl rfl) (am bx (cT hu (pv 0) ap (fun _ _=>rfl)) ah)) (ai (gu hu (pv 0) ap (am rE (cT hu (pv 0) ap (fun _ _=>rfl)) ah) rfl) (aj (aH (pv 1))))) bb) (ai (gu hu (pv 0) ap (am bS (cT hu (pv 0) ap (fun _ _=>rfl)) ah) rfl) (ai (aL (i:=2) nd rfl (Or.inl rfl) (am bS (cT hu (pv 0) ap (fun _ _=>rfl)) (ao GCA Fw rfl T.z_Zr (aa (cT hu (pv 0) ap (fun _ _=>rfl)) (aa (cT hu (pv 0) ap (fun _ _=>rfl)) ab))))) (ai (gu hu (pv 0) ap (ao GX Fw rfl T.z_ZD (aa (pv 2) (aa (cT hu (pv 0) ap (fun _ _=>rfl)) ab))) rfl) (aj (aH (ao GX Fw rfl T.z_ZD (aa (cT hu (pv 0) ap (fun _ _=>rfl)) (aa ah ab)))))))))),?_⟩;dsimp only [fP];have k:∀ H',Bu d H H'->gK H' d a->Dw K H' d ns (dn ns q)->Q (.int (dv ns q)) H':=fun H' b sc D=>k H' ⟨b,fun a' h'=>by rw [<- gK.inj ⟨q,e0⟩ h'];exact sc⟩ D;unfold dv dn qK at k;dsimp only at k;refine Az (fun σ' H'=>Bu d H H'/\σ'=[some (.ref d),none,none]/\∃ p,gL ns (ns.length-q.t) q=p/\0<=p.l/\H' d=some (.dK (bh a p.w p.l p.t p.x p.k))) (fun R hR=>?_) ?_
  ·refine ⟨fun m σ' H'=>∃ p:aq,0<=p.l/\H' d=some (.dK (bh a p.w p.l p.t p.x p.k))/\Bu d H H'/\σ'=[some (.ref d),none,none]/\m=ns.length-p.t/\gL ns (ns.length-p.t) p=gL ns (ns.length-q.t) q,⟨_,q,h00,e0,fun _ _ h _=>h,rfl,rfl,rfl⟩,?_⟩;rintro m σ' H1 ⟨p,h0,e,hb,rfl,rfl,hp⟩;have IK:=hb.seq e0 hS;have out:¬ kO ns p->R [some (.ref d),none,none] H1:=fun hc=>hR _ _ ⟨hb,rfl,p,by rw [<- hp];exact Eg hc _,h0,e⟩;refine ⟨_,rfl,d,_,rfl,D9 e,rfl,_,rfl,?_⟩;refine bT (fun h1=>⟨_,rfl,d,_,rfl,ng e,rfl,_,rfl,bT (fun h2=>⟨_,rfl,d,_,rfl,qI e,_,rfl,d,_,rfl,qH e,a,_,rfl,.inl IK,_,_,rfl,rfl,_,rfl,bT (fun h3=>?C) (fun h3=>?D)⟩) (fun h2=>cS ?E)⟩) (fun h1=>cS ?F)
   case F=>exact out fun z=>h1 (Qs (by rw [z.1]))
   case E=>exact out fun z=>h2 (Qs (by rw [z.2.1]))
   case D =>
    rw [Qe] at h3;exact out fun z=>h3 (Qs (by have:=z.2.2;omega))
   rw [Qe] at h3;have h3:((p.t:Nat):Int)<(ns.length:Int):=of_decide_eq_true h3;have ht:p.t<ns.length:=by omega
   have hc:kO ns p:=⟨by have:=of_decide_eq_true h1;injection this,by have:=of_decide_eq_true h2;injection this,ht⟩
   obtain ⟨n,hn⟩:∃ n,ns.length-p.t=n+1:=⟨ns.length-p.t-1,by omega⟩
   rw [hn,gL,if_pos hc] at hp;have hgd:ns.getD p.t 0=ns[p.t]:=by rw [Qg,Qa ht];rfl
   rw [hgd] at hp;refine ⟨fun σ' H'=>H' d=some (.dK (bh a p.w (iC ns[p.t]) (p.t+1) p.x p.k))/\Bu d H H'/\σ'=[some (.ref d),none,none],?_,?_⟩
   ·rintro σ2 H2 ⟨e,hb,rfl⟩;exact ⟨ns.length-(p.t+1),by omega,{ p with l:=iC ns[p.t],t:=p.t+1 },Ed _,e,hb,rfl,rfl,by rw [<- hp,show ns.length-(p.t+1)=n by omega]⟩
   refine ⟨_,rfl,d,_,rfl,qH e,_,rfl,d,_,rfl,qI e,a,_,_,_,rfl,rfl,IK,bn (j:=p.t) (by rw [Qu,Qa ht];rfl),_,rfl,?_⟩;refine ⟨_,rfl,d,_,rfl,wU e _,?_⟩;have e2:upd H1 d (.dK (bh a p.w (iC ns[p.t]) p.t p.x p.k)) d=some (.dK (bh a p.w (iC ns[p.t]) p.t p.x p.k)):=af;refine ⟨_,rfl,d,_,rfl,qI e2,_,_,rfl,rfl,_,rfl,d,_,rfl,Ea e2 (p.t+1),?_⟩;exact ⟨af,(hb.upd _).upd _,rfl⟩
  rintro σ' H1 ⟨hb,rfl,p,hp,h0,e⟩;rw [hp] at k;have IK:=hb.seq e0 hS;refine ⟨_,rfl,d,_,rfl,ng e,_,_,rfl,rfl,_,rfl,?_⟩;refine bT (fun h1=>?_) (fun h1=>?_)
  ·have h1:0<p.l:=of_decide_eq_true h1;rw [if_pos h1] at k;refine ⟨_,rfl,d,_,rfl,ng e,_,_,rfl,rfl,(by show (0:Int)<1000003;decide),?_⟩
   try dsimp only [aK]
   refine ⟨_,rfl,d,_,rfl,ng e,_,_,rfl,rfl,⟨by decide,by decide⟩,_,rfl,d,_,rfl,wU e _,?_⟩;exact ⟨_,rfl,k _ (hb.upd _) ⟨{ p with l:=p.l / 1000003 },af⟩ ⟨a,Int.ediv_nonneg h0 (by decide),af,(hb.upd _).seq e0 hS⟩⟩
  ·have h1:¬ 0<p.l:=fun z=>h1 (Qs z);rw [if_neg h1] at k;refine ⟨_,rfl,d,_,rfl,qJ e,_,_,rfl,rfl,_,rfl,d,_,rfl,Ec e (p.k+1),?_⟩;have e2:upd H1 d (.dK (bh a p.w p.l p.t p.x (p.k+1))) d=some (.dK (bh a p.w p.l p.t p.x (p.k+1))):=af;have G1:=hb.upd (.dK (bh a p.w p.l p.t p.x (p.k+1)));have IZ:=G1.seq e0 hS;generalize upd H1 d (.dK (bh a p.w p.l p.t p.x (p.k+1)))=H2 at e2 G1 IZ ⊢;refine ⟨_,rfl,d,_,rfl,wT e2,_,rfl,d,_,rfl,qH e2,_,rfl,d,_,rfl,qJ e2,a,ns,p.k+1,rfl,IZ,⟨_,_,rfl,rfl,?_⟩⟩
   try dsimp only [aK]
   refine ⟨_,rfl,_,rfl,d,_,rfl,qJ e2,_,_,rfl,⟨_,rfl,d,_,rfl,Eb e2 _,?_⟩⟩;refine ⟨_,rfl,d,_,rfl,wT af,_,_,rfl,?_⟩;exact k _ (G1.upd _) ⟨{ p with x:=jB (p.x+f8 ns (p.k+1)) ((p.k+1:Nat):Int),k:=p.k+1 },af⟩ ⟨a,h0,af,(G1.upd _).seq e0 hS⟩
theorem wZ {b1 b2:Bool} {T U E:Prop} (k:(if b2=true then T else U)->E) (h:if (b1||b2)=true then T else U):if b1=true then (if true=true then T else U) else E:=by
 cases b1
 ·rw [if_neg (by simp)];exact k (by simpa using h)
 ·rw [if_pos rfl,if_pos rfl];simpa using h
theorem cx (a b:Int):decide (V.int a=V.int b)=decide (a=b):=decide_eq_decide.mpr ⟨fun h=>by injection h,fun h=>by rw [h]⟩
noncomputable abbrev eU:Str:="xyzuvwpqabcdefghijklmnorst"
theorem w4:eU.length=26:=by decide +kernel
noncomputable def wQ (ns:List Int) (q:aq):Nat->Str × aq
 | 0=>("q",dn ns q)
 | i+1=>((wQ ns q i).1++⟨#[eU.cps.toList.getD (dv ns (wQ ns q i).2 % 26).toNat 0]⟩,dn ns (wQ ns q i).2)
theorem qL (ns:List Int) (q:aq):∀ i,(wQ ns q i).1.length=i+1
 | 0=>by show ("q":Str).length=1;decide +kernel
 | i+1=>by show ((wQ ns q i).1++_).length=i+1+1;rw [wI,m8,qL ns q i]
noncomputable def de (ns:List Int) (q:aq):Str × aq:=wQ ns q (1+(dv ns q % 7).toNat)
theorem Ei (ns:List Int) (q:aq):2<=(de ns q).1.length/\(de ns q).1.length<=8:=by unfold de;rw [qL];have:=Int.emod_lt_of_pos (dv ns q) (show (0:Int)<7 by decide);have:=Int.emod_nonneg (dv ns q) (show (7:Int)≠0 by decide);omega
noncomputable def w5 (ns:List Int) (q:aq):Int:=1+dv ns (de ns q).2 % (((de ns q).1.length:Nat)-1:Int)
noncomputable abbrev qM:Str:="gkvzbmcd"
noncomputable def qN (z:Str) (a:Int) (i:Nat):Str:=iV z none (some a)++(⟨#[qM.cps.toList.getD i 0]⟩:Str)++iV z (some (a+1)) none
noncomputable def eV (ns:List Int) (q:aq):List Str:=(List.range 8).map (qN (de ns q).1 (w5 ns q))
theorem Ej (ns:List Int) (q:aq):(eV ns q).length=8:=by simp [eV]
inductive w6 (K:W.Frag) (vs:List V) (H:Hp) (Q:VK) (E:XK):Prop
 | mk:∀ (d:Addr) (ns:List Int) (q:aq),vs=[.ref d]->Dw K H d ns q->(∀ p H',H p=none->be d H H'->Dw K H' d ns (dn ns (de ns q).2)->H' p=some (.lst ((eV ns q).map V.str))->Q (.ref p) H')->w6 K vs H Q E
noncomputable abbrev w9:List Str:=["_law_draws_here","_law_some","_law_word","_law_k","_law_at"]
theorem xa:aT w9 ["_law_draws_here"] (aI mz):=by decide +kernel
theorem Ek (T:All P w K mg AA DD):aB P w K mg base aE 3 AA.ZF DD.ZF ["_law_draws_here"] (w6 K):=by
 have GN:=eC (base:=base) T;refine T.z_ZF.F.ok xa (fun vs H Q E h=>by cases h;subst_vars;rfl) fun Fk A outer s H vs Q E hr h=>?_;obtain ⟨d,ns,q,rfl,hD,k⟩:=h;have nd:=xa.nd;have Fm:ar 2 _:=hr;have hq:=Ei ns q;refine ⟨_,(ai (aL (i:=1) nd rfl (Or.inl rfl) ap) (ai (aL (i:=2) nd rfl (Or.inr rfl) ap) (ai (cY PassesOwn.never rfl (iL rfl T.n_range (aa (am bS ah (am bx (ao GN Fm rfl T.z_ZL (aa (pv 0) ab)) ah)) ab)) (a8 (i:=3) nd rfl (Or.inl rfl)) (aj (aL (i:=2) nd rfl (Or.inr rfl) (am nS (pv 2) (cB jT (pv 1) (am bx (ao GN Fm rfl T.z_ZL (aa (pv 0) ab)) ah) (fun _ _=>rfl))))) (by intro _;rfl)) (ai (aL (i:=4) nd rfl (Or.inr rfl) (am bS ah (am bx (ao GN Fm rfl T.z_ZL (aa (pv 0) ab)) (am gi (di zP rfl T.n_len hX (aa (pv 2) ab)) ah)))) (aj (aH (fQ (aI mz) w9 ["_law_word","_law_at"] [2,4] rfl (by decide +kernel) rfl rfl (BA ap) (fun _ _ _ _=>fq) (fun _ _ _ _=>(am nS (am nS (fj sN (pv 1) fh (fi (pv 2))) (pv 0)) (fj sN (pv 1) (fi (am bS (pv 2) ah)) fh)))))))))),?_⟩;refine lD ?_
 try dsimp only [aK]
 refine lD ?_
 try dsimp only [aK]
 have hsz:eU.length<=sizeLine:=by rw [w4];decide
 have s9:∀ {n:Nat},n<=100->n<=sizeLine:=fun h=>QP (lw (by omega));obtain ⟨m,em,hm⟩:=dX (a:=dv ns q) (n:=7) (by decide);have em:dv ns q % 7=((m:Nat):Int):=em;have ew:de ns q=wQ ns q (1+m):=by unfold de;rw [em,Qy]
 refine ic (fun σ' H'=>be d H H'/\Dw K H' d ns (de ns q).2/\∃ (x3:Option V),σ'=[some (.ref d),some (.str eU),some (.str (de ns q).1),x3,none]) (fun R hR=>?_) ?_
 ·refine ⟨_,rfl,d,ns,q,rfl,hD,fun H1 b1 Ft=>?_⟩;refine ⟨_,_,rfl,rfl,(by show (0:Int)<7;decide),_,_,rfl,rfl,_,rfl,?_,?_,?_⟩
  ·rw [em];omega
  ·rw [em];omega
  rw [em,show ((1:Int)+((m:Nat):Int)).toNat=1+m by omega];refine lZ (D:=⟨R,_,R,R⟩) (fun i σ' H'=>be d H H'/\Dw K H' d ns (wQ ns q i).2/\∃ (x3:Option V),σ'=[some (.ref d),some (.str eU),some (.str (wQ ns q i).1),x3,none]) ⟨b1,Ft,none,rfl⟩ ?_ ?_
  ·rintro i σ' H2 hi ⟨b2,Fp,x3,rfl⟩ E1 hN;refine ⟨_,rfl,_,rfl,_,rfl,d,ns,_,rfl,Fp,fun H3 b3 Fz=>?_⟩;obtain ⟨j,ej,hj⟩:=dX (a:=dv ns (wQ ns q i).2) (n:=26) (by decide);have ej:dv ns (wQ ns q i).2 % 26=((j:Nat):Int):=ej;have hjl:j<eU.cps.toList.length:=by rw [DW,w4];exact hj
   refine ⟨_,_,rfl,rfl,(by show (0:Int)<26;decide),eU,_,eU.cps.toList[j],rfl,rfl,hsz,?_,_,_,rfl,rfl,?_,?_⟩
   ·rw [ej];exact bn (Qa hjl)
   ·rw [m8,qL];exact s9 (by omega)
   ·refine hN _ _ ⟨b2.trans b3,Fz,some (.int (0+((i:Nat):Int))),?_⟩;show _=[some (V.ref d),some (V.str eU),some (V.str ((wQ ns q i).1++⟨#[eU.cps.toList.getD (dv ns (wQ ns q i).2 % 26).toNat 0]⟩)),_,_];rw [ej,Qy,Qg,Qa hjl];rfl
  ·rintro σ' H2 ⟨b2,Fp,x3,rfl⟩;exact hR _ _ ⟨b2,by rw [ew];exact Fp,x3,by rw [ew]⟩
 rintro σ' H1 ⟨b1,Ft,x3,rfl⟩;refine ⟨_,rfl,d,ns,_,rfl,Ft,fun H2 b2 Fp=>?_⟩;unfold eV w5 at k;generalize dv ns (de ns q).2=r at k;generalize dn ns (de ns q).2=q2 at k Fp;generalize (de ns q).1=z at k hq;refine ⟨_,rfl,z,rfl,s9 (by omega),_,_,rfl,rfl,_,_,rfl,rfl,(by show (0:Int)<(z.length:Int)-1;omega),_,_,rfl,rfl,?_⟩;dsimp only [aK];generalize ha:(1:Int)+r % ((z.length:Nat)-1:Int)=a at k;show nF _ _ [some (.ref d),some (.str eU),some (.str z),x3,some (.int _)] _;refine ⟨qM,rfl,by decide +kernel,?_⟩;have hgl:qM.length=8:=by decide +kernel
 rw [hgl];refine BC (fun i ys H3=>H3=H2/\i<=8/\ys=((List.range i).map (qN z a)).map V.str) ⟨rfl,by omega,rfl⟩ ?_ ?_
 ·rintro i ys H3 hi ⟨rfl,_,rfl⟩;refine fm ?_;rw [if_pos rfl];have l1:=sM z none (some a);have l2:=sM z (some (a+1)) none;refine ⟨_,rfl,_,rfl,a,rfl,z,rfl,s9 (by omega),_,rfl,_,_,rfl,rfl,s9 (by rw [m8];omega),_,rfl,_,rfl,_,_,rfl,rfl,a+1,rfl,z,rfl,s9 (by omega),_,_,rfl,rfl,s9 (by rw [wI,m8];omega),?_⟩;refine ⟨by rw [Qe,Qe,List.length_range];exact lw (by omega),rfl,by omega,?_⟩;rw [List.range_succ,QU,QU];rfl
 ·rintro ys H3 ⟨rfl,_,rfl⟩ p hp;have Ja:=(b1.trans b2).same (ag (o:=.lst (((List.range 8).map (qN z a)).map V.str)) hp);exact k p _ ((b1.trans b2).free Fp hp) Ja (Fp.same (ag hp)) af
noncomputable def bw (ns:List Int) (q:aq):aq:=dn ns (dn ns q)
noncomputable def jC (r1 r2:Int) (w:Nat):Nat:=if (decide (r1 % 4=0)||decide ((r2 % 256).toNat &&& w=0))=true then w else (r2 % 256).toNat &&& w
noncomputable def bL (ns:List Int) (q:aq) (w:Nat):Nat:=jC (dv ns q) (dv ns (dn ns q)) w
inductive xf (K:W.Frag) (vs:List V) (H:Hp) (Q:VK) (E:XK):Prop
 | mk:∀ (d:Addr) (ns:List Int) (q:aq) (w:Nat),vs=[.ref d,.int ((w:Nat):Int)]->Dw K H d ns q->(∀ H',be d H H'->Dw K H' d ns (bw ns q)->Q (.int ((bL ns q w:Nat):Int)) H')->xf K vs H Q E
noncomputable abbrev El:List Str:=["_law_draws_here","_law_within","_law_whole","_law_found"]
theorem xg:aT El ["_law_draws_here","_law_within"] (aI pH):=by decide +kernel
theorem kP (T:All P w K mg AA DD):aB P w K mg base aE 3 AA.ZM DD.ZM ["_law_draws_here","_law_within"] (xf K):=by
 have GN:=eC (base:=base) T;refine T.z_ZM.F.ok xg (fun vs H Q E h=>by cases h;subst_vars;rfl) fun Fk A outer s H vs Q E hr h=>?_;obtain ⟨d,ns,q,w,rfl,hD,k⟩:=h;have nd:=xg.nd;have Fm:ar 2 _:=hr;refine ⟨_,(ai (aL (i:=2) nd rfl (Or.inl rfl) (@rK _ _ _ _ _ _ _ _ bp (am bx (ao GN Fm rfl T.z_ZL (aa (pv 0) ab)) ah) ah (aQ _))) (ai (aL (i:=3) nd rfl (Or.inl rfl) (am fe (am bx (ao GN Fm rfl T.z_ZL (aa (pv 0) ab)) ah) (pv 1))) (ai (aX (PW.pt (gf (fc (pv 2)) (jM (aN bp (pv 3) ah (aQ _))))) (aj (aH (pv 1))) bb) (aj (aH (pv 3)))))),?_⟩;unfold bL bw jC at k;refine ⟨_,rfl,d,ns,q,rfl,hD,fun H1 b1 Ft=>⟨_,_,rfl,rfl,(by show (0:Int)<4;decide),rfl,?_⟩⟩;dsimp only [aK];refine ⟨_,rfl,d,ns,_,rfl,Ft,fun H2 b2 Fp=>?_⟩;have k:=k _ (b1.trans b2) Fp;generalize dv ns q=r1 at k;generalize dv ns (dn ns q)=r2 at k;obtain ⟨j,ej,hj⟩:=dX (a:=r2) (n:=256) (by decide);have ej:r2 % 256=((j:Nat):Int):=ej;rw [ej,Qy] at k;refine ⟨_,_,rfl,rfl,(by show (0:Int)<256;decide),_,rfl,_,_,rfl,rfl,?_⟩;dsimp only [aK];rw [ej,gq];refine ⟨_,rfl,_,rfl,?_⟩
 refine wZ (b2:=decide (j &&& w=0)) (fun h=>⟨_,rfl,rfl,_,rfl,by
  rw [show decide (V.int ((j &&& w:Nat):Int)=V.int 0)=decide (j &&& w=0) from decide_eq_decide.mpr ⟨fun z=>by injection z with z;omega,fun z=>by rw [z];rfl⟩]
  exact h⟩) ?_
 rw [cx];refine bT (fun h1=>?_) (fun h1=>?_)
 ·rw [if_pos h1] at k;exact ⟨_,rfl,k⟩
 ·rw [if_neg h1] at k;exact ⟨_,rfl,k⟩
noncomputable def qO (ns:List Int) (q:aq):aq:=dn ns (dn ns (dn ns q))
noncomputable def qP (ns:List Int) (q:aq):Int:=((dv ns q*1000003+dv ns (dn ns q))*1000003+dv ns (dn ns (dn ns q))) % 10 ^ 18
inductive xh (K:W.Frag) (vs:List V) (H:Hp) (Q:VK) (E:XK):Prop
 | mk:∀ (d:Addr) (ns:List Int) (q:aq),vs=[.ref d]->Dw K H d ns q->(∀ H',be d H H'->Dw K H' d ns (qO ns q)->Q (.int (qP ns q)) H')->xh K vs H Q E
noncomputable abbrev Em:List Str:=["_law_draws_here","_law_found"]
theorem xi:aT Em ["_law_draws_here"] (aI pI):=by decide +kernel
theorem xk (T:All P w K mg AA DD):aB P w K mg base aE 3 AA.Zv DD.Zv ["_law_draws_here"] (xh K):=by have GN:=eC (base:=base) T;refine T.z_Zv.F.ok xi (fun vs H Q E h=>by cases h;subst_vars;rfl) fun Fk A outer s H vs Q E hr h=>?_;obtain ⟨d,ns,q,rfl,hD,k⟩:=h;have nd:=xi.nd;have Fm:ar 2 _:=hr;refine ⟨_,(ai (aL (i:=1) nd rfl (Or.inl rfl) (am bS (am gj (ao GN Fm rfl T.z_ZL (aa (pv 0) ab)) ah) (ao GN Fm rfl T.z_ZL (aa (pv 0) ab)))) (aj (aH (am bx (am bS (am gj (pv 1) ah) (ao GN Fm rfl T.z_ZL (aa (pv 0) ab))) (am yU ah ah))))),?_⟩;refine ⟨_,rfl,d,ns,_,rfl,hD,fun H1 b1 Ft=>⟨_,_,rfl,rfl,.inr ⟨by decide,by decide⟩,_,rfl,d,ns,_,rfl,Ft,fun H2 b2 Fp=>⟨_,_,rfl,rfl,?_⟩⟩⟩;dsimp only [aK];exact ⟨_,rfl,_,_,rfl,rfl,.inr ⟨by decide,by decide⟩,_,rfl,d,ns,_,rfl,Fp,fun H3 b3 Fz=>⟨_,_,rfl,rfl,_,_,rfl,rfl,⟨by decide,by decide,by decide⟩,_,_,rfl,rfl,(by show (0:Int)<10 ^ 18;decide),k _ ((b1.trans b2).trans b3) Fz⟩⟩
noncomputable def gS (ws:List Str) (r:Int):Str:=ws.getD (r % ((ws.length:Nat):Int)).toNat ""
theorem iD {ws:List Str} (h0:0<ws.length) (r:Int):gm (ws.map V.str) (r % ((ws.length:Nat):Int))=some (.str (gS ws r)):=by obtain ⟨j,ej,hj⟩:=dX (a:=r) (n:=ws.length) h0;unfold gS;rw [ej,Qy,Qg,Qa hj];exact bn (by rw [Qu,Qa hj];rfl)
theorem En {ws:List Str} (h0:0<ws.length) (r:Int):gS ws r∈ws:=by obtain ⟨j,ej,hj⟩:=dX (a:=r) (n:=ws.length) h0;unfold gS;rw [ej,Qy,Qg,Qa hj];exact QB hj
theorem dY {ws:List Str} {i:Nat} (h:i<ws.length):(ws.map V.str)[i]?=some (.str (ws.getD i "")):=by rw [Qu,Qa h,Qg,Qa h];rfl
noncomputable abbrev gM:Str:="fgh"
noncomputable def cp (i:Nat):Str:=⟨#[gM.cps.toList.getD i 0]⟩
theorem nh {i:Nat} (h:i<3):gM.cps.toList[i]?=some (gM.cps.toList.getD i 0):=by
 have hl:gM.cps.toList.length=3:=by decide +kernel
 rw [Qg,Qa (by omega)];rfl
noncomputable abbrev qQ:List Str:=["yes","no"]
noncomputable def iE (ns:List Int) (kn:List Str) (f:Int) (q:aq):Ex × aq :=
 if decide (f % 3<2)=true then (.name (gS kn (dv ns q)),dn ns q)
 else if decide (dv ns q % 2=1)=true then (.truth (gS qQ (dv ns (dn ns q))),dn ns (dn ns q))
 else (.num (qP ns (dn ns q)),qO ns (dn ns q))
noncomputable def aU (ns:List Int) (kn nm:List Str):Nat->aq->Ex × aq
 | 0,q=>iE ns kn (dv ns q % 16) (dn ns q)
 | k+1,q=>if decide (dv ns q % 16<6)=true then iE ns kn (dv ns q % 16) (dn ns q)
  else if decide (dv ns q % 16=6)=true then (.not (aU ns kn nm k (dn ns q)).1,(aU ns kn nm k (dn ns q)).2)
  else if decide (dv ns q % 16<9)=true then (.many "new" (nm.getD 4 "") [(aU ns kn nm k (dn ns q)).1,(aU ns kn nm k (aU ns kn nm k (dn ns q)).2).1],(aU ns kn nm k (aU ns kn nm k (dn ns q)).2).2)
  else if decide (dv ns q % 16<11)=true then (.of (cp (dv ns (aU ns kn nm k (dn ns q)).2 % 3).toNat) (aU ns kn nm k (dn ns q)).1,dn ns (aU ns kn nm k (dn ns q)).2)
  else if decide (dv ns q % 16<13)=true then (.many "do" (nm.getD 5 "") [(aU ns kn nm k (dn ns q)).1],(aU ns kn nm k (dn ns q)).2)
  else (.op (gS ij (dv ns (aU ns kn nm k (dn ns q)).2)) (aU ns kn nm k (dn ns q)).1 (aU ns kn nm k (dn ns (aU ns kn nm k (dn ns q)).2)).1,(aU ns kn nm k (dn ns (aU ns kn nm k (dn ns q)).2)).2)
theorem Eo (ns:List Int) (kn nm:List Str) (n:Nat) (q:aq) (h:(decide (n=0)||decide (dv ns q % 16<6))=true):aU ns kn nm n q=iE ns kn (dv ns q % 16) (dn ns q):=by
 cases n with
 | zero=>rfl
 | succ n=>rw [aU,if_pos (by simpa using h)]
theorem xl (ns:List Int) (kn nm:List Str):∀ (k:Nat) (q:aq),(aU ns kn nm k q).1.good/\(aU ns kn nm k q).1.deep<=k:=by
 have lf:∀ k f q,(iE ns kn f q).1.good/\(iE ns kn f q).1.deep<=k:=fun k f q=>by
  unfold iE;split
  ·exact ⟨trivial,Qr _⟩
  ·split
   ·exact ⟨trivial,Qr _⟩
   ·exact ⟨trivial,Qr _⟩
 intro k
 induction k with
 | zero=>exact fun q=>lf 0 _ _
 | succ k ih =>
  intro q;rw [aU];split
  ·exact lf _ _ _
  have i1:=ih (dn ns q);generalize aU ns kn nm k (dn ns q)=a at i1;split
  ·exact ⟨i1.1,by have:=i1.2;simp [Ex.deep];omega⟩
  split
  ·have i2:=ih a.2;exact ⟨⟨.inr rfl,by simp,i1.1,i2.1,trivial⟩,by have:=i1.2;have:=i2.2;simp [Ex.deep,d9];omega⟩
  split
  ·exact ⟨i1.1,by have:=i1.2;simp [Ex.deep];omega⟩
  split
  ·exact ⟨⟨.inl rfl,by simp,i1.1,trivial⟩,by have:=i1.2;simp [Ex.deep,d9];omega⟩
  ·have i2:=ih (dn ns a.2);exact ⟨⟨En (by decide) _,i1.1,i2.1⟩,by have:=i1.2;have:=i2.2;simp [Ex.deep];omega⟩
theorem qR {H:Hp} {v u:V} {a b:Ex} (h:aS H v a) (g:aS H u b):ExsAt H [v,u] [a,b]:=.cons h (.cons g .nil)
inductive jD (K:W.Frag) (k:Nat) (vs:List V) (H:Hp) (Q:VK) (E:XK):Prop
 | mk:∀ (d kp np:Addr) (ns:List Int) (kn nm:List Str) (n:Nat) (q:aq),vs=[.ref d,.ref kp,.ref np,.int ((n:Nat):Int)]->n<k->Dw K H d ns q->H kp=some (.lst (kn.map V.str))->kn.length=2->H np=some (.lst (nm.map V.str))->nm.length=8->(∀ v H',be d H H'->Dw K H' d ns (aU ns kn nm n q).2->aS H' v (aU ns kn nm n q).1->Q v H')->jD K k vs H Q E
noncomputable abbrev Ep:List Str:=["_law_draws_here","_law_known","_law_names_here","_law_deep","_law_form","_law_left","_law_word"]
theorem qS:aT Ep ["_law_draws_here","_law_known","_law_names_here","_law_deep"] (aI pJ):=by decide +kernel
theorem Er (T:All P w K mg AA DD) {k:Nat} (GXE:aB P w K mg base aE (k+4) AA.ZN DD.ZN ["_law_draws_here","_law_known","_law_names_here","_law_deep"] (jD K k)):aB P w K mg base aE (k+1+4) AA.ZN DD.ZN ["_law_draws_here","_law_known","_law_names_here","_law_deep"] (jD K (k+1)):=by
 have GN:=eC (base:=base) T;have GNU:=xk (base:=base) T;refine T.z_ZN.F.ok qS (fun vs H Q E h=>by cases h;subst_vars;rfl) fun Fk A outer s H vs Q E hr h=>?_;obtain ⟨d,kp,np,ns,kn,nm,n,q,rfl,hn,hD,FN,FT,G6,Gd,kq⟩:=h;have nd:=qS.nd;have Je:ar (k+4) _:=hr;have Fm:ar 2 _:=Je.mono (by omega);have FF:ar 3 _:=Je.mono (by omega);refine ⟨_,(ai (aL (i:=4) nd rfl (Or.inl rfl) (am bx (ao GN Fm rfl T.z_ZL (aa (pv 0) ab)) ah)) (ai (aX (PW.pt (gf (aN bp (pv 3) ah (aQ _)) (jM (aN gk (pv 4) ah (aQ _))))) (ai (aX (aN gk (am bx (pv 4) ah) ah (aQ _)) (aj (aH (aF (aa ap (aa (cB ef (pv 1) (am bx (ao GN Fm rfl T.z_ZL (aa (pv 0) ab)) (di ma rfl T.n_len hX (aa (pv 1) ab))) (fun _ _=>rfl)) ab))))) bb) (ai (aX (aN bp (am bx (ao GN Fm rfl T.z_ZL (aa (pv 0) ab)) ah) ah (aQ _)) (aj (aH (aF (aa ap (aa (cB ef (bG (aa ap (aa ap ab))) (am bx (ao GN Fm rfl T.z_ZL (aa (pv 0) ab)) ah) (fun _ _=>rfl)) ab))))) bb) (aj (aH (aF (aa ap (aa (ao GNU FF rfl T.z_Zv (aa (pv 0) ab)) ab))))))) bb) (ai (aL (i:=5) nd rfl (Or.inl rfl) (ao GXE Je rfl T.z_ZN (aa (pv 0) (aa (pv 1) (aa (pv 2) (aa (am gi (pv 3) ah) ab)))))) (ai (aX (aN bp (pv 4) ah (aQ _)) (aj (aH (aF (aa ap (aa (pv 5) ab))))) bb) (ai (aX (aN gk (pv 4) ah (aQ _)) (aj (aH (aF (aa ap (aa (eQ (pv 2)) (aa (aF (aa (pv 5) (aa (ao GXE Je rfl T.z_ZN (aa (pv 0) (aa (pv 1) (aa (pv 2) (aa (am gi (pv 3) ah) ab))))) ab))) ab)))))) bb) (ai (aX (aN gk (pv 4) ah (aQ _)) (aj (aH (aF (aa ap (aa (cB jT ap (am bx (ao GN Fm rfl T.z_ZL (aa (pv 0) ab)) ah) (fun _ _=>rfl)) (aa (pv 5) ab)))))) bb) (ai (aX (aN gk (pv 4) ah (aQ _)) (aj (aH (aF (aa ap (aa (eQ (pv 2)) (aa (aF (aa (pv 5) ab)) ab)))))) bb) (ai (aL (i:=6) nd rfl (Or.inl rfl) (cB ef (bG (aa ap (aa ap (aa ap (aa ap (aa ap (aa ap (aa ap ab)))))))) (am bx (ao GN Fm rfl T.z_ZL (aa (pv 0) ab)) ah) (fun _ _=>rfl))) (aj (aH (aF (aa (pv 6) (aa (pv 5) (aa (ao GXE Je rfl T.z_ZN (aa (pv 0) (aa (pv 1) (aa (pv 2) (aa (am gi (pv 3) ah) ab))))) ab)))))))))))))),?_⟩;refine ⟨_,rfl,d,ns,q,rfl,hD,fun H1 b1 Ft=>⟨_,_,rfl,rfl,(by show (0:Int)<16;decide),?_⟩⟩;dsimp only [aK];have Fo:=b1.lst hD FN;have F2:=b1.lst hD G6;have dq:decide (V.int ((n:Nat):Int)=V.int 0)=decide (n=0):=by rw [cx];exact decide_eq_decide.mpr (by omega)
 refine gv (fun σ' H'=>H'=H1/\σ'=[some (.ref d),some (.ref kp),some (.ref np),some (.int ((n:Nat):Int)),some (.int (dv ns q % 16)),none,none]/\¬ (decide (n=0)||decide (dv ns q % 16<6))=true) (fun R hR=>?_) ?_
 ·refine ⟨_,rfl,rfl,_,rfl,?_⟩;refine wZ (b2:=decide (dv ns q % 16<6)) (fun h=>⟨_,rfl,_,_,rfl,rfl,_,rfl,h⟩) ?_;rw [dq];refine bT (fun g1=>?_) (fun g1=>?_)
  ·rw [Eo _ _ _ _ _ g1] at kq;unfold iE at kq;generalize dv ns q % 16=f at kq;generalize dn ns q=q1 at kq Ft;refine ⟨_,rfl,_,_,rfl,rfl,(by show (0:Int)<3;decide),_,_,rfl,rfl,_,rfl,?_⟩;refine bT (fun g2=>?_) (fun g2=>?_)
   ·rw [if_pos g2] at kq;refine ⟨_,rfl,_,rfl,d,ns,q1,rfl,Ft,fun H2 b2 Fp=>?_⟩;have Fi:=b2.lst Ft Fo;refine ⟨_,rfl,kp,_,rfl,.inl (ak.of Fi),_,_,rfl,rfl,(by show (0:Int)<(((kn.map V.str).length:Nat):Int);rw [Qe,FT];decide),kp,_,_,_,rfl,rfl,ak.of Fi,(by rw [Qe];exact iD (by omega) _),aM,fun p hp=>?_⟩;exact kq _ _ ((b1.trans b2).same (ag hp)) (Fp.same (ag hp)) (.name af)
   ·rw [if_neg g2] at kq;refine ⟨_,rfl,d,ns,q1,rfl,Ft,fun H2 b2 Fp=>⟨_,_,rfl,rfl,(by show (0:Int)<2;decide),rfl,_,rfl,?_⟩⟩;rw [cx];generalize dv ns q1=r1 at kq;generalize dn ns q1=q2 at kq Fp;refine bT (fun g3=>?_) (fun g3=>?_)
    ·rw [if_pos g3] at kq;refine ⟨aM,fun q0 hq0=>?_⟩;have s0:=ag (o:=.lst (qQ.map V.str)) hq0;have HB:=Fp.same s0;refine ⟨_,rfl,d,ns,q2,rfl,HB,fun H3 b3 Fz=>?_⟩;refine ⟨_,_,rfl,rfl,(by show (0:Int)<2;decide),q0,_,_,_,rfl,rfl,ak.of (b3.lst HB af),iD (ws:=qQ) (by decide) _,aM,fun p hp=>?_⟩;exact kq _ _ ((((b1.trans b2).same s0).trans b3).same (ag hp)) (Fz.same (ag hp)) (.truth af)
    ·rw [if_neg g3] at kq;exact ⟨_,rfl,d,ns,q2,rfl,Fp,fun H3 b3 Fz=>⟨aM,fun p hp=>kq _ _ (((b1.trans b2).trans b3).same (ag hp)) (Fz.same (ag hp)) (.num af)⟩⟩
  ·exact hR _ _ ⟨rfl,rfl,g1⟩
 rintro σ' H1' ⟨rfl,rfl,hn0⟩
 obtain ⟨m,rfl⟩:∃ m,n=m+1:=⟨n-1,by
  have:n≠0:=fun z=>hn0 (by simp [z])
  omega⟩
 rw [aU,if_neg (fun z=>hn0 (by rw [z];simp))] at kq;have sub:[V.ref d,.ref kp,.ref np,.int (((m+1:Nat):Int)-1)]=[V.ref d,.ref kp,.ref np,.int ((m:Nat):Int)]:=by rw [show ((m+1:Nat):Int)-1=((m:Nat):Int) by omega]
 have hmk:m<k:=by omega
 generalize dv ns q % 16=f at kq;generalize dn ns q=q1 at kq Ft;refine ⟨_,rfl,_,rfl,_,rfl,_,rfl,_,_,rfl,rfl,d,kp,np,ns,kn,nm,m,q1,sub,hmk,Ft,Fo,FT,F2,Gd,fun v H2 b2 Fp hv=>?_⟩;dsimp only [aK];have Fi:=b2.lst Ft Fo;have Ge:=b2.lst Ft F2;have Ja:=b1.trans b2;generalize aU ns kn nm m q1=a at kq Fp hv;refine ⟨_,rfl,rfl,_,rfl,?_⟩;rw [cx];refine bT (fun g=>?_) (fun g=>?_)
 ·rw [if_pos g] at kq;exact ⟨_,rfl,aM,fun p hp=>kq _ _ (Ja.same (ag hp)) (Fp.same (ag hp)) (.not af (hv.kept (ag hp).tups))⟩
 rw [if_neg g] at kq;refine ⟨_,rfl,_,_,rfl,rfl,_,rfl,?_⟩;refine bT (fun g=>?_) (fun g=>?_)
 ·rw [if_pos g] at kq;refine ⟨_,rfl,np,_,_,_,rfl,rfl,ak.of Ge,bn (j:=4) (dY (by omega)),?_⟩;refine ⟨_,rfl,_,rfl,_,rfl,_,rfl,_,rfl,_,_,rfl,rfl,d,kp,np,ns,kn,nm,m,a.2,sub,hmk,Fp,Fi,FT,Ge,Gd,fun u H3 b3 Fz hu=>?_⟩;refine ⟨aM,fun p1 Hv=>⟨dt,fun p2 Hu=>?_⟩⟩;have s1:=ag (o:=.tup [v,u]) Hv;have s2:=ag (o:=.tup [.str "new",.str (nm.getD 4 ""),.ref p1]) Hu;have F6:=s1.trans s2;exact kq _ _ ((Ja.trans b3).same F6) (Fz.same F6) (.many af (s2 _ _ af) ((qR (hv.kept (b3.tups Fp)) hu).kept F6.tups))
 rw [if_neg g] at kq;refine ⟨_,rfl,_,_,rfl,rfl,_,rfl,?_⟩;refine bT (fun g=>?_) (fun g=>?_)
 ·rw [if_pos g] at kq;refine ⟨_,rfl,d,ns,a.2,rfl,Fp,fun H3 b3 Fz=>?_⟩;obtain ⟨j,ej,hj⟩:=dX (a:=dv ns a.2) (n:=3) (by decide);have ej:dv ns a.2 % 3=((j:Nat):Int):=ej;rw [ej,Qy] at kq;refine ⟨_,_,rfl,rfl,(by show (0:Int)<3;decide),gM,_,_,rfl,rfl,(by decide +kernel),(by rw [ej];exact bn (nh hj)),?_⟩;exact ⟨_,rfl,dt,fun p hp=>kq _ _ ((Ja.trans b3).same (ag hp)) (Fz.same (ag hp)) (.of af ((hv.kept (b3.tups Fp)).kept (ag hp).tups))⟩
 rw [if_neg g] at kq;refine ⟨_,rfl,_,_,rfl,rfl,_,rfl,?_⟩;refine bT (fun g=>?_) (fun g=>?_)
 ·rw [if_pos g] at kq;refine ⟨_,rfl,np,_,_,_,rfl,rfl,ak.of Ge,bn (j:=5) (dY (by omega)),?_⟩;refine ⟨_,rfl,cO,fun p1 Hv=>⟨dt,fun p2 Hu=>?_⟩⟩;have s1:=ag (o:=.tup [v]) Hv;have s2:=ag (o:=.tup [.str "do",.str (nm.getD 5 ""),.ref p1]) Hu;have F6:=s1.trans s2;exact kq _ _ (Ja.same F6) (Fp.same F6) (.many af (s2 _ _ af) ((ExsAt.cons hv .nil).kept F6.tups))
 rw [if_neg g] at kq;refine ⟨(by show 7<=sizeLine;decide),fun p0 hp0=>?_⟩;have s0:=ag (o:=.lst (ij.map V.str)) hp0;have HB:=Fp.same s0;refine ⟨_,rfl,d,ns,a.2,rfl,HB,fun H3 b3 Fz=>?_⟩;refine ⟨_,_,rfl,rfl,(by show (0:Int)<7;decide),p0,_,_,_,rfl,rfl,ak.of (b3.lst HB af),iD (ws:=ij) (by decide) _,?_⟩;dsimp only [aK];have Fg:=b3.lst HB (s0 _ _ Fi);have GZ:=b3.lst HB (s0 _ _ Ge);have hv3:=(hv.kept s0.tups).kept (b3.tups HB);have b13:=(Ja.same s0).trans b3;refine ⟨_,rfl,_,rfl,_,rfl,_,rfl,_,rfl,_,rfl,_,_,rfl,rfl,d,kp,np,ns,kn,nm,m,_,sub,hmk,Fz,Fg,FT,GZ,Gd,fun u H4 b4 FU hu=>⟨dt,fun p hp=>?_⟩⟩;exact kq _ _ ((b13.trans b4).same (ag hp)) (FU.same (ag hp)) (.op af ((hv3.kept (b4.tups Fz)).kept (ag hp).tups) (hu.kept (ag hp).tups))
theorem Es (T:All P w K mg AA DD):aB P w K mg base aE 4 AA.ZN DD.ZN ["_law_draws_here","_law_known","_law_names_here","_law_deep"] (jD K 0):=by
 have no:∀ vs H Q E,¬ jD K 0 vs H Q E:=fun vs H Q E h=>by obtain ⟨d,kp,np,ns,kn,nm,n,q,_,z,_⟩:=h;omega
 exact T.z_ZN.F.ok qS (fun vs H Q E h=>(no _ _ _ _ h).elim) (fun Fk A outer s H vs Q E hr h=>(no _ _ _ _ h).elim)
theorem qT (T:All P w K mg AA DD):∀ k:Nat,aB P w K mg base aE (k+4) AA.ZN DD.ZN ["_law_draws_here","_law_known","_law_names_here","_law_deep"] (jD K k)
 | 0=>Es T
 | k+1=>Er T (qT T k)
noncomputable def cX (ns:List Int) (nm:List Str) (q:aq):Ex × aq :=
 if decide (dv ns q % 4=0)=true then (.truth "yes",dn ns q)
 else if decide (dv ns q % 4=1)=true then (.many "new" (nm.getD 4 "") [.num 5,.truth "no"],dn ns q)
 else if decide (dv ns q % 4=2)=true then (.of (cp (dv ns (dn ns q) % 3).toNat) (.many "new" (nm.getD 4 "") [.num 1,.num 2]),dn ns (dn ns q))
 else (.num (qP ns (dn ns q)),qO ns (dn ns q))
theorem xm (ns:List Int) (nm:List Str) (q:aq):(cX ns nm q).1.good/\(cX ns nm q).1.deep<=3:=by
 unfold cX;split
 ·exact ⟨trivial,Qr _⟩
 split
 ·exact ⟨⟨.inr rfl,by simp,trivial,trivial,trivial⟩,by simp [Ex.deep,d9]⟩
 split
 ·exact ⟨⟨.inr rfl,by simp,trivial,trivial,trivial⟩,by simp [Ex.deep,d9]⟩
 ·exact ⟨trivial,Qr _⟩
inductive xn (K:W.Frag) (vs:List V) (H:Hp) (Q:VK) (E:XK):Prop
 | mk:∀ (d np:Addr) (ns:List Int) (nm:List Str) (q:aq),vs=[.ref d,.ref np]->Dw K H d ns q->H np=some (.lst (nm.map V.str))->nm.length=8->(∀ v H',be d H H'->Dw K H' d ns (cX ns nm q).2->aS H' v (cX ns nm q).1->Q v H')->xn K vs H Q E
noncomputable abbrev Et:List Str:=["_law_draws_here","_law_names_here","_law_form"]
theorem xq:aT Et ["_law_draws_here","_law_names_here"] (aI pL):=by decide +kernel
theorem xr (T:All P w K mg AA DD):aB P w K mg base aE 4 AA.ZG DD.ZG ["_law_draws_here","_law_names_here"] (xn K):=by
 have GN:=eC (base:=base) T;have GNU:=xk (base:=base) T;refine T.z_ZG.F.ok xq (fun vs H Q E h=>by cases h;subst_vars;rfl) fun Fk A outer s H vs Q E hr h=>?_;obtain ⟨d,np,ns,nm,q,rfl,hD,G6,Gd,kq⟩:=h;have nd:=xq.nd;have FF:ar 3 _:=hr;have Fm:ar 2 _:=FF.mono (by omega);refine ⟨_,(ai (aL (i:=2) nd rfl (Or.inl rfl) (am bx (ao GN Fm rfl T.z_ZL (aa (pv 0) ab)) ah)) (ai (aX (aN bp (pv 2) ah (aQ _)) (aj (aH (aF (aa ap (aa ap ab))))) bb) (ai (aX (aN bp (pv 2) ah (aQ _)) (aj (aH (aF (aa ap (aa (eQ (pv 1)) (aa (aF (aa (aF (aa ap (aa ah ab))) (aa (aF (aa ap (aa ap ab))) ab))) ab)))))) bb) (ai (aX (aN bp (pv 2) ah (aQ _)) (aj (aH (aF (aa ap (aa (cB jT ap (am bx (ao GN Fm rfl T.z_ZL (aa (pv 0) ab)) ah) (fun _ _=>rfl)) (aa (aF (aa ap (aa (eQ (pv 1)) (aa (aF (aa (aF (aa ap (aa ah ab))) (aa (aF (aa ap (aa ah ab))) ab))) ab)))) ab)))))) bb) (aj (aH (aF (aa ap (aa (ao GNU FF rfl T.z_Zv (aa (pv 0) ab)) ab))))))))),?_⟩;unfold cX at kq;refine ⟨_,rfl,d,ns,q,rfl,hD,fun H1 b1 Ft=>⟨_,_,rfl,rfl,(by show (0:Int)<4;decide),?_⟩⟩;dsimp only [aK];have F2:=b1.lst hD G6;generalize dv ns q % 4=f at kq;generalize dn ns q=q1 at kq Ft;refine ⟨_,rfl,rfl,_,rfl,?_⟩;rw [cx];refine bT (fun g=>?_) (fun g=>?_)
 ·rw [if_pos g] at kq;exact ⟨aM,fun p hp=>kq _ _ (b1.same (ag hp)) (Ft.same (ag hp)) (.truth af)⟩
 rw [if_neg g] at kq;refine ⟨_,rfl,rfl,_,rfl,?_⟩;rw [cx];refine bT (fun g=>?_) (fun g=>?_)
 ·rw [if_pos g] at kq;refine ⟨_,rfl,np,_,_,_,rfl,rfl,ak.of F2,bn (j:=4) (dY (by omega)),?_⟩;refine ⟨aM,fun p1 Hv=>⟨aM,fun p2 Hu=>⟨aM,fun p3 GV=>⟨dt,fun p4 IC=>?_⟩⟩⟩⟩;have s1:=ag (o:=.tup [.str "num",.int 5]) Hv;have s2:=ag (o:=.tup [.str "truth",.str "no"]) Hu;have s3:=ag (o:=.tup [.ref p1,.ref p2]) GV;have s4:=ag (o:=.tup [.str "new",.str (nm.getD 4 ""),.ref p3]) IC;have HR:=s3.trans s4;have sa:=(s1.trans s2).trans HR;exact kq _ _ (b1.same sa) (Ft.same sa) (.many af (s4 _ _ af) (qR (.num (HR _ _ (s2 _ _ af))) (.truth (HR _ _ af))))
 rw [if_neg g] at kq;refine ⟨_,rfl,rfl,_,rfl,?_⟩;rw [cx];refine bT (fun g=>?_) (fun g=>?_)
 ·rw [if_pos g] at kq;refine ⟨_,rfl,d,ns,q1,rfl,Ft,fun H2 b2 Fp=>?_⟩;obtain ⟨j,ej,hj⟩:=dX (a:=dv ns q1) (n:=3) (by decide);have ej:dv ns q1 % 3=((j:Nat):Int):=ej;rw [ej,Qy] at kq;refine ⟨_,_,rfl,rfl,(by show (0:Int)<3;decide),gM,_,_,rfl,rfl,(by decide +kernel),(by rw [ej];exact bn (nh hj)),?_⟩;refine ⟨_,rfl,np,_,_,_,rfl,rfl,ak.of (b2.lst Ft F2),bn (j:=4) (dY (by omega)),?_⟩;refine ⟨aM,fun p1 Hv=>⟨aM,fun p2 Hu=>⟨aM,fun p3 GV=>⟨dt,fun p4 IC=>⟨dt,fun p5 hp5=>?_⟩⟩⟩⟩⟩;have s1:=ag (o:=.tup [.str "num",.int 1]) Hv;have s2:=ag (o:=.tup [.str "num",.int 2]) Hu;have s3:=ag (o:=.tup [.ref p1,.ref p2]) GV;have s4:=ag (o:=.tup [.str "new",.str (nm.getD 4 ""),.ref p3]) IC;have s5:=ag (o:=.tup [.str "of",.str (cp j),.ref p4]) hp5;have s45:=s4.trans s5;have s35:=s3.trans s45;have sa:=(s1.trans s2).trans s35;exact kq _ _ ((b1.trans b2).same sa) (Fp.same sa) (.of af (.many (s5 _ _ af) (s45 _ _ af) (qR (.num (s35 _ _ (s2 _ _ af))) (.num (s35 _ _ af)))))
 rw [if_neg g] at kq;exact ⟨_,rfl,d,ns,q1,rfl,Ft,fun H2 b2 Fp=>⟨aM,fun p hp=>kq _ _ ((b1.trans b2).same (ag hp)) (Fp.same (ag hp)) (.num af)⟩⟩
noncomputable def isL:Option HO->Bool
 | some (.lst _)=>true
 | _=>false
noncomputable def bI (B:Hp) (p:Addr) (H:Hp):Hp:=fun a=>if (((B a).isSome||decide (a=p))&&isL (H a))=true then none else H a
theorem cq {B H:Hp} {p a:Addr} {xs:List V} (h:H a=some (.tup xs)):bI B p H a=some (.tup xs):=by unfold bI;rw [h,if_neg (by show ¬ (_&&false)=true;simp)]
theorem kR {B H:Hp} {p a:Addr} {xs:List V} (h:H a=some (.lst xs)) (hb:B a=none) (hp:a≠p):bI B p H a=some (.lst xs):=by unfold bI;rw [h,hb,if_neg (by simp [hp])]
theorem xu {B H:Hp} {p a:Addr} {o:HO} (h:bI B p H a=some o):H a=some o/\(isL (some o)=true->B a=none/\a≠p):=by
 unfold bI at h;split at h
 ·cases h
 ·rename_i hn;refine ⟨h,fun hl=>?_⟩;rw [h,hl,Bool.and_true,Bool.or_eq_true,not_or] at hn;exact ⟨by cases e:B a with | none=>rfl | some x=>rw [e] at hn;exact absurd rfl hn.1,by simpa using hn.2⟩
theorem ni {B B' H H':Hp} {p p':Addr} (t:∀ b xs,H' b=some (.tup xs)->H b=some (.tup xs)) (l:∀ b xs,H' b=some (.lst xs)->B' b=none->b≠p'->H b=some (.lst xs)/\B b=none/\b≠p):fA (bI B' p' H') (bI B p H) :=
 ⟨fun b xs h=>cq (t b xs (xu h).1),fun b xs h=>by obtain ⟨h1,h2⟩:=xu h;exact by obtain ⟨a,c⟩:=h2 rfl;exact by obtain ⟨x,y,z⟩:=l b xs h1 a c;exact kR x y z⟩
theorem jE {B H0 H H':Hp} {p p':Addr} (t:∀ b xs,H' b=some (.tup xs)->H b=some (.tup xs)) (l:∀ b xs,H' b=some (.lst xs)->b≠p'->H0 b=none->H b=some (.lst xs)) (b0:∀ b,H0 b=none->B b=none) (hp:H' p=none∨H0 p≠none∨p=p'):fA (bI H0 p' H') (bI B p H):=ni t fun b xs h a c=>⟨l b xs h c a,b0 b a,fun z=>by
 subst z;rcases hp with hp | hp | hp
 ·rw [h] at hp;cases hp
 ·exact hp a
 ·exact c hp⟩
theorem nj {B H H':Hp} {p:Addr} (t:∀ b xs,H' b=some (.tup xs)->H b=some (.tup xs)) (l:∀ b xs,H' b=some (.lst xs)->b≠p->H b=some (.lst xs)):fA (bI B p H') (bI B p H):=ni t fun b xs h a c=>⟨l b xs h c,a,c⟩
theorem kS {B H:Hp} {p:Addr} {v:V} {e:Ex} (h:aS H v e):aS (bI B p H) v e:=h.kept fun _ _ h=>cq h
theorem nk {H:Hp} {p:Addr} {xs:List V} {o:HO} (h:H p=some (.lst xs)):∀ b ys,H b=some (.tup ys)->upd H p o b=some (.tup ys):=fun b ys e=>by rw [ay fun z=>by rw [z,h] at e;cases e];exact e
structure a7 (lo hi w D n c:Nat) (ts:List Tr):Prop where
 pw:ts.Pairwise fun a b=>a.row<b.row
 mem:∀ t∈ts,(lo<=t.row/\t.row<hi)/\aY t.mask/\t.mask &&& w=t.mask/\t.asc/\t.deep<=D
 len:ts.length<=n
 cn:cnts ts<=c
theorem a7.nil {lo hi w D n c:Nat}:a7 lo hi w D n c []:=⟨.nil,fun t h=>by simp at h,Qr _,by simp [cnts]⟩
theorem a7.app {lo mid hi w D n n' c c':Nat} {ts us:List Tr} (h:a7 lo mid w D n c ts) (g:a7 mid hi w D n' c' us) (h1:lo<=mid) (h2:mid<=hi):a7 lo hi w D (n+n') (c+c') (ts++us):=by
 refine ⟨List.pairwise_append.mpr ⟨h.pw,g.pw,fun a ha b hb=>?_⟩,fun t ht=>?_,by have:=h.len;have:=g.len;simp;omega,by have:=h.cn;have:=g.cn;rw [uf];omega⟩
 ·have:=(h.mem a ha).1;have:=(g.mem b hb).1;omega
 ·rcases QK ht with ht | ht
  ·obtain ⟨a,b⟩:=h.mem t ht;exact ⟨by omega,b⟩
  ·obtain ⟨a,b⟩:=g.mem t ht;exact ⟨by omega,b⟩
theorem a7.one {lo hi w D c:Nat} {t:Tr} (h1:lo<=t.row) (h2:t.row<hi) (h3:aY t.mask) (h4:t.mask &&& w=t.mask) (h5:t.asc) (h6:t.deep<=D) (h7:t.cnt<=c):a7 lo hi w D 1 c [t]:=⟨by simp,fun u hu=>by rw [QL hu];exact ⟨⟨h1,h2⟩,h3,h4,h5,h6⟩,by simp,by simpa [cnts] using h7⟩
theorem a7.wide {lo hi lo' hi' w D D' n n' c c':Nat} {ts:List Tr} (h:a7 lo hi w D n c ts) (h1:lo'<=lo) (h2:hi<=hi') (h3:D<=D') (h4:n<=n') (h5:c<=c'):a7 lo' hi' w D' n' c' ts:=⟨h.pw,fun t ht=>by obtain ⟨a,b,c,d,e⟩:=h.mem t ht;exact ⟨by omega,b,c,d,by omega⟩,by have:=h.len;omega,by have:=h.cn;omega⟩
theorem a7.ascs {lo hi w D n c:Nat} {ts:List Tr} (h:a7 lo hi w D n c ts) (h2:hi<=200):ascs ts:=oU (fun t ht=>by obtain ⟨a,b,_,d,_⟩:=h.mem t ht;exact ⟨⟨b,by omega⟩,d⟩) (h.pw.imp fun {a b} g=>⟨QP g,fun e=>by omega⟩)
theorem a7.subs {lo hi w D n c:Nat} {ts:List Tr} (h:a7 lo hi w D n c ts):subs w ts:=fun t ht=>(h.mem t ht).2.2.1
theorem a7.deeps {lo hi w D n c:Nat} {ts:List Tr} (h:a7 lo hi w D n c ts):deeps ts<=D+1:=oX (us:=ts) fun t ht=>Nat.succ_le_succ (h.mem t ht).2.2.2.2
theorem f9 {r1 r2:Int} {w:Nat} (h:aY w):aY (jC r1 r2 w)/\jC r1 r2 w &&& w=jC r1 r2 w:=by
 unfold jC;split
 ·exact ⟨h,Nat.and_self w⟩
 ·rename_i g;rw [Bool.or_eq_true,not_or] at g;exact ⟨⟨Nat.pos_of_ne_zero (by simpa using g.2),QD Nat.and_le_right h.2⟩,by rw [Nat.and_assoc,Nat.and_self]⟩
theorem nl {m w:Nat} (h:m &&& w=m):(w ^^^ m) &&& w=w ^^^ m:=by refine Nat.eq_of_testBit_eq fun i=>?_;have:=congrArg (fun x=>x.testBit i) h;simp only [Nat.testBit_and,Nat.testBit_xor] at this ⊢;cases e1:w.testBit i<;>cases e2:m.testBit i<;>simp_all
theorem nq {m w:Nat} (hw:aY w) (hm:aY m) (h0:w ^^^ m≠0):aY (w ^^^ m):=⟨Nat.pos_of_ne_zero h0,Nat.xor_lt_two_pow (n:=8) hw.2 hm.2⟩
noncomputable def eW (m r w:Nat) (z:Str) (a b:Ex):List Tr:=.set m r z a::(if w ^^^ m=0 then [] else [.set (w ^^^ m) (r+1) z b])
theorem qU {m r w:Nat} {z:Str} {a b:Ex} (hw:aY w) (hm:aY m/\m &&& w=m) (ha:a.fit) (hb:b.fit):a7 r (r+2) w 0 2 2 (eW m r w z a b):=by
 unfold eW;have h1:a7 r (r+1) w 0 1 1 [Tr.set m r z a]:=a7.one (Qc _) (Nat.lt_succ_self _) hm.1 hm.2 ha (Qc _) (Qc _);by_cases h0:w ^^^ m=0
 ·rw [if_pos h0];exact h1.wide (Qc _) (by omega) (by omega) (by omega) (by omega)
 ·rw [if_neg h0];exact h1.app (n':=1) (c':=1) (a7.one (t:=.set (w ^^^ m) (r+1) z b) (Qc _) (Nat.lt_succ_self _) (nq hw hm.1 h0) (nl hm.2) hb (Qc _) (Qc _)) (Nat.le_succ _) (Nat.le_succ _)
theorem nr {B H:Hp} {p a t:Addr} {m r:Nat} {z:Str} {v:V} {e:Ex} (ha:H a=some (.tup [.int ((m:Nat):Int),.ref t])) (ht:H t=some (.tup [.str "set",.int ((r:Nat):Int),.str z,v])) (he:aS H v e):OAt (bI B p H) true (.ref a) (.set m r z e):=.shared rfl (cq ha) (.mk (cq ht) (.cons (.s _) (.cons (.i _) (.cons (.s _) (.cons (.e (kS he)) .nil)))))
theorem qV {B H:Hp} {p a t:Addr} {m r:Nat} {v:V} {e:Ex} (ha:H a=some (.tup [.int ((m:Nat):Int),.ref t])) (ht:H t=some (.tup [.str "tell",.int ((r:Nat):Int),v])) (he:aS H v e):OAt (bI B p H) true (.ref a) (.tell m r e):=.shared rfl (cq ha) (.mk (cq ht) (.cons (.s _) (.cons (.i _) (.cons (.e (kS he)) .nil))))
theorem kT {B H:Hp} {p a t:Addr} {m r:Nat} {v:V} {e:Ex} (ha:H a=some (.tup [.int ((m:Nat):Int),.ref t])) (ht:H t=some (.tup [.str "give",.int ((r:Nat):Int),v])) (he:aS H v e):OAt (bI B p H) true (.ref a) (.give m r e):=.shared rfl (cq ha) (.mk (cq ht) (.cons (.s _) (.cons (.i _) (.cons (.e (kS he)) .nil))))
inductive xv (K:W.Frag) (vs:List V) (H:Hp) (Q:VK) (E:XK):Prop
 | mk:∀ (d:Addr) (ns:List Int) (q:aq) (r w:Nat) (z:Str) (v1 v2:V) (e1 e2:Ex),vs=[.ref d,.int ((r:Nat):Int),.int ((w:Nat):Int),.str z,v1,v2]->Dw K H d ns q->aS H v1 e1->aS H v2 e2->(∀ p xs H',H p=none->be d H H'->Dw K H' d ns (bw ns q)->H' p=some (.lst xs)->LAt (bI H p H') true xs (eW (bL ns q w) r w z e1 e2)->Q (.ref p) H')->xv K vs H Q E
noncomputable abbrev Eu:List Str:=["_law_draws_here","_law_at","_law_within","_law_name","_law_one","_law_other","_law_mask_here","_law_found"]
theorem xw:aT Eu ["_law_draws_here","_law_at","_law_within","_law_name","_law_one","_law_other"] (aI pM):=by decide +kernel
theorem qW (T:All P w K mg AA DD):aB P w K mg base aE 4 AA.ZR DD.ZR ["_law_draws_here","_law_at","_law_within","_law_name","_law_one","_law_other"] (xv K):=by
 have GM:=kP (base:=base) T;refine T.z_ZR.F.ok xw (fun vs H Q E h=>by cases h;subst_vars;rfl) fun Fk A outer s H vs Q E hr h=>?_;obtain ⟨d,ns,q,r,w,z,v1,v2,e1,e2,rfl,hD,he1,he2,kq⟩:=h;have nd:=xw.nd;have FF:ar 3 _:=hr;refine ⟨_,(ai (aL (i:=6) nd rfl (Or.inl rfl) (ao GM FF rfl T.z_ZM (aa (pv 0) (aa (pv 2) ab)))) (ai (aL (i:=7) nd rfl (Or.inl rfl) (bG (aa (aF (aa (pv 6) (aa (aF (aa ap (aa (pv 1) (aa (pv 3) (aa (pv 4) ab))))) ab))) ab))) (ai (aX (aN eJ (am eI (pv 2) (pv 6)) ah (aQ _)) (aj (bO (jn (pv 7) (aa (aF (aa (am eI (pv 2) (pv 6)) (aa (aF (aa ap (aa (am bS (pv 1) ah) (aa (pv 3) (aa (pv 5) ab))))) ab))) ab)) (by rfl))) bb) (aj (aH (pv 7)))))),?_⟩;refine ⟨_,rfl,_,rfl,d,ns,q,w,rfl,hD,fun H1 b1 Ft=>?_⟩;dsimp only [aK];have he1:=he1.kept (b1.tups hD);have he2:=he2.kept (b1.tups hD);generalize bL ns q w=m at kq;unfold eW at kq;refine ⟨_,rfl,_,rfl,_,rfl,_,rfl,iG,fun t1 Fu=>⟨aM,fun t2 FM=>⟨cO,fun p hp=>?_⟩⟩⟩;have s1:=ag (o:=.tup [.str "set",.int ((r:Nat):Int),.str z,v1]) Fu;have s2:=ag (o:=.tup [.int ((m:Nat):Int),.ref t1]) FM;have s3:=ag (o:=.lst [.ref t2]) hp;have s123:=(s1.trans s2).trans s3;have GV:upd (upd (upd H1 t1 (.tup [.str "set",.int ((r:Nat):Int),.str z,v1])) t2 (.tup [.int ((m:Nat):Int),.ref t1])) p (.lst [.ref t2]) p=some (.lst [.ref t2]):=af;have ht23:=s3 _ _ (af (H:=upd H1 t1 (.tup [.str "set",.int ((r:Nat):Int),.str z,v1])) (a:=t2) (o:=.tup [.int ((m:Nat):Int),.ref t1]));have ht13:=s3 _ _ (s2 _ _ (af (H:=H1) (a:=t1) (o:=.tup [.str "set",.int ((r:Nat):Int),.str z,v1])));have b3:=b1.same s123;have Fz:=Ft.same s123;have hpn:H p=none:=(b1.same (s1.trans s2)).free (Ft.same (s1.trans s2)) hp;have he13:=he1.kept s123.tups;have he23:=he2.kept s123.tups;generalize upd (upd (upd H1 t1 (.tup [.str "set",.int ((r:Nat):Int),.str z,v1])) t2 (.tup [.int ((m:Nat):Int),.ref t1])) p (.lst [.ref t2])=H3 at GV ht23 ht13 b3 Fz he13 he23 ⊢;dsimp only [aK];have hx:Builtin.bitXor ((w:Nat):Int) ((m:Nat):Int)=((w ^^^ m:Nat):Int):=j2 _ _;refine ⟨_,rfl,_,rfl,_,_,rfl,rfl,rfl,_,rfl,?_⟩;dsimp only;rw [hx,cx];by_cases h0:w ^^^ m=0
 ·refine bN (by rw [Qs (by omega)];rfl) ?_;rw [if_pos h0] at kq;exact ⟨_,rfl,kq p _ _ hpn b3 Fz GV (.cons (nr ht23 ht13 he13) .nil)⟩
 ·refine cu (by rw [Qj (by omega)];rfl) ?_;rw [if_neg h0] at kq;refine ⟨_,rfl,.inl ⟨rfl,_,ak.of GV⟩,_,rfl,_,rfl,_,_,rfl,rfl,_,rfl,_,_,rfl,rfl,_,rfl,_,rfl,iG,fun t4 HX=>⟨aM,fun t5 ht5=>?_⟩⟩;dsimp only;rw [hx];have s4:=ag (o:=.tup [.str "set",.int (((r:Nat):Int)+1),.str z,v2]) HX;have s5:=ag (o:=.tup [.int ((w ^^^ m:Nat):Int),.ref t4]) ht5;have s45:=s4.trans s5;have hp5:=s45 _ _ GV;refine ⟨p,[.ref t2],.ref t5,rfl,rfl,hp5,(by show 1<sizeLine;decide),⟨_,rfl,?_⟩⟩;have b5:=b3.same s45;have tk:=nk (o:=.lst ([.ref t2]++[.ref t5])) hp5;exact kq p _ _ hpn (b5.new hpn hp5) ((Fz.same s45).new hD b5 hpn hp5) af (.cons (nr (tk _ _ (s45 _ _ ht23)) (tk _ _ (s45 _ _ ht13)) ((he13.kept s45.tups).kept tk)) (.cons (nr (tk _ _ af) (tk _ _ (s5 _ _ af)) ((he23.kept s45.tups).kept tk)) .nil))
noncomputable def fH (ns:List Int) (r m:Nat) (z:Str) (b:Ex) (q:aq):List Tr × aq :=
 if decide (dv ns (bw ns q) % 2=1)=true then (eW (bL ns (dn ns (bw ns q)) m) (r+1) m z b (.num 3),bw ns (dn ns (bw ns q))) else ([.tell (bL ns q m) (r+1) b],dn ns (bw ns q))
noncomputable def kU (ns:List Int) (kn nm:List Str) (f:Int) (r w m:Nat) (a:Ex) (z:Str) (q:aq):List Tr × aq :=
 if decide (f=0)=true then ([.set m r z a],q)
 else if decide (f>3)=true then ([.tell m r a],q)
 else if decide (f=1)=true then (eW (bL ns (aU ns kn nm 1 q).2 w) r w z a (aU ns kn nm 1 q).1,bw ns (aU ns kn nm 1 q).2)
 else if decide (f=2)=true then ([.iff m r a (fH ns r m z (aU ns kn nm 1 q).1 (aU ns kn nm 1 q).2).1 []],(fH ns r m z (aU ns kn nm 1 q).1 (aU ns kn nm 1 q).2).2)
 else ([.whl m r a (fH ns r m z (aU ns kn nm 1 q).1 (aU ns kn nm 1 q).2).1],(fH ns r m z (aU ns kn nm 1 q).1 (aU ns kn nm 1 q).2).2)
noncomputable def gc (ns:List Int) (kn nm:List Str) (r w:Nat) (q:aq):List Tr × aq :=
 kU ns kn nm (dv ns q % 6) r w (bL ns (dn ns q) w) (aU ns kn nm (dv ns (bw ns (dn ns q)) % 4).toNat (dn ns (bw ns (dn ns q)))).1 (gS kn (dv ns (aU ns kn nm (dv ns (bw ns (dn ns q)) % 4).toNat (dn ns (bw ns (dn ns q)))).2)) (dn ns (aU ns kn nm (dv ns (bw ns (dn ns q)) % 4).toNat (dn ns (bw ns (dn ns q)))).2)
theorem nu (ns:List Int) (kn nm:List Str) {k:Nat} (h:k<8) (q:aq):(aU ns kn nm k q).1.fit:=⟨(xl ns kn nm k q).1,QD (xl ns kn nm k q).2 h⟩
theorem Ew {ns:List Int} {r m:Nat} {z:Str} {b:Ex} {q:aq} (hm:aY m) (hb:b.fit):a7 (r+1) (r+3) m 0 2 2 (fH ns r m z b q).1:=by
 unfold fH;split
 ·exact qU hm (f9 hm) hb ⟨trivial,by decide⟩
 ·exact (a7.one (t:=.tell (bL ns q m) (r+1) b) (lo:=r+1) (hi:=r+2) (D:=0) (c:=1) (Qc _) (Nat.lt_succ_self _) (f9 hm).1 (f9 hm).2 hb (Qc _) (Qc _)).wide (Qc _) (by omega) (by omega) (by omega) (by omega)
theorem Ey {ns:List Int} {kn nm:List Str} {f:Int} {r w m:Nat} {a:Ex} {z:Str} {q:aq} (h2:r+3<=200) (hw:aY w) (hm:aY m/\m &&& w=m) (ha:a.fit):a7 r (r+4) w 1 2 3 (kU ns kn nm f r w m a z q).1:=by
 unfold kU;have hb:=nu ns kn nm (k:=1) (by decide) q;have hi:=Ew (ns:=ns) (r:=r) (z:=z) (q:=(aU ns kn nm 1 q).2) hm.1 hb;have h1:∀ t:Tr,t.row=r->t.mask=m->t.asc->t.deep<=1->t.cnt<=3->a7 r (r+4) w 1 2 3 [t]:=fun t e1 e2 h3 h4 h5=>(a7.one (lo:=r) (hi:=r+4) (w:=w) (by omega) (by omega) (by rw [e2];exact hm.1) (by rw [e2];exact hm.2) h3 h4 h5).wide (by omega) (by omega) (by omega) (by omega) (by omega);split
 ·exact h1 _ rfl rfl ha (Qr _) (by simp [Tr.cnt])
 split
 ·exact h1 _ rfl rfl ha (Qr _) (by simp [Tr.cnt])
 split
 ·exact (qU hw (f9 hw) ha hb).wide (by omega) (by omega) (by omega) (by omega) (by omega)
 have hl:=hi.len;have hc:=hi.cn;have hd:=hi.deeps;split
 ·exact h1 _ rfl rfl ⟨ha,⟨by omega,hi.subs,hi.ascs (by omega)⟩,Qr _,fun t h=>by simp at h,trivial⟩ (by simp [Tr.deep,Mm.deeps];omega) (by simp [Tr.cnt,cnts];omega)
 ·exact h1 _ rfl rfl ⟨ha,by omega,hi.subs,hi.ascs (by omega)⟩ (by simp [Tr.deep];omega) (by simp [Tr.cnt];omega)
inductive xx (K:W.Frag) (vs:List V) (H:Hp) (Q:VK) (E:XK):Prop
 | mk:∀ (d kp np:Addr) (ns:List Int) (kn nm:List Str) (q:aq) (r w:Nat),vs=[.ref d,.int ((r:Nat):Int),.int ((w:Nat):Int),.ref kp,.ref np]->Dw K H d ns q->H kp=some (.lst (kn.map V.str))->kn.length=2->H np=some (.lst (nm.map V.str))->nm.length=8->(∀ p xs H',H p=none->be d H H'->Dw K H' d ns (gc ns kn nm r w q).2->H' p=some (.lst xs)->LAt (bI H p H') true xs (gc ns kn nm r w q).1->Q (.ref p) H')->xx K vs H Q E
noncomputable abbrev Ez:List Str:=["_law_draws_here","_law_at","_law_within","_law_known","_law_names_here","_law_form","_law_mask_here","_law_e","_law_name","_law_other","_law_inner"]
theorem xy:aT Ez ["_law_draws_here","_law_at","_law_within","_law_known","_law_names_here"] (aI pN):=by decide +kernel
theorem xz (T:All P w K mg AA DD):aB P w K mg base aE 10 AA.ZS DD.ZS ["_law_draws_here","_law_at","_law_within","_law_known","_law_names_here"] (xx K):=by
 have GN:=eC (base:=base) T;have GM:=kP (base:=base) T;have GTW:=qW (base:=base) T;have GXE:=qT (base:=base) T 4;refine T.z_ZS.F.ok xy (fun vs H Q E h=>by cases h;subst_vars;rfl) fun Fk A outer s H vs Q E hr h=>?_;obtain ⟨d,kp,np,ns,kn,nm,q,r,w,rfl,hD,FN,FT,G6,Gd,kq⟩:=h;have nd:=xy.nd;have Je:ar 8 _:=hr.mono (by omega);have GQ:ar 4 _:=hr.mono (by omega);have FF:ar 3 _:=hr.mono (by omega);have Fm:ar 2 _:=hr.mono (by omega);refine ⟨_,(ai (aL (i:=5) nd rfl (Or.inl rfl) (am bx (ao GN Fm rfl T.z_ZL (aa (pv 0) ab)) ah)) (ai (aL (i:=6) nd rfl (Or.inl rfl) (ao GM FF rfl T.z_ZM (aa (pv 0) (aa (pv 2) ab)))) (ai (aL (i:=7) nd rfl (Or.inl rfl) (ao GXE Je rfl T.z_ZN (aa (pv 0) (aa (pv 3) (aa (pv 4) (aa (am bx (ao GN Fm rfl T.z_ZL (aa (pv 0) ab)) ah) ab)))))) (ai (aL (i:=8) nd rfl (Or.inl rfl) (cB ef (pv 3) (am bx (ao GN Fm rfl T.z_ZL (aa (pv 0) ab)) (di ma rfl T.n_len hX (aa (pv 3) ab))) (fun _ _=>rfl))) (ai (aX (aN bp (pv 5) ah (aQ _)) (aj (aH (bG (aa (aF (aa (pv 6) (aa (aF (aa ap (aa (pv 1) (aa (pv 8) (aa (pv 7) ab))))) ab))) ab)))) bb) (ai (aX (aN nR (pv 5) ah (aQ _)) (aj (aH (bG (aa (aF (aa (pv 6) (aa (aF (aa ap (aa (pv 1) (aa (pv 7) ab)))) ab))) ab)))) bb) (ai (aL (i:=9) nd rfl (Or.inl rfl) (ao GXE Je rfl T.z_ZN (aa (pv 0) (aa (pv 3) (aa (pv 4) (aa ah ab)))))) (ai (aX (aN bp (pv 5) ah (aQ _)) (aj (aH (ao GTW GQ rfl T.z_ZR (aa (pv 0) (aa (pv 1) (aa (pv 2) (aa (pv 8) (aa (pv 7) (aa (pv 9) ab))))))))) bb) (ai (aL (i:=10) nd rfl (Or.inl rfl) (bG (aa (aF (aa (ao GM FF rfl T.z_ZM (aa (pv 0) (aa (pv 6) ab))) (aa (aF (aa ap (aa (am bS (pv 1) ah) (aa (pv 9) ab)))) ab))) ab))) (ai (aX (aN bp (am bx (ao GN Fm rfl T.z_ZL (aa (pv 0) ab)) ah) ah (aQ _)) (aj (aL (i:=10) nd rfl (Or.inl rfl) (ao GTW GQ rfl T.z_ZR (aa (pv 0) (aa (am bS (pv 1) ah) (aa (pv 6) (aa (pv 8) (aa (pv 9) (aa (aF (aa ap (aa ah ab))) ab))))))))) bb) (ai (aX (aN bp (pv 5) ah (aQ _)) (aj (aH (bG (aa (aF (aa (pv 6) (aa (aF (aa ap (aa (pv 1) (aa (pv 7) (aa (pv 10) (aa (bG ab) ab)))))) ab))) ab)))) bb) (aj (aH (bG (aa (aF (aa (pv 6) (aa (aF (aa ap (aa (pv 1) (aa (pv 7) (aa (pv 10) ab))))) ab))) ab))))))))))))))),?_⟩;unfold gc at kq;refine ⟨_,rfl,d,ns,q,rfl,hD,fun H1 b1 Ft=>⟨_,_,rfl,rfl,(by show (0:Int)<6;decide),?_⟩⟩;dsimp only [aK];generalize dv ns q % 6=f at kq;generalize dn ns q=q1 at kq Ft;refine ⟨_,rfl,_,rfl,d,ns,q1,w,rfl,Ft,fun H2 b2 Fp=>?_⟩;dsimp only [aK];generalize bL ns q1 w=m at kq;generalize bw ns q1=q2 at kq Fp;have Ja:=b1.trans b2;have Fi:=Ja.lst hD FN;have Ge:=Ja.lst hD G6;refine ⟨_,rfl,_,rfl,_,rfl,_,rfl,d,ns,q2,rfl,Fp,fun H3 b3 Fz=>⟨_,_,rfl,rfl,(by show (0:Int)<4;decide),?_⟩⟩;obtain ⟨k4,ek,Fn⟩:=dX (a:=dv ns q2) (n:=4) (by decide);have ek:dv ns q2 % 4=((k4:Nat):Int):=ek;rw [ek,Qy] at kq;generalize dn ns q2=q3 at kq Fz;have Fg:=b3.lst Fp Fi;have GZ:=b3.lst Fp Ge;refine ⟨d,kp,np,ns,kn,nm,k4,q3,by rw [<- ek];rfl,Fn,Fz,Fg,FT,GZ,Gd,fun v H4 b4 FU hv=>?_⟩;dsimp only [aK];generalize aU ns kn nm k4 q3=a at kq FU hv;have hk4':=b4.lst Fz Fg;have IS:=b4.lst Fz GZ;refine ⟨_,rfl,_,rfl,d,ns,a.2,rfl,FU,fun H5 b5 Hs=>?_⟩;have G7:=b5.lst FU hk4';have ID:=b5.lst FU IS;have hv5:=hv.kept (b5.tups FU);refine ⟨_,rfl,kp,_,rfl,.inl (ak.of G7),_,_,rfl,rfl,(by show (0:Int)<(((kn.map V.str).length:Nat):Int);rw [Qe,FT];decide),kp,_,_,_,rfl,rfl,ak.of G7,(by rw [Qe];exact iD (by omega) _),?_⟩;dsimp only [aK];generalize gS kn (dv ns a.2)=z at kq;generalize dn ns a.2=q5 at kq Hs;have b05:=(Ja.trans b3).trans (b4.trans b5);generalize a.1=ea at kq hv5;clear Fi Ge Fg GZ hk4' IS hv b1 b2 Ja b3 b4 b5 Ft Fp Fz FU;unfold kU at kq;refine ⟨_,rfl,rfl,_,rfl,?_⟩;rw [cx];refine bT (fun g=>?_) (fun g=>?_)
 ·rw [if_pos g] at kq;refine ⟨_,rfl,_,rfl,_,rfl,_,rfl,iG,fun t1 Fu=>⟨aM,fun t2 FM=>⟨cO,fun p hp=>?_⟩⟩⟩;have s1:=ag (o:=.tup [.str "set",.int ((r:Nat):Int),.str z,v]) Fu;have s2:=ag (o:=.tup [.int ((m:Nat):Int),.ref t1]) FM;have s3:=ag (o:=.lst [.ref t2]) hp;have F6:=s1.trans s2;have sa:=F6.trans s3;exact kq p _ _ ((b05.same F6).free (Hs.same F6) hp) (b05.same sa) (Hs.same sa) af (.cons (nr (s3 _ _ af) (s3 _ _ (s2 _ _ af)) (hv5.kept sa.tups)) .nil)
 rw [if_neg g] at kq;refine ⟨_,rfl,_,_,rfl,rfl,_,rfl,?_⟩;refine bT (fun g=>?_) (fun g=>?_)
 ·rw [if_pos g] at kq;refine ⟨_,rfl,_,rfl,_,rfl,dt,fun t1 Fu=>⟨aM,fun t2 FM=>⟨cO,fun p hp=>?_⟩⟩⟩;have s1:=ag (o:=.tup [.str "tell",.int ((r:Nat):Int),v]) Fu;have s2:=ag (o:=.tup [.int ((m:Nat):Int),.ref t1]) FM;have s3:=ag (o:=.lst [.ref t2]) hp;have F6:=s1.trans s2;have sa:=F6.trans s3;exact kq p _ _ ((b05.same F6).free (Hs.same F6) hp) (b05.same sa) (Hs.same sa) af (.cons (qV (s3 _ _ af) (s3 _ _ (s2 _ _ af)) (hv5.kept sa.tups)) .nil)
 rw [if_neg g] at kq;refine ⟨_,rfl,_,rfl,_,rfl,d,kp,np,ns,kn,nm,1,q5,rfl,by decide,Hs,G7,FT,ID,Gd,fun u H6 b6 Hg hu=>?_⟩;dsimp only [aK];have b06:=b05.trans b6;have hv6:=hv5.kept (b6.tups Hs);generalize aU ns kn nm 1 q5=b at kq Hg hu;obtain ⟨eb,q6⟩:=b;dsimp only at kq Hg hu;refine ⟨_,rfl,rfl,_,rfl,?_⟩;rw [cx];refine bT (fun g=>?_) (fun g=>?_)
 ·rw [if_pos g] at kq;refine ⟨_,rfl,_,rfl,_,rfl,_,rfl,_,rfl,_,rfl,d,ns,q6,r,w,z,v,u,ea,eb,rfl,Hg,hv6,hu,fun p xs H7 hp b7 hD7 hp7 hL=>?_⟩;exact kq p xs H7 (b06.free Hg hp) (b06.trans b7) hD7 hp7 (hL.keep (jE (fun _ _ h=>h) (fun _ _ h _ _=>h) (fun b h=>b06.free Hg h) (.inr (.inr rfl))))
 rw [if_neg g] at kq;dsimp only [rp];refine ⟨_,rfl,_,rfl,d,ns,q6,m,rfl,Hg,fun H7 b7 hD7=>?_⟩;refine ⟨_,rfl,_,_,rfl,rfl,_,rfl,dt,fun t1 Fu=>⟨aM,fun t2 FM=>⟨cO,fun pi hpi=>?_⟩⟩⟩;dsimp only [aK];have s1:=ag (o:=.tup [.str "tell",.int (((r:Nat):Int)+1),u]) Fu;have s2:=ag (o:=.tup [.int ((bL ns q6 m:Nat):Int),.ref t1]) FM;have s3:=ag (o:=.lst [.ref t2]) hpi;have F6:=s1.trans s2;have sa:=F6.trans s3;have b07:=(b06.trans b7).same sa;have Js:=hD7.same sa;have hpn:=((b06.trans b7).same F6).free (hD7.same F6) hpi;have hL8:LAt (bI H pi _) true [.ref t2] [.tell (bL ns q6 m) (r+1) eb]:=.cons (qV (s3 _ _ af) (s3 _ _ (s2 _ _ af)) ((hu.kept (b7.tups Hg)).kept sa.tups)) .nil;have hp8:upd (upd (upd H7 t1 (.tup [.str "tell",.int (((r:Nat):Int)+1),u])) t2 (.tup [.int ((bL ns q6 m:Nat):Int),.ref t1])) pi (.lst [.ref t2]) pi=some (.lst [.ref t2]):=af;have hv8:=(hv6.kept (b7.tups Hg)).kept sa.tups;have hu8:=(hu.kept (b7.tups Hg)).kept sa.tups;generalize upd (upd (upd H7 t1 (.tup [.str "tell",.int (((r:Nat):Int)+1),u])) t2 (.tup [.int ((bL ns q6 m:Nat):Int),.ref t1])) pi (.lst [.ref t2])=H8 at b07 Js hL8 hp8 hv8 hu8 ⊢;refine gv (fun σ' H'=>∃ (pj:Addr) (xj:List V),be d H H'/\Dw K H' d ns (fH ns r m z eb q6).2/\H pj=none/\H' pj=some (.lst xj)/\LAt (bI H pj H') true xj (fH ns r m z eb q6).1/\aS H' v ea/\σ'=[some (.ref d),some (.int ((r:Nat):Int)),some (.int ((w:Nat):Int)),some (.ref kp),some (.ref np),some (.int f),some (.int ((m:Nat):Int)),some v,some (.str z),some u,some (.ref pj)]) (fun R hR=>?_) ?_
 ·refine ⟨_,rfl,d,ns,_,rfl,Js,fun H9 b9 F7=>⟨_,_,rfl,rfl,(by show (0:Int)<2;decide),rfl,_,rfl,?_⟩⟩;rw [cx];unfold fH at hR;refine bT (fun g=>?_) (fun g=>?_)
  ·rw [if_pos g] at hR;refine ⟨_,rfl,_,rfl,_,_,rfl,rfl,_,rfl,_,rfl,_,rfl,aM,fun t3 Hh=>?_⟩;have s4:=ag (o:=.tup [.str "num",.int 3]) Hh;have b09:=(b07.trans b9).same s4;have HE:=F7.same s4;refine ⟨d,ns,_,r+1,m,z,u,.ref t3,eb,.num 3,rfl,HE,(hu8.kept (b9.tups Js)).kept s4.tups,.num af,fun pj xj H10 hpj b10 hD11 hpj10 hLj=>?_⟩;refine hR _ _ ⟨pj,xj,b09.trans b10,hD11,b09.free HE hpj,hpj10,hLj.keep (jE (fun _ _ h=>h) (fun _ _ h _ _=>h) (fun b h=>b09.free HE h) (.inr (.inr rfl))),((hv8.kept (b9.tups Js)).kept s4.tups).kept (b10.tups HE),rfl⟩
  ·rw [if_neg g] at hR;exact hR _ _ ⟨pi,[.ref t2],b07.trans b9,F7,hpn,b9.lst Js hp8,hL8.keep (nj (b9.tups Js) fun _ _ h _=>b9.lst Js h),hv8.kept (b9.tups Js),rfl⟩
 rintro σ' H9 ⟨pj,xj,b9,F7,hpjn,hpj,hLj,hv9,rfl⟩;clear hL8 hp8 hv8 hu8 Js hpn b07 s1 s2 s3 F6 sa;generalize fH ns r m z eb q6=tq at kq F7 hLj;obtain ⟨ti,qi⟩:=tq;dsimp only at kq F7 hLj;refine ⟨_,rfl,rfl,_,rfl,?_⟩;rw [cx]
 have fin:∀ {H':Hp} {p:Addr} {ys:List V},Same H9 H'->H9 p=none->LAt (bI H p (upd H' p (.lst ys))) true xj ti:=fun {H' p ys} s hp=>hLj.keep (ni (fun b xs h=>by
  rw [ay fun z=>by rw [z,hp] at h;cases h];exact s _ _ h) fun b xs h g c=>⟨by rw [ay fun z=>by rw [z,hp] at h;cases h];exact s _ _ h,g,fun z=>by rw [z,hp] at h;cases h⟩)
 refine bT (fun g=>?_) (fun g=>?_)
 ·rw [if_pos g] at kq;refine ⟨_,rfl,_,rfl,_,rfl,_,rfl,eZ,fun l0 Jn=>⟨(by show 5<=sizeLine;decide),fun t4 HX=>⟨aM,fun t5 ht5=>⟨cO,fun p hp=>?_⟩⟩⟩⟩;have s0:=ag (o:=.lst []) Jn;have s1:=ag (o:=.tup [.str "if",.int ((r:Nat):Int),v,.ref pj,.ref l0]) HX;have s2:=ag (o:=.tup [.int ((m:Nat):Int),.ref t4]) ht5;have s3:=ag (o:=.lst [.ref t5]) hp;have Jb:=(s0.trans s1).trans s2;have sa:=Jb.trans s3;have Jg:=Same.free Jb hp;refine kq p _ _ ((b9.same Jb).free (F7.same Jb) hp) (b9.same sa) (F7.same sa) af (.cons (.shared rfl (cq (s3 _ _ af)) (.mk (cq (s3 _ _ (s2 _ _ af))) (.cons (.s _) (.cons (.i _) (.cons (.e (kS (hv9.kept sa.tups))) (.cons (.b (kR (sa _ _ hpj) hpjn fun z=>?_) (fin Jb Jg)) (.cons (.b (kR (s3 _ _ (s2 _ _ (s1 _ _ af))) (b9.free F7 Jn) fun z=>?_) .nil) .nil))))))) .nil)
  ·rw [z,Jg] at hpj;cases hpj
  ·have:=s2 _ _ (s1 _ _ (af (H:=H9) (a:=l0) (o:=.lst [])));rw [<- z,this] at hp;cases hp
 ·rw [if_neg g] at kq;refine ⟨_,rfl,_,rfl,_,rfl,_,rfl,iG,fun t4 HX=>⟨aM,fun t5 ht5=>⟨cO,fun p hp=>?_⟩⟩⟩;have s1:=ag (o:=.tup [.str "while",.int ((r:Nat):Int),v,.ref pj]) HX;have s2:=ag (o:=.tup [.int ((m:Nat):Int),.ref t4]) ht5;have s3:=ag (o:=.lst [.ref t5]) hp;have Jb:=s1.trans s2;have sa:=Jb.trans s3;have Jg:=Same.free Jb hp;refine kq p _ _ ((b9.same Jb).free (F7.same Jb) hp) (b9.same sa) (F7.same sa) af (.cons (.shared rfl (cq (s3 _ _ af)) (.mk (cq (s3 _ _ (s2 _ _ af))) (.cons (.s _) (.cons (.i _) (.cons (.e (kS (hv9.kept sa.tups))) (.cons (.b (kR (sa _ _ hpj) hpjn fun z=>?_) (fin Jb Jg)) .nil)))))) .nil);rw [z,Jg] at hpj;cases hpj
noncomputable def kW (f:Int) (r w m:Nat) (a b:Ex):List Tr :=
 if decide (f<2)=true then [.give w r a]
 else if decide (f=2)=true then [.give m r a]
 else if decide (f=3)=true then [.give w r a,.tell m (r+1) (.num 1)]
 else if (decide (f=4)&&!decide (w ^^^ m=0))=true then [.give m r a,.give (w ^^^ m) (r+1) b]
 else []
noncomputable def gN (ns:List Int) (kn nm:List Str) (r w:Nat) (q:aq):List Tr × aq :=
 (kW (dv ns q % 6) r w (bL ns (aU ns kn nm 1 (aU ns kn nm 1 (dn ns q)).2).2 w) (aU ns kn nm 1 (dn ns q)).1 (aU ns kn nm 1 (aU ns kn nm 1 (dn ns q)).2).1,bw ns (aU ns kn nm 1 (aU ns kn nm 1 (dn ns q)).2).2)
theorem EA {f:Int} {r w m:Nat} {a b:Ex} (hw:aY w) (hm:aY m/\m &&& w=m) (ha:a.fit) (hb:b.fit):a7 r (r+2) w 1 2 3 (kW f r w m a b):=by
 have h1:∀ (t:Tr) (k:Nat),t.row=k->aY t.mask->t.mask &&& w=t.mask->t.asc->t.deep<=1->t.cnt<=1->a7 k (k+1) w 1 1 1 [t]:=fun t k e a b c d e'=>a7.one (by omega) (by omega) a b c d e';have g1:a7 r (r+1) w 1 1 1 [Tr.give w r a]:=h1 _ _ rfl hw (Nat.and_self w) ha (Qr _) (by simp [Tr.cnt]);have g2:a7 r (r+1) w 1 1 1 [Tr.give m r a]:=h1 _ _ rfl hm.1 hm.2 ha (Qr _) (by simp [Tr.cnt]);unfold kW;split
 ·exact g1.wide (by omega) (by omega) (by omega) (by omega) (by omega)
 split
 ·exact g2.wide (by omega) (by omega) (by omega) (by omega) (by omega)
 split
 ·exact (g1.app (h1 (.tell m (r+1) (.num 1)) (r+1) rfl hm.1 hm.2 ⟨trivial,by decide⟩ (Qr _) (by simp [Tr.cnt])) (by omega) (by omega)).wide (by omega) (by omega) (by omega) (by omega) (by omega)
 split
 ·rename_i g;have h0:w ^^^ m≠0:=by have:=(Bool.and_eq_true_iff.mp g).2;simpa using this
  exact (g2.app (h1 (.give (w ^^^ m) (r+1) b) (r+1) rfl (nq hw hm.1 h0) (nl hm.2) hb (Qr _) (by simp [Tr.cnt])) (by omega) (by omega)).wide (by omega) (by omega) (by omega) (by omega) (by omega)
 ·exact a7.nil
theorem EB {b1 b2:Bool} {T U E:Prop} (k:(if b2=true then T else U)->E) (h:if (b1&&b2)=true then T else U):if b1=true then E else (if false=true then T else U):=by
 cases b1
 ·rw [if_neg (by simp),if_neg (by simp)];simpa using h
 ·rw [if_pos rfl];exact k (by simpa using h)
inductive xA (K:W.Frag) (vs:List V) (H:Hp) (Q:VK) (E:XK):Prop
 | mk:∀ (d kp np:Addr) (ns:List Int) (kn nm:List Str) (q:aq) (r w:Nat),vs=[.ref d,.int ((r:Nat):Int),.int ((w:Nat):Int),.ref kp,.ref np]->Dw K H d ns q->H kp=some (.lst (kn.map V.str))->kn.length=2->H np=some (.lst (nm.map V.str))->nm.length=8->(∀ p xs H',H p=none->be d H H'->Dw K H' d ns (gN ns kn nm r w q).2->H' p=some (.lst xs)->LAt (bI H p H') true xs (gN ns kn nm r w q).1->Q (.ref p) H')->xA K vs H Q E
noncomputable abbrev EC:List Str:=["_law_draws_here","_law_at","_law_within","_law_known","_law_names_here","_law_form","_law_one","_law_other","_law_mask_here"]
theorem xB:aT EC ["_law_draws_here","_law_at","_law_within","_law_known","_law_names_here"] (aI pO):=by decide +kernel
theorem ED (T:All P w K mg AA DD):aB P w K mg base aE 10 AA.ZU DD.ZU ["_law_draws_here","_law_at","_law_within","_law_known","_law_names_here"] (xA K):=by
 have GN:=eC (base:=base) T;have GM:=kP (base:=base) T;have GXE:=qT (base:=base) T 4;refine T.z_ZU.F.ok xB (fun vs H Q E h=>by cases h;subst_vars;rfl) fun Fk A outer s H vs Q E hr h=>?_;obtain ⟨d,kp,np,ns,kn,nm,q,r,w,rfl,hD,FN,FT,G6,Gd,kq⟩:=h;have nd:=xB.nd;have Je:ar 8 _:=hr.mono (by omega);have FF:ar 3 _:=hr.mono (by omega);have Fm:ar 2 _:=hr.mono (by omega);refine ⟨_,(ai (aL (i:=5) nd rfl (Or.inl rfl) (am bx (ao GN Fm rfl T.z_ZL (aa (pv 0) ab)) ah)) (ai (aL (i:=6) nd rfl (Or.inl rfl) (aF (aa ap (aa (pv 1) (aa (ao GXE Je rfl T.z_ZN (aa (pv 0) (aa (pv 3) (aa (pv 4) (aa ah ab))))) ab))))) (ai (aL (i:=7) nd rfl (Or.inl rfl) (aF (aa ap (aa (am bS (pv 1) ah) (aa (ao GXE Je rfl T.z_ZN (aa (pv 0) (aa (pv 3) (aa (pv 4) (aa ah ab))))) ab))))) (ai (aL (i:=8) nd rfl (Or.inl rfl) (ao GM FF rfl T.z_ZM (aa (pv 0) (aa (pv 2) ab)))) (ai (aX (aN gk (pv 5) ah (aQ _)) (aj (aH (bG (aa (aF (aa (pv 2) (aa (pv 6) ab))) ab)))) bb) (ai (aX (aN bp (pv 5) ah (aQ _)) (aj (aH (bG (aa (aF (aa (pv 8) (aa (pv 6) ab))) ab)))) bb) (ai (aX (aN bp (pv 5) ah (aQ _)) (aj (aH (bG (aa (aF (aa (pv 2) (aa (pv 6) ab))) (aa (aF (aa (pv 8) (aa (aF (aa ap (aa (am bS (pv 1) ah) (aa (aF (aa ap (aa ah ab))) ab)))) ab))) ab))))) bb) (ai (aX (PW.pt (jO (aN bp (pv 5) ah (aQ _)) (lc (aN eJ (am eI (pv 2) (pv 8)) ah (aQ _))))) (aj (aH (bG (aa (aF (aa (pv 8) (aa (pv 6) ab))) (aa (aF (aa (am eI (pv 2) (pv 8)) (aa (pv 7) ab))) ab))))) bb) (aj (aH (bG ab))))))))))),?_⟩;unfold gN at kq;refine ⟨_,rfl,d,ns,q,rfl,hD,fun H1 b1 Ft=>⟨_,_,rfl,rfl,(by show (0:Int)<6;decide),?_⟩⟩;dsimp only [aK];generalize dv ns q % 6=f at kq;generalize dn ns q=q1 at kq Ft;have Fo:=b1.lst hD FN;have F2:=b1.lst hD G6;refine ⟨_,rfl,_,rfl,_,rfl,_,rfl,d,kp,np,ns,kn,nm,1,q1,rfl,by decide,Ft,Fo,FT,F2,Gd,fun v H2 b2 Fp hv=>⟨dt,fun t1 Fu=>?_⟩⟩;generalize aU ns kn nm 1 q1=a at kq Fp hv;obtain ⟨ea,q2⟩:=a;dsimp only at kq Fp hv;dsimp only [aK];have s1:=ag (o:=.tup [.str "give",.int ((r:Nat):Int),v]) Fu;have ht1':upd H2 t1 (.tup [.str "give",.int ((r:Nat):Int),v]) t1=some (.tup [.str "give",.int ((r:Nat):Int),v]):=af;have b2':=(b1.trans b2).same s1;have Fi:=s1 _ _ (b2.lst Ft Fo);have Ge:=s1 _ _ (b2.lst Ft F2);have Fp:=Fp.same s1;have hv:=hv.kept s1.tups;generalize upd H2 t1 (.tup [.str "give",.int ((r:Nat):Int),v])=G2 at ht1' b2' Fi Ge Fp hv ⊢;refine ⟨_,rfl,_,_,rfl,rfl,_,rfl,_,rfl,_,rfl,d,kp,np,ns,kn,nm,1,q2,rfl,by decide,Fp,Fi,FT,Ge,Gd,fun u H3 b3 Fz hu=>⟨dt,fun t2 FM=>?_⟩⟩;generalize aU ns kn nm 1 q2=b at kq Fz hu;obtain ⟨eb,q3⟩:=b;dsimp only at kq Fz hu;dsimp only [aK];have s2:=ag (o:=.tup [.str "give",.int (((r:Nat):Int)+1),u]) FM;have ht2':upd H3 t2 (.tup [.str "give",.int (((r:Nat):Int)+1),u]) t2=some (.tup [.str "give",.int ((r+1:Nat):Int),u]):=af;have JB:=s2 _ _ (b3.tups Fp _ _ ht1');have b3':=(b2'.trans b3).same s2;have hv:=(hv.kept (b3.tups Fp)).kept s2.tups;have hu:=hu.kept s2.tups;have Fz:=Fz.same s2;generalize upd H3 t2 (.tup [.str "give",.int (((r:Nat):Int)+1),u])=G3 at JB ht2' b3' Fz hv hu ⊢;refine ⟨_,rfl,_,rfl,d,ns,q3,w,rfl,Fz,fun H4 b4 FU=>?_⟩;dsimp only [aK];generalize bL ns q3 w=m at kq;generalize bw ns q3=q4 at kq FU;have b04:=b3'.trans b4;have h1:=b4.tups Fz _ _ JB;have h2:=b4.tups Fz _ _ ht2';have hv:=hv.kept (b4.tups Fz);have hu:=hu.kept (b4.tups Fz);clear Fo F2 Fi Ge ht1' JB ht2' b1 b2 b2' b3 b3' b4 Ft Fp Fz s1 s2;unfold kW at kq;refine ⟨_,rfl,_,_,rfl,rfl,_,rfl,?_⟩;refine bT (fun g=>?_) (fun g=>?_)
 ·rw [if_pos g] at kq;refine ⟨_,rfl,_,rfl,aM,fun t3 Hh=>⟨cO,fun p hp=>?_⟩⟩;have s1:=ag (o:=.tup [.int ((w:Nat):Int),.ref t1]) Hh;have s2:=ag (o:=.lst [.ref t3]) hp;have sa:=s1.trans s2;exact kq p _ _ ((b04.same s1).free (FU.same s1) hp) (b04.same sa) (FU.same sa) af (.cons (kT (s2 _ _ af) (sa _ _ h1) (hv.kept sa.tups)) .nil)
 rw [if_neg g] at kq;refine ⟨_,rfl,rfl,_,rfl,?_⟩;rw [cx];refine bT (fun g=>?_) (fun g=>?_)
 ·rw [if_pos g] at kq;refine ⟨_,rfl,_,rfl,aM,fun t3 Hh=>⟨cO,fun p hp=>?_⟩⟩;have s1:=ag (o:=.tup [.int ((m:Nat):Int),.ref t1]) Hh;have s2:=ag (o:=.lst [.ref t3]) hp;have sa:=s1.trans s2;exact kq p _ _ ((b04.same s1).free (FU.same s1) hp) (b04.same sa) (FU.same sa) af (.cons (kT (s2 _ _ af) (sa _ _ h1) (hv.kept sa.tups)) .nil)
 rw [if_neg g] at kq;refine ⟨_,rfl,rfl,_,rfl,?_⟩;rw [cx];refine bT (fun g=>?_) (fun g=>?_)
 ·rw [if_pos g] at kq;refine ⟨_,rfl,_,rfl,aM,fun t3 Hh=>?_⟩;refine ⟨_,rfl,_,rfl,_,_,rfl,rfl,aM,fun t4 HX=>⟨dt,fun t5 ht5=>⟨aM,fun t6 ht6=>⟨aM,fun p hp=>?_⟩⟩⟩⟩;have s3:=ag (o:=.tup [.int ((w:Nat):Int),.ref t1]) Hh;have s4:=ag (o:=.tup [.str "num",.int 1]) HX;have s5:=ag (o:=.tup [.str "tell",.int (((r:Nat):Int)+1),.ref t4]) ht5;have s6:=ag (o:=.tup [.int ((m:Nat):Int),.ref t5]) ht6;have s7:=ag (o:=.lst [.ref t3,.ref t6]) hp;have s67:=s6.trans s7;have s57:=s5.trans s67;have s36:=(s3.trans s4).trans (s5.trans s6);have sa:=s36.trans s7;exact kq p _ _ ((b04.same s36).free (FU.same s36) hp) (b04.same sa) (FU.same sa) af (.cons (kT (s57 _ _ (s4 _ _ af)) (sa _ _ h1) (hv.kept sa.tups)) (.cons (qV (s7 _ _ af) (s67 _ _ af) (.num (s57 _ _ af))) .nil))
 rw [if_neg g] at kq;refine ⟨_,rfl,rfl,_,rfl,?_⟩;rw [cx];have hx:Builtin.bitXor ((w:Nat):Int) ((m:Nat):Int)=((w ^^^ m:Nat):Int):=j2 _ _;refine EB (b2:=!decide (w ^^^ m=0)) (fun h=>⟨_,rfl,_,rfl,_,_,rfl,rfl,rfl,_,rfl,?_⟩) ?_
 ·dsimp only;rw [hx,cx,show decide (((w ^^^ m:Nat):Int)=0)=decide (w ^^^ m=0) from decide_eq_decide.mpr (by omega)];exact h
 refine bT (fun g=>?_) (fun g=>?_)
 ·rw [if_pos g] at kq;refine ⟨_,rfl,_,rfl,aM,fun t3 Hh=>?_⟩;refine ⟨_,rfl,_,rfl,_,_,rfl,rfl,_,rfl,aM,fun t4 HX=>⟨aM,fun p hp=>?_⟩⟩;dsimp only at HX hp ⊢;rw [hx] at hp ⊢;have s3:=ag (o:=.tup [.int ((m:Nat):Int),.ref t1]) Hh;have s4:=ag (o:=.tup [.int ((w ^^^ m:Nat):Int),.ref t2]) HX;have s5:=ag (o:=.lst [.ref t3,.ref t4]) hp;have HR:=s3.trans s4;have sa:=HR.trans s5;exact kq p _ _ ((b04.same HR).free (FU.same HR) hp) (b04.same sa) (FU.same sa) af (.cons (kT (s5 _ _ (s4 _ _ af)) (sa _ _ h1) (hv.kept sa.tups)) (.cons (kT (s5 _ _ af) (sa _ _ h2) (hu.kept sa.tups)) .nil))
 ·rw [if_neg g] at kq;exact ⟨eZ,fun p hp=>kq p _ _ (b04.free FU hp) (b04.same (ag hp)) (FU.same (ag hp)) af .nil⟩
noncomputable abbrev jF:List Str:=["num","truth"]
noncomputable def fI (ns:List Int) (q:aq):List (Str × Str):=[(cp (dv ns q % 3).toNat,gS jF (dv ns (bw ns q))),(cp ((dv ns q % 3+1+dv ns (dn ns q) % 2) % 3).toNat,gS jF (dv ns (dn ns (bw ns q))))]
noncomputable def d4 (ns:List Int) (q:aq):aq:=bw ns (bw ns q)
noncomputable def stN (ns:List Int) (q:aq):Nat->aq
 | 0=>q
 | k+1=>dn ns (stN ns q k)
inductive xC (K:W.Frag) (vs:List V) (H:Hp) (Q:VK) (E:XK):Prop
 | mk:∀ (d:Addr) (ns:List Int) (q:aq),vs=[.ref d]->Dw K H d ns q->(∀ v H',be d H H'->Dw K H' d ns (d4 ns q)->cU H' v (fI ns q)->Q v H')->xC K vs H Q E
noncomputable abbrev xD:List Str:=["_law_draws_here","_law_first_here","_law_pair"]
theorem xE:aT xD ["_law_draws_here"] (aI mB):=by decide +kernel
theorem EE (T:All P w K mg AA DD):aB P w K mg base aE 3 AA.Zw DD.Zw ["_law_draws_here"] (xC K):=by
 have GN:=eC (base:=base) T;refine T.z_Zw.F.ok xE (fun vs H Q E h=>by cases h;subst_vars;rfl) fun Fk A outer s H vs Q E hr h=>?_;obtain ⟨d,ns,q,rfl,hD,kq⟩:=h;have nd:=xE.nd;have Fm:ar 2 _:=hr;refine ⟨_,(ai (aL (i:=1) nd rfl (Or.inl rfl) (am bx (ao GN Fm rfl T.z_ZL (aa (pv 0) ab)) ah)) (ai (aL (i:=2) nd rfl (Or.inl rfl) (bG (aa (cB jT ap (pv 1) (fun _ _=>rfl)) (aa (cB jT ap (am bx (am bS (am bS (pv 1) ah) (am bx (ao GN Fm rfl T.z_ZL (aa (pv 0) ab)) ah)) ah) (fun _ _=>rfl)) ab)))) (aj (aH (iO oZ rfl T.n_tuple lC (aa (fQ (aI mB) xD ["_law_draws_here"] [0] rfl (by decide +kernel) rfl rfl (cz (pv 2)) (fun _ _ _ _=>fq) (fun _ _ _ _=>(aF (aa (pv 0) (aa (cB ef (bG (aa ap (aa ap ab))) (am bx (ao GN Fm rfl T.z_ZL (aa (pv 1) ab)) ah) (fun _ _=>rfl)) ab))))) ab)))))),?_⟩;unfold fI d4 bw at kq;refine ⟨_,rfl,d,ns,q,rfl,hD,fun H1 b1 Ft=>⟨_,_,rfl,rfl,(by show (0:Int)<3;decide),?_⟩⟩;dsimp only [aK];obtain ⟨i,ei,hi⟩:=dX (a:=dv ns q) (n:=3) (by decide);have ei:dv ns q % 3=((i:Nat):Int):=ei;rw [ei] at kq ⊢;generalize dn ns q=q1 at kq Ft;refine ⟨_,rfl,gM,_,_,rfl,rfl,(by decide +kernel),bn (nh hi),?_⟩;refine ⟨_,rfl,_,_,rfl,rfl,_,rfl,d,ns,q1,rfl,Ft,fun H2 b2 Fp=>⟨_,_,rfl,rfl,(by show (0:Int)<2;decide),_,_,rfl,rfl,_,_,rfl,rfl,(by show (0:Int)<3;decide),?_⟩⟩;dsimp only;obtain ⟨j,ej,hj⟩:=dX (a:=((i:Nat):Int)+1+dv ns q1 % 2) (n:=3) (by decide);have ej:(((i:Nat):Int)+1+dv ns q1 % 2) % 3=((j:Nat):Int):=ej;rw [ej] at kq ⊢;rw [Qy,Qy] at kq;generalize dn ns q1=q2 at kq Fp;refine ⟨gM,_,_,rfl,rfl,(by decide +kernel),bn (nh hj),aM,fun p0 hp0=>?_⟩;dsimp only [aK];have s0:=ag (o:=.lst ([cp i,cp j].map V.str)) hp0;have b3:=(b1.trans b2).same s0;have Fz:=Fp.same s0;have GV:upd H2 p0 (.lst ([cp i,cp j].map V.str)) p0=some (.lst ([cp i,cp j].map V.str)):=af;show nF _ _ _ (upd H2 p0 (.lst ([cp i,cp j].map V.str)));generalize upd H2 p0 (.lst ([cp i,cp j].map V.str))=H3 at b3 Fz GV ⊢;refine ⟨_,rfl,p0,rfl,⟨_,ak.of GV⟩,?_⟩;refine j1 (K:=K0) (a:=p0) (xs:=[cp i,cp j].map V.str) (fun k ys H'=>be d H H'/\Dw K H' d ns (stN ns q2 k)/\H' p0=some (.lst ([cp i,cp j].map V.str))/\∃ us:List Addr,ys=us.map V.ref/\us.length=k/\k<=2/\∀ (x:Nat) (u:Addr),us[x]?=some u->H' u=some (.tup [.str ([cp i,cp j].getD x ""),.str (gS jF (dv ns (stN ns q2 x)))])) ⟨b3,Fz,GV,[],rfl,rfl,by omega,fun x u h=>by simp at h⟩ (fun k ys H' _ h=>ak.of h.2.2.1) ?_ ?_
 ·rintro k x ys H4 hx ⟨b4,FU,IC,us,rfl,HU,hk,GJ⟩;obtain ⟨Fi,ex⟩:=gE hx;subst ex;refine fm ?_;rw [if_pos rfl];refine ⟨_,rfl,aM,fun t0 FI=>?_⟩;have s4:=ag (o:=.lst (jF.map V.str)) FI;have hD4':=FU.same s4;refine ⟨_,rfl,d,ns,_,rfl,hD4',fun H5 b5 Hs=>⟨_,_,rfl,rfl,(by show (0:Int)<2;decide),t0,_,_,_,rfl,rfl,ak.of (b5.lst hD4' af),iD (ws:=jF) (by decide) _,aM,fun t1 Fu=>?_⟩⟩;have s5:=ag (o:=.tup [.str [cp i,cp j][k],.str (gS jF (dv ns (stN ns q2 k)))]) Fu;have hk2':k<2:=Fi;refine ⟨by rw [Qe];exact bX (by omega),((b4.same s4).trans b5).same s5,Hs.same s5,s5 _ _ (b5.lst hD4' (s4 _ _ IC)),us++[t1],by simp,by simp [HU],by omega,fun x u h=>?_⟩;by_cases hxk:x<us.length
  ·rw [QI hxk] at h;exact s5 _ _ (b5.tups hD4' _ _ (s4 _ _ (GJ x u h)))
  ·have Ij:=(Qh h).1;rw [QE,List.length_singleton] at Ij;have ex:x=k:=by omega
   subst ex;rw [QF (by omega),HU,Nat.sub_self] at h;cases h;rw [af,Qg,Qa Fi];rfl
 ·rintro ys H4 ⟨b4,FU,IC,us,rfl,HU,hk,GJ⟩ p hp;have s4:=ag (o:=.lst (us.map V.ref)) hp;refine ⟨p,us.map V.ref,rfl,.inl ⟨ak.of af,fun t ht=>?_⟩⟩;have s5:=s4.trans (ag (o:=.tup (us.map V.ref)) ht);refine kq _ _ (b4.same s5) (FU.same s5) ⟨t,us,rfl,af,HU,fun x u pr h1 h2=>?_⟩;have:=s5 _ _ (GJ x u h1)
  match x with
  | 0=>cases h2;exact this
  | 1=>cases h2;exact this
  | x+2=>simp at h2
theorem xF {H:Hp} {sh:Bool}:∀ {xs:List V} {ts:List Tr} {ys:List V} {us:List Tr},LAt H sh xs ts->LAt H sh ys us->LAt H sh (xs++ys) (ts++us)
 | _,_,_,_,.nil,h=>h
 | _,_,_,_,.cons a b,h=>.cons a (xF b h)
structure bR (K:W.Frag) (H:Hp) (d:Addr) (ns:List Int) (b:Addr) (q:aq) (ts:List Tr) (H':Hp):Prop where
 bt:be d H H'
 dw:Dw K H' d ns q
 fr:H b=none
 ex:∃ xs,H' b=some (.lst xs)/\LAt (bI H b H') true xs ts
theorem bR.call {H H1 H2:Hp} {d b:Addr} {ns:List Int} {q q2:aq} {ts:List Tr} (g:bR K H d ns b q ts H1) (b2:be d H1 H2) (hD:Dw K H2 d ns q2):bR K H d ns b q2 ts H2:=by obtain ⟨a,c,e,xs,h1,h2⟩:=g;exact ⟨a.trans b2,hD,e,xs,b2.lst c h1,h2.keep (nj (b2.tups c) fun _ _ h _=>b2.lst c h)⟩
theorem bR.same {H H1 H2:Hp} {d b:Addr} {ns:List Int} {q:aq} {ts:List Tr} (g:bR K H d ns b q ts H1) (s:Same H1 H2):bR K H d ns b q ts H2:=g.call ((be.refl _ _).same s) (g.dw.same s)
theorem bR.more {H H1 H2:Hp} {d b p:Addr} {ns:List Int} {q q0 q2:aq} {ts us:List Tr} {ys:List V} (hD:Dw K H d ns q0) (g:bR K H d ns b q ts H1) (b2:be d H1 H2) (Fp:Dw K H2 d ns q2) (hL:LAt (bI H1 p H2) true ys us):∃ xs,H2 b=some (.lst xs)/\xs.length=ts.length/\bR K H d ns b q2 (ts++us) (upd H2 b (.lst (xs++ys))):=by
 have g2:=g.call b2 Fp;obtain ⟨xs,h1,h2⟩:=g2.ex;have Gv:H1 b≠none:=by obtain ⟨xs',h,_⟩:=g.ex;rw [h];exact fun z=>by cases z
 refine ⟨xs,h1,h2.length,g2.bt.new g.fr h1,Fp.new hD g2.bt g.fr h1,g.fr,_,af,xF (h2.keep (nj (nk h1) fun c zs h n=>by rw [ay n];exact h)) (hL.keep (jE (H0:=H1) (H:=upd H2 b (.lst (xs++ys))) (nk h1) (fun c zs h n hc=>by
  rw [ay fun z=>Gv (by rw [<- z];exact hc)];exact h) (fun c hc=>g.bt.free g.dw hc) (.inr (.inl Gv))))⟩
noncomputable def bY (ns:List Int) (kn nm:List Str) (r w:Nat) (q:aq):Nat->List Tr × aq
 | 0=>([],q)
 | k+1=>((bY ns kn nm r w q k).1++(gc ns kn nm (r+4*k) w (bY ns kn nm r w q k).2).1,(gc ns kn nm (r+4*k) w (bY ns kn nm r w q k).2).2)
theorem EF {ns:List Int} {kn nm:List Str} {r w:Nat} {q:aq} (h2:r+3<=200) (hw:aY w):a7 r (r+4) w 1 2 3 (gc ns kn nm r w q).1:=Ey h2 hw (f9 hw) (nu _ _ _ (by have:=Int.emod_lt_of_pos (dv ns (bw ns (dn ns q))) (show (0:Int)<4 by decide);omega) _)
theorem qX {ns:List Int} {kn nm:List Str} {r w:Nat} {q:aq} (hw:aY w):∀ k,r+4*k<=200->a7 r (r+4*k) w 1 (2*k) (3*k) (bY ns kn nm r w q k).1
 | 0,_=>a7.nil
 | k+1,h=>((qX hw k (by omega)).app (EF (by omega) hw) (by omega) (by omega)).wide (Qc _) (by omega) (by omega) (by omega) (by omega)
theorem nw (m r w:Nat) (z:Str) (a b:Ex):(eW m r w z a b).length<=2:=by unfold eW;split<;>simp
theorem qY (ns:List Int) (kn nm:List Str) (r w:Nat) (q:aq):(gc ns kn nm r w q).1.length<=2:=by
 unfold gc kU
 repeat' split
 all_goals first | exact nw _ _ _ _ _ _ | simp
theorem ny (ns:List Int) (kn nm:List Str) (r w:Nat) (q:aq):∀ k,(bY ns kn nm r w q k).1.length<=2*k
 | 0=>by simp [bY]
 | k+1=>by have:=ny ns kn nm r w q k;have:=qY ns kn nm (r+4*k) w (bY ns kn nm r w q k).2;simp [bY];omega
theorem EG (ns:List Int) (kn nm:List Str) (r w:Nat) (q:aq):(gN ns kn nm r w q).1.length<=2:=by
 unfold gN kW;dsimp only
 repeat' split
 all_goals simp
noncomputable def dM (ns:List Int) (nm:List Str) (r w:Nat) (z:Str) (q:aq):List Tr × aq:=(eW (bL ns (cX ns nm (cX ns nm q).2).2 w) r w z (cX ns nm q).1 (cX ns nm (cX ns nm q).2).1,bw ns (cX ns nm (cX ns nm q).2).2)
theorem xG (ns:List Int) (nm:List Str) (q:aq):(cX ns nm q).1.fit:=⟨(xm ns nm q).1,QD (xm ns nm q).2 (by decide)⟩
theorem xH {ns:List Int} {nm:List Str} {r w:Nat} {z:Str} {q:aq} (hw:aY w):a7 r (r+2) w 1 2 2 (dM ns nm r w z q).1:=(qU hw (f9 hw) (xG _ _ _) (xG _ _ _)).wide (by omega) (by omega) (by omega) (by omega) (by omega)
noncomputable def kY (ns:List Int) (nm:List Str) (par:Str) (r m:Nat) (q:aq):List Tr × aq :=
 let b0:=dM ns nm (r+1) m (nm.getD 6 "") q;let rs:=bY ns [par,nm.getD 6 ""] nm (r+4) m (dn ns b0.2) (dv ns b0.2 % 5).toNat;let en:=gN ns [par,nm.getD 6 ""] nm (r+24) m rs.2
 ((b0.1++rs.1)++en.1,en.2)
noncomputable def eX (nm:List Str):List Str:=["num","truth",nm.getD 4 ""]
noncomputable def dN (ns:List Int) (nm:List Str) (par:Str) (r m:Nat) (q:aq):Tr × aq:=(.df m r (nm.getD 5 "") (gS (eX nm) (dv ns q)) [(par,gS (eX nm) (dv ns (dn ns q)))] (kY ns nm par r m (dn ns (dn ns q))).1,(kY ns nm par r m (dn ns (dn ns q))).2)
theorem EH {ns:List Int} {kn nm:List Str} {r w:Nat} {q:aq} (hw:aY w):a7 r (r+2) w 1 2 3 (gN ns kn nm r w q).1:=EA hw (f9 hw) (nu _ _ _ (by decide) _) (nu _ _ _ (by decide) _)
theorem EI {ns:List Int} {nm:List Str} {par:Str} {r m:Nat} {q:aq} (hm:aY m) (h2:r+26<=200):a7 (r+1) (r+26) m 1 12 17 (kY ns nm par r m q).1:=by
 unfold kY;dsimp only;have h5:(dv ns (dM ns nm (r+1) m (nm.getD 6 "") q).2 % 5).toNat<=4:=by have:=Int.emod_lt_of_pos (dv ns (dM ns nm (r+1) m (nm.getD 6 "") q).2) (show (0:Int)<5 by decide);omega
 generalize (dv ns (dM ns nm (r+1) m (nm.getD 6 "") q).2 % 5).toNat=n at h5;have a:=(xH (ns:=ns) (nm:=nm) (r:=r+1) (z:=nm.getD 6 "") (q:=q) hm).wide (Qc _) (show r+1+2<=r+4 by omega) (Qc _) (Qc _) (Qc _);have b:=(qX (ns:=ns) (kn:=[par,nm.getD 6 ""]) (nm:=nm) (r:=r+4) (q:=dn ns (dM ns nm (r+1) m (nm.getD 6 "") q).2) hm n (by omega)).wide (Qc _) (show r+4+4*n<=r+24 by omega) (Qc _) (Qc _) (Qc _);exact ((a.app b (by omega) (by omega)).app (EH hm) (by omega) (by omega)).wide (Qc _) (by omega) (by omega) (by omega) (by omega)
theorem xI {ns:List Int} {nm:List Str} {par:Str} {r m w:Nat} {q:aq} (hm:aY m/\m &&& w=m) (h2:r+26<=200):a7 r (r+1) w 2 1 18 [(dN ns nm par r m q).1]:=by have hb:=EI (ns:=ns) (nm:=nm) (par:=par) (q:=dn ns (dn ns q)) hm.1 h2;have:=hb.len;have:=hb.cn;have:=hb.deeps;exact a7.one (t:=(dN ns nm par r m q).1) (Qc _) (Nat.lt_succ_self _) hm.1 hm.2 ⟨by simp,by omega,hb.subs,hb.ascs (by omega)⟩ (by simp [dN,Tr.deep];omega) (by simp [dN,Tr.cnt];omega)
inductive xJ (K:W.Frag) (vs:List V) (H:Hp) (Q:VK) (E:XK):Prop
 | mk:∀ (d np:Addr) (ns:List Int) (nm:List Str) (par:Str) (q:aq) (r m:Nat),vs=[.ref d,.int ((r:Nat):Int),.int ((m:Nat):Int),.str par,.ref np]->Dw K H d ns q->H np=some (.lst (nm.map V.str))->nm.length=8->(∀ v H',be d H H'->Dw K H' d ns (dN ns nm par r m q).2->bi (bI H d H') true v (dN ns nm par r m q).1->Q v H')->xJ K vs H Q E
noncomputable abbrev EJ:List Str:=["_law_draws_here","_law_at","_law_mask_here","_law_param","_law_names_here","_law_kinds","_law_kind","_law_its","_law_known","_law_one","_law_body","_law_k"]
theorem xK:aT EJ ["_law_draws_here","_law_at","_law_mask_here","_law_param","_law_names_here"] (aI pP):=by decide +kernel
theorem EK (T:All P w K mg AA DD):aB P w K mg base aE 11 AA.ZV DD.ZV ["_law_draws_here","_law_at","_law_mask_here","_law_param","_law_names_here"] (xJ K):=by
 have GN:=eC (base:=base) T;have GFI:=xr (base:=base) T;have GTW:=qW (base:=base) T;have GRW:=xz (base:=base) T;have GEN:=ED (base:=base) T;refine T.z_ZV.F.ok xK (fun vs H Q E h=>by cases h;subst_vars;rfl) fun Fk A outer s H vs Q E hr h=>?_;obtain ⟨d,np,ns,nm,par,q,r,m,rfl,hD,G6,Gd,kq⟩:=h;have nd:=xK.nd;have IM:ar 10 _:=hr;have GQ:ar 4 _:=IM.mono (by omega);have Fm:ar 2 _:=IM.mono (by omega);refine ⟨_,(ai (aL (i:=5) nd rfl (Or.inl rfl) (bG (aa ap (aa ap (aa (eQ (pv 4)) ab))))) (ai (aL (i:=6) nd rfl (Or.inl rfl) (cB ef (pv 5) (am bx (ao GN Fm rfl T.z_ZL (aa (pv 0) ab)) ah) (fun _ _=>rfl))) (ai (aL (i:=7) nd rfl (Or.inl rfl) (cB ef (pv 5) (am bx (ao GN Fm rfl T.z_ZL (aa (pv 0) ab)) ah) (fun _ _=>rfl))) (ai (aL (i:=8) nd rfl (Or.inl rfl) (bG (aa (pv 3) (aa (eQ (pv 4)) ab)))) (ai (aL (i:=9) nd rfl (Or.inl rfl) (ao GFI GQ rfl T.z_ZG (aa (pv 0) (aa (pv 4) ab)))) (ai (aL (i:=10) nd rfl (Or.inl rfl) (ao GTW GQ rfl T.z_ZR (aa (pv 0) (aa (am bS (pv 1) ah) (aa (pv 2) (aa (eQ (pv 4)) (aa (pv 9) (aa (ao GFI GQ rfl T.z_ZG (aa (pv 0) (aa (pv 4) ab))) ab)))))))) (ai (cY PassesOwn.never rfl (iL rfl T.n_range (aa (am bx (ao GN Fm rfl T.z_ZL (aa (pv 0) ab)) ah) ab)) (a8 (i:=11) nd rfl (Or.inl rfl)) (aj (bO (jX PySem.F.plainAttrs_list PySem.F.slot_list_extend PySem.F.type_list_extend jY (pv 10) (aa (ao GRW IM rfl T.z_ZS (aa (pv 0) (aa (am bS (am bS (pv 1) ah) (am gj ah (pv 11))) (aa (pv 2) (aa (pv 8) (aa (pv 4) ab)))))) ab)) (by rfl))) (by intro _;rfl)) (ai (bO (jX PySem.F.plainAttrs_list PySem.F.slot_list_extend PySem.F.type_list_extend jY (pv 10) (aa (ao GEN IM rfl T.z_ZU (aa (pv 0) (aa (am bS (pv 1) ah) (aa (pv 2) (aa (pv 8) (aa (pv 4) ab)))))) ab)) (by rfl)) (aj (aH (aF (aa ap (aa (pv 1) (aa (eQ (pv 4)) (aa (pv 6) (aa (aF (aa (aF (aa (pv 3) (aa (pv 7) ab))) ab)) (aa (pv 10) ab))))))))))))))))),?_⟩;unfold dN at kq;refine ⟨_,rfl,np,_,_,_,rfl,rfl,ak.of G6,bn (j:=4) (dY (by omega)),dt,fun pk hpk=>?_⟩;dsimp only [aK];have s0:=ag (o:=.lst ((eX nm).map V.str)) hpk;have hk0:upd H pk (.lst ((eX nm).map V.str)) pk=some (.lst ((eX nm).map V.str)):=af;have b0:=(be.refl d H).same s0;have hD0:=hD.same s0;have hn0:=s0 _ _ G6;show gR _ _ _ _ (upd H pk (.lst ((eX nm).map V.str)));generalize upd H pk (.lst ((eX nm).map V.str))=H0 at hk0 b0 hD0 hn0 ⊢;refine ⟨_,rfl,_,rfl,d,ns,q,rfl,hD0,fun H1 b1 Ft=>⟨_,_,rfl,rfl,(by show (0:Int)<3;decide),pk,_,_,_,rfl,rfl,ak.of (b1.lst hD0 hk0),iD (ws:=eX nm) (by show 0<3;decide) _,?_⟩⟩;dsimp only [aK];have Fo:=b1.lst hD0 hk0;generalize gS (eX nm) (dv ns q)=kz at kq;generalize dn ns q=q1 at kq Ft;refine ⟨_,rfl,_,rfl,d,ns,q1,rfl,Ft,fun H2 b2 Fp=>⟨_,_,rfl,rfl,(by show (0:Int)<3;decide),pk,_,_,_,rfl,rfl,ak.of (b2.lst Ft Fo),iD (ws:=eX nm) (by show 0<3;decide) _,?_⟩⟩;dsimp only [aK];generalize gS (eX nm) (dv ns q1)=iz at kq;generalize dn ns q1=q2 at kq Fp;have b02:=(b0.trans b1).trans b2;have Ge:=(b1.trans b2).lst hD0 hn0;refine ⟨_,rfl,_,rfl,np,_,_,_,rfl,rfl,ak.of Ge,bn (j:=6) (dY (by omega)),aM,fun kp FN=>?_⟩;dsimp only [aK];have s3:=ag (o:=.lst ([par,nm.getD 6 ""].map V.str)) FN;have Fg:upd H2 kp (.lst ([par,nm.getD 6 ""].map V.str)) kp=some (.lst ([par,nm.getD 6 ""].map V.str)):=af;have b03:=b02.same s3;have Fz:=Fp.same s3;have GZ:=s3 _ _ Ge;show gR _ _ _ _ (upd H2 kp (.lst ([par,nm.getD 6 ""].map V.str)));generalize upd H2 kp (.lst ([par,nm.getD 6 ""].map V.str))=H3 at Fg b03 Fz GZ ⊢;clear hk0 Fo hn0 Ge b0 b1 b2 b02 hD0 Ft Fp s0 s3;unfold kY dM at kq;dsimp only at kq;refine ⟨_,rfl,_,rfl,d,np,ns,nm,q2,rfl,Fz,GZ,Gd,fun v H4 b4 FU hv=>?_⟩;dsimp only [aK];generalize cX ns nm q2=a at kq FU hv;obtain ⟨ea,q3⟩:=a;dsimp only at kq FU hv;have IS:=b4.lst Fz GZ;have Fn:=b4.lst Fz Fg;refine ⟨_,rfl,_,rfl,_,_,rfl,rfl,_,rfl,_,rfl,np,_,_,_,rfl,rfl,ak.of IS,bn (j:=6) (dY (by omega)),_,rfl,_,rfl,_,rfl,d,np,ns,nm,q3,rfl,FU,IS,Gd,fun u H5 b5 Hs hu=>?_⟩;generalize cX ns nm q3=b at kq Hs hu;obtain ⟨eb,q4⟩:=b;dsimp only at kq Hs hu;refine ⟨d,ns,q4,r+1,m,_,v,u,ea,eb,rfl,Hs,hv.kept (b5.tups FU),hu,fun b xs H6 hb b6 Hg hb6 hL6=>?_⟩;dsimp only [aK];have hkb:kp≠b:=fun z=>by have:=b5.lst FU Fn;rw [z,hb] at this;cases this
 have b05:=(b03.trans b4).trans b5;have hn6:=(b5.trans b6).lst FU IS;have IU:=(b5.trans b6).lst FU Fn;have Jn:=nw (bL ns q4 m) (r+1) m (nm.getD 6 "") ea eb;generalize eW (bL ns q4 m) (r+1) m (nm.getD 6 "") ea eb=t0 at kq hL6 Jn;generalize bw ns q4=q5 at kq Hg
 have gr:bR K H d ns b q5 t0 H6:=⟨b05.trans b6,Hg,b05.free Hs hb,xs,hb6,hL6.keep (jE (fun _ _ h=>h) (fun _ _ h _ _=>h) (fun c h=>b05.free Hs h) (.inr (.inr rfl)))⟩
 obtain ⟨n,en,ID⟩:=dX (a:=dv ns q5) (n:=5) (by decide);have en:dv ns q5 % 5=((n:Nat):Int):=en;rw [en,Qy] at kq;refine ic (fun σ' H'=>bR K H d ns b (bY ns [par,nm.getD 6 ""] nm (r+4) m (dn ns q5) n).2 (t0++(bY ns [par,nm.getD 6 ""] nm (r+4) m (dn ns q5) n).1) H'/\H' kp=some (.lst ([par,nm.getD 6 ""].map V.str))/\H' np=some (.lst (nm.map V.str))/\∃ x,σ'=[some (.ref d),some (.int ((r:Nat):Int)),some (.int ((m:Nat):Int)),some (.str par),some (.ref np),some (.ref pk),some (.str kz),some (.str iz),some (.ref kp),some v,some (.ref b),x]) (fun R hR=>?_) ?_
 ·refine ⟨_,rfl,d,ns,q5,rfl,Hg,fun H7 b7 hD7=>⟨_,_,rfl,rfl,(by show (0:Int)<5;decide),_,rfl,?_,?_,?_⟩⟩
  ·rw [en];omega
  ·rw [en];omega
  rw [en,Qy];refine lZ (D:=⟨R,_,R,R⟩) (fun i σ' H'=>bR K H d ns b (bY ns [par,nm.getD 6 ""] nm (r+4) m (dn ns q5) i).2 (t0++(bY ns [par,nm.getD 6 ""] nm (r+4) m (dn ns q5) i).1) H'/\H' kp=some (.lst ([par,nm.getD 6 ""].map V.str))/\H' np=some (.lst (nm.map V.str))/\∃ x,σ'=[some (.ref d),some (.int ((r:Nat):Int)),some (.int ((m:Nat):Int)),some (.str par),some (.ref np),some (.ref pk),some (.str kz),some (.str iz),some (.ref kp),some v,some (.ref b),x]) ⟨by rw [bY,QO];exact gr.call b7 hD7,b7.lst Hg IU,b7.lst Hg hn6,_,rfl⟩ ?_ ?_
  ·rintro i σ' H8 hi ⟨g8,hk8,Ia,x,rfl⟩ E1 hN;rw [Int.zero_add];obtain ⟨xs8,hb8,_⟩:=g8.ex;have Jl:=ny ns [par,nm.getD 6 ""] nm (r+4) m (dn ns q5) i;refine ⟨_,rfl,.inl ⟨rfl,_,ak.of hb8⟩,_,rfl,_,rfl,_,_,rfl,rfl,_,rfl,_,_,rfl,rfl,.inl ⟨by decide,by decide⟩,_,_,rfl,rfl,_,rfl,_,rfl,_,rfl,d,kp,np,ns,_,nm,_,r+4+4*i,m,rfl,g8.dw,hk8,rfl,Ia,Gd,fun p ys H9 hp b9 F7 Jg hL9=>?_⟩;obtain ⟨IP,II,hl9,g9⟩:=g8.more hD b9 F7 hL9;have Gc:=hL9.length;have Jm:=qY ns [par,nm.getD 6 ""] nm (r+4+4*i) m (bY ns [par,nm.getD 6 ""] nm (r+4) m (dn ns q5) i).2;have Fq:∀ {c:Addr} {zs:List V},H8 c=some (.lst zs)->H c≠none->upd H9 b (.lst (IP++ys)) c=some (.lst zs):=fun hc hn=>by rw [ay fun z=>hn (by rw [z];exact g8.fr)];exact b9.lst g8.dw hc
   rw [QE] at hl9;refine ⟨b,p,IP,ys,rfl,rfl,II,Jg,QP (bX (by omega)),hN _ _ ⟨?_,?_,?_,_,rfl⟩⟩
   ·rw [bY,<- QQ];exact g9
   ·rw [ay hkb];exact b9.lst g8.dw hk8
   ·exact Fq Ia (by rw [G6];simp)
  ·rintro σ' H8 h;exact hR _ _ h
 rintro σ' H8 ⟨g8,hk8,Ia,x,rfl⟩;have Jl:=ny ns [par,nm.getD 6 ""] nm (r+4) m (dn ns q5) n;generalize bY ns [par,nm.getD 6 ""] nm (r+4) m (dn ns q5) n=rs at kq g8 Jl;obtain ⟨xs8,hb8,_⟩:=g8.ex;refine ⟨_,rfl,.inl ⟨rfl,_,ak.of hb8⟩,_,rfl,_,rfl,_,_,rfl,rfl,_,rfl,_,rfl,_,rfl,d,kp,np,ns,_,nm,_,r+24,m,rfl,g8.dw,hk8,rfl,Ia,Gd,fun p ys H9 hp b9 F7 Jg hL9=>?_⟩;have Jm:=EG ns [par,nm.getD 6 ""] nm (r+24) m rs.2;generalize gN ns [par,nm.getD 6 ""] nm (r+24) m rs.2=eM at kq F7 hL9 Jm;obtain ⟨IP,II,hl9,g9⟩:=g8.more hD b9 F7 hL9;have Gc:=hL9.length;rw [QE] at hl9
 have Jk:upd H9 b (.lst (IP++ys)) np=some (.lst (nm.map V.str)):=by
  rw [ay fun z=>by have:=g8.fr;rw [<- z,G6] at this;cases this];exact b9.lst g8.dw Ia
 refine ⟨b,p,IP,ys,rfl,rfl,II,Jg,QP (bX (by omega)),?_⟩;generalize upd H9 b (.lst (IP++ys))=G9 at g9 Jk ⊢;refine ⟨_,rfl,_,rfl,np,_,_,_,rfl,rfl,ak.of Jk,bn (j:=5) (dY (by omega)),?_⟩;refine ⟨_,rfl,_,rfl,_,rfl,aM,fun t1 Fu=>⟨cO,fun t2 FM=>⟨_,rfl,(by show 6<=sizeLine;decide),fun t3 Hh=>?_⟩⟩⟩;have s1:=ag (o:=.tup [.str par,.str iz]) Fu;have s2:=ag (o:=.tup [.ref t1]) FM;have s3:=ag (o:=.tup [.str "def",.int ((r:Nat):Int),.str (nm.getD 5 ""),.str kz,.ref t2,.ref b]) Hh;have HS:=s2.trans s3;have sa:=s1.trans HS;have ga:=g9.same sa;obtain ⟨zs,hbz,hLz⟩:=ga.ex;have hbd:b≠d:=fun z=>by obtain ⟨kv,e⟩:=ga.dw.is;rw [<- z,hbz] at e;cases e
 refine kq _ _ ga.bt ga.dw (.mk (cq af) (.cons (.s _) (.cons (.i _) (.cons (.s _) (.cons (.s _) (.cons (.p ⟨t2,[t1],rfl,cq (s3 _ _ af),rfl,fun i u x h1 h2=>?_⟩) (.cons (.b (kR hbz ga.fr hbd) (hLz.keep (ni (fun _ _ h=>h) fun c xs h g e=>⟨h,g,fun z=>?_⟩))) .nil)))))))
 ·match i with
  | 0=>cases h1;cases h2;exact cq (HS _ _ af)
  | i+1=>simp at h1
 ·obtain ⟨kv,e⟩:=ga.dw.is;rw [z,e] at h;cases h
theorem xL {B H:Hp} {p:Addr} {v:V} {ps:List (Str × Str)} (h:cU H v ps):cU (bI B p H) v ps:=by obtain ⟨t,us,a,b,c,d⟩:=h;exact ⟨t,us,a,cq b,c,fun i u q x y=>cq (d i u q x y)⟩
theorem bR.put {H H1:Hp} {d b a:Addr} {ns:List Int} {q q0:aq} {ts:List Tr} {t:Tr} (hD:Dw K H d ns q0) (g:bR K H d ns b q ts H1) (ha:OAt (bI H b H1) true (.ref a) t):∃ xs,H1 b=some (.lst xs)/\xs.length=ts.length/\bR K H d ns b q (ts++[t]) (upd H1 b (.lst (xs++[.ref a]))):=by obtain ⟨xs,h1,h2⟩:=g.ex;exact ⟨xs,h1,h2.length,g.bt.new g.fr h1,g.dw.new hD g.bt g.fr h1,g.fr,_,af,(h2.snoc ha).keep (nj (nk h1) fun c zs h n=>by rw [ay n];exact h)⟩
theorem bR.seen {H H1 H2 H3:Hp} {d b:Addr} {ns:List Int} {q q2:aq} {ts:List Tr} {v:V} {t:Tr} (g:bR K H d ns b q ts H1) (b2:be d H1 H2) (Fp:Dw K H2 d ns q2) (s:Same H2 H3) (h:bi (bI H1 d H2) true v t):bi (bI H b H3) true v t:=by
 have Gv:H1 b≠none:=by obtain ⟨xs',h,_⟩:=g.ex;rw [h];exact fun z=>by cases z
 exact h.keep (jE (H0:=H1) (H:=H3) (fun c zs h=>s _ _ h) (fun c zs h _ _=>s _ _ h) (fun c hc=>g.bt.free g.dw hc) (.inr (.inl Gv)))
noncomputable def eY (ns:List Int) (nm:List Str) (w m:Nat) (q:aq):List Tr × aq :=
 if w ^^^ m=0 then ([.kd m 0 (nm.getD 4 "") (fI ns q)],d4 ns q) else ([.kd m 0 (nm.getD 4 "") (fI ns q)]++[.kd (w ^^^ m) 1 (nm.getD 4 "") (fI ns (d4 ns q))],d4 ns (d4 ns q))
noncomputable def jG (ns:List Int) (nm:List Str) (w m:Nat) (x:Tr × aq):List Tr × aq :=
 if w ^^^ m=0 then ([x.1],x.2) else ([x.1]++[(dN ns nm (nm.getD (2+dv ns x.2 % 2).toNat "") 50 (w ^^^ m) (dn ns x.2)).1],(dN ns nm (nm.getD (2+dv ns x.2 % 2).toNat "") 50 (w ^^^ m) (dn ns x.2)).2)
noncomputable def fJ (ns:List Int) (nm:List Str) (w:Nat) (q:aq):List Tr × aq :=
 let a:=eY ns nm w (bL ns q w) (bw ns q);let b:=jG ns nm w (bL ns a.2 w) (dN ns nm (nm.getD 2 "") 10 (bL ns a.2 w) (bw ns a.2))
 (a.1++b.1,b.2)
theorem EL {ns:List Int} {nm:List Str} {w:Nat} {q:aq} (hw:aY w):a7 0 90 w 2 4 38 (fJ ns nm w q).1:=by
 unfold fJ;dsimp only;have kd:∀ (m r:Nat) (z:Str) (q:aq),aY m->m &&& w=m->a7 r (r+1) w 2 1 1 [Tr.kd m r z (fI ns q)]:=fun m r z q h1 h2=>a7.one (t:=Tr.kd m r z (fI ns q)) (Qc _) (Nat.lt_succ_self _) h1 h2 (by simp [Tr.asc,fI]) (Qr _) (by simp [Tr.cnt])
 have hA:a7 0 10 w 2 2 2 (eY ns nm w (bL ns q w) (bw ns q)).1:=by
  unfold eY;obtain ⟨h1,h2⟩:=f9 (r1:=dv ns q) (r2:=dv ns (dn ns q)) hw;split
  ·exact (kd _ 0 _ _ h1 h2).wide (by omega) (by omega) (by omega) (by omega) (by omega)
  ·rename_i h0;exact ((kd _ 0 _ _ h1 h2).app (kd _ 1 _ _ (nq hw h1 h0) (nl h2)) (by omega) (by omega)).wide (by omega) (by omega) (by omega) (by omega) (by omega)
 generalize (eY ns nm w (bL ns q w) (bw ns q)).2=q2;refine (hA.app (n':=2) (c':=36) ?_ (by omega) (show 10<=90 by omega)).wide (by omega) (by omega) (by omega) (by omega) (by omega);obtain ⟨h1,h2⟩:=f9 (r1:=dv ns q2) (r2:=dv ns (dn ns q2)) hw;have hd:=xI (ns:=ns) (nm:=nm) (par:=nm.getD 2 "") (r:=10) (q:=bw ns q2) ⟨h1,h2⟩ (by omega);unfold jG;split
 ·exact hd.wide (by omega) (by omega) (by omega) (by omega) (by omega)
 ·rename_i h0;exact ((hd.wide (hi':=50) (Qc _) (by omega) (Qc _) (Qc _) (Qc _)).app (xI (r:=50) ⟨nq hw h1 h0,nl h2⟩ (by omega)) (by omega) (by omega)).wide (by omega) (by omega) (by omega) (by omega) (by omega)
inductive xM (K:W.Frag) (vs:List V) (H:Hp) (Q:VK) (E:XK):Prop
 | mk:∀ (d np:Addr) (ns:List Int) (nm:List Str) (q:aq) (w:Nat),vs=[.ref d,.int ((w:Nat):Int),.ref np]->Dw K H d ns q->H np=some (.lst (nm.map V.str))->nm.length=8->(∀ p H',bR K H d ns p (fJ ns nm w q).2 (fJ ns nm w q).1 H'->Q (.ref p) H')->xM K vs H Q E
noncomputable abbrev EM:List Str:=["_law_draws_here","_law_full","_law_names_here","_law_tree_here","_law_mask_here","_law_param"]
theorem xN:aT EM ["_law_draws_here","_law_full","_law_names_here"] (aI pQ):=by decide +kernel
theorem EN (T:All P w K mg AA DD):aB P w K mg base aE 12 AA.ZH DD.ZH ["_law_draws_here","_law_full","_law_names_here"] (xM K):=by
 have GN:=eC (base:=base) T;have GM:=kP (base:=base) T;have GFD:=EE (base:=base) T;have GDF:=EK (base:=base) T;refine T.z_ZH.F.ok xN (fun vs H Q E h=>by cases h;subst_vars;rfl) fun Fk A outer s H vs Q E hr h=>?_;obtain ⟨d,np,ns,nm,q,w,rfl,hD,G6,Gd,kq⟩:=h;have nd:=xN.nd;have hr11:ar 11 _:=hr;have FF:ar 3 _:=hr11.mono (by omega);have Fm:ar 2 _:=hr11.mono (by omega);refine ⟨_,(ai (aL (i:=3) nd rfl (Or.inl rfl) (bG ab)) (ai (aL (i:=4) nd rfl (Or.inl rfl) (ao GM FF rfl T.z_ZM (aa (pv 0) (aa (pv 1) ab)))) (ai (bO (jn (pv 3) (aa (aF (aa (pv 4) (aa (aF (aa ap (aa ah (aa (eQ (pv 2)) (aa (ao GFD FF rfl T.z_Zw (aa (pv 0) ab)) ab))))) ab))) ab)) (by rfl)) (ai (aX (aN eJ (am eI (pv 1) (pv 4)) ah (aQ _)) (aj (bO (jn (pv 3) (aa (aF (aa (am eI (pv 1) (pv 4)) (aa (aF (aa ap (aa ah (aa (eQ (pv 2)) (aa (ao GFD FF rfl T.z_Zw (aa (pv 0) ab)) ab))))) ab))) ab)) (by rfl))) bb) (ai (aL (i:=4) nd rfl (Or.inl rfl) (ao GM FF rfl T.z_ZM (aa (pv 0) (aa (pv 1) ab)))) (ai (bO (jn (pv 3) (aa (aF (aa (pv 4) (aa (ao GDF hr11 rfl T.z_ZV (aa (pv 0) (aa ah (aa (pv 4) (aa (eQ (pv 2)) (aa (pv 2) ab)))))) ab))) ab)) (by rfl)) (ai (aX (aN eJ (am eI (pv 1) (pv 4)) ah (aQ _)) (ai (aL (i:=5) nd rfl (Or.inl rfl) (cB ef (pv 2) (am bS ah (am bx (ao GN Fm rfl T.z_ZL (aa (pv 0) ab)) ah)) (fun _ _=>rfl))) (aj (bO (jn (pv 3) (aa (aF (aa (am eI (pv 1) (pv 4)) (aa (ao GDF hr11 rfl T.z_ZV (aa (pv 0) (aa ah (aa (am eI (pv 1) (pv 4)) (aa (pv 5) (aa (pv 2) ab)))))) ab))) ab)) (by rfl)))) bb) (aj (aH (pv 3)))))))))),?_⟩;unfold fJ at kq;dsimp only at kq;refine ⟨eZ,fun b hb=>?_⟩;dsimp only [aK];have s0:=ag (o:=.lst []) hb
 have g0:bR K H d ns b q [] (upd H b (.lst [])):=⟨(be.refl d H).same s0,hD.same s0,hb,[],af,.nil⟩
 have hn0:=s0 _ _ G6;have Fy:np≠b:=fun z=>by rw [z,hb] at G6;cases G6
 generalize upd H b (.lst [])=H0 at g0 hn0 ⊢;refine ⟨_,rfl,_,rfl,d,ns,q,w,rfl,g0.dw,fun H1 b1 Ft=>?_⟩;dsimp only [aK];have F2:=b1.lst g0.dw hn0;have g1:=g0.call b1 Ft;obtain ⟨Ii,Gv,_⟩:=g1.ex;generalize bL ns q w=m at kq;generalize bw ns q=q1 at kq g1;have hx:∀ m:Nat,Builtin.bitXor ((w:Nat):Int) ((m:Nat):Int)=((w ^^^ m:Nat):Int):=fun _=>j2 _ _;refine ⟨_,rfl,.inl ⟨rfl,_,ak.of Gv⟩,_,rfl,_,rfl,np,_,_,_,rfl,rfl,ak.of F2,bn (j:=4) (dY (by omega)),_,rfl,d,ns,q1,rfl,g1.dw,fun v H2 b2 Fp hv=>⟨iG,fun t1 Fu=>⟨aM,fun t2 FM=>?_⟩⟩⟩;have s1:=ag (o:=.tup [.str "kind",.int 0,.str (nm.getD 4 ""),v]) Fu;have s2:=ag (o:=.tup [.int ((m:Nat):Int),.ref t1]) FM;have g2:=(g1.call b2 Fp).same (s1.trans s2);obtain ⟨xs2,G1,Jm,g3⟩:=g2.put hD (t:=.kd m 0 (nm.getD 4 "") (fI ns q1)) (.shared rfl (cq af) (.mk (cq (s2 _ _ af)) (.cons (.s _) (.cons (.i 0) (.cons (.s _) (.cons (.p (xL (hv.kept (s1.trans s2).ls))) .nil))))));have GZ:upd _ b (.lst (xs2++[.ref t2])) np=_:=(ay Fy).trans ((s1.trans s2) _ _ (b2.lst g1.dw F2));refine ⟨b,xs2,.ref t2,rfl,rfl,G1,(by rw [Jm];show 0<sizeLine;decide),?_⟩;rw [List.nil_append] at g3;generalize upd (upd (upd H2 t1 (.tup [.str "kind",.int 0,.str (nm.getD 4 ""),v])) t2 (.tup [.int ((m:Nat):Int),.ref t1])) b (.lst (xs2++[.ref t2]))=H3 at g3 GZ ⊢;clear g0 hn0 b1 Ft F2 g1 Gv G1 Jm s1 s2 g2 b2 Fp hv s0;dsimp only;refine gv (fun σ' H'=>bR K H d ns b (eY ns nm w m q1).2 (eY ns nm w m q1).1 H'/\H' np=some (.lst (nm.map V.str))/\σ'=[some (.ref d),some (.int ((w:Nat):Int)),some (.ref np),some (.ref b),some (.int ((m:Nat):Int)),none]) (fun R hR=>?_) ?_
 ·refine ⟨_,rfl,_,rfl,_,_,rfl,rfl,rfl,_,rfl,?_⟩;dsimp only;rw [hx,cx];unfold eY at hR;by_cases h0:w ^^^ m=0
  ·refine bN (by rw [Qs (by omega)];rfl) ?_;rw [if_pos h0] at hR;dsimp only at hR;exact hR _ _ ⟨g3,GZ,rfl⟩
  ·refine cu (by rw [Qj (by omega)];rfl) ?_;rw [if_neg h0] at hR;obtain ⟨xs3,hb3,_⟩:=g3.ex;refine ⟨_,rfl,.inl ⟨rfl,_,ak.of hb3⟩,_,rfl,_,rfl,_,_,rfl,rfl,_,rfl,np,_,_,_,rfl,rfl,ak.of GZ,bn (j:=4) (dY (by omega)),_,rfl,d,ns,_,rfl,g3.dw,fun v H4 b4 FU hv=>⟨iG,fun t3 Hh=>⟨aM,fun t4 HX=>?_⟩⟩⟩;dsimp only at HX ⊢;rw [hx];have s1:=ag (o:=.tup [.str "kind",.int 1,.str (nm.getD 4 ""),v]) Hh;have s2:=ag (o:=.tup [.int ((w ^^^ m:Nat):Int),.ref t3]) HX;have g4:=(g3.call b4 FU).same (s1.trans s2);obtain ⟨xs4,hb4,hl4,g5⟩:=g4.put hD (t:=.kd (w ^^^ m) 1 (nm.getD 4 "") (fI ns (d4 ns q1))) (.shared rfl (cq af) (.mk (cq (s2 _ _ af)) (.cons (.s _) (.cons (.i 1) (.cons (.s _) (.cons (.p (xL (hv.kept (s1.trans s2).ls))) .nil))))));have ID:upd _ b (.lst (xs4++[.ref t4])) np=_:=(ay Fy).trans ((s1.trans s2) _ _ (b4.lst g3.dw GZ));refine ⟨b,xs4,.ref t4,rfl,rfl,hb4,(by rw [hl4];show 1<sizeLine;decide),?_⟩;generalize upd (upd (upd H4 t3 (.tup [.str "kind",.int 1,.str (nm.getD 4 ""),v])) t4 (.tup [.int ((w ^^^ m:Nat):Int),.ref t3])) b (.lst (xs4++[.ref t4]))=H5 at g5 ID ⊢;dsimp only at hR;exact hR _ _ ⟨g5,ID,rfl⟩
 rintro σ' H4 ⟨g4,IS,rfl⟩;clear g3 GZ;have hl4:(eY ns nm w m q1).1.length<=2:=by unfold eY;split<;>simp
 generalize eY ns nm w m q1=a at kq g4 hl4;obtain ⟨ta,qa⟩:=a;dsimp only at kq g4 hl4;refine ⟨_,rfl,_,rfl,d,ns,qa,w,rfl,g4.dw,fun H5 b5 Hs=>?_⟩;dsimp only [aK];have ID:=b5.lst g4.dw IS;have g5:=g4.call b5 Hs;generalize bL ns qa w=m2 at kq;generalize bw ns qa=q5 at kq g5;obtain ⟨xs5,hb5,_⟩:=g5.ex;refine ⟨_,rfl,.inl ⟨rfl,_,ak.of hb5⟩,_,rfl,_,rfl,_,rfl,_,rfl,np,_,_,_,rfl,rfl,ak.of ID,bn (j:=2) (dY (by omega)),_,rfl,d,np,ns,nm,_,q5,10,m2,rfl,g5.dw,ID,Gd,fun v H6 b6 Hg hv=>⟨aM,fun t1 Fu=>?_⟩⟩;have hxm:(dN ns nm (nm.getD 2 "") 10 m2 q5).1.mask=m2:=rfl;generalize dN ns nm (nm.getD 2 "") 10 m2 q5=x at kq Hg hv hxm;have s6:=ag (o:=.tup [.int ((m2:Nat):Int),v]) Fu;have g6:=(g5.call b6 Hg).same s6;obtain ⟨xs6,hb6,hl6,g7⟩:=g6.put hD (a:=t1) (t:=x.1) (.shared rfl (by rw [hxm];exact cq af) (g5.seen b6 Hg s6 hv));have hn7:upd _ b (.lst (xs6++[.ref t1])) np=_:=(ay Fy).trans (s6 _ _ (b6.lst g5.dw ID));refine ⟨b,xs6,.ref t1,rfl,rfl,hb6,bX (by omega),?_⟩;generalize upd (upd H6 t1 (.tup [.int ((m2:Nat):Int),v])) b (.lst (xs6++[.ref t1]))=H7 at g7 hn7 ⊢;clear g4 IS b5 Hs ID g5 hb5 hb6 s6 g6 b6 Hg hv;dsimp only;refine gv (fun σ' H'=>bR K H d ns b (jG ns nm w m2 x).2 (ta++(jG ns nm w m2 x).1) H'/\∃ x5,σ'=[some (.ref d),some (.int ((w:Nat):Int)),some (.ref np),some (.ref b),some (.int ((m2:Nat):Int)),x5]) (fun R hR=>?_) ?_
 ·refine ⟨_,rfl,_,rfl,_,_,rfl,rfl,rfl,_,rfl,?_⟩;dsimp only;rw [hx,cx];unfold jG at hR;by_cases h0:w ^^^ m2=0
  ·refine bN (by rw [Qs (by omega)];rfl) ?_;rw [if_pos h0] at hR;exact hR _ _ ⟨g7,_,rfl⟩
  ·refine cu (by rw [Qj (by omega)];rfl) ?_;rw [if_neg h0] at hR;refine ⟨_,rfl,_,rfl,d,ns,_,rfl,g7.dw,fun H8 b8 Js=>?_⟩;obtain ⟨j,ej,hj⟩:=dX (a:=dv ns x.2) (n:=2) (by decide);have ej:dv ns x.2 % 2=((j:Nat):Int):=ej;have Ia:=b8.lst g7.dw hn7;have g8:=g7.call b8 Js;rw [ej,show ((2:Int)+((j:Nat):Int)).toNat=2+j by omega] at hR;refine ⟨_,_,rfl,rfl,(by show (0:Int)<2;decide),_,_,rfl,rfl,np,_,_,_,rfl,rfl,ak.of Ia,(by rw [ej];exact bn (j:=2+j) (dY (by omega))),?_⟩;dsimp only [aK];generalize dn ns x.2=q8 at hR g8;obtain ⟨xs8,hb8,_⟩:=g8.ex;refine ⟨_,rfl,.inl ⟨rfl,_,ak.of hb8⟩,_,rfl,_,rfl,_,_,rfl,rfl,_,rfl,_,rfl,_,rfl,_,_,rfl,rfl,_,rfl,_,rfl,d,np,ns,nm,_,q8,50,w ^^^ m2,by rw [hx];rfl,g8.dw,Ia,Gd,fun v H9 b9 F7 hv=>⟨aM,fun t2 FM=>?_⟩⟩;have hym:(dN ns nm (nm.getD (2+j) "") 50 (w ^^^ m2) q8).1.mask=w ^^^ m2:=rfl;generalize dN ns nm (nm.getD (2+j) "") 50 (w ^^^ m2) q8=y at hR F7 hv hym;dsimp only at FM ⊢;rw [hx];have s9:=ag (o:=.tup [.int ((w ^^^ m2:Nat):Int),v]) FM;have g9:=(g8.call b9 F7).same s9;obtain ⟨IP,II,hl9,g10⟩:=g9.put hD (a:=t2) (t:=y.1) (.shared rfl (by rw [hym];exact cq af) (g8.seen b9 F7 s9 hv));rw [QE,List.length_singleton] at hl9;refine ⟨b,IP,.ref t2,rfl,rfl,II,bX (by omega),hR _ _ ⟨by rw [<- QQ];exact g10,_,rfl⟩⟩
 rintro σ' H8 ⟨g8,x5,rfl⟩;exact ⟨_,rfl,kq b H8 g8⟩
noncomputable def cN (ns:List Int) (nm:List Str) (w:Nat) (q:aq):Nat->List Tr × aq
 | 0=>([],q)
 | k+1=>((cN ns nm w q k).1++(dM ns nm (90+2*k) w (nm.getD k "") (cN ns nm w q k).2).1,(dM ns nm (90+2*k) w (nm.getD k "") (cN ns nm w q k).2).2)
theorem xO {ns:List Int} {nm:List Str} {w:Nat} {q:aq} (hw:aY w):∀ k,a7 90 (90+2*k) w 1 (2*k) (2*k) (cN ns nm w q k).1
 | 0=>a7.nil
 | k+1=>((xO hw k).app (xH hw) (by omega) (by omega)).wide (Qc _) (by omega) (by omega) (by omega) (by omega)
theorem qZ (ns:List Int) (nm:List Str) (w:Nat) (q:aq):∀ k,(cN ns nm w q k).1.length<=2*k
 | 0=>by simp [cN]
 | k+1=>by have h1:=qZ ns nm w q k;have h2:(dM ns nm (90+2*k) w (nm.getD k "") (cN ns nm w q k).2).1.length<=2:=nw _ _ _ _ _ _;show ((cN ns nm w q k).1++(dM ns nm (90+2*k) w (nm.getD k "") (cN ns nm w q k).2).1).length<=2*(k+1);rw [QE];omega
theorem EO (ns:List Int) (nm:List Str) (w:Nat) (q:aq):(fJ ns nm w q).1.length<=4:=by
 unfold fJ eY jG;dsimp only
 repeat' split
 all_goals simp
noncomputable def iF (ns:List Int) (w:Nat) (q:aq):List Tr × aq :=
 let nm:=eV ns q;let h:=fJ ns nm w (dn ns (de ns q).2);let t:=cN ns nm w h.2 2;let r:=bY ns (nm.take 2) nm 100 w (dn ns t.2) (dv ns t.2 % 9).toNat
 ((h.1++t.1)++r.1,r.2)
theorem EQ {ns:List Int} {w:Nat} {q:aq} (hw:aY w):iB (iF ns w q).1:=by
 have h:a7 0 140 w 2 24 66 (iF ns w q).1:=by
  unfold iF;dsimp only;have h9:∀ q,(dv ns q % 9).toNat<=8:=fun q=>by have:=Int.emod_lt_of_pos (dv ns q) (show (0:Int)<9 by decide);omega
  generalize heM_q:fJ ns (eV ns q) w (dn ns (de ns q).2)=h;have a:a7 0 90 w 2 4 38 h.1:=by rw [<- heM_q];exact EL hw
  have b:=(xO (ns:=ns) (nm:=eV ns q) (q:=h.2) hw 2).wide (Qc _) (show 90+2*2<=100 by omega) (show 1<=2 by omega) (Qc _) (Qc _);generalize cN ns (eV ns q) w h.2 2=t at b;have hn:=h9 t.2;generalize (dv ns t.2 % 9).toNat=n at hn;have c:=(qX (ns:=ns) (kn:=(eV ns q).take 2) (nm:=eV ns q) (r:=100) (q:=dn ns t.2) hw n (by omega)).wide (Qc _) (show 100+4*n<=140 by omega) (show 1<=2 by omega) (Qc _) (Qc _);exact ((a.app b (by omega) (by omega)).app c (by omega) (by omega)).wide (Qc _) (by omega) (by omega) (by omega) (by omega)
 have h1:=h.len;have h2:=h.cn;have h3:=h.deeps;exact ⟨by omega,by omega,h.ascs (by omega),by omega⟩
theorem ER (ws:List Str) (h:2<=ws.length):dQ (ws.map V.str) none (some 2)=(ws.take 2).map V.str:=by
 unfold dQ;have h1:HT.sIx (ws.map V.str).length 0 none=0:=by simp [HT.sIx]
 have h2:HT.sIx (ws.map V.str).length (ws.map V.str).length (some 2)=2:=by simp [HT.sIx];omega
 rw [h1,h2];simp
inductive xP (K:W.Frag) (vs:List V) (H:Hp) (Q:VK) (E:XK):Prop
 | mk:∀ (d:Addr) (ns:List Int) (q:aq) (w:Nat),vs=[.ref d,.int ((w:Nat):Int)]->Dw K H d ns q->(∀ p H',bR K H d ns p (iF ns w q).2 (iF ns w q).1 H'->Q (.ref p) H')->xP K vs H Q E
noncomputable abbrev ES:List Str:=["_law_draws_here","_law_full","_law_names_here","_law_tree_here","_law_k","_law_one"]
theorem xQ:aT ES ["_law_draws_here","_law_full"] (aI pR):=by decide +kernel
theorem ET (T:All P w K mg AA DD):aB P w K mg base aE 13 AA.ZO DD.ZO ["_law_draws_here","_law_full"] (xP K):=by
 have GN:=eC (base:=base) T;have GNA:=Ek (base:=base) T;have GHE:=EN (base:=base) T;have GFI:=xr (base:=base) T;have GTW:=qW (base:=base) T;have GRW:=xz (base:=base) T;refine T.z_ZO.F.ok xQ (fun vs H Q E h=>by cases h;subst_vars;rfl) fun Fk A outer s H vs Q E hr h=>?_;obtain ⟨d,ns,q,w,rfl,hD,kq⟩:=h;have nd:=xQ.nd;have Ju:ar 12 _:=hr;have IM:ar 10 _:=Ju.mono (by omega);have GQ:ar 4 _:=Ju.mono (by omega);have FF:ar 3 _:=Ju.mono (by omega);have Fm:ar 2 _:=Ju.mono (by omega);refine ⟨_,(ai (aL (i:=2) nd rfl (Or.inl rfl) (ao GNA FF rfl T.z_ZF (aa (pv 0) ab))) (ai (aL (i:=3) nd rfl (Or.inl rfl) (ao GHE Ju rfl T.z_ZH (aa (pv 0) (aa (pv 1) (aa (pv 2) ab))))) (ai (cY PassesOwn.never rfl (iL rfl T.n_range (aa ah ab)) (a8 (i:=4) nd rfl (Or.inl rfl)) (ai (aL (i:=5) nd rfl (Or.inl rfl) (ao GFI GQ rfl T.z_ZG (aa (pv 0) (aa (pv 2) ab)))) (aj (bO (jX PySem.F.plainAttrs_list PySem.F.slot_list_extend PySem.F.type_list_extend jY (pv 3) (aa (ao GTW GQ rfl T.z_ZR (aa (pv 0) (aa (am bS ah (am gj ah (pv 4))) (aa (pv 1) (aa (cB ef (pv 2) (pv 4) (fun _ _=>rfl)) (aa (pv 5) (aa (ao GFI GQ rfl T.z_ZG (aa (pv 0) (aa (pv 2) ab))) ab))))))) ab)) (by rfl)))) (by intro _;rfl)) (ai (cY PassesOwn.never rfl (iL rfl T.n_range (aa (am bx (ao GN Fm rfl T.z_ZL (aa (pv 0) ab)) ah) ab)) (a8 (i:=4) nd rfl (Or.inl rfl)) (aj (bO (jX PySem.F.plainAttrs_list PySem.F.slot_list_extend PySem.F.type_list_extend jY (pv 3) (aa (ao GRW IM rfl T.z_ZS (aa (pv 0) (aa (am bS ah (am gj ah (pv 4))) (aa (pv 1) (aa (fj B1 (pv 2) fh (fi ah)) (aa (pv 2) ab)))))) ab)) (by rfl))) (by intro _;rfl)) (aj (aH (pv 3))))))),?_⟩;unfold iF at kq;dsimp only at kq;refine ⟨_,rfl,d,ns,q,rfl,hD,fun np H1 hnp0 b1 Ft G6=>?_⟩;dsimp only [aK];have Gd:=Ej ns q;generalize eV ns q=nm at kq G6 Gd;generalize dn ns (de ns q).2=q1 at kq Ft;refine ⟨_,rfl,_,rfl,_,rfl,d,np,ns,nm,q1,w,rfl,Ft,G6,Gd,fun b H2 g=>?_⟩;dsimp only [aK];have Jn:=EO ns nm w q1;generalize fJ ns nm w q1=h0 at kq g Jn;have g2:bR K H d ns b h0.2 h0.1 H2:=by obtain ⟨xs,h1,h2⟩:=g.ex;exact ⟨b1.trans g.bt,g.dw,b1.free Ft g.fr,xs,h1,h2.keep (jE (H0:=H1) (fun _ _ h=>h) (fun _ _ h _ _=>h) (fun c h=>b1.free Ft h) (.inr (.inr rfl)))⟩
 have Fy:np≠b:=fun z=>by have:=g.fr;rw [<- z,G6] at this;cases this
 have Ge:=g.bt.lst Ft G6;clear g;refine ic (fun σ' H'=>bR K H d ns b (cN ns nm w h0.2 2).2 (h0.1++(cN ns nm w h0.2 2).1) H'/\H' np=some (.lst (nm.map V.str))/\∃ x4 x5,σ'=[some (.ref d),some (.int ((w:Nat):Int)),some (.ref np),some (.ref b),x4,x5]) (fun R hR=>?_) ?_
 ·refine ⟨_,rfl,(by decide),(by decide),?_⟩;refine lZ (D:=⟨R,_,R,R⟩) (fun i σ' H'=>bR K H d ns b (cN ns nm w h0.2 i).2 (h0.1++(cN ns nm w h0.2 i).1) H'/\H' np=some (.lst (nm.map V.str))/\∃ x4 x5,σ'=[some (.ref d),some (.int ((w:Nat):Int)),some (.ref np),some (.ref b),x4,x5]) ⟨by rw [cN,QO];exact g2,Ge,_,_,rfl⟩ ?_ ?_
  ·rintro i σ' H8 hi ⟨g8,Ia,x4,x5,rfl⟩ E1 hN;have hi:i<2:=hi;rw [Int.zero_add];have Jl:=qZ ns nm w h0.2 i;rw [cN] at hN;dsimp only at hN;generalize cN ns nm w h0.2 i=tw at g8 Jl hN;unfold dM at hN;dsimp only at hN;refine ⟨_,rfl,_,rfl,d,np,ns,nm,_,rfl,g8.dw,Ia,Gd,fun v H9 b9 F7 hv=>?_⟩;dsimp only [aK];generalize cX ns nm tw.2=a at hN F7 hv;have Jk:=b9.lst g8.dw Ia;have g9:=g8.call b9 F7;obtain ⟨IP,II,_⟩:=g9.ex;refine ⟨_,rfl,.inl ⟨rfl,_,ak.of II⟩,_,rfl,_,rfl,_,_,rfl,rfl,.inl ⟨by decide,by decide⟩,_,_,rfl,rfl,_,rfl,_,rfl,_,rfl,np,_,_,_,rfl,rfl,ak.of Jk,bn (j:=i) (dY (by omega)),_,rfl,_,rfl,_,rfl,d,np,ns,nm,a.2,rfl,F7,Jk,Gd,fun u H10 b10 HE hu=>?_⟩;generalize cX ns nm a.2=c at hN HE hu;have g10:=g9.call b10 HE;refine ⟨d,ns,c.2,90+2*i,w,_,v,u,a.1,c.1,rfl,HE,hv.kept (b10.tups F7),hu,fun p ys H11 hp b11 hD11 hp11 hL11=>?_⟩;have Jm:=nw (bL ns c.2 w) (90+2*i) w (nm.getD i "") a.1 c.1;generalize eW (bL ns c.2 w) (90+2*i) w (nm.getD i "") a.1 c.1=tt at hN hL11 Jm;obtain ⟨xs11,hb11,hl11,g11⟩:=g10.more hD b11 hD11 hL11;have Gc:=hL11.length;rw [QE] at hl11;have hn11:upd H11 b (.lst (xs11++ys)) np=some (.lst (nm.map V.str)):=by rw [ay Fy];exact (b10.trans b11).lst F7 Jk
   refine ⟨b,p,xs11,ys,rfl,rfl,hb11,hp11,QP (bX (by omega)),hN _ _ ⟨by rw [<- QQ];exact g11,hn11,_,_,rfl⟩⟩
  ·rintro σ' H8 h;exact hR _ _ h
 rintro σ' H3 ⟨g3,GZ,x4,x5,rfl⟩;have hl3:=qZ ns nm w h0.2 2;generalize cN ns nm w h0.2 2=tw at kq g3 hl3;obtain ⟨n,en,Jk⟩:=dX (a:=dv ns tw.2) (n:=9) (by decide);have en:dv ns tw.2 % 9=((n:Nat):Int):=en;rw [en,Qy] at kq;refine ic (fun σ' H'=>bR K H d ns b (bY ns (nm.take 2) nm 100 w (dn ns tw.2) n).2 ((h0.1++tw.1)++(bY ns (nm.take 2) nm 100 w (dn ns tw.2) n).1) H'/\∃ x4 x5,σ'=[some (.ref d),some (.int ((w:Nat):Int)),some (.ref np),some (.ref b),x4,x5]) (fun R hR=>?_) ?_
 ·refine ⟨_,rfl,d,ns,tw.2,rfl,g3.dw,fun H7 b7 hD7=>⟨_,_,rfl,rfl,(by show (0:Int)<9;decide),_,rfl,?_,?_,?_⟩⟩
  ·rw [en];omega
  ·rw [en];omega
  rw [en,Qy];refine lZ (D:=⟨R,_,R,R⟩) (fun i σ' H'=>bR K H d ns b (bY ns (nm.take 2) nm 100 w (dn ns tw.2) i).2 ((h0.1++tw.1)++(bY ns (nm.take 2) nm 100 w (dn ns tw.2) i).1) H'/\H' np=some (.lst (nm.map V.str))/\∃ x4 x5,σ'=[some (.ref d),some (.int ((w:Nat):Int)),some (.ref np),some (.ref b),x4,x5]) ⟨by rw [bY,QO];exact g3.call b7 hD7,b7.lst g3.dw GZ,_,_,rfl⟩ ?_ ?_
  ·rintro i σ' H8 hi ⟨g8,Ia,x4,x5,rfl⟩ E1 hN;rw [Int.zero_add];have Jl:=ny ns (nm.take 2) nm 100 w (dn ns tw.2) i;rw [bY] at hN;dsimp only at hN;generalize bY ns (nm.take 2) nm 100 w (dn ns tw.2) i=ro at g8 Jl hN;obtain ⟨xs8,hb8,_⟩:=g8.ex;refine ⟨_,rfl,.inl ⟨rfl,_,ak.of hb8⟩,_,rfl,_,rfl,_,_,rfl,rfl,.inl ⟨by decide,by decide⟩,_,_,rfl,rfl,_,rfl,_,rfl,_,rfl,np,_,rfl,ak.of Ia,fun kp FN=>?_⟩;rw [ER nm (by omega)];have s8:=ag (o:=.lst ((nm.take 2).map V.str)) FN;have g8':=g8.same s8;have hn8':=s8 _ _ Ia;refine ⟨_,rfl,d,kp,np,ns,nm.take 2,nm,ro.2,100+4*i,w,rfl,g8'.dw,af,by rw [QJ];omega,hn8',Gd,fun p ys H9 hp b9 F7 Jg hL9=>?_⟩;have Jm:=qY ns (nm.take 2) nm (100+4*i) w ro.2;generalize gc ns (nm.take 2) nm (100+4*i) w ro.2=rr at hN F7 hL9 Jm;obtain ⟨IP,II,hl9,g9⟩:=g8'.more hD b9 F7 hL9;have Gc:=hL9.length;rw [QE,QE] at hl9;have hn9':upd H9 b (.lst (IP++ys)) np=some (.lst (nm.map V.str)):=by rw [ay Fy];exact b9.lst g8'.dw hn8'
   refine ⟨b,p,IP,ys,rfl,rfl,II,Jg,QP (bX (by omega)),hN _ _ ⟨by rw [<- QQ];exact g9,hn9',_,_,rfl⟩⟩
  ·rintro σ' H8 ⟨g8,_,x4,x5,e⟩;exact hR _ _ ⟨g8,x4,x5,e⟩
 rintro σ' H8 ⟨g8,x4,x5,rfl⟩;exact ⟨_,rfl,kq b H8 g8⟩
theorem EU {ts:List Tr} {i:Nat} {t:Tr} (h:ts[i]?=some t) (s:Nat):cutM s (ts.take (i+1))=cutM s (ts.take i)++if t.mask.testBit s=true then [aA s t] else []:=by obtain ⟨hi,e⟩:=Qh h;rw [Qi hi,e,gA,ik]
def jH (H G:Hp):Prop:=∀ b xs,H b=some (.tup xs)->G b=some (.tup xs)
def xR (H0 H G:Hp):Prop:=∀ c zs,H0 c=none->H c=some (.lst zs)->G c=some (.lst zs)
theorem rc (m s:Nat):decide (V.int (Builtin.bitAnd (((m:Nat):Int) / 2 ^ ((s:Nat):Int).toNat) 1)=V.int 1)=m.testBit s:=by
 have e1:((m:Nat):Int) / 2 ^ ((s:Nat):Int).toNat=((m / 2 ^ s:Nat):Int):=by rw [Qy];simp
 rw [e1,show (1:Int)=((1:Nat):Int) from rfl,gq,Nat.and_one_is_mod,Nat.testBit_eq_decide_div_mod_eq];by_cases h:m / 2 ^ s % 2=1
 ·rw [Qs h,h];rfl
 ·rw [Qj h,Qj (fun z=>h (by injection z with z;omega))]
def xS (H0:Hp) (p:Addr) (H G:Hp):Prop:=∀ c zs,H0 c=none->c≠p->H c=some (.lst zs)->G c=some (.lst zs)
inductive jI (k:Nat) (vs:List V) (H:Hp) (Q:VK) (E:XK):Prop
 | mk:∀ (l:Addr) (xs:List V) (ts:List Tr) (s:Nat),vs=[.ref l,.int ((s:Nat):Int)]->H l=some (.lst xs)->LAt H true xs ts->deeps ts<k->ts.length<=40->ascs ts->(∀ p ys H',Same H H'->H p=none->H' p=some (.lst ys)->(∀ G,jH H' G->xR H H' G->LAt G false ys (cutM s ts))->Q (.ref p) H')->jI k vs H Q E
theorem jJ (s:Nat):∀ ts:List Tr,(cutM s ts).length<=ts.length
 | []=>by simp [cutM]
 | t::ts=>by have:=jJ s ts;rw [cutM];split<;>simp<;>omega
theorem nz (s:Nat) (t:Tr):(aA s t).mask=1:=by cases t<;>simp [aA,Tr.mask]
theorem EV {H G:Hp} {v:V} {t:Tr} (s:Nat) (h:bi H true v t) (hb:∀ ts,aW.b ts∉t.parts) (hG:jH H G):bi G false v (aA s t):=by
 have ep:(aA s t).parts=t.parts:=by
  cases t with
  | iff m r e b o=>exact absurd (by simp [Tr.parts]) (hb b)
  | whl m r e b=>exact absurd (by simp [Tr.parts]) (hb b)
  | df m r n k ps b=>exact absurd (by simp [Tr.parts]) (hb b)
  | _=>simp [aA,Tr.parts]
 obtain ⟨a,vs,rfl,ha,hp⟩:=fU h;refine .mk (hG _ _ ha) ?_;rw [ep]
 have go:∀ {vs:List V} {ps:List aW},(∀ ts,aW.b ts∉ps)->PsAt H true vs ps->PsAt G false vs ps:=fun {vs ps}=>by
  induction ps generalizing vs with
  | nil=>intro _ h;rw [jp h];exact .nil
  | cons p ps ih =>
   intro hn h;obtain ⟨v,r,rfl,h1,h2⟩:=c9 h;refine .cons ?_ (ih (fun ts z=>hn ts (by simp [z])) h2)
   cases h1 with
   | s z=>exact .s z
   | i n=>exact .i n
   | e a=>exact .e (a.kept hG)
   | @b l xs ts _ _=>exact absurd (QA ..) (hn ts)
   | p a=>obtain ⟨t,us,e1,e2,e3,e4⟩:=a;exact .p ⟨t,us,e1,hG _ _ e2,e3,fun i u q x y=>hG _ _ (e4 i u q x y)⟩
 exact go hb hp
noncomputable abbrev EW:List Str:=["_law_block","_law_s","_law_found","_law_mask_here","_law_row_here"]
theorem re:aT EW ["_law_block","_law_s"] (aI pS):=by decide +kernel
theorem EX (T:All P w K mg AA DD) (k:Nat) (GCT:aB P w K mg base aE (k+1) AA.ZW DD.ZW ["_law_block","_law_s"] (jI k)):aB P w K mg base aE (k+1+1) AA.ZW DD.ZW ["_law_block","_law_s"] (jI (k+1)):=by
 refine T.z_ZW.F.ok re (fun vs H Q E h=>by cases h;subst_vars;rfl) fun Fk A outer s H vs Q E hr h=>?_;obtain ⟨l,xs,ts,st,rfl,hl,hL,hd,h40,ha,kq⟩:=h;have nd:=re.nd;have hrC:ar (k+1) _:=hr;refine ⟨_,(ai (aL (i:=2) nd rfl (Or.inl rfl) (bG ab)) (ai (cY PassesOwn.never rfl (cz (pv 0)) (c8 rfl (bm (a8 (i:=3) nd rfl (Or.inl rfl)) (bm (a8 (i:=4) nd rfl (Or.inl rfl)) cQ))) (aj (aX (aN bp (am fe (am nP (pv 3) (pv 1)) ah) ah (aQ _)) (ai (aX (aN bp (aO (pv 4)) ap (aQ _)) (aj (aL (i:=4) nd rfl (Or.inl rfl) (am lv (fj iq (pv 4) fh (fi ah)) (aF (aa (ao GCT hrC rfl T.z_ZW (aa (aO (pv 4)) (aa (pv 1) ab))) (aa (ao GCT hrC rfl T.z_ZW (aa (aO (pv 4)) (aa (pv 1) ab))) ab)))))) (aj (aX (aN bp (aO (pv 4)) ap (aQ _)) (aj (aL (i:=4) nd rfl (Or.inl rfl) (am lv (fj iq (pv 4) fh (fi ah)) (aF (aa (ao GCT hrC rfl T.z_ZW (aa (aO (pv 4)) (aa (pv 1) ab))) ab))))) (aj (aX (aN bp (aO (pv 4)) ap (aQ _)) (aj (aL (i:=4) nd rfl (Or.inl rfl) (am lv (fj iq (pv 4) fh (fi ah)) (aF (aa (ao GCT hrC rfl T.z_ZW (aa (aO (pv 4)) (aa (pv 1) ab))) ab))))) bb))))) (aj (bO (jn (pv 2) (aa (pv 4) ab)) (by rfl)))) bb)) (by intro _;rfl)) (aj (aH (pv 2))))),?_⟩;refine ⟨Qr _,fun pf hpf=>?_⟩;have s1:=ag (o:=.lst []) hpf;dsimp only [aK];have Ij:=hL.length;refine ic (fun σ' H'=>∃ ys x3 x4,σ'=[some (.ref l),some (.int ((st:Nat):Int)),some (.ref pf),x3,x4]/\Same H H'/\H' pf=some (.lst ys)/\∀ G,jH H' G->xS H pf H' G->LAt G false ys (cutM st ts)) (fun R hR=>?_) ?_
 ·refine ⟨_,rfl,l,rfl,⟨_,ak.of (s1 _ _ hl)⟩,?_⟩;refine rD (K:=K0) (a:=l) (xs:=xs) (fun i σ' H'=>∃ ys x3 x4,σ'=[some (.ref l),some (.int ((st:Nat):Int)),some (.ref pf),x3,x4]/\Same H H'/\H' pf=some (.lst ys)/\ys.length<=i/\∀ G,jH H' G->xS H pf H' G->LAt G false ys (cutM st (ts.take i))) ⟨[],_,_,rfl,s1,af,Qc _,fun G _ _=>by rw [List.take_zero,cutM];exact .nil⟩ (fun i σ' H' _ hsl100=>by obtain ⟨_,_,_,_,h,_⟩:=hsl100;exact ak.of (h _ _ hl)) ?_ ?_
  ·rintro i x σ' H1 hx ⟨ys,x3,x4,rfl,sm,Ie,Gc,hGs⟩;have Jy:=(Qh hx).1;obtain ⟨t,ht,hO⟩:=hL.get hx;have hO:=hO.kept sm.ls;have hm:t∈ts:=Qz ht;obtain ⟨hokt,hta⟩:=gz ha hm;have hdm:=jm hm;have hcs:=EU ht st
   cases hO with
   | plain e _=>cases e
   | @shared p y _ _ hp hS =>
   refine ⟨p,_,rfl,au.of hp,rfl,_,_,rfl,_,_,rfl,rfl,?_⟩;refine ⟨_,rfl,_,rfl,_,_,rfl,rfl,(by show (0:Int)<=((st:Nat):Int);omega),_,_,rfl,rfl,rfl,_,rfl,?_⟩;dsimp only;rw [rc];by_cases hb:t.mask.testBit st=true
   ·refine cu hb ?_;rw [if_pos hb] at hcs;refine gv (fun σ' H'=>∃ v,σ'=[some (.ref l),some (.int ((st:Nat):Int)),some (.ref pf),some (.int ((t.mask:Nat):Int)),some v]/\Same H1 H'/\∀ G,jH H' G->xR H1 H' G->bi G false v (aA st t)) (fun R2 hR2=>?_) ?_
    ·have blk:∀ {bs:List Tr},aW.b bs∈t.parts->deeps bs<k/\bs.length<=40/\ascs bs:=fun h=>⟨by have:=jl h;omega,(fT hta h).1,(fT hta h).2.2⟩
     cases t with
     | iff m r e b o =>
      obtain ⟨t0,ve,lb,xb,lo,xo,e1,FI,hE,hlb,hLb,Fh,hLo⟩:=uK hS;subst e1;obtain ⟨b1,b2,b3⟩:=blk (bs:=b) (by simp [Tr.parts]);obtain ⟨o1,o2,o3⟩:=blk (bs:=o) (by simp [Tr.parts]);refine aP 0 rfl FI rfl ⟨rfl,_,rfl,fV ?_⟩;refine ⟨_,rfl,_,rfl,t0,_,rfl,au.of FI,?_,fun q1 hq1=>?_⟩
      ·rintro ⟨_,q⟩;simp [HT.sIx] at q
      have s2:=ag (o:=.tup (dQ [.str "if",.int ((r:Nat):Int),ve,.ref lb,.ref lo] none (some 3))) hq1;refine aP 3 rfl (s2 _ _ FI) rfl ⟨_,rfl,lb,xb,b,st,rfl,s2 _ _ hlb,hLb.kept s2.ls,b1,b2,b3,fun p1 HQ H2 s3 Hv Jv hG1=>?_⟩;have HS:=s2.trans s3;refine aP 4 rfl (HS _ _ FI) rfl ⟨_,rfl,lo,xo,o,st,rfl,HS _ _ Fh,hLo.kept HS.ls,o1,o2,o3,fun p2 ys2 H3 s4 Hu hp2' hG2=>?_⟩;refine ⟨aM,fun q2 FX=>?_⟩;have s5:=ag (o:=.tup [.ref p1,.ref p2]) FX;refine ⟨q1,q2,[.str "if",.int ((r:Nat):Int),ve],[.ref p1,.ref p2],rfl,rfl,au.of (s5 _ _ (s4 _ _ (s3 _ _ af))),au.of af,by simp,(by show 3+2<=sizeLine;decide),fun z=>(by simp at z),fun _ q3 hq3=>?_⟩;have s6:=ag (o:=.tup ([.str "if",.int ((r:Nat):Int),ve]++[.ref p1,.ref p2])) hq3;have F5:=s5.trans s6;refine hR2 _ _ ⟨_,rfl,((HS.trans s4).trans F5),fun G hG hN=>?_⟩;have F2:H1 p1=none:=s2.free Hv;have Ge:H1 p2=none:=HS.free Hu;rw [aA];refine .mk (hG _ _ af) (.cons (.s _) (.cons (.i _) (.cons (.e ((hE.kept ((HS.trans s4).trans F5).tups).kept hG)) (.cons (.b (hN _ _ F2 (F5 _ _ (s4 _ _ Jv))) (hG1 G (fun b xs h=>hG _ _ (F5 _ _ (s4 _ _ h))) fun c zs h0 h=>hN _ _ (s2.free h0) (F5 _ _ (s4 _ _ h)))) (.cons (.b (hN _ _ Ge (F5 _ _ hp2')) (hG2 G (fun b xs h=>hG _ _ (F5 _ _ h)) fun c zs h0 h=>hN _ _ (HS.free h0) (F5 _ _ h))) .nil)))))
     | whl m r e b =>
      obtain ⟨t0,ve,lb,xb,e1,FI,hE,hlb,hLb⟩:=uL hS;subst e1;obtain ⟨b1,b2,b3⟩:=blk (bs:=b) (by simp [Tr.parts]);refine aP 0 rfl FI rfl ⟨rfl,_,rfl,bN (Qj (by intro q;injection q with q;exact absurd q (by decide +kernel))) ?_⟩;refine aP 0 rfl FI rfl ⟨rfl,_,rfl,fV ?_⟩;refine ⟨_,rfl,_,rfl,t0,_,rfl,au.of FI,?_,fun q1 hq1=>?_⟩
      ·rintro ⟨_,q⟩;simp [HT.sIx] at q
      have s2:=ag (o:=.tup (dQ [.str "while",.int ((r:Nat):Int),ve,.ref lb] none (some 3))) hq1;refine aP 3 rfl (s2 _ _ FI) rfl ⟨_,rfl,lb,xb,b,st,rfl,s2 _ _ hlb,hLb.kept s2.ls,b1,b2,b3,fun p1 HQ H2 s3 Hv Jv hG1=>?_⟩;have HS:=s2.trans s3;refine ⟨cO,fun q2 FX=>?_⟩;have s5:=ag (o:=.tup [.ref p1]) FX;refine ⟨q1,q2,[.str "while",.int ((r:Nat):Int),ve],[.ref p1],rfl,rfl,au.of (s5 _ _ (s3 _ _ af)),au.of af,by simp,(by show 3+1<=sizeLine;decide),fun z=>(by simp at z),fun _ q3 hq3=>?_⟩;have s6:=ag (o:=.tup ([.str "while",.int ((r:Nat):Int),ve]++[.ref p1])) hq3;have F5:=s5.trans s6;refine hR2 _ _ ⟨_,rfl,HS.trans F5,fun G hG hN=>?_⟩;have F2:H1 p1=none:=s2.free Hv;rw [aA];exact .mk (hG _ _ af) (.cons (.s _) (.cons (.i _) (.cons (.e ((hE.kept (HS.trans F5).tups).kept hG)) (.cons (.b (hN _ _ F2 (F5 _ _ Jv)) (hG1 G (fun b xs h=>hG _ _ (F5 _ _ h)) fun c zs h0 h=>hN _ _ (s2.free h0) (F5 _ _ h))) .nil))))
     | df m r n kd ps b =>
      obtain ⟨t0,vp,lb,xb,e1,FI,hP,hlb,hLb⟩:=mH hS;subst e1;obtain ⟨b1,b2,b3⟩:=blk (bs:=b) (by simp [Tr.parts]);refine aP 0 rfl FI rfl ⟨rfl,_,rfl,bN (Qj (by intro q;injection q with q;exact absurd q (by decide +kernel))) ?_⟩;refine aP 0 rfl FI rfl ⟨rfl,_,rfl,bN (Qj (by intro q;injection q with q;exact absurd q (by decide +kernel))) ?_⟩;refine aP 0 rfl FI rfl ⟨rfl,_,rfl,fV ?_⟩;refine ⟨_,rfl,_,rfl,t0,_,rfl,au.of FI,?_,fun q1 hq1=>?_⟩
      ·rintro ⟨_,q⟩;simp [HT.sIx] at q
      have s2:=ag (o:=.tup (dQ [.str "def",.int ((r:Nat):Int),.str n,.str kd,vp,.ref lb] none (some 5))) hq1;refine aP 5 rfl (s2 _ _ FI) rfl ⟨_,rfl,lb,xb,b,st,rfl,s2 _ _ hlb,hLb.kept s2.ls,b1,b2,b3,fun p1 HQ H2 s3 Hv Jv hG1=>?_⟩;have HS:=s2.trans s3;refine ⟨cO,fun q2 FX=>?_⟩;have s5:=ag (o:=.tup [.ref p1]) FX;refine ⟨q1,q2,[.str "def",.int ((r:Nat):Int),.str n,.str kd,vp],[.ref p1],rfl,rfl,au.of (s5 _ _ (s3 _ _ af)),au.of af,by simp,(by show 5+1<=sizeLine;decide),fun z=>(by simp at z),fun _ q3 hq3=>?_⟩;have s6:=ag (o:=.tup ([.str "def",.int ((r:Nat):Int),.str n,.str kd,vp]++[.ref p1])) hq3;have F5:=s5.trans s6;refine hR2 _ _ ⟨_,rfl,HS.trans F5,fun G hG hN=>?_⟩;have F2:H1 p1=none:=s2.free Hv;have hPG:cU G vp ps:=by obtain ⟨t,us,e1,e2,e3,e4⟩:=hP.kept (HS.trans F5).ls;exact ⟨t,us,e1,hG _ _ e2,e3,fun i u q x y=>hG _ _ (e4 i u q x y)⟩
      rw [aA];exact .mk (hG _ _ af) (.cons (.s _) (.cons (.i _) (.cons (.s _) (.cons (.s _) (.cons (.p hPG) (.cons (.b (hN _ _ F2 (F5 _ _ Jv)) (hG1 G (fun b xs h=>hG _ _ (F5 _ _ h)) fun c zs h0 h=>hN _ _ (s2.free h0) (F5 _ _ h))) .nil))))))
     | _ =>
      have I0:=hS;obtain ⟨t0,vs,rfl,FI,GT⟩:=fU hS;obtain ⟨vr,rfl⟩:=kC GT;refine aP 0 rfl FI rfl ⟨rfl,_,rfl,bN (Qj (by intro q;injection q with q;exact absurd q (by simp only [Tr.kw];decide +kernel))) ?_⟩;refine aP 0 rfl FI rfl ⟨rfl,_,rfl,bN (Qj (by intro q;injection q with q;exact absurd q (by simp only [Tr.kw];decide +kernel))) ?_⟩;refine aP 0 rfl FI rfl ⟨rfl,_,rfl,bN (Qj (by intro q;injection q with q;exact absurd q (by simp only [Tr.kw];decide +kernel))) ?_⟩;exact hR2 _ _ ⟨_,rfl,Same.refl _,fun G hG _=>EV st I0 (by simp [Tr.parts]) hG⟩
    ·rintro σ' H2 ⟨v,rfl,s2,hv⟩;have hpf2:=s2 _ _ Ie;refine ⟨_,rfl,.inl ⟨rfl,_,ak.of hpf2⟩,_,rfl,pf,ys,v,rfl,rfl,hpf2,bX (by omega),ys++[v],_,_,rfl,?_,af,by simp;omega,fun G hG hN=>?_⟩
     ·exact fun b o e=>by rw [ay (fun z=>by rw [z,hpf] at e;cases e)];exact s2 _ _ (sm _ _ e)
     have tk:jH H2 (upd H2 pf (.lst (ys++[v]))):=fun b xs e=>by rw [ay (fun z=>by rw [z,hpf2] at e;cases e)];exact e
     rw [hcs];refine (hGs G (fun b xs e=>hG _ _ (tk _ _ (s2 _ _ e))) fun c zs h0 hc e=>hN _ _ h0 hc (by rw [ay hc];exact s2 _ _ e)).snoc (.plain rfl (nz st t) (hv G (fun b xs e=>hG _ _ (tk _ _ e)) fun c zs h0 e=>?_));have hcp:c≠pf:=fun z=>by rw [z,Ie] at h0;cases h0
     exact hN _ _ (sm.free h0) hcp (by rw [ay hcp];exact e)
   ·refine bN (by cases e:t.mask.testBit st with | true=>exact absurd e hb | false=>rfl) ?_;rw [if_neg hb,QO] at hcs;exact ⟨ys,_,_,rfl,sm,Ie,by omega,by rw [hcs];exact hGs⟩
  ·rintro σ' H1 ⟨ys,x3,x4,rfl,sm,Ie,Gc,hGs⟩;rw [Qo (by omega)] at hGs;exact hR _ _ ⟨ys,_,_,rfl,sm,Ie,hGs⟩
 ·rintro σ' H1 ⟨ys,x3,x4,rfl,sm,Ie,hGs⟩;exact ⟨_,rfl,kq pf ys _ sm hpf Ie fun G hG hN=>hGs G hG fun c zs h0 _ e=>hN _ _ h0 e⟩
theorem EY (T:All P w K mg AA DD):aB P w K mg base aE (0+1) AA.ZW DD.ZW ["_law_block","_law_s"] (jI 0):=by
 have no:∀ vs H Q E,¬ jI 0 vs H Q E:=fun vs H Q E h=>by obtain ⟨l,xs,ts,st,_,_,_,z,_⟩:=h;omega
 exact T.z_ZW.F.ok re (fun vs H Q E h=>(no _ _ _ _ h).elim) (fun Fk A outer s H vs Q E hr h=>(no _ _ _ _ h).elim)
theorem xT (T:All P w K mg AA DD):∀ k:Nat,aB P w K mg base aE (k+1) AA.ZW DD.ZW ["_law_block","_law_s"] (jI k)
 | 0=>EY T
 | k+1=>EX T k (xT T k)
inductive xU (vs:List V) (H:Hp) (Q:VK) (E:XK):Prop
 | mk:∀ (p:Addr) (ys:List V) (ks:List (List ae)) (f:List ae->Nat) (rule:Nat),vs=[.ref p,.int ((rule:Nat):Int)]->H p=some (.lst ys)->bP H ys (ks.map fun k=>.inl ((f k:Nat):Int)::k)->ks.Pairwise (fun x y=>bg x y=true)->(∀ k∈ks,(∃ r w,k=kk r w)/\0<f k/\f k &&& rule=f k)->ks.length<100000->(∀ H',Same H H'->Q (.bl true) H')->xU vs H Q E
noncomputable abbrev EZ:List Str:=["_law_found","_law_rule","_law_k","_law_one"]
theorem xV:aT EZ ["_law_found","_law_rule"] (aI pT):=by decide +kernel
theorem E3 (T:All P w K mg AA DD):aB P w K mg base aE 1 AA.Zx DD.Zx ["_law_found","_law_rule"] xU:=by
 refine T.z_Zx.F.ok xV (fun vs H Q E h=>by cases h;subst_vars;rfl) fun Fk A outer s H vs Q E hr h=>?_;obtain ⟨p,ys,ks,f,rule,rfl,hp,hT,hpw,hk,Fj,kq⟩:=h;have nd:=xV.nd;have hu0:=QD (Nat.le_add_right _ _) hr.units;refine ⟨_,(ai (aX (lg (fc (di (ip (K:=K) (n:="list") rfl) rfl T.n_isinstance hZ (aa (pv 0) (aa (gQ (v:=.ty "list") rfl T.n_list lA rfl) ab))))) (aj (aH gP)) bb) (ai (cY PassesOwn.never rfl (iL rfl T.n_range (aa (di ma rfl T.n_len hX (aa (pv 0) ab)) ab)) (a8 (i:=2) nd rfl (Or.inl rfl)) (ai (aL (i:=3) nd rfl (Or.inl rfl) (cB ef (pv 0) (pv 2) (fun _ _=>rfl))) (ai (aX (PW.pt (gf (lg (fc (di (ip (K:=K) (n:="tuple") rfl) rfl T.n_isinstance hZ (aa (pv 3) (aa (gQ (v:=.ty "tuple") rfl T.n_tuple lC rfl) ab))))) (gf (aN eJ (di ma rfl T.n_len hX (aa (pv 3) ab)) ah (aQ _)) (gf (lg (fc (di (ip (K:=K) (n:="int") rfl) rfl T.n_isinstance hZ (aa (aO (pv 3)) (aa (gQ (v:=.ty "int") rfl T.n_int z7 rfl) ab))))) (jM (fc (di (ip (K:=K) (n:="bool") rfl) rfl T.n_isinstance hZ (aa (aO (pv 3)) (aa (gQ (v:=.ty "bool") rfl T.n_bool z8 rfl) ab))))))))) (aj (aH gP)) bb) (aj (aX (PW.pt (gf (aN yX (aO (pv 3)) ah (aQ _)) (gf (aN eJ (am fe (aO (pv 3)) (pv 1)) (aO (pv 3)) (aQ _)) (jM (PW.pt (jO (aN nR (pv 2) ah (aQ _)) (lc (aN (B4 hu0) (fj iq (cB ef (pv 0) (am gi (pv 2) ah) (fun _ _=>rfl)) (fi ah) fh) (fj iq (pv 3) (fi ah) fh) (aQ _))))))))) (aj (aH gP)) bb)))) (by intro _;rfl)) (aj (aH gP)))),?_⟩;refine gv (fun σ' H'=>H'=H/\σ'=[some (.ref p),some (.int ((rule:Nat):Int)),none,none]) (fun R hR=>?_) ?_
 ·refine ⟨_,rfl,.ref p,_,true,rfl,.lst hp,by rfl,_,rfl,cS ?_⟩;exact hR _ _ ⟨rfl,rfl⟩
 rintro σ' H ⟨rfl,rfl⟩;have Gc:=hT.1;rw [Qe] at Gc;refine ic (fun σ' H'=>Same H H') (fun R hR=>?_) ?_
 ·refine ⟨_,rfl,p,ys,rfl,.inl (ak.of hp),_,rfl,?_,?_,?_⟩
  ·show _<=((ys.length:Nat):Int);omega
  ·show ((ys.length:Nat):Int)<_;omega
  rw [Qy];refine nK (D:=⟨R,_,R,R⟩) (fun i σ' H'=>Same H H'/\∃ x2 x3,σ'=[some (.ref p),some (.int ((rule:Nat):Int)),x2,x3]) ⟨Same.refl _,_,_,rfl⟩ ?_ ?_
  ·rintro i σ' H1 hi ⟨sm,x2,x3,rfl⟩;rw [Int.zero_add];have Gq:i<ks.length:=by omega
   have get:∀ j (hj:j<ks.length),∃ t,ys[j]?=some (.ref t)/\H t=some (.tup (.int ((f ks[j]:Nat):Int)::ks[j].map kV)):=fun j hj=>by
    obtain ⟨t,e,ht⟩:=hT.2 j ys[j] (.inl ((f ks[j]:Nat):Int)::ks[j]) (Qa (by omega)) (by rw [Qu,Qa hj];rfl);exact ⟨t,by rw [Qa (by omega),e],ht⟩
   obtain ⟨t,et,ht⟩:=get i Gq;obtain ⟨⟨r,z,ek⟩,Fo,Fi⟩:=hk ks[i] (QB Gq);have Fu:=sm _ _ ht;have hl4:(V.int ((f ks[i]:Nat):Int)::ks[i].map kV).length=3:=by rw [ek];rfl
   refine ⟨_,rfl,_,rfl,p,_,_,.ref t,rfl,rfl,ak.of (sm _ _ hp),bn et,?_⟩;dsimp only [aK];have IB:(V.int ((f ks[i]:Nat):Int)::ks[i].map kV)[0]?=some (V.int ((f ks[i]:Nat):Int)):=rfl;refine gv (fun σ' H'=>H'=H1/\σ'=[some (.ref p),some (.int ((rule:Nat):Int)),some (.int ((i:Nat):Int)),some (.ref t)]) (fun R2 hR2=>?_) ?_
   ·refine ⟨_,rfl,.ref t,_,true,rfl,.tup Fu,by rfl,_,rfl,cS ?_⟩;refine ⟨_,rfl,t,_,rfl,.inr (au.of Fu),rfl,_,rfl,?_⟩;rw [hl4];refine bN (by rfl) ?_;refine ⟨_,rfl,t,_,_,_,rfl,rfl,au.of Fu,bn (j:=0) IB,.int ((f ks[i]:Nat):Int),_,true,rfl,.int _,by rfl,_,rfl,cS ?_⟩;refine ⟨_,rfl,t,_,_,_,rfl,rfl,au.of Fu,bn (j:=0) IB,.int ((f ks[i]:Nat):Int),_,false,rfl,.int _,by rfl,_,rfl,cS ?_⟩;exact hR2 _ _ ⟨rfl,rfl⟩
   rintro σ' H' ⟨rfl,rfl⟩;refine ⟨_,rfl,t,_,_,_,rfl,rfl,au.of Fu,bn (j:=0) IB,_,_,rfl,rfl,_,rfl,bN (Qj (by omega)) ?_⟩;refine ⟨_,rfl,t,_,_,_,rfl,rfl,au.of Fu,bn (j:=0) IB,_,rfl,_,_,rfl,rfl,?_⟩;dsimp only;rw [gq,Fi];refine ⟨_,rfl,t,_,_,_,rfl,rfl,au.of Fu,bn (j:=0) IB,rfl,_,rfl,bN (by rw [Qs rfl];rfl) ?_⟩;refine ⟨_,rfl,_,_,rfl,rfl,_,rfl,?_⟩;by_cases h0:i=0
   ·exact bN (Qj (by omega)) (cS ⟨sm,_,_,rfl⟩)
   refine cu (Qs (by omega)) ?_
   obtain ⟨j,rfl⟩:∃ j,i=j+1:=⟨i-1,by omega⟩
   have hjk:j<ks.length:=by omega
   obtain ⟨t2,et2,FM⟩:=get j hjk;obtain ⟨⟨r2,z2,ek2⟩,_,_⟩:=hk ks[j] (QB hjk);have ht21:=sm _ _ FM;refine ⟨_,rfl,_,rfl,_,_,rfl,rfl,?_⟩;dsimp only;rw [show ((j+1:Nat):Int)-1=((j:Nat):Int) by omega];refine ⟨p,_,_,.ref t2,rfl,rfl,ak.of (sm _ _ hp),bn et2,?_⟩;refine ⟨_,rfl,t2,_,rfl,au.of ht21,?_,fun q1 hq1=>?_⟩
   ·rintro ⟨q,_⟩;rw [ek2] at q;simp [HT.sIx,kk] at q
   rw [mJ];have s2:=ag (o:=.tup (ks[j].map kV)) hq1;refine ⟨_,rfl,_,rfl,t,_,rfl,au.of (s2 _ _ Fu),?_,fun q2 FX=>?_⟩
   ·rintro ⟨q,_⟩;rw [ek] at q;simp [HT.sIx,kk] at q
   rw [mJ];have s3:=ag (o:=.tup (ks[j+1].map kV)) FX;have Fl:=List.pairwise_iff_getElem.mp hpw j (j+1) hjk Gq (by omega);refine ⟨q1,q2,ks[j],ks[j+1],rfl,rfl,s3 _ _ af,af,by rw [ek,ek2];rfl,_,rfl,?_⟩;rw [Fl];exact cS ⟨(sm.trans s2).trans s3,_,_,rfl⟩
  ·rintro σ' H1 ⟨sm,x2,x3,rfl⟩;exact hR _ _ sm
 ·rintro σ' H1 sm;exact kq _ sm
theorem xW {B H:Hp} {p a:Addr} {o:HO} (h:bI B p H a=some o):H a=some o:=by
 unfold bI at h;split at h
 ·cases h
 ·exact h
noncomputable def gO (d:Nat):Nat:=2 ^ 2 ^ (1+d)-1
theorem xX {d:Nat} (h:d<3):aY (gO d):=by rcases (show d=0∨d=1∨d=2 by omega) with rfl | rfl | rfl<;>exact ⟨by decide,by decide⟩
noncomputable def jN (ns:List Int):Nat:=(dv ns (eB ns) % 3).toNat
noncomputable def rf (ns:List Int):Nat:=bL ns (dn ns (eB ns)) (gO (jN ns))
noncomputable def nA (ns:List Int):List Tr:=(iF ns (gO (jN ns)) (bw ns (dn ns (eB ns)))).1
theorem rh (ns:List Int):jN ns<3:=by unfold jN;have:=Int.emod_lt_of_pos (dv ns (eB ns)) (show (0:Int)<3 by decide);omega
inductive xY (K:W.Frag) (vs:List V) (H:Hp) (Q:VK) (E:XK):Prop
 | mk:∀ (a:Addr) (ns:List Int),vs=[.ref a]->ak K H a (ns.map V.int)->(∀ t p xs H',Same H H'->H' t=some (.tup [.int ((2 ^ (1+jN ns):Nat):Int),.int ((rf ns:Nat):Int),.ref p])->H' p=some (.lst xs)->LAt H' true xs (nA ns)->Q (.ref t) H')->xY K vs H Q E
noncomputable abbrev E4:List Str:=["_law_script","_law_draws_here","_law_settings_of","_law_full","_law_rule"]
theorem xZ:aT E4 ["_law_script"] (aI pU):=by decide +kernel
theorem E5 (T:All P w K mg AA DD):aB P w K mg base aE 14 AA.ZI DD.ZI ["_law_script"] (xY K):=by
 have GDR:=Ef (base:=base) T;have GN:=eC (base:=base) T;have GM:=kP (base:=base) T;have GTR:=ET (base:=base) T;refine T.z_ZI.F.ok xZ (fun vs H Q E h=>by cases h;subst_vars;rfl) fun Fk A outer s H vs Q E hr h=>?_;obtain ⟨a,is,rfl,hS,kq⟩:=h;have nd:=xZ.nd;have hr13:ar 13 _:=hr;have FF:ar 3 _:=hr13.mono (by omega);have Fm:ar 2 _:=hr13.mono (by omega);refine ⟨_,(ai (aL (i:=1) nd rfl (Or.inl rfl) (ao GDR Fm rfl T.z_ZE (aa (pv 0) ab))) (ai (aL (i:=2) nd rfl (Or.inl rfl) (am sH ah (am bS ah (am bx (ao GN Fm rfl T.z_ZL (aa (pv 1) ab)) ah)))) (ai (aL (i:=3) nd rfl (Or.inl rfl) (am gi (am sH ah (pv 2)) ah)) (ai (aL (i:=4) nd rfl (Or.inl rfl) (ao GM FF rfl T.z_ZM (aa (pv 1) (aa (pv 3) ab)))) (aj (aH (aF (aa (pv 2) (aa (pv 4) (aa (ao GTR hr13 rfl T.z_ZO (aa (pv 1) (aa (pv 3) ab))) ab)))))))))),?_⟩;refine ⟨_,rfl,a,is,rfl,hS,fun d H1 hd s1 Ft=>?_⟩;dsimp only [aK];have hj:=rh is;have ed:dv is (eB is) % 3=((jN is:Nat):Int):=by unfold jN;have:=Int.emod_nonneg (dv is (eB is)) (show (3:Int)≠0 by decide);omega
 have hfu:=xX hj;refine ⟨_,rfl,d,is,_,rfl,Ft,fun H2 b2 Fp=>⟨_,_,rfl,rfl,(by show (0:Int)<3;decide),_,_,rfl,rfl,_,_,rfl,rfl,⟨?_,1,by decide,?_⟩,?_⟩⟩
 ·show (0:Int)<=1+dv is (eB is) % 3;omega
 ·show ((1:Nat):Int)+(1+dv is (eB is) % 3)<=2 ^ 27;omega
 dsimp only [aK];have hse:2 ^ (1+jN is)<=8:=by have:=Nat.pow_le_pow_right (show 0<2 by decide) (show 1+jN is<=3 by omega);exact this
 unfold nA rf at kq;generalize jN is=j at hj ed hfu hse kq;rw [show (1:Int)*2 ^ (1+dv is (eB is) % 3).toNat=((2 ^ (1+j):Nat):Int) by rw [ed,show (1:Int)+((j:Nat):Int)=((1+j:Nat):Int) by omega,Qy];simp];refine ⟨_,rfl,_,_,rfl,rfl,⟨?_,1,by decide,?_⟩,_,_,rfl,rfl,?_⟩
 ·exact Int.natCast_nonneg _
 ·have:((2 ^ (1+j):Nat):Int)<=((8:Nat):Int):=Int.ofNat_le.mpr hse;show ((1:Nat):Int)+((2 ^ (1+j):Nat):Int)<=2 ^ 27;omega
 dsimp only [aK]
 rw [show (1:Int)*2 ^ (((2 ^ (1+j):Nat):Int)).toNat-1=((gO j:Nat):Int) by
  rw [Qy];unfold gO;have:=Nat.one_le_two_pow (n:=2 ^ (1+j))
  rw [Int.natCast_sub this];simp]
 refine ⟨_,rfl,_,rfl,d,is,_,gO j,rfl,Fp,fun H3 b3 Fz=>?_⟩;dsimp only [aK];generalize bL is (dn is (eB is)) (gO j)=rule at kq;generalize bw is (dn is (eB is))=q3 at kq Fz;refine ⟨_,rfl,_,rfl,_,rfl,_,rfl,d,is,q3,gO j,rfl,Fz,fun p H4 g=>?_⟩;obtain ⟨xs,hp,hL⟩:=g.ex;refine ⟨dt,fun t ht=>?_⟩;have s5:=ag (o:=.tup [.int ((2 ^ (1+j):Nat):Int),.int ((rule:Nat):Int),.ref p]) ht;have b:=(b2.trans b3).trans g.bt;exact kq t p xs _ (fun c u e=>s5 _ _ (b.b _ _ (s1 _ _ e) fun z=>by rw [z,hd] at e;cases e)) af (s5 _ _ hp) (hL.keep ⟨fun c zs e=>s5 _ _ (xW e),fun c zs e=>s5 _ _ (xW e)⟩)
mutual
theorem E6 (s:Nat):∀ t:Tr,aA 0 (aA s t)=aA s t
 | .set m r n e=>by simp [aA]
 | .tell m r e=>by simp [aA]
 | .give m r e=>by simp [aA]
 | .kd m r n ps=>by simp [aA]
 | .iff m r e b o=>by rw [aA,aA,cutM_cut s b,cutM_cut s o]
 | .whl m r e b=>by rw [aA,aA,cutM_cut s b]
 | .df m r n k ps b=>by rw [aA,aA,cutM_cut s b]
theorem cutM_cut (s:Nat):∀ ts:List Tr,cutM 0 (cutM s ts)=cutM s ts
 | []=>by simp [cutM]
 | t::ts=>by
  rw [cutM];split
  ·rw [cutM,nz,if_pos (by decide),E6 s t,cutM_cut s ts]
  ·exact cutM_cut s ts
end
mutual
theorem E7 (s:Nat):∀ t:Tr,(aA s t).deep<=t.deep/\(aA s t).cnt<=t.cnt
 | .set m r n e=>by simp [aA,Tr.deep,Tr.cnt]
 | .tell m r e=>by simp [aA,Tr.deep,Tr.cnt]
 | .give m r e=>by simp [aA,Tr.deep,Tr.cnt]
 | .kd m r n ps=>by simp [aA,Tr.deep,Tr.cnt]
 | .iff m r e b o=>by obtain ⟨a1,a3⟩:=cuts_le s b;obtain ⟨b1,b3⟩:=cuts_le s o;simp only [aA,Tr.deep,Tr.cnt];omega
 | .whl m r e b=>by obtain ⟨a1,a3⟩:=cuts_le s b;simp only [aA,Tr.deep,Tr.cnt];omega
 | .df m r n k ps b=>by obtain ⟨a1,a3⟩:=cuts_le s b;simp only [aA,Tr.deep,Tr.cnt];omega
theorem cuts_le (s:Nat):∀ ts:List Tr,deeps (cutM s ts)<=deeps ts/\cnts (cutM s ts)<=cnts ts
 | []=>by simp [cutM]
 | t::ts=>by obtain ⟨a1,a3⟩:=E7 s t;obtain ⟨b1,b3⟩:=cuts_le s ts;rw [cutM];split<;>simp only [deeps,cnts]<;>omega
end
theorem nB (s:Nat) (ts:List Tr):subs 1 (cutM s ts):=fun t ht=>by obtain ⟨u,_,_,rfl⟩:=gB.mp ht;rw [nz];rfl
mutual
theorem E8 (s:Nat):∀ t:Tr,t.asc->(aA s t).asc
 | .set m r n e,h=>by rw [aA];exact h
 | .tell m r e,h=>by rw [aA];exact h
 | .give m r e,h=>by rw [aA];exact h
 | .kd m r n ps,h=>by rw [aA];exact h
 | .iff m r e b o,h=>by rw [aA];exact ⟨h.1,⟨Qq (jJ s b) h.2.1.1,nB s b,cuts_asc s b h.2.1.2.2⟩,Qq (jJ s o) h.2.2.1,nB s o,cuts_asc s o h.2.2.2.2⟩
 | .whl m r e b,h=>by rw [aA];exact ⟨h.1,Qq (jJ s b) h.2.1,nB s b,cuts_asc s b h.2.2.2⟩
 | .df m r n k ps b,h=>by rw [aA];exact ⟨h.1,Qq (jJ s b) h.2.1,nB s b,cuts_asc s b h.2.2.2⟩
theorem cuts_asc (s:Nat):∀ ts:List Tr,ascs ts->ascs (cutM s ts)
 | [],_=>by rw [cutM];trivial
 | t::ts,h=>by
  rw [cutM];split
  ·rename_i hb;refine ⟨⟨by rw [nz];exact ⟨by decide,by decide⟩,by rw [il];exact h.1.2⟩,E8 s t h.2.1,fun u hu=>?_,cuts_asc s ts h.2.2.2⟩;obtain ⟨x,hx,hxb,rfl⟩:=gB.mp hu;obtain ⟨g1,g2⟩:=h.2.2.1 x hx;refine ⟨by rw [il,il];exact g1,fun e=>?_⟩;rw [il,il] at e;have:=lT (g2 e) hb;rw [hxb] at this;cases this
  ·exact cuts_asc s ts h.2.2.2
end
theorem iB.cut {ts:List Tr} (h:iB ts) (s:Nat):iB (cutM s ts):=by obtain ⟨h1,h2,h3,h4⟩:=h;obtain ⟨a1,a3⟩:=cuts_le s ts;exact ⟨by omega,Qq (jJ s ts) h2,cuts_asc s ts h3,by omega⟩
inductive kZ (K:W.Frag) (vs:List V) (H:Hp) (Q:VK) (E:XK):Prop
 | mk:∀ (a:Addr) (ns:List Int),vs=[.ref a]->ak K H a (ns.map V.int)->ns.length<=63->(∀ H',Q (.bl true) H')->kZ K vs H Q E
theorem E9 {rule s:Nat} {ts:List Tr} {D:Dm} (h:cL D (fG rule ts)) (hs:rule.testBit s=true) {es:List (List ae)} (hf:wE (cutM 0 (cutM s ts)) es):(ca (D.map (·.1))).filter (fun k=>((valN D k).getD 0).testBit s)=es:=by
 obtain ⟨f1,f2⟩:=m7 h;obtain ⟨hp,hk,hm⟩:=hf
 have key:∀ r w,kk r w∈(ca (D.map (·.1))).filter (fun k=>((valN D k).getD 0).testBit s)↔kk r w∈es:=fun r w=>by
  rw [List.mem_filter,hm,cutM_cut,h.bit r w s,f2];unfold fG;rw [if_pos hs];constructor
  ·exact fun z=>z.2
  ·exact fun z=>⟨h.mem.mpr ⟨s,by unfold fG;rw [if_pos hs];exact z⟩,z⟩
 refine uj (f1.sublist List.filter_sublist) hp fun k=>⟨fun Fo=>?_,fun Fo=>?_⟩
 ·obtain ⟨r,w,rfl⟩:=h.k2 k ((f2 k).mp (List.mem_filter.mp Fo).1);exact (key r w).mp Fo
 ·obtain ⟨r,w,rfl⟩:=hk k Fo;exact (key r w).mpr Fo
theorem ya {rule:Nat} {ts:List Tr} {D:Dm} (h:cL D (fG rule ts)):∀ k∈ca (D.map (·.1)),(∃ r w,k=kk r w)/\0<(valN D k).getD 0/\(valN D k).getD 0 &&& rule=(valN D k).getD 0:=fun k hk=>by
 have hk:=(m7 h).2 k |>.mp hk
 obtain ⟨r,w,rfl⟩:=h.k2 k hk;refine ⟨⟨r,w,rfl⟩,?_,?_⟩
 ·obtain ⟨s,hs⟩:=h.mem.mp hk;have:=(h.bit r w s).mpr hs;refine Nat.pos_of_ne_zero fun z=>?_;rw [z,Nat.zero_testBit] at this;cases this
 ·refine Nat.eq_of_testBit_eq fun s=>?_;rw [Nat.testBit_and]
  cases e:((valN D (kk r w)).getD 0).testBit s with
  | false=>rfl
  | true =>
   have:=(h.bit r w s).mp e;unfold fG at this;split at this
   ·rename_i z;rw [z];rfl
   ·exact this.elim
structure LI (H:Hp) (p p2:Addr) (xs ys:List V) (ts:List Tr) (D:Dm):Prop where
 t:H p=some (.lst xs)
 l:LAt H true xs ts
 f:H p2=some (.lst ys)
 k:bP H ys (iA D)
theorem LI.kept {H H':Hp} {p p2:Addr} {xs ys:List V} {ts:List Tr} {D:Dm} (h:LI H p p2 xs ys ts D) (s:bo H H'):LI H' p p2 xs ys ts D :=
 ⟨s.2 _ _ h.t,h.l.kept s,s.2 _ _ h.f,gJ h.k s.1⟩
noncomputable abbrev yb:List Str:=["_law_script","_law_settings_of","_law_rule","_law_tree_here","_law_found","_law_s"]
theorem yc:aT yb ["_law_script"] (aI mF):=by decide +kernel
theorem Fa (T:All P w K mg AA DD) {f:Addr} {fd:FuncData} (F:jZ K "law" "law" mF f fd):aB P w K mg base aE 60 f fd ["_law_script"] (kZ K):=by
 have GBU:=E5 (base:=base) T;have GS:=wD (base:=base) T;have GPK:=DV (base:=base) T;have GCT:=xT (base:=base) T 5;have GSO:=E3 (base:=base) T;refine F.ok yc (fun vs H Q E h=>by cases h;subst_vars;rfl) fun Fk A outer s H vs Q E hr h=>?_;obtain ⟨a,is,rfl,hS,Fj,kq⟩:=h;have nd:=yc.nd;have hu:=hr.units;have hrP:ar 40 _:=hr.mono (by decide);have hrS:ar 39 _:=hr.mono (by decide);have hrC:ar 6 _:=hr.mono (by decide);have hr14:ar 14 _:=hr.mono (by decide);have Fw:ar 1 _:=hr.mono (by decide);refine ⟨_,(ai (yH (ao GBU hr14 rfl T.z_ZI (aa (pv 0) ab)) (c8 rfl (bm (a8 (i:=1) nd rfl (Or.inl rfl)) (bm (a8 (i:=2) nd rfl (Or.inl rfl)) (bm (a8 (i:=3) nd rfl (Or.inl rfl)) cQ))))) (ai (aL (i:=4) nd rfl (Or.inl rfl) (ao GS hrS rfl T.z_Zn (aa (pv 3) (aa (pv 2) ab)))) (ai (aX (PW.pt (gf (lg (fc (ao GSO Fw rfl T.z_Zx (aa (pv 4) (aa (pv 2) ab))))) (jM (aN (uy hu) (pv 3) (aO (ao GBU hr14 rfl T.z_ZI (aa (pv 0) ab))) (aQ _))))) (aj (aH gP)) bb) (ai (cY PassesOwn.never rfl (iL rfl T.n_range (aa (pv 1) ab)) (a8 (i:=5) nd rfl (Or.inr rfl)) (aj (aX (aN bp (am fe (am nP (pv 2) (pv 5)) ah) ah (aQ _)) (aj (aX (aN (uy hu) (fQ (aI mF) yb ["_law_s"] [5] rfl (by decide +kernel) rfl rfl (cz (pv 4)) (fun _ _ _ _=>hW (aN bp (am fe (am nP (aO (pv 0)) (pv 1)) ah) ah (aQ _))) (fun _ _ _ _=>(fj iq (pv 0) (fi ah) fh))) (ao GPK hrP rfl T.z_Zq (aa (ao GCT hrC rfl T.z_ZW (aa (pv 3) (aa (pv 5) ab))) ab)) (aQ _)) (aj (aH gP)) bb)) bb)) (by intro _;rfl)) (aj (aH gP)))))),?_⟩;dsimp only [fP];refine ⟨_,rfl,a,is,rfl,hS,fun t p xs H1 s1 ht hp hL=>?_⟩;have hmok:iB (nA is):=EQ (xX (rh is))
 have hse:2 ^ (1+jN is)<=8:=by
  have:=Nat.pow_le_pow_right (show 0<2 by decide) (show 1+jN is<=3 by have:=rh is;omega);exact this
 refine ⟨t,_,rfl,au.of ht,rfl,_,_,rfl,_,_,rfl,_,_,rfl,rfl,?_⟩;dsimp only [nH,aK,rq];generalize hts:nA is=ts at hL hmok;generalize rf is=rule;generalize 2 ^ (1+jN is)=se at hse;obtain ⟨hd5,hl40,hasc2,hcn⟩:=id hmok;refine ⟨_,rfl,_,rfl,p,xs,ts,rule,rfl,hp,hL,hmok,fun p2 ys D H2 l2 Hu hT hF=>?_⟩;dsimp only [aK];have hD:=m7 hF;have hDl:=hF.len;have FT:=qG (D.map (·.1));rw [Qe] at FT
 have li2:LI H2 p p2 xs ys ts D:=⟨l2.2 _ _ hp,hL.kept l2,Hu,hT⟩
 refine gv (fun σ' H'=>σ'=[some (.ref a),some (.int ((se:Nat):Int)),some (.int ((rule:Nat):Int)),some (.ref p),some (.ref p2),none]/\LI H' p p2 xs ys ts D) (fun R hR=>?_) ?_
 ·refine ⟨_,rfl,_,rfl,p2,ys,ca (List.map (fun q:List ae × Nat=>q.1) D),fun k=>(valN D k).getD 0,rule,rfl,Hu,hT,hD.1,ya hF,by omega,fun H3 s3=>?_⟩;refine ⟨_,rfl,bN rfl ?_⟩;have li3:=li2.kept s3.ls;refine ⟨_,rfl,_,rfl,a,is,rfl,s3.seq (l2.seq (s1.seq hS)),fun t3 p3 xs3 H4 s4 Hh GV hL3=>?_⟩;rw [hts] at hL3;have li4:=li3.kept s4.ls;refine ⟨t3,_,_,_,rfl,rfl,au.of Hh,bn (j:=2) rfl,p,p3,xs,xs3,rfl,rfl,li4.t,GV,Ca 15 _ _ _ hasc2 (by omega) li4.l hL3,_,rfl,?_⟩;exact cS (hR _ _ ⟨rfl,li4⟩)
 ·rintro σ' H3 ⟨rfl,li3⟩;refine ic (fun σ' H'=>True) (fun R hR=>?_) ?_
  ·refine ⟨_,rfl,_,rfl,?_,?_,?_⟩
   ·show _<=((se:Nat):Int);omega
   ·show ((se:Nat):Int)<_;omega
   rw [Qy];refine nK (D:=⟨R,_,R,R⟩) (fun i σ' H'=>LI H' p p2 xs ys ts D/\∃ x6,σ'=[some (.ref a),some (.int ((se:Nat):Int)),some (.int ((rule:Nat):Int)),some (.ref p),some (.ref p2),x6]) ⟨li3,_,rfl⟩ ?_ ?_
   ·rintro i σ' H4 hi ⟨li,x6,rfl⟩;rw [Int.zero_add];refine ⟨_,rfl,_,rfl,_,_,rfl,rfl,(by show (0:Int)<=((i:Nat):Int);omega),_,_,rfl,rfl,rfl,_,rfl,?_⟩;dsimp only;rw [rc];by_cases hb:rule.testBit i=true
    ·refine cu hb ?_;refine ⟨_,rfl,p2,rfl,⟨_,ak.of li.f⟩,?_⟩;have Gc:ys.length=(ca (List.map (fun q:List ae × Nat=>q.1) D)).length:=by have:=li.k.1;unfold iA at this;rw [Qe] at this;exact this
     have Fg:=ya hF;have hfi:=fun {es:List (List ae)}=>E9 (es:=es) hF hb;generalize hks:ca (List.map (fun q:List ae × Nat=>q.1) D)=ks at Gc FT Fg hfi;refine j1 (K:=K0) (a:=p2) (xs:=ys) (fun j zs H'=>Same H4 H'/\zs.length<=j/\bP H' zs ((ks.take j).filter fun k=>((valN D k).getD 0).testBit i)) ⟨Same.refl _,Qc _,qD⟩ (fun j zs H' _ h=>ak.of (h.1 _ _ li.f)) ?_ ?_
     ·rintro j x zs H5 hx ⟨s5,hzl,hTz⟩;obtain ⟨hj,ex⟩:=Qh hx;have hjk:j<ks.length:=by omega
      obtain ⟨t,rfl,ht⟩:=li.k.2 j x (.inl (((valN D ks[j]).getD 0:Nat):Int)::ks[j]) hx (by unfold iA;rw [hks,Qu,Qa hjk];rfl);have ht:=s5 _ _ ht;obtain ⟨⟨r,w1,ek⟩,_,_⟩:=Fg ks[j] (QB hjk);refine aP 0 rfl ht rfl ⟨_,rfl,_,_,rfl,rfl,(by show (0:Int)<=((i:Nat):Int);omega),_,_,rfl,rfl,rfl,_,rfl,?_⟩;rw [rc,Qi hjk,List.filter_append];refine bT (fun G1=>?_) (fun G1=>?_)
      ·rw [List.filter_cons_of_pos (p:=fun k=>((valN D k).getD 0).testBit i) (a:=ks[j]) (l:=[]) G1,List.filter_nil];refine ⟨_,rfl,_,rfl,t,_,rfl,au.of ht,?_,fun q hq=>?_⟩
       ·rintro ⟨z,_⟩;rw [ek] at z;simp [HT.sIx,kk] at z
       have sq:=ag (o:=.tup (ks[j].map kV)) hq;refine ⟨by rw [sizeLine_eq];omega,?_⟩;rw [List.map_cons,mJ];exact ⟨s5.trans sq,by simp;omega,qE (gJ hTz sq.tups) (qF af)⟩
      ·rw [List.filter_cons_of_neg (p:=fun k=>((valN D k).getD 0).testBit i) (a:=ks[j]) (l:=[]) G1,List.filter_nil,QO];exact ⟨s5,by omega,hTz⟩
     ·rintro zs H5 ⟨s5,hzl,hTz⟩ pc hpc;rw [Qo (by omega)] at hTz;have sc:=ag (o:=.lst zs) hpc;have hTz:=gJ hTz sc.tups;have li5:=li.kept (s5.trans sc).ls;have hpc1:upd H5 pc (.lst zs) pc=some (.lst zs):=af;generalize upd H5 pc (.lst zs)=H6 at hTz li5 hpc1;refine ⟨_,rfl,_,rfl,p,xs,ts,i,rfl,li5.t,li5.l,hd5,hl40,hasc2,fun p4 ys4 H7 s7 hp40 IC hG=>⟨p4,ys4,cutM i ts,rfl,IC,hG H7 (fun _ _ e=>e) (fun _ _ _ e=>e),hmok.cut i,fun p5 ys5 ks5 H8 l8 hp5 hT5 hf5=>?_⟩⟩;rw [hfi hf5] at hTz;have l68:=s7.ls.trans l8;exact ⟨pc,p5,zs,ys5,rfl,rfl,l68.2 _ _ hpc1,hp5,.tups (gJ hTz l68.1) hT5 _,_,rfl,cS ⟨li5.kept l68,_,rfl⟩⟩
    ·exact bN (by simpa using hb) ⟨li,_,rfl⟩
   ·rintro σ' H4 _;exact hR _ _ trivial
  ·rintro σ' H4 _;exact kq _
end
def FG (K:W.Frag) (n q:Str) (st:Stmt) (ps:List Str):Prop:=∃ f fd,W.nsIn K mainGlobals n=some (some (.ref f))/\FB K n q st ps f fd
def MG (K:W.Frag) (c:Addr) (n q:Str) (st:Stmt) (ps:List Str):Prop:=∃ f fd,W.findIn K (.ref c) n=some (some (.ref f))/\W.isFn K (.ref f)=true/\FB K n q st ps f fd
def DG (P:Program) (w:World) (K:W.Frag) (n:Str) (Fe:List (Str × Str)):Prop:=∃ d,W.nsIn K mainGlobals n=some (some (.ref d))/\ie P w K d Fe
section
variable {K:W.Frag} {n q:Str} {st:Stmt} {ps:List Str} {f c:Addr} {oc kV dc pm cd ct:Value} {od an:Option Addr} {sl:Array (Option Value)}
theorem fb (l:K.lookup f=some ⟨oc,od,.func (W.fnOf n q (iS st) (gZ st) (aI st) .none kV dc pm an cd ct),sl⟩) (e:W.codeIn K cd q=true) (k:W.keepIn K (.ref f)=true)
  (b:∀ us:List Value,us.length=ps.length->bindArgs (W.fnOf n q (iS st) (gZ st) (aI st) .none kV dc pm an cd ct) ⟨us,[]⟩=pure (ps.zip us)):FB K n q st ps f (W.fnOf n q (iS st) (gZ st) (aI st) .none kV dc pm an cd ct) :=
 ⟨k,z0 l e k,.all b⟩
theorem fg {fd:FuncData} (a:W.nsIn K mainGlobals n=some (some (.ref f))) (b:FB K n q st ps f fd):FG K n q st ps:=⟨f,fd,a,b⟩
theorem mg {fd:FuncData} (a:W.findIn K (.ref c) n=some (some (.ref f))) (i:W.isFn K (.ref f)=true) (b:FB K n q st ps f fd):MG K c n q st ps:=⟨f,fd,a,i,b⟩
end
noncomputable def yd (x:DictEntry):jd:=match x with
 | ⟨_,.str a b,.str c d⟩=>(a,b,c,d)
 | _=>("",0,"",0)
theorem dg {P:Program} {w:World} {K:W.Frag} {n:Str} {Fe:List (Str × Str)} {d:Addr} {ep:Nat} {A:Array DictEntry} (a:W.nsIn K mainGlobals n=some (some (.ref d))) (l:K.lookup d=some ⟨.type "dict",none,.dict A ep,#[]⟩) (s:(d == sysModules)=false)
  (e:A=((A.toList.map yd).map (lJ w)).toArray) (k:(A.toList.map yd).map (fun e=>(e.1,e.2.2.1))=Fe) (nd:(Fe.map (·.1)).Nodup):DG P w K n Fe:=by
 refine ⟨d,a,?_⟩;rw [<- k,List.map_map] at nd;rw [<- k];exact A2 s (by rw [<- e];exact l) nd
theorem Fb {l:W.OpenLaw} {w:World} {K:W.Frag} {h:Heap} {mg:Str->Option Value} {fa c_KindLook q_PLAIN_KINDS:Addr} (X:K.In h) (G:h.Ns mainGlobals mg) (hfa:mg "law"=some (.ref fa))
  {Gp Go:Tok} {GH:Option Addr} {Ha:Nat} {GG:Array (Option Value)}
  (HP:W.nsIn K mainGlobals "KindLook"=some (some (.ref c_KindLook)))
  (g_Z0:FG K "least" "least" o0 ["mask"])
  (g_ZP:FG K "without" "without" o4 ["mask","other"])
  (g_ZX:FG K "all_of" "all_of" o5 ["pairs"])
  (g_Zs:FG K "kept_pairs" "kept_pairs" mj ["pairs","mask"])
  (g_ZY:FG K "add_to" "add_to" o6 ["found","key","mask"])
  (g_Zt:FG K "with_masks" "with_masks" ml ["found"])
  (g_Zy:FG K "kept_tree" "kept_tree" mn ["tree","mask"])
  (g_Zj:FG K "kept_statement" "kept_statement" mo ["one","mask"])
  (g_Zk:FG K "row_and_least" "row_and_least" o7 ["pair"])
  (g_ZA:FG K "shared_of" "shared_of" mr ["tree"])
  (g_Zh:FG K "shared_statement" "shared_statement" mv ["one"])
  (g_ZB:FG K "blocks_of" "blocks_of" mw ["one"])
  (g_Zu:FG K "first_rows" "first_rows" o8 ["tree"])
  (g_ZJ:FG K "pairs_of" "pairs_of" o9 ["one"])
  (g_ZQ:FG K "expr_of" "expr_of" pd ["one"])
  (g_ZK:FG K "exprs_in" "exprs_in" pe ["e"])
  (g_Z3:FG K "unfit" "unfit" mx ["kinds","due"])
  (g_ZC:FG K "is_record" "is_record" ph ["kind"])
  (g_ZZ:FG K "giving" "giving" pz ["body"])
  (g_Zn:FG K "shared_kinds" "shared_kinds" pA ["tree","mask"])
  (g_Zq:FG K "plain_kinds" "plain_kinds" my ["tree"])
  (g_Zr:FG K "_law_cell_at" "_law_cell_at" pB ["_law_script","_law_k"])
  (g_ZD:FG K "_law_mixed" "_law_mixed" pE ["_law_cell","_law_k"])
  (g_ZE:FG K "_law_draws" "_law_draws" pF ["_law_script"])
  (g_ZL:FG K "_law_next" "_law_next" pG ["_law_draws_here"])
  (g_ZF:FG K "_law_names" "_law_names" mz ["_law_draws_here"])
  (g_ZM:FG K "_law_mask" "_law_mask" pH ["_law_draws_here","_law_within"])
  (g_Zv:FG K "_law_number" "_law_number" pI ["_law_draws_here"])
  (g_ZN:FG K "_law_expr" "_law_expr" pJ ["_law_draws_here","_law_known","_law_names_here","_law_deep"])
  (g_ZG:FG K "_law_first" "_law_first" pL ["_law_draws_here","_law_names_here"])
  (g_ZR:FG K "_law_two" "_law_two" pM ["_law_draws_here","_law_at","_law_within","_law_name","_law_one","_law_other"])
  (g_ZS:FG K "_law_row" "_law_row" pN ["_law_draws_here","_law_at","_law_within","_law_known","_law_names_here"])
  (g_ZU:FG K "_law_end" "_law_end" pO ["_law_draws_here","_law_at","_law_within","_law_known","_law_names_here"])
  (g_ZV:FG K "_law_def" "_law_def" pP ["_law_draws_here","_law_at","_law_mask_here","_law_param","_law_names_here"])
  (g_Zw:FG K "_law_fields" "_law_fields" mB ["_law_draws_here"])
  (g_ZH:FG K "_law_heads" "_law_heads" pQ ["_law_draws_here","_law_full","_law_names_here"])
  (g_ZO:FG K "_law_tree" "_law_tree" pR ["_law_draws_here","_law_full"])
  (g_ZW:FG K "_law_cut" "_law_cut" pS ["_law_block","_law_s"])
  (g_Zx:FG K "_law_sorted" "_law_sorted" pT ["_law_found","_law_rule"])
  (g_ZI:FG K "_law_built" "_law_built" pU ["_law_script"])
  (g_Zl:MG K c_KindLook "__init__" "KindLook.__init__" pV ["self","tree"])
  (g_Zm:MG K c_KindLook "note" "KindLook.note" pW ["self","mask","at","what"])
  (g_Zb:MG K c_KindLook "look_body" "KindLook.look_body" pX ["self","statements","names","due"])
  (g_Zd:MG K c_KindLook "look_def" "KindLook.look_def" mC ["self","mask","one"])
  (g_Ze:MG K c_KindLook "look_row" "KindLook.look_row" mD ["self","one","kinds","names","due"])
  (g_Zf:MG K c_KindLook "look_set" "KindLook.look_set" pY ["self","one","kinds","names"])
  (g_Zp:MG K c_KindLook "ask" "KindLook.ask" pZ ["self","mask","e","due","at","names"])
  (g_Zg:MG K c_KindLook "kinds_of" "KindLook.kinds_of" ku ["self","mask","e","at","names"])
  (g_Zc:MG K c_KindLook "used_rows" "KindLook.used_rows" p6 ["self","mask","e","word","at","names"])
  (g_Za:MG K c_KindLook "field_kinds" "KindLook.field_kinds" mE ["self","mask","kind","field","at"])
  (g_law:FG K "law" "law" mF ["_law_script"])
  (Gh:W.plainGet K c_KindLook Str.empty=true)
  (Gi:W.hasDictIn K c_KindLook=true)
  (Gg:W.plainOver K c_KindLook=true)
  (Gf:W.findIn K (.ref c_KindLook) "__setattr__"=some (some (.builtin "object.__setattr__")))
  (HM:W.makesIn K c_KindLook=true)
  (HN:W.keepIn K (.ref c_KindLook)=true)
  (na_KindLook_faults:W.findIn K (.ref c_KindLook) "faults"=some none)
  (na_KindLook_firsts:W.findIn K (.ref c_KindLook) "firsts"=some none)
  (HL:W.findIn K (.ref c_KindLook) "__class__"=some (some (.builtin "object.__class__")))
  (HK:W.specialIn K (.builtin "object.__class__") "__get__"=some (some (.builtin "getset_descriptor.__get__")))
  (HJ:W.takesIn K (.builtin "object.__class__")=some true)
  (HI:W.mroIn K c_KindLook (.type "object")=some true)
  (g_MAKES:DG l.prog w K "MAKES" [("num","num"),("truth","truth"),("+","num"),("-","num"),("*","num"),("less","truth"),("same","truth"),("and","truth"),("or","truth"),("not","truth")])
  (g_ASKS:DG l.prog w K "ASKS" [("+","num"),("-","num"),("*","num"),("less","num"),("same","num"),("and","truth"),("or","truth"),("not","truth")])
  (Hc:W.nsIn K mainGlobals "PLAIN_KINDS"=some (some (.ref q_PLAIN_KINDS)))
  (Hb:K.lookup q_PLAIN_KINDS=some ⟨.type "tuple",GH,.seq #[.str "num" Gp,.str "truth" Go] Ha,GG⟩)
  (z_len:W.nsIn K mainGlobals "len"=some none)
  (z_range:W.nsIn K mainGlobals "range"=some none)
  (z_list:W.nsIn K mainGlobals "list"=some none)
  (z_dict:W.nsIn K mainGlobals "dict"=some none)
  (z_tuple:W.nsIn K mainGlobals "tuple"=some none)
  (JE:W.nsIn K mainGlobals "sorted"=some none)
  (Hn:W.nsIn K mainGlobals "isinstance"=some none)
  (z_zip:W.nsIn K mainGlobals "zip"=some none)
  (z_int:W.nsIn K mainGlobals "int"=some none)
  (z_bool:W.nsIn K mainGlobals "bool"=some none)
  (z_abs:W.nsIn K mainGlobals "abs"=some none)
  :
  ∃ fd:FuncData,(∀ (s:Shared) (v:Value),BindsTo s fd ⟨[v],[]⟩ [("_law_script",v)])/\∀ base:Heap,K.In base->base.Ns mainGlobals mg->aB l.prog w K mg base aE 60 fa fd ["_law_script"] (kZ K):=by
 obtain ⟨_,_,a_Z0,u_Z0⟩:=g_Z0;obtain ⟨_,_,a_ZP,u_ZP⟩:=g_ZP;obtain ⟨_,_,a_ZX,u_ZX⟩:=g_ZX;obtain ⟨_,_,a_Zs,u_Zs⟩:=g_Zs;obtain ⟨_,_,a_ZY,u_ZY⟩:=g_ZY;obtain ⟨_,_,a_Zt,u_Zt⟩:=g_Zt;obtain ⟨_,_,a_Zy,u_Zy⟩:=g_Zy;obtain ⟨_,_,a_Zj,u_Zj⟩:=g_Zj;obtain ⟨_,_,a_Zk,u_Zk⟩:=g_Zk;obtain ⟨_,_,a_ZA,u_ZA⟩:=g_ZA;obtain ⟨_,_,a_Zh,u_Zh⟩:=g_Zh;obtain ⟨_,_,a_ZB,u_ZB⟩:=g_ZB;obtain ⟨_,_,a_Zu,u_Zu⟩:=g_Zu;obtain ⟨_,_,a_ZJ,u_ZJ⟩:=g_ZJ;obtain ⟨_,_,a_ZQ,u_ZQ⟩:=g_ZQ;obtain ⟨_,_,a_ZK,u_ZK⟩:=g_ZK;obtain ⟨_,_,a_Z3,u_Z3⟩:=g_Z3;obtain ⟨_,_,a_ZC,u_ZC⟩:=g_ZC;obtain ⟨_,_,a_ZZ,u_ZZ⟩:=g_ZZ;obtain ⟨_,_,a_Zn,u_Zn⟩:=g_Zn;obtain ⟨_,_,a_Zq,u_Zq⟩:=g_Zq;obtain ⟨_,_,a_Zr,u_Zr⟩:=g_Zr;obtain ⟨_,_,a_ZD,u_ZD⟩:=g_ZD;obtain ⟨_,_,a_ZE,u_ZE⟩:=g_ZE;obtain ⟨_,_,a_ZL,u_ZL⟩:=g_ZL;obtain ⟨_,_,a_ZF,u_ZF⟩:=g_ZF;obtain ⟨_,_,a_ZM,u_ZM⟩:=g_ZM;obtain ⟨_,_,a_Zv,u_Zv⟩:=g_Zv;obtain ⟨_,_,a_ZN,u_ZN⟩:=g_ZN;obtain ⟨_,_,a_ZG,u_ZG⟩:=g_ZG;obtain ⟨_,_,a_ZR,u_ZR⟩:=g_ZR;obtain ⟨_,_,a_ZS,u_ZS⟩:=g_ZS;obtain ⟨_,_,a_ZU,u_ZU⟩:=g_ZU;obtain ⟨_,_,a_ZV,u_ZV⟩:=g_ZV;obtain ⟨_,_,a_Zw,u_Zw⟩:=g_Zw;obtain ⟨_,_,a_ZH,u_ZH⟩:=g_ZH;obtain ⟨_,_,a_ZO,u_ZO⟩:=g_ZO;obtain ⟨_,_,a_ZW,u_ZW⟩:=g_ZW;obtain ⟨_,_,a_Zx,u_Zx⟩:=g_Zx;obtain ⟨_,_,a_ZI,u_ZI⟩:=g_ZI;obtain ⟨_,_,a_Zl,i_Zl,u_Zl⟩:=g_Zl;obtain ⟨_,_,a_Zm,i_Zm,u_Zm⟩:=g_Zm;obtain ⟨_,_,a_Zb,i_Zb,u_Zb⟩:=g_Zb;obtain ⟨_,_,a_Zd,i_Zd,u_Zd⟩:=g_Zd;obtain ⟨_,_,a_Ze,i_Ze,u_Ze⟩:=g_Ze;obtain ⟨_,_,a_Zf,i_Zf,u_Zf⟩:=g_Zf;obtain ⟨_,_,a_Zp,i_Zp,u_Zp⟩:=g_Zp;obtain ⟨_,_,a_Zg,i_Zg,u_Zg⟩:=g_Zg;obtain ⟨_,_,a_Zc,i_Zc,u_Zc⟩:=g_Zc;obtain ⟨_,_,a_Za,i_Za,u_Za⟩:=g_Za;obtain ⟨_,_,a_law,u_law⟩:=g_law;obtain ⟨_,a_MAKES,D_MAKES⟩:=g_MAKES;obtain ⟨_,a_ASKS,D_ASKS⟩:=g_ASKS;have e:=hfa.symm.trans (W.mg_of X G a_law);cases e
 have T:All l.prog w K mg ⟨_,_,_,_,_,_,_,_,_,_,_,_,_,_,_,_,_,_,_,_,_,_,_,_,_,_,_,_,_,_,_,_,_,_,_,_,_,_,_,_,_,_,_,_,_,_,_,_,_,_,_,_,_,_⟩ ⟨_,_,_,_,_,_,_,_,_,_,_,_,_,_,_,_,_,_,_,_,_,_,_,_,_,_,_,_,_,_,_,_,_,_,_,_,_,_,_,_,_,_,_,_,_,_,_,_,_,_⟩:=⟨⟨u_Z0,W.mg_of X G a_Z0⟩,
  ⟨u_ZP,W.mg_of X G a_ZP⟩,
  ⟨u_ZX,W.mg_of X G a_ZX⟩,
  ⟨u_Zs,W.mg_of X G a_Zs⟩,
  ⟨u_ZY,W.mg_of X G a_ZY⟩,
  ⟨u_Zt,W.mg_of X G a_Zt⟩,
  ⟨u_Zy,W.mg_of X G a_Zy⟩,
  ⟨u_Zj,W.mg_of X G a_Zj⟩,
  ⟨u_Zk,W.mg_of X G a_Zk⟩,
  ⟨u_ZA,W.mg_of X G a_ZA⟩,
  ⟨u_Zh,W.mg_of X G a_Zh⟩,
  ⟨u_ZB,W.mg_of X G a_ZB⟩,
  ⟨u_Zu,W.mg_of X G a_Zu⟩,
  ⟨u_ZJ,W.mg_of X G a_ZJ⟩,
  ⟨u_ZQ,W.mg_of X G a_ZQ⟩,
  ⟨u_ZK,W.mg_of X G a_ZK⟩,
  ⟨u_Z3,W.mg_of X G a_Z3⟩,
  ⟨u_ZC,W.mg_of X G a_ZC⟩,
  ⟨u_ZZ,W.mg_of X G a_ZZ⟩,
  ⟨u_Zn,W.mg_of X G a_Zn⟩,
  ⟨u_Zq,W.mg_of X G a_Zq⟩,
  ⟨u_Zr,W.mg_of X G a_Zr⟩,
  ⟨u_ZD,W.mg_of X G a_ZD⟩,
  ⟨u_ZE,W.mg_of X G a_ZE⟩,
  ⟨u_ZL,W.mg_of X G a_ZL⟩,
  ⟨u_ZF,W.mg_of X G a_ZF⟩,
  ⟨u_ZM,W.mg_of X G a_ZM⟩,
  ⟨u_Zv,W.mg_of X G a_Zv⟩,
  ⟨u_ZN,W.mg_of X G a_ZN⟩,
  ⟨u_ZG,W.mg_of X G a_ZG⟩,
  ⟨u_ZR,W.mg_of X G a_ZR⟩,
  ⟨u_ZS,W.mg_of X G a_ZS⟩,
  ⟨u_ZU,W.mg_of X G a_ZU⟩,
  ⟨u_ZV,W.mg_of X G a_ZV⟩,
  ⟨u_Zw,W.mg_of X G a_Zw⟩,
  ⟨u_ZH,W.mg_of X G a_ZH⟩,
  ⟨u_ZO,W.mg_of X G a_ZO⟩,
  ⟨u_ZW,W.mg_of X G a_ZW⟩,
  ⟨u_Zx,W.mg_of X G a_Zx⟩,
  ⟨u_ZI,W.mg_of X G a_ZI⟩,
  ⟨HM,a_Zl,i_Zl,HN⟩,
  u_Zl,
  ⟨a_Zm,i_Zm,u_Zm.k⟩,
  u_Zm,
  ⟨a_Zb,i_Zb,u_Zb.k⟩,
  u_Zb,
  ⟨a_Zd,i_Zd,u_Zd.k⟩,
  u_Zd,
  ⟨a_Ze,i_Ze,u_Ze.k⟩,
  u_Ze,
  ⟨a_Zf,i_Zf,u_Zf.k⟩,
  u_Zf,
  ⟨a_Zp,i_Zp,u_Zp.k⟩,
  u_Zp,
  ⟨a_Zg,i_Zg,u_Zg.k⟩,
  u_Zg,
  ⟨a_Zc,i_Zc,u_Zc.k⟩,
  u_Zc,
  ⟨a_Za,i_Za,u_Za.k⟩,
  u_Za,
  W.mg_of X G HP,
  ⟨Gh,Gi,Gg,Gf⟩,
  na_KindLook_faults,
  na_KindLook_firsts,
  fun H a dx fs e=>.ins e ⟨Gh,Gi,Gg,Gf⟩ HL HK HJ HI,
  Ae _ _,
  W.mg_of X G a_MAKES,
  D_MAKES,
  W.mg_of X G a_ASKS,
  D_ASKS,
  W.mg_of X G Hc,
  fun H=>.inr ⟨_,_,_,Hb,rfl,rfl,aM,.cons ⟨_,rfl⟩ (.cons ⟨_,rfl⟩ (.nil))⟩,
  W.mg_none_of X G z_len,
  W.mg_none_of X G z_range,
  W.mg_none_of X G z_list,
  W.mg_none_of X G z_dict,
  W.mg_none_of X G z_tuple,
  W.mg_none_of X G JE,
  W.mg_none_of X G Hn,
  W.mg_none_of X G z_zip,
  W.mg_none_of X G z_int,
  W.mg_none_of X G z_bool,
  W.mg_none_of X G z_abs⟩
 obtain ⟨_,_,_,_,_,_,_,_,_,e,_⟩:=u_law.F.ex;exact ⟨_,fun s v=>by rw [e];exact .of_eq rfl,fun base _ _=>Fa T u_law.F⟩
theorem Fc {l:W.OpenLaw} {q:Program} {loose:List Str} {XP:(Str->Option Value)->Heap->Prop} {YP:World->Heap->Prop} {d:DefRec} {K:Params->W.Frag} (hn:l.most=some 63) (hdf:d.params.defaults=[])
  (hY:∀ (w:World) (h:Heap),YP w h->(K w.params).In h)
  (F:∀ (w:World) (mg:Str->Option Value) (fa:Addr) (h:Heap),(K w.params).In h->h.Ns mainGlobals mg->mg d.name=some (.ref fa) ->
   ∃ fd:FuncData,(∀ (s:Shared) (u:Value),BindsTo s fd ⟨[u],[]⟩ [("_law_script",u)])/\∀ base:Heap,(K w.params).In base->base.Ns mainGlobals mg->aB l.prog w (K w.params) mg base aE 60 fa fd ["_law_script"] (kZ (K w.params))) :
  W.WalkO q loose XP YP l.row.toRowW d [] (fun f vs=>PySem.call f vs) :=
 L2.zZ (n:=63) (k:=60) (x:="_law_script") (CX:=fun _=>aE) (sp:=fun w=>kZ (K w.params)) hn (by decide) hdf ⟨rfl,by decide,by decide⟩ hY F (fun _ _ a ns hl _ hS=>⟨a,ns,rfl,hS,hl,fun _=>rfl⟩) fun _ _ _ _ _ z=>z
end K47
open PySem PySem.W PyProof.Rows
set_option maxRecDepth 100000 in
set_option maxHeartbeats 0 in
theorem PySem.Challenge.cw_manymakes_k47_whole_shared_kinds_cut_holds : PySem.Challenge.rw_manymakes_k47_whole_shared_kinds_cut.Holds := by
 rw [<- K47.rwe]
 w_on;o_law
 refine PySem.W.holds_open (r:=OpenLaw.row K47.rw) (q:=K47.vw) (loose:=["MAKES","ASKS"]) (Xt:=K47.xt) (XP:=XL K47.vw [])
  (Yf:=(kHook K47.pre.heap_1 K47.as K47.ase).obs) (Ya:=(kHook K47.pre.heap_1 K47.as K47.ase).val) (YP:=(kHook K47.pre.heap_1 K47.as K47.ase).says)
  (N:=4350) (show LeftO K47.pw _ _ _ _ _ _ from K47.pwe ▸ K47.left)
  ((kHook K47.pre.heap_1 K47.as K47.ase).of) ((kHook K47.pre.heap_1 K47.as K47.ase).keeps) (fun s e=>xl_of s (Mm.both_true e).1)
  (XL.keeps) (by rfl) (by rfl) (by rfl) (fun s e=>recFacts_of (Mm.both_true e).2)
  (by rfl) (by assumption) (by decide +kernel)
  ⟨rfl,rfl,rfl,rfl,rfl,by decide +kernel⟩ ?hw ?hc
 (case hw=>exact ⟨[.list []],by decide +kernel,by decide +kernel⟩)
 k_fill
 refine K47.Fc (l:=K47.rw) rfl rfl (fun w h Y=>PySem.W.kIn_of Y) ?F
 case F =>
  intro w mg fa h KX G hmg;apply K47.Fb KX G hmg
  all_goals first | (apply K47.fg;k_is;apply K47.fb;k_is;k_is;k_is;intro us hl;(rcases us with _ | ⟨_,_ | ⟨_,_ | ⟨_,_ | ⟨_,_ | ⟨_,_ | ⟨_,_ | ⟨_,_ | ⟨_,_ | _⟩⟩⟩⟩⟩⟩⟩⟩)<;>first | (simp at hl;done) | rfl) | (apply K47.mg;k_is;k_is;apply K47.fb;k_is;k_is;k_is;intro us hl;(rcases us with _ | ⟨_,_ | ⟨_,_ | ⟨_,_ | ⟨_,_ | ⟨_,_ | ⟨_,_ | ⟨_,_ | ⟨_,_ | _⟩⟩⟩⟩⟩⟩⟩⟩)<;>first | (simp at hl;done) | rfl) | (apply K47.dg;k_is;k_is;all_goals first | rfl | decide +kernel) | k_is
